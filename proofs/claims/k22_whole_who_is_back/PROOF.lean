import PyProof.Rows.All
import Wide.All
import OpenK.AllK
import Wide.FinOn
import Lean
import PyProof.EqAt
import PyProof.EqKinds
import PyProof.TupleCall
import PyProof.NeData
import KE.IntBitsLaws
import PyProof.SetRoads
import KE.KDictList
import PyProof.Rows.SortShell
import PyProof.Rows.SortRuns
import PyProof.Rows.Walk
import KE.KStateDown
import KE.KSortTup
import KE.KLam
import KE.KNestM
import PySem.Challenge.RW_crookroad_k22_whole_who_is_back
set_option maxHeartbeats 0
set_option Elab.async false
set_option linter.all false
set_option maxRecDepth 100000
local macro_rules|`(tactic|lia)=>`(tactic|first|lia +splitIte|omega)
local macro_rules|`(⋯)=>`(by first|decide|lia)
local macro_rules|`(tactic|walk_at "iv")=>`(tactic|first|exact .inl rfl|exact .inr rfl|assumption)
local macro_rules|`(tactic|walk_at "vs")=>`(tactic|first|exact Or.inl rfl|exact Or.inr (Or.inl rfl)|exact Or.inr (Or.inr rfl))
def aa:=@List.getElem?_eq_getElem
def ae:=@PySem.wpAny_bind
def af:=@List.getD_eq_getElem?_getD
def ag:=@List.length_map
def ai:=@PySem.Heap.get?_push_of_some
def aj:=@PySem.wpAny_pure
def ak:=@List.getElem?_eq_some_iff
def al:=@Nat.le_refl
def am:=@List.length_append
def ao:=@PySem.Heap.lt_size
def aq:=@Option.some.inj
def ar:=@if_neg
def au:=@Int.mul_le_mul_of_nonneg_right
def av:=@List.size_toArray
def aw:=@if_pos
def ax:=@PyProof.Rows.wpS_bind
def ay:=@List.mem_range
def az:=@List.getElem?_append_right
def aA:=@List.getElem?_map
def aB:=@PyProof.Rows.wpS_pure
def aC:=@List.mem_of_getElem?
def aD:=@List.map_cons
def aE:=@Nat.ne_of_lt
def aF:=@PySem.Heap.get?_push_size
def aG:=@List.length_range
def aH:=@List.mem_singleton
def aI:=@Bool.false_eq_true
def aJ:=@List.mem_map
def aK:=@Bool.false_ne_true
def aL:=@Array.getElem?_toList
def aM:=@List.mem_cons
def aN:=@List.mem_append_right
def aO:=@Nat.lt_of_lt_of_le
def aP:=@List.getElem?_append_left
def aQ:=@List.length_cons
def aR:=@List.getElem?_eq_none
def aS:=@decide_eq_true
def aT:=@Nat.zero_le
def aU:=@List.mem_append
def aV:=@Int.mul_le_mul_of_nonneg_left
def aW:=@List.map_append
def aX:=@List.append_assoc
def aY:=@List.length_take
def aZ:=@List.pairwise_append
def ba:=@List.map_map
def bb:=@decide_eq_false
def be:=@Nat.lt_irrefl
def bf:=@Array.length_toList
def bg:=@Int.mul_nonneg
def bh:=@PySem.PassesOwn.leaving
def bi:=@PySem.wpAny_mono
def bj:=@Int.one_mul
def bn:=@List.take_length
def bo:=@Nat.lt_or_ge
def bp:=@List.getElem?_range
def br:=@List.pairwise_iff_getElem
def bu:=@Nat.le_of_lt
def bv:=@Nat.lt_trans
def bw:=@Int.mul_le_mul
def bz:=@PySem.W.mg_none_of
def bA:=@List.lookup_cons
def bB:=@PySem.F.plainAttrs_list
def bC:=@Int.mul_comm
def bD:=@Int.lt_or_le
def bE:=@Array.getElem?_eq_getElem
def bF:=@Int.add_mul
def bG:=@PySem.F.slot_list_append
def bH:=@PySem.F.type_list_append
def bI:=@List.mem_cons_of_mem
def bJ:=@List.getElem_mem
def bK:=@PySem.wpAny_setState_of
def bL:=@List.range_succ
def bM:=@Nat.le_trans
def bN:=@if_false
def bO:=@Array.toList_append
def bP:=@PySem.Heap.get?_update_ne
def bQ:=@Int.eq_of_mul_eq_mul_left
def bR:=@List.append_nil
def bS:=@List.getElem?_of_mem
def bT:=@List.ext_getElem?
def bU:=@PySem.boot_len
def bV:=@Int.emod_lt_of_pos
def bW:=@List.sum_cons
def bX:=@Array.getD_eq_getD_getElem?
def bY:=@Int.toNat_of_nonneg
def bZ:=@List.length_drop
def b7:=@List.pairwise_singleton
def b8:=@Int.toNat_natCast
def b9:=@PySem.W.mg_of
def ca:=@List.mem_append_left
def cf:=@Int.le_of_mul_le_mul_left
def cg:=@PyProof.Rows.wpS_forRange
def cn:=@PyProof.Rows.boot_isinstance
def cr:=@congrArg
def cu:=@PyProof.Rows.callWith_type1
def cx:=@Nat.zero_add
def cA:=@Array.getElem?_eq_some_iff
def cB:=@Int.le_refl
def cC:=@List.mem_of_mem_take
def cD:=@PySem.W.kia_one
def cE:=@Int.emod_nonneg
def cG:=@PySem.wpAny_holding
def cH:=@Bool.and_eq_true
def cI:=@List.take_of_length_le
def cJ:=@beq_eq_false_iff_ne
def cK:=@List.pairwise_map
def cL:=@of_decide_eq_true
def cM:=@List.flatten_cons
def cN:=@List.length_singleton
def cP:=@List.Pairwise.imp_of_mem
def cQ:=@List.mem_filter
def cR:=@List.mem_of_mem_drop
def cS:=@Nat.add_sub_cancel_left
def cT:=@PySem.wpAny_newObj_type
def cU:=@PySem.Heap.size_push
def cV:=@List.map_nil
def cW:=@PySem.Heap.get?_update_other
def cX:=@PyProof.Rows.boot_list
def cY:=@List.Perm.append_right
def cZ:=@List.getElem_of_mem
def c0:=@PySem.Heap.SameBut.update
def da:=@List.map_congr_left
def db:=@if_true
def dc:=@List.take_append_drop
def de:=@List.Perm.append_left
def df:=@PyProof.Rows.boot_max
def dg:=@PySem.wpAny_rule
def dh:=@PySem.wpAny_Call_Name_kw
def di:=@List.getElem?_drop
def dj:=@PySem.wpAny_standAt
def dk:=@Nat.pow_succ
def dr:=@Nat.pow_le_pow_right
def dt:=@PySem.wpAny_truthy_bool
def du:=@Nat.le_of_lt_succ
def dv:=@Array.toList_push
def dw:=@List.take_add_one
def dz:=@Bool.eq_iff_iff
def dA:=@List.nodup_cons
def dB:=@List.dropLast_concat_getLast
def dC:=@PySem.mem_of_lookup
def dD:=@Ne.symm
def dE:=@Int.mul_zero
def dF:=@Int.le_trans
def dG:=@PySem.Paired.length
def dH:=@PySem.sizeLine_eq
def dI:=@List.mem_cons_self
def dJ:=@List.getElem?_take
def dL:=@Array.perm_iff_toList_perm
def dM:=@List.pairwise_cons
def dN:=@Int.le_of_mul_le_mul_right
def dO:=@Int.mul_nonpos_of_nonneg_of_nonpos
def dP:=@PySem.Heap.get?_update_self
def dQ:=@List.perm_append_comm
def dR:=@PyProof.Rows.boot_min
def dS:=@List.drop_eq_getElem_cons
def dU:=@List.getLast?_eq_getElem?
def dW:=@PySem.wpAny_passesOwn
def dX:=@Int.mul_eq_zero
def dY:=@PySem.lookup_relabel_local
def dZ:=@Array.toList_extract
def d6:=@List.getLast?_append
def d7:=@List.filterMap_cons
def d8:=@Nat.lt_succ_self
def d9:=@Nat.mod_eq_of_lt
def ee:=@Array.toList_inj
def eA:=@PySem.wpAny_call_entry
def eB:=@PySem.F.plain_max_loop
def eC:=@List.eq_nil_of_length_eq_zero
def eE:=@Int.mul_le_mul_of_nonpos_left
def eF:=@Nat.succ_pos
def eG:=@Array.getElem?_eq_none
def eH:=@Int.mul_ediv_mul_of_pos_left
def eI:=@PyProof.Rows.wpS_mono
def eJ:=@List.length_nil
def eK:=@List.sum_append
def eL:=@PyProof.Rows.get?_update_seq
def eN:=@PyProof.Rows.listUpdate_at
def eO:=@List.length_filter_le
def eP:=@bne_self_eq_false
def eQ:=@Nat.lt_succ_of_lt
def eR:=@Nat.mod_two_eq_zero_or_one
def eT:=@Int.mul_pos
def eU:=@Nat.ne_of_gt
def eV:=@PySem.codeAny_mono
def eW:=@beq_self_eq_true
def eX:=@List.any_eq_true
def eY:=@PySem.wpAny_askSetting
def eZ:=@List.filter_cons
def ff:=@Int.zero_add
def fh:=@List.getElem?_eq_none_iff
def fj:=@Int.mul_pos_of_neg_of_neg
def fk:=@List.getLast?_eq_none_iff
def fu:=@List.reverse_append
def fv:=@PySem.F.args_tuple_add_2
def fA:=@PySem.wpAny_comprehension_free
def fB:=@Bool.not_true
def fC:=@PyProof.Rows.boot_sorted
def fE:=@PySem.wpAny_ite_split
def fF:=@List.mem_filterMap
def fG:=@beq_iff_eq
def fH:=@Nat.lt_of_le_of_lt
def fI:=@Nat.mod_lt
def fJ:=@Array.forIn_toList
def fL:=@Nat.add_sub_cancel
def fM:=@PySem.Obj.data_mapFields
def fN:=@PyProof.Rows.wpS_modify
def fO:=@PySem.F.entry_tuple_add
def fR:=@decide_eq_false_iff_not
def fS:=@Int.eq_ofNat_of_zero_le
def fT:=@List.getLast_eq_getElem
def fU:=@Int.mul_sub
def fV:=@PySem.wpAny_pyIter_list
def fW:=@PySem.F.slot_tuple_add
def fX:=@Bool.and_false
def fY:=@Int.natAbs_mul
def fZ:=@Int.le_of_lt
def gf:=@Int.le_ediv_iff_mul_le
def gh:=@PySem.wpAny_storeSet_of
def gk:=@Int.lt_trichotomy
def gm:=@List.getElem_map
def gn:=@List.mem_flatten
def gu:=@PySem.wpAny_attempt
def gv:=@PyProof.Rows.wpS_get
def gz:=@PySem.wpAny_newList
def gC:=@Array.mem_toList_iff
def gD:=@PySem.wpAny_newFunctionEnv
def gE:=@PySem.Around.under_plainId
def gF:=@PySem.wpAny_execs_nil
def gG:=@Nat.not_lt_zero
def gH:=@Array.getElem?_setIfInBounds
def gI:=@PySem.codeAny_builtin
def gJ:=@PySem.W.plainGet_of
def gK:=@List.flatten_append
def gL:=@List.flatMap_append
def gM:=@Nat.sub_self
def gN:=@Int.zero_mul
def gO:=@Int.add_zero
def gQ:=@PyProof.Rows.assignInOrder_cons
def gR:=@Nat.add_right_comm
def gS:=@PySem.W.callWith_K
def gU:=@PySem.F.excBase_ValueError
def gW:=@List.take_succ
def gX:=@Int.mul_lt_mul_of_pos_left
def gY:=@PySem.wpAny_seqItems
def gZ:=@Bool.not_false
def g8:=@PyProof.Rows.wpS_lift
def g9:=@List.filter_append
def hU:=@List.take_zero
def hX:=@Classical.byContradiction
def h9:=@List.getLastD_eq_getLast?
def ic:=@Int.mul_neg_of_pos_of_neg
def ie:=@PySem.wpAny_assign_Name
def ig:=@Int.mul_one
def ii:=@Bool.not_eq_true'
def ij:=@List.getElem_take
def ik:=@PyProof.Rows.seqEpoch_at
def im:=@PySem.wpAny_letGo
def io:=@List.getElem?_take_of_lt
def iq:=@Int.mul_assoc
def ir:=@Array.size_setIfInBounds
def iu:=@List.cons.inj
def iv:=@PySem.plainId_quiet
def iw:=@PySem.wpAny_execs_cons
def iz:=@PySem.noFill_tuple_add
def iA:=@List.nodup_range
def iB:=@Int.natCast_dvd_natCast
def iC:=@PySem.wpAny_forIn_list
def iD:=@List.getElem?_cons_succ
def iE:=@Bool.not_eq_true
def iG:=@Nat.le_add_right
def iH:=@PySem.Heap.size_update
def iI:=@List.length_eq_zero_iff
def iJ:=@PyProof.Rows.boot_tuple
def iK:=@Nat.le_mul_of_pos_right
def iL:=@Int.dvd_mul_left
def iM:=@List.of_mem_zip
def iN:=@Nat.two_pow_pos
def iO:=@Int.natCast_mul
def iP:=@Int.ediv_nonneg
def iQ:=@Int.ediv_mul_le
def iR:=@PySem.wpAny_updateSeq
def iS:=@Nat.min_eq_left
def iT:=@Bool.false_and
def iU:=@Prod.ext
def iV:=@Nat.le_succ
def iW:=@PySem.intItems_at
def iX:=@PySem.numAt_eq
def i4:=@Int.sub_mul
def i6:=@Int.neg_mul
def i9:=@Bool.and_self
def ja:=@Int.lt_irrefl
def je:=@Int.add_assoc
section
open PySem PySem.Spec PyProof.Rows
abbrev Aa:=PySem.W.Frag
abbrev Ab:=PySem.Shared
abbrev Ac:=PySem.Program
abbrev Ad:=PySem.FuncData
abbrev Ae:=Around
abbrev Af:=SortSt
abbrev Ag:=Value
abbrev Ah:=World
abbrev Ai:=Keyed
abbrev Aj:=Addr
end
namespace L2
theorem exI {α:Sort _}{A K:α->Prop}{v:α}(e:A v)(h:K v):∃x,A x/\K x:=⟨v,e,h⟩
theorem wp {α β:Sort _}{A:α->Prop}{B:β->Prop}{K:α->β->Prop}{u:α}{v:β}(a:A u)(b:B v)(h:K u v):∃x y,A x/\B y/\K x y:=⟨u,v,a,b,h⟩
theorem exX {α β γ δ:Sort _}{A:α->Prop}{B:γ->Prop}{C:α->β->Prop}{D:β->γ->δ->Prop}{K:δ->Prop}{p:α}{xs:β}{i:γ}{v:δ}(a:A p)(b:B i)(c:C p xs)(d:D xs i v)(h:K v):∃p xs i v,A p/\B i/\C p xs/\D xs i v/\K v:=⟨p,xs,i,v,a,b,c,d,h⟩
end L2
namespace L2
open PySem PySem.Spec PyProof.Rows
abbrev Key:=Sum Int Str
def qv5:Key->Ag->Bool
 |.inl k,v=>Value.isInt k v
 |.inr x,v=>Value.isStrOf x v
def keyH (w:Ah):Key->Int
 |.inl k=>hashInt k
 |.inr x=>hashStr w x
theorem vw:∀ {k:Key} {v:Ag},qv5 k v=true->(∃i t,k=Sum.inl i/\v=Value.int i t)\/(∃x t,k=Sum.inr x/\v=Value.str x t)
 |.inl i,v,h=>by obtain⟨t,e⟩:=Value.isInt_shape (k:=i) (v:=v) h;exact .inl ⟨i,t,rfl,e⟩
 |.inr x,v,h=>by obtain⟨t,e⟩:=Value.isStrOf_shape (x:=x) (v:=v) h;exact .inr ⟨x,t,rfl,e⟩
theorem wk0 (i:Int)(t:Tok):qv5 (.inl i) (.int i t)=true:=by simp[qv5,Value.isInt]
theorem wjw (x:Str)(t:Tok):qv5 (.inr x) (.str x t)=true:=by simp[qv5,Value.isStrOf]
theorem key_ll (a b:Int):decide ((Sum.inl a:Key)=Sum.inl b)=(a==b):=by
 by_cases e:a=b
 .subst e;simp
 .have h:¬ (Sum.inl a:Key)=Sum.inl b:=λq=>e (Sum.inl.inj q);rw[bb h];exact(cJ.mpr e).symm
theorem key_rr (a b:Str):decide ((Sum.inr a:Key)=Sum.inr b)=decide (a=b):=by
 by_cases e:a=b
 .subst e;simp
 .have h:¬ (Sum.inr a:Key)=Sum.inr b:=λq=>e (Sum.inr.inj q);rw[bb h,bb e]
theorem key_lr (a:Int)(b:Str):decide ((Sum.inl a:Key)=Sum.inr b)=false:=bb (λq=>nomatch q)
theorem key_rl (a:Str)(b:Int):decide ((Sum.inr a:Key)=Sum.inl b)=false:=bb (λq=>nomatch q)
def yh (prog:Ac)(w:Ah):PySem.KeyKind prog w Key where
 is:=qv5
 hash:=keyH w
 inj:=λv a b ha hb=>by
  rcases vw ha with⟨i,t,rfl,rfl⟩|⟨x,t,rfl,rfl⟩
  .rcases vw hb with⟨j,u,rfl,e⟩|⟨y,u,rfl,e⟩
   .injection e with e1 _;rw[e1]
   .exact nomatch e
  .rcases vw hb with⟨j,u,rfl,e⟩|⟨y,u,rfl,e⟩
   .exact nomatch e
   .injection e with e1 _;rw[e1]
 byValue:=λk v h=>by rcases vw h with⟨i,t,rfl,rfl⟩|⟨x,t,rfl,rfl⟩ <;> rfl
 pyHash:=λhv h=>by
  rcases vw hv with⟨i,t,rfl,rfl⟩|⟨x,t,rfl,rfl⟩
  .exact wpAny_pyHash_int h
  .exact wpAny_pyHash_str h
 eqBool:=λhu hv h=>by
  rcases vw hu with⟨i,t,rfl,rfl⟩|⟨x,t,rfl,rfl⟩
  .rcases vw hv with⟨j,u,rfl,rfl⟩|⟨y,u,rfl,rfl⟩
   .rw[key_ll]at h;exact wpAny_eqBool_int h
   .rw[key_lr]at h;exact SeqAt.EqAt.int_str i t y u _ _ _ _ h
  .rcases vw hv with⟨j,u,rfl,rfl⟩|⟨y,u,rfl,rfl⟩
   .rw[key_rl]at h;exact SeqAt.EqAt.str_int x t j u _ _ _ _ h
   .rw[key_rr]at h;exact wpAny_eqBool_str h
 «strs»:=λk x t v h=>by
  rcases vw h with⟨i,u,rfl,e⟩|⟨y,u,rfl,e⟩
  .exact nomatch e
  .injection e with e1 _
   subst e1;cases v <;> rfl
theorem www (prog:Ac)(w:Ah)(i:Int)(t:Tok):(yh prog w).is (.inl i) (.int i t)=true:=wk0 i t
theorem quu (prog:Ac)(w:Ah)(x:Str)(t:Tok):(yh prog w).is (.inr x) (.str x t)=true:=wjw x t
inductive V where
 |non|bl (b:Bool)|int (i:Int)|str (x:Str)|byt (b:Array UInt8)|flt (b:UInt64)|ref (a:Aj)|ty (n:String)
 deriving DecidableEq
def RelV:V->Ag->Prop
 |.non,u=>u=Value.none
 |.bl b,u=>u=Value.bool b
 |.int i,u=>∃t,u=Value.int i t
 |.str x,u=>∃t,u=Value.str x t
 |.byt b,u=>∃t,u=Value.bytes b t
 |.flt b,u=>∃t,u=Value.float b t
 |.ref a,u=>u=Value.ref a
 |.ty n,u=>u=Value.type n
abbrev Vals:List V->List Ag->Prop:=Paired RelV
theorem Vals.length {xs:List V}{us:List Ag}(r:Vals xs us):xs.length=us.length:=dG r
theorem Vals.get:∀ {xs:List V} {us:List Ag} {i:Nat} {x:V},Vals xs us->xs[i]?=some x->∃u,us[i]?=some u/\RelV x u
 |_,_,_,_,.nil,e=>by simp at e
 |_,_,0,_,.cons r _,e=>by simp at e;subst e;exact⟨_,rfl,r⟩
 |_,_,i+1,x,.cons _ t,e=>by obtain⟨u,h1,h2⟩:=Vals.get (i:=i) (x:=x) t (by simpa using e);exact⟨u,by simpa using h1,h2⟩
theorem Vals.append:∀ {xs ys:List V} {us ws:List Ag},Vals xs us->Vals ys ws->Vals (xs++ys) (us++ws)
 |_,_,_,_,.nil,s=>s
 |_,_,_,_,.cons r t,s=>.cons r (Vals.append t s)
theorem Vals.take:∀ {xs:List V} {us:List Ag} (n:Nat),Vals xs us->Vals (xs.take n) (us.take n)
 |_,_,0,_=>.nil
 |_,_,_+1,.nil=>.nil
 |_,_,n+1,.cons r t=>.cons r (Vals.take n t)
theorem Vals.drop:∀ {xs:List V} {us:List Ag} (n:Nat),Vals xs us->Vals (xs.drop n) (us.drop n)
 |_,_,0,r=>r
 |_,_,_+1,.nil=>.nil
 |_,_,n+1,.cons _ t=>Vals.drop n t
def RelO:Option V->Option Ag->Prop
 |some v,some u=>RelV v u
 |none,none=>True
 |_,_=>False
def KV {κ:Type}:List (κ×V)->List (κ×Ag)->Prop:=Paired λ(p:κ×V) (q:κ×Ag)=>p.1=q.1/\RelV p.2 q.2
def kV:Key->V
 |.inl i=>.int i
 |.inr x=>.str x
inductive HO where
 |lst (xs:List V)
 |tup (xs:List V)
 |dK (kvs:List (Key×V))|dT (kvs:List (List Key×V))
 |set (S:Int->Bool) (n:Nat)
 |ins (C dx:Aj) (fs:List (Str×V))
 |own (x:Aj)
 |xd (fs:List (Str×V))
 |met (f x:Aj)
 |rng (lo hi:Int)
 |frz (o:Obj) (u:HO)
 |tbl (ps:Array Ag)
 |ext (φ:Heap->Prop)
abbrev Hp:=Aj->Option HO
def upd (H:Hp)(a:Aj)(o:HO):Hp:=λb=>if b=a then some o else H b
theorem qf {H:Hp}{a:Aj}{o:HO}:upd H a o a=some o:=by unfold upd;rw[aw rfl]
theorem q8 {H:Hp}{a b:Aj}{o:HO}(h:b≠a):upd H a o b=H b:=by unfold upd;rw[ar h]
theorem qkh {H:Hp}{a:Aj}{o u:HO}:upd (upd H a o) a u=upd H a u:=by funext b;unfold upd;split <;> rfl
theorem wx {H:Hp}{a b:Aj}{o:HO}(h:H a=some o)(h':H b=none):a≠b:=by intro e;subst e;rw[h]at h';cases h'
section
variable (P:Ac)(w:Ah)
def ObjOk (H:Hp)(h:Heap)(a:Aj):HO->Prop
 |.lst xs=>xs.length<=sizeLine/\∃(its:List Ag) (n:Nat),Vals xs its/\h.get? a=some { cls:=.type "list",data:=.seq its.toArray n }
 |.tup xs=>xs.length<=sizeLine/\∃its:List Ag,Vals xs its/\IsTup h a its.toArray
 |.dK kvs=>kvs.length<=sizeLine/\(a==sysModules)=false/\∃vs,KV kvs vs/\h.DictOf (yh P w) a vs
 |.dT kvs=>kvs.length<=sizeLine/\(a==sysModules)=false/\∃xs:List (List Key×Aj×Ag),
   Paired (λ(p:List Key×V) (q:List Key×Aj×Ag)=>p.1=q.1/\H q.2.1=some (.tup (p.1.map kV))/\RelV p.2 q.2.2) kvs xs /\
   ∃o es ep,h.get? a=some o/\o.ExactDict/\o.data=.dict es ep/\es.toList=xs.map (entryOfKey (tupleKind (yh P w)))/\(xs.map (·.1)).Nodup
 |.set S n=>h.SetOf (intKind P w) a S n
 |.ins C dx fs=>H dx=some (.own a)/\fs.length<=1000/\dx≠a/\h.get? a=some (W.instObj C dx) /\
   ∃mA,h.Ns1 dx mA/\(∀f,RelO (fs.lookup f) (mA f))/\PySem.Within mA (fs.map (·.1))
 |.own _=>∃o,h.get? a=some o
 |.xd fs=>∃mA,h.Ns1 a mA/\∀f,RelO (fs.lookup f) (mA f)
 |.rng lo hi=>∃t u v,h.get? a=some { cls:=.type "range",data:=.fields #[.int lo t,.int hi u,.int 1 v] }
 |.frz o u=>h.get? a=some o/\ObjOk H h a u
 |.tbl ps=>h.get? a=some { cls:=.none,data:=.fields ps }
 |.met f x=>h.get? a=some (W.methodObj (.ref f) (.ref x))
 |.ext φ=>φ h/\(∃o,h.get? a=some o)/\∀h1 h2:Heap,φ h1->(∀o,h1.get? a=some o->h2.get? a=some o)->φ h2
def HOk (H:Hp)(h:Heap):Prop:=∀a o,H a=some o->ObjOk P w H h a o
end
section
variable {P:Ac}{w:Ah}{H H':Hp}{h h':Heap}{a:Aj}{o:HO}
theorem ObjOk.lt (x:ObjOk P w H h a o):a<h.objs.size:=by
 cases o with
 |lst xs=>obtain⟨_,_,_,_,e⟩:=x;exact ao e
 |tup xs=>obtain⟨_,_,_,p⟩:=x;exact p.lt
 |dK kvs=>obtain⟨_,_,_,_,o,_,_,e,_⟩:=x;exact ao e
 |dT kvs=>obtain⟨_,_,_,_,o,_,_,e,_⟩:=x;exact ao e
 |set S n=>obtain⟨o,_,_,_,e,_⟩:=x;exact ao e
 |ins C dx fs=>obtain⟨_,_,_,e,_⟩:=x;exact ao e
 |own y=>obtain⟨_,e⟩:=x;exact ao e
 |xd fs=>obtain⟨_,⟨_,_,_,e,_⟩,_⟩:=x;exact ao e
 |rng lo hi=>obtain⟨_,_,_,e⟩:=x;exact ao e
 |frz ob u=>obtain⟨e,_⟩:=x;exact ao e
 |tbl ps=>exact ao (show h.get? a=some _ from x)
 |met f y=>exact ao (show h.get? a=some _ from x)
 |ext φ=>obtain⟨_,⟨_,e⟩,_⟩:=x;exact ao e
theorem Paired.mapP {α β:Type}{F G:α->β->Prop}:∀ {l₁:List α} {l₂:List β},Paired F l₁ l₂->(∀a b,F a b->G a b)->Paired G l₁ l₂
 |_,_,.nil,_=>.nil
 |_,_,.cons r t,f=>.cons (f _ _ r) (Paired.mapP t f)
theorem Paired.imp' {α β:Type}{F G:α->β->Prop}(f:∀a b,F a b->G a b){l₁:List α}{l₂:List β}(r:Paired F l₁ l₂):Paired G l₁ l₂:=Paired.mapP r f
theorem ObjOk.stay (x:ObjOk P w H h a o)(k:∀b u,(b=a\/H b=some (.own a))->h.get? b=some u->h'.get? b=some u)
  (ho:∀b,H b=some (.own a)->H' b=some (.own a)) (ht:∀b xs,H b=some (.tup xs)->H' b=some (.tup xs)):ObjOk P w H' h' a o:=by
 induction o with
 |lst xs=>obtain⟨z,its,n,r,e⟩:=x;exact⟨z,its,n,r,k _ _ (.inl rfl) e⟩
 |tup xs=>obtain⟨z,its,r,ob,e,c⟩:=x;exact⟨z,its,r,ob,k _ _ (.inl rfl) e,c⟩
 |dK kvs=>obtain⟨z,y,vs,r,ob,es,ep,e,c⟩:=x;exact⟨z,y,vs,r,ob,es,ep,k _ _ (.inl rfl) e,c⟩
 |dT kvs =>
  obtain⟨z,y,xs,r,ob,es,ep,e,c⟩:=x;exact⟨z,y,xs,Paired.mapP r λp q z=>⟨z.1,ht _ _ z.2.1,z.2.2⟩,ob,es,ep,k _ _ (.inl rfl) e,c⟩
 |set S n=>obtain⟨ob,es,ep,t,e,c⟩:=x;exact⟨ob,es,ep,t,k _ _ (.inl rfl) e,c⟩
 |ins C dx fs =>
  obtain⟨d,z,ne,e,mA,⟨od,es,ep,e2,c⟩,r⟩:=x;exact⟨ho _ d,z,ne,k _ _ (.inl rfl) e,mA,⟨od,es,ep,k _ _ (.inr d) e2,c⟩,r⟩
 |own y=>obtain⟨ob,e⟩:=x;exact⟨ob,k _ _ (.inl rfl) e⟩
 |xd fs=>obtain⟨mA,⟨od,es,ep,e,c⟩,r⟩:=x;exact⟨mA,⟨od,es,ep,k _ _ (.inl rfl) e,c⟩,r⟩
 |rng lo hi=>obtain⟨t,u,v,e⟩:=x;exact⟨t,u,v,k _ _ (.inl rfl) e⟩
 |frz ob u ih=>obtain⟨e,q⟩:=x;exact⟨k _ _ (.inl rfl) e,ih q⟩
 |tbl ps =>
  have e:h.get? a=some { cls:=.none,data:=.fields ps }:=x;show h'.get? a=some { cls:=.none,data:=.fields ps };exact k a _ (.inl rfl) e
 |met f y =>
  have e:h.get? a=some (W.methodObj (.ref f) (.ref y)):=x;show h'.get? a=some (W.methodObj (.ref f) (.ref y));exact k a _ (.inl rfl) e
 |ext φ=>obtain⟨p,⟨o,e⟩,st⟩:=x;exact⟨st _ _ p λo q=>k _ _ (.inl rfl) q,⟨o,k _ _ (.inl rfl) e⟩,st⟩
theorem HOk.lt (x:HOk P w H h)(e:H a=some o):a<h.objs.size:=(x a o e).lt
theorem HOk.fresh (x:HOk P w H h)(e:h.objs.size<=a):H a=none:=by
 cases q:H a with
 |none=>rfl
 |some u=>exact absurd (aO (x.lt q) e) (be _)
theorem HOk.kept (x:HOk P w H h)(k:∀b u,h.get? b=some u->h'.get? b=some u):HOk P w H h':=λa o e =>
 (x a o e).stay (λb u _ q=>k b u q) (λ_ q=>q) λ_ _ q=>q
theorem HOk.laid (x:HOk P w H h)(k:∀b u,h.get? b=some u->h'.get? b=some u)(hp:h.objs.size<=a)(new:ObjOk P w (upd H a o) h' a o):HOk P w (upd H a o) h':=λb u e=>by
 have hn:=x.fresh hp;by_cases hb:b=a
 .subst hb;rw[qf]at e;cases e;exact new
 .rw[q8 hb]at e;exact(x b u e).stay (λc v _ q=>k c v q) (λc q=>by rw[q8 (wx q hn)];exact q) λc xs q=>by rw[q8 (wx q hn)];exact q
end
def Rd (H:Hp)(a:Aj)(u:HO):Prop:=H a=some u\/∃o,H a=some (.frz o u)
theorem Rd.ok {P:Ac}{w:Ah}{H:Hp}{h:Heap}{a:Aj}{u:HO}(r:Rd H a u)(x:HOk P w H h):ObjOk P w H h a u:=by
 rcases r with r|⟨o,r⟩
 .exact x a u r
 .obtain⟨_,q⟩:=x a _ r;exact q
def Mut:Option HO->Prop
 |some (.lst _)=>True
 |some (.dK _)=>True
 |some (.dT _)=>True
 |some (.set _ _)=>True
 |some (.ins _ _ _)=>True
 |some (.ext _)=>True
 |_=>False
section
variable {P:Ac}{w:Ah}{H:Hp}{h h':Heap}{x e:Aj}{o':HO}
theorem HOk.write (ok:HOk P w H h)(mu:Mut (H x))(he:e=x\/H e=some (.own x))(k:∀b u,b≠e->h.get? b=some u->h'.get? b=some u)(heo:∃u,h'.get? e=some u)
  (new:ObjOk P w (upd H x o') h' x o'):HOk P w (upd H x o') h':=λb u q=>by
 have nown:∀c y,H c=some (.own y)->c≠x:=λc y r z=>by subst z;rw[r]at mu;exact mu
 have ntup:∀c xs,H c=some (.tup xs)->c≠x:=λc xs r z=>by subst z;rw[r]at mu;exact mu
 by_cases hb:b=x
 .subst hb;rw[qf]at q;cases q;exact new
 .rw[q8 hb]at q;by_cases hbe:b=e
  .have q':H b=some (.own x):=by
    rcases he with z|z
    .exact absurd (hbe.trans z) hb
    .rw[hbe];exact z
   rw[q]at q';cases q';obtain⟨v,hv⟩:=heo;exact⟨v,by rw[hbe];exact hv⟩
  .refine(ok b u q).stay (λc v hc r=>k c v ?_ r) (λc r=>by rw[q8 (nown c b r)];exact r) λc xs r=>by rw[q8 (ntup c xs r)];exact r
   rcases hc with rfl|hc
   .exact hbe
   .rintro rfl;rcases he with z|z
    .exact nown c b hc z
    .rw[hc]at z;cases z;exact hb rfl
end
structure Un (fs ex:List Aj)(H H':Hp)(h h':Heap):Prop where
 keep:∀b o,h.get? b=some o->H b=none->b∉fs->b∉ex->h'.get? b=some o
 slot:∀b o,h.get? b=some o->H b=none->b∈fs->b∉ex->∃sl,h'.get? b=some { o with slots:=sl }
 free:∀b o,h.get? b=some o->H b=none->b∉ex->H' b=none
 there:∀b o,h.get? b=some o->b∉ex->∃o',h'.get? b=some o'
 tups:∀b xs,H b=some (.tup xs)->H' b=some (.tup xs)
 frzs:∀b o u,H b=some (.frz o u)->H' b=some (.frz o u)
 tbls:∀b ps,H b=some (.tbl ps)->∃more,H' b=some (.tbl (ps++more))
section
variable {fs fs' ex ex':List Aj}{H H1 H2:Hp}{h h1 h2 h':Heap}{a x e:Aj}{o:HO}
theorem Un.any (u:Un fs ex H H1 h h1){b:Aj}{ob:Obj}(q:h.get? b=some ob)(n:H b=none)(hx:b∉ex):∃sl,h1.get? b=some { ob with slots:=sl }:=by
 by_cases hb:b∈fs
 .exact u.slot b ob q n hb hx
 .exact⟨ob.slots,u.keep b ob q n hb hx⟩
theorem Un.kept (k:∀b u,h.get? b=some u->h'.get? b=some u):Un fs ex H H h h' :=
 ⟨λb ob q _ _ _=>k b ob q,λb ob q _ _ _=>⟨ob.slots,k b ob q⟩,λ_ _ _ n _=>n,λb ob q _=>⟨ob,k b ob q⟩,λ_ _ q=>q,λ_ _ _ q=>q,λ_ ps q=>⟨#[],by rw[q];simp⟩⟩
theorem Un.refl:Un fs ex H H h h:=Un.kept λ_ _ q=>q
theorem Un.laid (k:∀b u,h.get? b=some u->h'.get? b=some u)(hp:h.objs.size<=a)(hn:H a=none):Un fs ex H (upd H a o) h h' where
 keep:=λb u q _ _ _=>k b u q
 slot:=λb u q _ _ _=>⟨u.slots,k b u q⟩
 free:=λb u q n _=>by rw[q8 (aE (aO (ao q) hp))];exact n
 there:=λb u q _=>⟨u,k b u q⟩
 tups:=λb xs q=>by rw[q8 (wx q hn)];exact q
 frzs:=λb u xs q=>by rw[q8 (wx q hn)];exact q
 tbls:=λb ps q=>⟨#[],by rw[q8 (wx q hn),q];simp⟩
theorem Un.write (mu:Mut (H x))(he:e=x\/H e=some (.own x))(k:∀b u,b≠e->h.get? b=some u->h'.get? b=some u)(heo:∃u,h'.get? e=some u):Un fs ex H (upd H x o) h h':=by
 have hx:∀b,H b=none->b≠x:=λb n z=>by subst z;rw[n]at mu;exact mu
 have hb:∀b,H b=none->b≠e:=λb n z=>by
  subst z;rcases he with r|r
  .exact hx b n r
  .rw[n]at r;cases r
 have hm:∀b u,H b=some u->¬ Mut (some u)->b≠x:=λb u q nm z=>by subst z;rw[q]at mu;exact nm mu
 refine⟨λb u q n _ _=>k b u (hb b n) q,λb u q n _ _=>⟨u.slots,k b u (hb b n) q⟩,λb u q n _=>by rw[q8 (hx b n)];exact n,λb u q _=>?_,
  λb xs q=>by rw[q8 (hm b _ q λz=>z)];exact q,λb u xs q=>by rw[q8 (hm b _ q λz=>z)];exact q,λb ps q=>⟨#[],by rw[q8 (hm b _ q λz=>z),q];simp⟩⟩
 by_cases hbe:b=e
 .subst hbe;exact heo
 .exact⟨u,k b u hbe q⟩
end
def trk (h:Heap)(H:Hp):List Aj:=(List.range h.objs.size).filter λa=>(H a).isSome
def qvw (h:Heap)(H:Hp):Heap:=W.hideAll h (trk h H)
theorem wyj (h:Heap)(H:Hp):(qvw h H).objs.size=h.objs.size:=W.hideAll_size _ _
theorem wu2 {h:Heap}{H:Hp}{b:Aj}{o:Obj}(e:h.get? b=some o)(n:H b=none):(qvw h H).get? b=some o :=
 W.hideAll_get _ e λhm=>by have q:(H b).isSome=true:=(cQ.mp hm).2;rw[n]at q;simp at q
theorem xz0 {h:Heap}{H:Hp}{b:Aj}{o:Obj}(e:(qvw h H).get? b=some o):h.get? b=some o/\H b=none:=by
 have e':h.get? b=some o:=W.of_hideAll (trk h H) e;refine⟨e',?_⟩;cases q:H b with
 |none=>rfl
 |some x =>
  have hm:b∈trk h H:=cQ.mpr ⟨ay.mpr (ao e'),by simp[q]⟩;have z:(qvw h H).get? b=none:=W.hideAll_none (trk h H) hm;rw[z]at e;cases e
def xzz (g h:Heap)(L:Aj):List (Aj×Obj):=(List.range h.objs.size).filterMap λa=>if a=L\/(g.get? a).isSome=true then none else(h.get? a).map λo=>(a,o)
def rest (g h:Heap)(L d:Aj):List (Aj×Obj):=(xzz g h L).filter λp=>decide (p.1≠d)
structure Mod (K:Aa)(mg:Str->Option Ag)(base:Heap):Prop where
 kin:K.In base
 glob:base.Ns mainGlobals mg
 blt:∃mb,base.Ns builtinsNs mb/\∀x:Str,x ≠ "__name__" -> mb x=bootBuiltins x
 nolimit:base.NoLimit
structure Cx where
 prog:Ac
 w:Ah
 K:Aa
 mg:Str->Option Ag
 base:Heap
 A:Ae
 N:List Str
 s₀:Ab
 H₀:Hp
 env:Env
 outer:List Env
 stack:List Env
 ex:List Aj
 fn:Str->Bool
 calm:Bool
 pn:List (Aj×Obj)
 xe:Ag->Ab->Prop
def frs (l:List Env):List Aj:=l.filterMap (·.frame)
abbrev Cx.fs (X:Cx):List Aj:=frs X.outer
def Vis (sc:Scope)(x:Str):Prop:=sc.names.lookup x=some .local\/sc.names.lookup x=some .cell\/sc.names.lookup x=some .free
def Loc (sc:Scope)(x:Str):Prop:=sc.names.lookup x=some .local\/sc.names.lookup x=some .cell
def Look (env:Env)(h:Heap)(m:Str->Option Ag)(x:Str)(u:Ag):Prop :=
 (env.kindOf x=some .local/\m x=some u)\/((env.kindOf x=some .cell\/env.kindOf x=some .free)/\∃c,env.cells.lookup x=some c/\h.IsCell c (some u))
structure Cx.Ok (X:Cx):Prop where
 mod:Mod X.K X.mg X.base
 kind:X.env.scope.kind=.function
 glob:X.env.globals=mainGlobals
 blt:X.env.builtins=builtinsNs
 above:X.s₀.heap.objs.size<=X.env.locals
 inj:∀x y c,X.env.cells.lookup x=some c->X.env.cells.lookup y=some c->x=y
 has:∀x,(X.env.kindOf x=some .cell\/X.env.kindOf x=some .free)->∃c,X.env.cells.lookup x=some c
 cab:∀x c,X.fn x=true->X.env.cells.lookup x=some c->X.s₀.heap.objs.size<=c
 hd:X.calm=true->X.A.handled=none
 frames:X.A.frames=some X.stack
 stk:X.stack=X.outer\/(X.stack=X.env::X.outer/\X.env.frame=some X.env.locals)
 exf:∀b∈X.ex,b≠X.env.locals/\∀x c,X.env.cells.lookup x=some c->c≠b
 bs:∀b o,X.base.get? b=some o->X.s₀.heap.get? b=some o/\X.H₀ b=none
 bsz:X.base.objs.size<=X.s₀.heap.objs.size
 noex:∀b o,X.base.get? b=some o->b∉X.ex
 exfs:∀b∈X.ex,b∉X.fs
 funs:X.s₀.heap.FunFrames X.base X.outer
 frf:∀b∈X.fs,X.H₀ b=none
structure Inv (X:Cx)(pins:List (Aj×Obj))(σ:List (Option V))(H:Hp)(s:Ab):Prop where
 ok:X.Ok
 os:s.os=X.s₀.os
 bare:AllBare s.gens
 base:Un X.fs X.ex X.H₀ H X.s₀.heap s.heap
 loc:∃m,s.heap.Ns X.env.locals m/\∀(i:Nat) (x:Str) (v:V),X.N[i]?=some x->σ[i]?=some (some v)->Vis X.env.scope x->∃u,RelV v u/\Look X.env s.heap m x u
 cell:∀x c,X.env.cells.lookup x=some c->∃v,s.heap.IsCell c v
 free:H X.env.locals=none
 freeC:∀x c,X.env.cells.lookup x=some c->H c=none
 pin:∀p∈X.pn++pins,s.heap.get? p.1=some p.2/\H p.1=none/\p.1≠X.env.locals/\p.1∉X.fs/\∀v,p.2.data≠.cell v
 hok:HOk X.prog X.w H s.heap
 len:σ.length=X.N.length
section
variable {X:Cx}{pins:List (Aj×Obj)}{σ:List (Option V)}{H H':Hp}{s:Ab}{h':Heap}
theorem Cx.Ok.nofr (ok:X.Ok){b:Aj}{o:Obj}(e:X.base.get? b=some o):b∉X.fs:=λhb=>by have:=(ok.funs.mem hb).1;rw[e]at this;cases this
theorem Inv.bs (I:Inv X pins σ H s):∀b o,X.base.get? b=some o->s.heap.get? b=some o/\H b=none:=λb o e =>
 ⟨I.base.keep b o (I.ok.bs b o e).1 (I.ok.bs b o e).2 (I.ok.nofr e) (I.ok.noex b o e),I.base.free b o (I.ok.bs b o e).1 (I.ok.bs b o e).2 (I.ok.noex b o e)⟩
theorem Inv.bk (I:Inv X pins σ H s):∀b o,X.base.get? b=some o->s.heap.get? b=some o:=λb o e=>(I.bs b o e).1
theorem Inv.mod (I:Inv X pins σ H s):Mod X.K X.mg X.base:=I.ok.mod
theorem Inv.kIn (I:Inv X pins σ H s):X.K.In s.heap:=I.ok.mod.kin.keeps I.bk
theorem Inv.lt (I:Inv X pins σ H s):X.env.locals<s.heap.objs.size:=let ⟨_,hn,_⟩:=I.loc;hn.lt
theorem Inv.sz (I:Inv X pins σ H s):X.s₀.heap.objs.size<=s.heap.objs.size:=bM I.ok.above (bu I.lt)
theorem Inv.nofs (I:Inv X pins σ H s){a:Aj}(h:s.heap.objs.size<=a):a∉X.fs:=λhb=>by obtain⟨_,o,ho,_⟩:=I.ok.funs.mem hb;exact absurd (aO (ao ho) (bM I.sz h)) (be _)
theorem Inv.cne (I:Inv X pins σ H s):∀x c,X.env.cells.lookup x=some c->c≠X.env.locals:=λx c e z=>by obtain⟨v,o,ho,hd⟩:=I.cell x c e;obtain⟨m,⟨o',es,ep,ho',hd',_⟩,_⟩:=I.loc;rw[z,ho']at ho;cases ho;rw[hd']at hd;cases hd
theorem Inv.funs (I:Inv X pins σ H s):s.heap.FunFrames X.base X.outer:=by
 have all:∀(l:List Env),(∀b∈frs l,b∈X.fs)->X.s₀.heap.FunFrames X.base l->s.heap.FunFrames X.base l:=by
  intro l
  induction l with
  |nil=>intro _ _;trivial
  |cons env r ih =>
   intro hs hl;obtain⟨hk,⟨L,o,hf,hn,ho,hd⟩,hr⟩:=hl;have hL:L∈X.fs:=hs L (by unfold frs;rw[d7,hf];exact dI);obtain⟨sl,e⟩:=I.base.slot L o ho (I.ok.frf L hL) hL λz=>I.ok.exfs L z hL;exact⟨hk,⟨L,_,hf,hn,e,hd⟩,ih (λb hb=>hs b (by unfold frs;rw[d7,hf];exact bI _ hb)) hr⟩
 exact all X.outer (λ_ hb=>hb) I.ok.funs
theorem Inv.stack (I:Inv X pins σ H s):s.heap.FunFrames X.base X.stack:=by
 rcases I.ok.stk with e|⟨e,hf⟩
 .rw[e];exact I.funs
 .rw[e];obtain⟨m,hn,_⟩:=I.loc;refine .cons (by rw[I.ok.kind];decide) hf hn ?_ I.funs;exact Heap.get?_none_of_le (bM I.ok.bsz I.ok.above)
theorem Inv.stkSub (I:Inv X pins σ H s):∀b∈frs X.stack,b∈X.env.locals::X.fs:=λb hb=>by
 rcases I.ok.stk with e|⟨e,hf⟩
 .rw[e]at hb;exact bI _ hb
 .rw[e]at hb;unfold frs at hb;rw[d7,hf]at hb;exact hb
theorem Inv.stkFree (I:Inv X pins σ H s):∀b∈frs X.stack,H b=none:=λb hb=>by
 rcases aM.mp (I.stkSub b hb) with e|hb
 .rw[e];exact I.free
 .obtain⟨_,o,ho,_⟩:=I.ok.funs.mem hb;exact I.base.free b o ho (I.ok.frf b hb) λz=>I.ok.exfs b z hb
theorem Inv.step {g':Array GenState}{t':Nat}{d':Drawn}{ch:List Aj}(I:Inv X pins σ H s)
  (hch:∀b∈ch,(b∈X.ex\/X.s₀.heap.objs.size<=b)/\b≠X.env.locals/\(∀x c,X.env.cells.lookup x=some c->c≠b)/\∀p∈X.pn++pins,p.1≠b)
  (keep:∀b o,b≠X.env.locals->b∉X.fs->b∉ch->s.heap.get? b=some o->H b=none->h'.get? b=some o)
  (slot:∀b o,b≠X.env.locals->b∈X.fs->b∉ch->s.heap.get? b=some o->H b=none->∃sl,h'.get? b=some { o with slots:=sl }) (free:∀b o,b∉ch->s.heap.get? b=some o->H b=none->H' b=none)
  (there:∀b o,b∉ch->s.heap.get? b=some o->∃o',h'.get? b=some o')
  (tups:∀b xs,H b=some (.tup xs)->H' b=some (.tup xs)) (frzs:∀b o u,H b=some (.frz o u)->H' b=some (.frz o u)) (tbls:∀b ps,H b=some (.tbl ps)->∃more,H' b=some (.tbl (ps++more)))
  (ns:∀m,s.heap.Ns X.env.locals m->h'.Ns X.env.locals m) (hok:HOk X.prog X.w H' h') (hg:AllBare g') :
  Inv X pins σ H' { s with heap:=h',gens:=g',drawn:=d',toks:=t' }:=by
 have neL:∀b o,X.s₀.heap.get? b=some o->b≠X.env.locals:=λb o e=>aE (aO (ao e) I.ok.above);have neC:∀b o,X.s₀.heap.get? b=some o->b∉X.ex->b∉ch:=λb o e hx hb=>by
  rcases(hch b hb).1 with z|z
  .exact hx z
  .exact absurd (aO (ao e) z) (be _)
 have cellK:∀x c,X.env.cells.lookup x=some c->∀v,s.heap.IsCell c v->h'.IsCell c v:=λx c e v ⟨o,ho,hd⟩=>by
  have nch:c∉ch:=λz=>(hch c z).2.2.1 x c e rfl;by_cases hc:c∈X.fs
  .obtain⟨sl,q⟩:=slot c o (I.cne x c e) hc nch ho (I.freeC x c e);exact⟨_,q,hd⟩
  .exact⟨o,keep c o (I.cne x c e) hc nch ho (I.freeC x c e),hd⟩
 refine⟨I.ok,I.os,hg,⟨λb o e n hb hx=>?_,λb o e n hb hx=>?_,λb o e n hx=>?_,λb o e hx=>?_,λb xs e=>tups b xs (I.base.tups b xs e),λb o xs e=>frzs b o xs (I.base.frzs b o xs e),λb ps e=>?_⟩,?_,λx c e=>?_,?_,λx c e=>?_,λp hp=>?_,hok,I.len⟩
 .exact keep b o (neL b o e) hb (neC b o e hx) (I.base.keep b o e n hb hx) (I.base.free b o e n hx)
 .obtain⟨sl,e1⟩:=I.base.slot b o e n hb hx;obtain⟨sl',e2⟩:=slot b _ (neL b o e) hb (neC b o e hx) e1 (I.base.free b o e n hx);exact⟨sl',e2⟩
 .obtain⟨o',e1⟩:=I.base.there b o e hx;exact free b o' (neC b o e hx) e1 (I.base.free b o e n hx)
 .obtain⟨o',e1⟩:=I.base.there b o e hx;exact there b o' (neC b o e hx) e1
 .obtain⟨m1,e1⟩:=I.base.tbls b ps e;obtain⟨m2,e2⟩:=tbls b _ e1;exact⟨m1++m2,by rw[e2,Array.append_assoc]⟩
 .obtain⟨m,hn,hl⟩:=I.loc;refine⟨m,ns m hn,λi x v e1 e2 e3=>?_⟩;obtain⟨u,r,l⟩:=hl i x v e1 e2 e3;refine⟨u,r,?_⟩;rcases l with l|⟨k,c,e,z⟩
  .exact .inl l
  .exact .inr ⟨k,c,e,cellK x c e _ z⟩
 .obtain⟨v,z⟩:=I.cell x c e;exact⟨v,cellK x c e v z⟩
 .obtain⟨m,⟨o,_,_,ho,_⟩,_⟩:=I.loc;exact free _ o (λz=>(hch _ z).2.1 rfl) ho I.free
 .obtain⟨v,o,ho,hd⟩:=I.cell x c e;exact free c o (λz=>(hch c z).2.2.1 x c e rfl) ho (I.freeC x c e)
 .obtain⟨e,n,ne,nf,d⟩:=I.pin p hp;have nch:p.1∉ch:=λz=>(hch p.1 z).2.2.2 p hp rfl;exact⟨keep p.1 p.2 ne nf nch e n,free p.1 p.2 nch e n,ne,nf,d⟩
theorem Inv.un {t':Nat}(I:Inv X pins σ H s)(u:Un X.fs [] H H' s.heap h')(hok:HOk X.prog X.w H' h'):Inv X pins σ H' { s with heap:=h',toks:=t' }:=by
 obtain⟨m,⟨o,es,ep,ho,r⟩,_⟩:=id I.loc;obtain⟨sl,hL⟩:=u.any ho I.free (by simp);exact I.step (g':=s.gens) (d':=s.drawn) (ch:=[]) (λ_ z=>nomatch z) (λb o _ hb _ e n=>u.keep b o e n hb (by simp)) (λb o _ hb _ e n=>u.slot b o e n hb (by simp)) (λb o _ e n=>u.free b o e n (by simp)) (λb o _ e=>u.there b o e (by simp)) u.tups u.frzs u.tbls (λm' hm=>by
  obtain⟨o',es',ep',ho',r'⟩:=hm
  rw[ho]at ho';cases ho'
  exact⟨_,es',ep',hL,r'⟩) hok I.bare
theorem Inv.call {g':Array GenState}{t':Nat}{d':Drawn}{ch:List Aj}(I:Inv X pins σ H s)(u:Un (frs X.stack) ch H H' s.heap h')(hok:HOk X.prog X.w H' h')(hg:AllBare g')
  (hch:∀b∈ch,(b∈X.ex\/X.s₀.heap.objs.size<=b)/\b≠X.env.locals/\(∀x c,X.env.cells.lookup x=some c->c≠b)/\∀p∈X.pn++pins,p.1≠b) :
  Inv X pins σ H' { s with heap:=h',gens:=g',drawn:=d',toks:=t' }:=by
 obtain⟨m,⟨o,es,ep,ho,r⟩,_⟩:=id I.loc;obtain⟨sl,hL⟩:=u.any ho I.free λz=>(hch _ z).2.1 rfl;exact I.step (ch:=ch) hch (λb o hL hb hc e n=>u.keep b o e n (λz=>(aM.mp (I.stkSub b z)).elim hL hb) hc) (λb o _ _ hc e n=>u.any e n hc) (λb o hc e n=>u.free b o e n hc) (λb o hc e=>u.there b o e hc) u.tups u.frzs u.tbls (λm' hm=>by
  obtain⟨o',es',ep',ho',r'⟩:=hm
  rw[ho]at ho';cases ho'
  exact⟨_,es',ep',hL,r'⟩) hok hg
theorem Inv.turned {t':Nat}{it:Aj}(I:Inv X pins σ H s)(k:∀b o,b≠it->s.heap.get? b=some o->h'.get? b=some o)(hn:H it=none)(hL:it≠X.env.locals)
  (h1:it∈X.ex\/X.s₀.heap.objs.size<=it) (h2:∀x c,X.env.cells.lookup x=some c->c≠it) (h3:∀p∈X.pn++pins,p.1≠it):Inv X pins σ H { s with heap:=h',toks:=t' }:=by
 have nit:∀b u,H b=some u->b≠it:=λb u e z=>by rw[z,hn]at e;cases e
 refine I.step (g':=s.gens) (d':=s.drawn) (ch:=[it]) (λb hb=>?_) (λb o _ _ hc e _=>k b o (λz=>hc (by simp[z])) e) (λb o _ _ hc e _=>⟨o.slots,k b o (λz=>hc (by simp[z])) e⟩) (λ_ _ _ _ n=>n)
  (λb o hc e=>⟨o,k b o (λz=>hc (by simp[z])) e⟩) (λ_ _ e=>e) (λ_ _ _ e=>e) (λb ps e=>⟨#[],by rw[e];simp⟩) (λm hm=>?_) (λb u e=>?_) I.bare
 .have e:b=it:=by simpa using hb
  subst e;exact⟨h1,hL,h2,h3⟩
 .obtain⟨o,es,ep,ho,r⟩:=hm;exact⟨o,es,ep,k _ o (dD hL) ho,r⟩
 .refine(I.hok b u e).stay (λc v hc q=>k c v ?_ q) (λ_ q=>q) λ_ _ q=>q;rcases hc with z|z
  .rw[z];exact nit b u e
  .exact nit c _ z
theorem Inv.tok (I:Inv X pins σ H s)(t:Nat):Inv X pins σ H { s with toks:=t }:=I.un (h':=s.heap) (t':=t) Un.refl I.hok
theorem Inv.kept {t':Nat}(I:Inv X pins σ H s)(k:∀b u,s.heap.get? b=some u->h'.get? b=some u):Inv X pins σ H { s with heap:=h',toks:=t' }:=I.un (Un.kept k) (I.hok.kept k)
theorem Inv.laid {a:Aj}{o:HO}{t':Nat}(I:Inv X pins σ H s)(k:∀b u,s.heap.get? b=some u->h'.get? b=some u)(hp:s.heap.objs.size<=a)(new:ObjOk X.prog X.w (upd H a o) h' a o) :
  Inv X pins σ (upd H a o) { s with heap:=h',toks:=t' }:=I.un (Un.laid k hp (I.hok.fresh hp)) (I.hok.laid k hp new)
theorem Inv.write {x e:Aj}{o:HO}{t':Nat}(I:Inv X pins σ H s)(mu:Mut (H x))(he:e=x\/H e=some (.own x))(k:∀b u,b≠e->s.heap.get? b=some u->h'.get? b=some u)(heo:∃u,h'.get? e=some u)
  (new:ObjOk X.prog X.w (upd H x o) h' x o):Inv X pins σ (upd H x o) { s with heap:=h',toks:=t' }:=I.un (Un.write mu he k heo) (I.hok.write mu he k heo new)
theorem Inv.weak {σ':List (Option V)}(I:Inv X pins σ H s)(hl:σ'.length=σ.length)(w:∀(i:Nat) v,σ'[i]?=some (some v)->σ[i]?=some (some v)):Inv X pins σ' H s :=
 ⟨I.ok,I.os,I.bare,I.base,let ⟨m,hn,hl'⟩:=I.loc;⟨m,hn,λi x v e1 e2 e3=>hl' i x v e1 (w i v e2) e3⟩,I.cell,I.free,I.freeC,I.pin,I.hok,hl.trans I.len⟩
theorem Inv.pins_of {pins':List (Aj×Obj)}(I:Inv X pins σ H s)(h:∀p∈pins',s.heap.get? p.1=some p.2/\H p.1=none/\p.1≠X.env.locals/\p.1∉X.fs/\∀v,p.2.data≠.cell v):Inv X pins' σ H s :=
 ⟨I.ok,I.os,I.bare,I.base,I.loc,I.cell,I.free,I.freeC,λp hp=>(aU.mp hp).elim (λz=>I.pin p (ca _ z)) (h p),I.hok,I.len⟩
theorem qun {N:List Str}(hN:N.Nodup){i j:Nat}{x:Str}(a:N[i]?=some x)(b:N[j]?=some x):i=j:=by obtain⟨h1,e1⟩:=ak.mp a;obtain⟨h2,e2⟩:=ak.mp b;exact(List.getElem_inj hN).mp (e1.trans e2.symm)
theorem _root_.aU0 (h:True:=by walk_at "iv"):True:=h
theorem wyx {M:Model}{A:Ae}{E:Ag->Ab->Prop}{i:Nat}{x:Str}{v:V}{u:Ag}{Q:Unit->Ab->Prop}(I:Inv X pins σ H s)(hN:X.N.Nodup)(hi:X.N[i]?=some x)(hx:Loc X.env.scope x)(r:RelV v u)
  (h:∀s',Inv X pins (σ.set i (some v)) H s'->(∃a,Heap.SameBut a s.heap s'.heap/\(a=X.env.locals\/X.env.cells.lookup x=some a))->Q () s') (hf:autoParam (X.fn x=true\/X.env.scope.names.lookup x=some .local) aU0._auto_1):wpAny M A (storeName X.env x u) Q E s:=by
 obtain⟨m,hn,hl⟩:=id I.loc;have hcls:(X.env.scope.kind==.class||(X.env.scope.kind==.module&&X.env.locals != X.env.globals))=false:=by rw[I.ok.kind];rfl
 have hiσ:i<σ.length:=by rw[I.len];exact(ak.mp hi).1
 have cne:=I.cne;have tracked:∀ {a:Aj} {h':Heap},(∃o,s.heap.get? a=some o/\H a=none)->Heap.SameBut a s.heap h'->HOk X.prog X.w H h':=λ{a h'} ha hs b ob e=>by
  obtain⟨_,_,hfree⟩:=ha;refine(I.hok b ob e).stay (λc w' hc q=>(hs.2 c ?_).trans q) (λ_ q=>q) λ_ _ q=>q;rintro rfl;rcases hc with rfl|hc
  .rw[hfree]at e;cases e
  .rw[hfree]at hc;cases hc
 rcases hx with hk|hk
 .refine wpAny_storeName_local hk hn (λh' hn' hs=>?_) hcls;obtain⟨oL,_,_,hoL,_⟩:=id hn;refine h _ ⟨I.ok,I.os,I.bare,⟨λb o e n hb hx=>?_,λb o e n hb hx=>?_,I.base.free,λb o e hx=>?_,I.base.tups,I.base.frzs,I.base.tbls⟩,⟨_,hn',λj y v' e1 e2 e3=>?_⟩,λy c e=>?_,I.free,I.freeC,λp hp=>?_,tracked ⟨oL,hoL,I.free⟩ hs,by simpa using I.len⟩ ⟨_,hs,.inl rfl⟩
  .exact(hs.2 b (aE (aO (ao e) I.ok.above))).trans (I.base.keep b o e n hb hx)
  .obtain⟨sl,e1⟩:=I.base.slot b o e n hb hx;exact⟨sl,(hs.2 b (aE (aO (ao e) I.ok.above))).trans e1⟩
  .obtain⟨o',e1⟩:=I.base.there b o e hx;exact⟨o',(hs.2 b (aE (aO (ao e) I.ok.above))).trans e1⟩
  .by_cases hj:j=i
   .subst hj;rw[hi]at e1;cases e1;rw[List.getElem?_set_self hiσ]at e2;cases e2;exact⟨u,r,.inl ⟨hk,by simp⟩⟩
   .rw[List.getElem?_set_ne (dD hj)]at e2;obtain⟨u',r',q⟩:=hl j y v' e1 e2 e3;refine⟨u',r',?_⟩;rcases q with⟨k,e⟩|⟨k,c,e,z⟩
    .refine .inl ⟨k,?_⟩;have:y≠x:=λe=>hj (qun hN e1 (e▸hi));simp[this,e]
    .exact .inr ⟨k,c,e,z.sameBut hs (cne y c e)⟩
  .obtain⟨w',z⟩:=I.cell y c e;exact⟨w',z.sameBut hs (cne y c e)⟩
  .obtain⟨e,n,ne,nf,d⟩:=I.pin p hp;exact⟨(hs.2 p.1 ne).trans e,n,ne,nf,d⟩
 .have hfn:X.fn x=true:=by
   rcases hf with z|z
   .exact z
   .rw[z]at hk;cases hk
  obtain⟨c,hc⟩:=I.ok.has x (.inl hk);obtain⟨w',z⟩:=I.cell x c hc;refine wpAny_storeName_cell I.ok.kind hk hc z (λh' hc' hs=>?_);obtain⟨oc,hoc,hocd⟩:=id z;refine h { s with heap:=h' } ⟨I.ok,I.os,I.bare,⟨λb o e n hb hx=>?_,λb o e n hb hx=>?_,I.base.free,λb o e hx=>?_,I.base.tups,I.base.frzs,I.base.tbls⟩,⟨m,hn.sameBut hs (dD (cne x c hc)),λj y v' e1 e2 e3=>?_⟩,λy c' e=>?_,I.free,I.freeC,λp hp=>?_,tracked ⟨oc,hoc,I.freeC x c hc⟩ hs,by simpa using I.len⟩ ⟨c,hs,.inr hc⟩
  .exact(hs.2 b (aE (aO (ao e) (I.ok.cab x c hfn hc)))).trans (I.base.keep b o e n hb hx)
  .obtain⟨sl,e1⟩:=I.base.slot b o e n hb hx;exact⟨sl,(hs.2 b (aE (aO (ao e) (I.ok.cab x c hfn hc)))).trans e1⟩
  .obtain⟨o',e1⟩:=I.base.there b o e hx;exact⟨o',(hs.2 b (aE (aO (ao e) (I.ok.cab x c hfn hc)))).trans e1⟩
  .by_cases hj:j=i
   .subst hj;rw[hi]at e1;cases e1;rw[List.getElem?_set_self hiσ]at e2;cases e2;exact⟨u,r,.inr ⟨.inl hk,c,hc,hc'⟩⟩
   .rw[List.getElem?_set_ne (dD hj)]at e2;obtain⟨u',r',q⟩:=hl j y v' e1 e2 e3;refine⟨u',r',?_⟩;rcases q with q|⟨k,c',e,z'⟩
    .exact .inl q
    .refine .inr ⟨k,c',e,z'.sameBut hs ?_⟩;rintro rfl;exact hj (qun hN e1 (I.ok.inj _ _ _ e hc▸hi))
  .by_cases hcc:c'=c
   .subst hcc;exact⟨_,hc'⟩
   .obtain⟨w2,z2⟩:=I.cell y c' e;exact⟨w2,z2.sameBut hs hcc⟩
  .obtain⟨e,n,ne,nf,d⟩:=I.pin p hp;refine⟨(hs.2 p.1 ?_).trans e,n,ne,nf,d⟩;intro q;rw[q,hoc]at e;have q':oc=p.2:=aq e;exact d w' (by rw[<-q'];exact hocd)
theorem yx {M:Model}{A:Ae}{E:Ag->Ab->Prop}{i:Nat}{x:Str}{v:V}{u:Ag}{Q:Unit->Ab->Prop}(I:Inv X pins σ H s)(hN:X.N.Nodup)(hi:X.N[i]?=some x)(hx:Loc X.env.scope x)(r:RelV v u)
  (h:∀s',Inv X pins (σ.set i (some v)) H s'->Q () s') (hf:autoParam (X.fn x=true\/X.env.scope.names.lookup x=some .local) aU0._auto_1):wpAny M A (storeName X.env x u) Q E s :=
 wyx I hN hi hx r (λs' I' _=>h s' I') hf
theorem Inv.call' {s':Ab}{ch:List Aj}(I:Inv X pins σ H s)(ho:s'.os=s.os)(u:Un (frs X.stack) ch H H' s.heap s'.heap)(hok:HOk X.prog X.w H' s'.heap)(hg:AllBare s'.gens)
  (hch:∀b∈ch,(b∈X.ex\/X.s₀.heap.objs.size<=b)/\b≠X.env.locals/\(∀x c,X.env.cells.lookup x=some c->c≠b)/\∀p∈X.pn++pins,p.1≠b):Inv X pins σ H' s':=by
 obtain⟨h',g',d',t',o'⟩:=s';have e:o'=s.os:=ho;subst e;exact I.call (g':=g') (t':=t') (d':=d') u hok hg hch
end
abbrev XK:=Ag->Option Aj->Hp->Prop
abbrev St:=List (Option V)
abbrev VK:=V->Hp->Prop
abbrev TE:=St->Hp->VK->Prop
abbrev TT:=St->Hp->(Bool->Hp->Prop)->Prop
abbrev TA:=St->Hp->(List V->Hp->Prop)->Prop
structure Ends where
 nx:St->Hp->Prop
 rt:VK
 bk:St->Hp->Prop:=λ_ _=>False
 ct:St->Hp->Prop:=λ_ _=>False
abbrev TS:=Ends->St->Hp->Prop
def EP (X:Cx)(pins:List (Aj×Obj))(σ:St)(Q:VK)(u:Ag)(s':Ab):Prop:=∃v H',Inv X pins σ H' s'/\RelV v u/\Q v H'
def TP (X:Cx)(pins:List (Aj×Obj))(σ:St)(Q:Bool->Hp->Prop)(b:Bool)(s':Ab):Prop:=∃H',Inv X pins σ H' s'/\Q b H'
def AP (X:Cx)(pins:List (Aj×Obj))(σ:St)(Q:List V->Hp->Prop)(us:List Ag)(s':Ab):Prop:=∃vs H',Inv X pins σ H' s'/\Vals vs us/\Q vs H'
def SP (X:Cx)(pins:List (Aj×Obj))(D:Ends)(f:Flow)(s':Ab):Prop :=
 match f with
 |.next=>∃σ' H',Inv X pins σ' H' s'/\D.nx σ' H'
 |.brk=>∃σ' H',Inv X pins σ' H' s'/\D.bk σ' H'
 |.cont=>∃σ' H',Inv X pins σ' H' s'/\D.ct σ' H'
 |.ret u=>∃v σ' H',Inv X pins σ' H' s'/\RelV v u/\D.rt v H'
def PE (X:Cx)(e:Expr)(t:TE):Prop :=
 ∀(pins:List (Aj×Obj)) (s:Ab) (σ:St) (H:Hp) (Q:VK),Inv X pins σ H s->t σ H Q->wpAny (model X.prog X.w) X.A (eval e X.env) (EP X pins σ Q) X.xe s
def PT (X:Cx)(e:Expr)(t:TT):Prop :=
 ∀(pins:List (Aj×Obj)) (s:Ab) (σ:St) (H:Hp) (Q:Bool->Hp->Prop),Inv X pins σ H s->t σ H Q->wpAny (model X.prog X.w) X.A (isTrue e X.env (eval e X.env)) (TP X pins σ Q) X.xe s
def PW (X:Cx)(e:Expr)(t:TT):Prop :=
 ∀(whole:Sem Ag) (pins:List (Aj×Obj)) (s:Ab) (σ:St) (H:Hp) (Q:Bool->Hp->Prop),Inv X pins σ H s->t σ H Q->wpAny (model X.prog X.w) X.A (isTrue e X.env whole) (TP X pins σ Q) X.xe s
theorem PW.pt {X:Cx}{e:Expr}{t:TT}(h:PW X e t):PT X e t:=h _
def PA (X:Cx)(es:List Expr)(t:TA):Prop :=
 ∀(pos:Pos) (pins:List (Aj×Obj)) (s:Ab) (σ:St) (H:Hp) (Q:List V->Hp->Prop),Inv X pins σ H s->t σ H Q->wpAny (model X.prog X.w) X.A (spliced (backTo pos (starEach es X.env))) (AP X pins σ Q) X.xe s
def PS (X:Cx)(st:Stmt)(t:TS):Prop :=
 ∀(pins:List (Aj×Obj)) (s:Ab) (σ:St) (H:Hp) (D:Ends),Inv X pins σ H s->t D σ H->wpAny (model X.prog X.w) X.A (exec st X.env) (SP X pins D) X.xe s
def PSs (X:Cx)(st:List Stmt)(t:TS):Prop :=
 ∀(pins:List (Aj×Obj)) (s:Ab) (σ:St) (H:Hp) (D:Ends),Inv X pins σ H s->t D σ H->wpAny (model X.prog X.w) X.A (execs st X.env) (SP X pins D) X.xe s
theorem thn {α:Type}{t:Sem α}{Q Q':α->Ab->Prop}{M:Model}{A:Ae}{E:Ag->Ab->Prop}{s:Ab}(h:wpAny M A t Q E s)(hQ:∀a s,Q a s->Q' a s):wpAny M A t Q' E s:=bi h hQ λ_ _ x=>x
section
variable {X:Cx}
def j4 (i:Nat):TE:=λσ H Q=>∃v,σ[i]?=some (some v)/\Q v H
def tC (v:V):TE:=λ_ H Q=>Q v H
theorem _root_.aU1 (h:True:=by decide):True:=h
theorem pe_var {i:Nat}{x:Str}{pos:Pos}(hN:X.N[i]?=some x)(hv:Vis X.env.scope x)(hd:autoParam ((x==("__debug__" : Str))=false) aU1._auto_1)(hcd:autoParam ((x==("__classdict__" : Str))=false) aU1._auto_1):PE X (.Name x pos) (j4 i):=by
 intro pins s σ H Q I h;obtain⟨v,e,h⟩:=h;obtain⟨m,hn,hl⟩:=I.loc;obtain⟨u,r,l⟩:=hl i x v hN e hv;have fin:EP X pins σ Q u s:=⟨v,H,I,r,h⟩;rcases l with⟨hk,hm⟩|⟨hk,c,hc,hcell⟩
 .exact wpAny_Name (wpAny_loadName_local I.ok.kind hk hn hm fin) hd
 .rcases hk with hk|hk
  .exact wpAny_Name (wpAny_loadName_cell I.ok.kind hk hc hcell fin) hd
  .exact wpAny_Name (wpAny_loadName_free I.ok.kind hk hc hcell fin hcd) hd
theorem qx {i j pos}:PE X (.Constant (.int i) j pos) (tC (.int i)):=λ_ _ _ H _ I h=>wpAny_Constant_int ⟨.int i,H,I.tok _,⟨_,rfl⟩,h⟩
theorem qqb {b j pos}:PE X (.Constant (.bool b) j pos) (tC (.bl b)):=λ_ _ _ H _ I h=>Constant_bool ⟨.bl b,H,I,rfl,h⟩
theorem qj0 {j pos}:PE X (.Constant .none j pos) (tC .non):=λ_ _ _ H _ I h=>Constant_none ⟨.non,H,I,rfl,h⟩
theorem Jd {x j pos}:PE X (.Constant (.str x) j pos) (tC (.str x)):=λ_ _ _ H _ I h=>Calls.Constant_str ⟨.str x,H,I.tok _,⟨_,rfl⟩,h⟩
def Gl (X:Cx)(x:Str):Prop:=X.env.kindOf x=some .globalImplicit
theorem qwx {E:Ag->Ab->Prop}{pins:List (Aj×Obj)}{s:Ab}{σ:St}{H:Hp}{x:Str}{u:Ag}{pos:Pos}{Q:Ag->Ab->Prop}(I:Inv X pins σ H s)(hg:Gl X x)(hm:X.mg x=some u)(h:Q u s)
  (hd:autoParam ((x==("__debug__" : Str))=false) aU1._auto_1):wpAny (model X.prog X.w) X.A (eval (.Name x pos) X.env) Q E s :=
 Calls.Name_function_global I.ok.kind hg (Calls.loadGlobal_global (by rw[I.ok.glob];exact I.mod.glob.keeps I.bk) hm h) hd
theorem _root_.aU2 (h:True:= by decide):True:=h
theorem yr {E:Ag->Ab->Prop}{pins:List (Aj×Obj)}{s:Ab}{σ:St}{H:Hp}{x:Str}{u:Ag}{pos:Pos}{Q:Ag->Ab->Prop}(I:Inv X pins σ H s)(hg:Gl X x)(hm:X.mg x=none)(hv:bootBuiltins x=some u)(h:Q u s)
  (hn:autoParam (x ≠ "__name__") aU2._auto_1) (hd:autoParam ((x==("__debug__" : Str))=false) aU1._auto_1):wpAny (model X.prog X.w) X.A (eval (.Name x pos) X.env) Q E s:=by
 obtain⟨mb,h1,h2⟩:=I.mod.blt;exact Calls.Name_function_global I.ok.kind hg (Calls.loadGlobal_builtin (by rw[I.ok.glob];exact I.mod.glob.keeps I.bk) hm (by rw[I.ok.blt];exact h1.keeps I.bk) ((h2 x hn).trans hv) h) hd
theorem qwc {x:Str}{v:V}{u:Ag}{pos:Pos}(hg:Gl X x)(hm:X.mg x=some u)(r:RelV v u)(hd:autoParam ((x==("__debug__" : Str))=false) aU1._auto_1):PE X (.Name x pos) (tC v) :=
 λ_ _ _ H _ I h=>qwx I hg hm ⟨v,H,I,r,h⟩ hd
theorem W6 {x:Str}{v:V}{u:Ag}{pos:Pos}(hg:Gl X x)(hm:X.mg x=none)(hv:bootBuiltins x=some u)(r:RelV v u)(hn:autoParam (x ≠ "__name__") aU2._auto_1)(hd:autoParam ((x==("__debug__" : Str))=false) aU1._auto_1):PE X (.Name x pos) (tC v) :=
 λ_ _ _ H _ I h=>yr I hg hm hv ⟨v,H,I,r,h⟩ hn hd
variable {a b:Expr}{ta tb:TE}{pos:Pos}
def tB (t:TE):TT:=λσ H Q=>t σ H λx H1=>∃c,x=.bl c/\Q c H1
theorem _root_.aU3 (h:True:=by intro _;rfl):True:=h
theorem Qb {e:Expr}{t:TE}(h:PE X e t)(he:autoParam (∀whole,isTrue e X.env whole=(do let v <-whole;standAt e.pos;holding [v] (truthy v))) aU3._auto_1):PT X e (tB t):=by intro pins s σ H Q I hw;refine isTrue_plain (thn (h pins s σ H _ I hw) λv s1 ⟨x,H1,I1,r1,q1⟩=>?_) (he _);obtain⟨d,rfl,q⟩:=q1;cases r1;exact dt ⟨H1,I1,q⟩
variable {tA tB':TT}{rest:List Expr}
def tAnd (t u:TT):TT:=λσ H Q=>t σ H λc H1=>if c=true then u σ H1 Q else Q false H1
def tOr (t u:TT):TT:=λσ H Q=>t σ H λc H1=>if c=true then Q true H1 else u σ H1 Q
def tNot (t:TT):TT:=λσ H Q=>t σ H λc H1=>Q (!c) H1
theorem W1 (ha:PT X a tA):PW X (.BoolOp .And [a] pos) tA:=by
 intro wh pins s σ H Q I h;refine isTrue_and (thn (ha pins s σ H Q I h) λc s1 e=>?_);cases c with
 |true=>exact isTrue_and_nil e
 |false=>exact e
theorem yq (ha:PT X a tA):PW X (.BoolOp .Or [a] pos) tA:=by
 intro wh pins s σ H Q I h;refine isTrue_or (thn (ha pins s σ H Q I h) λc s1 e=>?_);cases c with
 |false=>exact isTrue_or_nil e
 |true=>exact e
theorem Yt (ha:PT X a tA)(hb:PW X (.BoolOp .And (b::rest) pos) tB'):PW X (.BoolOp .And (a::b::rest) pos) (tAnd tA tB'):=by
 intro wh pins s σ H Q I h;refine isTrue_and (thn (ha pins s σ H _ I h) λc s1 ⟨H1,I1,q1⟩=>?_);cases c with
 |true=>exact hb wh pins s1 σ H1 Q I1 q1
 |false=>exact⟨H1,I1,q1⟩
theorem Qr (ha:PT X a tA)(hb:PW X (.BoolOp .Or (b::rest) pos) tB'):PW X (.BoolOp .Or (a::b::rest) pos) (tOr tA tB'):=by
 intro wh pins s σ H Q I h;refine isTrue_or (thn (ha pins s σ H _ I h) λc s1 ⟨H1,I1,q1⟩=>?_);cases c with
 |true=>exact⟨H1,I1,q1⟩
 |false=>exact hb wh pins s1 σ H1 Q I1 q1
theorem Qz (ha:PT X a tA):PT X (.UnaryOp .Not a pos) (tNot tA):=by intro pins s σ H Q I h;exact isTrue_not (ha pins s σ H (λc H1=>Q (!c) H1) I h)
def tAndV (ta tb:TE):TE:=λσ H Q=>ta σ H λx H1=>∃c,x=.bl c/\if c=true then tb σ H1 Q else Q (.bl false) H1
def tNotV (ta:TE):TE:=λσ H Q=>ta σ H λx H1=>∃c,x=.bl c/\Q (.bl (!c)) H1
theorem Js {op}{t:TE}(h:PE X a t):PE X (.BoolOp op [a] pos) t:=λpins s σ H Q I hw=>BoolOp_one (h pins s σ H Q I hw)
theorem Y7 (ha:PE X a ta)(hb:PE X (.BoolOp .And (b::rest) pos) tb):PE X (.BoolOp .And (a::b::rest) pos) (tAndV ta tb):=by
 intro pins s σ H Q I h;refine BoolOp_and (thn (ha pins s σ H _ I h) λv s1 ⟨x,H1,I1,r1,q1⟩=>?_);obtain⟨c,rfl,q1⟩:=q1;cases r1;refine dt ?_;cases c with
 |true=>exact hb pins s1 σ H1 Q I1 q1
 |false=>exact⟨.bl false,H1,I1,rfl,q1⟩
theorem pe_not (ha:PE X a ta):PE X (.UnaryOp .Not a pos) (tNotV ta):=by intro pins s σ H Q I h;refine UnaryOp_ (thn (ha pins s σ H _ I h) λv s1 ⟨x,H1,I1,r1,q1⟩=>?_);obtain⟨c,rfl,q1⟩:=q1;cases r1;exact not_of (dt ⟨.bl (!c),H1,I1,rfl,q1⟩)
def tIf (t:TT)(ta tb:TE):TE:=λσ H Q=>t σ H λc H1=>if c=true then ta σ H1 Q else tb σ H1 Q
theorem wq6 {c:Expr}(hc:PT X c tA)(ha:PE X a ta)(hb:PE X b tb):PE X (.IfExp c a b pos) (tIf tA ta tb):=by
 intro pins s σ H Q I h;refine wpAny_IfExp (thn (hc pins s σ H _ I h) λd s1 ⟨H1,I1,q1⟩=>?_);cases d with
 |true=>exact ha pins s1 σ H1 Q I1 q1
 |false=>exact hb pins s1 σ H1 Q I1 q1
end
def SqL (K:Aa)(H:Hp)(a:Aj)(xs:List V):Prop :=
 Rd H a (.lst xs) \/
  ∃(o:Obj) (its:Array Ag) (n:Nat),K.lookup a=some o/\o.cls=.type "list" /\ o.dict=none/\o.data=.seq its n/\its.size<=sizeLine/\Vals xs its.toList
def SqT (K:Aa)(H:Hp)(a:Aj)(xs:List V):Prop :=
 Rd H a (.tup xs) \/
  ∃(o:Obj) (its:Array Ag) (n:Nat),K.lookup a=some o/\o.cls=.type "tuple" /\ o.data=.seq its n/\its.size<=sizeLine/\Vals xs its.toList
def absV:Ag->Option V
 |.none=>some .non
 |.bool b=>some (.bl b)
 |.int i _=>some (.int i)
 |.str x _=>some (.str x)
 |.bytes b _=>some (.byt b)
 |.float b _=>some (.flt b)
 |.ref a=>some (.ref a)
 |.type n=>some (.ty n)
 |_=>none
theorem RelV.abs {x:V}{u:Ag}(r:RelV x u):absV u=some x:=by
 cases x with
 |non=>cases r;rfl
 |bl _=>cases r;rfl
 |int _=>obtain⟨t,rfl⟩:=r;rfl
 |str _=>obtain⟨t,rfl⟩:=r;rfl
 |byt _=>obtain⟨t,rfl⟩:=r;rfl
 |flt _=>obtain⟨t,rfl⟩:=r;rfl
 |ref _=>cases r;rfl
 |ty _=>cases r;rfl
theorem RelV.inj {x y:V}{u:Ag}(r:RelV x u)(q:RelV y u):x=y:=aq (r.abs.symm.trans q.abs)
theorem Vals.inj:∀ {xs ys:List V} {us:List Ag},Vals xs us->Vals ys us->xs=ys
 |_,_,_,.nil,.nil=>rfl
 |_,_,_,.cons r t,.cons r' t'=>by rw[r.inj r',Vals.inj t t']
section
variable {X:Cx}{pins:List (Aj×Obj)}{σ:St}{H:Hp}{s:Ab}{a:Aj}{xs ys:List V}
theorem SqL.of {K:Aa}(h:H a=some (.lst xs)):SqL K H a xs:=.inl (.inl h)
theorem SqT.of {K:Aa}(h:H a=some (.tup xs)):SqT K H a xs:=.inl (.inl h)
theorem Inv.list (I:Inv X pins σ H s)(h:SqL X.K H a xs):∃its:List Ag,Vals xs its/\PlainL s.heap a its.toArray/\xs.length<=sizeLine:=by
 rcases h with h|⟨o,its,n,hk,hc,hd,hs,hz,r⟩
 .obtain⟨z,its,n,r,e⟩:=h.ok I.hok;exact⟨its,r,⟨_,n,e,rfl,rfl,rfl⟩,z⟩
 .refine⟨its.toList,r,⟨o,n,I.kIn a o hk,hc,hd,by simpa using hs⟩,?_⟩;have e:=r.length;simp only[bf]at e;lia
theorem Inv.tuple (I:Inv X pins σ H s)(h:SqT X.K H a xs):∃its:List Ag,Vals xs its/\IsTup s.heap a its.toArray/\xs.length<=sizeLine:=by
 rcases h with h|⟨o,its,n,hk,hc,hs,hz,r⟩
 .obtain⟨z,its,r,p⟩:=h.ok I.hok;exact⟨its,r,p,z⟩
 .refine⟨its.toList,r,⟨o,I.kIn a o hk,hc,n,by simpa using hs⟩,?_⟩;have e:=r.length;simp only[bf]at e;lia
theorem Inv.list_inj (I:Inv X pins σ H s)(h:SqL X.K H a xs)(h':SqL X.K H a ys):xs=ys:=by
 obtain⟨its,r,⟨o,n,e,_,_,d⟩,_⟩:=I.list h;obtain⟨its',r',⟨o',n',e',_,_,d'⟩,_⟩:=I.list h';rw[e]at e';cases e';rw[d]at d';injection d' with d1 _;have:its=its':=by simpa using cr Array.toList d1
 subst this;exact r.inj r'
theorem Inv.tuple_inj (I:Inv X pins σ H s)(h:SqT X.K H a xs)(h':SqT X.K H a ys):xs=ys:=by
 obtain⟨its,r,⟨o,e,_,n,d⟩,_⟩:=I.tuple h;obtain⟨its',r',⟨o',e',_,n',d'⟩,_⟩:=I.tuple h';rw[e]at e';cases e';rw[d]at d';injection d' with d1 _;have:its=its':=by simpa using cr Array.toList d1
 subst this;exact r.inj r'
end
abbrev Cx.wish (X:Cx)(E:Ag->Ab->Prop):Cx:={ X with xe:=E }
section
variable {X:Cx}{pins:List (Aj×Obj)}{σ:St}{H:Hp}{s:Ab}{E:Ag->Ab->Prop}
end
section
variable {X:Cx}{st:Stmt}{rest:List Stmt}{t u:TS}{e:Expr}{te:TE}{pos:Pos}
def tNext:TS:=λD σ H=>D.nx σ H
def tSeq (t u:TS):TS:=λD σ H=>t { D with nx:=u D } σ H
theorem xg:PSs X [] tNext:=λ_ _ σ H _ I h=>gF ⟨σ,H,I,h⟩
theorem qj (h1:PS X st t)(h2:PSs X rest u):PSs X (st::rest) (tSeq t u):=by
 intro pins s σ H D I h;refine iw (thn (h1 pins s σ H { D with nx:=u D } I h) λf s1 q=>?_);cases f with
 |next =>
  obtain⟨σ',H',I',q⟩:=q;exact h2 pins s1 σ' H' D I' q
 |ret v=>exact q
 |brk=>exact q
 |cont=>exact q
theorem qh (h1:PS X st t):PSs X [st] t:=by
 intro pins s σ H D I h;refine iw (thn (h1 pins s σ H D I h) λf s1 q=>?_);cases f with
 |next=>exact gF q
 |ret v=>exact q
 |brk=>exact q
 |cont=>exact q
theorem Inv.quiet {pins:List (Aj×Obj)}{σ:St}{H:Hp}{s:Ab}(I:Inv X pins σ H s):interactive X.env=false:=by simp[interactive,I.ok.kind]
def tDrop (te:TE):TS:=λD σ H=>te σ H λ_ H1=>D.nx σ H1
theorem _root_.aU4 (h:True:=by rfl):True:=h
theorem vy (he:PE X e te)(hs:autoParam (swapsWith e none pos.line X.env=pure false) aU4._auto_1):PS X (.Expr e pos) (tDrop te):=by intro pins s σ H D I h;exact wpAny_Expr_any (thn (he pins s σ H _ I h) λv s1 ⟨x,H1,I1,r1,q1⟩=>⟨σ,H1,I1,q1⟩) I.quiet hs
def tRet (te:TE):TS:=λD σ H=>te σ H D.rt
theorem xw (he:PE X e te):PS X (.Return (some e) pos) (tRet te):=by intro pins s σ H D I h;exact wpAny_Return_some (thn (he pins s σ H _ I h) λv s1 ⟨x,H1,I1,r1,q1⟩=>⟨x,σ,H1,I1,r1,q1⟩)
def tIfS (c:TT)(t u:TS):TS:=λD σ H=>c σ H λb H1=>if b=true then t D σ H1 else u D σ H1
theorem zr {c:Expr}{a b:List Stmt}{tc:TT}(hc:PT X c tc)(ha:PSs X a t)(hb:PSs X b u):PS X (.If c a b pos) (tIfS tc t u):=by
 intro pins s σ H D I h;refine wpAny_If (thn (hc pins s σ H _ I h) λd s1 ⟨H1,I1,q1⟩=>?_);cases d with
 |true=>exact ha pins s1 σ H1 D I1 q1
 |false=>exact hb pins s1 σ H1 D I1 q1
end
abbrev TG:=V->St->Hp->(St->Hp->Prop)->Prop
abbrev TGs:=List V->St->Hp->(St->Hp->Prop)->Prop
def PG (X:Cx)(target:Expr)(t:TG):Prop :=
 ∀(pins:List (Aj×Obj)) (s:Ab) (σ:St) (H:Hp) (v:V) (u:Ag) (Q:St->Hp->Prop),Inv X pins σ H s->RelV v u->t v σ H Q ->
  wpAny (model X.prog X.w) X.A (assign target X.env u) (λ_ s'=>∃σ' H',Inv X pins σ' H' s'/\Q σ' H') X.xe s
def PGs (X:Cx)(ts:List Expr)(t:TGs):Prop :=
 ∀(pins:List (Aj×Obj)) (s:Ab) (σ:St) (H:Hp) (vs:List V) (us:List Ag) (Q:St->Hp->Prop),Inv X pins σ H s->Vals vs us->t vs σ H Q ->
  wpAny (model X.prog X.w) X.A (assignInOrder ((assignEach ts X.env).map (·.2)) us) (λ_ s'=>∃σ' H',Inv X pins σ' H' s'/\Q σ' H') X.xe s
abbrev TIp:=V->V->Hp->VK->Prop
def PIp (X:Cx)(op:Operator)(t:TIp):Prop :=
 ∀(pins:List (Aj×Obj)) (s:Ab) (σ:St) (H:Hp) (x y:V) (v u:Ag) (Q:VK),Inv X pins σ H s->RelV x v->RelV y u->t x y H Q ->
  wpAny (model X.prog X.w) X.A (inplaceOp op v u) (EP X pins σ Q) X.xe s
section
variable {X:Cx}{pos:Pos}
def Z9 (i:Nat):TG:=λv σ H Q=>Q (σ.set i (some v)) H
theorem _root_.aU5 (h:True:=by walk_at "loc"):True:=h
theorem _root_.aU6 (h:True:=by exact FnScope.nd (by assumption)):True:=h
theorem xy {i:Nat}{x:Str}(hN:autoParam (X.N.Nodup) aU6._auto_1)(hi:autoParam (X.N[i]?=some x) aU4._auto_1)(hx:autoParam (Loc X.env.scope x) aU5._auto_1)(hf:autoParam (X.fn x=true\/X.env.scope.names.lookup x=some .local) aU0._auto_1):PG X (.Name x pos) (Z9 i):=by intro pins s σ H v u Q I r h;exact ie (yx I hN hi hx r (λs' I'=>⟨_,H,I',h⟩) hf)
def gNil:TGs:=λvs σ H Q=>vs=[]/\Q σ H
def xw2 (t:TG)(u:TGs):TGs:=λvs σ H Q=>∃v r,vs=v::r/\t v σ H λσ' H'=>u r σ' H' Q
theorem jb:PGs X [] gNil:=by intro pins s σ H vs us Q I r h;obtain⟨e,h⟩:=h;subst e;cases r;exact assignInOrder_nil ⟨σ,H,I,h⟩
theorem zk {e:Expr}{es:List Expr}{t:TG}{u:TGs}(h1:PG X e t)(h2:PGs X es u)
  (hs:autoParam ((assignEach (e::es) X.env).map (·.2)=assign e X.env::(assignEach es X.env).map (·.2)) aU4._auto_1):PGs X (e::es) (xw2 t u):=by
 intro pins s σ H vs us Q I r h;obtain⟨v,vr,e1,h⟩:=h;subst e1;cases r with
 |cons r rr =>
  rw[hs];refine gQ (thn (h1 pins s σ H _ _ _ I r h) λ_ s1 ⟨σ1,H1,I1,q1⟩=>?_);exact h2 pins s1 σ1 H1 _ _ Q I1 rr q1
def gTup (K:Aa)(n:Nat)(t:TGs):TG:=λv σ H Q=>∃a xs,v=.ref a/\SqT K H a xs/\xs.length=n/\t xs σ H Q
theorem y7 {es:List Expr}{k:Nat}{t:TGs}{n:Nat}(hc:X.calm=true)(h:PGs X es t)
  (hn:autoParam ((assignEach es X.env).length=n) aU4._auto_1) (hst:autoParam ((assignEach es X.env).findIdx? (·.1)=none) aU4._auto_1):PG X (.Tuple es k pos) (gTup X.K n t):=by
 intro pins s σ H v u Q I r hw;obtain⟨a,xs,e1,hq,hl,hw⟩:=hw;subst e1;cases r;obtain⟨its,rv,ht,hz⟩:=I.tuple hq;refine assign_Tuple_tuple (I.ok.hd hc) ht (by simp[hn,<-hl,rv.length]) hst λh' hx=>?_;have I1:Inv X pins σ H { s with heap:=h' }:=I.kept (t':=s.toks) λb o e=>hx b o (aE (ao e)) e;exact h pins _ σ H xs _ Q I1 (by simpa using rv) hw
def tAsg (te:TE)(g:TG):TS:=λD σ H=>te σ H λx H1=>g x σ H1 D.nx
theorem u7 {tg e:Expr}{te:TE}{g:TG}(he:PE X e te)(hg:PG X tg g)(hs:autoParam (swapsWithSole [tg] e pos.line X.env=pure false) aU4._auto_1)(hw:autoParam (swappedStores [tg] e X.env=pure none) aU4._auto_1)
  (h1:autoParam ((assignEach [tg] X.env).map (·.2)=[assign tg X.env]) aU4._auto_1):PS X (.Assign [tg] e pos) (tAsg te g):=by
 intro pins s σ H D I h;refine wpAny_Assign_stores (thn (he pins s σ H _ I h) λv s1 ⟨x,H1,I1,r1,q1⟩=>?_) hs hw;rw[h1];exact thn (hg pins s1 σ H1 x v _ I1 r1 q1) λ_ s2 q=>q
theorem wg {i:Nat}{x:Str}{e:Expr}{te:TE}{pos':Pos}(he:PE X e te)(hN:autoParam (X.N.Nodup) aU6._auto_1)(hi:autoParam (X.N[i]?=some x) aU4._auto_1)(hx:autoParam (Loc X.env.scope x) aU5._auto_1)(hs:autoParam (swapsWith e (some (.Name x pos')) pos.line X.env=pure false) aU4._auto_1)(hf:autoParam (X.fn x=true\/X.env.scope.names.lookup x=some .local) aU0._auto_1) :
  PS X (.Assign [.Name x pos'] e pos) (tAsg te (Z9 i)):=by
 intro pins s σ H D I h;refine wpAny_Assign_Name (thn (he pins s σ H _ I h) λv s1 ⟨y,H1,I1,r1,q1⟩=>?_) hs;exact yx I1 hN hi hx r1 (λs2 I2=>⟨_,H1,I2,q1⟩) hf
def tPar (i j:Nat)(ta:TA):TS:=λD σ H=>ta σ H λvs H1=>∃v w,vs=[v,w]/\D.nx ((σ.set i (some v)).set j (some w)) H1
theorem xqf {i j:Nat}{x y:Str}{a b:Expr}{ta:TA}{px py pt:Pos}{kt k2 pt2}(hc:X.calm=true)(hN:X.N.Nodup)(hi:X.N[i]?=some x)(hj:X.N[j]?=some y)(hij:i≠j)
  (hx:X.env.scope.names.lookup x=some .local) (hy:X.env.scope.names.lookup y=some .local) (ha:PA X [a,b] ta)
  (hw:swappedStores [.Tuple [.Name x px,.Name y py] kt pt] (.Tuple [a,b] k2 pt2) X.env=pure (some [x,y]))
  (hs:autoParam (swapsWithSole [.Tuple [.Name x px,.Name y py] kt pt] (.Tuple [a,b] k2 pt2) pos.line X.env=pure false) aU4._auto_1) :
  PS X (.Assign [.Tuple [.Name x px,.Name y py] kt pt] (.Tuple [a,b] k2 pt2) pos) (tPar i j ta):=by
 intro pins s σ H D I h;rw[exec_Assign_arm];refine ae (dj ?_);rw[hs];refine ae (aj ?_);rw[ar ⋯];refine ae (Tuple_ (thn (ha _ pins s σ H _ I h) λus s1 ⟨vs,H1,I1,r1,q1⟩=>?_));obtain⟨v,w,e1,q1⟩:=q1;subst e1;obtain⟨u1,u2,rfl,rv,rw'⟩:∃u1 u2,us=[u1,u2]/\RelV v u1/\RelV w u2:=by
  cases r1 with
  |cons p q =>
   cases q with
   |cons p' q' =>
    cases q';exact⟨_,_,rfl,p,p'⟩
 refine cT ?_ (by show 2<=sizeLine;decide);have I2:Inv X pins σ H1 { s1 with heap:=s1.heap.push { cls:=.type "tuple",data:=.seq [u1,u2].toArray } }:=I1.kept (t':=s1.toks) λb o e=>ai _ e;rw[hw];refine ae (aj ?_);show wpAny (model X.prog X.w) X.A (do rule "assign.swapped-stores";let items <-unpackItems (.ref s1.heap.objs.size) 2 none;assignInOrder [λv=>bindName X.env y v,λv=>bindName X.env x v] items.reverse;pure Flow.next) _ _ _;refine ae (dg (ae (unpackItems_tuple (items:=#[u1,u2]) (I.ok.hd hc) (IsTup.new s1.heap _) λh' hx'=>?_)));have I3:=I2.kept (h':=h') (t':=s1.toks) λb o e=>hx' b o (aE (ao e)) e;show wpAny _ _ (assignInOrder [λv=>bindName X.env y v,λv=>bindName X.env x v] [u2,u1] >>= λ_=>pure Flow.next) _ _ _;refine ae (gQ (wpAny_bindName (yx I3 hN hj (.inl hy) rw' (λs2 I4=>?_) (.inr hy))));refine gQ (wpAny_bindName (yx I4 hN hi (.inl hx) rv (λs3 I5=>assignInOrder_nil (aj ?_)) (.inr hx)));rw[List.set_comm _ _ (dD hij)]at I5;exact⟨_,H1,I5,q1⟩
def tAug (i:Nat)(te:TE)(ti:TIp):TS:=λD σ H=>∃x,σ[i]?=some (some x)/\te σ H λy H1=>ti x y H1 λz H2=>D.nx (σ.set i (some z)) H2
theorem qyf {i:Nat}{x:Str}{e:Expr}{te:TE}{op:Operator}{ti:TIp}{pos':Pos}(hN:X.N.Nodup)(hi:X.N[i]?=some x)(hx:Loc X.env.scope x)(he:PE X e te)(ho:PIp X op ti)(hf:autoParam (X.fn x=true\/X.env.scope.names.lookup x=some .local) aU0._auto_1) :
  PS X (.AugAssign (.Name x pos') op e pos) (tAug i te ti):=by
 intro pins s σ H D I h;obtain⟨v,e1,h⟩:=h;obtain⟨m,hn,hl⟩:=I.loc;have vis:Vis X.env.scope x:=by rcases hx with k|k;exact .inl k;exact .inr (.inl k)
 obtain⟨u,r,l⟩:=hl i x v hi e1 vis;refine wpAny_AugAssign_Name ?_;have go:wpAny (model X.prog X.w) X.A (eval e X.env) (λw s₂=>wpAny (model X.prog X.w) X.A (inplaceOp op u w) (λr s₃=>wpAny (model X.prog X.w) X.A (storeName X.env x r) (λ_=>SP X pins D .next) X.xe s₃) X.xe s₂) X.xe s:=by refine thn (he pins s σ H _ I h) λw s1 ⟨y,H1,I1,r1,q1⟩=>?_;refine thn (ho pins s1 σ H1 v y u w _ I1 r r1 q1) λz s2 ⟨zv,H2,I2,r2,q2⟩=>?_;exact yx I2 hN hi hx r2 (λs3 I3=>⟨_,H2,I3,q2⟩) hf
 rcases l with⟨hk,hm⟩|⟨hk,c,hc,hcell⟩
 .exact wpAny_loadName_local I.ok.kind hk hn hm go
 .rcases hk with hk|hk
  .exact wpAny_loadName_cell I.ok.kind hk hc hcell go
  .rcases hx with k|k
   .have:X.env.scope.names.lookup x=some .free:=hk;rw[k]at this;cases this
   .have:X.env.scope.names.lookup x=some .free:=hk;rw[k]at this;cases this
def ipI (f:Int->Int->Int):TIp:=λx y H Q=>∃i j,x=.int i/\y=.int j/\Q (.int (f i j)) H
theorem xw4:PIp X .Add (ipI λi j=>i+j):=by intro pins s σ H x y v u Q I r1 r2 h;obtain⟨i,j,e1,e2,q⟩:=h;subst e1;subst e2;obtain⟨t,rfl⟩:=r1;obtain⟨t',rfl⟩:=r2;exact iadd_int ⟨.int _,H,I.tok _,⟨_,rfl⟩,q⟩
end
section
variable {X:Cx}{pos:Pos}
def wxv (c:TT)(tb:TS):TS:=λD σ H=>∃W:Nat->St->Hp->Prop,(∃m,W m σ H)/\∀m σ H,W m σ H ->
 c σ H λb H1=>if b=true then ∃N:St->Hp->Prop,(∀σ' H',N σ' H'->∃m',m'<m/\W m' σ' H')/\tb { D with nx:=N,ct:=N,bk:=D.nx } σ H1 else D.nx σ H1
theorem Q6 {c:Expr}{body:List Stmt}{tc:TT}{tb:TS}(hp:PassesOwn (model X.prog X.w) X.A X.env X.xe)(hc:PT X c tc)(hb:PSs X body tb):PS X (.While c body [] pos) (wxv tc tb):=by
 intro pins s σ H D I h;obtain⟨W,⟨m0,w0⟩,turn⟩:=h;refine wpAny_While (codeAny_whileLoop (λn s'=>∃σ' H',Inv X pins σ' H' s'/\W n σ' H') ?_ m0 ⟨σ,H,I,w0⟩);rintro n s1 ⟨σ1,H1,I1,w1⟩;refine dW hp (thn (hc pins s1 σ1 H1 _ I1 (turn n σ1 H1 w1)) λb s2 ⟨H2,I2,q2⟩=>?_);cases b with
 |true =>
  obtain⟨N,hN,q2⟩:=q2;rw[aw rfl];refine dW hp (thn (hb pins s2 σ1 H2 _ I2 q2) λf s3 q3=>?_);cases f with
  |next =>
   obtain⟨σ3,H3,I3,n3⟩:=q3;obtain⟨m',hm,w3⟩:=hN σ3 H3 n3;exact⟨m',hm,σ3,H3,I3,w3⟩
  |cont =>
   obtain⟨σ3,H3,I3,n3⟩:=q3;obtain⟨m',hm,w3⟩:=hN σ3 H3 n3;exact⟨m',hm,σ3,H3,I3,w3⟩
  |brk=>exact q3
  |ret v=>exact q3
 |false =>
  rw[ar aK];exact gF ⟨σ1,H2,I2,q2⟩
end
structure It where
 go:Nat->Hp->Prop
 yld:Nat->Hp->V->Hp->Prop
 stop:Nat->Hp->Prop
def kv (X:Cx)(pins:List (Aj×Obj))(H:Hp)(b:Aj):Prop :=
 H b=none/\b≠X.env.locals/\b∉X.fs/\(b∈X.ex\/X.s₀.heap.objs.size<=b)/\(∀x c,X.env.cells.lookup x=some c->c≠b)/\∀p∈X.pn++pins,p.1≠b
theorem Inv.fpOk {X:Cx}{pins:List (Aj×Obj)}{σ:St}{H H':Hp}{s:Ab}{b:Aj}(I:Inv X pins σ H s)(hb:s.heap.objs.size<=b)(hn:H' b=none):kv X pins H' b:=by
 refine⟨hn,eU (aO I.lt hb),I.nofs hb,.inr (bM I.sz hb),λx c e z=>?_,λp hp z=>?_⟩
 .obtain⟨v,q⟩:=I.cell x c e;exact absurd (aO q.lt (by rw[z];exact hb)) (be _)
 .exact absurd (aO (ao (I.pin p hp).1) (by rw[z];exact hb)) (be _)
structure Turn (P:Ac)(w:Ah)(K:Aa)(tg:Expr)(J:It)(fp:List Aj)(it:Aj)(tn:Nat->Heap->Prop):Prop where
 mem:it∈fp
 obj:∀i h,tn i h->∀b∈fp,∃o,h.get? b=some o/\∀v,o.data≠.cell v
 keep:∀i h h',tn i h->(∀b∈fp,∀o,h.get? b=some o->h'.get? b=some o)->tn i h'
 item:∀(X:Cx),X.prog=P->X.w=w->X.K=K->X.calm=true->∀(i:Nat) (pins:List (Aj×Obj)) (s:Ab) (σ:St) (H:Hp) (E:Ag->Ab->Prop),Inv X pins σ H s->(∀b∈fp,kv X pins H b)->tn i s.heap->J.go i H ->
  wpAny (model P w) X.A (pyNext (.ref it)) (λr s1=>∃u,r=some u /\
   wpAny (model P w) X.A (letOwnedTupleGo tg (.ref it) u) (λ_ s2=>∃x H',Inv X pins σ H' s2/\RelV x u/\J.yld i H x H'/\tn (i+1) s2.heap/\∀b∈fp,H' b=none) E s1) E s
 done:∀(X:Cx),X.prog=P->X.w=w->X.K=K->X.calm=true->∀(i:Nat) (pins:List (Aj×Obj)) (s:Ab) (σ:St) (H:Hp) (E:Ag->Ab->Prop),Inv X pins σ H s->(∀b∈fp,kv X pins H b)->tn i s.heap->J.stop i H ->
  wpAny (model P w) X.A (pyNext (.ref it)) (λr s1=>r=none/\Inv X pins σ H s1) E s
 self:∀(A:Ae) (i:Nat) (s:Ab) (Q:Ag->Ab->Prop) (E:Ag->Ab->Prop),tn i s.heap->Q (.ref it) s->wpAny (model P w) A (pyIter (.ref it)) Q E s
abbrev TI:=St->Hp->(It->Hp->Prop)->Prop
def PIE (X:Cx)(pins:List (Aj×Obj))(σ:St)(tg:Expr)(R:It->Hp->Prop)(itv:Ag)(s2:Ab):Prop :=
 ∃(it:Aj) (fp:List Aj) (tn:Nat->Heap->Prop) (J:It) (H':Hp),itv=.ref it/\Inv X pins σ H' s2/\Turn X.prog X.w X.K tg J fp it tn/\tn 0 s2.heap/\(∀b∈fp,kv X pins H' b)/\R J H'
def PI (X:Cx)(tg iter:Expr)(wi:TI):Prop :=
 ∀(pins:List (Aj×Obj)) (s:Ab) (σ:St) (H:Hp) (R:It->Hp->Prop),Inv X pins σ H s->wi σ H R ->
  wpAny (model X.prog X.w) X.A (eval iter X.env) (λv s1=>wpAny (model X.prog X.w) X.A (pyIter v) (PIE X pins σ tg R) X.xe s1) X.xe s
theorem wvp {M:Model}{A:Ae}{E:Ag->Ab->Prop}{s:Ab}{tg:Expr}{it:Aj}{u:Ag}{o:Obj}{n:String}{vs:Array Ag}{Q:Unit->Ab->Prop}(ho:s.heap.get? it=some o)(hc:o.cls=.type n)(hd:o.data=.fields vs)
  (hn:["enumerate","zip","dict_itemiterator","dict_reverseitemiterator","odict_iterator","itertools.zip_longest","itertools.pairwise"].contains n=false) (hQ:Q () s):wpAny M A (letOwnedTupleGo tg (.ref it) u) Q E s:=by
 unfold letOwnedTupleGo;cases tg <;> first
  |exact aj hQ
  |(cases u <;> first
    |exact aj hQ
    |(refine ae (wpAny_load ho ?_)
      rw[hc,hd]
      show wpAny M A (if(["enumerate","zip","dict_itemiterator","dict_reverseitemiterator","odict_iterator","itertools.zip_longest","itertools.pairwise"].contains n&&vs[0]?==some (rawInt _))=true then _ else _) Q E s
      rw[ar (by intro h;rw[hn,iT]at h;cases h)]
      exact aj hQ))
def Itl (K:Aa)(a:Aj):It :=
 ⟨λi H=>∃xs x,SqL K H a xs/\xs[i]?=some x,λi H x H'=>H'=H/\∀xs,SqL K H a xs->xs[i]?=some x,λi H=>∃xs,SqL K H a xs/\xs.length<=i⟩
def Itt (K:Aa)(a:Aj):It :=
 ⟨λi H=>∃xs x,SqT K H a xs/\xs[i]?=some x,λi H x H'=>H'=H/\∀xs,SqT K H a xs->xs[i]?=some x,λi H=>∃xs,SqT K H a xs/\xs.length<=i⟩
def Itr (lo:Int)(n:Nat):It:=⟨λi _=>i<n,λi H x H'=>H'=H/\x=.int (lo+i),λi _=>n<=i⟩
theorem wjm {P:Ac}{w:Ah}{K:Aa}{tg:Expr}(a it:Aj):Turn P w K tg (Itl K a) [it] it (λi h=>h.IsListIter it a i) where
 mem:=by simp
 obj:=λi h st b hb=>by
  have e:b=it:=by simpa using hb
  subst e;obtain⟨o,e,c,d⟩:=st;exact⟨o,e,λv z=>by rw[d]at z;cases z⟩
 keep:=λi h h' st k=>st.at λo e=>k it (by simp) o e
 item:=by intro X hP hw hK hc i pins s σ H E I hf st hg;subst hP hw hK;obtain⟨xs,x,hq,hx⟩:=hg;obtain⟨its,rv,p,hz⟩:=I.list hq;obtain⟨u,hu,ru⟩:=rv.get hx;obtain⟨f0,f1,f2,f3,f4,f5⟩:=hf it (by simp);refine wpAny_pyNext_list_item st p.isList (x:=u) (by simpa using hu) λh' st' sb=>?_;have I1:Inv X pins σ H { s with heap:=h' }:=I.turned (t':=s.toks) (λb o hb e=>(sb.2 b hb).trans e) f0 f1 f3 f4 f5;obtain⟨o,e,c,d⟩:=id st';exact⟨u,rfl,wvp (s:={ s with heap:=h' }) e c d ⋯ ⟨x,H,I1,ru,⟨rfl,λys hy=>by rw[I.list_inj hy hq];exact hx⟩,st',λb hb=>(hf b hb).1⟩⟩
 done:=by intro X hP hw hK hc i pins s σ H E I hf st hg;subst hP hw hK;obtain⟨xs,hq,hx⟩:=hg;obtain⟨its,rv,p,hz⟩:=I.list hq;obtain⟨f0,f1,f2,f3,f4,f5⟩:=hf it (by simp);have hl:=rv.length;exact wpAny_pyNext_list_end (I.ok.hd hc) st p.isList (by simp;lia) λh' eb=>⟨rfl,I.turned (t':=s.toks) (λb o hb e=>eb b o hb e) f0 f1 f3 f4 f5⟩
 self:=λ_ _ _ _ _ st h=>wpAny_pyIter_listiter st h
theorem wxn {P:Ac}{w:Ah}{K:Aa}{tg:Expr}(a it:Aj):Turn P w K tg (Itt K a) [it] it (λi h=>h.IsTupleIter it a i) where
 mem:=by simp
 obj:=λi h st b hb=>by
  have e:b=it:=by simpa using hb
  subst e;obtain⟨o,e,c,d⟩:=st;exact⟨o,e,λv z=>by rw[d]at z;cases z⟩
 keep:=λi h h' st k=>st.at λo e=>k it (by simp) o e
 item:=by intro X hP hw hK hc i pins s σ H E I hf st hg;subst hP hw hK;obtain⟨xs,x,hq,hx⟩:=hg;obtain⟨its,rv,p,hz⟩:=I.tuple hq;obtain⟨u,hu,ru⟩:=rv.get hx;obtain⟨f0,f1,f2,f3,f4,f5⟩:=hf it (by simp);refine wpAny_pyNext_tuple_item st (show s.heap.IsTuple a its.toArray from p) (x:=u) (by simpa using hu) λh' st' sb=>?_;have I1:Inv X pins σ H { s with heap:=h' }:=I.turned (t':=s.toks) (λb o hb e=>(sb.2 b hb).trans e) f0 f1 f3 f4 f5;obtain⟨o,e,c,d⟩:=id st';exact⟨u,rfl,wvp (s:={ s with heap:=h' }) e c d ⋯ ⟨x,H,I1,ru,⟨rfl,λys hy=>by rw[I.tuple_inj hy hq];exact hx⟩,st',λb hb=>(hf b hb).1⟩⟩
 done:=by intro X hP hw hK hc i pins s σ H E I hf st hg;subst hP hw hK;obtain⟨xs,hq,hx⟩:=hg;obtain⟨its,rv,p,hz⟩:=I.tuple hq;obtain⟨f0,f1,f2,f3,f4,f5⟩:=hf it (by simp);have hl:=rv.length;exact wpAny_pyNext_tuple_end (I.ok.hd hc) st (show s.heap.IsTuple a its.toArray from p) (by simp;lia) λh' eb=>⟨rfl,I.turned (t':=s.toks) (λb o hb e=>eb b o hb e) f0 f1 f3 f4 f5⟩
 self:=λ_ _ _ _ _ st h=>wpAny_pyIter_tupleiter st h
theorem wxp {P:Ac}{w:Ah}{K:Aa}{tg:Expr}(it:Aj)(lo:Int)(n:Nat):Turn P w K tg (Itr lo n) [it] it (λi h=>IsRangeIter h it (lo+(i:Nat)*1) ((n:Int)-(i:Nat)) 1) where
 mem:=by simp
 obj:=λi h st b hb=>by
  have e:b=it:=by simpa using hb
  subst e;exact⟨_,st,λv z=>by
   have z':Data.fields _=Data.cell v:=z
   cases z'⟩
 keep:=λi h h' st k=>k it (by simp) _ st
 item:=by intro X hP hw hK hc i pins s σ H E I hf st hg;subst hP hw hK;obtain⟨f0,f1,f2,f3,f4,f5⟩:=hf it (by simp);have W:=Walks.range (prog:=X.prog) (w:=X.w) (I.ok.hd hc) it lo 1 n;refine W.item i s _ _ hg st λv h' tk hv st' kk=>?_;obtain⟨t,rfl⟩:=hv;have I1:Inv X pins σ H { s with heap:=h',toks:=tk }:=I.turned (λb o hb e=>kk b o (by simpa using hb) e) f0 f1 f3 f4 f5;refine⟨_,rfl,wvp (s:={ s with heap:=h',toks:=tk }) (n := "range_iterator") st' rfl rfl ⋯ ⟨.int (lo+i),H,I1,⟨t,?_⟩,⟨rfl,rfl⟩,st',λb hb=>(hf b hb).1⟩⟩;rw[ig]
 done:=by intro X hP hw hK hc i pins s σ H E I hf st hg;subst hP hw hK;obtain⟨f0,f1,f2,f3,f4,f5⟩:=hf it (by simp);exact wpAny_pyNext_range_end (I.ok.hd hc) st (by have:n<=i:=hg;lia) λh' eb=>⟨rfl,I.turned (t':=s.toks) (λb o hb e=>eb b o hb e) f0 f1 f3 f4 f5⟩
 self:=λ_ _ _ _ _ st h=>wpAny_pyIter_rangeiter st h
section
variable {X:Cx}{tg:Expr}
def iList (K:Aa)(tl:TE):TI:=λσ H R=>tl σ H λx H1=>∃a,x=.ref a/\(∃xs,SqL K H1 a xs)/\R (Itl K a) H1
def iTup (K:Aa)(tl:TE):TI:=λσ H R=>tl σ H λx H1=>∃a,x=.ref a/\(∃xs,SqT K H1 a xs)/\R (Itt K a) H1
theorem vc {l:Expr}{tl:TE}(hl:PE X l tl):PI X tg l (iList X.K tl):=by
 intro pins s σ H R I h;refine thn (hl pins s σ H _ I h) λv s1 ⟨x,H1,I1,r1,q1⟩=>?_;obtain⟨a,e,⟨xs,hq⟩,q⟩:=q1;subst e;cases r1;obtain⟨its,rv,p,hz⟩:=I1.list hq;refine fV p.isList ?_;refine⟨s1.heap.objs.size,[s1.heap.objs.size],_,_,H1,rfl,I1.kept (t':=s1.toks) λb o e=>ai _ e,wjm a _,⟨_,aF _ rfl,rfl,rfl⟩,λb hb=>?_,q⟩;have e:b=s1.heap.objs.size:=by simpa using hb
 subst e;exact I1.fpOk (al _) (I1.hok.fresh (al _))
theorem pi_tup {l:Expr}{tl:TE}(hl:PE X l tl):PI X tg l (iTup X.K tl):=by
 intro pins s σ H R I h;refine thn (hl pins s σ H _ I h) λv s1 ⟨x,H1,I1,r1,q1⟩=>?_;obtain⟨a,e,⟨xs,hq⟩,q⟩:=q1;subst e;cases r1;obtain⟨its,rv,p,hz⟩:=I1.tuple hq;refine wpAny_pyIter_tuple (show s1.heap.IsTuple a its.toArray from p) ?_;refine⟨s1.heap.objs.size,[s1.heap.objs.size],_,_,H1,rfl,I1.kept (t':=s1.toks) λb o e=>ai _ e,wxn a _,⟨_,aF _ rfl,rfl,rfl⟩,λb hb=>?_,q⟩;have e:b=s1.heap.objs.size:=by simpa using hb
 subst e;exact I1.fpOk (al _) (I1.hok.fresh (al _))
theorem xq0 {pins:List (Aj×Obj)}{σ:St}{H:Hp}{s:Ab}{R:It->Hp->Prop}{E:Ag->Ab->Prop}{lo hi:Int}{t u v:Tok}{tk:Nat}(I:Inv X pins σ H s)(h1:-(2 ^ 62)<=lo)(h2:lo<2 ^ 62)(h3:-(2 ^ 62)<=hi)(h4:hi<2 ^ 62)
  (q:R (Itr lo (hi-lo).toNat) H):wpAny (model X.prog X.w) X.A (pyIter (.ref s.heap.objs.size)) (PIE X pins σ tg R) E { s with heap:=s.heap.push { cls:=.type "range",data:=.fields #[.int lo t,.int hi u,.int 1 v] },toks:=tk }:=by
 refine wpAny_pyIter_range (IsRange.new ..) (small_one h1 h2 h3 h4) ?_;have I1:Inv X pins σ H { s with heap:=s.heap.push { cls:=.type "range",data:=.fields #[.int lo t,.int hi u,.int 1 v] },toks:=tk }:=I.kept λb o e=>ai _ e;refine⟨(s.heap.push { cls:=.type "range",data:=.fields #[.int lo t,.int hi u,.int 1 v] }).objs.size,[(s.heap.push { cls:=.type "range",data:=.fields #[.int lo t,.int hi u,.int 1 v] }).objs.size],_,_,H,rfl,
  I1.kept (t':=tk) λb o e=>ai _ e,wxp _ lo (hi-lo).toNat,?_,λb hb=>?_,q⟩
 .have e1:lo+((0:Nat):Int)*1=lo:=by simp
  have e2:(((hi-lo).toNat:Nat):Int)-((0:Nat):Int)=Builtin.Range.rangeSize lo hi 1:=by rw[rangeSize_one];split <;> lia
  show IsRangeIter _ _ (lo+((0:Nat):Int)*1) ((((hi-lo).toNat:Nat):Int)-((0:Nat):Int)) 1;rw[e1,e2];exact aF _ rfl
 .have e:b=(s.heap.push { cls:=.type "range",data:=.fields #[.int lo t,.int hi u,.int 1 v] }).objs.size:=by simpa using hb
  subst e;exact I1.fpOk (al _) (I1.hok.fresh (al _))
def iRng1 (ta:TA):TI:=λσ H R=>ta σ H λvs H1=>∃j:Int,vs=[.int j]/\-(2 ^ 62)<=j/\j<2 ^ 62/\R (Itr 0 j.toNat) H1
theorem xh {a:Expr}{ta:TA}{p pos:Pos}(hg:Gl X "range")(hm:X.mg "range" = none)(ha:PA X [a] ta)(hs:autoParam (starEach [a] X.env=[(false,eval a X.env)]) aU4._auto_1):PI X tg (.Call (.Name "range" p) [a] [] pos) (iRng1 ta):=by
 intro pins s σ H R I h;refine Call_ (yr I hg hm boot_range (cu (thn (ha pos pins s σ H _ I h) λus s1 ⟨vs,H1,I1,r1,q1⟩=>?_) hs rfl));obtain⟨j,e,q1,q2,q⟩:=q1;subst e;cases r1 with
 |cons r rr =>
  cases rr;obtain⟨t,rfl⟩:=r;exact call_range_1 (xq0 I1 ⋯ ⋯ q1 q2 (by simpa using q))
def tFor (wi:TI)(g:TG)(tb:TS):TS:=λD σ H=>wi σ H λJ H1=>∃W:Nat->Nat->St->Hp->Prop,(∃m,W 0 m σ H1)/\∀i m σ H,W i m σ H ->
 (J.stop i H/\D.nx σ H)\/(J.go i H/\∃N:St->Hp->Prop,(∀σ' H',N σ' H'->∃m',m'<m/\W (i+1) m' σ' H')/\∀x H',J.yld i H x H'->g x σ H' λσ2 H2=>tb { D with nx:=N,ct:=N,bk:=D.nx } σ2 H2)
def qyq (fp:List Aj)(h:Heap):List (Aj×Obj):=fp.filterMap λb=>(h.get? b).map λo=>(b,o)
theorem Qv {fp:List Aj}{h:Heap}{b:Aj}{o:Obj}(hb:b∈fp)(e:h.get? b=some o):(b,o)∈qyq fp h:=fF.mpr ⟨b,hb,by rw[e];rfl⟩
theorem wjh {fp:List Aj}{h:Heap}{p:Aj×Obj}(hp:p∈qyq fp h):p.1∈fp/\h.get? p.1=some p.2:=by
 obtain⟨b,hb,e⟩:=fF.mp hp;cases q:h.get? b with
 |none=>rw[q]at e;cases e
 |some o =>
  rw[q]at e;have e':(b,o)=p:=aq e;subst e';exact⟨hb,q⟩
theorem Inv.pinned {pins:List (Aj×Obj)}{σ:St}{H:Hp}{s:Ab}{fp:List Aj}(I:Inv X pins σ H s)(hf:∀b∈fp,kv X pins H b)(ho:∀b∈fp,∃o,s.heap.get? b=some o/\∀v,o.data≠.cell v):Inv X (pins++qyq fp s.heap) σ H s :=
 I.pins_of λp hp=>(aU.mp hp).elim (λz=>I.pin p (aN _ z)) λz=>by obtain⟨hb,e⟩:=wjh z;obtain⟨f0,f1,f2,_⟩:=hf p.1 hb;obtain⟨o,e',d⟩:=ho p.1 hb;rw[e]at e';cases e';exact⟨e,f0,f1,f2,d⟩
theorem Inv.unpinned {pins pl:List (Aj×Obj)}{σ:St}{H:Hp}{s:Ab}(I:Inv X (pins++pl) σ H s):Inv X pins σ H s:=I.pins_of λp hp=>I.pin p (aN _ (ca _ hp))
theorem jx {iter:Expr}{body:List Stmt}{wi:TI}{g:TG}{tb:TS}{pos:Pos}(hp:PassesOwn (model X.prog X.w) X.A X.env X.xe)(hc:X.calm=true)(hi:PI X tg iter wi)(hg:PG X tg g)(hb:PSs X body tb)
  (hs:autoParam (∀x,foldedSetIterable iter X.env x=pure x) aU3._auto_1):PS X (.For tg iter body [] pos) (tFor wi g tb):=by
 intro pins s σ H D I h;refine wpAny_For (thn (hi pins s σ H _ I h) λv s1 h1=>thn h1 λitv s2 h2=>?_) hs;obtain⟨it,fp,tn,J,H2,e,I2,T,st2,f2,W,⟨m0,w0⟩,turn⟩:=h2;subst e;have stat:∀ {H':Hp},(∀b∈fp,H' b=none)->∀b∈fp,kv X pins H' b:=λhn b hb=>⟨hn b hb,(f2 b hb).2⟩;refine codeAny_forLoop_any (λn s'=>∃i σ' H',Inv X pins σ' H' s'/\tn i s'.heap/\(∀b∈fp,H' b=none)/\W i n σ' H') ?_ m0 ⟨0,σ,H2,I2,st2,λb hb=>(f2 b hb).1,w0⟩;rintro n s3 ⟨i,σ3,H3,I3,st3,fr3,w3⟩;rcases turn i n σ3 H3 w3 with⟨stop,qn⟩|⟨go,N,hN,step⟩
 .refine dW hp (thn (T.done X rfl rfl rfl hc i pins s3 σ3 H3 X.xe I3 (stat fr3) st3 stop) λr s4 ⟨hr,I4⟩=>?_);subst hr;exact gF ⟨σ3,H3,I4,qn⟩
 .refine dW hp (thn (T.item X rfl rfl rfl hc i pins s3 σ3 H3 X.xe I3 (stat fr3) st3 go) λr s4 ⟨u,hr,h4⟩=>?_);subst hr;refine dW hp (thn h4 λ_ s5 ⟨x,H5,I5,r5,y5,st5,fr5⟩=>?_);have I5':=I5.pinned (stat fr5) (T.obj _ _ st5);refine dW hp (thn (hg _ s5 σ3 H5 x u _ I5' r5 (step x H5 y5)) λ_ s6 ⟨σ6,H6,I6,q6⟩=>?_);refine dW hp (thn (hb _ s6 σ6 H6 _ I6 q6) λf s7 q7=>?_);have again:∀ {σ7:St} {H7:Hp},Inv X (pins++qyq fp s5.heap) σ7 H7 s7->N σ7 H7->∃m,m<n/\∃i σ' H',Inv X pins σ' H' s7/\tn i s7.heap/\(∀b∈fp,H' b=none)/\W i m σ' H':=λ{σ7 H7} I7 n7=>by obtain⟨m',hm,w7⟩:=hN σ7 H7 n7;refine⟨m',hm,i+1,σ7,H7,I7.unpinned,T.keep _ _ _ st5 λb hb o e=>(I7.pin (b,o) (aN _ (aN _ (Qv hb e)))).1,λb hb=>?_,w7⟩;obtain⟨o,e,d⟩:=T.obj _ _ st5 b hb;exact(I7.pin (b,o) (aN _ (aN _ (Qv hb e)))).2.1
  cases f with
  |next=>obtain⟨σ7,H7,I7,n7⟩:=q7;exact again I7 n7
  |cont=>obtain⟨σ7,H7,I7,n7⟩:=q7;exact again I7 n7
  |brk=>obtain⟨σ7,H7,I7,q7⟩:=q7;exact⟨σ7,H7,I7.unpinned,q7⟩
  |ret v=>obtain⟨x7,σ7,H7,I7,r7,q7⟩:=q7;exact⟨x7,σ7,H7,I7.unpinned,r7,q7⟩
end
theorem qzh {K:Aa}{a:Aj}{xs:List V}{g:TG}{tb:TS}{D:Ends}{σ:St}{H:Hp}(Pv:Nat->St->Hp->Prop)(h0:Pv 0 σ H)(hl:∀i σ H,i<=xs.length->Pv i σ H->SqL K H a xs)
  (hs:∀i x σ H,xs[i]?=some x->Pv i σ H->g x σ H λσ2 H2=>tb { D with nx:=Pv (i+1),ct:=Pv (i+1),bk:=D.nx } σ2 H2) (hd:∀σ H,Pv xs.length σ H->D.nx σ H) :
  ∃W:Nat->Nat->St->Hp->Prop,(∃m,W 0 m σ H)/\∀i m σ H,W i m σ H ->
   ((Itl K a).stop i H/\D.nx σ H)\/((Itl K a).go i H/\∃N:St->Hp->Prop,(∀σ' H',N σ' H'->∃m',m'<m/\W (i+1) m' σ' H')/\∀x H',(Itl K a).yld i H x H'->g x σ H' λσ2 H2=>tb { D with nx:=N,ct:=N,bk:=D.nx } σ2 H2):=by
 refine⟨λi m σ H=>m=xs.length-i/\i<=xs.length/\Pv i σ H,⟨xs.length,by simp,aT _,h0⟩,?_⟩;rintro i m σ H ⟨rfl,hi,p⟩;have q:=hl i σ H hi p;by_cases hlt:i<xs.length
 .refine .inr ⟨⟨xs,xs[i],q,by simp[hlt]⟩,Pv (i+1),λσ' H' p'=>⟨xs.length-(i+1),⋯,rfl,hlt,p'⟩,λx H' y=>?_⟩;obtain⟨e,y⟩:=y;subst e;exact hs i x σ _ (y xs q) p
 .have e:i=xs.length:=by lia
  subst e;exact .inl ⟨⟨xs,q,al _⟩,hd σ H p⟩
theorem xxs {K:Aa}{a:Aj}{xs:List V}{g:TG}{tb:TS}{D:Ends}{σ:St}{H:Hp}(Pv:Nat->St->Hp->Prop)(h0:Pv 0 σ H)(hl:∀i σ H,i<=xs.length->Pv i σ H->SqT K H a xs)
  (hs:∀i x σ H,xs[i]?=some x->Pv i σ H->g x σ H λσ2 H2=>tb { D with nx:=Pv (i+1),ct:=Pv (i+1),bk:=D.nx } σ2 H2) (hd:∀σ H,Pv xs.length σ H->D.nx σ H) :
  ∃W:Nat->Nat->St->Hp->Prop,(∃m,W 0 m σ H)/\∀i m σ H,W i m σ H ->
   ((Itt K a).stop i H/\D.nx σ H)\/((Itt K a).go i H/\∃N:St->Hp->Prop,(∀σ' H',N σ' H'->∃m',m'<m/\W (i+1) m' σ' H')/\∀x H',(Itt K a).yld i H x H'->g x σ H' λσ2 H2=>tb { D with nx:=N,ct:=N,bk:=D.nx } σ2 H2):=by
 refine⟨λi m σ H=>m=xs.length-i/\i<=xs.length/\Pv i σ H,⟨xs.length,by simp,aT _,h0⟩,?_⟩;rintro i m σ H ⟨rfl,hi,p⟩;have q:=hl i σ H hi p;by_cases hlt:i<xs.length
 .refine .inr ⟨⟨xs,xs[i],q,by simp[hlt]⟩,Pv (i+1),λσ' H' p'=>⟨xs.length-(i+1),⋯,rfl,hlt,p'⟩,λx H' y=>?_⟩;obtain⟨e,y⟩:=y;subst e;exact hs i x σ _ (y xs q) p
 .have e:i=xs.length:=by lia
  subst e;exact .inl ⟨⟨xs,q,al _⟩,hd σ H p⟩
theorem v6 {lo:Int}{n:Nat}{g:TG}{tb:TS}{D:Ends}{σ:St}{H:Hp}(Pv:Nat->St->Hp->Prop)(h0:Pv 0 σ H)
  (hs:∀i σ H,i<n->Pv i σ H->g (.int (lo+i)) σ H λσ2 H2=>tb { D with nx:=Pv (i+1),ct:=Pv (i+1),bk:=D.nx } σ2 H2) (hd:∀σ H,Pv n σ H->D.nx σ H) :
  ∃W:Nat->Nat->St->Hp->Prop,(∃m,W 0 m σ H)/\∀i m σ H,W i m σ H ->
   ((Itr lo n).stop i H/\D.nx σ H)\/((Itr lo n).go i H/\∃N:St->Hp->Prop,(∀σ' H',N σ' H'->∃m',m'<m/\W (i+1) m' σ' H')/\∀x H',(Itr lo n).yld i H x H'->g x σ H' λσ2 H2=>tb { D with nx:=N,ct:=N,bk:=D.nx } σ2 H2):=by
 refine⟨λi m σ H=>m=n-i/\i<=n/\Pv i σ H,⟨n,by simp,aT _,h0⟩,?_⟩;rintro i m σ H ⟨rfl,hi,p⟩;by_cases hlt:i<n
 .refine .inr ⟨hlt,Pv (i+1),λσ' H' p'=>⟨n-(i+1),⋯,rfl,hlt,p'⟩,λx H' y=>?_⟩;obtain⟨e,y⟩:=y;subst e y;exact hs i σ _ hlt p
 .have e:i=n:=by lia
  subst e;exact .inl ⟨al _,hd σ H p⟩
theorem Yh {c:TT}{tb:TS}{D:Ends}{σ:St}{H:Hp}(Pv:St->Hp->Prop)(μ:St->Hp->Nat)(h0:Pv σ H)
  (hs:∀σ H,Pv σ H->c σ H λb H1=>if b=true then tb { D with nx:=λσ' H'=>Pv σ' H'/\μ σ' H'<μ σ H,ct:=λσ' H'=>Pv σ' H'/\μ σ' H'<μ σ H,bk:=D.nx } σ H1 else D.nx σ H1)
  (mono:∀σ H Q Q',(∀b H1,Q b H1->Q' b H1)->c σ H Q->c σ H Q'):wxv c tb D σ H:=by
 refine⟨λm σ H=>m=μ σ H/\Pv σ H,⟨_,rfl,h0⟩,?_⟩;rintro m σ H ⟨rfl,p⟩;refine mono σ H _ _ (λb H1 q=>?_) (hs σ H p);cases b with
 |true=>exact⟨_,λσ' H' ⟨p',l⟩=>⟨_,l,rfl,p'⟩,q⟩
 |false=>exact q
abbrev R2:=V->V->Hp->VK->Prop
def OpR (X:Cx)(f:Ag->Ag->Sem Ag)(r:R2):Prop :=
 ∀(pins:List (Aj×Obj)) (s:Ab) (σ:St) (H:Hp) (x y:V) (v u:Ag) (Q:VK),Inv X pins σ H s->RelV x v->RelV y u->r x y H Q ->
  wpAny (model X.prog X.w) X.A (f v u) (EP X pins σ Q) X.xe s
def UnR (X:Cx)(f:Ag->Sem Ag)(r:V->Hp->VK->Prop):Prop :=
 ∀(pins:List (Aj×Obj)) (s:Ab) (σ:St) (H:Hp) (x:V) (v:Ag) (Q:VK),Inv X pins σ H s->RelV x v->r x H Q ->
  wpAny (model X.prog X.w) X.A (f v) (EP X pins σ Q) X.xe s
def jg (X:Cx)(f:Ag)(r:List V->Hp->VK->Prop):Prop :=
 ∀(pins:List (Aj×Obj)) (s:Ab) (σ:St) (H:Hp) (xs:List V) (us:List Ag) (Q:VK),Inv X pins σ H s->Vals xs us->r xs H Q ->
  wpAny (model X.prog X.w) X.A (call f us) (EP X pins σ Q) X.xe s
def tOp (r:R2)(ta tb:TE):TE:=λσ H Q=>ta σ H λx H1=>tb σ H1 λy H2=>r x y H2 Q
def tUn (r:V->Hp->VK->Prop)(ta:TE):TE:=λσ H Q=>ta σ H λx H1=>r x H1 Q
def rI (C:Int->Int->Prop)(g:Int->Int->V):R2:=λx y H Q=>∃i j,x=.int i/\y=.int j/\C i j/\Q (g i j) H
def rI0 (g:Int->Int->V):R2:=λx y H Q=>∃i j,x=.int i/\y=.int j/\Q (g i j) H
def rU (g:Int->V):V->Hp->VK->Prop:=λx H Q=>∃i,x=.int i/\Q (g i) H
section
variable {X:Cx}{a b c:Expr}{ta tb tc:TE}{pos:Pos}
theorem binT (ha:PE X a ta)(hb:PE X b tb){pins:List (Aj×Obj)}{s:Ab}{σ:St}{H:Hp}{R:V->V->Hp->Prop}(I:Inv X pins σ H s)
  (h:ta σ H λx H1=>tb σ H1 λy H2=>R x y H2) {Q:Ag->Ab->Prop} {f:Ag->Ag->Sem Ag}
  (hf:∀v u s2 x y H2,Inv X pins σ H2 s2->RelV x v->RelV y u->R x y H2->wpAny (model X.prog X.w) X.A (f v u) Q X.xe s2) :
  wpAny (model X.prog X.w) X.A (eval a X.env) (λv s₁=>wpAny (model X.prog X.w) X.A (eval b X.env) (λu s₂=>wpAny (model X.prog X.w) X.A (f v u) Q X.xe s₂) X.xe s₁) X.xe s:=by
 refine thn (ha pins s σ H _ I h) λv s1 ⟨x,H1,I1,r1,q1⟩=>?_;refine thn (hb pins s1 σ H1 _ I1 q1) λu s2 ⟨y,H2,I2,r2,q2⟩=>?_;exact hf v u s2 x y H2 I2 r1 r2 q2
theorem wz {op:Operator}{r:R2}(ho:OpR X (binaryOp op) r)(ha:PE X a ta)(hb:PE X b tb):PE X (.BinOp a op b pos) (tOp r ta tb):=by intro pins s σ H Q I h;exact wpAny_BinOp (binT ha hb I h λv u s2 x y H2 I2 rx ry q=>ho pins s2 σ H2 x y v u Q I2 rx ry q)
theorem Qn {op:UnaryOp}{r:V->Hp->VK->Prop}(ho:UnR X (unaryOp op) r)(ha:PE X a ta):PE X (.UnaryOp op a pos) (tUn r ta):=by intro pins s σ H Q I h;exact UnaryOp_ (thn (ha pins s σ H _ I h) λv s1 ⟨x,H1,I1,r1,q1⟩=>ho pins s1 σ H1 x v Q I1 r1 q1)
theorem opI {f:Ag->Ag->Sem Ag}{C:Int->Int->Prop}{g:Int->Int->Int}
  (rule:∀(i j:Int) (t u:Tok) (s:Ab) (Q:Ag->Ab->Prop) (E:Ag->Ab->Prop),C i j->Q (.int (g i j) s.toks) { s with toks:=s.toks+1 }->wpAny (model X.prog X.w) X.A (f (.int i t) (.int j u)) Q E s) :
  OpR X f (rI C λi j=>.int (g i j)):=by
 intro pins s σ H x y v u Q I rx ry h;obtain⟨i,j,rfl,rfl,hc,q⟩:=h;obtain⟨t,rfl⟩:=rx;obtain⟨t',rfl⟩:=ry;exact rule i j t t' s _ _ hc ⟨.int (g i j),H,I.tok _,⟨_,rfl⟩,q⟩
theorem opI0 {f:Ag->Ag->Sem Ag}{g:Int->Int->Int}
  (rule:∀(i j:Int) (t u:Tok) (s:Ab) (Q:Ag->Ab->Prop) (E:Ag->Ab->Prop),Q (.int (g i j) s.toks) { s with toks:=s.toks+1 }->wpAny (model X.prog X.w) X.A (f (.int i t) (.int j u)) Q E s) :
  OpR X f (rI0 λi j=>.int (g i j)):=by
 intro pins s σ H x y v u Q I rx ry h;obtain⟨i,j,rfl,rfl,q⟩:=h;obtain⟨t,rfl⟩:=rx;obtain⟨t',rfl⟩:=ry;exact rule i j t t' s _ _ ⟨.int (g i j),H,I.tok _,⟨_,rfl⟩,q⟩
theorem opB0 {f:Ag->Ag->Sem Ag}{g:Int->Int->Bool}
  (rule:∀(i j:Int) (t u:Tok) (s:Ab) (Q:Ag->Ab->Prop) (E:Ag->Ab->Prop),Q (.bool (g i j)) s->wpAny (model X.prog X.w) X.A (f (.int i t) (.int j u)) Q E s) :
  OpR X f (rI0 λi j=>.bl (g i j)):=by
 intro pins s σ H x y v u Q I rx ry h;obtain⟨i,j,rfl,rfl,q⟩:=h;obtain⟨t,rfl⟩:=rx;obtain⟨t',rfl⟩:=ry;exact rule i j t t' s _ _ ⟨.bl (g i j),H,I,rfl,q⟩
def CPow (i j:Int):Prop:=0<=j/\j<=1000000/\i.natAbs<2 ^ 64
theorem x9:OpR X (binaryOp .Add) (rI0 λi j=>.int (i+j)):=opI0 λ_ _ _ _ _ _ _ q=>add_int q
theorem zm:OpR X (binaryOp .Sub) (rI0 λi j=>.int (i-j)):=opI0 λ_ _ _ _ _ _ _ q=>sub_int q
theorem jn:OpR X (binaryOp .Mod) (rI (λ_ j=>0<j) λi j=>.int (i%j)):=opI λi j _ _ _ _ _ hc q=>by have h1:(0:Int)<j:=hc;exact mod_int' ⋯ (by rw[Int.fmod_eq_emod_of_nonneg i ⋯];exact q)
theorem op_pow:OpR X (binaryOp .Pow) (rI CPow λi j=>.int (i ^ j.toNat)):=opI λ_ _ _ _ _ _ _ hc q=>pow_int_small hc.1 hc.2.1 hc.2.2 q
theorem unI {f:Ag->Sem Ag}{g:Int->Int}
  (rule:∀(i:Int) (t:Tok) (s:Ab) (Q:Ag->Ab->Prop) (E:Ag->Ab->Prop),Q (.int (g i) s.toks) { s with toks:=s.toks+1 }->wpAny (model X.prog X.w) X.A (f (.int i t)) Q E s) :
  UnR X f (rU λi=>.int (g i)):=by
 intro pins s σ H x v Q I rx h;obtain⟨i,rfl,q⟩:=h;obtain⟨t,rfl⟩:=rx;exact rule i t s _ _ ⟨.int (g i),H,I.tok _,⟨_,rfl⟩,q⟩
theorem jm:UnR X (unaryOp .USub) (rU λi=>.int (-i)):=unI λ_ _ _ _ _ q=>neg_int q
end
def scal:V->V->Bool
 |.non,.non=>true|.non,.int _=>true|.int _,.non=>true|.non,.bl _=>true|.bl _,.non=>true|.non,.str _=>true|.str _,.non=>true
 |.int _,.int _=>true|.bl _,.bl _=>true|.str _,.str _=>true|.byt _,.byt _=>true
 |.int _,.str _=>true|.str _,.int _=>true|.bl _,.str _=>true|.str _,.bl _=>true
 |_,_=>false
def rEq:R2:=λx y H Q=>scal x y=true/\Q (.bl (decide (x=y))) H
def rNe:R2:=λx y H Q=>scal x y=true/\Q (.bl (!decide (x=y))) H
theorem wvk {i j:Int}:decide (V.int i=V.int j)=(i==j):=by rw[dz];simp
theorem wuh {i j:Bool}:decide (V.bl i=V.bl j)=(i==j):=by rw[dz];simp
theorem wvc {i j:Str}:decide (V.str i=V.str j)=(i==j):=by rw[dz];simp
theorem wvr {i j:Array UInt8}:decide (V.byt i=V.byt j)=(i.toList==j.toList):=by rw[dz];cases i;cases j;simp
section
variable {X:Cx}{a b c:Expr}{ta tb tc:TE}{pos:Pos}
theorem zq {pins:List (Aj×Obj)}{σ:St}{H:Hp}{s:Ab}{Q:VK}{k k':Bool}(I:Inv X pins σ H s)(q:Q (.bl k) H)(e:k=k'):EP X pins σ Q (.bool k') s:=by subst e;exact⟨.bl k,H,I,rfl,q⟩
theorem uz:OpR X (compareOp .Eq) rEq:=by
 intro pins s σ H x y v u Q I rx ry h;obtain⟨hs,q⟩:=h;cases x with
 |non =>
  cases rx;cases y with
  |non=>cases ry;exact PySem.EqNone.eq_none_none (zq I q (by simp))
  |bl j=>cases ry;exact PySem.EqNone.eq_none_bool (zq I q (by simp))
  |int j=>obtain⟨t',rfl⟩:=ry;exact PySem.EqNone.eq_none_int (zq I q (by simp))
  |str j=>obtain⟨t',rfl⟩:=ry;exact PySem.EqNone.eq_none_str (zq I q (by simp))
  |_=>exact absurd (show false=true from hs) aK
 |bl i =>
  cases rx;cases y with
  |non=>cases ry;exact PySem.EqNone.eq_bool_none (zq I q (by simp))
  |bl j=>cases ry;exact eq_bool (zq I q wuh)
  |str j=>obtain⟨t',rfl⟩:=ry;exact PySem.EqMixed.eq_bool_str (zq I q (by simp))
  |_=>exact absurd (show false=true from hs) aK
 |int i =>
  obtain⟨t,rfl⟩:=rx;cases y with
  |non=>cases ry;exact PySem.EqNone.eq_int_none (zq I q (by simp))
  |int j=>obtain⟨t',rfl⟩:=ry;exact eq_int (zq I q wvk)
  |str j=>obtain⟨t',rfl⟩:=ry;exact PySem.EqMixed.eq_int_str (zq I q (by simp))
  |_=>exact absurd (show false=true from hs) aK
 |str i =>
  obtain⟨t,rfl⟩:=rx;cases y with
  |non=>cases ry;exact PySem.EqNone.eq_str_none (zq I q (by simp))
  |bl j=>cases ry;exact PySem.EqMixed.eq_str_bool (zq I q (by simp))
  |int j=>obtain⟨t',rfl⟩:=ry;exact PySem.EqMixed.eq_str_int (zq I q (by simp))
  |str j=>obtain⟨t',rfl⟩:=ry;exact eq_str (zq I q wvc)
  |_=>exact absurd (show false=true from hs) aK
 |byt i =>
  obtain⟨t,rfl⟩:=rx;cases y with
  |byt j=>obtain⟨t',rfl⟩:=ry;exact W.eq_bytes (zq I q wvr)
  |_=>exact absurd (show false=true from hs) aK
 |_=>cases y <;> exact absurd (show false=true from hs) aK
theorem op_ne:OpR X (compareOp .NotEq) rNe:=by
 intro pins s σ H x y v u Q I rx ry h;obtain⟨hs,q⟩:=h;cases x with
 |non =>
  cases rx;cases y with
  |non=>cases ry;exact PySem.EqNone.ne_none_none (zq I q (by simp))
  |bl j=>cases ry;exact PySem.EqNone.ne_none_bool (zq I q (by simp))
  |int j=>obtain⟨t',rfl⟩:=ry;exact PySem.EqNone.ne_none_int (zq I q (by simp))
  |str j=>obtain⟨t',rfl⟩:=ry;exact PySem.EqNone.ne_none_str (zq I q (by simp))
  |_=>exact absurd (show false=true from hs) aK
 |bl i =>
  cases rx;cases y with
  |non=>cases ry;exact PySem.EqNone.ne_bool_none (zq I q (by simp))
  |bl j=>cases ry;exact ne_bool (zq I q (cr not wuh))
  |str j=>obtain⟨t',rfl⟩:=ry;exact PySem.EqMixed.ne_bool_str (zq I q (by simp))
  |_=>exact absurd (show false=true from hs) aK
 |int i =>
  obtain⟨t,rfl⟩:=rx;cases y with
  |non=>cases ry;exact PySem.EqNone.ne_int_none (zq I q (by simp))
  |int j=>obtain⟨t',rfl⟩:=ry;exact ne_int (zq I q (cr not wvk))
  |str j=>obtain⟨t',rfl⟩:=ry;exact PySem.EqMixed.ne_int_str (zq I q (by simp))
  |_=>exact absurd (show false=true from hs) aK
 |str i =>
  obtain⟨t,rfl⟩:=rx;cases y with
  |non=>cases ry;exact PySem.EqNone.ne_str_none (zq I q (by simp))
  |bl j=>cases ry;exact PySem.EqMixed.ne_str_bool (zq I q (by simp))
  |int j=>obtain⟨t',rfl⟩:=ry;exact PySem.EqMixed.ne_str_int (zq I q (by simp))
  |str j=>obtain⟨t',rfl⟩:=ry;exact ne_str (zq I q (cr not wvc))
  |_=>exact absurd (show false=true from hs) aK
 |byt i =>
  obtain⟨t,rfl⟩:=rx;cases y with
  |byt j=>obtain⟨t',rfl⟩:=ry;exact W.ne_bytes (zq I q (cr not wvr))
  |_=>exact absurd (show false=true from hs) aK
 |_=>cases y <;> exact absurd (show false=true from hs) aK
theorem Q3:OpR X (compareOp .Lt) (rI0 λi j=>.bl (decide (i<j))):=opB0 λ_ _ _ _ _ _ _ q=>lt_int q
theorem qwn:OpR X (compareOp .LtE) (rI0 λi j=>.bl (decide (i<=j))):=opB0 λ_ _ _ _ _ _ _ q=>le_int q
theorem Wv:OpR X (compareOp .Gt) (rI0 λi j=>.bl (decide (j<i))):=opB0 λ_ _ _ _ _ _ _ q=>gt_int q
theorem wz1:OpR X (compareOp .GtE) (rI0 λi j=>.bl (decide (j<=i))):=opB0 λ_ _ _ _ _ _ _ q=>ge_int q
theorem op_isN:OpR X (compareOp .Is) (λx y H Q=>y=.non/\Q (.bl (decide (x=.non))) H):=by
 intro pins s σ H x y v u Q I rx ry h;obtain⟨rfl,q⟩:=h;cases ry;refine is_none_gen (zq I q ?_);cases x <;> first
  |(cases rx;rfl)
  |(obtain⟨t,rfl⟩:=rx;rfl)
theorem wvy:OpR X (compareOp .IsNot) (λx y H Q=>y=.non/\Q (.bl (!decide (x=.non))) H):=by
 intro pins s σ H x y v u Q I rx ry h;obtain⟨rfl,q⟩:=h;cases ry;refine isnot_none_gen (zq I q ?_);cases x <;> first
  |(cases rx;rfl)
  |(obtain⟨t,rfl⟩:=rx;rfl)
theorem xv (b:Expr){op:CmpOp}(h:autoParam (op≠.In) aU1._auto_1)(h2:autoParam (op≠.NotIn) aU1._auto_1):behindInMarks op b=false:=by
 have e1:(op==CmpOp.In)=false:=by cases op <;> first | rfl | exact absurd rfl h
 have e2:(op==CmpOp.NotIn)=false:=by cases op <;> first | rfl | exact absurd rfl h2
 cases b <;> simp[behindInMarks,e1,e2]
theorem yd {op:CmpOp}{r:R2}(ho:OpR X (compareOp op) r)(ha:PE X a ta)(hb:PE X b tb)(hm:behindInMarks op b=false):PE X (.Compare a [op] [b] pos) (tOp r ta tb):=by intro pins s σ H Q I h;exact wpAny_Compare1 (binT ha hb I h λv u s2 x y H2 I2 rx ry q=>ho pins s2 σ H2 x y v u Q I2 rx ry q) hm
def xqm (t:TE):TT:=λσ H Q=>t σ H λx H'=>∃k,x=.bl k/\Q k H'
theorem wt {op:CmpOp}{r:R2}(ho:OpR X (compareOp op) r)(ha:PE X a ta)(hb:PE X b tb)(hm:behindInMarks op b=false):PT X (.Compare a [op] [b] pos) (xqm (tOp r ta tb)):=by
 intro pins s σ H Q I h;refine wpAny_isTrue_Compare1 (thn (ha pins s σ H _ I h) λv s1 ⟨x,H1,I1,r1,q1⟩=>thn (hb pins s1 σ H1 _ I1 q1) λu s2 ⟨y,H2,I2,r2,q2⟩ =>
  thn (ho pins s2 σ H2 x y v u _ I2 r1 r2 q2) λc s3 ⟨z,H3,I3,r3,k,e,q3⟩=>?_) hm
 subst e;cases r3;exact dt ⟨H3,I3,q3⟩
theorem ww9:(sizeLine:Nat)<2 ^ 63:=by rw[dH];decide
theorem jr {x:V}{us:List Ag}(r:Vals [x] us):∃u,us=[u]/\RelV x u:=by
 cases r with
 |cons r1 r2=>cases r2;exact⟨_,rfl,r1⟩
theorem xwc {x y:V}{us:List Ag}(r:Vals [x,y] us):∃u w',us=[u,w']/\RelV x u/\RelV y w':=by
 cases r with
 |cons r1 r2 =>
  cases r2 with
  |cons r3 r4=>cases r4;exact⟨_,_,rfl,r1,r3⟩
theorem ux:jg X (.builtin "abs") (λxs H Q=>∃i,xs=[.int i]/\Q (.int (if i<0 then -i else i)) H):=by intro pins s σ H xs us Q I r h;obtain⟨i,rfl,q⟩:=h;obtain⟨u,rfl,t,rfl⟩:=jr r;exact call_abs_int λu tk=>⟨.int (if i<0 then -i else i),H,I.tok _,⟨_,rfl⟩,q⟩
theorem W5 (hc:X.calm=true):jg X (.builtin "max") (λxs H Q=>∃i j,xs=[.int i,.int j]/\Q (.int (if j>i then j else i)) H):=by
 intro pins s σ H xs us Q I r h;obtain⟨i,j,rfl,q⟩:=h;obtain⟨u,w',rfl,⟨t,rfl⟩,⟨t',rfl⟩⟩:=xwc r;refine max_two_ints (I.ok.hd hc) λh' tk k=>⟨_,H,I.kept k,?_,q⟩;by_cases hj:j>i
 .rw[aw hj,aw hj];exact⟨_,rfl⟩
 .rw[ar hj,ar hj];exact⟨_,rfl⟩
theorem W4 (hc:X.calm=true):jg X (.builtin "min") (λxs H Q=>∃i j,xs=[.int i,.int j]/\Q (.int (if j<i then j else i)) H):=by
 intro pins s σ H xs us Q I r h;obtain⟨i,j,rfl,q⟩:=h;obtain⟨u,w',rfl,⟨t,rfl⟩,⟨t',rfl⟩⟩:=xwc r;refine min_two_ints (I.ok.hd hc) λh' tk k=>⟨_,H,I.kept k,?_,q⟩;by_cases hj:j<i
 .rw[aw hj,aw hj];exact⟨_,rfl⟩
 .rw[ar hj,ar hj];exact⟨_,rfl⟩
theorem wks:jg X (.type "int") (λxs H Q=>(∃i,xs=[.int i]/\Q (.int i) H)\/∃k,xs=[.bl k]/\Q (.int (if k then 1 else 0)) H):=by
 intro pins s σ H xs us Q I r h;rcases h with⟨i,rfl,q⟩|⟨k,rfl,q⟩
 .obtain⟨u,rfl,t,rfl⟩:=jr r;exact call_int_int ⟨.int i,H,I,⟨_,rfl⟩,q⟩
 .obtain⟨u,rfl,r1⟩:=jr r;cases r1;exact call_int_bool ⟨.int (if k then 1 else 0),H,I.tok _,⟨_,rfl⟩,q⟩
end
structure ObjM (h:Heap)(x dx C:Aj)(mA:Str->Option Ag):Prop where
 obj:h.get? x=some (W.instObj C dx)
 ns:h.Ns1 dx mA
 ne:dx≠x
theorem wyv {h:Heap}{dx:Aj}{mA:Str->Option Ag}(n:h.Ns1 dx mA):∃od,h.get? dx=some od/\∀name,W.lookIn name od=some (mA name):=by
 obtain⟨o,es,ep,ho,hd,hk,_,hm⟩:=n;refine⟨o,ho,λname=>?_⟩;have e:=hm name;unfold nsFind findBy at e;rw[<-Array.find?_toList]at e;unfold W.lookIn;rw[hd];dsimp only;split
 .rename_i y q;rw[q]at e;exact cr some e
 .rename_i q;rw[q]at e;have a:es.toList.any (·.refKey)=false:=by rw[List.any_eq_false];intro y hy;obtain⟨z,t,hkey⟩:=hk y (gC.mp hy);simp[DictEntry.refKey,hkey]
  have a':¬ es.toList.any (·.refKey)=true:=by rw[a];exact aK
  rw[ar a'];exact cr some e
theorem ObjM.look {h:Heap}{x dx C:Aj}{mA:Str->Option Ag}(I:ObjM h x dx C mA):∃od,W.InstAt h x (W.instObj C dx) C (some od)/\∀name,W.lookIn name od=some (mA name) :=
 let ⟨od,ho,hl⟩:=wyv I.ns;⟨od,⟨I.obj,rfl,rfl,ho⟩,hl⟩
section
variable {prog:Ac}{w:Ah}{A:Ae}{E:Ag->Ab->Prop}{s:Ab}{K:Aa}{x dx C f:Aj}{mA:Str->Option Ag}{name:Str}{v:Ag}
theorem xvc {expr:Bool}{Q:Ag->Ab->Prop}(X:K.In s.heap)(I:ObjM s.heap x dx C mA)(hg:W.plainGet K C name=true)(hh:W.hasDictIn K C=true)
  (ha:W.findIn K (.ref C) name=some none) (hv:mA name=some v) (hv':W.handedIn v=true) (h:Q v { s with toks:=s.toks+1 }) :
  wpAny (model prog w) A (getAttr (.ref x) name expr) Q E s:=by
 obtain⟨od,J,hl⟩:=I.look;exact W.get_value X J (gJ hg).1 (W.findObj_own hh ha rfl (by rw[hl,hv])) hv' h
theorem xxy {pl:Sem Bool}{Q:Ag×List Ag->Ab->Prop}(X:K.In s.heap)(I:ObjM s.heap x dx C mA)(hg:W.plainGet K C name=true)
  (hf:W.findIn K (.ref C) name=some (some (.ref f))) (ht:W.isFn K (.ref f)=true) (hv:mA name=none) (h:Q (.ref f,[.ref x]) s) :
  wpAny (model prog w) A (getMethod (.ref x) name pl) Q E s:=by
 obtain⟨od,J,hl⟩:=I.look;exact W.method_fn X J (gJ hg).1 (gJ hg).2 hf (fG.mp ht) (by show(W.lookIn name od).map (·.isSome)=some false;rw[hl,hv];rfl) h
theorem xzw {ns:List Str}{Q:Unit->Ab->Prop}(X:K.In s.heap)(I:ObjM s.heap x dx C mA)
  (hs:W.findIn K (.ref C) "__setattr__" = some (some (.builtin "object.__setattr__"))) (hp:W.plainOver K C=true) (ht:W.takerIn K C name=some none) (hh:W.hasDictIn K C=true)
  (hw:PySem.Within mA ns) (hsz:ns.length<=sizeLine)
  (h:∀h',ObjM h' x dx C (λy=>if y=name then some v else mA y)->Heap.SameBut dx s.heap h'->Q () { s with heap:=h',toks:=s.toks+2 }) :
  wpAny (model prog w) A (setAttr (.ref x) name v) Q E s:=by
 obtain⟨od,J,hl⟩:=I.look;refine W.set_plain X J hs (W.osa_open (s:={ s with toks:=s.toks+1 }) (r:=none) X J hp ht λb=>?_);obtain⟨cd,hc,hd'⟩:=W.any_some hh;have hx:s.heap.get? x=some ⟨.ref C,some dx,.plain,#[]⟩:=I.obj;refine ae (aj (ae (ae (wpAny_loadPart hx (ae (W.Looks.here (s:={ s with toks:=s.toks+1 }) (W.looks_clsIn X hc) ?_))))));rw[hd'];refine aj (a:=some dx) (ae (aj (ae ?_)));refine wpAny_nsSet1 (s:={ s with toks:=s.toks+1 }) I.ns λh' hn2 hs2=>?_;obtain⟨oD,esD,epD,hoD,hdD,hcD⟩:=hn2.count (PySem.Within.cons name v hw);refine ae (wpAny_lookBehind hoD (by rw[hdD];exact pastItsLine_dict (bM hcD (by rw[aQ];lia))) ?_);exact aj (h _ ⟨(hs2.2 _ (dD I.ne)).trans I.obj,hn2,I.ne⟩ hs2)
theorem xws {R:Result->Ab->Prop}{vs:List Ag}{kw:List (Str×Ag)}(X:K.In s.heap)(hm:W.makesIn K C=true)
  (hi:W.findIn K (.ref C) "__init__" = some (some (.ref f))) (hf:W.typeIn K (.ref f)=some (.type "function"))
  (h:codeAny (model prog w) (A.under (.builtin "type.__call__" ⟨.ref C::vs,kw⟩)) (.call (.ref f) ⟨.ref (s.heap.objs.size+1)::vs,kw⟩) (W.InitBack (s.heap.objs.size+1) R)
   { s with heap:=(s.heap.push W.emptyDict).push (W.instObj C s.heap.objs.size) }) :
  codeAny (model prog w) A (.call (.ref C) ⟨vs,kw⟩) R s:=by
 obtain⟨hh,g,d,t,os⟩:=s;exact W.make_core (W.makes_of X hm) (W.looks_findIn X hi) (λself=>W.bind_fn X self hf) (.inl rfl) h
end
def Zq (f:Str)(v:V):List (Str×V)->List (Str×V)
 |[]=>[(f,v)]
 |(g,x)::r=>if g=f then(g,v)::r else(g,x)::Zq f v r
theorem qqy (f g:Str)(v:V):∀fs:List (Str×V),(Zq f v fs).lookup g=if g=f then some v else fs.lookup g
 |[]=>by
  show List.lookup g [(f,v)]=_;by_cases h:g=f
  .have hb:(g==f)=true:=fG.mpr h;simp only[List.lookup,hb,aw h]
  .have hb:(g==f)=false:=cJ.mpr h;simp only[List.lookup,hb,ar h]
 |(k,x)::r=>by
  have ih:=qqy f g v r;rw[show Zq f v ((k,x)::r)=(if k=f then(k,v)::r else(k,x)::Zq f v r) from rfl];by_cases hk:k=f
  .rw[aw hk];by_cases h:g=k
   .have hb:(g==k)=true:=fG.mpr h;simp only[List.lookup,hb,aw (h.trans hk)]
   .have hb:(g==k)=false:=cJ.mpr h;simp only[List.lookup,hb,ar (λe:g=f=>h (e.trans hk.symm))]
  .rw[ar hk];by_cases h:g=k
   .have hb:(g==k)=true:=fG.mpr h;simp only[List.lookup,hb,ar (λe:g=f=>hk (h.symm.trans e))]
   .have hb:(g==k)=false:=cJ.mpr h;simp only[List.lookup,hb];exact ih
theorem qqq (f:Str)(v:V):∀fs:List (Str×V),f∈(Zq f v fs).map (·.1)/\∀g,g∈fs.map (·.1)->g∈(Zq f v fs).map (·.1)
 |[]=>⟨by simp[Zq],λg h=>by simp at h⟩
 |(k,x)::r=>by
  obtain⟨i1,i2⟩:=qqq f v r;rw[show Zq f v ((k,x)::r)=(if k=f then(k,v)::r else(k,x)::Zq f v r) from rfl];by_cases hk:k=f
  .rw[aw hk];subst hk;exact⟨by simp,λg h=>by simpa using h⟩
  .rw[ar hk];refine⟨?_,λg h=>?_⟩
   .rw[aD];exact bI _ i1
   .rw[aD]at h ⊢;rcases aM.mp h with e|e
    .exact aM.mpr (.inl e)
    .exact bI _ (i2 g e)
theorem qqc (f:Str)(v:V):∀fs:List (Str×V),(Zq f v fs).length<=fs.length+1
 |[]=>by simp[Zq]
 |(k,x)::r=>by
  have ih:=qqc f v r;rw[show Zq f v ((k,x)::r)=(if k=f then(k,v)::r else(k,x)::Zq f v r) from rfl];by_cases hk:k=f
  .rw[aw hk,aQ,aQ];lia
  .rw[ar hk,aQ,aQ];lia
theorem RelO.some_of {v:V}{o:Option Ag}(r:RelO (some v) o):∃u,o=some u/\RelV v u:=by
 cases o with
 |none=>exact(show False from r).elim
 |some u=>exact⟨u,rfl,r⟩
theorem RelO.none_of {o:Option Ag}(r:RelO none o):o=none:=by
 cases o with
 |none=>rfl
 |some u=>exact(show False from r).elim
theorem wjg {v:V}{u:Ag}(r:RelV v u):W.handedIn u=true:=by
 cases v with
 |non=>cases(show u=Value.none from r);rfl
 |bl b=>cases(show u=Value.bool b from r);rfl
 |int i=>obtain⟨t,e⟩:=(show ∃t,u=Value.int i t from r);cases e;rfl
 |str x=>obtain⟨t,e⟩:=(show ∃t,u=Value.str x t from r);cases e;rfl
 |byt b=>obtain⟨t,e⟩:=(show ∃t,u=Value.bytes b t from r);cases e;rfl
 |flt b=>obtain⟨t,e⟩:=(show ∃t,u=Value.float b t from r);cases e;rfl
 |ref a=>cases(show u=Value.ref a from r);rfl
 |ty n=>cases(show u=Value.type n from r);rfl
section
variable {P:Ac}{w:Ah}{H H':Hp}{h h':Heap}{a C dx:Aj}{fs fs':List (Str×V)}
theorem qwk (hok:HOk P w H h)(e:H a=some (.ins C dx fs)):∃mA,ObjM h a dx C mA/\(∀f,RelO (fs.lookup f) (mA f))/\PySem.Within mA (fs.map (·.1))/\fs.length<=1000/\H dx=some (.own a):=by obtain⟨d,z,ne,ob,mA,n,r,q⟩:=(show ObjOk P w H h a (.ins C dx fs) from hok a _ e);exact⟨mA,⟨ob,n,ne⟩,r,q,z,d⟩
end
structure Cls (K:Aa)(C:Aj):Prop where
 pg:W.plainGet K C Str.empty=true
 hd:W.hasDictIn K C=true
 po:W.plainOver K C=true
 sa:W.findIn K (.ref C) "__setattr__" = some (some (.builtin "object.__setattr__"))
theorem Cls.get {K:Aa}{C:Aj}(c:Cls K C)(f:Str):W.plainGet K C f=true:=c.pg
def NoAttr (K:Aa)(C:Aj)(f:Str):Prop:=W.findIn K (.ref C) f=some none
theorem NoAttr.taker {K:Aa}{C:Aj}{f:Str}(n:NoAttr K C f):W.takerIn K C f=some none:=by unfold W.takerIn;rw[show W.findIn K (.ref C) f=some none from n];rfl
structure Con (K:Aa)(C:Aj)(f:Str)(v:V)(u:Ag):Prop where
 at_:W.findIn K (.ref C) f=some (some u)
 rel:RelV v u
 get:W.specialIn K u "__get__" = some none
 cp:W.copiedNames.contains f=false
structure Meth (K:Aa)(C:Aj)(m:Str)(f:Aj):Prop where
 at_:W.findIn K (.ref C) m=some (some (.ref f))
 fn:W.isFn K (.ref f)=true
 kp:W.keepIn K (.ref f)=true
section
variable {X:Cx}{pins:List (Aj×Obj)}{σ:St}{H:Hp}{s:Ab}{a C dx:Aj}{fs:List (Str×V)}{f:Str}{v:V}{A:Ae}{E:Ag->Ab->Prop}
theorem wwh {b:Bool}{Q:Ag->Ab->Prop}(I:Inv X pins σ H s)(e:H a=some (.ins C dx fs))(c:Cls X.K C)(n:NoAttr X.K C f)(l:fs.lookup f=some v)
  (h:∀u s',Inv X pins σ H s'->RelV v u->Q u s'):wpAny (model X.prog X.w) A (getAttr (.ref a) f b) Q E s:=by
 obtain⟨mA,O,r,_,_,_⟩:=qwk I.hok e;obtain⟨u,hu,ru⟩:=RelO.some_of (v:=v) (o:=mA f) (by rw[<-l];exact r f);exact xvc I.kIn O (c.get f) c.hd n hu (wjg ru) (h u _ (I.tok _) ru)
theorem qzy {m:Str}{g:Aj}{pl:Sem Bool}{Q:Ag×List Ag->Ab->Prop}(I:Inv X pins σ H s)(e:H a=some (.ins C dx fs))(c:Cls X.K C)(k:Meth X.K C m g)(l:fs.lookup m=none)
  (h:Q (.ref g,[.ref a]) s):wpAny (model X.prog X.w) A (getMethod (.ref a) m pl) Q E s:=by
 obtain⟨mA,O,r,_,_,_⟩:=qwk I.hok e;have hn:mA m=none:=RelO.none_of (by rw[<-l];exact r m);exact xxy I.kIn O (c.get m) k.at_ k.fn hn h
theorem wzc {y:V}{u:Ag}{Q:Unit->Ab->Prop}(I:Inv X pins σ H s)(e:H a=some (.ins C dx fs))(c:Cls X.K C)(n:NoAttr X.K C f)(hl:fs.length<1000)(ry:RelV y u)
  (h:∀s',Inv X pins σ (upd H a (.ins C dx (Zq f y fs))) s'->Q () s'):wpAny (model X.prog X.w) A (setAttr (.ref a) f u) Q E s:=by
 obtain⟨mA,O,r,wi,_,ho⟩:=qwk I.hok e;have hz:(fs.map (·.1)).length<=sizeLine:=by rw[ag,dH];lia
 refine xzw I.kIn O c.sa c.po n.taker c.hd wi hz λh' O' sb=>h _ ?_;have hd:∃o,h'.get? dx=some o:=let ⟨o,_,_,e',_⟩:=O'.ns;⟨o,e'⟩;refine I.write (x:=a) (e:=dx) (by rw[e];exact True.intro) (.inr ho) (λb q hb z=>(sb.2 b hb).trans z) hd ?_;refine⟨by rw[q8 O.ne];exact ho,?_,O.ne,O'.obj,_,O'.ns,λg=>?_,λg hg=>?_⟩
 .have:=qqc f y fs;lia
 .show RelO ((Zq f y fs).lookup g) (if g=f then some u else mA g);rw[qqy];by_cases q:g=f
  .rw[aw q,aw q];exact ry
  .rw[ar q,ar q];exact r g
 .by_cases q:g=f
  .rw[q];exact(qqq f y fs).1
  .refine(qqq f y fs).2 g (wi g λz=>hg ?_);show(if g=f then some u else mA g)=none;rw[ar q];exact z
theorem Inv.made (I:Inv X pins σ H s):Inv X pins σ (upd (upd H s.heap.objs.size (.own (s.heap.objs.size+1))) (s.heap.objs.size+1) (.ins C s.heap.objs.size []))
  { s with heap:=(s.heap.push W.emptyDict).push (W.instObj C s.heap.objs.size) }:=by
 have e1:(s.heap.push W.emptyDict).get? s.heap.objs.size=some W.emptyDict:=aF s.heap rfl;have e2:((s.heap.push W.emptyDict).push (W.instObj C s.heap.objs.size)).get? (s.heap.objs.size+1)=some (W.instObj C s.heap.objs.size):=by have:=aF (s.heap.push W.emptyDict) (o:=W.instObj C s.heap.objs.size) rfl;rwa [cU]at this
 have e3:(s.heap.push W.emptyDict).Ns s.heap.objs.size (λ_=>none):=⟨W.emptyDict,#[],_,e1,rfl,(λe he=>absurd he (by simp)),λ_=>rfl⟩;have I1:=I.laid (a:=s.heap.objs.size) (o:=.own (s.heap.objs.size+1)) (h':=s.heap.push W.emptyDict) (t':=s.toks) (λb u q=>ai _ q) (al _) ⟨_,e1⟩;refine I1.laid (a:=s.heap.objs.size+1) (o:=.ins C s.heap.objs.size []) (t':=s.toks) (λb u q=>ai _ q) (Nat.le_of_eq (cU _ _)) ?_;have ne:s.heap.objs.size≠s.heap.objs.size+1:=aE (d8 _);refine⟨by rw[q8 ne,qf],aT _,ne,e2,λ_=>none,(Heap.Ns1.of_empty e3).at λo q=>ai _ q,λ_=>True.intro,λy hy=>absurd rfl hy⟩
theorem xv1 {prog:Ac}{w:Ah}{env:Env}{e:Expr}{f:Str}{pos:Pos}{s:Ab}{Q:Ag->Ab->Prop}(hb:attributeBase e f env (eval e env)=eval e env)
  (h:wpAny (model prog w) A (eval e env) (λo s₁=>wpAny (model prog w) A (getAttr o f true) Q E s₁) E s):wpAny (model prog w) A (eval (.Attribute e f pos) env) Q E s :=
 Attribute_any_ h (by rw[arm_eval_Attribute,hb])
end
def tFld (K:Aa)(ta:TE)(f:Str):TE:=λσ H Q=>ta σ H λx H1=>∃a C dx fs v,x=.ref a/\H1 a=some (.ins C dx fs)/\Cls K C/\NoAttr K C f/\fs.lookup f=some v/\Q v H1
def sFld (K:Aa)(ta tv:TE)(f:Str):TS:=λD σ H=>tv σ H λy H1=>ta σ H1 λx H2=>∃a C dx fs,x=.ref a/\H2 a=some (.ins C dx fs)/\Cls K C/\NoAttr K C f/\fs.length<1000 /\
 D.nx σ (upd H2 a (.ins C dx (Zq f y fs)))
section
variable {X:Cx}{o e value:Expr}{f:Str}{pos pos' tpos:Pos}{ta tv:TE}
theorem qyv (he:PE X e ta)(hb:attributeBase e f X.env (eval e X.env)=eval e X.env):PE X (.Attribute e f pos) (tFld X.K ta f):=by intro pins s σ H Q I h;refine xv1 hb (thn (he pins s σ H _ I h) λu s1 ⟨x,H1,I1,rx,a,C,dx,fs,v,ex,ea,c,n,l,q⟩=>?_);subst ex;obtain rfl:u=Value.ref a:=rx;exact wwh I1 ea c n l λu' s2 I2 ru=>⟨v,H1,I2,ru,q⟩
theorem ps_fld (ha:PE X o ta)(hv:PE X value tv)(hs:swapsWith value (some (.Attribute o f pos')) pos.line X.env=pure false):PS X (.Assign [.Attribute o f pos'] value pos) (sFld X.K ta tv f):=by intro pins s σ H D I h;refine plainObj_wpAny_Assign_Attribute (thn (hv pins s σ H _ I h) λu s1 ⟨y,H1,I1,ry,q⟩=>thn (ha pins s1 σ H1 _ I1 q) λov s2 ⟨x,H2,I2,rx,a,C,dx,fs,ex,ea,c,n,l,q2⟩=>?_) hs;subst ex;obtain rfl:ov=Value.ref a:=rx;exact wzc I2 ea c n l ry λs3 I3=>⟨σ,_,I3,q2⟩
end
section
variable {X:Cx}{pins:List (Aj×Obj)}{σ:St}{H:Hp}{s:Ab}{A:Ae}{E:Ag->Ab->Prop}{Q:Ag->Ab->Prop}{c:Ag}{b:Bool}
inductive TyOf (K:Aa) (H:Hp):V->Ag->Prop where
 |non:TyOf K H .non (.type "NoneType")
 |bl (x:Bool):TyOf K H (.bl x) (.type "bool")
 |int (i:Int):TyOf K H (.int i) (.type "int")
 |str (x:Str):TyOf K H (.str x) (.type "str")
 |flt (x:UInt64):TyOf K H (.flt x) (.type "float")
 |lst {a:Aj} {xs:List V} (e:H a=some (.lst xs)):TyOf K H (.ref a) (.type "list")
 |frz {a:Aj} {o:Obj} {xs:List V} (e:H a=some (.frz o (.lst xs))):TyOf K H (.ref a) (.type "list")
 |tup {a:Aj} {xs:List V} (e:H a=some (.tup xs)):TyOf K H (.ref a) (.type "tuple")
 |dK {a:Aj} {kvs:List (Key×V)} (e:H a=some (.dK kvs)):TyOf K H (.ref a) (.type "dict")
 |dT {a:Aj} {kvs:List (List Key×V)} (e:H a=some (.dT kvs)):TyOf K H (.ref a) (.type "dict")
 |ins {a C dx:Aj} {fs:List (Str×V)} (e:H a=some (.ins C dx fs)) (cl:Cls K C) (ha:W.findIn K (.ref C) "__class__" = some (some (.builtin "object.__class__")))
   (hn:W.specialIn K (.builtin "object.__class__") "__get__" = some (some (.builtin "getset_descriptor.__get__"))) (htk:W.takesIn K (.builtin "object.__class__")=some true)
   (hm:W.mroIn K C (.type "object")=some true):TyOf K H (.ref a) (.ref C)
theorem wy1 {x:V}{u t:Ag}(I:Inv X pins σ H s)(rx:RelV x u)(ty:TyOf X.K H x t)(e:W.kitOne X.K t c=some b)(h:∀tk,Q (.bool b) { s with toks:=tk }) :
  wpAny (model X.prog X.w) A (call (.builtin "isinstance") [u,c]) Q E s:=by
 cases ty with
 |non=>cases(show u=Value.none from rx);exact cD W.kitx_none I.kIn True.intro e (λz=>nomatch z) h
 |bl y=>cases(show u=Value.bool y from rx);exact cD W.kitx_bool I.kIn True.intro e (λz=>nomatch z) h
 |int i=>obtain⟨t,q⟩:=(show ∃t,u=Value.int i t from rx);cases q;exact cD W.kitx_int I.kIn True.intro e (λz=>nomatch z) h
 |str y=>obtain⟨t,q⟩:=(show ∃t,u=Value.str y t from rx);cases q;exact cD W.kitx_str I.kIn True.intro e (λz=>nomatch z) h
 |flt y=>obtain⟨t,q⟩:=(show ∃t,u=Value.float y t from rx);cases q;exact cD W.kitx_float I.kIn True.intro e (λz=>nomatch z) h
 |@lst a xs ea =>
  cases(show u=Value.ref a from rx);obtain⟨_,_,n,_,h1⟩:=(show ObjOk X.prog X.w H s.heap a (.lst xs) from I.hok a _ ea);exact cD W.kitx_list I.kIn ⟨_,h1,rfl⟩ e (λz=>nomatch z) h
 |@frz a ob xs ea =>
  cases(show u=Value.ref a from rx);obtain⟨_,_,_,n,_,h1⟩:=(show ObjOk X.prog X.w H s.heap a (.frz ob (.lst xs)) from I.hok a _ ea);exact cD W.kitx_list I.kIn ⟨_,h1,rfl⟩ e (λz=>nomatch z) h
 |@tup a xs ea =>
  cases(show u=Value.ref a from rx);obtain⟨_,_,_,p⟩:=(show ObjOk X.prog X.w H s.heap a (.tup xs) from I.hok a _ ea);obtain⟨o,h1,h2,_⟩:=p;exact cD W.kitx_tuple I.kIn ⟨o,h1,h2⟩ e (λz=>nomatch z) h
 |@dK a kvs ea =>
  cases(show u=Value.ref a from rx);obtain⟨_,_,vs,_,p⟩:=(show ObjOk X.prog X.w H s.heap a (.dK kvs) from I.hok a _ ea);obtain⟨o,es,ep,h1,h2,_⟩:=p;exact cD W.kitx_dict I.kIn ⟨o,h1,h2.1⟩ e (λz=>nomatch z) h
 |@dT a kvs ea =>
  cases(show u=Value.ref a from rx);obtain⟨_,_,xs,_,o,es,ep,h1,h2,_⟩:=(show ObjOk X.prog X.w H s.heap a (.dT kvs) from I.hok a _ ea);exact cD W.kitx_dict I.kIn ⟨o,h1,h2.1⟩ e (λz=>nomatch z) h
 |@ins a C dx fs ea cl ha hn htk hm =>
  cases(show u=Value.ref a from rx);obtain⟨mA,O,_⟩:=qwk I.hok ea;obtain⟨od,J,_⟩:=O.look;exact cD (W.kitx_own (cl.get _) cl.hd ha hn htk hm) I.kIn J e (λz=>nomatch z) h
end
structure Room (k:Nat)(A:Ae):Prop where
 hd:A.handled=none
 dp:A.depth+3*k+5<recursionLimit
 un:A.units+16*k+200<cLine
theorem Room.mono {j k:Nat}{A:Ae}(r:Room k A)(h:j<=k):Room j A:=⟨r.hd,by have:=r.dp;lia,by have:=r.un;lia⟩
theorem Room.deeper {k:Nat}{A:Ae}(r:Room (k+1) A)(env:Env):Room k (A.deeper env) :=
 ⟨r.hd,by have:=r.dp;show A.depth+1+3*k+5<_;lia,by have:=r.un;show A.units+3+16*k+200<_;lia⟩
theorem Room.in1 {k:Nat}{A:Ae}(r:Room (k+1) A):Room k A.in1 :=
 ⟨r.hd,by have:=r.dp;show A.depth+3*k+5<_;lia,by have:=r.un;show A.units+1+16*k+200<_;lia⟩
theorem wzf {A:Ae}{C:Aj}{us:List Ag}{kw:List (Str×Ag)}:(A.under (.builtin "type.__call__" ⟨.ref C::us,kw⟩)).depth=A.depth+1:=by
 first | rfl | simp[Around.under,Code.weight,Code.isCreation,Code.isGuard,Code.isCaller,Code.frames,Code.isFrame,guardIds]
theorem wwf {A:Ae}{C:Aj}{us:List Ag}{kw:List (Str×Ag)}:(A.under (.builtin "type.__call__" ⟨.ref C::us,kw⟩)).units=A.units+1:=by
 first | rfl | simp[Around.under,Code.cUnits,Code.frames,Code.isFrame]
theorem Room.make {k:Nat}{A:Ae}(r:Room (k+1) A)(C:Aj)(us:List Ag)(kw:List (Str×Ag)):Room k (A.under (.builtin "type.__call__" ⟨.ref C::us,kw⟩)) :=
 ⟨r.hd,by have:=r.dp;rw[wzf];lia,by have:=r.un;rw[wwf];lia⟩
theorem Room.depth {k:Nat}{A:Ae}(r:Room k A):A.depth<recursionLimit:=by have:=r.dp;lia
theorem Room.units {k:Nat}{A:Ae}(r:Room k A):A.units+64<cLine:=by have:=r.un;lia
def qxd:TA:=λ_ H Q=>Q [] H
def yu (ta:TE)(tr:TA):TA:=λσ H Q=>ta σ H λx H1=>tr σ H1 λxs H2=>Q (x::xs) H2
section
variable {X:Cx}{e:Expr}{es:List Expr}{te:TE}{t:TA}{pos:Pos}
theorem qv:PA X [] qxd:=λ_ _ _ _ H Q I h=>Calls.spliced_nil ⟨[],H,I,.nil,h⟩
theorem qw (ha:PE X e te)(hr:PA X es t)(hs:autoParam (starEach (e::es) X.env=(false,eval e X.env)::starEach es X.env) aU4._auto_1):PA X (e::es) (yu te t):=by intro pos pins s σ H Q I h;rw[hs];show wpAny _ _ (spliced ((false,eval e X.env)::backTo pos (starEach es X.env))) _ _ s;refine Calls.spliced_cons (thn (ha pins s σ H _ I h) λu s1 ⟨x,H1,I1,r1,q1⟩=>?_);exact thn (hr pos pins s1 σ H1 _ I1 q1) λus s2 ⟨xs,H2,I2,r2,q2⟩=>⟨x::xs,H2,I2,.cons r1 r2,q2⟩
def tTup (t:TA):TE:=λσ H Q=>t σ H λxs H1=>xs.length<=sizeLine/\∀p,H1 p=none->Q (.ref p) (upd H1 p (.tup xs))
def tLst (t:TA):TE:=λσ H Q=>t σ H λxs H1=>xs.length<=sizeLine/\∀p,H1 p=none->Q (.ref p) (upd H1 p (.lst xs))
theorem vj {x1}(h:PA X es t):PE X (.Tuple es x1 pos) (tTup t):=by intro pins s σ H Q I hq;refine wpAny_Tuple_spliced (thn (h pos pins s σ H _ I hq) λus s1 ⟨xs,H1,I1,r,z,q⟩=>⟨by rw[<-r.length];exact z,?_⟩);have hf:H1 s1.heap.objs.size=none:=I1.hok.fresh (al _);refine⟨.ref s1.heap.objs.size,upd H1 s1.heap.objs.size (.tup xs),I1.laid (t':=s1.toks) (λb u e=>ai _ e) (al _) ?_,rfl,q _ hf⟩;exact⟨z,us,r,⟨_,aF _ rfl,rfl,_,rfl⟩⟩
theorem vf (h:PA X es t):PE X (.List es pos) (tLst t):=by intro pins s σ H Q I hq;refine wpAny_List_spliced (thn (h pos pins s σ H _ I hq) λus s1 ⟨xs,H1,I1,r,z,q⟩=>⟨by rw[<-r.length];exact z,?_⟩);have hf:H1 s1.heap.objs.size=none:=I1.hok.fresh (al _);refine⟨.ref s1.heap.objs.size,upd H1 s1.heap.objs.size (.lst xs),I1.laid (t':=s1.toks) (λb u e=>ai _ e) (al _) ?_,rfl,q _ hf⟩;exact⟨z,us,0,r,aF _ rfl⟩
end
abbrev Sp:=List V->Hp->VK->XK->Prop
abbrev CXT:=List Env->Hp->Ab->XK->Ag->Ab->Prop
structure Env0 (P:Ac)(w:Ah)(K:Aa)(mg:Str->Option Ag)(base:Heap)(A:Ae)(outer:List Env)(s:Ab)(H:Hp):Prop where
 frames:A.frames=some outer
 mod:Mod K mg base
 bs:∀b o,base.get? b=some o->s.heap.get? b=some o/\H b=none
 bsz:base.objs.size<=s.heap.objs.size
 funs:s.heap.FunFrames base outer
 frf:∀b∈frs outer,H b=none
 hok:HOk P w H s.heap
 bare:AllBare s.gens
def CE (outer:List Env)(P:Ac)(w:Ah)(H:Hp)(s:Ab)(Q:VK)(u:Ag)(s':Ab):Prop :=
 ∃v H',s'.os=s.os/\AllBare s'.gens/\Un (frs outer) [] H H' s.heap s'.heap/\HOk P w H' s'.heap/\RelV v u/\Q v H'
def CR (CX:CXT)(outer:List Env)(P:Ac)(w:Ah)(H:Hp)(s:Ab)(Q:VK)(E:XK)(r:Result)(s':Ab):Prop :=
 match r with
 |.ok (.ret u)=>CE outer P w H s Q u s'
 |.ok _=>False
 |.error e=>CX outer H s E e s'
structure FnOk (P:Ac)(w:Ah)(K:Aa)(mg:Str->Option Ag)(base:Heap)(CX:CXT)(k:Nat)(f:Aj)(fd:Ad)(ps:List Str)(sp:Sp):Prop where
 len:∀vs H Q E,sp vs H Q E->vs.length=ps.length
 run:∀(A:Ae) (outer:List Env) (s:Ab) (H:Hp) (args:Args) (us:List Ag) (vs:List V) (Q:VK) (E:XK),Room k A->Env0 P w K mg base A outer s H->BindsTo s fd args (ps.zip us)->Vals vs us->sp vs H Q E ->
  codeAny (model P w) A (.call (.ref f) args) (CR CX outer P w H s Q E) s
theorem Env0.make {P:Ac}{w:Ah}{K:Aa}{mg:Str->Option Ag}{base:Heap}{A:Ae}{outer:List Env}{s:Ab}{H:Hp}(e:Env0 P w K mg base A outer s H)(C:Aj)(us:List Ag)(kw:List (Str×Ag)) :
  Env0 P w K mg base (A.under (.builtin "type.__call__" ⟨.ref C::us,kw⟩)) outer s H:=⟨by first | exact e.frames | (simpa [Around.under,Code.envs,Code.isFrame,pushEnvs] using e.frames),e.mod,e.bs,e.bsz,e.funs,e.frf,e.hok,e.bare⟩
theorem Env0.in1 {P:Ac}{w:Ah}{K:Aa}{mg:Str->Option Ag}{base:Heap}{A:Ae}{outer:List Env}{s:Ab}{H:Hp}(e:Env0 P w K mg base A outer s H) :
  Env0 P w K mg base A.in1 outer s H:=⟨e.frames,e.mod,e.bs,e.bsz,e.funs,e.frf,e.hok,e.bare⟩
section
variable {X:Cx}{pins:List (Aj×Obj)}{σ:St}{H:Hp}{s s':Ab}
theorem Inv.env0 (I:Inv X pins σ H s):Env0 X.prog X.w X.K X.mg X.base X.A X.stack s H :=
 ⟨I.ok.frames,I.ok.mod,I.bs,bM I.ok.bsz I.sz,I.stack,I.stkFree,I.hok,I.bare⟩
theorem Inv.after {Q:VK}{u:Ag}(I:Inv X pins σ H s)(h:CE X.stack X.prog X.w H s Q u s'):EP X pins σ Q u s':=by obtain⟨v,H',os,bare,un,hok,r,q⟩:=h;obtain⟨hh,g,d,t,os'⟩:=s';obtain rfl:os'=s.os:=os;exact⟨v,H',I.call (h':=hh) (g':=g) (d':=d) (t':=t) (ch:=[]) un hok bare (λb z=>absurd z (by simp)),r,q⟩
end
def Binds (K:Aa)(fd:Ad)(ps:List Str)(ds:List Ag):Prop :=
 ∀(s:Ab) (us:List Ag),K.In s.heap->(us++ds).length=ps.length->BindsTo s fd ⟨us,[]⟩ (ps.zip (us++ds))
theorem Binds.all {K:Aa}{fd:Ad}{ps:List Str}(h:∀us:List Ag,us.length=ps.length->bindArgs fd ⟨us,[]⟩=pure (ps.zip us)):Binds K fd ps []:=λs us _ hl=>by rw[bR]at hl ⊢;exact .of_eq (h us hl)
section
variable {X:Cx}{CX:CXT}{k:Nat}{f C:Aj}{fd:Ad}{ps:List Str}{sp:Sp}{dvs:List V}{ds:List Ag}{E:XK}{x m:Str}{p pos apos:Pos}{e o:Expr}{es:List Expr}{ta:TE}{t:TA}
structure Mk (K:Aa)(C f:Aj):Prop where
 makes:W.makesIn K C=true
 init:W.findIn K (.ref C) "__init__" = some (some (.ref f))
 fn:W.isFn K (.ref f)=true
 kp:W.keepIn K (.ref C)=true
end
def PK (X:Cx)(kws:List Keyword)(t:TA):Prop :=
 ∀(pos:Pos) (pins:List (Aj×Obj)) (s:Ab) (σ:St) (H:Hp) (Q:List V->Hp->Prop),Inv X pins σ H s->t σ H Q->wpAny (model X.prog X.w) X.A (evalAll ((backToKw pos (keywordEach kws X.env)).map (·.2))) (AP X pins σ Q) X.xe s
section
variable {X:Cx}{CX:CXT}{k:Nat}{f C:Aj}{fd:Ad}{ps ks:List Str}{sp:Sp}{E:XK}{x m:Str}{p pos apos kpos:Pos}{e o:Expr}{es:List Expr}{kws:List Keyword}{te ta:TE}{t tk:TA}{nm:Option Str}
theorem xxz:PK X [] qxd:=λ_ _ _ _ H Q I h=>wpAny_evalAll_nil ⟨[],H,I,.nil,h⟩
theorem wvj (ha:PE X e te)(hr:PK X kws t):PK X (⟨nm,e,kpos⟩::kws) (yu te t):=by intro pos pins s σ H Q I h;show wpAny _ _ (evalAll ((do let v <-eval e X.env;standAt pos;pure v)::(backToKw pos (keywordEach kws X.env)).map (·.2))) _ _ s;refine wpAny_evalAll_cons (ae (thn (ha pins s σ H _ I h) λu s1 ⟨x,H1,I1,r1,q1⟩=>ae (dj (aj ?_))));exact thn (hr pos pins s1 σ H1 _ I1 q1) λus s2 ⟨xs,H2,I2,r2,q2⟩=>⟨x::xs,H2,I2,.cons r1 r2,q2⟩
structure KBinds (K:Aa)(fd:Ad)(ps ks:List Str)(g:List Ag->List Ag->List Ag)(gV:List V->List V->List V):Prop where
 to:∀(s:Ab) (us ws:List Ag),K.In s.heap->(g us ws).length=ps.length->BindsTo s fd ⟨us,ks.zip ws⟩ (ps.zip (g us ws))
 rel:∀ {vs:List V} {us:List Ag} {zs:List V} {ws:List Ag},Vals vs us->Vals zs ws->Vals (gV vs zs) (g us ws)
variable {g:List Ag->List Ag->List Ag}{gV:List V->List V->List V}
end
structure FnScope (N P:List Str)(sc:Scope):Prop where
 kind:sc.kind=.function
 co:sc.isCoroutine=false
 gen:sc.isGenerator=false
 nd:N.Nodup
 pre:N.take P.length=P
 par:∀x∈P,sc.names.lookup x=some .local\/sc.names.lookup x=some .cell
 nofree:∀y∈sc.names,y.2≠.free
theorem qkw {kindOf:Str->Option NameKind}{x:Str}:∀ {binds:List (Str×Ag)} {m:Str->Option Ag},(∀v,(x,v)∉binds)->bindL kindOf binds m x=m x
 |[],_,_=>rfl
 |(n,v)::r,m,h=>by
  unfold bindL;rw[qkw λw hw=>h w (bI _ hw)];split
  .have:x≠n:=by rintro rfl;exact h v dI
   simp[this]
  .rfl
theorem qkg {kindOf:Str->Option NameKind}{x:Str}:∀ {binds:List (Str×Ag)} {m:Str->Option Ag},(∀v,(x,v)∉binds)->bindC kindOf binds m x=m x
 |[],_,_=>rfl
 |(n,v)::r,m,h=>by
  unfold bindC;rw[qkg λw hw=>h w (bI _ hw)];split
  .rfl
  .have:x≠n:=by rintro rfl;exact h v dI
   simp[this]
theorem qkq {kindOf:Str->Option NameKind}{x:Str}{v:Ag}:∀ {P:List Str} {vs:List Ag} {i:Nat} {m:Str->Option Ag},P.Nodup->P[i]?=some x->vs[i]?=some v->kindOf x=some .local ->
  bindL kindOf (P.zip vs) m x=some v
 |[],_,_,_,_,h,_,_=>by simp at h
 |_::_,[],_,_,_,_,h,_=>by simp at h
 |p::P,w::vs,0,m,nd,h1,h2,hk=>by simp at h1 h2;subst h1;subst h2;show bindL kindOf ((p,w)::P.zip vs) m p=_;unfold bindL;rw[qkw λv hv=>(dA.mp nd).1 (iM hv).1,aw hk];simp
 |p::P,w::vs,i+1,m,nd,h1,h2,hk=>by show bindL kindOf ((p,w)::P.zip vs) m x=_;unfold bindL;exact qkq (i:=i) (dA.mp nd).2 (by simpa using h1) (by simpa using h2) hk
theorem qv1 {kindOf:Str->Option NameKind}{x:Str}{v:Ag}:∀ {P:List Str} {vs:List Ag} {i:Nat} {m:Str->Option Ag},P.Nodup->P[i]?=some x->vs[i]?=some v->kindOf x≠some .local ->
  bindC kindOf (P.zip vs) m x=some v
 |[],_,_,_,_,h,_,_=>by simp at h
 |_::_,[],_,_,_,_,h,_=>by simp at h
 |p::P,w::vs,0,m,nd,h1,h2,hk=>by simp at h1 h2;subst h1;subst h2;show bindC kindOf ((p,w)::P.zip vs) m p=_;unfold bindC;rw[qkg λv hv=>(dA.mp nd).1 (iM hv).1,ar hk];simp
 |p::P,w::vs,i+1,m,nd,h1,h2,hk=>by show bindC kindOf ((p,w)::P.zip vs) m x=_;unfold bindC;exact qv1 (i:=i) (dA.mp nd).2 (by simpa using h1) (by simpa using h2) hk
def Zx (N:List Str)(vs:List V):St:=vs.map some++List.replicate (N.length-vs.length) none
def qz4 (CX:CXT)(P:Ac)(w:Ah)(K:Aa)(mg:Str->Option Ag)(base:Heap)(N:List Str)(qual:Str)(scope:Scope)(f:Aj)(cd:Ag)(A:Ae)(outer:List Env)(s:Ab)(H:Hp)(E:XK):Cx where
 prog:=P
 w:=w
 K:=K
 mg:=mg
 base:=base
 A:=A.deeper (envOfC qual scope s.heap.objs.size f cd)
 N:=N
 s₀:=s
 H₀:=H
 env:=envOfC qual scope s.heap.objs.size f cd
 outer:=outer
 stack:=envOfC qual scope s.heap.objs.size f cd::outer
 ex:=[]
 calm:=true
 fn:=λ_=>true
 pn:=[]
 xe:=λe s'=>wpAny (model P w) (A.deeper (envOfC qual scope s.heap.objs.size f cd)) (leaving (envOfC qual scope s.heap.objs.size f cd) e) (λ_ s''=>CX outer H s E e s'') (λe' s''=>CX outer H s E e' s'') s'
theorem wq3 {sc:Scope}{n:Nat}{x:Str}(h:sc.names.lookup x=some .cell):∃c,(cellsFrom n sc.names []).lookup x=some c:=by have q:=W.cellsFrom_some sc.names n [] (.inl h);exact Option.isSome_iff_exists.mp q
theorem wjj {CX:CXT}{P:Ac}{w:Ah}{K:Aa}{mg:Str->Option Ag}{base:Heap}{N ps:List Str}{qual:Str}{scope:Scope}{f:Aj}{cd:Ag}{A:Ae}{outer:List Env}{s s1:Ab}{H:Hp}{E:XK}{us:List Ag}{vs:List V}
  (S:FnScope N ps scope) (hd:A.handled=none) (e0:Env0 P w K mg base A outer s H) (hl:vs.length=ps.length) (r:Vals vs us)
  (x:InCallC s s.heap.objs.size (bindL (envOfC qual scope s.heap.objs.size f cd).kindOf (ps.zip us) λ_=>none) (cellsFrom (s.heap.objs.size+1) scope.names []) (bindC (envOfC qual scope s.heap.objs.size f cd).kindOf (ps.zip us) λ_=>none) s1) :
  Inv (qz4 CX P w K mg base N qual scope f cd A outer s H E) [] (Zx N vs) H s1:=by
 have hpl:ps.length<=N.length:=by have:=cr List.length S.pre;rw[aY]at this;lia
 obtain⟨h1,tk,rfl,hk⟩:=x.done;have noA:∀b:Aj,b∉(qz4 CX P w K mg base N qual scope f cd A outer s H E).ex:=λb z=>absurd (show b∈([]:List Aj) from z) (by simp);refine⟨⟨e0.mod,S.kind,rfl,rfl,al _,λy z c h1 h2=>?_,λy hy=>?_,λy c _ h=>?_,λ_=>hd,Around.frames_deeper e0.frames,.inr ⟨rfl,rfl⟩,λb z=>absurd z (noA b),e0.bs,e0.bsz,λb _ _=>noA b,λb z=>absurd z (noA b),e0.funs,e0.frf⟩,
  rfl,e0.bare,Un.kept hk,⟨_,x.toInCall.ns,λi y v h1 h2 h3=>?_⟩,λy c h=>⟨_,x.cell y c h⟩,e0.hok.fresh (al _),λy c h=>?_,λp hp=>absurd (show p∈([]:List (Aj×Obj)) from hp) (by simp),e0.hok.kept hk,?_⟩
 .exact name_of_addr x.apart (dC h1) (dC h2)
 .have hy:scope.names.lookup y=some .cell\/scope.names.lookup y=some .free:=hy;rcases hy with hy|hy
  .exact wq3 hy
  .exact absurd rfl (S.nofree _ (dC hy))
 .exact bu (x.above y c (dC h))
 .have hi:i<vs.length:=by
   unfold Zx at h2;by_cases hi:i<vs.length
   .exact hi
   .rw[az (by simpa using hi)]at h2;rw[List.getElem?_replicate]at h2;split at h2 <;> cases h2
  have ha:vs[i]?=some v:=by
   unfold Zx at h2;rw[aP (by simpa using hi),aA]at h2;cases e:vs[i]? with
   |none=>rw[e]at h2;cases h2
   |some a=>rw[e]at h2;cases h2;rfl
  obtain⟨u,hu,rv⟩:=r.get ha;have hp:ps[i]?=some y:=by rw[<-S.pre,io ⋯];exact h1
  have ndP:ps.Nodup:=by rw[<-S.pre];exact S.nd.sublist (List.take_sublist _ _)
  refine⟨u,rv,?_⟩;rcases S.par y (aC hp) with k|k
  .exact .inl ⟨k,qkq ndP hp hu k⟩
  .obtain⟨c,e⟩:=wq3 (n:=s.heap.objs.size+1) k;refine .inr ⟨.inl k,c,e,?_⟩;have q:=x.cell y c e;rw[qv1 ndP hp hu (by show scope.names.lookup y≠_;rw[k];decide)]at q;exact q
 .exact e0.hok.fresh (bu (x.above y c (dC h)))
 .unfold Zx;show _=N.length;rw[am,ag,List.length_replicate];lia
theorem xqx {CX:CXT}{P:Ac}{w:Ah}{K:Aa}{mg:Str->Option Ag}{base:Heap}{k:Nat}{f:Aj}{name qual:Str}{params:Arguments}{body:List Stmt}{scope:Scope}{dV kV doc pm cdv ct oc:Ag}{an od:Option Aj}
  {osl:Array (Option Ag)} {N ps:List Str} {sp:Sp} (lk:K.lookup f=some ⟨oc,od,.func (W.fnOf name qual params body scope dV kV doc pm an cdv ct),osl⟩) (hcd:W.codeIn K cdv qual=true) (S:FnScope N ps scope)
  (len:∀vs H Q E,sp vs H Q E->vs.length=ps.length)
  (hbody:∀(A:Ae) (outer:List Env) (s:Ab) (H:Hp) (vs:List V) (Q:VK) (E:XK),Room k (A.deeper (envOfC qual scope s.heap.objs.size f cdv))->sp vs H Q E ->
   ∃t,PSs (qz4 CX P w K mg base N qual scope f cdv A outer s H E) body t/\t { nx:=λ_ H'=>Q .non H',rt:=Q } (Zx N vs) H) :
  FnOk P w K mg base CX (k+1) f (W.fnOf name qual params body scope dV kV doc pm an cdv ct) ps sp:=by
 refine⟨len,λA outer s H args us vs Q E hr e0 hb r hsp=>?_⟩;have hl:=len _ _ _ _ hsp;have KX:K.In s.heap:=e0.mod.kin.keeps λb o e=>(e0.bs b o e).1;have lim:s.heap.NoLimit:=e0.mod.nolimit.keeps λb o e=>(e0.bs b o e).1;have hkind:∀y∈ps.zip us,scope.names.lookup y.1=some .local\/(scope.names.lookup y.1=some .cell/\((cellsFrom (s.heap.objs.size+1) scope.names []).lookup y.1).isSome=true):=λ⟨n,v⟩ hy=>by
  rcases S.par n (iM hy).1 with q|q
  .exact .inl q
  .exact .inr ⟨q,W.cellsFrom_some _ _ _ (.inl q)⟩
 refine codeAny_call_function hr.depth (KX _ _ lk) rfl S.co S.gen rfl (W.codeRec_of KX hcd) (hb _ _ _ _ ?_);refine wpAny_newFunctionEnv_cells S.kind hkind λenv he s1 x=>?_;subst he;refine⟨lim.keeps x.toInCall.keep,codeAny_func ?_⟩;obtain⟨t,ht,hq⟩:=hbody A outer s H vs Q E (hr.deeper _) hsp;have I:Inv (qz4 CX P w K mg base N qual scope f cdv A outer s H E) [] (Zx N vs) H s1:=wjj S hr.hd e0 hl r x;refine bi (ht [] s1 (Zx N vs) H _ I hq) (λfl s' hs=>?_) λe s' hs=>hs;have fin:∀ {σ':St} {H':Hp} {v:V} {u:Ag},Inv (qz4 CX P w K mg base N qual scope f cdv A outer s H E) [] σ' H' s'->RelV v u->Q v H'->CE outer P w H s Q u s' :=
  λ{σ' H' v u} J rv q=>⟨v,H',J.os,J.bare,J.base,J.hok,rv,q⟩
 cases fl with
 |ret u =>
  obtain⟨v,σ',H',J,rv,q⟩:=hs;exact fin J rv q
 |next =>
  obtain⟨σ',H',J,q⟩:=hs;exact fin (v:=V.non) (u:=Value.none) J rfl q
 |brk =>
  obtain⟨_,_,_,q⟩:=hs;exact False.elim q
 |cont =>
  obtain⟨_,_,_,q⟩:=hs;exact False.elim q
section
variable {X:Cx}{x:Str}{p pos:Pos}{e:Expr}{es:List Expr}{t:TA}{id T:String}{r:List V->Hp->VK->Prop}
def tCB (r:List V->Hp->VK->Prop)(t:TA):TE:=λσ H Q=>t σ H λvs H1=>r vs H1 Q
theorem wn (hc:jg X (.builtin id) r)(hg:Gl X x)(hm:X.mg x=none)(hv:bootBuiltins x=some (.builtin id))(ha:PA X (e::es) t)(hn:autoParam (x ≠ "__name__") aU2._auto_1)(hdb:autoParam ((x==("__debug__" : Str))=false) aU1._auto_1)
  (he:autoParam (starEach (e::es) X.env=(false,eval e X.env)::starEach es X.env) aU4._auto_1) (hpl:autoParam ((backTo pos (starEach es X.env)).any (·.1)=false) aU4._auto_1):PE X (.Call (.Name x p) (e::es) [] pos) (tCB r t):=by
 intro pins s σ H Q I h;refine dh (yr I hg hm hv ?_ hn hdb);exact PyProof.Rows.callWith_builtin1 (thn (ha pos pins s σ H _ I h) λus s1 ⟨vs,H1,I1,r1,q1⟩=>hc pins s1 σ H1 vs us Q I1 r1 q1) he hpl
theorem Ws (hc:jg X (.type T) r)(hg:Gl X x)(hm:X.mg x=none)(hv:bootBuiltins x=some (.type T))(ha:PA X (e::es) t)(hn:autoParam (x ≠ "__name__") aU2._auto_1)(hdb:autoParam ((x==("__debug__" : Str))=false) aU1._auto_1)
  (he:autoParam (starEach (e::es) X.env=(false,eval e X.env)::starEach es X.env) aU4._auto_1) (hpl:autoParam ((backTo pos (starEach es X.env)).any (·.1)=false) aU4._auto_1):PE X (.Call (.Name x p) (e::es) [] pos) (tCB r t):=by
 intro pins s σ H Q I h;refine dh (yr I hg hm hv ?_ hn hdb);exact cu (thn (ha pos pins s σ H _ I h) λus s1 ⟨vs,H1,I1,r1,q1⟩=>hc pins s1 σ H1 vs us Q I1 r1 q1) he hpl
end
end L2
namespace HT
open PySem PyProof.Rows
section
open PySem.SeqAt
open PySem.AutoSeq1 (wpAny_loadPart')
open PySem.MeetsSeq PySem.MeetsSeq2 PySem.MeetsSeq3
end
section
variable {prog:Ac}{w:Ah}{A:Ae}{E:Ag->Ab->Prop}{s:Ab}
theorem cat_tup {t b:Aj}{vs ws:List Ag}{Q:Ag->Ab->Prop}(ht:IsTup s.heap t vs.toArray)(hb:IsTup s.heap b ws.toArray)(hv:vs≠[])
  (h1:ws=[]->Q (.ref t) s) (h2:ws≠[]->Q (.ref s.heap.objs.size) { s with heap:=s.heap.push { cls:=.type "tuple",data:=.seq (vs++ws).toArray } })
  (hsz:vs.length+ws.length<=sizeLine):wpAny (model prog w) A (binaryOp .Add (.ref t) (.ref b)) Q E s:=by
 obtain⟨⟨cls,dd,data,sl⟩,ho,hc,n,hd⟩:=id ht;obtain⟨⟨cls2,dd2,data2,sl2⟩,ho2,hc2,n2,hd2⟩:=id hb;simp only at hc hd hc2 hd2;subst hc hd hc2 hd2;have e:vs.toArray++ws.toArray=(vs++ws).toArray:=by simp
 by_cases hw:ws=[]
 .exact concat_meets ⟨_,ho,rfl⟩ ⟨_,ho2,rfl⟩ iz seq_tuple_add fW fO (fv _ _)
   (tuple_addW1 t b vs.toArray ws.toArray n n2 dd dd2 sl sl2 (by simpa using hv) (by simp[hw])) ⟨ho,ho2,h1 hw⟩
 .refine concat_meets ⟨_,ho,rfl⟩ ⟨_,ho2,rfl⟩ iz seq_tuple_add fW fO (fv _ _)
   (tuple_addW2 t b vs.toArray ws.toArray n n2 dd dd2 sl sl2 (by simpa using hv) (by simpa using hw) (by rw[av,av];exact hsz)) ⟨ho,ho2,?_⟩
  rw[e];exact h2 hw
def sIx (n d:Nat):Option Int->Nat
 |none=>d
 |some v=>if v<0 then(v+(n:Int)).toNat else min v.toNat n
theorem sIx_none (n d:Nat):sIx n d none=d:=rfl
theorem sIx_nat (n d k:Nat):sIx n d (some (k:Int))=min k n:=by show(if(k:Int)<0 then((k:Int)+(n:Int)).toNat else min (k:Int).toNat n)=min k n;rw[ar ⋯,b8]
theorem clip_eq (v:Int)(n d:Nat):(if v<0 then max (v+(n:Int)) 0 else min v (n:Int))=((sIx n d (some v):Nat):Int):=by
 show(if v<0 then max (v+(n:Int)) 0 else min v (n:Int))=(((if v<0 then(v+(n:Int)).toNat else min v.toNat n):Nat):Int);by_cases hv:v<0
 .simp only[aw hv];lia
 .simp only[ar hv];lia
end
end HT
namespace L2
open PySem PySem.Spec PyProof.Rows
abbrev TO:=St->Hp->(Option Int->Hp->Prop)->Prop
def PO (X:Cx)(e:Option Expr)(t:TO):Prop :=
 ∀(pins:List (Aj×Obj)) (s:Ab) (σ:St) (H:Hp) (Q:Option Int->Hp->Prop),Inv X pins σ H s->t σ H Q ->
  wpAny (model X.prog X.w) X.A (evalPart e X.env) (λu s'=>∃o H',Inv X pins σ H' s'/\IsPart u o/\Q o H') X.xe s
def xvy:TO:=λ_ H Q=>Q none H
def tPart (t:TE):TO:=λσ H Q=>t σ H λx H1=>∃i,x=.int i/\Q (some i) H1
theorem Qc {ns:List Int}:∀ {us:List Ag},Vals (ns.map V.int) us->IntsAre us ns:=by
 induction ns with
 |nil=>intro us r;rw[cV]at r;cases r;exact .nil
 |cons n ns ih =>
  intro us r;rw[aD]at r;cases r with
  |cons r1 r2 =>
   obtain⟨t,e⟩:=r1;subst e;exact .cons n t (ih r2)
section
variable {X:Cx}{e:Expr}{te:TE}{lo hi:Option Expr}{tl th:TO}{pos p2:Pos}
theorem xzc:PO X none xvy:=by intro pins s σ H Q I h;rw[evalPart_none];exact aj ⟨none,H,I,.none,h⟩
theorem qyb (h:PE X e te):PO X (some e) (tPart te):=by intro pins s σ H Q I hw;rw[evalPart_some];refine thn (h pins s σ H _ I hw) λu s1 ⟨x,H1,I1,r1,q1⟩=>?_;obtain⟨i,rfl,q⟩:=q1;obtain⟨t,rfl⟩:=r1;exact⟨some i,H1,I1,.int i t,q⟩
def SlR (X:Cx)(r:V->Option Int->Option Int->Hp->VK->Prop):Prop :=
 ∀(pins:List (Aj×Obj)) (s:Ab) (σ:St) (H:Hp) (x:V) (v vl vu:Ag) (lo hi:Option Int) (sl:Aj) (Q:VK),Inv X pins σ H s->RelV x v->s.heap.IsSliceOf sl vl vu .none->IsPart vl lo->IsPart vu hi->r x lo hi H Q ->
  ∃T id,typeLookup (.type T) "__getitem__" = pure (some (.builtin id))/\s.TypeIs v T/\wpAny (model X.prog X.w) X.A (getItem v (.ref sl)) (EP X pins σ Q) X.xe s
def tSl (r:V->Option Int->Option Int->Hp->VK->Prop)(te:TE)(tl th:TO):TE:=λσ H Q=>te σ H λx H1=>tl σ H1 λl H2=>th σ H2 λu H3=>r x l u H3 Q
theorem wqd {r:V->Option Int->Option Int->Hp->VK->Prop}(hr:SlR X r)(he:PE X e te)(hl:PO X lo tl)(hu:PO X hi th):PE X (.Subscript e (.Slice lo hi none p2) pos) (tSl r te tl th):=by intro pins s σ H Q I h;refine Subscript_ (thn (he pins s σ H _ I h) λv s1 ⟨x,H1,I1,r1,q1⟩=>?_);refine wpAny_Slice (thn (hl pins s1 σ H1 _ I1 q1) λvl s2 ⟨l,H2,I2,pl,q2⟩=>thn (hu pins s2 σ H2 _ I2 q2) λvu s3 ⟨u,H3,I3,pu,q3⟩=>?_);rw[evalPart_none];refine aj ?_;have I4:Inv X pins σ H3 { s3 with heap:=s3.heap.push { cls:=.type "slice",data:=.fields #[vl,vu,.none] } }:=I3.kept (t':=s3.toks) λb ob q=>ai _ q;obtain⟨T,id,hT,ht,hg⟩:=hr pins { s3 with heap:=s3.heap.push { cls:=.type "slice",data:=.fields #[vl,vu,.none] } } σ H3 x v vl vu l u s3.heap.objs.size Q I4 r1 (Heap.IsSliceOf.new ..) pl pu q3;show wpAny (model X.prog X.w) X.A (subscriptTail e (.Slice lo hi none p2) v (.ref s3.heap.objs.size)) (EP X pins σ Q) X.xe { s3 with heap:=s3.heap.push { cls:=.type "slice",data:=.fields #[vl,vu,.none] } };exact tail_any (ops:=[.ref s3.heap.objs.size,v]) ht hT hg (by with_unfolding_all rfl)
def Yd (xs:List V)(lo hi:Option Int):List V:=(xs.drop (HT.sIx xs.length 0 lo)).take (HT.sIx xs.length xs.length hi-HT.sIx xs.length 0 lo)
theorem qy4 (xs:List V)(lo hi:Option Int):(Yd xs lo hi).length<=xs.length:=by unfold Yd;rw[aY,bZ];lia
def rCatT (K:Aa):R2:=λx y H Q=>∃a b xs ys,x=.ref a/\y=.ref b/\SqT K H a xs/\SqT K H b ys/\xs≠[]/\xs.length+ys.length<=sizeLine /\
 (ys=[]->Q (.ref a) H)/\(ys≠[]->∀p,H p=none->Q (.ref p) (upd H p (.tup (xs++ys))))
theorem Vals.nil_iff {xs:List V}{us:List Ag}(r:Vals xs us):us=[]↔xs=[]:=by
 cases r with
 |nil=>simp
 |cons _ _=>simp
theorem xvv:OpR X (binaryOp .Add) (rCatT X.K):=by intro pins s σ H x y v u Q I rx ry h;obtain⟨a,b,xs,ys,rfl,rfl,ha,hb,hx,hz,q1,q2⟩:=h;cases rx;cases ry;obtain⟨its,r1,p1,_⟩:=I.tuple ha;obtain⟨its2,r2,p2,_⟩:=I.tuple hb;refine HT.cat_tup p1 p2 (λz=>hx (r1.nil_iff.mp z)) (λz=>⟨.ref a,H,I,rfl,q1 (r2.nil_iff.mp z)⟩) (λz=>?_) (by rw[<-r1.length,<-r2.length];exact hz);refine⟨.ref s.heap.objs.size,_,I.laid (t':=s.toks) (o:=.tup (xs++ys)) (λb ob q=>ai _ q) (al _) ?_,rfl,q2 (λw=>z (r2.nil_iff.mpr w)) _ (I.hok.fresh (al _))⟩;exact⟨by rw[am];exact hz,_,r1.append r2,IsTup.new _ _⟩
end
def ixN (n:Nat)(i:Int):Option Nat:=if 0<=i then(if i<n then some i.toNat else none) else if -(n:Int)<=i then some (i+n).toNat else none
def atI {α:Type}(xs:List α)(i:Int):Option α:=(ixN xs.length i).bind λj=>xs[j]?
theorem xzt {n:Nat}{i:Int}{j:Nat}(h:ixN n i=some j):seqIndex? i n=some j/\j<n/\-(n:Int)<=i/\i<n:=by
 unfold ixN at h;by_cases h0:0<=i
 .rw[aw h0]at h;by_cases h1:i<n
  .rw[aw h1]at h;have e:i.toNat=j:=aq h;exact⟨by rw[seqIndex_of h0 h1,e],⋯,⋯,h1⟩
  .rw[ar h1]at h;cases h
 .rw[ar h0]at h;by_cases h1:-(n:Int)<=i
  .rw[aw h1]at h;have e:(i+n).toNat=j:=aq h;exact⟨by rw[seqIndex_neg ⋯ h1,e],⋯,h1,⋯⟩
  .rw[ar h1]at h;cases h
theorem wvs {α:Type}{xs:List α}{i:Int}{v:α}(h:atI xs i=some v):∃j,seqIndex? i xs.length=some j/\xs[j]?=some v/\j<xs.length/\-(xs.length:Int)<=i/\i<xs.length:=by
 unfold atI at h;cases e:ixN xs.length i with
 |none=>rw[e]at h;cases h
 |some j =>
  rw[e]at h;obtain⟨h1,h2,h3,h4⟩:=xzt e;exact⟨j,h1,h,h2,h3,h4⟩
theorem vg {α:Type}{xs:List α}{j:Nat}{v:α}(h:xs[j]?=some v):atI xs (j:Int)=some v:=by
 have hj:j<xs.length:=(ak.mp h).1;have e:ixN xs.length (j:Int)=some j:=by unfold ixN;rw[aw ⋯,aw ⋯];simp
 unfold atI;rw[e];exact h
theorem Wq {α:Type}(xs:List α)(v:α):atI (xs++[v]) (-1)=some v:=by
 have hl:(xs++[v]).length=xs.length+1:=by simp
 have e:ixN (xs++[v]).length (-1)=some xs.length:=by unfold ixN;rw[hl,ar ⋯,aw ⋯];congr 1;lia
 unfold atI;rw[e];show(xs++[v])[xs.length]?=some v;simp
def xzy (b:Expr):Prop:=∀o i,subscripted b false o i=operate [o,i] (getItem o i)
def IxR (X:Cx)(r:R2):Prop :=
 ∀(value slice:Expr) (pins:List (Aj×Obj)) (s:Ab) (σ:St) (H:Hp) (x y:V) (v u:Ag) (Q:VK),Inv X pins σ H s->RelV x v->RelV y u->r x y H Q ->
  subscripted slice false v u=operate [v,u] (getItem v u)->wpAny (model X.prog X.w) X.A (subscriptTail value slice v u) (EP X pins σ Q) X.xe s
def MtR (X:Cx)(id:String)(r:V->List V->Hp->VK->Prop):Prop :=
 ∀(pins:List (Aj×Obj)) (s:Ab) (σ:St) (H:Hp) (x:V) (xs:List V) (v:Ag) (us:List Ag) (Q:VK),Inv X pins σ H s->RelV x v->Vals xs us->r x xs H Q ->
  wpAny (model X.prog X.w) X.A (call (.builtin id) (v::us)) (EP X pins σ Q) X.xe s
section
variable {X:Cx}{a b:Expr}{ta tb:TE}{pos:Pos}
theorem wv {r:R2}(hr:IxR X r)(ha:PE X a ta)(hb:PE X b tb)(hs:xzy b):PE X (.Subscript a b pos) (tOp r ta tb):=by intro pins s σ H Q I h;exact Subscript_ (binT ha hb I h λv u s2 x y H2 I2 rx ry q=>hr a b pins s2 σ H2 x y v u Q I2 rx ry q (hs _ _))
def wwy (K:Aa):R2:=λx y H Q=>∃p xs i v,x=.ref p/\y=.int i/\SqL K H p xs/\atI xs i=some v/\Q v H
def rIxT (K:Aa):R2:=λx y H Q=>∃p xs i v,x=.ref p/\y=.int i/\SqT K H p xs/\atI xs i=some v/\Q v H
theorem x8:IxR X (wwy X.K):=by
 intro value slice pins s σ H x y v u Q I rx ry h hs;obtain⟨p,xs,i,z,rfl,rfl,hq,he,q⟩:=h;cases rx;obtain⟨t,rfl⟩:=ry;obtain⟨its,r,pl,hz⟩:=I.list hq;obtain⟨j,h1,h2,h3,h4,h5⟩:=wvs he;obtain⟨w,ew,rw'⟩:=r.get h2;have hl:=r.length;have hn:=ww9;have fin:EP X pins σ Q w s:=⟨z,H,I,rw',q⟩;by_cases h0:0<=i
 .have hj:i.toNat=j:=by rw[seqIndex_of h0 h5]at h1;exact aq h1
  exact item_listR pl.isList h0 ⋯ (by rw[hj];simpa using ew) fin hs
 .have hj:(i+(its.toArray.size:Int)).toNat=j:=by rw[seqIndex_neg ⋯ h4]at h1;rw[av,<-hl];exact aq h1
  exact subscriptTail_builtinR (x:=w) pl.isList.typeIs slot_list_getitem.lookup
   (wpAny_getItem_list_neg (Q:=λr s'=>r=w/\EP X pins σ Q r s') pl.isList ⋯ (by rw[av] <;> lia) ⋯ (by rw[hj];simpa using ew) ⟨rfl,fin⟩) hs
theorem wb:IxR X (rIxT X.K):=by
 intro value slice pins s σ H x y v u Q I rx ry h hs;obtain⟨p,xs,i,z,rfl,rfl,hq,he,q⟩:=h;cases rx;obtain⟨t,rfl⟩:=ry;obtain⟨its,r,pl,hz⟩:=I.tuple hq;obtain⟨j,h1,h2,h3,h4,h5⟩:=wvs he;obtain⟨w,ew,rw'⟩:=r.get h2;have hl:=r.length;have hn:=ww9;have fin:EP X pins σ Q w s:=⟨z,H,I,rw',q⟩;exact subscriptTail_builtinR (x:=w) pl.typeIs slot_tuple_getitem.lookup
  (getItem_tuple (j:=j) (Q:=λr s'=>r=w/\EP X pins σ Q r s') pl ⋯ ⋯ (by rw[av,<-hl];exact h1) (by simpa using ew) ⟨rfl,fin⟩) hs
theorem qjz (lo hi:Option Int)(n:Nat):(sliceBounds lo hi none n).1=((HT.sIx n 0 lo:Nat):Int)/\(sliceBounds lo hi none n).2.1=((HT.sIx n n hi:Nat):Int)/\(sliceBounds lo hi none n).2.2=1:=by
 refine⟨?_,?_,rfl⟩
 .cases lo with
  |none=>simp[sliceBounds,HT.sIx]
  |some i =>
   simp only[sliceBounds,HT.sIx,Option.getD_none,show(1:Int)>0 by decide,db];by_cases h:i<0
   .simp only[h,db] <;> lia
   .simp only[h,bN] <;> lia
 .cases hi with
  |none=>simp[sliceBounds,HT.sIx]
  |some i =>
   simp only[sliceBounds,HT.sIx,Option.getD_none,show(1:Int)>0 by decide,db];by_cases h:i<0
   .simp only[h,db] <;> lia
   .simp only[h,bN] <;> lia
theorem qzs (its:List Ag)(lo hi:Option Int):slicePick its.toArray lo hi none=((its.drop (HT.sIx its.length 0 lo)).take (HT.sIx its.length its.length hi-HT.sIx its.length 0 lo)).toArray:=by obtain⟨h1,h2,h3⟩:=qjz lo hi its.toArray.size;unfold slicePick;rw[h1,h2,h3];simp only[sliceRange_one,pick_run,av] <;> rfl
def rSlL (K:Aa):V->Option Int->Option Int->Hp->VK->Prop:=λx lo hi H Q=>∃a xs,x=.ref a/\SqL K H a xs/\∀p,H p=none->Q (.ref p) (upd H p (.lst (Yd xs lo hi)))
theorem wz0:SlR X (rSlL X.K):=by intro pins s σ H x v vl vu lo hi sl Q I rx hs pl pu h;obtain⟨a,xs,rfl,hx,q⟩:=h;cases rx;obtain⟨its,r,ht,hz⟩:=I.list hx;have hlen:=r.length;refine⟨"list",_,slot_list_getitem.lookup,ht.isList.typeIs,?_⟩;refine wpAny_getItem_list_slice ht.isList hs pl pu .none (by simp) ?_ (by rw[av] <;> lia);rw[qzs,<-hlen];refine⟨.ref s.heap.objs.size,_,I.laid (t':=s.toks) (o:=.lst (Yd xs lo hi)) (λb ob q=>ai _ q) (al _) ?_,rfl,q _ (I.hok.fresh (al _))⟩;exact⟨bM (qy4 xs lo hi) hz,_,0,(r.drop (HT.sIx xs.length 0 lo)).take (HT.sIx xs.length xs.length hi-HT.sIx xs.length 0 lo),aF _ rfl⟩
theorem xf:jg X (.builtin "len") (λxs H Q=>∃p ys,xs=[.ref p]/\(SqL X.K H p ys\/SqT X.K H p ys)/\Q (.int ys.length) H):=by
 intro pins s σ H xs us Q I r h;obtain⟨p,ys,rfl,hq,q⟩:=h;obtain⟨u,rfl,rx⟩:=jr r;cases rx;have hn:=ww9;rcases hq with hq|hq
 .obtain⟨its,r',pl,hz⟩:=I.list hq;have hlen:=r'.length;exact Calls.call_len_list pl.isList (by simp only[av] <;> lia) ⟨.int ys.length,H,I.tok _,⟨s.toks+1,by rw[av,hlen]⟩,q⟩
 .obtain⟨its,r',pl,hz⟩:=I.tuple hq;have hlen:=r'.length;exact len_tuple pl (by simp only[av] <;> lia) ⟨.int ys.length,H,I.tok _,⟨s.toks+1,by rw[av,hlen]⟩,q⟩
theorem uh:jg X (.type "list") (λxs H Q=>∃p ys,xs=[.ref p]/\(SqL X.K H p ys\/SqT X.K H p ys)/\∀l,H l=none->Q (.ref l) (upd H l (.lst ys))):=by
 intro pins s σ H xs us Q I r h;obtain⟨p,ys,rfl,hq,q⟩:=h;obtain⟨u,rfl,rx⟩:=jr r;cases rx;have fin:∀(its:List Ag),Vals ys its->ys.length<=sizeLine->∀(h':Heap) (c':Nat),(∀b o',s.heap.get? b=some o'->h'.get? b=some o') ->
   h'.get? s.heap.objs.size=some { cls:=.type "list",dict:=none,data:=.seq its.toArray c',slots:=#[] }->EP X pins σ Q (.ref s.heap.objs.size) { s with heap:=h' }:=λits r' hz h' c' kp e =>
  ⟨.ref s.heap.objs.size,_,I.laid (t':=s.toks) kp (al _) (show ObjOk X.prog X.w _ h' _ (.lst ys) from ⟨hz,its,c',r',e⟩),rfl,q _ (I.hok.fresh (al _))⟩
 rcases hq with hq|hq
 .obtain⟨its,r',pl,hz⟩:=I.list hq;have hlen:=r'.length;obtain⟨o,ho,hc,n,hd⟩:=pl.isList;exact call_list_seq p (.inl rfl) ho hc hd (λh' c' kp e=>fin its r' hz h' c' kp e) (by simp only[av] <;> lia)
 .obtain⟨its,r',pl,hz⟩:=I.tuple hq;have hlen:=r'.length;obtain⟨o,ho,hc,n,hd⟩:=pl;exact call_list_seq p (.inr rfl) ho hc hd (λh' c' kp e=>fin its r' hz h' c' kp e) (by simp only[av] <;> lia)
def tyV (K:Aa)(T:String)(x:V)(H:Hp):Prop:=match x with
 |.str _=>T = "str"
 |.int _=>T = "int"
 |.ref p=>(T = "list" /\ ∃xs,SqL K H p xs)\/(T = "tuple" /\ ∃o,K.lookup p=some o/\o.cls=.type "tuple" /\ o.dict=none) \/
   (T = "dict" /\ ((∃kvs,H p=some (.dK kvs))\/∃kvs,H p=some (.dT kvs)))\/(T = "set" /\ ∃S n,H p=some (.set S n))
 |_=>False
theorem tyV_is {pins:List (Aj×Obj)}{σ:St}{H:Hp}{s:Ab}{T:String}{x:V}{v:Ag}(I:Inv X pins σ H s)(r:RelV x v)(ty:tyV X.K T x H) :
  s.TypeIs v T/\∀a,v=.ref a->∃ob,s.heap.get? a=some ob/\ob.dict=none:=by
 cases x with
 |str z =>
  obtain⟨t,rfl⟩:=r;cases(show T = "str" from ty);exact⟨typeIs_str s z t,λ_ e=>nomatch e⟩
 |int i =>
  obtain⟨t,rfl⟩:=r;cases(show T = "int" from ty);exact⟨typeIs_int s i t,λ_ e=>nomatch e⟩
 |ref p =>
  cases r;rcases ty with⟨rfl,xs,hq⟩|⟨rfl,o,hk,hc,hd⟩|⟨rfl,hk⟩|⟨rfl,S,n,hk⟩
  .obtain⟨its,_,pl,_⟩:=I.list hq;refine⟨pl.isList.typeIs,λa e=>?_⟩;cases e;obtain⟨o,n,e,c,hd,_⟩:=pl;exact⟨o,e,hd⟩
  .refine⟨⟨o,I.kIn p o hk,hc⟩,λa e=>?_⟩;cases e;exact⟨o,I.kIn _ o hk,hd⟩
  .have z:∃o,s.heap.get? p=some o/\o.ExactDict:=by
    rcases hk with⟨kvs,hk⟩|⟨kvs,hk⟩
    .obtain⟨_,_,_,_,o,_,_,e,ex,_⟩:=I.hok p _ hk;exact⟨o,e,ex⟩
    .obtain⟨_,_,_,_,o,_,_,e,ex,_⟩:=I.hok p _ hk;exact⟨o,e,ex⟩
   obtain⟨o,e,ex⟩:=z;refine⟨⟨o,e,ex.1⟩,λa e2=>?_⟩;cases e2;exact⟨o,e,ex.2.1⟩
  .obtain⟨o,_,_,_,e,ex,_⟩:=I.hok p _ hk;refine⟨⟨o,e,ex.1⟩,λa e2=>?_⟩;cases e2;exact⟨o,e,ex.2.1⟩
 |_=>exact False.elim ty
def tBM (K:Aa)(T:String)(r:V->List V->Hp->VK->Prop)(to:TE)(t:TA):TE:=λσ H Q=>to σ H λx H1=>tyV K T x H1/\t σ H1 λxs H2=>r x xs H2 Q
variable {o e:Expr}{es:List Expr}{to:TE}{t:TA}{name:Str}{apos cpos:Pos}{T id:String}{r:V->List V->Hp->VK->Prop}
theorem Q0 (pa:PlainAttrs T)(slot:Slot T name id)(hty:typeOf (.builtin id)=pure (.type "method_descriptor"))(hm:MtR X id r)(ho:PE X o to)(ha:PA X (e::es) t)
  (hbase:autoParam (attributeBase o name X.env (eval o X.env)=eval o X.env) aU4._auto_1)
  (hfew:autoParam (((backTo cpos (starEach (e::es) X.env)).all (λx=>!x.1)&&(backToKw cpos (keywordEach [] X.env)).all (λx=>x.1.isSome)
   && decide ((e::es).length+([]:List Keyword).length+(if([]:List Keyword).isEmpty then 0 else 1)<30))=true) aU4._auto_1)
  (hline:autoParam ((apos.endLine==cpos.line)=true) aU4._auto_1) (hs:autoParam (starEach (e::es) X.env=(false,eval e X.env)::starEach es X.env) aU4._auto_1) (hplain:autoParam ((backTo cpos (starEach es X.env)).any (·.1)=false) aU4._auto_1) :
  PE X (.Call (.Attribute o name apos) (e::es) [] cpos) (tBM X.K T r to t):=by
 intro pins s σ H Q I h;refine wpAny_Call_method_late hbase hfew hline rfl (thn (ho pins s σ H _ I h) λv s1 ⟨x,H1,I1,r1,ty,q1⟩=>?_);obtain⟨h1,h2⟩:=tyV_is I1 r1 ty;refine⟨T,id,pa,slot,hty,h1,h2,?_⟩;have hA:=ha cpos pins s1 σ H1 _ I1 q1;rw[hs]at hA ⊢;refine Calls.callWith_builtin (by show(false||(backTo cpos (starEach es X.env)).any (·.1))=false;rw[hplain] <;> rfl) (Calls.evalArgs_plain ?_);exact thn hA λus s2 ⟨vs,H2,I2,r2,q2⟩=>hm pins s2 σ H2 x vs v us Q I2 r1 r2 q2
end
def MtM (X:Cx)(id:String)(r:V->List V->Hp->VK->Prop):Prop :=
 ∀(pins:List (Aj×Obj)) (s:Ab) (σ:St) (H:Hp) (x:V) (xs:List V) (v:Ag) (us:List Ag) (Q:VK),Inv X pins σ H s->RelV x v->Vals xs us->r x xs H Q ->
  wpAny (model X.prog X.w) X.A (call (.builtin id) (v::us)) (EP X pins σ Q) X.xe s
theorem Vals.one:∀ {x:V} {us:List Ag},Vals [x] us->∃u,us=[u]/\RelV x u
 |_,_,.cons r .nil=>⟨_,rfl,r⟩
theorem Vals.two:∀ {x y:V} {us:List Ag},Vals [x,y] us->∃u v,us=[u,v]/\RelV x u/\RelV y v
 |_,_,_,.cons r (.cons q .nil)=>⟨_,_,rfl,r,q⟩
section
variable {X:Cx}{pins:List (Aj×Obj)}{σ:St}{H:Hp}{s:Ab}{l b:Aj}{xs ys zs:List V}
theorem Inv.lset {its its':List Ag}{n:Nat}{f:Array Ag->Array Ag}{t':Nat}(I:Inv X pins σ H s)(hH:H l=some (.lst xs))
  (e:s.heap.get? l=some { cls:=.type "list",data:=.seq its.toArray n }) (hf:f its.toArray=its'.toArray) (hv:Vals ys its') (hz:ys.length<=sizeLine) :
  Inv X pins σ (upd H l (.lst ys)) { s with heap:=s.heap.update l (Obj.mapSeq f),toks:=t' }:=by
 have q:=PySem.IsL.update e f;rw[hf]at q;refine I.write (x:=l) (e:=l) (by rw[hH];exact trivial) (.inl rfl) (λb' u hb hu=>(cW s.heap (Obj.mapSeq f) (dD hb)).trans hu) ⟨_,q⟩ ?_;exact⟨hz,its',_,hv,q⟩
theorem Inv.lnew {its:List Ag}{t':Nat}(I:Inv X pins σ H s)(hv:Vals ys its)(hz:ys.length<=sizeLine) :
  Inv X pins σ (upd H s.heap.objs.size (.lst ys)) { s with heap:=s.heap.push { cls:=.type "list",data:=.seq its.toArray },toks:=t' } :=
 I.laid (λ_ _ q=>ai _ q) (al _) ⟨hz,its,0,hv,aF _ rfl⟩
theorem Inv.fresh (I:Inv X pins σ H s):H s.heap.objs.size=none:=I.hok.fresh (al _)
theorem Inv.lstM (I:Inv X pins σ H s)(hH:H l=some (.lst xs)):xs.length<=sizeLine/\∃(its:List Ag) (n:Nat),Vals xs its/\xs.length=its.length/\s.heap.get? l=some { cls:=.type "list",data:=.seq its.toArray n }:=by obtain⟨z,its,n,r,e⟩:=I.hok l _ hH;exact⟨z,its,n,r,r.length,e⟩
theorem qug {n:Nat}(h:n<=sizeLine):Builtin.List.listTooLong n=false:=by unfold Builtin.List.listTooLong;exact bb ⋯
end
section
variable {X:Cx}
def xx4:V->List V->Hp->VK->Prop:=λx vs H Q=>∃l xs y,x=.ref l/\vs=[y]/\H l=some (.lst xs)/\xs.length<sizeLine/\Q .non (upd H l (.lst (xs++[y])))
theorem vk:MtM X "list.append" xx4:=by intro pins s σ H x vs v us Q I rx rv h;obtain⟨l,xs,y,rfl,rfl,hH,hz,q⟩:=h;cases rx;obtain⟨u,rfl,ru⟩:=rv.one;obtain⟨z,its,n,r,hl,e⟩:=I.lstM hH;refine call_meets F.slot_list_append ⟨_,e,rfl⟩ F.entry_list_append (F.args_list_append_2 _ _) (PySem.list_append l its.toArray n u (by rw[av];lia)) ⟨e,?_⟩;refine⟨.non,_,I.lset (its':=its++[u]) hH e (by simp) (r.append (.cons ru .nil)) ?_,rfl,q⟩;rw[am,cN];lia
def xxn:V->List V->Hp->VK->Prop:=λx vs H Q=>∃l b xs zs,x=.ref l/\vs=[.ref b]/\H l=some (.lst xs)/\H b=some (.lst zs)/\xs.length+zs.length<=sizeLine/\Q .non (upd H l (.lst (xs++zs)))
theorem wjn:MtM X "list.extend" xxn:=by
 intro pins s σ H x vs v us Q I rx rv h;obtain⟨l,b,xs,zs,rfl,rfl,hH,hB,hz,q⟩:=h;cases rx;obtain⟨u,rfl,ru⟩:=rv.one;cases ru;obtain⟨z,its,n,r,hl,e⟩:=I.lstM hH;obtain⟨z2,its2,n2,r2,hl2,e2⟩:=I.lstM hB;have hsz:its.toArray.size+its2.toArray.size<=sizeLine:=by rw[av,av];lia
 have hlong:¬ (!its.toArray.isEmpty&&Builtin.List.listTooLong (its.toArray.size+its2.toArray.size))=true:=by rw[qug hsz,fX];exact aK
 refine call_meets F.slot_list_extend ⟨_,e,rfl⟩ F.entry_list_extend (F.args_list_extend_2 _ _)
  (AutoSeq1.list_extend_list_list_0 l its.toArray n b its2.toArray n2 hlong (by rw[av];lia) ⋯) ⟨e,e2,?_⟩
 refine⟨.non,_,I.lset (its':=its++its2) hH e (by simp) (r.append r2) ?_,rfl,q⟩;rw[am];lia
def rCat:R2:=λx y H Q=>∃l b xs zs,x=.ref l/\y=.ref b/\H l=some (.lst xs)/\H b=some (.lst zs)/\xs.length+zs.length<=sizeLine/\∀p,H p=none->Q (.ref p) (upd H p (.lst (xs++zs)))
theorem wur:OpR X (binaryOp .Add) rCat:=by
 intro pins s σ H x y v u Q I rx ry h;obtain⟨l,b,xs,zs,rfl,rfl,hH,hB,hz,q⟩:=h;cases rx;cases ry;obtain⟨z,its,n,r,hl,e⟩:=I.lstM hH;obtain⟨z2,its2,n2,r2,hl2,e2⟩:=I.lstM hB;refine PySem.P.add_list e e2 ?_ (by rw[av,av];lia);have ea:its.toArray++its2.toArray=(its++its2).toArray:=by simp
 rw[ea];exact⟨.ref _,_,I.lnew (t':=s.toks) (r.append r2) (by rw[am];lia),rfl,q _ I.fresh⟩
end
section
variable {prog:Ac}{w:Ah}{A:Ae}{E:Ag->Ab->Prop}{s:Ab}
end
section
variable {X:Cx}
end
end L2
namespace Att
open PySem PySem.W PySem.Calls PyProof.Rows
theorem qq6 {P:Params}{h:Heap}:∀(ns:List Int) (vs:List Ag),WellAll P h vs (ns.map WData.int)->IntsAre vs ns:=by
 intro ns
 induction ns with
 |nil =>
  intro vs w;rw[cV]at w;cases w;exact .nil
 |cons n ns ih =>
  intro vs w;rw[aD]at w;cases w with
  |cons a b =>
   cases a;exact .cons _ _ (ih _ b)
theorem wjk {l:OpenLaw}{n:Nat}(hn:l.most=some n){P:Params}{h:Heap}{args:List WData}{vals:List Ag}
  (hpre:l.row.toRowW.claim.pre args=true) (hwl:WellAll P h vals args) :
  ∃a vs ns,vals=[Value.ref a]/\args=[WData.list (ns.map WData.int)]/\h.get? a=some { cls:=.type "list",data:=.seq vs.toArray }/\IntsAre vs ns/\ns.length<=n:=by
 have hsh:WShape.hasAll [] args [.list .int]=true:=(pre_splitW hpre).1;have hc:l.pre.holds [] { args:=args }=true:=(pre_splitW hpre).2;obtain⟨d,r,rfl,h1,h2⟩:=hasAllW_cons hsh;obtain rfl:=hasAllW_nil h2;obtain⟨xs,rfl,h3⟩:=hasW_list h1;obtain⟨ns,rfl⟩:=items_int h3;have hlen:ns.length<=n:=by
  unfold OpenLaw.pre at hc;have h4:(WTm.not (.lt (.lit (.int (n:Int))) (.len (.arg 0)))).holds [] { args:=[.list (ns.map .int)] }=true:=by have h4:=(holds_andW hc).1;rw[hn]at h4;exact h4
  have h5:=condW_of h4 (w_not (w_lt w_lit (w_len_list (w_arg rfl))));rw[ag]at h5;refine Nat.le_of_not_lt λq=>?_;have q':(n:Int)<((ns.length:Nat):Int):=by lia
  first
   |(rw[aS q']at h5;exact absurd h5 ⋯)
   |(simp at h5;lia)
 cases hwl with
 |cons w1 w2 =>
  cases w2;cases w1 with
  |list ho hall=>exact⟨_,_,ns,rfl,rfl,ho,qq6 ns _ hall,hlen⟩
theorem wjx (l:OpenLaw)(args:List WData):l.row.toRowW.claim.post args (.bool true) args=true :=
 postW_of (r:=l.row.toRowW) (X:=(true==true))
  (show WShape.has [] (.bool true) .bool=true by first | rfl | decide | simp[WShape.has,WShape.arms,WShape.armsAll])
  (show(WTm.eq .res (.lit (.bool true))).value [] { args:=args,res:=some (.bool true),after:=args }=some (.bool (true==true)) from w_eq_bool (w_res rfl) w_lit) rfl
theorem attach_call {l:OpenLaw}{n:Nat}{q:Ac}{loose:List Str}{XP:(Str->Option Ag)->Heap->Prop}{YP:Ah->Heap->Prop}{d:DefRec}
  (hn:l.most=some n) (hdf:d.params.defaults=[])
  (call:∀(w:Ah) (s₀ s₁:Ab) (mg mb:Str->Option Ag) (fa:Aj) (o:Obj) (pm cd doc:Ag) (a:Aj) (vs:List Ag) (ns:List Int),
   Ground q loose [] XP w s₀ mg mb s₁.heap->YP w s₁.heap ->
   s₁.heap.get? fa=some o->o.data=.func (docDef d.name d.params d.body d.scope pm cd doc)->s₁.heap.CodeRec cd d.name->mg d.name=some (.ref fa) ->
   s₁.heap.get? a=some { cls:=.type "list",data:=.seq vs.toArray }->IntsAre vs ns->ns.length<=n->s₁.gens=#[] ->
   codeAny (model l.prog w) callerA (.call (.ref fa) ⟨[.ref a],[]⟩) (λr s'=>r=.ok (.ret (.bool true))/\OldK s₁.heap s'.heap/\s'.os=s₁.os/\AllBare s'.gens) s₁) :
  WalkO q loose XP YP l.row.toRowW d [] (λf vs=>PySem.call f vs):=by
 intro w s₀ s₁ mg mb G Y fa o pm cd doc dV kV ho hd hcd hD hmg hg args vals as hpre hlay hrd hwl hlo;obtain rfl:dV=.none:=Dflts.none hD hdf;obtain rfl:kV=.none:=Dflts.noKw hD;obtain⟨a,vs,ns,rfl,rfl,hobj,hints,hlen⟩:=wjk hn hpre hwl;refine enter_call (eV (call w s₀ s₁ mg mb fa o pm cd doc a vs ns G Y ho (fd_plain hd) hcd hmg hobj hints hlen hg) λr s' hq=>?_);obtain⟨rfl,h2,h3,h4⟩:=hq;exact⟨.inl ⟨.bool true,.bool true,[],rfl,λ_=>rfl,.bool true,wjx l _,λ_=>⟨List.Pairwise.nil,λ_ hm=>(nomatch hm)⟩⟩,h2,h3,h4⟩
section
variable {prog:Ac}{w:Ah}{A:Ae}{E:Ag->Ab->Prop}{s:Ab}{K:Frag}
end
end Att
namespace L2
open PySem PySem.Spec PyProof.Rows
theorem Jg:∀ {vs:List Ag} {ns:List Int},IntsAre vs ns->Vals (ns.map V.int) vs
 |_,_,.nil=>.nil
 |_,_,.cons n t h=>.cons ⟨t,rfl⟩ (Jg h)
def ym (s:Stmt)(j:Nat):Stmt:=match s with
 |.ClassDef _ _ _ body _ _ _ _ _ _ _=>body.getD j (.Pass ⟨0,0,0,0⟩)
 |_=>.Pass ⟨0,0,0,0⟩
def ku (s:Stmt):Arguments:=match s with
 |.FunctionDef _ a _ _ _ _ _ _ _ _=>a
 |_=>{ posonlyargs:=[],args:=[],vararg:=none,kwonlyargs:=[],kw_defaults:=[],kwarg:=none,defaults:=[] }
def vz (s:Stmt):List Stmt:=match s with
 |.FunctionDef _ _ b _ _ _ _ _ _ _=>b
 |_=>[]
def ww (s:Stmt):Scope:=match s with
 |.FunctionDef _ _ _ _ _ _ sc _ _ _=>sc
 |_=>{ kind:=.function,names:=[],isGenerator:=false,isCoroutine:=false }
abbrev E0:XK:=λ_ _ _=>False
structure Fun (K:Aa)(x qual:Str)(st:Stmt)(f:Aj)(fd:Ad):Prop where
 ex:∃(oc:Ag) (od:Option Aj) (kV doc pm:Ag) (an:Option Aj) (cdv ct:Ag) (osl:Array (Option Ag)),
  fd=W.fnOf x qual (ku st) (vz st) (ww st) .none kV doc pm an cdv ct/\K.lookup f=some ⟨oc,od,.func fd,osl⟩/\W.codeIn K cdv qual=true
 kp:W.keepIn K (.ref f)=true
section
variable {P:Ac}{w:Ah}{K:Aa}{mg:Str->Option Ag}{base:Heap}
theorem Fun.binds {x qual:Str}{st:Stmt}{f:Aj}{fd:Ad}{ps:List Str}(F:Fun K x qual st f fd)
  (h:∀(kV doc pm:Ag) (an:Option Aj) (cdv ct:Ag) (us:List Ag),us.length=ps.length->bindArgs (W.fnOf x qual (ku st) (vz st) (ww st) .none kV doc pm an cdv ct) ⟨us,[]⟩=pure (ps.zip us)):Binds K fd ps []:=by
 obtain⟨oc,od,kV,doc,pm,an,cdv,ct,osl,rfl,lk,hcd⟩:=F.ex;exact .all (h kV doc pm an cdv ct)
theorem wx3 {x qual:Str}{st:Stmt}{f:Aj}{oc:Ag}{od an:Option Aj}{osl:Array (Option Ag)}{kV doc pm cdv ct:Ag}(l:K.lookup f=some ⟨oc,od,.func (W.fnOf x qual (ku st) (vz st) (ww st) .none kV doc pm an cdv ct),osl⟩)
  (c:W.codeIn K cdv qual=true) (k:W.keepIn K (.ref f)=true):Fun K x qual st f (W.fnOf x qual (ku st) (vz st) (ww st) .none kV doc pm an cdv ct):=⟨⟨oc,od,kV,doc,pm,an,cdv,ct,osl,rfl,l,c⟩,k⟩
end
theorem qkf {n:Nat}(h:n<=1000):n<sizeLine:=fH h ⋯
section
variable {X:Cx}
theorem pv (i:Nat){x:Str}{pos:Pos}(hN:autoParam (X.N[i]?=some x) aU4._auto_1)(hv:Vis X.env.scope x:=by walk_at "vs")(hd:autoParam ((x==("__debug__" : Str))=false) aU1._auto_1)
  (hcd:autoParam ((x==("__classdict__" : Str))=false) aU1._auto_1):PE X (.Name x pos) (j4 i):=pe_var hN hv hd hcd
end
theorem jz {A B:Prop}(h:B):if false=true then A else B:=by rw[ar aK];exact h
theorem yp {A B:Prop}(h:A):if true=true then A else B:=by rw[aw rfl];exact h
def Same (H H':Hp):Prop:=∀b o,H b=some o->H' b=some o
theorem Same.refl (H:Hp):Same H H:=λ_ _ h=>h
theorem Same.trans {H H1 H2:Hp}(a:Same H H1)(b:Same H1 H2):Same H H2:=λc o h=>b c o (a c o h)
theorem Same.seq {K:Aa}{H H':Hp}{a:Aj}{xs:List V}(e:Same H H')(h:SqL K H a xs):SqL K H' a xs:=by
 rcases h with (h|⟨o,h⟩)|h
 .exact .inl (.inl (e _ _ h))
 .exact .inl (.inr ⟨o,e _ _ h⟩)
 .exact .inr h
end L2
namespace L2
open PySem
def itF:Nat->Nat->Nat
 |0,x=>x
 |n+1,x=>itF n (5*x+1)
theorem wzt (a:Nat):∀b x,itF (b+a) x=itF a (itF b x)
 |0,x=>by rw[cx];rfl
 |b+1,x=>by rw[gR];exact wzt a b (5*x+1)
theorem wq0:∀n x,4*itF n x+1=5 ^ n*(4*x+1)
 |0,x=>by simp[itF]
 |n+1,x=>by show 4*itF n (5*x+1)+1=_;rw[wq0 n,dk,Nat.mul_assoc];congr 1;lia
theorem wqz:∀e,∃d,d%2=1/\5 ^ (2 ^ e)=1+2 ^ (e+2)*d
 |0=>⟨1,rfl,rfl⟩
 |e+1=>by
  obtain⟨d,h1,h2⟩:=wqz e;refine⟨d+2 ^ (e+1)*(d*d),?_,?_⟩
  .rw[dk,show 2 ^ e*2*(d*d)=2*(2 ^ e*(d*d)) by grind];lia
  .have e1:5 ^ (2 ^ (e+1))=(1+2 ^ (e+2)*d) ^ 2:=by rw[show(2:Nat) ^ (e+1)=2 ^ e*2 from dk ..,Nat.pow_mul,h2]
   have e2:(2:Nat) ^ (e+2)=2*2 ^ (e+1):=by rw[show e+2=(e+1)+1 by lia,dk 2 (e+1)];lia
   have e3:(2:Nat) ^ (e+1+2)=4*2 ^ (e+1):=by rw[show e+1+2=(e+2)+1 by lia,dk 2 (e+2),e2];lia
   rw[e1,e3,e2];generalize 2 ^ (e+1)=X;grind
theorem wuy (e x:Nat):∃d,d%2=1/\itF (2 ^ e) x=x+2 ^ e*d:=by
 obtain⟨d,h1,h2⟩:=wqz e;refine⟨d*(4*x+1),?_,?_⟩
 .rw[Nat.mul_mod,h1];lia
 .have h:=wq0 (2 ^ e) x;rw[h2,Nat.pow_add]at h;have e1:(1+2 ^ e*2 ^ 2*d)*(4*x+1)=4*(x+2 ^ e*(d*(4*x+1)))+1:=by generalize 2 ^ e=X;grind
  lia
theorem qk0 {P q r:Nat}(h:r<P):(P*q+r)%(2*P)=P*(q%2)+r:=by
 have hq:q=2*(q/2)+q%2:=by lia
 have e:P*q+r=(P*(q%2)+r)+2*P*(q/2):=by
  have:P*q=P*(2*(q/2)+q%2):=by rw[<-hq]
  rw[this];grind
 rw[e,Nat.add_mul_mod_self_left];refine d9 ?_;rcases eR q with z|z <;> rw[z] <;> lia
theorem qkc:∀e x j,∃k,k<2 ^ e/\itF k x%2 ^ e=j%2 ^ e
 |0,x,j=>⟨0,⋯,by rw[Nat.pow_zero,Nat.mod_one,Nat.mod_one]⟩
 |e+1,x,j=>by
  obtain⟨k,hk,hm⟩:=qkc e x j;have hP:0<2 ^ e:=iN e;have e2:2 ^ (e+1)=2*2 ^ e:=by rw[dk];lia
  by_cases c:itF k x%2 ^ (e+1)=j%2 ^ (e+1)
  .exact⟨k,⋯,c⟩
  .obtain⟨d,h1,h2⟩:=wuy e (itF k x);refine⟨k+2 ^ e,⋯,?_⟩;rw[wzt,h2];rw[e2]at c ⊢;generalize itF k x=a at *;generalize 2 ^ e=P at *;have ea:=(Nat.div_add_mod a P).symm;have ej:=(Nat.div_add_mod j P).symm;have ra:a%P<P:=fI _ hP;have s1:a%(2*P)=P*(a/P%2)+a%P:=by have:=qk0 (q:=a/P) ra;rwa [<-ea]at this
   have s2:j%(2*P)=P*(j/P%2)+a%P:=by have:=qk0 (q:=j/P) ra;rw[hm,<-ej]at this;rw[hm];exact this
   have s3:(a+P*d)%(2*P)=P*((a/P+d)%2)+a%P:=by have:=qk0 (q:=a/P+d) ra;rwa [show P*(a/P+d)+a%P=a+P*d by rw[Nat.mul_add];lia]at this
   rw[s1,s2]at c;rw[s3,s2];have:(a/P+d)%2=j/P%2:=by rcases eR (a/P) with z|z <;> rcases eR (j/P) with y|y <;> rw[z,y]at c <;> lia
   rw[this]
def lp (mask:Nat):Nat->Nat×Nat->Nat×Nat
 |0,q=>q
 |n+1,q=>lp mask n (SetTable.leap mask q.1 q.2)
theorem xxj (mask b:Nat):∀a q,lp mask (a+b) q=lp mask b (lp mask a q)
 |0,q=>by rw[cx];rfl
 |a+1,q=>by rw[gR];exact xxj mask b a _
theorem xqq (mask:Nat):∀n q,(lp mask n q).2=q.2/32 ^ n
 |0,q=>by simp[lp]
 |n+1,q=>by show(lp mask n (SetTable.leap mask q.1 q.2)).2=_;rw[xqq mask n,dk,Nat.mul_comm,<-Nat.div_div_eq_div_mul];rfl
theorem lp_lt {mask:Nat}:∀n q,q.1<=mask->(lp mask n q).1<=mask
 |0,q,h=>h
 |n+1,q,h=>lp_lt n _ (du (fI _ (eF _)))
theorem wkz {mask:Nat}:∀n i,i<=mask->(lp mask n (i,0)).1=itF n i%(mask+1)
 |0,i,h=>(d9 (Nat.lt_succ_of_le h)).symm
 |n+1,i,h=>by
  have e:SetTable.leap mask i 0=((5*i+1)%(mask+1),0):=by simp[SetTable.leap,Nat.mul_comm]
  show(lp mask n (SetTable.leap mask i 0)).1=itF n (5*i+1)%(mask+1);rw[e,wkz n _ (du (fI _ (eF _)))];have key:∀n x,itF n (x%(mask+1))%(mask+1)=itF n x%(mask+1):=by
   intro n
   induction n with
   |zero=>intro x;exact Nat.mod_mod _ _
   |succ n ih =>
    intro x;show itF n (5*(x%(mask+1))+1)%(mask+1)=itF n (5*x+1)%(mask+1);rw[<-ih (5*(x%(mask+1))+1),<-ih (5*x+1)];congr 2;rw[Nat.add_mod,Nat.mul_mod,Nat.mod_mod,<-Nat.mul_mod,<-Nat.add_mod]
  exact key n _
theorem qu0 {e mask:Nat}(hM:mask+1=2 ^ e){q:Nat×Nat}(h1:q.1<=mask)(h2:q.2<2 ^ 64){j:Nat}(hj:j<=mask):∃n,n<=mask+13/\(lp mask n q).1=j:=by
 have z:(lp mask 13 q).2=0:=by rw[xqq];exact Nat.div_eq_of_lt (aO h2 ⋯)
 have l1:=lp_lt (mask:=mask) 13 q h1;obtain⟨k,hk,hm⟩:=qkc e (lp mask 13 q).1 j;refine⟨13+k,⋯,?_⟩;rw[xxj,show lp mask 13 q=((lp mask 13 q).1,0) from iU rfl z,wkz k _ l1,hM,hm];exact d9 ⋯
def zc (t:SetTable):Nat->SetTable.Probe->SetTable.Probe
 |0,p=>p
 |n+1,p=>zc t n (t.advance p)
theorem Q9 (t:SetTable)(b:Nat):∀a p,zc t (a+b) p=zc t b (zc t a p)
 |0,p=>by rw[cx];rfl
 |a+1,p=>by rw[gR];exact Q9 t b a _
theorem qvt (t:SetTable)(p:SetTable.Probe):(t.advance p).dummy=p.dummy:=by unfold SetTable.advance;split <;> rfl
theorem qwf (t:SetTable):∀n p,(zc t n p).dummy=p.dummy
 |0,p=>rfl
 |n+1,p=>(qwf t n _).trans (qvt t p)
def rs (mask:Nat)(q:Nat×Nat):SetTable.Probe:={ j:=q.1,more:=SetTable.runEnd mask q.1-q.1,i:=q.1,perturb:=q.2,dummy:=none }
theorem qxm (t:SetTable)(q:Nat×Nat):∀r j,zc t (r+1) { j:=j,more:=r,i:=q.1,perturb:=q.2,dummy:=none }=rs t.mask (SetTable.leap t.mask q.1 q.2)
 |0,j=>rfl
 |r+1,j=>by
  show zc t (r+1) (t.advance _)=_;have e:t.advance { j:=j,more:=r+1,i:=q.1,perturb:=q.2,dummy:=none }={ j:=j+1,more:=r,i:=q.1,perturb:=q.2,dummy:=none }:=by unfold SetTable.advance;rw[aw (eF r)];rfl
  rw[e];exact qxm t q r (j+1)
theorem xzp (t:SetTable)(q:Nat×Nat):∃m,m<=10/\zc t m (rs t.mask q)=rs t.mask (SetTable.leap t.mask q.1 q.2):=by refine⟨SetTable.runEnd t.mask q.1-q.1+1,?_,qxm t q _ _⟩;unfold SetTable.runEnd;split <;> lia
theorem qy3 (t:SetTable):∀n q,∃N,N<=10*n/\zc t N (rs t.mask q)=rs t.mask (lp t.mask n q)
 |0,q=>⟨0,al _,rfl⟩
 |n+1,q=>by obtain⟨m,hm,e⟩:=xzp t q;obtain⟨N,hN,e2⟩:=qy3 t n (SetTable.leap t.mask q.1 q.2);exact⟨m+N,⋯,by rw[Q9,e,e2];rfl⟩
theorem Jn {t:SetTable}{j i:Nat}(h:t.slot j=.live i):t.place[i]?=some j:=by
 unfold SetTable.slot at h;dsimp only at h;split at h
 .rename_i c;cases h;simpa using c
 .split at h <;> cases h
theorem qxk {t:SetTable}(hd:t.dummies=#[])(j:Nat):t.slot j=.empty\/∃i,t.slot j=.live i:=by
 unfold SetTable.slot;dsimp only;split
 .exact .inr ⟨_,rfl⟩
 .have:SetTable.has t.dummies j=false:=by rw[hd];simp[SetTable.has]
  rw[this];exact .inl rfl
theorem qzk:∀(l l':List Nat),l.Nodup->(∀a∈l,a∈l')->l.length<=l'.length
 |[],_,_,_=>aT _
 |a::l,l',hn,hs=>by have hn':=dA.mp hn;have ha:=hs a (.head _);have:=qzk l (l'.erase a) hn'.2 λb hb=>(List.mem_erase_of_ne (λz=>by subst z;exact hn'.1 hb)).mpr (hs b (.tail _ hb));rw[List.length_erase,aw ha]at this;have hp:0<l'.length:=List.length_pos_of_mem ha;rw[aQ];lia
theorem wj2 {t:SetTable}(hd:t.dummies=#[])(hz:t.place.size<=t.mask):∃j,j<=t.mask/\t.slot j=.empty:=by
 apply hX;intro c;have:=qzk (List.range (t.mask+1)) t.place.toList iA λa ha=>by
  have ha':a<=t.mask:=du (ay.mp ha);rcases qxk hd a with h|⟨i,h⟩
  .exact absurd ⟨a,ha',h⟩ c
  .have e:=Jn h;exact gC.mpr (Array.mem_of_getElem? e)
 rw[aG,bf]at this;lia
theorem wvd (h:Int):SetTable.bits h<2 ^ 64:=by unfold SetTable.bits;lia
theorem wj7 {t:SetTable}{e:Nat}(hM:t.mask+1=2 ^ e)(hd:t.dummies=#[])(hz:t.place.size<=t.mask)(h:Int):∃N,N<=10*(t.mask+13)/\t.slot (zc t N (t.probeStart h)).j=.empty:=by obtain⟨j,hj,hs⟩:=wj2 hd hz;obtain⟨n,hn,en⟩:=qu0 hM (q:=(SetTable.bits h%(t.mask+1),SetTable.bits h)) (du (fI _ (eF _))) (wvd h) hj;obtain⟨N,hN,e2⟩:=qy3 t n (SetTable.bits h%(t.mask+1),SetTable.bits h);refine⟨N,⋯,?_⟩;show t.slot (zc t N (rs t.mask (SetTable.bits h%(t.mask+1),SetTable.bits h))).j=.empty;rw[e2];show t.slot (lp t.mask n _).1=.empty;rw[en];exact hs
inductive MetOk (t:SetTable) (p:SetTable.Probe) (N:Nat):SetTable.Met->Prop
 |empty (j:Nat):MetOk t p N (.empty j none)
 |cand (m i:Nat) (hm:m<N) (hs:t.slot (zc t m p).j=.live i):MetOk t p N (.candidate (zc t m p).j i (zc t (m+1) p))
def liveL (mask:Nat)(owner:Array (Option Nat)):List (Nat×Nat):=(List.range (mask+1)).filterMap λj=>(owner.getD j none).map (j,·)
structure OwnI (mask:Nat)(owner:Array (Option Nat))(k:Nat):Prop where
 size:owner.size=mask+1
 len:(liveL mask owner).length=k
 low:∀j v:Nat,owner[j]?=some (some v)->v<k
end L2
namespace L2
open PySem PySem.Spec PyProof.Rows
theorem nin {b:Aj}:b∉([]:List Aj):=λz=>nomatch z
theorem xxm {K:Aa}{h:Heap}{C:Aj}{bmB:List Ag}{newId:String}(X:K.In h)(q:W.excIn K C bmB newId=true) :
  ∃tl N a1 a2 a3 a4 a5 a6 a7 a8 a9 b0 b1 b2 b3 b5 mN,h.get? C=some (excClassObj a1 a2 C N a3 tl a4 a5 a6 a7 a8 a9 b0 b1 b2 b3 b5 newId) /\
   h.Ns N mN/\mN "__init__" = none/\OwnTail h bmB tl:=by
 unfold W.excIn at q;split at q
 .next dd cd sl ho =>
  split at q
  .next C1 tl x0 x1 x2 x3 nn x5 hm hs =>
   rw[cH,cH,cH,cH,cH]at q;obtain⟨⟨⟨⟨⟨p1,p2⟩,p3⟩,p4⟩,p5⟩,p6⟩:=q;have p1':=eq_of_beq p1;have p2':=eq_of_beq p2;have p6':=eq_of_beq p6;have p3':cd.hasDel=false:=by simpa using p3
   subst p1' p2';obtain⟨f1,f2,f3,f4,f5,f6,f7,f8,f9,f10,f11⟩:=cd;have hm':f3=Value.ref C1::tl:=hm;have p3'':f11=false:=p3';subst hm' p3'';have hsl:sl=#[x0,x1,x2,x3,some (.builtin nn),x5]:=by
    cases sl with
    |mk l =>
     have:l=[x0,x1,x2,x3,some (.builtin nn),x5]:=hs;rw[this]
   subst hsl;have nsok:=W.isNs_of_in X p5;exact⟨tl,f4,f1,f5,f2,f6,f7,f8,f9,f10,dd,x0,x1,x2,x3,x5,_,X _ _ ho,.of_isNs nsok,W.nsMap_none_of_in X p5 p6',W.tail_of_in X p4⟩
  .exact absurd q ⋯
 .exact absurd q ⋯
def CXE (P:Ac)(w:Ah):CXT:=λouter H s E e s' =>
 ∃(a C:Aj) (a0:Ag) (B:Heap) (H':Hp),e=.ref a/\s'.os=s.os/\AllBare s'.gens/\Un (frs outer) [] H H' s.heap s'.heap/\HOk P w H' B /\
  Heap.FlyingW B outer a (.ref C) a0 s'.heap/\(∀b o,s.heap.get? b=some o->b∉frs outer->∃o',B.get? b=some o'/\(H b=none->o'=o))/\E (.ref C) none H'
theorem CXE.no {P:Ac}{w:Ah}{outer:List Env}{H:Hp}{s s':Ab}{e:Ag}(h:CXE P w outer H s E0 e s'):False:=by obtain⟨_,_,_,_,_,_,_,_,_,_,_,_,q⟩:=h;exact q
def Qf (X:Cx)(E:St->XK):Prop:=∀(pins:List (Aj×Obj)) (σ:St) (H:Hp) (s:Ab) (e:Ag) (s':Ab),Inv X pins σ H s->CXE X.prog X.w X.stack H s (E σ) e s'->X.xe e s'
theorem Zm {X:Cx}:Qf X (λ_=>E0):=λ_ _ _ _ _ _ _ h=>h.no.elim
def xqk (X:Cx)(E:St->XK):Prop:=∀(pins:List (Aj×Obj)) (σ:St) (H:Hp) (s:Ab) (h':Heap) (e C:Aj) (vs:List Ag),Inv X pins σ H s->Heap.MadeExcOf s.heap h' e (.ref C) vs->E σ (.ref C) none H->X.xe (.ref e) { s with heap:=h' }
theorem wwq {env:Env}{L:Aj}{outer:List Env}(h:env.frame=some L):frs (env::outer)=L::frs outer:=by unfold frs;rw[d7,h]
section
variable {P:Ac}{w:Ah}{K:Aa}{mg:Str->Option Ag}{base:Heap}{N:List Str}{qual:Str}{scope:Scope}{f:Aj}{cdv:Ag}{A:Ae}{outer:List Env}{s0:Ab}{H0:Hp}{E:XK}
theorem qt:Qf (qz4 (CXE P w) P w K mg base N qual scope f cdv A outer s0 H0 E) (λ_=>E):=by
 intro pins σ H s e s' I hx;obtain⟨a,C,a0,B,H',rfl,hos,hba,un,hokB,hfl,old,q⟩:=hx;have ub:=I.base;have hL:∀b o,s0.heap.get? b=some o->b≠s0.heap.objs.size:=λb o e z=>be _ (z▸ao e);have hfs:frs (envOfC qual scope s0.heap.objs.size f cdv::outer)=s0.heap.objs.size::frs outer:=wwq rfl;have hmem:∀b o,s0.heap.get? b=some o->b∉frs outer->b∉frs (envOfC qual scope s0.heap.objs.size f cdv::outer):=λb o e n=>by
  rw[hfs];intro z;rcases aM.mp z with z|z
  .exact hL b o e z
  .exact n z
 have hold:∀b o,s0.heap.get? b=some o->b∉frs outer->∃o',B.get? b=some o'/\(H0 b=none->o'=o):=λb o e n=>by obtain⟨o1,e1⟩:=ub.there b o e nin;obtain⟨o2,e2,e3⟩:=old b o1 e1 (hmem b o e n);refine⟨o2,e2,λz=>?_⟩;have e4:=ub.keep b o e z n nin;have e5:=ub.free b o e z nin;rw[e1]at e4;rw[e3 e5];exact aq e4
 refine wpAny_leaves_onW I.ok.frames rfl hfl λh' hf' hup=>?_;have toH:∀b,b∈frs outer->∀o,s0.heap.get? b=some o->H0 b=none->∃sl,h'.get? b=some { o with slots:=sl }:=λb hb o e n=>by obtain⟨sl,e1⟩:=ub.slot b o e n hb nin;obtain⟨sl2,e2⟩:=un.slot b _ e1 (ub.free b o e n nin) (by show b∈frs (envOfC qual scope s0.heap.objs.size f cdv::outer);rw[hfs];exact .tail _ hb) nin;obtain⟨_,o3,e3,nf⟩:=hfl.2.2.1.mem (b:=b) (by show b∈frs (envOfC qual scope s0.heap.objs.size f cdv::outer);rw[hfs];exact .tail _ hb);obtain⟨sl4,e4⟩:=hup b o3 e3 nf;rw[e2]at e3;have e5:=aq e3;exact⟨sl4,by rw[e4,<-e5]⟩
 refine⟨a,C,a0,B,H',rfl,hos.trans I.os,hba,⟨λb o e n nb _=>?_,λb o e n hb _=>toH b hb o e n,λb o e n _=>?_,λb o e _=>?_,λb xs e=>un.tups b xs (ub.tups b xs e),λb o u e=>un.frzs b o u (ub.frzs b o u e),λb ps e=>?_⟩,hokB,hf',hold,q⟩
 .obtain⟨o',e1,e2⟩:=hold b o e nb;rw[e2 n]at e1;exact hf'.1 b o e1
 .obtain⟨o1,e1⟩:=ub.there b o e nin;exact un.free b o1 e1 (ub.free b o e n nin) nin
 .by_cases hb:b∈frs outer
  .obtain⟨o1,e1⟩:=ub.there b o e nin;obtain⟨o2,e2⟩:=un.there b o1 e1 nin;obtain⟨_,o3,e3,nf⟩:=hfl.2.2.1.mem (b:=b) (by show b∈frs (envOfC qual scope s0.heap.objs.size f cdv::outer);rw[hfs];exact .tail _ hb);obtain⟨sl4,e4⟩:=hup b o3 e3 nf;exact⟨_,e4⟩
  .obtain⟨o',e1,_⟩:=hold b o e hb;exact⟨o',hf'.1 b o' e1⟩
 .obtain⟨m1,e1⟩:=ub.tbls b ps e;obtain⟨m2,e2⟩:=un.tbls b _ e1;exact⟨m1++m2,by rw[e2,Array.append_assoc]⟩
theorem jy:xqk (qz4 (CXE P w) P w K mg base N qual scope f cdv A outer s0 H0 E) (λ_=>E):=by
 intro pins σ H s h' e C vs I hx q;have ub:=I.base;have hfs:frs (envOfC qual scope s0.heap.objs.size f cdv::outer)=s0.heap.objs.size::frs outer:=wwq rfl;have hmem:∀b o,s0.heap.get? b=some o->b∉frs outer->b∉frs (envOfC qual scope s0.heap.objs.size f cdv::outer):=λb o e n=>by
  rw[hfs];intro z;rcases aM.mp z with z|z
  .exact be _ (z▸ao e)
  .exact n z
 have hfree:∀b∈frs (envOfC qual scope s0.heap.objs.size f cdv::outer),H b=none:=I.stkFree;have hB:∀b o,s.heap.get? b=some o->b∉frs (envOfC qual scope s0.heap.objs.size f cdv::outer)->(W.hideAll s.heap (frs (envOfC qual scope s0.heap.objs.size f cdv::outer))).get? b=some o:=λb o e n=>W.hideAll_get _ e n;have hokB:HOk P w H (W.hideAll s.heap (frs (envOfC qual scope s0.heap.objs.size f cdv::outer))):=λb u hb=>by
  refine(I.hok b u hb).stay (λc v hc ec=>hB c v ec λhm=>?_) (λ_ z=>z) (λ_ _ z=>z);have hn:=hfree c hm;rcases hc with rfl|hc
  .rw[hn]at hb;cases hb
  .rw[hn]at hc;cases hc
 have hold:∀b o,s0.heap.get? b=some o->b∉frs outer->∃o',(W.hideAll s.heap (frs (envOfC qual scope s0.heap.objs.size f cdv::outer))).get? b=some o'/\(H0 b=none->o'=o):=λb o e n=>by obtain⟨o1,e1⟩:=ub.there b o e nin;refine⟨o1,hB b o1 e1 (hmem b o e n),λz=>?_⟩;have e4:=ub.keep b o e z n nin;rw[e1]at e4;exact aq e4
 have hst:s.heap.FunFrames base (envOfC qual scope s0.heap.objs.size f cdv::outer):=I.stack;have hff:=W.funFrames_hide (as:=frs (envOfC qual scope s0.heap.objs.size f cdv::outer)) hst (λenv he b hb=>fF.mpr ⟨env,he,hb⟩);refine wpAny_leaves_madeW (base:=W.hideAll s.heap (frs (envOfC qual scope s0.heap.objs.size f cdv::outer))) (h:=s.heap) I.ok.frames rfl (λb o e=>W.of_hideAll _ e) hff hx λh'' t hf' _ _ hup=>?_;have toF:∀b,b∈frs outer->∃o,s.heap.get? b=some o/\∃sl,h''.get? b=some { o with slots:=sl }:=λb hb=>by obtain⟨_,o3,e3,nf⟩:=hst.mem (b:=b) (by show b∈frs (envOfC qual scope s0.heap.objs.size f cdv::outer);rw[hfs];exact .tail _ hb);exact⟨o3,e3,hup b o3 (hx.keeps b o3 e3) nf⟩
 refine⟨e,C,.ref t,_,H,rfl,I.os,I.bare,⟨λb o e1 n nb _=>?_,λb o e1 n hb _=>?_,λb o e1 n _=>ub.free b o e1 n nin,λb o e1 _=>?_,ub.tups,ub.frzs,ub.tbls⟩,hokB,hf',hold,q⟩
 .obtain⟨o',e2,e3⟩:=hold b o e1 nb;rw[e3 n]at e2;exact hf'.1 b o e2
 .obtain⟨sl,e2⟩:=ub.slot b o e1 n hb nin;obtain⟨o3,e3,sl3,e4⟩:=toF b hb;rw[e2]at e3;have e5:=aq e3;exact⟨sl3,by rw[e4,<-e5]⟩
 .by_cases hb:b∈frs outer
  .obtain⟨o3,e3,sl3,e4⟩:=toF b hb;exact⟨_,e4⟩
  .obtain⟨o',e2,_⟩:=hold b o e1 hb;exact⟨o',hf'.1 b o' e2⟩
end
section
variable {P:Ac}{w:Ah}{K:Aa}{mg:Str->Option Ag}{base:Heap}
end
def qk1 (sp:Sp)(E:St->XK)(t:TA):TE:=λσ H Q=>t σ H λvs H1=>sp vs H1 Q (E σ)
def qjb (C:Aj)(m:Str)(sp:Sp)(E:St->XK)(ta:TE)(t:TA):TE:=λσ H Q=>ta σ H λx H1=>∃a dx fs,x=.ref a/\H1 a=some (.ins C dx fs)/\fs.lookup m=none /\
 t σ H1 λvs H2=>sp (x::vs) H2 Q (E σ)
def xwn (C:Aj)(sp:Sp)(E:St->XK)(t:TA):TE:=λσ H Q=>t σ H λvs H1=>∀x dx,H1 x=none->H1 dx=none->dx≠x ->
 sp (.ref x::vs) (upd (upd H1 dx (.own x)) x (.ins C dx [])) (λv H2=>v=.non/\Q (.ref x) H2) (E σ)
section
variable {X:Cx}{k:Nat}{f C:Aj}{fd:Ad}{ps:List Str}{sp:Sp}{E:St->XK}{x m:Str}{p pos apos:Pos}{e o:Expr}{es:List Expr}{ta:TE}{t:TA}
theorem qkm {pins:List (Aj×Obj)}{σ:St}{H:Hp}{s:Ab}{Q:VK}{us:List Ag}{vs:List V}(F:FnOk X.prog X.w X.K X.mg X.base (CXE X.prog X.w) k f fd ps sp)(hr:Room k X.A)(hb:Binds X.K fd ps [])(hx:Qf X E)
  (I:Inv X pins σ H s) (r:Vals vs us) (h:sp vs H Q (E σ)):wpAny (model X.prog X.w) X.A (call (.ref f) us) (EP X pins σ Q) X.xe s:=by
 have hl:(us++[]).length=ps.length:=by rw[bR,<-r.length];exact F.len _ _ _ _ h
 have hb':=hb s us I.kIn hl;rw[bR]at hb';refine wpAny_call (eV (F.run X.A X.stack s H ⟨us,[]⟩ us vs Q (E σ) hr I.env0 hb' r h) λr s' hq=>?_);cases r with
 |error e=>exact hx pins σ H s e s' I hq
 |ok fl =>
  cases fl with
  |ret u=>exact I.after hq
  |next=>exact False.elim hq
  |brk=>exact False.elim hq
  |cont=>exact False.elim hq
theorem wy9 (F:FnOk X.prog X.w X.K X.mg X.base (CXE X.prog X.w) k f fd ps sp)(hr:Room k X.A)(hg:Gl X x)(hm:X.mg x=some (.ref f))(hk:W.keepIn X.K (.ref f)=true)(hb:Binds X.K fd ps [])(hx:Qf X E)
  (ha:PA X (e::es) t) (hdb:autoParam ((x==("__debug__" : Str))=false) aU1._auto_1) (he:autoParam (starEach (e::es) X.env=(false,eval e X.env)::starEach es X.env) aU4._auto_1) (hpl:autoParam ((backTo pos (starEach es X.env)).any (·.1)=false) aU4._auto_1) :
  PE X (.Call (.Name x p) (e::es) [] pos) (qk1 sp E t):=by
 intro pins s σ H Q I h;refine dh (qwx I hg hm ?_ hdb);refine gS (h₀:=X.base) I.ok.mod.kin hk (thn (ha pos pins s σ H _ I h) λus s1 ⟨vs,H1,I1,r,q⟩=>⟨I1.kIn,?_⟩) he hpl;exact qkm F hr hb hx I1 r q
theorem xxu {pl:Sem Bool}(he:PE X o ta)(c:Cls X.K C)(hm:Meth X.K C m f)(F:FnOk X.prog X.w X.K X.mg X.base (CXE X.prog X.w) k f fd ps sp)(hr:Room k X.A)(hb:Binds X.K fd ps [])(hx:Qf X E)(ha:PA X (e::es) t)
  (hst:autoParam (starEach (e::es) X.env=(false,eval e X.env)::starEach es X.env) aU4._auto_1) (hpl:autoParam ((backTo pos (starEach es X.env)).any (·.1)=false) aU4._auto_1)
  (ht:autoParam (eval (.Call (.Attribute o m apos) (e::es) [] pos) X.env=(do
   let ov <-eval o X.env
   standAt apos.atName
   let (f,first) <-holding [ov] (getMethod ov m pl)
   callWith pos f first (backTo pos (starEach (e::es) X.env)) (backToKw pos (keywordEach [] X.env)))) aU4._auto_1) :
  PE X (.Call (.Attribute o m apos) (e::es) [] pos) (qjb C m sp E ta t):=by
 intro pins s σ H Q I h;refine W.methodCall_KW (pl:=pl) (thn (he pins s σ H _ I h) λu s1 ⟨x,H1,I1,rx,a,dx,fs,ex,ea,l,q⟩=>?_) ht;subst ex;obtain rfl:u=Value.ref a:=rx;refine qzy I1 ea c hm l ?_;refine gS (first:=[.ref a]) (h₀:=X.base) I.ok.mod.kin hm.kp (thn (ha pos pins s1 σ H1 _ I1 q) λus s2 ⟨vs,H2,I2,r,q2⟩=>⟨I2.kIn,?_⟩) hst hpl;exact qkm (us:=.ref a::us) (vs:=.ref a::vs) F hr hb hx I2 (.cons rfl r) q2
theorem wy3 {pl:Sem Bool}(he:PE X o ta)(c:Cls X.K C)(hm:Meth X.K C m f)(F:FnOk X.prog X.w X.K X.mg X.base (CXE X.prog X.w) k f fd ps sp)(hr:Room k X.A)(hb:Binds X.K fd ps [])(hx:Qf X E)
  (ht:autoParam (eval (.Call (.Attribute o m apos) [] [] pos) X.env=(do
   let ov <-eval o X.env
   standAt apos.atName
   let (f,first) <-holding [ov] (getMethod ov m pl)
   callWith pos f first (backTo pos (starEach [] X.env)) (backToKw pos (keywordEach [] X.env)))) aU4._auto_1) :
  PE X (.Call (.Attribute o m apos) [] [] pos) (qjb C m sp E ta qxd):=by
 intro pins s σ H Q I h;refine W.methodCall_KW (pl:=pl) (thn (he pins s σ H _ I h) λu s1 ⟨x,H1,I1,rx,a,dx,fs,ex,ea,l,q⟩=>?_) ht;subst ex;obtain rfl:u=Value.ref a:=rx;refine qzy I1 ea c hm l ?_;exact W.callWith_K0 (first:=[.ref a]) I1.kIn hm.kp (qkm (us:=[.ref a]) (vs:=[.ref a]) F hr hb hx I1 (.cons rfl .nil) q)
theorem wkn {pins:List (Aj×Obj)}{σ:St}{H:Hp}{s:Ab}{Q:VK}{us:List Ag}{vs:List V}(M:Mk X.K C f)(F:FnOk X.prog X.w X.K X.mg X.base (CXE X.prog X.w) k f fd ps sp)(hr:Room (k+1) X.A)(hb:Binds X.K fd ps [])
  (hx:Qf X E) (I:Inv X pins σ H s) (r:Vals vs us)
  (h:∀x dx,H x=none->H dx=none->dx≠x->sp (.ref x::vs) (upd (upd H dx (.own x)) x (.ins C dx [])) (λv H2=>v=.non/\Q (.ref x) H2) (E σ)) :
  wpAny (model X.prog X.w) X.A (call (.ref C) us) (EP X pins σ Q) X.xe s:=by
 have hq:=h (s.heap.objs.size+1) s.heap.objs.size (I.hok.fresh (iV _)) (I.hok.fresh (al _)) (aE (d8 _));have I2:=Inv.made (C:=C) I;have r2:Vals (V.ref (s.heap.objs.size+1)::vs) (Value.ref (s.heap.objs.size+1)::us):=.cons rfl r;have hl:((Value.ref (s.heap.objs.size+1)::us)++[]).length=ps.length:=by rw[bR,<-r2.length];exact F.len _ _ _ _ hq
 have hb':=hb _ (Value.ref (s.heap.objs.size+1)::us) I2.kIn hl;rw[bR]at hb';refine wpAny_call (xws (f:=f) I.kIn M.makes M.init (fG.mp M.fn) (eV (F.run _ X.stack _ _ ⟨Value.ref (s.heap.objs.size+1)::us,[]⟩ (Value.ref (s.heap.objs.size+1)::us) _ _ (E σ) (hr.make C us [])
  (I2.env0.make C us []) hb' r2 hq) λr s' hq'=>?_))
 cases r with
 |error e=>exact hx pins σ _ _ e s' I2 hq'
 |ok fl =>
  cases fl with
  |ret u =>
   obtain⟨v,H',I3,rv,ev,q3⟩:=I2.after hq';subst ev;exact⟨rv,⟨V.ref (s.heap.objs.size+1),H',I3,rfl,q3⟩⟩
  |next=>exact False.elim hq'
  |brk=>exact False.elim hq'
  |cont=>exact False.elim hq'
theorem xq5 (M:Mk X.K C f)(F:FnOk X.prog X.w X.K X.mg X.base (CXE X.prog X.w) k f fd ps sp)(hr:Room (k+1) X.A)(hg:Gl X x)(hm:X.mg x=some (.ref C))(hb:Binds X.K fd ps [])(hx:Qf X E)
  (ha:PA X (e::es) t) (hdb:autoParam ((x==("__debug__" : Str))=false) aU1._auto_1) (he:autoParam (starEach (e::es) X.env=(false,eval e X.env)::starEach es X.env) aU4._auto_1) (hpl:autoParam ((backTo pos (starEach es X.env)).any (·.1)=false) aU4._auto_1) :
  PE X (.Call (.Name x p) (e::es) [] pos) (xwn C sp E t):=by
 intro pins s σ H Q I h;refine dh (qwx I hg hm ?_ hdb);refine gS (h₀:=X.base) I.ok.mod.kin M.kp (thn (ha pos pins s σ H _ I h) λus s1 ⟨vs,H1,I1,r,q⟩=>⟨I1.kIn,?_⟩) he hpl;exact wkn M F hr hb hx I1 r q
end
structure ExcC (K:Aa)(C:Aj):Prop where
 q:W.excIn K C [.type "ValueError",.type "Exception",.type "BaseException",.type "object"] "ValueError.__new__" = true
def tRaise (C:Aj)(E:St->XK)(t:TA):TS:=λD σ H=>t σ H λvs H1=>vs.length<=sizeLine/\E σ (.ref C) none H1
section
variable {X:Cx}{C:Aj}{E:St->XK}{x:Str}{np cpos pos:Pos}{e:Expr}{es:List Expr}{t:TA}
theorem ud (hc:X.calm=true)(c:ExcC X.K C)(hR:xqk X E)(hg:Gl X x)(hm:X.mg x=some (.ref C))(ha:PA X (e::es) t)(hdb:autoParam ((x==("__debug__" : Str))=false) aU1._auto_1)
  (he:autoParam (starEach (e::es) X.env=(false,eval e X.env)::starEach es X.env) aU4._auto_1) (hpl:autoParam ((backTo cpos (starEach es X.env)).any (·.1)=false) aU4._auto_1) :
  PS X (.Raise (some (.Call (.Name x np) (e::es) [] cpos)) none pos) (tRaise C E t):=by
 intro pins s σ H D I h;obtain⟨tl,N,a1,a2,a3,a4,a5,a6,a7,a8,a9,b0,b1,b2,b3,b5,mN,hC,hN,hni,T⟩:=xxm I.ok.mod.kin c.q;refine wpAny_Raise_call_subT (C:=C) (nm:=a1) (q:=a2) (N:=N) (bs:=a3) (bm:=tl) (hdct:=a4) (sn:=a5) (sub:=a6) (ab:=a7) (col:=a8) (dd:=a9) (k0:=b0) (k1:=b1) (k2:=b2) (k3:=b3) (k5:=b5)
  gU (mN:=mN) (T.hasType gU.hasBase) (I.ok.hd hc) (by rw[he];show(false||(backTo cpos (starEach es X.env)).any (·.1))=false;rw[hpl];rfl) hni (qwx I hg hm ⟨rfl,?_⟩ hdb)
 have hw:=ha cpos pins s σ H _ I h;rw[he]at hw ⊢;refine Calls.evalArgs_plain (bi hw (λus s1 ⟨vs,H1,I1,r,hl,q⟩=>⟨rfl,by rw[<-r.length];exact hl,I1.bk _ _ hC,hN.keeps I1.bk,T.keeps I1.bk,λh' e hx=>hR pins σ H1 s1 h' e C us I1 hx q⟩) λ_ _ z=>z)
end
def Sm (n:Nat)(i:Int):Prop:=i.natAbs<2 ^ n
theorem Sm.bits {n:Nat}{i:Int}(h:Sm n i):Builtin.Int.intBits i<=n:=PyProof.Rows.intBits_le h
theorem Sm.mono {n m:Nat}{i:Int}(h:Sm n i)(hm:n<=m):Sm m i:=aO h (dr ⋯ hm)
theorem Sm.mul {n m:Nat}{i j:Int}(h:Sm n i)(h':Sm m j):Sm (n+m) (i*j):=by unfold Sm at *;rw[fY,Nat.pow_add];exact Nat.mul_lt_mul_of_lt_of_le h (bu h') (iN m)
theorem Sm.neg {n:Nat}{i:Int}(h:Sm n i):Sm n (-i):=by unfold Sm at *;rw[Int.natAbs_neg];exact h
theorem Sm.sub {n:Nat}{i j:Int}(h:Sm n i)(h':Sm n j):Sm (n+1) (i-j):=by unfold Sm at *;have:=dk (n:=2) (m:=n);lia
theorem Sm.of_le {n:Nat}{i j:Int}(h:Sm n j)(e:i.natAbs<=j.natAbs):Sm n i:=fH e h
theorem Sm.ok {n m:Nat}{i j:Int}(h:Sm n i)(h':Sm m j)(e:n+m<=134217728):IntMulOk i j:=IntMulOk.of_le h.bits h'.bits e
theorem Sm.log {n:Nat}{i:Int}(h:Sm n i)(hn:n<=9000):i.natAbs.log2<9000:=by
 by_cases h0:i.natAbs=0
 .rw[h0];decide
 .exact aO ((Nat.log2_lt h0).mpr h) hn
theorem Sm.noPl {n:Nat}{i j:Int}(h:Sm n j)(hn:n<=9000):Builtin.divisionGoesByPylong i j=false:=PyProof.noPylong_of_log2 (h.log hn)
section
variable {X:Cx}
theorem xk:OpR X (binaryOp .Mult) (rI IntMulOk λi j=>.int (i*j)):=opI λ_ _ _ _ _ _ _ hc q=>mul_int q hc
theorem j9:OpR X (binaryOp .FloorDiv) (rI (λ_ j=>0<j/\Sm 9000 j) λi j=>.int (i/j)):=opI λi j _ _ _ _ _ hc q =>
 floordiv_int ⋯ (by rw[Int.fdiv_eq_ediv_of_nonneg i (fZ hc.1)];exact q) (.inl (hc.2.noPl (al _)))
theorem kn:jg X (.builtin "isinstance") (λxs H Q=>∃x T t b,xs=[x,.ty T]/\TyOf X.K H x t/\W.kitOne X.K t (.type T)=some b/\Q (.bl b) H):=by intro pins s σ H xs us Q I r h;obtain⟨x,T,t,b,rfl,ty,e,q⟩:=h;obtain⟨u,u',rfl,r1,r2⟩:=xwc r;cases r2;exact wy1 I r1 ty e λtk=>⟨.bl b,H,I.tok tk,rfl,q⟩
end
mutual
def RD (K:Aa)(H:Hp):PyData->V->Prop
 |.none,v=>v=.non
 |.bool b,v=>v=.bl b
 |.int i,v=>v=.int i
 |.str x,v=>v=.str x
 |.list ds,v=>∃a xs,v=.ref a/\SqL K H a xs/\RDs K H ds xs
 |.tuple ds,v=>∃a xs,v=.ref a/\SqT K H a xs/\RDs K H ds xs
 |.dict _,_=>False
def RDs (K:Aa)(H:Hp):List PyData->List V->Prop
 |[],xs=>xs=[]
 |d::ds,xs=>∃y ys,xs=y::ys/\RD K H d y/\RDs K H ds ys
end
section
variable {X:Cx}{pins:List (Aj×Obj)}{σ:St}{H:Hp}{s:Ab}
mutual
theorem Q8 (I:Inv X pins σ H s):∀(d:PyData) (v:V) (u:Ag),RD X.K H d v->RelV v u->∃as,Reads s.heap u d as
 |.none,v,u,h,r=>by rw[RD]at h;subst h;cases(show u=Value.none from r);exact⟨_,.none⟩
 |.bool b,v,u,h,r=>by rw[RD]at h;subst h;cases(show u=Value.bool b from r);exact⟨_,.bool b⟩
 |.int i,v,u,h,r=>by rw[RD]at h;subst h;obtain⟨t,rfl⟩:=(show ∃t,u=Value.int i t from r);exact⟨_,.int i t⟩
 |.str x,v,u,h,r=>by rw[RD]at h;subst h;obtain⟨t,rfl⟩:=(show ∃t,u=Value.str x t from r);exact⟨_,.str x t⟩
 |.list ds,v,u,h,r=>by rw[RD]at h;obtain⟨a,xs,rfl,hs,hd⟩:=h;cases(show u=Value.ref a from r);obtain⟨its,rv,⟨o,n,e1,e2,_,e3⟩,_⟩:=I.list hs;obtain⟨as,ha⟩:=Jq I ds xs its hd rv;exact⟨_,.list e1 e2 e3 (by simpa using ha)⟩
 |.tuple ds,v,u,h,r=>by rw[RD]at h;obtain⟨a,xs,rfl,hs,hd⟩:=h;cases(show u=Value.ref a from r);obtain⟨its,rv,⟨o,e1,e2,n,e3⟩,_⟩:=I.tuple hs;obtain⟨as,ha⟩:=Jq I ds xs its hd rv;exact⟨_,.tuple e1 e2 e3 (by simpa using ha)⟩
 |.dict _,_,_,h,_=>by rw[RD]at h;exact h.elim
theorem Jq (I:Inv X pins σ H s):∀(ds:List PyData) (vs:List V) (us:List Ag),RDs X.K H ds vs->Vals vs us->∃as,ReadsAll s.heap us ds as
 |[],vs,us,h,r=>by rw[RDs]at h;subst h;cases r;exact⟨_,.nil⟩
 |d::ds,vs,us,h,r=>by
  rw[RDs]at h;obtain⟨y,ys,rfl,h1,h2⟩:=h;cases r with
  |cons r1 r2 =>
   obtain⟨as,a1⟩:=Q8 I d y _ h1 r1;obtain⟨bs,a2⟩:=Jq I ds ys _ h2 r2;exact⟨_,.cons a1 a2⟩
end
def rEqD (K:Aa)(neg:Bool):R2:=λx y H Q=>∃d e,RD K H d x/\RD K H e y/\d.canLay0=true/\e.canLay0=true/\min d.depth e.depth<=60/\Q (.bl (if neg then !PyData.eqv d e else PyData.eqv d e)) H
theorem qw9 (hu:X.A.units+64<cLine):OpR X (compareOp .Eq) (rEqD X.K false):=by intro pins s σ H x y v u Q I rx ry h;obtain⟨d,e,h1,h2,c1,c2,dp,q⟩:=h;obtain⟨as,a1⟩:=Q8 I d x v h1 rx;obtain⟨bs,a2⟩:=Q8 I e y u h2 ry;exact PySem.SeqAt.compareEq_reads a1 a2 c1 c2 ⋯ ⟨.bl _,H,I,rfl,q⟩
theorem wum (hu:X.A.units+64<cLine):OpR X (compareOp .NotEq) (rEqD X.K true):=by intro pins s σ H x y v u Q I rx ry h;obtain⟨d,e,h1,h2,c1,c2,dp,q⟩:=h;obtain⟨as,a1⟩:=Q8 I d x v h1 rx;obtain⟨bs,a2⟩:=Q8 I e y u h2 ry;exact PySem.SeqAt.compareNe_reads a1 a2 c1 c2 ⋯ ⟨.bl _,H,I,rfl,q⟩
end
def ptD (p:Int×Int):PyData:=.tuple [.int p.1,.int p.2]
theorem qzw:∀(xs ys:List Int),PyData.eqvAll (xs.map .int) (ys.map .int)=decide (xs=ys)
 |[],[]=>rfl
 |[],_::_=>rfl
 |_::_,[]=>rfl
 |x::xs,y::ys=>by
  rw[aD,aD,PyData.eqvAll,qzw xs ys,PyData.eqv];by_cases h:x=y
  .subst h;simp
  .simp[h]
theorem qj5 (p q:Int×Int):PyData.eqv (ptD p) (ptD q)=decide (p=q):=by obtain⟨a,b⟩:=p;obtain⟨c,d⟩:=q;unfold ptD;rw[PyData.eqv];have:=qzw [a,b] [c,d];rw[aD,aD,cV,aD,aD,cV]at this;rw[this];simp
theorem wku:∀(xs ys:List (Int×Int)),PyData.eqvAll (xs.map ptD) (ys.map ptD)=decide (xs=ys)
 |[],[]=>rfl
 |[],_::_=>rfl
 |_::_,[]=>rfl
 |x::xs,y::ys=>by
  rw[aD,aD,PyData.eqvAll,wku xs ys,qj5];by_cases h:x=y
  .subst h;simp
  .simp[h]
theorem quy:∀(xs:List Int),PyData.canLayAll0 (xs.map .int)=true
 |[]=>rfl
 |x::xs=>by rw[aD,PyData.canLayAll0,quy xs];rfl
theorem wky:∀(xs:List (Int×Int)),PyData.canLayAll0 (xs.map ptD)=true
 |[]=>rfl
 |x::xs=>by rw[aD,PyData.canLayAll0,wky xs];rfl
theorem qxv:∀(xs:List Int),PyData.depthAll (xs.map .int)<=1
 |[]=>by simp[PyData.depthAll]
 |x::xs=>by have:=qxv xs;simp only[aD,PyData.depthAll,PyData.depth];lia
theorem qjc:∀(xs:List (Int×Int)),PyData.depthAll (xs.map ptD)<=2
 |[]=>by simp[PyData.depthAll]
 |x::xs=>by have:=qjc xs;simp only[aD,PyData.depthAll,PyData.depth,ptD];lia
theorem wkk {K:Aa}{H:Hp}:∀(xs:List Int),RDs K H (xs.map .int) (xs.map V.int)
 |[]=>by rw[cV,cV,RDs]
 |x::xs=>by rw[aD,aD,RDs];exact⟨_,_,rfl,by rw[RD],wkk xs⟩
end L2
namespace L2
open PySem PySem.Spec PyProof.Rows
section
variable {P:Ac}{w:Ah}{K:Aa}{mg:Str->Option Ag}{base:Heap}
theorem Fun.okX {x qual:Str}{st:Stmt}{f:Aj}{fd:Ad}{N ps:List Str}{k:Nat}{sp:Sp}(F:Fun K x qual st f fd)(S:FnScope N ps (ww st))(len:∀vs H Q E,sp vs H Q E->vs.length=ps.length)
  (body:∀(cdv:Ag) (A:Ae) (outer:List Env) (s:Ab) (H:Hp) (vs:List V) (Q:VK) (E:XK),Room k (A.deeper (envOfC qual (ww st) s.heap.objs.size f cdv))->sp vs H Q E ->
   ∃t,PSs (qz4 (CXE P w) P w K mg base N qual (ww st) f cdv A outer s H E) (vz st) t/\t { nx:=λ_ H'=>Q .non H',rt:=Q } (Zx N vs) H):FnOk P w K mg base (CXE P w) (k+1) f fd ps sp:=by
 obtain⟨oc,od,kV,doc,pm,an,cdv,ct,osl,rfl,lk,hcd⟩:=F.ex;exact xqx lk hcd S len λA outer s H vs Q E hr hsp=>body cdv A outer s H vs Q E hr hsp
structure DefIn (K:Aa)(x:Str)(st:Stmt):Prop where
 ex:∃f fd,W.nsIn K mainGlobals x=some (some (.ref f))/\Fun K x x st f fd
theorem def_mk {x:Str}{st:Stmt}{f:Aj}{oc:Ag}{od an:Option Aj}{osl:Array (Option Ag)}{kV doc pm cdv ct:Ag}(a:W.nsIn K mainGlobals x=some (some (.ref f)))
  (l:K.lookup f=some ⟨oc,od,.func (W.fnOf x x (ku st) (vz st) (ww st) .none kV doc pm an cdv ct),osl⟩) (c:W.codeIn K cdv x=true) (k:W.keepIn K (.ref f)=true):DefIn K x st:=⟨_,_,a,wx3 l c k⟩
def xm (x:Str)(st:Stmt)(ps:List Str):Prop:=∀(kV doc pm:Ag) (an:Option Aj) (cdv ct:Ag) (us:List Ag),us.length=ps.length->bindArgs (W.fnOf x x (ku st) (vz st) (ww st) .none kV doc pm an cdv ct) ⟨us,[]⟩=pure (ps.zip us)
theorem bA1 {f}{ps:List Str}{u:List Ag}(h:u.length=1)(k:∀a,bindArgs f ⟨[a],[]⟩=pure (ps.zip [a])):bindArgs f ⟨u,[]⟩=pure (ps.zip u):=match u,h with|[a],_=>k a
theorem bA2 {f}{ps:List Str}{u:List Ag}(h:u.length=2)(k:∀a b,bindArgs f ⟨[a,b],[]⟩=pure (ps.zip [a,b])):bindArgs f ⟨u,[]⟩=pure (ps.zip u):=match u,h with|[a,b],_=>k a b
theorem bA3 {f}{ps:List Str}{u:List Ag}(h:u.length=3)(k:∀a b c,bindArgs f ⟨[a,b,c],[]⟩=pure (ps.zip [a,b,c])):bindArgs f ⟨u,[]⟩=pure (ps.zip u):=match u,h with|[a,b,c],_=>k a b c
theorem bA4 {f}{ps:List Str}{u:List Ag}(h:u.length=4)(k:∀a b c d,bindArgs f ⟨[a,b,c,d],[]⟩=pure (ps.zip [a,b,c,d])):bindArgs f ⟨u,[]⟩=pure (ps.zip u):=match u,h with|[a,b,c,d],_=>k a b c d
structure Cal (P:Ac)(w:Ah)(K:Aa)(mg:Str->Option Ag)(base:Heap)(x:Str)(k:Nat)(sp:Sp):Prop where
 ex:∃f fd ps,mg x=some (.ref f)/\FnOk P w K mg base (CXE P w) k f fd ps sp/\W.keepIn K (.ref f)=true/\Binds K fd ps []
theorem DefIn.cal {x:Str}{st:Stmt}{ps:List Str}{k:Nat}{sp:Sp}{h:Heap}(d:DefIn K x st)(KX:K.In h)(G:h.Ns mainGlobals mg)(b:xm x st ps)(ok:∀f fd,Fun K x x st f fd->FnOk P w K mg base (CXE P w) k f fd ps sp):Cal P w K mg base x k sp:=by obtain⟨f,fd,a,F⟩:=d.ex;exact⟨f,fd,ps,b9 KX G a,ok f fd F,F.kp,F.binds b⟩
end
section
variable {X:Cx}{x:Str}{k:Nat}{sp:Sp}{E:St->XK}{p pos:Pos}{e:Expr}{es:List Expr}{t:TA}
theorem wu (c:Cal X.prog X.w X.K X.mg X.base x k sp)(hr:Room k X.A)(hg:Gl X x)(hx:Qf X E)
  (ha:PA X (e::es) t) (hdb:autoParam ((x==("__debug__" : Str))=false) aU1._auto_1) (he:autoParam (starEach (e::es) X.env=(false,eval e X.env)::starEach es X.env) aU4._auto_1) (hpl:autoParam ((backTo pos (starEach es X.env)).any (·.1)=false) aU4._auto_1) :
  PE X (.Call (.Name x p) (e::es) [] pos) (qk1 sp E t):=by
 obtain⟨f,fd,ps,hm,F,kp,b⟩:=c.ex;exact wy9 F hr hg hm kp b hx ha hdb he hpl
end
def tCut (t u:TS):TS:=λD σ H=>∃R:St->Hp->Prop,t { D with nx:=R } σ H/\∀σ' H',R σ' H'->u D σ' H'
theorem qwu {X:Cx}{st:Stmt}{rest:List Stmt}{t u:TS}(h1:PS X st t)(h2:PSs X rest u):PSs X (st::rest) (tCut t u):=by
 intro pins s σ H D I ⟨R,h,hR⟩;refine iw (thn (h1 pins s σ H { D with nx:=R } I h) λf s1 q=>?_);cases f with
 |next =>
  obtain⟨σ1,H1,I1,q1⟩:=q;exact h2 pins s1 σ1 H1 D I1 (hR σ1 H1 q1)
 |brk=>exact q
 |cont=>exact q
 |ret u=>exact q
theorem kr {c A B:Prop}[Decidable c](h1:c->A)(h2:¬ c->B):if decide c=true then A else B:=by
 by_cases h:c
 .rw[aS h];exact yp (h1 h)
 .rw[bb h];exact jz (h2 h)
theorem deqI {i j:Int}:decide (V.int i=V.int j)=decide (i=j):=by
 by_cases h:i=j
 .subst h;simp
 .simp[h]
theorem uw {i j:Int}{A B:Prop}(h1:i=j->A)(h2:i≠j->B):if decide (V.int i=V.int j)=true then A else B:=by rw[deqI];exact kr h1 h2
theorem xN {i j:Int}{A B:Prop}(k:B)(h:autoParam (i≠j) aU1._auto_1):if decide (V.int i=V.int j)=true then A else B:=uw (λz=>absurd z h) (λ_=>k)
theorem Same.upd {H:Hp}{p:Aj}{o:HO}(n:H p=none):Same H (upd H p o):=λb u e=>by rw[q8 (wx e n)];exact e
theorem Same.rd {H H':Hp}{a:Aj}{o:HO}(h:Same H H')(r:Rd H a o):Rd H' a o:=by
 rcases r with r|⟨u,r⟩
 .exact .inl (h a _ r)
 .exact .inr ⟨u,h a _ r⟩
theorem Same.sqt {K:Aa}{H H':Hp}{a:Aj}{xs:List V}(h:Same H H')(s:SqT K H a xs):SqT K H' a xs:=by
 rcases s with s|s
 .exact .inl (h.rd s)
 .exact .inr s
theorem Same.sql {K:Aa}{H H':Hp}{a:Aj}{xs:List V}(h:Same H H')(s:SqL K H a xs):SqL K H' a xs:=h.seq s
theorem SqT.new {K:Aa}{H:Hp}{p:Aj}{xs:List V}:SqT K (upd H p (.tup xs)) p xs:=SqT.of qf
theorem SqL.new {K:Aa}{H:Hp}{p:Aj}{xs:List V}:SqL K (upd H p (.lst xs)) p xs:=SqL.of qf
theorem uq:bootBuiltins "abs" = some (.builtin "abs"):=by decide +kernel
theorem wqh:bootBuiltins "all" = some (.builtin "all"):=by decide +kernel
theorem qq9 {ns:List Int}{i:Int}(h0:0<=i)(h1:i<ns.length):atI (ns.map V.int) i=some (V.int (ns.getD i.toNat 0)):=by
 have hl:i.toNat<ns.length:=by lia
 have e:(ns.map V.int)[i.toNat]?=some (V.int (ns.getD i.toNat 0)):=by rw[aA,af,aa hl];rfl
 have:=vg e;rwa [bY h0]at this
def wq5 (ns:List Int)(i:Int):Int:=if i<ns.length then ns.getD i.toNat 0 else if(ns.length:Int)=0 then 7*i+3 else ns.getD (i%ns.length).toNat 0+1009*i
def divs (c:Int):Nat->Int
 |0=>c
 |n+1=>divs c n/1000
def wzj (K:Aa):Sp:=λvs H Q _=>∃(a:Aj) (ns:List Int) (i:Int),vs=[.ref a,.int i]/\SqL K H a (ns.map V.int)/\0<=i/\∀r,r=wq5 ns i->Q (.int r) H
def y8 (c:Int):Int:=if c<0 then -c else c
def qjs (c t:Int):Int:=(c%1000003*48271+t*7919+101)%999983
def qu7 (c t:Int):Int:=(qjs c t*qjs c t+c%1000003*31+t*104729)%1000033
def quf (c t:Int):Int:=if 10 ^ 18<=y8 c then(if c<0 then divs (y8 c) t.toNat%1000 else divs (y8 c) t.toNat) else(qu7 c t*qu7 c t+qjs c t*17+t*30011)%999979
def qus (ns:List Int)(i t m:Int):Int:=quf (wq5 ns i) t%m
theorem wu5 (ns:List Int)(i t m:Int)(h:0<m):0<=qus ns i t m:=cE _ ⋯
theorem xqy (ns:List Int)(i t m:Int)(h:0<m):qus ns i t m<m:=bV _ h
theorem xqp {c t:Int}(h:10 ^ 18<=y8 c)(n:c<0):quf c t=divs (y8 c) t.toNat%1000:=by rw[quf,aw h,aw n]
theorem wyk {c t:Int}(h:10 ^ 18<=y8 c)(n:¬ c<0):quf c t=divs (y8 c) t.toNat:=by rw[quf,aw h,ar n]
theorem xwb {c t:Int}(h:¬ 10 ^ 18<=y8 c):quf c t=(qu7 c t*qu7 c t+qjs c t*17+t*30011)%999979:=by rw[quf,ar h]
def Jx (K:Aa):Sp:=λvs H Q _=>∃(a:Aj) (ns:List Int) (i t m:Int),vs=[.ref a,.int i,.int t,.int m]/\SqL K H a (ns.map V.int)/\0<=i/\0<=t/\t<1000000/\0<m /\
 ∀r,r=qus ns i t m->0<=r->r<m->Q (.int r) H
theorem Sm.small {n:Nat}{i:Int}(h1:-(2 ^ 64)<=i)(h2:i<=2 ^ 64)(hn:65<=n):Sm n i:=by refine Sm.mono (n:=65) ?_ hn;unfold Sm;lia
theorem sz1 {x:V}:[x].length<=sizeLine:=by show 1<=sizeLine;decide
theorem sz2 {x y:V}:[x,y].length<=sizeLine:=by show 2<=sizeLine;decide
theorem sz0:([]:List V).length<=sizeLine:=by show 0<=sizeLine;decide
end L2
namespace L2
open PySem
def Jv (x y:Int):Int:=((Nat.gcd x.toNat y.toNat:Nat):Int)
theorem wyf {x:Int}(h:0<=x):Jv x 0=x:=by unfold Jv;have:(0:Int).toNat=0:=rfl;rw[this,Nat.gcd_zero_right];lia
theorem wjr {x y:Int}(hx:0<=x)(hy:0<y):Jv y (x%y)=Jv x y:=by
 unfold Jv;have e:(x%y).toNat=x.toNat%y.toNat:=by
  have h1:x=(x.toNat:Int):=by lia
  have h2:y=(y.toNat:Int):=by lia
  have h3:x%y=((x.toNat%y.toNat:Nat):Int):=by
   conv=>lhs;rw[h1,h2]
   exact(Int.natCast_emod _ _).symm
  rw[h3];exact b8 _
 rw[e,Nat.gcd_comm y.toNat,<-Nat.gcd_rec,Nat.gcd_comm]
theorem wz6 (t:Int):y8 t=(t.natAbs:Int):=by unfold y8;split <;> lia
theorem qj3 (t:Int):0<=y8 t:=by rw[wz6];lia
theorem jq (t b:Int):Jv (y8 t) b=((Nat.gcd t.natAbs b.toNat:Nat):Int):=by unfold Jv;rw[wz6,b8]
def gOf (t b:Int):Int:=Jv (y8 t) b
def wy (t b:Int):Int×Int:=(t/gOf t b,b/gOf t b)
theorem yf {t b:Int}(h:1<=b):1<=gOf t b:=by unfold gOf;rw[jq];have:0<Nat.gcd t.natAbs b.toNat:=Nat.gcd_pos_of_pos_right _ ⋯;lia
theorem wu4 {t b:Int}(h:1<=b):gOf t b<=b:=by unfold gOf;rw[jq];have:Nat.gcd t.natAbs b.toNat<=b.toNat:=Nat.gcd_le_right _ ⋯;lia
theorem wjp {t b:Int}(h:1<=b):gOf t b∣b:=by
 unfold gOf;rw[jq];have h1:((Nat.gcd t.natAbs b.toNat:Nat):Int)∣(b.toNat:Int):=iB.mpr (Nat.gcd_dvd_right _ _);have h2:(b.toNat:Int)=b:=by lia
 rwa [h2]at h1
theorem wyp {t b:Int}:gOf t b∣t:=by unfold gOf;rw[jq];have h1:((Nat.gcd t.natAbs b.toNat:Nat):Int)∣(t.natAbs:Int):=iB.mpr (Nat.gcd_dvd_left _ _);exact Int.dvd_natAbs.mp h1
theorem wwk {t b:Int}:gOf t b*(t/gOf t b)=t:=Int.mul_ediv_cancel' wyp
theorem qv9 {t b:Int}(h:1<=b):gOf t b*(b/gOf t b)=b:=Int.mul_ediv_cancel' (wjp h)
theorem zd {t b:Int}(h:1<=b):(wy t b).1*b=t*(wy t b).2:=by
 unfold wy;dsimp only;have h1:=wwk (t:=t) (b:=b);have h2:=qv9 (t:=t) (b:=b) h
 conv=>lhs;rw[<-h2]
 conv=>rhs;rw[<-h1]
 rw[h1,h2];have e1:t/gOf t b*b=t/gOf t b*(gOf t b*(b/gOf t b)):=by rw[h2]
 have e2:t*(b/gOf t b)=gOf t b*(t/gOf t b)*(b/gOf t b):=by rw[h1]
 rw[e1,e2,<-iq,bC (t/gOf t b)]
theorem zg {t b:Int}(h:1<=b):1<=(wy t b).2:=by
 show 1<=b/gOf t b;have h2:=qv9 (t:=t) (b:=b) h;have h3:=yf (t:=t) h;have:0<b/gOf t b:=by
  rcases bD 0 (b/gOf t b) with z|z
  .exact z
  .have:=aV z (show 0<=gOf t b by lia);rw[h2,dE]at this;lia
 lia
theorem yt {t b:Int}(h:1<=b):(wy t b).2<=b:=Int.ediv_le_self _ ⋯
theorem qjn {t b:Int}(h:1<=b):gOf (wy t b).1 (wy t b).2=1:=by
 have h3:=yf (t:=t) h;have hb:=zg (t:=t) h;obtain⟨g,hg⟩:∃g:Nat,gOf t b=(g:Int):=⟨_,by unfold gOf;exact jq t b⟩;have g1:0<g:=by lia
 have hgg:g=Nat.gcd t.natAbs b.toNat:=by
  have:(g:Int)=((Nat.gcd t.natAbs b.toNat:Nat):Int):=by rw[<-hg];unfold gOf;exact jq t b
  lia
 have et:g*(wy t b).1.natAbs=t.natAbs:=by have:=wwk (t:=t) (b:=b);have e:=cr Int.natAbs this;rw[fY,hg]at e;simpa [wy,hg] using e
 have eb:g*(wy t b).2.toNat=b.toNat:=by
  have:=qv9 (t:=t) (b:=b) h;rw[hg]at this;have q:(wy t b).2=b/(g:Int):=by unfold wy;rw[hg]
  have q2:b/(g:Int)=((b/(g:Int)).toNat:Int):=by rw[<-q];lia
  rw[q];rw[q2]at this;have:((g*(b/(g:Int)).toNat:Nat):Int)=b:=by rw[iO];exact this
  lia
 unfold gOf;rw[jq];have key:g*Nat.gcd (wy t b).1.natAbs (wy t b).2.toNat=g*1:=by rw[<-Nat.gcd_mul_left,et,eb,<-hgg,Nat.mul_one]
 have:=Nat.eq_of_mul_eq_mul_left g1 key;rw[this];rfl
theorem xx5 {t b c:Int}(h:1<=b)(hc:1<=c):gOf (t*c) (b*c)=gOf t b*c:=by
 unfold gOf;rw[jq,jq];have e1:(t*c).natAbs=t.natAbs*c.toNat:=by
  rw[fY];have:c.natAbs=c.toNat:=by lia
  rw[this]
 have e2:(b*c).toNat=b.toNat*c.toNat:=by
  have hb:b=(b.toNat:Int):=by lia
  have hc':c=(c.toNat:Int):=by lia
  have:b*c=((b.toNat*c.toNat:Nat):Int):=by rw[iO,<-hb,<-hc']
  lia
 rw[e1,e2,Nat.gcd_mul_right,iO];have:(c.toNat:Int)=c:=by lia
 rw[this]
theorem ut {t b c:Int}(h:1<=b)(hc:1<=c):wy (t*c) (b*c)=wy t b:=by unfold wy;rw[xx5 h hc];have hg:=yf (t:=t) h;rw[eH _ _ (show 0<c by lia),eH _ _ (show 0<c by lia)]
end L2
namespace L2
open PySem PySem.Spec PyProof.Rows
def CapAll (env:Env):List (Str×Aj)->Prop
 |[]=>True
 |(y,c)::r=>env.cells.lookup y=some c/\CapAll env r
theorem CapAll.look {env:Env}:∀ {cl:List (Str×Aj)},CapAll env cl->∀ {y:Str} {c:Aj},cl.lookup y=some c->env.cells.lookup y=some c
 |[],_,_,_,e=>by cases e
 |(z,d)::r,h,y,c,e=>by
  rw[bA]at e;cases hb:y==z with
  |true =>
   rw[hb]at e;rw[eq_of_beq hb];exact h.1.trans e
  |false =>
   rw[hb]at e;exact CapAll.look h.2 e
def HasAll (cl:List (Str×Aj)):List (Str×NameKind)->Prop
 |[]=>True
 |(n,k)::r=>(k=.free->∃c,cl.lookup n=some c)/\k≠.cell/\HasAll cl r
theorem HasAll.nocell {cl:List (Str×Aj)}:∀ {ns:List (Str×NameKind)},HasAll cl ns->∀y∈ns,y.2≠.cell
 |(n,k)::r,h,y,hy=>by
  rcases aM.mp hy with rfl|hy
  .exact h.2.1
  .exact HasAll.nocell h.2.2 y hy
theorem HasAll.has {cl:List (Str×Aj)}{env:Env}:∀ {ns:List (Str×NameKind)},HasAll cl ns->∀ {x:Str} {q:NameKind},q=.cell\/q=.free ->
  (ns.map λ(n,k)=>if(k==NameKind.free&&env.scope.kind==.function&&env.kindOf n==some .cell) then(n,NameKind.cell) else(n,k)).lookup x=some q->∃c,cl.lookup x=some c
 |[],_,_,_,_,e=>by cases e
 |(n,k)::r,h,x,q,hq,e=>by
  have ih:=HasAll.has (env:=env) h.2.2 (x:=x) hq;rw[aD]at e;by_cases hc:(k==NameKind.free&&env.scope.kind==.function&&env.kindOf n==some .cell)=true
  .have e':=e;dsimp only at e';rw[aw hc,bA]at e';cases hb:x==n with
   |true =>
    rw[cH,cH]at hc;obtain⟨c,hcc⟩:=h.1 (eq_of_beq hc.1.1);exact⟨c,by rw[eq_of_beq hb];exact hcc⟩
   |false =>
    rw[hb]at e';exact ih e'
  .have e':=e;dsimp only at e';rw[ar hc,bA]at e';cases hb:x==n with
   |true =>
    rw[hb]at e';have ek:k=q:=aq e';rcases hq with rfl|rfl
    .exact absurd ek h.2.1
    .obtain⟨c,hcc⟩:=h.1 ek;exact⟨c,by rw[eq_of_beq hb];exact hcc⟩
   |false =>
    rw[hb]at e';exact ih e'
def CapIx (X:Cx)(scope:Scope)(cl:List (Str×Aj)):List Nat->Prop
 |[]=>True
 |j::r=>(∃y c,X.N[j]?=some y/\X.env.scope.names.lookup y=some .cell/\(relabel scope X.env).names.lookup y=some .cell/\cl.lookup y=some c)/\CapIx X scope cl r
theorem CapIx.get {X:Cx}{scope:Scope}{cl:List (Str×Aj)}:∀ {M:List Nat},CapIx X scope cl M->∀ {k j:Nat},M[k]?=some j ->
  ∃y c,X.N[j]?=some y/\X.env.scope.names.lookup y=some .cell/\(relabel scope X.env).names.lookup y=some .cell/\cl.lookup y=some c
 |[],_,k,j,e=>by cases e
 |i::r,h,0,j,e=>by cases e;exact h.1
 |i::r,h,k+1,j,e=>CapIx.get h.2 (k:=k) e
def Qp (X:Cx)(x:Str)(M:List Nat):List Str:=x::M.map λj=>X.N.getD j Str.empty
def zf (M:List Nat)(σ:St)(o:Option V):St:=o::M.map λj=>(σ[j]?).join
abbrev zt (X:Cx)(scope:Scope)(cl:List (Str×Aj))(x:Str)(M:List Nat)(C:Aj)(s2:Ab)(H2:Hp)(fp:List Aj)(pn:List (Aj×Obj)):Cx :=
 { X with N:=Qp X x M,s₀:=s2,H₀:=H2,env:=compEnvC scope cl C X.env,outer:=X.stack,ex:=fp,fn:=λ_=>false,pn:=pn,xe:=λ_ _=>False }
section
variable {X:Cx}{pins:List (Aj×Obj)}{σ:St}{H:Hp}{s2:Ab}{scope:Scope}{cl:List (Str×Aj)}{x:Str}{M:List Nat}{fp:List Aj}{C:Aj}{h1:Heap}{tk:Nat}
theorem Inv.compG {oo:HO}{xs:List Str}(I:Inv X pins σ H s2)(hc:CapAll X.env cl)(hh:HasAll cl scope.names)(hm:CapIx X scope cl M)(hk:scope.kind=.function)(hC:s2.heap.objs.size<C)
  (keep:∀b o,s2.heap.get? b=some o->h1.get? b=some o) (hn:h1.Ns C λ_=>none) (hD:ObjOk X.prog X.w (upd H s2.heap.objs.size oo) h1 s2.heap.objs.size oo)
  (hfp:∀b∈fp,kv X pins H b) (hob:∀b∈fp,∃o,s2.heap.get? b=some o) :
  Inv { X with N:=xs++M.map λj=>X.N.getD j Str.empty,s₀:=s2,H₀:=H,env:=compEnvC scope cl C X.env,outer:=X.stack,ex:=fp,fn:=λ_=>false,pn:=X.pn++pins,xe:=λ_ _=>False } [] ((xs.map λ_=>none)++M.map λj=>(σ[j]?).join) (upd H s2.heap.objs.size oo) { s2 with heap:=h1,toks:=tk }:=by
 have hfr:=I.hok.fresh (a:=s2.heap.objs.size) (al _);have o:=I.ok;have hcc:∀y c,cl.lookup y=some c->X.env.cells.lookup y=some c:=λy c e=>hc.look e;have hlt:∀b∈fp,b<s2.heap.objs.size:=λb hb=>by obtain⟨ob,e⟩:=hob b hb;exact ao e
 have hstk:∀b∈fp,b∉frs X.stack:=λb hb z=>by
  rcases aM.mp (I.stkSub b z) with z|z
  .exact(hfp b hb).2.1 z
  .exact(hfp b hb).2.2.1 z
 have hCn:H C=none:=I.hok.fresh (bu hC);refine⟨⟨o.mod,hk,o.glob,o.blt,bu hC,λy z c e1 e2=>o.inj y z c (hcc y c e1) (hcc z c e2),λy hy=>?_,λy c z=>(aK z).elim,o.hd,o.frames,.inl rfl,λb hb=>⟨aE (bv (hlt b hb) hC),λy c e=>(hfp b hb).2.2.2.2.1 y c (hcc y c e)⟩,
  λb ob e=>I.bs b ob e,bM o.bsz I.sz,λb ob e z=>?_,hstk,I.stack,I.stkFree⟩,rfl,I.bare,?_,?_,λy c e=>?_,?_,λy c e=>?_,λp hp=>?_,?_,?_⟩
 .rcases hy with hy|hy
  .exact hh.has (.inl rfl) hy
  .exact hh.has (.inr rfl) hy
 .obtain⟨e1,e2⟩:=I.bs b ob e;exact(hfp b z).2.2.2.1.elim (λq=>o.noex b ob e q) λq=>by have:=o.bs b ob e;exact be _ (aO (ao this.1) q)
 .exact(Un.laid (fs:=frs X.stack) (ex:=fp) (o:=oo) keep (al _) hfr)
 .refine⟨_,hn,λi z v e1 e2 e3=>?_⟩;rcases bo i xs.length with hi|hi
  .have e2:((xs.map λ_=>(none:Option V))++M.map λj=>(σ[j]?).join)[i]?=some (some v):=e2;rw[aP (by rw[ag];exact hi),aA,aa hi]at e2;cases e2
  have e1':(xs++M.map λj=>X.N.getD j Str.empty)[i]?=some z:=e1;have e2':((xs.map λ_=>(none:Option V))++M.map λj=>(σ[j]?).join)[i]?=some (some v):=e2;rw[az hi]at e1';rw[az (by rw[ag];exact hi),ag]at e2';generalize i-xs.length=k at e1' e2';rw[aA]at e1' e2';cases hj:M[k]? with
  |none=>rw[hj]at e1';cases e1'
  |some j =>
   rw[hj]at e1' e2';obtain⟨y,c,f1,f2,f3,f4⟩:=hm.get hj;have ez:X.N.getD j Str.empty=z:=aq e1';rw[af,f1]at ez;have ez':y=z:=ez;subst ez';have ev:(σ[j]?).join=some v:=aq e2';have ev':σ[j]?=some (some v):=by
    cases hs:σ[j]? with
    |none=>rw[hs]at ev;cases ev
    |some w' =>
     rw[hs]at ev;have:w'=some v:=ev;rw[this]
   obtain⟨m,hns,hl⟩:=I.loc;obtain⟨u,r,l⟩:=hl j y v f1 ev' (.inr (.inl f2));refine⟨u,r,.inr ⟨.inl f3,c,f4,?_⟩⟩;rcases l with⟨lk,_⟩|⟨_,c',lc,li⟩
   .have:X.env.scope.names.lookup y=some .local:=lk;rw[f2]at this;cases this
   .rw[hcc y c f4]at lc;have:=aq lc;subst this;exact li.keeps keep
 .obtain⟨v,hv⟩:=I.cell y c (hcc y c e);exact⟨v,hv.keeps keep⟩
 .show upd H s2.heap.objs.size oo C=none;rw[q8 (eU hC)];exact hCn
 .show upd H s2.heap.objs.size oo c=none;obtain⟨v,ob,e1,e2⟩:=I.cell y c (hcc y c e);rw[q8 (aE (ao e1))];exact I.freeC y c (hcc y c e)
 .have hp':p∈X.pn++pins:=(aU.mp hp).elim (λz=>z) λz=>nomatch z;obtain⟨e1,e2,e3,e4,e5⟩:=I.pin p hp';refine⟨keep _ _ e1,?_,aE (bv (ao e1) hC),λz=>?_,e5⟩
  .rw[q8 (aE (ao e1))];exact e2
  .rcases aM.mp (I.stkSub p.1 z) with z|z
   .exact e3 z
   .exact e4 z
 .exact I.hok.laid keep (al _) hD
 .show((xs.map λ_=>(none:Option V))++M.map λj=>(σ[j]?).join).length=(xs++M.map λj=>X.N.getD j Str.empty).length;simp only[am,ag]
theorem Inv.comp (I:Inv X pins σ H s2)(hc:CapAll X.env cl)(hh:HasAll cl scope.names)(hm:CapIx X scope cl M)(hk:scope.kind=.function)(hC:s2.heap.objs.size<C)
  (keep:∀b o,s2.heap.get? b=some o->h1.get? b=some o) (hn:h1.Ns C λ_=>none) (hD:h1.get? s2.heap.objs.size=some { cls:=.type "list",data:=.seq #[] 0 })
  (hfp:∀b∈fp,kv X pins H b) (hob:∀b∈fp,∃o,s2.heap.get? b=some o) :
  Inv (zt X scope cl x M C s2 H fp (X.pn++pins)) [] (zf M σ none) (upd H s2.heap.objs.size (.lst [])) { s2 with heap:=h1,toks:=tk }:=I.compG (xs:=[x]) hc hh hm hk hC keep hn ⟨aT _,[],0,.nil,hD⟩ hfp hob
theorem Inv.uncomp {pins':List (Aj×Obj)}{σ':St}{H':Hp}{s':Ab}{h':Heap}(I:Inv X pins σ H s2)(hC:s2.heap.objs.size<=C)(hfp:∀b∈fp,kv X pins H b)
  (J:Inv (zt X scope cl x M C s2 H fp (X.pn++pins)) pins' σ' H' s') (hs:Heap.SameBut C s'.heap h'):Inv X pins σ H' { s' with heap:=h' }:=by
 have hb:=J.base;have nC:∀b o,s2.heap.get? b=some o->b≠C:=λb o e=>aE (aO (ao e) hC);have st:∀b o,b≠C->s'.heap.get? b=some o->h'.get? b=some o:=λb o n e=>(hs.2 b n).trans e;refine I.call' (s':={ s' with heap:=h' }) (ch:=fp) J.os ⟨λb o e n nb nx=>st b o (nC b o e) (hb.keep b o e n nb nx),λb o e n hb' nx=>?_,hb.free,λb o e nx=>?_,hb.tups,hb.frzs,hb.tbls⟩ ?_ J.bare λb hbf=>?_
 .obtain⟨sl,e1⟩:=hb.slot b o e n hb' nx;exact⟨sl,st b _ (nC b o e) e1⟩
 .obtain⟨o',e1⟩:=hb.there b o e nx;exact⟨o',st b _ (nC b o e) e1⟩
 .intro b u hu;have fr:H' C=none:=J.free;refine(J.hok b u hu).stay (λc v hc e=>st c v ?_ e) (λ_ z=>z) λ_ _ z=>z;rcases hc with rfl|hc
  .intro z;rw[z,fr]at hu;cases hu
  .intro z;rw[z,fr]at hc;cases hc
 .obtain⟨q1,q2,q3,q4,q5,q6⟩:=hfp b hbf;exact⟨q4,q2,q5,q6⟩
end
def Wb (J:It)(M:List Nat)(te:TE)(σ:St)(H1:Hp)(Q:VK):Prop:=∀p,H1 p=none->∃W:Nat->Nat->List V->Hp->Prop,(∃m,W 0 m [] (upd H1 p (.lst []))) /\
 ∀i m ys H2,W i m ys H2->H2 p=some (.lst ys)/\ys.length<sizeLine/\((J.stop i H2/\Q (.ref p) H2)\/(J.go i H2/\∀v H3,J.yld i H2 v H3 ->
  te (zf M σ (some v)) H3 λy H4=>H4 p=some (.lst ys)/\∃m',m'<m/\W (i+1) m' (ys++[y]) (upd H4 p (.lst (ys++[y])))))
def wvt (M:List Nat)(wi:TI)(te:TE):TE:=λσ H Q=>wi σ H λJ H1=>Wb J M te σ H1 Q
theorem ju {Y:Cx}{tg e:Expr}{k:Nat}{acc:Ag}{it:Aj}{fp:List Aj}{tn:Nat->Heap->Prop}{J:It}{ps:Pos}{REST:Sem PySem.Fin}{post:Result->Ab->Prop}{gg:TG}{pins:List (Aj×Obj)}{σ:St}{V:Nat->Nat->Hp->Prop}{Qd:Hp->Prop}{s0:Ab}{H0:Hp}{n0:Nat}
  (T:Turn Y.prog Y.w Y.K tg J fp it tn) (hc:Y.calm=true) (hx:∀v s,Y.xe v s->False)
  (hturn:compTurn e k (.ref it) acc Y.env=(standAt ps >>= λ_=>pyNext (.ref it) >>= λr=>match r with|none=>pure (.done .next)|some v=>letOwnedTupleGo tg (.ref it) v >>= λ_=>assign tg Y.env v >>= λ_=>REST))
  (hun:Y.A.under (.compLoop e k (.ref it) acc Y.env)=Y.A) (hden:(model Y.prog Y.w).den (.compLoop e k (.ref it) acc Y.env)=((compTurn e k (.ref it) acc Y.env).onRaise λz=>do noteFrame z Y.env;theTreesLotGoes z))
  (hg:PG Y tg gg) (fok:∀H2:Hp,(∀b∈fp,H2 b=none)->∀b∈fp,kv Y pins H2 b)
  (hV:∀i n H2,V i n H2->(J.stop i H2/\Qd H2)\/(J.go i H2/\∀v H3,J.yld i H2 v H3->∃Z:St->Hp->Prop,gg v σ H3 Z/\∀σ4 H4,Z σ4 H4->(σ.length=σ4.length/\∀(k:Nat) z,σ[k]?=some (some z)->σ4[k]?=some (some z))/\∀pins' s',Inv Y pins' σ4 H4 s' ->
   wpAny (model Y.prog Y.w) Y.A REST (λr s5=>r=Fin.again (.compLoop e k (.ref it) acc Y.env)/\∃H5,Inv Y pins' σ4 H5 s5/\∃n',n'<n/\V (i+1) n' H5) Y.xe s'))
  (fin:∀H2 s4,Inv Y pins σ H2 s4->Qd H2->post (.ok .next) s4) (I:Inv Y pins σ H0 s0) (v0:V 0 n0 H0) (t0:tn 0 s0.heap) (nf:∀b∈fp,H0 b=none) :
  codeAny (model Y.prog Y.w) Y.A (.compLoop e k (.ref it) acc Y.env) post s0:=by
 refine codeAny_loop rfl (λn s3=>∃i H2,V i n H2/\Inv Y pins σ H2 s3/\tn i s3.heap/\∀b∈fp,H2 b=none) (λn s3 hI=>?_) n0 ⟨0,H0,v0,I,t0,nf⟩;obtain⟨i,H2,w,J2,t,nf2⟩:=hI;rw[hun,hden];refine wpAny_noted ?_;rw[hturn];refine ae (dj (ae ?_));rcases hV i n H2 w with⟨hst,hq⟩|⟨hgo,hy⟩
 .refine bi (T.done Y rfl rfl rfl hc i pins s3 _ H2 (λ_ _=>False) J2 (fok H2 nf2) t hst) (λr s4 hr=>?_) λ_ _ z=>z.elim;obtain⟨rfl,J4⟩:=hr;exact aj (fin H2 s4 J4 hq)
 .refine bi (T.item Y rfl rfl rfl hc i pins s3 _ H2 (λ_ _=>False) J2 (fok H2 nf2) t hgo) (λr s4 hr=>?_) λ_ _ z=>z.elim;obtain⟨u,rfl,hw⟩:=hr;refine ae (bi hw (λ_ s5 hr5=>?_) λ_ _ z=>z.elim);obtain⟨v,H3,J5,rv,yl,t5,nf⟩:=hr5;obtain⟨Z,hz,hZ⟩:=hy v H3 yl;refine ae (bi (hg _ s5 _ H3 v u _ (J5.pinned (fok H3 nf) (T.obj _ _ t5)) rv hz) (λ_ s6 hr6=>?_) λv s z=>(hx v s z).elim);obtain⟨σ6,H6,J6,z6⟩:=hr6;obtain⟨⟨hl,hw6⟩,hR⟩:=hZ σ6 H6 z6;refine bi (hR _ s6 J6) (λr s7 hr7=>?_) λv s z=>(hx v s z).elim;obtain⟨rfl,H7,J7,n',hn',v7⟩:=hr7;refine⟨rfl,n',hn',i+1,H7,v7,(J7.unpinned (pins:=pins)).weak hl hw6,?_,?_⟩
  .exact T.keep _ _ _ t5 λb hb o e=>(J7.pin (b,o) (aN _ (aN _ (Qv hb e)))).1
  .intro b hb;obtain⟨o,e,_⟩:=T.obj _ _ t5 b hb;exact(J7.pin (b,o) (aN _ (aN _ (Qv hb e)))).2.1
section
variable {Y:Cx}{elt cd:Expr}{te:TE}{tt:TT}{c:Code}{p:Aj}{σ:St}{H:Hp}{pins:List (Aj×Obj)}{s:Ab}
def appS (elt:Expr)(acc:Ag)(env:Env)(c:Code):Sem PySem.Fin:=(eval elt env >>= λx=>call (.builtin "list.append") [acc,x] >>= λ_=>pure ()) >>= λ_=>again c
theorem Yv {ys:List V}{N:List V->Hp->Prop}(hx:∀v s,Y.xe v s->False)(he:PE Y elt te)(J:Inv Y pins σ H s)(hz:ys.length<sizeLine)(h:te σ H λy H4=>H4 p=some (.lst ys)/\N (ys++[y]) (upd H4 p (.lst (ys++[y])))) :
  wpAny (model Y.prog Y.w) Y.A (appS elt (.ref p) Y.env c) (λr s5=>r=Fin.again c/\∃H5,Inv Y pins σ H5 s5/\∃zs,N zs H5) Y.xe s:=by
 refine ae (ae (bi (he _ s _ H _ J h) (λyv s7 hr7=>?_) λ_ _ z=>z));obtain⟨y,H4,J7,ry,hp4,n4⟩:=hr7;refine ae (bi (vk (X:=Y) _ s7 _ H4 (.ref p) [y] (.ref p) [yv] (λ_ H8=>H8=upd H4 p (.lst (ys++[y]))) J7 rfl (.cons ry .nil) ⟨_,ys,y,rfl,rfl,hp4,hz,rfl⟩) (λ_ s8 hr8=>?_) λ_ _ z=>z);obtain⟨_,H8,J8,_,rfl⟩:=hr8;exact aj (aj ⟨rfl,_,J8,_,n4⟩)
def tstS (cd:Expr)(env:Env)(a b:Sem PySem.Fin):Sem PySem.Fin:=(forIn [cd] true λc r=>if r=true then do let ok <-isTrue c env (eval c env);pure (ForInStep.yield ok) else pure (ForInStep.yield r)) >>= λok=>if ok=true then a else b
theorem Yw {a b:Sem PySem.Fin}{F:Hp->Prop}{G:Hp->Prop}{R:PySem.Fin->Ab->Prop}(ht:PT Y cd tt)(J:Inv Y pins σ H s)(h:tt σ H λok H4=>if ok=true then F H4 else G H4)
  (ha:∀s' H4,Inv Y pins σ H4 s'->F H4->wpAny (model Y.prog Y.w) Y.A a R Y.xe s') (hb:∀s' H4,Inv Y pins σ H4 s'->G H4->wpAny (model Y.prog Y.w) Y.A b R Y.xe s') :
  wpAny (model Y.prog Y.w) Y.A (tstS cd Y.env a b) R Y.xe s:=by
 refine ae (wpAny_tests_one (bi (ht _ s _ H _ J h) (λok s6 hr6=>?_) λ_ _ z=>z));obtain⟨H6,J6,hok⟩:=hr6;cases ok with
 |false=>exact hb s6 H6 J6 hok
 |true=>exact ha s6 H6 J6 hok
end
section
variable {X:Cx}{elt iter cd:Expr}{x:Str}{px pos:Pos}{scope:Scope}{cl:List (Str×Aj)}{M:List Nat}{wi:TI}{te:TE}{tt:TT}{pins:List (Aj×Obj)}{σ:St}
theorem Zs {N:List Str}{C:Aj}{s2:Ab}{H1:Hp}{fp:List Aj}(hcap:CapAll X.env cl)(I2:Inv X pins σ H1 s2)(hlt:s2.heap.objs.size<C)(hfp:∀b∈fp,kv X pins H1 b)(hbl:∀b∈fp,b<s2.heap.objs.size)(H2:Hp)(hn:∀b∈fp,H2 b=none) :
  ∀b∈fp,kv { X with N:=N,s₀:=s2,H₀:=H1,env:=compEnvC scope cl C X.env,outer:=X.stack,ex:=fp,fn:=λ_=>false,pn:=X.pn++pins,xe:=λ_ _=>False } [] H2 b:=λb hb=>by
 obtain⟨q1,q2,q3,q4,q5,q6⟩:=hfp b hb;refine⟨hn b hb,aE (bv (hbl b hb) hlt),λz=>?_,.inl hb,λy c e=>q5 y c (hcap.look e),λp hp=>q6 p ((aU.mp hp).elim (λz=>z) λz=>nomatch z)⟩;rcases aM.mp (I2.stkSub b z) with z|z
 .exact q2 z
 .exact q3 z
theorem Ys {tg:Expr}{ifs:List Expr}{rest:List Comprehension}(hclos:closureFor scope X.env=pure cl)(hhas:HasAll cl scope.names)(hk:scope.kind=.function)
  (hnames:∀y∈scope.names,y.2=.local->scope.names.lookup y.1=some .local) (hi:PI X tg iter wi) (hs:∀z,foldedSetIterable iter X.env z=pure z)
  {use:Option (Ag->Sem Unit)} {QQ:Ag->Ab->Prop} {s:Ab} {H:Hp} {ps:Pos} {R:It->Hp->Prop} (I:Inv X pins σ H s) (h:wi σ H R)
  (go:∀(it:Aj) (fp:List Aj) (tn:Nat->Heap->Prop) (J:It) (H1:Hp) (s2:Ab) (C:Aj) (h3:Heap) (tk:Nat),Inv X pins σ H1 s2->Turn X.prog X.w X.K tg J fp it tn->tn 0 h3->(∀b∈fp,kv X pins H1 b)->(∀b∈fp,b<s2.heap.objs.size)->(∀b∈fp,∃o,s2.heap.get? b=some o)->R J H1->s2.heap.objs.size<C ->
   (∀b o,s2.heap.get? b=some o->h3.get? b=some o)->(h3.Ns C λ_=>none)->h3.get? s2.heap.objs.size=some { cls:=.type "list",data:=.seq #[] 0 } ->
   codeAny (model X.prog X.w) X.A (.compLoop (.ListComp elt (⟨tg,iter,ifs,0⟩::rest) scope pos) 0 (.ref it) (.ref s2.heap.objs.size) (compEnvC scope cl C X.env)) (compPost (model X.prog X.w) X.A X.xe use QQ (.ref s2.heap.objs.size) C) { s2 with heap:=h3,toks:=tk }) :
  wpAny (model X.prog X.w) X.A (comprehension (.ListComp elt (⟨tg,iter,ifs,0⟩::rest) scope pos) scope X.env ps (newList []) false (eval iter X.env) use) QQ X.xe s:=by
 refine fA (use:=use) rfl hs hclos hk hnames ?_;refine thn (hi pins s σ H _ I h) λv s1 h1=>thn h1 λitv s2 h2=>?_;obtain⟨it,fp,tn,J,H1,rfl,I2,T,t0,hfp,hR⟩:=h2;refine cT ?_;refine gD hhas.nocell (by intro y hy;cases hy) (λh3 hns hsb=>?_) hk;dsimp only at hns hsb ⊢;generalize hH2:s2.heap.push { cls:=.type "list",dict:=none,data:=.seq ([]:List Ag).toArray }=G2 at hns hsb ⊢;have hC:G2.objs.size=s2.heap.objs.size+1:=by rw[<-hH2,cU]
 have hlt:s2.heap.objs.size<G2.objs.size:=by lia
 have keep:∀b o,s2.heap.get? b=some o->h3.get? b=some o:=λb o e=>by rw[hsb.2 b (aE (bv (ao e) hlt))];exact ai _ (hH2▸ai _ e)
 have hD:h3.get? s2.heap.objs.size=some { cls:=.type "list",data:=.seq #[] 0 }:=by rw[hsb.2 _ (aE hlt)];exact ai _ (hH2▸aF _ rfl)
 have t3:=T.keep 0 _ _ t0 λb _ o e=>keep b o e;have loop:=λtk=>go it fp tn J H1 s2 G2.objs.size h3 tk I2 T t3 hfp (λb hb=>let ⟨o,e,_⟩:=T.obj 0 _ t0 b hb;ao e) (λb hb=>let ⟨o,e,_⟩:=T.obj 0 _ t0 b hb;⟨o,e⟩) hR hlt keep hns hD;exact codeAny_compStart_list (loop _) (T.self _ 0 _ _ _ t3 (loop _))
theorem Qj (M:List Nat)(σ:St)(v:V):(zf M σ none).length=(zf M σ (some v)).length/\∀(k:Nat) z,(zf M σ none)[k]?=some (some z)->(zf M σ (some v))[k]?=some (some z):=⟨rfl,λk z ez=>by
 cases k with
 |zero=>cases ez
 |succ k=>exact ez⟩
end
section
variable {X:Cx}{elt iter:Expr}{x:Str}{px pos:Pos}{scope:Scope}{cl:List (Str×Aj)}{M:List Nat}{wi:TI}{te:TE}
theorem wqs (hc:X.calm=true)(hclos:closureFor scope X.env=pure cl)(hcap:CapAll X.env cl)(hhas:HasAll cl scope.names)(hix:CapIx X scope cl M)(hk:scope.kind=.function)
  (hnames:∀y∈scope.names,y.2=.local->scope.names.lookup y.1=some .local) (hx:scope.names.lookup x=some .local) (hnd:(Qp X x M).Nodup) (hi:PI X (.Name x px) iter wi)
  (he:∀C s2 H2 fp pn,PE (zt X scope cl x M C s2 H2 fp pn) elt te) (hs:∀z,foldedSetIterable iter X.env z=pure z)
  {use:Option (Ag->Sem Unit)} {QQ:Ag->Ab->Prop} {pins:List (Aj×Obj)} {s:Ab} {σ:St} {H:Hp} {Q:VK} {ps:Pos} (I:Inv X pins σ H s) (h:wi σ H λJ H1=>Wb J M te σ H1 Q)
  (fin:∀(C:Aj) (s2 s4:Ab) (H1 H2:Hp) (fp:List Aj),Inv X pins σ H1 s2->s2.heap.objs.size<C->(∀b∈fp,kv X pins H1 b)->Inv (zt X scope cl x M C s2 H1 fp (X.pn++pins)) [] (zf M σ none) H2 s4->Q (.ref s2.heap.objs.size) H2 ->
   compPost (model X.prog X.w) X.A X.xe use QQ (.ref s2.heap.objs.size) C (.ok .next) s4) :
  wpAny (model X.prog X.w) X.A (comprehension (.ListComp elt [⟨.Name x px,iter,[],0⟩] scope pos) scope X.env ps (newList []) false (eval iter X.env) use) QQ X.xe s:=by
 refine Ys hclos hhas hk hnames hi hs I h λit fp tn J H1 s2 C h3 tk I2 T t3 hfp hbl hob hR hlt keep hns hD=>?_;obtain⟨W,⟨m0,w0⟩,hW⟩:=hR s2.heap.objs.size (I2.hok.fresh (al _));have hxl:(relabel scope X.env).names.lookup x=some .local:=dY hx;refine ju (Y:=zt X scope cl x M C s2 H1 fp (X.pn++pins)) (V:=λi n H2=>∃ys,W i n ys H2) (Qd:=Q (.ref s2.heap.objs.size)) (REST:=appS elt (.ref s2.heap.objs.size) (compEnvC scope cl C X.env) _) T hc (λ_ _ z=>z) (compTurn_list1 ..) rfl rfl (xy (i:=0) hnd rfl (.inl hxl) (.inr hxl)) (Zs hcap I2 hlt hfp hbl) (λi n H2 ⟨ys,w⟩=>?_) (λH2 s4 J4 q=>fin C s2 s4 H1 H2 fp I2 hlt hfp J4 q) (I2.comp hcap hhas hix hk hlt keep hns hD hfp hob) ⟨[],w0⟩ t3 λb hb=>by rw[q8 (aE (hbl b hb))];exact(hfp b hb).1
 obtain⟨hp,hz,hcase⟩:=hW i n ys H2 w;refine hcase.imp id λ⟨hgo,hy⟩=>⟨hgo,λv H3 yl=>⟨λσ4 H4=>σ4=zf M σ (some v)/\H3=H4,⟨rfl,rfl⟩,λ_ _ e=>?_⟩⟩;obtain⟨rfl,rfl⟩:=e;refine⟨Qj M σ v,λpins' s' J=>?_⟩;refine bi (Yv (N:=λzs H5=>∃m',m'<n/\W (i+1) m' zs H5) (λ_ _ z=>z) (he _ _ _ _ _) J hz (hy v H3 yl)) (λr s5 ⟨e,H5,J5,zs,m',hm,w'⟩=>⟨e,H5,J5,m',hm,zs,w'⟩) λ_ _ z=>z
theorem kx (hc:X.calm=true)(hclos:closureFor scope X.env=pure cl)(hcap:CapAll X.env cl)(hhas:HasAll cl scope.names)(hix:CapIx X scope cl M)(hk:scope.kind=.function)
  (hnames:∀y∈scope.names,y.2=.local->scope.names.lookup y.1=some .local) (hx:scope.names.lookup x=some .local) (hnd:(Qp X x M).Nodup) (hi:PI X (.Name x px) iter wi)
  (he:∀C s2 H2 fp pn,PE (zt X scope cl x M C s2 H2 fp pn) elt te) (hs:autoParam (∀z,foldedSetIterable iter X.env z=pure z) aU3._auto_1) :
  PE X (.ListComp elt [⟨.Name x px,iter,[],0⟩] scope pos) (wvt M wi te):=by
 intro pins s σ H Q I h;rw[eval_ListComp];refine wqs hc hclos hcap hhas hix hk hnames hx hnd hi he hs (use:=none) I h λC s2 s4 H1 H2 fp I2 hlt hfp J4 hq=>?_;obtain⟨m,hn,_⟩:=J4.loc;exact⟨m,hn,λh' hs'=>⟨.ref s2.heap.objs.size,H2,I2.uncomp (bu hlt) hfp J4 hs',rfl,hq⟩⟩
theorem Inv.but {pins:List (Aj×Obj)}{σ:St}{H:Hp}{s:Ab}{h':Heap}{C:Aj}(I:Inv X pins σ H s)(hn:H C=none)(h1:X.s₀.heap.objs.size<=C)(h2:C≠X.env.locals)(h3:∀y c,X.env.cells.lookup y=some c->c≠C)(h4:∀p∈X.pn++pins,p.1≠C)
  (hs:Heap.SameBut C s.heap h'):Inv X pins σ H { s with heap:=h' }:=by
 have st:∀b o,b≠C->s.heap.get? b=some o->h'.get? b=some o:=λb o n e=>(hs.2 b n).trans e;have nc:∀b,b∉[C]->b≠C:=λb z e=>z (by rw[e];exact .head _);refine I.call' (s':={ s with heap:=h' }) (ch:=[C]) rfl ⟨λb o e n _ nx=>st b o (nc b nx) e,λb o e n _ nx=>⟨o.slots,st b o (nc b nx) e⟩,λb o e n _=>n,λb o e nx=>⟨o,st b o (nc b nx) e⟩,λ_ _ e=>e,λ_ _ _ e=>e,λb ps e=>⟨#[],by rw[e];simp⟩⟩ ?_ I.bare λb hb=>?_
 .intro b u hu;refine(I.hok b u hu).stay (λc v hc e=>st c v ?_ e) (λ_ z=>z) λ_ _ z=>z;rcases hc with rfl|hc
  .intro z;rw[z,hn]at hu;cases hu
  .intro z;rw[z,hn]at hc;cases hc
 .rw[aH.mp hb];exact⟨.inr h1,h2,h3,h4⟩
theorem Qw {i:Nat}{y:Str}{py spos:Pos}(hN:X.N.Nodup)(hyi:X.N[i]?=some y)(hyl:Loc X.env.scope y)(hc:X.calm=true)(hclos:closureFor scope X.env=pure cl)(hcap:CapAll X.env cl)(hhas:HasAll cl scope.names)(hix:CapIx X scope cl M)(hk:scope.kind=.function)
  (hnames:∀y∈scope.names,y.2=.local->scope.names.lookup y.1=some .local) (hx:scope.names.lookup x=some .local) (hnd:(Qp X x M).Nodup) (hi:PI X (.Name x px) iter wi)
  (he:∀C s2 H2 fp pn,PE (zt X scope cl x M C s2 H2 fp pn) elt te) (hs:autoParam (∀z,foldedSetIterable iter X.env z=pure z) aU3._auto_1)
  (hsw:autoParam (swapsWith (.ListComp elt [⟨.Name x px,iter,[],0⟩] scope pos) (some (.Name y py)) spos.line X.env=pure true) aU4._auto_1) (hyf:autoParam (X.fn y=true\/X.env.scope.names.lookup y=some .local) aU0._auto_1) :
  PS X (.Assign [.Name y py] (.ListComp elt [⟨.Name x px,iter,[],0⟩] scope pos) spos) (tAsg (wvt M wi te) (Z9 i)):=by
 intro pins s σ H D I h;rw[exec_Assign_Name_used _ _ _ _ hsw];refine ae (dj (ae ?_));refine ae (bi (wqs hc hclos hcap hhas hix hk hnames hx hnd hi he hs (use:=some (assign (.Name y py) X.env)) (QQ:=λ_ s'=>SP X pins D .next s') I h λC s2 s4 H1 H2 fp I2 hlt hfp J4 hq=>?_) (λ_ s' hq=>aj (aj hq)) λ_ _ e=>e);have I4:Inv X pins σ H2 s4:=I2.uncomp (h':=s4.heap) (bu hlt) hfp J4 (Heap.SameBut.refl _ _);have hCn:H2 C=none:=J4.free;obtain⟨mC,hnC,_⟩:=J4.loc;obtain⟨oC,esC,epC,hoC,hdC⟩:=id hnC;have hCl:C≠X.env.locals:=λz=>be _ (bv hlt (z▸I2.lt));have hCs:X.s₀.heap.objs.size<=C:=bM I2.sz (bu hlt);have hCc:∀y c,X.env.cells.lookup y=some c->c≠C:=λy c e z=>by obtain⟨v,o,e1,_⟩:=I2.cell y c e;exact be _ (bv hlt (z▸ao e1))
 have hCp:∀p∈X.pn++pins,p.1≠C:=λp hp z=>be _ (bv hlt (z▸ao (I2.pin p hp).1));have hCf:C∉frs X.stack:=λz=>by
  rcases aM.mp (I2.stkSub C z) with q|q
  .exact hCl q
  .obtain⟨_,o,e1,_⟩:=I2.funs.mem (b:=C) q;exact be _ (bv hlt (ao e1))
 have hCx:C∉X.fs:=λz=>by obtain⟨_,o,e1,_⟩:=I2.funs.mem (b:=C) z;exact be _ (bv hlt (ao e1))
 have I4p:Inv X (pins++[(C,oC)]) σ H2 s4:=⟨I4.ok,I4.os,I4.bare,I4.base,I4.loc,I4.cell,I4.free,I4.freeC,λp hp=>by
  rcases aU.mp hp with q|q
  .exact I4.pin p (ca _ q)
  .rcases aU.mp q with q|q
   .exact I4.pin p (aN _ q)
   .rw[aH.mp q]
    exact⟨hoC,hCn,hCl,hCx,λv z=>by rw[hdC.1]at z;cases z⟩,I4.hok,I4.len⟩
 show wpAny _ _ (assign (.Name y py) X.env (.ref s2.heap.objs.size)) _ _ _;refine ie (yx I4p hN hyi hyl (show RelV (.ref s2.heap.objs.size) (.ref s2.heap.objs.size) from rfl) (λs5 I5=>?_) hyf);have hC5:=(I5.pin (C,oC) (aN _ (aN _ (.head _)))).1;exact⟨mC,⟨oC,esC,epC,hC5,hdC⟩,λh' hs'=>⟨_,H2,I5.unpinned.but hCn hCs hCl hCc hCp hs',hq⟩⟩
end
theorem kh {M:List Nat}{lo:Int}{n:Nat}{te:TE}{σ:St}{H:Hp}{Q:VK}(f:Nat->V)(hn:n<=1000000)(he:∀(i:Nat) (H':Hp) (R:VK),i<n->Same H H'->R (f i) H'->te (zf M σ (some (.int (lo+i)))) H' R)
  (k:∀p,H p=none->Q (.ref p) (upd H p (.lst ((List.range n).map f)))):Wb (Itr lo n) M te σ H Q:=by
 intro p np;refine⟨λi m ys H2=>i<=n/\m=n-i/\ys=(List.range i).map f/\H2=upd H p (.lst ys),⟨n,aT _,rfl,rfl,rfl⟩,?_⟩;rintro i m ys H2 ⟨hi,rfl,rfl,rfl⟩;refine⟨qf,?_,?_⟩
 .rw[ag,aG];have:(1000000:Nat)<sizeLine:=by decide
  lia
 .by_cases hlt:i<n
  .refine .inr ⟨hlt,?_⟩;rintro v H3 ⟨rfl,rfl⟩;refine he i (upd H p (.lst ((List.range i).map f))) _ hlt (Same.upd np) ⟨qf,n-(i+1),⋯,⋯,rfl,?_,?_⟩
   .rw[bL,aW];rfl
   .rw[qkh]
  .have:i=n:=by lia
   subst this;exact .inl ⟨al _,k p np⟩
theorem Jh {K:Aa}{M:List Nat}{a:Aj}{xs:List V}{te:TE}{σ:St}{H:Hp}{Q:VK}(f:V->V)(hS:SqL K H a xs)(hn:xs.length<=1000000)(he:∀(x:V) (H':Hp) (R:VK),x∈xs->Same H H'->R (f x) H'->te (zf M σ (some x)) H' R)
  (k:∀p,H p=none->Q (.ref p) (upd H p (.lst (xs.map f)))):Wb (Itl K a) M te σ H Q:=by
 intro p np;refine⟨λi m ys H2=>i<=xs.length/\m=xs.length-i/\ys=(xs.take i).map f/\H2=upd H p (.lst ys),⟨xs.length,aT _,rfl,rfl,rfl⟩,?_⟩;rintro i m ys H2 ⟨hi,rfl,rfl,rfl⟩;have hS':SqL K (upd H p (.lst ((xs.take i).map f))) a xs:=Same.sql (Same.upd np) hS;refine⟨qf,?_,?_⟩
 .rw[ag,aY];have:(1000000:Nat)<sizeLine:=by decide
  lia
 .by_cases hlt:i<xs.length
  .have hx:xs[i]?=some xs[i]:=aa hlt;refine .inr ⟨⟨xs,_,hS',hx⟩,?_⟩;rintro v H3 ⟨rfl,hv⟩;have e:=hv xs hS';rw[hx]at e;have e':=aq e;subst e';refine he _ _ _ (bJ hlt) (Same.upd np) ⟨qf,xs.length-(i+1),⋯,⋯,rfl,?_,?_⟩
   .rw[gW,hx,aW];rfl
   .rw[qkh]
  .have hi':i=xs.length:=by lia
   subst hi';refine .inl ⟨⟨xs,hS',al _⟩,?_⟩;rw[bn];exact k p np
end L2
namespace L2
open PySem PySem.Spec PyProof.Rows
section
variable {X:Cx}
theorem Y0 {pins:List (Aj×Obj)}{σ:St}{H:Hp}{s:Ab}{p:Aj}{ns:List Int}(I:Inv X pins σ H s)(hS:SqL X.K H p (ns.map V.int)) :
  ∃ts:Array (Int×Tok),s.heap.IsList p (intItems ts)/\ns=ts.toList.map (·.1):=by
 obtain⟨its,rv,⟨o,n,e1,e2,e3,e4⟩,hz⟩:=I.list hS;have hi:=Qc rv;obtain⟨ts,ht⟩:=hi.allInts.items;refine⟨ts,⟨o,e1,e2,n,by rw[<-ht];exact e4⟩,?_⟩;have a1:=hi.numsOf;have a2:=nums_intItems (xs:=ts);rw[<-ht]at a2;exact a1.symm.trans a2
theorem qvh (hc:X.calm=true):jg X (.builtin "min") (λxs H Q=>∃(p:Aj) (ns:List Int),xs=[.ref p]/\SqL X.K H p (ns.map V.int)/\0<ns.length/\∀m,m∈ns->(∀a∈ns,m<=a)->Q (.int m) H):=by
 intro pins s σ H xs us Q I r h;obtain⟨p,ns,rfl,hS,hne,q⟩:=h;obtain⟨u,rfl,ru⟩:=jr r;cases(show u=Value.ref p from ru);obtain⟨ts,hl,he⟩:=Y0 I hS;have hsz:ts.size=ns.length:=by rw[he,ag,bf]
 refine min_intList (I.ok.hd hc) hl ⋯ λv h' tk hv hk=>?_;obtain⟨t,rfl⟩:=iW hv;obtain⟨b1,b2⟩:=argBest_lt (numAt ts) (ts.size-1);refine⟨.int _,H,I.kept hk,⟨t,rfl⟩,q _ ?_ λa ha=>?_⟩
 .rw[he,iX];refine getD_mem ?_;rw[<-he,<-hsz];lia
 .rw[he]at ha;obtain⟨j,hj,rfl⟩:=mem_getD ha;rw[<-he,<-hsz]at hj;rw[<-iX];exact b2 j ⋯
theorem qvq (hc:X.calm=true):jg X (.builtin "max") (λxs H Q=>∃(p:Aj) (ns:List Int),xs=[.ref p]/\SqL X.K H p (ns.map V.int)/\0<ns.length/\∀m,m∈ns->(∀a∈ns,a<=m)->Q (.int m) H):=by
 intro pins s σ H xs us Q I r h;obtain⟨p,ns,rfl,hS,hne,q⟩:=h;obtain⟨u,rfl,ru⟩:=jr r;cases(show u=Value.ref p from ru);obtain⟨ts,hl,he⟩:=Y0 I hS;have hsz:ts.size=ns.length:=by rw[he,ag,bf]
 refine max_intList (I.ok.hd hc) hl ⋯ λv h' tk hv hk=>?_;obtain⟨t,rfl⟩:=iW hv;obtain⟨b1,b2⟩:=argBest_gt (numAt ts) (ts.size-1);refine⟨.int _,H,I.kept hk,⟨t,rfl⟩,q _ ?_ λa ha=>?_⟩
 .rw[he,iX];refine getD_mem ?_;rw[<-he,<-hsz];lia
 .rw[he]at ha;obtain⟨j,hj,rfl⟩:=mem_getD ha;rw[<-he,<-hsz]at hj;rw[<-iX];exact b2 j ⋯
theorem qwr:∀ {bs:List Bool} {its:List Ag},Vals (bs.map V.bl) its->its=bs.map Value.bool
 |[],_,.nil=>rfl
 |b::bs,_,.cons r t=>by have e:_=Value.bool b:=r;rw[aD,<-qwr t,e]
theorem wyw (bs:List Bool):(List.range bs.length).all (λi=>bs.getD i true)=bs.all id:=by
 rw[dz,List.all_eq_true,List.all_eq_true];constructor
 .intro h b hb;obtain⟨i,hi,rfl⟩:=cZ hb;have:=h i (ay.mpr hi);rw[af,aa hi]at this;exact this
 .intro h i hi;have hi':=ay.mp hi;rw[af,aa hi'];exact h _ (bJ hi')
theorem Zz (hc:X.calm=true):jg X (.builtin "all") (λxs H Q=>∃(p:Aj) (bs:List Bool),xs=[.ref p]/\SqL X.K H p (bs.map V.bl)/\Q (.bl (bs.all id)) H):=by
 intro pins s σ H xs us Q I r h;obtain⟨p,bs,rfl,hS,q⟩:=h;obtain⟨u,rfl,ru⟩:=jr r;cases(show u=Value.ref p from ru);obtain⟨its,rv,⟨o,n,e1,e2,e3,e4⟩,hz⟩:=I.list hS;have hits:=qwr rv;have hl:s.heap.IsList p its.toArray:=⟨o,e1,e2,n,e4⟩;have hlt:p<s.heap.objs.size:=ao e1;refine call_all_walk (fV hl ?_);refine⟨s.heap.objs.size,_,_,_,_,_,λi=>bs.getD i true,rfl,Walks.list (A:=X.A.in1) (I.ok.hd hc) _ p (aE hlt) its.toArray,⟨⟨_,aF _ rfl,rfl,rfl⟩,hl.push _⟩,λi v s' Q' E' hP hQ=>?_,λh' tk hk=>?_⟩
 .have hv:its[i]?=some v:=by simpa using hP
  rw[hits,aA]at hv;cases hb:bs[i]? with
  |none=>rw[hb]at hv;cases hv
  |some b =>
   rw[hb]at hv;have ev:Value.bool b=v:=aq hv;subst ev;refine dt ?_;have e2:bs.getD i true=b:=by rw[af,hb];rfl
   have hQ':Q' (bs.getD i true) s':=hQ;rw[e2]at hQ';exact hQ'
 .have hlen:its.toArray.size=bs.length:=by rw[hits];simp
  rw[hlen,wyw];refine⟨.bl _,H,I.kept λb ob e=>hk b ob (λhm=>?_) (ai _ e),rfl,q⟩;have z:b=s.heap.objs.size:=by simpa using hm
  exact be _ (z▸ao e)
end
structure MCal (P:Ac)(w:Ah)(K:Aa)(mg:Str->Option Ag)(base:Heap)(C:Aj)(m:Str)(k:Nat)(sp:Sp):Prop where
 ex:∃f fd ps,Meth K C m f/\FnOk P w K mg base (CXE P w) k f fd ps sp/\Binds K fd ps []
structure CCal (P:Ac)(w:Ah)(K:Aa)(mg:Str->Option Ag)(base:Heap)(x:Str)(C:Aj)(k:Nat)(sp:Sp):Prop where
 ex:∃f fd ps,mg x=some (.ref C)/\Mk K C f/\FnOk P w K mg base (CXE P w) k f fd ps sp/\Binds K fd ps []
structure MethIn (K:Aa)(C:Aj)(m qual:Str)(st:Stmt):Prop where
 ex:∃f fd,W.findIn K (.ref C) m=some (some (.ref f))/\W.isFn K (.ref f)=true/\Fun K m qual st f fd
theorem xvh {K:Aa}{C:Aj}{m qual:Str}{st:Stmt}{f:Aj}{oc:Ag}{od an:Option Aj}{osl:Array (Option Ag)}{kV doc pm cdv ct:Ag}(a:W.findIn K (.ref C) m=some (some (.ref f)))(i:W.isFn K (.ref f)=true)
  (l:K.lookup f=some ⟨oc,od,.func (W.fnOf m qual (ku st) (vz st) (ww st) .none kV doc pm an cdv ct),osl⟩) (c:W.codeIn K cdv qual=true) (k:W.keepIn K (.ref f)=true):MethIn K C m qual st:=⟨_,_,a,i,wx3 l c k⟩
def jc (x qual:Str)(st:Stmt)(ps:List Str):Prop:=∀(kV doc pm:Ag) (an:Option Aj) (cdv ct:Ag) (us:List Ag),us.length=ps.length->bindArgs (W.fnOf x qual (ku st) (vz st) (ww st) .none kV doc pm an cdv ct) ⟨us,[]⟩=pure (ps.zip us)
section
variable {P:Ac}{w:Ah}{K:Aa}{mg:Str->Option Ag}{base:Heap}{C:Aj}
theorem MethIn.cal {m qual:Str}{st:Stmt}{ps:List Str}{k:Nat}{sp:Sp}(d:MethIn K C m qual st)(b:jc m qual st ps)(ok:∀f fd,Fun K m qual st f fd->FnOk P w K mg base (CXE P w) k f fd ps sp):MCal P w K mg base C m k sp:=by obtain⟨f,fd,a,i,F⟩:=d.ex;exact⟨f,fd,ps,⟨a,i,F.kp⟩,ok f fd F,F.binds b⟩
theorem MethIn.ccal {x qual:Str}{st:Stmt}{ps:List Str}{k:Nat}{sp:Sp}(d:MethIn K C "__init__" qual st)(hm:mg x=some (.ref C))(mk:W.makesIn K C=true)(kc:W.keepIn K (.ref C)=true)(b:jc "__init__" qual st ps)
  (ok:∀f fd,Fun K "__init__" qual st f fd->FnOk P w K mg base (CXE P w) k f fd ps sp):CCal P w K mg base x C k sp:=by
 obtain⟨f,fd,a,i,F⟩:=d.ex;exact⟨f,fd,ps,hm,⟨mk,a,i,kc⟩,ok f fd F,F.binds b⟩
end
section
variable {X:Cx}{C:Aj}{x m:Str}{k:Nat}{sp:Sp}{E:St->XK}{p pos apos:Pos}{e o:Expr}{es:List Expr}{ta:TE}{t:TA}
theorem xw8 (c:CCal X.prog X.w X.K X.mg X.base x C k sp)(hr:Room (k+1) X.A)(hg:Gl X x)(hx:Qf X E)
  (ha:PA X (e::es) t) (hdb:autoParam ((x==("__debug__" : Str))=false) aU1._auto_1) (he:autoParam (starEach (e::es) X.env=(false,eval e X.env)::starEach es X.env) aU4._auto_1) (hpl:autoParam ((backTo pos (starEach es X.env)).any (·.1)=false) aU4._auto_1) :
  PE X (.Call (.Name x p) (e::es) [] pos) (xwn C sp E t):=by
 obtain⟨f,fd,ps,hm,M,F,b⟩:=c.ex;exact xq5 M F hr hg hm b hx ha hdb he hpl
theorem k9 {pl:Sem Bool}(he:PE X o ta)(cl:Cls X.K C)(c:MCal X.prog X.w X.K X.mg X.base C m k sp)(hr:Room k X.A)(hx:Qf X E)(ha:PA X (e::es) t)
  (hst:autoParam (starEach (e::es) X.env=(false,eval e X.env)::starEach es X.env) aU4._auto_1) (hpl:autoParam ((backTo pos (starEach es X.env)).any (·.1)=false) aU4._auto_1)
  (ht:autoParam (eval (.Call (.Attribute o m apos) (e::es) [] pos) X.env=(do
   let ov <-eval o X.env
   standAt apos.atName
   let (f,first) <-holding [ov] (getMethod ov m pl)
   callWith pos f first (backTo pos (starEach (e::es) X.env)) (backToKw pos (keywordEach [] X.env)))) aU4._auto_1) :
  PE X (.Call (.Attribute o m apos) (e::es) [] pos) (qjb C m sp E ta t):=by
 obtain⟨f,fd,ps,hm,F,b⟩:=c.ex;exact xxu he cl hm F hr b hx ha hst hpl ht
theorem km {pl:Sem Bool}(he:PE X o ta)(cl:Cls X.K C)(c:MCal X.prog X.w X.K X.mg X.base C m k sp)(hr:Room k X.A)(hx:Qf X E)
  (ht:autoParam (eval (.Call (.Attribute o m apos) [] [] pos) X.env=(do
   let ov <-eval o X.env
   standAt apos.atName
   let (f,first) <-holding [ov] (getMethod ov m pl)
   callWith pos f first (backTo pos (starEach [] X.env)) (backToKw pos (keywordEach [] X.env)))) aU4._auto_1) :
  PE X (.Call (.Attribute o m apos) [] [] pos) (qjb C m sp E ta qxd):=by
 obtain⟨f,fd,ps,hm,F,b⟩:=c.ex;exact wy3 he cl hm F hr b hx ht
end
end L2
namespace L2
open PySem
def hAt (hs:List Int)(k:Int):Int:=hs.getD k.toNat 0
def kF (hs:List Int)(t b:Int):Int:=if(hs.length:Int)-1-1<t/b then(hs.length:Int)-1-1 else t/b
def vd (hs:List Int)(t b:Int):Int:=hAt hs (kF hs t b)*b+(hAt hs (kF hs t b+1)-hAt hs (kF hs t b))*(t-kF hs t b*b)
theorem wuq {hs:List Int}{t b:Int}(hl:2<=hs.length)(hb:1<=b)(h0:0<=t):0<=kF hs t b/\kF hs t b<(hs.length:Int)-1:=by have h:=iP h0 (show(0:Int)<=b by lia);unfold kF;split <;> lia
theorem wu1 {hs:List Int}{t b c:Int}(hc:1<=c):kF hs (t*c) (b*c)=kF hs t b:=by unfold kF;rw[eH _ _ (show 0<c by lia)]
theorem wqg {hs:List Int}{t b c:Int}(hc:1<=c):vd hs (t*c) (b*c)=vd hs t b*c:=by unfold vd;rw[wu1 hc];generalize hAt hs (kF hs t b)=u;generalize hAt hs (kF hs t b+1)=v;generalize kF hs t b=k;grind
theorem div_in {k t b:Int}(hb:1<=b)(h1:k*b<=t)(h2:t<(k+1)*b):t/b=k:=by have a1:k<=t/b:=(gf ⋯).mpr h1;have a2:t/b<k+1:=(Int.ediv_lt_iff_lt_mul ⋯).mpr h2;lia
theorem Z2 {hs:List Int}{k t b:Int}(hk:0<=k)(hk2:k<(hs.length:Int)-1)(hb:1<=b)(h1:k*b<=t)(h2:t<=(k+1)*b) :
  vd hs t b=hAt hs k*b+(hAt hs (k+1)-hAt hs k)*(t-k*b):=by
 by_cases hlt:t<(k+1)*b
 .have e:=div_in hb h1 hlt;have ek:kF hs t b=k:=by unfold kF;rw[e];split <;> lia
  unfold vd;rw[ek]
 .have et:t=(k+1)*b:=by lia
  have e:t/b=k+1:=by rw[et];exact Int.mul_ediv_cancel _ ⋯
  by_cases hn:(hs.length:Int)-1-1<k+1
  .have ek:kF hs t b=k:=by unfold kF;rw[e,aw hn];lia
   unfold vd;rw[ek]
  .have ek:kF hs t b=k+1:=by unfold kF;rw[e,ar hn]
   unfold vd;rw[ek,et];generalize hAt hs k=u;generalize hAt hs (k+1)=v;generalize hAt hs (k+1+1)=z;grind
def Yb (hs:List Int)(t b:Int):Int×Int:=wy (vd hs t b) b
theorem qv8 {hs:List Int}{t b:Int}(hb:1<=b):Yb hs (wy t b).1 (wy t b).2=Yb hs t b:=by
 unfold Yb;have hg:=yf (t:=t) hb;have e1:(wy t b).1*gOf t b=t:=by rw[bC];exact wwk
 have e2:(wy t b).2*gOf t b=b:=by rw[bC];exact qv9 hb
 have h:=wqg (hs:=hs) (t:=(wy t b).1) (b:=(wy t b).2) hg;rw[e1,e2]at h;rw[h]
 conv=>rhs;rw[<-e2]
 rw[e2];have:=ut (t:=vd hs (wy t b).1 (wy t b).2) (b:=(wy t b).2) (zg hb) hg;rw[e2]at this;exact this.symm
theorem Yp {t b:Int}(hb:1<=b):(wy t b).1<0↔t<0:=by
 have hg:=yf (t:=t) hb;have e1:gOf t b*(wy t b).1=t:=wwk;constructor
 .intro h;have:=gX h (show 0<gOf t b by lia);rw[e1,dE]at this;exact this
 .intro h;rcases bD (wy t b).1 0 with z|z
  .exact z
  .have:=aV z (show 0<=gOf t b by lia);rw[e1,dE]at this;lia
theorem qyg {t b n:Int}(hb:1<=b):n*(wy t b).2<(wy t b).1↔n*b<t:=by
 have hg:=yf (t:=t) hb;have e1:gOf t b*(wy t b).1=t:=wwk;have e2:gOf t b*(wy t b).2=b:=qv9 hb;have e3:gOf t b*(n*(wy t b).2)=n*b:=by generalize gOf t b=g at *;generalize (wy t b).2=y at *;grind
 constructor
 .intro h;have:=gX h (show 0<gOf t b by lia);rw[e1,e3]at this;exact this
 .intro h;rcases bD (n*(wy t b).2) (wy t b).1 with z|z
  .exact z
  .have:=aV z (show 0<=gOf t b by lia);rw[e1,e3]at this;lia
theorem xxg {u v b d:Int}(hb:0<=d)(hd:d<=b):(if v<u then v else u)*b<=u*b+(v-u)*d/\u*b+(v-u)*d<=(if v>u then v else u)*b:=by
 by_cases h:v<u
 .rw[aw h,ar ⋯];have a1:=aV hd (show 0<=u-v by lia);have a2:=bg (show 0<=u-v by lia) hb;constructor <;> grind
 .rw[ar h];have a1:=aV hd (show 0<=v-u by lia);have a2:=bg (show 0<=v-u by lia) hb;by_cases h2:v>u
  .rw[aw h2];constructor <;> grind
  .rw[ar h2];have:v=u:=by lia
   subst this;constructor <;> grind
end L2
namespace L2
open PySem PySem.Spec PyProof.Rows
def wwb (J:It)(M:List Nat)(tt:TT)(te:TE)(σ:St)(H1:Hp)(Q:VK):Prop:=∀p,H1 p=none->∃W:Nat->Nat->List V->Hp->Prop,(∃m,W 0 m [] (upd H1 p (.lst []))) /\
 ∀i m ys H2,W i m ys H2->H2 p=some (.lst ys)/\ys.length<sizeLine/\((J.stop i H2/\Q (.ref p) H2)\/(J.go i H2/\∀v H3,J.yld i H2 v H3 ->
  tt (zf M σ (some v)) H3 λb H4=>if b=true then te (zf M σ (some v)) H4 (λy H5=>H5 p=some (.lst ys)/\∃m',m'<m/\W (i+1) m' (ys++[y]) (upd H5 p (.lst (ys++[y])))) else H4 p=some (.lst ys)/\∃m',m'<m/\W (i+1) m' ys H4))
def tCompI (M:List Nat)(wi:TI)(tt:TT)(te:TE):TE:=λσ H Q=>wi σ H λJ H1=>wwb J M tt te σ H1 Q
section
variable {X:Cx}{elt iter cd:Expr}{x:Str}{px pos:Pos}{scope:Scope}{cl:List (Str×Aj)}{M:List Nat}{wi:TI}{tt:TT}{te:TE}
theorem wyr (hc:X.calm=true)(hclos:closureFor scope X.env=pure cl)(hcap:CapAll X.env cl)(hhas:HasAll cl scope.names)(hix:CapIx X scope cl M)(hk:scope.kind=.function)
  (hnames:∀y∈scope.names,y.2=.local->scope.names.lookup y.1=some .local) (hx:scope.names.lookup x=some .local) (hnd:(Qp X x M).Nodup) (hi:PI X (.Name x px) iter wi)
  (ht:∀C s2 H2 fp pn,PT (zt X scope cl x M C s2 H2 fp pn) cd tt) (he:∀C s2 H2 fp pn,PE (zt X scope cl x M C s2 H2 fp pn) elt te) (hs:∀z,foldedSetIterable iter X.env z=pure z)
  {use:Option (Ag->Sem Unit)} {QQ:Ag->Ab->Prop} {pins:List (Aj×Obj)} {s:Ab} {σ:St} {H:Hp} {Q:VK} {ps:Pos} (I:Inv X pins σ H s) (h:wi σ H λJ H1=>wwb J M tt te σ H1 Q)
  (fin:∀(C:Aj) (s2 s4:Ab) (H1 H2:Hp) (fp:List Aj),Inv X pins σ H1 s2->s2.heap.objs.size<C->(∀b∈fp,kv X pins H1 b)->Inv (zt X scope cl x M C s2 H1 fp (X.pn++pins)) [] (zf M σ none) H2 s4->Q (.ref s2.heap.objs.size) H2 ->
   compPost (model X.prog X.w) X.A X.xe use QQ (.ref s2.heap.objs.size) C (.ok .next) s4) :
  wpAny (model X.prog X.w) X.A (comprehension (.ListComp elt [⟨.Name x px,iter,[cd],0⟩] scope pos) scope X.env ps (newList []) false (eval iter X.env) use) QQ X.xe s:=by
 refine Ys hclos hhas hk hnames hi hs I h λit fp tn J H1 s2 C h3 tk I2 T t3 hfp hbl hob hR hlt keep hns hD=>?_;obtain⟨W,⟨m0,w0⟩,hW⟩:=hR s2.heap.objs.size (I2.hok.fresh (al _));have hxl:(relabel scope X.env).names.lookup x=some .local:=dY hx;refine ju (Y:=zt X scope cl x M C s2 H1 fp (X.pn++pins)) (V:=λi n H2=>∃ys,W i n ys H2) (Qd:=Q (.ref s2.heap.objs.size)) (REST:=tstS cd (compEnvC scope cl C X.env) (appS elt (.ref s2.heap.objs.size) (compEnvC scope cl C X.env) _) (again _)) T hc (λ_ _ z=>z) (compTurn_list ..) rfl rfl (xy (i:=0) hnd rfl (.inl hxl) (.inr hxl)) (Zs hcap I2 hlt hfp hbl) (λi n H2 ⟨ys,w⟩=>?_) (λH2 s4 J4 q=>fin C s2 s4 H1 H2 fp I2 hlt hfp J4 q) (I2.comp hcap hhas hix hk hlt keep hns hD hfp hob) ⟨[],w0⟩ t3 λb hb=>by rw[q8 (aE (hbl b hb))];exact(hfp b hb).1
 obtain⟨hp,hz,hcase⟩:=hW i n ys H2 w;refine hcase.imp id λ⟨hgo,hy⟩=>⟨hgo,λv H3 yl=>⟨λσ4 H4=>σ4=zf M σ (some v)/\H3=H4,⟨rfl,rfl⟩,λ_ _ e=>?_⟩⟩;obtain⟨rfl,rfl⟩:=e;refine⟨Qj M σ v,λpins' s' J=>?_⟩;exact Yw (ht _ _ _ _ _) J (hy v H3 yl) (λs6 H6 J6 h6=>bi (Yv (N:=λzs H5=>∃m',m'<n/\W (i+1) m' zs H5) (λ_ _ z=>z) (he _ _ _ _ _) J6 hz h6) (λr s5 ⟨e,H5,J5,zs,m',hm,w'⟩=>⟨e,H5,J5,m',hm,zs,w'⟩) λ_ _ z=>z)
  λs6 H6 J6 ⟨_,m',hm,w'⟩=>aj ⟨rfl,H6,J6,m',hm,ys,w'⟩
theorem wqw (hc:X.calm=true)(hclos:closureFor scope X.env=pure cl)(hcap:CapAll X.env cl)(hhas:HasAll cl scope.names)(hix:CapIx X scope cl M)(hk:scope.kind=.function)
  (hnames:∀y∈scope.names,y.2=.local->scope.names.lookup y.1=some .local) (hx:scope.names.lookup x=some .local) (hnd:(Qp X x M).Nodup) (hi:PI X (.Name x px) iter wi)
  (ht:∀C s2 H2 fp pn,PT (zt X scope cl x M C s2 H2 fp pn) cd tt) (he:∀C s2 H2 fp pn,PE (zt X scope cl x M C s2 H2 fp pn) elt te) (hs:autoParam (∀z,foldedSetIterable iter X.env z=pure z) aU3._auto_1) :
  PE X (.ListComp elt [⟨.Name x px,iter,[cd],0⟩] scope pos) (tCompI M wi tt te):=by
 intro pins s σ H Q I h;rw[eval_ListComp];refine wyr hc hclos hcap hhas hix hk hnames hx hnd hi ht he hs (use:=none) I h λC s2 s4 H1 H2 fp I2 hlt hfp J4 hq=>?_;obtain⟨m,hn,_⟩:=J4.loc;exact⟨m,hn,λh' hs'=>⟨.ref s2.heap.objs.size,H2,I2.uncomp (bu hlt) hfp J4 hs',rfl,hq⟩⟩
end
theorem wzz {i:Int}{acc:Array Ag}{n:Nat}(h:ItemsOf (λk v=>∃t,v=.int (i+k*1) t) acc n):Vals ((List.range n).map λk:Nat=>V.int (i+k)) acc.toList:=by
 obtain⟨h1,h2⟩:=h;have key:∀(l:List Ag) (b m:Nat),l.length=m->(∀(j:Nat) v,l[j]?=some v->∃t,v=.int (i+((b+j:Nat):Int)*1) t)->Vals ((List.range' b m).map λk:Nat=>V.int (i+k)) l:=by
  intro l
  induction l with
  |nil=>intro b m hm _;subst hm;exact .nil
  |cons x r ih =>
   intro b m hm hj;subst hm;rw[aQ,List.range'_succ,aD];refine .cons ?_ (ih (b+1) r.length rfl λj v e=>?_)
   .obtain⟨t,e⟩:=hj 0 x rfl;refine⟨t,?_⟩;rw[e];simp
   .obtain⟨t,e'⟩:=hj (j+1) v e;refine⟨t,?_⟩;rw[e',show b+1+j=b+(j+1) by lia]
 have:=key acc.toList 0 n (by simpa using h1) (λj v e=>by
  obtain⟨t,e'⟩:=h2 j v (by simpa using e)
  exact⟨t,by rw[e'];simp⟩)
 rwa [<-List.range_eq_range']at this
def tLR (ta:TA):TE:=λσ H Q=>ta σ H λvs H1=>∃i j:Int,vs=[.int i,.int j]/\(-(2 ^ 40)<=i/\i<2 ^ 40/\-(2 ^ 40)<=j/\j<2 ^ 40)/\(j-i).toNat<=1000000/\∀q,H1 q=none->Q (.ref q) (upd H1 q (.lst ((List.range (j-i).toNat).map λk:Nat=>V.int (i+k))))
theorem qvm {X:Cx}{a b:Expr}{ta:TA}{p1 pos1 p2 pos2:Pos}(hc:X.calm=true)(hgl:Gl X "list")(hml:X.mg "list" = none)(hg:Gl X "range")(hm:X.mg "range" = none)(ha:PA X [a,b] ta)
  (hs:autoParam (starEach [a,b] X.env=[(false,eval a X.env),(false,eval b X.env)]) aU4._auto_1) (hs2:autoParam (starEach [b] X.env=[(false,eval b X.env)]) aU4._auto_1) (hs3:autoParam (starEach [(.Call (.Name "range" p1) [a,b] [] pos1)] X.env=[(false,eval (.Call (.Name "range" p1) [a,b] [] pos1) X.env)]) aU4._auto_1) :
  PE X (.Call (.Name "list" p2) [.Call (.Name "range" p1) [a,b] [] pos1] [] pos2) (tLR ta):=by
 intro pins s σ H Q I h;refine dh (yr I hgl hml cX ?_);refine cu (e:=.Call (.Name "range" p1) [a,b] [] pos1) (rest:=[]) ?_ hs3 rfl;rw[hs3];show wpAny _ _ (spliced ((false,eval (.Call (.Name "range" p1) [a,b] [] pos1) X.env)::[])) _ _ s;refine Calls.spliced_cons ?_;refine Call_ (yr I hg hm boot_range (cu (thn (ha pos1 pins s σ H _ I h) λus s1 ⟨vs,H1,I1,r1,q1⟩=>?_) (by rw[hs,hs2]) (by rw[hs2];rfl)));obtain⟨i,j,e,⟨q1,q2,q3,q4⟩,q5,q⟩:=q1;subst e;cases r1 with
 |cons r rr =>
  cases rr with
  |cons r' rr =>
   cases rr;obtain⟨t,rfl⟩:=r;obtain⟨t',rfl⟩:=r';refine call_range_2 (Calls.spliced_nil ?_);have I2:Inv X pins σ H1 { s1 with heap:=s1.heap.push { cls:=.type "range",data:=.fields #[.int i t,.int j t',.int 1 s1.toks] },toks:=s1.toks+1 }:=I1.kept λb o e=>ai _ e;refine call_list_range (n:=(j-i).toNat) (I2.ok.hd hc) (IsRange.new ..) (small_one ⋯ ⋯ ⋯ ⋯) (rangeSize_nat _ _) ⋯ λh' tk acc' c' kp e hit=>?_;have hl:((List.range (j-i).toNat).map λk:Nat=>V.int (i+k)).length<=sizeLine:=by
    rw[ag,aG];have:(1000000:Nat)<sizeLine:=by decide
    lia
   exact⟨.ref _,_,I2.laid (t':=tk) kp (al _) (show ObjOk X.prog X.w _ h' _ (.lst _) from ⟨hl,acc'.toList,c',wzz hit,by simpa using e⟩),rfl,q _ (I2.hok.fresh (al _))⟩
end L2
namespace L2
open PySem PySem.Spec PyProof.Rows
structure FunD (K:Aa)(x:Str)(st:Stmt)(f:Aj)(fd:Ad):Prop where
 ex:∃(oc:Ag) (od:Option Aj) (T:Aj) (kV doc pm:Ag) (an:Option Aj) (cdv ct:Ag) (osl:Array (Option Ag)),
  fd=W.fnOf x x (ku st) (vz st) (ww st) (.ref T) kV doc pm an cdv ct/\K.lookup f=some ⟨oc,od,.func fd,osl⟩/\W.codeIn K cdv x=true/\∃o n,K.lookup T=some o/\o.data=.seq #[.none] n
 kp:W.keepIn K (.ref f)=true
structure DefInD (K:Aa)(x:Str)(st:Stmt):Prop where
 ex:∃f fd,W.nsIn K mainGlobals x=some (some (.ref f))/\FunD K x st f fd
section
variable {P:Ac}{w:Ah}{K:Aa}{mg:Str->Option Ag}{base:Heap}
theorem xzf {x:Str}{st:Stmt}{f T:Aj}{oc:Ag}{od an:Option Aj}{osl:Array (Option Ag)}{kV doc pm cdv ct:Ag}(a:W.nsIn K mainGlobals x=some (some (.ref f)))
  (l:K.lookup f=some ⟨oc,od,.func (W.fnOf x x (ku st) (vz st) (ww st) (.ref T) kV doc pm an cdv ct),osl⟩) (c:W.codeIn K cdv x=true) (k:W.keepIn K (.ref f)=true) {tc:Ag} {td:Option Aj} {tn:Nat} {ts:Array (Option Ag)} (t:K.lookup T=some ⟨tc,td,.seq #[.none] tn,ts⟩):DefInD K x st:=⟨_,_,a,⟨oc,od,T,kV,doc,pm,an,cdv,ct,osl,rfl,l,c,_,_,t,rfl⟩,k⟩
theorem FunD.okX {x:Str}{st:Stmt}{f:Aj}{fd:Ad}{N ps:List Str}{k:Nat}{sp:Sp}(F:FunD K x st f fd)(S:FnScope N ps (ww st))(len:∀vs H Q E,sp vs H Q E->vs.length=ps.length)
  (body:∀(cdv:Ag) (A:Ae) (outer:List Env) (s:Ab) (H:Hp) (vs:List V) (Q:VK) (E:XK),Room k (A.deeper (envOfC x (ww st) s.heap.objs.size f cdv))->sp vs H Q E ->
   ∃t,PSs (qz4 (CXE P w) P w K mg base N x (ww st) f cdv A outer s H E) (vz st) t/\t { nx:=λ_ H'=>Q .non H',rt:=Q } (Zx N vs) H):FnOk P w K mg base (CXE P w) (k+1) f fd ps sp:=by
 obtain⟨oc,od,T,kV,doc,pm,an,cdv,ct,osl,rfl,lk,hcd,_⟩:=F.ex;exact xqx lk hcd S len λA outer s H vs Q E hr hsp=>body cdv A outer s H vs Q E hr hsp
def Yj (x:Str)(st:Stmt)(ps:List Str)(ds:List Ag):Prop:=∀(T:Aj) (kV doc pm:Ag) (an:Option Aj) (cdv ct:Ag) (us:List Ag),(us++ds).length=ps.length ->
 ∃kk,bindArgs (W.fnOf x x (ku st) (vz st) (ww st) (.ref T) kV doc pm an cdv ct) ⟨us,[]⟩=seqItems? (.ref T) >>= kk/\kk (some #[.none])=pure (ps.zip (us++ds))
structure CalD (P:Ac)(w:Ah)(K:Aa)(mg:Str->Option Ag)(base:Heap)(x:Str)(k:Nat)(sp:Sp):Prop where
 ex:∃f fd ps,mg x=some (.ref f)/\FnOk P w K mg base (CXE P w) k f fd ps sp/\W.keepIn K (.ref f)=true/\Binds K fd ps []/\Binds K fd ps [.none]
theorem FunD.binds {x:Str}{st:Stmt}{f:Aj}{fd:Ad}{ps:List Str}{ds:List Ag}(F:FunD K x st f fd)(b:Yj x st ps ds):Binds K fd ps ds:=by obtain⟨oc,od,T,kV,doc,pm,an,cdv,ct,osl,rfl,lk,hcd,o,n,e1,e2⟩:=F.ex;intro s us X hl;obtain⟨kk,h1,h2⟩:=b T kV doc pm an cdv ct us hl;exact W.binds_K X rfl e1 e2 h1 h2
theorem DefInD.cal {x:Str}{st:Stmt}{ps:List Str}{k:Nat}{sp:Sp}{h:Heap}(d:DefInD K x st)(KX:K.In h)(G:h.Ns mainGlobals mg)(b:Yj x st ps [])(b':Yj x st ps [.none])(ok:∀f fd,FunD K x st f fd->FnOk P w K mg base (CXE P w) k f fd ps sp):CalD P w K mg base x k sp:=by obtain⟨f,fd,a,F⟩:=d.ex;exact⟨f,fd,ps,b9 KX G a,ok f fd F,F.kp,F.binds b,F.binds b'⟩
theorem CalD.all {x:Str}{k:Nat}{sp:Sp}(c:CalD P w K mg base x k sp):Cal P w K mg base x k sp:=by obtain⟨f,fd,ps,h1,h2,h3,h4,_⟩:=c.ex;exact⟨f,fd,ps,h1,h2,h3,h4⟩
end
section
variable {X:Cx}{x:Str}{k:Nat}{sp:Sp}{E:St->XK}{p pos:Pos}{e:Expr}{es:List Expr}{t:TA}
end
end L2
namespace L2
open PySem PySem.Spec PyProof.Rows
section
variable {κ:Type}[DecidableEq κ]
end
theorem kV_is {P:Ac}{w:Ah}{k:Key}{u:Ag}(r:RelV (kV k) u):(yh P w).is k u=true:=by
 cases k with
 |inl i=>obtain⟨t,e⟩:=(show ∃t,u=Value.int i t from r);subst e;exact www P w i t
 |inr x=>obtain⟨t,e⟩:=(show ∃t,u=Value.str x t from r);subst e;exact quu P w x t
theorem qv7 {P:Ac}{w:Ah}:∀ {ks:List Key} {us:List Ag},Vals (ks.map kV) us->ItemsAre (yh P w) ks us
 |[],_,r=>by rw[cV]at r;cases r;exact .nil
 |k::ks,_,r=>by
  rw[aD]at r;cases r with
  |cons h t=>exact .cons (kV_is h) (qv7 t)
section
variable {P:Ac}{w:Ah}{H:Hp}{h:Heap}{a:Aj}
theorem xq7 {ks:List Key}(ok:HOk P w H h)(e:H a=some (.tup (ks.map kV))):(tupleKind (yh P w)).is h ks a:=by obtain⟨_,its,r,o,h1,h2,n,h3⟩:=(show ObjOk P w H h a (.tup (ks.map kV)) from ok a _ e);exact⟨o,its.toArray,n,h1,h2,h3,by simpa using qv7 r⟩
end
section
variable {X:Cx}{pins:List (Aj×Obj)}{σ:St}{H:Hp}{s:Ab}{a:Aj}{y v:V}{u r:Ag}{o:Option V}{A:Ae}{E:Ag->Ab->Prop}
theorem wvf {h':Heap}{t':Nat}{ob:HO}(I:Inv X pins σ H s)(mu:Mut (H a))(hs:Heap.SameBut a s.heap h')(he:∃q,h'.get? a=some q)(new:ObjOk X.prog X.w (upd H a ob) h' a ob) :
  Inv X pins σ (upd H a ob) { s with heap:=h',toks:=t' } :=
 I.write (x:=a) (e:=a) mu (.inl rfl) (λb q hb z=>(hs.2 b hb).trans z) he new
end
section
variable {X:Cx}{pins:List (Aj×Obj)}{σ:St}{H:Hp}{s:Ab}{a:Aj}{kvs:List (Key×V)}{k:Key}{u:Ag}{A:Ae}{E:Ag->Ab->Prop}
end
section
variable {X:Cx}{o i e value:Expr}{pos pos' tpos:Pos}{td ty tv:TE}
end
section
variable {X:Cx}{pos:Pos}
end
end L2
namespace L2
open PySem PySem.Spec PySem.Calls PySem.W PyProof.Rows
section
variable {prog:Ac}{w:Ah}{A:Ae}{E:Ag->Ab->Prop}{s:Ab}{S a:Aj}{es:Array (Int×Ag)}{ep:Nat}{t:SetTable}{o:Obj}{k:List Key}{ks:List (List Key)}{h:Int}{B:Nat}
abbrev KD (prog:Ac)(w:Ah):=tupleKind (yh prog w)
def EsIn (prog:Ac)(w:Ah)(B:Nat)(hp:Heap)(es:Array (Int×Ag))(ks:List (List Key)):Prop:=∀p∈es.toList,∃k∈ks,∃a,p.2=.ref a/\a<B/\(KD prog w).is hp k a
theorem wk6 (n:Nat){v:Ag}(h:carriedByValue v=true):ofAClassStatement n v=pure false:=by
 cases v with
 |ref x=>cases h
 |_=>first | rfl | (simp[ofAClassStatement];done) | (cases n <;> rfl)
theorem qu1 (hx:(KD prog w).is s.heap k a){n:Nat}{Q:Bool->Ab->Prop}(hQ:Q false s):wpAny (model prog w) A (ofAClassStatement (n+1) (.ref a)) Q E s:=by
 have hT:s.TypeIs (.ref a) "tuple" := IsTupleKey.typeIs hx;obtain⟨o,items,m,ho,hc,hd,hi⟩:=hx;unfold ofAClassStatement;refine ae (wpAny_typeOf hT ?_);dsimp only;rw[aw ⋯];refine ae (aj ?_);simp only[fB,aI,bN];refine ae (gY ho hd ?_);refine ae ?_;show wpAny _ _ (forIn items _ _) _ _ s;rw[<-fJ];refine iC _ (λrest r s'=>r.1=none/\s'=s/\∀v∈rest,carriedByValue v=true) _ ?_ ?_ _ _ ⟨rfl,rfl,hi.byValue⟩
 .rintro v rest r s' ⟨hr,rfl,hall⟩;rw[wk6 _ (hall v dI)];refine ae (aj ?_);simp only[aI,bN];exact aj ⟨rfl,rfl,λu hu=>hall u (bI _ hu)⟩
 .rintro⟨r1,r2⟩ s' ⟨hr,rfl,_⟩;simp only at hr;subst hr;exact aj hQ
theorem xvd (hx:(KD prog w).is s.heap k a){Q:Bool->Ab->Prop}(hQ:Q false s):∀(l:List Ag),(∀y∈l,∃k' b,y=.ref b/\(KD prog w).is s.heap k' b)->wpAny (model prog w) A (searchCouldBeSeen (.ref a) l) Q E s:=by
 intro l hl;unfold searchCouldBeSeen;refine ae ?_;refine iC _ (λrest r s'=>r.1=none/\s'=s/\∀y∈rest,∃k' b,y=.ref b/\(KD prog w).is s.heap k' b) _ ?_ ?_ _ _ ⟨rfl,rfl,hl⟩
 .rintro y rest r s' ⟨hr,rfl,hall⟩;obtain⟨k',b,rfl,hb⟩:=hall y dI;have nx:∀u∈rest,∃k' b,u=.ref b/\(KD prog w).is s'.heap k' b:=λu hu=>hall u (bI _ hu);dsimp only;split
  .exact aj ⟨rfl,rfl,nx⟩
  .refine ae ((KD prog w).quiet hx ?_);simp only[fB,aI,bN];refine ae ((KD prog w).quiet hb ?_);simp only[fB,aI,bN];refine ae (qu1 hx ?_);simp only[aI,bN];refine ae (qu1 hb ?_);simp only[aI,bN];exact aj ⟨rfl,rfl,nx⟩
 .rintro⟨r1,r2⟩ s' ⟨hr,rfl,_⟩;simp only at hr;subst hr;exact aj hQ
structure StAt (prog:Ac)(w:Ah)(B:Nat)(hp:Heap)(S:Aj)(ks:List (List Key))(es:Array (Int×Ag))(ep:Nat)(t:SetTable)(e:Nat)(o:Obj):Prop where
 ho:hp.get? S=some o
 ex:o.ExactSet
 hd:o.data=.set es ep t
 dm:t.dummies=#[]
 pl:t.place.size=es.size
 pw:t.mask+1=2 ^ e
 lo:3<=e
 hi:e<=12
 few:es.size*5<t.mask*3
 len:es.size=ks.length
 els:EsIn prog w B hp es ks
theorem wu0 {b:Aj}{Q:Bool->Ab->Prop}(hQ:Q true s):wpAny (model prog w) A (isSame (.ref b) (.ref b)) Q E s:=by unfold isSame;dsimp only;rw[aw (eW b)];exact aj hQ
end
end L2
namespace L2
open PySem PySem.Spec PySem.Calls PySem.W PyProof.Rows
section
variable {prog:Ac}{w:Ah}{A:Ae}{E:Ag->Ab->Prop}{s:Ab}{S a:Aj}{es:Array (Int×Ag)}{ep:Nat}{t:SetTable}{o:Obj}{k:List Key}{ks:List (List Key)}{h:Int}{B:Nat}
theorem qjy {hp:Heap}(ho:hp.get? S=some o)(hd:o.data=.set es ep t){es':Array (Int×Ag)}{t':SetTable}:(hp.update S (Obj.putSet es' t')).get? S=some { o with data:=.set es' (ep+1) t' }:=by have e:=putSet_of es' t' hd;have:=dP (Obj.putSet es' t') ho (by rw[e];rfl);rw[e]at this;exact this
end
end L2
namespace L2
open PySem
def wqk (xs:Array Nat):Prop:=∀(i j x y:Nat),i<j->xs[i]?=some x->xs[j]?=some y->x<y
theorem qx1 {xs:Array Nat}{j:Nat}(r:wqk xs):∀f lo hi,hi-lo<=f->lo<=hi->hi<=xs.size->(∀(i x:Nat),i<lo->xs[i]?=some x->x<j)->(∀(i x:Nat),hi<=i->xs[i]?=some x->j<=x) ->
  SetTable.below.go xs j f lo hi<=xs.size/\(∀(i x:Nat),i<SetTable.below.go xs j f lo hi->xs[i]?=some x->x<j)/\(∀(i x:Nat),SetTable.below.go xs j f lo hi<=i->xs[i]?=some x->j<=x)
 |0,lo,hi,hf,h1,h2,a,b=>by
  obtain rfl:lo=hi:=by lia
  exact⟨h2,a,b⟩
 |f+1,lo,hi,hf,h1,h2,a,b=>by
  unfold SetTable.below.go;by_cases c:lo<hi
  .rw[aw c];dsimp only;have hm:(lo+hi)/2<xs.size:=by lia
   have e:xs[(lo+hi)/2]?=some xs[(lo+hi)/2]:=bE hm;have eg:xs.getD ((lo+hi)/2) j=xs[(lo+hi)/2]:=by simp[Array.getD,hm]
   rw[eg];have mono:∀(i k x y:Nat),i<=k->xs[i]?=some x->xs[k]?=some y->x<=y:=λi k x y h ex ey=>by
    rcases bo i k with q|q
    .exact bu (r i k x y q ex ey)
    .obtain rfl:i=k:=by lia
     rw[ex]at ey;cases ey;exact al _
   by_cases d:xs[(lo+hi)/2]<j
   .rw[aw d];exact qx1 r f _ _ ⋯ ⋯ h2 (λi x hi' ex=>fH (mono i _ _ _ ⋯ ex e) d) b
   .rw[ar d];exact qx1 r f _ _ ⋯ ⋯ ⋯ a (λi x hi' ex=>bM ⋯ (mono _ i _ _ hi' e ex))
  .rw[ar c];obtain rfl:lo=hi:=by lia
   exact⟨h2,a,b⟩
theorem Qx {xs:Array Nat}(r:wqk xs)(j:Nat):SetTable.below xs j<=xs.size/\(∀(i x:Nat),i<SetTable.below xs j->xs[i]?=some x->x<j)/\(∀(i x:Nat),SetTable.below xs j<=i->xs[i]?=some x->j<=x) :=
 qx1 r _ _ _ ⋯ (aT _) (al _) (λi x h=>by lia) λi x h ex=>by have:=(cA.mp ex).1;lia
theorem xq8 {xs:Array Nat}(r:wqk xs){i j:Nat}(h:xs[i]?=some j):SetTable.below xs j=i:=by
 obtain⟨a,b,c⟩:=Qx r j;have hi:=(cA.mp h).1;rcases Nat.lt_trichotomy (SetTable.below xs j) i with q|q|q
 .have e:xs[SetTable.below xs j]?=some (xs[SetTable.below xs j]'⋯):=bE _;have h1:=c _ _ (al _) e;have h2:=r _ _ _ _ q e h;lia
 .exact q
 .have:=b i j q h;lia
theorem wx8 {xs:Array Nat}(r:wqk xs){i j:Nat}(h:xs[i]?=some j):SetTable.below xs (j+1)=i+1:=by
 obtain⟨a,b,c⟩:=Qx r (j+1);have hi:=(cA.mp h).1;rcases Nat.lt_trichotomy (SetTable.below xs (j+1)) (i+1) with q|q|q
 .have:=c i j ⋯ h;lia
 .exact q
 .have hi2:i+1<xs.size:=by lia
  have e:xs[i+1]?=some xs[i+1]:=bE hi2;have h1:=b _ _ q e;have h2:=r _ _ _ _ (d8 i) h e;lia
theorem wzv {xs:Array Nat}(r:wqk xs):SetTable.below xs 0=0:=by
 obtain⟨a,b,c⟩:=Qx r 0;rcases Nat.eq_zero_or_pos (SetTable.below xs 0) with q|q
 .exact q
 .have e:xs[0]?=some (xs[0]'⋯):=bE _;have:=b 0 _ q e;lia
section
variable {t:SetTable}
theorem qk7 (r:wqk t.place){i j:Nat}(h:t.place[i]?=some j):t.slot j=.live i:=by unfold SetTable.slot;dsimp only;rw[xq8 r h,h];simp
theorem xwx {t t':SetTable}(h:t.mask=t'.mask)(p:SetTable.Probe):t.advance p=t'.advance p:=by unfold SetTable.advance;rw[h]
theorem qv2 {t t':SetTable}(h:t.mask=t'.mask):∀n p,zc t n p=zc t' n p
 |0,p=>rfl
 |n+1,p=>by show zc t n (t.advance p)=zc t' n (t'.advance p);rw[xwx h,qv2 h]
def pos (t:SetTable)(h:Int)(n:Nat):Nat:=(zc t n (t.probeStart h)).j
theorem qxr {t t':SetTable}(h:t.mask=t'.mask)(x:Int)(n:Nat):pos t x n=pos t' x n:=by
 unfold pos;have:t.probeStart x=t'.probeStart x:=by unfold SetTable.probeStart;rw[h]
 rw[this,qv2 h]
structure Tab (bt:Bool)(t:SetTable)(hs:List Int):Prop where
 dm:t.dummies=#[]
 pl:t.place.size=hs.length
 pw:∃e,t.mask+1=2 ^ e/\3<=e/\e<=13
 few:hs.length<=t.mask
 rise:wqk t.place
 reach:∀(i:Nat) (h:Int),hs[i]?=some h->∃N j,N<=10*(t.mask+14)/\t.place[i]?=some j/\pos t h N=j/\∀n,n<N->∃i':Nat,t.place[i']?=some (pos t h n)
 led:t.led=!bt
 plain:t.plain=true
variable {bt:Bool}{hs:List Int}{h:Int}
theorem Tab.fresh:Tab bt (.fresh 0 0 (!bt)) []:=by
 refine⟨rfl,rfl,⟨3,rfl,al _,⋯⟩,aT _,λi j x y _ ex=>?_,λi h e=>?_,rfl,rfl⟩
 .have:(#[]:Array Nat)[i]?=some x:=ex;simp at this
 .simp at e
theorem Tab.fits (T:Tab bt t hs):t.fits hs.length=true:=by
 have h1:=T.pl;have h2:=T.few;have:t.fill<=t.mask:=by unfold SetTable.fill;rw[T.dm,h1];simpa using h2
 simp[SetTable.fits,h1,this]
theorem Tab.big (T:Tab bt t hs):7<=t.mask/\t.mask<8192:=by
 obtain⟨e,h1,h2,h3⟩:=T.pw;have a:(2:Nat) ^ 3<=2 ^ e:=dr ⋯ h2;have b:(2:Nat) ^ e<=2 ^ 13:=dr ⋯ h3;have c:(2:Nat) ^ 13=8192:=by decide
 have d:(2:Nat) ^ 3=8:=by decide
 lia
theorem Tab.free (T:Tab bt t hs)(h:Int):∃N,N<=10*(t.mask+13)/\t.slot (pos t h N)=.empty/\∀n,n<N->∃i:Nat,t.slot (pos t h n)=.live i:=by
 obtain⟨e,h1,_⟩:=T.pw;obtain⟨N0,hN,hs0⟩:=wj7 h1 T.dm (by rw[T.pl];exact T.few) h;have key:∀N0,t.slot (pos t h N0)=.empty->∃N,N<=N0/\t.slot (pos t h N)=.empty/\∀n,n<N->∃i:Nat,t.slot (pos t h n)=.live i:=by
  intro N0
  induction N0 using Nat.strongRecOn with
  |_ N0 ih =>
   intro h0;by_cases c:∀n,n<N0->∃i:Nat,t.slot (pos t h n)=.live i
   .exact⟨N0,al _,h0,c⟩
   .rw[Classical.not_forall]at c;obtain⟨n,c⟩:=c;rw[Classical.not_imp]at c;obtain⟨hn,c⟩:=c;rcases qxk T.dm (pos t h n) with q|q
    .obtain⟨N,a1,a2,a3⟩:=ih n hn q;exact⟨N,⋯,a2,a3⟩
    .exact absurd q c
 obtain⟨N,a1,a2,a3⟩:=key N0 hs0;exact⟨N,⋯,a2,a3⟩
theorem qw5 {α:Type}(xs:Array α)(p:Nat)(x:α):(SetTable.insertAt xs p x).toList=xs.toList.take p++x::xs.toList.drop p:=by unfold SetTable.insertAt;rw[bO,dv,dZ,dZ];simp only[List.extract,aX,List.singleton_append,Nat.sub_zero,List.drop_zero];congr 2;exact cI (by simp)
theorem wqt {α:Type}(l:List α)(p:Nat)(x:α)(hp:p<=l.length)(i:Nat):(l.take p++x::l.drop p)[i]?=if i<p then l[i]? else if i=p then some x else l[i-1]?:=by
 have lt:(l.take p).length=p:=by rw[aY];lia
 by_cases c:i<p
 .rw[aw c,aP ⋯,io c]
 .rw[ar c,az ⋯,lt];by_cases d:i=p
  .rw[aw d,d,gM];rfl
  .rw[ar d];obtain⟨k,hk⟩:∃k,i-p=k+1:=⟨i-p-1,⋯⟩;rw[hk,iD,di];congr 1;lia
def zw {α:Type}(l:List α)(p:Nat)(x:α):List α:=l.take p++x::l.drop p
theorem uc {α:Type}(l:List α)(p:Nat)(x:α):(zw l p x).Perm (x::l):=by unfold zw;refine(List.perm_middle).trans ?_;rw[dc]
theorem Tab.put (T:Tab bt t hs){N:Nat}(hN:N<=10*(t.mask+13))(he:t.slot (pos t h N)=.empty)(hl:∀n,n<N->∃i:Nat,t.slot (pos t h n)=.live i)(hf:hs.length+1<=t.mask) :
  Tab bt (t.put (pos t h N)).1 (zw hs (t.put (pos t h N)).2 h)/\(t.put (pos t h N)).2<=hs.length:=by
 obtain⟨b1,b2,b3⟩:=Qx T.rise (pos t h N);have hp:(t.put (pos t h N)).2=SetTable.below t.place (pos t h N):=rfl;have hpl:(t.put (pos t h N)).1.place=SetTable.insertAt t.place (SetTable.below t.place (pos t h N)) (pos t h N):=rfl;rw[hp];generalize hb:SetTable.below t.place (pos t h N)=p at b1 b2 b3 hpl;have b1':p<=hs.length:=by rw[<-T.pl];exact b1
 have noj:∀i:Nat,t.place[i]?≠some (pos t h N):=λi e=>by rw[qk7 T.rise e]at he;cases he
 have get:∀i:Nat,(SetTable.insertAt t.place p (pos t h N))[i]?=if i<p then t.place[i]? else if i=p then some (pos t h N) else t.place[i-1]?:=λi=>by rw[<-aL,qw5,wqt _ _ _ (by rw[bf];exact b1)];simp only[aL]
 have up:∀i j:Nat,t.place[i]?=some j->∃i':Nat,(SetTable.insertAt t.place p (pos t h N))[i']?=some j:=λi j e=>by
  by_cases c:i<p
  .exact⟨i,by rw[get,aw c];exact e⟩
  .exact⟨i+1,by rw[get,ar ⋯,ar ⋯,fL];exact e⟩
 refine⟨⟨?_,?_,T.pw,?_,?_,?_,T.led,T.plain⟩,b1'⟩
 .show(if SetTable.has t.dummies (pos t h N) then _ else t.dummies)=#[];rw[T.dm];simp[SetTable.has]
 .rw[hpl,<-bf,qw5];show(zw t.place.toList p (pos t h N)).length=_;rw[(uc t.place.toList p _).length_eq,(uc hs p h).length_eq];simp[T.pl]
 .rw[(uc hs p h).length_eq];exact hf
 .intro i j x y hij ex ey;rw[hpl,get]at ex ey;by_cases c1:i<p
  .rw[aw c1]at ex;have h1:=b2 i x c1 ex;by_cases c2:j<p
   .rw[aw c2]at ey;exact T.rise i j x y hij ex ey
   .rw[ar c2]at ey;by_cases c3:j=p
    .rw[aw c3]at ey;cases ey;exact h1
    .rw[ar c3]at ey;have:=b3 _ y ⋯ ey;lia
  .rw[ar c1]at ex;rw[ar ⋯,ar ⋯]at ey;by_cases c3:i=p
   .rw[aw c3]at ex;cases ex;have h2:=b3 _ y ⋯ ey;rcases bo (pos t h N) y with q|q
    .exact q
    .have:y=pos t h N:=by lia
     rw[this]at ey;exact absurd ey (noj _)
   .rw[ar c3]at ex;exact T.rise (i-1) (j-1) x y ⋯ ex ey
 .intro i h' eh;have pm:∀x n,pos (t.put (pos t h N)).1 x n=pos t x n:=λx n=>qxr (t:=(t.put (pos t h N)).1) (t':=t) rfl x n;unfold zw at eh;rw[wqt _ _ _ b1']at eh;have old:∀i0,hs[i0]?=some h'->(SetTable.insertAt t.place p (pos t h N))[i]?=t.place[i0]?->∃N1 j,N1<=10*((t.put (pos t h N)).1.mask+14)/\(t.put (pos t h N)).1.place[i]?=some j/\pos (t.put (pos t h N)).1 h' N1=j/\∀n,n<N1->∃i':Nat,(t.put (pos t h N)).1.place[i']?=some (pos (t.put (pos t h N)).1 h' n):=λi0 e0 e1=>by obtain⟨N1,j,r1,r2,r3,r4⟩:=T.reach i0 h' e0;refine⟨N1,j,r1,by rw[hpl,e1];exact r2,by rw[pm];exact r3,λn hn=>?_⟩;obtain⟨i',e'⟩:=r4 n hn;rw[pm,hpl];exact up i' _ e'
  by_cases c1:i<p
  .rw[aw c1]at eh;exact old i eh (by rw[get,aw c1])
  .rw[ar c1]at eh;by_cases c2:i=p
   .rw[aw c2]at eh;cases eh;refine⟨N,pos t h N,bM hN (by show _<=10*(t.mask+14);lia),by rw[hpl,get,ar c1,aw c2],pm _ _,λn hn=>?_⟩;obtain⟨i',e'⟩:=hl n hn;rw[pm,hpl];exact up i' _ (Jn e')
   .rw[ar c2]at eh;exact old (i-1) eh (by rw[get,ar c1,ar c2])
end
end L2
namespace L2
open PySem
theorem xqc (t:SetTable)(q:Nat×Nat):∀k r j,k<=r->zc t k { j:=j,more:=r,i:=q.1,perturb:=q.2,dummy:=none }={ j:=j+k,more:=r-k,i:=q.1,perturb:=q.2,dummy:=none }
 |0,r,j,_=>rfl
 |k+1,r,j,h=>by
  show zc t k (t.advance _)=_;have e:t.advance { j:=j,more:=r,i:=q.1,perturb:=q.2,dummy:=none }={ j:=j+1,more:=r-1,i:=q.1,perturb:=q.2,dummy:=none }:=by unfold SetTable.advance;rw[aw (by show r>0;lia)]
  rw[e,xqc t q k (r-1) (j+1) ⋯];congr 1 <;> lia
theorem xxw (t:SetTable)(q:Nat×Nat){k:Nat}(h:q.1+k<=SetTable.runEnd t.mask q.1):(zc t k (rs t.mask q)).j=q.1+k:=by unfold rs;rw[xqc t q k _ _ ⋯]
theorem wyt (mask i:Nat):i<=SetTable.runEnd mask i/\SetTable.runEnd mask i<=i+9/\(i<=mask->SetTable.runEnd mask i<=mask):=by unfold SetTable.runEnd;split <;> lia
theorem xvn (mask i p:Nat):(SetTable.leap mask i p).1<=mask:=by unfold SetTable.leap;exact du (fI _ (eF _))
theorem wzp {t:SetTable}{owner:Array (Option Nat)}:∀n fuel i p,n<fuel->i<=t.mask->owner.getD (lp t.mask n (i,p)).1 (some 0)=none ->
  ∃j N,SetTable.layClean.free t.mask owner fuel i p=some j/\owner.getD j (some 0)=none/\N<=10*n+9/\(zc t N (rs t.mask (i,p))).j=j/\∀k,k<N->(zc t k (rs t.mask (i,p))).j<=t.mask/\owner.getD (zc t k (rs t.mask (i,p))).j (some 0)≠none
 |n,0,i,p,hf,_,_=>absurd hf (gG _)
 |n,fuel+1,i,p,hf,hi,hn=>by
  obtain⟨r1,r2,r3⟩:=wyt t.mask i;have r3:=r3 hi;unfold SetTable.layClean.free;cases q:(List.range (SetTable.runEnd t.mask i+1-i)).find? λk=>(owner.getD (i+k) (some 0)).isNone with
  |some k =>
   have hk:=ay.mp (List.mem_of_find?_eq_some q);have hs:owner.getD (i+k) (some 0)=none:=by have:=List.find?_some q;exact Option.isNone_iff_eq_none.mp this
   refine⟨i+k,k,rfl,hs,⋯,xxw t (i,p) (by show i+k<=SetTable.runEnd t.mask i;lia),λk' hk'=>?_⟩;rw[xxw t (i,p) (by show i+k'<=SetTable.runEnd t.mask i;lia)];refine⟨by show i+k'<=_;lia,λz=>?_⟩;have fs:=List.find?_eq_some_iff_append.mp q;obtain⟨_,as,bs,e,hall⟩:=fs;have hl:as.length=k:=by
    have h1:(List.range (SetTable.runEnd t.mask i+1-i))[as.length]?=some k:=by rw[e];simp
    have h2:=(ak.mp h1).1;rw[bp (by simpa using h2)]at h1;exact aq h1
   have hm:k'∈as:=by have h1:(List.range (SetTable.runEnd t.mask i+1-i))[k']?=some k':=bp ⋯;rw[e,aP ⋯]at h1;exact aC h1
   have:=hall k' hm;rw[show(i,p).1+k'=i+k' from rfl]at z;rw[z]at this;exact absurd this (by simp)
  |none =>
   have all:=List.find?_eq_none.mp q;have occ:∀k,i+k<=SetTable.runEnd t.mask i->owner.getD (i+k) (some 0)≠none:=λk hk z=>by have:=all k (ay.mpr ⋯);rw[z]at this;exact this rfl
   cases n with
   |zero=>exact absurd hn (by have:=occ 0 ⋯;rw[Nat.add_zero]at this;exact this)
   |succ n =>
    obtain⟨j,N,a1,a2,a3,a4,a5⟩:=wzp (t:=t) (owner:=owner) n fuel (SetTable.leap t.mask i p).1 (SetTable.leap t.mask i p).2 ⋯ (xvn _ _ _) hn;have st:zc t (SetTable.runEnd t.mask i-i+1) (rs t.mask (i,p))=rs t.mask (SetTable.leap t.mask i p):=qxm t (i,p) _ _;refine⟨j,SetTable.runEnd t.mask i-i+1+N,a1,a2,⋯,by rw[Q9,st];exact a4,λk hk=>?_⟩;by_cases c:k<SetTable.runEnd t.mask i-i+1
    .rw[xxw t (i,p) (by show i+k<=SetTable.runEnd t.mask i;lia)];exact⟨by show i+k<=_;lia,occ k ⋯⟩
    .rw[show k=SetTable.runEnd t.mask i-i+1+(k-(SetTable.runEnd t.mask i-i+1)) by lia,Q9,st];exact a5 _ ⋯
structure Own (t:SetTable)(hs:List Int)(owner:Array (Option Nat))(k:Nat):Prop where
 size:owner.size=t.mask+1
 low:∀j v:Nat,owner[j]?=some (some v)->v<k
 sur:∀v,v<k->∃j:Nat,owner[j]?=some (some v)
 inj:∀j j' v:Nat,owner[j]?=some (some v)->owner[j']?=some (some v)->j=j'
 way:∀(j v:Nat) (h:Int),owner[j]?=some (some v)->hs[v]?=some h->∃N,N<=10*(t.mask+14)/\pos t h N=j/\∀n,n<N->∃v',owner[pos t h n]?=some (some v')
section
variable {t:SetTable}{hs:List Int}{owner:Array (Option Nat)}{k:Nat}
theorem got {j:Nat}(h:owner.getD j (some 0)=none):owner[j]?=some none:=by
 rw[bX]at h;cases q:owner[j]? with
 |none=>rw[q]at h;cases h
 |some v=>rw[q]at h;exact cr some h
theorem taken {j:Nat}(h:owner.getD j (some 0)≠none)(hj:j<owner.size):∃v,owner[j]?=some (some v):=by
 rw[bX,bE hj]at h;rw[bE hj];cases q:owner[j] with
 |none=>rw[q]at h;exact absurd rfl h
 |some v=>exact⟨v,rfl⟩
theorem Own.free (o:Own t hs owner k)(hk:k<=t.mask):∃j,j<=t.mask/\owner.getD j (some 0)=none:=by
 apply hX;intro c;have all:∀j,j<t.mask+1->∃v,v<k/\owner[j]?=some (some v):=λj hj=>by obtain⟨v,e⟩:=taken (owner:=owner) (j:=j) (λz=>c ⟨j,⋯,z⟩) (by rw[o.size];exact hj);exact⟨v,o.low j v e,e⟩
 have:=qzk ((List.range (t.mask+1)).map λj=>((owner.getD j none).getD 0)) (List.range k) ?_ ?_
 .rw[ag,aG,aG]at this;lia
 .refine cK.mpr (cP (λ{a b} ha hb hab=>?_) iA);obtain⟨v,_,e⟩:=all a (ay.mp ha);obtain⟨v',_,e'⟩:=all b (ay.mp hb);rw[bX,bX,e,e'];intro z;have z':v=v':=z;subst z';exact hab (o.inj a b v e e')
 .intro x hx;obtain⟨j,hj,rfl⟩:=aJ.mp hx;obtain⟨v,hv,e⟩:=all j (ay.mp hj);rw[bX,e];exact ay.mpr hv
theorem Own.new (t:SetTable)(hs:List Int):Own t hs (Array.replicate (t.mask+1) none) 0:=by
 have no:∀j v:Nat,(Array.replicate (t.mask+1) (none:Option Nat))[j]?=some (some v)->False:=λj v e=>by rw[Array.getElem?_replicate]at e;split at e <;> cases e
 exact⟨Array.size_replicate,λj v e=>(no j v e).elim,λv hv=>absurd hv (gG _),λj j' v e=>(no j v e).elim,λj v h e=>(no j v e).elim⟩
theorem Own.set {h:Int}{j N:Nat}(o:Own t hs owner k)(hh:hs[k]?=some h)(hj:owner.getD j (some 0)=none)(hN:N<=10*(t.mask+14))(hp:pos t h N=j)(hw:∀n,n<N->pos t h n<=t.mask/\owner.getD (pos t h n) (some 0)≠none):Own t hs (owner.setIfInBounds j (some k)) (k+1):=by
 have ej:=got hj;have hjs:=(cA.mp ej).1;have at':∀i:Nat,(owner.setIfInBounds j (some k))[i]?=if i=j then some (some k) else owner[i]?:=λi=>by
  by_cases c:i=j
  .rw[aw c,c,Array.getElem?_setIfInBounds_self_of_lt hjs]
  .rw[ar c,Array.getElem?_setIfInBounds_ne (λz=>c z.symm)]
 have up:∀i v:Nat,owner[i]?=some (some v)->(owner.setIfInBounds j (some k))[i]?=some (some v):=λi v e=>by rw[at',ar (λz=>by rw[z,ej]at e;cases e)];exact e
 refine⟨by rw[ir];exact o.size,λi v e=>?_,λv hv=>?_,λi i' v e e'=>?_,λi v h' e eh=>?_⟩
 .rw[at']at e;by_cases c:i=j
  .rw[aw c]at e;cases e;lia
  .rw[ar c]at e;have:=o.low i v e;lia
 .by_cases c:v=k
  .exact⟨j,by rw[at',aw rfl,c]⟩
  .obtain⟨i,e⟩:=o.sur v ⋯;exact⟨i,up i v e⟩
 .rw[at']at e e';by_cases c:i=j
  .by_cases c':i'=j
   .rw[c,c']
   .rw[aw c]at e;rw[ar c']at e';cases e;have:=o.low i' k e';lia
  .rw[ar c]at e;by_cases c':i'=j
   .rw[aw c']at e';cases e';have:=o.low i k e;lia
   .rw[ar c']at e';exact o.inj i i' v e e'
 .rw[at']at e;by_cases c:i=j
  .rw[aw c]at e;cases e;rw[hh]at eh;cases eh;refine⟨N,hN,by rw[hp,c],λn hn=>?_⟩;obtain⟨h1,h2⟩:=hw n hn;obtain⟨v',e'⟩:=taken h2 (by rw[o.size];lia);exact⟨v',up _ _ e'⟩
  .rw[ar c]at e;obtain⟨N1,a1,a2,a3⟩:=o.way i v h' e eh;refine⟨N1,a1,a2,λn hn=>?_⟩;obtain⟨v',e'⟩:=a3 n hn;exact⟨v',up _ _ e'⟩
theorem Own.fold {e:Nat}(hM:t.mask+1=2 ^ e):∀(l:List Int) (owner:Array (Option Nat)) (k:Nat),Own t hs owner k->hs.drop k=l->hs.length<=t.mask->∃owner',l.foldl (λacc h=>do
   let (owner,k) <-acc
   let j <-SetTable.layClean.free t.mask owner (SetTable.turns t.mask) (SetTable.bits h%(t.mask+1)) (SetTable.bits h)
   pure (owner.setIfInBounds j (some k),k+1)) (some (owner,k))=some (owner',k+l.length)/\Own t hs owner' (k+l.length)
 |[],owner,k,o,_,_=>⟨owner,rfl,o⟩
 |h::l,owner,k,o,hd,hz=>by
  have hk:hs[k]?=some h:=by
   have:(hs.drop k)[0]?=some h:=by rw[hd];rfl
   rw[di]at this;exact this
  have hkl:=(ak.mp hk).1;have hd':hs.drop (k+1)=l:=by rw[dS hkl]at hd;exact(iu hd).2
  obtain⟨j0,hj0,en⟩:=o.free ⋯;obtain⟨n,hn,e1⟩:=qu0 hM (q:=(SetTable.bits h%(t.mask+1),SetTable.bits h)) (du (fI _ (eF _))) (wvd h) hj0;obtain⟨j,N,e2,e3,e4,e5,e6⟩:=wzp (t:=t) (owner:=owner) n (SetTable.turns t.mask) (SetTable.bits h%(t.mask+1)) (SetTable.bits h) (by unfold SetTable.turns;lia) (du (fI _ (eF _))) (by rw[e1];exact en);obtain⟨owner',f1,f2⟩:=Own.fold hM l (owner.setIfInBounds j (some k)) (k+1) (o.set hk e3 ⋯ e5 e6) hd' hz;refine⟨owner',?_,by rw[aQ,show k+(l.length+1)=k+1+l.length by lia];exact f2⟩;rw[List.foldl_cons,aQ,show k+(l.length+1)=k+1+l.length by lia,<-f1];congr 1;simp[e2]
theorem qzv:∀ {l m:List Nat},l.Nodup->m.Nodup->(∀a,a∈l↔a∈m)->l.Perm m
 |[],m,_,_,h=>by
  cases m with
  |nil=>exact .refl _
  |cons a m=>exact absurd ((h a).mpr (.head _)) (by simp)
 |a::l,m,hl,hm,h=>by
  have ha:a∈m:=(h a).mp (.head _);have hl':=dA.mp hl;refine(List.Perm.cons a (qzv hl'.2 (hm.erase a) λb=>?_)).trans (List.perm_cons_erase ha).symm;rw[hm.mem_erase_iff];constructor
  .intro hb;exact⟨λz=>by subst z;exact hl'.1 hb,(h b).mp (.tail _ hb)⟩
  .rintro⟨h1,h2⟩;rcases aM.mp ((h b).mpr h2) with z|z
   .exact absurd z h1
   .exact z
end
theorem qqd:∀n,n<1100->∃e,3<=e/\e<=13/\SetTable.sizeAbove (4*n)=2 ^ e/\4*n<SetTable.sizeAbove (4*n):=by
 have:∀n,n<1100->(List.range 14).any (λe=>decide (3<=e)&&(SetTable.sizeAbove (4*n)==2 ^ e)&&decide (4*n<SetTable.sizeAbove (4*n)))=true:=by decide +kernel
 intro n hn;obtain⟨e,he,h⟩:=eX.mp (this n hn);simp only[cH,decide_eq_true_eq,fG]at h;exact⟨e,h.1.1,by have:=ay.mp he;lia,h.1.2,h.2⟩
theorem Tab.relay {bt:Bool}{t:SetTable}{hs:List Int}(T:Tab bt t hs)(hn:hs.length<1100):∃t2 order,t.relaid hs.toArray (4*hs.length)=some (t2,order)/\order.toList.Perm (List.range hs.length)/\Tab bt t2 (order.toList.map λi=>hs.getD i 0)/\hs.length*4<=t2.mask:=by
 obtain⟨e,e1,e2,e3,e4⟩:=qqd hs.length hn;have pos1:1<=(2:Nat) ^ e:=iN e;obtain⟨owner,f1,o⟩:=Own.fold (t:={ t with mask:=SetTable.sizeAbove (4*hs.length)-1 }) (hs:=hs) (e:=e) (by show SetTable.sizeAbove (4*hs.length)-1+1=_;lia) hs _ 0 (Own.new _ hs) rfl (by show hs.length<=SetTable.sizeAbove (4*hs.length)-1;lia);rw[cx]at f1 o;have lc:SetTable.layClean (SetTable.sizeAbove (4*hs.length)-1) hs.toArray=some owner:=by unfold SetTable.layClean;rw[<-Array.foldl_toList];rw[show hs.toArray.toList=hs from rfl];rw[f1];rfl
 generalize hmask:SetTable.sizeAbove (4*hs.length)-1=mask at lc o f1;have hmk:mask+1=2 ^ e:=by lia
 have hm4:hs.length*4<=mask:=by lia
 let live:List (Nat×Nat):=(List.range (mask+1)).filterMap λj=>(owner.getD j none).map (j,·);have mem:∀j v,(j,v)∈live↔owner[j]?=some (some v):=λj v=>by
  show(j,v)∈(List.range (mask+1)).filterMap _↔_;rw[fF];constructor
  .rintro⟨j',_,e'⟩;cases q:owner.getD j' none with
   |none=>rw[q]at e';cases e'
   |some v' =>
    rw[q]at e';cases e';rw[bX]at q;cases q2:owner[j]? with
    |none=>rw[q2]at q;cases q
    |some y=>rw[q2]at q;exact cr some q
  .intro e';have hj:=(cA.mp e').1;rw[o.size]at hj;exact⟨j,ay.mpr hj,by rw[bX,e'];rfl⟩
 have pw:live.Pairwise λa b=>a.1<b.1:=by
  refine List.pairwise_filterMap.mpr (List.pairwise_lt_range.imp λ{a b} hab x hx y hy=>?_);have hx1:x.1=a:=by
   cases q:owner.getD a none with
   |none=>rw[q]at hx;cases hx
   |some v=>rw[q]at hx;cases hx;rfl
  have hy1:y.1=b:=by
   cases q:owner.getD b none with
   |none=>rw[q]at hy;cases hy
   |some v=>rw[q]at hy;cases hy;rfl
  rw[hx1,hy1];exact hab
 have perm:(live.map (·.2)).Perm (List.range hs.length):=by
  refine qzv (cK.mpr (cP (λ{a b} ha hb hab z=>?_) pw)) iA λv=>?_
  .have:=o.inj a.1 b.1 a.2 ((mem _ _).mp ha) (by rw[z];exact(mem _ _).mp hb);lia
  .rw[ay,aJ];constructor
   .rintro⟨a,ha,rfl⟩;exact o.low _ _ ((mem _ _).mp ha)
   .intro hv;obtain⟨j,ej⟩:=o.sur v hv;exact⟨(j,v),(mem _ _).mpr ej,rfl⟩
 have len:live.length=hs.length:=by have:=perm.length_eq;rwa [ag,aG]at this
 refine⟨{ mask:=mask,place:=(live.map (·.1)).toArray,dummies:=#[],finger:=t.finger,led:=t.led,moves:=t.movedTo mask,plain:=t.plain },(live.map (·.2)).toArray,?_,perm,?_,hm4⟩
 .unfold SetTable.relaid SetTable.laid;rw[hmask,lc];rfl
 .refine⟨rfl,?_,⟨e,hmk,e1,e2⟩,?_,?_,?_,T.led,T.plain⟩
  .show(live.map (·.1)).toArray.size=((live.map (·.2)).toArray.toList.map _).length;simp
  .show((live.map (·.2)).toArray.toList.map _).length<=mask;rw[ag,show(live.map (·.2)).toArray.toList=live.map (·.2) from rfl,ag,len];lia
  .intro i j x y hij ex ey;have ex':(live.map (·.1))[i]?=some x:=by simpa using ex
   have ey':(live.map (·.1))[j]?=some y:=by simpa using ey
   obtain⟨hi,rfl⟩:=ak.mp ex';obtain⟨hj,rfl⟩:=ak.mp ey';rw[gm,gm];exact br.mp pw i j _ _ hij
  .intro i h eh;have eh':((live.map (·.2)).map λi=>hs.getD i 0)[i]?=some h:=eh;rw[aA,aA]at eh';cases q:live[i]? with
   |none=>rw[q]at eh';cases eh'
   |some jv =>
    rw[q]at eh';obtain⟨j,v⟩:=jv;have ov:=(mem j v).mp (aC q);have hv:=o.low j v ov;have ehv:hs[v]?=some h:=by have:hs.getD v 0=h:=aq eh';rw[af,aa hv]at this;rw[aa hv];exact cr some this
    obtain⟨N,a1,a2,a3⟩:=o.way j v h ov ehv;refine⟨N,j,a1,?_,?_,λn hn=>?_⟩
    .show(live.map (·.1)).toArray[i]?=some j;simp[q]
    .have pm:pos { mask:=mask,place:=(live.map (·.1)).toArray,dummies:=#[],finger:=t.finger,led:=t.led,moves:=t.movedTo mask,plain:=t.plain } h N=pos { t with mask:=mask } h N:=qxr (by rfl) h N;exact pm.trans a2
    .obtain⟨v',e'⟩:=a3 n hn;obtain⟨i',hi'⟩:=bS ((mem _ _).mpr e');refine⟨i',?_⟩;show(live.map (·.1)).toArray[i']?=_;have pm:pos { mask:=mask,place:=(live.map (·.1)).toArray,dummies:=#[],finger:=t.finger,led:=t.led,moves:=t.movedTo mask,plain:=t.plain } h n=pos { t with mask:=mask } h n:=qxr (by rfl) h n;have e9:(live.map (·.1)).toArray[i']?=some (pos { t with mask:=mask } h n):=by simp[hi']
     rw[e9,<-pm]
end L2
namespace L2
open PySem PySem.Spec PySem.Calls PySem.W PyProof.Rows
def byT (w:Ah):Bool:=w.params.followText "set-order"
def SAt (w:Ah)(hp:Heap)(S:Aj)(ps:List (Int×Ag)):Prop:=∃o ep t,hp.get? S=some o/\o.ExactSet/\o.data=.set ps.toArray ep t/\Tab (byT w) t (ps.map (·.1))/\ps.length*5<t.mask*3
section
variable {prog:Ac}{w:Ah}{A:Ae}{E:Ag->Ab->Prop}{s:Ab}{S a:Aj}{ps:List (Int×Ag)}{ep:Nat}{t:SetTable}{o:Obj}{k:List Key}{h:Int}
theorem SAt.typeIs (P:SAt w s.heap S ps):s.TypeIs (.ref S) "set" := let ⟨o,_,_,ho,hc,_⟩:=P;⟨o,ho,hc.1⟩
theorem SAt.at_ {hp h':Heap}(P:SAt w hp S ps)(k1:∀o,hp.get? S=some o->h'.get? S=some o):SAt w h' S ps:=let ⟨o,ep,t,ho,r⟩:=P;⟨o,ep,t,k1 o ho,r⟩
theorem Tab.fits' {bt:Bool}(T:Tab bt t (ps.map (·.1))):t.fits ps.toArray.size=true:=by have:=T.fits;simpa using this
theorem wvh (l:List (Int×Ag))(p:Nat)(x:Int×Ag):(zw l p x).map (·.1)=zw (l.map (·.1)) p x.1:=by unfold zw;simp
theorem wz5 (l:List (Int×Ag))(p:Nat)(x:Int×Ag):SetTable.insertAt l.toArray p x=(zw l p x).toArray:=by apply ee.mp;rw[qw5];rfl
theorem Zu (l:List (Int×Ag)):∀(il:List Nat),(∀i∈il,i<l.length)->il.filterMap (λi=>l.toArray[i]?)=il.map λi=>l.getD i (0,.none)
 |[],_=>rfl
 |i::il,hi=>by
  have h1:=hi i (.head _);have e:l.toArray[i]?=some (l.getD i (0,.none)):=by simp[h1]
  rw[d7,e,Zu l il λj hj=>hi j (.tail _ hj)];rfl
theorem lay_in {Q:Bool->Ab->Prop}{N:Nat}{x:Ag}(ho:s.heap.get? S=some o)(hex:o.ExactSet)(hd:o.data=.set ps.toArray ep t)(T:Tab (byT w) t (ps.map (·.1)))(few:ps.length*5<t.mask*3)(hn:ps.length<1099)
  (hN:N<=10*(t.mask+13)) (he:t.slot (pos t h N)=.empty) (hl:∀n,n<N->∃i:Nat,t.slot (pos t h n)=.live i)
  (hQ:∀h' ps',Heap.SameBut S s.heap h'->SAt w h' S ps'->ps'.Perm ((h,x)::ps)->Q true { s with heap:=h' }) :
  wpAny (model prog w) A (do
   storeSet S (SetTable.insertAt ps.toArray (t.put (pos t h N)).2 (h,x)) (t.put (pos t h N)).1
   if(!false&&(t.put (pos t h N)).1.tooFull)=true then do
    setRelay S (SetTable.grown (ps.toArray.size+1))
    pure true
   else pure true) Q E s:=by
 have big:100000<=sizeLine:=by decide
 have lm:ps.length=(ps.map (·.1)).length:=by simp
 have bm:=T.big;obtain⟨T1,hp1⟩:=T.put hN he hl (by rw[<-lm];lia);have hm:(t.put (pos t h N)).1.mask=t.mask:=rfl;generalize (t.put (pos t h N)).2=p at T1 hp1 ⊢;generalize ht1:(t.put (pos t h N)).1=t1 at T1 hm ⊢;rw[wz5];have pm:=uc ps p (h,x);have pl:=pm.length_eq;rw[aQ]at pl;rw[<-wvh ps p (h,x)]at T1;refine ae (gh ho hd ?_ (by rw[av];lia));have g1:(s.heap.update S (Obj.putSet (zw ps p (h,x)).toArray t1)).get? S=some { o with data:=.set (zw ps p (h,x)).toArray (ep+1) t1 }:=qjy ho hd;have sb1:Heap.SameBut S s.heap (s.heap.update S (Obj.putSet (zw ps p (h,x)).toArray t1)):=c0 _ _ _;have fl:t1.fill=ps.length+1:=by unfold SetTable.fill;rw[T1.dm,T1.pl,ag,pl];rfl
 generalize s.heap.update S (Obj.putSet (zw ps p (h,x)).toArray t1)=h1 at g1 sb1 ⊢;show wpAny (model prog w) A _ Q E { s with heap:=h1 };by_cases tf:t1.tooFull=true
 .rw[tf];simp only[gZ,i9,db];refine ae ?_;have gr:SetTable.grown (ps.toArray.size+1)=4*((zw ps p (h,x)).map (·.1)).length:=by unfold SetTable.grown;rw[ar (by rw[av];lia),ag,pl,av];lia
  obtain⟨t2,order,f1,f2,T2,f4⟩:=T1.relay (by rw[ag,pl];lia);rw[gr];unfold setRelay;refine ae (bK (s:={ s with heap:=h1 }) g1 rfl T1.fits' ?_);dsimp only;have hsz:(zw ps p (h,x)).toArray.map (·.1)=((zw ps p (h,x)).map (·.1)).toArray:=by simp
  have sl:¬ SetTable.sizeAbove (4*((zw ps p (h,x)).map (·.1)).length)>sizeLine:=by
   obtain⟨e,e1,e2,e3,e4⟩:=qqd ((zw ps p (h,x)).map (·.1)).length (by rw[ag,pl];lia);have b:(2:Nat) ^ e<=2 ^ 13:=dr ⋯ e2;have c:(2:Nat) ^ 13=8192:=by decide
   lia
  rw[ar sl,hsz,f1];have hin:∀i∈order.toList,i<(zw ps p (h,x)).length:=λi hi=>by have:=ay.mp (f2.mem_iff.mp hi);rwa [ag]at this
  have oe:order.filterMap (λi=>(zw ps p (h,x)).toArray[i]?)=(order.toList.map λi=>(zw ps p (h,x)).getD i (0,.none)).toArray:=by apply ee.mp;rw[Array.toList_filterMap,Zu _ _ hin]
  have ol:(order.toList.map λi=>(zw ps p (h,x)).getD i (0,.none)).length=(zw ps p (h,x)).length:=by rw[ag,f2.length_eq,aG,ag]
  have op:(order.toList.map λi=>(zw ps p (h,x)).getD i (0,.none)).Perm (zw ps p (h,x)):=by
   refine(f2.map _).trans ?_;rw[ag];have:(List.range (zw ps p (h,x)).length).map (λi=>(zw ps p (h,x)).getD i (0,.none))=zw ps p (h,x):=by
    refine bT λi=>?_;rw[aA];by_cases c:i<(zw ps p (h,x)).length
    .rw[bp c];simp[af,c]
    .rw[aR (by simp;lia),aR ⋯];rfl
   rw[this]
  have om:(order.toList.map λi=>(zw ps p (h,x)).getD i (0,.none)).map (·.1)=order.toList.map λi=>((zw ps p (h,x)).map (·.1)).getD i 0:=by rw[ba];refine da λi hi=>?_;have:=hin i hi;simp[af,this]
  rw[<-om]at T2;refine ae ?_;show wpAny (model prog w) A (do
   if(order.filterMap (λi=>(zw ps p (h,x)).toArray[i]?)).size != (zw ps p (h,x)).toArray.size then unsupported "internal:set-table-lost-an-element"
   pure (order.filterMap (λi=>(zw ps p (h,x)).toArray[i]?),t2)) _ E _
  rw[oe];have ob:((order.toList.map λi=>(zw ps p (h,x)).getD i (0,.none)).toArray.size != (zw ps p (h,x)).toArray.size)=false:=by rw[av,av,ol];simp
  rw[ob];simp only[aI,bN];refine aj ?_;dsimp only;generalize (order.toList.map λi=>(zw ps p (h,x)).getD i (0,.none))=ps2 at T2 op ol;refine gh (s:={ s with heap:=h1 }) g1 rfl ?_ (by rw[av,ol];lia);refine aj ?_;have sb2:Heap.SameBut S h1 (h1.update S (Obj.putSet ps2.toArray t2)):=c0 _ _ _;have g2:(h1.update S (Obj.putSet ps2.toArray t2)).get? S=some { o with data:=.set ps2.toArray (ep+1+1) t2 }:=qjy g1 rfl;refine hQ _ ps2 (sb1.trans sb2) ⟨_,_,t2,g2,hex,rfl,T2,?_⟩ (op.trans pm);rw[ag]at f4;lia
 .rw[iE]at tf;rw[tf];simp only[fX,aI,bN];refine aj (hQ h1 _ sb1 ⟨_,_,t1,g1,hex,rfl,T1,?_⟩ pm);unfold SetTable.tooFull at tf;have:=of_decide_eq_false tf;rw[fl]at this;lia
def KP (prog:Ac)(w:Ah)(hp:Heap)(ps:List (Int×Ag))(ks:List (List Key)):Prop:=Paired (λp k=>∃b,p=((KD prog w).hash k,.ref b)/\(KD prog w).is hp k b) ps ks
theorem KP.get {hp:Heap}{ks:List (List Key)}(K:KP prog w hp ps ks){i:Nat}{p:Int×Ag}(e:ps[i]?=some p):∃k' b,ks[i]?=some k'/\p=((KD prog w).hash k',.ref b)/\(KD prog w).is hp k' b:=by
 unfold KP at K
 induction K generalizing i with
 |nil=>simp at e
 |cons r t ih =>
  cases i with
  |zero =>
   obtain⟨b,e1,e2⟩:=r;simp at e;subst e;exact⟨_,b,rfl,e1,e2⟩
  |succ i=>exact ih (by simpa using e)
theorem KP.len {hp:Heap}{ks:List (List Key)}(K:KP prog w hp ps ks):ps.length=ks.length:=dG K
inductive MetP (t:SetTable) (ha:Nat->Int) (h:Int) (p:SetTable.Probe) (N:Nat):SetTable.Met->Prop
 |empty (hs:t.slot (zc t N p).j=.empty):MetP t ha h p N (.empty (zc t N p).j none)
 |cand (m i:Nat) (hm:m<=N) (hs:t.slot (zc t m p).j=.live i) (hh:ha i=h):MetP t ha h p N (.candidate (zc t m p).j i (zc t (m+1) p))
theorem J1 {ha:Nat->Int}:∀N fuel p,N<fuel->p.dummy=none->(∀n,n<N->∃i:Nat,t.slot (zc t n p).j=.live i)->(t.slot (zc t N p).j=.empty\/∃i:Nat,t.slot (zc t N p).j=.live i/\ha i=h)->∃m,SetTable.probe.go t ha h fuel p=some m/\MetP t ha h p N m
 |N,0,p,hf,_,_,_=>absurd hf (gG _)
 |0,fuel+1,p,_,hp,_,hs=>by
  unfold SetTable.probe.go;rcases hs with hs|⟨i,hs,hh⟩
  .have hs':t.slot p.j=.empty:=hs;rw[hs',hp];exact⟨_,rfl,.empty (p:=p) hs⟩
  .have hs':t.slot p.j=.live i:=hs;rw[hs'];dsimp only;rw[aw (fG.mpr hh)];exact⟨_,rfl,.cand (p:=p) 0 i (al _) hs hh⟩
 |N+1,fuel+1,p,hf,hp,hl,hs=>by
  unfold SetTable.probe.go;obtain⟨i,c⟩:=hl 0 (eF _);have c':t.slot p.j=.live i:=c;rw[c'];dsimp only;by_cases q:(ha i==h)=true
  .rw[aw q];exact⟨_,rfl,.cand (t:=t) (p:=p) 0 i (aT _) c (fG.mp q)⟩
  .rw[ar q];obtain⟨m,e,ok⟩:=J1 (ha:=ha) N fuel (t.advance p) ⋯ ((qvt t p).trans hp) (λn hn=>hl (n+1) ⋯) hs;refine⟨m,e,?_⟩;cases ok with
   |empty hs=>exact .empty (p:=p) hs
   |cand m i hm hs hh=>exact .cand (t:=t) (p:=p) (m+1) i ⋯ hs hh
theorem qy7 {ks:List (List Key)}(ho:s.heap.get? S=some o)(hd:o.data=.set ps.toArray ep t)(T:Tab (byT w) t (ps.map (·.1)))(K:KP prog w s.heap ps ks)(hx:(KD prog w).is s.heap k a)(hu:A.units<cLine){Q:SetFound->Ab->Prop}
  (hQ1:k∈ks->Q (.there none) s):∀(N fuel:Nat) (stand:Option SetTable.Probe),N<fuel->N<10*SetTable.turns t.mask->(stand.getD (t.probeStart ((KD prog w).hash k))).dummy=none ->
   (∀n,n<N->∃i:Nat,t.slot (zc t n (stand.getD (t.probeStart ((KD prog w).hash k)))).j=.live i) ->
   (t.slot (zc t N (stand.getD (t.probeStart ((KD prog w).hash k)))).j=.empty\/∃i:Nat,t.slot (zc t N (stand.getD (t.probeStart ((KD prog w).hash k)))).j=.live i/\ks[i]?=some k) ->
   (t.slot (zc t N (stand.getD (t.probeStart ((KD prog w).hash k)))).j=.empty->Q (.free (zc t N (stand.getD (t.probeStart ((KD prog w).hash k)))).j false) s) ->
   wpAny (model prog w) A (setSearchFrom S (.ref a) ((KD prog w).hash k) true fuel stand) Q E s:=by
 intro N
 induction N using Nat.strongRecOn with
 |_ N ih =>
  intro fuel stand hf hT hp hl hs hQ2;obtain⟨fuel,rfl⟩:∃f,fuel=f+1:=⟨fuel-1,⋯⟩;unfold setSearchFrom;refine ae (bK ho hd T.fits' ?_);dsimp only;have gw:t.gaveWay=false:=by unfold SetTable.gaveWay;obtain⟨e,h1,h2,_⟩:=T.pw;obtain⟨e',rfl⟩:∃e',e=e'+1:=⟨e-1,⋯⟩;rw[dk]at h1;simp only[cJ];lia
  rw[gw];simp only[aI,bN];have hashAt:∀(i:Nat) (k':List Key),ks[i]?=some k'->∀(p:Int×Ag),ps[i]?=some p->p.1=(KD prog w).hash k':=λi k' ek p e=>by obtain⟨k2,b,e1,e2,_⟩:=K.get e;rw[ek]at e1;cases e1;rw[e2]
  have inP:∀ {j i:Nat},t.slot j=.live i->i<ps.length:=λ{j i} e=>by have:=(cA.mp (Jn e)).1;rw[T.pl,ag]at this;exact this
  have key:∀ha:Nat->Int,(∀(i:Nat) (p:Int×Ag),ps[i]?=some p->ha i=p.1)->∃m,t.probe ha ((KD prog w).hash k) (stand.getD (t.probeStart ((KD prog w).hash k)))=some m/\MetP t ha ((KD prog w).hash k) (stand.getD (t.probeStart ((KD prog w).hash k))) N m:=λha hha=>by
   refine J1 N _ _ hT hp hl ?_;rcases hs with hs|⟨i,hs,ek⟩
   .exact .inl hs
   .have hi:=inP hs;have e:=aa hi;exact .inr ⟨i,hs,(hha i _ e).trans (hashAt i k ek _ e)⟩
  split
  .rename_i met hm;obtain⟨m',e1,ok⟩:=key _ (λi p e=>by
    show(ps.toArray[i]?.map (·.1)).getD 0=p.1
    have:ps.toArray[i]?=some p:=by simpa using e
    rw[this]
    rfl)
   obtain rfl:m'=met:=aq (e1.symm.trans hm);cases ok with
   |empty hs'=>exact aj (hQ2 hs')
   |cand m i hm' hsl hh =>
    have hi:=inP hsl;obtain⟨k',b,ek,eb,hb⟩:=K.get (aa hi);have ei:ps.toArray[i]?=some ((KD prog w).hash k',.ref b):=by rw[<-eb];simp[hi]
    have rest:wpAny (model prog w) A (do
      let some (_,y):=ps.toArray[i]? | unsupported "internal:set-entry"
      let equal <-holding [y] (eqBool y (.ref a))
      let (es',_,t') <-setState S
      if true&&equal then return .there none
      let some sm0:=t'.sameMemory t.moves t.mask | unsupported "set.changed-during-lookup:is-the-new-block-at-the-old-address"
      let still <-match (if sm0 then t'.slot (zc t m (stand.getD (t.probeStart ((KD prog w).hash k)))).j else .empty) with
       |.live i'=>match es'[i']? with
        |some (_,y')=>do pure (if <-isSame y' y then some i' else none)
        |none=>pure none
       |_=>pure none
      match still with
      |none=>rule "set.search.anew";setSearchFrom S (.ref a) ((KD prog w).hash k) true fuel none
      |some i'=>if equal then return .there (some i') else setSearchFrom S (.ref a) ((KD prog w).hash k) true fuel (some (zc t (m+1) (stand.getD (t.probeStart ((KD prog w).hash k)))))) Q E s:=by
     rw[ei];dsimp only;refine ae (cG ((KD prog w).eqBool hu hb hx ?_));refine ae (bK ho hd T.fits' ?_);by_cases ce:k'=k
     .rw[aS ce];simp only[i9,db];exact aj (hQ1 (by rw[<-ce];exact aC ek))
     .rw[bb ce];have sm:t.sameMemory t.moves t.mask=some true:=by simp[SetTable.sameMemory]
      simp only[fX,aI,bN,sm,db,hsl,ei];refine ae ?_;refine wu0 ?_;simp only[db];refine ae (aj ?_);have mN:m<N:=by
       rcases bo m N with z|z
       .exact z
       .obtain rfl:m=N:=by lia
        rcases hs with hs|⟨i0,hs,ek0⟩
        .rw[hs]at hsl;cases hsl
        .rw[hs]at hsl;cases hsl;rw[ek0]at ek;cases ek;exact absurd rfl ce
      have sh:∀n,zc t n (zc t (m+1) (stand.getD (t.probeStart ((KD prog w).hash k))))=zc t (m+1+n) (stand.getD (t.probeStart ((KD prog w).hash k))):=λn=>(Q9 t n (m+1) _).symm;refine ih (N-(m+1)) ⋯ fuel (some (zc t (m+1) (stand.getD (t.probeStart ((KD prog w).hash k))))) ⋯ ⋯ ?_ (λn hn=>?_) ?_ ?_
      .show(zc t (m+1) _).dummy=none;rw[qwf];exact hp
      .show ∃i:Nat,t.slot (zc t n (zc t (m+1) _)).j=.live i;rw[sh];exact hl _ ⋯
      .show t.slot (zc t (N-(m+1)) (zc t (m+1) _)).j=.empty\/∃i:Nat,t.slot (zc t (N-(m+1)) (zc t (m+1) _)).j=.live i/\_;rw[sh,show m+1+(N-(m+1))=N by lia];exact hs
      .show t.slot (zc t (N-(m+1)) (zc t (m+1) _)).j=.empty->Q (.free (zc t (N-(m+1)) (zc t (m+1) _)).j false) s;rw[sh,show m+1+(N-(m+1))=N by lia];exact hQ2
    dsimp only;cases t.led with
    |true=>exact rest
    |false =>
     simp only[gZ,db];refine ae (xvd hx ?_ _ λy hy=>?_)
     .simp only[aI,bN];exact rest
     .obtain⟨p,hp',rfl⟩:=aJ.mp hy;have hp2:p∈ps:=by have:=gC.mp hp';simpa using Array.mem_of_mem_filter this
      obtain⟨i2,e2⟩:=bS hp2;obtain⟨k2,b2,_,e3,h2⟩:=K.get e2;exact⟨k2,b2,by rw[e3],h2⟩
  .rename_i hm;obtain⟨m',e1,_⟩:=key _ (λi p e=>by
    show(ps.toArray[i]?.map (·.1)).getD 0=p.1
    have:ps.toArray[i]?=some p:=by simpa using e
    rw[this]
    rfl)
   exact(hm _ e1).elim
theorem wyy {Q:Bool->Ab->Prop}{n:Nat}{items:List Ag}{m:Nat}(hx:(KD prog w).is s.heap k a)(ho:s.heap.get? a=some o)(hd:o.data=.seq items.toArray m)(hi:∀v∈items,∃i t,v=Value.int i t)(hQ:Q true s):wpAny (model prog w) A (hashByValue (n+1) (.ref a)) Q E s:=by
 have hT:s.TypeIs (.ref a) "tuple" := IsTupleKey.typeIs hx;unfold hashByValue;refine ae (wpAny_specialOf hT PySem.F.slot_tuple_hash.lookup ?_);dsimp only;refine ae (gY ho hd ?_);refine ae ?_;show wpAny _ _ (forIn items.toArray _ _) _ _ s;rw[<-fJ];refine iC _ (λrest r s'=>r.1=none/\s'=s/\∀v∈rest,∃i t,v=Value.int i t) _ ?_ ?_ _ _ ⟨rfl,rfl,by simpa using hi⟩
 .rintro v rest r s' ⟨hr,rfl,hall⟩;obtain⟨i,t,rfl⟩:=hall v dI;have eb:hashByValue n (.int i t)=pure true:=by cases n <;> rfl
  rw[eb];refine ae (aj ?_);exact aj ⟨rfl,rfl,λu hu=>hall u (bI _ hu)⟩
 .rintro⟨r1,r2⟩ s' ⟨hr,rfl,_⟩;simp only at hr;subst hr;exact aj hQ
theorem wuv {ks:List (List Key)}{items:List Ag}{m:Nat}{oa:Obj}{Q:Bool->Ab->Prop}(P:SAt w s.heap S ps)(K:KP prog w s.heap ps ks)(hx:(KD prog w).is s.heap k a)(hoa:s.heap.get? a=some oa)(hda:oa.data=.seq items.toArray m)(hi:∀v∈items,∃i t,v=Value.int i t)
  (hu:A.units<cLine) (hn:ps.length<1099) (hQ1:k∈ks->∀tk,Q false { s with toks:=tk }) (hQ2:k∉ks->∀h' tk ps',Heap.SameBut S s.heap h'->SAt w h' S ps'->ps'.Perm (((KD prog w).hash k,.ref a)::ps)->Q true { s with heap:=h',toks:=tk }) :
  wpAny (model prog w) A (setAdd S (.ref a)) Q E s:=by
 obtain⟨o,ep,t,ho,hex,hd,T,few⟩:=P;have bm:=T.big;unfold setAdd;refine cG (ae ((KD prog w).pyHash hu hx ?_));generalize s.toks+(KD prog w).draws k=tk;unfold setAddHashed;refine cG ?_;unfold setAddHashedIn;refine ae (bK (s:={ s with toks:=tk }) ho hd T.fits' ?_);dsimp only;have bs:byScan (.ref a) ps.toArray=false:=by simp[byScan,Value.scannable]
 rw[bs];simp only[aI,bN];refine ae ?_;unfold setSearch;by_cases ck:k∈ks
 .obtain⟨i,ei⟩:=bS ck;have hi2:i<ps.length:=by rw[K.len];exact(ak.mp ei).1
  obtain⟨k',b,e1,e2,_⟩:=K.get (aa hi2);rw[ei]at e1;cases e1;obtain⟨N,j,r1,r2,r3,r4⟩:=T.reach i ((KD prog w).hash k) (by rw[aA,aa hi2,e2];rfl);have sj:=qk7 T.rise r2;refine qy7 (s:={ s with toks:=tk }) ho hd T K hx hu (λ_=>?_) N 100000 none ⋯ (by unfold SetTable.turns;lia) rfl (λn hn=>?_) (.inr ⟨i,?_,ei⟩) λz=>?_
  .exact aj (hQ1 ck tk)
  .obtain⟨i',e'⟩:=r4 n hn;exact⟨i',qk7 T.rise e'⟩
  .show t.slot (pos t ((KD prog w).hash k) N)=_;rw[r3];exact sj
  .have z':t.slot (pos t ((KD prog w).hash k) N)=.empty:=z;rw[r3,sj]at z';cases z'
 .obtain⟨N,r1,r2,r3⟩:=T.free ((KD prog w).hash k);refine qy7 (s:={ s with toks:=tk }) ho hd T K hx hu (λz=>absurd z ck) N 100000 none ⋯ (by unfold SetTable.turns;lia) rfl (λn hn=>r3 n hn) (.inl r2) λ_=>?_;dsimp only;refine ae (bK (s:={ s with toks:=tk }) ho hd T.fits' ?_);dsimp only;have pt:(t.put (pos t ((KD prog w).hash k) N)).1.plain=true:=T.plain;show wpAny (model prog w) A (do
   let byValue <-if(t.put (pos t ((KD prog w).hash k) N)).1.plain=true then hashByValue 8 (.ref a) else pure true
   _) Q E { s with toks:=tk }
  rw[aw pt];refine ae (wyy (s:={ s with toks:=tk }) hx hoa hda hi ?_);exact lay_in (s:={ s with toks:=tk }) (w:=w) ho hex hd T few hn r1 r2 r3 λh' ps' sb P' pm=>hQ2 ck h' tk ps' sb P' pm
end
end L2
namespace L2
open PySem PySem.Spec PySem.Calls PySem.W PyProof.Rows
theorem slot_setit_next:Slot "set_iterator" "__next__" "set_iterator.__next__" := .of (owner := "set_iterator") (n := "__next__") (by rw[typeLookup_type,builtinLookup_eq_fast];kernel_rfl) (by decide +kernel) (by decide +kernel) (by decide +kernel) (by first | exact .inl (by decide +kernel) | exact .inr (by decide +kernel)) (by rw[isSubtype_type];kernel_rfl)
theorem Qh:Slot "set_iterator" "__iter__" "set_iterator.__iter__" := .of (owner := "set_iterator") (n := "__iter__") (by rw[typeLookup_type,builtinLookup_eq_fast];kernel_rfl) (by decide +kernel) (by decide +kernel) (by decide +kernel) (by first | exact .inl (by decide +kernel) | exact .inr (by decide +kernel)) (by rw[isSubtype_type];kernel_rfl)
theorem uf:entryFor table "set_iterator.__next__" = some Builtin.«set_iterator.__next__»:=entryFor_of_tree (by kernel_rfl)
theorem qqw:entryFor table "set_iterator.__iter__" = some Builtin.«dict_keyiterator.__iter__»:=entryFor_alias (id' := "dict_keyiterator.__iter__") (by kernel_rfl) rfl (by decide +kernel) (by kernel_rfl)
theorem qxp:entryFor table "set.__iter__" = some Builtin.«frozenset.__iter__»:=entryFor_alias (id' := "frozenset.__iter__") (by kernel_rfl) rfl (by decide +kernel) (by kernel_rfl)
theorem qqu:Manifest.owners.lookup (String.ofList ['r','o','t','a','r','e','t','i','_','t','e','s'].reverse)=some Manifest.sig_set_iterator:=by kernel_rfl
theorem Qg (a:Ag):argsOk "set_iterator.__next__" ⟨[a],[]⟩:=by(unfold argsOk;rw[signature?_of (id := "set_iterator.__next__") (n:=['_','_','t','x','e','n','_','_']) (o:=['r','o','t','a','r','e','t','i','_','t','e','s']) (by kernel_rfl) qqu];kernel_rfl)
theorem qq3 (a:Ag):argsOk "set_iterator.__iter__" ⟨[a],[]⟩:=by(unfold argsOk;rw[signature?_of (id := "set_iterator.__iter__") (n:=['_','_','r','e','t','i','_','_']) (o:=['r','o','t','a','r','e','t','i','_','t','e','s']) (by kernel_rfl) qqu];kernel_rfl)
theorem wkw {α:Type}(nx:Nat->Nat):∀(f k:Nat) (left:List α) (out:Array α),left.length=f->(pickOrder.go nx f k left out).toList.Perm (out.toList++left)
 |0,k,left,out,h=>by have:left=[]:=eC h;subst this;unfold pickOrder.go;simp
 |f+1,k,left,out,h=>by have hi:nx k%left.length<left.length:=fI _ ⋯;unfold pickOrder.go;rw[aa hi];dsimp only;refine(wkw nx f (k+1) (left.eraseIdx (nx k%left.length)) _ (by rw[List.length_eraseIdx,aw hi];lia)).trans ?_;rw[dv,aX];refine de _ ?_;rw[List.singleton_append];rw[List.eraseIdx_eq_take_drop_succ];refine List.perm_middle.symm.trans ?_;rw[<-dS hi,dc]
def wk (w:Ah)(S:Aj)(ep:Nat)(ps:List (Int×Ag)):List (Int×Ag):=if byT w=true then(pickOrder (w.params.setOrder S ep) ps.toArray).toList else ps
theorem qq8 (w:Ah)(S:Aj)(ep:Nat)(ps:List (Int×Ag)):(wk w S ep ps).Perm ps:=by
 unfold wk;split
 .unfold pickOrder;exact(wkw _ _ _ _ _ (by simp)).trans (by simp)
 .exact .refl _
def SRaw (h:Heap)(S:Aj)(ps:List (Int×Ag))(ep:Nat)(t:SetTable):Prop:=∃o,h.get? S=some o/\o.ExactSet/\o.data=.set ps.toArray ep t
def SIt (h:Heap)(it S:Aj)(slot i n ep:Nat):Prop:=∃o,h.get? it=some o/\o.cls=.type "set_iterator" /\ o.data=.fields #[.int slot 0,.int i 0,.ref S,.int n 0,.int ep 0]
theorem SRaw.at {h h':Heap}{S:Aj}{ps:List (Int×Ag)}{ep:Nat}{t:SetTable}(x:SRaw h S ps ep t)(k:∀o,h.get? S=some o->h'.get? S=some o):SRaw h' S ps ep t:=let ⟨o,e,r⟩:=x;⟨o,k o e,r⟩
theorem SIt.at {h h':Heap}{it S:Aj}{slot i n ep:Nat}(x:SIt h it S slot i n ep)(k:∀o,h.get? it=some o->h'.get? it=some o):SIt h' it S slot i n ep:=let ⟨o,e,r⟩:=x;⟨o,k o e,r⟩
section
variable {prog:Ac}{w:Ah}{A:Ae}{E:Ag->Ab->Prop}{s:Ab}{S it:Aj}{ps:List (Int×Ag)}{ep:Nat}{t:SetTable}
theorem SIt.ty {slot i n:Nat}(x:SIt s.heap it S slot i n ep):s.TypeIs (.ref it) "set_iterator" := let ⟨o,e,r⟩:=x;⟨o,e,r.1⟩
theorem SRaw.ty (x:SRaw s.heap S ps ep t):s.TypeIs (.ref S) "set" := let ⟨o,e,r⟩:=x;⟨o,e,r.1.1⟩
theorem Jc {Q:Bool->Ab->Prop}(h:Q (byT w) s):wpAny (model prog w) A setsByText Q E s:=by unfold setsByText;exact ae (eY (aj h))
theorem wjq {slot i:Nat}{Q:Option (Ag×Nat)->Ab->Prop}(R:SRaw s.heap S ps ep t)(T:Tab (byT w) t (ps.map (·.1)))(hs:byT w=false->SetTable.below t.place slot=i){p:Int×Ag}(hp:(wk w S ep ps)[i]?=some p)
  (hQ:∀nx:Nat,(byT w=false->SetTable.below t.place nx=i+1)->Q (some (p.2,nx)) s):wpAny (model prog w) A (setNext S slot i ep) Q E s:=by
 obtain⟨o,ho,hex,hd⟩:=R;unfold setNext;refine ae (bK ho hd T.fits' ?_);dsimp only;refine ae (Jc ?_);cases hb:byT w with
 |true =>
  rw[hb]at hs hQ;simp only[db,eP,aI,bN];refine ae ?_;unfold setWalk;refine ae (bK ho hd T.fits' ?_);dsimp only;refine ae (Jc ?_);rw[hb];simp only[db];refine ae (eY (aj ?_));unfold wk at hp;rw[aw hb,aL]at hp;show wpAny _ _ (pure (((pickOrder (w.params.setOrder S ep) ps.toArray)[i]?).map _)) _ _ _;rw[hp];exact aj (hQ slot λz=>by cases z)
 |false =>
  rw[hb]at hs hQ;simp only[aI,bN];refine fE (λhab=>absurd hab ?_) (λ_=>?_)
  .show ¬ ((!t.plain&&decide (ps.toArray.size>1))=true);rw[T.plain];simp
  .refine ae ?_;show wpAny _ _ (if(!t.led&&!ps.toArray.isEmpty)=true then _ else _) _ _ s;have hled:t.led=true:=by rw[T.led,hb];rfl
   rw[hled];simp only[fB,iT,aI,bN];refine aj ?_;unfold wk at hp;rw[ar (by rw[hb];exact aK)]at hp;have hi:=(ak.mp hp).1;have e1:ps.toArray[i]?=some (p.1,p.2):=by simpa using hp
   have hpl:i<t.place.size:=by rw[T.pl,ag];exact hi
   have e2:t.place[i]?=some t.place[i]:=bE hpl;rw[hs rfl,e1,e2];exact aj (hQ _ λ_=>wx8 T.rise e2)
theorem xxv {slot i:Nat}{Q:Option (Ag×Nat)->Ab->Prop}(R:SRaw s.heap S ps ep t)(T:Tab (byT w) t (ps.map (·.1)))(hs:byT w=false->SetTable.below t.place slot=i)(hp:ps.length<=i)
  (hQ:Q none s):wpAny (model prog w) A (setNext S slot i ep) Q E s:=by
 obtain⟨o,ho,hex,hd⟩:=R;unfold setNext;refine ae (bK ho hd T.fits' ?_);dsimp only;refine ae (Jc ?_);cases hb:byT w with
 |true =>
  simp only[db,eP,aI,bN];refine ae ?_;unfold setWalk;refine ae (bK ho hd T.fits' ?_);dsimp only;refine ae (Jc ?_);rw[hb];simp only[db];refine ae (eY (aj ?_));have hl:=(qq8 w S ep ps).length_eq;unfold wk at hl;rw[aw hb,bf]at hl;show wpAny _ _ (pure (((pickOrder (w.params.setOrder S ep) ps.toArray)[i]?).map _)) _ _ _;rw[eG (by rw[hl];exact hp)];exact aj hQ
 |false =>
  rw[hb]at hs;simp only[aI,bN];refine fE (λhab=>absurd hab ?_) (λ_=>?_)
  .show ¬ ((!t.plain&&decide (ps.toArray.size>1))=true);rw[T.plain];simp
  .refine ae ?_;show wpAny _ _ (if(!t.led&&!ps.toArray.isEmpty)=true then _ else _) _ _ s;have hled:t.led=true:=by rw[T.led,hb];rfl
   rw[hled];simp only[fB,iT,aI,bN];refine aj ?_;have e1:ps.toArray[i]?=none:=eG (by rw[av];exact hp);rw[hs rfl,e1];exact aj hQ
theorem wzb {slot i:Nat}{p:Int×Ag}{Q:Option Ag->Ab->Prop}(hit:SIt s.heap it S slot i ps.length ep)(R:SRaw s.heap S ps ep t)(T:Tab (byT w) t (ps.map (·.1)))(hs:byT w=false->SetTable.below t.place slot=i)(hp:(wk w S ep ps)[i]?=some p)
  (hQ:∀h' nx,SIt h' it S nx (i+1) ps.length ep->(byT w=false->SetTable.below t.place nx=i+1)->Heap.SameBut it s.heap h'->Q (some p.2) { s with heap:=h' }):wpAny (model prog w) A (pyNext (.ref it)) Q E s:=by
 obtain⟨o,ho,hc,hd⟩:=id hit;obtain⟨oS,hoS,hexS,hdS⟩:=id R;unfold pyNext;refine ae (gu (wpAny_callSpecial?_slot (name:=Str.ofString "__next__") hit.ty slot_setit_next (eA slot_setit_next hit.ty uf ?_ (Qg _))));unfold Builtin.«set_iterator.__next__»;refine ae (aj ?_);refine ae (wpAny_fieldsOf ho hd ?_);dsimp only;refine ae ?_;unfold setEntries;refine ae (bK hoS hdS T.fits' (aj ?_));dsimp only;rw[ar (by rw[av];simp)];rw[b8,b8,b8];refine ae (wjq R T hs hp λnx hnx=>?_);dsimp only;refine ae (wpAny_setField ho hd (by simp) ?_);have g1:=dP (Obj.mapFields (·.setIfInBounds 0 (rawInt (nx:Int)))) ho (Obj.isFreed_of_fields (fM hd _));have d1:=fM hd (·.setIfInBounds 0 (rawInt (nx:Int)));have sb1:Heap.SameBut it s.heap (s.heap.update it (Obj.mapFields (·.setIfInBounds 0 (rawInt (nx:Int))))):=c0 ..;generalize s.heap.update it (Obj.mapFields (·.setIfInBounds 0 (rawInt (nx:Int))))=h1 at g1 sb1 ⊢;refine ae (wpAny_setField (s:={ s with heap:=h1 }) g1 d1 (by simp) ?_);have g2:=dP (Obj.mapFields (·.setIfInBounds 1 (rawInt ((i:Int)+1)))) g1 (Obj.isFreed_of_fields (fM d1 _));have d2:=fM d1 (·.setIfInBounds 1 (rawInt ((i:Int)+1)));have sb2:Heap.SameBut it h1 (h1.update it (Obj.mapFields (·.setIfInBounds 1 (rawInt ((i:Int)+1))))):=c0 ..;refine aj ⟨_,rfl,aj (hQ _ nx ⟨_,g2,((Obj.cls_mapFields ..).trans (Obj.cls_mapFields ..)).trans hc,by rw[d2];simp[rawInt]⟩ hnx (sb1.trans sb2))⟩
theorem wyn {slot i:Nat}{Q:Option Ag->Ab->Prop}(hh:A.handled=none)(hit:SIt s.heap it S slot i ps.length ep)(R:SRaw s.heap S ps ep t)(T:Tab (byT w) t (ps.map (·.1)))(hs:byT w=false->SetTable.below t.place slot=i)(hp:ps.length<=i)
  (hQ:∀h',Heap.ExtBut it s.heap h'->Q none { s with heap:=h' }):wpAny (model prog w) A (pyNext (.ref it)) Q E s:=by
 obtain⟨o,ho,hc,hd⟩:=id hit;obtain⟨oS,hoS,hexS,hdS⟩:=id R;unfold pyNext;refine ae (gu (wpAny_callSpecial?_slot (name:=Str.ofString "__next__") hit.ty slot_setit_next (eA slot_setit_next hit.ty uf ?_ (Qg _))));unfold Builtin.«set_iterator.__next__»;refine ae (aj ?_);refine ae (wpAny_fieldsOf ho hd ?_);dsimp only;refine ae ?_;unfold setEntries;refine ae (bK hoS hdS T.fits' (aj ?_));dsimp only;rw[ar (by rw[av];simp)];rw[b8,b8,b8];refine ae (xxv R T hs hp ?_);dsimp only;refine ae (wpAny_setField ho hd (by simp) ?_);refine ae ?_;simp only[newExc,newTuple];(refine ae (cT ?_ (by size_fits)) ;refine ae (m:=firstArgMember _ _) (wpAny_of_eq (a:=Value.none) (by first | rfl | (simp only[firstArgMember];rfl)) ?_) ;refine cT ?_ (by size_fits) ;simp only[raiseNew] ;refine ae (wpAny_handled ?_) ;rw[show A.in1.handled=none from hh] ;refine ae (aj (wpAny_throw ?_)));refine ae (wpAny_isInstance (T := "StopIteration") (b:=true) ⟨_,aF _ rfl,rfl⟩ isSubtype_stop (aj (hQ _ (((c0 ..).extBut.push _).push _))))
theorem wx7 {slot i:Nat}{Q:Ag->Ab->Prop}(hit:SIt s.heap it S slot i ps.length ep)(h:Q (.ref it) s):wpAny (model prog w) A (pyIter (.ref it)) Q E s:=by refine wpAny_pyIter_slot hit.ty Qh (eA Qh hit.ty qqw ?_ (qq3 _));show wpAny _ _ (ret (.ref it)) _ _ s;exact aj ⟨_,rfl,"set_iterator",_,hit.ty,slot_setit_next.lookup,h⟩
theorem xwv {Q:Ag->Ab->Prop}(R:SRaw s.heap S ps ep t)(T:Tab (byT w) t (ps.map (·.1)))
  (hQ:Q (.ref s.heap.objs.size) { s with heap:=s.heap.push { cls:=.type "set_iterator",data:=.fields #[.int 0 0,.int 0 0,.ref S,.int ps.length 0,.int ep 0] } }):wpAny (model prog w) A (pyIter (.ref S)) Q E s:=by
 obtain⟨oS,hoS,hexS,hdS⟩:=id R;refine wpAny_pyIter_slot R.ty F.slot_set_iter (eA F.slot_set_iter R.ty qxp ?_ (F.args_set_iter_1 _));unfold Builtin.«frozenset.__iter__»;refine ae ?_;unfold Builtin.Frozenset.slot0;refine ae (aj ?_);show wpAny _ _ (pure S) _ _ s;refine aj ?_;refine ae ?_;unfold Builtin.Frozenset.sizeOf setEntries;refine ae (ae (bK hoS hdS T.fits' (aj (aj ?_))));dsimp only;refine ae ?_;unfold setDrawn;refine ae (bK hoS hdS T.fits' ?_);dsimp only;refine ae (Jc (aj ?_));have hdr:∀b:Bool,(b&&(!t.plain&&decide (ps.toArray.size>1)))=false:=λb=>by rw[T.plain];simp
 refine fE (λhab=>?_) (λ_=>?_)
 .have:(!byT w&&(!t.plain&&decide (ps.toArray.size>1)))=true:=hab;rw[hdr]at this;cases this
 .refine ae (aj ?_);refine ae (wpAny_setEpoch_of hoS hdS T.fits' ?_);refine ae (cT (aj ⟨_,rfl,"set_iterator",_,⟨_,aF _ rfl,rfl⟩,slot_setit_next.lookup,?_⟩));simpa [rawInt] using hQ
theorem wyh (hh:A.handled=none)(I:Aj)(hne:S≠I)(T:Tab (byT w) t (ps.map (·.1))):Walks prog w A I [I,S] [I] ps.length (λi v=>∃p,(wk w S ep ps)[i]?=some p/\v=p.2) (λi h=>(∃slot,SIt h I S slot i ps.length ep/\(byT w=false->SetTable.below t.place slot=i))/\SRaw h S ps ep t) where
 sub:=λb hb=>by simp at hb;simp[hb]
 frame:=λ_ _ _ ⟨⟨sl,a,b⟩,c⟩ hk=>⟨⟨sl,a.at λo e=>hk I (by simp) o e,b⟩,c.at λo e=>hk S (by simp) o e⟩
 item:=λi s Q E hi ⟨⟨sl,a,b⟩,c⟩ hQ=>by have hl:=(qq8 w S ep ps).length_eq;have hx:=aa (l:=wk w S ep ps) (i:=i) ⋯;exact wzb a c T b hx λh' nx it' nx' sb=>hQ _ h' s.toks ⟨_,hx,rfl⟩ ⟨⟨nx,it',nx'⟩,c.at λo e=>sb.extBut S o hne e⟩ λb o hb e=>sb.extBut b o (λh=>hb (by simp[h])) e
 done:=λs Q E ⟨⟨sl,a,b⟩,c⟩ hQ=>wyn hh a c T b (al _) λh' eb=>hQ h' s.toks λb o hb e=>eb b o (λh=>hb (by simp[h])) e
 self:=λ_ _ _ _ ⟨⟨sl,a,b⟩,c⟩ hQ=>wx7 a hQ
theorem xw9 {Q:Bool->Ab->Prop}(hT:s.TypeIs (.ref S) "set")(h:Q false s):wpAny (model prog w) A (Builtin.List.listLengthHint (.ref S)) Q E s:=by unfold Builtin.List.listLengthHint;refine ae (wpAny_specialOf hT F.slot_set_len.lookup ?_);generalize hid:("set.__len__" : String)=id0;wp_delta;rw[show splitId id0=some ("set","__len__") from by subst hid;decide +kernel];subst hid;(refine ae (wpAny_isInstance (T := "set") (b:=true) hT (by rw[isSubtype_type];kernel_rfl) ?_) ;refine fE (λhab=>absurd hab ⋯) (λ_=>?_) ;refine fE (λ_=>?_) (λhab=>absurd (by decide +kernel) hab));refine ae (wpAny_typeOf hT ?_);exact aj h
theorem xzb (T:Tab (byT w) t (ps.map (·.1))):KdlSrc prog w "set" S S ps.length (λi v=>∃p,(wk w S ep ps)[i]?=some p/\v=p.2) (λh=>SRaw h S ps ep t) where
 type:=λ_ hm=>hm.ty
 there:=λ_ hm=>let ⟨_,e,_⟩:=hm;⟨ao e,ao e⟩
 keep:=λ_ _ hm hk=>hm.at λo e=>hk S (.inl rfl) o e
 notList:=by decide
 notTuple:=by decide
 hint:=λ_ _ _ _ hm hq=>xw9 hm.ty hq
 iter:=λ_ _ hh hm=>⟨_,_,(λ_ _ hq=>xwv hm T hq),wyh hh _ (let ⟨_,e,_⟩:=hm;aE (ao e)) T,⟨⟨0,⟨_,aF _ rfl,rfl,rfl⟩,λ_=>wzv T.rise⟩,hm.at λo e=>ai _ e⟩⟩
end
end L2
namespace Tm
open PySem PyProof.Rows
def Wr:Bool->Ai->Array Ai->Nat->Nat->Nat->StateT Af Sem (Option Nat):=sortPriv% PySem.Builtin.gallop
def quk:Array Ai->Array Ai->StateT Af Sem (Array Ai):=sortPriv% PySem.Builtin.mergeLo
def quj:Array Ai->Array Ai->StateT Af Sem (Array Ai):=sortPriv% PySem.Builtin.mergeHi
local macro_rules | `(tactic| walk_at "tim gallop")=>do
 let n:=Lean.mkIdent (Lean.mkPrivateNameCore `PySem.Builtin.List.W1All `PySem.Builtin.gallop);`(tactic| unfold $n:ident)
section
variable {M:Model}{A:Ae}{E:Ag->Ab->Prop}{s:Ab}{G:Ai->Prop}{kz:Ai->Int}{kd:SortKind}
def yg (M:Model)(A:Ae)(E:Ag->Ab->Prop)(s:Ab)(G:Ai->Prop)(kz:Ai->Int)(kd:SortKind):Prop :=
 ∀(x y:Ai) (st:Af) (Q:Option Bool->Af->Prop),G x->G y->kindOf st=kd->Q (some (decide (kz x<kz y))) st->wpS M A E s (lt' x y) Q st
theorem xu {arr:Array Ai}{i:Nat}{x:Ai}{st:Af}{Q:Ai->Af->Prop}(hx:arr[i]?=some x)(h:Q x st):wpS M A E s (elem' arr i) Q st:=by rw[elem'_eq,hx];exact aB h
def vv (kz:Ai->Int)(left:Bool)(key x:Ai):Bool:=if left=true then decide (kz x<kz key) else !decide (kz key<kz x)
theorem qub {n lo0 hi0:Nat}{P:Nat->Bool}{st:Af}{f:Nat->Option (Option Nat)×Nat×Nat->StateT Af Sem (ForInStep (Option (Option Nat)×Nat×Nat))}{Q:Option (Option Nat)×Nat×Nat->Af->Prop}
  (f1:∀i a b (R:ForInStep (Option (Option Nat)×Nat×Nat)->Af->Prop),a>=b->R (.done (none,a,b)) st->wpS M A E s (f i (none,a,b)) R st)
  (f2:∀i a b (R:ForInStep (Option (Option Nat)×Nat×Nat)->Af->Prop),¬ a>=b->b<=n->(P (a+(b-a)/2)=true->R (.yield (none,a+(b-a)/2+1,b)) st)->(P (a+(b-a)/2)=false->R (.yield (none,a,a+(b-a)/2)) st)->wpS M A E s (f i (none,a,b)) R st)
  (h1:lo0<=hi0) (h2:hi0<=n) (hlo:∀i,i<lo0->P i=true) (hhi:∀i,hi0<=i->i<n->P i=false) (mono:∀i j,i<=j->j<n->P j=true->P i=true)
  (h:∀a k,k<=n->(∀i,i<k->P i=true)->(∀i,k<=i->i<n->P i=false)->Q (none,a,k) st) :
  wpS M A E s (forIn [:n] ((none,lo0,hi0):Option (Option Nat)×Nat×Nat) f) Q st:=by
 refine cg (I:=λi (c:Option (Option Nat)×Nat×Nat) st'=>st'=st/\c.1=none/\c.2.1<=c.2.2/\c.2.2<=n/\c.2.2-c.2.1<=n-i/\(∀i,i<c.2.1->P i=true)/\(∀i,c.2.2<=i->i<n->P i=false))
  ?step ?fin ⟨rfl,rfl,h1,h2,by dsimp only;lia,hlo,hhi⟩
 case fin =>
  rintro⟨r,a,b⟩ st' ⟨rfl,hr,x1,x2,x3,x4,x5⟩;dsimp only at hr x1 x2 x3 x4 x5 ⊢;subst hr;have:a=b:=by lia
  subst this;exact h _ _ x2 x4 x5
 case step =>
  rintro i ⟨r,a,b⟩ st' _ hi ⟨rfl,hr,x1,x2,x3,x4,x5⟩;dsimp only at hr x1 x2 x3 x4 x5 ⊢;subst hr;by_cases c:a>=b
  .have:a=b:=by lia
   subst this;exact f1 _ _ _ _ c (h _ _ x2 x4 x5)
  .refine f2 _ _ _ _ c x2 (λhp=>?_) λhp=>?_
   .exact⟨rfl,rfl,by dsimp only;lia,x2,by dsimp only;lia,λj hj=>mono j _ (by dsimp only at hj;lia) ⋯ hp,x5⟩
   .refine⟨rfl,rfl,by dsimp only;lia,by dsimp only;lia,by dsimp only;lia,x4,λj hj hj2=>?_⟩;cases hp2:P j with
    |false=>rfl
    |true =>
     have:=mono (a+(b-a)/2) j hj hj2 hp2;rw[hp]at this;cases this
theorem wzx {left:Bool}{key:Ai}{arr:Array Ai}{base n hint:Nat}{P:Nat->Bool}{st:Af}{Q:Option Nat->Af->Prop}(O:yg M A E s G kz kd)(hk:kindOf st=kd)(hG:G key)
  (hA:∀i,i<n->∃x,arr[base+i]?=some x/\G x/\P i=vv kz left key x) (hh:hint<n) (mono:∀i j,i<=j->j<n->P j=true->P i=true)
  (h:∀k,k<=n->(∀i,i<k->P i=true)->(∀i,k<=i->i<n->P i=false)->Q (some k) st):wpS M A E s (Wr left key arr base n hint) Q st:=by
 have hb:∀i (R:Option Bool->Af->Prop),i<n->R (some (P i)) st->wpS M A E s (do
   let x <-elem' arr (base+i)
   if left=true then lt' x key
   else do
    let r <-lt' key x
    pure (r.map λb=>!b)) R st:=by
  intro i R hi hR;obtain⟨x,e,g,hp⟩:=hA i hi;refine ax (xu e ?_);rw[hp]at hR;unfold vv at hR;cases left with
  |true =>
   rw[aw rfl]at hR ⊢;exact O _ _ _ _ g hG hk hR
  |false =>
   rw[ar aK]at hR ⊢;exact ax (O _ _ _ _ hG g hk (aB hR))
 unfold Wr;walk_at "tim gallop";dsimp only;refine ax (hb hint _ hh ?_);dsimp only;cases hp:P hint with
 |true =>
  rw[aw rfl];refine ax (eI (cg (I:=λi (c:Option (Option Nat)×Nat×Nat) st'=>st'=st/\c.1=none/\i+1<=c.2.2/\c.2.1<c.2.2/\hint+c.2.1<n/\P (hint+c.2.1)=true)
   (Q:=λc st'=>st'=st/\c.1=none/\c.2.1<c.2.2/\hint+c.2.1<n/\P (hint+c.2.1)=true/\(n-hint<=c.2.2\/(hint+c.2.2<n/\P (hint+c.2.2)=false))) ?step ?fin ⟨rfl,rfl,al 1,Nat.zero_lt_one,hh,hp⟩) ?post)
  case fin =>
   rintro⟨r,a,b⟩ st' ⟨rfl,hr,x1,x2,x3,x4⟩;dsimp only at hr x1 x2 x3 x4 ⊢;exact⟨rfl,hr,x2,x3,x4,.inl ⋯⟩
  case step =>
   rintro i ⟨r,a,b⟩ st' _ hi ⟨rfl,hr,x1,x2,x3,x4⟩;dsimp only at hr x1 x2 x3 x4 ⊢;by_cases c:b>=n-hint
   .rw[aw c];exact aB ⟨rfl,rfl,x2,x3,x4,.inl c⟩
   .rw[ar c];refine ax (hb _ _ ⋯ ?_);dsimp only;cases hq:P (hint+b) with
    |true=>exact aB ⟨rfl,rfl,by dsimp only;lia,by dsimp only;lia,by dsimp only;lia,hq⟩
    |false=>exact aB ⟨rfl,rfl,x2,x3,x4,.inr ⟨by dsimp only;lia,hq⟩⟩
  case post =>
   rintro⟨r,a,b⟩ st' ⟨rfl,hr,x2,x3,x4,x5⟩;dsimp only at hr x2 x3 x4 x5 ⊢;subst hr;dsimp only;refine ax (qub (lo0:=hint+a+1) (hi0:=hint+min b (n-hint)) (λi a b R c hR=>?_) (λi a b R c hb2 r1 r2=>?_) ⋯ ⋯ (λi hi=>mono i (hint+a) ⋯ x3 x4) (λi hi1 hi2=>?_) mono λa k k1 k2 k3=>aB (h k k1 k2 k3))
   .dsimp only;rw[aw c];exact aB hR
   .dsimp only;rw[ar c];refine ax (hb _ _ ⋯ ?_);dsimp only;cases hp3:P (a+(b-a)/2) with
    |true=>exact aB (r1 hp3)
    |false=>exact aB (r2 hp3)
   .rcases x5 with x5|⟨x5,x6⟩
    .lia
    .cases hp2:P i with
     |false=>rfl
     |true =>
      have:=mono (hint+b) i ⋯ hi2 hp2;rw[x6]at this;cases this
 |false =>
  rw[ar aK];refine ax (eI (cg (I:=λi (c:Option (Option Nat)×Nat×Nat) st'=>st'=st/\c.1=none/\i+1<=c.2.2/\c.2.1<c.2.2/\c.2.1<=hint/\P (hint-c.2.1)=false)
   (Q:=λc st'=>st'=st/\c.1=none/\c.2.1<c.2.2/\c.2.1<=hint/\P (hint-c.2.1)=false/\(hint+1<=c.2.2\/(c.2.2<=hint/\P (hint-c.2.2)=true))) ?step ?fin ⟨rfl,rfl,al 1,Nat.zero_lt_one,aT _,hp⟩) ?post)
  case fin =>
   rintro⟨r,a,b⟩ st' ⟨rfl,hr,x1,x2,x3,x4⟩;dsimp only at hr x1 x2 x3 x4 ⊢;exact⟨rfl,hr,x2,x3,x4,.inl ⋯⟩
  case step =>
   rintro i ⟨r,a,b⟩ st' _ hi ⟨rfl,hr,x1,x2,x3,x4⟩;dsimp only at hr x1 x2 x3 x4 ⊢;by_cases c:b>=hint+1
   .rw[aw c];exact aB ⟨rfl,rfl,x2,x3,x4,.inl c⟩
   .rw[ar c];refine ax (hb _ _ ⋯ ?_);dsimp only;cases hq:P (hint-b) with
    |true=>exact aB ⟨rfl,rfl,x2,x3,x4,.inr ⟨by dsimp only;lia,hq⟩⟩
    |false=>exact aB ⟨rfl,rfl,by dsimp only;lia,by dsimp only;lia,by dsimp only;lia,hq⟩
  case post =>
   rintro⟨r,a,b⟩ st' ⟨rfl,hr,x2,x3,x4,x5⟩;dsimp only at hr x2 x3 x4 x5 ⊢;subst hr;dsimp only;refine ax (qub (lo0:=hint+1-min b (hint+1)) (hi0:=hint-a) (λi a b R c hR=>?_) (λi a b R c hb2 r1 r2=>?_) ⋯ ⋯ (λi hi=>?_) (λi hi1 hi2=>?_) mono λa k k1 k2 k3=>aB (h k k1 k2 k3))
   .dsimp only;rw[aw c];exact aB hR
   .dsimp only;rw[ar c];refine ax (hb _ _ ⋯ ?_);dsimp only;cases hp3:P (a+(b-a)/2) with
    |true=>exact aB (r1 hp3)
    |false=>exact aB (r2 hp3)
   .rcases x5 with x5|⟨x5,x6⟩
    .lia
    .exact mono i (hint-b) ⋯ ⋯ x6
   .cases hp2:P i with
    |false=>rfl
    |true =>
     have:=mono (hint-a) i ⋯ hi2 hp2;rw[x4]at this;cases this
end
end Tm
namespace Tm
open PySem PyProof.Rows
def qz9:Nat->StateT Af Sem Unit:=sortPriv% PySem.Builtin.setMinGallop
local macro_rules | `(tactic| walk_at "tim lo")=>do
 let n:=Lean.mkIdent (Lean.mkPrivateNameCore `PySem.Builtin.List.W1All `PySem.Builtin.mergeLo);`(tactic| unfold $n:ident)
section
variable {kz:Ai->Int}
def SL (kz:Ai->Int)(l:List Ai):Prop:=l.Pairwise λx y=>kz x<kz y
structure LJ (kz:Ai->Int)(T O X Y:List Ai):Prop where
 x:SL kz (O++X)
 y:SL kz (O++Y)
 p:(O++(X++Y)).Perm T
variable {T O X Y X1 X2 Y1 Y2:List Ai}
theorem LJ.swap (h:LJ kz T O X Y):LJ kz T O Y X:=⟨h.y,h.x,(de O dQ).trans h.p⟩
theorem LJ.mvX (h:LJ kz T O (X1++X2) Y)(lt:∀u∈X1,∀v∈Y,kz u<kz v):LJ kz T (O++X1) X2 Y:=by
 obtain⟨a,b,c⟩:=h;have b':=aZ.mp b;refine⟨by rw[aX];exact a,?_,by simpa [aX] using c⟩;have a':SL kz (O++X1):=by rw[<-aX]at a;exact(aZ.mp a).1
 refine aZ.mpr ⟨a',b'.2.1,λu hu v hv=>?_⟩;rcases aU.mp hu with hu|hu
 .exact b'.2.2 u hu v hv
 .exact lt u hu v hv
theorem LJ.mvY (h:LJ kz T O X (Y1++Y2))(lt:∀u∈Y1,∀v∈X,kz u<kz v):LJ kz T (O++Y1) X Y2:=(h.swap.mvX lt).swap
structure HJ (kz:Ai->Int)(T X Y O:List Ai):Prop where
 x:SL kz (X++O)
 y:SL kz (Y++O)
 p:(X++(Y++O)).Perm T
theorem HJ.swap (h:HJ kz T X Y O):HJ kz T Y X O:=⟨h.y,h.x,by
 refine List.Perm.trans ?_ h.p
 rw[<-aX,<-aX]
 exact cY O dQ⟩
theorem HJ.mvX (h:HJ kz T (X1++X2) Y O)(lt:∀v∈Y,∀u∈X2,kz v<kz u):HJ kz T X1 Y (X2++O):=by
 obtain⟨a,b,c⟩:=h;have b':=aZ.mp b;refine⟨by rw[<-aX];exact a,?_,?_⟩
 .have a':SL kz (X2++O):=by rw[aX]at a;exact(aZ.mp a).2.1
  refine aZ.mpr ⟨b'.1,a',λv hv u hu=>?_⟩;rcases aU.mp hu with hu|hu
  .exact lt v hv u hu
  .exact b'.2.2 v hv u hu
 .refine List.Perm.trans ?_ c;rw[aX];refine de X1 ?_;rw[<-aX,<-aX];exact cY O dQ
theorem HJ.mvY (h:HJ kz T X (Y1++Y2) O)(lt:∀v∈X,∀u∈Y2,kz v<kz u):HJ kz T X Y1 (Y2++O):=(h.swap.mvX lt).swap
structure Mg (kz:Ai->Int)(G:Ai->Prop)(a b:Array Ai):Prop where
 sa:SL kz a.toList
 sb:SL kz b.toList
 ne:∀x∈a.toList,∀y∈b.toList,kz x≠kz y
 ga:∀x∈a.toList,G x
 gb:∀x∈b.toList,G x
def Jr (kz:Ai->Int)(a b r:Array Ai):Prop:=SL kz r.toList/\r.toList.Perm (a.toList++b.toList)
def SameSt (st st':Af):Prop:=kindOf st'=kindOf st/\arrOf st'=arrOf st/\pendingOf st'=pendingOf st/\failedOf st'=failedOf st
theorem SameSt.rfl' (st:Af):SameSt st st:=⟨rfl,rfl,rfl,rfl⟩
theorem SameSt.trans {a b c:Af}(h:SameSt a b)(k:SameSt b c):SameSt a c:=⟨k.1.trans h.1,k.2.1.trans h.2.1,k.2.2.1.trans h.2.2.1,k.2.2.2.trans h.2.2.2⟩
theorem SL.lt {l:List Ai}(h:SL kz l){i j:Nat}{x y:Ai}(hij:i<j)(hx:l[i]?=some x)(hy:l[j]?=some y):kz x<kz y:=by obtain⟨hi,rfl⟩:=ak.mp hx;obtain⟨hj,rfl⟩:=ak.mp hy;exact br.mp h i j hi hj hij
theorem SL.le {l:List Ai}(h:SL kz l){i j:Nat}{x y:Ai}(hij:i<=j)(hx:l[i]?=some x)(hy:l[j]?=some y):kz x<=kz y:=by
 rcases bo i j with c|c
 .exact fZ (h.lt c hx hy)
 .obtain rfl:i=j:=by lia
  rw[hx]at hy;cases hy;exact cB _
theorem xt {a:Array Ai}{i:Nat}(h:i<a.size):∃x,a[i]?=some x/\a.toList[i]?=some x/\x∈a.toList:=⟨a[i],bE h,by simp[h],by simp⟩
theorem Jm {l:List Ai}{i:Nat}{x:Ai}(h:l[i]?=some x):l.drop i=[x]++l.drop (i+1):=by obtain⟨hi,rfl⟩:=ak.mp h;exact dS hi
theorem qwt (l:List Ai)(i k:Nat):l.drop i=(l.drop i).take k++l.drop (i+k):=by rw[<-List.drop_drop];exact(dc k (l.drop i)).symm
theorem Wy {l:List Ai}{i:Nat}{x:Ai}(h:x∈l.drop i):∃j,i<=j/\l[j]?=some x:=by obtain⟨j,hj⟩:=bS h;exact⟨i+j,⋯,by rw[<-hj,di]⟩
theorem W7 {l:List Ai}{i k:Nat}{x:Ai}(h:x∈(l.drop i).take k):∃j,i<=j/\j<i+k/\l[j]?=some x:=by
 obtain⟨j,hj⟩:=bS h;rw[dJ]at hj;split at hj
 .exact⟨i+j,⋯,⋯,by rw[<-hj,di]⟩
 .cases hj
theorem Wz {l:List Ai}{i:Nat}{x:Ai}(h:x∈l.take i):∃j,j<i/\l[j]?=some x:=by
 obtain⟨j,hj⟩:=bS h;rw[dJ]at hj;split at hj
 .exact⟨j,⋯,hj⟩
 .cases hj
end
section
variable {M:Model}{A:Ae}{E:Ag->Ab->Prop}{s:Ab}{G:Ai->Prop}{kz:Ai->Int}{kd:SortKind}{a b:Array Ai}
theorem Yf {g:Nat}{st:Af}{Q:Unit->Af->Prop}(h:∀st',SameSt st st'->Q () st'):wpS M A E s (qz9 g) Q st :=
 fN (h _ ⟨rfl,rfl,rfl,rfl⟩)
abbrev LJA (kz:Ai->Int)(a b out:Array Ai)(ia ib:Nat):Prop:=LJ kz (a.toList++b.toList) out.toList (a.toList.drop ia) (b.toList.drop ib)
theorem qww (a:Array Ai)(i:Nat):(a.extract i a.size).toList=a.toList.drop i:=by rw[dZ];simp only[List.extract];exact cI (by simp)
theorem W3 {out:Array Ai}{ia ib:Nat}(h:LJA kz a b out ia ib)(e:ib=b.size):Jr kz a b (out++a.extract ia a.size++b.extract ib b.size):=by
 subst e;obtain⟨x,y,p⟩:=h;have e1:(out++a.extract ia a.size++b.extract b.size b.size).toList=out.toList++a.toList.drop ia:=by rw[bO,bO,qww,qww];simp
 have e2:b.toList.drop b.size=[]:=by simp
 rw[e2,bR]at p;exact⟨by rw[e1];exact x,by rw[e1];exact p⟩
theorem u8 {out:Array Ai}{ia ib:Nat}(h:LJA kz a b out ia ib)(e:ia+1=a.size)(hl:∀x,a[a.size-1]?=some x->∀y∈b.toList,kz y<kz x):Jr kz a b (out++b.extract ib b.size++a.extract ia a.size):=by
 obtain⟨x,y,p⟩:=h;have e1:(out++b.extract ib b.size++a.extract ia a.size).toList=(out.toList++b.toList.drop ib)++a.toList.drop ia:=by rw[bO,bO,qww,qww]
 obtain⟨z,z1,z2,z3⟩:=xt (a:=a) (i:=ia) ⋯;have hz:=hl z (by rw[<-z1];congr 1;lia);have e2:a.toList.drop ia=[z]:=by rw[Jm z2,List.drop_eq_nil_of_le (by rw[bf];lia)];rfl
 rw[e2]at x p;refine⟨?_,?_⟩
 .rw[e1,e2];refine aZ.mpr ⟨y,b7 _ _,λu hu v hv=>?_⟩;rcases aU.mp hu with hu|hu
  .exact(aZ.mp x).2.2 u hu v hv
  .obtain rfl:=aH.mp hv;exact hz u (cR hu)
 .rw[e1,e2,aX];exact(de _ dQ).trans p
theorem Yz {out:Array Ai}{ia ib:Nat}{x y:Ai}(m:Mg kz G a b)(h:LJA kz a b out ia ib)(hx:a.toList[ia]?=some x)(hy:b.toList[ib]?=some y)(c:kz y<kz x):LJA kz a b (out.push y) ia (ib+1):=by
 have h':LJ kz (a.toList++b.toList) out.toList (a.toList.drop ia) ([y]++b.toList.drop (ib+1)):=by rw[<-Jm hy];exact h
 have:=h'.mvY λu hu v hv=>by obtain rfl:=aH.mp hu;obtain⟨j,hj,ej⟩:=Wy hv;have:=m.sa.le hj hx ej;lia
 show LJ kz _ (out.push y).toList _ _;rw[dv];exact this
theorem Wm {out:Array Ai}{ia ib:Nat}{x y:Ai}(m:Mg kz G a b)(h:LJA kz a b out ia ib)(hx:a.toList[ia]?=some x)(hy:b.toList[ib]?=some y)(c:¬ kz y<kz x):LJA kz a b (out.push x) (ia+1) ib:=by
 have h':LJ kz (a.toList++b.toList) out.toList ([x]++a.toList.drop (ia+1)) (b.toList.drop ib):=by rw[<-Jm hx];exact h
 have ne:=m.ne x (aC hx) y (aC hy);have:=h'.mvX λu hu v hv=>by obtain rfl:=aH.mp hu;obtain⟨j,hj,ej⟩:=Wy hv;have:=m.sb.le hj hy ej;lia
 show LJ kz _ (out.push x).toList _ _;rw[dv];exact this
theorem wuz {out:Array Ai}{ia ib k:Nat}{y:Ai}(m:Mg kz G a b)(h:LJA kz a b out ia ib)(hy:b.toList[ib]?=some y)(c:∀i x,i<k->a.toList[ia+i]?=some x->kz x<=kz y):LJA kz a b (out++a.extract ia (ia+k)) (ia+k) ib:=by
 have h':LJ kz (a.toList++b.toList) out.toList ((a.toList.drop ia).take k++a.toList.drop (ia+k)) (b.toList.drop ib):=by rw[<-qwt];exact h
 have:=h'.mvX λu hu v hv=>by obtain⟨i,hi1,hi2,ei⟩:=W7 hu;obtain⟨j,hj,ej⟩:=Wy hv;have h1:=m.sb.le hj hy ej;have h2:=c (i-ia) u ⋯ (by rw[<-ei];congr 1;lia);have ne:=m.ne u (aC ei) y (aC hy);lia
 have e:(out++a.extract ia (ia+k)).toList=out.toList++(a.toList.drop ia).take k:=by simp
 show LJ kz _ (out++a.extract ia (ia+k)).toList _ _;rw[e];exact this
theorem wqy {out:Array Ai}{ia ib k:Nat}{x:Ai}(m:Mg kz G a b)(h:LJA kz a b out ia ib)(hx:a.toList[ia]?=some x)(c:∀i y,i<k->b.toList[ib+i]?=some y->kz y<kz x):LJA kz a b (out++b.extract ib (ib+k)) ia (ib+k):=by
 have h':LJ kz (a.toList++b.toList) out.toList (a.toList.drop ia) ((b.toList.drop ib).take k++b.toList.drop (ib+k)):=by rw[<-qwt];exact h
 have:=h'.mvY λu hu v hv=>by obtain⟨i,hi1,hi2,ei⟩:=W7 hu;obtain⟨j,hj,ej⟩:=Wy hv;have h1:=m.sa.le hj hx ej;have h2:=c (i-ib) u ⋯ (by rw[<-ei];congr 1;lia);lia
 have e:(out++b.extract ib (ib+k)).toList=out.toList++(b.toList.drop ib).take k:=by simp
 show LJ kz _ (out++b.extract ib (ib+k)).toList _ _;rw[e];exact this
theorem wv5 {left:Bool}{key:Ai}{arr:Array Ai}{base n hint:Nat}{st:Af}{Q:Option Nat->Af->Prop}(O:yg M A E s G kz kd)(hk:kindOf st=kd)(hG:G key)
  (sl:∀i j x y,base<=i->i<j->j<base+n->arr[i]?=some x->arr[j]?=some y->kz x<kz y) (hg:∀i,base<=i->i<base+n->∃x,arr[i]?=some x/\G x) (hh:hint<n)
  (h:∀k,k<=n->(∀i x,i<k->arr[base+i]?=some x->vv kz left key x=true)->(∀i x,k<=i->i<n->arr[base+i]?=some x->vv kz left key x=false)->Q (some k) st) :
  wpS M A E s (Wr left key arr base n hint) Q st:=by
 refine wzx (P:=λi=>match arr[base+i]? with|some x=>vv kz left key x|none=>false) O hk hG (λi hi=>?_) hh (λi j hij hj hp=>?_) λk h1 h2 h3=>h k h1 (λi x hi ex=>?_) λi x hi hi2 ex=>?_
 .obtain⟨x,ex,gx⟩:=hg (base+i) ⋯ ⋯;exact⟨x,ex,gx,by simp only[ex]⟩
 .obtain⟨y,ey,_⟩:=hg (base+j) ⋯ ⋯;obtain⟨x,ex,_⟩:=hg (base+i) ⋯ ⋯;simp only[ey]at hp;simp only[ex];rcases bo i j with c|c
  .have:=sl (base+i) (base+j) x y ⋯ ⋯ ⋯ ex ey;unfold vv at hp ⊢;cases left with
   |true =>
    rw[aw rfl]at hp ⊢;have:=cL hp;exact aS ⋯
   |false =>
    rw[ar aK]at hp ⊢;rw[ii,fR]at hp ⊢;lia
  .obtain rfl:i=j:=by lia
   rw[ex]at ey;cases ey;exact hp
 .have:=h2 i hi;simp only[ex]at this;exact this
 .have:=h3 i hi hi2;simp only[ex]at this;exact this
end
end Tm
namespace Tm
open PySem PyProof.Rows
local macro_rules | `(tactic| walk_at "tim lo")=>do
 let n:=Lean.mkIdent (Lean.mkPrivateNameCore `PySem.Builtin.List.W1All `PySem.Builtin.mergeLo);`(tactic| unfold $n:ident)
section
variable {M:Model}{A:Ae}{E:Ag->Ab->Prop}{s:Ab}{G:Ai->Prop}{kz:Ai->Int}{kd:SortKind}{a b:Array Ai}
theorem qux {α:Type}{c:Nat->Prop}{i:∀z,Decidable (c z)}{u v:Nat->StateT Af Sem α}{Q:α->Af->Prop}{st:Af}(hu:∀z,u z=v (z-1))(h:∀z,wpS M A E s (v z) Q st):∀z,wpS M A E s (@ite _ (c z) (i z) (u z) (v z)) Q st:=λz=>by
 rw[hu z];split
 .exact h _
 .exact h z
theorem xc {α:Type}{c:Prop}[i:Decidable c]{t e:StateT Af Sem α}{Q:α->Af->Prop}{st:Af}(h1:c->wpS M A E s t Q st)(h2:¬ c->wpS M A E s e Q st):wpS M A E s (ite c t e) Q st:=by
 by_cases d:c
 .rw[aw d];exact h1 d
 .rw[ar d];exact h2 d
theorem qjr {α:Type}{c:Prop}[i:Decidable c]{t e:StateT Af Sem α}{Q:α->Af->Prop}{st:Af}(d:¬ c)(h:wpS M A E s e Q st):wpS M A E s (ite c t e) Q st:=by rw[ar d];exact h
theorem qwj {left:Bool}{key:Ai}{arr:Array Ai}{base n hint:Nat}{st:Af}{Q:Option Nat->Af->Prop}(O:yg M A E s G kz kd)(hk:kindOf st=kd)(hG:G key)
  (sl:SL kz arr.toList) (hg:∀x∈arr.toList,G x) (hn:base+n<=arr.size) (hh:hint<n)
  (h:∀k,k<=n->(∀i x,i<k->arr.toList[base+i]?=some x->vv kz left key x=true)->(∀i x,k<=i->i<n->arr.toList[base+i]?=some x->vv kz left key x=false)->Q (some k) st) :
  wpS M A E s (Wr left key arr base n hint) Q st:=by
 refine wv5 O hk hG (λi j x y _ hij _ ex ey=>sl.lt hij (by rw[aL];exact ex) (by rw[aL];exact ey)) (λi _ hi=>?_) hh λk k1 k2 k3=>h k k1 (λi x hi ex=>k2 i x hi (by rw[<-aL];exact ex)) λi x hi hi2 ex=>k3 i x hi hi2 (by rw[<-aL];exact ex);obtain⟨x,e1,e2,e3⟩:=xt (a:=arr) (i:=i) ⋯;exact⟨x,e1,hg x e3⟩
theorem ah_f {key x:Ai}(h:vv kz false key x=true):kz x<=kz key:=by unfold vv at h;rw[ar aK,ii,fR]at h;lia
theorem ah_t {key x:Ai}(h:vv kz true key x=true):kz x<kz key:=by unfold vv at h;rw[aw rfl]at h;exact cL h
theorem xq1 {key x:Ai}(h:vv kz false key x=false):kz key<kz x:=by unfold vv at h;rw[ar aK]at h;simpa using h
theorem Zv {key x:Ai}(h:vv kz true key x=false):kz key<=kz x:=by unfold vv at h;rw[aw rfl,fR]at h;lia
theorem qy8 {st:Af}{Q:Array Ai->Af->Prop}(O:yg M A E s G kz kd)(hk:kindOf st=kd)(m:Mg kz G a b)(ha:1<=a.size)(hb:1<=b.size)
  (h0:∀x y,a[0]?=some x->b[0]?=some y->kz y<kz x) (hl:∀x,a[a.size-1]?=some x->∀y∈b.toList,kz y<kz x) (h:∀r st',SameSt st st'->Jr kz a b r->Q r st'):wpS M A E s (quk a b) Q st:=by
 unfold quk;walk_at "tim lo";dsimp only;refine ax (g8 (dg ⟨rfl,?_⟩));obtain⟨y0,f1,f2,f3⟩:=xt (a:=b) (i:=0) ⋯;obtain⟨x0,e1,e2,e3⟩:=xt (a:=a) (i:=0) ⋯;refine ax (xu f1 ?_);have J0:LJA kz a b #[y0] 0 1:=by have:=Yz (out:=#[]) m ⟨by simpa using m.sa,by simpa using m.sb,by simp⟩ e2 f2 (h0 _ _ e1 f1);exact this
 refine xc (λc1=>?_) λc1=>?_
 .exact aB (h _ _ (SameSt.rfl' _) (W3 J0 (by simpa using c1)))
 refine xc (λc2=>?_) λc2=>?_
 .exact aB (h _ _ (SameSt.rfl' _) (u8 J0 (by simpa using c2) hl))
 have c1':1<b.size:=by
  have:¬ 0+1=b.size:=by simpa using c1
  lia
 have c2':0+1<a.size:=by
  have:¬ 0+1=a.size:=by simpa using c2
  lia
 refine ax (gv ?_);refine ax (eI (cg (I:=λt (c:Option (Array Ai)×Array Ai×Nat×Nat×Nat) st'=>SameSt st st'/\c.1=none/\LJA kz a b c.2.1 c.2.2.1 c.2.2.2.1/\c.2.2.1+1<a.size/\c.2.2.2.1<b.size/\t+1<=c.2.2.1+c.2.2.2.1)
  (Q:=λc st'=>SameSt st st'/\∃r,c.1=some r/\Jr kz a b r) ?step ?fin ⟨SameSt.rfl' _,rfl,J0,c2',c1',al 1⟩) ?post)
 case post =>
  rintro⟨r,c⟩ st' ⟨S,r',hr,F⟩;dsimp only at hr ⊢;subst hr;exact aB (h _ _ S F)
 case fin =>
  rintro⟨r,out,ia,ib,mg⟩ st' ⟨S,_,_,x1,x2,x3⟩;dsimp only at x1 x2 x3;lia
 case step =>
  rintro t ⟨r,out,ia,ib,mg⟩ st1 _ ht ⟨S1,hr,J,x1,x2,x3⟩;dsimp only at hr J x1 x2 x3 ⊢;subst hr;refine ax (eI (cg (I:=λx (c:Option (Array Ai)×Array Ai×Nat×Nat×Nat×Nat) st'=>SameSt st st'/\c.1=none/\LJA kz a b c.2.1 c.2.2.1 c.2.2.2.1/\c.2.2.1+1<a.size/\c.2.2.2.1<b.size/\t+1+x<=c.2.2.1+c.2.2.2.1)
   (Q:=λc st'=>SameSt st st'/\((c.1=none/\LJA kz a b c.2.1 c.2.2.1 c.2.2.2.1/\c.2.2.1+1<a.size/\c.2.2.2.1<b.size/\t+2<=c.2.2.1+c.2.2.2.1)\/∃r,c.1=some r/\Jr kz a b r)) ?sstep ?sfin ⟨S1,rfl,J,x1,x2,x3⟩) ?spost)
  case sfin =>
   rintro⟨r,out,ia,ib,ac,bc⟩ st' ⟨S,hr,J,x1,x2,x3⟩;dsimp only at hr J x1 x2 x3;exact⟨S,.inl ⟨hr,J,x1,x2,by dsimp only;lia⟩⟩
  case sstep =>
   rintro x ⟨r,out,ia,ib,ac,bc⟩ st2 _ hx ⟨S2,hr,J,x1,x2,x3⟩;dsimp only at hr J x1 x2 x3 ⊢;subst hr;obtain⟨u,u1,u2,u3⟩:=xt (a:=b) x2;obtain⟨v,v1,v2,v3⟩:=xt (a:=a) (i:=ia) ⋯;refine ax (xu u1 (ax (xu v1 ?_)));refine ax (O u v _ _ (m.gb u u3) (m.ga v v3) (S2.1.trans hk) ?_);dsimp only;refine xc (λc=>?_) λc=>?_
   .have c:=cL c;refine ax (xu u1 ?_);have J':=Yz m J v2 u2 c;refine xc (λd=>?_) λd=>?_
    .exact aB ⟨S2,.inr ⟨_,rfl,W3 J' (by simpa using d)⟩⟩
    have d':ib+1<b.size:=by
     have:¬ ib+1=b.size:=by simpa using d
     lia
    refine xc (λ_=>?_) λ_=>?_
    .exact aB ⟨S2,.inl ⟨rfl,J',x1,d',by dsimp only;lia⟩⟩
    .exact aB ⟨S2,rfl,J',x1,d',by dsimp only;lia⟩
   .have c:¬ (kz u<kz v):=by simpa using c
    refine ax (xu v1 ?_);have J':=Wm m J v2 u2 c;refine xc (λd=>?_) λd=>?_
    .exact aB ⟨S2,.inr ⟨_,rfl,u8 J' (by simpa using d) hl⟩⟩
    have d':ia+1+1<a.size:=by
     have:¬ ia+1+1=a.size:=by simpa using d
     lia
    refine xc (λ_=>?_) λ_=>?_
    .exact aB ⟨S2,.inl ⟨rfl,J',d',x2,by dsimp only;lia⟩⟩
    .exact aB ⟨S2,rfl,J',d',x2,by dsimp only;lia⟩
  case spost =>
   rintro⟨r,out,ia,ib,ac,bc⟩ st2 ⟨S2,hc|⟨r',hr,F⟩⟩
   case inr =>
    dsimp only at hr ⊢;subst hr;exact aB ⟨S2,r',rfl,F⟩
   obtain⟨hr,J,x1,x2,x3⟩:=hc;dsimp only at hr J x1 x2 x3 ⊢;subst hr;dsimp only;refine ax (g8 (dg ⟨rfl,?_⟩));refine ax (eI (cg (I:=λx (c:Option (Array Ai)×Array Ai×Nat×Nat×Nat×Nat×Nat) st'=>SameSt st st'/\c.1=none/\LJA kz a b c.2.1 c.2.2.1 c.2.2.2.1/\c.2.2.1+1<a.size/\c.2.2.2.1<b.size/\t+2<=c.2.2.1+c.2.2.2.1)
    (Q:=λc st'=>SameSt st st'/\((c.1=none/\LJA kz a b c.2.1 c.2.2.1 c.2.2.2.1/\c.2.2.1+1<a.size/\c.2.2.2.1<b.size/\t+2<=c.2.2.1+c.2.2.2.1)\/∃r,c.1=some r/\Jr kz a b r)) ?gstep ?gfin ⟨S2,rfl,J,x1,x2,x3⟩) ?gpost)
   case gfin =>
    rintro⟨r,out,ia,ib,mg,ac,bc⟩ st' ⟨S,hr,J,x1,x2,x3⟩;exact⟨S,.inl ⟨hr,J,x1,x2,x3⟩⟩
   case gpost =>
    rintro⟨r,out,ia,ib,mg,ac,bc⟩ st3 ⟨S3,hc|⟨r',hr,F⟩⟩
    .obtain⟨hr,J,x1,x2,x3⟩:=hc;dsimp only at hr J x1 x2 x3 ⊢;subst hr;dsimp only;refine ax (Yf λst4 S4=>?_);exact aB ⟨S3.trans S4,rfl,J,x1,x2,by dsimp only;lia⟩
    .dsimp only at hr ⊢;subst hr;exact aB ⟨S3,r',rfl,F⟩
   case gstep =>
    rintro x ⟨r,out,ia,ib,mg,ac,bc⟩ st3 _ hx ⟨S3,hr,J,x1,x2,x3⟩;dsimp only at hr J x1 x2 x3 ⊢;subst hr;obtain⟨u,u1,u2,u3⟩:=xt (a:=b) x2;revert mg;refine qux (λ_=>rfl) λmg=>?_
    all_goals
     refine ax (Yf λst4 S4=>?_);have S5:=S3.trans S4;refine ax (xu u1 ?_);refine ax (qwj O (S5.1.trans hk) (m.gb u u3) m.sa m.ga ⋯ ⋯ λk k1 k2 k3=>?_);have kl:k<a.size-ia:=by
      rcases bo k (a.size-ia) with z|z
      .exact z
      .exfalso;obtain⟨v,v1,v2,v3⟩:=xt (a:=a) (i:=a.size-1) ⋯;have:=ah_f (k2 (a.size-1-ia) v ⋯ (by rw[<-v2];congr 1;lia));have:=hl v v1 u u3;lia
     have J':=wuz (k:=k) m J u2 λi x hi ex=>ah_f (k2 i x hi ex);have nxt:∀x,a.toList[ia+k]?=some x->kz u<kz x:=λx ex=>xq1 (k3 k x (al _) kl ex)
     try dsimp only
     refine xc (λc=>?_) λc=>?_
     .refine xc (λd=>?_) λd=>?_
      .exact aB ⟨S5,.inr ⟨_,rfl,u8 J' (by simpa using d) hl⟩⟩
      have d':ia+k+1<a.size:=by
       have:¬ ia+k+1=a.size:=by simpa using d
       lia
      refine qjr (by simp;lia) ?_;have x3':t+2<=ia+k+ib:=by lia
      generalize out++a.extract ia (ia+k)=out at J' ⊢;generalize ia+k=ia at J' d' x3' nxt ⊢;obtain⟨v,v1,v2,v3⟩:=xt (a:=a) (i:=ia) ⋯;have J2:=Yz m J' v2 u2 (nxt v v2);refine ax (xu u1 ?_)
      try dsimp only
      refine xc (λd2=>?_) λd2=>?_
      .exact aB ⟨S5,.inr ⟨_,rfl,W3 J2 (by simpa using d2)⟩⟩
      have d2':ib+1<b.size:=by
       have:¬ ib+1=b.size:=by simpa using d2
       lia
      refine ax (xu v1 ?_);refine ax (qwj O (S5.1.trans hk) (m.ga v v3) m.sb m.gb ⋯ ⋯ λk k1 k2 k3=>?_);have J3:=wqy (k:=k) m J2 v2 λi x hi ex=>ah_t (k2 i x hi ex)
      try dsimp only
      refine xc (λc=>?_) λc=>?_
      .refine xc (λd=>?_) λd=>?_
       .exact aB ⟨S5,.inr ⟨_,rfl,W3 J3 (by simpa using d)⟩⟩
       have d3:ib+1+k<b.size:=by
        have:¬ ib+1+k=b.size:=by simpa using d
        lia
       obtain⟨u',w1,w2,w3⟩:=xt (a:=b) d3;have J4:=Wm m J3 v2 w2 (by have:=Zv (k3 k u' (al _) ⋯ w2);lia);refine ax (xu v1 ?_)
       try dsimp only
       refine xc (λd=>?_) λd=>?_
       .exact aB ⟨S5,.inr ⟨_,rfl,u8 J4 (by simpa using d) hl⟩⟩
       have d4:ia+1+1<a.size:=by
        have:¬ ia+1+1=a.size:=by simpa using d
        lia
       refine xc (λ_=>?_) λ_=>?_
       .exact aB ⟨S5,.inl ⟨rfl,J4,d4,d3,by dsimp only;lia⟩⟩
       .exact aB ⟨S5,rfl,J4,d4,d3,by dsimp only;lia⟩
      .obtain rfl:k=0:=by lia
       obtain⟨u',w1,w2,w3⟩:=xt (a:=b) d2';have J4:=Wm m J2 v2 w2 (by have:=Zv (k3 0 u' (al _) ⋯ w2);lia);refine ax (xu v1 ?_)
       try dsimp only
       refine xc (λd=>?_) λd=>?_
       .exact aB ⟨S5,.inr ⟨_,rfl,u8 J4 (by simpa using d) hl⟩⟩
       have d4:ia+1+1<a.size:=by
        have:¬ ia+1+1=a.size:=by simpa using d
        lia
       refine xc (λ_=>?_) λ_=>?_
       .exact aB ⟨S5,.inl ⟨rfl,J4,d4,d2',by dsimp only;lia⟩⟩
       .exact aB ⟨S5,rfl,J4,d4,d2',by dsimp only;lia⟩
     .obtain rfl:k=0:=by lia
      obtain⟨v,v1,v2,v3⟩:=xt (a:=a) (i:=ia) ⋯;have J2:=Yz m J v2 u2 (nxt v v2);refine ax (xu u1 ?_)
      try dsimp only
      refine xc (λd2=>?_) λd2=>?_
      .exact aB ⟨S5,.inr ⟨_,rfl,W3 J2 (by simpa using d2)⟩⟩
      have d2':ib+1<b.size:=by
       have:¬ ib+1=b.size:=by simpa using d2
       lia
      refine ax (xu v1 ?_);refine ax (qwj O (S5.1.trans hk) (m.ga v v3) m.sb m.gb ⋯ ⋯ λk k1 k2 k3=>?_);have J3:=wqy (k:=k) m J2 v2 λi x hi ex=>ah_t (k2 i x hi ex)
      try dsimp only
      refine xc (λc=>?_) λc=>?_
      .refine xc (λd=>?_) λd=>?_
       .exact aB ⟨S5,.inr ⟨_,rfl,W3 J3 (by simpa using d)⟩⟩
       have d3:ib+1+k<b.size:=by
        have:¬ ib+1+k=b.size:=by simpa using d
        lia
       obtain⟨u',w1,w2,w3⟩:=xt (a:=b) d3;have J4:=Wm m J3 v2 w2 (by have:=Zv (k3 k u' (al _) ⋯ w2);lia);refine ax (xu v1 ?_)
       try dsimp only
       refine xc (λd=>?_) λd=>?_
       .exact aB ⟨S5,.inr ⟨_,rfl,u8 J4 (by simpa using d) hl⟩⟩
       have d4:ia+1+1<a.size:=by
        have:¬ ia+1+1=a.size:=by simpa using d
        lia
       refine xc (λ_=>?_) λ_=>?_
       .exact aB ⟨S5,.inl ⟨rfl,J4,d4,d3,by dsimp only;lia⟩⟩
       .exact aB ⟨S5,rfl,J4,d4,d3,by dsimp only;lia⟩
      .obtain rfl:k=0:=by lia
       obtain⟨u',w1,w2,w3⟩:=xt (a:=b) d2';have J4:=Wm m J2 v2 w2 (by have:=Zv (k3 0 u' (al _) ⋯ w2);lia);refine ax (xu v1 ?_)
       try dsimp only
       refine xc (λd=>?_) λd=>?_
       .exact aB ⟨S5,.inr ⟨_,rfl,u8 J4 (by simpa using d) hl⟩⟩
       have d4:ia+1+1<a.size:=by
        have:¬ ia+1+1=a.size:=by simpa using d
        lia
       refine xc (λ_=>?_) λ_=>?_
       .exact aB ⟨S5,.inl ⟨rfl,J4,d4,d2',by dsimp only;lia⟩⟩
       .exact aB ⟨S5,rfl,J4,d4,d2',by dsimp only;lia⟩
end
end Tm
namespace Tm
open PySem PyProof.Rows
local macro_rules | `(tactic| walk_at "tim hi")=>do
 let n:=Lean.mkIdent (Lean.mkPrivateNameCore `PySem.Builtin.List.W1All `PySem.Builtin.mergeHi);`(tactic| unfold $n:ident)
section
variable {M:Model}{A:Ae}{E:Ag->Ab->Prop}{s:Ab}{G:Ai->Prop}{kz:Ai->Int}{kd:SortKind}{a b:Array Ai}
abbrev HJA (kz:Ai->Int)(a b:Array Ai)(na nb:Nat)(out:Array Ai):Prop:=HJ kz (a.toList++b.toList) (a.toList.take na) (b.toList.take nb) out.toList.reverse
theorem qym (a:Array Ai)(i:Nat):(a.extract 0 i).toList=a.toList.take i:=by rw[dZ];simp[List.extract]
theorem qjh (a:Array Ai)(i j:Nat):(a.extract i j).toList=(a.toList.drop i).take (j-i):=by rw[dZ]
theorem qzz (l:List Ai){i j:Nat}(h:i<=j):l.take j=l.take i++(l.drop i).take (j-i):=by rw[<-List.take_add];congr 1;lia
theorem qqv {l:List Ai}{i:Nat}{x:Ai}(h:l[i]?=some x):l.take (i+1)=l.take i++[x]:=by obtain⟨hi,rfl⟩:=ak.mp h;simp
theorem Yq {out:Array Ai}{nb:Nat}(h:HJA kz a b 0 nb out):Jr kz a b (a.extract 0 0++b.extract 0 nb++out.reverse):=by
 obtain⟨x,y,p⟩:=h;have e1:(a.extract 0 0++b.extract 0 nb++out.reverse).toList=b.toList.take nb++out.toList.reverse:=by rw[bO,bO,qym,qym];simp
 exact⟨by rw[e1];exact y,by rw[e1];simpa using p⟩
theorem uv {out:Array Ai}{na:Nat}(hb:1<=b.size)(h:HJA kz a b na 1 out)(hl:∀y,b[0]?=some y->∀x∈a.toList,kz y<kz x):Jr kz a b (b.extract 0 1++a.extract 0 na++out.reverse):=by
 obtain⟨x,y,p⟩:=h;obtain⟨z,z1,z2,z3⟩:=xt (a:=b) (i:=0) ⋯;have e1:(b.extract 0 1++a.extract 0 na++out.reverse).toList=b.toList.take 1++(a.toList.take na++out.toList.reverse):=by rw[bO,bO,qym,qym];simp
 have e2:b.toList.take 1=[z]:=by rw[qqv z2];simp
 rw[e2]at y p;refine⟨?_,?_⟩
 .rw[e1,e2];refine aZ.mpr ⟨b7 _ _,x,λu hu v hv=>?_⟩;rcases aU.mp hv with hv'|hv'
  .obtain rfl:=aH.mp hu;exact hl u z1 v (cC hv')
  .exact(aZ.mp y).2.2 u hu v hv'
 .rw[e1,e2];refine List.Perm.trans ?_ p;rw[<-aX,<-aX];exact cY _ dQ
theorem Z0 {out:Array Ai}{na nb:Nat}{x y:Ai}(m:Mg kz G a b)(h:HJA kz a b (na+1) (nb+1) out)(hx:a.toList[na]?=some x)(hy:b.toList[nb]?=some y)(c:kz y<kz x):HJA kz a b na (nb+1) (out.push x):=by
 have h':HJ kz (a.toList++b.toList) (a.toList.take na++[x]) (b.toList.take (nb+1)) out.toList.reverse:=by rw[<-qqv hx];exact h
 have:=h'.mvX λv hv u hu=>by obtain rfl:=aH.mp hu;obtain⟨j,hj,ej⟩:=Wz hv;have:=m.sb.le (show j<=nb by lia) ej hy;lia
 show HJ kz _ _ _ (out.push x).toList.reverse;rw[dv,fu];exact this
theorem qw1 {out:Array Ai}{na nb:Nat}{x y:Ai}(m:Mg kz G a b)(h:HJA kz a b (na+1) (nb+1) out)(hx:a.toList[na]?=some x)(hy:b.toList[nb]?=some y)(c:¬ kz y<kz x):HJA kz a b (na+1) nb (out.push y):=by
 have h':HJ kz (a.toList++b.toList) (a.toList.take (na+1)) (b.toList.take nb++[y]) out.toList.reverse:=by rw[<-qqv hy];exact h
 have ne:=m.ne x (aC hx) y (aC hy);have:=h'.mvY λv hv u hu=>by obtain rfl:=aH.mp hu;obtain⟨j,hj,ej⟩:=Wz hv;have:=m.sa.le (show j<=na by lia) ej hx;lia
 show HJ kz _ _ _ (out.push y).toList.reverse;rw[dv,fu];exact this
theorem xwj {out:Array Ai}{na nb p:Nat}{y:Ai}(m:Mg kz G a b)(h:HJA kz a b na (nb+1) out)(hp:p<=na)(hy:b.toList[nb]?=some y)(c:∀i x,p<=i->i<na->a.toList[i]?=some x->kz y<kz x):HJA kz a b p (nb+1) (out++(a.extract p na).reverse):=by
 have h':HJ kz (a.toList++b.toList) (a.toList.take p++(a.toList.drop p).take (na-p)) (b.toList.take (nb+1)) out.toList.reverse:=by rw[<-qzz _ hp];exact h
 have:=h'.mvX λv hv u hu=>by obtain⟨i,hi1,hi2,ei⟩:=W7 hu;obtain⟨j,hj,ej⟩:=Wz hv;have h1:=m.sb.le (show j<=nb by lia) ej hy;have h2:=c i u hi1 ⋯ ei;lia
 have e:(out++(a.extract p na).reverse).toList.reverse=(a.toList.drop p).take (na-p)++out.toList.reverse:=by rw[bO,Array.toList_reverse,qjh,fu,List.reverse_reverse]
 show HJ kz _ _ _ (out++(a.extract p na).reverse).toList.reverse;rw[e];exact this
theorem qu4 {out:Array Ai}{na nb p:Nat}{x:Ai}(m:Mg kz G a b)(h:HJA kz a b (na+1) nb out)(hp:p<=nb)(hx:a.toList[na]?=some x)(c:∀i y,p<=i->i<nb->b.toList[i]?=some y->kz x<=kz y):HJA kz a b (na+1) p (out++(b.extract p nb).reverse):=by
 have h':HJ kz (a.toList++b.toList) (a.toList.take (na+1)) (b.toList.take p++(b.toList.drop p).take (nb-p)) out.toList.reverse:=by rw[<-qzz _ hp];exact h
 have:=h'.mvY λv hv u hu=>by obtain⟨i,hi1,hi2,ei⟩:=W7 hu;obtain⟨j,hj,ej⟩:=Wz hv;have h1:=m.sa.le (show j<=na by lia) ej hx;have h2:=c i u hi1 ⋯ ei;have ne:=m.ne x (aC hx) u (aC ei);lia
 have e:(out++(b.extract p nb).reverse).toList.reverse=(b.toList.drop p).take (nb-p)++out.toList.reverse:=by rw[bO,Array.toList_reverse,qjh,fu,List.reverse_reverse]
 show HJ kz _ _ _ (out++(b.extract p nb).reverse).toList.reverse;rw[e];exact this
theorem wws {left:Bool}{key:Ai}{arr:Array Ai}{n hint:Nat}{st:Af}{Q:Option Nat->Af->Prop}(O:yg M A E s G kz kd)(hk:kindOf st=kd)(hG:G key)
  (sl:SL kz arr.toList) (hg:∀x∈arr.toList,G x) (hn:n<=arr.size) (hh:hint<n)
  (h:∀k,k<=n->(∀i x,i<k->arr.toList[i]?=some x->vv kz left key x=true)->(∀i x,k<=i->i<n->arr.toList[i]?=some x->vv kz left key x=false)->Q (some k) st) :
  wpS M A E s (Wr left key arr 0 n hint) Q st :=
 qwj O hk hG sl hg ⋯ hh λk k1 k2 k3=>h k k1 (λi x hi ex=>k2 i x hi (by rw[cx];exact ex)) λi x hi hi2 ex=>k3 i x hi hi2 (by rw[cx];exact ex)
theorem wq2 {st:Af}{Q:Array Ai->Af->Prop}(O:yg M A E s G kz kd)(hk:kindOf st=kd)(m:Mg kz G a b)(ha:1<=a.size)(hb:1<=b.size)
  (h0:∀y,b[0]?=some y->∀x∈a.toList,kz y<kz x) (hl:∀x,a[a.size-1]?=some x->∀y∈b.toList,kz y<kz x) (h:∀r st',SameSt st st'->Jr kz a b r->Q r st'):wpS M A E s (quj a b) Q st:=by
 unfold quj;walk_at "tim hi";dsimp only;refine ax (g8 (dg ⟨rfl,?_⟩));obtain⟨y0,f1,f2,f3⟩:=xt (a:=b) (i:=b.size-1) ⋯;obtain⟨x0,e1,e2,e3⟩:=xt (a:=a) (i:=a.size-1) ⋯;refine ax (xu e1 ?_);have tk:∀c:Array Ai,c.toList.take c.size=c.toList:=λc=>cI (by simp);have J0:HJA kz a b (a.size-1) b.size #[x0]:=by
  have st:HJA kz a b (a.size-1+1) (b.size-1+1) #[]:=by
   have ea:a.size-1+1=a.size:=by lia
   have eb:b.size-1+1=b.size:=by lia
   show HJ kz _ (a.toList.take (a.size-1+1)) (b.toList.take (b.size-1+1)) _;rw[ea,eb,tk,tk];exact⟨by simpa using m.sa,by simpa using m.sb,by simp⟩
  have:=Z0 m st e2 f2 (hl _ e1 _ f3);have eb:b.size-1+1=b.size:=by lia
  rw[eb]at this;exact this
 refine xc (λc1=>?_) λc1=>?_
 .have e:a.size-1=0:=by simpa using c1
  rw[e]at J0 ⊢;exact aB (h _ _ (SameSt.rfl' _) (Yq J0))
 refine xc (λc2=>?_) λc2=>?_
 .have e:b.size=1:=by simpa using c2
  rw[e]at J0 ⊢;exact aB (h _ _ (SameSt.rfl' _) (uv hb J0 h0))
 have c1':1<=a.size-1:=by
  have:¬ a.size-1=0:=by simpa using c1
  lia
 have c2':2<=b.size:=by
  have:¬ b.size=1:=by simpa using c2
  lia
 refine ax (gv ?_);refine ax (eI (cg (I:=λt (c:Option (Array Ai)×Nat×Nat×Array Ai×Nat) st'=>SameSt st st'/\c.1=none/\HJA kz a b c.2.1 c.2.2.1 c.2.2.2.1/\1<=c.2.1/\2<=c.2.2.1/\c.2.1<=a.size/\c.2.2.1<=b.size/\c.2.1+c.2.2.1+t+1<=a.size+b.size)
  (Q:=λc st'=>SameSt st st'/\∃r,c.1=some r/\Jr kz a b r) ?step ?fin ⟨SameSt.rfl' _,rfl,J0,c1',c2',by dsimp only;lia,al _,by dsimp only;lia⟩) ?post)
 case post =>
  rintro⟨r,c⟩ st' ⟨S,r',hr,F⟩;dsimp only at hr ⊢;subst hr;exact aB (h _ _ S F)
 case fin =>
  rintro⟨r,na,nb,out,mg⟩ st' ⟨S,_,_,x1,x2,_,_,x3⟩;dsimp only at x1 x2 x3;lia
 case step =>
  rintro t ⟨r,na,nb,out,mg⟩ st1 _ ht ⟨S1,hr,J,x1,x2,xa,xb,x3⟩;dsimp only at hr J x1 x2 xa xb x3 ⊢;subst hr;refine ax (eI (cg (I:=λx (c:Option (Array Ai)×Nat×Nat×Array Ai×Nat×Nat) st'=>SameSt st st'/\c.1=none/\HJA kz a b c.2.1 c.2.2.1 c.2.2.2.1/\1<=c.2.1/\2<=c.2.2.1/\c.2.1<=a.size/\c.2.2.1<=b.size/\c.2.1+c.2.2.1+t+1+x<=a.size+b.size)
   (Q:=λc st'=>SameSt st st'/\((c.1=none/\HJA kz a b c.2.1 c.2.2.1 c.2.2.2.1/\1<=c.2.1/\2<=c.2.2.1/\c.2.1<=a.size/\c.2.2.1<=b.size/\c.2.1+c.2.2.1+t+2<=a.size+b.size)\/∃r,c.1=some r/\Jr kz a b r)) ?sstep ?sfin ⟨S1,rfl,J,x1,x2,xa,xb,x3⟩) ?spost)
  case sfin =>
   rintro⟨r,na,nb,out,ac,bc⟩ st' ⟨S,hr,J,x1,x2,xa,xb,x3⟩;dsimp only at hr J x1 x2 xa xb x3;exact⟨S,.inl ⟨hr,J,x1,x2,xa,xb,by dsimp only;lia⟩⟩
  case sstep =>
   rintro x ⟨r,na,nb,out,ac,bc⟩ st2 _ hx ⟨S2,hr,J,x1,x2,xa,xb,x3⟩;dsimp only at hr J x1 x2 xa xb x3 ⊢;subst hr;obtain⟨na,rfl⟩:∃n,na=n+1:=⟨na-1,⋯⟩;obtain⟨nb,rfl⟩:∃n,nb=n+1:=⟨nb-1,⋯⟩;dsimp only [Nat.add_one_sub_one];obtain⟨u,u1,u2,u3⟩:=xt (a:=b) (i:=nb) ⋯;obtain⟨v,v1,v2,v3⟩:=xt (a:=a) (i:=na) ⋯;refine ax (xu u1 (ax (xu v1 ?_)));refine ax (O u v _ _ (m.gb u u3) (m.ga v v3) (S2.1.trans hk) ?_);dsimp only;refine xc (λc=>?_) λc=>?_
   .have c:=cL c;refine ax (xu v1 ?_);have J':=Z0 m J v2 u2 c;refine xc (λd=>?_) λd=>?_
    .have e:na=0:=by simpa using d
     subst e;exact aB ⟨S2,.inr ⟨_,rfl,Yq J'⟩⟩
    have d':1<=na:=by
     have:¬ na=0:=by simpa using d
     lia
    refine xc (λ_=>?_) λ_=>?_
    .exact aB ⟨S2,.inl ⟨rfl,J',d',x2,by dsimp only;lia,xb,by dsimp only;lia⟩⟩
    .exact aB ⟨S2,rfl,J',d',x2,by dsimp only;lia,xb,by dsimp only;lia⟩
   .have c:¬ (kz u<kz v):=by simpa using c
    refine ax (xu u1 ?_);have J':=qw1 m J v2 u2 c;refine xc (λd=>?_) λd=>?_
    .have e:nb=1:=by simpa using d
     subst e;exact aB ⟨S2,.inr ⟨_,rfl,uv hb J' h0⟩⟩
    have d':2<=nb:=by
     have:¬ nb=1:=by simpa using d
     lia
    refine xc (λ_=>?_) λ_=>?_
    .exact aB ⟨S2,.inl ⟨rfl,J',x1,d',xa,by dsimp only;lia,by dsimp only;lia⟩⟩
    .exact aB ⟨S2,rfl,J',x1,d',xa,by dsimp only;lia,by dsimp only;lia⟩
  case spost =>
   rintro⟨r,na,nb,out,ac,bc⟩ st2 ⟨S2,hc|⟨r',hr,F⟩⟩
   case inr =>
    dsimp only at hr ⊢;subst hr;exact aB ⟨S2,r',rfl,F⟩
   obtain⟨hr,J,x1,x2,xa,xb,x3⟩:=hc;dsimp only at hr J x1 x2 xa xb x3 ⊢;subst hr;dsimp only;refine ax (g8 (dg ⟨rfl,?_⟩));refine ax (eI (cg (I:=λx (c:Option (Array Ai)×Nat×Nat×Array Ai×Nat×Nat×Nat) st'=>SameSt st st'/\c.1=none/\HJA kz a b c.2.1 c.2.2.1 c.2.2.2.1/\1<=c.2.1/\2<=c.2.2.1/\c.2.1<=a.size/\c.2.2.1<=b.size/\c.2.1+c.2.2.1+t+2<=a.size+b.size)
    (Q:=λc st'=>SameSt st st'/\((c.1=none/\HJA kz a b c.2.1 c.2.2.1 c.2.2.2.1/\1<=c.2.1/\2<=c.2.2.1/\c.2.1<=a.size/\c.2.2.1<=b.size/\c.2.1+c.2.2.1+t+2<=a.size+b.size)\/∃r,c.1=some r/\Jr kz a b r)) ?gstep ?gfin ⟨S2,rfl,J,x1,x2,xa,xb,x3⟩) ?gpost)
   case gfin =>
    rintro⟨r,na,nb,out,mg,ac,bc⟩ st' ⟨S,hr,J,x1,x2,xa,xb,x3⟩;exact⟨S,.inl ⟨hr,J,x1,x2,xa,xb,x3⟩⟩
   case gpost =>
    rintro⟨r,na,nb,out,mg,ac,bc⟩ st3 ⟨S3,hc|⟨r',hr,F⟩⟩
    .obtain⟨hr,J,x1,x2,xa,xb,x3⟩:=hc;dsimp only at hr J x1 x2 xa xb x3 ⊢;subst hr;dsimp only;refine ax (Yf λst4 S4=>?_);exact aB ⟨S3.trans S4,rfl,J,x1,x2,xa,xb,by dsimp only;lia⟩
    .dsimp only at hr ⊢;subst hr;exact aB ⟨S3,r',rfl,F⟩
   case gstep =>
    rintro x ⟨r,na,nb,out,mg,ac,bc⟩ st3 _ hx ⟨S3,hr,J,x1,x2,xa,xb,x3⟩;dsimp only at hr J x1 x2 xa xb x3 ⊢;subst hr;obtain⟨nb,rfl⟩:∃n,nb=n+1:=⟨nb-1,⋯⟩;dsimp only [Nat.add_one_sub_one];obtain⟨u,u1,u2,u3⟩:=xt (a:=b) (i:=nb) ⋯;revert mg;refine qux (λ_=>rfl) λmg=>?_
    all_goals
     refine ax (Yf λst4 S4=>?_);have S5:=S3.trans S4;refine ax (xu u1 ?_);refine ax (wws O (S5.1.trans hk) (m.gb u u3) m.sa m.ga xa ⋯ λp k1 k2 k3=>?_);have J':=xwj m J k1 u2 λi x hi hi2 ex=>xq1 (k3 i x hi hi2 ex)
     try dsimp only
     by_cases c:na-p>0
     case pos =>
      rw[aw c];refine xc (λd=>?_) λd=>?_
      .have e:p=0:=by simpa using d
       subst e;exact aB ⟨S5,.inr ⟨_,rfl,Yq J'⟩⟩
      have d':1<=p:=by
       have:¬ p=0:=by simpa using d
       lia
      have prv:∀x,a.toList[p-1]?=some x->¬ kz u<kz x:=λx ex=>by have:=ah_f (k2 (p-1) x ⋯ ex);lia
      have xa':p<=a.size:=by lia
      have x3':p+(nb+1)+t+2<=a.size+b.size:=by lia
      generalize out++(a.extract p na).reverse=out at J' ⊢;obtain⟨na,rfl⟩:∃n,p=n+1:=⟨p-1,⋯⟩;dsimp only [Nat.add_one_sub_one]at prv ⊢;obtain⟨v,v1,v2,v3⟩:=xt (a:=a) (i:=na) ⋯;have J2:=qw1 m J' v2 u2 (prv v v2);refine ax (xu u1 ?_)
      try dsimp only
      refine xc (λd2=>?_) λd2=>?_
      .have e:nb=1:=by simpa using d2
       subst e;exact aB ⟨S5,.inr ⟨_,rfl,uv hb J2 h0⟩⟩
      have d2':2<=nb:=by
       have:¬ nb=1:=by simpa using d2
       lia
      refine ax (xu v1 ?_);refine ax (wws O (S5.1.trans hk) (m.ga v v3) m.sb m.gb ⋯ ⋯ λq k1 k2 k3=>?_);have J3:=qu4 m J2 k1 v2 λi x hi hi2 ex=>Zv (k3 i x hi hi2 ex);have q1:1<=q:=by
       rcases bo 0 q with z|z
       .exact z
       .exfalso;obtain⟨w,w1,w2,w3⟩:=xt (a:=b) (i:=0) ⋯;have:=Zv (k3 0 w ⋯ ⋯ w2);have:=h0 w w1 v v3;lia
      have prv2:∀y,b.toList[q-1]?=some y->kz y<kz v:=λy ey=>ah_t (k2 (q-1) y ⋯ ey)
      try dsimp only
      by_cases c:nb-q>0
      case' pos =>
       rw[aw c];refine xc (λd=>?_) λd=>?_
       .have e:q=1:=by simpa using d
        subst e;exact aB ⟨S5,.inr ⟨_,rfl,uv hb J3 h0⟩⟩
       refine qjr (by simp;lia) ?_;have d3:2<=q:=by
        have:¬ q=1:=by simpa using d
        lia
       have d5:q<=nb:=k1;generalize out.push u++(b.extract q nb).reverse=out2 at J3 ⊢
      case' neg =>
       rw[ar c];obtain rfl:q=nb:=by lia
       have d3:2<=q:=d2';have d5:q<=q:=k1;clear J3;have J3:=J2;generalize out.push u=out2 at J3 ⊢
      all_goals
       obtain⟨q,rfl⟩:∃n,q=n+1:=⟨q-1,⋯⟩;dsimp only [Nat.add_one_sub_one]at prv2;obtain⟨w,w1,w2,w3⟩:=xt (a:=b) (i:=q) ⋯;have J4:=Z0 m J3 v2 w2 (prv2 w w2);refine ax (xu v1 ?_)
       try dsimp only
       refine xc (λd=>?_) λd=>?_
       .have e:na=0:=by simpa using d
        subst e;exact aB ⟨S5,.inr ⟨_,rfl,Yq J4⟩⟩
       have d4:1<=na:=by
        have:¬ na=0:=by simpa using d
        lia
       refine xc (λ_=>?_) λ_=>?_
       .exact aB ⟨S5,.inl ⟨rfl,J4,d4,d3,by dsimp only;lia,by dsimp only;lia,by dsimp only;lia⟩⟩
       .exact aB ⟨S5,rfl,J4,d4,d3,by dsimp only;lia,by dsimp only;lia,by dsimp only;lia⟩
     case neg =>
      rw[ar c];obtain rfl:p=na:=by lia
      have prv:∀x,a.toList[p-1]?=some x->¬ kz u<kz x:=λx ex=>by have:=ah_f (k2 (p-1) x ⋯ ex);lia
      clear J';have J':=J;obtain⟨na,rfl⟩:∃n,p=n+1:=⟨p-1,⋯⟩;dsimp only [Nat.add_one_sub_one]at prv ⊢;obtain⟨v,v1,v2,v3⟩:=xt (a:=a) (i:=na) ⋯;have J2:=qw1 m J' v2 u2 (prv v v2);refine ax (xu u1 ?_)
      try dsimp only
      refine xc (λd2=>?_) λd2=>?_
      .have e:nb=1:=by simpa using d2
       subst e;exact aB ⟨S5,.inr ⟨_,rfl,uv hb J2 h0⟩⟩
      have d2':2<=nb:=by
       have:¬ nb=1:=by simpa using d2
       lia
      refine ax (xu v1 ?_);refine ax (wws O (S5.1.trans hk) (m.ga v v3) m.sb m.gb ⋯ ⋯ λq k1 k2 k3=>?_);have J3:=qu4 m J2 k1 v2 λi x hi hi2 ex=>Zv (k3 i x hi hi2 ex);have q1:1<=q:=by
       rcases bo 0 q with z|z
       .exact z
       .exfalso;obtain⟨w,w1,w2,w3⟩:=xt (a:=b) (i:=0) ⋯;have:=Zv (k3 0 w ⋯ ⋯ w2);have:=h0 w w1 v v3;lia
      have prv2:∀y,b.toList[q-1]?=some y->kz y<kz v:=λy ey=>ah_t (k2 (q-1) y ⋯ ey)
      try dsimp only
      by_cases c:nb-q>0
      case' pos =>
       rw[aw c];refine xc (λd=>?_) λd=>?_
       .have e:q=1:=by simpa using d
        subst e;exact aB ⟨S5,.inr ⟨_,rfl,uv hb J3 h0⟩⟩
       refine qjr (by simp;lia) ?_;have d3:2<=q:=by
        have:¬ q=1:=by simpa using d
        lia
       have d5:q<=nb:=k1;generalize out.push u++(b.extract q nb).reverse=out2 at J3 ⊢
      case' neg =>
       rw[ar c];obtain rfl:q=nb:=by lia
       have d3:2<=q:=d2';have d5:q<=q:=k1;clear J3;have J3:=J2;generalize out.push u=out2 at J3 ⊢
      all_goals
       obtain⟨q,rfl⟩:∃n,q=n+1:=⟨q-1,⋯⟩;dsimp only [Nat.add_one_sub_one]at prv2;obtain⟨w,w1,w2,w3⟩:=xt (a:=b) (i:=q) ⋯;have J4:=Z0 m J3 v2 w2 (prv2 w w2);refine ax (xu v1 ?_)
       try dsimp only
       refine xc (λd=>?_) λd=>?_
       .have e:na=0:=by simpa using d
        subst e;exact aB ⟨S5,.inr ⟨_,rfl,Yq J4⟩⟩
       have d4:1<=na:=by
        have:¬ na=0:=by simpa using d
        lia
       refine xc (λ_=>?_) λ_=>?_
       .exact aB ⟨S5,.inl ⟨rfl,J4,d4,d3,by dsimp only;lia,by dsimp only;lia,by dsimp only;lia⟩⟩
       .exact aB ⟨S5,rfl,J4,d4,d3,by dsimp only;lia,by dsimp only;lia,by dsimp only;lia⟩
end
end Tm
namespace Tm
open PySem PyProof.Rows
section
variable {M:Model}{A:Ae}{E:Ag->Ab->Prop}{s:Ab}{G:Ai->Prop}{kz:Ai->Int}{kd:SortKind}
def Srt (kz:Ai->Int)(xs:Array Ai)(lo hi:Nat):Prop:=∀i j x y,lo<=i->i<j->j<hi->xs[i]?=some x->xs[j]?=some y->kz x<kz y
def Dsc (kz:Ai->Int)(xs:Array Ai)(lo hi:Nat):Prop:=∀i j x y,lo<=i->i<j->j<hi->xs[i]?=some x->xs[j]?=some y->kz y<kz x
structure Un (kz:Ai->Int)(G:Ai->Prop)(xs:Array Ai):Prop where
 ne:xs.toList.Pairwise λx y=>kz x≠kz y
 g:∀x∈xs.toList,G x
theorem Un.perm {xs ys:Array Ai}(u:Un kz G xs)(p:ys.Perm xs):Un kz G ys:=by have p':=dL.mp p;exact⟨(p'.pairwise_iff (λ{a b} h=>dD h)).mpr u.ne,λx hx=>u.g x (p'.mem_iff.mp hx)⟩
theorem Un.at_ {xs:Array Ai}(u:Un kz G xs){i:Nat}(h:i<xs.size):∃x,xs[i]?=some x/\G x:=by obtain⟨x,e1,_,e3⟩:=xt h;exact⟨x,e1,u.g x e3⟩
theorem Un.ne_at {xs:Array Ai}(u:Un kz G xs){i j:Nat}{x y:Ai}(hij:i<j)(hx:xs[i]?=some x)(hy:xs[j]?=some y):kz x≠kz y:=by rw[<-aL]at hx hy;obtain⟨hi,rfl⟩:=ak.mp hx;obtain⟨hj,rfl⟩:=ak.mp hy;exact br.mp u.ne i j hi hj hij
theorem Jw {st:Af}{i j:Nat}{x y:Ai}{Q:Option Bool->Af->Prop}(O:yg M A E s G kz kd)(hk:kindOf st=kd)(hx:(arrOf st)[i]?=some x)(hy:(arrOf st)[j]?=some y)(gx:G x)(gy:G y)
  (h:Q (some (decide (kz x<kz y))) st):wpS M A E s (ltAt' i j) Q st:=by
 rw[ltAt'_eq];refine ax (gv ?_);exact ax (xu hx (ax (xu hy (O _ _ _ _ gx gy hk h))))
structure Ip (lo:Nat)(st st':Af):Prop where
 k:kindOf st'=kindOf st
 p:pendingOf st'=pendingOf st
 f:failedOf st'=failedOf st
 a:(arrOf st').Perm (arrOf st)
 low:∀i,i<lo->(arrOf st')[i]?=(arrOf st)[i]?
theorem Ip.rfl' (lo:Nat)(st:Af):Ip lo st st:=⟨rfl,rfl,rfl,.refl _,λ_ _=>rfl⟩
theorem Ip.trans {lo:Nat}{a b c:Af}(h:Ip lo a b)(k:Ip lo b c):Ip lo a c:=⟨k.k.trans h.k,k.p.trans h.p,k.f.trans h.f,k.a.trans h.a,λi hi=>(k.low i hi).trans (h.low i hi)⟩
theorem ip_bub {lo src d:Nat}{st:Af}(h:src<(arrOf st).size)(hd:lo+d<=src):Ip lo st (setArr st (bubble (arrOf st) src d)):=by refine⟨rfl,rfl,rfl,bubble_perm _ _ _,λi hi=>?_⟩;show(bubble (arrOf st) src d)[i]?=_;rw[getElem?_bubble h d ⋯,ar ⋯,ar ⋯]
theorem ip_mir {lo i j:Nat}{st:Af}(hj:j<=(arrOf st).size)(hi:lo<=i):Ip lo st (setArr st (mirror (arrOf st) i j ((j-i)/2))):=by refine⟨rfl,rfl,rfl,mirror_perm _ _ _ _,λk hk=>?_⟩;show(mirror (arrOf st) i j ((j-i)/2))[k]?=_;rw[getElem?_mirror_all hj,ar ⋯]
theorem Srt.one (xs:Array Ai)(lo:Nat):Srt kz xs lo (lo+1):=λi j x y a b c _ _=>by lia
theorem Srt.snoc {xs:Array Ai}{lo hi:Nat}{x y:Ai}(h:Srt kz xs lo (hi+1))(hlo:lo<=hi)(hx:xs[hi]?=some x)(hy:xs[hi+1]?=some y)(c:kz x<kz y):Srt kz xs lo (hi+1+1):=by
 intro i j u v a b d eu ev;by_cases e:j=hi+1
 .subst e;rw[hy]at ev;cases ev;by_cases e2:i=hi
  .subst e2;rw[hx]at eu;cases eu;exact c
  .have:=h i hi u x a ⋯ ⋯ eu hx;lia
 .exact h i j u v a b ⋯ eu ev
theorem Dsc.snoc {xs:Array Ai}{lo hi:Nat}{x y:Ai}(h:Dsc kz xs lo (hi+1))(hlo:lo<=hi)(hx:xs[hi]?=some x)(hy:xs[hi+1]?=some y)(c:kz y<kz x):Dsc kz xs lo (hi+1+1):=by
 intro i j u v a b d eu ev;by_cases e:j=hi+1
 .subst e;rw[hy]at ev;cases ev;by_cases e2:i=hi
  .subst e2;rw[hx]at eu;cases eu;exact c
  .have:=h i hi u x a ⋯ ⋯ eu hx;lia
 .exact h i j u v a b ⋯ eu ev
theorem Dsc.turn {xs:Array Ai}{lo n:Nat}(h:Dsc kz xs lo (lo+n))(hs:lo+n<=xs.size):Srt kz (mirror xs lo (lo+n) ((lo+n-lo)/2)) lo (lo+n):=by intro i j u v a b d eu ev;rw[getElem?_mirror_all hs,aw ⟨⋯,⋯⟩]at eu ev;exact h _ _ v u ⋯ ⋯ ⋯ ev eu
theorem xxb {st:Af}{lo n0 nrem:Nat}{f:Nat->Option (Option Nat)×Nat->StateT Af Sem (ForInStep (Option (Option Nat)×Nat))}{Q:Option (Option Nat)×Nat->Af->Prop}
  (hf:∀i n (R:ForInStep (Option (Option Nat)×Nat)->Af->Prop),1<=n->n<nrem->(∀x y,(arrOf st)[lo+n-1]?=some x->(arrOf st)[lo+n]?=some y->(kz y<kz x->R (.done (none,n)) st)/\(¬ kz y<kz x->R (.yield (none,n+1)) st))->wpS M A E s (f i (none,n)) R st)
  (u:Un kz G (arrOf st)) (h0:1<=n0) (hn:n0<=nrem) (hz:lo+nrem<=(arrOf st).size) (sr:Srt kz (arrOf st) lo (lo+n0))
  (h:∀n,n0<=n->n<=nrem->Srt kz (arrOf st) lo (lo+n)->(n=nrem\/∀x y,(arrOf st)[lo+n-1]?=some x->(arrOf st)[lo+n]?=some y->kz y<kz x)->Q (none,n) st) :
  wpS M A E s (forIn [n0:nrem] ((none,n0):Option (Option Nat)×Nat) f) Q st:=by
 refine cg (I:=λi (c:Option (Option Nat)×Nat) st'=>st'=st/\c=(none,i)/\n0<=i/\Srt kz (arrOf st) lo (lo+i)) ?step ?fin ⟨rfl,rfl,al _,sr⟩
 case fin =>
  rintro c st' ⟨rfl,rfl,x1,x2⟩;have e:max n0 nrem=nrem:=by lia
  rw[e]at x1 x2 ⊢;exact h _ x1 (al _) x2 (.inl rfl)
 case step =>
  rintro i c st' hi hi2 ⟨rfl,rfl,x1,x2⟩;refine hf _ _ _ ⋯ hi2 λx y ex ey=>⟨λc=>?_,λc=>?_⟩
  .refine h i x1 ⋯ x2 (.inr λx' y' ex' ey'=>?_);rw[ex]at ex';rw[ey]at ey';cases ex';cases ey';exact c
  .have ne:=u.ne_at (show lo+i-1<lo+i by lia) ex ey;refine⟨rfl,rfl,⋯,?_⟩;obtain⟨m,e⟩:∃m,lo+i=m+1:=⟨lo+i-1,⋯⟩;rw[show lo+(i+1)=m+1+1 by lia];rw[e]at x2 ey ex;exact x2.snoc ⋯ (by simpa using ex) ey ⋯
theorem wju {st:Af}{lo nrem:Nat}{Q:Option Nat->Af->Prop}(O:yg M A E s G kz kd)(hk:kindOf st=kd)(u:Un kz G (arrOf st))(h1:1<=nrem)(hz:lo+nrem<=(arrOf st).size)
  (h:∀n st',1<=n->n<=nrem->Ip lo st st'->Srt kz (arrOf st') lo (lo+n)->Q (some n) st'):wpS M A E s (countRun' lo nrem) Q st:=by
 rw[countRun'_eq];dsimp only;refine ax (xxb (lo:=lo) (n0:=1) (nrem:=nrem) (λi n R n1 n2 hR=>?_) u (al _) h1 hz (Srt.one _ _) λn n1 n2 sr hor=>?_)
 .obtain⟨x,ex,gx⟩:=u.at_ (i:=lo+n-1) ⋯;obtain⟨y,ey,gy⟩:=u.at_ (i:=lo+n) ⋯;have:=hR x y ex ey;dsimp only;refine ax (Jw O hk ey ex gy gx ?_);dsimp only;by_cases c:kz y<kz x
  .rw[aw (aS c)];exact aB (this.1 c)
  .rw[ar (by simpa using c)];exact aB (this.2 c)
 dsimp only;by_cases c:(n==nrem)=true
 .rw[aw c];exact aB (h n st n1 n2 (Ip.rfl' _ _) sr)
 rw[ar c];have c':n<nrem:=by
  have:¬ n=nrem:=by simpa using c
  lia
 by_cases c2:n>1
 .rw[aw c2];obtain⟨x,ex,gx⟩:=u.at_ (i:=lo) ⋯;obtain⟨y,ey,gy⟩:=u.at_ (i:=lo+n-1) ⋯;refine ax (Jw O hk ex ey gx gy ?_);dsimp only;rw[aw (aS (sr lo (lo+n-1) x y (al _) ⋯ ⋯ ex ey))];exact aB (h n st n1 n2 (Ip.rfl' _ _) sr)
 rw[ar c2];obtain rfl:n=1:=by lia
 refine ax (g8 (dg ⟨rfl,?_⟩));have fall:=hor.resolve_left ⋯;have d0:Dsc kz (arrOf st) lo (lo+(1+1)):=by obtain⟨x,ex,gx⟩:=u.at_ (i:=lo) ⋯;obtain⟨y,ey,gy⟩:=u.at_ (i:=lo+1) ⋯;exact Dsc.snoc (hi:=lo) (λi j u v a b d _ _=>by lia) (al _) ex ey (fall x y (by simpa using ex) ey)
 refine ax (eI (cg (I:=λi (c:Option (Option Nat)×Nat×Nat) st'=>st'=st/\c=(none,i,0)/\2<=i/\i<=nrem/\Dsc kz (arrOf st) lo (lo+i))
  (Q:=λc st'=>st'=st/\∃i,c=(none,i,0)/\2<=i/\i<=nrem/\Dsc kz (arrOf st) lo (lo+i)) ?step ?fin ⟨rfl,rfl,al _,⋯,d0⟩) ?post)
 case fin =>
  rintro c st' ⟨rfl,rfl,x1,x2,x3⟩;exact⟨rfl,_,rfl,x1,x2,x3⟩
 case step =>
  rintro i c st' hi hi2 ⟨rfl,rfl,x1,x2,x3⟩;dsimp only;obtain⟨x,ex,gx⟩:=u.at_ (i:=lo+i-1) ⋯;obtain⟨y,ey,gy⟩:=u.at_ (i:=lo+i) ⋯;refine ax (Jw O hk ey ex gy gx ?_);dsimp only;have ne:=u.ne_at (show lo+i-1<lo+i by lia) ex ey;by_cases c:kz y<kz x
  .rw[aw (aS c)];rw[ar (be 0)];refine aB ⟨rfl,rfl,⋯,⋯,?_⟩;obtain⟨m,e⟩:∃m,lo+i=m+1:=⟨lo+i-1,⋯⟩;rw[show lo+(i+1)=m+1+1 by lia];rw[e]at x3 ey ex;exact x3.snoc ⋯ (by simpa using ex) ey c
  .rw[ar (by simpa using c)];refine ax (Jw O hk ex ey gx gy ?_);dsimp only;rw[aw (aS (show kz x<kz y by lia))];exact aB ⟨rfl,i,rfl,x1,x2,x3⟩
 case post =>
  rintro c st' ⟨rfl,i,rfl,x1,x2,x3⟩;dsimp only;rw[ar (be 0)];refine ax ?_;rw[reverseSlice'_eq];refine fN ?_;have ip:=ip_mir (lo:=lo) (i:=lo) (j:=lo+i) (st:=st') ⋯ (al _);have sr2:Srt kz (arrOf (setArr st' (mirror (arrOf st') lo (lo+i) ((lo+i-lo)/2)))) lo (lo+i):=x3.turn ⋯;generalize setArr st' (mirror (arrOf st') lo (lo+i) ((lo+i-lo)/2))=st2 at ip sr2 ⊢;have u2:=u.perm ip.a;have z2:(arrOf st2).size=(arrOf st').size:=ip.a.size_eq;refine ax (xxb (lo:=lo) (n0:=i) (nrem:=nrem) (λi n R n1 n2 hR=>?_) u2 ⋯ x2 ⋯ sr2 λn n1 n2 sr hor=>?_)
  .obtain⟨x,ex,gx⟩:=u2.at_ (i:=lo+n-1) ⋯;obtain⟨y,ey,gy⟩:=u2.at_ (i:=lo+n) ⋯;have:=hR x y ex ey;dsimp only;refine ax (Jw O (ip.k.trans hk) ey ex gy gx ?_);dsimp only;by_cases c:kz y<kz x
   .rw[aw (aS c)];exact aB (this.1 c)
   .rw[ar (by simpa using c)];exact aB (this.2 c)
  exact aB (h n st2 ⋯ n2 ip sr)
theorem xx7 {st:Af}{lo n ok:Nat}{Q:Bool->Af->Prop}(O:yg M A E s G kz kd)(hk:kindOf st=kd)(u:Un kz G (arrOf st))(h1:1<=ok)(hok:ok<=n)(hz:lo+n<=(arrOf st).size)(sr:Srt kz (arrOf st) lo (lo+ok))
  (h:∀st',Ip lo st st'->Srt kz (arrOf st') lo (lo+n)->Q true st'):wpS M A E s (binarySort' lo n ok) Q st:=by
 rw[binarySort'_eq];have em:max ok 1=ok:=by lia
 rw[em];refine ax (eI (cg (I:=λk c st'=>c=(none,())/\Ip lo st st'/\Srt kz (arrOf st') lo (lo+k)) (Q:=λc st'=>c=(none,())/\Ip lo st st'/\Srt kz (arrOf st') lo (lo+n)) ?step ?fin ⟨rfl,Ip.rfl' _ _,sr⟩) ?post)
 case fin =>
  rintro c st' ⟨rfl,x1,x2⟩;rw[show max ok n=n by lia]at x2;exact⟨rfl,x1,x2⟩
 case post =>
  rintro c st' ⟨rfl,x1,x2⟩;exact aB (h st' x1 x2)
 case step =>
  rintro k c st1 hk1 hk2 ⟨rfl,ip,s1⟩;dsimp only;have u1:=u.perm ip.a;have z1:(arrOf st1).size=(arrOf st).size:=ip.a.size_eq;obtain⟨x,ex,gx⟩:=u1.at_ (i:=lo+k) ⋯;refine ax (eI (cg (I:=λi (c:Option Bool×Nat×Nat) st'=>st'=st1/\c.1=none/\c.2.1<=c.2.2/\c.2.2<=k/\c.2.2-c.2.1<=k-i/\(∀j y,j<c.2.1->(arrOf st1)[lo+j]?=some y->kz y<kz x)/\(∀j y,c.2.2<=j->j<k->(arrOf st1)[lo+j]?=some y->kz x<kz y))
   (Q:=λc st'=>st'=st1/\∃l r,c=(none,l,r)/\l<=k/\(∀j y,j<l->(arrOf st1)[lo+j]?=some y->kz y<kz x)/\(∀j y,l<=j->j<k->(arrOf st1)[lo+j]?=some y->kz x<kz y)) ?step2 ?fin2 ⟨rfl,rfl,aT _,al _,by dsimp only;lia,λj y hj=>by dsimp only at hj;lia,λj y a b=>by dsimp only at a;lia⟩) ?post2)
  case fin2 =>
   rintro⟨r,a,b⟩ st' ⟨rfl,hr,y1,y2,y3,y4,y5⟩;dsimp only at hr y1 y2 y3 y4 y5;subst hr;have:a=b:=by lia
   subst this;exact⟨rfl,_,_,rfl,y2,y4,y5⟩
  case step2 =>
   rintro i ⟨r,a,b⟩ st' _ hi ⟨rfl,hr,y1,y2,y3,y4,y5⟩;dsimp only at hr y1 y2 y3 y4 y5 ⊢;subst hr;by_cases c:a>=b
   .rw[aw c];have:a=b:=by lia
    subst this;exact aB ⟨rfl,_,_,rfl,y2,y4,y5⟩
   rw[ar c];obtain⟨y,ey,gy⟩:=u1.at_ (i:=lo+(a+b)/2) ⋯;refine ax (Jw O (ip.k.trans hk) ex ey gx gy ?_);dsimp only;have ne:=u1.ne_at (show lo+(a+b)/2<lo+k by lia) ey ex;have mon:∀j j' z z',j<=j'->j'<k->(arrOf st')[lo+j]?=some z->(arrOf st')[lo+j']?=some z'->kz z<=kz z':=λj j' z z' h1 h2 e1 e2=>by
    rcases bo j j' with c|c
    .exact fZ (s1 (lo+j) (lo+j') z z' ⋯ ⋯ ⋯ e1 e2)
    .obtain rfl:j=j':=by lia
     rw[e1]at e2;cases e2;exact cB _
   by_cases d:kz x<kz y
   .rw[aw (aS d)];refine aB ⟨rfl,rfl,by dsimp only;lia,by dsimp only;lia,by dsimp only;lia,y4,λj z hj hj2 ez=>?_⟩;have:=mon _ _ _ _ hj hj2 ey ez;lia
   .rw[ar (by simpa using d)];refine aB ⟨rfl,rfl,by dsimp only;lia,y2,by dsimp only;lia,λj z hj ez=>?_,y5⟩;dsimp only at hj;have:=mon j ((a+b)/2) _ _ ⋯ ⋯ ez ey;lia
  case post2 =>
   rintro c st' ⟨rfl,l,r,rfl,hl,b1,b2⟩;dsimp only;refine ax ?_;rw[moveDown'_eq];refine fN ?_;have ed:lo+k-(lo+l)=k-l:=by lia
   rw[ed];refine aB ⟨rfl,ip.trans (ip_bub ⋯ ⋯),?_⟩;show Srt kz (bubble (arrOf st') (lo+k) (k-l)) lo (lo+(k+1));intro i j p q h1 h2 h3 ep eq;rw[getElem?_bubble ⋯ (k-l) ⋯]at ep eq;have e4:lo+k-(k-l)=lo+l:=by lia
   rw[e4]at ep eq;by_cases c1:i=lo+l
   .rw[aw c1,ex]at ep;cases ep;rw[ar ⋯,aw ⟨⋯,⋯⟩]at eq;exact b2 (j-1-lo) q ⋯ ⋯ (by rw[<-eq];congr 1;lia)
   .rw[ar c1]at ep;by_cases c2:j=lo+l
    .rw[aw c2,ex]at eq;cases eq;rw[ar ⋯]at ep;exact b1 (i-lo) p ⋯ (by rw[<-ep];congr 1;lia)
    .rw[ar c2]at eq;by_cases c3:lo+l<i/\i<=lo+k
     .rw[aw c3]at ep;rw[aw ⟨⋯,⋯⟩]at eq;exact s1 (i-1) (j-1) p q ⋯ ⋯ ⋯ ep eq
     .rw[ar c3]at ep;by_cases c4:lo+l<j/\j<=lo+k
      .rw[aw c4]at eq;have h5:=b1 (i-lo) p ⋯ (by rw[<-ep];congr 1;lia);have h6:=b2 (j-1-lo) q ⋯ ⋯ (by rw[<-eq];congr 1;lia);lia
      .rw[ar c4]at eq;exact s1 i j p q h1 h2 ⋯ ep eq
end
end Tm
namespace Tm
open PySem PyProof.Rows
local macro_rules | `(tactic| walk_at "tim at")=>do
 let n:=Lean.mkIdent (Lean.mkPrivateNameCore `PySem.Builtin.List.W1All `PySem.Builtin.mergeAt);`(tactic| unfold $n:ident)
section
variable {kz:Ai->Int}{G:Ai->Prop}
def Pend (kz:Ai->Int):List (Nat×Nat)->List (List Ai)->Nat->Prop
 |[],[],_=>True
 |q::ps,r::rs,lo=>q.1=lo/\q.2=r.length/\1<=r.length/\SL kz r/\Pend kz ps rs (lo+r.length)
 |[],_::_,_=>False
 |_::_,[],_=>False
def pr (q:Nat×Nat×Nat):Nat×Nat:=(q.1,q.2.1)
theorem Pend.len:∀ {ps:List (Nat×Nat)} {rs:List (List Ai)} {lo:Nat},Pend kz ps rs lo->ps.length=rs.length
 |[],[],_,_=>rfl
 |_::ps,_::rs,_,h=>by simp[Pend.len h.2.2.2.2]
 |[],_::_,_,h=>h.elim
 |_::_,[],_,h=>h.elim
theorem Pend.size:∀ {ps:List (Nat×Nat)} {rs:List (List Ai)} {lo:Nat},Pend kz ps rs lo->rs.length<=rs.flatten.length
 |[],[],_,_=>by simp
 |_::ps,r::rs,_,h=>by have:=Pend.size h.2.2.2.2;have:=h.2.2.1;simp only[cM,am,aQ];lia
 |[],_::_,_,h=>h.elim
 |_::_,[],_,h=>h.elim
theorem Pend.push:∀ {ps:List (Nat×Nat)} {rs:List (List Ai)} {lo:Nat} {r:List Ai} {q:Nat×Nat},Pend kz ps rs lo->q.1=lo+rs.flatten.length->q.2=r.length->1<=r.length->SL kz r->Pend kz (ps++[q]) (rs++[r]) lo
 |[],[],_,_,_,_,a,b,c,d=>⟨by simpa using a,b,c,d,trivial⟩
 |_::ps,r'::rs,_,_,_,h,a,b,c,d=>⟨h.1,h.2.1,h.2.2.1,h.2.2.2.1,Pend.push h.2.2.2.2 (by simp only[cM,am]at a;lia) b c d⟩
 |[],_::_,_,_,_,h,_,_,_,_=>h.elim
 |_::_,[],_,_,_,h,_,_,_,_=>h.elim
theorem Pend.split:∀(i:Nat) {p:List (Nat×Nat×Nat)} {rs:List (List Ai)} {lo:Nat},Pend kz (p.map pr) rs lo->i+1<p.length->∃p1 q1 q2 p2 rs1 RA RB rs2,p=p1++q1::q2::p2/\rs=rs1++RA::RB::rs2/\p1.length=i/\rs1.length=i/\q1.1=lo+rs1.flatten.length/\q1.2.1=RA.length/\q2.1=lo+rs1.flatten.length+RA.length/\q2.2.1=RB.length /\
  1<=RA.length/\1<=RB.length/\SL kz RA/\SL kz RB/\∀(RN:List Ai) (q:Nat×Nat×Nat),q.1=q1.1->q.2.1=RN.length->RN.length=RA.length+RB.length->SL kz RN->Pend kz ((p1++q::p2).map pr) (rs1++RN::rs2) lo
 |0,q1::q2::p2,RA::RB::rs2,lo,h,_=>by
  obtain⟨a1,a2,a3,a4,b1,b2,b3,b4,r⟩:=h;refine⟨[],q1,q2,p2,[],RA,RB,rs2,rfl,rfl,rfl,rfl,by simpa [pr] using a1,a2,by simpa [pr] using b1,b2,a3,b3,a4,b4,λRN q e1 e2 e3 e4=>⟨?_,e2,⋯,e4,?_⟩⟩
  .show q.1=lo;rw[e1];exact a1
  .rw[e3,<-Nat.add_assoc];exact r
 |i+1,q0::p,r0::rs,lo,h,hi=>by obtain⟨a1,a2,a3,a4,r⟩:=h;obtain⟨p1,q1,q2,p2,rs1,RA,RB,rs2,e1,e2,e3,e4,c1,c2,c3,c4,c5,c6,c7,c8,c9⟩:=Pend.split i r (by simpa using hi);refine⟨q0::p1,q1,q2,p2,r0::rs1,RA,RB,rs2,by rw[e1];rfl,by rw[e2];rfl,by simp[e3],by simp[e4],by rw[c1];simp only[cM,am];lia,c2,by rw[c3];simp only[cM,am];lia,c4,c5,c6,c7,c8,λRN q z1 z2 z3 z4=>?_⟩;exact⟨a1,a2,a3,a4,c9 RN q z1 z2 z3 z4⟩
 |0,[],_,_,_,hi=>by simp at hi
 |0,[_],_,_,_,hi=>by simp at hi
 |0,_::_::_,[],_,h,_=>h.elim
 |0,_::_::_,[_],_,h,_=>h.2.2.2.2.elim
 |i+1,[],_,_,_,hi=>by simp at hi
 |i+1,_::_,[],_,h,_=>h.elim
theorem Zc {xs:Array Ai}{P R S:List Ai}(h:xs.toList=P++(R++S)){i:Nat}(hi:i<R.length):xs[P.length+i]?=R[i]?:=by rw[<-aL,h,az ⋯,cS,aP hi]
theorem wz2 {g:Array Ai->Ai×Nat->Array Ai}{sa:Nat}(hg:∀xs p j,g xs (p,j)=xs.setIfInBounds (sa+j) p):∀(l:List Ai) (k:Nat) (xs:Array Ai),sa+k+l.length<=xs.size->∀i:Nat,((l.zipIdx k).foldl g xs)[i]?=if sa+k<=i/\i<sa+k+l.length then l[i-(sa+k)]? else xs[i]?
 |[],k,xs,h,i=>by rw[ar (by rw[eJ];lia)];rfl
 |p::l,k,xs,h,i=>by
  simp only[aQ]at h;rw[List.zipIdx_cons,List.foldl_cons,hg,wz2 hg l (k+1) _ (by rw[ir];lia)];simp only[aQ];by_cases c1:sa+(k+1)<=i/\i<sa+(k+1)+l.length
  .rw[aw c1,aw ⟨⋯,⋯⟩];obtain⟨d,hd⟩:∃d,i-(sa+k)=d+1:=⟨i-(sa+k)-1,⋯⟩;rw[hd,iD];congr 1;lia
  .rw[ar c1];by_cases c2:i=sa+k
   .subst c2;rw[aw ⟨al _,⋯⟩,gM,gH,aw rfl,aw ⋯];rfl
   .rw[ar ⋯,gH,ar ⋯]
theorem xvf {g:Array Ai->Ai×Nat->Array Ai}{sa:Nat}(hg:∀xs p j,g xs (p,j)=xs.setIfInBounds (sa+j) p){xs:Array Ai}{P R S l:List Ai}(h:xs.toList=P++(R++S))(hs:P.length=sa)(hl:l.length=R.length):(l.zipIdx.foldl g xs).toList=P++(l++S):=by
 have hz:xs.size=P.length+(R.length+S.length):=by rw[<-bf,h];simp
 refine bT λi=>?_;rw[aL,wz2 hg l 0 xs ⋯];by_cases c1:i<P.length
 .rw[ar ⋯,<-aL,h,aP c1,aP c1]
 .rw[az ⋯];by_cases c2:i-P.length<l.length
  .rw[aw ⟨⋯,⋯⟩,aP c2];congr 1;lia
  .rw[ar ⋯,az ⋯,<-aL,h,az ⋯,az ⋯,hl]
theorem wkd {xs:Array Ai}{P R S:List Ai}{i j:Nat}(h:xs.toList=P++(R++S))(hi:i=P.length)(hj:j=P.length+R.length):(xs.extract i j).toList=R:=by subst hi hj;rw[qjh,h,List.drop_left,cS,List.take_left]
theorem SL.app {X Y:List Ai}(hx:SL kz X)(hy:SL kz Y)(h:∀x∈X,∀y∈Y,kz x<kz y):SL kz (X++Y):=aZ.mpr ⟨hx,hy,h⟩
theorem SL.parts {X Y:List Ai}(h:SL kz (X++Y)):SL kz X/\SL kz Y/\∀x∈X,∀y∈Y,kz x<kz y:=aZ.mp h
end
section
variable {M:Model}{A:Ae}{E:Ag->Ab->Prop}{s:Ab}{G:Ai->Prop}{kz:Ai->Int}{kd:SortKind}
theorem wvv {left:Bool}{key:Ai}{arr:Array Ai}{n hint base:Nat}{P R S:List Ai}{st:Af}{Q:Option Nat->Af->Prop}(O:yg M A E s G kz kd)(hk:kindOf st=kd)(hG:G key)
  (hT:arr.toList=P++(R++S)) (hb:base=P.length) (hn:n=R.length) (sl:SL kz R) (hg:∀x∈R,G x) (hh:hint<n)
  (h:∀k,k<=R.length->(∀x∈R.take k,vv kz left key x=true)->(∀x∈R.drop k,vv kz left key x=false)->Q (some k) st) :
  wpS M A E s (Wr left key arr base n hint) Q st:=by
 subst hb hn;refine wv5 O hk hG (λi j x y h1 h2 h3 ex ey=>?_) (λi h1 h2=>?_) hh λk k1 k2 k3=>h k k1 (λx hx=>?_) λx hx=>?_
 .have e1:=Zc hT (i:=i-P.length) ⋯;have e2:=Zc hT (i:=j-P.length) ⋯;rw[show P.length+(i-P.length)=i by lia,ex]at e1;rw[show P.length+(j-P.length)=j by lia,ey]at e2;exact sl.lt ⋯ e1.symm e2.symm
 .have e1:=Zc hT (i:=i-P.length) ⋯;rw[show P.length+(i-P.length)=i by lia]at e1;have hi:i-P.length<R.length:=by lia
  rw[aa hi]at e1;exact⟨_,e1,hg _ (bJ _)⟩
 .obtain⟨j,hj,ej⟩:=Wz hx;exact k2 j x hj (by rw[Zc hT ⋯];exact ej)
 .obtain⟨j,hj,ej⟩:=Wy hx;have hj2:j<R.length:=(ak.mp ej).1;exact k3 j x hj hj2 (by rw[Zc hT hj2];exact ej)
theorem quw {st:Af}{i:Nat}{rs:List (List Ai)}{S:List Ai}{Q:Bool->Af->Prop}(O:yg M A E s G kz kd)(hk:kindOf st=kd)(hf:failedOf st=none)(u:Un kz G (arrOf st))
  (hT:(arrOf st).toList=rs.flatten++S) (Pd:Pend kz ((pendingOf st).toList.map pr) rs 0) (hi:i+1<rs.length)
  (h:∀st' rs',kindOf st'=kd->failedOf st'=none->(arrOf st').toList=rs'.flatten++S->rs'.flatten.Perm rs.flatten->Pend kz ((pendingOf st').toList.map pr) rs' 0->rs'.length+1=rs.length->Q true st'):wpS M A E s (mergeAt' i) Q st:=by
 have hpl:(pendingOf st).size=rs.length:=by have:=Pd.len;simpa using this
 obtain⟨p1,q1,q2,p2,rs1,RA,RB,rs2,e1,e2,e3,e4,c1,c2,c3,c4,c5,c6,c7,c8,c9⟩:=Pd.split i (by simp;lia);obtain⟨sa,na,pw⟩:=q1;obtain⟨sb,nb,pw2⟩:=q2;dsimp only at c1 c2 c3 c4 c9;rw[cx]at c1 c3;have g1:(pendingOf st)[i]?=some (sa,na,pw):=by rw[<-aL,e1,az ⋯,e3,gM];rfl
 have g2:(pendingOf st)[i+1]?=some (sb,nb,pw2):=by rw[<-aL,e1,az ⋯,e3,cS];rfl
 have g3:∀v,(((pendingOf st).setIfInBounds i v).eraseIdxIfInBounds (i+1)).toList=p1++v::p2:=λv=>by rw[Array.toList_eraseIdxIfInBounds,Array.toList_setIfInBounds,e1];rw[List.set_append_right _ _ ⋯,e3,gM,List.set_cons_zero,List.eraseIdx_append_of_length_le ⋯,e3,cS];rfl
 have hT2:(arrOf st).toList=rs1.flatten++(RA++(RB++(rs2.flatten++S))):=by rw[hT,e2];simp
 have hT3:(arrOf st).toList=(rs1.flatten++RA)++(RB++(rs2.flatten++S)):=by rw[hT2];simp
 have ne:∀x∈RA,∀y∈RB,kz x≠kz y:=by have:=u.ne;rw[hT2]at this;have:=(aZ.mp this).2.1;have:=(aZ.mp this).2.2;exactλx hx y hy=>this x hx y (ca _ hy)
 have gA:∀x∈RA,G x:=λx hx=>u.g x (by rw[hT2];simp[hx]);have gB:∀x∈RB,G x:=λx hx=>u.g x (by rw[hT2];simp[hx]);unfold mergeAt';walk_at "tim at";refine ax (gv ?_);rw[g1,g2];dsimp only;refine ax (m:=set _) (show wpS M A E s (set _) _ st from ?_);refine fN (f:=λ_=>SortSt.mk' (kindOf st) (arrOf st) (((pendingOf st).setIfInBounds i (sa,na+nb,pw)).eraseIdxIfInBounds (i+1)) (gallopOf st) (failedOf st)) ?_;have F:∀(st':Af) (RN:List Ai),kindOf st'=kd->failedOf st'=none->(arrOf st').toList=rs1.flatten++(RN++(rs2.flatten++S))->(pendingOf st').toList=p1++(sa,na+nb,pw)::p2->RN.Perm (RA++RB)->SL kz RN->Q true st':=λst' RN k1 k2 k3 k4 k5 k6=>by
  refine h st' (rs1++RN::rs2) k1 k2 (by rw[k3];simp) ?_ ?_ (by rw[e2];simp only[am,aQ];lia)
  .rw[e2];simp only[gK,cM];refine de _ ?_;rw[<-aX];exact cY _ k5
  .rw[k4];refine c9 RN _ rfl ?_ (by rw[k5.length_eq,am]) k6;dsimp only;rw[k5.length_eq,am,c2,c4]
 generalize hst1:SortSt.mk' (kindOf st) (arrOf st) (((pendingOf st).setIfInBounds i (sa,na+nb,pw)).eraseIdxIfInBounds (i+1)) (gallopOf st) (failedOf st)=st1;have d1:kindOf st1=kd:=by rw[<-hst1];exact hk
 have d2:failedOf st1=none:=by rw[<-hst1];exact hf
 have d3:arrOf st1=arrOf st:=by rw[<-hst1]
 have d4:(pendingOf st1).toList=p1++(sa,na+nb,pw)::p2:=by rw[<-hst1];exact g3 _
 clear hst1;obtain⟨y0,RB',rfl⟩:∃y0 RB',RB=y0::RB':=by
  cases RB with
  |nil=>simp at c6
  |cons a b=>exact⟨a,b,rfl⟩
 have ey:(arrOf st)[sb]?=some y0:=by have:=Zc hT3 (i:=0) (by simp);rw[Nat.add_zero,am]at this;rw[c3,this];rfl
 have m0:y0∈y0::RB':=.head _;refine ax (xu ey ?_);refine ax (wvv O d1 (gB y0 m0) hT2 c1 c2 c7 gA ⋯ λk k1 k2 k3=>?_);dsimp only;have lowY:∀y∈y0::RB',kz y0<=kz y:=λy hy=>by
  rcases aM.mp hy with rfl|z
  .exact cB _
  .exact fZ ((dM.mp c8).1 y z)
 by_cases z1:(na-k==0)=true
 .rw[aw z1];have e:na-k=0:=by simpa using z1
  refine aB (F st1 (RA++y0::RB') d1 d2 (by rw[d3,hT2];simp) d4 (.refl _) (c7.app c8 λx hx y hy=>?_));have:=ah_f (k2 x (by rw[cI ⋯];exact hx));have:=lowY y hy;have:=ne x hx y0 m0;lia
 rw[ar z1];have z1':k<na:=by
  have:¬ na-k=0:=by simpa using z1
  lia
 have hx9:RA.length-1<RA.length:=by lia
 have ex:(arrOf st)[sa+k+(na-k)-1]?=some RA[RA.length-1]:=by have:=Zc hT2 (i:=RA.length-1) hx9;rw[aa hx9]at this;rw[<-this];congr 1;lia
 have mx:RA[RA.length-1]∈RA:=bJ _;have lastA:∀x∈RA,kz x<=kz RA[RA.length-1]:=λx hx=>by obtain⟨j,hj⟩:=bS hx;have hj2:j<RA.length:=(ak.mp hj).1;exact c7.le (show j<=RA.length-1 by lia) hj (aa hx9)
 refine ax (xu ex ?_);refine ax (wvv O d1 (gA _ mx) hT3 (by rw[c3,am]) c4 c8 gB ⋯ λn n1 n2 n3=>?_);dsimp only;by_cases z2:(n==0)=true
 .rw[aw z2];have e:n=0:=by simpa using z2
  subst e;refine aB (F st1 (RA++y0::RB') d1 d2 (by rw[d3,hT2];simp) d4 (.refl _) (c7.app c8 λx hx y hy=>?_));have:=Zv (n3 y (by simpa using hy));have:=lastA x hx;have:=ne x hx y hy;lia
 rw[ar z2];have z2':1<=n:=by
  have:¬ n=0:=by simpa using z2
  lia
 generalize hRB:y0::RB'=RB at *;have tA:RA=RA.take k++RA.drop k:=(dc k RA).symm;have tB:RB=RB.take n++RB.drop n:=(dc n RB).symm;have hT4:(arrOf st).toList=(rs1.flatten++RA.take k)++(RA.drop k++(RB++(rs2.flatten++S))):=by
  rw[hT2];have e:RA++(RB++(rs2.flatten++S))=(RA.take k++RA.drop k)++(RB++(rs2.flatten++S)):=by rw[<-tA]
  rw[e];simp only[aX]
 have hT5:(arrOf st).toList=(rs1.flatten++RA)++(RB.take n++(RB.drop n++(rs2.flatten++S))):=by
  rw[hT3];have e:RB++(rs2.flatten++S)=(RB.take n++RB.drop n)++(rs2.flatten++S):=by rw[<-tB]
  rw[e];simp only[aX]
 have hT6:(arrOf st).toList=(rs1.flatten++RA.take k)++((RA.drop k++RB.take n)++(RB.drop n++(rs2.flatten++S))):=by
  rw[hT4];have e:RB++(rs2.flatten++S)=(RB.take n++RB.drop n)++(rs2.flatten++S):=by rw[<-tB]
  rw[e];simp only[aX]
 have xx:((arrOf st).extract (sa+k) sb).toList=RA.drop k:=wkd hT4 (by simp only[am,aY,bZ];lia) (by simp only[am,aY,bZ];lia);have yy:((arrOf st).extract sb (sb+n)).toList=RB.take n:=wkd hT5 (by simp only[am,aY,bZ];lia) (by simp only[am,aY,bZ];lia);have sA:SL kz (RA.take k++RA.drop k):=by rw[<-tA];exact c7
 have sB:SL kz (RB.take n++RB.drop n):=by rw[<-tB];exact c8
 obtain⟨a1,a2,a3⟩:=sA.parts;obtain⟨b1,b2,b3⟩:=sB.parts;have mg:Mg kz G ((arrOf st).extract (sa+k) sb) ((arrOf st).extract sb (sb+n)):=by
  refine⟨by rw[xx];exact a2,by rw[yy];exact b1,?_,?_,?_⟩
  .rw[xx,yy];exactλx hx y hy=>ne x (cR hx) y (cC hy)
  .rw[xx];exactλx hx=>gA x (cR hx)
  .rw[yy];exactλx hx=>gB x (cC hx)
 have xz:((arrOf st).extract (sa+k) sb).size=RA.length-k:=by rw[<-bf,xx,bZ]
 have yz:((arrOf st).extract sb (sb+n)).size=n:=by rw[<-bf,yy,aY];lia
 have h0:∀y,((arrOf st).extract sb (sb+n))[0]?=some y->∀x∈((arrOf st).extract (sa+k) sb).toList,kz y<kz x:=λy ey x hx=>by rw[<-aL,yy,<-hRB]at ey;rw[xx]at hx;obtain⟨n',rfl⟩:∃n',n=n'+1:=⟨n-1,⋯⟩;rw[List.take_succ_cons]at ey;cases ey;exact xq1 (k3 x hx)
 have hl:∀x,((arrOf st).extract (sa+k) sb)[((arrOf st).extract (sa+k) sb).size-1]?=some x->∀y∈((arrOf st).extract sb (sb+n)).toList,kz y<kz x:=λx ex y hy=>by rw[<-aL,xx,xz,di,show k+(RA.length-k-1)=RA.length-1 by lia,aa hx9]at ex;cases ex;rw[yy]at hy;exact ah_t (n2 y hy)
 have fin:∀(r:Array Ai) (st2:Af),SameSt st1 st2->Jr kz ((arrOf st).extract (sa+k) sb) ((arrOf st).extract sb (sb+n)) r->wpS M A E s (do
   modify λs=>setArr s (List.foldl (λa (x:Ai×Nat)=>a.setIfInBounds (sa+k+x.2) x.1) (arrOf s) r.toList.zipIdx)
   let s <-get
   pure (failedOf s).isNone) Q st2:=λr st2 S2 ⟨r1,r2⟩=>by
  rw[xx,yy]at r2;have hT7:(arrOf st2).toList=(rs1.flatten++RA.take k)++((RA.drop k++RB.take n)++(RB.drop n++(rs2.flatten++S))):=by rw[S2.2.1,d3];exact hT6
  have wr:=xvf (g:=λa (x:Ai×Nat)=>a.setIfInBounds (sa+k+x.2) x.1) (λ_ _ _=>rfl) (l:=r.toList) hT7 (by simp only[am,aY,bZ];lia) r2.length_eq;refine ax (fN ?_);refine ax (gv (aB ?_));have f9:failedOf (setArr st2 (List.foldl (λa (x:Ai×Nat)=>a.setIfInBounds (sa+k+x.2) x.1) (arrOf st2) r.toList.zipIdx))=none:=S2.2.2.2.trans d2;rw[f9];refine F _ (RA.take k++(r.toList++RB.drop n)) (S2.1.trans d1) f9 ?_ (by show(pendingOf st2).toList=_;rw[S2.2.2.1,d4]) ?_ ?_
  .show(List.foldl _ (arrOf st2) r.toList.zipIdx).toList=_;rw[wr];simp
  .conv=>rhs;rw[tA,tB]
   rw[aX];refine de _ ?_;rw[<-aX];exact cY _ r2
  .refine a1.app (r1.app b2 λx hx y hy=>?_) λx hx y hy=>?_
   .rcases aU.mp (r2.mem_iff.mp hx) with hx|hx
    .have:=Zv (n3 y hy);have:=lastA x (cR hx);have:=ne x (cR hx) y (cR hy);lia
    .exact b3 x hx y hy
   .have low:∀y∈RB,kz x<kz y:=λy hy=>by have:=ah_f (k2 x hx);have:=lowY y hy;have:=ne x (cC hx) y0 (by rw[<-hRB];exact .head _);lia
    rcases aU.mp hy with hy|hy
    .rcases aU.mp (r2.mem_iff.mp hy) with hy|hy
     .exact a3 x hx y hy
     .exact low y (cC hy)
    .exact low y (cR hy)
 have x1z:1<=((arrOf st).extract (sa+k) sb).size:=by rw[xz];lia
 have y1z:1<=((arrOf st).extract sb (sb+n)).size:=by rw[yz];lia
 by_cases z3:na-k<=n
 .rw[aw z3];refine ax (qy8 O d1 mg x1z y1z (λx y ex ey=>?_) hl λr st2 S2 Fn=>fin r st2 S2 Fn);rw[<-aL]at ex;exact h0 y ey x (aC ex)
 .rw[ar z3];exact ax (wq2 O d1 mg x1z y1z h0 hl λr st2 S2 Fn=>fin r st2 S2 Fn)
end
end Tm
namespace Tm
open PySem PyProof.Rows
section
variable {M:Model}{A:Ae}{E:Ag->Ab->Prop}{s:Ab}{G:Ai->Prop}{kz:Ai->Int}{kd:SortKind}
structure Wt (kz:Ai->Int)(kd:SortKind)(a₀:Array Ai)(st:Af)(rs:List (List Ai))(S:List Ai):Prop where
 k:kindOf st=kd
 f:failedOf st=none
 a:(arrOf st).Perm a₀
 t:(arrOf st).toList=rs.flatten++S
 p:Pend kz ((pendingOf st).toList.map pr) rs 0
theorem Wt.size {a₀:Array Ai}{st:Af}{rs:List (List Ai)}{S:List Ai}(w:Wt kz kd a₀ st rs S):rs.flatten.length+S.length=a₀.size:=by rw[<-w.a.size_eq,<-bf,w.t,am]
theorem Wt.pl {a₀:Array Ai}{st:Af}{rs:List (List Ai)}{S:List Ai}(w:Wt kz kd a₀ st rs S):(pendingOf st).size=rs.length:=by have:=w.p.len;simpa using this
theorem Wt.ip {a₀:Array Ai}{st st':Af}{rs:List (List Ai)}{S:List Ai}{lo:Nat}(w:Wt kz kd a₀ st rs S)(hlo:lo=rs.flatten.length)(i:Ip lo st st'):∃S',Wt kz kd a₀ st' rs S'/\S'.length=S.length:=by
 subst hlo;have e:(arrOf st').toList=rs.flatten++(arrOf st').toList.drop rs.flatten.length:=by
  conv=>lhs;rw[<-dc rs.flatten.length (arrOf st').toList]
  congr 1;refine bT λj=>?_;rw[dJ];split
  .rename_i h;rw[aL,i.low j h,<-aL,w.t,aP h]
  .rename_i h;rw[aR ⋯]
 refine⟨_,⟨i.k.trans w.k,i.f.trans w.f,i.a.trans w.a,e,by rw[i.p];exact w.p⟩,?_⟩;have z:=i.a.size_eq;have h1:=cr List.length w.t;rw[am,bf]at h1;rw[bZ,bf];lia
theorem wuu {xs:Array Ai}{P S:List Ai}{n:Nat}(h:xs.toList=P++S)(sr:Srt kz xs P.length (P.length+n))(hn:n<=S.length):SL kz (S.take n):=by
 refine br.mpr λi j hi hj hij=>?_;have hi':=hi;have hj':=hj;rw[aY]at hi' hj';refine sr (P.length+i) (P.length+j) _ _ ⋯ ⋯ ⋯ ?_ ?_
 .rw[<-aL,h,az ⋯,cS,ij,aa]
 .rw[<-aL,h,az ⋯,cS,ij,aa]
theorem Wt.push {a₀:Array Ai}{st:Af}{rs:List (List Ai)}{S:List Ai}{lo n:Nat}(w:Wt kz kd a₀ st rs S)(hlo:lo=rs.flatten.length)(h1:1<=n)(hn:n<=S.length)(sl:SL kz (S.take n)):Wt kz kd a₀ (setPending st ((pendingOf st).push (lo,n,0))) (rs++[S.take n]) (S.drop n):=by
 have el:(S.take n).length=n:=by rw[aY];lia
 refine⟨w.k,w.f,w.a,?_,?_⟩
 .show(arrOf st).toList=_;rw[w.t];simp
 .show Pend kz (((pendingOf st).push (lo,n,0)).toList.map pr) _ 0;rw[dv,aW];exact w.p.push (by rw[cx];exact hlo) el.symm ⋯ sl
theorem Wt.pow {a₀:Array Ai}{st:Af}{rs:List (List Ai)}{S:List Ai}{i pw:Nat}(w:Wt kz kd a₀ st rs S):Wt kz kd a₀ (setPending st ((pendingOf st).modify i λx=>(x.1,x.2.1,pw))) rs S:=by
 refine⟨w.k,w.f,w.a,w.t,?_⟩;show Pend kz (((pendingOf st).modify i λx=>(x.1,x.2.1,pw)).toList.map pr) rs 0;have e:((pendingOf st).modify i λx=>(x.1,x.2.1,pw)).toList.map pr=(pendingOf st).toList.map pr:=by
  refine bT λj=>?_;rw[aA,aA,aL,aL,Array.getElem?_modify];split
  .cases(pendingOf st)[j]? <;> rfl
  .rfl
 rw[e];exact w.p
theorem Yg {a₀:Array Ai}{st:Af}{Q:Unit->Af->Prop}(O:yg M A E s G kz kd)(u:Un kz G a₀)(hk:kindOf st=kd)(hf:failedOf st=none)(ha:arrOf st=a₀)(hp:pendingOf st=#[])
  (h:∀st',(arrOf st').Perm a₀->failedOf st'=none->SL kz (arrOf st').toList->Q () st'):wpS M A E s sortRuns' Q st:=by
 rw[sortRuns'_eq];dsimp only;refine ax (gv ?_);rw[ha];have w0:Wt kz kd a₀ st [] a₀.toList:=⟨hk,hf,by rw[ha],by rw[ha];rfl,by rw[hp];trivial⟩;have mrg:∀(st1:Af) (rs:List (List Ai)) (S:List Ai) (i:Nat) (R:Bool->Af->Prop),Wt kz kd a₀ st1 rs S->i+1<rs.length->(∀st' rs',Wt kz kd a₀ st' rs' S->rs'.flatten.length=rs.flatten.length->rs'.length+1=rs.length->R true st')->wpS M A E s (mergeAt' i) R st1:=λst1 rs S i R w hi hR =>
  quw O w.k w.f (u.perm w.a) w.t w.p hi λst' rs' k1 k2 k3 k4 k5 k6=>hR st' rs' ⟨k1,k2,by
   refine Array.Perm.trans (dL.mpr ?_) w.a
   rw[k3,w.t]
   exact cY _ k4,k3,k5⟩ k4.length_eq k6
 generalize minRun' a₀.size a₀.size 0=mr;have lp:∀(st1:Af) (rs:List (List Ai)) (S:List Ai) (z pw:Nat) (R:Option Unit×Unit->Af->Prop),Wt kz kd a₀ st1 rs S->(∀st' rs',Wt kz kd a₀ st' rs' S->rs'.flatten.length=rs.flatten.length->R (none,()) st') ->
   ∀f:Nat->Option Unit×Unit->StateT Af Sem (ForInStep (Option Unit×Unit)),(∀i st2 rs2 (R2:ForInStep (Option Unit×Unit)->Af->Prop),Wt kz kd a₀ st2 rs2 S->R2 (.done (none,())) st2->(∀st' rs',Wt kz kd a₀ st' rs' S->rs'.flatten.length=rs2.flatten.length->R2 (.yield (none,())) st')->wpS M A E s (f i (none,())) R2 st2)->wpS M A E s (forIn [:z] ((none,()):Option Unit×Unit) f) R st1:=λst1 rs S z pw R w hR f hf =>
  cg (I:=λi c st'=>c=(none,())/\∃rs',Wt kz kd a₀ st' rs' S/\rs'.flatten.length=rs.flatten.length) (λi c st' _ _ ⟨e,rs',w',l'⟩=>by
   subst e
   exact hf i st' rs' _ w' (hR st' rs' w' l') λst3 rs3 w3 l3=>⟨rfl,rs3,w3,l3.trans l'⟩) (λc st' ⟨e,rs',w',l'⟩=>by
   subst e
   exact hR st' rs' w' l') ⟨rfl,rs,w,rfl⟩
 have tail:∀(st1:Af) (rs:List (List Ai)) (S:List Ai) (lo n x:Nat),Wt kz kd a₀ st1 rs S->lo=rs.flatten.length->1<=n->n<=S.length->SL kz (S.take n)->x<=lo->(∃rs' S',Wt kz kd a₀ (setPending st1 ((pendingOf st1).push (lo,n,0))) rs' S'/\lo+n=rs'.flatten.length/\x+1<=lo+n):=λst1 rs S lo n x w hlo h1 hn sl hx =>
  ⟨_,_,w.push hlo h1 hn sl,by simp only[gK,cM,List.flatten_nil,bR,am,aY];lia,⋯⟩
 refine ax (eI (cg (I:=λx (c:Option Unit×Nat) st'=>c.1=none/\∃rs S,Wt kz kd a₀ st' rs S/\c.2=rs.flatten.length/\x<=c.2) (Q:=λc st'=>c.1=none/\∃rs,Wt kz kd a₀ st' rs []) ?step ?fin ⟨rfl,[],a₀.toList,w0,rfl,al _⟩) ?post)
 case fin =>
  rintro⟨r,lo⟩ st' ⟨hr,rs,S,w,e,hx⟩;dsimp only at e hx hr;have z:=w.size;have:S=[]:=eC ⋯;subst this;exact⟨hr,rs,w⟩
 case step =>
  rintro x ⟨r,lo⟩ st1 _ hx ⟨hr,rs,S,w,e,hx2⟩;dsimp only at e hx2 hr ⊢;subst hr;have z:=w.size;by_cases c:lo>=a₀.size
  .rw[aw c];have:S=[]:=eC ⋯;subst this;exact aB ⟨rfl,rs,w⟩
  rw[ar c];refine ax (wju O w.k (u.perm w.a) ⋯ (by rw[w.a.size_eq];lia) λn st2 n1 n2 ip sr=>?_);obtain⟨S2,w2,z2⟩:=w.ip e ip;have sl2:SL kz (S2.take n):=wuu w2.t (by rw[<-e];exact sr) ⋯;have nS:n<=S2.length:=by lia
  dsimp only;by_cases c2:n<mr
  case' pos =>
   rw[aw c2];refine ax (g8 (dg ⟨rfl,?_⟩));refine ax (xx7 O w2.k (u.perm w2.a) n1 (show n<=min (a₀.size-lo) mr by lia) (by rw[w2.a.size_eq];lia) sr λst3 ip3 sr3=>?_);obtain⟨S3,w3,z3⟩:=w2.ip e ip3;have sl3:SL kz (S3.take (min (a₀.size-lo) mr)):=wuu w3.t (by rw[<-e];exact sr3) ⋯;have nS3:min (a₀.size-lo) mr<=S3.length:=by lia
   have n3:1<=min (a₀.size-lo) mr:=by lia
   rw[ar ⋯];generalize min (a₀.size-lo) mr=m at sl3 nS3 n3 ⊢;clear sl2 nS sr n2 c2 n1 sr3 ip3
  case' neg =>
   rw[ar c2];obtain⟨st3,rfl⟩:∃st3,st3=st2:=⟨_,rfl⟩;obtain⟨m,rfl⟩:∃m,m=n:=⟨_,rfl⟩;obtain⟨S3,rfl⟩:∃S3,S3=S2:=⟨_,rfl⟩;have w3:=w2;have sl3:=sl2;have nS3:=nS;have n3:=n1
  all_goals
   refine ax (gv ?_);split
   .refine ax (lp st3 rs S3 a₀.size 0 _ w3 (λst4 rs4 w4 l4=>?_) _ λi st4 rs4 R2 w4 h1 h2=>?_)
    .dsimp only;refine ax (fN ?_);refine ax (fN (aB ?_));exact⟨rfl,tail _ rs4 S3 lo m x w4.pow ⋯ n3 nS3 sl3 hx2⟩
    .try dsimp only
     refine ax (gv ?_);split
     .split
      .exact aB h1
      .rename_i hsz _;have hs:(pendingOf st4).size>1:=by
        rcases bo 1 (pendingOf st4).size with q|q
        .exact q
        .rw[ar ⋯]at hsz;cases hsz
       have pl4:=w4.pl;refine ax (mrg st4 rs4 S3 _ _ w4 ⋯ λst5 rs5 w5 l5 _=>?_);rw[ar ⋯];exact aB (h2 st5 rs5 w5 l5)
     .exact aB h1
   .refine ax (fN (aB ?_));obtain⟨rs',S',w6,l6,x6⟩:=tail st3 rs S3 lo m x w3 e n3 nS3 sl3 hx2;exact⟨rfl,rs',S',w6,l6,x6⟩
 case post =>
  rintro⟨r,lo⟩ st1 ⟨hr,rs,w⟩;dsimp only at hr ⊢;subst hr;dsimp only;have z:=w.size;have zz:=w.p.size;refine ax (eI (cg (I:=λx (c:Option Unit×Unit) st'=>c=(none,())/\∃rs,Wt kz kd a₀ st' rs []/\(rs.length<=1\/rs.length+x<=a₀.size)) (Q:=λc st'=>c=(none,())/\∃rs,Wt kz kd a₀ st' rs []/\rs.length<=1) ?step2 ?fin2 ⟨rfl,rs,w,.inr (by rw[eJ]at z;lia)⟩) ?post2)
  case fin2 =>
   rintro c st' ⟨rfl,rs,w,hor⟩;exact⟨rfl,rs,w,⋯⟩
  case step2 =>
   rintro x c st' _ hx ⟨rfl,rs,w,hor⟩
   try dsimp only
   have pl:=w.pl;refine ax (gv ?_);by_cases c:(pendingOf st').size<=1
   .rw[aw c];exact aB ⟨rfl,rs,w,⋯⟩
   rw[ar c];refine ax (mrg st' rs [] _ _ w ?_ λst5 rs5 w5 l5 z5=>?_)
   .have c':2<=rs.length:=by lia
    rw[pl];by_cases c2:rs.length-2>0
    .rw[aw c2];split <;> lia
    .rw[ar c2];show(if(false=true) then _ else _)+1<_;rw[ar aK];lia
   .rw[ar ⋯];exact aB ⟨rfl,rs5,w5,.inr ⋯⟩
  case post2 =>
   rintro c st' ⟨rfl,rs,w,hl⟩;dsimp only;refine aB (h st' w.a w.f ?_);rw[w.t,bR]
   match rs,hl,w.p with
   |[],_,_=>exact List.Pairwise.nil
   |[r],_,p =>
    simp only[cM,List.flatten_nil,bR];cases hp9:(pendingOf st').toList.map pr with
    |nil=>rw[hp9]at p;exact p.elim
    |cons a b=>rw[hp9]at p;exact p.2.2.2.1
end
end Tm
namespace L2
open PySem PySem.Spec PyProof.Rows
theorem wut {M:Model}{A:Ae}{E:Ag->Ab->Prop}{s:Ab}{scope:Scope}{globals:Aj}{cl:List (Str×Aj)}{qual:Str}{func:Option Aj}{code:Ag}{outer:Env}{builtins:Aj}{x:Str}{Q:Env->Ab->Prop}(hk:scope.kind=.function)
  (hcf:cellsFrom (s.heap.objs.size+1) scope.names cl=(x,s.heap.objs.size+1)::cl) (hpc:pushCells (s.heap.push { cls:=.type "dict",data:=.dict #[] }) scope.names=(s.heap.push { cls:=.type "dict",data:=.dict #[] }).push { cls:=.type "cell",data:=.cell none })
  (hQ:Q (newEnv scope s.heap.objs.size globals ((x,s.heap.objs.size+1)::cl) qual func code (some outer) builtins) { s with heap:=(s.heap.push { cls:=.type "dict",data:=.dict #[] }).push { cls:=.type "cell",data:=.cell none } }) :
  wpAny M A (newFunctionEnv scope globals cl [] qual func code (some outer) builtins) Q E s:=by
 simp only[newFunctionEnv,Option.isSome_some,db];refine ae (wpAny_alloc ?_);refine ae (wpAny_layCells _ (λname kind cells=>by cases hkc:kind==NameKind.cell <;> simp[hkc]) _ _ _ _ ?_);rw[show({ s with heap:=s.heap.push { cls:=.type "dict",data:=.dict #[] } }:Ab).heap.objs.size=s.heap.objs.size+1 from cU ..,hcf,hpc];exact ae (aj (aj hQ))
def HasAllK (x:Str)(cl:List (Str×Aj)):List (Str×NameKind)->Prop
 |[]=>True
 |(n,k)::r=>(k=.free->∃c,cl.lookup n=some c)/\(k=.cell->n=x)/\HasAllK x cl r
theorem quv {x y:Str}{c:Aj}{cl:List (Str×Aj)}(h:∃d,cl.lookup y=some d):∃d,((x,c)::cl).lookup y=some d:=by
 rw[bA];cases y==x with
 |true=>exact⟨c,rfl⟩
 |false=>exact h
theorem HasAllK.has {x:Str}{c:Aj}{cl:List (Str×Aj)}{env:Env}:∀ {ns:List (Str×NameKind)},HasAllK x cl ns->∀ {y:Str} {q:NameKind},q=.cell\/q=.free ->
  (ns.map λ(n,k)=>if(k==NameKind.free&&env.scope.kind==.function&&env.kindOf n==some .cell) then(n,NameKind.cell) else(n,k)).lookup y=some q->∃d,((x,c)::cl).lookup y=some d
 |[],_,_,_,_,e=>by cases e
 |(n,k)::r,h,y,q,hq,e=>by
  have ih:=HasAllK.has (c:=c) (env:=env) h.2.2 (y:=y) hq;rw[aD]at e;by_cases hc:(k==NameKind.free&&env.scope.kind==.function&&env.kindOf n==some .cell)=true
  .have e':=e;dsimp only at e';rw[aw hc,bA]at e';cases hb:y==n with
   |true =>
    rw[cH,cH]at hc;rw[eq_of_beq hb];exact quv (h.1 (eq_of_beq hc.1.1))
   |false =>
    rw[hb]at e';exact ih e'
  .have e':=e;dsimp only at e';rw[ar hc,bA]at e';cases hb:y==n with
   |true =>
    rw[hb]at e';have ek:k=q:=aq e';rw[eq_of_beq hb];rcases hq with rfl|rfl
    .rw[h.2.1 ek];exact⟨c,by rw[bA,eW]⟩
    .exact quv (h.1 ek)
   |false =>
    rw[hb]at e';exact ih e'
abbrev yn (X:Cx)(scope:Scope)(cl:List (Str×Aj))(x:Str)(c:Aj)(M:List Nat)(C:Aj)(s2:Ab)(H2:Hp)(fp:List Aj)(pn:List (Aj×Obj)):Cx :=
 { X with N:=Qp X x M,s₀:=s2,H₀:=H2,env:=compEnvC scope ((x,c)::cl) C X.env,outer:=X.stack,ex:=fp,fn:=λy=>y==x,pn:=pn,xe:=λ_ _=>False }
section
variable {X:Cx}{pins:List (Aj×Obj)}{σ:St}{H:Hp}{s2:Ab}{scope:Scope}{cl:List (Str×Aj)}{x:Str}{c:Aj}{M:List Nat}{fp:List Aj}{C:Aj}{h1:Heap}{tk:Nat}
theorem Inv.compK (I:Inv X pins σ H s2)(hc:CapAll X.env cl)(hh:HasAllK x cl scope.names)(hm:CapIx X scope cl M)(hk:scope.kind=.function)(hnd:(Qp X x M).Nodup)(hC:s2.heap.objs.size<C)(hcC:C<c)(hcl:h1.IsCell c none)
  (keep:∀b o,s2.heap.get? b=some o->h1.get? b=some o) (hn:h1.Ns C λ_=>none) (hD:h1.get? s2.heap.objs.size=some { cls:=.type "list",data:=.seq #[] 0 })
  (hfp:∀b∈fp,kv X pins H b) (hob:∀b∈fp,∃o,s2.heap.get? b=some o) :
  Inv (yn X scope cl x c M C s2 H fp (X.pn++pins)) [] (zf M σ none) (upd H s2.heap.objs.size (.lst [])) { s2 with heap:=h1,toks:=tk }:=by
 have hfr:=I.hok.fresh (a:=s2.heap.objs.size) (al _);have o:=I.ok;have hcc:∀y c,cl.lookup y=some c->X.env.cells.lookup y=some c:=λy c e=>hc.look e;have lk:∀y d,((x,c)::cl).lookup y=some d->(y=x/\d=c)\/(y≠x/\cl.lookup y=some d):=λy d e=>by
  rw[bA]at e;cases hb:y==x with
  |true =>
   rw[hb]at e;exact .inl ⟨eq_of_beq hb,(aq e).symm⟩
  |false =>
   rw[hb]at e;exact .inr ⟨λz=>by rw[z]at hb;simp at hb,e⟩
 have old:∀y d,cl.lookup y=some d->d<s2.heap.objs.size:=λy d e=>by obtain⟨v,ob,e1,e2⟩:=I.cell y d (hcc y d e);exact ao e1
 have hcs:s2.heap.objs.size<c:=bv hC hcC;have hlt:∀b∈fp,b<s2.heap.objs.size:=λb hb=>by obtain⟨ob,e⟩:=hob b hb;exact ao e
 have hstk:∀b∈fp,b∉frs X.stack:=λb hb z=>by
  rcases aM.mp (I.stkSub b z) with z|z
  .exact(hfp b hb).2.1 z
  .exact(hfp b hb).2.2.1 z
 have hCn:H C=none:=I.hok.fresh (bu hC);refine⟨⟨o.mod,hk,o.glob,o.blt,bu hC,λy z d e1 e2=>?_,λy hy=>?_,λy d z e=>?_,o.hd,o.frames,.inl rfl,λb hb=>⟨aE (bv (hlt b hb) hC),λy d e=>?_⟩,
  λb ob e=>I.bs b ob e,bM o.bsz I.sz,λb ob e z=>?_,hstk,I.stack,I.stkFree⟩,rfl,I.bare,?_,?_,λy d e=>?_,?_,λy d e=>?_,λp hp=>?_,?_,?_⟩
 .rcases lk y d e1 with⟨h1',h1⟩|⟨h1',h1⟩ <;> rcases lk z d e2 with⟨h2',h2⟩|⟨h2',h2⟩
  .exact h1'.trans h2'.symm
  .exact absurd (old z d h2) (by rw[h1];exact Nat.not_lt_of_gt hcs)
  .exact absurd (old y d h1) (by rw[h2];exact Nat.not_lt_of_gt hcs)
  .exact o.inj y z d (hcc y d h1) (hcc z d h2)
 .rcases hy with hy|hy
  .exact hh.has (.inl rfl) hy
  .exact hh.has (.inr rfl) hy
 .rcases lk y d e with⟨_,h1⟩|⟨h1',h1⟩
  .rw[h1];exact bu hcs
  .exact absurd (eq_of_beq z) h1'
 .rcases lk y d e with⟨_,h1⟩|⟨h1',h1⟩
  .rw[h1];exact(aE (bv (hlt b hb) hcs)).symm
  .exact(hfp b hb).2.2.2.2.1 y d (hcc y d h1)
 .obtain⟨e1,e2⟩:=I.bs b ob e;exact(hfp b z).2.2.2.1.elim (λq=>o.noex b ob e q) λq=>by have:=o.bs b ob e;exact be _ (aO (ao this.1) q)
 .exact(Un.laid (fs:=frs X.stack) (ex:=fp) (o:=.lst []) keep (al _) hfr)
 .refine⟨_,hn,λi z v e1 e2 e3=>?_⟩;cases i with
  |zero=>cases e2
  |succ k =>
   have e1':(M.map λj=>X.N.getD j Str.empty)[k]?=some z:=e1;have e2':(M.map λj=>(σ[j]?).join)[k]?=some (some v):=e2;rw[aA]at e1' e2';cases hj:M[k]? with
   |none=>rw[hj]at e1';cases e1'
   |some j =>
    rw[hj]at e1' e2';obtain⟨y,d,f1,f2,f3,f4⟩:=hm.get hj;have ez:X.N.getD j Str.empty=z:=aq e1';rw[af,f1]at ez;have ez':y=z:=ez;subst ez';have nx:y≠x:=λz=>by have h0:=List.nodup_iff_pairwise_ne.mp hnd;have h1:x∉M.map λj=>X.N.getD j Str.empty:=λhm'=>(dM.mp h0).1 x hm' rfl;refine h1 (aJ.mpr ⟨j,aC hj,?_⟩);rw[af,f1,<-z];rfl
    have f4':((x,c)::cl).lookup y=some d:=by rw[bA,show(y==x)=false from cJ.mpr nx];exact f4
    have ev:(σ[j]?).join=some v:=aq e2';have ev':σ[j]?=some (some v):=by
     cases hs:σ[j]? with
     |none=>rw[hs]at ev;cases ev
     |some w' =>
      rw[hs]at ev;have:w'=some v:=ev;rw[this]
    obtain⟨m,hns,hl⟩:=I.loc;obtain⟨u,r,l⟩:=hl j y v f1 ev' (.inr (.inl f2));refine⟨u,r,.inr ⟨.inl f3,d,f4',?_⟩⟩;rcases l with⟨lk,_⟩|⟨_,c',lc,li⟩
    .have:X.env.scope.names.lookup y=some .local:=lk;rw[f2]at this;cases this
    .rw[hcc y d f4]at lc;have:=aq lc;subst this;exact li.keeps keep
 .rcases lk y d e with⟨_,rfl⟩|⟨h1',h1⟩
  .exact⟨none,hcl⟩
  .obtain⟨v,hv⟩:=I.cell y d (hcc y d h1);exact⟨v,hv.keeps keep⟩
 .show upd H s2.heap.objs.size (.lst []) C=none;rw[q8 (eU hC)];exact hCn
 .show upd H s2.heap.objs.size (.lst []) d=none;rcases lk y d e with⟨_,rfl⟩|⟨h1',h1⟩
  .rw[q8 (aE hcs).symm];exact I.hok.fresh (bu hcs)
  .obtain⟨v,ob,e1,e2⟩:=I.cell y d (hcc y d h1);rw[q8 (aE (ao e1))];exact I.freeC y d (hcc y d h1)
 .have hp':p∈X.pn++pins:=(aU.mp hp).elim (λz=>z) λz=>nomatch z;obtain⟨e1,e2,e3,e4,e5⟩:=I.pin p hp';refine⟨keep _ _ e1,?_,aE (bv (ao e1) hC),λz=>?_,e5⟩
  .rw[q8 (aE (ao e1))];exact e2
  .rcases aM.mp (I.stkSub p.1 z) with z|z
   .exact e3 z
   .exact e4 z
 .exact I.hok.laid keep (al _) ⟨aT _,[],0,.nil,hD⟩
 .show(none::M.map λj=>(σ[j]?).join).length=(x::M.map λj=>X.N.getD j Str.empty).length;rw[aQ,aQ,ag,ag]
theorem Inv.uncompK {pins':List (Aj×Obj)}{σ':St}{H':Hp}{s':Ab}{h':Heap}(I:Inv X pins σ H s2)(hC:s2.heap.objs.size<=C)(hfp:∀b∈fp,kv X pins H b)
  (J:Inv (yn X scope cl x c M C s2 H fp (X.pn++pins)) pins' σ' H' s') (hs:Heap.SameBut C s'.heap h'):Inv X pins σ H' { s' with heap:=h' }:=by
 have hb:=J.base;have nC:∀b o,s2.heap.get? b=some o->b≠C:=λb o e=>aE (aO (ao e) hC);have st:∀b o,b≠C->s'.heap.get? b=some o->h'.get? b=some o:=λb o n e=>(hs.2 b n).trans e;refine I.call' (s':={ s' with heap:=h' }) (ch:=fp) J.os ⟨λb o e n nb nx=>st b o (nC b o e) (hb.keep b o e n nb nx),λb o e n hb' nx=>?_,hb.free,λb o e nx=>?_,hb.tups,hb.frzs,hb.tbls⟩ ?_ J.bare λb hbf=>?_
 .obtain⟨sl,e1⟩:=hb.slot b o e n hb' nx;exact⟨sl,st b _ (nC b o e) e1⟩
 .obtain⟨o',e1⟩:=hb.there b o e nx;exact⟨o',st b _ (nC b o e) e1⟩
 .intro b u hu;have fr:H' C=none:=J.free;refine(J.hok b u hu).stay (λc v hc e=>st c v ?_ e) (λ_ z=>z) λ_ _ z=>z;rcases hc with rfl|hc
  .intro z;rw[z,fr]at hu;cases hu
  .intro z;rw[z,fr]at hc;cases hc
 .obtain⟨q1,q2,q3,q4,q5,q6⟩:=hfp b hbf;exact⟨q4,q2,q5,q6⟩
end
section
variable {X:Cx}{elt iter:Expr}{x:Str}{px pos:Pos}{scope:Scope}{cl:List (Str×Aj)}{M:List Nat}{wi:TI}{te:TE}
theorem wj6 (hc:X.calm=true)(hclos:closureFor scope X.env=pure cl)(hcap:CapAll X.env cl)(hhas:HasAllK x cl scope.names)(hix:CapIx X scope cl M)(hk:scope.kind=.function)
  (hnames:∀y∈scope.names,y.2=.local->scope.names.lookup y.1=some .local) (hcf:∀n,cellsFrom n scope.names cl=(x,n)::cl) (hpc:∀h,pushCells h scope.names=h.push { cls:=.type "cell",data:=.cell none }) (hx:(relabel scope X.env).names.lookup x=some .cell) (hnd:(Qp X x M).Nodup) (hi:PI X (.Name x px) iter wi)
  (he:∀C s2 H2 fp pn,PE (yn X scope cl x (C+1) M C s2 H2 fp pn) elt te) (hs:∀z,foldedSetIterable iter X.env z=pure z)
  {use:Option (Ag->Sem Unit)} {QQ:Ag->Ab->Prop} {pins:List (Aj×Obj)} {s:Ab} {σ:St} {H:Hp} {Q:VK} {ps:Pos} (I:Inv X pins σ H s) (h:wi σ H λJ H1=>Wb J M te σ H1 Q)
  (fin:∀(C:Aj) (s2 s4:Ab) (H1 H2:Hp) (fp:List Aj),Inv X pins σ H1 s2->s2.heap.objs.size<C->(∀b∈fp,kv X pins H1 b)->Inv (yn X scope cl x (C+1) M C s2 H1 fp (X.pn++pins)) [] (zf M σ none) H2 s4->Q (.ref s2.heap.objs.size) H2 ->
   compPost (model X.prog X.w) X.A X.xe use QQ (.ref s2.heap.objs.size) C (.ok .next) s4) :
  wpAny (model X.prog X.w) X.A (comprehension (.ListComp elt [⟨.Name x px,iter,[],0⟩] scope pos) scope X.env ps (newList []) false (eval iter X.env) use) QQ X.xe s:=by
 refine fA (use:=use) rfl hs hclos hk hnames ?_;refine thn (hi pins s σ H _ I h) λv s1 h1=>thn h1 λitv s2 h2=>?_;obtain⟨it,fp,tn,J,H1,rfl,I2,T,t0,hfp,hR⟩:=h2;have hob:∀b∈fp,∃o,s2.heap.get? b=some o/\∀v,o.data≠.cell v:=T.obj 0 _ t0;obtain⟨W,⟨m0,w0⟩,hW⟩:=hR s2.heap.objs.size (I2.hok.fresh (al _));refine cT ?_;refine wut (x:=x) hk (hcf _) (hpc _) ?_;dsimp only;generalize hH2:s2.heap.push { cls:=.type "list",dict:=none,data:=.seq ([]:List Ag).toArray }=G2;have hC:G2.objs.size=s2.heap.objs.size+1:=by rw[<-hH2,cU]
 have hlt:s2.heap.objs.size<G2.objs.size:=by lia
 have kG:∀b o,G2.get? b=some o->((G2.push { cls:=.type "dict",data:=.dict #[] }).push { cls:=.type "cell",data:=.cell none }).get? b=some o:=λb o e=>ai _ (ai _ e);have hcell:((G2.push { cls:=.type "dict",data:=.dict #[] }).push { cls:=.type "cell",data:=.cell none }).IsCell (G2.objs.size+1) none:=⟨_,by rw[show G2.objs.size+1=(G2.push { cls:=.type "dict",data:=.dict #[] }).objs.size from (cU ..).symm];exact aF _ rfl,rfl⟩;have hns':((G2.push { cls:=.type "dict",data:=.dict #[] }).push { cls:=.type "cell",data:=.cell none }).Ns G2.objs.size λ_=>none:=(Heap.Ns.new G2 (.type "dict")).keeps λb o e=>ai _ e;generalize (G2.push { cls:=.type "dict",data:=.dict #[] }).push { cls:=.type "cell",data:=.cell none }=h3 at kG hcell hns';have keep:∀b o,s2.heap.get? b=some o->h3.get? b=some o:=λb o e=>kG b o (hH2▸ai _ e);have hD:h3.get? s2.heap.objs.size=some { cls:=.type "list",data:=.seq #[] 0 }:=kG _ _ (hH2▸aF _ rfl);have J0:∀tk,Inv (yn X scope cl x (G2.objs.size+1) M G2.objs.size s2 H1 fp (X.pn++pins)) [] (zf M σ none) (upd H1 s2.heap.objs.size (.lst [])) { s2 with heap:=h3,toks:=tk }:=λtk =>
  I2.compK hcap hhas hix hk hnd hlt (d8 _) hcell keep hns' hD hfp λb hb=>let ⟨o,e,_⟩:=hob b hb;⟨o,e⟩
 have hbl:∀b∈fp,b<s2.heap.objs.size:=λb hb=>let ⟨o,e,_⟩:=hob b hb;ao e;have fok:∀(H2:Hp),(∀b∈fp,H2 b=none)->∀b∈fp,kv (yn X scope cl x (G2.objs.size+1) M G2.objs.size s2 H1 fp (X.pn++pins)) [] H2 b:=λH2 hn b hb=>by
  obtain⟨q1,q2,q3,q4,q5,q6⟩:=hfp b hb;refine⟨hn b hb,aE (bv (hbl b hb) hlt),λz=>?_,.inl hb,λy d e=>?_,λp hp=>q6 p ((aU.mp hp).elim (λz=>z) λz=>nomatch z)⟩
  .rcases aM.mp (I2.stkSub b z) with z|z
   .exact q2 z
   .exact q3 z
  .have e':((x,G2.objs.size+1)::cl).lookup y=some d:=e;rw[bA]at e';cases hb':y==x with
   |true =>
    rw[hb']at e';have:d=G2.objs.size+1:=(aq e').symm;rw[this];exact(aE (bv (bv (hbl b hb) hlt) (d8 _))).symm
   |false =>
    rw[hb']at e';exact q5 y d (hcap.look e')
 have t3:=T.keep 0 _ _ t0 λb _ o e=>keep b o e;have loop:=λtk=>ju (e:=.ListComp elt [⟨.Name x px,iter,[],0⟩] scope pos) (k:=0) (acc:=.ref s2.heap.objs.size) (Y:=yn X scope cl x (G2.objs.size+1) M G2.objs.size s2 H1 fp (X.pn++pins)) (V:=λi n H2=>∃ys,W i n ys H2) (Qd:=Q (.ref s2.heap.objs.size)) (REST:=appS elt (.ref s2.heap.objs.size) (compEnvC scope ((x,G2.objs.size+1)::cl) G2.objs.size X.env) _) (post:=compPost (model X.prog X.w) X.A X.xe use QQ (.ref s2.heap.objs.size) G2.objs.size) T hc (λ_ _ z=>z) (compTurn_list1 ..) rfl rfl (xy (i:=0) hnd rfl (.inr hx) (.inl (eW x))) fok (λi n H2 ⟨ys,w⟩=>by
  obtain⟨hp,hz,hcase⟩:=hW i n ys H2 w
  refine hcase.imp id λ⟨hgo,hy⟩=>⟨hgo,λv H3 yl=>⟨λσ4 H4=>σ4=zf M σ (some v)/\H3=H4,⟨rfl,rfl⟩,λ_ _ e=>?_⟩⟩
  obtain⟨rfl,rfl⟩:=e
  refine⟨Qj M σ v,λpins' s' J=>?_⟩
  exact bi (Yv (N:=λzs H5=>∃m',m'<n/\W (i+1) m' zs H5) (λ_ _ z=>z) (he _ _ _ _ _) J hz (hy v H3 yl)) (λr s5 ⟨e,H5,J5,zs,m',hm,w'⟩=>⟨e,H5,J5,m',hm,zs,w'⟩) λ_ _ z=>z)
  (λH2 s4 J4 q=>fin G2.objs.size s2 s4 H1 H2 fp I2 hlt hfp J4 q) (J0 tk) ⟨[],w0⟩ t3 λb hb=>by rw[q8 (aE (hbl b hb))];exact(hfp b hb).1
 exact codeAny_compStart_list (loop _) (T.self _ 0 _ _ _ t3 (loop _))
theorem qxg (hc:X.calm=true)(hclos:closureFor scope X.env=pure cl)(hcap:CapAll X.env cl)(hhas:HasAllK x cl scope.names)(hix:CapIx X scope cl M)(hk:scope.kind=.function)
  (hnames:∀y∈scope.names,y.2=.local->scope.names.lookup y.1=some .local) (hcf:∀n,cellsFrom n scope.names cl=(x,n)::cl) (hpc:∀h,pushCells h scope.names=h.push { cls:=.type "cell",data:=.cell none }) (hx:(relabel scope X.env).names.lookup x=some .cell) (hnd:(Qp X x M).Nodup) (hi:PI X (.Name x px) iter wi)
  (he:∀C s2 H2 fp pn,PE (yn X scope cl x (C+1) M C s2 H2 fp pn) elt te) (hs:autoParam (∀z,foldedSetIterable iter X.env z=pure z) aU3._auto_1) :
  PE X (.ListComp elt [⟨.Name x px,iter,[],0⟩] scope pos) (wvt M wi te):=by
 intro pins s σ H Q I h;rw[eval_ListComp];refine wj6 hc hclos hcap hhas hix hk hnames hcf hpc hx hnd hi he hs (use:=none) I h λC s2 s4 H1 H2 fp I2 hlt hfp J4 hq=>?_;obtain⟨m,hn,_⟩:=J4.loc;exact⟨m,hn,λh' hs'=>⟨.ref s2.heap.objs.size,H2,I2.uncompK (bu hlt) hfp J4 hs',rfl,hq⟩⟩
end
end L2
namespace L2
open PySem PySem.Spec PyProof.Rows
theorem qy5 {X:Cx}{tg l:Expr}{tl:TE}{K:Aa}(hK:X.K=K)(hl:PE X l tl):PI X tg l (iList K tl):=by subst hK;exact vc hl
def Stay (G:Nat->V->Hp->Prop):Prop:=∀i v H H' p,G i v H->v≠.ref p->(∀b o,b≠p->H b=some o->H' b=some o)->G i v H'
theorem Q7 {M:List Nat}{lo:Int}{n:Nat}{te:TE}{σ:St}{H:Hp}{Q:VK}(G:Nat->V->Hp->Prop)(gs:Stay G)(hn:n<=1000000)
  (he:∀(i:Nat) (H':Hp) (R:VK),i<n->Same H H'->(∀v H'',Same H' H''->G i v H''->(∀b,v=.ref b->H' b=none)->R v H'')->te (zf M σ (some (.int (lo+i)))) H' R)
  (k:∀p ys H',H p=none->Same H H'->H' p=some (.lst ys)->ys.length=n->(∀j v,ys[j]?=some v->G j v H'/\v≠.ref p)->Q (.ref p) H'):Wb (Itr lo n) M te σ H Q:=by
 intro p np;refine⟨λi m ys H2=>i<=n/\m=n-i/\ys.length=i/\Same H H2/\H2 p=some (.lst ys)/\∀j v,ys[j]?=some v->G j v H2/\v≠.ref p,⟨n,aT _,rfl,rfl,Same.upd np,qf,λj v e=>by cases e⟩,?_⟩;rintro i m ys H2 ⟨hi,rfl,hy,sm,hp,hG⟩;refine⟨hp,?_,?_⟩
 .have:(1000000:Nat)<sizeLine:=by decide
  lia
 .by_cases hlt:i<n
  .refine .inr ⟨hlt,?_⟩;rintro v H3 ⟨rfl,rfl⟩;refine he i _ _ hlt sm λv H4 s4 g4 fr=>⟨s4 _ _ hp,n-(i+1),⋯,⋯,rfl,by rw[am,hy];rfl,λb o e=>?_,qf,λj w e=>?_⟩
   .rw[q8 (wx e np)];exact s4 _ _ (sm _ _ e)
   .have vp:v≠.ref p:=λz=>by have:=fr p z;rw[hp]at this;cases this
    have st:∀b o,b≠p->H4 b=some o->upd H4 p (.lst (ys++[v])) b=some o:=λb o nb e=>by rw[q8 nb];exact e
    rcases(bo j ys.length) with z|z
    .rw[aP z]at e;obtain⟨g,nw⟩:=hG j w e;exact⟨gs j w _ _ p g nw λb o nb e=>st b o nb (s4 b o e),nw⟩
    .rw[az z]at e;have hj:j=i:=by
      rcases bo (j-ys.length) 1 with y|y
      .lia
      .rw[aR (by simpa using y)]at e;cases e
     subst hj;rw[show j-ys.length=0 by lia]at e;have:v=w:=aq e;subst this;exact⟨gs j v H4 _ p g4 vp st,vp⟩
  .have:i=n:=by lia
   subst this;exact .inl ⟨al _,k p ys _ np sm hp hy hG⟩
theorem Qq {K:Aa}{M:List Nat}{a:Aj}{xs:List V}{te:TE}{σ:St}{H:Hp}{Q:VK}(G:Nat->V->Hp->Prop)(gs:Stay G)(hS:SqL K H a xs)(hn:xs.length<=1000000)
  (he:∀(i:Nat) (x:V) (H':Hp) (R:VK),xs[i]?=some x->Same H H'->(∀v H'',Same H' H''->G i v H''->(∀b,v=.ref b->H' b=none)->R v H'')->te (zf M σ (some x)) H' R)
  (k:∀p ys H',H p=none->Same H H'->H' p=some (.lst ys)->ys.length=xs.length->(∀j v,ys[j]?=some v->G j v H'/\v≠.ref p)->Q (.ref p) H'):Wb (Itl K a) M te σ H Q:=by
 intro p np;refine⟨λi m ys H2=>i<=xs.length/\m=xs.length-i/\ys.length=i/\Same H H2/\H2 p=some (.lst ys)/\∀j v,ys[j]?=some v->G j v H2/\v≠.ref p,⟨xs.length,aT _,rfl,rfl,Same.upd np,qf,λj v e=>by cases e⟩,?_⟩;rintro i m ys H2 ⟨hi,rfl,hy,sm,hp,hG⟩;have hS':SqL K H2 a xs:=Same.sql sm hS;refine⟨hp,?_,?_⟩
 .have:(1000000:Nat)<sizeLine:=by decide
  lia
 .by_cases hlt:i<xs.length
  .have hx:xs[i]?=some xs[i]:=aa hlt;refine .inr ⟨⟨xs,_,hS',hx⟩,?_⟩;rintro v H3 ⟨rfl,hv⟩;have e:=hv xs hS';rw[hx]at e;have e':=aq e;subst e';refine he i _ _ _ hx sm λv H4 s4 g4 fr=>⟨s4 _ _ hp,xs.length-(i+1),⋯,⋯,rfl,by rw[am,hy];rfl,λb o e=>?_,qf,λj w e=>?_⟩
   .rw[q8 (wx e np)];exact s4 _ _ (sm _ _ e)
   .have vp:v≠.ref p:=λz=>by have:=fr p z;rw[hp]at this;cases this
    have st:∀b o,b≠p->H4 b=some o->upd H4 p (.lst (ys++[v])) b=some o:=λb o nb e=>by rw[q8 nb];exact e
    rcases(bo j ys.length) with z|z
    .rw[aP z]at e;obtain⟨g,nw⟩:=hG j w e;exact⟨gs j w _ _ p g nw λb o nb e=>st b o nb (s4 b o e),nw⟩
    .rw[az z]at e;have hj:j=i:=by
      rcases bo (j-ys.length) 1 with y|y
      .lia
      .rw[aR (by simpa using y)]at e;cases e
     have e3:[v][j-ys.length]?=some w:=by assumption
     subst hj;rw[show j-ys.length=0 by lia]at e3;have:v=w:=aq e3;subst this;exact⟨gs j v H4 _ p g4 vp st,vp⟩
  .have hi':i=xs.length:=by lia
   subst hi';exact .inl ⟨⟨xs,hS',al _⟩,k p ys _ np sm hp hy hG⟩
theorem wxg {K:Aa}{M:List Nat}{a:Aj}{xs:List V}{te:TE}{σ:St}{H:Hp}{Q:VK}(f:V->V)(hf:∀x b,f x≠.ref b)(hS:SqL K H a xs)(hn:xs.length<=1000000)
  (he:∀(x:V) (H':Hp) (R:VK),x∈xs->Same H H'->(∀H'',Same H' H''->R (f x) H'')->te (zf M σ (some x)) H' R)
  (k:∀p H',H p=none->Same H H'->H' p=some (.lst (xs.map f))->Q (.ref p) H'):Wb (Itl K a) M te σ H Q:=by
 refine Qq (λi v _=>∃x,xs[i]?=some x/\v=f x) (λi v H H' p g _ _=>g) hS hn (λi x H' R hx s hR=>he x H' R (aC hx) s λH'' s''=>hR _ _ s'' ⟨x,hx,rfl⟩ λb e=>absurd e (hf x b)) λp ys H' np s hp hl hG=>?_;have e:ys=xs.map f:=by
  refine bT λj=>?_;rw[aA];cases hj:ys[j]? with
  |none =>
   have:xs[j]?=none:=aR (by have:=fh.mp hj;lia);rw[this];rfl
  |some v =>
   obtain⟨⟨x,hx,rfl⟩,_⟩:=hG j v hj;rw[hx];rfl
 rw[e]at hp;exact k p H' np s hp
theorem wq7 {M:List Nat}{lo:Int}{n:Nat}{te:TE}{σ:St}{H:Hp}{Q:VK}(f:Nat->V)(hf:∀x b,f x≠.ref b)(hn:n<=1000000)
  (he:∀(i:Nat) (H':Hp) (R:VK),i<n->Same H H'->(∀H'',Same H' H''->R (f i) H'')->te (zf M σ (some (.int (lo+i)))) H' R)
  (k:∀p H',H p=none->Same H H'->H' p=some (.lst ((List.range n).map f))->Q (.ref p) H'):Wb (Itr lo n) M te σ H Q:=by
 refine Q7 (λi v _=>v=f i) (λi v H H' p g _ _=>g) hn (λi H' R hi s hR=>he i H' R hi s λH'' s''=>hR _ _ s'' rfl λb e=>absurd e (hf i b)) λp ys H' np s hp hl hG=>?_;have e:ys=(List.range n).map f:=by
  refine bT λj=>?_;rw[aA];cases hj:ys[j]? with
  |none =>
   have:n<=j:=by have:=fh.mp hj;lia
   rw[aR (by rw[aG];exact this)];rfl
  |some v =>
   have hjn:j<n:=by have:=(ak.mp hj).1;lia
   rw[bp hjn,(hG j v hj).1];rfl
 rw[e]at hp;exact k p H' np s hp
end L2
namespace L2
open PySem PySem.Spec PyProof.Rows
theorem uj:bootBuiltins "sum" = some (.builtin "sum"):=by decide +kernel
section
variable {X:Cx}{K:Aa}
theorem jh (hK:X.K=K):IxR X (wwy K):=by subst hK;exact x8
theorem qvc (hK:X.K=K):jg X (.builtin "len") (λxs H Q=>∃p ys,xs=[.ref p]/\(SqL K H p ys\/SqT K H p ys)/\Q (.int ys.length) H):=by subst hK;exact xf
theorem qv4 (ns:List Int):∀n,preSum (λi=>ns.getD i 0) n=(ns.take n).sum
 |0=>by simp[preSum]
 |n+1=>by
  rw[preSum,qv4 ns n,gW];cases e:ns[n]? with
  |none=>simp[af,e]
  |some v=>simp[af,e]
theorem ky (hK:X.K=K)(hc:X.calm=true):jg X (.builtin "sum") (λxs H Q=>∃(p:Aj) (ns:List Int),xs=[.ref p]/\SqL K H p (ns.map V.int)/\Q (.int ns.sum) H):=by
 subst hK;intro pins s σ H xs us Q I r h;obtain⟨p,ns,rfl,hS,q⟩:=h;obtain⟨u,rfl,ru⟩:=jr r;cases(show u=Value.ref p from ru);obtain⟨its,rv,⟨o,n,e1,e2,e3,e4⟩,hz⟩:=I.list hS;have hl:s.heap.IsList p its.toArray:=⟨o,e1,e2,n,e4⟩;have hlt:p<s.heap.objs.size:=ao e1;have hlen:its.length=ns.length:=by rw[<-rv.length,ag]
 refine call_sum_walkG (fV hl ?_);refine⟨s.heap.objs.size,_,_,_,_,_,λi=>ns.getD i 0,rfl,Walks.list (A:=X.A.in1) (I.ok.hd hc) _ p (aE hlt) its.toArray,⟨⟨_,aF _ rfl,rfl,rfl⟩,hl.push _⟩,λb hb=>?_,λi v hP=>?_,λh' tk t' hk=>?_⟩
 .rcases aM.mp hb with z|z
  .rw[z,cU];exact d8 _
  .rw[aH.mp z,cU];exact eQ hlt
 .have hv:its[i]?=some v:=by simpa using hP
  have hi:i<(ns.map V.int).length:=by rw[ag,<-hlen];exact(ak.mp hv).1
  obtain⟨u,eu,ru⟩:=rv.get (i:=i) (aa hi);rw[hv]at eu;cases eu;rw[gm]at ru;obtain⟨t,rfl⟩:=ru;rw[ag]at hi;exact⟨t,by show Value.int ns[i] t=Value.int (ns.getD i 0) t;rw[af,aa hi];rfl⟩
 .have e:preSum (λi=>ns.getD i 0) its.toArray.size=ns.sum:=by rw[qv4,av,hlen,bn]
  rw[e];refine⟨.int _,H,I.kept λb ob e=>hk b ob (λhm=>?_) (ai _ e),⟨t',rfl⟩,q⟩;have z:b=s.heap.objs.size:=by simpa using hm
  exact be _ (z▸ao e)
end
def zp (n:Nat)(g:Nat->Int):List Int:=(List.range n).map g
theorem Wc (n:Nat)(g:Nat->Int):(zp n g).length=n:=by unfold zp;rw[ag,aG]
theorem qx4 {n i:Nat}{g:Nat->Int}(h:i<n):(zp n g)[i]?=some (g i):=by unfold zp;rw[aA,bp h];rfl
theorem qx5 (n:Nat)(g:Nat->Int):(zp n g).map V.int=(List.range n).map λi=>V.int (g i):=by unfold zp;rw[ba];rfl
theorem wx9 {n:Nat}{f g:Nat->Int}(h:∀i,i<n->f i=g i):zp n f=zp n g:=da λi hi=>h i (ay.mp hi)
def MatAt (H:Hp)(p:Aj)(n:Nat)(f:Nat->Nat->Int):Prop:=∃ys,H p=some (.lst ys)/\ys.length=n/\∀i v,ys[i]?=some v->∃q,v=.ref q/\H q=some (.lst ((zp n (f i)).map V.int))
theorem MatAt.same {H H':Hp}{p:Aj}{n:Nat}{f:Nat->Nat->Int}(h:MatAt H p n f)(s:Same H H'):MatAt H' p n f:=by obtain⟨ys,e,l,r⟩:=h;exact⟨ys,s _ _ e,l,λi v z=>let ⟨q,a,b⟩:=r i v z;⟨q,a,s _ _ b⟩⟩
theorem MatAt.row {H:Hp}{p:Aj}{n:Nat}{f:Nat->Nat->Int}(h:MatAt H p n f){ys:List V}(e:H p=some (.lst ys)){i:Nat}(hi:i<n):∃q,ys[i]?=some (.ref q)/\H q=some (.lst ((zp n (f i)).map V.int)):=by obtain⟨ys',e',l,r⟩:=h;rw[e]at e';cases e';have z:ys[i]?=some ys[i]:=aa ⋯;obtain⟨q,a,b⟩:=r i _ z;exact⟨q,by rw[z,a],b⟩
def vq (n:Nat)(g:Nat->Int):Int:=(zp n g).sum
theorem v8 (n:Nat)(g:Nat->Int):vq (n+1) g=vq n g+g n:=by unfold vq zp;rw[bL,aW,eK];simp
theorem wu9 (n:Nat)(g h:Nat->Int):vq n (λi=>g i+h i)=vq n g+vq n h:=by
 induction n with
 |zero=>rfl
 |succ n ih=>rw[v8,v8,v8,ih];lia
theorem Jj (n:Nat)(g:Nat->Int)(h:∀i,i<n->g i=0):vq n g=0:=by
 induction n with
 |zero=>rfl
 |succ n ih=>rw[v8,ih λi hi=>h i ⋯,h n ⋯];rfl
theorem kg {n:Nat}{g h:Nat->Int}(e:∀i,i<n->g i=h i):vq n g=vq n h:=by unfold vq;rw[wx9 e]
theorem wqu {n i:Nat}(hi:i<n)(g:Nat->Int):vq n (λk=>(if k=i then 1 else 0)*g k)=g i:=by
 induction n with
 |zero=>lia
 |succ n ih =>
  rw[v8];rcases(by lia:i<n\/i=n) with z|z
  .rw[ih z,ar ⋯];lia
  .subst z;rw[aw rfl,Jj _ _ λk hk=>by rw[ar ⋯,gN]];lia
theorem qy1 {α:Type}(n:Nat)(F:α->Nat->Int):∀L:List α,(L.map λv=>vq n (F v)).sum=vq n λk=>(L.map λv=>F v k).sum
 |[]=>by rw[cV,List.sum_nil,Jj];intro i _;rfl
 |v::L=>by rw[aD,bW,qy1 n F L,<-wu9];refine kg λk _=>?_;rw[aD,bW]
def zh (cov:Nat->List Int):Nat->Nat->Nat->Int
 |0=>λi j=>if j=i then 1 else 0
 |m+1=>λi j=>((cov i).map λv=>zh cov m v.toNat j).sum
end L2
namespace L2
open PySem PySem.Spec PyProof.Rows
def qjv (X:Cx)(x y:Str)(M:List Nat):List Str:=x::y::M.map λj=>X.N.getD j Str.empty
def zu (M:List Nat)(σ:St)(o o':Option V):St:=o::o'::M.map λj=>(σ[j]?).join
abbrev zy (X:Cx)(scope:Scope)(cl:List (Str×Aj))(x y:Str)(M:List Nat)(C:Aj)(s2:Ab)(H2:Hp)(fp:List Aj)(pn:List (Aj×Obj)):Cx :=
 { X with N:=qjv X x y M,s₀:=s2,H₀:=H2,env:=compEnvC scope cl C X.env,outer:=X.stack,ex:=fp,fn:=λ_=>false,pn:=pn,xe:=λ_ _=>False }
section
variable {X:Cx}{pins:List (Aj×Obj)}{σ:St}{H:Hp}{s2:Ab}{scope:Scope}{cl:List (Str×Aj)}{x y:Str}{M:List Nat}{fp:List Aj}{C:Aj}{h1:Heap}{tk:Nat}
theorem Inv.comp2 (I:Inv X pins σ H s2)(hc:CapAll X.env cl)(hh:HasAll cl scope.names)(hm:CapIx X scope cl M)(hk:scope.kind=.function)(hC:s2.heap.objs.size<C)
  (keep:∀b o,s2.heap.get? b=some o->h1.get? b=some o) (hn:h1.Ns C λ_=>none) (hD:h1.get? s2.heap.objs.size=some { cls:=.type "list",data:=.seq #[] 0 })
  (hfp:∀b∈fp,kv X pins H b) (hob:∀b∈fp,∃o,s2.heap.get? b=some o) :
  Inv (zy X scope cl x y M C s2 H fp (X.pn++pins)) [] (zu M σ none none) (upd H s2.heap.objs.size (.lst [])) { s2 with heap:=h1,toks:=tk }:=I.compG (xs:=[x,y]) hc hh hm hk hC keep hn ⟨aT _,[],0,.nil,hD⟩ hfp hob
theorem Inv.uncomp2 {pins':List (Aj×Obj)}{σ':St}{H':Hp}{s':Ab}{h':Heap}(I:Inv X pins σ H s2)(hC:s2.heap.objs.size<=C)(hfp:∀b∈fp,kv X pins H b)
  (J:Inv (zy X scope cl x y M C s2 H fp (X.pn++pins)) pins' σ' H' s') (hs:Heap.SameBut C s'.heap h'):Inv X pins σ H' { s' with heap:=h' }:=by
 have hb:=J.base;have nC:∀b o,s2.heap.get? b=some o->b≠C:=λb o e=>aE (aO (ao e) hC);have st:∀b o,b≠C->s'.heap.get? b=some o->h'.get? b=some o:=λb o n e=>(hs.2 b n).trans e;refine I.call' (s':={ s' with heap:=h' }) (ch:=fp) J.os ⟨λb o e n nb nx=>st b o (nC b o e) (hb.keep b o e n nb nx),λb o e n hb' nx=>?_,hb.free,λb o e nx=>?_,hb.tups,hb.frzs,hb.tbls⟩ ?_ J.bare λb hbf=>?_
 .obtain⟨sl,e1⟩:=hb.slot b o e n hb' nx;exact⟨sl,st b _ (nC b o e) e1⟩
 .obtain⟨o',e1⟩:=hb.there b o e nx;exact⟨o',st b _ (nC b o e) e1⟩
 .intro b u hu;have fr:H' C=none:=J.free;refine(J.hok b u hu).stay (λc v hc e=>st c v ?_ e) (λ_ z=>z) λ_ _ z=>z;rcases hc with rfl|hc
  .intro z;rw[z,fr]at hu;cases hu
  .intro z;rw[z,fr]at hc;cases hc
 .obtain⟨q1,q2,q3,q4,q5,q6⟩:=hfp b hbf;exact⟨q4,q2,q5,q6⟩
end
theorem xv3 {prog:Ac}{w:Ah}{A:Ae}{R:Result->Ab->Prop}{s:Ab}{elt t0 i0 t1 i1:Expr}{scope:Scope}{pos:Pos}{it acc:Ag}{env:Env}{ifs:List Expr}
  (h1:codeAny (model prog w) A (Code.compLoop (elt.ListComp [⟨t0,i0,[],0⟩,⟨t1,i1,ifs,0⟩] scope pos) 1 it acc env) R s)
  (h2:∀(E:Ag->Ab->Prop),wpAny (model prog w) A (pyIter it) (λit' s'=>codeAny (model prog w) A (Code.compLoop (elt.ListComp [⟨t0,i0,[],0⟩,⟨t1,i1,ifs,0⟩] scope pos) 1 it' acc env) R s') E s) :
  codeAny (model prog w) A (Code.compStart (elt.ListComp [⟨t0,i0,[],0⟩,⟨t1,i1,ifs,0⟩] scope pos) 1 it acc env) R s:=by
 refine codeAny_of_tree ?_;show wpAny (model prog w) _ ((compStart (elt.ListComp [⟨t0,i0,[],0⟩,⟨t1,i1,ifs,0⟩] scope pos) 1 it acc env).onRaise (λz=>do noteFrame z env;standAt theWindowsPlace)) _ _ s;refine wpAny_onRaise ?_;unfold compStart;rw[ar (show ¬ ((clausesOf (elt.ListComp [⟨t0,i0,[],0⟩,⟨t1,i1,ifs,0⟩] scope pos))[1]?.elim false λx=>x.is_async != 0)=true from aK)];refine ae (eY ?_);split
 .exact aj ⟨rfl,h1⟩
 .refine ae (dg ?_);show wpAny _ _ (standAt i1.pos >>= λ_=>pyIter it >>= λz=>again (Code.compLoop (elt.ListComp [⟨t0,i0,[],0⟩,⟨t1,i1,ifs,0⟩] scope pos) 1 z acc env)) _ _ s;refine ae (dj (ae (bi (h2 _) (λz s' hz=>aj ⟨rfl,hz⟩) λ_ _ e=>e)))
section
variable {X:Cx}{elt iter iter2:Expr}{x y:Str}{px py pos:Pos}{scope:Scope}{cl:List (Str×Aj)}{M:List Nat}{wi wi2:TI}{te:TE}
end
section
variable {X:Cx}{elt iter iter2:Expr}{x y2:Str}{px py2 pos:Pos}{scope:Scope}{cl:List (Str×Aj)}{M:List Nat}{wi wi2:TI}{te:TE}
end
end L2
namespace L2
open PySem PySem.Spec PyProof.Rows
theorem Yu {X:Cx}{K:Aa}(hK:X.K=K):IxR X (rIxT K):=by subst hK;exact wb
end L2
namespace L2
open PySem PySem.Spec PyProof.Rows
theorem wym {prog:Ac}{w:Ah}{A:Ae}{E:Ag->Ab->Prop}{s:Ab}{l b:Aj}{Q:Ag->Ab->Prop}(h1:s.TypeIs (.ref l) "list")(h2:s.TypeIs (.ref b) "list")
  (h:wpAny (model prog w) A (call (.builtin "list.__iadd__") [.ref l,.ref b]) Q E s):wpAny (model prog w) A (inplaceOp .Add (.ref l) (.ref b)) Q E s:=by
 unfold inplaceOp;refine cG ?_;refine ae (wpAny_typeOf h1 ?_);have hl:typeLookup (.type "list") (dunderI "add")=pure (some (.builtin "list.__iadd__")):=F.slot_list_iadd.lookup;have sq:isSeqSlot (some (.builtin "list.__iadd__"))=true:=by decide +kernel
 have e1:fillsInplaceSlot (.type "list") (Operator.Add).info.snd (Operator.Add==Operator.Add)=pure false:=by show fillsInplaceSlot (.type "list") "add" true=pure false;unfold fillsInplaceSlot;show(typeLookup (.type "list") (dunderI "add") >>= λfi=>pure (fi.isSome&&!isSeqSlot fi))=pure false;rw[hl];show(pure (true&&!isSeqSlot (some (.builtin "list.__iadd__"))):Sem Bool)=pure false;rw[sq];rfl
 rw[e1];refine ae (aj ?_);rw[ar aK];refine ae ?_;show wpAny _ _ (binaryOp1 "add" (.ref l) (.ref b)) _ _ s;refine wpAny_binaryOp1_none h1 h2 noFill_list_add ?_;have e2:seqSlot? (.type "list") (dunderI "add")=pure (some (.builtin "list.__iadd__")):=by unfold seqSlot?;rw[hl];show(if(!isSeqSlot (some (.builtin "list.__iadd__")))=true then(pure none:Sem (Option Ag)) else _)=_;rw[sq,ar ⋯];rfl
 show wpAny _ _ (seqSlot? (.type "list") (dunderI "add") >>= _) _ _ s;rw[e2];refine ae (aj ?_);exact ae (dg h)
def ipCat:TIp:=λx y H Q=>∃l b xs zs,x=.ref l/\y=.ref b/\H l=some (.lst xs)/\H b=some (.lst zs)/\xs.length+zs.length<=sizeLine/\Q (.ref l) (upd H l (.lst (xs++zs)))
section
variable {X:Cx}
theorem xwq:PIp X .Add ipCat:=by
 intro pins s σ H x y v u Q I rx ry h;obtain⟨l,b,xs,zs,rfl,rfl,hH,hB,hz,q⟩:=h;cases rx;cases ry;obtain⟨z,its,n,r,hl,e⟩:=I.lstM hH;obtain⟨z2,its2,n2,r2,hl2,e2⟩:=I.lstM hB;have hsz:its.toArray.size+its2.toArray.size<=sizeLine:=by rw[av,av];lia
 have hlong:¬ (!its.toArray.isEmpty&&Builtin.List.listTooLong (its.toArray.size+its2.toArray.size))=true:=by rw[qug hsz,fX];exact aK
 refine wym ⟨_,e,rfl⟩ ⟨_,e2,rfl⟩ ?_;refine call_meets F.slot_list_iadd ⟨_,e,rfl⟩ F.entry_list_iadd (F.args_list_iadd_2 _ _)
  (AutoSeq1.list___iadd___list_list_0 l its.toArray n b its2.toArray n2 hlong (by rw[av];lia) ⋯) ⟨e,e2,?_⟩
 refine⟨.ref l,_,I.lset (its':=its++its2) hH e (by simp) (r.append r2) ?_,rfl,q⟩;rw[am];lia
end
structure Fresh (H H':Hp)(qs:List Aj)(os:List HO):Prop where
 len:qs.length=os.length
 nd:qs.Nodup
 new:∀q∈qs,H q=none
 at_:∀(i:Nat) q o,qs[i]?=some q->os[i]?=some o->H' q=some o
end L2
namespace L2
open PySem PySem.Spec PyProof.Rows
section
variable {X:Cx}{pins:List (Aj×Obj)}{σ:St}{H:Hp}{s:Ab}{h':Heap}{ch:List Aj}
theorem Inv.turnedL {tk:Nat}(I:Inv X pins σ H s)(hk:∀b u,b∉ch->s.heap.get? b=some u->h'.get? b=some u)(hf:∀b∈ch,kv X pins H b):Inv X pins σ H { s with heap:=h',toks:=tk }:=by
 refine I.call' (s':={ s with heap:=h',toks:=tk }) (ch:=ch) rfl ⟨λb o e n _ nx=>hk b o nx e,λb o e n _ nx=>⟨o.slots,hk b o nx e⟩,λb o e n _=>n,λb o e nx=>⟨o,hk b o nx e⟩,λ_ _ e=>e,λ_ _ _ e=>e,λb ps e=>⟨#[],by rw[e];simp⟩⟩ ?_ I.bare λb hb=>?_
 .intro b u hu;refine(I.hok b u hu).stay (λc v hc e=>hk c v (λz=>?_) e) (λ_ z=>z) λ_ _ z=>z;have:=(hf c z).1;rcases hc with rfl|hc
  .rw[this]at hu;cases hu
  .rw[this]at hc;cases hc
 .obtain⟨q1,q2,q3,q4,q5,q6⟩:=hf b hb;exact⟨q4,q2,q5,q6⟩
theorem Inv.turnedT {tk:Nat}{o:HO}{ob:Obj}(I:Inv X pins σ H s)(hk:∀b u,b∉ch->s.heap.get? b=some u->h'.get? b=some u)(hn:h'.get? s.heap.objs.size=some ob)(hf:∀b∈ch,kv X pins H b)(hc:∀b∈ch,b≠s.heap.objs.size)
  (ok:ObjOk X.prog X.w (upd H s.heap.objs.size o) (s.heap.push ob) s.heap.objs.size o) (fr:ob.isFreed=false):Inv X pins σ (upd H s.heap.objs.size o) { s with heap:=h',toks:=tk }:=by
 have I1:Inv X pins σ (upd H s.heap.objs.size o) { s with heap:=s.heap.push ob,toks:=tk }:=I.laid (t':=tk) (λb u e=>ai _ e) (al _) ok;refine Inv.turnedL (s:={ s with heap:=s.heap.push ob,toks:=tk }) (ch:=ch) I1 (λb u nb e=>?_) λb hb=>?_
 .rcases Heap.get?_push_cases e with⟨rfl,rfl⟩|e
  .exact hn
  .exact hk b u nb e
 .obtain⟨q1,q⟩:=hf b hb;exact⟨by rw[q8 (hc b hb)];exact q1,q⟩
theorem xzv {x y:V}{u v:Ag}(I:Inv X pins σ H s)(rx:RelV x u)(ry:RelV y v):ObjOk X.prog X.w (upd H s.heap.objs.size (.tup [x,y])) (s.heap.push { cls:=.type "tuple",data:=.seq #[u,v] }) s.heap.objs.size (.tup [x,y]):=by refine⟨by show 2<=sizeLine;decide,[u,v],.cons rx (.cons ry .nil),?_⟩;exact⟨_,aF _ rfl,rfl,_,rfl⟩
end
def ItZ (K:Aa)(a b:Aj)(xs ys:List V):It :=
 ⟨λi H=>SqL K H a xs/\SqL K H b ys/\i<xs.length/\i<ys.length,λi H v H'=>∃q x y,H q=none/\v=.ref q/\xs[i]?=some x/\ys[i]?=some y/\H'=upd H q (.tup [x,y]),λi H=>SqL K H a xs/\SqL K H b ys/\(xs.length<=i\/ys.length<=i)⟩
theorem xwd {P:Ac}{w:Ah}{K:Aa}{es:List Expr}{k:Nat}{pos:Pos}(a b z TI TO i1 i2:Aj)(xs ys:List V)(ap:ZipApart z TI TO i1 i2 a b):Turn P w K (.Tuple es k pos) (ItZ K a b xs ys) [z,TI,TO,i1,i2] z
  (λi h=>IsZip h z TI TO .none/\IsPair h TI (.ref i1) (.ref i2)/\(∃u v,IsPair h TO u v)/\h.IsListIter i1 a i/\h.IsListIter i2 b i) where
 mem:=by simp
 obj:=λi h st c hc=>by
  obtain⟨h1,h2,⟨u,v,h3⟩,⟨o4,h4,c4,d4⟩,⟨o5,h5,c5,d5⟩⟩:=st;have hc':c=z\/c=TI\/c=TO\/c=i1\/c=i2:=by simpa using hc
  rcases hc' with rfl|rfl|rfl|rfl|rfl
  .exact⟨_,h1,λv z=>by cases z⟩
  .exact⟨_,h2,λv z=>by cases z⟩
  .exact⟨_,h3,λv z=>by cases z⟩
  .exact⟨_,h4,λv z=>by rw[d4]at z;cases z⟩
  .exact⟨_,h5,λv z=>by rw[d5]at z;cases z⟩
 keep:=λi h h' st k=>by obtain⟨h1,h2,⟨u,v,h3⟩,h4,h5⟩:=st;exact⟨k z (by simp) _ h1,k TI (by simp) _ h2,⟨u,v,k TO (by simp) _ h3⟩,h4.at λo e=>k i1 (by simp) o e,h5.at λo e=>k i2 (by simp) o e⟩
 item:=by
  intro X hP hw hK hc i pins s σ H E I hf st hg;subst hP hw hK;obtain⟨hq1,hq2,l1,l2⟩:=hg;obtain⟨its,rv,p,hz⟩:=I.list hq1;obtain⟨its2,rv2,p2,hz2⟩:=I.list hq2;have e1:xs[i]?=some xs[i]:=aa l1;have e2:ys[i]?=some ys[i]:=aa l2;obtain⟨u,hu,ru⟩:=rv.get e1;obtain⟨v,hv,rv'⟩:=rv2.get e2;obtain⟨h1,h2,⟨a0,b0,h3⟩,h4,h5⟩:=st;refine wpAny_pyNext_zip_item ap h1 h2 h3 h4 h5 p.isList p2.isList (x:=u) (y:=v) (by simpa using hu) (by simpa using hv) λh' g1 g2 g3 g4 g5 g6 g7=>?_;refine⟨_,rfl,wpAny_letOwnedTupleGo_zip (s:={ s with heap:=h' }) g1 λh'' f1 f2=>?_⟩;have hsz:∀c,c∈[z,TI,TO,i1,i2]->c≠s.heap.objs.size:=λc hc e=>by
   have hc':c=z\/c=TI\/c=TO\/c=i1\/c=i2:=by simpa using hc
   have hlt:c<s.heap.objs.size:=by
    rcases hc' with rfl|rfl|rfl|rfl|rfl
    .exact ao h1
    .exact ao h2
    .exact ao h3
    .obtain⟨o,e,_⟩:=h4;exact ao e
    .obtain⟨o,e,_⟩:=h5;exact ao e
   exact be _ (e▸hlt)
  have keep:∀c o,c∉[z,TI,TO,i1,i2]->s.heap.get? c=some o->h''.get? c=some o:=λc o nc e=>by simp only[aM,List.not_mem_nil,or_false,not_or]at nc;rw[f2.2 c nc.1];exact g7 c o nc.1 nc.2.2.1 nc.2.2.2.1 nc.2.2.2.2 e
  have keepz:∀c o,c≠z->h'.get? c=some o->h''.get? c=some o:=λc o nc e=>(f2.2 c nc).trans e;have new:h''.get? s.heap.objs.size=some { cls:=.type "tuple",data:=.seq #[u,v] }:=keepz _ _ (dD (hsz z (by simp))) g5;have hTI:h''.get? TI=some { cls:=.type "tuple",data:=.seq #[.ref i1,.ref i2] }:=by refine keepz _ _ ap.TIz ?_;exact g7 TI _ ap.TIz ap.TITO ap.TIi1 ap.TIi2 h2
  refine⟨.ref s.heap.objs.size,_,Inv.turnedT (s:=s) (ch:=[z,TI,TO,i1,i2]) (tk:=s.toks) I keep new hf hsz (xzv I ru rv') rfl,rfl,⟨_,_,_,I.hok.fresh (al _),rfl,e1,e2,rfl⟩,⟨f1,hTI,⟨u,v,keepz _ _ ap.TOz g2⟩,g3.at λo e=>keepz _ _ ap.i1z e,g4.at λo e=>keepz _ _ ap.i2z e⟩,λc hc=>?_⟩;rw[q8 (hsz c hc)];exact(hf c hc).1
 done:=by
  intro X hP hw hK hc i pins s σ H E I hf st hg;subst hP hw hK;obtain⟨hq1,hq2,le⟩:=hg;obtain⟨its,rv,p,hz⟩:=I.list hq1;obtain⟨its2,rv2,p2,hz2⟩:=I.list hq2;have hl:=rv.length;have hl2:=rv2.length;obtain⟨h1,h2,⟨a0,b0,h3⟩,h4,h5⟩:=st;refine wpAny_pyNext_zip_end (I.ok.hd hc) ap h1 h2 h3 h4 h5 p.isList p2.isList ?_ λh' g=>⟨rfl,Inv.turnedL (ch:=[z,TI,TO,i1,i2]) (tk:=s.toks) I (λc o nc e=>?_) hf⟩
  .rcases le with le|le
   .exact .inl (eG (by rw[av];lia))
   .exact .inr (eG (by rw[av];lia))
  .simp only[aM,List.not_mem_nil,or_false,not_or]at nc;exact g c o nc.1 nc.2.2.1 nc.2.2.2.1 nc.2.2.2.2 e
 self:=λ_ _ _ _ _ st h=>wpAny_pyIter_zip st.1 h
section
variable {X:Cx}
def iZip (K:Aa)(ta:TA):TI:=λσ H R=>ta σ H λvs H1=>∃a b xs ys,vs=[.ref a,.ref b]/\SqL K H1 a xs/\SqL K H1 b ys/\R (ItZ K a b xs ys) H1
theorem pi_zip {a b:Expr}{ta:TA}{p pos:Pos}{es:List Expr}{k:Nat}{tpos:Pos}(hg:Gl X "zip")(hm:X.mg "zip" = none)(ha:PA X [a,b] ta)(hv:autoParam (bootBuiltins "zip" = some (.type "zip")) aU4._auto_1)
  (hs:autoParam (starEach [a,b] X.env=[(false,eval a X.env),(false,eval b X.env)]) aU4._auto_1) (hs2:autoParam (starEach [b] X.env=[(false,eval b X.env)]) aU4._auto_1):PI X (.Tuple es k tpos) (.Call (.Name "zip" p) [a,b] [] pos) (iZip X.K ta):=by
 intro pins s σ H R I h;refine Call_ (yr I hg hm hv (cu (thn (ha pos pins s σ H _ I h) λus s1 ⟨vs,H1,I1,r1,q1⟩=>?_) (by rw[hs,hs2]) (by rw[hs2];rfl)));obtain⟨a,b,xs,ys,e,hq1,hq2,q⟩:=q1;subst e;cases r1 with
 |cons r rr =>
  cases rr with
  |cons r' rr =>
   cases rr;cases r;cases r';obtain⟨its,rv,p,hz⟩:=I1.list hq1;obtain⟨its2,rv2,p2,hz2⟩:=I1.list hq2;have la:a<s1.heap.objs.size:=by obtain⟨o,n,e1,_⟩:=p;exact ao e1
   have lb:b<s1.heap.objs.size:=by obtain⟨o,n,e1,_⟩:=p2;exact ao e1
   refine call_zip_2 p.isList p2.isList λh' g1 g2 g3 g4 g5 g6 g7=>?_;refine wpAny_pyIter_zip g1 ?_;have I2:Inv X pins σ H1 { s1 with heap:=h' }:=I1.kept (t':=s1.toks) g7;refine⟨s1.heap.objs.size+4,[s1.heap.objs.size+4,s1.heap.objs.size+2,s1.heap.objs.size+3,s1.heap.objs.size,s1.heap.objs.size+1],_,_,H1,rfl,I2,xwd a b _ _ _ _ _ xs ys (zipApart_new la lb),⟨g1,g2,⟨_,_,g3⟩,g4,g5⟩,λc hc=>?_,q⟩;have hc':s1.heap.objs.size<=c:=by
    have:c=s1.heap.objs.size+4\/c=s1.heap.objs.size+2\/c=s1.heap.objs.size+3\/c=s1.heap.objs.size\/c=s1.heap.objs.size+1:=by simpa using hc
    rcases this with e | e | e | e | e <;> (rw[e];first | exact al _ | exact iG _ _)
   exact I1.fpOk hc' (I1.hok.fresh hc')
end
section
variable {X:Cx}
end
section
variable {X:Cx}{elt iter tg:Expr}{x y2:Str}{pos:Pos}{scope:Scope}{cl:List (Str×Aj)}{M:List Nat}{wi:TI}{gg:TG}{te:TE}
end
theorem xx0 {X:Cx}{K:Aa}{pos:Pos}{es:List Expr}{k:Nat}{t:TGs}{n:Nat}(hK:X.K=K)(hc:X.calm=true)(h:PGs X es t)(h1:autoParam ((assignEach es X.env).length=n) aU4._auto_1)(h2:autoParam (List.findIdx? (λx=>x.fst) (assignEach es X.env)=none) aU4._auto_1):PG X (.Tuple es k pos) (gTup K n t):=by subst hK;exact y7 hc h h1 h2
def StayT (G:Nat->V->Hp->Prop):Prop:=∀i v H H',G i v H->(∀b o,(∀xs,o≠.lst xs)->H b=some o->H' b=some o)->G i v H'
theorem qqj {M:List Nat}{lo:Int}{n:Nat}{te:TE}{σ:St}{H:Hp}{Q:VK}(G:Nat->V->Hp->Prop)(gs:StayT G)(hn:n<=1000000)
  (he:∀(i:Nat) (H':Hp) (R:VK),i<n->Same H H'->(∀v H'',Same H' H''->G i v H''->R v H'')->te (zf M σ (some (.int (lo+i)))) H' R)
  (k:∀p ys H',H p=none->Same H H'->H' p=some (.lst ys)->ys.length=n->(∀j v,ys[j]?=some v->G j v H')->Q (.ref p) H'):Wb (Itr lo n) M te σ H Q:=by
 intro p np;have big:(1000000:Nat)<sizeLine:=by decide
 refine⟨λi m ys H2=>i<=n/\m=n-i/\ys.length=i/\Same H H2/\H2 p=some (.lst ys)/\∀j v,ys[j]?=some v->G j v H2,⟨n,aT _,rfl,rfl,Same.upd np,qf,λj v e=>by cases e⟩,?_⟩;rintro i m ys H2 ⟨hi,rfl,hl,sm,hp,hG⟩;refine⟨hp,⋯,?_⟩;by_cases hlt:i<n
 .refine .inr ⟨hlt,?_⟩;rintro v H3 ⟨rfl,rfl⟩;refine he i H3 _ hlt sm λw H4 s4 g4=>?_;have hp4:=s4 _ _ hp;have st:∀b o,(∀xs,o≠.lst xs)->H4 b=some o->upd H4 p (.lst (ys++[w])) b=some o:=λb o no e=>by
   rw[q8]
   .exact e
   .intro z;rw[z,hp4]at e;exact no _ (aq e).symm
  refine⟨hp4,n-(i+1),⋯,⋯,rfl,by rw[am,hl];rfl,λb o e=>?_,qf,λj v e=>?_⟩
  .rw[q8 (wx e np)];exact s4 _ _ (sm _ _ e)
  .rcases bo j ys.length with z|z
   .rw[aP z]at e;exact gs j v _ _ (hG j v e) λb o no e=>st b o no (s4 _ _ e)
   .rw[az z]at e;have hj:j=i:=by
     rcases bo (j-ys.length) 1 with y|y
     .lia
     .rw[aR (by simpa using y)]at e;cases e
    subst hj;rw[show j-ys.length=0 by lia]at e;cases e;exact gs j _ _ _ g4 st
 .have:i=n:=by lia
  subst this;exact .inl ⟨al _,k p ys H2 np sm hp hl hG⟩
end L2
namespace HT
open PySem PySem.Spec PyProof.Rows
section
variable {prog:Ac}{w:Ah}{A:Ae}{E:Ag->Ab->Prop}{s:Ab}
theorem cat_tup0 {t b:Aj}{ws:List Ag}{Q:Ag->Ab->Prop}(ht:IsTup s.heap t #[])(hb:IsTup s.heap b ws.toArray)(h:Q (.ref b) s):wpAny (model prog w) A (binaryOp .Add (.ref t) (.ref b)) Q E s:=by obtain⟨⟨cls,dd,data,sl⟩,ho,hc,n,hd⟩:=id ht ;obtain⟨⟨cls2,dd2,data2,sl2⟩,ho2,hc2,n2,hd2⟩:=id hb;simp only at hc hd hc2 hd2 ;subst hc hd hc2 hd2;exact concat_meets ⟨_,ho,rfl⟩ ⟨_,ho2,rfl⟩ iz seq_tuple_add fW fO (fv _ _) (tuple_addW0 t b #[] ws.toArray n n2 dd dd2 sl sl2 (by simp)) ⟨ho,ho2,h⟩
end
end HT
namespace L2
open PySem PySem.Spec PyProof.Rows
section
variable {X:Cx}
def rCatW (K:Aa):R2:=λx y H Q=>∃a b xs ys,x=.ref a/\y=.ref b/\SqT K H a xs/\SqT K H b ys/\xs.length+ys.length<=sizeLine /\
 (xs=[]->Q (.ref b) H)/\(xs≠[]->ys=[]->Q (.ref a) H)/\(xs≠[]->ys≠[]->∀p,H p=none->Q (.ref p) (upd H p (.tup (xs++ys))))
theorem xvz:OpR X (binaryOp .Add) (rCatW X.K):=by
 intro pins s σ H x y v u Q I rx ry h;obtain⟨a,b,xs,ys,rfl,rfl,ha,hb,hz,q0,q1,q2⟩:=h;by_cases hx:xs=[]
 .subst hx;cases rx;cases ry;obtain⟨its,r1,p1,_⟩:=I.tuple ha;obtain⟨its2,r2,p2,_⟩:=I.tuple hb;cases r1;exact HT.cat_tup0 p1 p2 ⟨.ref b,H,I,rfl,q0 rfl⟩
 .exact xvv pins s σ H (.ref a) (.ref b) v u Q I rx ry ⟨a,b,xs,ys,rfl,rfl,ha,hb,hx,hz,q1 hx,q2 hx⟩
end
end L2
namespace L2
open PySem PySem.Spec PyProof.Rows
end L2
namespace L2
open PySem PySem.Spec PyProof.Rows
section
universe u1 u2 u3 u4 u5 u6
variable {α:Sort u1}{β:Sort u2}{γ:Sort u3}{δ:Sort u4}{ε:Sort u5}{ζ:Sort u6}
theorem ex2 {p:α->β->Prop}(a:α)(b:β)(h:p a b):∃x y,p x y:=⟨a,b,h⟩
theorem ex3 {p:α->β->γ->Prop}(a:α)(b:β)(c:γ)(h:p a b c):∃x y z,p x y z:=⟨a,b,c,h⟩
theorem ex4 {p:α->β->γ->δ->Prop}(a:α)(b:β)(c:γ)(d:δ)(h:p a b c d):∃x y z t,p x y z t:=⟨a,b,c,d,h⟩
theorem ex5 {p:α->β->γ->δ->ε->Prop}(a:α)(b:β)(c:γ)(d:δ)(e:ε)(h:p a b c d e):∃x y z t r,p x y z t r:=⟨a,b,c,d,e,h⟩
theorem ex6 {p:α->β->γ->δ->ε->ζ->Prop}(a:α)(b:β)(c:γ)(d:δ)(e:ε)(f:ζ)(h:p a b c d e f):∃x y z t r s,p x y z t r s:=⟨a,b,c,d,e,f,h⟩
end
section
variable {K:Aa}{σ:St}{H:Hp}{Q:VK}{i i2:Nat}{j j2:Int}{p p2:Aj}{xs ys:List V}{v:V}
theorem rdT (e:σ[i]?=some (some (.ref p)))(h:SqT K H p xs)(a:atI xs j=some v)(q:Q v H):tOp (rIxT K) (j4 i) (tC (.int j)) σ H Q:=⟨_,e,p,xs,j,v,rfl,rfl,h,a,q⟩
theorem rdTT (e:σ[i]?=some (some (.ref p)))(h:SqT K H p xs)(a:atI xs j=some (.ref p2))(h2:SqT K H p2 ys)(a2:atI ys j2=some v)(q:Q v H):tOp (rIxT K) (tOp (rIxT K) (j4 i) (tC (.int j))) (tC (.int j2)) σ H Q:=⟨_,e,p,xs,j,_,rfl,rfl,h,a,p2,ys,j2,v,rfl,rfl,h2,a2,q⟩
theorem rdL (e:σ[i]?=some (some (.ref p)))(e2:σ[i2]?=some (some (.int j)))(h:SqL K H p xs)(a:atI xs j=some v)(q:Q v H):tOp (wwy K) (j4 i) (j4 i2) σ H Q:=⟨_,e,_,e2,p,xs,j,v,rfl,rfl,h,a,q⟩
theorem rdLC (e:σ[i]?=some (some (.ref p)))(h:SqL K H p xs)(a:atI xs j=some v)(q:Q v H):tOp (wwy K) (j4 i) (tC (.int j)) σ H Q:=⟨_,e,p,xs,j,v,rfl,rfl,h,a,q⟩
end
theorem tn2 (n:Nat):((n:Int)-1).toNat=n-1:=by lia
theorem tn1 {m:Int}(h:1<=m):(m-1).toNat=m.toNat-1:=by obtain⟨n,rfl⟩:=fS (show 0<=m by lia);rw[tn2,b8]
theorem tn3 {m:Int}(h:1<=m):(m-1).toNat+1=m.toNat:=by rw[tn1 h];exact Nat.sub_add_cancel (Int.lt_toNat.mpr h)
theorem tnlt {m:Int}(h:1<=m):((m.toNat-1:Nat):Int)<m:=by rw[<-tn1 h,bY ⋯];lia
theorem tnsum {r t:Int}(h0:0<=r)(h1:1+r<t):(1+r).toNat-1+((t-(1+r)).toNat-1+1)=t.toNat-1:=by rw[<-tn1 (show 1<=1+r by lia),<-tn1 (show 1<=t-(1+r) by lia),<-tn1 (show 1<=t by lia),tn3 (show 1<=t-(1+r) by lia),<-Int.toNat_add ⋯ ⋯];congr 1;lia
end L2
namespace L2
open PySem PySem.Spec PyProof.Rows
def Rows (q:Aj)(B:Hp)(L:List (List V))(ys:List V)(H:Hp):Prop:=Paired (λv xs=>∃a,v=.ref a/\a≠q/\B a=none/\H a=some (.lst xs)) ys L
theorem Paired.mono {α β:Type}{R S:α->β->Prop}(h:∀a b,R a b->S a b):∀ {xs:List α} {ys:List β},Paired R xs ys->Paired S xs ys
 |_,_,.nil=>.nil
 |_,_,.cons r t=>.cons (h _ _ r) (Paired.mono h t)
theorem Paired.app {α β:Type}{R:α->β->Prop}:∀ {xs xs':List α} {ys ys':List β},Paired R xs ys->Paired R xs' ys'->Paired R (xs++xs') (ys++ys')
 |_,_,_,_,.nil,h=>h
 |_,_,_,_,.cons r t,h=>.cons r (Paired.app t h)
theorem js {H H':Hp}(s:Same H H'){a:Aj}(n:H' a=none):H a=none:=by
 cases e:H a with
 |none=>rfl
 |some o=>rw[s _ _ e]at n;cases n
def Qm (c:Nat->Bool)(xs:List V)(n:Nat):List V:=((List.range n).filter c).map λi=>xs.getD i .non
theorem qxh {K:Aa}{M:List Nat}{a:Aj}{xs:List V}{tt:TT}{te:TE}{σ:St}{H:Hp}{Q:VK}(c:Nat->Bool)(hS:SqL K H a xs)(hn:xs.length<=1000000)
  (ht:∀(i:Nat) (x:V) (H':Hp) (R:Bool->Hp->Prop),xs[i]?=some x->Same H H'->(∀H'',Same H' H''->R (c i) H'')->tt (zf M σ (some x)) H' R)
  (he:∀(i:Nat) (x:V) (H':Hp) (R:VK),xs[i]?=some x->c i=true->Same H H'->(∀H'',Same H' H''->R x H'')->te (zf M σ (some x)) H' R)
  (k:∀p H',H p=none->Same H H'->H' p=some (.lst (Qm c xs xs.length))->Q (.ref p) H'):wwb (Itl K a) M tt te σ H Q:=by
 intro p np;refine⟨λi m ys H2=>i<=xs.length/\m=xs.length-i/\ys=Qm c xs i/\Same H H2/\H2 p=some (.lst ys),⟨xs.length,aT _,rfl,rfl,Same.upd np,qf⟩,?_⟩;rintro i m ys H2 ⟨hi,rfl,rfl,sm,hp⟩;refine⟨hp,?_,?_⟩
 .unfold Qm;rw[ag];have:=eO c (List.range i);rw[aG]at this;have:(1000000:Nat)<sizeLine:=by decide
  lia
 .by_cases hlt:i<xs.length
  .have hx:xs[i]?=some xs[i]:=aa hlt;refine .inr ⟨⟨xs,_,sm.sql hS,hx⟩,?_⟩;rintro v H3 ⟨rfl,hv⟩;have e:=aq (hx.symm.trans (hv xs (sm.sql hS)));subst e;refine ht i _ _ _ hx sm λH4 s4=>?_;have hp4:=s4 _ _ hp;have hg:xs.getD i .non=xs[i]:=by rw[af,hx];rfl
   cases hc:c i with
   |true =>
    refine yp ?_;refine he i _ _ _ hx hc (sm.trans s4) λH5 s5=>⟨s5 _ _ hp4,xs.length-(i+1),⋯,⋯,rfl,?_,λb o e=>?_,qf⟩
    .unfold Qm;rw[bL,g9,aW];simp only[eZ,hc,db,List.filter_nil,aD,cV,hg]
    .rw[q8 (wx e np)];exact s5 _ _ (s4 _ _ (sm _ _ e))
   |false =>
    refine jz ?_;refine⟨hp4,xs.length-(i+1),⋯,⋯,rfl,?_,sm.trans s4,hp4⟩;unfold Qm;rw[bL,g9,aW];simp only[eZ,hc,aI,bN,List.filter_nil,cV,bR]
  .have:i=xs.length:=by lia
   subst this;exact .inl ⟨⟨xs,sm.sql hS,al _⟩,k p H2 np sm hp⟩
end L2
namespace L2
open PySem PySem.Spec PyProof.Rows
def InnRI (J2:It)(M:List Nat)(tt:TT)(te:TE)(σ:St)(v:V)(p:Aj)(ys:List V)(H4:Hp)(Wx:List V->Hp->Prop):Prop:=∃W2:Nat->Nat->List V->Hp->Prop,(∃m2,W2 0 m2 ys H4) /\
 ∀j m2 zs H5,W2 j m2 zs H5->H5 p=some (.lst zs)/\zs.length<sizeLine/\((J2.stop j H5/\Wx zs H5)\/(J2.go j H5/\∀u H6,J2.yld j H5 u H6 ->
  tt (zu M σ (some v) (some u)) H6 λb H6'=>if b=true then te (zu M σ (some v) (some u)) H6' (λy H7=>H7 p=some (.lst zs)/\∃m2',m2'<m2/\W2 (j+1) m2' (zs++[y]) (upd H7 p (.lst (zs++[y])))) else H6' p=some (.lst zs)/\∃m2',m2'<m2/\W2 (j+1) m2' zs H6'))
def qk6 (J:It)(M:List Nat)(wi2:TI)(tt:TT)(te:TE)(σ:St)(H1:Hp)(Q:VK):Prop:=∀p,H1 p=none->∃W:Nat->Nat->List V->Hp->Prop,(∃m,W 0 m [] (upd H1 p (.lst []))) /\
 ∀i m ys H2,W i m ys H2->H2 p=some (.lst ys)/\((J.stop i H2/\Q (.ref p) H2)\/(J.go i H2/\∀v H3,J.yld i H2 v H3 ->
  wi2 (zu M σ (some v) none) H3 λJ2 H4=>InnRI J2 M tt te σ v p ys H4 λzs H5=>∃m',m'<m/\W (i+1) m' zs H5))
def xvm (M:List Nat)(wi wi2:TI)(tt:TT)(te:TE):TE:=λσ H Q=>wi σ H λJ H1=>qk6 J M wi2 tt te σ H1 Q
section
variable {X:Cx}{elt iter iter2 cd:Expr}{x y:Str}{px py pos:Pos}{scope:Scope}{cl:List (Str×Aj)}{M:List Nat}{wi wi2:TI}{tt:TT}{te:TE}
theorem qjt (M:List Nat)(σ:St)(v:V):(zu M σ none none).length=(zu M σ (some v) none).length/\∀(k:Nat) z,(zu M σ none none)[k]?=some (some z)->(zu M σ (some v) none)[k]?=some (some z):=⟨rfl,λk z ez=>by
 match k,ez with
 |0,ez=>cases ez
 |1,ez=>cases ez
 |k+2,ez=>exact ez⟩
theorem qjp (M:List Nat)(σ:St)(v:Option V)(u:V):(zu M σ v none).length=(zu M σ v (some u)).length/\∀(k:Nat) z,(zu M σ v none)[k]?=some (some z)->(zu M σ v (some u))[k]?=some (some z):=⟨rfl,λk z ez=>by
 match k,ez with
 |0,ez=>exact ez
 |1,ez=>cases ez
 |k+2,ez=>exact ez⟩
def inrS (i1:Expr)(e:Expr)(acc:Ag)(env:Env)(c:Code):Sem PySem.Fin:=eval i1 env >>= λx=>standAt i1.pos >>= λ_=>foldedSetIterable i1 env x >>= λx=>holding [x] (pyIter x) >>= λit1=>runOwn (Code.compStart e 1 it1 acc env) env >>= λ_=>again c
theorem xvs (elt t0 i0 t1 i1 cd:Expr)(scope:Scope)(pos:Pos)(it acc:Ag)(env:Env):compTurn (elt.ListComp [⟨t0,i0,[],0⟩,⟨t1,i1,[cd],0⟩] scope pos) 0 it acc env=(standAt i0.pos >>= λ_=>pyNext it >>= λr=>match r with|none=>pure (.done .next)|some v=>letOwnedTupleGo t0 it v >>= λ_=>assign t0 env v >>= λ_=>inrS i1 (elt.ListComp [⟨t0,i0,[],0⟩,⟨t1,i1,[cd],0⟩] scope pos) acc env (Code.compLoop (elt.ListComp [⟨t0,i0,[],0⟩,⟨t1,i1,[cd],0⟩] scope pos) 0 it acc env)):=rfl
theorem xx6 (elt t0 i0 t1 i1 cd:Expr)(scope:Scope)(pos:Pos)(it acc:Ag)(env:Env):compTurn (elt.ListComp [⟨t0,i0,[],0⟩,⟨t1,i1,[cd],0⟩] scope pos) 1 it acc env=(standAt i1.pos >>= λ_=>pyNext it >>= λr=>match r with|none=>pure (.done .next)|some v=>letOwnedTupleGo t1 it v >>= λ_=>assign t1 env v >>= λ_=>tstS cd env (appS elt acc env (Code.compLoop (elt.ListComp [⟨t0,i0,[],0⟩,⟨t1,i1,[cd],0⟩] scope pos) 1 it acc env)) (again (Code.compLoop (elt.ListComp [⟨t0,i0,[],0⟩,⟨t1,i1,[cd],0⟩] scope pos) 1 it acc env))):=rfl
theorem xw3 {Y:Cx}{t0 i0 t1:Expr}{p:Aj}{c:Code}{σ:St}{H:Hp}{pins:List (Aj×Obj)}{s:Ab}{R2:It->Hp->Prop}{Post:Ab->Prop}(hi2:PI Y t1 iter2 wi2)(hs2:∀z,foldedSetIterable iter2 Y.env z=pure z)(J:Inv Y pins σ H s)(h:wi2 σ H R2)
  (go:∀(it2:Aj) (fp2:List Aj) (tn2:Nat->Heap->Prop) (J2:It) (H8:Hp) (s8:Ab),Inv Y pins σ H8 s8->Turn Y.prog Y.w Y.K t1 J2 fp2 it2 tn2->tn2 0 s8.heap->(∀b∈fp2,kv Y pins H8 b)->R2 J2 H8 ->
   codeAny (model Y.prog Y.w) Y.A (.compLoop (elt.ListComp [⟨t0,i0,[],0⟩,⟨t1,iter2,[cd],0⟩] scope pos) 1 (.ref it2) (.ref p) Y.env) (λr s'=>match r with|.ok _=>Post s'|.error _=>False) s8) :
  wpAny (model Y.prog Y.w) Y.A (inrS iter2 (elt.ListComp [⟨t0,i0,[],0⟩,⟨t1,iter2,[cd],0⟩] scope pos) (.ref p) Y.env c) (λr s5=>r=Fin.again c/\Post s5) Y.xe s:=by
 refine ae (bi (hi2 _ s _ H _ J h) (λv1 s7 h7=>?_) λ_ _ z=>z);refine ae (dj ?_);rw[hs2];refine ae (aj (ae (cG (bi h7 (λitv2 s8 h8=>?_) λ_ _ z=>z))));obtain⟨it2,fp2,tn2,Jb,H8,rfl,I8,T2,t8,hfp2,hR⟩:=h8;refine ae (wpAny_runOwn ?_);have loop2:=go it2 fp2 tn2 Jb H8 s8 I8 T2 t8 hfp2 hR;refine eV (xv3 loop2 λE2=>T2.self _ 0 _ _ _ t8 loop2) λr s' hr=>?_;cases r with
 |ok f=>exact aj ⟨rfl,hr⟩
 |error e=>exact hr.elim
theorem ww7 (hc:X.calm=true)(hclos:closureFor scope X.env=pure cl)(hcap:CapAll X.env cl)(hhas:HasAll cl scope.names)(hix:CapIx X scope cl M)(hk:scope.kind=.function)
  (hnames:∀y∈scope.names,y.2=.local->scope.names.lookup y.1=some .local) (hx:scope.names.lookup x=some .local) (hy:scope.names.lookup y=some .local) (hnd:(qjv X x y M).Nodup) (hi:PI X (.Name x px) iter wi)
  (hi2:∀C s2 H2 fp pn,PI (zy X scope cl x y M C s2 H2 fp pn) (.Name y py) iter2 wi2)
  (ht:∀C s2 H2 fp pn,PT (zy X scope cl x y M C s2 H2 fp pn) cd tt) (he:∀C s2 H2 fp pn,PE (zy X scope cl x y M C s2 H2 fp pn) elt te) (hs:∀z,foldedSetIterable iter X.env z=pure z) (hs2:∀env z,foldedSetIterable iter2 env z=pure z)
  {use:Option (Ag->Sem Unit)} {QQ:Ag->Ab->Prop} {pins:List (Aj×Obj)} {s:Ab} {σ:St} {H:Hp} {Q:VK} {ps:Pos} (I:Inv X pins σ H s) (h:wi σ H λJ H1=>qk6 J M wi2 tt te σ H1 Q)
  (fin:∀(C:Aj) (s2 s4:Ab) (H1 H2:Hp) (fp:List Aj),Inv X pins σ H1 s2->s2.heap.objs.size<C->(∀b∈fp,kv X pins H1 b)->Inv (zy X scope cl x y M C s2 H1 fp (X.pn++pins)) [] (zu M σ none none) H2 s4->Q (.ref s2.heap.objs.size) H2 ->
   compPost (model X.prog X.w) X.A X.xe use QQ (.ref s2.heap.objs.size) C (.ok .next) s4) :
  wpAny (model X.prog X.w) X.A (comprehension (.ListComp elt [⟨.Name x px,iter,[],0⟩,⟨.Name y py,iter2,[cd],0⟩] scope pos) scope X.env ps (newList []) false (eval iter X.env) use) QQ X.xe s:=by
 refine Ys hclos hhas hk hnames hi hs I h λit fp tn J H1 s2 C h3 tk I2 T t3 hfp hbl hob hR hlt keep hns hD=>?_;obtain⟨W,⟨m0,w0⟩,hW⟩:=hR s2.heap.objs.size (I2.hok.fresh (al _));have hxl:(relabel scope X.env).names.lookup x=some .local:=dY hx;have hyl:(relabel scope X.env).names.lookup y=some .local:=dY hy;have hT:=hi2 C s2 H1 fp (X.pn++pins);have hE:=he C s2 H1 fp (X.pn++pins);have hC:=ht C s2 H1 fp (X.pn++pins);have g0:PG (zy X scope cl x y M C s2 H1 fp (X.pn++pins)) (.Name x px) (Z9 0):=xy (i:=0) hnd rfl (.inl hxl) (.inr hxl);have g1:PG (zy X scope cl x y M C s2 H1 fp (X.pn++pins)) (.Name y py) (Z9 1):=xy (i:=1) hnd rfl (.inl hyl) (.inr hyl);have fo:=Zs (N:=qjv X x y M) (scope:=scope) hcap I2 hlt hfp hbl;have I0:=I2.comp2 (x:=x) (y:=y) (tk:=tk) hcap hhas hix hk hlt keep hns hD hfp hob;have fn:=λH2 s4 J4 q=>fin C s2 s4 H1 H2 fp I2 hlt hfp J4 q;refine ju (Y:=zy X scope cl x y M C s2 H1 fp (X.pn++pins)) (V:=λi n H2=>∃ys,W i n ys H2) (Qd:=Q (.ref s2.heap.objs.size)) (REST:=inrS iter2 _ (.ref s2.heap.objs.size) (compEnvC scope cl C X.env) _) T hc (λ_ _ z=>z) (xvs ..) rfl rfl g0 fo (λi n H2 ⟨ys,w⟩=>?_) fn I0 ⟨[],w0⟩ t3 λb hb=>by rw[q8 (aE (hbl b hb))];exact(hfp b hb).1
 obtain⟨hp,hcase⟩:=hW i n ys H2 w;refine hcase.imp id λ⟨hgo,hyy⟩=>⟨hgo,λv H3 yl=>⟨λσ4 H4=>σ4=zu M σ (some v) none/\H3=H4,⟨rfl,rfl⟩,λ_ _ e=>?_⟩⟩;obtain⟨rfl,rfl⟩:=e;refine⟨qjt M σ v,λpins' s' J=>?_⟩;refine xw3 hT (hs2 _) J (hyy v H3 yl) λit2 fp2 tn2 J2 H8 s8 I8 T2 t8 hfp2 ⟨W2,⟨m2,w2⟩,hW2⟩=>?_;refine ju (Y:=zy X scope cl x y M C s2 H1 fp (X.pn++pins)) (V:=λj n2 H9=>∃zs,W2 j n2 zs H9) (Qd:=λH9=>∃zs m',m'<n/\W (i+1) m' zs H9) (REST:=tstS cd (compEnvC scope cl C X.env) (appS elt (.ref s2.heap.objs.size) (compEnvC scope cl C X.env) _) (again _)) T2 hc (λ_ _ z=>z) (xx6 ..) rfl rfl g1 (λH9 hn b hb=>⟨hn b hb,(hfp2 b hb).2⟩) (λj n2 H9 ⟨zs,w9⟩=>?_)
  (λH9 s9 J9 ⟨zs,m',hm',wq⟩=>⟨H9,J9,m',hm',zs,wq⟩) I8 ⟨ys,w2⟩ t8 λb hb=>(hfp2 b hb).1
 obtain⟨hp9,hz9,hcase9⟩:=hW2 j n2 zs H9 w9;refine hcase9.imp (λ⟨hst,m',hm',wq⟩=>⟨hst,zs,m',hm',wq⟩) λ⟨hgo9,hy9⟩=>⟨hgo9,λu H11 yl11=>⟨λσ4 H4=>σ4=zu M σ (some v) (some u)/\H11=H4,⟨rfl,rfl⟩,λ_ _ e=>?_⟩⟩;obtain⟨rfl,rfl⟩:=e;refine⟨qjp M σ (some v) u,λpins9 s9 J9=>?_⟩;exact Yw hC J9 (hy9 u H11 yl11) (λs6 H6 J6 h6=>bi (Yv (N:=λzs H5=>∃m',m'<n2/\W2 (j+1) m' zs H5) (λ_ _ z=>z) hE J6 hz9 h6) (λr s5 ⟨e,H5,J5,zs,m',hm,w'⟩=>⟨e,H5,J5,m',hm,zs,w'⟩) λ_ _ z=>z)
  λs6 H6 J6 ⟨_,m',hm,w'⟩=>aj ⟨rfl,H6,J6,m',hm,zs,w'⟩
end
section
variable {X:Cx}{elt iter iter2 cd:Expr}{x y2:Str}{px py2 pos:Pos}{scope:Scope}{cl:List (Str×Aj)}{M:List Nat}{wi wi2:TI}{tt:TT}{te:TE}
theorem qyp {i:Nat}{y:Str}{py spos:Pos}(hN:X.N.Nodup)(hyi:X.N[i]?=some y)(hyl:Loc X.env.scope y)(hc:X.calm=true)(hclos:closureFor scope X.env=pure cl)(hcap:CapAll X.env cl)(hhas:HasAll cl scope.names)(hix:CapIx X scope cl M)(hk:scope.kind=.function)
  (hnames:∀y∈scope.names,y.2=.local->scope.names.lookup y.1=some .local) (hx:scope.names.lookup x=some .local) (hy2:scope.names.lookup y2=some .local) (hnd:(qjv X x y2 M).Nodup) (hi:PI X (.Name x px) iter wi) (hi2:∀C s2 H2 fp pn,PI (zy X scope cl x y2 M C s2 H2 fp pn) (.Name y2 py2) iter2 wi2)
  (ht:∀C s2 H2 fp pn,PT (zy X scope cl x y2 M C s2 H2 fp pn) cd tt) (he:∀C s2 H2 fp pn,PE (zy X scope cl x y2 M C s2 H2 fp pn) elt te) (hs:autoParam (∀z,foldedSetIterable iter X.env z=pure z) aU3._auto_1) (hs2:∀env z,foldedSetIterable iter2 env z=pure z:=by intros;rfl)
  (hsw:autoParam (swapsWith (.ListComp elt [⟨.Name x px,iter,[],0⟩,⟨.Name y2 py2,iter2,[cd],0⟩] scope pos) (some (.Name y py)) spos.line X.env=pure true) aU4._auto_1) (hyf:autoParam (X.fn y=true\/X.env.scope.names.lookup y=some .local) aU0._auto_1) :
  PS X (.Assign [.Name y py] (.ListComp elt [⟨.Name x px,iter,[],0⟩,⟨.Name y2 py2,iter2,[cd],0⟩] scope pos) spos) (tAsg (xvm M wi wi2 tt te) (Z9 i)):=by
 intro pins s σ H D I h;rw[exec_Assign_Name_used _ _ _ _ hsw];refine ae (dj (ae ?_));refine ae (bi (ww7 hc hclos hcap hhas hix hk hnames hx hy2 hnd hi hi2 ht he hs hs2 (use:=some (assign (.Name y py) X.env)) (QQ:=λ_ s'=>SP X pins D .next s') I h λC s2 s4 H1 H2 fp I2 hlt hfp J4 hq=>?_) (λ_ s' hq=>aj (aj hq)) λ_ _ e=>e);have I4:Inv X pins σ H2 s4:=I2.uncomp2 (h':=s4.heap) (bu hlt) hfp J4 (Heap.SameBut.refl _ _);have hCn:H2 C=none:=J4.free;obtain⟨mC,hnC,_⟩:=J4.loc;obtain⟨oC,esC,epC,hoC,hdC⟩:=id hnC;have hCl:C≠X.env.locals:=λz=>be _ (bv hlt (z▸I2.lt));have hCs:X.s₀.heap.objs.size<=C:=bM I2.sz (bu hlt);have hCc:∀y c,X.env.cells.lookup y=some c->c≠C:=λy c e z=>by obtain⟨v,o,e1,_⟩:=I2.cell y c e;exact be _ (bv hlt (z▸ao e1))
 have hCp:∀p∈X.pn++pins,p.1≠C:=λp hp z=>be _ (bv hlt (z▸ao (I2.pin p hp).1));have hCf:C∉frs X.stack:=λz=>by
  rcases aM.mp (I2.stkSub C z) with q|q
  .exact hCl q
  .obtain⟨_,o,e1,_⟩:=I2.funs.mem (b:=C) q;exact be _ (bv hlt (ao e1))
 have hCx:C∉X.fs:=λz=>by obtain⟨_,o,e1,_⟩:=I2.funs.mem (b:=C) z;exact be _ (bv hlt (ao e1))
 have I4p:Inv X (pins++[(C,oC)]) σ H2 s4:=⟨I4.ok,I4.os,I4.bare,I4.base,I4.loc,I4.cell,I4.free,I4.freeC,λp hp=>by
  rcases aU.mp hp with q|q
  .exact I4.pin p (ca _ q)
  .rcases aU.mp q with q|q
   .exact I4.pin p (aN _ q)
   .rw[aH.mp q]
    exact⟨hoC,hCn,hCl,hCx,λv z=>by rw[hdC.1]at z;cases z⟩,I4.hok,I4.len⟩
 show wpAny _ _ (assign (.Name y py) X.env (.ref s2.heap.objs.size)) _ _ _;refine ie (yx I4p hN hyi hyl (show RelV (.ref s2.heap.objs.size) (.ref s2.heap.objs.size) from rfl) (λs5 I5=>?_) hyf);have hC5:=(I5.pin (C,oC) (aN _ (aN _ (.head _)))).1;exact⟨mC,⟨oC,esC,epC,hC5,hdC⟩,λh' hs'=>⟨_,H2,I5.unpinned.but hCn hCs hCl hCc hCp hs',hq⟩⟩
end
end L2
namespace L2
open PySem PySem.Spec PyProof.Rows
def Itd (a:Int)(n:Nat):It:=⟨λi _=>i<n,λi H x H'=>H'=H/\x=.int (a-i),λi _=>n<=i⟩
theorem wjz {P:Ac}{w:Ah}{K:Aa}{tg:Expr}(it:Aj)(a:Int)(n:Nat):Turn P w K tg (Itd a n) [it] it (λi h=>IsRangeIter h it (a+(i:Nat)*(-1)) ((n:Int)-(i:Nat)) (-1)) where
 mem:=by simp
 obj:=λi h st b hb=>by cases(aH.mp hb);exact⟨_,st,λv z=>nomatch (show Data.fields _=Data.cell v from z)⟩
 keep:=λi h h' st k=>k it (by simp) _ st
 item:=by intro X hP hw hK hc i pins s σ H E I hf st hg;subst hP hw hK;have hfi:=hf it (by simp);refine(Walks.range (prog:=X.prog) (w:=X.w) (I.ok.hd hc) it a (-1) n).item i s _ _ hg st λv h' tk hv st' kk=>?_;obtain⟨t,rfl⟩:=hv;have I1:Inv X pins σ H { s with heap:=h',toks:=tk }:=I.turned (λb o hb e=>kk b o (by simpa using hb) e) hfi.1 hfi.2.1 hfi.2.2.2.1 hfi.2.2.2.2.1 hfi.2.2.2.2.2;refine⟨_,rfl,wvp (s:={ s with heap:=h',toks:=tk }) (n := "range_iterator") st' rfl rfl ⋯ ⟨.int (a-i),H,I1,⟨t,?_⟩,⟨rfl,rfl⟩,st',λb hb=>(hf b hb).1⟩⟩;congr 1;lia
 done:=by intro X hP hw hK hc i pins s σ H E I hf st hg;subst hP hw hK;have hfi:=hf it (by simp);exact wpAny_pyNext_range_end (I.ok.hd hc) st (by have:n<=i:=hg;lia) λh' eb=>⟨rfl,I.turned (t':=s.toks) (λb o hb e=>eb b o hb e) hfi.1 hfi.2.1 hfi.2.2.2.1 hfi.2.2.2.2.1 hfi.2.2.2.2.2⟩
 self:=λ_ _ _ _ _ st h=>wpAny_pyIter_rangeiter st h
section
variable {X:Cx}{tg:Expr}
theorem xz7 {pins:List (Aj×Obj)}{σ:St}{H:Hp}{s:Ab}{R:It->Hp->Prop}{E:Ag->Ab->Prop}{a b:Int}{t u v:Tok}{tk:Nat}(I:Inv X pins σ H s)(h1:-(2 ^ 62)<=a)(h2:a<2 ^ 62)(h3:-(2 ^ 62)<=b)(h4:b<2 ^ 62)
  (q:R (Itd a (a-b).toNat) H):wpAny (model X.prog X.w) X.A (pyIter (.ref s.heap.objs.size)) (PIE X pins σ tg R) E { s with heap:=s.heap.push { cls:=.type "range",data:=.fields #[.int a t,.int b u,.int (-1) v] },toks:=tk }:=by
 refine wpAny_pyIter_range (IsRange.new ..) (W.small_down h1 h2 h3 h4) ?_;generalize eh:s.heap.push { cls:=.type "range",data:=.fields #[.int a t,.int b u,.int (-1) v] }=h1;have I1:Inv X pins σ H { s with heap:=h1,toks:=tk }:=I.kept λb o e=>by rw[<-eh];exact ai _ e
 refine⟨h1.objs.size,[h1.objs.size],_,_,H,rfl,I1.kept (t':=tk) λb o e=>ai _ e,wjz _ a (a-b).toNat,?_,λc hb=>?_,q⟩
 .have e1:a+((0:Nat):Int)*(-1)=a:=by lia
  have e2:(((a-b).toNat:Nat):Int)-((0:Nat):Int)=Builtin.Range.rangeSize a b (-1):=by rw[W.rangeSize_downNat];lia
  show IsRangeIter _ _ (a+((0:Nat):Int)*(-1)) ((((a-b).toNat:Nat):Int)-((0:Nat):Int)) (-1);rw[e1,e2];exact aF _ rfl
 .cases(aH.mp hb);exact I1.fpOk (al _) (I1.hok.fresh (al _))
def iRngD (ta:TA):TI:=λσ H R=>ta σ H λvs H1=>∃i j:Int,vs=[.int i,.int j,.int (-1)]/\(-(2 ^ 40)<=i/\i<2 ^ 40/\-(2 ^ 40)<=j/\j<2 ^ 40)/\R (Itd i (i-j).toNat) H1
theorem wyb {a b c:Expr}{ta:TA}{p pos:Pos}(hg:Gl X "range")(hm:X.mg "range" = none)(ha:PA X [a,b,c] ta)(hs:autoParam (starEach [a,b,c] X.env=(false,eval a X.env)::starEach [b,c] X.env) aU4._auto_1)(hs2:autoParam ((backTo pos (starEach [b,c] X.env)).any (·.1)=false) aU4._auto_1) :
  PI X tg (.Call (.Name "range" p) [a,b,c] [] pos) (iRngD ta):=by
 intro pins s σ H R I h;refine Call_ (yr I hg hm boot_range (cu (thn (ha pos pins s σ H _ I h) λus s1 ⟨vs,H1,I1,r1,q1⟩=>?_) hs hs2));obtain⟨i,j,rfl,⟨q1,q2,q3,q4⟩,q⟩:=q1;cases r1 with
 |cons r rr =>
  cases rr with
  |cons r' rr =>
   cases rr with
   |cons r'' rr =>
    cases rr;obtain⟨t,rfl⟩:=r;obtain⟨t',rfl⟩:=r';obtain⟨t'',rfl⟩:=r'';exact PySem.call_range_3 ⋯ (xz7 I1 ⋯ ⋯ ⋯ ⋯ q) (Or.inl (PyProof.noPylong_small ⋯))
end
theorem wy8 {a:Int}{n:Nat}{g:TG}{tb:TS}{D:Ends}{σ:St}{H:Hp}(Pv:Nat->St->Hp->Prop)(h0:Pv 0 σ H)
  (hs:∀i σ H,i<n->Pv i σ H->g (.int (a-i)) σ H λσ2 H2=>tb { D with nx:=Pv (i+1),ct:=Pv (i+1),bk:=D.nx } σ2 H2) (hd:∀σ H,Pv n σ H->D.nx σ H) :
  ∃W:Nat->Nat->St->Hp->Prop,(∃m,W 0 m σ H)/\∀i m σ H,W i m σ H ->
   ((Itd a n).stop i H/\D.nx σ H)\/((Itd a n).go i H/\∃N:St->Hp->Prop,(∀σ' H',N σ' H'->∃m',m'<m/\W (i+1) m' σ' H')/\∀x H',(Itd a n).yld i H x H'->g x σ H' λσ2 H2=>tb { D with nx:=N,ct:=N,bk:=D.nx } σ2 H2):=by
 refine⟨λi m σ H=>m=n-i/\i<=n/\Pv i σ H,⟨n,by simp,aT _,h0⟩,?_⟩;rintro i m σ H ⟨rfl,hi,p⟩;rcases bo i n with z|z
 .refine .inr ⟨z,Pv (i+1),λσ' H' hp=>⟨n-(i+1),⋯,rfl,⋯,hp⟩,?_⟩;rintro x H' ⟨rfl,rfl⟩;exact hs i σ _ z p
 .obtain rfl:i=n:=by lia
  exact .inl ⟨al _,hd σ H p⟩
end L2
namespace L2
def Jk (S:Int)(p:Int×Int):Int:=p.1*S/p.2
theorem wvm {S:Int}{p q:Int×Int}(hS:0<=S)(hp:1<=p.2)(hq:1<=q.2)(h:p.1*q.2<=q.1*p.2):Jk S p<=Jk S q:=by
 unfold Jk;refine(gf ⋯).mpr ?_;have a1:p.1*S/p.2*p.2<=p.1*S:=iQ _ ⋯;generalize p.1*S/p.2=k at a1 ⊢;have a2:k*p.2*q.2<=p.1*S*q.2:=au a1 ⋯;have a3:p.1*q.2*S<=q.1*p.2*S:=au h hS;have a4:k*q.2*p.2<=q.1*S*p.2:=by
  have e1:k*q.2*p.2=k*p.2*q.2:=by grind
  have e2:p.1*S*q.2=p.1*q.2*S:=by grind
  have e3:q.1*S*p.2=q.1*p.2*S:=by grind
  lia
 exact dN a4 ⋯
theorem wzs {G:Int}{p q:Int×Int}(hp:1<=p.2)(hq:1<=q.2)(gp:p.2<=G)(gq:q.2<=G)(h:p.1*q.2<q.1*p.2):Jk (G*G) p<Jk (G*G) q:=by
 have hS:0<=G*G:=bg ⋯ ⋯;have hb:p.2*q.2<=G*G:=bw gp gq ⋯ ⋯;unfold Jk;generalize G*G=S at hS hb;have a1:p.1*S/p.2*p.2<=p.1*S:=iQ _ ⋯;refine(gf ⋯).mpr ?_;generalize p.1*S/p.2=k at a1 ⊢;have a2:k*p.2*q.2<=p.1*S*q.2:=au a1 ⋯;have a3:(p.1*q.2+1)*S<=q.1*p.2*S:=au ⋯ hS;have a4:(k+1)*q.2*p.2<=q.1*S*p.2:=by
  have e1:(k+1)*q.2*p.2=k*p.2*q.2+p.2*q.2:=by grind
  have e2:p.1*S*q.2+S=(p.1*q.2+1)*S:=by grind
  have e3:q.1*S*p.2=q.1*p.2*S:=by grind
  lia
 exact dN a4 ⋯
def Wor (pt:Nat->Int×Int)(i j:Nat):Prop:=(pt i).1*(pt j).2<(pt j).1*(pt i).2\/((pt i).1*(pt j).2=(pt j).1*(pt i).2/\i<j)
theorem wxc {pt:Nat->Int×Int}{G:Int}{i j:Nat}(hi:1<=(pt i).2)(hj:1<=(pt j).2)(gi:(pt i).2<=G)(gj:(pt j).2<=G)
  (h:Jk (G*G) (pt i)<Jk (G*G) (pt j)\/(Jk (G*G) (pt i)=Jk (G*G) (pt j)/\i<j)):Wor pt i j:=by
 have hS:0<=G*G:=bg ⋯ ⋯;unfold Wor;rcases gk ((pt i).1*(pt j).2) ((pt j).1*(pt i).2) with c|c|c
 .exact .inl c
 .have k1:=wvm hS hi hj (Int.le_of_eq c);have k2:=wvm hS hj hi (Int.le_of_eq c.symm);exact .inr ⟨c,⋯⟩
 .have:=wzs hj hi gj gi c;lia
end L2
namespace L2
open PySem PySem.Spec PySem.Calls PySem.W PyProof.Rows
def vn:List Int->List Int->Bool
 |x::xs,y::ys=>if x=y then vn xs ys else decide (x<y)
 |_,_=>false
section
variable {prog:Ac}{w:Ah}{A:Ae}{E:Ag->Ab->Prop}{s:Ab}{Q:Bool->Ab->Prop}
theorem wv1:∀ {us vs:List Ag} {xs ys:List Int} (i:Nat),IntsAre us xs->IntsAre vs ys->Q (vn xs ys) s->KatLex prog w A true false Q (us.zip vs) i s
 |_,_,_,_,i,.nil,b,h=>by cases b <;> exact h
 |_,_,_,_,i,.cons _ _ _,.nil,h=>h
 |_,_,_,_,i,@IntsAre.cons x t us xs a,@IntsAre.cons y u vs ys b,h=>by
  show KatLex prog w A true false Q ((Value.int x t,Value.int y u)::us.zip vs) i s;refine kat_cons (wpAny_eqBool_int ?_);refine kat_go (λe=>kat_yes ?_) λe=>kat_no ?_
  .refine wv1 (i+1) a b ?_;have e':x=y:=by simpa using e
   unfold vn at h;rw[aw e']at h;exact h
  .have e':¬ x=y:=by simpa using e
   unfold vn at h;rw[ar e']at h;by_cases c:i=0
   .subst c;exact oneLt_int h
   .have ci:(true&&i==0)=false:=by simp[c]
    rw[ci];exact kat_one _ _ (lt_int h)
theorem lex_lt {x y:Aj}{us vs:List Ag}{xs ys:List Int}{ox oy:Obj}{n k:Nat}(hx:s.heap.get? x=some ox)(dx:ox.data=.seq us.toArray n)(hy:s.heap.get? y=some oy)(dy:oy.data=.seq vs.toArray k)
  (a:IntsAre us xs) (b:IntsAre vs ys) (hl:us.length=vs.length) (h:Q (vn xs ys) s):wpAny (model prog w) A (keyLt' (tuples' true) (.ref x) (.ref y)) Q E s:=by
 refine kat_lt hx dx hy dy ?_;have e:decide (us.toArray.size<vs.toArray.size)=false:=by simp[hl]
 rw[e];exact wv1 0 a b h
end
theorem wv3:∀xs,vn xs xs=false
 |[]=>rfl
 |x::xs=>by unfold vn;rw[aw rfl];exact wv3 xs
theorem qkx:∀ {n:Nat} {xs ys zs:List Int},xs.length=n->ys.length=n->zs.length=n->vn xs ys=true->vn ys zs=true->vn xs zs=true
 |0,[],[],[],_,_,_,h,_=>h
 |n+1,x::xs,y::ys,z::zs,h1,h2,h3,a,b=>by
  unfold vn at a b ⊢;by_cases e1:x=y
  .rw[aw e1]at a;subst e1;by_cases e2:x=z
   .rw[aw e2]at b ⊢;exact qkx (by simpa using h1) (by simpa using h2) (by simpa using h3) a b
   .rw[ar e2]at b ⊢;exact b
  .rw[ar e1]at a;have:=cL a;by_cases e2:y=z
   .rw[aw e2]at b;subst e2;rw[ar e1];exact a
   .rw[ar e2]at b;have:=cL b;rw[ar ⋯];exact aS ⋯
theorem qk9:∀ {n:Nat} {xs ys:List Int},xs.length=n->ys.length=n->vn xs ys=true\/xs=ys\/vn ys xs=true
 |0,[],[],_,_=>.inr (.inl rfl)
 |n+1,x::xs,y::ys,h1,h2=>by
  unfold vn;by_cases e:x=y
  .subst e;rw[aw rfl,aw rfl];rcases qk9 (n:=n) (xs:=xs) (ys:=ys) (by simpa using h1) (by simpa using h2) with h|h|h
   .exact .inl h
   .exact .inr (.inl (by rw[h]))
   .exact .inr (.inr h)
  .rw[ar e,ar (λz=>e z.symm)];by_cases c:x<y
   .exact .inl (aS c)
   .exact .inr (.inr (aS ⋯))
def kzL (ks:List (List Int))(x:List Int):Int:=((ks.countP λy=>vn y x:Nat):Int)
theorem qjj {n:Nat}{ks:List (List Int)}{x y:List Int}(hn:∀k∈ks,k.length=n)(hx:x∈ks)(hy:y∈ks):kzL ks x<kzL ks y↔vn x y=true:=by
 have le:∀u v,u∈ks->v∈ks->vn u v=true->(ks.countP λk=>vn k u)<ks.countP λk=>vn k v:=λu v hu hv h=>by
  have sub:∀k∈ks,vn k u=true->vn k v=true:=λk hk e=>qkx (hn k hk) (hn u hu) (hn v hv) e h;have e1:(ks.countP λk=>vn k u)<=(ks.countP λk=>vn k v&&!(k==u)):=by
   refine List.countP_mono_left λk hk e=>?_;have:k≠u:=λz=>by rw[z,wv3]at e;cases e
   simp[sub k hk e,this]
  have e2:(ks.countP λk=>vn k v&&!(k==u))+(ks.countP λk=>vn k v&&(k==u))<=ks.countP λk=>vn k v:=by
   clear sub e1 hu hv hn hx hy
   induction ks with
   |nil=>simp
   |cons k r ih =>
    simp only[List.countP_cons];by_cases c1:vn k v=true <;> by_cases c2:(k==u)=true <;> simp[c1,c2]at ih ⊢ <;> lia
  have e3:0<ks.countP λk=>vn k v&&(k==u):=List.countP_pos_iff.mpr ⟨u,hu,by simp[h]⟩;lia
 unfold kzL;constructor
 .intro h;rcases qk9 (hn x hx) (hn y hy) with c|c|c
  .exact c
  .rw[c]at h;lia
  .have:=le y x hy hx c;lia
 .intro h;have:=le x y hx hy h;lia
end L2
namespace L2
open PySem PySem.Spec PySem.Calls PySem.W PyProof.Rows
inductive TK (h:Heap) (d:Nat):List Ag->List (List Int)->Prop
 |nil:TK h d [] []
 |cons {x:Aj} {o:Obj} {us:List Ag} {n:Nat} {xs:List Int} {ks:List Ag} {kss:List (List Int)} (ho:h.get? x=some o) (hc:o.cls=.type "tuple") (hd:o.data=.seq us.toArray n) (hi:IntsAre us xs) (hl:xs.length=d) (t:TK h d ks kss):TK h d (.ref x::ks) (xs::kss)
theorem TK.length {h:Heap}{d:Nat}{ks:List Ag}{kss:List (List Int)}(t:TK h d ks kss):ks.length=kss.length:=by
 induction t with
 |nil=>rfl
 |cons _ _ _ _ _ _ ih=>simp[ih]
theorem TK.lens {h:Heap}{d:Nat}{ks:List Ag}{kss:List (List Int)}(t:TK h d ks kss):∀k∈kss,k.length=d:=by
 induction t with
 |nil=>intro k hk;cases hk
 |cons _ _ _ _ hl _ ih=>intro k hk;rcases aM.mp hk with rfl|z;exact hl;exact ih k z
theorem TK.kept {h h':Heap}{d:Nat}{ks:List Ag}{kss:List (List Int)}(t:TK h d ks kss)(k:∀b o,h.get? b=some o->o.cls=.type "tuple" -> h'.get? b=some o):TK h' d ks kss:=by
 induction t with
 |nil=>exact .nil
 |cons a b c e f _ ih=>exact .cons (k _ _ a b) b c e f ih
theorem TK.at_ {h:Heap}{d:Nat}{ks:List Ag}{kss:List (List Int)}(t:TK h d ks kss):∀i,i<kss.length->∃x o us n,ks.getD i .none=.ref x/\h.get? x=some o/\o.data=.seq us.toArray n/\IntsAre us (kss.getD i [])/\(kss.getD i []).length=d:=by
 induction t with
 |nil=>intro i hi;simp at hi
 |@cons x o us n xs ks kss a b c e f _ ih =>
  intro i hi;cases i with
  |zero=>exact⟨x,o,us,n,rfl,a,c,e,f⟩
  |succ i=>exact ih i (by simpa using hi)
theorem Q4 {us:List Ag}{xs:List Int}(h:IntsAre us xs):us.length=xs.length:=by
 induction h with
 |nil=>rfl
 |cons _ _ _ ih=>simp[ih]
theorem TK.tups {h:Heap}{d:Nat}{ks:List Ag}{kss:List (List Int)}(t:TK h d ks kss)(hd:1<=d):∃fs,KatTups h ks fs/\fs.length=ks.length/\∀v∈fs,∃i t,v=Value.int i t:=by
 induction t with
 |nil=>exact⟨[],trivial,rfl,λv hv=>by cases hv⟩
 |@cons x o us n xs ks kss a b c e f _ ih =>
  obtain⟨fs,h1,h2,h3⟩:=ih;cases e with
  |nil=>simp at f;lia
  |@cons i t us' xs' e'=>exact⟨.int i t::fs,KatTups.cons a b c (by simp) h1,by simp[h2],λv hv=>by rcases aM.mp hv with rfl|z;exact⟨i,t,rfl⟩;exact h3 v z⟩
section
variable {prog:Ac}{w:Ah}{A:Ae}{E:Ag->Ab->Prop}{s:Ab}{a kS:Aj}{vs ks:List Ag}{P:PySem.Fin->Ab->Prop}
end
end L2
namespace L2
open PySem PySem.Spec PySem.Calls PySem.W PyProof.Rows
section
variable {prog:Ac}{w:Ah}{A:Ae}{E:Ag->Ab->Prop}{s:Ab}{a kS:Aj}{vs ks:List Ag}{P:PySem.Fin->Ab->Prop}{f:Ag}
theorem wvq {α:Type}{J:List Ag->List α->Ab->Prop}{body:Ag->PUnit->Sem (ForInStep PUnit)}
  (hb:∀x ks kss (s:Ab),vs[ks.length]?=some x->J ks kss s->wpAny (model prog w) A (body x ⟨⟩) (λr s'=>r=.yield ⟨⟩/\∃k xs,J (ks++[k]) (kss++[xs]) s') E s):∀(r ks:List Ag) (kss:List α) (s:Ab),vs=vs.take ks.length++r->ks.length<=vs.length ->
   J ks kss s->wpAny (model prog w) A (forIn r PUnit.unit body) (λ_ s'=>∃ks kss,ks.length=vs.length/\J ks kss s') E s
 |[],ks,kss,s,hv,hl,j=>by rw[List.forIn_nil];refine aj ⟨ks,kss,?_,j⟩;rw[bR]at hv;have:=cr List.length hv;rw[aY]at this;lia
 |x::r,ks,kss,s,hv,hl,j=>by
  rw[List.forIn_cons];have hlen:=cr List.length hv;rw[am,aY,aQ]at hlen;have hx:vs[ks.length]?=some x:=by
   rw[hv,az (by rw[aY];lia),aY];have:ks.length-min ks.length vs.length=0:=by lia
   rw[this];rfl
  refine ae (bi (hb x ks kss s hx j) (λq s' hq=>?_) λ_ _ x=>x);obtain⟨rfl,k,xs,j'⟩:=hq;show wpAny (model prog w) A (forIn r PUnit.unit body) _ E s';refine wvq hb r (ks++[k]) (kss++[xs]) s' ?_ (by rw[am,cN];lia) j';rw[am,cN,dw,hx];simpa using hv
def Zp (h:Heap)(a:Aj)(vs:List Ag):Heap:=((h.update a (Obj.mapSeq λ_=>(#[]:Array Ag))).push (seqObj "tuple" vs.toArray 0)).push (seqObj "list" #[] 0)
end
end L2
namespace L2
open PySem PySem.Spec PySem.Calls PySem.W PyProof.Rows
section
variable {X:Cx}{pins:List (Aj×Obj)}{σ:St}{H:Hp}{s:Ab}
theorem Inv.track {D:Aj}{o:HO}(I:Inv X pins σ H s)(hD:kv X pins H D)(new:ObjOk X.prog X.w (upd H D o) s.heap D o):Inv X pins σ (upd H D o) s:=by
 obtain⟨hn,q2,q3,q4,q5,q6⟩:=hD;refine I.call' (s':=s) (ch:=[D]) rfl ⟨λb u q _ _ _=>q,λb u q _ _ _=>⟨u.slots,q⟩,λb u q n hx=>?_,λb u q _=>⟨u,q⟩,λb xs q=>?_,λb u xs q=>?_,λb ps q=>⟨#[],?_⟩⟩ (λb u e=>?_) I.bare λb hb=>?_
 .rw[q8 (λz=>hx (by simp[z]))];exact n
 .rw[q8 (wx q hn)];exact q
 .rw[q8 (wx q hn)];exact q
 .rw[q8 (wx q hn),q];simp
 .by_cases hb:b=D
  .subst hb;rw[qf]at e;cases e;exact new
  .rw[q8 hb]at e;exact(I.hok b u e).stay (λc v _ q=>q) (λc q=>by rw[q8 (wx q hn)];exact q) λc xs q=>by rw[q8 (wx q hn)];exact q
 .obtain rfl:b=D:=by simpa using hb
  exact⟨q4,q2,q5,q6⟩
end
end L2
namespace L2
open PySem PySem.Spec PySem.Calls PySem.W PyProof.Rows
def wun (X:Cx)(f:Ag)(ks:List Str)(r:List V->List V->Hp->VK->Prop):Prop :=
 ∀(pins:List (Aj×Obj)) (s:Ab) (σ:St) (H:Hp) (xs zs:List V) (us ws:List Ag) (Q:VK),Inv X pins σ H s->Vals xs us->Vals zs ws->r xs zs H Q ->
  wpAny (model X.prog X.w) X.A (call f us (ks.zip ws)) (EP X pins σ Q) X.xe s
def tCBK (r:List V->List V->Hp->VK->Prop)(t tk:TA):TE:=λσ H Q=>t σ H λvs H1=>tk σ H1 λzs H2=>r vs zs H2 Q
section
variable {X:Cx}{x:Str}{p pos:Pos}{e:Expr}{es:List Expr}{kws:List Keyword}{t tk:TA}{id:String}{ks:List Str}{r:List V->List V->Hp->VK->Prop}
theorem wjc (hc:wun X (.builtin id) ks r)(hg:Gl X x)(hm:X.mg x=none)(hv:bootBuiltins x=some (.builtin id))(ha:PA X (e::es) t)(hkw:PK X kws tk)
  (hall:autoParam ((backToKw pos (keywordEach kws X.env)).all (·.1.isSome)=true) aU4._auto_1) (hks:autoParam ((backToKw pos (keywordEach kws X.env)).filterMap (·.1)=ks) aU4._auto_1) (hn:autoParam (x ≠ "__name__") aU2._auto_1) (hdb:autoParam ((x==("__debug__" : Str))=false) aU1._auto_1)
  (he:autoParam (starEach (e::es) X.env=(false,eval e X.env)::starEach es X.env) aU4._auto_1)
  (hpl:autoParam ((backTo pos (starEach (e::es) X.env)).any (·.1)=false) aU4._auto_1) (hpk:autoParam ((backToKw pos (keywordEach kws X.env)).any (·.1.isNone)=false) aU4._auto_1):PE X (.Call (.Name x p) (e::es) kws pos) (tCBK r t tk):=by
 intro pins s σ H Q I h;refine dh (yr I hg hm hv ?_ hn hdb);refine callWith_builtin_kwB hpl hpk (evalArgs_kw2 hall (thn (ha pos pins s σ H _ I h) λus s1 ⟨vs,H1,I1,r1,q⟩=>?_) he);refine thn (hkw pos pins s1 σ H1 _ I1 q) λws s2 ⟨zs,H2,I2,rz,q2⟩=>?_;dsimp only [List.nil_append];rw[hks];exact hc pins s2 σ H2 vs zs us ws Q I2 r1 rz q2
end
end L2
namespace L2
open PySem PySem.Spec PyProof.Rows
def Tups (L:List (List Int))(ys:List V)(H:Hp):Prop:=Paired (λv xs=>∃a,v=.ref a/\H a=some (.tup (xs.map V.int))) ys L
theorem Tups.keep {L:List (List Int)}{ys:List V}{H H':Hp}(h:Tups L ys H)(k:∀a xs,H a=some (.tup xs)->H' a=some (.tup xs)):Tups L ys H' :=
 Paired.mono (λ_ _ ⟨a,e,f⟩=>⟨a,e,k a _ f⟩) h
theorem Tups.same {L:List (List Int)}{ys:List V}{H H':Hp}(h:Tups L ys H)(s:Same H H'):Tups L ys H':=h.keep λa xs e=>s a _ e
theorem Tups.upd {L:List (List Int)}{ys zs:List V}{H:Hp}{p:Aj}{o:HO}(h:Tups L ys H)(hp:H p=some (.lst zs)):Tups L ys (upd H p o):=h.keep λa xs e=>by rw[q8 (λz=>by rw[z,hp]at e;cases e)];exact e
theorem Tups.snoc {L:List (List Int)}{ys:List V}{H:Hp}{a:Aj}{xs:List Int}(h:Tups L ys H)(ha:H a=some (.tup (xs.map V.int))):Tups (L++[xs]) (ys++[.ref a]) H:=Paired.app h (.cons ⟨a,rfl,ha⟩ .nil)
theorem Tups.get {L:List (List Int)}{ys:List V}{H:Hp}(h:Tups L ys H){i:Nat}{v:V}(e:ys[i]?=some v):∃a xs,v=.ref a/\L[i]?=some xs/\H a=some (.tup (xs.map V.int)):=by
 unfold Tups at h
 induction h generalizing i with
 |nil=>simp at e
 |cons r t ih =>
  cases i with
  |zero =>
   obtain⟨a,rfl,f⟩:=r;simp at e;exact⟨a,_,e.symm,rfl,f⟩
  |succ i=>exact ih (by simpa using e)
theorem Tups.len {L:List (List Int)}{ys:List V}{H:Hp}(h:Tups L ys H):ys.length=L.length:=dG h
section
variable {X:Cx}{K:Aa}
theorem xwy (hK:X.K=K):OpR X (binaryOp .Add) (rCatW K):=by subst hK;exact xvz
end
def Yc (c:Int->Bool)(row vs:List Int):List (List Int):=(vs.filter c).map λv=>row++[v]
theorem qv0 (c:Int->Bool)(row vs:List Int)(v:Int):Yc c row (vs++[v])=Yc c row vs++if c v=true then [row++[v]] else []:=by
 unfold Yc;rw[g9,aW];congr 1;by_cases h:c v=true
 .rw[aw h,eZ,aw h];rfl
 .rw[ar h,eZ,ar h];rfl
theorem qu9 (c:Int->Bool)(row vs:List Int):(Yc c row vs).length<=vs.length:=by unfold Yc;rw[ag];exact eO _ _
def Zb (c:Int->Bool)(g:List Int->List Int)(L:List (List Int)):List (List Int):=L.flatMap λr=>Yc c r (g r)
theorem qud {c:Int->Bool}{g:List Int->List Int}:∀ {L:List (List Int)},(∀r∈L,(g r).length<=24)->(Zb c g L).length<=24*L.length
 |[],_=>al _
 |r::L,h=>by
  have ih:=qud (c:=c) (g:=g) (L:=L) λr hr=>h r (.tail _ hr);have h1:=qu9 c r (g r);have h2:=h r (.head _);have e:Zb c g (r::L)=Yc c r (g r)++Zb c g L:=by unfold Zb;rw[List.flatMap_cons]
  rw[e,am,aQ];lia
theorem wys (c:Int->Bool)(g:List Int->List Int){L:List (List Int)}{i:Nat}{r:List Int}(h:L[i]?=some r):Zb c g (L.take (i+1))=Zb c g (L.take i)++Yc c r (g r):=by unfold Zb;rw[dw,h,gL];simp
theorem qy2 {K:Aa}{M:List Nat}{q:Aj}{us:List V}{wi2:TI}{tt:TT}{te:TE}{σ:St}{H:Hp}{Q:VK}(L:List (List Int))(g:List Int->List Int)(c:Int->Bool)(hq:SqL K H q us)(hL:Tups L us H)(hn:L.length<=10000)(hg:∀r∈L,(g r).length<=24)
  (hw:∀(r:List Int) (a:Aj) (H':Hp) (R:It->Hp->Prop),r∈L->H' a=some (.tup (r.map V.int))->Same H H'->(∀b,SqL K H b ((g r).map V.int)->R (Itl K b) H')->wi2 (zu M σ (some (.ref a)) none) H' R)
  (ht:∀(r:List Int) (a:Aj) (u:Int) (H':Hp) (R:Bool->Hp->Prop),r∈L->u∈g r->Same H H'->R (c u) H'->tt (zu M σ (some (.ref a)) (some (.int u))) H' R)
  (he:∀(r:List Int) (a:Aj) (u:Int) (H':Hp) (R:VK),r∈L->u∈g r->c u=true->H' a=some (.tup (r.map V.int))->Same H H'->(∀b H'',Same H' H''->H'' b=some (.tup ((r++[u]).map V.int))->R (.ref b) H'')->te (zu M σ (some (.ref a)) (some (.int u))) H' R)
  (k:∀p ys H',H p=none->Same H H'->H' p=some (.lst ys)->Tups (Zb c g L) ys H'->Q (.ref p) H'):qk6 (Itl K q) M wi2 tt te σ H Q:=by
 have big:(1000000:Nat)<sizeLine:=by decide
 intro p np;have upd2:∀ {H':Hp} {o:HO},Same H H'->Same H (upd H' p o):=λs b u e=>by rw[q8 (wx e np)];exact s b u e
 have tl:∀i,∀r∈L.take i,(g r).length<=24:=λi r hr=>hg r (cC hr);have lu:=hL.len;refine⟨λi m ys H2=>i<=L.length/\m=L.length-i/\Same H H2/\H2 p=some (.lst ys)/\Tups (Zb c g (L.take i)) ys H2,⟨L.length,aT _,rfl,Same.upd np,qf,.nil⟩,?_⟩;rintro i m ys H2 ⟨hi,rfl,s2,f2,t2⟩;refine⟨f2,?_⟩;rcases bo i L.length with z|z
 .have ev:us[i]?=some us[i]:=aa ⋯;obtain⟨a,r,ea,er,fa⟩:=(hL.same s2).get ev;have rm:r∈L:=aC er;refine .inr ⟨⟨us,_,s2.sql hq,ev⟩,?_⟩;rintro v H3 ⟨rfl,hv⟩;have e:=aq (ev.symm.trans (hv us (s2.sql hq)));rw[ea]at e;subst e;refine hw r a H3 _ rm fa s2 λb hb=>?_;have lg:((g r).map V.int).length=(g r).length:=ag _;refine⟨λj m2 zs H5=>j<=(g r).length/\m2=(g r).length-j/\Same H H5/\H5 a=some (.tup (r.map V.int))/\H5 p=some (.lst zs)/\Tups (Zb c g (L.take i)++Yc c r ((g r).take j)) zs H5,⟨(g r).length,aT _,rfl,s2,fa,f2,by rw[show Yc c r ((g r).take 0)=[] from rfl,bR];exact t2⟩,?_⟩;rintro j m2 zs H5 ⟨hj,rfl,s5,fa5,f5,t5⟩;have lz:zs.length<sizeLine:=by have e1:=t5.len;have e2:=qud (c:=c) (tl i);have e3:=qu9 c r ((g r).take j);have e4:=hg r rm;rw[aY]at e2 e3;rw[am]at e1;lia
  refine⟨f5,lz,?_⟩;rcases bo j (g r).length with y|y
  .have eu:(g r)[j]?=some (g r)[j]:=aa y;have um:(g r)[j]∈g r:=bJ _;have eu':((g r).map V.int)[j]?=some (.int (g r)[j]):=by rw[aA,eu];rfl
   refine .inr ⟨⟨_,_,s5.sql hb,eu'⟩,?_⟩;rintro u H6 ⟨rfl,hu⟩;have e:=aq (eu'.symm.trans (hu _ (s5.sql hb)));subst e;refine ht r a _ H6 _ rm um s5 ?_;have ap:a≠p:=λw=>by rw[w,f5]at fa5;cases fa5
   have et:(g r).take (j+1)=(g r).take j++[(g r)[j]]:=by rw[dw,eu];rfl
   cases hc:c (g r)[j] with
   |true =>
    refine yp ?_;refine he r a _ H6 _ rm um hc fa5 s5 λb' H7 s7 f7=>⟨s7 _ _ f5,(g r).length-(j+1),⋯,⋯,rfl,upd2 (s5.trans s7),by rw[q8 ap];exact s7 _ _ fa5,qf,?_⟩;rw[et,qv0,aw hc,<-aX];exact((t5.same s7).upd (s7 _ _ f5)).snoc (by rw[q8 (λw=>by rw[w,s7 _ _ f5]at f7;cases f7)];exact f7)
   |false =>
    refine jz ⟨f5,(g r).length-(j+1),⋯,⋯,rfl,s5,fa5,f5,?_⟩;rw[et,qv0,ar (by rw[hc];exact aK),bR];exact t5
  .obtain rfl:j=(g r).length:=by lia
   refine .inl ⟨⟨_,s5.sql hb,by rw[lg];exact al _⟩,L.length-(i+1),⋯,⋯,rfl,s5,f5,?_⟩;rw[wys c g er];rw[bn]at t5;exact t5
 .obtain rfl:i=L.length:=by lia
  rw[bn]at t2;exact .inl ⟨⟨us,s2.sql hq,⋯⟩,k p ys H2 np s2 f2 t2⟩
end L2
namespace L2
open PySem PySem.Spec PySem.Calls PySem.W PyProof.Rows
def uu (w:Ah)(S:Aj)(ps:List (Int×Ag)):HO:=.ext λh=>SAt w h S ps
theorem qwz {P:Ac}{w:Ah}{H:Hp}{h:Heap}{S:Aj}{ps:List (Int×Ag)}(x:SAt w h S ps):ObjOk P w H h S (uu w S ps):=⟨x,let ⟨o,_,_,e,_⟩:=x;⟨o,e⟩,λh1 h2 a k=>a.at_ k⟩
def PsT (P:Ac)(w:Ah)(H:Hp)(ps:List (Int×Ag))(L:List (List Int)):Prop:=Paired (λp (xs:List Int)=>∃a,p=((KD P w).hash (xs.map Sum.inl),Value.ref a)/\H a=some (.tup (xs.map V.int))) ps L
def PsI (P:Ac)(w:Ah)(ps:List (Int×Ag))(ns:List Int):Prop:=Paired (λp (n:Int)=>∃t,p=((intKind P w).hash n,Value.int n t)) ps ns
theorem wvz (xs:List Int):(xs.map (Sum.inl:Int->Key)).map kV=xs.map V.int:=by rw[ba];rfl
theorem xzq {xs ys:List Int}(h:xs.map (Sum.inl:Int->Key)=ys.map Sum.inl):xs=ys:=(List.map_inj_right λa b e=>Sum.inl.inj e).mp h
theorem PsT.kp {P:Ac}{w:Ah}{H:Hp}{h:Heap}(ok:HOk P w H h):∀ {ps:List (Int×Ag)} {L:List (List Int)},PsT P w H ps L->KP P w h ps (L.map λxs=>xs.map Sum.inl)
 |_,_,.nil=>.nil
 |_,_,.cons ⟨a,e,f⟩ t=>.cons ⟨a,e,xq7 ok (by rw[wvz];exact f)⟩ (PsT.kp ok t)
theorem PsT.keep {P:Ac}{w:Ah}{H H':Hp}{ps:List (Int×Ag)}{L:List (List Int)}(h:PsT P w H ps L)(k:∀a xs,H a=some (.tup xs)->H' a=some (.tup xs)):PsT P w H' ps L :=
 Paired.mono (λ_ _ ⟨a,e,f⟩=>⟨a,e,k a _ f⟩) h
theorem PsT.len {P:Ac}{w:Ah}{H:Hp}{ps:List (Int×Ag)}{L:List (List Int)}(h:PsT P w H ps L):ps.length=L.length:=dG h
theorem PsI.len {P:Ac}{w:Ah}{ps:List (Int×Ag)}{L:List Int}(h:PsI P w ps L):ps.length=L.length:=dG h
theorem Paired.perm {α β:Type}{R:α->β->Prop}{ps ps':List α}{L:List β}(p:ps'.Perm ps)(h:Paired R ps L):∃L',L'.Perm L/\Paired R ps' L':=by
 induction p generalizing L with
 |nil =>
  cases h;exact⟨[],.refl _,.nil⟩
 |cons x _ ih =>
  cases h with
  |cons r t =>
   obtain⟨L',a,b⟩:=ih t;exact⟨_::L',a.cons _,.cons r b⟩
 |swap x y l =>
  cases h with
  |cons r t =>
   cases t with
   |cons r' t=>exact⟨_,.swap _ _ _,.cons r' (.cons r t)⟩
 |trans _ _ ih1 ih2 =>
  obtain⟨L1,a1,b1⟩:=ih2 h;obtain⟨L2,a2,b2⟩:=ih1 b1;exact⟨L2,a2.trans a1,b2⟩
abbrev qxw:=Aj->List (Int×Ag)->V->Hp->(List (Int×Ag)->Hp->Prop)->Prop
def Z1 (X:Cx)(add:qxw):Prop:=∀(pins:List (Aj×Obj)) (s:Ab) (σ:St) (H:Hp) (p:Aj) (ps:List (Int×Ag)) (y:V) (yv:Ag) (Q:List (Int×Ag)->Hp->Prop),Inv X pins σ H s->RelV y yv->H p=some (uu X.w p ps)->add p ps y H Q ->
 wpAny (model X.prog X.w) X.A (call (.builtin "set.add") [.ref p,yv]) (λ_ s'=>∃ps' H',Inv X pins σ H' s'/\Q ps' H') X.xe s
def addT (P:Ac)(w:Ah):qxw:=λp ps y H Q=>∃a xs L,y=.ref a/\H a=some (.tup (xs.map V.int))/\PsT P w H ps L/\ps.length<1099/\(xs∈L->Q ps H)/\(xs∉L->∀ps',ps'.Perm (((KD P w).hash (xs.map Sum.inl),.ref a)::ps)->Q ps' (upd H p (uu w p ps')))
def addI (P:Ac)(w:Ah):qxw:=λp ps y H Q=>∃(n:Int) (L:List Int),y=.int n/\PsI P w ps L/\ps.length<1000/\(n∈L->Q ps H)/\(n∉L->∀ps' t,ps'.Perm (((intKind P w).hash n,.int n t)::ps)->Q ps' (upd H p (uu w p ps')))
section
variable {prog:Ac}{w:Ah}{A:Ae}{E:Ag->Ab->Prop}{s:Ab}{S:Aj}{ps:List (Int×Ag)}
theorem xvg {L:List Int}(h:PsI prog w ps L):ElemsOf (intKind prog w) ps:=by
 induction h with
 |nil=>intro e he;cases he
 |@cons p n ps L r t ih =>
  obtain⟨tk,rfl⟩:=r;intro e he;rcases aM.mp he with rfl|he
  .exact⟨⟨n,by simp[intKind,Value.isInt],rfl⟩,rfl⟩
  .exact ih e he
theorem PsI.mem_of {L:List Int}{n:Int}(h:PsI prog w ps L):(∃j,ps.findIdx? (λe=>(intKind prog w).is n e.2)=some j)↔n∈L:=by
 constructor
 .rintro⟨j,ej⟩;obtain⟨hj,hp,_⟩:=List.findIdx?_eq_some_iff_getElem.mp ej;have key:∀ {ps:List (Int×Ag)} {L:List Int},PsI prog w ps L->∀p∈ps,(intKind prog w).is n p.2=true->n∈L:=by
   intro ps L h
   induction h with
   |nil=>intro p hp;cases hp
   |@cons p m ps L r t ih =>
    obtain⟨tk,rfl⟩:=r;intro q hq hn;rcases aM.mp hq with rfl|hq
    .have:m=n:=by simpa [intKind,Value.isInt] using hn
     rw[this];exact .head _
    .exact .tail _ (ih q hq hn)
  exact key h _ (bJ hj) hp
 .intro hn;cases q:ps.findIdx? (λe=>(intKind prog w).is n e.2) with
  |some j=>exact⟨j,rfl⟩
  |none =>
   have all:=List.findIdx?_eq_none_iff.mp q;have key:∀ {ps:List (Int×Ag)} {L:List Int},PsI prog w ps L->n∈L->∃p∈ps,(intKind prog w).is n p.2=true:=by
    intro ps L h
    induction h with
    |nil=>intro hn;cases hn
    |@cons p m ps L r t ih =>
     obtain⟨tk,rfl⟩:=r;intro hn;rcases aM.mp hn with rfl|hn
     .exact⟨_,.head _,by simp[intKind,Value.isInt]⟩
     .obtain⟨p,hp,e⟩:=ih hn;exact⟨p,.tail _ hp,e⟩
   obtain⟨p,hp,e⟩:=key h hn;have:=all p hp;rw[e]at this;cases this
theorem xqt {L:List Int}{n:Int}{t0:Tok}{Q:Bool->Ab->Prop}(P:SAt w s.heap S ps)(K:PsI prog w ps L)(hn:ps.length<1000)(hQ1:n∈L->∀tk,Q false { s with toks:=tk })
  (hQ2:n∉L->∀h' tk ps',Heap.SameBut S s.heap h'->SAt w h' S ps'->ps'.Perm (((intKind prog w).hash n,.int n t0)::ps)->Q true { s with heap:=h',toks:=tk }) :
  wpAny (model prog w) A (setAdd S (.int n t0)) Q E s:=by
 obtain⟨o,ep,t,ho,hex,hd,T,few⟩:=P;have bm:=T.big;have hkey:(intKind prog w).is n (.int n t0)=true:=by simp[intKind,Value.isInt]
 have el:=xvg K;have sb0:scanBound=4096:=rfl;unfold setAdd;refine cG (ae ((intKind prog w).pyHash hkey ?_));generalize s.toks+1=tk;unfold setAddHashed setAddHashedIn;refine cG (ae (bK (s:={ s with toks:=tk }) ho hd T.fits' ?_));dsimp only;rw[byScan_of (knd:=intKind prog w) rfl (by rw[av];lia) (by simpa using el)];simp only[db];unfold setAddByScan;refine ae ?_;refine ae (dg ?_);refine ae (wpAny_setScan_of (s:={ s with toks:=tk }) hkey ho hd T.fits' (by simpa using el) ?_);rw[show ps.toArray.toList=ps from rfl];cases hr:ps.findIdx? (λe=>(intKind prog w).is n e.2) with
 |some j =>
  dsimp only;exact aj (aj (hQ1 (K.mem_of.mp ⟨j,hr⟩) tk))
 |none =>
  have hno:n∉L:=λz=>by obtain⟨j,ej⟩:=K.mem_of.mpr z;rw[hr]at ej;cases ej
  dsimp only;obtain⟨N,r1,r2,r3⟩:=T.free ((intKind prog w).hash n);generalize hh:(intKind prog w).hash n=h at r1 r2 r3 hQ2 ⊢;have fs:t.freeSlot h=some (pos t h N,false):=by
   unfold SetTable.freeSlot SetTable.probe;obtain⟨m,e1,ok⟩:=J1 (t:=t) (h:=h) (ha:=λ_=>h+1) N (10*SetTable.turns t.mask) (t.probeStart h) (by unfold SetTable.turns;lia) rfl r3 (.inl r2);rw[e1];cases ok with
   |empty hs=>rfl
   |cand m i hm hs hh=>lia
  obtain⟨T1,hp1⟩:=T.put r1 r2 r3 (by rw[ag];lia);have pm:=uc ps (t.put (pos t h N)).2 (h,Value.int n t0);have pl:=pm.length_eq;rw[aQ]at pl;rw[<-wvh ps (t.put (pos t h N)).2 (h,Value.int n t0)]at T1;have fits1:(t.put (pos t h N)).1.fits (zw ps (t.put (pos t h N)).2 (h,Value.int n t0)).toArray.size=true:=T1.fits';have ln:layNew t ps.toArray h (.int n t0)=((zw ps (t.put (pos t h N)).2 (h,Value.int n t0)).toArray,(t.put (pos t h N)).1,false,false):=by unfold layNew;rw[fs];dsimp only;rw[wz5];unfold SetTable.orStandIn;rw[fits1];rfl
  rw[ln];dsimp only;have hm:(t.put (pos t h N)).1.mask=t.mask:=rfl;generalize (t.put (pos t h N)).2=p at T1 pm pl ⊢;generalize (t.put (pos t h N)).1=t1 at T1 hm ⊢;have big:100000<=sizeLine:=by decide
  have gw:∀ {s₁:Ab} {Q':Unit->Ab->Prop},Q' () s₁->wpAny (model prog w) A (match false with | true=>rule "set.scan.the-table-gave-way" | false=>pure ()) Q' E s₁:=λhq=>aj hq;refine ae (gw ?_);rw[aw T1.plain,hashByValue_scannable 8 rfl];refine ae (aj ?_);simp only[plainKind,db];refine ae (gh (s:={ s with toks:=tk }) ho hd ?_ (by rw[av];lia));have g1:(s.heap.update S (Obj.putSet (zw ps p (h,Value.int n t0)).toArray t1)).get? S=some { o with data:=.set (zw ps p (h,Value.int n t0)).toArray (ep+1) t1 }:=qjy ho hd;have sb1:Heap.SameBut S s.heap (s.heap.update S (Obj.putSet (zw ps p (h,Value.int n t0)).toArray t1)):=c0 _ _ _;have fl:t1.fill=ps.length+1:=by unfold SetTable.fill;rw[T1.dm,T1.pl,ag,pl];rfl
  generalize s.heap.update S (Obj.putSet (zw ps p (h,Value.int n t0)).toArray t1)=h1 at g1 sb1 ⊢;by_cases tf:t1.tooFull=true
  .rw[tf];simp only[gZ,i9,db];have gr:SetTable.grown (zw ps p (h,Value.int n t0)).toArray.size=4*((zw ps p (h,Value.int n t0)).map (·.1)).length:=by unfold SetTable.grown;rw[ar (by rw[av];lia),ag,av];lia
   obtain⟨t2,order,f1,f2,T2,f4⟩:=T1.relay (by rw[ag,pl];lia);have hsz:(zw ps p (h,Value.int n t0)).toArray.map (·.1)=((zw ps p (h,Value.int n t0)).map (·.1)).toArray:=by simp
   have hin:∀i∈order.toList,i<(zw ps p (h,Value.int n t0)).length:=λi hi=>by have:=ay.mp (f2.mem_iff.mp hi);rwa [ag]at this
   have oe:order.filterMap (λi=>(zw ps p (h,Value.int n t0)).toArray[i]?)=(order.toList.map λi=>(zw ps p (h,Value.int n t0)).getD i (0,.none)).toArray:=by apply ee.mp;rw[Array.toList_filterMap,Zu _ _ hin]
   have ol:(order.toList.map λi=>(zw ps p (h,Value.int n t0)).getD i (0,.none)).length=(zw ps p (h,Value.int n t0)).length:=by rw[ag,f2.length_eq,aG,ag]
   have op:(order.toList.map λi=>(zw ps p (h,Value.int n t0)).getD i (0,.none)).Perm (zw ps p (h,Value.int n t0)):=by
    refine(f2.map _).trans ?_;rw[ag];have:(List.range (zw ps p (h,Value.int n t0)).length).map (λi=>(zw ps p (h,Value.int n t0)).getD i (0,.none))=zw ps p (h,Value.int n t0):=by
     refine bT λi=>?_;rw[aA];by_cases c:i<(zw ps p (h,Value.int n t0)).length
     .rw[bp c];simp[af,c]
     .rw[aR (by simp;lia),aR ⋯];rfl
    rw[this]
   have om:(order.toList.map λi=>(zw ps p (h,Value.int n t0)).getD i (0,.none)).map (·.1)=order.toList.map λi=>((zw ps p (h,Value.int n t0)).map (·.1)).getD i 0:=by rw[ba];refine da λi hi=>?_;have:=hin i hi;simp[af,this]
   rw[<-om]at T2;have cov:coversAll order (zw ps p (h,Value.int n t0)).toArray.size=true:=by unfold coversAll;rw[List.isPerm_iff,av];have:=f2;rwa [ag]at this
   have ra:relayAll t1 (zw ps p (h,Value.int n t0)).toArray (SetTable.grown (zw ps p (h,Value.int n t0)).toArray.size)=((order.toList.map λi=>(zw ps p (h,Value.int n t0)).getD i (0,.none)).toArray,t2,false):=by unfold relayAll;rw[gr,hsz,f1];dsimp only;rw[oe,cov];have:=T2.fits';rw[this];rfl
   rw[ra];dsimp only;generalize (order.toList.map λi=>(zw ps p (h,Value.int n t0)).getD i (0,.none))=ps2 at T2 op ol;refine ae (gw ?_);refine ae (gh (s:={ s with heap:=h1,toks:=tk }) g1 rfl ?_ (by rw[av,ol];lia));refine aj ?_;dsimp only;have sb2:Heap.SameBut S h1 (h1.update S (Obj.putSet ps2.toArray t2)):=c0 _ _ _;have g2:(h1.update S (Obj.putSet ps2.toArray t2)).get? S=some { o with data:=.set ps2.toArray (ep+1+1) t2 }:=qjy g1 rfl;refine aj (hQ2 hno _ tk ps2 (sb1.trans sb2) ⟨_,_,t2,g2,hex,rfl,T2,?_⟩ (op.trans pm));rw[ag]at f4;lia
  .rw[iE]at tf;rw[tf];simp only[fX,aI,bN];refine aj (aj (hQ2 hno h1 tk _ sb1 ⟨_,_,t1,g1,hex,rfl,T1,?_⟩ pm));unfold SetTable.tooFull at tf;have:=of_decide_eq_false tf;rw[fl]at this;lia
theorem wq9 {x:Ag}{Q:Ag->Ab->Prop}(hT:s.TypeIs (.ref S) "set")(h:wpAny (model prog w) A.in1 (setAdd S x) (λ_ s'=>Q .none s') E s):wpAny (model prog w) A (call (.builtin "set.add") [.ref S,x]) Q E s:=by refine eA F.slot_set_add hT F.entry_set_add ?_ (F.args_set_add_2 _ _);unfold Builtin.«set.add» Builtin.Frozenset.oneOther;simp only[List.isEmpty_nil,bind_assoc];unfold Builtin.Frozenset.addrOf;(refine ae (aj ?_) ;try dsimp only);(refine ae (aj ?_) ;try dsimp only);refine ae (bi h (λb s' hq=>?_) λ_ _ e=>e);show wpAny _ _ (ret Value.none) _ _ _;exact aj ⟨_,rfl,hq⟩
end
section
variable {X:Cx}
theorem xv5 (hu:X.A.units+64<cLine):Z1 X (addT X.prog X.w):=by
 intro pins s σ H p ps y yv Q I ry hp h;obtain⟨a,xs,L,rfl,ha,hL,hn,q1,q2⟩:=h;obtain rfl:yv=Value.ref a:=ry;have P:SAt X.w s.heap p ps:=(I.hok p _ hp).1;obtain⟨_,its,rv,o,h1,h2,n,h3⟩:=(show ObjOk X.prog X.w H s.heap a (.tup (xs.map V.int)) from I.hok a _ ha);have K:=hL.kp I.hok;have hx:(KD X.prog X.w).is s.heap (xs.map Sum.inl) a:=xq7 I.hok (by rw[wvz];exact ha);refine wq9 P.typeIs (wuv P K hx h1 h3 (λv hv=>?_) (by show X.A.in1.units<cLine;simp only[Around.in1];lia) hn (λz tk=>?_) λz h' tk ps' sb P' pm=>?_)
 .exact(Qc rv).all v hv
 .refine⟨ps,H,I.tok _,q1 ?_⟩;obtain⟨ys,hy,e⟩:=aJ.mp z;rw[<-xzq e];exact hy
 .refine⟨ps',_,wvf I (by rw[hp];trivial) sb (let ⟨o,_,_,e,_⟩:=P';⟨o,e⟩) (qwz P'),q2 (λz'=>z (aJ.mpr ⟨xs,z',rfl⟩)) ps' pm⟩
theorem xvt:Z1 X (addI X.prog X.w):=by intro pins s σ H p ps y yv Q I ry hp h;obtain⟨n,L,rfl,hL,hn,q1,q2⟩:=h;obtain⟨t,rfl⟩:=ry;have P:SAt X.w s.heap p ps:=(I.hok p _ hp).1;refine wq9 P.typeIs (xqt P hL hn (λz tk=>⟨ps,H,I.tok _,q1 z⟩) λz h' tk ps' sb P' pm=>?_);exact⟨ps',_,wvf I (by rw[hp];trivial) sb (let ⟨o,_,_,e,_⟩:=P';⟨o,e⟩) (qwz P'),q2 z ps' t pm⟩
end
end L2
namespace L2
open PySem PySem.Spec PySem.Calls PySem.W PyProof.Rows
theorem qu8 {α:Type}:∀l:List α,l.zip l=l.map λv=>(v,v)
 |[]=>rfl
 |a::l=>by rw[List.zip_cons_cons,qu8 l];rfl
theorem TK.at_' {h:Heap}{d:Nat}{ks:List Ag}{kss:List (List Int)}(t:TK h d ks kss):∀i,i<kss.length->∃x o us n,ks.getD i .none=.ref x/\h.get? x=some o/\o.cls=.type "tuple" /\ o.data=.seq us.toArray n/\IntsAre us (kss.getD i [])/\(kss.getD i []).length=d:=by
 induction t with
 |nil=>intro i hi;simp at hi
 |@cons x o us n xs ks kss a b c e f _ ih =>
  intro i hi;cases i with
  |zero=>exact⟨x,o,us,n,rfl,a,b,c,e,f⟩
  |succ i=>exact ih i (by simpa using hi)
section
variable {prog:Ac}{w:Ah}{A:Ae}{E:Ag->Ab->Prop}{s:Ab}{S:Aj}{ps:List (Int×Ag)}
theorem qy6 {Q:List Ag->Ab->Prop}(hh:A.handled=none)(P:SAt w s.heap S ps)(hn:ps.length<=sizeLine)
  (h:∀h' tk (qs:List (Int×Ag)),(∀b o,s.heap.get? b=some o->h'.get? b=some o)->qs.Perm ps->s.heap.objs.size<=h'.objs.size->Q (qs.map (·.2)) { s with heap:=h',toks:=tk }):wpAny (model prog w) A (collect (.ref S)) Q E s:=by
 obtain⟨o,ep,t,ho,hex,hd,T,few⟩:=P;have hS:S<s.heap.objs.size:=ao ho;have R:SRaw (s.heap.push (seqObj "list" #[] 0)) S ps ep t:=⟨o,ai _ ho,hex,hd⟩;have run:codeAny (model prog w) A (.builtin "proto.collect" ⟨[.ref S],[]⟩) (λr s'=>r=.ok (.ret (.ref s.heap.objs.size))/\∃h' tk acc' c',s'={ s with heap:=h',toks:=tk }/\(∀b o,b≠s.heap.objs.size->(s.heap.push (seqObj "list" #[] 0)).get? b=some o->h'.get? b=some o) /\
   h'.get? s.heap.objs.size=some { cls:=.type "list",dict:=none,data:=.seq acc' c',slots:=#[] }/\ItemsOf (λi v=>∃p,(wk w S ep ps)[i]?=some p/\v=p.2) acc' ps.length) s:=by
  refine gI entry_proto_collect' ?_;show wpAny _ _ (do again (.builtin "list.__iadd__" ⟨[<-newList [],.ref S],[]⟩)) _ _ s;(refine ae (gz (aj ⟨Code.quiet_builtin _ (by decide +kernel),gI entry_list_iadd' ?_⟩)) ;rw[gE (show plainId "list.__iadd__" = true by decide +kernel) _]);show wpAny _ _ (Builtin.List.listExtendWith (.ref s.heap.objs.size) (.ref S) (.ref s.heap.objs.size)) _ _ _;exact kdl_extend (s:={ s with heap:=s.heap.push (seqObj "list" #[] 0) }) (R:=λr s'=>r=.ok (.ret (.ref s.heap.objs.size))/\∃h' tk acc' c',s'={ s with heap:=h',toks:=tk }/\(∀b o,b≠s.heap.objs.size->(s.heap.push (seqObj "list" #[] 0)).get? b=some o->h'.get? b=some o) /\
   h'.get? s.heap.objs.size=some { cls:=.type "list",dict:=none,data:=.seq acc' c',slots:=#[] }/\ItemsOf (λi v=>∃p,(wk w S ep ps)[i]?=some p/\v=p.2) acc' ps.length) (xzb T) (by simpa using hh) R s.heap.objs.size (eU hS) (eU hS) (.ref s.heap.objs.size) 0 (aF _ rfl) (λh' tk acc' c' hk hS' hacc=>⟨rfl,h',tk,acc',c',rfl,hk,hS',hacc⟩) hn
 unfold collect;refine ae (wpAny_runValue (eV run λr s' hr=>?_));obtain⟨rfl,h',tk,acc',c',rfl,hk,hS',hacc⟩:=hr;dsimp only;refine ae (wpAny_load hS' ?_);refine aj ?_;have e:acc'.toList=(wk w S ep ps).map (·.2):=by
  obtain⟨a1,a2⟩:=hacc;have hl:=(qq8 w S ep ps).length_eq;refine bT λi=>?_;rw[aA];by_cases c:i<ps.length
  .have hi:i<acc'.size:=by rw[a1];exact c
   obtain⟨p,e1,e2⟩:=a2 i acc'[i] (bE hi);rw[aL,bE hi,e1,e2];rfl
  .rw[aR (by rw[bf,a1];lia),aR ⋯];rfl
 rw[e];refine h h' tk _ (λb o e=>hk b o (aE (ao e)) (ai _ e)) (qq8 w S ep ps) ?_;exact bu (ao hS')
theorem wxw {a:Aj}{vs:List Ag}{k d:Nat}{kss:List (List Int)}{P:PySem.Fin->Ab->Prop}(ho:s.heap.get? a=some (seqObj "list" vs.toArray k))(h6:vs.length<=100000)(hd:1<=d)(t:TK s.heap d vs kss)(nd:kss.Nodup)
  (h:∀(out:List Ag) (kss':List (List Int)),TK s.heap d out kss'->out.Perm vs->kss'.Perm kss->kss'.Pairwise (λx y=>vn x y=true)->P (.done (.ret .none)) { s with heap:=sortedHeap s.heap a vs out.toArray }):wpAny (model prog w) A (Builtin.«list.sort» ⟨[.ref a],[]⟩) P E s:=by
 have hkl:=t.length;have ha:a<s.heap.objs.size:=ao ho;obtain⟨e1,ho1⟩:∃e1,(s.heap.update a (Obj.mapSeq λ_=>(#[]:Array Ag))).get? a=some (seqObj "list" #[] e1):=⟨_,eL ho λ_=>#[]⟩;have sz:(1000001:Nat)<sizeLine:=by decide
 rw[list_sort_plain];refine ae (listItems_at ho rfl ?_);refine ae (eN ho rfl ?_ (by rw[av];lia) (aT _));refine ae (ik ho1 rfl ?_);refine ae (wpAny_newTuple ?_ (by show vs.length<=_;lia));refine ae (gz ?_ (aT _));refine cG ?_;show wpAny (model prog w) A _ P E { s with heap:=((s.heap.update a (Obj.mapSeq λ_=>(#[]:Array Ag))).push (seqObj "tuple" vs.toArray 0)).push (seqObj "list" #[] 0) };have ho6:(((s.heap.update a (Obj.mapSeq λ_=>(#[]:Array Ag))).push (seqObj "tuple" vs.toArray 0)).push (seqObj "list" #[] 0)).get? a=some (seqObj "list" #[] e1):=ai _ (ai _ ho1);have t6:TK (((s.heap.update a (Obj.mapSeq λ_=>(#[]:Array Ag))).push (seqObj "tuple" vs.toArray 0)).push (seqObj "list" #[] 0)) d vs kss:=t.kept λb o e c=>by refine ai _ (ai _ ?_);rw[bP _ _ _ _ (λz=>by rw[z,ho]at e;cases e;exact absurd c (by show ¬ Value.type "list" = Value.type "tuple";decide))];exact e
 have fin:∀(h':Heap) (out:List Ag) (kss':List (List Int)),h'=((s.heap.update a (Obj.mapSeq λ_=>(#[]:Array Ag))).push (seqObj "tuple" vs.toArray 0)).push (seqObj "list" #[] 0)->TK s.heap d out kss'->out.Perm vs->kss'.Perm kss->kss'.Pairwise (λx y=>vn x y=true)->P (.done (.ret .none)) { s with heap:=h'.update a (Obj.mapSeq λ_=>out.toArray) }:=λh' out kss' e a1 a2 a3 a4=>by subst e;exact h out kss' a1 a2 a3 a4
 generalize ((s.heap.update a (Obj.mapSeq λ_=>(#[]:Array Ag))).push (seqObj "tuple" vs.toArray 0)).push (seqObj "list" #[] 0)=h6' at ho6 t6 fin ⊢;have fin:=λout kss'=>fin h6' out kss' rfl;dsimp only;by_cases h2:vs.toArray.size<2
 .rw[aw h2,aw h2];refine ae (aj ?_);rw[StateT.run_pure];refine ae (aj ?_);dsimp only;have e:(arrOf (SortSt.mk' general' (vs.toArray.zip vs.toArray) #[] 7 none)).map (·.2)=vs.toArray:=by
   show(vs.toArray.zip vs.toArray).map (·.2)=vs.toArray
   match vs,h2 with
   |[],_=>simp
   |[v],_=>simp
   |_::_::_,h2=>simp at h2;lia
  rw[e];refine ae (ik ho6 rfl ?_);refine ae (eN ho6 rfl ?_ (aT _) (by rw[av];lia));simp only[eP,aI,bN];refine aj (fin vs kss t (.refl _) (.refl _) ?_);have:kss.length<2:=by rw[<-hkl];simpa using h2
  match kss,this with
  |[],_=>exact .nil
  |[x],_=>exact b7 _ _
 .rw[ar h2,ar h2];have hv2:2<=vs.length:=by simpa using h2
  obtain⟨fs,t1,t2,t3⟩:=t6.tups hd;refine ae (kat_kind (s:={ s with heap:=h6' }) (T:=.type "int") t1 ⋯ (λv hv=>?_) rfl ?_)
  .obtain⟨i,tk,rfl⟩:=t3 v hv;exact Looks.of_pure rfl
  let ix:Ai->Nat:=λx=>vs.findIdx λu=>match u,x.1 with|.ref b,.ref c=>b==c|_,_=>false
  let kz:Ai->Int:=λx=>kzL kss (kss.getD (ix x) []);have inj:∀i j,i<kss.length->j<kss.length->kss.getD i []=kss.getD j []->i=j:=λi j hi hj e=>by rw[af,aa hi,af,aa hj]at e;exact(List.getElem_inj nd).mp e
  have ref:∀i,i<vs.length->∃x o us n,vs[i]?=some (Value.ref x)/\h6'.get? x=some o/\o.data=.seq us.toArray n/\IntsAre us (kss.getD i [])/\(kss.getD i []).length=d:=λi hi=>by obtain⟨x,o,us,n,b1,b2,b3,b4,b5⟩:=t6.at_ i ⋯;rw[af,aa hi]at b1;exact⟨x,o,us,n,by rw[aa hi];exact cr some b1,b2,b3,b4,b5⟩
  have sameKey:∀(i j:Nat) (x:Aj),vs[i]?=some (Value.ref x)->vs[j]?=some (.ref x)->i=j:=λi j x ei ej=>by
   have hi:=(ak.mp ei).1;have hj:=(ak.mp ej).1;obtain⟨y,o,us,n,b1,b2,b3,b4,b5⟩:=ref i hi;obtain⟨y',o',us',n',c1,c2,c3,c4,c5⟩:=ref j hj;rw[ei]at b1;rw[ej]at c1;cases b1;cases c1;rw[b2]at c2;cases c2;rw[b3]at c3;have eu:us=us':=by have:us.toArray=us'.toArray:=(Data.seq.inj c3).1;exact cr Array.toList this
   subst eu;exact inj i j ⋯ ⋯ (b4.nums.symm.trans c4.nums)
  have ixv:∀(i:Nat) (x:Aj) (u:Ag),vs[i]?=some (Value.ref x)->ix (.ref x,u)=i:=λi x u ei=>by
   have hi:=(ak.mp ei).1;refine(List.findIdx_eq hi).mpr ⟨?_,λj hj=>?_⟩
   .have:vs[i]=.ref x:=by rw[aa hi]at ei;exact aq ei
    rw[this];simp
   .obtain⟨y,o,us,n,b1,_⟩:=ref j ⋯;have:vs[j]=.ref y:=by rw[aa ⋯]at b1;exact aq b1
    rw[this];simp only[cJ];intro z;rw[z]at b1;have:=sameKey j i x b1 ei;lia
  let G:Ai->Prop:=λx=>∃(i:Nat) (y:Aj),vs[i]?=some (Value.ref y)/\x=(.ref y,.ref y);have mem:∀i,i<kss.length->kss.getD i []∈kss:=λi hi=>by rw[af,aa hi];exact bJ _
  have kzv:∀(i:Nat) (y:Aj) (u:Ag),vs[i]?=some (Value.ref y)->kz (.ref y,u)=kzL kss (kss.getD i []):=λi y u e=>by show kzL kss (kss.getD (ix (.ref y,u)) [])=_;rw[ixv i y u e]
  have O:Tm.yg (model prog w) A E { s with heap:=h6' } G kz (tuples' true):=by
   rintro x y st Q ⟨i,bx,ei,rfl⟩ ⟨j,by_,ej,rfl⟩ hk hQ;have hi:=(ak.mp ei).1;have hj:=(ak.mp ej).1;obtain⟨y1,o,us,n,b1,b2,b3,b4,b5⟩:=ref i hi;obtain⟨y2,o',us',n',c1,c2,c3,c4,c5⟩:=ref j hj;rw[ei]at b1;rw[ej]at c1;cases b1;cases c1;rw[lt'_eq];refine ax (gv ?_);rw[hk];refine ax (g8 (gu (lex_lt (s:={ s with heap:=h6' }) b2 b3 c2 c3 b4 c4 (by rw[Q4 b4,Q4 c4,b5,c5]) ⟨rfl,?_⟩)));refine aB ?_;rw[kzv i _ _ ei,kzv j _ _ ej]at hQ;have:=qjj t.lens (mem i ⋯) (mem j ⋯);have e:vn (kss.getD i []) (kss.getD j [])=decide (kzL kss (kss.getD i [])<kzL kss (kss.getD j [])):=by
    by_cases c:vn (kss.getD i []) (kss.getD j [])=true
    .rw[c,aS (this.mpr c)]
    .rw[bb (λz=>c (this.mp z))];simpa using c
   rw[e];exact hQ
  have zl:(vs.toArray.zip vs.toArray).toList=vs.map λv=>(v,v):=by rw[Array.toList_zip];exact qu8 vs
  have kne:∀i j,i<kss.length->j<kss.length->i≠j->kzL kss (kss.getD i [])≠kzL kss (kss.getD j []):=λi j hi hj hij z=>by
   rcases qk9 (t.lens _ (mem i hi)) (t.lens _ (mem j hj)) with c|c|c
   .have:=(qjj t.lens (mem i hi) (mem j hj)).mpr c;lia
   .exact hij (inj i j hi hj c)
   .have:=(qjj t.lens (mem j hj) (mem i hi)).mpr c;lia
  have U:Tm.Un kz G (vs.toArray.zip vs.toArray):=by
   refine⟨?_,λx hx=>?_⟩
   .rw[zl,cK];refine br.mpr λi j hi hj hij=>?_;obtain⟨y1,_,_,_,b1,_⟩:=ref i hi;obtain⟨y2,_,_,_,c1,_⟩:=ref j hj;have f1:vs[i]=.ref y1:=by rw[aa hi]at b1;exact aq b1
    have f2:vs[j]=.ref y2:=by rw[aa hj]at c1;exact aq c1
    rw[f1,f2,kzv i _ _ b1,kzv j _ _ c1];exact kne i j ⋯ ⋯ ⋯
   .rw[zl]at hx;obtain⟨v,hv,rfl⟩:=aJ.mp hx;obtain⟨i,ei⟩:=bS hv;obtain⟨y,_,_,_,b1,_⟩:=ref i (ak.mp ei).1;rw[ei]at b1;cases b1;exact⟨i,y,ei,rfl⟩
  refine ae (bi (Tm.Yg (Q:=λ_ st'=>(arrOf st').Perm (vs.toArray.zip vs.toArray)/\failedOf st'=none/\Tm.SL kz (arrOf st').toList) (st:=SortSt.mk' (tuples' true) (vs.toArray.zip vs.toArray) #[] 7 none) O U rfl rfl rfl rfl λst' a1 a2 a3=>⟨a1,a2,a3⟩) ?_ λ_ _ e=>e);rintro⟨⟨⟩,st'⟩ s' ⟨rfl,b1,b2,b3⟩;dsimp only;have pl:=dL.mp b1;rw[zl]at pl;have op:((arrOf st').toList.map (·.2)).Perm vs:=by have:=pl.map (·.2);rwa [ba,show((λx:Ag×Ag=>x.2)∘λv=>(v,v))=id from rfl,List.map_id]at this
  have oe:(arrOf st').map (·.2)=((arrOf st').toList.map (·.2)).toArray:=by apply ee.mp;simp
  have tk2:∀l:List Ai,(∀x∈l,G x)->TK s.heap d (l.map (·.2)) (l.map λx=>kss.getD (ix x) []):=λl=>by
   induction l with
   |nil=>intro _;exact .nil
   |cons x l ih =>
    intro hx;obtain⟨i,y,ei,rfl⟩:=hx x (.head _);have hi:=(ak.mp ei).1;obtain⟨x0,o0,us0,n0,g1,g2,g2',g3,g4,g5⟩:=t.at_' i ⋯;rw[af,ei]at g1;cases g1;rw[aD,aD,ixv i y _ ei];exact .cons g2 g2' g3 g4 g5 (ih λz hz=>hx z (.tail _ hz))
  have gl:∀x∈(arrOf st').toList,G x:=λx hx=>by have:=pl.mem_iff.mp hx;rw[<-zl]at this;exact U.g x this
  have kp:((arrOf st').toList.map λx=>kss.getD (ix x) []).Perm kss:=by
   refine(pl.map _).trans ?_;rw[ba];have:vs.map ((λx=>kss.getD (ix x) [])∘λv=>(v,v))=kss:=by
    refine bT λi=>?_;rw[aA];by_cases c:i<vs.length
    .obtain⟨y,_,_,_,e,_⟩:=ref i c;rw[e];show some (kss.getD (ix (.ref y,.ref y)) [])=_;rw[ixv i y _ e,af,aa ⋯];rfl
    .rw[aR ⋯,aR ⋯];rfl
   rw[this]
  have kpw:((arrOf st').toList.map λx=>kss.getD (ix x) []).Pairwise (λx y=>vn x y=true):=by rw[cK];refine cP (λ{x y} hx hy hxy=>?_) b3;obtain⟨i,a1,ei,rfl⟩:=gl x hx;obtain⟨j,a2,ej,rfl⟩:=gl y hy;have hi:=(ak.mp ei).1;have hj:=(ak.mp ej).1;rw[kzv i _ _ ei,kzv j _ _ ej]at hxy;rw[ixv i _ _ ei,ixv j _ _ ej];exact(qjj t.lens (mem i ⋯) (mem j ⋯)).mp hxy
  rw[oe];refine ae (ik (s:={ s with heap:=h6' }) ho6 rfl ?_);refine ae (eN (s:={ s with heap:=h6' }) ho6 rfl ?_ (aT _) (by rw[av,op.length_eq];lia));rw[b2];simp only[eP,aI,bN];exact aj (fin _ _ (tk2 _ gl) op kp kpw)
end
end L2
namespace L2
open PySem PySem.Spec PySem.Calls PySem.W PyProof.Rows
section
variable {prog:Ac}{w:Ah}{A:Ae}{E:Ag->Ab->Prop}{s:Ab}
theorem Zw {h:Heap}{a:Aj}{vs:List Ag}{k:Nat}(ho:h.get? a=some (seqObj "list" vs.toArray k))(out:Array Ag):∃e,(sortedHeap h a vs out).get? a=some (seqObj "list" out e):=by obtain⟨e1,ho1⟩:∃e1,(h.update a (Obj.mapSeq λ_=>(#[]:Array Ag))).get? a=some (seqObj "list" #[] e1):=⟨_,eL ho λ_=>#[]⟩;exact⟨_,eL (ai _ (ai _ ho1)) λ_=>out⟩
theorem Ww {h:Heap}{a b:Aj}{vs:List Ag}{o:Obj}(e:h.get? b=some o)(hb:b≠a)(out:Array Ag):(sortedHeap h a vs out).get? b=some o:=by unfold sortedHeap;rw[bP _ _ _ _ hb];refine ai _ (ai _ ?_);rw[bP _ _ _ _ hb];exact e
theorem qwh {S:Aj}{ps:List (Int×Ag)}{Q:Ag->Ab->Prop}(hh:A.handled=none)(P:SAt w s.heap S ps)(hn:ps.length<=100000)
  (h:∀(h':Heap) (tk:Nat) (qs:List (Int×Ag)),(∀b o,s.heap.get? b=some o->h'.get? b=some o)->qs.Perm ps->s.heap.objs.size<=h'.objs.size ->
   wpAny (model prog w) A.in1.in1 (Builtin.«list.sort» ⟨[.ref h'.objs.size],[]⟩) (λfin s'=>∃r,fin=.done (.ret r)/\Q (.ref h'.objs.size) s') E { s with heap:=h'.push (seqObj "list" (qs.map (·.2)).toArray 0),toks:=tk }) :
  wpAny (model prog w) A (call (.builtin "sorted") [.ref S]) Q E s:=by
 have sz:(100001:Nat)<sizeLine:=by decide
 refine Calls.call_function_entry kind_sorted plain_sorted entry_sorted (args_sorted1 _) ?_;unfold Builtin.«sorted»;refine ae (m:=checkCount "sorted" 1 1 _) (aj ?_);refine ae (qy6 (by simpa using hh) P ⋯ λh' tk qs hk pm hz=>?_);have hl:=pm.length_eq;refine ae (gz ?_ (by rw[ag];lia));have hoL:(h'.push (seqObj "list" (qs.map (·.2)).toArray 0)).get? h'.objs.size=some (seqObj "list" (qs.map (·.2)).toArray 0):=aF _ rfl;refine ae (cG (eA slot_list_sort ⟨_,hoL,rfl⟩ entry_list_sort ?_ (args_list_sort _)));refine bi (h h' tk qs hk pm hz) (λfin s' hf=>?_) λ_ _ e=>e;obtain⟨r,rfl,hq⟩:=hf;exact⟨_,rfl,aj ⟨_,rfl,hq⟩⟩
end
section
variable {X:Cx}
theorem xwz {H:Hp}{s:Ab}{d:Nat}(ok:HOk X.prog X.w H s.heap):∀ {qs:List (Int×Ag)} {L:List (List Int)},PsT X.prog X.w H qs L->(∀r∈L,r.length=d)->TK s.heap d (qs.map (·.2)) L
 |_,_,.nil,_=>.nil
 |_,_,.cons ⟨a,e,f⟩ t,hl=>by subst e;obtain⟨_,us,rv,o,ho,hc,n,hd⟩:=(show ObjOk X.prog X.w H s.heap a (.tup _) from ok a _ f);exact .cons ho hc hd (Qc rv) (hl _ (.head _)) (xwz ok t λr hr=>hl r (.tail _ hr))
theorem qvf (hc:X.calm=true):jg X (.builtin "sorted") (λxs H Q=>∃(S:Aj) (ps:List (Int×Ag)) (L:List (List Int)) (d:Nat),xs=[.ref S]/\H S=some (uu X.w S ps)/\PsT X.prog X.w H ps L/\L.Nodup/\L.length<=100000/\1<=d/\(∀r∈L,r.length=d) /\
  ∀(l:Aj) (ys:List V) (L':List (List Int)),H l=none->L'.Perm L->L'.Pairwise (λx y=>vn x y=true)->Tups L' ys H->Q (.ref l) (upd H l (.lst ys))):=by
 intro pins s σ H xs us Q I r h;obtain⟨S,ps,L,d,rfl,hS,hL,nd,hn,hd,hl,q⟩:=h;obtain⟨u,rfl,ru⟩:=jr r;cases(show u=Value.ref S from ru);have P:SAt X.w s.heap S ps:=(I.hok S _ hS).1;have ll:=hL.len;have sz:(100001:Nat)<sizeLine:=by decide
 refine qwh (I.ok.hd hc) P ⋯ λh' tk qs hk pm hz=>?_;obtain⟨L1,p1,q1⟩:=Paired.perm pm hL;have q1:PsT X.prog X.w H qs L1:=q1;have hoL:(h'.push (seqObj "list" (qs.map (·.2)).toArray 0)).get? h'.objs.size=some (seqObj "list" (qs.map (·.2)).toArray 0):=aF _ rfl;have I1:Inv X pins σ H { s with heap:=h',toks:=tk }:=I.kept hk;have t1:TK h' d (qs.map (·.2)) L1:=xwz (s:={ s with heap:=h',toks:=tk }) I1.hok q1 λr hr=>hl r (p1.mem_iff.mp hr);have t2:=t1.kept (h':=h'.push (seqObj "list" (qs.map (·.2)).toArray 0)) λb o e _=>ai _ e;have hlq:=pm.length_eq;refine wxw (s:={ s with heap:=h'.push (seqObj "list" (qs.map (·.2)).toArray 0),toks:=tk }) hoL (by rw[ag];lia) hd t2 (p1.nodup_iff.mpr nd) λout kss' t3 op kp kpw=>⟨_,rfl,?_⟩;have refs:∀v∈qs.map (·.2),∃(a:Aj) (xs:List Int),v=Value.ref a/\H a=some (.tup (xs.map V.int)):=λv hv=>by
  obtain⟨p,hp,rfl⟩:=aJ.mp hv;obtain⟨i,ei⟩:=bS hp;have key:∀ {qs:List (Int×Ag)} {L:List (List Int)},PsT X.prog X.w H qs L->∀p∈qs,∃(a:Aj) (xs:List Int),p.2=Value.ref a/\H a=some (.tup (xs.map V.int)):=by
   intro qs L h
   induction h with
   |nil=>intro p hp;cases hp
   |cons r t ih =>
    obtain⟨a,e,f⟩:=r;intro p hp;rcases aM.mp hp with rfl|hp
    .exact⟨a,_,by rw[e],f⟩
    .exact ih p hp
  exact key q1 p hp
 have tr:∀ {out:List Ag} {kss:List (List Int)},TK (h'.push (seqObj "list" (qs.map (·.2)).toArray 0)) d out kss->(∀v∈out,v∈qs.map (·.2))->∃ys,Vals ys out/\Tups kss ys H:=by
  intro out kss t
  induction t with
  |nil=>intro _;exact⟨[],.nil,.nil⟩
  |@cons x o us n xs ks kss a b c e f _ ih =>
   intro hv;obtain⟨ys,v1,v2⟩:=ih λv hv'=>hv v (.tail _ hv');obtain⟨a',xs',ea,fa⟩:=refs _ (hv _ (.head _));cases ea;obtain⟨_,us',rv,o',ho',hc',n',hd'⟩:=(show ObjOk X.prog X.w H h' x (.tup _) from I1.hok x _ fa);have e9:o=o':=by have:=ai (seqObj "list" (qs.map (·.2)).toArray 0) ho';rw[a]at this;exact aq this
   subst e9;rw[c]at hd';have eu:us=us':=cr Array.toList (Data.seq.inj hd').1;subst eu;have ex:xs=xs':=e.nums.symm.trans (Qc rv).nums;subst ex;exact⟨.ref x::ys,.cons rfl v1,.cons ⟨x,rfl,fa⟩ v2⟩
 obtain⟨ys,v1,v2⟩:=tr t3 λv hv=>op.mem_iff.mp hv;obtain⟨e,he⟩:=Zw hoL out.toArray;have nl:H h'.objs.size=none:=I.hok.fresh hz;refine⟨.ref _,_,I.laid (t':=tk) (λb u hb=>Ww (ai _ (hk b u hb)) (aE (aO (ao hb) hz)) _) hz (show ObjOk X.prog X.w _ _ _ (.lst ys) from ⟨?_,out,e,v1,he⟩),rfl,q _ ys kss' nl (kp.trans p1) kpw v2⟩;rw[v1.length,op.length_eq,ag];lia
theorem qzt (hc:X.calm=true):jg X (.builtin "sorted") (λxs H Q=>∃(S:Aj) (ps:List (Int×Ag)) (ns:List Int),xs=[.ref S]/\H S=some (uu X.w S ps)/\PsI X.prog X.w ps ns/\ns.length<64 /\
  ∀(l:Aj) (ms:List Int),H l=none->ms.Perm ns->ms.Pairwise (·<=·)->Q (.ref l) (upd H l (.lst (ms.map V.int)))):=by
 intro pins s σ H xs us Q I r h;obtain⟨S,ps,ns,rfl,hS,hL,hn,q⟩:=h;obtain⟨u,rfl,ru⟩:=jr r;cases(show u=Value.ref S from ru);have P:SAt X.w s.heap S ps:=(I.hok S _ hS).1;have ll:=hL.len;have sz:(100001:Nat)<sizeLine:=by decide
 refine qwh (I.ok.hd hc) P ⋯ λh' tk qs hk pm hz=>?_;obtain⟨L1,p1,q1⟩:=Paired.perm pm hL;have ia:∀ {qs:List (Int×Ag)} {L:List Int},PsI X.prog X.w qs L->IntsAre (qs.map (·.2)) L:=by
  intro qs L h
  induction h with
  |nil=>exact .nil
  |cons r t ih =>
   obtain⟨tk,rfl⟩:=r;exact .cons _ _ ih
 have hoL:(h'.push (seqObj "list" (qs.map (·.2)).toArray 0)).get? h'.objs.size=some (seqObj "list" (qs.map (·.2)).toArray 0):=aF _ rfl;have hlq:=pm.length_eq;refine list_sort_tree (s:={ s with heap:=h'.push (seqObj "list" (qs.map (·.2)).toArray 0),toks:=tk }) hoL (ia q1) (by rw[ag];lia) λout ms a1 a2 a3=>⟨_,rfl,?_⟩;obtain⟨e,he⟩:=Zw hoL out;have nl:H h'.objs.size=none:=I.hok.fresh hz;refine⟨.ref _,_,I.laid (t':=tk) (λb u hb=>Ww (ai _ (hk b u hb)) (aE (aO (ao hb) hz)) _) hz (show ObjOk X.prog X.w _ _ _ (.lst (ms.map V.int)) from ⟨?_,out.toList,e,Jg a1,by simpa using he⟩),rfl,q _ ms nl (a2.trans p1) a3⟩;rw[ag,a2.length_eq,p1.length_eq];lia
end
end L2
namespace L2
open PySem PySem.Spec PySem.Calls PyProof.Rows
section
variable {prog:Ac}{w:Ah}{A:Ae}{E:Ag->Ab->Prop}{s:Ab}{R:Result->Ab->Prop}
theorem wy0 {Q:Ag->Ab->Prop}(h:Q (.ref s.heap.objs.size) { s with heap:=s.heap.push { cls:=.type "set",dict:=none,data:=.set #[] 0 (.fresh 0 0 (!byT w)) } }):wpAny (model prog w) A (newSet (.type "set")) Q E s:=by unfold newSet;refine ae (Jc ?_);exact cT h
theorem wvx {h:Heap}{S:Aj}(e:h.get? S=some { cls:=.type "set",dict:=none,data:=.set #[] 0 (.fresh 0 0 (!byT w)) }):SAt w h S []:=⟨_,0,_,e,⟨rfl,rfl,rfl⟩,rfl,Tab.fresh,by show 0*5<7*3;decide⟩
theorem wj1 {elt:Expr}{target:Expr}{iter:Expr}{ifs:List Expr}{rest:List Comprehension}{scope:Scope}{pos:Pos}{it acc:Ag}{env:Env}(h0:codeAny (model prog w) A (.compLoop (.SetComp elt (⟨target,iter,ifs,0⟩::rest) scope pos) 0 it acc env) R s)
  (h:wpAny (model prog w) A (pyIter it) (λit' s'=>codeAny (model prog w) A (.compLoop (.SetComp elt (⟨target,iter,ifs,0⟩::rest) scope pos) 0 it' acc env) R s') (notedBy (model prog w) A env λx s'=>R (.error x) s') s) :
  codeAny (model prog w) A (.compStart (.SetComp elt (⟨target,iter,ifs,0⟩::rest) scope pos) 0 it acc env) R s:=by
 refine codeAny_of_tree ?_;show wpAny _ _ ((compStart (.SetComp elt (⟨target,iter,ifs,0⟩::rest) scope pos) 0 it acc env).onRaise (λx=>do noteFrame x env;standAt theWindowsPlace)) _ _ s;(refine wpAny_notedAt ?_ ;unfold compStart ;show wpAny _ _ (ask >>= _) _ _ s ;refine ae (eY (wpAny_ite ?_)));split
 ·(first | exact ae (aj (aj (And.intro rfl h0))) | exact aj (And.intro rfl h0))
 ·(first | exact ae (dg (ae (dj (ae (bi h (λit' s' h'=>aj (And.intro rfl h')) λ_ _ x=>x))))) | (refine ae (dg ?_);show wpAny _ _ (standAt iter.pos >>= _) _ _ s;exact ae (dj (ae (bi h (λit' s' h'=>aj (And.intro rfl h')) λ_ _ x=>x)))))
end
theorem qu2 (elt:Expr)(gens:List Comprehension)(scope:Scope)(pos:Pos)(env:Env):eval (.SetComp elt gens scope pos) env=comprehension (.SetComp elt gens scope pos) scope env (firstIterPos gens pos) (newSet (.type "set")) (firstAsync gens) (firstIter gens env):=rfl
theorem wqv (elt target iter:Expr)(cd:Expr)(scope:Scope)(pos:Pos)(it acc:Ag)(env:Env):compTurn (.SetComp elt [⟨target,iter,[cd],0⟩] scope pos) 0 it acc env=(standAt iter.pos >>= λ_=>pyNext it >>= λr=>match r with | none=>pure (.done .next) | some v=>letOwnedTupleGo target it v >>= λ_=>assign target env v >>= λ_=>(forIn [cd] true λc r=>if r=true then do let ok <-isTrue c env (eval c env);pure (ForInStep.yield ok) else pure (ForInStep.yield r)) >>= λok=>if ok=true then(eval elt env >>= λx=>standAt elt.pos >>= λ_=>call (.builtin "set.add") [acc,x] >>= λ_=>pure ()) >>= λ_=>again (.compLoop (.SetComp elt [⟨target,iter,[cd],0⟩] scope pos) 0 it acc env) else again (.compLoop (.SetComp elt [⟨target,iter,[cd],0⟩] scope pos) 0 it acc env)):=by rfl
section
variable {X:Cx}{pins:List (Aj×Obj)}{σ:St}{H:Hp}{s2:Ab}{scope:Scope}{cl:List (Str×Aj)}{x:Str}{M:List Nat}{fp:List Aj}{C:Aj}{h1:Heap}{tk:Nat}
theorem Inv.compO {oo:HO}(I:Inv X pins σ H s2)(hc:CapAll X.env cl)(hh:HasAll cl scope.names)(hm:CapIx X scope cl M)(hk:scope.kind=.function)(hC:s2.heap.objs.size<C)
  (keep:∀b o,s2.heap.get? b=some o->h1.get? b=some o) (hn:h1.Ns C λ_=>none) (hD:ObjOk X.prog X.w (upd H s2.heap.objs.size oo) h1 s2.heap.objs.size oo)
  (hfp:∀b∈fp,kv X pins H b) (hob:∀b∈fp,∃o,s2.heap.get? b=some o) :
  Inv (zt X scope cl x M C s2 H fp (X.pn++pins)) [] (zf M σ none) (upd H s2.heap.objs.size oo) { s2 with heap:=h1,toks:=tk }:=I.compG (xs:=[x]) hc hh hm hk hC keep hn hD hfp hob
end
section
variable {X:Cx}{pins:List (Aj×Obj)}{σ:St}{H:Hp}{s2:Ab}{scope:Scope}{cl:List (Str×Aj)}{x y:Str}{M:List Nat}{fp:List Aj}{C:Aj}{h1:Heap}{tk:Nat}
theorem Inv.comp2O {oo:HO}(I:Inv X pins σ H s2)(hc:CapAll X.env cl)(hh:HasAll cl scope.names)(hm:CapIx X scope cl M)(hk:scope.kind=.function)(hC:s2.heap.objs.size<C)
  (keep:∀b o,s2.heap.get? b=some o->h1.get? b=some o) (hn:h1.Ns C λ_=>none) (hD:ObjOk X.prog X.w (upd H s2.heap.objs.size oo) h1 s2.heap.objs.size oo)
  (hfp:∀b∈fp,kv X pins H b) (hob:∀b∈fp,∃o,s2.heap.get? b=some o) :
  Inv (zy X scope cl x y M C s2 H fp (X.pn++pins)) [] (zu M σ none none) (upd H s2.heap.objs.size oo) { s2 with heap:=h1,toks:=tk }:=I.compG (xs:=[x,y]) hc hh hm hk hC keep hn hD hfp hob
end
section
variable {Y:Cx}{elt cd:Expr}{te:TE}{tt:TT}{c:Code}{p:Aj}{σ:St}{H:Hp}{pins:List (Aj×Obj)}{s:Ab}
def addS (elt:Expr)(acc:Ag)(env:Env)(c:Code):Sem PySem.Fin:=(eval elt env >>= λx=>standAt elt.pos >>= λ_=>call (.builtin "set.add") [acc,x] >>= λ_=>pure ()) >>= λ_=>again c
theorem wqj {ys:List (Int×Ag)}{add:qxw}{N:List (Int×Ag)->Hp->Prop}(he:PE Y elt te)(ha:Z1 Y add)(J:Inv Y pins σ H s)(h:te σ H λy H5=>H5 p=some (uu Y.w p ys)/\add p ys y H5 N) :
  wpAny (model Y.prog Y.w) Y.A (addS elt (.ref p) Y.env c) (λr s5=>r=Fin.again c/\∃H5,Inv Y pins σ H5 s5/\∃zs,N zs H5) Y.xe s:=by
 refine ae (ae (bi (he _ s _ H _ J h) (λyv s7 hr7=>?_) λ_ _ z=>z));obtain⟨y,H4,J7,ry,hp4,hadd⟩:=hr7;refine ae (dj (ae (bi (ha _ s7 _ H4 p ys y yv _ J7 ry hp4 hadd) (λ_ s8 hr8=>?_) λ_ _ z=>z)));obtain⟨zs,H8,J8,n8⟩:=hr8;exact aj (aj ⟨rfl,_,J8,zs,n8⟩)
end
section
variable {X:Cx}{elt iter cd tg:Expr}{x y2:Str}{px pos:Pos}{scope:Scope}{cl:List (Str×Aj)}{M:List Nat}{wi:TI}{te:TE}{tt:TT}{gg:TG}{add:qxw}{pins:List (Aj×Obj)}{σ:St}
theorem qxs (hclos:closureFor scope X.env=pure cl)(hhas:HasAll cl scope.names)(hk:scope.kind=.function)
  (hnames:∀y∈scope.names,y.2=.local->scope.names.lookup y.1=some .local) (hi:PI X tg iter wi) (hs:∀z,foldedSetIterable iter X.env z=pure z)
  {use:Option (Ag->Sem Unit)} {QQ:Ag->Ab->Prop} {s:Ab} {H:Hp} {ps:Pos} {R:It->Hp->Prop} (I:Inv X pins σ H s) (h:wi σ H R)
  (go:∀(it:Aj) (fp:List Aj) (tn:Nat->Heap->Prop) (J:It) (H1:Hp) (s2:Ab) (C:Aj) (h3:Heap) (tk:Nat),Inv X pins σ H1 s2->Turn X.prog X.w X.K tg J fp it tn->tn 0 h3->(∀b∈fp,kv X pins H1 b)->(∀b∈fp,b<s2.heap.objs.size)->(∀b∈fp,∃o,s2.heap.get? b=some o)->R J H1->s2.heap.objs.size<C ->
   (∀b o,s2.heap.get? b=some o->h3.get? b=some o)->(h3.Ns C λ_=>none)->h3.get? s2.heap.objs.size=some { cls:=.type "set",dict:=none,data:=.set #[] 0 (.fresh 0 0 (!byT X.w)) } ->
   codeAny (model X.prog X.w) X.A (.compLoop (.SetComp elt [⟨tg,iter,[cd],0⟩] scope pos) 0 (.ref it) (.ref s2.heap.objs.size) (compEnvC scope cl C X.env)) (compPost (model X.prog X.w) X.A X.xe use QQ (.ref s2.heap.objs.size) C) { s2 with heap:=h3,toks:=tk }) :
  wpAny (model X.prog X.w) X.A (comprehension (.SetComp elt [⟨tg,iter,[cd],0⟩] scope pos) scope X.env ps (newSet (.type "set")) false (eval iter X.env) use) QQ X.xe s:=by
 refine fA (use:=use) rfl hs hclos hk hnames ?_;refine thn (hi pins s σ H _ I h) λv s1 h1=>thn h1 λitv s2 h2=>?_;obtain⟨it,fp,tn,J,H1,rfl,I2,T,t0,hfp,hR⟩:=h2;refine wy0 ?_;refine gD hhas.nocell (by intro y hy;cases hy) (λh3 hns hsb=>?_) hk;dsimp only at hns hsb ⊢;generalize hH2:s2.heap.push { cls:=.type "set",dict:=none,data:=.set #[] 0 (.fresh 0 0 (!byT X.w)) }=G2 at hns hsb ⊢;have hC:G2.objs.size=s2.heap.objs.size+1:=by rw[<-hH2,cU]
 have hlt:s2.heap.objs.size<G2.objs.size:=by lia
 have keep:∀b o,s2.heap.get? b=some o->h3.get? b=some o:=λb o e=>by rw[hsb.2 b (aE (bv (ao e) hlt))];exact ai _ (hH2▸ai _ e)
 have hD:h3.get? s2.heap.objs.size=some { cls:=.type "set",dict:=none,data:=.set #[] 0 (.fresh 0 0 (!byT X.w)) }:=by rw[hsb.2 _ (aE hlt)];exact ai _ (hH2▸aF _ rfl)
 have t3:=T.keep 0 _ _ t0 λb _ o e=>keep b o e;have loop:=λtk=>go it fp tn J H1 s2 G2.objs.size h3 tk I2 T t3 hfp (λb hb=>let ⟨o,e,_⟩:=T.obj 0 _ t0 b hb;ao e) (λb hb=>let ⟨o,e,_⟩:=T.obj 0 _ t0 b hb;⟨o,e⟩) hR hlt keep hns hD;exact wj1 (loop _) (T.self _ 0 _ _ _ t3 (loop _))
end
def qyj (J:It)(M:List Nat)(tt:TT)(te:TE)(w:Ah)(add:qxw)(σ:St)(H1:Hp)(Q:VK):Prop:=∀p,H1 p=none->∃W:Nat->Nat->List (Int×Ag)->Hp->Prop,(∃m,W 0 m [] (upd H1 p (uu w p []))) /\
 ∀i m ys H2,W i m ys H2->H2 p=some (uu w p ys)/\((J.stop i H2/\Q (.ref p) H2)\/(J.go i H2/\∀v H3,J.yld i H2 v H3 ->
  tt (zf M σ (some v)) H3 λb H4=>if b=true then te (zf M σ (some v)) H4 (λy H5=>H5 p=some (uu w p ys)/\add p ys y H5 λzs H6=>∃m',m'<m/\W (i+1) m' zs H6) else H4 p=some (uu w p ys)/\∃m',m'<m/\W (i+1) m' ys H4))
def tSetI (M:List Nat)(wi:TI)(tt:TT)(te:TE)(w:Ah)(add:qxw):TE:=λσ H Q=>wi σ H λJ H1=>qyj J M tt te w add σ H1 Q
section
variable {X:Cx}{elt iter cd:Expr}{x:Str}{px pos:Pos}{scope:Scope}{cl:List (Str×Aj)}{M:List Nat}{wi:TI}{tt:TT}{te:TE}{add:qxw}
theorem wzk (hc:X.calm=true)(hclos:closureFor scope X.env=pure cl)(hcap:CapAll X.env cl)(hhas:HasAll cl scope.names)(hix:CapIx X scope cl M)(hk:scope.kind=.function)
  (hnames:∀y∈scope.names,y.2=.local->scope.names.lookup y.1=some .local) (hx:scope.names.lookup x=some .local) (hnd:(Qp X x M).Nodup) (hi:PI X (.Name x px) iter wi)
  (ht:∀C s2 H2 fp pn,PT (zt X scope cl x M C s2 H2 fp pn) cd tt) (he:∀C s2 H2 fp pn,PE (zt X scope cl x M C s2 H2 fp pn) elt te) (ha:∀C s2 H2 fp pn,Z1 (zt X scope cl x M C s2 H2 fp pn) add) (hs:∀z,foldedSetIterable iter X.env z=pure z)
  {use:Option (Ag->Sem Unit)} {QQ:Ag->Ab->Prop} {pins:List (Aj×Obj)} {s:Ab} {σ:St} {H:Hp} {Q:VK} {ps:Pos} (I:Inv X pins σ H s) (h:wi σ H λJ H1=>qyj J M tt te X.w add σ H1 Q)
  (fin:∀(C:Aj) (s2 s4:Ab) (H1 H2:Hp) (fp:List Aj),Inv X pins σ H1 s2->s2.heap.objs.size<C->(∀b∈fp,kv X pins H1 b)->Inv (zt X scope cl x M C s2 H1 fp (X.pn++pins)) [] (zf M σ none) H2 s4->Q (.ref s2.heap.objs.size) H2 ->
   compPost (model X.prog X.w) X.A X.xe use QQ (.ref s2.heap.objs.size) C (.ok .next) s4) :
  wpAny (model X.prog X.w) X.A (comprehension (.SetComp elt [⟨.Name x px,iter,[cd],0⟩] scope pos) scope X.env ps (newSet (.type "set")) false (eval iter X.env) use) QQ X.xe s:=by
 refine qxs hclos hhas hk hnames hi hs I h λit fp tn J H1 s2 C h3 tk I2 T t3 hfp hbl hob hR hlt keep hns hD=>?_;obtain⟨W,⟨m0,w0⟩,hW⟩:=hR s2.heap.objs.size (I2.hok.fresh (al _));have hxl:(relabel scope X.env).names.lookup x=some .local:=dY hx;refine ju (Y:=zt X scope cl x M C s2 H1 fp (X.pn++pins)) (V:=λi n H2=>∃ys,W i n ys H2) (Qd:=Q (.ref s2.heap.objs.size)) (REST:=tstS cd (compEnvC scope cl C X.env) (addS elt (.ref s2.heap.objs.size) (compEnvC scope cl C X.env) _) (again _)) T hc (λ_ _ z=>z) (wqv ..) rfl rfl (xy (i:=0) hnd rfl (.inl hxl) (.inr hxl)) (Zs hcap I2 hlt hfp hbl) (λi n H2 ⟨ys,w⟩=>?_) (λH2 s4 J4 q=>fin C s2 s4 H1 H2 fp I2 hlt hfp J4 q) (I2.compO hcap hhas hix hk hlt keep hns (qwz (wvx hD)) hfp hob) ⟨[],w0⟩ t3 λb hb=>by rw[q8 (aE (hbl b hb))];exact(hfp b hb).1
 obtain⟨hp,hcase⟩:=hW i n ys H2 w;refine hcase.imp id λ⟨hgo,hy⟩=>⟨hgo,λv H3 yl=>⟨λσ4 H4=>σ4=zf M σ (some v)/\H3=H4,⟨rfl,rfl⟩,λ_ _ e=>?_⟩⟩;obtain⟨rfl,rfl⟩:=e;refine⟨Qj M σ v,λpins' s' J=>?_⟩;exact Yw (ht _ _ _ _ _) J (hy v H3 yl) (λs6 H6 J6 h6=>bi (wqj (N:=λzs H5=>∃m',m'<n/\W (i+1) m' zs H5) (he _ _ _ _ _) (ha _ _ _ _ _) J6 h6) (λr s5 ⟨e,H5,J5,zs,m',hm,w'⟩=>⟨e,H5,J5,m',hm,zs,w'⟩) λ_ _ z=>z)
  λs6 H6 J6 ⟨_,m',hm,w'⟩=>aj ⟨rfl,H6,J6,m',hm,ys,w'⟩
theorem xz3 (hc:X.calm=true)(hclos:closureFor scope X.env=pure cl)(hcap:CapAll X.env cl)(hhas:HasAll cl scope.names)(hix:CapIx X scope cl M)(hk:scope.kind=.function)
  (hnames:∀y∈scope.names,y.2=.local->scope.names.lookup y.1=some .local) (hx:scope.names.lookup x=some .local) (hnd:(Qp X x M).Nodup) (hi:PI X (.Name x px) iter wi)
  (ht:∀C s2 H2 fp pn,PT (zt X scope cl x M C s2 H2 fp pn) cd tt) (he:∀C s2 H2 fp pn,PE (zt X scope cl x M C s2 H2 fp pn) elt te) (ha:∀C s2 H2 fp pn,Z1 (zt X scope cl x M C s2 H2 fp pn) add) (hs:autoParam (∀z,foldedSetIterable iter X.env z=pure z) aU3._auto_1) :
  PE X (.SetComp elt [⟨.Name x px,iter,[cd],0⟩] scope pos) (tSetI M wi tt te X.w add):=by
 intro pins s σ H Q I h;rw[qu2];refine wzk hc hclos hcap hhas hix hk hnames hx hnd hi ht he ha hs (use:=none) I h λC s2 s4 H1 H2 fp I2 hlt hfp J4 hq=>?_;obtain⟨m,hn,_⟩:=J4.loc;exact⟨m,hn,λh' hs'=>⟨.ref s2.heap.objs.size,H2,I2.uncomp (bu hlt) hfp J4 hs',rfl,hq⟩⟩
end
def qxu (J:It)(M:List Nat)(gg:TG)(tt:TT)(te:TE)(w:Ah)(add:qxw)(σ:St)(H1:Hp)(Q:VK):Prop:=∀p,H1 p=none->∃W:Nat->Nat->List (Int×Ag)->Hp->Prop,(∃m,W 0 m [] (upd H1 p (uu w p []))) /\
 ∀i m ys H2,W i m ys H2->H2 p=some (uu w p ys)/\((J.stop i H2/\Q (.ref p) H2)\/(J.go i H2/\∀v H3,J.yld i H2 v H3 ->
  gg v (zu M σ none none) H3 λσ4 H4=>(∃a b,σ4=zu M σ (some a) (some b))/\tt σ4 H4 λb H4=>if b=true then te σ4 H4 (λy H5=>H5 p=some (uu w p ys)/\add p ys y H5 λzs H6=>∃m',m'<m/\W (i+1) m' zs H6) else H4 p=some (uu w p ys)/\∃m',m'<m/\W (i+1) m' ys H4))
def tSetPI (M:List Nat)(wi:TI)(gg:TG)(tt:TT)(te:TE)(w:Ah)(add:qxw):TE:=λσ H Q=>wi σ H λJ H1=>qxu J M gg tt te w add σ H1 Q
section
variable {X:Cx}{elt iter tg cd:Expr}{x y2:Str}{pos:Pos}{scope:Scope}{cl:List (Str×Aj)}{M:List Nat}{wi:TI}{gg:TG}{tt:TT}{te:TE}{add:qxw}
theorem quh (M:List Nat)(σ:St)(v u:V):(zu M σ none none).length=(zu M σ (some v) (some u)).length/\∀(k:Nat) z,(zu M σ none none)[k]?=some (some z)->(zu M σ (some v) (some u))[k]?=some (some z):=⟨rfl,λk z ez=>by
 match k,ez with
 |0,ez=>cases ez
 |1,ez=>cases ez
 |k+2,ez=>exact ez⟩
theorem qur (hc:X.calm=true)(hclos:closureFor scope X.env=pure cl)(hcap:CapAll X.env cl)(hhas:HasAll cl scope.names)(hix:CapIx X scope cl M)(hk:scope.kind=.function)
  (hnames:∀y∈scope.names,y.2=.local->scope.names.lookup y.1=some .local) (hg:∀C s2 H2 fp pn,PG (zy X scope cl x y2 M C s2 H2 fp pn) tg gg) (hi:PI X tg iter wi)
  (ht:∀C s2 H2 fp pn,PT (zy X scope cl x y2 M C s2 H2 fp pn) cd tt) (he:∀C s2 H2 fp pn,PE (zy X scope cl x y2 M C s2 H2 fp pn) elt te) (ha:∀C s2 H2 fp pn,Z1 (zy X scope cl x y2 M C s2 H2 fp pn) add) (hs:∀z,foldedSetIterable iter X.env z=pure z)
  {use:Option (Ag->Sem Unit)} {QQ:Ag->Ab->Prop} {pins:List (Aj×Obj)} {s:Ab} {σ:St} {H:Hp} {Q:VK} {ps:Pos} (I:Inv X pins σ H s) (h:wi σ H λJ H1=>qxu J M gg tt te X.w add σ H1 Q)
  (fin:∀(C:Aj) (s2 s4:Ab) (H1 H2:Hp) (fp:List Aj),Inv X pins σ H1 s2->s2.heap.objs.size<C->(∀b∈fp,kv X pins H1 b)->Inv (zy X scope cl x y2 M C s2 H1 fp (X.pn++pins)) [] (zu M σ none none) H2 s4->Q (.ref s2.heap.objs.size) H2 ->
   compPost (model X.prog X.w) X.A X.xe use QQ (.ref s2.heap.objs.size) C (.ok .next) s4) :
  wpAny (model X.prog X.w) X.A (comprehension (.SetComp elt [⟨tg,iter,[cd],0⟩] scope pos) scope X.env ps (newSet (.type "set")) false (eval iter X.env) use) QQ X.xe s:=by
 refine qxs hclos hhas hk hnames hi hs I h λit fp tn J H1 s2 C h3 tk I2 T t3 hfp hbl hob hR hlt keep hns hD=>?_;obtain⟨W,⟨m0,w0⟩,hW⟩:=hR s2.heap.objs.size (I2.hok.fresh (al _));refine ju (Y:=zy X scope cl x y2 M C s2 H1 fp (X.pn++pins)) (V:=λi n H2=>∃ys,W i n ys H2) (Qd:=Q (.ref s2.heap.objs.size)) (REST:=tstS cd (compEnvC scope cl C X.env) (addS elt (.ref s2.heap.objs.size) (compEnvC scope cl C X.env) _) (again _)) T hc (λ_ _ z=>z) (wqv ..) rfl rfl (λpn s σ H v u Q I r hq=>hg C s2 H1 fp (X.pn++pins) pn s σ H v u Q I r hq) (Zs hcap I2 hlt hfp hbl) (λi n H2 ⟨ys,w⟩=>?_) (λH2 s4 J4 q=>fin C s2 s4 H1 H2 fp I2 hlt hfp J4 q) (I2.comp2O hcap hhas hix hk hlt keep hns (qwz (wvx hD)) hfp hob) ⟨[],w0⟩ t3 λb hb=>by rw[q8 (aE (hbl b hb))];exact(hfp b hb).1
 obtain⟨hp,hcase⟩:=hW i n ys H2 w;refine hcase.imp id λ⟨hgo,hy⟩=>⟨hgo,λv H3 yl=>?_⟩;refine⟨_,hy v H3 yl,λσ4 H4 hz=>?_⟩;obtain⟨⟨a,b,rfl⟩,hte⟩:=hz;refine⟨quh M σ a b,λpins' s' J=>?_⟩;exact Yw (ht _ _ _ _ _) J hte (λs6 H6 J6 h6=>bi (wqj (N:=λzs H5=>∃m',m'<n/\W (i+1) m' zs H5) (he _ _ _ _ _) (ha _ _ _ _ _) J6 h6) (λr s5 ⟨e,H5,J5,zs,m',hm,w'⟩=>⟨e,H5,J5,m',hm,zs,w'⟩) λ_ _ z=>z)
  λs6 H6 J6 ⟨_,m',hm,w'⟩=>aj ⟨rfl,H6,J6,m',hm,ys,w'⟩
theorem xw7 (hc:X.calm=true)(hclos:closureFor scope X.env=pure cl)(hcap:CapAll X.env cl)(hhas:HasAll cl scope.names)(hix:CapIx X scope cl M)(hk:scope.kind=.function)
  (hnames:∀y∈scope.names,y.2=.local->scope.names.lookup y.1=some .local) (hg:∀C s2 H2 fp pn,PG (zy X scope cl x y2 M C s2 H2 fp pn) tg gg) (hi:PI X tg iter wi)
  (ht:∀C s2 H2 fp pn,PT (zy X scope cl x y2 M C s2 H2 fp pn) cd tt) (he:∀C s2 H2 fp pn,PE (zy X scope cl x y2 M C s2 H2 fp pn) elt te) (ha:∀C s2 H2 fp pn,Z1 (zy X scope cl x y2 M C s2 H2 fp pn) add) (hs:autoParam (∀z,foldedSetIterable iter X.env z=pure z) aU3._auto_1) :
  PE X (.SetComp elt [⟨tg,iter,[cd],0⟩] scope pos) (tSetPI M wi gg tt te X.w add):=by
 intro pins s σ H Q I h;rw[qu2];refine qur hc hclos hcap hhas hix hk hnames hg hi ht he ha hs (use:=none) I h λC s2 s4 H1 H2 fp I2 hlt hfp J4 hq=>?_;obtain⟨m,hn,_⟩:=J4.loc;exact⟨m,hn,λh' hs'=>⟨.ref s2.heap.objs.size,H2,I2.uncomp2 (bu hlt) hfp J4 hs',rfl,hq⟩⟩
end
end L2
namespace L2
open PySem PySem.Spec PySem.Calls PyProof.Rows
theorem wj0 {P:Ac}{w:Ah}{K:Aa}{M:List Nat}{q:Aj}{us:List V}{tt:TT}{te:TE}{σ:St}{H:Hp}{Q:VK}(L:List (List Int))(c:List Int->Bool)(hq:SqL K H q us)(hL:Tups L us H)(hn:L.length<1099)
  (ht:∀(xs:List Int) (a:Aj) (H':Hp) (R:Bool->Hp->Prop),xs∈L->H' a=some (.tup (xs.map V.int))->Same H H'->(∀H'',Same H' H''->R (c xs) H'')->tt (zf M σ (some (.ref a))) H' R)
  (he:∀(a:Aj) (H':Hp) (R:VK),R (.ref a) H'->te (zf M σ (some (.ref a))) H' R)
  (k:∀p ps H' L',H p=none->Same H H'->H' p=some (uu w p ps)->PsT P w H' ps L'->L'.Nodup->(∀xs,xs∈L'↔(xs∈L/\c xs=true))->L'.length<=L.length->Q (.ref p) H'):qyj (Itl K q) M tt te w (addT P w) σ H Q:=by
 intro p np;have ul:=hL.len;refine⟨λi m ps H2=>i<=L.length/\m=L.length-i/\Same H H2/\H2 p=some (uu w p ps)/\∃L',PsT P w H2 ps L'/\L'.Nodup/\L'.length<=i/\∀xs,xs∈L'↔(xs∈L.take i/\c xs=true),⟨L.length,aT _,rfl,Same.upd np,qf,[],.nil,List.nodup_nil,al _,λxs=>by simp⟩,?_⟩;rintro i m ps H2 ⟨hi,rfl,sm,hp,L',hT,hN,hl,hM⟩;refine⟨hp,?_⟩;have hq2:SqL K H2 q us:=sm.sql hq;by_cases hlt:i<L.length
 .have hu:us[i]?=some us[i]:=aa ⋯;obtain⟨a,xs,ea,ex,fa⟩:=hL.get hu;refine .inr ⟨⟨us,_,hq2,hu⟩,?_⟩;rintro v H3 ⟨rfl,hv⟩;have e:=hv us hq2;rw[hu]at e;have e':=aq e;subst e';rw[ea];have tk:L.take (i+1)=L.take i++[xs]:=by rw[dw,ex];rfl
  refine ht xs a _ _ (aC ex) (sm _ _ fa) sm λH4 s4=>?_;have hT4:PsT P w H4 ps L':=hT.keep λb ys e=>s4 _ _ e;have f4:H4 a=some (.tup (xs.map V.int)):=s4 _ _ (sm _ _ fa);cases hc:c xs with
  |true =>
   refine yp ?_;refine he a H4 _ ⟨s4 _ _ hp,a,xs,L',rfl,f4,hT4,by rw[hT.len];lia,λz=>?_,λz ps' pm=>?_⟩
   .refine⟨L.length-(i+1),⋯,⋯,rfl,sm.trans s4,s4 _ _ hp,L',hT4,hN,⋯,λys=>?_⟩;rw[tk,hM ys];constructor
    .rintro⟨h1,h2⟩;exact⟨ca _ h1,h2⟩
    .rintro⟨h1,h2⟩;rcases aU.mp h1 with h1|h1
     .exact⟨h1,h2⟩
     .rw[aH.mp h1];exact(hM xs).mp z
   .have ne:a≠p:=λz=>by rw[z,s4 _ _ hp]at f4;cases f4
    have base:PsT P w (upd H4 p (uu w p ps')) (((KD P w).hash (xs.map Sum.inl),.ref a)::ps) (xs::L'):=by refine .cons ⟨a,rfl,by rw[q8 ne];exact f4⟩ (hT4.keep λb ys e=>?_);rw[q8 (λz=>by rw[z,s4 _ _ hp]at e;cases e)];exact e
    obtain⟨L2,p2,q2⟩:=Paired.perm pm base;refine⟨L.length-(i+1),⋯,⋯,rfl,?_,qf,L2,q2,p2.nodup_iff.mpr (dA.mpr ⟨z,hN⟩),by rw[p2.length_eq,aQ];lia,λys=>?_⟩
    .intro b o e;rw[q8 (wx e np)];exact s4 _ _ (sm _ _ e)
    .rw[p2.mem_iff,tk,aM,hM ys];constructor
     .rintro (rfl|⟨h1,h2⟩)
      .exact⟨aN _ (.head _),hc⟩
      .exact⟨ca _ h1,h2⟩
     .rintro⟨h1,h2⟩;rcases aU.mp h1 with h1|h1
      .exact .inr ⟨h1,h2⟩
      .exact .inl (aH.mp h1)
  |false =>
   refine jz ?_;refine⟨s4 _ _ hp,L.length-(i+1),⋯,⋯,rfl,sm.trans s4,s4 _ _ hp,L',hT4,hN,⋯,λys=>?_⟩;rw[tk,hM ys];constructor
   .rintro⟨h1,h2⟩;exact⟨ca _ h1,h2⟩
   .rintro⟨h1,h2⟩;rcases aU.mp h1 with h1|h1
    .exact⟨h1,h2⟩
    .rw[aH.mp h1,hc]at h2;cases h2
 .have:i=L.length:=by lia
  subst this;refine .inl ⟨⟨us,hq2,⋯⟩,k p ps H2 L' np sm hp hT hN (λxs=>?_) hl⟩;rw[hM xs,bn]
theorem wxx {P:Ac}{w:Ah}{K:Aa}{J:It}{M:List Nat}{tt:TT}{te:TE}{σ:St}{H:Hp}{Q:VK}(n:Nat)(pr:Nat->V×V)(c:Nat->Bool)(f:Nat->Int)(bd:Nat)(hbd:∀i,i<n->0<=f i/\f i<bd)(hb:bd<1000)
  (hgo:∀i H',i<n->Same H H'->J.go i H') (hst:∀H',Same H H'->J.stop n H') (hy:∀i H2 v H3,i<n->Same H H2->J.yld i H2 v H3->Same H2 H3/\∃a,v=.ref a/\SqT K H3 a [(pr i).1,(pr i).2])
  (ht:∀(i:Nat) (H':Hp) (R:Bool->Hp->Prop),i<n->Same H H'->(∀H'',Same H' H''->R (c i) H'')->tt (zu M σ (some (pr i).1) (some (pr i).2)) H' R)
  (he:∀(i:Nat) (H':Hp) (R:VK),i<n->c i=true->Same H H'->(∀H'',Same H' H''->R (.int (f i)) H'')->te (zu M σ (some (pr i).1) (some (pr i).2)) H' R)
  (k:∀p ps H' ns,H p=none->Same H H'->H' p=some (uu w p ps)->PsI P w ps ns->ns.Nodup->(∀v,v∈ns↔∃i,i<n/\c i=true/\f i=v)->Q (.ref p) H') :
  qxu J M (gTup K 2 (xw2 (Z9 0) (xw2 (Z9 1) gNil))) tt te w (addI P w) σ H Q:=by
 intro p np;refine⟨λi m ps H2=>i<=n/\m=n-i/\Same H H2/\H2 p=some (uu w p ps)/\∃ns,PsI P w ps ns/\ns.Nodup/\∀v,v∈ns↔∃j,j<i/\c j=true/\f j=v,⟨n,aT _,rfl,Same.upd np,qf,[],.nil,List.nodup_nil,λv=>by simp⟩,?_⟩;rintro i m ps H2 ⟨hi,rfl,sm,hp,ns,hT,hN,hM⟩;refine⟨hp,?_⟩;by_cases hlt:i<n
 .refine .inr ⟨hgo i H2 hlt sm,λv H3 yl=>?_⟩;obtain⟨s3,a,rfl,hq⟩:=hy i H2 v H3 hlt sm yl;refine⟨a,_,rfl,hq,rfl,_,_,rfl,_,_,rfl,rfl,⟨_,_,rfl⟩,?_⟩;refine ht i _ _ hlt (sm.trans s3) λH4 s4=>?_;cases hc:c i with
  |true =>
   refine yp ?_;refine he i _ _ hlt hc ((sm.trans s3).trans s4) λH5 s5=>⟨s5 _ _ (s4 _ _ (s3 _ _ hp)),f i,ns,rfl,hT,?_,λz=>?_,λz ps' t pm=>?_⟩
   ·
    rw[hT.len];have:=qzk (ns.map Int.toNat) (List.range bd) ?_ λv hv=>?_
    .rw[ag,aG]at this;lia
    .refine cK.mpr (cP (λ{x y} hx hy hxy z=>?_) hN);obtain⟨j1,h1,_,rfl⟩:=(hM x).mp hx;obtain⟨j2,h2,_,rfl⟩:=(hM y).mp hy;have a1:=hbd j1 ⋯;have a2:=hbd j2 ⋯;exact hxy ⋯
    .obtain⟨x,hx,rfl⟩:=aJ.mp hv;obtain⟨j1,h1,_,rfl⟩:=(hM x).mp hx;have a1:=hbd j1 ⋯;exact ay.mpr ⋯
   .refine⟨n-(i+1),⋯,⋯,rfl,((sm.trans s3).trans s4).trans s5,s5 _ _ (s4 _ _ (s3 _ _ hp)),ns,hT,hN,λv=>?_⟩;rw[hM v];constructor
    .rintro⟨j,h1,h2⟩;exact⟨j,⋯,h2⟩
    .rintro⟨j,h1,h2,h3⟩;by_cases cj:j=i
     .subst cj;rw[<-h3];exact(hM _).mp z
     .exact⟨j,⋯,h2,h3⟩
   .have base:PsI P w (((intKind P w).hash (f i),.int (f i) t)::ps) (f i::ns):=.cons ⟨t,rfl⟩ hT;obtain⟨L2,p2,q2⟩:=Paired.perm pm base;refine⟨n-(i+1),⋯,⋯,rfl,?_,qf,L2,q2,p2.nodup_iff.mpr (dA.mpr ⟨z,hN⟩),λv=>?_⟩
    .intro b o e;rw[q8 (wx e np)];exact s5 _ _ (s4 _ _ (s3 _ _ (sm _ _ e)))
    .rw[p2.mem_iff,aM,hM v];constructor
     .rintro (rfl|⟨j,h1,h2⟩)
      .exact⟨i,⋯,hc,rfl⟩
      .exact⟨j,⋯,h2⟩
     .rintro⟨j,h1,h2,h3⟩;by_cases cj:j=i
      .subst cj;exact .inl h3.symm
      .exact .inr ⟨j,⋯,h2,h3⟩
  |false =>
   refine jz ?_;refine⟨s4 _ _ (s3 _ _ hp),n-(i+1),⋯,⋯,rfl,(sm.trans s3).trans s4,s4 _ _ (s3 _ _ hp),ns,hT,hN,λv=>?_⟩;rw[hM v];constructor
   .rintro⟨j,h1,h2⟩;exact⟨j,⋯,h2⟩
   .rintro⟨j,h1,h2,h3⟩;by_cases cj:j=i
    .subst cj;rw[hc]at h2;cases h2
    .exact⟨j,⋯,h2,h3⟩
 .have:i=n:=by lia
  subst this;exact .inl ⟨hst H2 sm,k p ps H2 ns np sm hp hT hN hM⟩
end L2
namespace L2
open PySem PySem.Spec PySem.Calls PySem.W PyProof.Rows
def BMain (mg:Str->Option Ag)(h:Heap):Prop:=∃bm ob,mg "__builtins__" = some (.ref bm)/\bm≠builtinsNs/\h.get? bm=some ob/\ob.cls=.type "module" /\ ob.dict=some builtinsNs/\ob.data=.plain
theorem BMain.kept {mg:Str->Option Ag}{h h':Heap}(b:BMain mg h)(k:∀b o,h.get? b=some o->h'.get? b=some o):BMain mg h' :=
 let ⟨bm,ob,h1,h2,h3,r⟩:=b;⟨bm,ob,h1,h2,k _ _ h3,r⟩
section
variable {P:Ac}{w:Ah}{K:Aa}{mg mb:Str->Option Ag}{CX:CXT}{k:Nat}{fa a c T:Aj}{fd:Ad}{x:Str}{sp:Sp}{s₁:Ab}{vs:List Ag}{ns:List Int}
theorem wkp (KX:K.In s₁.heap)(hns:s₁.heap.Ns mainGlobals mg)(hb:s₁.heap.Ns builtinsNs mb)(hbb:∀x:Str,x ≠ "__name__" -> mb x=bootBuiltins x)(hlim:s₁.heap.NoLimit)(hg:s₁.gens=#[])(hbm:BMain mg s₁.heap)
  (hT:s₁.heap.get? T=some (tabObj #[])) (hC:CodeHd s₁.heap c T) (hKT:K.lookup T=none)
  (ha:s₁.heap.get? a=some { cls:=.type "list",data:=.seq vs.toArray }) (hi:IntsAre vs ns) (hl:ns.length<=sizeLine) (hr:Room k callerA)
  (F:∀base:Heap,K.In base->base.Ns mainGlobals mg->BMain mg base->FnOk P w K mg base CX k fa fd [x] sp) (hbind:∀(s:Ab) (u:Ag),BindsTo s fd ⟨[u],[]⟩ [(x,u)])
  (hsp:∀H:Hp,H T=some (.tbl #[])->SqL K H a (ns.map V.int)->sp [.ref a] H (λv _=>v=.bl true) λ_ _ _=>False)
  (hCX:∀H e s',CX [] H s₁ (λ_ _ _=>False) e s'->False) :
  codeAny (model P w) callerA (.call (.ref fa) ⟨[.ref a],[]⟩) (λr s'=>r=.ok (.ret (.bool true))/\OldK s₁.heap s'.heap/\s'.os=s₁.os/\AllBare s'.gens) s₁:=by
 have rv:=Jg hi;have lenV:=hi.length;have hne:a≠T:=λz=>by rw[z,hT]at ha;cases ha
 have core:∀H:Hp,H T=some (.tbl #[])->(∀b,b≠T->H b=none\/∃o xs,H b=some (.frz o (.lst xs)))->SqL K H a (ns.map V.int)->HOk P w H s₁.heap->(∀b,H b≠none->b=a\/b=T)->(H a≠none->K.lookup a=none) ->
   codeAny (model P w) callerA (.call (.ref fa) ⟨[.ref a],[]⟩) (λr s'=>r=.ok (.ret (.bool true))/\OldK s₁.heap s'.heap/\s'.os=s₁.os/\AllBare s'.gens) s₁:=by
  intro H hHT hO hS hok hA hK;have base_of:∀ {b:Aj} {o:Obj},s₁.heap.get? b=some o->H b=none->(qvw s₁.heap H).get? b=some o:=λe n=>wu2 e n;have apart:∀ {b:Aj} {o:Obj},s₁.heap.get? b=some o->o.cls≠.none->(∀its n,o.data≠.seq its n)->H b=none:=λ{b o} e d1 d2=>by
   cases q:H b with
   |none=>rfl
   |some u =>
    rcases hA b (by rw[q];simp) with z|z
    .subst z;rw[ha]at e;cases e;exact absurd rfl (d2 _ _)
    .subst z;rw[hT]at e;cases e;exact absurd rfl d1
  have noD:∀ {b:Aj} {o:Obj} {es:Array DictEntry} {ep:Nat},s₁.heap.get? b=some o->o.data=.dict es ep->H b=none:=λ{b o es ep} e d=>by
   cases q:H b with
   |none=>rfl
   |some u =>
    rcases hA b (by rw[q];simp) with z|z
    .subst z;rw[ha]at e;cases e;have d':Data.seq vs.toArray _=Data.dict es ep:=d;cases d'
    .subst z;rw[hT]at e;cases e;have d':Data.fields #[]=Data.dict es ep:=d;cases d'
  have nsK:∀ {b:Aj} {m:Str->Option Ag},s₁.heap.Ns b m->(qvw s₁.heap H).Ns b m:=λ{b m} ⟨o,es,ep,e,d,r⟩=>⟨o,es,ep,base_of e (noD e d),d,r⟩;have hKb:K.In (qvw s₁.heap H):=λb o e=>base_of (KX b o e) (by
   cases q:H b with
   |none=>rfl
   |some u =>
    rcases hA b (by rw[q];simp) with z|z
    .subst z
     rw[hK (by rw[q];simp)]at e;cases e
    .subst z
     rw[hKT]at e;cases e)
  have hBM:BMain mg (qvw s₁.heap H):=by obtain⟨bm,ob,b1,b2,b3,b4,b5,b6⟩:=hbm;exact⟨bm,ob,b1,b2,base_of b3 (apart b3 (by rw[b4];exactλz=>by cases z) (λits n z=>by rw[b6]at z;cases z)),b4,b5,b6⟩
  have hM:Mod K mg (qvw s₁.heap H):=⟨hKb,nsK hns,⟨mb,nsK hb,hbb⟩,let ⟨mc,h1,h2⟩:=hlim;⟨mc,nsK h1,h2⟩⟩;have e0:Env0 P w K mg (qvw s₁.heap H) callerA [] s₁ H:=⟨rfl,hM,λb o e=>xz0 e,Nat.le_of_eq (wyj _ _),trivial,λb hb=>absurd (show b∈([]:List Aj) from hb) (by simp),hok,.of_eq hg⟩;refine eV ((F _ hKb (nsK hns) hBM).run callerA [] s₁ H ⟨[.ref a],[]⟩ [.ref a] [.ref a] _ _ hr e0 (hbind s₁ (.ref a)) (.cons rfl .nil) (hsp H hHT hS)) λr s' h=>?_;cases r with
  |error e=>exact(hCX H e s' h).elim
  |ok fl =>
   cases fl with
   |next=>exact False.elim h
   |brk=>exact False.elim h
   |cont=>exact False.elim h
   |ret u =>
    obtain⟨v,H',os,bare,un,hok',r',q⟩:=h;have q':v=.bl true:=q;subst q';obtain rfl:u=Value.bool true:=r';have keep:∀b o,b≠T->s₁.heap.get? b=some o->s'.heap.get? b=some o:=λb o hb e=>by
     cases q:H b with
     |none=>exact un.keep b o e q (by intro z;exact absurd (show b∈([]:List Aj) from z) (by simp)) (by simp)
     |some u =>
      rcases hO b hb with z|⟨ob,xs,z⟩
      .rw[q]at z;cases z
      .have z2:=un.frzs b ob _ z;obtain⟨e1,_⟩:=hok b _ z;obtain⟨e2,_⟩:=hok' b _ z2;rw[e]at e1;cases e1;exact e2
    obtain⟨more,hm⟩:=un.tbls T _ hHT;have hT':s'.heap.get? T=some { cls:=.none,data:=.fields (#[]++more) }:=hok' T _ hm;have isT:isCodeTable s₁.heap T:=let ⟨o,cs,_,_,_,_,_,_,_,e1,e2,e3,e4,_⟩:=hC;⟨c,o,cs,e1,e2,e3,e4⟩;refine⟨rfl,⟨λb o e=>?_,λb o e=>?_⟩,os,bare⟩
    .by_cases hbT:b=T
     .subst hbT;rw[hT]at e;cases e;exact .inr (.inl ⟨isT,rfl,#[],more,rfl,hT'⟩)
     .exact .inl (keep b o hbT e)
    .by_cases hbT:b=T
     .subst hbT;exact⟨_,hT'⟩
     .exact⟨o,keep b o hbT e⟩
 cases hk:K.lookup a with
 |some o =>
  have e:=KX a o hk;rw[ha]at e;cases e;refine core (λb=>if b=T then some (.tbl #[]) else none) (aw rfl) (λb hb=>.inl (ar hb)) (.inr ⟨_,vs.toArray,_,hk,rfl,rfl,rfl,by rw[av,lenV];exact hl,by simpa using rv⟩) (λb u z=>?_) (λb z=>?_) λz=>absurd (ar hne) z
  .by_cases hb:b=T
   .have z':=(aw hb).symm.trans z;cases z';subst hb;exact hT
   .have z':=(ar hb).symm.trans z;cases z'
  .by_cases hb:b=T
   .exact .inr hb
   .exact absurd (ar hb) z
 |none =>
  refine core (λb=>if b=T then some (.tbl #[]) else if b=a then some (.frz { cls:=.type "list",data:=.seq vs.toArray } (.lst (ns.map V.int))) else none) (aw rfl) (λb hb=>?_) (.inl (.inr ⟨{ cls:=.type "list",data:=.seq vs.toArray },(ar hne).trans (aw rfl)⟩)) (λb u z=>?_) (λb z=>?_) λ_=>hk
  .by_cases hba:b=a
   .exact .inr ⟨_,_,(ar hb).trans (aw hba)⟩
   .exact .inl ((ar hb).trans (ar hba))
  .by_cases hb:b=T
   .have z':=(aw hb).symm.trans z;cases z';subst hb;exact hT
   .have z':=(ar hb).symm.trans z;by_cases hba:b=a
    .have z2:=(aw hba).symm.trans z';cases z2;subst hba;exact⟨ha,by rw[ag];exact hl,vs,_,rv,ha⟩
    .have z2:=(ar hba).symm.trans z';cases z2
  .by_cases hb:b=T
   .exact .inr hb
   .by_cases hba:b=a
    .exact .inl hba
    .exact absurd ((ar hb).trans (ar hba)) z
end
theorem wuf {l:W.OpenLaw}{n k:Nat}{q:Ac}{loose:List Str}{XP:(Str->Option Ag)->Heap->Prop}{YP:Ah->Heap->Prop}{d:DefRec}{K:Params->Aa}{CX:Ah->CXT}{sp:Ah->Sp}{x:Str}{c T:Aj}
  (hn:l.most=some n) (hn2:n<=sizeLine) (hdf:d.params.defaults=[]) (hr:Room k callerA)
  (hY:∀(w:Ah) (h:Heap),YP w h->(K w.params).In h/\h.get? T=some (tabObj #[])) (hcT:∀p,codeHdIn (K p) c T=true) (hKT:∀p,(K p).lookup T=none)
  (F:∀(w:Ah) (mg:Str->Option Ag) (fa:Aj) (h:Heap),(K w.params).In h->h.Ns mainGlobals mg->mg d.name=some (.ref fa) ->
   ∃fd:Ad,(∀(s:Ab) (u:Ag),BindsTo s fd ⟨[u],[]⟩ [(x,u)]) /\
    ∀base:Heap,(K w.params).In base->base.Ns mainGlobals mg->BMain mg base->FnOk l.prog w (K w.params) mg base (CX w) k fa fd [x] (sp w))
  (hsp:∀(w:Ah) (H:Hp) (a:Aj) (ns:List Int),ns.length<=n->H T=some (.tbl #[])->SqL (K w.params) H a (ns.map V.int)->sp w [.ref a] H (λv _=>v=.bl true) λ_ _ _=>False)
  (hCX:∀(w:Ah) (H:Hp) (s:Ab) (e:Ag) (s':Ab),CX w [] H s (λ_ _ _=>False) e s'->False) :
  W.WalkO q loose XP YP l.row.toRowW d [] (λf vs=>PySem.call f vs):=by
 refine Att.attach_call hn hdf λw s₀ s₁ mg mb fa o pm cd doc a vs ns G Y ho hd hcd hmg hobj hints hlen hg=>?_;obtain⟨KX,hT⟩:=hY w _ Y;obtain⟨fd,hb,hF⟩:=F w mg fa _ KX G.T.g hmg;exact wkp KX G.T.g G.T.b G.T.builtins G.T.nolimit hg G.T.bmain hT (codeHd_of_K KX (hcT _)) (hKT _) hobj hints (bM hlen hn2) hr hF hb (λH hO hS=>hsp w H a ns hlen hO hS) λH e s'=>hCX w H s₁ e s'
end L2
namespace L2
open PySem PySem.Spec PySem.Calls PySem.W PyProof.Rows
def Stb (kz:List Int)(n:Nat)(il:List Nat):Prop:=il.Perm (List.range n)/\il.Pairwise λi j=>kz.getD i 0<kz.getD j 0\/(kz.getD i 0=kz.getD j 0/\i<j)
section
variable {prog:Ac}{w:Ah}{A:Ae}{E:Ag->Ab->Prop}{s:Ab}{a kS:Aj}{vs ks:List Ag}{P:PySem.Fin->Ab->Prop}{f:Ag}
end
end L2
namespace L2
open PySem PySem.Spec PySem.Calls PySem.W PyProof.Rows
def wvw (CX:CXT)(P:Ac)(w:Ah)(K:Aa)(mg:Str->Option Ag)(base:Heap)(N:List Str)(qual:Str)(scope:Scope)(g:Aj)(cd:Ag)(cl:List (Str×Aj))(A:Ae)(outer:List Env)(s:Ab)(H:Hp)(E:XK):Cx where
 prog:=P
 w:=w
 K:=K
 mg:=mg
 base:=base
 A:=A.deeper (envX qual scope s.heap.objs.size g cd cl)
 N:=N
 s₀:=s
 H₀:=H
 env:=envX qual scope s.heap.objs.size g cd cl
 outer:=outer
 stack:=envX qual scope s.heap.objs.size g cd cl::outer
 ex:=[]
 calm:=true
 fn:=λ_=>false
 pn:=[]
 xe:=λe s'=>wpAny (model P w) (A.deeper (envX qual scope s.heap.objs.size g cd cl)) (leaving (envX qual scope s.heap.objs.size g cd cl) e) (λ_ s''=>CX outer H s E e s'') (λe' s''=>CX outer H s E e' s'') s'
structure LamSc (x y:Str)(sc:Scope):Prop where
 kind:sc.kind=.function
 co:sc.isCoroutine=false
 gen:sc.isGenerator=false
 px:sc.names.lookup x=some .local
 fy:sc.names.lookup y=some .free
 nocell:∀z∈sc.names,z.2≠.cell
 free:∀z,sc.names.lookup z=some .free->z=y
 ne:y≠x
section
variable {CX:CXT}{P:Ac}{w:Ah}{K:Aa}{mg:Str->Option Ag}{base:Heap}{A:Ae}{outer:List Env}{s:Ab}{H:Hp}{E:XK}{name qual:Str}{params:Arguments}{body:Expr}{scope:Scope}{pm ctv:Ag}{c' g cF:Aj}{x y:Str}{k:Nat}{u uS:Ag}{v vS:V}{Q:VK}{t:TE}
theorem xzu (S:LamSc x y scope)(hr:Room (k+1) A)(e0:Env0 P w K mg base A outer s H)(ho:s.heap.get? g=some (kla_obj name qual params body scope [(y,cF)] pm c' ctv))(hcd:s.heap.CodeRec (.ref c') qual)
  (hb:bindArgs (kla_fn name qual params body scope [(y,cF)] pm (.ref c') ctv) ⟨[u],[]⟩=pure [(x,u)]) (hcell:s.heap.IsCell cF (some uS)) (hcF:H cF=none) (rv:RelV v u) (rS:RelV vS uS)
  (hpe:PE (wvw CX P w K mg base [x,y] qual scope g (.ref c') [(y,cF)] A outer s H E) body t) (ht:t [some v,some vS] H Q) :
  codeAny (model P w) A (.call (.ref g) ⟨[u],[]⟩) (CR CX outer P w H s Q E) s:=by
 have lim:s.heap.NoLimit:=e0.mod.nolimit.keeps λb o e=>(e0.bs b o e).1;refine kla_callFunE hr.depth ho rfl S.co S.gen rfl hcd ?_;rw[hb];refine aj (gD S.nocell (λz hz=>?_) (λh₁ hns hsb=>⟨lim.fresh _ hsb,?_⟩) S.kind)
 .obtain rfl:=aH.mp hz;exact S.px
 show codeAny _ _ (.expr body (envX qual scope s.heap.objs.size g (.ref c') [(y,cF)])) _ _;have hk:∀b o,s.heap.get? b=some o->h₁.get? b=some o:=λb o e=>hsb.extBut b o (aE (ao e)) (ai _ e);have one:∀z c,([(y,cF)]:List (Str×Aj)).lookup z=some c->z=y/\c=cF:=λz c e=>by
  rw[bA]at e;by_cases q:(z==y)=true
  .rw[q]at e;exact⟨by simpa using q,(aq e).symm⟩
  .rw[iE]at q;rw[q]at e;cases e
 have oneY:([(y,cF)]:List (Str×Aj)).lookup y=some cF:=by rw[bA,eW]
 have noA:∀b:Aj,b∉(wvw CX P w K mg base [x,y] qual scope g (.ref c') [(y,cF)] A outer s H E).ex:=λb z=>absurd (show b∈([]:List Aj) from z) (by simp);have I:Inv (wvw CX P w K mg base [x,y] qual scope g (.ref c') [(y,cF)] A outer s H E) [] [some v,some vS] H { s with heap:=h₁,toks:=s.toks+1 }:=by
  refine⟨⟨e0.mod,S.kind,rfl,rfl,al _,λa b c h1 h2=>(one a c h1).1.trans (one b c h2).1.symm,λz hz=>?_,λz c hz=>(by cases hz),λ_=>hr.hd,Around.frames_deeper e0.frames,.inr ⟨rfl,rfl⟩,λb z=>absurd z (noA b),e0.bs,e0.bsz,λb _ _=>noA b,λb z=>absurd z (noA b),e0.funs,e0.frf⟩,
   rfl,e0.bare,Un.kept hk,⟨_,hns,λi z a h1 h2 h3=>?_⟩,λz c h=>?_,e0.hok.fresh (al _),λz c h=>?_,λp hp=>absurd (show p∈([]:List (Aj×Obj)) from hp) (by simp),e0.hok.kept hk,rfl⟩
  .rcases hz with hz|hz
   .exact absurd rfl (S.nocell _ (dC hz))
   .rw[S.free z hz];exact⟨cF,oneY⟩
  .match i,h1,h2 with
   |0,h1,h2 =>
    obtain rfl:x=z:=aq h1;obtain rfl:v=a:=aq (aq h2);refine⟨u,rv,.inl ⟨S.px,?_⟩⟩;show List.lookup x [(x,u)]=some u;rw[bA,eW]
   |1,h1,h2 =>
    obtain rfl:y=z:=aq h1;obtain rfl:vS=a:=aq (aq h2);exact⟨uS,rS,.inr ⟨.inr S.fy,cF,oneY,let ⟨o,h1,h2⟩:=hcell;⟨o,hk _ _ h1,h2⟩⟩⟩
   |n+2,h1,_=>cases h1
  .obtain⟨rfl,rfl⟩:=one z c h;exact⟨_,let ⟨o,h1,h2⟩:=hcell;⟨o,hk _ _ h1,h2⟩⟩
  .obtain⟨rfl,rfl⟩:=one z c h;exact hcF
 refine kla_codeExpr (bi (hpe [] _ [some v,some vS] H _ I ht) (λr s' hs=>?_) λ_ _ h=>h);obtain⟨v',H',J,rv',q⟩:=hs;exact⟨v',H',J.os,J.bare,J.base,J.hok,rv',q⟩
end
def qvs (q:Str)(c':Aj):HO:=.ext λh=>h.CodeRec (.ref c') q
def wqp (g:Aj)(ob:Obj):HO:=.ext λh=>h.get? g=some ob
def wq4 (pos:Pos)(c':Aj):Array Ag:=#[rawInt pos.line,rawInt pos.col,.ref c']
def TabAt (T:Aj)(pos:Pos)(q:Str)(c':Aj)(H:Hp):Prop:=H T=some (.tbl (wq4 pos c'))/\H c'=some (qvs q c')
def Q5 (T:Aj)(pos:Pos)(q:Str)(H:Hp):Prop:=H T=some (.tbl #[])\/∃c',TabAt T pos q c' H
def KeepT (T:Aj)(H H':Hp):Prop:=∀b o,b≠T->H b=some o->H' b=some o
theorem xwr {P:Ac}{w:Ah}{H:Hp}{h:Heap}{c':Aj}{q:Str}(r:h.CodeRec (.ref c') q):ObjOk P w H h c' (qvs q c'):=by obtain⟨c,oc,vs,t,e,ho,hd,hv⟩:=id r;cases e;refine⟨r,⟨oc,ho⟩,λh1 h2 ⟨c,o1,v1,t1,e1,f1,f2,f3⟩ k=>?_⟩;cases e1;exact⟨c',o1,v1,t1,rfl,k _ f1,f2,f3⟩
theorem wkq {P:Ac}{w:Ah}{H:Hp}{h:Heap}{g:Aj}{ob:Obj}(e:h.get? g=some ob):ObjOk P w H h g (wqp g ob) :=
 ⟨e,⟨ob,e⟩,λh1 h2 q k=>k _ q⟩
def tLam (T:Aj)(pos:Pos)(q:Str)(ob:Aj->Ag->Obj):TE:=λ_ H Q=>Q5 T pos q H/\∀(g c':Aj) (ctv:Ag) (H':Hp),KeepT T H H'->TabAt T pos q c' H'->H g=none->H' g=some (wqp g (ob c' ctv))->Q (.ref g) H'
section
variable {X:Cx}{params:Arguments}{body:Expr}{scope:Scope}{pos:Pos}{c T:Aj}{clos:List (Str×Aj)}
theorem pe_lam (hB:BMain X.mg X.base)(hcd:X.env.code=.ref c)(hC:codeHdIn X.K c T=true)(hdef:defaultsOf params X.env=([],[]))(hcl:closureFor scope X.env=pure clos) :
  PE X (.Lambda params body scope pos) (tLam T pos (X.env.qual ++ "<lambda>") λc' ctv=>kla_obj "<lambda>" (X.env.qual ++ "<lambda>") params body scope clos ((X.mg "__name__").getD .none) c' ctv):=by
 intro pins s σ H Q I ⟨tab,h⟩;refine kla_eval hdef ?_;have hg:s.heap.Ns mainGlobals X.mg:=I.mod.glob.keeps I.bk;have CH:CodeHd s.heap c T:=codeHd_of_K I.kIn hC;obtain⟨bm,ob,b1,b2,b3,b4,b5,b6⟩:=hB.kept I.bk;have bat:∀ps,s.heap.get? T=some (tabObj ps)->mainGlobals≠T/\s.heap.BuiltinsAt X.mg T:=λps hP=>by
  refine⟨λq=>?_,bm,ob,b1,b2,λq=>?_,λq=>?_,b3,b4,b5,b6⟩
  .obtain⟨o,es,ep,e,hd,_⟩:=hg;rw[q,hP]at e;cases e;cases hd
  .obtain⟨o,es,ep,e,hd,_⟩:=hg;rw[q,e]at b3;cases b3;rw[hd]at b6;cases b6
  .rw[q,hP]at b3;cases b3;cases b4
 rcases tab with hT|⟨c',hT,hc'⟩
 .have gT:s.heap.get? T=some (tabObj #[]):=I.hok T _ hT;obtain⟨hgT,hbT⟩:=bat _ gT;refine kla_makeFunction (mg:=X.mg) hcl I.ok.glob hg hcd CH gT trivial rfl hgT hbT λc' ctv h' tk hx hge hlt hrec htb=>?_;have htb':h'.get? T=some (tabObj (wq4 pos c')):=by rw[htb];rfl
  have hTs:T<s.heap.objs.size:=ao gT;have hcs:H c'=none:=I.hok.fresh hge;have hgs:H h'.objs.size=none:=I.hok.fresh (bu (fH hge hlt));have d1:c'≠T:=λz=>absurd hge (by rw[z];exact Nat.not_le_of_lt hTs);have d2:h'.objs.size≠T:=λz=>by rw[z]at hlt;exact absurd hge (Nat.not_le_of_lt (bv hlt hTs))
  have d3:h'.objs.size≠c':=eU hlt;have low:∀b o,s.heap.get? b=some o->b≠c'/\b≠h'.objs.size:=λb o e =>
   ⟨aE (aO (ao e) hge),aE (bv (aO (ao e) hge) hlt)⟩
  have at_:∀b,b≠T->b≠c'->b≠h'.objs.size->upd (upd (upd H T (.tbl (wq4 pos c'))) c' (qvs (X.env.qual ++ "<lambda>") c')) h'.objs.size (wqp h'.objs.size (kla_obj "<lambda>" (X.env.qual ++ "<lambda>") params body scope clos ((X.mg "__name__").getD .none) c' ctv)) b=H b:=λb e1 e2 e3=>by rw[q8 e3,q8 e2,q8 e1]
  have kp:∀b o,b≠T->s.heap.get? b=some o->(h'.push (kla_obj "<lambda>" (X.env.qual ++ "<lambda>") params body scope clos ((X.mg "__name__").getD .none) c' ctv)).get? b=some o:=λb o e1 e=>ai _ (hx b o e1 e);have old:∀b o,b≠T->H b=some o->upd (upd (upd H T (.tbl (wq4 pos c'))) c' (qvs (X.env.qual ++ "<lambda>") c')) h'.objs.size (wqp h'.objs.size (kla_obj "<lambda>" (X.env.qual ++ "<lambda>") params body scope clos ((X.mg "__name__").getD .none) c' ctv)) b=some o:=λb o e1 e=>by rw[at_ b e1 (wx e hcs) (wx e hgs)];exact e
  have tT:upd (upd (upd H T (.tbl (wq4 pos c'))) c' (qvs (X.env.qual ++ "<lambda>") c')) h'.objs.size (wqp h'.objs.size (kla_obj "<lambda>" (X.env.qual ++ "<lambda>") params body scope clos ((X.mg "__name__").getD .none) c' ctv)) T=some (.tbl (wq4 pos c')):=by rw[q8 d2.symm,q8 d1.symm,qf]
  have notT:∀b o,H b=some o->(∀ps,o≠.tbl ps)->b≠T:=λb o e n z=>by rw[z,hT]at e;cases e;exact n _ rfl
  refine⟨.ref h'.objs.size,_,I.call' (s':={ s with heap:=h'.push (kla_obj "<lambda>" (X.env.qual ++ "<lambda>") params body scope clos ((X.mg "__name__").getD .none) c' ctv),toks:=tk }) (ch:=[]) rfl ⟨λb o e n _ _=>kp b o (λz=>by rw[z,hT]at n;cases n) e,λb o e n _ _=>⟨o.slots,kp b o (λz=>by rw[z,hT]at n;cases n) e⟩,λb o e n _=>?_,λb o e _=>?_,λb xs e=>old b _ (notT b _ e λps z=>by cases z) e,λb o u e=>old b _ (notT b _ e λps z=>by cases z) e,λb ps e=>?_⟩ (λb u e=>?_) I.bare (λb z=>absurd z (by simp)),rfl,h _ c' ctv _ old ⟨tT,?_⟩ hgs qf⟩
  .obtain⟨l1,l2⟩:=low b o e;rw[at_ b (λz=>by rw[z,hT]at n;cases n) l1 l2];exact n
  .by_cases hb:b=T
   .rw[hb];exact⟨_,ai _ htb'⟩
   .exact⟨o,kp b o hb e⟩
  .by_cases hb:b=T
   .subst hb;rw[hT]at e;cases e;exact⟨wq4 pos c',by rw[tT];simp⟩
   .exact⟨#[],by rw[old b _ hb e];simp⟩
  .by_cases hbg:b=h'.objs.size
   .subst hbg;rw[qf]at e;cases e;exact wkq (aF _ rfl)
   .rw[q8 hbg]at e;by_cases hbc:b=c'
    .subst hbc;rw[qf]at e;cases e;obtain⟨c2,oc,vs,t,f1,f2,f3,f4⟩:=hrec;exact xwr ⟨c2,oc,vs,t,f1,ai _ f2,f3,f4⟩
    .rw[q8 hbc]at e;by_cases hbT:b=T
     .subst hbT;rw[qf]at e;cases e;exact ai _ htb'
     .rw[q8 hbT]at e;refine(I.hok b u e).stay (λc2 v hc q=>kp c2 v ?_ q) (λc2 q=>old c2 _ (notT c2 _ q λps z=>by cases z) q) λc2 xs q=>old c2 _ (notT c2 _ q λps z=>by cases z) q;rcases hc with rfl|hc
      .exact hbT
      .exact notT c2 _ hc λps z=>by cases z
  .rw[q8 d3.symm,qf]
 .have gT:s.heap.get? T=some (tabObj (wq4 pos c')):=I.hok T _ hT;obtain⟨hgT,hbT⟩:=bat _ gT;refine kla_makeFunctionHit (mg:=X.mg) (cv:=.ref c') hcl I.ok.glob hg hcd CH gT trivial ?_ hbT λctv h' tk hk hsz=>?_
  .show codeAmong pos [rawInt pos.line,rawInt pos.col,.ref c']=some (.ref c');simp[codeAmong,rawInt]
  have hgs:H h'.objs.size=none:=I.hok.fresh hsz;have old:∀b o,H b=some o->upd H h'.objs.size (wqp h'.objs.size (kla_obj "<lambda>" (X.env.qual ++ "<lambda>") params body scope clos ((X.mg "__name__").getD .none) c' ctv)) b=some o:=λb o e=>by rw[q8 (wx e hgs)];exact e
  exact⟨.ref h'.objs.size,_,I.laid (a:=h'.objs.size) (o:=wqp h'.objs.size (kla_obj "<lambda>" (X.env.qual ++ "<lambda>") params body scope clos ((X.mg "__name__").getD .none) c' ctv)) (t':=tk) (λb u q=>ai _ (hk b u q)) hsz (wkq (aF _ rfl)),rfl,h _ c' ctv _ (λb o _ e=>old b o e) ⟨old _ _ hT,old _ _ hc'⟩ hgs qf⟩
end
end L2
namespace L2
open PySem PySem.Spec PySem.Calls PySem.W PyProof.Rows
theorem qx2 {xs:List V}{its:List Ag}(rv:Vals xs its):∀(il:List Nat),(∀i∈il,i<xs.length)->Vals (il.map λi=>xs.getD i .non) (il.map λi=>its.getD i Value.none)
 |[],_=>.nil
 |i::r,hin=>by
  refine .cons ?_ (qx2 rv r λj hj=>hin j (.tail _ hj));have hi:=hin i (.head _);obtain⟨u,eu,ru⟩:=rv.get (i:=i) (aa hi);have e1:its.getD i Value.none=u:=by rw[af,eu];rfl
  have e2:xs.getD i .non=xs[i]:=by rw[af,aa hi];rfl
  show RelV (xs.getD i .non) (its.getD i Value.none);rw[e1,e2];exact ru
section
variable {X:Cx}{pins:List (Aj×Obj)}{σ:St}{H:Hp}{s:Ab}
end
def wvb (X:Cx)(f:Ag)(ks:List Str)(r:St->List V->List V->Hp->VK->Prop):Prop :=
 ∀(pins:List (Aj×Obj)) (s:Ab) (σ:St) (H:Hp) (xs zs:List V) (us ws:List Ag) (Q:VK),Inv X pins σ H s->Vals xs us->Vals zs ws->r σ xs zs H Q ->
  wpAny (model X.prog X.w) X.A (call f us (ks.zip ws)) (EP X pins σ Q) X.xe s
def tCBKS (r:St->List V->List V->Hp->VK->Prop)(t tk:TA):TE:=λσ H Q=>t σ H λvs H1=>tk σ H1 λzs H2=>r σ vs zs H2 Q
section
variable {X:Cx}{x:Str}{p pos:Pos}{e:Expr}{es:List Expr}{kws:List Keyword}{t tk:TA}{id:String}{ks:List Str}{r:St->List V->List V->Hp->VK->Prop}
theorem wx2 (hc:wvb X (.builtin id) ks r)(hg:Gl X x)(hm:X.mg x=none)(hv:bootBuiltins x=some (.builtin id))(ha:PA X (e::es) t)(hkw:PK X kws tk)
  (hall:autoParam ((backToKw pos (keywordEach kws X.env)).all (·.1.isSome)=true) aU4._auto_1) (hks:autoParam ((backToKw pos (keywordEach kws X.env)).filterMap (·.1)=ks) aU4._auto_1) (hn:autoParam (x ≠ "__name__") aU2._auto_1) (hdb:autoParam ((x==("__debug__" : Str))=false) aU1._auto_1)
  (he:autoParam (starEach (e::es) X.env=(false,eval e X.env)::starEach es X.env) aU4._auto_1)
  (hpl:autoParam ((backTo pos (starEach (e::es) X.env)).any (·.1)=false) aU4._auto_1) (hpk:autoParam ((backToKw pos (keywordEach kws X.env)).any (·.1.isNone)=false) aU4._auto_1):PE X (.Call (.Name x p) (e::es) kws pos) (tCBKS r t tk):=by
 intro pins s σ H Q I h;refine dh (yr I hg hm hv ?_ hn hdb);refine callWith_builtin_kwB hpl hpk (evalArgs_kw2 hall (thn (ha pos pins s σ H _ I h) λus s1 ⟨vs,H1,I1,r1,q⟩=>?_) he);refine thn (hkw pos pins s1 σ H1 _ I1 q) λws s2 ⟨zs,H2,I2,rz,q2⟩=>?_;dsimp only [List.nil_append];rw[hks];exact hc pins s2 σ H2 vs zs us ws Q I2 r1 rz q2
end
section
variable {X:Cx}{x y:Str}{params:Arguments}{body:Expr}{scope:Scope}{cF:Aj}{qual:Str}{pm:Ag}{iy k:Nat}{t:TE}
end
end L2
namespace L2
open PySem PySem.Spec PySem.Calls PySem.W PyProof.Rows
theorem xvq {α:Type}{l l':List α}(d:α)(p:l'.Perm l):∃il:List Nat,il.Perm (List.range l.length)/\l'=il.map λi=>l.getD i d:=by
 have key:∀(l:List α) (k:Nat) (L:List α),(∀j,j<l.length->L[k+j]?=l[j]?)->Paired (λx i=>L[i]?=some x) l (List.range' k l.length):=by
  intro l
  induction l with
  |nil=>intro k L _;exact .nil
  |cons x l ih =>
   intro k L h;rw[aQ,List.range'_succ];refine .cons (by have:=h 0 (by simp);simpa using this) (ih (k+1) L λj hj=>?_);have:=h (j+1) (by simp;lia);rw[show k+1+j=k+(j+1) by lia,this];rfl
 have h0:=key l 0 l λj _=>by rw[cx]
 rw[<-List.range_eq_range']at h0;obtain⟨il,p1,q1⟩:=Paired.perm p h0;refine⟨il,p1,?_⟩;have:∀ {l':List α} {il:List Nat},Paired (λx i=>l[i]?=some x) l' il->l'=il.map λi=>l.getD i d:=by
  intro l' il h
  induction h with
  |nil=>rfl
  |cons r t ih=>rw[aD,af,r,<-ih];rfl
 exact this q1
section
variable {prog:Ac}{w:Ah}{A:Ae}{E:Ag->Ab->Prop}{s:Ab}{a kS:Aj}{vs ks:List Ag}{P:PySem.Fin->Ab->Prop}{f:Ag}
theorem qu5 {st:Af}{e e1:Nat}{out:List Ag}(hka:kS≠a)(hk:s.heap.get? kS=some (seqObj "list" ks.toArray e))(ha:s.heap.get? a=some (seqObj "list" #[] e1))(hout:(arrOf st).map (·.2)=List.toArray out)(hz:out.length<=100000)(hkz:ks.length<=100000)(hf:failedOf st=none)
  (h:P (.done (.ret .none)) { s with heap:=(s.heap.update kS (Obj.mapSeq λ_=>(#[]:Array Ag))).update a (Obj.mapSeq λ_=>out.toArray) }):wpAny (model prog w) A (ksk_tail a false e1 (.ref kS) st) P E s:=by
 have ha2:(s.heap.update kS (Obj.mapSeq λ_=>(#[]:Array Ag))).get? a=some (seqObj "list" #[] e1):=by rw[bP _ _ _ _ (λz=>hka z.symm)];exact ha
 unfold ksk_tail
 try dsimp only
 rw[hout];refine ae (eN hk rfl ?_ (by rw[av,dH];lia) (aT _));refine ae (im ?_);refine ae (ik ha2 rfl ?_);refine ae (eN ha2 rfl ?_ (aT _) (by simp only[aI,bN];rw[av,dH];lia));rw[hf];simp only[eP,aI,bN];exact aj h
theorem wxk {s:Ab}{G:Ai->Prop}(hG:∀x,G x->∃n t,x.1=Value.int n t):Tm.yg (model prog w) A E s G (λx=>numOf x.1) oneType':=by rintro⟨x1,x2⟩ ⟨y1,y2⟩ st Q gx gy hk hQ;obtain⟨n,t,e1⟩:=hG _ gx;obtain⟨m,u,e2⟩:=hG _ gy;dsimp only at e1 e2;subst e1 e2;rw[lt'_eq];refine ax (gv ?_);rw[hk,keyLt'_oneType];refine ax (g8 (gu (oneLt_int ⟨rfl,?_⟩)));exact aB hQ
theorem xz2 {kz:List Int}{e e1:Nat}(hka:kS≠a)(hk:s.heap.get? kS=some (seqObj "list" ks.toArray e))(ha:s.heap.get? a=some (seqObj "list" #[] e1))(hl:ks.length=vs.length)(h64:vs.length<=100000)(t:IntsAre ks kz)(nd:kz.Pairwise (·≠·))
  (h:∀il,Stb kz vs.length il->P (.done (.ret .none)) { s with heap:=(s.heap.update kS (Obj.mapSeq λ_=>(#[]:Array Ag))).update a (Obj.mapSeq λ_=>(il.map λi=>vs.getD i Value.none).toArray) }) :
  wpAny (model prog w) A (ksk_end a false vs.toArray e1 (.ref kS) ks.toArray) P E s:=by
 have hkl:ks.length=kz.length:=Q4 t;have tt:IntsAre ks.toArray.toList kz:=t;unfold ksk_end
 try dsimp only
 simp only[aI,bN];by_cases h2:vs.toArray.size<2
 .rw[aw h2,aw h2];refine ae (aj ?_);have hv2:vs.length<2:=by simpa using h2
  refine ae (aj ?_);refine qu5 (out:=vs) hka hk ha ?_ h64 ⋯ rfl ?_
  .show(ks.toArray.zip vs.toArray).map (·.2)=vs.toArray;apply ee.mp;simp;rw[List.map_snd_zip ⋯]
  .have:=h (List.range vs.length) ⟨.refl _,by
    match vs,hv2 with
    |[],_=>exact .nil
    |[v],_=>exact b7 _ _⟩
   have e:((List.range vs.length).map λi=>vs.getD i Value.none)=vs:=by
    match vs,hv2 with
    |[],_=>rfl
    |[v],_=>rfl
   rw[e]at this;exact this
 .rw[ar h2,ar h2];have hv2:2<=vs.length:=by simpa using h2
  rw[ksk_kind tt (by rw[av];lia)];refine ae (aj ?_);have zl:(ks.toArray.zip vs.toArray).toList=ks.zip vs:=by rw[Array.toList_zip]
  have key:∀i x,(ks.zip vs)[i]?=some x->i<vs.length/\x.2=vs.getD i .none/\numOf x.1=kz.getD i 0/\∃n t,x.1=Value.int n t:=λi x ex=>by
   have hi:=(ak.mp ex).1;rw[List.length_zip]at hi;have h1:i<ks.length:=by lia
   have h3:i<vs.length:=by lia
   rw[List.getElem?_zip_eq_some]at ex;obtain⟨e1,e2⟩:=ex;refine⟨h3,by rw[af,e2];rfl,?_,t.all _ (aC e1)⟩;rw[<-t.nums,af,aA,e1];rfl
  have U:Tm.Un (λx:Ai=>numOf x.1) (λx=>∃n t,x.1=Value.int n t) (ks.toArray.zip vs.toArray):=by
   refine⟨?_,λx hx=>?_⟩
   .rw[zl];refine br.mpr λi j hi hj hij=>?_;obtain⟨a1,_,a3,_⟩:=key i _ (aa hi);obtain⟨b1,_,b3,_⟩:=key j _ (aa hj);rw[a3,b3,af,af,aa ⋯,aa ⋯];exact br.mp nd i j ⋯ ⋯ hij
   .rw[zl]at hx;obtain⟨i,ei⟩:=bS hx;exact(key i x ei).2.2.2
  refine ae (bi (Tm.Yg (Q:=λ_ st'=>(arrOf st').Perm (ks.toArray.zip vs.toArray)/\failedOf st'=none/\Tm.SL (λx:Ai=>numOf x.1) (arrOf st').toList) (st:=SortSt.mk' oneType' (ks.toArray.zip vs.toArray) #[] 7 none) (wxk λx hx=>hx) U rfl rfl rfl rfl λst' a1 a2 a3=>⟨a1,a2,a3⟩) ?_ λ_ _ e=>e);rintro⟨⟨⟩,st'⟩ s' ⟨rfl,b1,b2,b3⟩
  try dsimp only
  have pl:=dL.mp b1;rw[zl]at pl;obtain⟨il,p1,p2⟩:=xvq (d:=((.none,.none):Ai)) pl;have lz:(ks.zip vs).length=vs.length:=by rw[List.length_zip];lia
  rw[lz]at p1;have hin:∀i∈il,i<vs.length:=λi hi=>ay.mp (p1.mem_iff.mp hi);have at_:∀i,i<vs.length->(ks.zip vs)[i]?=some ((ks.zip vs).getD i (.none,.none)):=λi hi=>by rw[af,aa ⋯];rfl
  have e3:(arrOf st').map (·.2)=List.toArray (il.map λi=>vs.getD i .none):=by apply ee.mp;rw[Array.toList_map,p2,ba];exact da λi hi=>(key i _ (at_ i (hin i hi))).2.1
  have st:Stb kz vs.length il:=by refine⟨p1,?_⟩;rw[p2]at b3;unfold Tm.SL at b3;rw[cK]at b3;refine cP (λ{i j} hi hj hij=>.inl ?_) b3;have hij':numOf ((ks.zip vs).getD i (.none,.none)).1<numOf ((ks.zip vs).getD j (.none,.none)).1:=hij;rwa [(key i _ (at_ i (hin i hi))).2.2.1,(key j _ (at_ j (hin j hj))).2.2.1]at hij'
  refine qu5 hka hk ha e3 ?_ ⋯ b2 (h il st);rw[ag,p1.length_eq,aG];exact h64
theorem xq6 {J:List Ag->List Int->Ab->Prop}{e1:Nat}(hka:kS≠a)(h64:vs.length<=100000)
  (hJ:∀ks kz s,J ks kz s->(∃e,s.heap.get? kS=some (seqObj "list" ks.toArray e))/\s.heap.get? a=some (seqObj "list" #[] e1)/\IntsAre ks kz)
  (step:∀x ks kz (s:Ab),vs[ks.length]?=some x->J ks kz s->wpAny (model prog w) A (call f [x]) (λk s'=>(∃e,s'.heap.get? kS=some (seqObj "list" ks.toArray e))/\∃z,J (ks++[k]) (kz++[z]) { s' with heap:=s'.heap.update kS (Obj.mapSeq (·.push k)) }) (λ_ _=>False) s)
  (nd:∀ks kz (s:Ab),ks.length=vs.length->J ks kz s->kz.Pairwise (·≠·))
  (fin:∀ks kz (s:Ab),ks.length=vs.length->J ks kz s->∀il,Stb kz vs.length il ->
   P (.done (.ret .none)) { s with heap:=(s.heap.update kS (Obj.mapSeq λ_=>(#[]:Array Ag))).update a (Obj.mapSeq λ_=>(il.map λi=>vs.getD i Value.none).toArray) })
  (j:J [] [] s):wpAny (model prog w) A (ksk_rest a f false vs.toArray e1 (.ref kS)) P E s:=by
 unfold ksk_rest;refine ae (dg ?_)
 first
  |rw[List.forIn_toArray]
  |(rw[<-fJ];simp only[List.toList_toArray])
  |rw[<-fJ]
 refine ae (bi (wvq (vs:=vs) (J:=J) (λx ks kz s' hx j'=>?_) vs [] [] s (by simp) (aT _) j) (λ_ s' hd'=>?_) λ_ _ x=>x)
 .refine ae (gu (bi (step x ks kz s' hx j') (λk s'' hk=>?_) λ_ _ hF=>hF.elim));obtain⟨⟨e,he⟩,xs,j2⟩:=hk;have hz:ks.length<vs.length:=(ak.mp hx).1
  try dsimp only
  refine ae (eN he rfl ?_ (by rw[av,dH];lia) (bM (Nat.le_of_eq (Array.size_push ..)) (by rw[av,dH];lia)));exact aj ⟨rfl,k,xs,j2⟩
 .obtain⟨ks,kz,hl,j'⟩:=hd';obtain⟨⟨e,he⟩,h1,h2⟩:=hJ _ _ _ j'
  try dsimp only
  refine ae (listItems_at he rfl ?_);exact xz2 hka he h1 hl h64 h2 (nd ks kz s' hl j') (fin ks kz s' hl j')
theorem wus {J:Nat->List Ag->List Int->Ab->Prop}{n:Nat}(ho:s.heap.get? a=some (seqObj "list" vs.toArray n))(h64:vs.length<=100000)
  (hJ:∀e1 ks kz s',J e1 ks kz s'->(∃e,s'.heap.get? (s.heap.objs.size+1)=some (seqObj "list" ks.toArray e))/\s'.heap.get? a=some (seqObj "list" #[] e1)/\IntsAre ks kz)
  (step:∀e1 x ks kz (s':Ab),vs[ks.length]?=some x->J e1 ks kz s'->wpAny (model prog w) A (call f [x]) (λk s2=>(∃e,s2.heap.get? (s.heap.objs.size+1)=some (seqObj "list" ks.toArray e))/\∃z,J e1 (ks++[k]) (kz++[z]) { s2 with heap:=s2.heap.update (s.heap.objs.size+1) (Obj.mapSeq (·.push k)) }) (λ_ _=>False) s')
  (nd:∀e1 ks kz (s':Ab),ks.length=vs.length->J e1 ks kz s'->kz.Pairwise (·≠·))
  (fin:∀e1 ks kz (s':Ab),ks.length=vs.length->J e1 ks kz s'->∀il,Stb kz vs.length il ->
   P (.done (.ret .none)) { s' with heap:=(s'.heap.update (s.heap.objs.size+1) (Obj.mapSeq λ_=>(#[]:Array Ag))).update a (Obj.mapSeq λ_=>(il.map λi=>vs.getD i Value.none).toArray) })
  (j:∀e1,(Zp s.heap a vs).get? a=some (seqObj "list" #[] e1)->J e1 [] [] { s with heap:=Zp s.heap a vs }):wpAny (model prog w) A (ksk_tree a f false) P E s:=by
 have ha:a<s.heap.objs.size:=ao ho;obtain⟨e1,ho1⟩:∃e1,(s.heap.update a (Obj.mapSeq λ_=>(#[]:Array Ag))).get? a=some (seqObj "list" #[] e1):=⟨_,eL ho λ_=>#[]⟩;have hkS:((s.heap.update a (Obj.mapSeq λ_=>(#[]:Array Ag))).push (seqObj "tuple" vs.toArray 0)).objs.size=s.heap.objs.size+1:=by rw[size_push',iH]
 unfold ksk_tree;refine ae (listItems_at ho rfl ?_);refine ae (eN ho rfl ?_ (by rw[av,dH];lia) (aT _));refine ae (ik ho1 rfl ?_);refine ae (wpAny_newTuple ?_ (by show vs.length<=_;rw[dH];lia));refine ae (gz ?_ (aT _));refine cG ?_;show wpAny (model prog w) A (ksk_rest a f false vs.toArray e1 (.ref ((s.heap.update a (Obj.mapSeq λ_=>(#[]:Array Ag))).push (seqObj "tuple" vs.toArray 0)).objs.size)) P E { s with heap:=Zp s.heap a vs };rw[hkS];exact xq6 (J:=J e1) (eU (eQ ha)) h64 (hJ e1) (step e1) (nd e1) (fin e1) (j e1 (ai _ (ai _ ho1)))
end
section
variable {X:Cx}{pins:List (Aj×Obj)}{σ:St}{H:Hp}{s:Ab}
theorem qu3 {g p:Aj}{xs:List V}{kz:List Int}{Q:VK}(I:Inv X pins σ H s)(hS:SqL X.K H p xs)(h64:xs.length<=100000)(hnd:kz.Pairwise (·≠·))(hkz:kz.length=xs.length)
  (step:∀(pins':List (Aj×Obj)) (s':Ab) (i:Nat) (v:V) (u:Ag),Inv X pins' σ H s'->xs[i]?=some v->RelV v u ->
   wpAny (model X.prog X.w) X.A.in1.in1 (call (.ref g) [u]) (λr s2=>(∃t,r=.int (kz.getD i 0) t)/\Inv X pins' σ H s2) (λ_ _=>False) s')
  (q:∀l il,H l=none->Stb kz xs.length il->Q (.ref l) (upd H l (.lst (il.map λi=>xs.getD i .non)))) :
  wpAny (model X.prog X.w) X.A (call (.builtin "sorted") [.ref p] [(Str.ofString "key",.ref g)]) (EP X pins σ Q) X.xe s:=by
 obtain⟨its,rv,pl,hz⟩:=I.list hS;have hl:s.heap.IsList p its.toArray:=pl.isList;have hlen:its.length=xs.length:=rv.length.symm;refine call_function_entry_kw kind_sorted plain_sorted entry_sorted (ksk_s1 _ _) ?_;unfold Builtin.«sorted»;refine ae (m:=checkCount "sorted" 1 1 _) (aj ?_);refine ae (collect_list hl ?_ (by rw[dH];lia));refine ae (gz ?_ (by rw[dH];lia));have hsz:((s.heap.push (seqObj "list" #[] 0)).update s.heap.objs.size (Obj.mapSeq (·++its.toArray))).objs.size=s.heap.objs.size+1:=by rw[iH,size_push']
 have hoL:(((s.heap.push (seqObj "list" #[] 0)).update s.heap.objs.size (Obj.mapSeq (·++its.toArray))).push (seqObj "list" its.toArray 0)).get? (s.heap.objs.size+1)=some (seqObj "list" its.toArray 0):=by rw[<-hsz];exact aF _ rfl
 have keep:∀b o,s.heap.get? b=some o->(((s.heap.push (seqObj "list" #[] 0)).update s.heap.objs.size (Obj.mapSeq (·++its.toArray))).push (seqObj "list" its.toArray 0)).get? b=some o:=λb o q=>by have hlt:b<s.heap.objs.size:=ao q;rw[Heap.get?_push_ne _ _ _ (by rw[hsz];exact aE (eQ hlt)),bP _ _ _ _ (aE hlt),Heap.get?_push_ne _ _ _ (aE hlt)];exact q
 show wpAny _ _ _ _ _ { s with heap:=((s.heap.push (seqObj "list" #[] 0)).update s.heap.objs.size (Obj.mapSeq (·++its.toArray))).push (seqObj "list" its.toArray 0) };rw[hsz];generalize hh1:((s.heap.push (seqObj "list" #[] 0)).update s.heap.objs.size (Obj.mapSeq (·++its.toArray))).push (seqObj "list" its.toArray 0)=h1 at hoL keep ⊢;have hs1:h1.objs.size=s.heap.objs.size+2:=by rw[<-hh1,size_push',hsz]
 have fD:kv X pins H (s.heap.objs.size+1):=I.fpOk (iV _) (I.hok.fresh (iV _));have nK:H (h1.objs.size+1)=none:=I.hok.fresh (by rw[hs1];exact iG _ 3);have fK:kv X pins H (h1.objs.size+1):=I.fpOk (by rw[hs1];exact iG _ 3) nK;have nD:H (s.heap.objs.size+1)=none:=I.hok.fresh (iV _);have hne:(h1.objs.size+1:Nat)≠s.heap.objs.size+1:=by lia
 refine ae (cG (wpAny_call_entry_kw slot_list_sort ⟨_,hoL,rfl⟩ entry_list_sort ?body (ksk_l1 _ _)))
 case body =>
  show wpAny (model X.prog X.w) X.A.in1.in1 (Builtin.«list.sort» ⟨[.ref (s.heap.objs.size+1)],[(Str.ofString "key",.ref g)]⟩) _ _ { s with heap:=h1 };rw[ksk_t1];refine wus (s:={ s with heap:=h1 }) (J:=λe1 ks zs s'=>Inv X pins σ H s'/\s'.heap.get? (s.heap.objs.size+1)=some (seqObj "list" #[] e1) /\
   (∃e,s'.heap.get? (h1.objs.size+1)=some (seqObj "list" ks.toArray e))/\IntsAre ks zs/\zs=kz.take ks.length/\ks.length<=xs.length) hoL ⋯ ?_ ?_ ?_ ?_ ?_
  .rintro e1 ks zs s' ⟨I',g1,g2,ia,_,_⟩;exact⟨g2,g1,ia⟩
  .rintro e1 x ks zs s' hx ⟨I',g1,⟨e,g2⟩,ia,ek,lk⟩;have hi:ks.length<xs.length:=by have:=(ak.mp hx).1;lia
   obtain⟨u,eu,ru⟩:=rv.get (i:=ks.length) (aa hi);rw[hx]at eu;cases eu;have I2:Inv X ((s.heap.objs.size+1,seqObj "list" #[] e1)::(h1.objs.size+1,seqObj "list" ks.toArray e)::pins) σ H s':=I'.pins_of λp hp=>by
    rcases aM.mp hp with rfl|hp
    .exact⟨g1,nD,fD.2.1,fD.2.2.1,λv z=>by cases z⟩
    .rcases aM.mp hp with rfl|hp
     .exact⟨g2,nK,fK.2.1,fK.2.2.1,λv z=>by cases z⟩
     .exact I'.pin p (aN _ hp)
   refine bi (step _ s' ks.length _ x I2 (aa hi) ru) (λr s2 hq=>?_) λ_ _ h=>h;obtain⟨⟨t,rfl⟩,I3⟩:=hq;obtain⟨d1,d2,_⟩:=I3.pin (s.heap.objs.size+1,seqObj "list" #[] e1) (aN _ (.head _));obtain⟨k1,k2,_⟩:=I3.pin (h1.objs.size+1,seqObj "list" ks.toArray e) (aN _ (.tail _ (.head _)));have I4:Inv X pins σ H s2:=I3.pins_of λp hp=>I3.pin p (aN _ (.tail _ (.tail _ hp)));refine⟨⟨e,k1⟩,kz.getD ks.length 0,I4.turnedL (tk:=s2.toks) (ch:=[h1.objs.size+1]) (λb u hb e=>?_) (λb hb=>?_),?_,?_,ksk_snoc ia,?_,?_⟩
   .rw[bP _ _ _ _ (λz=>hb (by simp[z]))];exact e
   .obtain rfl:b=h1.objs.size+1:=by simpa using hb
    exact fK
   .show(s2.heap.update (h1.objs.size+1) _).get? (s.heap.objs.size+1)=_;rw[bP _ _ _ _ (λz=>hne z.symm)];exact d1
   .have ea:(List.toArray ks).push (Value.int (kz.getD ks.length 0) t)=List.toArray (ks++[Value.int (kz.getD ks.length 0) t]):=by simp
    exact⟨_,by rw[<-ea];exact eL k1 (·.push (Value.int (kz.getD ks.length 0) t))⟩
   .rw[ek,am,cN,dw,af,aa ⋯];rfl
   .rw[am,cN];lia
  .rintro e1 ks zs s' hks ⟨I',g1,⟨e,g2⟩,ia,ek,lk⟩;rw[ek,hks,hlen,<-hkz,bn];exact hnd
  .rintro e1 ks zs s' hks ⟨I',g1,⟨e,g2⟩,ia,ek,lk⟩ il hst;have ekk:zs=kz:=by rw[ek,hks,hlen,<-hkz,bn]
   rw[ekk,hlen]at hst;have hin:∀i∈il,i<xs.length:=λi hi=>ay.mp (hst.1.mem_iff.mp hi);have hk4:∀b u,b∉[h1.objs.size+1,s.heap.objs.size+1]->s'.heap.get? b=some u->((s'.heap.update (h1.objs.size+1) (Obj.mapSeq λ_=>(#[]:Array Ag))).update (s.heap.objs.size+1) (Obj.mapSeq λ_=>(il.map λi=>its.getD i Value.none).toArray)).get? b=some u:=λb u hb e=>by rw[bP _ _ _ _ (λz=>hb (by simp[z])),bP _ _ _ _ (λz=>hb (by simp[z]))];exact e
   have I5:=I'.turnedL (tk:=s'.toks) (ch:=[h1.objs.size+1,s.heap.objs.size+1]) hk4 λb hb=>by
    have hb':b=h1.objs.size+1\/b=s.heap.objs.size+1:=by simpa using hb
    rcases hb' with rfl|rfl
    .exact fK
    .exact fD
   have hg:(s'.heap.update (h1.objs.size+1) (Obj.mapSeq λ_=>(#[]:Array Ag))).get? (s.heap.objs.size+1)=some (seqObj "list" #[] e1):=by rw[bP _ _ _ _ (λz=>hne z.symm)];exact g1
   have outI:=qx2 rv il hin;have hlo:il.length=xs.length:=by have:=hst.1.length_eq;rw[aG]at this;lia
   refine⟨_,rfl,aj ⟨_,rfl,.ref (s.heap.objs.size+1),_,Inv.track (o:=.lst (il.map λi=>xs.getD i .non)) I5 fD ⟨?_,_,_,outI,eL hg λ_=>_⟩,rfl,q _ il nD hst⟩⟩;rw[ag,hlo,dH];lia
  .intro e1 g1;have kp:∀b o,b≠s.heap.objs.size+1->h1.get? b=some o->(Zp h1 (s.heap.objs.size+1) its).get? b=some o:=λb o hb e=>by unfold Zp;refine ai _ (ai _ ?_);rw[bP _ _ _ _ hb];exact e
   refine⟨I.kept (t':=s.toks) (λb u e=>kp b u (aE (eQ (ao e))) (keep b u e)),g1,⟨0,?_⟩,.nil,by simp,aT _⟩;have hkS:((h1.update (s.heap.objs.size+1) (Obj.mapSeq λ_=>(#[]:Array Ag))).push (seqObj "tuple" its.toArray 0)).objs.size=h1.objs.size+1:=by rw[size_push',iH]
   show(Zp h1 (s.heap.objs.size+1) its).get? (h1.objs.size+1)=_;unfold Zp;rw[<-hkS];exact aF _ rfl
end
section
variable {X:Cx}{x y:Str}{params:Arguments}{body:Expr}{scope:Scope}{cF:Aj}{qual:Str}{pm:Ag}{iy k:Nat}{t:TE}
theorem qyh (S:LamSc x y scope)(hr:Room (k+3) X.A)(hiy:X.N[iy]?=some y)(hky:X.env.kindOf y=some .cell)(hsy:X.env.scope.names.lookup y=some .cell)(hcF:X.env.cells.lookup y=some cF)
  (hb:∀(u ct:Ag) (c':Aj),bindArgs (kla_fn "<lambda>" qual params body scope [(y,cF)] pm (.ref c') ct) ⟨[u],[]⟩=pure [(x,u)])
  (hpe:∀(g c':Aj) (A:Ae) (outer:List Env) (s:Ab) (H:Hp) (E:XK),PE (wvw (CXE X.prog X.w) X.prog X.w X.K X.mg X.base [x,y] qual scope g (.ref c') [(y,cF)] A outer s H E) body t) :
  wvb X (.builtin "sorted") [Str.ofString "key"] (λσ xs zs H Q=>∃(p:Aj) (vs:List V) (kz:List Int) (g c':Aj) (ct:Ag) (vS:V),xs=[.ref p]/\zs=[.ref g]/\SqL X.K H p vs/\vs.length<=100000/\kz.Pairwise (·≠·)/\kz.length=vs.length /\
   H g=some (wqp g (kla_obj "<lambda>" qual params body scope [(y,cF)] pm c' ct))/\H c'=some (qvs qual c')/\σ[iy]?=some (some vS) /\
   (∀i v,vs[i]?=some v->t [some v,some vS] H λr H'=>r=.int (kz.getD i 0)/\H'=H) /\
   ∀l il,H l=none->Stb kz vs.length il->Q (.ref l) (upd H l (.lst (il.map λi=>vs.getD i .non)))):=by
 intro pins s σ H xs zs us ws Q I r rz h;obtain⟨p,vs,kz,g,c',ct,vS,rfl,rfl,hS,h64,hnd,hkz,hg,hc',hσ,ht,q⟩:=h;obtain⟨u,rfl,ru⟩:=jr r;cases(show u=Value.ref p from ru);obtain⟨v,rfl,rv⟩:=jr rz;cases(show v=Value.ref g from rv);refine qu3 I hS h64 hnd hkz (λpins' s' i v u I' hv rv=>?_) q;obtain⟨m,hns,hlook⟩:=I'.loc;obtain⟨uS,rS,lk⟩:=hlook iy y vS hiy hσ (.inr (.inl hsy));have hcell:s'.heap.IsCell cF (some uS):=by
  rcases lk with⟨z,_⟩|⟨_,c,e1,e2⟩
  .rw[hky]at z;cases z
  .rw[hcF]at e1;cases e1;exact e2
 refine wpAny_call (eV (xzu (k:=k) S hr.in1.in1 I'.env0.in1.in1 (I'.hok g _ hg).1 (I'.hok c' _ hc').1 (hb u ct c') hcell (I'.freeC y cF hcF) rv rS (hpe g c' _ _ _ _ E0) (ht i v hv)) λr s2 hq=>?_);cases r with
 |error e=>exact CXE.no hq
 |ok fl =>
  cases fl with
  |next=>exact False.elim hq
  |brk=>exact False.elim hq
  |cont=>exact False.elim hq
  |ret w =>
   obtain⟨v,H2,I3,rv3,rfl,rfl⟩:=I'.after hq;obtain⟨t,rfl⟩:=rv3;exact⟨⟨t,rfl⟩,I3⟩
end
end L2
namespace L2
open PySem PySem.Spec PyProof.Rows
theorem wkm (bs:List Bool):(List.range bs.length).any (λi=>bs.getD i false)=bs.any id:=by
 rw[dz,eX,eX];constructor
 .rintro⟨i,hi,h⟩;have hi':=ay.mp hi;rw[af,aa hi']at h;exact⟨bs[i],bJ hi',h⟩
 .rintro⟨b,hb,h⟩;obtain⟨i,hi,rfl⟩:=cZ hb;refine⟨i,ay.mpr hi,?_⟩;rw[af,aa hi];exact h
section
variable {X:Cx}{K:Aa}
theorem qz0 (hc:X.calm=true)(hK:X.K=K):jg X (.builtin "any") (λxs H Q=>∃(p:Aj) (bs:List Bool),xs=[.ref p]/\SqL K H p (bs.map V.bl)/\Q (.bl (bs.any id)) H):=by
 subst hK;intro pins s σ H xs us Q I r h;obtain⟨p,bs,rfl,hS,q⟩:=h;obtain⟨u,rfl,ru⟩:=jr r;cases(show u=Value.ref p from ru);obtain⟨its,rv,⟨o,n,e1,e2,e3,e4⟩,hz⟩:=I.list hS;have hits:=qwr rv;have hl:s.heap.IsList p its.toArray:=⟨o,e1,e2,n,e4⟩;have hlt:p<s.heap.objs.size:=ao e1;refine call_any_walk (fV hl ?_);refine⟨s.heap.objs.size,_,_,_,_,_,λi=>bs.getD i false,rfl,Walks.list (A:=X.A.in1) (I.ok.hd hc) _ p (aE hlt) its.toArray,⟨⟨_,aF _ rfl,rfl,rfl⟩,hl.push _⟩,λi v s' Q' E' hP hQ=>?_,λh' tk hk=>?_⟩
 .have hv:its[i]?=some v:=by simpa using hP
  rw[hits,aA]at hv;cases hb:bs[i]? with
  |none=>rw[hb]at hv;cases hv
  |some b =>
   rw[hb]at hv;have ev:Value.bool b=v:=aq hv;subst ev;refine dt ?_;have e2:bs.getD i false=b:=by rw[af,hb];rfl
   have hQ':Q' (bs.getD i false) s':=hQ;rw[e2]at hQ';exact hQ'
 .have hlen:its.toArray.size=bs.length:=by rw[hits];simp
  rw[hlen,wkm];refine⟨.bl _,H,I.kept λb ob e=>hk b ob (λhm=>?_) (ai _ e),rfl,q⟩;have z:b=s.heap.objs.size:=by simpa using hm
  exact be _ (z▸ao e)
end
end L2
namespace L2
open PySem PySem.Spec PySem.Calls PySem.W PyProof.Rows
section
variable {prog:Ac}{w:Ah}{A:Ae}{R:Result->Ab->Prop}{I:Aj}{fp wr:List Aj}{n:Nat}{P:Nat->Ag->Prop}{St:Nat->Heap->Prop}
def MxAt (P:Nat->Ag->Prop)(bt:Nat->Nat->Bool)(j:Nat)(old:Array Ag):Prop:=(j=0/\old=#[])\/∃i v,j=i+1/\old=#[v,v]/\P (argBest bt i) v
theorem xqw (W:Walks prog w A.in1 I fp wr n P St)(bt:Nat->Nat->Bool)(hcmp:CmpOf prog w A.in1 .Gt P bt)(S:Aj)(hSf:S∉fp)(d:Ag) :
  ∀(m j:Nat) (s:Ab) (old:Array Ag) (c:Nat),j+m=n->St j s.heap->s.heap.get? S=some ⟨.type "list",none,.seq old c,#[]⟩->MxAt P bt j old ->
   (∀v h' tk,(n=0/\v=d\/∃i,n=i+1/\P (argBest bt i) v)->(∀b o,b∉wr->b≠S->s.heap.get? b=some o->h'.get? b=some o)->R (.ok (.ret v)) { s with heap:=h',toks:=tk }) ->
   codeAny (model prog w) A (.builtin "max.loop" ⟨[.ref I,.none,.ref S],[("default",d)]⟩) R s:=by
 have hSw:S∉wr:=λh=>hSf (W.sub _ h);have hnm:(toString "max" ++ toString ".loop" : String) = "max.loop" := by decide
 intro m
 induction m with
 |zero =>
  intro j s old c hj st hS hat hR;obtain rfl:j=n:=hj;(refine gI F.entry_max_loop ?_ ;rw[gE eB _] ;show wpAny _ A.in1 (seqItems? (.ref S) >>= _) _ _ s ;refine ae (gY hS rfl ?_));(show wpAny _ A.in1 (tryCatch (pyNext (.ref I)) _ >>= _) _ _ s ;refine ae (wpAny_tryCatch (W.done s _ _ st λh' tk hk=>?_)));rcases hat with⟨rfl,rfl⟩|⟨i,v,rfl,rfl,hP⟩
  .exact ae (dg (aj (hR d h' tk (.inl ⟨rfl,rfl⟩) λb o hbw _ e=>hk b o hbw e)))
  .have hS':=hk S _ hSw hS;(show wpAny _ A.in1 (updateSeq S (λ_=>#[]) >>= _) _ _ _ ;refine ae ?_ ;refine iR hS' rfl (ae (im (aj ?_))));exact hR v _ tk (.inr ⟨i,rfl,hP⟩) λb o hbw hbS e=>(cW _ _ (dD hbS)).trans (hk b o hbw e)
 |succ m ih =>
  intro j s old c hj st hS hat hR;have hlt:j<n:=by lia
  (refine gI F.entry_max_loop ?_ ;rw[gE eB _] ;show wpAny _ A.in1 (seqItems? (.ref S) >>= _) _ _ s ;refine ae (gY hS rfl ?_));(show wpAny _ A.in1 (tryCatch (pyNext (.ref I)) _ >>= _) _ _ s ;refine ae (wpAny_tryCatch (W.item j s _ _ hlt st λv h' tk hP st' hk=>?_)));have hS':=hk S _ hSw hS;have fr:∀(h2:Heap),(∀b o,b≠S->h'.get? b=some o->h2.get? b=some o)->St (j+1) h2:=λh2 k=>W.frame _ _ _ st' λb hbf o e=>k b o (λz=>hSf (by rw[<-z];exact hbf)) e;rcases hat with⟨rfl,rfl⟩|⟨i,vb,rfl,rfl,hPb⟩
  ·(show wpAny _ A.in1 (updateSeq S (λ_=>#[v,v]) >>= _) _ _ _ ;refine ae ?_ ;refine iR hS' rfl ?_ ;rw[hnm]);refine aj ⟨iv eB _,ih (0+1) _ _ _ ⋯ (fr _ λb o hb e=>(cW _ _ (dD hb)).trans e) (dP _ hS' rfl) (.inr ⟨0,v,rfl,rfl,hP⟩) λv' h'' tk' hv hk'=>?_⟩;exact hR v' h'' tk' hv λb o hbw hbS e=>hk' b o hbw hbS ((cW _ _ (dD hbS)).trans (hk b o hbw e))
  ·(show wpAny _ A.in1 (tryCatch (holding [v,v] (richCompare .Gt v vb >>= _)) _ >>= _) _ _ _ ;refine ae (wpAny_tryCatch (cG (ae (hcmp (i+1) (argBest bt i) v vb _ _ _ hP hPb ?_)))));(refine ae (cG (dt ?_)) ;refine ae (im (aj ?_)));cases hb:bt (i+1) (argBest bt i) with
   |true =>
    (simp only[db] ;refine ae ?_ ;refine iR hS' rfl (ae (im ?_)) ;rw[hnm])
    refine aj ⟨iv eB _,ih (i+1+1) _ _ _ ⋯ (fr _ λb o hb e=>(cW _ _ (dD hb)).trans e) (dP _ hS' rfl) (.inr ⟨i+1,v,rfl,rfl,by simp only[argBest,hb,db];exact hP⟩) λv' h'' tk' hv hk'=>?_⟩;exact hR v' h'' tk' hv λb o hbw hbS e=>hk' b o hbw hbS ((cW _ _ (dD hbS)).trans (hk b o hbw e))
   |false =>
    (simp only[aI,bN] ;refine ae (im ?_) ;rw[hnm])
    refine aj ⟨iv eB _,ih (i+1+1) _ _ _ ⋯ st' hS' (.inr ⟨i+1,vb,rfl,rfl,by simp only[argBest,hb,aI,bN];exact hPb⟩) λv' h'' tk' hv hk'=>?_⟩;exact hR v' h'' tk' hv λb o hbw hbS e=>hk' b o hbw hbS (hk b o hbw e)
end
theorem wyg (a d:Ag):argsOk "max" ⟨[a],[(Str.ofString "default",d)]⟩:=by unfold argsOk;kernel_rfl
section
variable {prog:Ac}{w:Ah}{A:Ae}{E:Ag->Ab->Prop}{s:Ab}
theorem qjg {id:String}{b:Builtin}{args:List Ag}{kw:List (Str×Ag)}{Q:Ag->Ab->Prop}(hk:builtinKind id=none)(hp:plainId id=true)(hb:entryFor table id=some b)(ha:argsOk id ⟨args,kw⟩)
  (hc:wpAny (model prog w) A.in1 (b ⟨args,kw⟩) (λfin s'=>match fin with
   |.done f=>(match (Except.ok f:Result) with|.ok (.ret v)=>Q v s'|.ok _=>False|.error e=>E e s')
   |.again c'=>c'.quiet=true/\codeAny (model prog w) A c' (λr s'=>match r with|.ok (.ret v)=>Q v s'|.ok _=>False|.error e=>E e s') s') E s) :
  wpAny (model prog w) A (call (.builtin id) args kw) Q E s:=by
 refine wpAny_call (codeAny_call_builtin hp hb ?_);simp only[checkBuiltinCall,hk];cases g:Manifest.signature? id with
 |none=>exact aj hc
 |some sig =>
  have a2:Bind.checkArgs id sig ⟨args,kw⟩=pure ():=by simpa only [argsOk,g] using ha
  (simp only[a2] ;exact aj hc)
end
section
variable {X:Cx}
theorem wkt (hc:X.calm=true):wun X (.builtin "max") [Str.ofString "default"] (λxs zs H Q=>∃(p:Aj) (ns:List Int) (d:Int),xs=[.ref p]/\zs=[.int d]/\SqL X.K H p (ns.map V.int) /\
  ∀m,(∀a∈ns,a<=m)->(m∈ns\/(ns=[]/\m=d))->Q (.int m) H):=by
 intro pins s σ H xs zs us ws Q I r rz h;obtain⟨p,ns,d,rfl,rfl,hS,q⟩:=h;obtain⟨u,rfl,ru⟩:=jr r;cases(show u=Value.ref p from ru);obtain⟨v,rfl,tv,rfl⟩:=jr rz;obtain⟨ts,hl,he⟩:=Y0 I hS;have hsz:ts.size=ns.length:=by rw[he,ag,bf]
 have hnm:(toString "max" ++ toString ".loop" : String) = "max.loop" := by decide
 show wpAny _ _ (call (.builtin "max") [.ref p] [(Str.ofString "default",.int d tv)]) _ _ _;refine qjg F.kind_max F.plain_max F.entry_max (wyg _ _) ?_;(show wpAny _ X.A.in1 (Builtin.Builtins.bindParams "max" ["key","default"] 0 ⟨[],[(Str.ofString "default",.int d tv)]⟩ >>= _) _ _ s ;refine ae (wpAny_of_eq (show Builtin.Builtins.bindParams "max" ["key","default"] 0 ⟨[],[(Str.ofString "default",.int d tv)]⟩=pure [none,some (.int d tv)] from rfl) ?_));(refine ae (aj ?_) ;refine ae (iter_intList hl λs₂ e st hfp hlI=>?_) ;subst e ;refine ae (cT ?_));have W:=Walks.list (A:=X.A.in1) (prog:=X.prog) (w:=X.w) (I.ok.hd hc) _ p hlI (intItems ts);have hSf:(s.heap.push { cls:=.type "list_iterator",data:=.fields #[.ref p,.int 0 0] }).objs.size∉[s.heap.objs.size,p]:=λhm=>be _ (hfp _ hm);rw[hnm];refine aj ⟨iv eB _,xqw W _ (CmpOf.ints_gt (numAt ts) λ_ _=>iW) _ hSf (.int d tv) _ 0 _ #[] _ (cx _) (W.frame _ _ _ st λb _ o e=>ai _ e) (aF _ rfl) (.inl ⟨rfl,rfl⟩) λv h' tk hv hk=>?_⟩;have keep:∀b o,s.heap.get? b=some o->h'.get? b=some o:=λb o e=>by
  have hb:b<s.heap.objs.size:=ao e;refine hk b o (λz=>?_) (aE ?_) (ai _ (ai _ e))
  .obtain rfl:=aH.mp z;exact be _ hb
  .rw[cU];exact eQ hb
 have zi:(intItems ts).size=ts.size:=by simp[intItems]
 rcases hv with⟨h0,rfl⟩|⟨i,hi,hP⟩
 .have e0:ns=[]:=iI.mp ⋯;exact⟨.int d,H,I.kept keep,⟨tv,rfl⟩,q d (λa ha=>by rw[e0]at ha;cases ha) (.inr ⟨e0,rfl⟩)⟩
 .obtain⟨t,rfl⟩:=iW hP;obtain⟨b1,b2⟩:=argBest_gt (numAt ts) i;refine⟨.int _,H,I.kept keep,⟨t,rfl⟩,q _ (λa ha=>?_) (.inl ?_)⟩
  .rw[he]at ha;obtain⟨j,hj,rfl⟩:=mem_getD ha;rw[<-he,<-hsz]at hj;rw[<-iX];exact b2 j ⋯
  .rw[he,iX];refine getD_mem ?_;rw[<-he,<-hsz];lia
end
end L2
namespace L2
open PySem PySem.Spec PySem.Calls PySem.W PyProof.Rows
structure FunT (K:Aa)(x:Str)(st:Stmt)(c f:Aj)(fd:Ad):Prop where
 F:Fun K x x st f fd
 code:fd.code=.ref c
section
variable {P:Ac}{w:Ah}{K:Aa}{mg:Str->Option Ag}{base:Heap}{x:Str}{st:Stmt}{c:Aj}
theorem FunT.okX {f:Aj}{fd:Ad}{N ps:List Str}{k:Nat}{sp:Sp}(F:FunT K x st c f fd)(S:FnScope N ps (ww st))(len:∀vs H Q E,sp vs H Q E->vs.length=ps.length)
  (body:∀(A:Ae) (outer:List Env) (s:Ab) (H:Hp) (vs:List V) (Q:VK) (E:XK),Room k (A.deeper (envOfC x (ww st) s.heap.objs.size f (.ref c)))->sp vs H Q E ->
   ∃t,PSs (qz4 (CXE P w) P w K mg base N x (ww st) f (.ref c) A outer s H E) (vz st) t/\t { nx:=λ_ H'=>Q .non H',rt:=Q } (Zx N vs) H):FnOk P w K mg base (CXE P w) (k+1) f fd ps sp:=by
 obtain⟨oc,od,kV,doc,pm,an,cdv,ct,osl,rfl,lk,hcd⟩:=F.F.ex;obtain rfl:cdv=.ref c:=F.code;exact xqx lk hcd S len λA outer s H vs Q E hr hsp=>body A outer s H vs Q E hr hsp
structure DefInT (K:Aa)(x:Str)(st:Stmt)(c:Aj):Prop where
 ex:∃f fd,W.nsIn K mainGlobals x=some (some (.ref f))/\FunT K x st c f fd
theorem xzh {f:Aj}{oc:Ag}{od an:Option Aj}{osl:Array (Option Ag)}{kV doc pm ct:Ag}(a:W.nsIn K mainGlobals x=some (some (.ref f)))
  (l:K.lookup f=some ⟨oc,od,.func (W.fnOf x x (ku st) (vz st) (ww st) .none kV doc pm an (.ref c) ct),osl⟩) (cc:W.codeIn K (.ref c) x=true) (k:W.keepIn K (.ref f)=true):DefInT K x st c:=⟨_,_,a,wx3 l cc k,rfl⟩
theorem DefInT.cal {ps:List Str}{k:Nat}{sp:Sp}{h:Heap}(d:DefInT K x st c)(KX:K.In h)(G:h.Ns mainGlobals mg)(b:xm x st ps)(ok:∀f fd,FunT K x st c f fd->FnOk P w K mg base (CXE P w) k f fd ps sp):Cal P w K mg base x k sp:=by obtain⟨f,fd,a,F⟩:=d.ex;exact⟨f,fd,ps,b9 KX G a,ok f fd F,F.F.kp,F.F.binds b⟩
end
end L2
namespace L2
open PySem PySem.Spec PyProof.Rows
theorem ww2 {K:Aa}{M:List Nat}{a:Aj}{xs:List V}{te:TE}{σ:St}{H:Hp}{Q:VK}(G:Nat->V->Hp->Prop)(gs:StayT G)(hS:SqL K H a xs)(hn:xs.length<=1000000)
  (he:∀(i:Nat) (x:V) (H':Hp) (R:VK),xs[i]?=some x->Same H H'->(∀v H'',Same H' H''->G i v H''->R v H'')->te (zf M σ (some x)) H' R)
  (k:∀p ys H',H p=none->Same H H'->H' p=some (.lst ys)->ys.length=xs.length->(∀j v,ys[j]?=some v->G j v H')->Q (.ref p) H'):Wb (Itl K a) M te σ H Q:=by
 intro p np;have big:(1000000:Nat)<sizeLine:=by decide
 refine⟨λi m ys H2=>i<=xs.length/\m=xs.length-i/\ys.length=i/\Same H H2/\H2 p=some (.lst ys)/\∀j v,ys[j]?=some v->G j v H2,⟨xs.length,aT _,rfl,rfl,Same.upd np,qf,λj v e=>by cases e⟩,?_⟩;rintro i m ys H2 ⟨hi,rfl,hl,sm,hp,hG⟩;have hS':SqL K H2 a xs:=Same.sql sm hS;refine⟨hp,⋯,?_⟩;by_cases hlt:i<xs.length
 .have hx:xs[i]?=some xs[i]:=aa hlt;refine .inr ⟨⟨xs,_,hS',hx⟩,?_⟩;rintro v H3 ⟨rfl,hv⟩;have e0:=hv xs hS';rw[hx]at e0;have e':=aq e0;subst e';clear e0;refine he i _ _ _ hx sm λw H4 s4 g4=>?_;have hp4:=s4 _ _ hp;have st:∀b o,(∀xs,o≠.lst xs)->H4 b=some o->upd H4 p (.lst (ys++[w])) b=some o:=λb o no e=>by
   rw[q8]
   .exact e
   .intro z;rw[z,hp4]at e;exact no _ (aq e).symm
  refine⟨hp4,xs.length-(i+1),⋯,⋯,rfl,by rw[am,hl];rfl,λb o e=>?_,qf,λj v e=>?_⟩
  .rw[q8 (wx e np)];exact s4 _ _ (sm _ _ e)
  .rcases bo j ys.length with z|z
   .rw[aP z]at e;exact gs j v _ _ (hG j v e) λb o no e=>st b o no (s4 _ _ e)
   .rw[az z]at e;have hj:j=i:=by
     rcases bo (j-ys.length) 1 with y|y
     .lia
     .rw[aR (by simpa using y)]at e;cases e
    subst hj;rw[show j-ys.length=0 by lia]at e;cases e;exact gs j _ _ _ g4 st
 .have:i=xs.length:=by lia
  subst this;exact .inl ⟨⟨xs,hS',al _⟩,k p ys H2 np sm hp hl hG⟩
theorem xzm {X:Cx}{K:Aa}(hK:X.K=K)(hu:X.A.units+64<cLine):OpR X (compareOp .Eq) (rEqD K false):=by subst hK;exact qw9 hu
theorem wud {X:Cx}{P:Ac}{w:Ah}(hP:X.prog=P)(hw:X.w=w)(hu:X.A.units+64<cLine):Z1 X (addT P w):=by subst hP hw;exact xv5 hu
theorem xww {X:Cx}{P:Ac}{w:Ah}(hP:X.prog=P)(hw:X.w=w):Z1 X (addI P w):=by subst hP hw;exact xvt
end L2
namespace L2
open PySem PySem.Spec PyProof.Rows
def PtV (H:Hp)(v:V)(p:Int×Int):Prop:=∃a,v=.ref a/\H a=some (.tup [.int p.1,.int p.2])
def ww8 (H:Hp)(q:Int×Int):Ag->Bool
 |.ref a=>match H a with
  |some (.tup [.int x,.int y])=>decide ((x,y)=q)
  |_=>false
 |_=>false
theorem wv8 {H:Hp}{q p:Int×Int}{a:Aj}(h:H a=some (.tup [.int p.1,.int p.2])):ww8 H q (.ref a)=decide (p=q):=by simp only[ww8,h]
theorem xzn {X:Cx}{pins:List (Aj×Obj)}{σ:St}{H:Hp}{s:Ab}{A:Ae}(I:Inv X pins σ H s)(hu:A.units<cLine){a b:Aj}{p q:Int×Int}(ha:H a=some (.tup [.int p.1,.int p.2]))(hb:H b=some (.tup [.int q.1,.int q.2])):SeqAt.EqAt A s (.ref a) (.ref b) (decide (p=q)):=by
 by_cases e:a=b
 .subst e;rw[ha]at hb;have:p=q:=by
   injection hb with hb
   injection hb with hb
   injection hb with h1 h2
   injection h2 with h2 _
   injection h1 with h1
   injection h2 with h2
   exact iU h1 h2
  rw[aS this];exact SeqAt.EqAt.same _
 .refine SeqAt.EqAt.of_refs e ?_;obtain⟨its,r1,t1,_⟩:=I.tuple (SqT.of (K:=X.K) ha);obtain⟨its2,r2,t2,_⟩:=I.tuple (SqT.of (K:=X.K) hb);obtain⟨u1,u2,rfl,⟨k1,rfl⟩,⟨k2,rfl⟩⟩:=r1.two;obtain⟨w1,w2,rfl,⟨m1,rfl⟩,⟨m2,rfl⟩⟩:=r2.two;have h:=SeqAt.RcAt.tuples (A:=A) (s:=s) (e:=λj=>if j=0 then p.1==q.1 else p.2==q.2) (show s.heap.IsTuple a _ from t1) (show s.heap.IsTuple b _ from t2) hu λj h1 h2=>by
   have hj:j<2:=by simpa using h1
   rcases(by lia:j=0\/j=1) with z|z
   .subst z;exact SeqAt.EqAt.int_int _ _ _ _
   .subst z;exact SeqAt.EqAt.int_int _ _ _ _
  have e2:((List.range (min [Value.int p.1 k1,Value.int p.2 k2].toArray.size [Value.int q.1 m1,Value.int q.2 m2].toArray.size)).all (λj=>if j=0 then p.1==q.1 else p.2==q.2)&&[Value.int p.1 k1,Value.int p.2 k2].toArray.size==[Value.int q.1 m1,Value.int q.2 m2].toArray.size)=decide (p=q):=by rw[dz];simp[bL,Prod.ext_iff]
  rw[e2]at h;exact h
section
variable {X:Cx}{pins:List (Aj×Obj)}{σ:St}{H:Hp}{s:Ab}
theorem qy9 {q:Int×Int}:∀ {vs:List V} {ps:List (Int×Int)} {us:List Ag},Paired (PtV H) vs ps->Vals vs us->us.any (ww8 H q)=decide (q∈ps)
 |_,_,_,.nil,.nil=>by simp
 |_,p::ps,_,.cons h t,.cons r rs=>by obtain⟨a,rfl,ha⟩:=h;cases r;rw[List.any_cons,qy9 t rs,wv8 ha,dz];simp only[Bool.or_eq_true,decide_eq_true_eq,aM];exact⟨λz=>z.elim (λy=>.inl y.symm) .inr,λz=>z.elim (λy=>.inl y.symm) .inr⟩
theorem wqr (I:Inv X pins σ H s){A:Ae}(hu:A.units<cLine){b:Aj}{q:Int×Int}(hb:H b=some (.tup [.int q.1,.int q.2])):∀ {vs:List V} {ps:List (Int×Int)} {us:List Ag},Paired (PtV H) vs ps->Vals vs us->∀u∈us,SeqAt.EqAt A s u (.ref b) (ww8 H q u)
 |_,_,_,.nil,.nil,u,hu'=>by cases hu'
 |_,_,_,.cons h t,.cons r rs,u,hu'=>by
  obtain⟨a,rfl,ha⟩:=h;cases r;rcases aM.mp hu' with rfl|hu'
  .rw[wv8 ha];exact xzn I hu ha hb
  .exact wqr I hu hb t rs u hu'
def xzk:R2:=λx y H Q=>∃l b vs ps q,x=.ref b/\y=.ref l/\H l=some (.lst vs)/\Paired (PtV H) vs ps/\H b=some (.tup [.int q.1,.int q.2])/\Q (.bl (!decide (q∈ps))) H
theorem wjf (hu:X.A.units+64<cLine):OpR X (compareOp .NotIn) xzk:=by intro pins s σ H x y v u Q I rx ry h;obtain⟨l,b,vs,ps,q,rfl,rfl,hl,hp,hb,k⟩:=h;cases rx;cases ry;obtain⟨its,r,pl,hz⟩:=I.list (SqL.of (K:=X.K) hl);refine SeqAt.notIn_listAt (ww8 H q) pl.isList (λw hw=>wqr I (A:=X.A.in1) (by show X.A.units+1<cLine;lia) hb hp r w (by simpa using hw)) ⟨.bl _,H,I,rfl,?_⟩;rw[show its.toArray.any (ww8 H q)=its.any (ww8 H q) by simp,qy9 hp r];exact k
end
end L2
namespace My
open PySem L2
def top (i:Nat):Stmt:=PySem.Challenge.pw_crookroad_k22_whole_who_is_back.main.body.getD i (.Pass ⟨0,0,0,0⟩)
abbrev zai:Stmt:=top 9
theorem _root_.aU7 (h:True:=by decide +kernel):True:=h
theorem scA{N P:List Str}{c:Scope}(a:autoParam (c.kind=.function) aU4._auto_1)(b:autoParam (c.isCoroutine=false) aU4._auto_1)(d:autoParam (c.isGenerator=false) aU4._auto_1)(e:autoParam (N.Nodup) aU7._auto_1)(f:autoParam (N.take P.length=P) aU4._auto_1)(g:autoParam (∀x∈P,c.names.lookup x=some .local\/c.names.lookup x=some .cell) aU7._auto_1)(h:autoParam (∀y∈c.names,y.2≠.free) aU7._auto_1):FnScope N P c:=⟨a,b,d,e,f,g,h⟩
theorem qxb:FnScope ["number","fewest","most"] ["number","fewest","most"] (ww zai):=scA
theorem qx0:Yj "check_count" zai ["number","fewest","most"] []:=λ_ _ _ _ _ _ _ u h=>match u,h with|[_,_,_],_=>exI rfl rfl
theorem qxc:Yj "check_count" zai ["number","fewest","most"] [.none]:=λ_ _ _ _ _ _ _ us hl=>by
 have h2:us.length=2:=by simpa using hl
 match us,h2 with
 |[_,_],_=>exact exI rfl rfl
abbrev zaq:Stmt:=top 13
theorem wwr:FnScope ["road","stretch","lesser","greater"] ["road","stretch"] (ww zaq):=scA
theorem wwc:xm "covered" zaq ["road","stretch"]:=λ_ _ _ _ _ _ _ h=>bA2 h λ_ _=>rfl
abbrev zar:Stmt:=top 14
theorem qks:FnScope ["road"] ["road"] (ww zar):=scA
theorem qkn:xm "covers_of" zar ["road"]:=λ_ _ _ _ _ _ _ h=>bA1 h λ_=>rfl
abbrev zas:Stmt:=top 15
theorem Zg:FnScope ["width"] ["width"] (ww zas):=scA
theorem Zh:xm "ways_of_no_step" zas ["width"]:=λ_ _ _ _ _ _ _ h=>bA1 h λ_=>rfl
abbrev zat:Stmt:=top 16
theorem Jy:FnScope ["covers","table"] ["covers","table"] (ww zat):=scA
theorem qqz:xm "one_step_more" zat ["covers","table"]:=λ_ _ _ _ _ _ _ h=>bA2 h λ_ _=>rfl
abbrev zau:Stmt:=top 17
theorem qvx:FnScope ["road","many","covers","tables"] ["road","many"] (ww zau):=scA
theorem qzr:xm "ways_up_to" zau ["road","many"]:=λ_ _ _ _ _ _ _ h=>bA2 h λ_ _=>rfl
abbrev zav:Stmt:=top 18
theorem qjk:FnScope ["first","covers","tables","many","begun","left"] ["first","covers","tables"] (ww zav):=scA
theorem qys:xm "rows_from" zav ["first","covers","tables"]:=λ_ _ _ _ _ _ _ h=>bA3 h λ_ _ _=>rfl
abbrev zaw:Stmt:=top 19
theorem xx1:FnScope ["road","many","tables","covers","closed","first"] ["road","many"] (ww zaw):=scA
theorem xz1:xm "rows" zaw ["road","many"]:=λ_ _ _ _ _ _ _ h=>bA2 h λ_ _=>rfl
abbrev zax:Stmt:=top 21
theorem qqn:FnScope ["bottom"] ["bottom"] (ww zax):=scA
theorem qq5:xm "check_bottom" zax ["bottom"]:=λ_ _ _ _ _ _ _ h=>bA1 h λ_=>rfl
abbrev zay:Stmt:=top 22
theorem Z6:FnScope ["one","other"] ["one","other"] (ww zay):=scA
theorem Yk:xm "common_divisor" zay ["one","other"]:=λ_ _ _ _ _ _ _ h=>bA2 h λ_ _=>rfl
abbrev zaz:Stmt:=top 23
theorem wkr:FnScope ["top","bottom","divisor"] ["top","bottom"] (ww zaz):=scA
theorem wjt:xm "lowest" zaz ["top","bottom"]:=λ_ _ _ _ _ _ _ h=>bA2 h λ_ _=>rfl
abbrev zaj:Stmt:=top 24
theorem wwu:FnScope ["points","point","greatest","scale"] ["points"] (ww zaj):=scA
theorem wxj:xm "ordered" zaj ["points"]:=λ_ _ _ _ _ _ _ h=>bA1 h λ_=>rfl
abbrev za0:Stmt:=top 27
theorem wk9:FnScope ["road","point","many","here","points"] ["road","point","many"] (ww za0):=scA
theorem wj9:xm "walked" za0 ["road","point","many"]:=λ_ _ _ _ _ _ _ h=>bA3 h λ_ _ _=>rfl
abbrev za1:Stmt:=top 29
theorem qvv:FnScope ["road","row","steep","height","stretch","slope","left"] ["road","row"] (ww za1):=scA
theorem qvn:xm "line_along" za1 ["road","row"]:=λ_ _ _ _ _ _ _ h=>bA2 h λ_ _=>rfl
abbrev za2:Stmt:=top 30
theorem qzc:FnScope ["road","row","steep","height"] ["road","row"] (ww za2):=scA
theorem qw6:xm "fixed_point" za2 ["road","row"]:=λ_ _ _ _ _ _ _ h=>bA2 h λ_ _=>rfl
abbrev za3:Stmt:=top 31
theorem qqm:FnScope ["road","many","corners"] ["road","many"] (ww za3):=scA
theorem qqt:xm "corners_back" za3 ["road","many"]:=λ_ _ _ _ _ _ _ h=>bA2 h λ_ _=>rfl
abbrev za4:Stmt:=top 32
theorem wzu:FnScope ["point","stretches","top","bottom"] ["point","stretches"] (ww za4):=scA
theorem ww3:xm "lies_in" za4 ["point","stretches"]:=λ_ _ _ _ _ _ _ h=>bA2 h λ_ _=>rfl
abbrev za5:Stmt:=top 33
theorem xxr:FnScope ["road","many","closed","fixed","wholes","single","points"] ["road","many"] (ww za5):=scA
theorem xz9:xm "back" za5 ["road","many"]:=λ_ _ _ _ _ _ _ h=>bA2 h λ_ _=>rfl
abbrev za6:Stmt:=top 36
theorem wzd:FnScope ["heights","width"] ["heights"] (ww za6):=scA
theorem wwm:xm "is_line" za6 ["heights"]:=λ_ _ _ _ _ _ _ h=>bA1 h λ_=>rfl
abbrev za7:Stmt:=ym (top 37) 0
theorem Y5:FnScope ["self","heights"] ["self","heights"] (ww za7):=scA
theorem Jt:jc "__init__" "Road.__init__" za7 ["self","heights"]:=λ_ _ _ _ _ _ _ h=>bA2 h λ_ _=>rfl
abbrev za8:Stmt:=ym (top 37) 1
theorem qvu:FnScope ["self"] ["self"] (ww za8):=scA
theorem qvg:jc "width" "Road.width" za8 ["self"]:=λ_ _ _ _ _ _ _ h=>bA1 h λ_=>rfl
abbrev za9:Stmt:=ym (top 37) 2
theorem qq4:FnScope ["self"] ["self"] (ww za9):=scA
theorem qq0:jc "corners" "Road.corners" za9 ["self"]:=λ_ _ _ _ _ _ _ h=>bA1 h λ_=>rfl
abbrev zba:Stmt:=ym (top 37) 3
theorem qyn:FnScope ["self","stretch"] ["self","stretch"] (ww zba):=scA
theorem qk5:jc "ends" "Road.ends" zba ["self","stretch"]:=λ_ _ _ _ _ _ _ h=>bA2 h λ_ _=>rfl
abbrev zbb:Stmt:=ym (top 37) 4
theorem qvk:FnScope ["self","stretch","left","right"] ["self","stretch"] (ww zbb):=scA
theorem qvr:jc "slope" "Road.slope" zbb ["self","stretch"]:=λ_ _ _ _ _ _ _ h=>bA2 h λ_ _=>rfl
abbrev zbc:Stmt:=ym (top 37) 5
theorem qvp:FnScope ["self","stretch","left","right"] ["self","stretch"] (ww zbc):=scA
theorem qzp:jc "reach" "Road.reach" zbc ["self","stretch"]:=λ_ _ _ _ _ _ _ h=>bA2 h λ_ _=>rfl
abbrev zbd:Stmt:=ym (top 37) 6
theorem qqr:FnScope ["self","point","top","bottom"] ["self","point"] (ww zbd):=scA
theorem qqg:jc "on_road" "Road.on_road" zbd ["self","point"]:=λ_ _ _ _ _ _ _ h=>bA2 h λ_ _=>rfl
abbrev zbe:Stmt:=ym (top 37) 7
theorem wx6:FnScope ["self","point","top","bottom","stretch","left","right","beyond"] ["self","point"] (ww zbe):=scA
theorem wwd:jc "at" "Road.at" zbe ["self","point"]:=λ_ _ _ _ _ _ _ h=>bA2 h λ_ _=>rfl
abbrev zbf:Stmt:=top 39
theorem qyd:FnScope ["_law_script","_law_at"] ["_law_script","_law_at"] (ww zbf):=scA
theorem qyx:xm "_law_cell" zbf ["_law_script","_law_at"]:=λ_ _ _ _ _ _ _ h=>bA2 h λ_ _=>rfl
abbrev zbg:Stmt:=top 40
theorem qk2:FnScope ["_law_script","_law_at","_law_turn","_law_many","_law_cell_here","_law_left","_law_k","_law_low_here","_law_one","_law_two"] ["_law_script","_law_at","_law_turn","_law_many"] (ww zbg):=scA
theorem qkt:xm "_law_pick" zbg ["_law_script","_law_at","_law_turn","_law_many"]:=λ_ _ _ _ _ _ _ h=>bA4 h λ_ _ _ _=>rfl
abbrev zbh:Stmt:=top 41
theorem qvy:FnScope ["_law_script","_law_at","_law_wide","_law_row","_law_k"] ["_law_script","_law_at","_law_wide"] (ww zbh):=scA
theorem qvd:xm "_law_climb" zbh ["_law_script","_law_at","_law_wide"]:=λ_ _ _ _ _ _ _ h=>bA3 h λ_ _ _=>rfl
abbrev zbi:Stmt:=top 42
theorem qq2:FnScope ["_law_script","_law_at","_law_most","_law_wide","_law_kind"] ["_law_script","_law_at","_law_most"] (ww zbi):=scA
theorem qqh:xm "_law_heights" zbi ["_law_script","_law_at","_law_most"]:=λ_ _ _ _ _ _ _ h=>bA3 h λ_ _ _=>rfl
abbrev zbj:Stmt:=top 43
theorem qwg:FnScope ["_law_heights_here","_law_most","_law_wide","_law_found","_law_made","_law_turn","_law_fresh","_law_k","_law_low_here"] ["_law_heights_here","_law_most"] (ww zbj):=scA
theorem qwm:xm "_law_crowds" zbj ["_law_heights_here","_law_most"]:=λ_ _ _ _ _ _ _ h=>bA2 h λ_ _=>rfl
abbrev zbk:Stmt:=top 44
theorem qz6:FnScope ["_law_heights_here","_law_wish","_law_room","_law_crowds_here","_law_many"] ["_law_heights_here","_law_wish","_law_room"] (ww zbk):=scA
theorem qz7:xm "_law_times" zbk ["_law_heights_here","_law_wish","_law_room"]:=λ_ _ _ _ _ _ _ h=>bA3 h λ_ _ _=>rfl
abbrev zbl:Stmt:=top 45
theorem qx9:FnScope ["_law_one","_law_other"] ["_law_one","_law_other"] (ww zbl):=scA
theorem qzd:xm "_law_common" zbl ["_law_one","_law_other"]:=λ_ _ _ _ _ _ _ h=>bA2 h λ_ _=>rfl
abbrev zbm:Stmt:=top 46
theorem wwv:FnScope ["_law_top","_law_bottom","_law_by"] ["_law_top","_law_bottom"] (ww zbm):=scA
theorem qup:xm "_law_low" zbm ["_law_top","_law_bottom"]:=λ_ _ _ _ _ _ _ h=>bA2 h λ_ _=>rfl
abbrev zbn:Stmt:=top 47
theorem qq1:FnScope ["_law_left","_law_right","_law_heights_here","_law_steps","_law_turn","_law_made","_law_k","_law_top","_law_point_here"] ["_law_left","_law_right","_law_heights_here"] (ww zbn):=scA
theorem qqf:xm "_law_between" zbn ["_law_left","_law_right","_law_heights_here"]:=λ_ _ _ _ _ _ _ h=>bA3 h λ_ _ _=>rfl
abbrev zbo:Stmt:=top 48
theorem qyt:FnScope ["_law_heights_here","_law_many","_law_corners","_law_turn","_law_made","_law_k"] ["_law_heights_here","_law_many"] (ww zbo):=scA
theorem qyy:xm "_law_laid" zbo ["_law_heights_here","_law_many"]:=λ_ _ _ _ _ _ _ h=>bA2 h λ_ _=>rfl
abbrev zbp:Stmt:=top 49
theorem qz2:FnScope ["_law_left","_law_right","_law_one","_law_other","_law_part","_law_total","_law_ground","_law_way","_law_top"] ["_law_left","_law_right"] (ww zbp):=scA
theorem qz3:xm "_law_cross" zbp ["_law_left","_law_right"]:=λ_ _ _ _ _ _ _ h=>bA2 h λ_ _=>rfl
abbrev zbq:Stmt:=top 50
theorem qxt:FnScope ["_law_point_here","_law_wholes","_law_k"] ["_law_point_here","_law_wholes"] (ww zbq):=scA
theorem qzu:xm "_law_within" zbq ["_law_point_here","_law_wholes"]:=λ_ _ _ _ _ _ _ h=>bA2 h λ_ _=>rfl
abbrev zbr:Stmt:=top 51
theorem qyw:FnScope ["_law_heights_here","_law_many","_law_corners","_law_wholes","_law_met","_law_k","_law_left","_law_right","_law_points_here","_law_point_here"] ["_law_heights_here","_law_many"] (ww zbr):=scA
theorem qj4:xm "_law_back" zbr ["_law_heights_here","_law_many"]:=λ_ _ _ _ _ _ _ h=>bA2 h λ_ _=>rfl
abbrev zbs:Stmt:=top 52
theorem qz5:FnScope ["_law_found"] ["_law_found"] (ww zbs):=scA
theorem qvz:xm "_law_whole" zbs ["_law_found"]:=λ_ _ _ _ _ _ _ h=>bA1 h λ_=>rfl
abbrev zbt:Stmt:=top 53
theorem qvb:FnScope ["_law_found"] ["_law_found"] (ww zbt):=scA
theorem qvj:xm "_law_point" zbt ["_law_found"]:=λ_ _ _ _ _ _ _ h=>bA1 h λ_=>rfl
abbrev zbu:Stmt:=top 54
theorem qx7:FnScope ["_law_found"] ["_law_found"] (ww zbu):=scA
theorem qws:xm "_law_points" zbu ["_law_found"]:=λ_ _ _ _ _ _ _ h=>bA1 h λ_=>rfl
abbrev zbv:Stmt:=top 55
theorem qqs:FnScope ["_law_found"] ["_law_found"] (ww zbv):=scA
theorem qqp:xm "_law_numbers" zbv ["_law_found"]:=λ_ _ _ _ _ _ _ h=>bA1 h λ_=>rfl
abbrev zbx:Stmt:=top 56
theorem zeb:FnScope ["_law_script","_law_heights_here","_law_room","_law_many","_law_road","_law_points_here","_law_wholes","_law_found","_law_again"] ["_law_script"] (ww zbx):=scA
local macro_rules | `(tactic| walk_at "sq")=>`(tactic| first | assumption | exact SqT.new | exact SqL.new | ((with_reducible refine Same.sqt (Same.upd (by assumption)) ?_);walk_at "sq") | ((with_reducible refine Same.sql (Same.upd (by assumption)) ?_);walk_at "sq"))
local macro_rules | `(tactic| walk_at "at")=>`(tactic| first | rfl | exact qq9 (by lia) (by lia))
local macro_rules | `(tactic| walk_at "mul")=>`(tactic| first | assumption | exact IntMulOk.of_left (intBits_le_64 (by lia) (by lia)) | exact IntMulOk.of_right (intBits_le_64 (by lia) (by lia)) | exact Sm.ok (by assumption) (by assumption) (by lia))
local macro_rules | `(tactic| walk_at "pos")=>`(tactic| first | lia | decide +kernel)
local macro_rules | `(tactic| walk_at "div")=>`(tactic| exact⟨by first | lia | decide +kernel,by unfold Sm;decide +kernel⟩)
local macro_rules | `(tactic| walk_at "loc")=>`(tactic| first | exact Or.inl rfl | exact Or.inr rfl)
local macro_rules | `(tactic| walk_at "cap")=>`(tactic| repeat (first | exact trivial | refine⟨rfl,?_⟩))
local macro_rules | `(tactic| walk_at "has")=>`(tactic| repeat (first | exact trivial | (refine⟨λz=>?_,(by lia),?_⟩;(first | exact⟨_,rfl⟩ | cases z))))
local macro_rules | `(tactic| walk_at "cix")=>`(tactic| repeat (first | exact trivial | refine⟨⟨_,_,rfl,rfl,rfl,rfl⟩,?_⟩))
local macro_rules | `(tactic| walk_at "hasK")=>`(tactic| repeat (first | exact trivial | (refine⟨λz=>?_,λz=>?_,?_⟩;(first | exact⟨_,rfl⟩ | cases z);(first | rfl | cases z))))
structure Txt (K:Aa)(mg:Str->Option Ag)(qr:Aj)(qk:Aj)(qg:Aj)(qu:Aj)(qp:Aj)(qm:Aj)(qy:Aj):Prop where
 len_:mg "len" = none
 abs_:mg "abs" = none
 range_:mg "range" = none
 isinstance_:mg "isinstance" = none
 int_:mg "int" = none
 bool_:mg "bool" = none
 list_:mg "list" = none
 tuple_:mg "tuple" = none
 min_:mg "min" = none
 max_:mg "max" = none
 all_:mg "all" = none
 any_:mg "any" = none
 sum_:mg "sum" = none
 sorted_:mg "sorted" = none
 zip_:mg "zip" = none
 zec:mg "BadLine" = some (.ref qr)
 zak:ExcC K qr
 zed:mg "BadBottom" = some (.ref qk)
 zal:ExcC K qk
 zee:mg "OffRoad" = some (.ref qg)
 zam:ExcC K qg
 zef:mg "BadCount" = some (.ref qu)
 zan:ExcC K qu
 zeg:mg "TooLong" = some (.ref qp)
 zao:ExcC K qp
 zeh:mg "BadRow" = some (.ref qm)
 zap:ExcC K qm
 cl:Cls K qy
 na:NoAttr K qy "heights"
 zac:∃t,mg "WIDEST" = some (.int 24 t)
 zei:mg "Road" = some (.ref qy)
 zad:∃t,mg "LONGEST_ROW" = some (.int 12 t)
 zae:∃t,mg "MOST_WAYS" = some (.int 1000 t)
 zaf:∃t,mg "MOST_WALKED" = some (.int 1000 t)
abbrev FK(P:Ac)(w:Ah)(K:Aa)(mg:Str->Option Ag)(base:Heap):=FnOk P w K mg base (CXE P w)
section
variable {P:Ac}{w:Ah}{K:Aa}{mg:Str->Option Ag}{base:Heap}{qr:Aj}{qk:Aj}{qg:Aj}{qu:Aj}{qp:Aj}{qm:Aj}{qy:Aj}
variable {f:Aj}{fd:Ad}(T:Txt K mg qr qk qg qu qp qm qy)
def qwb (C:Aj):Sp:=λvs H Q E=>∃b:Int,vs=[.int b]/\(1<=b->Q .non H)/\(b<1->E (.ref C) none H)
include T in
theorem xwu (F:Fun K "check_bottom" "check_bottom" zax f fd):FK P w K mg base 1 f fd ["bottom"] (qwb qk):=by
 have sc:=qqn;refine F.okX sc (λvs H Q E h=>by obtain⟨_,rfl,_⟩:=h;rfl) λ_ _ _ _ H vs Q E hr h=>?_;obtain⟨b,rfl,h1,h2⟩:=h;refine⟨_,(qh (zr (wt Q3 (pv 0) qx (xv _)) (qh (ud rfl T.zal jy rfl T.zed (qw Jd qv))) xg)),?_⟩;refine exI rfl (wp rfl rfl (exI rfl ?_));refine kr (λq1=>?_) (λq1=>?_)
 .exact⟨⋯,h2 q1⟩
 .exact h1 ⋯
include T in
theorem xx9 (F:Fun K "_law_cell" "_law_cell" zbf f fd):FK P w K mg base 1 f fd ["_law_script","_law_at"] (wzj K):=by
 have sc:=qyd;refine F.okX sc (λvs H Q E h=>by obtain⟨_,_,_,rfl,_⟩:=h;rfl) λ_ _ _ _ H vs Q E hr h=>?_;obtain⟨a,ns,i,rfl,hS,h0,k⟩:=h;have hlen:(ns.map V.int).length=ns.length:=ag _;refine⟨_,(qj (zr (wt Q3 (pv 1) (wn xf rfl T.len_ bU (qw (pv 0) qv)) (xv _)) (qh (xw (wv x8 (pv 0) (pv 1) (λ_ _=>rfl)))) xg)
   (qj (zr (wt uz (wn xf rfl T.len_ bU (qw (pv 0) qv)) qx (xv _)) (qh (xw (wz x9 (wz xk qx (pv 1)) qx))) xg)
   (qh (xw (wz x9 (wv x8 (pv 0) (wz jn (pv 1) (wn xf rfl T.len_ bU (qw (pv 0) qv))) (λ_ _=>rfl)) (wz xk qx (pv 1))))))),?_⟩
 refine exI rfl (exI rfl ⟨_,_,rfl,.inl hS,wp rfl rfl (exI rfl ?_)⟩);refine kr (λq1=>?_) (λq1=>?_)
 .rw[hlen]at q1;refine exI rfl (exI rfl (exX rfl rfl hS (qq9 h0 q1) ?_));exact k _ (by rw[wq5,aw q1])
 .rw[hlen]at q1;refine exI rfl ⟨_,_,rfl,.inl hS,rfl,_,rfl,?_⟩;rw[hlen];refine uw (λq2=>?_) (λq2=>?_)
  .refine exI rfl (wp rfl rfl ⟨(by walk_at "mul"),wp rfl rfl ?_⟩);exact k _ (by rw[wq5,ar q1,aw q2])
  .refine exI rfl (exI rfl (exI rfl ⟨_,_,rfl,.inl hS,wp rfl rfl ⟨(by rw[hlen];lia),?_⟩⟩));rw[hlen];refine exX rfl rfl hS (qq9 (cE _ q2) (bV _ ⋯)) (exI rfl (wp rfl rfl ⟨(by walk_at "mul"),wp rfl rfl ?_⟩));exact k _ (by rw[wq5,ar q1,ar q2])
include T in
theorem xv0 (F:Fun K "_law_pick" "_law_pick" zbg f fd)(zej:Cal P w K mg base "_law_cell" 1 (wzj K)):FK P w K mg base 2 f fd ["_law_script","_law_at","_law_turn","_law_many"] (Jx K):=by
 have sc:=qk2;refine F.okX sc (λvs H Q E h=>by obtain⟨_,_,_,_,_,rfl,_⟩:=h;rfl) λ_ _ _ _ H vs Q E hr h=>?_;obtain⟨a,ns,i,t,m,rfl,hS,h0,t0,t1,m0,k⟩:=h;refine⟨_,(qj (wg (i:=4) (wu zej (hr.mono ⋯) rfl qt (qw (pv 0) (qw (pv 1) qv))))
   (qj (zr (wt wz1 (wn ux rfl T.abs_ uq (qw (pv 4) qv)) (wz op_pow qx qx) (xv _)) (qj (wg (i:=5) (wn ux rfl T.abs_ uq (qw (pv 4) qv)))
   (qj (jx bh rfl (xh rfl T.range_ (qw (pv 2) qv)) (xy (i:=6)) (qh (wg (i:=5) (wz j9 (pv 5) qx))))
   (qj (zr (wt Q3 (pv 4) qx (xv _)) (qh (wg (i:=5) (wz jn (pv 5) qx))) xg)
   (qh (xw (wz jn (pv 5) (pv 3))))))) xg)
   (qj (wg (i:=7) (wz jn (pv 4) qx))
   (qj (wg (i:=8) (wz jn (wz x9 (wz x9 (wz xk (pv 7) qx) (wz xk (pv 2) qx)) qx) qx))
   (qj (wg (i:=9) (wz jn (wz x9 (wz x9 (wz xk (pv 8) (pv 8)) (wz xk (pv 7) qx)) (wz xk (pv 2) qx)) qx))
   (qh (xw (wz jn (wz jn (wz x9 (wz x9 (wz xk (pv 9) (pv 9)) (wz xk (pv 8) qx)) (wz xk (pv 2) qx)) qx) (pv 3))))))))),?_⟩
 refine exI rfl (exI rfl ?_);refine⟨a,ns,i,rfl,hS,h0,λc hc=>?_⟩;have fin:∀v,v=quf c t%m->Q (.int v) H:=λv hv=>by
  refine k v (by rw[hv,qus,hc]) ?_ ?_
  .rw[hv];exact cE _ ⋯
  .rw[hv];exact bV _ m0
 refine exI rfl (exI rfl (wp rfl rfl ⟨⟨⋯,⋯,⋯⟩,wp rfl rfl (exI rfl ?_)⟩));refine kr (λq1=>?_) (λq1=>?_)
 .have q1':10 ^ 18<=y8 c:=q1;refine exI rfl (exI rfl ?_);refine exI rfl ⟨t,rfl,⋯,⋯,v6 (λj σ H1=>H1=H/\∃z,σ=[some (.ref a),some (.int i),some (.int t),some (.int m),some (.int c),some (.int (divs (y8 c) j)),z,none,none,none]) ⟨rfl,_,rfl⟩ ?_ ?_⟩
  .rintro j σ H1 hj ⟨rfl,z,rfl⟩;exact exI rfl (wp rfl rfl ⟨(by walk_at "div"),rfl,_,rfl⟩)
  .rintro σ H1 ⟨rfl,z,rfl⟩;refine exI rfl (wp rfl rfl (exI rfl ?_));refine kr (λq2=>?_) (λq2=>?_)
   .refine exI rfl (wp rfl rfl ⟨(by walk_at "pos"),exI rfl (exI rfl (wp rfl rfl ⟨(by walk_at "pos"),?_⟩))⟩);exact fin _ (by rw[xqp q1' q2])
   .refine exI rfl (exI rfl (wp rfl rfl ⟨(by walk_at "pos"),?_⟩));exact fin _ (by rw[wyk q1' q2])
 .have q1':¬ 10 ^ 18<=y8 c:=q1;have l0:=cE c (show(1000003:Int)≠0 by decide);have l1:=bV c (show(0:Int)<1000003 by decide);refine exI rfl (wp rfl rfl ⟨(by walk_at "pos"),exI rfl (wp rfl rfl ⟨(by walk_at "mul"),exI rfl (wp rfl rfl ⟨(by walk_at "mul"),wp rfl rfl (wp rfl rfl (wp rfl rfl ⟨(by walk_at "pos"),?_⟩))⟩)⟩)⟩);have o0:0<=qjs c t:=cE _ ⋯;have o1:qjs c t<999983:=bV _ ⋯;refine⟨V.int (qjs c t),rfl,V.int (qjs c t),rfl,wp rfl rfl ⟨(by walk_at "mul"),exI rfl (wp rfl rfl ⟨(by walk_at "mul"),wp rfl rfl (exI rfl (wp rfl rfl ⟨(by walk_at "mul"),wp rfl rfl (wp rfl rfl ⟨(by walk_at "pos"),?_⟩)⟩))⟩)⟩⟩;have w0:0<=qu7 c t:=cE _ ⋯;have w1:qu7 c t<1000033:=bV _ ⋯;refine⟨V.int (qu7 c t),rfl,V.int (qu7 c t),rfl,wp rfl rfl ⟨(by walk_at "mul"),V.int (qjs c t),rfl,wp rfl rfl ⟨(by walk_at "mul"),wp rfl rfl (exI rfl (wp rfl rfl ⟨(by walk_at "mul"),wp rfl rfl (wp rfl rfl ⟨(by walk_at "pos"),exI rfl (wp rfl rfl ⟨(by walk_at "pos"),?_⟩)⟩)⟩))⟩⟩⟩;exact fin _ (by rw[xwb q1'])
def Within (n f:Int)(m:Option Int):Prop:=f<=n/\∀b,m=some b->n<=b
def qq7 (C:Aj):Sp:=λvs H Q E=>∃(n f:Int) (m:V) (o:Option Int),vs=[.int n,.int f,m]/\(m=.non/\o=none\/∃b,m=.int b/\o=some b)/\(Within n f o->Q .non H)/\(¬ Within n f o->E (.ref C) none H)
include T in
theorem wuw (F:FunD K "check_count" zai f fd):FK P w K mg base 1 f fd ["number","fewest","most"] (qq7 qu):=by
 have sc:=qxb;refine F.okX sc (λvs H Q E h=>by obtain⟨_,_,_,_,rfl,_⟩:=h;rfl) λ_ _ _ _ H vs Q E hr h=>?_;obtain⟨n,fe,m,o,rfl,hm,k,x⟩:=h;refine⟨_,(qh (zr (PW.pt (Qr (wt Q3 (pv 0) (pv 1) (xv _)) (yq (PW.pt (Yt (wt wvy (pv 2) qj0 (xv _)) (W1 (wt Wv (pv 0) (pv 2) (xv _)))))))) (qh (ud rfl T.zan jy rfl T.zef (qw Jd qv))) xg)),?_⟩;refine exI rfl (exI rfl (wp rfl rfl (exI rfl ?_)));refine kr (λq1=>?_) (λq1=>?_)
 .refine yp ?_;exact⟨sz1,x (λz=>by have:=z.1;lia)⟩
 .rcases hm with⟨rfl,rfl⟩|⟨b,rfl,rfl⟩
  .refine exI rfl ⟨rfl,_,rfl,?_⟩;refine jz ?_;exact k ⟨⋯,λb e=>nomatch e⟩
  .refine exI rfl ⟨rfl,_,rfl,?_⟩;refine yp ?_;refine exI rfl (exI rfl (wp rfl rfl (exI rfl ?_)));refine kr (λq2=>?_) (λq2=>?_)
   .exact⟨sz1,x (λz=>by have:=z.2 b rfl;lia)⟩
   .exact k ⟨⋯,λb' e=>by cases e;lia⟩
def wj (ns:List Int):Prop:=2<=ns.length/\ns.length<=25/\∀h∈ns,0<=h/\h<=(ns.length:Int)-1
def qx6 (K:Aa):Sp:=λvs H Q _=>∃(p:Aj) (ns:List Int),vs=[.ref p]/\SqL K H p (ns.map V.int)/\(wj ns->Q (.bl true) H)/\(¬ wj ns->Q (.bl false) H)
include T in
theorem wzw (F:Fun K "is_line" "is_line" za6 f fd):FK P w K mg base 1 f fd ["heights"] (qx6 K):=by
 have sc:=wzd;refine F.okX sc (λvs H Q E h=>by obtain⟨_,_,rfl,_⟩:=h;rfl) λ_ _ _ _ H vs Q E hr h=>?_;obtain⟨p,ns,rfl,hS,k1,k2⟩:=h;have hlen:(ns.map V.int).length=ns.length:=ag _;obtain⟨tw,zac⟩:=T.zac;refine⟨_,(qj (wg (i:=1) (wz zm (wn xf rfl T.len_ bU (qw (pv 0) qv)) qx))
   (qj (zr (PW.pt (Qr (wt Q3 (pv 1) qx (xv _)) (yq (wt Wv (pv 1) (qwc (v:=V.int 24) rfl zac ⟨_,rfl⟩) (xv _))))) (qh (xw qqb)) xg)
   (qh (xw (Y7 (yd wz1 (wn (qvh rfl) rfl T.min_ dR (qw (pv 0) qv)) qx (xv _)) (Js (yd qwn (wn (qvq rfl) rfl T.max_ df (qw (pv 0) qv)) (pv 1) (xv _)))))))),?_⟩
 refine exI rfl ⟨_,_,rfl,.inl hS,wp rfl rfl ?_⟩;refine exI rfl (wp rfl rfl (exI rfl ?_));rw[hlen];refine kr (λq1=>?_) (λq1=>?_)
 .refine yp ?_;exact k2 (λz=>by have:=z.1;lia)
 .refine exI rfl (wp rfl rfl (exI rfl ?_));refine kr (λq2=>?_) (λq2=>?_)
  .exact k2 (λz=>by have:=z.2.1;lia)
  .refine exI rfl ⟨p,ns,rfl,hS,⋯,λm hm hle=>(wp rfl rfl (exI rfl ?_))⟩;refine kr (λq3=>?_) (λq3=>?_)
   .refine exI rfl ⟨p,ns,rfl,hS,⋯,λm2 hm2 hle2=>(exI rfl (wp rfl rfl ?_))⟩;show Q (.bl (decide (m2<=(ns.length:Int)-1))) H;by_cases q4:m2<=(ns.length:Int)-1
    .rw[aS q4];exact k1 ⟨⋯,⋯,λh hh=>by have:=hle h hh;have:=hle2 h hh;lia⟩
    .rw[bb q4];exact k2 (λz=>q4 (z.2.2 m2 hm2).2)
   .exact k2 (λz=>q3 (z.2.2 m hm).1)
def RoadAt (C:Aj)(H:Hp)(r:Aj)(ns:List Int):Prop:=∃dx q,H r=some (.ins C dx [("heights",.ref q)])/\H q=some (.lst (ns.map V.int))
variable {C:Aj}{H H':Hp}
theorem RoadAt.same {r:Aj}{ns:List Int}(h:RoadAt C H r ns)(s:Same H H'):RoadAt C H' r ns:=by obtain⟨dx,q,h1,h2⟩:=h;exact⟨dx,q,s _ _ h1,s _ _ h2⟩
variable {q:Aj}
theorem jt:([("heights",V.ref q)]:List (Str×V)).lookup ("heights" : Str)=some (.ref q):=by rw[bA];simp
theorem xr {m:Str}(h:¬ m = "heights"):([("heights",V.ref q)]:List (Str×V)).lookup m=none:=by rw[bA];have:(m==("heights" : Str))=false:=cJ.mpr h;rw[this];rfl
def qk8 (K:Aa)(CB C:Aj):Sp:=λvs H Q E=>∃(r dx p:Aj) (ns:List Int),vs=[.ref r,.ref p]/\H r=some (.ins C dx [])/\SqL K H p (ns.map V.int) /\
 (wj ns->∀H' q,H q=none->(∀b o,H b=some o->b≠r->H' b=some o)->H' r=some (.ins C dx [("heights",.ref q)])->H' q=some (.lst (ns.map V.int))->Q .non H')/\(¬ wj ns->E (.ref CB) none H)
include T in
theorem xz8 (F:Fun K "__init__" "Road.__init__" za7 f fd)(zek:Cal P w K mg base "is_line" 1 (qx6 K)):FK P w K mg base 2 f fd ["self","heights"] (qk8 K qr qy):=by
 have sc:=Y5;refine F.okX sc (λvs H Q E h=>by obtain⟨_,_,_,_,rfl,_⟩:=h;rfl) λ_ _ _ _ H vs Q E hr h=>?_;obtain⟨r,dx,p,ns,rfl,hr0,hS,k,x⟩:=h;refine⟨_,(qj (zr (Qz (Qb (wu zek (hr.mono ⋯) rfl qt (qw (pv 1) qv)))) (qh (ud rfl T.zak jy rfl T.zec (qw Jd qv))) xg)
   (qh (ps_fld (pv 0) (Ws uh rfl T.list_ cX (qw (pv 1) qv)) rfl))),?_⟩
 refine⟨_,rfl,p,ns,rfl,hS,λok=>(exI rfl ?_),λbad=>(exI rfl ?_)⟩
 .refine jz ?_;refine exI rfl ⟨_,_,rfl,.inl hS,λq nq=>?_⟩;have hr1:upd H q (.lst (ns.map V.int)) r=some (.ins qy dx []):=by rw[q8 (wx hr0 nq)];exact hr0
  refine exI rfl ⟨r,qy,dx,[],rfl,hr1,T.cl,T.na,(by show 0<1000;decide),?_⟩;refine k ok _ q nq (λb o e n=>?_) qf ?_
  .rw[q8 n,q8 (wx e nq)];exact e
  .rw[q8 (wx hr0 nq).symm,qf]
 .refine yp ?_;exact⟨sz1,x bad⟩
def j3 (C:Aj):Sp:=λvs H Q _=>∃(r:Aj) (ns:List Int),vs=[.ref r]/\RoadAt C H r ns/\Q (.int ((ns.length:Int)-1)) H
include T in
theorem xq2 (F:Fun K "width" "Road.width" za8 f fd):FK P w K mg base 1 f fd ["self"] (j3 qy):=by have sc:=qvu;refine F.okX sc (λvs H Q E h=>by obtain⟨_,_,rfl,_⟩:=h;rfl) λ_ _ _ _ H vs Q E hr h=>?_;obtain⟨r,ns,rfl,⟨dx,q,h1,h2⟩,k⟩:=h;refine⟨_,(qh (xw (wz zm (wn xf rfl T.len_ bU (qw (qyv (pv 0) rfl) qv)) qx))),?_⟩;refine exI rfl ⟨r,qy,dx,_,_,rfl,h1,T.cl,T.na,jt,q,exI rfl ⟨.inl (SqL.of h2),wp rfl rfl ?_⟩⟩;rw[ag];exact k
def Ju (C:Aj):Sp:=λvs H Q _=>∃(r:Aj) (ns:List Int),vs=[.ref r]/\RoadAt C H r ns/\∀p,H p=none->Q (.ref p) (upd H p (.lst (ns.map V.int)))
include T in
theorem ww6 (F:Fun K "corners" "Road.corners" za9 f fd):FK P w K mg base 1 f fd ["self"] (Ju qy):=by have sc:=qq4;refine F.okX sc (λvs H Q E h=>by obtain⟨_,_,rfl,_⟩:=h;rfl) λ_ _ _ _ H vs Q E hr h=>?_;obtain⟨r,ns,rfl,⟨dx,q,h1,h2⟩,k⟩:=h;refine⟨_,(qh (xw (Ws uh rfl T.list_ cX (qw (qyv (pv 0) rfl) qv)))),?_⟩;exact exI rfl ⟨r,qy,dx,_,_,rfl,h1,T.cl,T.na,jt,q,exI rfl ⟨.inl (SqL.of h2),λp np=>k p np⟩⟩
def InW (ns:List Int)(wd:Int):Prop:=(ns.length:Int)=wd+1/\∀h∈ns,0<=h/\h<=wd
def qwv (K:Aa):Sp:=λvs H Q _=>∃(a:Aj) (ns:List Int) (i wd:Int),vs=[.ref a,.int i,.int wd]/\SqL K H a (ns.map V.int)/\0<=i/\1<=wd/\wd<=24 /\
 ∀p hs,H p=none->InW hs wd->Q (.ref p) (upd H p (.lst (hs.map V.int)))
include T in
theorem xxd (F:Fun K "_law_climb" "_law_climb" zbh f fd)(zab:Cal P w K mg base "_law_pick" 2 (Jx K)):FK P w K mg base 3 f fd ["_law_script","_law_at","_law_wide"] (qwv K):=by
 have sc:=qvy;refine F.okX sc (λvs H Q E h=>by obtain⟨_,_,_,_,rfl,_⟩:=h;rfl) λ_ _ _ _ H vs Q E hr h=>?_;obtain⟨a,ns,i,wd,rfl,hS,h0,w1,w2,k⟩:=h;refine⟨_,(qj (wg (i:=3) (vf (qw (wu zab (hr.mono ⋯) rfl qt (qw (pv 0) (qw (pv 1) (qw qx (qw (wz x9 (pv 2) qx) qv))))) qv)))
   (qj (jx bh rfl (xh rfl T.range_ (qw (pv 2) qv)) (xy (i:=4)) (qh (vy (Q0 bB bG bH vk (pv 3) (qw (wn (W5 rfl) rfl T.max_ df (qw qx (qw (wn (W4 rfl) rfl T.min_ dR (qw (pv 2) (qw (wz zm (wz x9 (wv x8 (pv 3) (Qn jm qx) (λ_ _=>rfl)) (wz xk qx (wu zab (hr.mono ⋯) rfl qt (qw (pv 0) (qw (pv 1) (qw (wz x9 qx (pv 4)) (qw qx qv))))))) qx) qv))) qv))) qv)))))
   (qh (xw (pv 3))))),?_⟩
 refine exI rfl (exI rfl (exI rfl (wp rfl rfl ⟨a,ns,_,_,_,rfl,hS,h0,⋯,⋯,⋯,λr1 _ l1 u1=>⟨sz1,λp np=>?_⟩⟩)));refine⟨_,rfl,wd,rfl,⋯,⋯,v6 (λj σ H1=>∃(ys:List Int) (l:Int) (z:Option V),ys.length=j/\(∀h∈ys++[l],0<=h/\h<=wd)/\H1=upd H p (.lst ((ys++[l]).map V.int))/\σ=[some (.ref a),some (.int i),some (.int wd),some (.ref p),z])
  ⟨[],r1,none,rfl,(λh hh=>by have e:=aH.mp hh;subst e;lia),rfl,rfl⟩ ?_ ?_⟩
 .rintro j σ H1 hj ⟨ys,l,z,hy,hb,rfl,rfl⟩;have hp:upd H p (.lst ((ys++[l]).map V.int)) p=some (.lst ((ys++[l]).map V.int)):=qf;have hS1:SqL K (upd H p (.lst ((ys++[l]).map V.int))) a (ns.map V.int):=Same.sql (Same.upd np) hS;have hlast:atI ((ys++[l]).map V.int) (-1)=some (V.int l):=by rw[aW];exact Wq _ _
  have hl:=hb l (by simp);refine exI rfl ⟨.inl ⟨rfl,_,SqL.of hp⟩,exI rfl (exI rfl (exI rfl (exX rfl rfl (SqL.of hp) hlast (exI rfl (exI rfl (exI rfl (wp rfl rfl ⟨a,ns,_,_,_,rfl,hS1,h0,⋯,⋯,⋯,λr2 _ l2 u2=>?_⟩)))))))⟩;refine wp rfl rfl ⟨(by walk_at "mul"),wp rfl rfl (wp rfl rfl ⟨_,_,rfl,_,_,rfl,_,_,_,rfl,rfl,hp,?_,?_⟩)⟩
  .rw[ag,am,hy];have:(1000000:Nat)<sizeLine:=by decide
   simp only[aQ,eJ];lia
  .refine⟨ys++[l],(if(if l+2*r2-1<wd then l+2*r2-1 else wd)>0 then(if l+2*r2-1<wd then l+2*r2-1 else wd) else 0),_,by rw[am,hy];rfl,λh hh=>?_,?_,rfl⟩
   .rcases aU.mp hh with hh|hh
    .exact hb h hh
    .have e:=aH.mp hh;subst e;by_cases g1:l+2*r2-1<wd
     .rw[aw g1];by_cases g2:l+2*r2-1>0
      .rw[aw g2];lia
      .rw[ar g2];lia
     .rw[ar g1,aw (show wd>0 by lia)];lia
   .rw[qkh,aW (l₁:=ys++[l])];rfl
 .rintro σ H1 ⟨ys,l,z,hy,hb,rfl,rfl⟩;refine exI rfl (k p _ np ⟨?_,hb⟩);rw[am,hy];simp only[aQ,eJ];lia
def Y8 (K:Aa):Sp:=λvs H Q _=>∃(a:Aj) (ns:List Int) (i m:Int),vs=[.ref a,.int i,.int m]/\SqL K H a (ns.map V.int)/\0<=i/\1<=m/\m<=24 /\
 ∀p hs wd,H p=none->1<=wd->wd<=m->InW hs wd->Q (.ref p) (upd H p (.lst (hs.map V.int)))
theorem wk1 {wd:Int}{n:Nat}(g:Nat->Int)(h1:(n:Int)=wd+1)(h2:∀i,i<n->0<=g i/\g i<=wd):InW ((List.range n).map g) wd:=by refine⟨by rw[ag,aG];exact h1,λh hh=>?_⟩;obtain⟨i,hi,rfl⟩:=aJ.mp hh;exact h2 i (ay.mp hi)
theorem qz1 (n:Nat)(g:Nat->Int):(List.range n).map (λi=>V.int (g i))=((List.range n).map g).map V.int:=by rw[ba];rfl
include T in
theorem wxq (F:Fun K "_law_heights" "_law_heights" zbi f fd)(zab:Cal P w K mg base "_law_pick" 2 (Jx K))(zel:Cal P w K mg base "_law_climb" 3 (qwv K)) :
  FK P w K mg base 4 f fd ["_law_script","_law_at","_law_most"] (Y8 K):=by
 have sc:=qq2;refine F.okX sc (λvs H Q E h=>by obtain⟨_,_,_,_,rfl,_⟩:=h;rfl) λ_ _ _ _ H vs Q E hr h=>?_;obtain⟨a,ns,i,m,rfl,hS,h0,m1,m2,k⟩:=h;refine⟨_,(qj (wg (i:=3) (wz x9 qx (wu zab (hr.mono ⋯) rfl qt (qw (pv 0) (qw (pv 1) (qw qx (qw (pv 2) qv)))))))
   (qj (wg (i:=4) (wu zab (hr.mono ⋯) rfl qt (qw (pv 0) (qw (pv 1) (qw qx (qw qx qv))))))
   (qj (zr (wt uz (pv 4) qx (xv _)) (qh (xw (kx (M:=[3]) rfl rfl (by walk_at "cap") (by walk_at "has") (by walk_at "cix") rfl (by decide +kernel) rfl (show List.Nodup (["_law_k","_law_wide"]:List Str) by decide +kernel) (xh rfl T.range_ (qw (wz x9 (pv 3) qx) qv)) (λ_ _ _ _ _=>(wz xk (pv 1) (wz jn (pv 0) qx)))))) xg)
   (qj (zr (wt uz (pv 4) qx (xv _)) (qh (xw (kx (M:=[]) rfl rfl (by walk_at "cap") (by walk_at "has") (by walk_at "cix") rfl (by decide +kernel) rfl (show List.Nodup (["_law_k"]:List Str) by decide +kernel) (xh rfl T.range_ (qw (wz x9 (pv 3) qx) qv)) (λ_ _ _ _ _=>(pv 0))))) xg)
   (qj (zr (wt uz (pv 4) qx (xv _)) (qh (xw (kx (M:=[3]) rfl rfl (by walk_at "cap") (by walk_at "has") (by walk_at "cix") rfl (by decide +kernel) rfl (show List.Nodup (["_law_k","_law_wide"]:List Str) by decide +kernel) (xh rfl T.range_ (qw (wz x9 (pv 3) qx) qv)) (λ_ _ _ _ _=>(wz zm (pv 1) (pv 0)))))) xg)
   (qj (zr (wt uz (pv 4) qx (xv _)) (qh (xw (kx (M:=[3]) rfl rfl (by walk_at "cap") (by walk_at "has") (by walk_at "cix") rfl (by decide +kernel) rfl (show List.Nodup (["_law_k","_law_wide"]:List Str) by decide +kernel) (xh rfl T.range_ (qw (wz x9 (pv 3) qx) qv)) (λ_ _ _ _ _=>(wz jn (wz x9 (wz xk qx (pv 0)) qx) (wz x9 (pv 1) qx)))))) xg)
   (qj (zr (PW.pt (Qr (wt uz (pv 4) qx (xv _)) (yq (wt uz (pv 4) qx (xv _))))) (qh (xw (wu zel (hr.mono ⋯) rfl qt (qw (pv 0) (qw (pv 1) (qw (pv 3) qv)))))) xg)
   (qh (xw (kx (M:=[0,1,3]) rfl rfl (by walk_at "cap") (by walk_at "has") (by walk_at "cix") rfl (by decide +kernel) rfl (show List.Nodup (["_law_k","_law_script","_law_at","_law_wide"]:List Str) by decide +kernel) (xh rfl T.range_ (qw (wz x9 (pv 3) qx) qv)) (λ_ _ _ _ _=>(wu zab (hr.mono ⋯) rfl Zm (qw (pv 1) (qw (pv 2) (qw (wz x9 qx (pv 0)) (qw (wz x9 (pv 3) qx) qv)))))))))))))))),?_⟩
 refine exI rfl (exI rfl (exI rfl ⟨a,ns,_,_,_,rfl,hS,h0,⋯,⋯,⋯,λr1 _ l1 u1=>?_⟩));refine wp rfl rfl (exI rfl (exI rfl ⟨a,ns,_,_,_,rfl,hS,h0,⋯,⋯,⋯,λkd _ l2 u2=>?_⟩));have hn:((1+r1+1).toNat:Int)=1+r1+1:=by lia
 have hn2:(1+r1+1).toNat<=1000000:=by lia
 have fin:∀(g:Nat->Int) (p:Aj),(∀j,j<(1+r1+1).toNat->0<=g j/\g j<=1+r1)->H p=none->Q (.ref p) (upd H p (.lst ((List.range (1+r1+1).toNat).map λj=>V.int (g j)))):=λg p hg np=>by rw[qz1];exact k p _ (1+r1) np ⋯ ⋯ (wk1 g hn hg)
 refine exI rfl ⟨rfl,_,rfl,uw (λq1=>?_) (λq1=>?_)⟩
 .refine exI rfl (wp rfl rfl ⟨1+r1+1,rfl,⋯,⋯,kh (λj=>V.int ((1+r1)*(((0:Int)+j)%2))) hn2 (λj H' R hj hs hR=>?_) λp np=>fin _ p (λj hj=>?_) np⟩)
  .exact exI rfl (exI rfl (wp rfl rfl ⟨(by walk_at "pos"),wp rfl rfl ⟨(by walk_at "mul"),hR⟩⟩))
  .have a1:=cE ((0:Int)+j) (show(2:Int)≠0 by decide);have a2:=bV ((0:Int)+j) (show(0:Int)<2 by decide);rcases(by lia:((0:Int)+j)%2=0\/((0:Int)+j)%2=1) with e|e <;> rw[e] <;> lia
 .refine exI rfl ⟨rfl,_,rfl,uw (λq2=>?_) (λq2=>?_)⟩
  .refine exI rfl (wp rfl rfl ⟨1+r1+1,rfl,⋯,⋯,kh (λj=>V.int ((0:Int)+j)) hn2 (λj H' R hj hs hR=>?_) λp np=>fin _ p (λj hj=>by lia) np⟩);exact exI rfl hR
  .refine exI rfl ⟨rfl,_,rfl,uw (λq3=>?_) (λq3=>?_)⟩
   .refine exI rfl (wp rfl rfl ⟨1+r1+1,rfl,⋯,⋯,kh (λj=>V.int (1+r1-((0:Int)+j))) hn2 (λj H' R hj hs hR=>?_) λp np=>fin _ p (λj hj=>by lia) np⟩);exact exI rfl (exI rfl (wp rfl rfl hR))
   .refine exI rfl ⟨rfl,_,rfl,uw (λq4=>?_) (λq4=>?_)⟩
    .refine exI rfl (wp rfl rfl ⟨1+r1+1,rfl,⋯,⋯,kh (λj=>V.int ((2*((0:Int)+j)+1)%(1+r1+1))) hn2 (λj H' R hj hs hR=>?_) λp np=>fin _ p (λj hj=>?_) np⟩)
     .exact exI rfl (wp rfl rfl ⟨(by walk_at "mul"),wp rfl rfl (exI rfl (wp rfl rfl (wp rfl rfl ⟨(by walk_at "pos"),hR⟩)))⟩)
     .have a1:=cE (2*((0:Int)+j)+1) (show 1+r1+1≠0 by lia);have a2:=bV (2*((0:Int)+j)+1) (show 0<1+r1+1 by lia);lia
    .have last:tRet (wvt [0,1,3] (iRng1 (yu (tOp (rI0 λi j=>.int (i+j)) (j4 3) (tC (.int 1))) qxd)) (qk1 (Jx K) (λ_=>E0) (yu (j4 1) (yu (j4 2) (yu (tOp (rI0 λi j=>.int (i+j)) (tC (.int 3)) (j4 0)) (yu (tOp (rI0 λi j=>.int (i+j)) (j4 3) (tC (.int 1))) qxd))))))
       { nx:=λ_ H'=>Q .non H',rt:=Q } [some (.ref a),some (.int i),some (.int m),some (.int (1+r1)),some (.int kd)] H:=by
      refine exI rfl (wp rfl rfl ⟨1+r1+1,rfl,⋯,⋯,kh (λj=>V.int (qus ns i (3+((0:Int)+j)) (1+r1+1))) hn2 (λj H' R hj hs hR=>?_) λp np=>fin _ p (λj hj=>?_) np⟩)
      .refine exI rfl (exI rfl (exI rfl (wp rfl rfl (exI rfl (wp rfl rfl ⟨a,ns,_,_,_,rfl,Same.sql hs hS,h0,⋯,⋯,⋯,λr e _ _=>?_⟩)))));rw[e];exact hR
      .have a1:=wu5 ns i (3+((0:Int)+j)) (1+r1+1) ⋯;have a2:=xqy ns i (3+((0:Int)+j)) (1+r1+1) ⋯;lia
     have climb:tRet (qk1 (qwv K) (λ_=>E) (yu (j4 0) (yu (j4 1) (yu (j4 3) qxd)))) { nx:=λ_ H'=>Q .non H',rt:=Q } [some (.ref a),some (.int i),some (.int m),some (.int (1+r1)),some (.int kd)] H :=
      (exI rfl (exI rfl (exI rfl ⟨a,ns,i,1+r1,rfl,hS,h0,⋯,⋯,λp hs np hw=>k p hs (1+r1) np ⋯ ⋯ hw⟩)))
     refine exI rfl ⟨rfl,_,rfl,uw (λq5=>yp climb) (λq5=>?_)⟩;exact exI rfl ⟨rfl,_,rfl,uw (λq6=>climb) (λq6=>last)⟩
def qwq:Sp:=λvs H Q _=>∃i:Int,vs=[.int i]/\Q (.bl true) H
include T in
theorem xqg (F:Fun K "_law_whole" "_law_whole" zbs f fd):FK P w K mg base 1 f fd ["_law_found"] qwq:=by have sc:=qz5;refine F.okX sc (λvs H Q E h=>by obtain⟨_,rfl,_⟩:=h;rfl) λ_ _ _ _ H vs Q E hr h=>?_;obtain⟨i,rfl,k⟩:=h;refine⟨_,(qh (xw (Y7 (wn kn rfl T.isinstance_ cn (qw (pv 0) (qw (W6 (v:=V.ty "int") rfl T.int_ PyProof.Rows.boot_int rfl) qv))) (Js (pe_not (wn kn rfl T.isinstance_ cn (qw (pv 0) (qw (W6 (v:=V.ty "bool") rfl T.bool_ PyProof.Rows.boot_bool rfl) qv)))))))),?_⟩;refine exI rfl ⟨_,_,_,_,rfl,TyOf.int i,rfl,_,rfl,?_⟩;refine yp ?_;refine exI rfl ⟨_,_,_,_,rfl,TyOf.int i,rfl,_,rfl,?_⟩;exact k
def Jf (K:Aa):Sp:=λvs H Q _=>∃(p:Aj) (ns:List Int),vs=[.ref p]/\H p=some (.lst (ns.map V.int))/\ns.length<=1000/\∀H',Same H H'->Q (.bl true) H'
theorem xqj (ns:List Int):(ns.map λ_=>true).all id=true:=by
 induction ns with
 |nil=>rfl
 |cons a r ih=>rw[aD,List.all_cons,ih];rfl
include T in
theorem wxr (F:Fun K "_law_numbers" "_law_numbers" zbv f fd)(zbw:Cal P w K mg base "_law_whole" 1 qwq):FK P w K mg base 2 f fd ["_law_found"] (Jf K):=by
 have sc:=qqs;refine F.okX sc (λvs H Q E h=>by obtain⟨_,_,rfl,_⟩:=h;rfl) λ_ _ _ _ H vs Q E hr h=>?_;obtain⟨p,ns,rfl,hp,hn,k⟩:=h;have hS:SqL K H p (ns.map V.int):=SqL.of hp;refine⟨_,(qh (xw (Y7 (wn kn rfl T.isinstance_ cn (qw (pv 0) (qw (W6 (v:=V.ty "list") rfl T.list_ cX rfl) qv))) (Js (wn (Zz rfl) rfl T.all_ wqh (qw (kx (M:=[]) rfl rfl (by walk_at "cap") (by walk_at "has") (by walk_at "cix") rfl (by decide +kernel) rfl (show List.Nodup (["_law_number"]:List Str) by decide +kernel) (vc (pv 0)) (λ_ _ _ _ _=>(wu zbw (hr.mono ⋯) rfl Zm (qw (pv 0) qv)))) qv)))))),?_⟩;refine exI rfl ⟨_,_,_,_,rfl,TyOf.lst hp,rfl,_,rfl,?_⟩;refine yp ?_;refine exI rfl ⟨p,rfl,⟨_,hS⟩,?_⟩;refine Jh (K:=K) (M:=[]) (a:=p) (xs:=ns.map V.int) (λ_=>V.bl true) hS (by rw[ag];lia) (λx H' R hx hs hR=>?_) λq nq=>?_
 .obtain⟨i,_,rfl⟩:=aJ.mp hx;exact exI rfl ⟨i,rfl,hR⟩
 .have e:(ns.map V.int).map (λ_=>V.bl true)=(ns.map λ_=>true).map V.bl:=by rw[ba,ba];rfl
  rw[e];refine⟨q,ns.map λ_=>true,rfl,SqL.new,?_⟩;rw[xqj];exact k _ (Same.upd nq)
def qzm:Sp:=λvs H Q _=>∃x y:Int,vs=[.int x,.int y]/\0<=x/\0<=y/\Q (.int (Jv x y)) H
variable {x y:Int}
theorem wqm {tb:TS}{c:TT}{D:Ends}(hx:0<=x)(hy:0<=y)(hc:c=xqm (tOp (rI0 λi j=>.bl (decide (j<i))) (j4 1) (tC (.int 0))))(hb:tb=tPar 0 1 (yu (j4 1) (yu (tOp (rI (λ_ j=>0<j) λi j=>.int (i%j)) (j4 0) (j4 1)) qxd)))
  (hD:D.nx [some (.int (Jv x y)),some (.int 0)] H):wxv c tb D [some (.int x),some (.int y)] H:=by
 subst hc hb;refine Yh (λσ H1=>H1=H/\∃u v:Int,σ=[some (.int u),some (.int v)]/\0<=u/\0<=v/\Jv u v=Jv x y) (λσ _=>match σ with|[_,some (.int v)]=>v.toNat|_=>0) ⟨rfl,x,y,rfl,hx,hy,rfl⟩ ?_ λσ H Q Q' h ⟨v,e,i,j,e1,e2,k,e3,q⟩=>⟨v,e,i,j,e1,e2,k,e3,h _ _ q⟩;rintro σ H1 ⟨rfl,u,v,rfl,hu,hv,e⟩;refine exI rfl (wp rfl rfl (exI rfl ?_));refine kr (λq=>?_) (λq=>?_)
 .have h1:=cE u (show v≠0 by lia);have h2:=bV u q;refine exI rfl (exI rfl (exI rfl (wp rfl rfl ⟨q,_,_,rfl,⟨rfl,v,u%v,rfl,hv,h1,?_⟩,?_⟩)))
  .rw[wjr hu q,e]
  .show(u%v).toNat<v.toNat;lia
 .have z:v=0:=by lia
  subst z;rw[wyf hu]at e;subst e;exact hD
include T in
theorem zem (F:Fun K "common_divisor" "common_divisor" zay f fd):FK P w K mg base 1 f fd ["one","other"] qzm:=by
 have sc:=Z6;refine F.okX sc (λvs H Q E h=>by obtain⟨_,_,rfl,_⟩:=h;rfl) λ_ _ _ _ H vs Q E hr h=>?_;obtain⟨x,y,rfl,hx,hy,k⟩:=h;refine⟨_,(qj (Q6 bh (wt Wv (pv 1) qx (xv _)) (qh (xqf (i:=0) (j:=1) rfl sc.nd rfl rfl ⋯ rfl rfl (qw (pv 1) (qw (wz jn (pv 0) (pv 1)) qv)) rfl)))
   (qh (xw (pv 0)))),?_⟩
 exact wqm hx hy rfl rfl (exI rfl k)
include T in
theorem wj4 (F:Fun K "_law_common" "_law_common" zbl f fd):FK P w K mg base 1 f fd ["_law_one","_law_other"] qzm:=by
 have sc:=qx9;refine F.okX sc (λvs H Q E h=>by obtain⟨_,_,rfl,_⟩:=h;rfl) λ_ _ _ _ H vs Q E hr h=>?_;obtain⟨x,y,rfl,hx,hy,k⟩:=h;refine⟨_,(qj (Q6 bh (wt Wv (pv 1) qx (xv _)) (qh (xqf (i:=0) (j:=1) rfl sc.nd rfl rfl ⋯ rfl rfl (qw (pv 1) (qw (wz jn (pv 0) (pv 1)) qv)) rfl)))
   (qh (xw (pv 0)))),?_⟩
 exact wqm hx hy rfl rfl (exI rfl k)
def ptV (p:Int×Int):List V:=[.int p.1,.int p.2]
def Wu (C:Aj):Sp:=λvs H Q E=>∃t b:Int,vs=[.int t,.int b]/\(1<=b->Sm 9000 b/\∀p,H p=none->Q (.ref p) (upd H p (.tup (ptV (wy t b)))))/\(b<1->E (.ref C) none H)
include T in
theorem wjv (F:Fun K "lowest" "lowest" zaz f fd)(zby:Cal P w K mg base "check_bottom" 1 (qwb qk))(zen:Cal P w K mg base "common_divisor" 1 qzm) :
  FK P w K mg base 2 f fd ["top","bottom"] (Wu qk):=by
 have sc:=wkr;refine F.okX sc (λvs H Q E h=>by obtain⟨_,_,rfl,_⟩:=h;rfl) λ_ _ _ _ H vs Q E hr h=>?_;obtain⟨t,b,rfl,k,x⟩:=h;refine⟨_,(qj (vy (wu zby (hr.mono ⋯) rfl qt (qw (pv 1) qv)))
   (qj (wg (i:=2) (wu zen (hr.mono ⋯) rfl qt (qw (wn ux rfl T.abs_ uq (qw (pv 0) qv)) (qw (pv 1) qv))))
   (qh (xw (vj (qw (wz j9 (pv 0) (pv 2)) (qw (wz j9 (pv 1) (pv 2)) qv))))))),?_⟩
 refine⟨_,rfl,b,rfl,λg1=>?_,λg1=>x g1⟩;obtain⟨sb,k⟩:=k g1;have hg:=yf (t:=t) g1;have hs:Sm 9000 (gOf t b):=sb.of_le (by have:=wu4 (t:=t) g1;lia);refine exI rfl (exI rfl (exI rfl ⟨y8 t,b,rfl,qj3 t,⋯,?_⟩));refine exI rfl ⟨V.int (gOf t b),rfl,wp rfl rfl ⟨⟨⋯,hs⟩,exI rfl ⟨V.int (gOf t b),rfl,wp rfl rfl ⟨⟨⋯,hs⟩,sz2,λp n=>?_⟩⟩⟩⟩;exact k p n
def qk3 (K:Aa):Sp:=λvs H Q _=>∃p x y,vs=[.ref p]/\H p=some (.tup [.int x,.int y])/\1<=y/\gOf x y=1/\Q (.bl true) H
include T in
theorem xqs (F:Fun K "_law_point" "_law_point" zbt f fd)(zbw:Cal P w K mg base "_law_whole" 1 qwq)(zbz:Cal P w K mg base "_law_common" 1 qzm) :
  FK P w K mg base 2 f fd ["_law_found"] (qk3 K):=by
 have sc:=qvb;refine F.okX sc (λvs H Q E h=>by obtain⟨_,_,_,rfl,_⟩:=h;rfl) λ_ _ _ _ H vs Q E hr h=>?_;obtain⟨p,x,y,rfl,hp,y1,hg,k⟩:=h;have hq:SqT K H p [.int x,.int y]:=SqT.of hp;refine⟨_,(qj (zr (PW.pt (Qr (Qz (Qb (wn kn rfl T.isinstance_ cn (qw (pv 0) (qw (W6 (v:=V.ty "tuple") rfl T.tuple_ iJ rfl) qv))))) (yq (wt op_ne (wn xf rfl T.len_ bU (qw (pv 0) qv)) qx (xv _))))) (qh (xw qqb)) xg)
   (qj (zr (PW.pt (Qr (Qz (Qb (wu zbw (hr.mono ⋯) rfl qt (qw (wv wb (pv 0) qx (λ_ _=>rfl)) qv)))) (Qr (Qz (Qb (wu zbw (hr.mono ⋯) rfl qt (qw (wv wb (pv 0) qx (λ_ _=>rfl)) qv)))) (yq (wt Q3 (wv wb (pv 0) qx (λ_ _=>rfl)) qx (xv _)))))) (qh (xw qqb)) xg)
   (qh (xw (yd uz (wu zbz (hr.mono ⋯) rfl qt (qw (wn ux rfl T.abs_ uq (qw (wv wb (pv 0) qx (λ_ _=>rfl)) qv)) (qw (wv wb (pv 0) qx (λ_ _=>rfl)) qv))) qx (xv _)))))),?_⟩
 refine exI rfl ⟨_,_,_,_,rfl,TyOf.tup hp,rfl,_,rfl,?_⟩;refine jz ?_;refine exI rfl ⟨_,_,rfl,.inr hq,rfl,_,rfl,?_⟩;refine jz ?_;refine exI rfl (exX rfl rfl hq rfl ⟨x,rfl,_,rfl,?_⟩);refine jz ?_;refine exI rfl (exX rfl rfl hq rfl ⟨y,rfl,_,rfl,?_⟩);refine jz ?_;refine exI rfl (exX rfl rfl hq rfl (wp rfl rfl (exI rfl ?_)));refine kr (λq2=>absurd q2 ⋯) (λq2=>?_);refine exI rfl (exX rfl rfl hq rfl (exI rfl (exI rfl (exX rfl rfl hq rfl ⟨y8 x,y,rfl,qj3 x,⋯,rfl,?_⟩))));have e:Jv (y8 x) y=1:=hg;rw[e];exact k
variable {hs:List Int}
theorem xvu {wd:Int}(h:InW hs wd)(w1:1<=wd)(w2:wd<=24):wj hs:=by refine⟨by have:=h.1;lia,by have:=h.1;lia,λx hx=>?_⟩;have h1:=h.1;have h2:=h.2 x hx;lia
theorem wj5 {x dx:Aj}(nx:H x=none)(nd:H dx=none)(h:∀b o,upd (upd H dx (.own x)) x (.ins C dx []) b=some o->b≠x->H' b=some o):Same H H':=λb o e =>
 h b o (by rw[q8 (wx e nx),q8 (wx e nd)];exact e) (wx e nx)
variable {p:Aj}{o:HO}
theorem Same.upd2 (s:Same H H')(n:H p=none):Same H (L2.upd H' p o):=λb u e=>by rw[q8 (wx e n)];exact s b u e
theorem qxz {q:Int×Int}(h:SqT K H p [.int q.1,.int q.2]):RD K H (ptD q) (.ref p):=by unfold ptD;rw[RD];exact⟨p,exI rfl ⟨h,by rw[RDs];exact⟨_,_,rfl,by rw[RD],by rw[RDs];exact⟨_,_,rfl,by rw[RD],by rw[RDs]⟩⟩⟩⟩
theorem wzg {p q:Int×Int}:min (ptD p).depth (ptD q).depth<=60:=by simp[ptD,PyData.depth,PyData.depthAll]
variable {b:Int}
theorem y9 {d:Int}(hb:1<=b)(hd:1<=d):x*d=y*b↔wy x b=wy y d:=by
 constructor
 .intro e;rw[<-ut (t:=x) hb hd,e,bC b d,ut hd hb]
 .intro e;have c1:=zd (t:=x) hb;have c2:=zd (t:=y) hd;have v1:=zg (t:=x) hb;rw[<-e]at c2;have h:x*d*(wy x b).2=y*b*(wy x b).2:=by
   have a1:x*d*(wy x b).2=x*(wy x b).2*d:=by grind
   have a2:y*b*(wy x b).2=y*(wy x b).2*b:=by grind
   rw[a1,a2,<-c1,<-c2];grind
  exact Int.eq_of_mul_eq_mul_right ⋯ h
theorem xzj {CB:Aj}{x dx:Aj}{Pp:Hp->Prop}{E:XK}(f:H p=some (.lst (hs.map V.int)))(nx:H x=none)(nd:H dx=none)(k:wj hs->∀H',Same H H'->RoadAt C H' x hs->Pp H')(bad:¬ wj hs->∀H',Same H H'->E (.ref CB) none H') :
  qk8 K CB C [.ref x,.ref p] (upd (upd H dx (.own x)) x (.ins C dx [])) (λr H2=>r=.non/\Pp H2) E:=by
 refine⟨x,dx,p,hs,rfl,qf,SqL.of (by rw[q8 (wx f nx),q8 (wx f nd)];exact f),λok H4 q nq kp r l=>⟨rfl,k ok H4 (wj5 nx nd kp) ⟨dx,q,r,l⟩⟩,λz=>bad z _ ?_⟩;exactλb o e=>by rw[q8 (wx e nx),q8 (wx e nd)];exact e
theorem wx5 {k:Int}(h0:0<=k)(h1:k<hs.length):atI (hs.map V.int) k=some (V.int (hAt hs k)):=qq9 h0 h1
theorem wvg (ok:wj hs)(k:Int):0<=hAt hs k/\hAt hs k<=24:=by
 unfold hAt;rw[af];cases e:hs[k.toNat]? with
 |none=>exact⟨⋯,⋯⟩
 |some v =>
  have hm:=ok.2.2 v (aC e);have:=ok.2.1;show 0<=v/\v<=24;lia
def Jp (C CR:Aj):Sp:=λvs H Q E=>∃(r:Aj) (hs:List Int) (k:Int),vs=[.ref r,.int k]/\RoadAt C H r hs/\(0<=k->k<(hs.length:Int)-1->∀p,H p=none->Q (.ref p) (upd H p (.tup [.int (hAt hs k),.int (hAt hs (k+1))]))) /\
 (k<0\/(hs.length:Int)-1<=k->E (.ref CR) none H)
include T in
theorem xvx (F:Fun K "ends" "Road.ends" zba f fd)(zaa:MCal P w K mg base qy "width" 1 (j3 qy)):FK P w K mg base 2 f fd ["self","stretch"] (Jp qy qm):=by
 have sc:=qyn;refine F.okX sc (λvs H Q E h=>by obtain⟨_,_,_,rfl,_⟩:=h;rfl) λ_ _ _ _ H vs Q E hr h=>?_;obtain⟨r,hs,k,rfl,hR,kq,x⟩:=h;obtain⟨dx,q,h1,h2⟩:=id hR;refine⟨_,(qj (zr (PW.pt (Qr (wt Q3 (pv 1) qx (xv _)) (yq (wt wz1 (pv 1) (km (pv 0) T.cl zaa (hr.mono ⋯) qt) (xv _))))) (qh (ud rfl T.zap jy rfl T.zeh (qw Jd qv))) xg)
   (qh (xw (vj (qw (wv x8 (qyv (pv 0) rfl) (pv 1) (λ_ _=>rfl)) (qw (wv x8 (qyv (pv 0) rfl) (wz x9 (pv 1) qx) (λ_ _=>rfl)) qv)))))),?_⟩
 refine exI rfl (wp rfl rfl (exI rfl ?_));refine kr (λq1=>?_) (λq1=>?_)
 .refine yp ?_;exact⟨sz1,x (.inl q1)⟩
 .refine exI rfl (exI rfl ⟨r,dx,exI rfl ⟨h1,xr (by decide +kernel),r,hs,rfl,hR,wp rfl rfl (exI rfl ?_)⟩⟩);refine kr (λq2=>?_) (λq2=>?_)
  .exact⟨sz1,x (.inr q2)⟩
  .refine exI rfl ⟨r,qy,dx,_,_,rfl,h1,T.cl,T.na,jt,exI rfl (exX rfl rfl (SqL.of h2) (wx5 ⋯ ⋯) (exI rfl ⟨r,qy,dx,_,_,rfl,h1,T.cl,T.na,jt,exI rfl (wp rfl rfl (exX rfl rfl (SqL.of h2) (wx5 ⋯ ⋯) ⟨sz2,λp np=>?_⟩))⟩))⟩;exact kq ⋯ ⋯ p np
def zn (hs:List Int)(t b:Int):Prop:=0<=t/\t<=((hs.length:Int)-1)*b
def Z3 (K:Aa)(C CB CO:Aj):Sp:=λvs H Q E=>∃(r p:Aj) (hs:List Int) (t b:Int),vs=[.ref r,.ref p]/\RoadAt C H r hs/\wj hs/\SqT K H p [.int t,.int b] /\
 (1<=b->Sm 8000 b/\(zn hs t b->∀q H',Same H H'->H' q=some (.tup (ptV (wy t b)))->Q (.ref q) H')/\(¬ zn hs t b->∀H',Same H H'->E (.ref CO) none H'))/\(b<1->E (.ref CB) none H)
include T in
theorem wxz (F:Fun K "on_road" "Road.on_road" zbd f fd)(zaa:MCal P w K mg base qy "width" 1 (j3 qy))(zah:Cal P w K mg base "lowest" 2 (Wu qk)) :
  FK P w K mg base 3 f fd ["self","point"] (Z3 K qy qk qg):=by
 have sc:=qqr;refine F.okX sc (λvs H Q E h=>by obtain⟨_,_,_,_,_,rfl,_⟩:=h;rfl) λ_ _ _ _ H vs Q E hr h=>?_;obtain⟨r,p,hs,t,b,rfl,hR,hok,hp,kq,x⟩:=h;obtain⟨dx,q,h1,h2⟩:=id hR;refine⟨_,(qj (u7 (wu zah (hr.mono ⋯) rfl qt (qw (wv wb (pv 1) qx (λ_ _=>rfl)) (qw (wv wb (pv 1) qx (λ_ _=>rfl)) qv))) (y7 rfl (zk (xy (i:=2)) (zk (xy (i:=3)) jb))))
   (qj (zr (PW.pt (Qr (wt Q3 (pv 2) qx (xv _)) (yq (wt Wv (pv 2) (wz xk (km (pv 0) T.cl zaa (hr.mono ⋯) qt) (pv 3)) (xv _))))) (qh (ud rfl T.zam jy rfl T.zee (qw Jd qv))) xg)
   (qh (xw (vj (qw (pv 2) (qw (pv 3) qv))))))),?_⟩
 refine⟨_,rfl,_,_,_,_,rfl,rfl,hp,rfl,_,rfl,_,_,_,_,rfl,rfl,hp,rfl,t,b,rfl,λhb=>⟨(kq hb).1.mono ⋯,λp1 n1=>?_⟩,λz=>x z⟩;obtain⟨sb,k1,k2⟩:=kq hb;have s1:Same H (upd H p1 (.tup (ptV (wy t b)))):=Same.upd n1;have hl:=hok.2.1;refine⟨p1,exI rfl ⟨SqT.new,rfl,_,_,rfl,_,_,rfl,rfl,?_⟩⟩;refine exI rfl (wp rfl rfl (exI rfl ?_));refine kr (λq1=>?_) (λq1=>?_)
 .refine yp ?_;exact⟨sz1,k2 (λz=>by have:=(Yp hb).mp q1;have:=z.1;lia) _ s1⟩
 .refine exI rfl (exI rfl ⟨r,dx,exI rfl ⟨s1 _ _ h1,xr (by decide +kernel),r,hs,rfl,hR.same s1,exI rfl (wp rfl rfl ⟨IntMulOk.of_left (intBits_le_64 ⋯ ⋯),wp rfl rfl (exI rfl ?_)⟩)⟩⟩);refine kr (λq2=>?_) (λq2=>?_)
  .exact⟨sz1,k2 (λz=>by have:=(qyg hb).mp q2;have:=z.2;lia) _ s1⟩
  .refine exI rfl (exI rfl ⟨sz2,λp2 n2=>?_⟩);refine k1 ⟨?_,?_⟩ p2 _ (s1.trans (Same.upd n2)) qf
   .rcases bD t 0 with z|z
    .exact absurd ((Yp hb).mpr z) q1
    .exact z
   .rcases bD (((hs.length:Int)-1)*b) t with z|z
    .exact absurd ((qyg hb).mpr z) q2
    .exact z
def spAt (K:Aa)(C CB CO:Aj):Sp:=λvs H Q E=>∃(r p:Aj) (hs:List Int) (t b:Int),vs=[.ref r,.ref p]/\RoadAt C H r hs/\wj hs/\SqT K H p [.int t,.int b] /\
 (1<=b->Sm 8000 b/\(zn hs t b->∀q H',Same H H'->H' q=some (.tup (ptV (Yb hs t b)))->Q (.ref q) H')/\(¬ zn hs t b->∀H',Same H H'->E (.ref CO) none H'))/\(b<1->E (.ref CB) none H)
include T in
theorem zeo (F:Fun K "at" "Road.at" zbe f fd)(zaa:MCal P w K mg base qy "width" 1 (j3 qy))(zah:Cal P w K mg base "lowest" 2 (Wu qk))(zag:MCal P w K mg base qy "ends" 2 (Jp qy qm))
  (zb0:MCal P w K mg base qy "on_road" 3 (Z3 K qy qk qg)):FK P w K mg base 4 f fd ["self","point"] (spAt K qy qk qg):=by
 have sc:=wx6;refine F.okX sc (λvs H Q E h=>by obtain⟨_,_,_,_,_,rfl,_⟩:=h;rfl) λ_ _ _ _ H vs Q E hr h=>?_;obtain⟨r,p,hs,t,b,rfl,hR,hok,hp,kq,x⟩:=h;obtain⟨dx,q,h1,h2⟩:=id hR;refine⟨_,(qj (u7 (k9 (pv 0) T.cl zb0 (hr.mono ⋯) qt (qw (pv 1) qv)) (y7 rfl (zk (xy (i:=2)) (zk (xy (i:=3)) jb))))
   (qj (wg (i:=4) (wn (W4 rfl) rfl T.min_ dR (qw (wz j9 (pv 2) (pv 3)) (qw (wz zm (km (pv 0) T.cl zaa (hr.mono ⋯) qt) qx) qv))))
   (qj (u7 (k9 (pv 0) T.cl zag (hr.mono ⋯) qt (qw (pv 4) qv)) (y7 rfl (zk (xy (i:=5)) (zk (xy (i:=6)) jb))))
   (qj (wg (i:=7) (wz zm (pv 2) (wz xk (pv 4) (pv 3))))
   (qh (xw (wu zah (hr.mono ⋯) rfl qt (qw (wz x9 (wz xk (pv 5) (pv 3)) (wz xk (wz zm (pv 6) (pv 5)) (pv 7))) (qw (pv 3) qv))))))))),?_⟩
 refine⟨_,rfl,r,dx,_,rfl,h1,xr (by decide +kernel),_,rfl,r,p,hs,t,b,rfl,hR,hok,hp,λhb=>⟨(kq hb).1,λhon p1 H1 s1 f1=>?_,λhoff H1 s1=>(kq hb).2.2 hoff H1 s1⟩,λz=>x z⟩;obtain⟨sb,k1,k2⟩:=kq hb;have hl1:=hok.1;have hl2:=hok.2.1;have hy:=zg (t:=t) hb;have hyb:=yt (t:=t) hb;have hx:0<=(wy t b).1:=by
  rcases bD (wy t b).1 0 with z|z
  .have:=(Yp hb).mp z;have:=hon.1;lia
  .exact z
 have hk:=wuq (hs:=hs) hl1 hy hx;have sy:Sm 9000 (wy t b).2:=(sb.of_le ⋯).mono ⋯;refine⟨p1,exI rfl ⟨SqT.of f1,rfl,_,_,rfl,_,_,rfl,rfl,?_⟩⟩;refine exI rfl (exI rfl (wp rfl rfl ⟨⟨⋯,sy⟩,exI rfl ⟨r,dx,exI rfl ⟨s1 _ _ h1,xr (by decide +kernel),r,hs,rfl,hR.same s1,wp rfl rfl ⟨_,_,rfl,?_⟩⟩⟩⟩));refine⟨_,rfl,r,dx,_,rfl,s1 _ _ h1,xr (by decide +kernel),V.int (kF hs (wy t b).1 (wy t b).2),rfl,r,hs,kF hs (wy t b).1 (wy t b).2,rfl,hR.same s1,λ_ _ p2 n2=>?_,λz=>absurd z ⋯⟩;have g1:=wvg hok (kF hs (wy t b).1 (wy t b).2);have g2:=wvg hok (kF hs (wy t b).1 (wy t b).2+1);refine⟨p2,exI rfl ⟨SqT.new,rfl,_,_,rfl,_,_,rfl,rfl,?_⟩⟩;refine exI rfl ⟨V.int (kF hs (wy t b).1 (wy t b).2),rfl,exI rfl (wp rfl rfl ⟨IntMulOk.of_left (intBits_le_64 ⋯ ⋯),wp rfl rfl ?_⟩)⟩;refine exI rfl (exI rfl (wp rfl rfl ⟨IntMulOk.of_left (intBits_le_64 ⋯ ⋯),exI rfl (exI rfl (wp rfl rfl (exI rfl (wp rfl rfl ⟨IntMulOk.of_left (intBits_le_64 ⋯ ⋯),wp rfl rfl (exI rfl ?_)⟩))))⟩));refine⟨vd hs (wy t b).1 (wy t b).2,(wy t b).2,rfl,λ_=>⟨sy,λp3 n3=>?_⟩,λz=>absurd z ⋯⟩;have e:wy (vd hs (wy t b).1 (wy t b).2) (wy t b).2=Yb hs t b:=qv8 hb;rw[e];exact k1 hon p3 _ (s1.trans ((Same.upd n2).trans (Same.upd n3))) qf
def jj (a b:Int):Int:=if b<a then b else a
def Qu (a b:Int):Int:=if b>a then b else a
variable {a:Int}
theorem xzr:jj a b<=a/\jj a b<=b/\(jj a b=a\/jj a b=b):=by unfold jj;split <;> lia
theorem xx2:a<=Qu a b/\b<=Qu a b/\(Qu a b=a\/Qu a b=b):=by unfold Qu;split <;> lia
def loH (hs:List Int)(k:Int):Int:=jj (hAt hs k) (hAt hs (k+1))
def hiH (hs:List Int)(k:Int):Int:=Qu (hAt hs k) (hAt hs (k+1))
def qj6 (C CR:Aj):Sp:=λvs H Q E=>∃(r:Aj) (hs:List Int) (k:Int),vs=[.ref r,.int k]/\RoadAt C H r hs/\(0<=k->k<(hs.length:Int)-1->∀H',Same H H'->Q (.int (hAt hs (k+1)-hAt hs k)) H') /\
 (k<0\/(hs.length:Int)-1<=k->E (.ref CR) none H)
include T in
theorem xqn (F:Fun K "slope" "Road.slope" zbb f fd)(zag:MCal P w K mg base qy "ends" 2 (Jp qy qm)):FK P w K mg base 3 f fd ["self","stretch"] (qj6 qy qm):=by
 have sc:=qvk;refine F.okX sc (λvs H Q E h=>by obtain⟨_,_,_,rfl,_⟩:=h;rfl) λ_ _ _ _ H vs Q E hr h=>?_;obtain⟨r,hs,k,rfl,hR,kq,x⟩:=h;obtain⟨dx,q,h1,h2⟩:=id hR;refine⟨_,(qj (u7 (k9 (pv 0) T.cl zag (hr.mono ⋯) qt (qw (pv 1) qv)) (y7 rfl (zk (xy (i:=2)) (zk (xy (i:=3)) jb))))
   (qh (xw (wz zm (pv 3) (pv 2))))),?_⟩
 refine⟨_,rfl,r,dx,_,rfl,h1,xr (by decide +kernel),V.int k,rfl,r,hs,k,rfl,hR,λa b p n=>?_,λz=>x z⟩;refine⟨p,exI rfl ⟨SqT.new,rfl,_,_,rfl,_,_,rfl,rfl,?_⟩⟩;exact exI rfl (exI rfl (wp rfl rfl (kq a b _ (Same.upd n))))
def qkp (C CR:Aj):Sp:=λvs H Q E=>∃(r:Aj) (hs:List Int) (k:Int),vs=[.ref r,.int k]/\RoadAt C H r hs/\(0<=k->k<(hs.length:Int)-1->∀p H',Same H H'->H' p=some (.tup [.int (loH hs k),.int (hiH hs k)])->Q (.ref p) H') /\
 (k<0\/(hs.length:Int)-1<=k->E (.ref CR) none H)
include T in
theorem xwm (F:Fun K "reach" "Road.reach" zbc f fd)(zag:MCal P w K mg base qy "ends" 2 (Jp qy qm)):FK P w K mg base 3 f fd ["self","stretch"] (qkp qy qm):=by
 have sc:=qvp;refine F.okX sc (λvs H Q E h=>by obtain⟨_,_,_,rfl,_⟩:=h;rfl) λ_ _ _ _ H vs Q E hr h=>?_;obtain⟨r,hs,k,rfl,hR,kq,x⟩:=h;obtain⟨dx,q,h1,h2⟩:=id hR;refine⟨_,(qj (u7 (k9 (pv 0) T.cl zag (hr.mono ⋯) qt (qw (pv 1) qv)) (y7 rfl (zk (xy (i:=2)) (zk (xy (i:=3)) jb))))
   (qh (xw (vj (qw (wn (W4 rfl) rfl T.min_ dR (qw (pv 2) (qw (pv 3) qv))) (qw (wn (W5 rfl) rfl T.max_ df (qw (pv 2) (qw (pv 3) qv))) qv)))))),?_⟩
 refine⟨_,rfl,r,dx,_,rfl,h1,xr (by decide +kernel),V.int k,rfl,r,hs,k,rfl,hR,λa b p n=>?_,λz=>x z⟩;refine⟨p,exI rfl ⟨SqT.new,rfl,_,_,rfl,_,_,rfl,rfl,?_⟩⟩;refine exI rfl (exI rfl ⟨_,_,rfl,exI rfl (exI rfl ⟨_,_,rfl,sz2,λp2 n2=>?_⟩)⟩);exact kq a b p2 _ ((Same.upd n).trans (Same.upd n2)) qf
theorem lohi (ok:wj hs)(k:Int):0<=loH hs k/\loH hs k<=hiH hs k/\hiH hs k<=(hs.length:Int)-1:=by
 have g:∀j,0<=hAt hs j/\hAt hs j<=(hs.length:Int)-1:=λj=>by
  unfold hAt;rw[af];have l:=ok.1;cases e:hs[j.toNat]? with
  |none=>exact⟨⋯,by show(0:Int)<=_;lia⟩
  |some v=>exact ok.2.2 v (aC e)
 have a:=g k;have b:=g (k+1);have c:=xzr (a:=hAt hs k) (b:=hAt hs (k+1));have d:=xx2 (a:=hAt hs k) (b:=hAt hs (k+1));unfold loH hiH;lia
def jp (hs:List Int)(k:Int):List Int:=(List.range (hiH hs k-loH hs k).toNat).map λj:Nat=>loH hs k+j
theorem xqv (hs:List Int)(k:Int):((List.range (hiH hs k-loH hs k).toNat).map λj:Nat=>V.int (loH hs k+j))=(jp hs k).map V.int:=by unfold jp;rw[ba];rfl
def Y4 (C CR:Aj):Sp:=λvs H Q E=>∃(r:Aj) (hs:List Int) (k:Int),vs=[.ref r,.int k]/\RoadAt C H r hs/\wj hs/\(0<=k->k<(hs.length:Int)-1->∀p H',H p=none->Same H H'->H' p=some (.lst ((jp hs k).map V.int))->Q (.ref p) H') /\
 (k<0\/(hs.length:Int)-1<=k->E (.ref CR) none H)
include T in
theorem ww5 (F:Fun K "covered" "covered" zaq f fd)(zep:MCal P w K mg base qy "reach" 3 (qkp qy qm)):FK P w K mg base 4 f fd ["road","stretch"] (Y4 qy qm):=by
 have sc:=wwr;refine F.okX sc (λvs H Q E h=>by obtain⟨_,_,_,rfl,_⟩:=h;rfl) λ_ _ _ _ H vs Q E hr h=>?_;obtain⟨r,hs,k,rfl,hR,ok,kq,x⟩:=h;obtain⟨dx,q,h1,h2⟩:=id hR;refine⟨_,(qj (u7 (k9 (pv 0) T.cl zep (hr.mono ⋯) qt (qw (pv 1) qv)) (y7 rfl (zk (xy (i:=2)) (zk (xy (i:=3)) jb))))
   (qh (xw (qvm rfl rfl T.list_ rfl T.range_ (qw (pv 2) (qw (pv 3) qv)))))),?_⟩
 refine⟨_,rfl,r,dx,_,rfl,h1,xr (by decide +kernel),V.int k,rfl,r,hs,k,rfl,hR,λa b p H1 s1 f1=>?_,λz=>x z⟩;have hl:=lohi ok k;have ol:=ok.2.1;refine⟨p,exI rfl ⟨SqT.of f1,rfl,_,_,rfl,_,_,rfl,rfl,?_⟩⟩;refine⟨_,rfl,_,rfl,_,_,rfl,⟨⋯,⋯,⋯,⋯⟩,⋯,λp2 n2=>?_⟩;refine kq a b p2 _ ?_ (s1.trans (Same.upd n2)) (by rw[qf,xqv]);cases e:H p2 with
 |none=>rfl
 |some o=>rw[s1 _ _ e]at n2;cases n2
theorem qkr (ok:wj hs)(k:Int):0<=hAt hs k/\hAt hs k<=(hs.length:Int)-1:=by
 unfold hAt;rw[af];have:=ok.1;cases e:hs[k.toNat]? with
 |none=>exact⟨⋯,by show(0:Int)<=_;lia⟩
 |some v=>exact ok.2.2 v (aC e)
variable {t:Int}
theorem wv4 (hok:wj hs)(hb:1<=b)(hon:zn hs t b):zn hs (vd hs t b) b:=by
 have hl1:=hok.1;have hk:=wuq (hs:=hs) hl1 hb hon.1;have g1:=qkr hok (kF hs t b);have g2:=qkr hok (kF hs t b+1);have e1:0<=t-kF hs t b*b/\t-kF hs t b*b<=b:=by
  have h1:t/b*b<=t:=iQ t ⋯;have h2:=Int.lt_ediv_add_one_mul_self t (show 0<b by lia);unfold kF;split
  .next z =>
   have h3:=au (show(hs.length:Int)-1-1<=t/b by lia) (show 0<=b by lia);have h4:=hon.2;constructor
   .lia
   .have:((hs.length:Int)-1)*b=((hs.length:Int)-1-1)*b+b:=by grind
    lia
  .have:(t/b+1)*b=t/b*b+b:=by grind
   constructor <;> lia
 have r:=xxg (u:=hAt hs (kF hs t b)) (v:=hAt hs (kF hs t b+1)) e1.1 e1.2;refine⟨dF ?_ r.1,dF r.2 ?_⟩
 .refine bg ?_ ⋯;split <;> lia
 .refine au ?_ ⋯;split <;> lia
theorem low_on (hb:1<=b)(hon:zn hs t b):zn hs (wy t b).1 (wy t b).2:=by
 constructor
 .rcases bD (wy t b).1 0 with z|z
  .have:=(Yp hb).mp z;have:=hon.1;lia
  .exact z
 .rcases bD (((hs.length:Int)-1)*(wy t b).2) (wy t b).1 with z|z
  .have:=(qyg hb).mp z;have:=hon.2;lia
  .exact z
def itP (hs:List Int)(p:Int×Int):Nat->Int×Int
 |0=>p
 |n+1=>Yb hs (itP hs p n).1 (itP hs p n).2
def Pt (hs:List Int)(c:Int)(p:Int×Int):Prop:=1<=p.2/\p.2<=c/\gOf p.1 p.2=1/\zn hs p.1 p.2
theorem xwg (hb:1<=b)(hon:zn hs t b):Pt hs b (wy t b):=⟨zg hb,yt hb,qjn hb,low_on hb hon⟩
theorem xzd {c:Int}{p:Int×Int}(hok:wj hs)(h:Pt hs c p):Pt hs c (Yb hs p.1 p.2):=by have a:=xwg h.1 (wv4 hok h.1 h.2.2.2);exact⟨a.1,dF a.2.1 h.2.1,a.2.2.1,a.2.2.2⟩
theorem pt_it {c:Int}{p:Int×Int}(hok:wj hs)(h:Pt hs c p):∀n,Pt hs c (itP hs p n)
 |0=>h
 |n+1=>xzd hok (pt_it hok h n)
def trT (hs:List Int)(t b:Int):Nat->Int
 |0=>t
 |n+1=>vd hs (trT hs t b n) b
theorem wuk (hok:wj hs)(hb:1<=b)(hon:zn hs t b):∀n,zn hs (trT hs t b n) b
 |0=>hon
 |n+1=>wv4 hok hb (wuk hok hb hon n)
theorem wz4 (hb:1<=b):∀n,wy (trT hs t b n) b=itP hs (wy t b) n
 |0=>rfl
 |n+1=>by show Yb hs (trT hs t b n) b=Yb hs (itP hs (wy t b) n).1 (itP hs (wy t b) n).2;rw[<-wz4 hb n,qv8 hb]
def wx4 (hs:List Int)(p:Int×Int)(n:Nat):List (Int×Int):=(List.range n).map (itP hs p)
theorem Jz (hs:List Int)(p:Int×Int)(n:Nat):wx4 hs p (n+1)=wx4 hs p n++[itP hs p n]:=by unfold wx4;rw[bL,aW];rfl
theorem Wn (hs:List Int)(p:Int×Int)(n:Nat):(wx4 hs p n).length=n:=by unfold wx4;rw[ag,aG]
def PtR (H:Hp)(v:V)(p:Int×Int):Prop:=∃a,v=.ref a/\H a=some (.tup [.int p.1,.int p.2])
variable {v:V}
theorem PtR.same {p:Int×Int}(h:PtR H v p)(s:Same H H'):PtR H' v p:=by obtain⟨a,e,f⟩:=h;exact⟨a,e,s _ _ f⟩
theorem PtR.upd {p:Int×Int}{xs:List V}(h:PtR H v p)(hq:H q=some (.lst xs)):PtR (L2.upd H q o) v p:=by obtain⟨a,e,f⟩:=h;refine⟨a,e,?_⟩;rw[q8 (λz=>by rw[z,hq]at f;cases f)];exact f
variable {α β:Type}
theorem qxy {F G:α->β->Prop}(h:∀a b,F a b->G a b):∀ {l:List α} {m:List β},Paired F l m->Paired G l m
 |_,_,.nil=>.nil
 |_,_,.cons a t=>.cons (h _ _ a) (qxy h t)
theorem qzb {F:α->β->Prop}:∀ {l:List α} {m:List β} {i:Nat} {a:α},Paired F l m->l[i]?=some a->∃b,m[i]?=some b/\F a b
 |_,_,0,_,.cons a _,e=>by cases e;exact exI rfl a
 |_,_,i+1,_,.cons _ t,e=>qzb (i:=i) t e
theorem Y3 {F:α->β->Prop}:∀ {l:List α} {m:List β} {i:Nat} {b:β},Paired F l m->m[i]?=some b->∃a,l[i]?=some a/\F a b
 |_,_,0,_,.cons a _,e=>by cases e;exact exI rfl a
 |_,_,i+1,_,.cons _ t,e=>Y3 (i:=i) t e
theorem qut {F:α->β->Prop}:∀ {l:List α} {m:List β} {a:α},Paired F l m->a∈l->∃b,b∈m/\F a b
 |_,_,_,.cons a t,e=>by
  rcases aM.mp e with rfl|e
  .exact⟨_,.head _,a⟩
  .obtain⟨b,hb,fb⟩:=qut t e;exact⟨b,.tail _ hb,fb⟩
def PtsAt (H:Hp)(q:Aj)(ps:List (Int×Int)):Prop:=∃vs,H q=some (.lst vs)/\Paired (PtR H) vs ps
theorem xqb:∀ {vs:List V} {ps:List (Int×Int)},Paired (PtR H) vs ps->RDs K H (ps.map ptD) vs
 |_,_,.nil=>by rw[cV,RDs]
 |_,_,.cons a t=>by obtain⟨p,rfl,f⟩:=a;rw[aD,RDs];exact⟨_,_,rfl,qxz (SqT.of f),xqb t⟩
variable {ps:List (Int×Int)}
theorem PtsAt.rd (h:PtsAt H q ps):RD K H (.list (ps.map ptD)) (.ref q):=by obtain⟨vs,f,r⟩:=h;rw[RD];exact⟨q,exI rfl ⟨SqL.of f,xqb r⟩⟩
theorem qyr (ps:List (Int×Int)):(PyData.list (ps.map ptD)).canLay0=true:=by rw[PyData.canLay0];exact wky ps
theorem xx3 (ps qs:List (Int×Int)):min (PyData.list (ps.map ptD)).depth (PyData.list (qs.map ptD)).depth<=60:=by have h1:=qjc ps;simp only[PyData.depth];lia
theorem wz9 (ps:List (Int×Int)):PyData.eqv (.list (ps.map ptD)) (.list (ps.map ptD))=true:=by rw[PyData.eqv,wku,aS rfl]
theorem Wp (ok:wj hs)(k:Int):∀v∈jp hs k,0<=v/\v<((hs.length-1:Nat):Int):=λv hv=>by have l:=lohi ok k;have:=ok.1;unfold jp at hv;obtain⟨j,hj,rfl⟩:=aJ.mp hv;have:=ay.mp hj;lia
theorem wwz (ok:wj hs)(k:Int):(jp hs k).length<=24:=by have l:=lohi ok k;have:=ok.2.1;unfold jp;rw[ag,aG];lia
def zx (hs:List Int):Nat->List Int:=λi=>jp hs ((0:Int)+i)
def CovAt (H:Hp)(p:Aj)(hs:List Int):Prop:=∃ys,H p=some (.lst ys)/\ys.length=hs.length-1/\∀i v,ys[i]?=some v->∃q,v=.ref q/\H q=some (.lst ((zx hs i).map V.int))
theorem CovAt.same (h:CovAt H p hs)(s:Same H H'):CovAt H' p hs:=by obtain⟨ys,e,l,r⟩:=h;exact⟨ys,s _ _ e,l,λi v z=>let ⟨q,a,b⟩:=r i v z;⟨q,a,s _ _ b⟩⟩
theorem qxn (g:Nat->List V):Stay λi v H=>∃q,v=.ref q/\H q=some (.lst (g i)):=λi v H H' p h nv st=>by obtain⟨q,rfl,e⟩:=h;exact⟨q,rfl,st q _ (λz=>nv (by rw[z])) e⟩
def Qk (C:Aj):Sp:=λvs H Q _=>∃(r:Aj) (hs:List Int),vs=[.ref r]/\RoadAt C H r hs/\wj hs/\∀p H',H p=none->Same H H'->CovAt H' p hs->Q (.ref p) H'
include T in
theorem qyu (F:Fun K "covers_of" "covers_of" zar f fd)(zaa:MCal P w K mg base qy "width" 1 (j3 qy))(zeq:Cal P w K mg base "covered" 4 (Y4 qy qm)):FK P w K mg base 5 f fd ["road"] (Qk qy):=by have sc:=qks;refine F.okX sc (λvs H Q E h=>by obtain⟨_,_,rfl,_⟩:=h;rfl) λ_ _ _ s H vs Q E hr h=>?_;obtain⟨r,hs,rfl,hR,ok,k⟩:=h;obtain⟨dx,q,h1,h2⟩:=id hR;have o1:=ok.1;have o2:=ok.2.1;refine⟨_,(qh (xw (kx (M:=[0]) rfl rfl (by walk_at "cap") (by walk_at "has") (by walk_at "cix") rfl (by decide +kernel) rfl (show List.Nodup (["stretch","road"]:List Str) by decide +kernel) (xh rfl T.range_ (qw (km (pv 0) T.cl zaa (hr.mono ⋯) qt) qv)) (λ_ _ _ _ _=>(wu zeq (hr.mono ⋯) rfl Zm (qw (pv 1) (qw (pv 0) qv))))))),?_⟩;refine exI rfl ⟨r,dx,exI rfl ⟨h1,xr (by decide +kernel),r,hs,rfl,hR,exI rfl ⟨⋯,⋯,Q7 (λi v H=>∃q,v=.ref q/\H q=some (.lst ((zx hs i).map V.int))) (qxn _) ⋯ (λi H' R hi s' hR'=>?_) λp ys H' np s' f l hG=>k p H' np s' ⟨ys,f,⋯,λi v e=>(hG i v e).1⟩⟩⟩⟩;refine⟨_,rfl,_,rfl,r,hs,_,rfl,hR.same s',ok,λ_ _ p2 H2 n2 s2 f2=>hR' (.ref p2) H2 s2 ⟨p2,rfl,f2⟩ λb e=>?_,λz=>absurd z ⋯⟩;cases e;exact n2
def qzq:Sp:=λvs H Q _=>∃w:Int,vs=[.int w]/\0<=w/\w<=24/\∀(cov:Nat->List Int) p H',H p=none->Same H H'->MatAt H' p w.toNat (zh cov 0)->Q (.ref p) H'
include T in
theorem wxm (F:Fun K "ways_of_no_step" "ways_of_no_step" zas f fd):FK P w K mg base 1 f fd ["width"] qzq:=by
 have sc:=Zg;refine F.okX sc (λvs H Q E h=>by obtain⟨_,rfl,_⟩:=h;rfl) λ_ _ _ s H vs Q E hr h=>?_;obtain⟨w,rfl,w0,w1,k⟩:=h;refine⟨_,(qh (xw (qxg (M:=[0]) rfl rfl (by walk_at "cap") (by walk_at "hasK") (by walk_at "cix") rfl (by decide +kernel) (by intro _;rfl) (by intro _;rfl) rfl (show List.Nodup (["begin","width"]:List Str) by decide +kernel) (xh rfl T.range_ (qw (pv 0) qv)) (λ_ _ _ _ _=>(kx (M:=[0]) rfl rfl (by walk_at "cap") (by walk_at "has") (by walk_at "cix") rfl (by decide +kernel) rfl (show List.Nodup (["end","begin"]:List Str) by decide +kernel) (xh rfl T.range_ (qw (pv 1) qv)) (λ_ _ _ _ _=>(wq6 (wt uz (pv 0) (pv 1) (xv _)) qx qx))))))),?_⟩;refine exI rfl ⟨w,rfl,⋯,⋯,Q7 (λi v H=>∃q,v=.ref q/\H q=some (.lst ((zp w.toNat (zh (λ_=>[]) 0 i)).map V.int))) (qxn _) ⋯ (λi H' R hi s' hR'=>?_) λp ys H' np s' f l hG=>k (λ_=>[]) p H' np s' ⟨ys,f,l,λi v e=>(hG i v e).1⟩⟩;refine exI rfl ⟨w,rfl,⋯,⋯,kh (λj=>V.int (zh (λ_=>[]) 0 i j)) ⋯ (λj H2 R2 hj s2 hR2=>?_) λq nq=>hR' (.ref q) _ (Same.upd nq) ⟨q,rfl,by rw[qf,qx5]⟩ λb e=>by cases e;exact nq⟩;refine exI rfl (exI rfl ⟨rfl,_,rfl,uw (λe=>?_) (λe=>?_)⟩)
 .have:zh (λ_=>[]) 0 i j=1:=aw ⋯;rw[this]at hR2;exact hR2
 .have:zh (λ_=>[]) 0 i j=0:=ar ⋯;rw[this]at hR2;exact hR2
def Y6 (hs:List Int):Sp:=λvs H Q _=>∃(c t:Aj) (f:Nat->Nat->Int),vs=[.ref c,.ref t]/\CovAt H c hs/\MatAt H t (hs.length-1) f/\∀p H',H p=none->Same H H'->MatAt H' p (hs.length-1) (λi j=>((zx hs i).map λv=>f v.toNat j).sum)->Q (.ref p) H'
def picks (f:Nat->Nat->Int)(j:Nat):V->V
 |.int z=>.int (f z.toNat j)
 |_=>.non
variable {j:Nat}{g:Nat->Int}
theorem at_row {n:Nat}(h:j<n):atI ((zp n g).map V.int) ((0:Int)+j)=some (V.int (g j)):=by rw[ff];refine vg ?_;rw[aA,qx4 h];rfl
theorem wqq (ok:wj hs)(F:Fun K "one_step_more" "one_step_more" zat f fd)(T:Txt K mg qr qk qg qu qp qm qy):FK P w K mg base 1 f fd ["covers","table"] (Y6 hs):=by
 have sc:=Jy;refine F.okX sc (λvs H Q E h=>by obtain⟨_,_,_,rfl,_⟩:=h;rfl) λ_ _ _ s H vs Q E hr h=>?_;obtain⟨c,t,g,rfl,⟨cs,fc,lc,gc⟩,hM,k⟩:=h;obtain⟨ts,ft,lt,gt⟩:=id hM;have o1:=ok.1;have o2:=ok.2.1;refine⟨_,(qh (xw (qxg (M:=[1]) rfl rfl (by walk_at "cap") (by walk_at "hasK") (by walk_at "cix") rfl (by decide +kernel) (by intro _;rfl) (by intro _;rfl) rfl (show List.Nodup (["vias","table"]:List Str) by decide +kernel) (vc (pv 0)) (λ_ _ _ _ _=>(qxg (M:=[0,1]) rfl rfl (by walk_at "cap") (by walk_at "hasK") (by walk_at "cix") rfl (by decide +kernel) (by intro _;rfl) (by intro _;rfl) rfl (show List.Nodup (["end","vias","table"]:List Str) by decide +kernel) (xh rfl T.range_ (qw (wn (qvc (K:=K) rfl) rfl T.len_ bU (qw (pv 1) qv)) qv)) (λ_ _ _ _ _=>(wn (ky (K:=K) rfl rfl) rfl T.sum_ uj (qw (kx (M:=[0,2]) rfl rfl (by walk_at "cap") (by walk_at "has") (by walk_at "cix") rfl (by decide +kernel) rfl (show List.Nodup (["via","end","table"]:List Str) by decide +kernel) (qy5 (K:=K) rfl (pv 1)) (λ_ _ _ _ _=>(wv (jh (K:=K) rfl) (wv (jh (K:=K) rfl) (pv 2) (pv 0) (λ_ _=>rfl)) (pv 1) (λ_ _=>rfl)))) qv)))))))),?_⟩;refine exI rfl ⟨c,rfl,⟨_,SqL.of fc⟩,Qq (K:=K) (a:=c) (xs:=cs) (λi v H=>∃q,v=.ref q/\H q=some (.lst ((zp (hs.length-1) λj=>((zx hs i).map λv=>g v.toNat j).sum).map V.int))) (qxn _) (SqL.of fc) ⋯ (λi x H' R hx s' hR'=>?_) λp ys H' np s' f l hG=>k p H' np s' ⟨ys,f,⋯,λi v e=>(hG i v e).1⟩⟩;obtain⟨qi,rfl,fqi⟩:=gc i x hx;refine exI rfl ⟨t,exI rfl ⟨.inl (SqL.of (s' _ _ ft)),exI rfl ⟨⋯,⋯,?_⟩⟩⟩;rw[show((ts.length:Int)).toNat=hs.length-1 by lia];refine wq7 (λj=>V.int (((zx hs i).map λv=>g v.toNat j).sum)) (λ_ _ e=>nomatch e) ⋯ (λj H2 R2 hj s2 hR2=>?_) λq H2 nq s2 fq=>hR' (.ref q) H2 s2 ⟨q,rfl,by rw[fq,qx5]⟩ λb e=>by cases e;exact nq
 have s02:=s'.trans s2;refine exI rfl ⟨qi,rfl,⟨_,SqL.of (s02 _ _ fqi)⟩,Jh (K:=K) (a:=qi) (xs:=(zx hs i).map V.int) (picks g j) (SqL.of (s02 _ _ fqi)) (by rw[ag];have:=wwz ok ((0:Int)+i);unfold zx;lia) (λx3 H3 R3 hx3 s3 hR3=>?_) λpl nl=>?_⟩
 .obtain⟨z,hz,rfl⟩:=aJ.mp hx3;have zb:=Wp ok _ z hz;obtain⟨qz,ez,fz⟩:=hM.row ft (i:=z.toNat) ⋯;have s03:=s02.trans s3;have ez':atI ts z=some (.ref qz):=by have:=vg ez;rwa [bY zb.1]at this
  exact exI rfl (exI rfl (exX rfl rfl (SqL.of (s03 _ _ ft)) ez' (exI rfl (exX rfl rfl (SqL.of (s03 _ _ fz)) (at_row hj) hR3))))
 .have e:((zx hs i).map V.int).map (picks g j)=((zx hs i).map λv=>g v.toNat j).map V.int:=by rw[ba,ba];rfl
  rw[e];exact⟨pl,exI rfl ⟨SqL.new,hR2 _ (Same.upd nl)⟩⟩
variable {ys:List V}
theorem MatAt.upd {n:Nat}{f:Nat->Nat->Int}{a:Aj}(h:MatAt H p n f)(hn:1<=n)(hq:H q=some (.lst ys))(hp:p≠q)(h0:ys[0]?=some (.ref a)):MatAt (L2.upd H q o) p n f:=by
 obtain⟨zs,e,l,r⟩:=h;refine⟨zs,by rw[q8 hp];exact e,l,λi v z=>?_⟩;obtain⟨q',a',b⟩:=r i v z;refine⟨q',a',?_⟩;rw[q8 (λe'=>?_)]
 .exact b
 .rw[e',hq]at b;have e1:ys=(zp n (f i)).map V.int:=by
   injection b with b
   injection b
  rw[e1,aA,qx4 ⋯]at h0;cases h0
def qxj (C:Aj):Sp:=λvs H Q _=>∃(r:Aj) (hs:List Int) (m:Int),vs=[.ref r,.int m]/\RoadAt C H r hs/\wj hs/\0<=m/\m<=60 /\
 ∀p ys H',Same H H'->H' p=some (.lst ys)->ys.length=m.toNat+1->(∀i v,ys[i]?=some v->∃q,v=.ref q/\MatAt H' q (hs.length-1) (zh (zx hs) i))->Q (.ref p) H'
include T in
theorem ww1 (F:Fun K "ways_up_to" "ways_up_to" zau f fd)(zb1:Cal P w K mg base "covers_of" 5 (Qk qy))(zaa:MCal P w K mg base qy "width" 1 (j3 qy))(zer:Cal P w K mg base "ways_of_no_step" 1 qzq)
  (zes:∀hs,wj hs->Cal P w K mg base "one_step_more" 1 (Y6 hs)):FK P w K mg base 6 f fd ["road","many"] (qxj qy):=by
 have sc:=qvx;refine F.okX sc (λvs H Q E h=>by obtain⟨_,_,_,rfl,_⟩:=h;rfl) λ_ _ _ _ H vs Q E hr h=>?_;obtain⟨r,hs,m,rfl,hR,ok,m0,m1,k⟩:=h;obtain⟨dx,q,h1,h2⟩:=id hR;have o1:=ok.1;have o2:=ok.2.1;have c_one_step_more:=zes hs ok;refine⟨_,(qj (wg (i:=2) (wu zb1 (hr.mono ⋯) rfl qt (qw (pv 0) qv)))
   (qj (wg (i:=3) (vf (qw (wu zer (hr.mono ⋯) rfl qt (qw (km (pv 0) T.cl zaa (hr.mono ⋯) qt) qv)) qv)))
   (qj (Q6 bh (wt qwn (wn xf rfl T.len_ bU (qw (pv 3) qv)) (pv 1) (xv _)) (qh (vy (Q0 bB bG bH vk (pv 3) (qw (wu c_one_step_more (hr.mono ⋯) rfl qt (qw (pv 2) (qw (wv x8 (pv 3) (Qn jm qx) (λ_ _=>rfl)) qv))) qv)))))
   (qh (xw (pv 3)))))),?_⟩
 refine exI rfl ⟨r,hs,rfl,hR,ok,λp1 H1 n1 s1 C1=>?_⟩;refine exI rfl ⟨r,dx,exI rfl ⟨s1 _ _ h1,xr (by decide +kernel),r,hs,rfl,hR.same s1,exI rfl ⟨⋯,⋯,λcov p2 H2 n2 s2 M2=>?_⟩⟩⟩;rw[show((hs.length:Int)-1).toNat=hs.length-1 by lia]at M2;have M2':MatAt H2 p2 (hs.length-1) (zh (zx hs) 0):=M2;obtain⟨zs2,e2,_,_⟩:=id M2;refine⟨sz1,λq nq=>?_⟩;have dq:p2≠q:=wx e2 nq;have sq:Same H2 (upd H2 q (.lst [.ref p2])):=Same.upd nq;refine Yh (λσ H3=>∃(i:Nat) (ys:List V),σ=[some (.ref r),some (.int m),some (.ref p1),some (.ref q)]/\(i:Int)<=m/\Same H2 H3/\H3 q=some (.lst ys)/\ys.length=i+1/\∀j v,ys[j]?=some v->∃q',v=.ref q'/\q'≠q/\MatAt H3 q' (hs.length-1) (zh (zx hs) j))
  (λ_ H3=>match H3 q with|some (.lst ys)=>(m+1).toNat-ys.length|_=>0) ⟨0,[.ref p2],rfl,⋯,sq,qf,rfl,λj v e=>?_⟩ ?_ λσ H Q Q' h ⟨v,e,p',ys,e1,e2,v2,e3,i,j,e4,e5,kk,e6,qq⟩=>⟨v,e,p',ys,e1,e2,v2,e3,i,j,e4,e5,kk,e6,h _ _ qq⟩
 .rcases j with _|j
  .cases e;exact⟨p2,rfl,dq,M2'.same sq⟩
  .cases e
 .rintro σ H3 ⟨i,ys,rfl,hi,s3,f3,l3,g3⟩;have s03:=s1.trans (s2.trans s3);refine exI rfl ⟨_,_,rfl,.inl (SqL.of f3),exI rfl (wp rfl rfl (exI rfl ?_))⟩;rw[l3];refine kr (λq1=>?_) (λq1=>?_)
  .have ei:ys[i]?=some ys[i]:=aa ⋯;obtain⟨qi,eqi,dqi,Mi⟩:=g3 i _ ei;have hlast:atI ys (-1)=some (.ref qi):=by
    have hz:ys≠[]:=λz=>by rw[z]at l3;simp at l3
    have e1:ys=ys.dropLast++[ys.getLast hz]:=(dB hz).symm;have e2:ys.getLast hz=.ref qi:=by
     rw[fT];have:ys[i]?=ys[ys.length-1]?:=by rw[l3];rfl
     rw[this,aa ⋯,eqi]at ei;exact aq ei
    rw[e1,e2];exact Wq _ _
   obtain⟨q0',e0,_,_⟩:=g3 0 _ (aa (show 0<ys.length by lia));have h0:ys[0]?=some (.ref q0'):=by rw[aa (show 0<ys.length by lia),e0]
   refine exI rfl ⟨.inl ⟨rfl,_,SqL.of f3⟩,exI rfl (exI rfl (exI rfl (exX rfl rfl (SqL.of f3) hlast ⟨p1,qi,zh (zx hs) i,rfl,C1.same (s2.trans s3),Mi,λp4 H4 n4 s4 M4=>?_⟩)))⟩;have f4:=s4 _ _ f3;have d4:p4≠q:=(wx f3 n4).symm;refine⟨_,_,_,rfl,rfl,f4,qkf ⋯,⟨i+1,ys++[.ref p4],rfl,⋯,Same.upd2 (s3.trans s4) nq,qf,by rw[am,l3];rfl,λj v e=>?_⟩,?_⟩
   .rcases bo j ys.length with z|z
    .rw[aP z]at e;obtain⟨q',e',d',M'⟩:=g3 j v e;exact⟨q',e',d',MatAt.upd (M'.same s4) ⋯ f4 d' h0⟩
    .rw[az z]at e;have hj:j=i+1:=by
      rcases bo (j-ys.length) 1 with y|y
      .lia
      .rw[aR (by simpa using y)]at e;cases e
     subst hj;rw[show i+1-ys.length=0 by lia]at e;have:V.ref p4=v:=aq e;subst this;exact⟨p4,rfl,d4,MatAt.upd (f:=zh (zx hs) (i+1)) M4 ⋯ f4 d4 h0⟩
   .show(match upd H4 q (.lst (ys++[.ref p4])) q with|some (.lst ys)=>(m+1).toNat-ys.length|_=>0)<(match H3 q with|some (.lst ys)=>(m+1).toNat-ys.length|_=>0);rw[qf,f3];show(m+1).toNat-(ys++[V.ref p4]).length<(m+1).toNat-ys.length;rw[am,cN];lia
  .refine exI rfl (k q ys H3 s03 f3 ⋯ λj v e=>?_);obtain⟨q',e',_,M'⟩:=g3 j v e;exact⟨q',e',M'⟩
def covR (hs:List Int)(i j:Int):Prop:=(0<=i/\i<(hs.length:Int)-1)/\loH hs i<=j/\j+1<=hiH hs i
instance (hs:List Int)(i j:Int):Decidable (covR hs i j):=by unfold covR;exact inferInstance
def qz8 (xs:List Int):List Int:=xs.drop 1++xs.take 1
theorem xxt (xs:List Int):(qz8 xs).length=xs.length:=by unfold qz8;rw[am,bZ,aY];lia
def yj (hs xs:List Int):Prop:=(1<=xs.length/\xs.length<=12)/\∀(i:Nat) (x y:Int),xs[i]?=some x->(qz8 xs)[i]?=some y->covR hs x y
def wq1 (hs:List Int)(p:Int×Int)(x:Int):Int×Int:=(p.1*(hAt hs (x+1)-hAt hs x),hAt hs x+(hAt hs (x+1)-hAt hs x)*(p.2-x))
def w8 (hs xs:List Int):Int×Int:=xs.foldl (wq1 hs) (1,0)
theorem wzy (hs xs:List Int)(x:Int):w8 hs (xs++[x])=wq1 hs (w8 hs xs) x:=by unfold w8;rw[List.foldl_append];rfl
theorem yw (hs:List Int){xs:List Int}{i:Nat}{x:Int}(h:xs[i]?=some x):w8 hs (xs.take (i+1))=wq1 hs (w8 hs (xs.take i)) x:=by rw[dw,h];exact wzy hs _ x
theorem qkk (ok:wj hs)(x:Int):(hAt hs (x+1)-hAt hs x).natAbs<=24:=by have a:=wvg ok x;have b:=wvg ok (x+1);lia
theorem Y9 (ok:wj hs){xs:List Int}:∀i:Nat,(w8 hs (xs.take i)).1.natAbs<=24 ^ i
 |0=>by rw[hU];show(1:Int).natAbs<=1;decide
 |i+1=>by
  have ih:=Y9 ok (xs:=xs) i;cases e:xs[i]? with
  |none =>
   have:=fh.mp e;have e1:xs.take (i+1)=xs.take i:=by rw[cI ⋯,cI ⋯]
   rw[e1,dk];exact bM ih (iK _ ⋯)
  |some x =>
   rw[yw hs e];show((w8 hs (xs.take i)).1*(hAt hs (x+1)-hAt hs x)).natAbs<=24 ^ (i+1);rw[fY,dk];exact Nat.mul_le_mul ih (qkk ok x)
def qju (K:Aa)(C:Aj):Sp:=λvs H Q _=>∃(r a:Aj) (hs xs:List Int),vs=[.ref r,.ref a]/\RoadAt C H r hs/\wj hs/\SqT K H a (xs.map V.int)/\(∀x∈xs,0<=x/\x<(hs.length:Int)-1) /\
 ∀p H',Same H H'->H' p=some (.tup [.int (w8 hs xs).1,.int (w8 hs xs).2])->Q (.ref p) H'
include T in
theorem wu8 (F:Fun K "line_along" "line_along" za1 f fd)(zet:MCal P w K mg base qy "slope" 3 (qj6 qy qm))(zag:MCal P w K mg base qy "ends" 2 (Jp qy qm)):FK P w K mg base 4 f fd ["road","row"] (qju K qy):=by
 have sc:=qvv;refine F.okX sc (λvs H Q E h=>by obtain⟨_,_,_,_,rfl,_⟩:=h;rfl) λ_ _ _ _ H vs Q E hr h=>?_;obtain⟨r,a,hs,xs,rfl,hR,ok,hT,hx,k⟩:=h;refine⟨_,(qj (wg (i:=2) qx)
   (qj (wg (i:=3) qx)
   (qj (jx bh rfl (pi_tup (pv 1)) (xy (i:=4)) (qj (wg (i:=5) (k9 (pv 0) T.cl zet (hr.mono ⋯) qt (qw (pv 4) qv)))
   (qj (wg (i:=6) (wv wb (k9 (pv 0) T.cl zag (hr.mono ⋯) qt (qw (pv 4) qv)) qx (λ_ _=>rfl)))
   (qj (wg (i:=2) (wz xk (pv 2) (pv 5)))
   (qh (wg (i:=3) (wz x9 (pv 6) (wz xk (pv 5) (wz zm (pv 3) (pv 4))))))))))
   (qh (xw (vj (qw (pv 2) (qw (pv 3) qv)))))))),?_⟩
 refine exI rfl ⟨a,rfl,⟨_,hT⟩,xxs (xs:=xs.map V.int) (λi σ H'=>Same H H'/\∃z4 z5 z6,σ=[some (.ref r),some (.ref a),some (.int (w8 hs (xs.take i)).1),some (.int (w8 hs (xs.take i)).2),z4,z5,z6]) ⟨Same.refl _,_,_,_,rfl⟩ (λi σ H' _ h=>h.1.sqt hT) ?_ ?_⟩
 .rintro i v σ H1 ev ⟨s1,z4,z5,z6,rfl⟩;rw[aA]at ev;obtain⟨x,ex,rfl⟩:=Option.map_eq_some_iff.mp ev;obtain⟨x0,x1⟩:=hx x (aC ex);obtain⟨dx,q0,h1,h2⟩:=id (hR.same s1);have sl:=qkk ok x;refine⟨_,rfl,r,dx,_,rfl,h1,xr (by decide +kernel),_,rfl,r,hs,x,rfl,hR.same s1,λ_ _ H2 s2=>?_,λz=>absurd z ⋯⟩;obtain⟨dx,q0,h1,h2⟩:=id (hR.same (s1.trans s2));refine⟨_,rfl,r,dx,_,rfl,h1,xr (by decide +kernel),_,rfl,r,hs,x,rfl,hR.same (s1.trans s2),λ_ _ p3 n3=>?_,λz=>absurd z ⋯⟩;have s3:=Same.upd (o:=.tup [.int (hAt hs x),.int (hAt hs (x+1))]) n3;refine exX rfl rfl SqT.new rfl ?_;refine exI rfl (exI rfl (wp rfl rfl ⟨IntMulOk.of_right (intBits_le_64 ⋯ ⋯),?_⟩));refine exI rfl (exI rfl (exI rfl (exI rfl (wp rfl rfl (wp rfl rfl ⟨IntMulOk.of_left (intBits_le_64 ⋯ ⋯),wp rfl rfl ?_⟩)))));refine⟨s1.trans (s2.trans s3),some (.int x),some (.int (hAt hs (x+1)-hAt hs x)),some (.int (hAt hs x)),?_⟩;rw[yw hs ex];rfl
 .rintro σ H1 ⟨s1,z4,z5,z6,rfl⟩;rw[ag,bn];refine exI rfl (exI rfl ⟨sz2,λp np=>k p _ (s1.trans (Same.upd np)) qf⟩)
variable {xs:List Int}
theorem wjb (c:yj hs xs):∀x∈xs,0<=x/\x<(hs.length:Int)-1:=λx hx=>by
 obtain⟨i,hi,rfl⟩:=cZ hx;have h2:i<(qz8 xs).length:=by rw[xxt];exact hi
 exact(c.2 i xs[i] (qz8 xs)[i] (aa hi) (aa h2)).1
def FixR (H:Hp)(p:Int×Int)(v:V):Prop:=(p.1=1/\v=.non)\/(p.1≠1/\∃q,v=.ref q/\H q=some (.tup (ptV (if p.1>1 then wy (-p.2) (p.1-1) else wy p.2 (1-p.1)))))
def qj8 (K:Aa)(C:Aj):Sp:=λvs H Q _=>∃(r a:Aj) (hs xs:List Int),vs=[.ref r,.ref a]/\RoadAt C H r hs/\wj hs/\SqT K H a (xs.map V.int)/\(∀x∈xs,0<=x/\x<(hs.length:Int)-1)/\xs.length<=12 /\
 ∀v H',Same H H'->FixR H' (w8 hs xs) v->Q v H'
include T in
theorem wux (F:Fun K "fixed_point" "fixed_point" za2 f fd)(zeu:Cal P w K mg base "line_along" 4 (qju K qy))(zah:Cal P w K mg base "lowest" 2 (Wu qk)):FK P w K mg base 5 f fd ["road","row"] (qj8 K qy):=by
 have sc:=qzc;refine F.okX sc (λvs H Q E h=>by obtain⟨_,_,_,_,rfl,_⟩:=h;rfl) λ_ _ _ _ H vs Q E hr h=>?_;obtain⟨r,a,hs,xs,rfl,hR,ok,hT,hx,hl,k⟩:=h;have ab:=Y9 ok (xs:=xs) xs.length;rw[bn]at ab;have ab:(w8 hs xs).1.natAbs<=24 ^ 12:=bM ab (dr ⋯ hl);have p12:(24:Nat) ^ 12=36520347436056576:=by decide
 rw[p12]at ab;refine⟨_,(qj (u7 (wu zeu (hr.mono ⋯) rfl qt (qw (pv 0) (qw (pv 1) qv))) (y7 rfl (zk (xy (i:=2)) (zk (xy (i:=3)) jb))))
   (qj (zr (wt uz (pv 2) qx (xv _)) (qh (xw qj0)) xg)
   (qj (zr (wt Wv (pv 2) qx (xv _)) (qh (xw (wu zah (hr.mono ⋯) rfl qt (qw (Qn jm (pv 3)) (qw (wz zm (pv 2) qx) qv))))) xg)
   (qh (xw (wu zah (hr.mono ⋯) rfl qt (qw (pv 3) (qw (wz zm qx (pv 2)) qv)))))))),?_⟩
 refine exI rfl (exI rfl ⟨r,a,hs,xs,rfl,hR,ok,hT,hx,λp H1 s1 f1=>?_⟩);unfold FixR at k;generalize (w8 hs xs).1=st at ab f1 k;generalize (w8 hs xs).2=ht at f1 k;refine⟨p,exI rfl ⟨SqT.of f1,rfl,_,_,rfl,_,_,rfl,rfl,?_⟩⟩;refine exI rfl ⟨rfl,_,rfl,uw (λz=>?_) (λz=>?_)⟩
 .exact k _ _ s1 (.inl ⟨z,rfl⟩)
 .refine exI rfl (wp rfl rfl (exI rfl (kr (λy=>?_) (λy=>?_))))
  .refine⟨_,rfl,_,rfl,_,rfl,_,_,rfl,rfl,_,_,rfl,λ_=>⟨Sm.small ⋯ ⋯ ⋯,λq nq=>?_⟩,λw=>absurd w ⋯⟩;refine k _ _ (s1.trans (Same.upd nq)) (.inr ⟨z,q,rfl,?_⟩);rw[aw y];exact qf
  .refine⟨_,rfl,_,rfl,_,_,rfl,rfl,_,_,rfl,λ_=>⟨Sm.small ⋯ ⋯ ⋯,λq nq=>?_⟩,λw=>absurd w ⋯⟩;refine k _ _ (s1.trans (Same.upd nq)) (.inr ⟨z,q,rfl,?_⟩);rw[ar y];exact qf
variable {i:Nat}
theorem wvn (h:i+1<xs.length):(qz8 xs)[i]?=xs[i+1]?:=by unfold qz8;rw[aP (by rw[bZ];lia),di,Nat.add_comm]
theorem wvu (h:i+1=xs.length):(qz8 xs)[i]?=xs[0]?:=by unfold qz8;rw[az (by rw[bZ];lia),bZ,show i-(xs.length-1)=0 by lia,dJ,aw ⋯]
def covT (hs:List Int)(i j:Nat):Int:=if loH hs ((0:Int)+i)<=(0:Int)+j/\(0:Int)+j+1<=hiH hs ((0:Int)+i) then 1 else 0
theorem wv9:∀(m:Nat) (lo:Int) (j:Nat),0<=lo->((List.range m).map λk:Nat=>(if j=(lo+k).toNat then(1:Int) else 0)).sum=if lo<=j/\(j:Int)<lo+m then 1 else 0
 |0,lo,j,h=>by rw[ar ⋯];rfl
 |m+1,lo,j,h=>by
  rw[bL,aW,eK,wv9 m lo j h,aD,cV,bW,List.sum_nil];by_cases z:j=(lo+m).toNat
  .rw[aw z,ar ⋯,aw ⋯];rfl
  .rw[ar z];by_cases y:lo<=j/\(j:Int)<lo+m
   .rw[aw y,aw ⋯];rfl
   .rw[ar y,ar ⋯];rfl
theorem wkc (ok:wj hs)(i j:Nat):zh (zx hs) 1 i j=covT hs i j:=by
 show((zx hs i).map λv=>if j=v.toNat then(1:Int) else 0).sum=_;have l:=lohi ok ((0:Int)+i);unfold zx jp covT;rw[ba];have:=wv9 (hiH hs ((0:Int)+i)-loH hs ((0:Int)+i)).toNat (loH hs ((0:Int)+i)) j l.1;show((List.range _).map λk:Nat=>(if j=(loH hs ((0:Int)+i)+k).toNat then(1:Int) else 0)).sum=_;rw[this];by_cases z:loH hs ((0:Int)+i)<=(0:Int)+j/\(0:Int)+j+1<=hiH hs ((0:Int)+i)
 .rw[aw z,aw ⋯]
 .rw[ar z,ar ⋯]
def bgR (hs:List Int)(f m:Nat):Nat->List (List Int)
 |0=>if 0<zh (zx hs) m f f then [[(0:Int)+f]] else []
 |t+1=>Zb (λv=>decide (0<zh (zx hs) (m-1-t) v.toNat f)) (λr=>zx hs (r.getLastD 0).toNat) (bgR hs f m t)
def zj (hs:List Int)(m:Nat):List (List Int):=(List.range (hs.length-1)).flatMap λf=>bgR hs f m (m-1)
def cvr (hs:List Int)(x y:Int):Prop:=loH hs x<=y/\y+1<=hiH hs x
theorem mem_cov:y∈jp hs x↔cvr hs x y:=by
 unfold jp cvr;constructor
 .intro h;obtain⟨j,hj,rfl⟩:=aJ.mp h;have:=ay.mp hj;lia
 .intro h;exact aJ.mpr ⟨(y-loH hs x).toNat,ay.mpr ⋯,⋯⟩
theorem qwy (h:0<=x):zx hs x.toNat=jp hs x:=by unfold zx;rw[show(0:Int)+(x.toNat:Int)=x by lia]
theorem Zf (r:List Int)(x:Int):(r++[x]).getLastD 0=x:=by rw[h9,d6];rfl
variable {r:List Int}
theorem qv6 (h:r≠[]):r.getLastD 0=r.getD (r.length-1) 0:=by rw[h9,dU,af]
theorem mem_addR {c:Int->Bool}{vs x:List Int}:x∈Yc c r vs↔∃v∈vs,c v=true/\x=r++[v]:=by
 unfold Yc;rw[aJ];constructor
 .rintro⟨v,hv,rfl⟩;obtain⟨h1,h2⟩:=cQ.mp hv;exact⟨v,h1,h2,rfl⟩
 .rintro⟨v,h1,h2,rfl⟩;exact⟨v,cQ.mpr ⟨h1,h2⟩,rfl⟩
theorem mem_allR {c:Int->Bool}{g:List Int->List Int}{L:List (List Int)}{x:List Int}:x∈Zb c g L↔∃r∈L,∃v∈g r,c v=true/\x=r++[v]:=by
 unfold Zb;rw[List.mem_flatMap];constructor
 .rintro⟨r,hr,h⟩;exact⟨r,hr,mem_addR.mp h⟩
 .rintro⟨r,hr,h⟩;exact⟨r,hr,mem_addR.mpr h⟩
def Beg (hs:List Int)(f m t:Nat)(r:List Int):Prop:=r.length=t+1/\r.getD 0 0=(0:Int)+f/\(∀x∈r,0<=x/\x<(hs.length:Int)-1)/\(∀i,i<t->cvr hs (r.getD i 0) (r.getD (i+1) 0))/\0<zh (zx hs) (m-t) (r.getLastD 0).toNat f
theorem Zt {v:Int}(h:i<r.length):(r++[v]).getD i 0=r.getD i 0:=by rw[af,af,aP h]
theorem wub {v:Int}(h:i=r.length):(r++[v]).getD i 0=v:=by subst h;rw[af,az (al _),gM];rfl
variable {m:Nat}
theorem qw8 {f t:Nat}(h:Beg hs f m t r):r.getLastD 0=r.getD t 0/\0<=r.getLastD 0/\r.getLastD 0<(hs.length:Int)-1:=by
 obtain⟨l,_,g,_⟩:=h;have hz:r≠[]:=λz=>by rw[z]at l;cases l
 have e:=qv6 hz;rw[l,fL]at e;refine⟨e,?_⟩;rw[e,af,aa ⋯];exact g _ (bJ _)
theorem Zj (ok:wj hs){f m:Nat}(hf:f<hs.length-1):∀t,∀r∈bgR hs f m t,Beg hs f m t r
 |0,r,hr=>by
  unfold bgR at hr;split at hr
  .next p =>
   obtain rfl:=aH.mp hr;refine⟨rfl,rfl,λx hx=>?_,λi hi=>absurd hi (gG _),?_⟩
   .rw[aH.mp hx];lia
   .show 0<zh (zx hs) m ((0:Int)+f).toNat f;rw[show((0:Int)+f).toNat=f by lia];exact p
  .cases hr
 |t+1,r,hr=>by
  obtain⟨q,hq,v,hv,hc,rfl⟩:=mem_allR.mp hr;have b:=Zj ok hf t q hq;obtain⟨e1,e2,e3⟩:=qw8 b;obtain⟨l,h0,g,ch,_⟩:=b;rw[qwy e2]at hv;have cv:=mem_cov.mp hv;have vr:=Wp ok _ v hv;refine⟨by rw[am,l];rfl,by rw[Zt ⋯];exact h0,λx hx=>?_,λi hi=>?_,?_⟩
  .rcases aU.mp hx with z|z
   .exact g x z
   .rw[aH.mp z];lia
  .rcases(by lia:i<t\/i=t) with z|z
   .rw[Zt ⋯,Zt ⋯];exact ch i z
   .subst z;rw[Zt ⋯,wub ⋯,<-e1];exact cv
  .rw[Zf,show m-(t+1)=m-1-t by lia];exact cL hc
theorem Qt (cov:Nat->List Int):∀(m i j:Nat),0<=zh cov m i j
 |0,i,j=>by unfold zh;split <;> decide
 |m+1,i,j=>by
  show 0<=((cov i).map λv=>zh cov m v.toNat j).sum;generalize cov i=l
  induction l with
  |nil=>exact cB _
  |cons v l ih =>
   rw[aD,bW];have:=Qt cov m v.toNat j;lia
theorem wqf {F:Int->Int}(h:∀v,0<=F v)(r:List Int):∀vs:List Int,((Yc (λv=>decide (0<F v)) r vs).map λq=>F (q.getLastD 0)).sum=(vs.map F).sum
 |[]=>rfl
 |v::vs=>by
  have ih:=wqf h r vs;unfold Yc at ih ⊢;rw[eZ,aD,bW,<-ih];by_cases z:0<F v
  .rw[aw (aS z),aD,aD,bW,Zf]
  .rw[ar (by simpa using z)];have:=h v;lia
theorem wqc {F:Int->Int}(h:∀v,0<=F v)(g:List Int->List Int):∀L:List (List Int),((Zb (λv=>decide (0<F v)) g L).map λq=>F (q.getLastD 0)).sum=(L.map λr=>((g r).map F).sum).sum
 |[]=>rfl
 |r::L=>by have ih:=wqc h g L;unfold Zb at ih ⊢;rw[List.flatMap_cons,aW,eK,ih,aD,bW,wqf h]
theorem wxu (hs:List Int)(f m:Nat):∀t,t<=m->((bgR hs f m t).map λr=>zh (zx hs) (m-t) (r.getLastD 0).toNat f).sum=zh (zx hs) m f f
 |0,_=>by
  have p:=Qt (zx hs) m f f;unfold bgR;split
  .show zh (zx hs) m ((0:Int)+f).toNat f+0=_;rw[show((0:Int)+f).toNat=f by lia,gO]
  .show(0:Int)=_;lia
 |t+1,h=>by have ih:=wxu hs f m t ⋯;rw[show m-t=(m-1-t)+1 by lia]at ih;rw[<-ih,show m-(t+1)=m-1-t by lia];exact wqc (F:=λv=>zh (zx hs) (m-1-t) v.toNat f) (λv=>Qt _ _ _ _) (λr=>zx hs (r.getLastD 0).toNat) (bgR hs f m t)
theorem qx3 {F:α->Int}:∀ {L:List α},(∀r∈L,1<=F r)->(L.length:Int)<=(L.map F).sum
 |[],_=>cB _
 |r::L,h=>by have ih:=qx3 (L:=L) λr hr=>h r (.tail _ hr);have:=h r (.head _);rw[aD,bW,aQ];lia
theorem qxq {F:α->Int}:∀ {L:List α},(∀r∈L,F r=1)->(L.length:Int)=(L.map F).sum
 |[],_=>rfl
 |r::L,h=>by have ih:=qxq (L:=L) λr hr=>h r (.tail _ hr);have:=h r (.head _);rw[aD,bW,aQ];lia
theorem wuj (ok:wj hs){f m t:Nat}(hf:f<hs.length-1)(ht:t<=m):((bgR hs f m t).length:Int)<=zh (zx hs) m f f:=by rw[<-wxu hs f m t ht];exact qx3 λr hr=>(Zj ok hf t r hr).2.2.2.2
theorem bg_len (ok:wj hs){f m:Nat}(hf:f<hs.length-1)(hm:1<=m):((bgR hs f m (m-1)).length:Int)=zh (zx hs) m f f:=by
 rw[<-wxu hs f m (m-1) ⋯];refine qxq λr hr=>?_;have h:=(Zj ok hf _ r hr).2.2.2.2;rw[show m-(m-1)=1 by lia]at h ⊢;rw[wkc ok]at h ⊢;unfold covT at h ⊢;split at h
 .next z=>rw[aw z]
 .next z=>exact absurd h (ja 0)
theorem qxx (F:Nat->List α)(n:Nat):((((List.range n).flatMap F).length:Nat):Int)=vq n λk=>((F k).length:Int):=by
 induction n with
 |zero=>rfl
 |succ n ih =>
  rw[v8,<-ih,bL,gL,am];simp
theorem wyq (ok:wj hs){m:Nat}(hm:1<=m):((zj hs m).length:Int)=vq (hs.length-1) λf=>zh (zx hs) m f f:=by unfold zj;rw[qxx];exact kg λf hf=>bg_len ok hf hm
def wqk (L:List (List Int)):Prop:=L.Pairwise λa b=>vn a b=true
def ClR (hs:List Int)(m:Nat)(r:List Int):Prop:=r.length=m/\(∀x∈r,0<=x/\x<(hs.length:Int)-1)/\(∀i,i+1<m->cvr hs (r.getD i 0) (r.getD (i+1) 0))/\cvr hs (r.getD (m-1) 0) (r.getD 0 0)
theorem qum {c:Nat->Int}(hc:∀t,t<m->c (t+1)∈zx hs (c t).toNat):∀d t,t+d=m->0<zh (zx hs) d (c t).toNat (c m).toNat
 |0,t,e=>by
  obtain rfl:t=m:=by lia
  unfold zh;rw[aw rfl];decide
 |d+1,t,e=>by
  have ih:=qum hc d (t+1) ⋯;have hm:=hc t ⋯;show 0<((zx hs (c t).toNat).map λv=>zh (zx hs) d v.toNat (c m).toNat).sum;generalize zx hs (c t).toNat=l at hm
  induction l with
  |nil=>cases hm
  |cons v l ihl =>
   rw[aD,bW];rcases aM.mp hm with z|z
   .rw[<-z];have:0<=(l.map λv=>zh (zx hs) d v.toNat (c m).toNat).sum:=by
     clear ihl hm
     induction l with
     |nil=>exact cB _
     |cons w l ih2=>rw[aD,bW];have:=Qt (zx hs) d w.toNat (c m).toNat;lia
    lia
   .have:=ihl z;have:=Qt (zx hs) d v.toNat (c m).toNat;lia
theorem v9 (ok:wj hs){m:Nat}(hm:1<=m){r:List Int}:r∈zj hs m↔ClR hs m r:=by
 unfold zj;rw[List.mem_flatMap];constructor
 .rintro⟨f,hf,hr⟩;have hf:=ay.mp hf;have b:=Zj ok hf _ r hr;obtain⟨e1,e2,e3⟩:=qw8 b;obtain⟨l,h0,g,ch,p⟩:=b;refine⟨⋯,g,λi hi=>ch i ⋯,?_⟩;rw[show m-(m-1)=1 by lia,wkc ok]at p;unfold covT at p;split at p
  .next z =>
   rw[show(0:Int)+((r.getLastD 0).toNat:Int)=r.getLastD 0 by lia]at z;rw[<-e1,h0];exact z
  .exact absurd p (ja 0)
 .rintro⟨l,g,ch,cl⟩;have rg:∀i,i<m->0<=r.getD i 0/\r.getD i 0<(hs.length:Int)-1:=λi hi=>by rw[af,aa ⋯];exact g _ (bJ _)
  have r0:=rg 0 ⋯;have hc:∀t,t<m->(if t+1=m then r.getD 0 0 else r.getD (t+1) 0)∈zx hs ((if t=m then r.getD 0 0 else r.getD t 0)).toNat:=λt ht=>by
   rw[ar ⋯,qwy (rg t ht).1];split
   .next z =>
    obtain rfl:t=m-1:=by lia
    exact mem_cov.mpr cl
   .next z=>exact mem_cov.mpr (ch t ⋯)
  have pp:∀t,t<m->0<zh (zx hs) (m-t) (r.getD t 0).toNat (r.getD 0 0).toNat:=λt ht=>by have:=qum (c:=λt=>if t=m then r.getD 0 0 else r.getD t 0) hc (m-t) t ⋯;rw[ar (show ¬ t=m by lia),aw rfl]at this;exact this
  have key:∀t,t<m->r.take (t+1)∈bgR hs (r.getD 0 0).toNat m t:=λt=>by
   induction t with
   |zero =>
    intro _;have p:=pp 0 ⋯;unfold bgR;rw[Nat.sub_zero]at p;rw[aw p,show(0:Int)+((r.getD 0 0).toNat:Int)=r.getD 0 0 by lia]
    match r,l with
    |[],l=>simp at l;lia
    |x::r,_=>exact .head _
   |succ t ih =>
    intro ht;have ih:=ih ⋯;have et:r.take (t+1+1)=r.take (t+1)++[r.getD (t+1) 0]:=by rw[dw,aa ⋯,af,aa ⋯];rfl
    have el:(r.take (t+1)).getLastD 0=r.getD t 0:=by rw[qv6 (λz=>by have:=cr List.length z;rw[aY,eJ]at this;lia),aY,iS ⋯,fL,af,dJ,aw ⋯,af]
    rw[et];refine mem_allR.mpr ⟨r.take (t+1),ih,r.getD (t+1) 0,?_,aS ?_,rfl⟩
    .rw[el,qwy (rg t ⋯).1];exact mem_cov.mpr (ch t ⋯)
    .rw[show m-1-t=m-(t+1) by lia];exact pp (t+1) ht
  refine⟨(r.getD 0 0).toNat,ay.mpr ⋯,?_⟩;have:=key (m-1) ⋯;rw[show m-1+1=r.length by lia,bn]at this;exact this
def Byd (e B v:Int):Prop:=(0<v/\v<=e-B)\/(v<0/\e<=v)
variable {B:Int}
theorem xxk {h v:Int}(hB:1<=B)(up:a>0->h<=y/\y+1<=h+a)(dn:a<0->h+a<=y/\y+1<=h)(nz:a≠0)(b:Byd (t-x*B) B v):Byd (h*B+a*(t-x*B)-y*B) B (a*v):=by
 generalize t-x*B=e at b ⊢;rcases(by lia:a>0\/a<0) with z|z
 .obtain⟨u1,u2⟩:=up z;rcases b with⟨v0,v1⟩|⟨v0,v1⟩
  .refine .inl ⟨eT z v0,?_⟩;have m1:a*v<=a*(e-B):=aV v1 ⋯;have m2:(y+1)*B<=(h+a)*B:=au u2 ⋯;rw[fU]at m1;rw[bF,bF,bj]at m2;lia
  .refine .inr ⟨ic z v0,?_⟩;have m1:a*e<=a*v:=aV v1 ⋯;have m2:h*B<=y*B:=au u1 ⋯;lia
 .obtain⟨u1,u2⟩:=dn z;rcases b with⟨v0,v1⟩|⟨v0,v1⟩
  .refine .inr ⟨Int.mul_neg_of_neg_of_pos z v0,?_⟩;have m1:a*(e-B)<=a*v:=eE ⋯ v1;have m2:(h+a)*B<=y*B:=au u1 ⋯;rw[fU]at m1;rw[bF]at m2;lia
  .refine .inl ⟨fj z v0,?_⟩;have m1:a*v<=a*e:=eE ⋯ v1;have m2:(y+1)*B<=h*B:=au u2 ⋯;rw[bF,bj]at m2;lia
def yb (a:Nat->Int)(i:Nat):Nat->Int
 |0=>1
 |k+1=>yb a i k*a (i+k)
variable {h:Nat->Int}
theorem qjd {n:Nat}{c t a:Nat->Int}(hB:1<=B)(st:∀i,i<n->t (i+1)=h i*B+a i*(t i-c i*B))(up:∀i,i<n->a i>0->h i<=c (i+1)/\c (i+1)+1<=h i+a i)(dn:∀i,i<n->a i<0->h i+a i<=c (i+1)/\c (i+1)+1<=h i)(nz:∀i,i<n->a i≠0)
  {i:Nat} {v:Int} (b:Byd (t i-c i*B) B v):∀k,i+k<=n->Byd (t (i+k)-c (i+k)*B) B (v*yb a i k)
 |0,_=>by rw[show v*yb a i 0=v from ig v];exact b
 |k+1,hk=>by
  have ih:=qjd hB st up dn nz b k ⋯;have s:=xxk hB (up (i+k) ⋯) (dn (i+k) ⋯) (nz (i+k) ⋯) ih;rw[show h (i+k)*B+a (i+k)*(t (i+k)-c (i+k)*B)=t (i+k+1) from (st (i+k) ⋯).symm]at s;have e:v*yb a i (k+1)=a (i+k)*(v*yb a i k):=by show v*(yb a i k*a (i+k))=_;rw[<-iq,bC]
  rw[e];exact s
theorem xz4 {n:Nat}{c t a:Nat->Int}(hB:1<=B)(st:∀i,i<n->t (i+1)=h i*B+a i*(t i-c i*B))(up:∀i,i<n->a i>0->h i<=c (i+1)/\c (i+1)+1<=h i+a i)(dn:∀i,i<n->a i<0->h i+a i<=c (i+1)/\c (i+1)+1<=h i)(nz:∀i,i<n->a i≠0)
  (et:t n=t 0) (ec:c n=c 0) (ns:yb a 0 n≠1) (ns0:yb a 0 n≠0):∀i,i<=n->0<=t i-c i*B/\t i-c i*B<=B:=by
 have no:∀v,¬ Byd (t 0-c 0*B) B v:=λv b=>by
  have key:∀v,Byd (t 0-c 0*B) B v->Byd (t 0-c 0*B) B (v*yb a 0 n):=λv b=>by have r:=qjd hB st up dn nz b n ⋯;rw[cx,et,ec]at r;exact r
  generalize t 0-c 0*B=e at b key;generalize yb a 0 n=s at ns ns0 key;rcases b with⟨v0,v1⟩|⟨v0,v1⟩
  .rcases key (e-B) (.inl ⟨⋯,⋯⟩) with⟨w0,w1⟩|⟨w0,w1⟩
   .have s0:0<s:=by
     rcases(by lia:0<s\/s<0) with q|q
     .exact q
     .have:=ic (show 0<e-B by lia) q;lia
    have:(e-B)*2<=(e-B)*s:=aV ⋯ ⋯;lia
   .lia
  .rcases key e (.inr ⟨⋯,⋯⟩) with⟨w0,w1⟩|⟨w0,w1⟩
   .lia
   .have s0:0<s:=by
     rcases(by lia:0<s\/s<0) with q|q
     .exact q
     .have:=fj (show e<0 by lia) q;lia
    have:e*s<=e*2:=eE ⋯ ⋯;lia
 intro i hi;have non:∀v,¬ Byd (t i-c i*B) B v:=λv b=>by have r:=qjd hB st up dn nz b (n-i) ⋯;rw[show i+(n-i)=n by lia,et,ec]at r;exact no _ r
 constructor
 .rcases bD (t i-c i*B) 0 with z|z
  .exact absurd (.inr ⟨z,cB _⟩) (non (t i-c i*B))
  .exact z
 .rcases bD B (t i-c i*B) with z|z
  .exact absurd (.inl ⟨⋯,cB _⟩) (non (t i-c i*B-B))
  .exact z
def xq (xs:List Int)(i:Nat):Int:=xs.getD (i%xs.length) 0
def Qy (hs xs:List Int)(T B:Int)(i:Nat):Int:=(w8 hs (xs.take i)).1*T+(w8 hs (xs.take i)).2*B
theorem jf (h:i<xs.length):xs[i]?=some (xq xs i):=by unfold xq;rw[d9 h,af,aa h];rfl
theorem Zn (h:i<xs.length):(qz8 xs)[i]?=some (xq xs (i+1)):=by
 rcases(by lia:i+1<xs.length\/i+1=xs.length) with z|z
 .rw[wvn z];exact jf z
 .rw[wvu z];unfold xq;rw[z,Nat.mod_self,af,aa ⋯];rfl
theorem j6 (hs xs:List Int)(T B:Int):Qy hs xs T B 0=T:=by unfold Qy;rw[hU];show(1:Int)*T+(0:Int)*B=T;lia
theorem uk {T:Int}(h:i<xs.length):Qy hs xs T B (i+1)=hAt hs (xq xs i)*B+(hAt hs (xq xs i+1)-hAt hs (xq xs i))*(Qy hs xs T B i-xq xs i*B):=by unfold Qy;rw[yw hs (jf h)];unfold wq1;dsimp only;generalize (w8 hs (xs.take i)).1=p;generalize (w8 hs (xs.take i)).2=q;generalize hAt hs (xq xs i)=u;generalize hAt hs (xq xs i+1)=v;generalize xq xs i=x;grind
theorem qzg:∀k:Nat,k<=xs.length->yb (λi=>hAt hs (xq xs i+1)-hAt hs (xq xs i)) 0 k=(w8 hs (xs.take k)).1
 |0,_=>by rw[hU];rfl
 |k+1,h=>by rw[yw hs (jf (show k<xs.length by lia))];show yb _ 0 k*(hAt hs (xq xs (0+k)+1)-hAt hs (xq xs (0+k)))=(w8 hs (xs.take k)).1*(hAt hs (xq xs k+1)-hAt hs (xq xs k));rw[qzg k ⋯,cx]
theorem row_in (c:yj hs xs){T B:Int}(hB:1<=B)(ns:(w8 hs xs).1≠1)(fx:(w8 hs xs).1*T+(w8 hs xs).2*B=T){i:Nat}(hi:i<xs.length) :
  xq xs i*B<=Qy hs xs T B i/\Qy hs xs T B i<=(xq xs i+1)*B:=by
 have cv:∀j,j<xs.length->covR hs (xq xs j) (xq xs (j+1)):=λj hj=>c.2 j _ _ (jf hj) (Zn hj);have nz:∀j,j<xs.length->hAt hs (xq xs j+1)-hAt hs (xq xs j)≠0:=λj hj=>by have:=(cv j hj).2;unfold loH hiH jj Qu at this;split at this <;> split at this <;> lia
 have ep:yb (λi=>hAt hs (xq xs i+1)-hAt hs (xq xs i)) 0 xs.length=(w8 hs xs).1:=by rw[qzg _ (al _),bn]
 have p0:∀k,k<=xs.length->yb (λi=>hAt hs (xq xs i+1)-hAt hs (xq xs i)) 0 k≠0:=λk=>by
  induction k with
  |zero=>intro _ z;cases z
  |succ k ih =>
   intro hk z;rcases dX.mp z with z|z
   .exact ih ⋯ z
   .rw[cx]at z;exact nz k ⋯ z
 have r:=xz4 (n:=xs.length) (B:=B) (c:=xq xs) (t:=Qy hs xs T B) (h:=λi=>hAt hs (xq xs i)) (a:=λi=>hAt hs (xq xs i+1)-hAt hs (xq xs i)) hB (λj hj=>uk hj)
  (λj hj z=>by
   have:=(cv j hj).2
   have z:hAt hs (xq xs j+1)-hAt hs (xq xs j)>0:=z
   unfold loH hiH jj Qu at this
   show hAt hs (xq xs j)<=xq xs (j+1)/\xq xs (j+1)+1<=hAt hs (xq xs j)+(hAt hs (xq xs j+1)-hAt hs (xq xs j))
   split at this <;> split at this <;> lia)
  (λj hj z=>by
   have:=(cv j hj).2
   have z:hAt hs (xq xs j+1)-hAt hs (xq xs j)<0:=z
   unfold loH hiH jj Qu at this
   show hAt hs (xq xs j)+(hAt hs (xq xs j+1)-hAt hs (xq xs j))<=xq xs (j+1)/\xq xs (j+1)+1<=hAt hs (xq xs j)
   split at this <;> split at this <;> lia)
  nz (by rw[j6];unfold Qy;rw[bn];exact fx) (by unfold xq;rw[Nat.mod_self,Nat.zero_mod]) (by rw[ep];exact ns) (p0 _ (al _)) i (bu hi)
 rw[bF,bj];lia
theorem j7 (hb:1<=b)(g:gOf t b=1):wy t b=(t,b):=by unfold wy;rw[g,Int.ediv_one,Int.ediv_one]
theorem j8 (m1:1<=m)(m2:m<=12)(c:ClR hs m r):yj hs r:=by
 obtain⟨hl,hx,hc,he⟩:=c;refine⟨⟨⋯,⋯⟩,λi x y ex ey=>?_⟩;have hi:=(ak.mp ex).1;have gx:r.getD i 0=x:=by rw[af,ex];rfl
 refine⟨hx x (aC ex),?_⟩;by_cases z:i+1<r.length
 .rw[wvn z]at ey;have gy:r.getD (i+1) 0=y:=by rw[af,ey];rfl
  have:=hc i ⋯;rw[gx,gy]at this;exact this
 .rw[wvu ⋯]at ey;have gy:r.getD 0 0=y:=by rw[af,ey];rfl
  rw[show m-1=i by lia,gx,gy]at he;exact he
theorem ug (xs:List Int):xq xs 0=xs.getD 0 0:=by unfold xq;rw[Nat.zero_mod]
theorem wk3 (xs:List Int):xq xs xs.length=xq xs 0:=by unfold xq;rw[Nat.mod_self,Nat.zero_mod]
theorem Wf (hs xs:List Int)(T B:Int):Qy hs xs T B xs.length=(w8 hs xs).1*T+(w8 hs xs).2*B:=by unfold Qy;rw[bn]
theorem wwg {T:Int}(hB:1<=B)(hx:∀i,i<xs.length->0<=xq xs i/\xq xs i<(hs.length:Int)-1)(hin:∀i,i<xs.length->xq xs i*B<=Qy hs xs T B i/\Qy hs xs T B i<=(xq xs i+1)*B):∀i,i<=xs.length->trT hs T B i=Qy hs xs T B i
 |0,_=>(j6 hs xs T B).symm
 |i+1,hi=>by have ih:=wwg hB hx hin i ⋯;obtain⟨x0,x1⟩:=hx i ⋯;obtain⟨l1,l2⟩:=hin i ⋯;show vd hs (trT hs T B i) B=_;rw[ih,Z2 x0 x1 hB l1 l2,uk ⋯]
theorem qyc (c:yj hs xs):∀i,i<xs.length->0<=xq xs i/\xq xs i<(hs.length:Int)-1:=λi hi=>wjb c _ (aC (jf hi))
def Qs (p:Int×Int):Int×Int:=if p.1>1 then wy (-p.2) (p.1-1) else wy p.2 (1-p.1)
theorem xq9 {p:Int×Int}(h:p.1≠1):1<=(Qs p).2/\gOf (Qs p).1 (Qs p).2=1/\p.1*(Qs p).1+p.2*(Qs p).2=(Qs p).1:=by
 unfold Qs;by_cases z:p.1>1
 .rw[aw z];have c:=zd (t:=-p.2) (b:=p.1-1) ⋯;exact⟨zg ⋯,qjn ⋯,by grind⟩
 .rw[ar z];have c:=zd (t:=p.2) (b:=1-p.1) ⋯;exact⟨zg ⋯,qjn ⋯,by grind⟩
theorem xwp {p:Int×Int}(h:p.1≠1)(hb:1<=b)(g:gOf t b=1)(e:p.1*t+p.2*b=t):Qs p=(t,b):=by
 unfold Qs;by_cases z:p.1>1
 .rw[aw z,<-j7 hb g];exact(y9 ⋯ hb).mp (by grind)
 .rw[ar z,<-j7 hb g];exact(y9 ⋯ hb).mp (by grind)
theorem quq (c:yj hs xs)(ns:(w8 hs xs).1≠1):zn hs (Qs (w8 hs xs)).1 (Qs (w8 hs xs)).2/\trT hs (Qs (w8 hs xs)).1 (Qs (w8 hs xs)).2 xs.length=(Qs (w8 hs xs)).1:=by
 obtain⟨hB,_,fx⟩:=xq9 ns;have hin:=λi hi=>row_in c hB ns fx (i:=i) hi;constructor
 .obtain⟨l1,l2⟩:=hin 0 (by have:=c.1.1;lia);obtain⟨x0,x1⟩:=qyc c 0 (by have:=c.1.1;lia);rw[j6]at l1 l2;exact⟨dF (bg x0 ⋯) l1,dF l2 (au ⋯ ⋯)⟩
 .rw[wwg hB (qyc c) hin _ (al _),Wf];exact fx
theorem wx1 (c:yj hs xs)(a1:(w8 hs xs).1=1):∀i,i<xs.length->(hAt hs (xq xs i+1)-hAt hs (xq xs i)).natAbs=1:=by
 have cv:∀j,j<xs.length->covR hs (xq xs j) (xq xs (j+1)):=λj hj=>c.2 j _ _ (jf hj) (Zn hj);have nz:∀j,j<xs.length->1<=(hAt hs (xq xs j+1)-hAt hs (xq xs j)).natAbs:=λj hj=>by have:=(cv j hj).2;unfold loH hiH jj Qu at this;split at this <;> split at this <;> lia
 have st:∀j,j<xs.length->(w8 hs (xs.take (j+1))).1.natAbs=(w8 hs (xs.take j)).1.natAbs*(hAt hs (xq xs j+1)-hAt hs (xq xs j)).natAbs:=λj hj=>by rw[yw hs (jf hj)];unfold wq1;dsimp only;rw[fY]
 have low:∀j,j<=xs.length->1<=(w8 hs (xs.take j)).1.natAbs:=λj=>by
  induction j with
  |zero=>intro _;rw[hU];show 1<=(1:Int).natAbs;decide
  |succ j ih =>
   intro hj;rw[st j ⋯];exact Nat.mul_le_mul (ih ⋯) (nz j ⋯)
 have mono:∀d j,j+d=xs.length->(w8 hs (xs.take j)).1.natAbs<=(w8 hs (xs.take xs.length)).1.natAbs:=λd=>by
  induction d with
  |zero=>intro j e;rw[show j=xs.length by lia];exact al _
  |succ d ih =>
   intro j e;refine bM ?_ (ih (j+1) ⋯);rw[st j ⋯];exact iK _ (nz j ⋯)
 have one:∀j,j<=xs.length->(w8 hs (xs.take j)).1.natAbs=1:=λj hj=>by have h1:=low j hj;have h2:=mono (xs.length-j) j ⋯;rw[bn,a1]at h2;have:(1:Int).natAbs=1:=rfl;lia
 intro i hi;have:=st i hi;rw[one i ⋯,one (i+1) ⋯]at this;lia
theorem ww0 {k j:Int}(c:covR hs k j)(o:(hAt hs (k+1)-hAt hs k).natAbs=1):(hAt hs k=j/\hAt hs (k+1)=j+1)\/(hAt hs k=j+1/\hAt hs (k+1)=j):=by have:=c.2;unfold loH hiH jj Qu at this;split at this <;> split at this <;> lia
theorem Ym (c:yj hs xs)(a1:(w8 hs xs).1=1){t b:Int}(hb:1<=b)(h1:xq xs 0*b<=t)(h2:t<=(xq xs 0+1)*b):∀i,i<=xs.length->xq xs i*b<=Qy hs xs t b i/\Qy hs xs t b i<=(xq xs i+1)*b
 |0,_=>by rw[j6];exact⟨h1,h2⟩
 |i+1,hi=>by
  obtain⟨l1,l2⟩:=Ym c a1 hb h1 h2 i ⋯;have cv:=c.2 i _ _ (jf (show i<xs.length by lia)) (Zn (show i<xs.length by lia));have o:=wx1 c a1 i ⋯;rw[uk (show i<xs.length by lia)];generalize Qy hs xs t b i=u at l1 l2;rcases ww0 cv o with⟨e1,e2⟩|⟨e1,e2⟩
  .rw[e1,e2];generalize xq xs (i+1)=y;generalize xq xs i=x at l1 l2;have e:y*b+(y+1-y)*(u-x*b)=y*b+(u-x*b):=by rw[show y+1-y=(1:Int) by lia,bj]
   rw[e,bF,bj];rw[bF,bj]at l2;lia
  .rw[e1,e2];generalize xq xs (i+1)=y;generalize xq xs i=x at l1 l2;have e:(y+1)*b+(y-(y+1))*(u-x*b)=y*b+b-(u-x*b):=by rw[show y-(y+1)=(-1:Int) by lia,bF,bj];lia
   rw[e,bF,bj];rw[bF,bj]at l2;lia
theorem qzj (c:yj hs xs)(a1:(w8 hs xs).1=1){t b:Int}(hb:1<=b)(h1:xq xs 0*b<=t)(h2:t<=(xq xs 0+1)*b):trT hs t b xs.length=t:=by
 have all:=Ym c a1 hb h1 h2;have z:(w8 hs xs).2=0:=by have p:=Ym c a1 (t:=xq xs 0) (b:=1) ⋯ ⋯ ⋯ xs.length (al _);have q:=Ym c a1 (t:=xq xs 0+1) (b:=1) ⋯ ⋯ ⋯ xs.length (al _);rw[Wf,wk3,a1]at p q;lia
 rw[wwg hb (qyc c) (λi hi=>all i ⋯) _ (al _),Wf,a1,z];lia
theorem xw0 (h:b∣t):b∣vd hs t b:=by unfold vd;exact Int.dvd_add (iL _ _) (Int.dvd_trans (Int.dvd_sub h (iL _ _)) (iL _ _))
theorem xqd (h:b∣trT hs t b i):∀d,b∣trT hs t b (i+d)
 |0=>h
 |d+1=>xw0 (xqd h d)
theorem xxh (ok:wj hs){t b:Int}{m:Nat}(m1:1<=m)(m2:m<=12)(hb:1<=b)(on:zn hs t b)(nd:¬ b∣t)(bk:trT hs t b m=t) :
  ∃r,ClR hs m r/\(w8 hs r).1*t+(w8 hs r).2*b=t/\r.getD 0 0*b<t/\t<(r.getD 0 0+1)*b:=by
 have n0:∀i,i<=m->¬ b∣trT hs t b i:=λi hi z=>by have:=xqd z (m-i);rw[show i+(m-i)=m by lia,bk]at this;exact nd this
 let s:Nat->Int:=λi=>trT hs t b i/b;have sl:∀i,i<=m->s i*b<trT hs t b i/\trT hs t b i<(s i+1)*b:=λi hi=>by have e:=Int.mul_ediv_add_emod (trT hs t b i) b;have e0:=cE (trT hs t b i) (show b≠0 by lia);have e1:=bV (trT hs t b i) (show 0<b by lia);have e2:trT hs t b i%b≠0:=λz=>n0 i hi (Int.dvd_of_emod_eq_zero z);have cm:b*(trT hs t b i/b)=s i*b:=bC _ _;rw[cm]at e;rw[bF,bj];lia
 have sr:∀i,i<=m->0<=s i/\s i<(hs.length:Int)-1:=λi hi=>by
  obtain⟨o1,o2⟩:=wuk ok hb on i;obtain⟨l1,l2⟩:=sl i hi;constructor
  .exact iP o1 ⋯
  .by_cases z:s i<(hs.length:Int)-1
   .exact z
   .have:=au (show(hs.length:Int)-1<=s i by lia) (show 0<=b by lia);lia
 have cv:∀i,i<m->cvr hs (s i) (s (i+1)):=λi hi=>by
  obtain⟨x0,x1⟩:=sr i ⋯;obtain⟨l1,l2⟩:=sl i ⋯;obtain⟨y1,y2⟩:=sl (i+1) ⋯;have e:trT hs t b (i+1)=hAt hs (s i)*b+(hAt hs (s i+1)-hAt hs (s i))*(trT hs t b i-s i*b):=by show vd hs (trT hs t b i) b=_;exact Z2 x0 x1 hb ⋯ ⋯
  rw[e]at y1 y2;rw[bF,bj]at l2 y2;generalize hx:trT hs t b i-s i*b=x at y1 y2;have xp:0<x:=by lia
  have xb:x<b:=by lia
  generalize s (i+1)=y at y1 y2;unfold cvr loH hiH;generalize hAt hs (s i)=p at y1 y2;generalize hAt hs (s i+1)=q at y1 y2;have key:∀p q:Int,p<=q->p*b<=p*b+(q-p)*x/\p*b+(q-p)*x<=q*b:=λp q h=>by have a1:0<=(q-p)*x:=bg ⋯ ⋯;have a2:(q-p)*x<=(q-p)*b:=aV ⋯ ⋯;have a3:(q-p)*b=q*b-p*b:=i4 _ _ _;lia
  have lt_of:∀u v:Int,u*b<v*b->u<v:=λu v h=>Int.lt_of_mul_lt_mul_right h ⋯;rcases Int.le_total p q with h|h
  .obtain⟨k1,k2⟩:=key p q h;have m1:jj p q=p:=by unfold jj;split <;> lia
   have m2:Qu p q=q:=by unfold Qu;split <;> lia
   rw[m1,m2];have g1:p<y+1:=lt_of _ _ (by rw[bF,bj];lia);have g2:y<q:=lt_of _ _ ⋯;lia
  .obtain⟨k1,k2⟩:=key q p h;have m1:jj p q=q:=by unfold jj;split <;> lia
   have m2:Qu p q=p:=by unfold Qu;split <;> lia
   rw[m1,m2];have ey:p*b+(q-p)*x=q*b+(p-q)*(b-x):=by rw[i4,i4,fU,fU];lia
   have a1:0<=(p-q)*(b-x):=bg ⋯ ⋯;have a2:(p-q)*(b-x)<=(p-q)*b:=aV ⋯ ⋯;have a3:(p-q)*b=p*b-q*b:=i4 _ _ _;have g1:q<y+1:=lt_of _ _ (by rw[bF,bj];lia);have g2:y<p:=lt_of _ _ ⋯;lia
 have sm:s m=s 0:=by show trT hs t b m/b=t/b;rw[bk]
 have gd:∀i,i<m->((List.range m).map s).getD i 0=s i:=λi hi=>by rw[af,aA,bp hi];rfl
 have len:((List.range m).map s).length=m:=by simp
 have c:ClR hs m ((List.range m).map s):=by
  refine⟨len,λx hx=>?_,λi hi=>?_,?_⟩
  .obtain⟨i,hi,rfl⟩:=aJ.mp hx;exact sr i (bu (ay.mp hi))
  .rw[gd i ⋯,gd (i+1) hi];exact cv i ⋯
  .rw[gd (m-1) ⋯,gd 0 ⋯,<-sm];have:=cv (m-1) ⋯;rwa [show m-1+1=m by lia]at this
 have cl:=j8 m1 m2 c;have ce:∀i,i<m->xq ((List.range m).map s) i=s i:=λi hi=>by unfold xq;rw[len,d9 hi,gd i hi]
 refine⟨_,c,?_,?_,?_⟩
 .have tt:∀i,i<=m->trT hs t b i=Qy hs ((List.range m).map s) t b i:=λi=>by
   induction i with
   |zero=>intro _;exact(j6 _ _ _ _).symm
   |succ i ih =>
    intro hi;have ih:=ih ⋯;obtain⟨x0,x1⟩:=sr i ⋯;obtain⟨l1,l2⟩:=sl i ⋯;show vd hs (trT hs t b i) b=_;rw[Z2 x0 x1 hb ⋯ ⋯,uk (by rw[len];lia),ce i ⋯,ih]
  have:=tt m (al _);rw[bk]at this;have tl:=Wf hs ((List.range m).map s) t b;rw[len]at tl;rw[<-tl];exact this.symm
 .rw[gd 0 ⋯];exact(sl 0 ⋯).1
 .rw[gd 0 ⋯];exact(sl 0 ⋯).2
def Z5 (hs:List Int)(m:Nat)(p:Int×Int):Prop:=(∃r∈zj hs m,(w8 hs r).1≠1/\p=Qs (w8 hs r))\/(p.2=1/\0<=p.1/\p.1<=(hs.length:Int)-1/\trT hs p.1 1 m=p.1)
def Zr (hs:List Int)(m:Nat)(k:Int):Prop:=∃r∈zj hs m,(w8 hs r).1=1/\r.getD 0 0=k
theorem wwj (ok:wj hs){m:Nat}(m1:1<=m)(m2:m<=12){p:Int×Int}(hb:1<=p.2)(g:gOf p.1 p.2=1)(on:zn hs p.1 p.2):trT hs p.1 p.2 m=p.1↔(Z5 hs m p\/∃k,Zr hs m k/\k*p.2<=p.1/\p.1<=(k+1)*p.2):=by
 constructor
 .intro bk;by_cases nd:p.2∣p.1
  .have e1:p.2=1:=by have:=j7 hb g;have hd:=ut (t:=p.1/p.2) (b:=1) (c:=p.2) ⋯ hb;rw[Int.ediv_mul_cancel nd,bj]at hd;rw[this]at hd;have h2:=cr Prod.snd hd;have h3:=yt (t:=p.1/p.2) (b:=1) ⋯;have h2:p.2=(wy (p.1/p.2) 1).2:=h2;lia
   refine .inl (.inr ⟨e1,on.1,?_,by rw[e1]at bk;exact bk⟩);have:=on.2;rw[e1]at this;lia
  .obtain⟨r,c,e,l1,l2⟩:=xxh ok m1 m2 hb on nd bk;have hr:=(v9 ok m1).mpr c;by_cases z:(w8 hs r).1=1
   .exact .inr ⟨_,⟨r,hr,z,rfl⟩,fZ l1,fZ l2⟩
   .exact .inl (.inl ⟨r,hr,z,(xwp z hb g e).symm⟩)
 .rintro ((⟨r,hr,z,rfl⟩|⟨e1,_,_,bk⟩)|⟨k,⟨r,hr,z,rfl⟩,l1,l2⟩)
  .have c:=(v9 ok m1).mp hr;have:=(quq (j8 m1 m2 c) z).2;rwa [c.1]at this
  .rw[e1];exact bk
  .have c:=(v9 ok m1).mp hr;have:=qzj (j8 m1 m2 c) z hb (by rw[ug];exact l1) (by rw[ug];exact l2);rwa [c.1]at this
theorem Yx (ok:wj hs){m:Nat}(m1:1<=m)(m2:m<=12){p:Int×Int}(h:Z5 hs m p):1<=p.2/\gOf p.1 p.2=1/\zn hs p.1 p.2:=by
 rcases h with⟨r,hr,z,rfl⟩|⟨e1,h0,h1,_⟩
 .have c:=(v9 ok m1).mp hr;obtain⟨a,b,_⟩:=xq9 z;exact⟨a,b,(quq (j8 m1 m2 c) z).1⟩
 .refine⟨⋯,?_,h0,by rw[e1];lia⟩;rw[e1];have:=yt (t:=p.1) (b:=1) ⋯;have:=zg (t:=p.1) (b:=1) ⋯;have e:=qv9 (t:=p.1) (b:=1) ⋯;have:(1:Int)/gOf p.1 1=1:=by show(wy p.1 1).2=1;lia
  rw[this]at e;lia
def yk (hs:List Int):Nat->Int->Int
 |0,_=>1
 |t+1,k=>((jp hs k).map (yk hs t)).sum
def crS (hs:List Int)(t:Nat):Int:=(zp (hs.length-1) λk=>yk hs t k).sum
theorem Wc (n:Nat)(g:Nat->Int):(zp n g).length=n:=by unfold zp;rw[ag,aG]
theorem W8 (n:Nat)(g:Nat->Int):zp (n+1) g=zp n g++[g n]:=by unfold zp;rw[bL,aW];rfl
theorem wz3 {n:Nat}(h0:0<=x)(h1:x<n):atI ((zp n g).map V.int) x=some (V.int (g x.toNat)):=by
 have e:((zp n g).map V.int)[x.toNat]?=some (V.int (g x.toNat)):=by unfold zp;rw[aA,aA,bp ⋯];rfl
 have:=vg e;rwa [show((x.toNat:Nat):Int)=x by lia]at this
theorem xvw (ok:wj hs){t:Nat}(k:Int):Yd ((zp (hs.length-1) λk=>yk hs t k).map V.int) (some (loH hs k)) (some (hiH hs k))=((jp hs k).map (yk hs t)).map V.int:=by
 obtain⟨l0,l1,l2⟩:=lohi ok k;have o1:=ok.1;unfold Yd jp;generalize loH hs k=lo at l0 l1;generalize hiH hs k=hi at l1 l2;obtain⟨a,rfl⟩:=fS l0;obtain⟨b,rfl⟩:=fS (dF l0 l1);have hl:((zp (hs.length-1) λk=>yk hs t k).map V.int).length=hs.length-1:=by rw[ag,Wc]
 rw[hl,HT.sIx_nat,HT.sIx_nat,iS ⋯,iS ⋯,ba,ba];refine bT λi=>?_;rw[dJ];rcases bo i (b-a) with z|z
 .rw[aw z,di,aA,aA,bp ⋯];unfold zp;rw[aA,bp ⋯];show some (V.int (yk hs t ((a+i:Nat):Int)))=some (V.int (yk hs t ((a:Int)+(i:Int))));rw[Int.natCast_add]
 .rw[ar ⋯,aA,aR (by rw[aG];lia)];rfl
def qzn (K:Aa):Sp:=λvs H Q _=>∃(p:Aj) (hs:List Int) (m:Int),vs=[.ref p,.int m]/\SqL K H p (hs.map V.int)/\wj hs/\1<=m/\m<=12/\∀q H',Same H H'->H' q=some (.lst ((zp m.toNat λi=>crS hs (i+1)).map V.int))->Q (.ref q) H'
include T in
theorem wkh (F:Fun K "_law_crowds" "_law_crowds" zbj f fd):FK P w K mg base 1 f fd ["_law_heights_here","_law_most"] (qzn K):=by
 have sc:=qwg;refine F.okX sc (λvs H Q E h=>by obtain⟨_,_,_,rfl,_⟩:=h;rfl) λ_ _ _ _ H vs Q E hr h=>?_;obtain⟨p,hs,m,rfl,hS,ok,m1,m2,k⟩:=h;have o1:=ok.1;have o2:=ok.2.1;have big:(1000000:Nat)<sizeLine:=by decide
 have hlen:(hs.map V.int).length=hs.length:=ag _;refine⟨_,(qj (wg (i:=2) (wz zm (wn xf rfl T.len_ bU (qw (pv 0) qv)) qx))
   (qj (Qw (i:=3) (M:=[]) sc.nd rfl (by walk_at "loc") rfl rfl (by walk_at "cap") (by walk_at "has") (by walk_at "cix") rfl (by decide +kernel) rfl (show List.Nodup (["_law_k"]:List Str) by decide +kernel) (xh rfl T.range_ (qw (pv 2) qv)) (λ_ _ _ _ _=>qx))
   (qj (wg (i:=4) (vf qv))
   (qj (jx bh rfl (xh rfl T.range_ (qw (pv 1) qv)) (xy (i:=5)) (qj (wg (i:=6) (vf qv))
   (qj (jx bh rfl (xh rfl T.range_ (qw (pv 2) qv)) (xy (i:=7)) (qj (wg (i:=8) (wn (W4 rfl) rfl T.min_ dR (qw (wv x8 (pv 0) (pv 7) (λ_ _=>rfl)) (qw (wv x8 (pv 0) (wz x9 (pv 7) qx) (λ_ _=>rfl)) qv))))
   (qh (vy (Q0 bB bG bH vk (pv 6) (qw (wn (ky (K:=K) rfl rfl) rfl T.sum_ uj (qw (wqd wz0 (pv 3) (qyb (pv 8)) (qyb (wn (W5 rfl) rfl T.max_ df (qw (wv x8 (pv 0) (pv 7) (λ_ _=>rfl)) (qw (wv x8 (pv 0) (wz x9 (pv 7) qx) (λ_ _=>rfl)) qv))))) qv)) qv))))))
   (qj (wg (i:=3) (pv 6))
   (qh (vy (Q0 bB bG bH vk (pv 4) (qw (wn (ky (K:=K) rfl rfl) rfl T.sum_ uj (qw (pv 3) qv)) qv))))))))
   (qh (xw (pv 4))))))),?_⟩
 refine exI rfl ⟨_,_,rfl,.inl hS,wp rfl rfl ?_⟩;rw[hlen];refine exI rfl (exI rfl ⟨⋯,⋯,?_⟩);rw[show((hs.length:Int)-1).toNat=hs.length-1 by lia];refine kh (λ_=>V.int 1) ⋯ (λj H2 R2 hj s2 hR2=>hR2) λb nb=>?_;have s1:=Same.upd (o:=.lst ((List.range (hs.length-1)).map λ_=>V.int 1)) nb;have f1:upd H b (.lst ((List.range (hs.length-1)).map λ_=>V.int 1)) b=some (.lst ((zp (hs.length-1) λ_=>1).map V.int)):=by rw[qf,qx5]
 generalize upd H b (.lst ((List.range (hs.length-1)).map λ_=>V.int 1))=H1 at s1 f1;refine⟨sz0,λq nq=>?_⟩;have nq0:H q=none:=by
  cases e:H q with
  |none=>rfl
  |some o=>rw[s1 _ _ e]at nq;cases nq
 refine exI rfl (exI rfl ⟨⋯,⋯,?_⟩);refine v6 (λt σ H'=>Same H H'/\∃(b:Aj) (z5 z6 z7 z8:Option V),σ=[some (.ref p),some (.int m),some (.int ((hs.length:Int)-1)),some (.ref b),some (.ref q),z5,z6,z7,z8]/\H' b=some (.lst ((zp (hs.length-1) λk=>yk hs t k).map V.int))/\b≠q/\H' q=some (.lst ((zp t λi=>crS hs (i+1)).map V.int)))
  ⟨s1.trans (Same.upd nq),b,_,_,_,_,rfl,(Same.upd nq) _ _ f1,wx f1 nq,qf⟩ ?_ ?_
 .rintro t σ H2 ht ⟨s2,b,z5,z6,z7,z8,rfl,fb,bq,fq⟩;refine⟨sz0,λc nc=>?_⟩;have nc0:H c=none:=by
   cases e:H c with
   |none=>rfl
   |some o=>rw[s2 _ _ e]at nc;cases nc
  have cb:b≠c:=wx fb nc;have cq:q≠c:=wx fq nc;refine exI rfl (exI rfl ⟨⋯,⋯,?_⟩);refine v6 (λi σ H'=>Same H H'/\∃(z7 z8:Option V),σ=[some (.ref p),some (.int m),some (.int ((hs.length:Int)-1)),some (.ref b),some (.ref q),some (.int ((0:Int)+t)),some (.ref c),z7,z8]/\H' b=some (.lst ((zp (hs.length-1) λk=>yk hs t k).map V.int))/\H' q=some (.lst ((zp t λi=>crS hs (i+1)).map V.int))/\H' c=some (.lst ((zp i λk=>yk hs (t+1) k).map V.int)))
   ⟨s2.trans (Same.upd nc),_,_,rfl,(Same.upd nc) _ _ fb,(Same.upd nc) _ _ fq,qf⟩ ?_ ?_
  .rintro i σ H3 hi ⟨s3,z7,z8,rfl,fb3,fq3,fc3⟩;have hS3:=s3.sql hS;have a0:=wx5 (hs:=hs) (k:=(0:Int)+i) ⋯ ⋯;have a1:=wx5 (hs:=hs) (k:=(0:Int)+i+1) ⋯ ⋯;refine exI rfl (exI rfl (exX rfl rfl hS3 a0 (exI rfl (exI rfl (wp rfl rfl (exX rfl rfl hS3 a1 ⟨_,_,rfl,?_⟩))))));refine exI rfl ⟨.inl ⟨rfl,_,SqL.of fc3⟩,?_⟩;refine exI rfl (exI rfl (exI rfl (exI rfl (exI rfl (exX rfl rfl hS3 a0 (exI rfl (exI rfl (wp rfl rfl (exX rfl rfl hS3 a1 ⟨_,_,rfl,?_⟩)))))))));refine exI rfl ⟨b,exI rfl ⟨SqL.of fb3,λp4 n4=>?_⟩⟩;have eg:=xvw (t:=t) ok ((0:Int)+i);have eg:Yd ((zp (hs.length-1) λk=>yk hs t k).map V.int) (some (jj (hAt hs ((0:Int)+i)) (hAt hs ((0:Int)+i+1)))) (some (Qu (hAt hs ((0:Int)+i)) (hAt hs ((0:Int)+i+1))))=((jp hs ((0:Int)+i)).map (yk hs t)).map V.int:=eg;have s4:=Same.upd (H:=H3) (o:=.lst (Yd ((zp (hs.length-1) λk=>yk hs t k).map V.int) (some (jj (hAt hs ((0:Int)+i)) (hAt hs ((0:Int)+i+1)))) (some (Qu (hAt hs ((0:Int)+i)) (hAt hs ((0:Int)+i+1)))))) n4;refine⟨p4,(jp hs ((0:Int)+i)).map (yk hs t),rfl,SqL.of (by rw[<-eg];exact qf),?_⟩;have fc4:=s4 _ _ fc3;refine⟨c,_,_,rfl,rfl,fc4,by rw[ag,Wc];lia,?_⟩;refine⟨Same.upd2 (s3.trans s4) nc0,_,_,rfl,?_,?_,?_⟩
   .rw[q8 cb];exact s4 _ _ fb3
   .rw[q8 cq];exact s4 _ _ fq3
   .rw[qf,W8,aW,ff];rfl
  .rintro σ H3 ⟨s3,z7,z8,rfl,fb3,fq3,fc3⟩;refine exI rfl ?_;refine⟨_,rfl,.inl ⟨rfl,_,SqL.of fq3⟩,_,rfl,c,_,rfl,SqL.of fc3,q,_,_,rfl,rfl,fq3,by rw[ag,Wc];lia,?_⟩;rw[tn2]at fc3;refine⟨Same.upd2 s3 nq0,c,_,_,_,_,rfl,?_,dD cq,?_⟩
   .rw[q8 (dD cq)];exact fc3
   .rw[qf,W8,aW,tn2];rfl
 .rintro σ H2 ⟨s2,b,z5,z6,z7,z8,rfl,fb,bq,fq⟩;exact exI rfl (k q H2 s2 fq)
def qjm (K:Aa):Sp:=λvs H Q _=>∃(p:Aj) (hs:List Int) (m r:Int),vs=[.ref p,.int m,.int r]/\SqL K H p (hs.map V.int)/\wj hs/\1<=m/\m<=12/\∀x H',1<=x->x<=m->(∀i:Nat,1<=i->(i:Int)<x->crS hs (i+1)<=r)->Same H H'->Q (.int x) H'
include T in
theorem wug (F:Fun K "_law_times" "_law_times" zbk f fd)(zev:Cal P w K mg base "_law_crowds" 1 (qzn K)):FK P w K mg base 2 f fd ["_law_heights_here","_law_wish","_law_room"] (qjm K):=by
 have sc:=qz6;refine F.okX sc (λvs H Q E h=>by obtain⟨_,_,_,_,rfl,_⟩:=h;rfl) λ_ _ _ _ H vs Q E hr h=>?_;obtain⟨p,hs,m,r,rfl,hS,ok,m1,m2,k⟩:=h;refine⟨_,(qj (wg (i:=3) (wu zev (hr.mono ⋯) rfl qt (qw (pv 0) (qw (pv 1) qv))))
   (qj (wg (i:=4) qx)
   (qj (Q6 bh (PW.pt (Yt (wt Q3 (pv 4) (pv 1) (xv _)) (W1 (wt qwn (wv x8 (pv 3) (pv 4) (λ_ _=>rfl)) (pv 2) (xv _))))) (qh (qyf (i:=4) sc.nd rfl (Or.inl rfl) qx xw4)))
   (qh (xw (pv 4)))))),?_⟩
 refine exI rfl (exI rfl ⟨p,hs,m,rfl,hS,ok,m1,m2,λq H1 s1 f1=>?_⟩);refine Yh (λσ H'=>H'=H1/\∃x:Int,1<=x/\x<=m/\(∀i:Nat,1<=i->(i:Int)<x->crS hs (i+1)<=r)/\σ=[some (.ref p),some (.int m),some (.int r),some (.ref q),some (.int x)]) (λσ _=>match σ with|[_,_,_,_,some (.int x)]=>(20-x).toNat|_=>0) ⟨rfl,1,⋯,⋯,λi h1 h2=>absurd h2 ⋯,rfl⟩ ?_ ?_
 .rintro σ H' ⟨rfl,x,x1,x2,hx,rfl⟩;refine exI rfl (exI rfl (wp rfl rfl (exI rfl (kr (λz=>?_) (λz=>?_)))))
  .refine exI rfl (exI rfl (exX rfl rfl (SqL.of f1) (wz3 ⋯ ⋯) (exI rfl (wp rfl rfl (exI rfl (kr (λy=>?_) (λy=>?_)))))))
   .refine exI rfl (wp rfl rfl ⟨⟨rfl,x+1,⋯,⋯,λi h1 h2=>?_,rfl⟩,?_⟩)
    .rcases(by lia:(i:Int)<x\/(i:Int)=x) with w|w
     .exact hx i h1 w
     .rw[show i=x.toNat by lia];exact y
    show(20-(x+1)).toNat<(20-x).toNat;lia
   .exact exI rfl (k x _ x1 x2 hx s1)
  .exact jz (exI rfl (k x _ x1 x2 hx s1))
 .intro σ H Q Q' h hc;obtain⟨v1,e1,v2,e2,i,j,e3,e4,b,e5,q⟩:=hc;refine⟨v1,e1,v2,e2,i,j,e3,e4,b,e5,?_⟩;cases b with
  |false =>
   rw[ar aK]at q ⊢;exact h _ _ q
  |true =>
   rw[aw rfl]at q ⊢;obtain⟨v3,e6,v4,e7,a1,a2,a3,a4,e8,e9,sq,ea,v5,e10,i2,j2,e11,e12,b2,e13,q2⟩:=q;exact⟨v3,e6,v4,e7,a1,a2,a3,a4,e8,e9,sq,ea,v5,e10,i2,j2,e11,e12,b2,e13,h _ _ q2⟩
theorem xzx (ok:wj hs)(k:Int):(jp hs k).length<=24:=by obtain⟨l0,l1,l2⟩:=lohi ok k;have:=ok.2.1;unfold jp;rw[ag,aG];lia
theorem xwt (ok:wj hs):crS hs 1<=576:=by
 have o2:=ok.2.1;have:∀n:Nat,(zp n λk=>yk hs 1 k).sum<=24*n:=λn=>by
  induction n with
  |zero=>exact cB _
  |succ n ih =>
   rw[W8,eK];have e:yk hs 1 (n:Int)=((jp hs n).length:Int):=by
    show((jp hs n).map (yk hs 0)).sum=_;generalize jp hs n=L
    induction L with
    |nil=>rfl
    |cons r L ih=>rw[aD,bW,ih,aQ];show(1:Int)+_=_;lia
   have:=xzx ok (n:Int);simp only[bW,List.sum_nil];lia
 have:=this (hs.length-1);unfold crS;lia
theorem wv6 (ok:wj hs):∀(t:Nat) (k:Int),0<=k->k<(hs.length:Int)-1->yk hs t k=vq (hs.length-1) (zh (zx hs) t k.toNat)
 |0,k,h0,h1=>by have:=wqu (n:=hs.length-1) (i:=k.toNat) ⋯ λ_=>1;show(1:Int)=_;rw[<-this];refine kg λj _=>?_;rw[ig];rfl
 |t+1,k,h0,h1=>by show((jp hs k).map (yk hs t)).sum=vq (hs.length-1) λj=>((zx hs k.toNat).map λv=>zh (zx hs) t v.toNat j).sum;rw[qwy h0,<-qy1 (hs.length-1) (λ(v:Int) j=>zh (zx hs) t v.toNat j)];congr 1;refine da λv hv=>?_;have:=Wp ok k v hv;exact wv6 ok t v this.1 ⋯
theorem wxs (ok:wj hs)(m:Nat):crS hs m=vq (hs.length-1) λi=>vq (hs.length-1) (zh (zx hs) m i):=by show vq (hs.length-1) _=_;refine kg λi hi=>?_;rw[wv6 ok m (i:Int) ⋯ ⋯,b8]
theorem qyk {n:Nat}(e:∀i,i<n->g i<=h i):vq n g<=vq n h:=by
 induction n with
 |zero=>exact cB _
 |succ n ih =>
  have:=ih λi hi=>e i ⋯;have:=e n ⋯;rw[v8,v8];lia
theorem qyz {n:Nat}(h:∀i,0<=g i)(hi:i<n):g i<=vq n g:=by have:=wqu hi g;rw[<-this];refine qyk λk _=>?_;have:=h k;split <;> lia
theorem pow_cr (ok:wj hs){m f:Nat}(hf:f<hs.length-1):zh (zx hs) m f f<=crS hs m:=by rw[wxs ok];refine dF (qyz (g:=zh (zx hs) m f) (Qt _ _ _) hf) (qyz (g:=λi=>vq (hs.length-1) (zh (zx hs) m i)) (λi=>?_) hf);have:=qyk (n:=hs.length-1) (g:=λ_=>0) (h:=zh (zx hs) m i) λj _=>Qt _ _ _ _;rwa [Jj _ _ λ_ _=>rfl]at this
theorem qkz (ok:wj hs){m:Nat}(hm:1<=m):((zj hs m).length:Int)<=crS hs m:=by rw[wyq ok hm,wxs ok];exact qyk λi hi=>qyz (Qt _ _ _) hi
def TabsAt (H:Hp)(p:Aj)(hs:List Int)(m:Nat):Prop:=∃ys,H p=some (.lst ys)/\ys.length=m+1/\∀i v,ys[i]?=some v->∃q,v=.ref q/\MatAt H q (hs.length-1) (zh (zx hs) i)
theorem TabsAt.same (h:TabsAt H p hs m)(s:Same H H'):TabsAt H' p hs m:=by obtain⟨ys,e,l,r⟩:=h;exact⟨ys,s _ _ e,l,λi v z=>let ⟨q,a,b⟩:=r i v z;⟨q,a,b.same s⟩⟩
theorem TabsAt.at_ (h:TabsAt H p hs m){t i j:Int}(t0:0<=t)(t1:t<=m)(i0:0<=i)(i1:i<(hs.length:Int)-1)(j0:0<=j)(j1:j<(hs.length:Int)-1) :
  ∃ys q zs q',H p=some (.lst ys)/\atI ys t=some (.ref q)/\H q=some (.lst zs)/\atI zs i=some (.ref q')/\H q'=some (.lst ((zp (hs.length-1) (zh (zx hs) t.toNat i.toNat)).map V.int))/\atI ((zp (hs.length-1) (zh (zx hs) t.toNat i.toNat)).map V.int) j=some (.int (zh (zx hs) t.toNat i.toNat j.toNat)):=by
 obtain⟨ys,fp,l,r⟩:=h;have e:ys[t.toNat]?=some ys[t.toNat]:=aa ⋯;obtain⟨q,eq,M⟩:=r _ _ e;obtain⟨zs,fq,lz,rz⟩:=id M;obtain⟨q',ez,fq'⟩:=M.row fq (i:=i.toNat) ⋯;have a1:=vg e;have a2:=vg ez;rw[bY t0,eq]at a1;rw[bY i0]at a2;exact⟨ys,q,zs,q',fp,a1,fq,a2,fq',wz3 j0 ⋯⟩
theorem CovAt.at_ (h:CovAt H p hs){i:Int}(i0:0<=i)(i1:i<(hs.length:Int)-1):∃ys q,H p=some (.lst ys)/\atI ys i=some (.ref q)/\H q=some (.lst ((zx hs i.toNat).map V.int)):=by obtain⟨ys,fp,l,r⟩:=h;have e:ys[i.toNat]?=some ys[i.toNat]:=aa ⋯;obtain⟨q,eq,f⟩:=r _ _ e;have a1:=vg e;rw[bY i0,eq]at a1;exact⟨ys,q,fp,a1,f⟩
def Zd:Sp:=λvs H Q _=>∃(c tb:Aj) (hs:List Int) (f m:Nat),vs=[.int ((0:Int)+f),.ref c,.ref tb]/\wj hs/\CovAt H c hs/\TabsAt H tb hs m/\f<hs.length-1/\1<=m/\m<=12/\zh (zx hs) m f f<=1000 /\
 ∀p ys H',H p=none->Same H H'->H' p=some (.lst ys)->Tups (bgR hs f m (m-1)) ys H'->Q (.ref p) H'
theorem xqu (h:r≠[]):atI (r.map V.int) (-1)=some (V.int (r.getLastD 0)):=by have e:r=r.dropLast++[r.getLast h]:=(dB h).symm;rw[e,aW];have:=Wq (r.dropLast.map V.int) (V.int (r.getLast h));rw[Zf];exact this
include T in
theorem qjx (F:Fun K "rows_from" "rows_from" zav f fd):FK P w K mg base 1 f fd ["first","covers","tables"] Zd:=by
 have sc:=qjk;refine F.okX sc (λvs H Q E h=>by obtain⟨_,_,_,_,_,rfl,_⟩:=h;rfl) λ_ _ _ s H vs Q E hr h=>?_;obtain⟨c,tb,hs,f,m,rfl,ok,hC,hT,hf,m1,m2,few,k⟩:=h;have o1:=ok.1;have o2:=ok.2.1;obtain⟨ts,ft,lt,_⟩:=id hT;refine⟨_,(qj (wg (i:=3) (wz zm (wn xf rfl T.len_ bU (qw (pv 2) qv)) qx))
   (qj (wg (i:=4) (wq6 (wt Wv (wv x8 (wv x8 (wv x8 (pv 2) (pv 3) (λ_ _=>rfl)) (pv 0) (λ_ _=>rfl)) (pv 0) (λ_ _=>rfl)) qx (xv _)) (vf (qw (vj (qw (pv 0) qv)) qv)) (vf qv)))
   (qj (jx bh rfl (wyb rfl T.range_ (qw (wz zm (pv 3) qx) (qw qx (qw (Qn jm qx) qv)))) (xy (i:=5)) (qh (qyp (i:=4) (M:=[0,1,2,5]) sc.nd rfl (by walk_at "loc") rfl rfl (by walk_at "cap") (by walk_at "has") (by walk_at "cix") rfl (by decide +kernel) rfl rfl (show List.Nodup (["row","onward","first","covers","tables","left"]:List Str) by decide +kernel) (vc (pv 4)) (λ_ _ _ _ _=>(qy5 (K:=K) rfl (wv (jh (K:=K) rfl) (pv 3) (wv (Yu (K:=K) rfl) (pv 0) (Qn jm qx) (λ_ _=>rfl)) (λ_ _=>rfl)))) (λ_ _ _ _ _=>(wt Wv (wv (jh (K:=K) rfl) (wv (jh (K:=K) rfl) (wv (jh (K:=K) rfl) (pv 4) (pv 5) (λ_ _=>rfl)) (pv 1) (λ_ _=>rfl)) (pv 2) (λ_ _=>rfl)) qx (xv _))) (λ_ _ _ _ _=>(wz (xwy (K:=K) rfl) (pv 0) (vj (qw (pv 1) qv)))))))
   (qh (xw (pv 4)))))),?_⟩
 refine exI rfl ⟨_,_,rfl,.inl (SqL.of ft),wp rfl rfl ?_⟩;rw[lt];have em:(((m+1:Nat):Int)-1).toNat=m:=by lia
 have ef:((0:Int)+f).toNat=f:=by lia
 obtain⟨ys,q,zs,q',e1,e2,e3,e4,e5,e6⟩:=hT.at_ (t:=((m+1:Nat):Int)-1) (i:=(0:Int)+f) (j:=(0:Int)+f) ⋯ ⋯ ⋯ ⋯ ⋯ ⋯;rw[em,ef]at e5 e6;have init:∀(Pp:St->Hp->Prop),(∀p us H1,H p=none->Same H H1->H1 p=some (.lst us)->Tups (bgR hs f m 0) us H1->Pp [some (.int ((0:Int)+f)),some (.ref c),some (.ref tb),some (.int (((m+1:Nat):Int)-1)),some (.ref p),none] H1)->tAsg (tIf (xqm (tOp (rI0 λi j=>V.bl (decide (j<i))) (tOp (wwy K) (tOp (wwy K) (tOp (wwy K) (j4 2) (j4 3)) (j4 0)) (j4 0)) (tC (V.int 0)))) (tLst (yu (tTup (yu (j4 0) qxd)) qxd)) (tLst qxd)) (Z9 4) { nx:=Pp,rt:=Q } [some (.int ((0:Int)+f)),some (.ref c),some (.ref tb),some (.int (((m+1:Nat):Int)-1)),none,none] H:=by
  intro Pp hP;refine exI rfl (exI rfl (exX rfl rfl (SqL.of e1) e2 (exI rfl (exX rfl rfl (SqL.of e3) e4 (exI rfl (exX rfl rfl (SqL.of e5) e6 (wp rfl rfl (exI rfl (kr (λz=>?_) (λz=>?_))))))))))
  .refine exI rfl ⟨sz1,λa na=>⟨sz1,λp np=>?_⟩⟩;have s1:=Same.upd (o:=.tup [.int ((0:Int)+f)]) na;refine hP p _ _ (js s1 np) (s1.trans (Same.upd np)) qf ?_;unfold bgR;rw[aw z];exact .cons ⟨a,rfl,(Same.upd np) _ _ qf⟩ .nil
  .refine⟨sz0,λp np=>?_⟩;refine hP p _ _ np (Same.upd np) qf ?_;unfold bgR;rw[ar z];exact .nil
 refine init _ λp us H1 np s1 fp tp=>?_;refine exI rfl (wp rfl rfl (exI rfl ⟨_,_,rfl,⋯,?_⟩));rw[show(((m+1:Nat):Int)-1-1-0).toNat=m-1 by lia];refine wy8 (λi σ H'=>Same H H'/\∃(p:Aj) (us:List V) (z:Option V),σ=[some (.int ((0:Int)+f)),some (.ref c),some (.ref tb),some (.int (((m+1:Nat):Int)-1)),some (.ref p),z]/\H p=none/\H' p=some (.lst us)/\Tups (bgR hs f m i) us H') ⟨s1,p,us,exI rfl ⟨np,fp,tp⟩⟩ ?_ ?_
 .rintro i σ H2 hi ⟨s2,p,us,z,rfl,np,fp,tp⟩;have bl:=wuj ok (m:=m) (t:=i) hf ⋯;have eg:(((m+1:Nat):Int)-1-1-i).toNat=m-1-i:=by lia
  refine exI rfl ⟨p,rfl,⟨_,SqL.of fp⟩,qy2 (K:=K) (bgR hs f m i) (λr=>zx hs (r.getLastD 0).toNat) (λv=>decide (0<zh (zx hs) (m-1-i) v.toNat f)) (SqL.of fp) tp ⋯ (λr _=>wwz ok _) (λr a H' R hr fa s' hR=>?_) (λr a u H' R hr hu s' hR=>?_) (λr a u H' R hr hu hc fa s' hR=>?_) λp' ys' H' np' s' f' t'=>?_⟩
  .obtain⟨l1,l2,l3⟩:=qw8 (Zj ok hf i r hr);obtain⟨vs,q1,g1,g2,g3⟩:=(hC.same s2).at_ l2 l3;have hz:r≠[]:=λz=>by have:=(Zj ok hf i r hr).1;rw[z]at this;cases this
   exact exI rfl (exI rfl (exI rfl (exX rfl rfl (SqT.of fa) (xqu hz) (exX rfl rfl (SqL.of (s' _ _ g1)) g2 ⟨q1,rfl,⟨_,SqL.of (s' _ _ g3)⟩,hR q1 (SqL.of g3)⟩))))
  .have ur:=Wp ok _ u hu;obtain⟨vs,q1,ws,q2,g1,g2,g3,g4,g5,g6⟩:=(hT.same (s2.trans s')).at_ (t:=((m+1:Nat):Int)-1-1-i) (i:=u) (j:=(0:Int)+f) ⋯ ⋯ ur.1 ⋯ ⋯ ⋯;rw[eg,ef]at g6;rw[eg]at g5;exact exI rfl (exI rfl (exX rfl rfl (SqL.of g1) g2 (exI rfl (exX rfl rfl (SqL.of g3) g4 (exI rfl (exX rfl rfl (SqL.of g5) g6 (wp rfl rfl (exI rfl hR))))))))
  .have lr:=(Zj ok hf i r hr).1;have big:(1000000:Nat)<sizeLine:=by decide
   refine exI rfl (exI rfl ⟨sz1,λb nb=>?_⟩);have s3:=Same.upd (o:=.tup [.int u]) nb;refine⟨_,_,_,_,rfl,rfl,SqT.of (s3 _ _ fa),SqT.new,by rw[ag];show r.length+1<=sizeLine;lia,λz=>?_,λ_ z=>absurd z (by simp),λ_ _ p7 n7=>?_⟩
   .have:=cr List.length z;rw[ag,lr]at this;cases this
   .refine hR p7 _ (s3.trans (Same.upd n7)) ?_;rw[qf,aW];rfl
  .exact⟨s2.trans s',p',ys',exI rfl ⟨js s2 np',f',t'⟩⟩
 .rintro σ H2 ⟨s2,p,us,z,rfl,np,fp,tp⟩;exact exI rfl (k p us H2 np s2 fp tp)
def wxh (C CC CT:Aj):Sp:=λvs H Q E=>∃(r:Aj) (hs:List Int) (m:Int),vs=[.ref r,.int m]/\RoadAt C H r hs/\wj hs/\1<=m/\m<=12/\crS hs m.toNat<=1000 /\
 ∀p ys H',H p=none->Same H H'->H' p=some (.lst ys)->Tups (zj hs m.toNat) ys H'->Q (.ref p) H'
theorem wy4 (hs:List Int)(m i:Nat):((List.range (i+1)).flatMap λf=>bgR hs f m (m-1))=((List.range i).flatMap λf=>bgR hs f m (m-1))++bgR hs i m (m-1):=by rw[bL,gL];simp
theorem qkd (h:∀i,0<=g i){i:Nat}:∀ {n:Nat},i<=n->vq i g<=vq n g
 |0,e=>by
  obtain rfl:i=0:=by lia
  exact cB _
 |n+1,e=>by
  rcases(by lia:i=n+1\/i<=n) with z|z
  .subst z;exact cB _
  .have:=qkd h z;have:=h n;rw[v8];lia
theorem wy2 (ok:wj hs){m:Nat}(hm:1<=m){i:Nat}(h:i<=hs.length-1):((((List.range i).flatMap λf=>bgR hs f m (m-1)).length:Nat):Int)<=crS hs m:=by refine dF ?_ (qkz ok hm);unfold zj;rw[qxx,qxx];exact qkd (λ_=>Int.natCast_nonneg _) h
include T in
theorem xxp (F:Fun K "rows" "rows" zaw f fd)(zb2:CalD P w K mg base "check_count" 1 (qq7 qu))(zew:Cal P w K mg base "ways_up_to" 6 (qxj qy))(zb1:Cal P w K mg base "covers_of" 5 (Qk qy))(zaa:MCal P w K mg base qy "width" 1 (j3 qy))(zex:Cal P w K mg base "rows_from" 1 Zd) :
  FK P w K mg base 7 f fd ["road","many"] (wxh qy qu qp):=by
 have sc:=xx1;refine F.okX sc (λvs H Q E h=>by obtain⟨_,_,_,rfl,_⟩:=h;rfl) λ_ _ _ _ H vs Q E hr h=>?_;obtain⟨r,hs,m,rfl,hR,ok,m1,m2,few,k⟩:=h;obtain⟨tl,zad⟩:=T.zad;obtain⟨tw,zae⟩:=T.zae;have o1:=ok.1;have o2:=ok.2.1;have big:(1000000:Nat)<sizeLine:=by decide
 refine⟨_,(qj (vy (wu zb2.all (hr.mono ⋯) rfl qt (qw (pv 1) (qw qx (qw (qwc (v:=V.int 12) rfl zad ⟨_,rfl⟩) qv)))))
   (qj (wg (i:=2) (wu zew (hr.mono ⋯) rfl qt (qw (pv 0) (qw (pv 1) qv))))
   (qj (zr (wt Wv (wn (ky (K:=K) rfl rfl) rfl T.sum_ uj (qw (kx (M:=[]) rfl rfl (by walk_at "cap") (by walk_at "has") (by walk_at "cix") rfl (by decide +kernel) rfl (show List.Nodup (["counts"]:List Str) by decide +kernel) (vc (wv x8 (pv 2) (pv 1) (λ_ _=>rfl))) (λ_ _ _ _ _=>(wn (ky (K:=K) rfl rfl) rfl T.sum_ uj (qw (pv 0) qv)))) qv)) (qwc (v:=V.int 1000) rfl zae ⟨_,rfl⟩) (xv _)) (qh (ud rfl T.zao jy rfl T.zeg (qw Jd qv))) xg)
   (qj (wg (i:=3) (wu zb1 (hr.mono ⋯) rfl qt (qw (pv 0) qv)))
   (qj (wg (i:=4) (vf qv))
   (qj (jx bh rfl (xh rfl T.range_ (qw (km (pv 0) T.cl zaa (hr.mono ⋯) qt) qv)) (xy (i:=5)) (qh (vy (Q0 bB PySem.F.slot_list_extend PySem.F.type_list_extend wjn (pv 4) (qw (wu zex (hr.mono ⋯) rfl qt (qw (pv 5) (qw (pv 3) (qw (pv 2) qv)))) qv)))))
   (qh (xw (pv 4))))))))),?_⟩
 refine⟨_,rfl,m,1,.int 12,some 12,rfl,.inr ⟨12,rfl,rfl⟩,λ_=>?_,λhw=>absurd ⟨m1,λz e=>by cases e;exact m2⟩ hw⟩;refine exI rfl (exI rfl ⟨r,hs,m,rfl,hR,ok,⋯,⋯,λtb ts H1 s1 f1 l1 g1=>?_⟩);have e:ts[m.toNat]?=some ts[m.toNat]:=aa ⋯;obtain⟨q,eq,M⟩:=g1 _ _ e;have ea:atI ts m=some (.ref q):=by have:=vg e;rwa [bY ⋯,eq]at this
 obtain⟨zs,fq,lz,rz⟩:=id M;have tabs:TabsAt H1 tb hs m.toNat:=⟨ts,f1,l1,g1⟩;refine exI rfl (exI rfl (exX rfl rfl (SqL.of f1) ea ⟨q,rfl,⟨_,SqL.of fq⟩,Qq (K:=K) (λi v _=>v=V.int (vq (hs.length-1) (zh (zx hs) m.toNat i))) (λi v H H' p g _ _=>g) (SqL.of fq) ⋯ (λi x H2 R hx s2 hR=>?_) λp2 ys2 H2 n2 s2 f2 l2 g2=>?_⟩))
 .obtain⟨a,rfl,fa⟩:=rz i x hx;exact exI rfl ⟨a,exI rfl ⟨SqL.of (s2 _ _ fa),hR _ _ (Same.refl _) rfl λb e=>nomatch e⟩⟩
 have ey:ys2=(zp (hs.length-1) λi=>vq (hs.length-1) (zh (zx hs) m.toNat i)).map V.int:=by
  refine bT λi=>?_;by_cases z:i<hs.length-1
  .rw[aA,qx4 z,aa ⋯,(g2 i _ (aa ⋯)).1];rfl
  .rw[aR ⋯,aR (by rw[ag,Wc];lia)]
 rw[ey]at f2;refine⟨p2,exI rfl ⟨SqL.of f2,wp rfl rfl (exI rfl ?_)⟩⟩;have ec:(zp (hs.length-1) λi=>vq (hs.length-1) (zh (zx hs) m.toNat i)).sum=crS hs m.toNat:=(wxs ok _).symm;rw[ec];refine kr (λz=>absurd z ⋯) (λz=>?_);refine exI rfl ⟨r,hs,rfl,hR.same (s1.trans s2),ok,λc H3 n3 s3 C3=>?_⟩;refine⟨sz0,λp np=>?_⟩;have s4:=Same.upd (o:=.lst []) np;have s14:=s1.trans (s2.trans (s3.trans s4));obtain⟨dx,q0,h1,h2⟩:=id hR;refine exI rfl ⟨r,dx,exI rfl ⟨s14 _ _ h1,xr (by decide +kernel),r,hs,rfl,hR.same s14,exI rfl ⟨⋯,⋯,?_⟩⟩⟩;rw[show((hs.length:Int)-1).toNat=hs.length-1 by lia];have np0:H p=none:=js (s1.trans (s2.trans s3)) np;have s13:=s1.trans (s2.trans s3);have T3:=tabs.same (s2.trans s3);refine v6 (λi σ H'=>Same H3 H'/\∃(us:List V) (z:Option V),σ=[some (.ref r),some (.int m),some (.ref tb),some (.ref c),some (.ref p),z]/\H' p=some (.lst us)/\Tups ((List.range i).flatMap λf=>bgR hs f m.toNat (m.toNat-1)) us H')
  ⟨s4,[],exI rfl ⟨qf,.nil⟩⟩ ?_ ?_
 .rintro i σ H5 hi ⟨s5,us,z,rfl,f5,t5⟩;have pi:=pow_cr ok (m:=m.toNat) hi;have l5:=wy2 ok (m:=m.toNat) ⋯ (i:=i) ⋯;have l6:=wuj ok (m:=m.toNat) (t:=m.toNat-1) hi ⋯;refine exI rfl ⟨.inl ⟨rfl,_,SqL.of f5⟩,exI rfl (exI rfl (exI rfl ⟨c,tb,hs,i,m.toNat,rfl,ok,C3.same s5,T3.same s5,hi,⋯,⋯,⋯,λp6 ys6 H6 n6 s6 f6 t6=>?_⟩))⟩;have lu:=t5.len;have ly:=t6.len;refine⟨p,p6,us,ys6,rfl,rfl,s6 _ _ f5,f6,⋯,?_⟩;refine⟨Same.upd2 (s5.trans s6) np,us++ys6,exI rfl ⟨qf,?_⟩⟩
  .rw[wy4];exact Paired.app ((t5.same s6).upd (s6 _ _ f5)) (t6.upd (s6 _ _ f5))
 .rintro σ H5 ⟨s5,us,z,rfl,f5,t5⟩;exact exI rfl (k p us H5 np0 (s13.trans s5) f5 t5)
def qwp (K:Aa)(C CB CO CC:Aj):Sp:=λvs H Q E=>∃(r p:Aj) (hs:List Int) (t b m:Int),vs=[.ref r,.ref p,.int m]/\RoadAt C H r hs/\wj hs/\SqT K H p [.int t,.int b] /\
 (1<=b->Sm 8000 b/\(zn hs t b->(Within m 0 (some 1000)->∀q H',H q=none->Same H H'->PtsAt H' q (wx4 hs (wy t b) (m.toNat+1))->Q (.ref q) H')/\(¬ Within m 0 (some 1000)->∀H',Same H H'->E (.ref CC) none H')) /\
  (¬ zn hs t b->∀H',Same H H'->E (.ref CO) none H'))/\(b<1->E (.ref CB) none H)
include T in
theorem wyd (F:Fun K "walked" "walked" za0 f fd)(zb2:CalD P w K mg base "check_count" 1 (qq7 qu))(zb0:MCal P w K mg base qy "on_road" 3 (Z3 K qy qk qg))
  (zey:MCal P w K mg base qy "at" 4 (spAt K qy qk qg)):FK P w K mg base 5 f fd ["road","point","many"] (qwp K qy qk qg qu):=by
 have sc:=wk9;refine F.okX sc (λvs H Q E h=>by obtain⟨_,_,_,_,_,_,rfl,_⟩:=h;rfl) λ_ _ _ _ H vs Q E hr h=>?_;obtain⟨r,p,hs,t,b,m,rfl,hR,hok,hp,kq,x⟩:=h;obtain⟨dx,q0,h1,h2⟩:=id hR;obtain⟨tm,zaf⟩:=T.zaf;refine⟨_,(qj (wg (i:=3) (k9 (pv 0) T.cl zb0 (hr.mono ⋯) qt (qw (pv 1) qv)))
   (qj (vy (wu zb2.all (hr.mono ⋯) rfl qt (qw (pv 2) (qw qx (qw (qwc (v:=V.int 1000) rfl zaf ⟨_,rfl⟩) qv)))))
   (qj (wg (i:=4) (vf (qw (pv 3) qv)))
   (qj (Q6 bh (wt qwn (wn xf rfl T.len_ bU (qw (pv 4) qv)) (pv 2) (xv _)) (qh (vy (Q0 bB bG bH vk (pv 4) (qw (k9 (pv 0) T.cl zey (hr.mono ⋯) qt (qw (wv x8 (pv 4) (Qn jm qx) (λ_ _=>rfl)) qv)) qv)))))
   (qh (xw (pv 4))))))),?_⟩
 refine⟨_,rfl,r,dx,_,rfl,h1,xr (by decide +kernel),_,rfl,r,p,hs,t,b,rfl,hR,hok,hp,λhb=>⟨(kq hb).1,λhon p1 H1 s1 f1=>?_,λhoff H1 s1=>(kq hb).2.2 hoff H1 s1⟩,λz=>x z⟩;obtain⟨sb,k1,_⟩:=kq hb;obtain⟨k2,k3⟩:=k1 hon;refine⟨_,rfl,m,0,.int 1000,some 1000,rfl,.inr ⟨1000,rfl,rfl⟩,λhw=>?_,λhw=>k3 hw _ s1⟩;have m0:=hw.1;have m1:=hw.2 1000 rfl;have P0:=xwg hb hon;refine exI rfl ⟨sz1,λq nq=>?_⟩;have nq0:H q=none:=by
  cases e:H q with
  |none=>rfl
  |some o=>rw[s1 _ _ e]at nq;cases nq
 have dq:p1≠q:=wx f1 nq;refine Yh (λσ H2=>∃(n:Nat) (vs:List V),σ=[some (.ref r),some (.ref p),some (.int m),some (.ref p1),some (.ref q)]/\(n:Int)<=m/\Same H1 H2/\H2 q=some (.lst vs)/\Paired (PtR H2) vs (wx4 hs (wy t b) (n+1)))
  (λ_ H2=>match H2 q with|some (.lst vs)=>(m+1).toNat-vs.length|_=>0) ⟨0,[.ref p1],rfl,⋯,Same.upd nq,qf,.cons ⟨p1,rfl,by rw[q8 dq];exact f1⟩ .nil⟩ ?_ λσ H Q Q' h ⟨v,e,p',ys,e1,e2,v2,e3,i,j,e4,e5,kk,e6,qq⟩=>⟨v,e,p',ys,e1,e2,v2,e3,i,j,e4,e5,kk,e6,h _ _ qq⟩
 rintro σ H2 ⟨n,vs,rfl,hn,s2,f2,pr⟩;have hlen:vs.length=n+1:=by rw[pr.length,Wn]
 refine exI rfl ⟨_,_,rfl,.inl (SqL.of f2),exI rfl (wp rfl rfl (exI rfl ?_))⟩;rw[hlen];refine kr (λq1=>?_) (λq1=>?_)
 .have Pn:=pt_it hok P0 n;obtain⟨v,ev,⟨a,rfl,fa⟩⟩:=Y3 (i:=n) (b:=itP hs (wy t b) n) pr (by rw[Jz,az (by rw[Wn];exact al _),Wn];simp);have hlast:atI vs (-1)=some (.ref a):=by
   have hz:vs≠[]:=λz=>by rw[z]at hlen;simp at hlen
   have e1:vs=vs.dropLast++[vs.getLast hz]:=(dB hz).symm;have e2:vs.getLast hz=.ref a:=by
    rw[fT];have:vs[n]?=vs[vs.length-1]?:=by rw[hlen];rfl
    rw[this,aa ⋯]at ev;exact aq ev
   rw[e1,e2];exact Wq _ _
  have s02:=s1.trans s2;refine⟨_,rfl,.inl ⟨rfl,_,SqL.of f2⟩,_,rfl,r,dx,_,rfl,s02 _ _ h1,xr (by decide +kernel),_,rfl,_,rfl,_,_,_,_,rfl,rfl,SqL.of f2,hlast,r,a,hs,(itP hs (wy t b) n).1,(itP hs (wy t b) n).2,rfl,hR.same s02,hok,SqT.of fa,λ_=>⟨(sb.of_le (by have:=Pn.2.1;have:=Pn.1;lia)),λ_ p3 H3 s3 f3=>?_,λz=>absurd Pn.2.2.2 z⟩,λz=>absurd Pn.1 ⋯⟩;have g2:=s3 _ _ f2;refine⟨_,_,_,rfl,rfl,g2,qkf ⋯,⟨n+1,vs++[.ref p3],rfl,⋯,λb o e=>?_,qf,?_⟩,?_⟩
  .rw[q8 (wx e nq)];exact s3 _ _ (s2 _ _ e)
  .rw[Jz hs (wy t b) (n+1)];refine Paired.snoc (qxy (λ_ _ z=>(z.same s3).upd g2) pr) (PtR.upd ⟨p3,rfl,?_⟩ g2);exact f3
  .show(match upd H3 q (.lst (vs++[.ref p3])) q with|some (.lst vs)=>(m+1).toNat-vs.length|_=>0)<(match H2 q with|some (.lst vs)=>(m+1).toNat-vs.length|_=>0);rw[qf,f2];show(m+1).toNat-(vs++[V.ref p3]).length<(m+1).toNat-vs.length;rw[am,cN];lia
 .have en:m.toNat=n:=by lia
  refine exI rfl (k2 hw q H2 nq0 (s1.trans s2) ⟨vs,f2,?_⟩);rw[en];exact pr
def Kp (H H':Hp):Prop:=∀b o,(∀ps,o≠HO.tbl ps)->H b=some o->H' b=some o
theorem Kp.of (s:Same H H'):Kp H H':=λb o _ e=>s b o e
theorem Kp.ofT {T:Aj}{ps:Array Ag}(hT:H T=some (.tbl ps))(s:KeepT T H H'):Kp H H':=λb o n e=>s b o (λz=>by rw[z,hT]at e;cases e;exact n _ rfl) e
theorem Kp.trans {H'':Hp}(a:Kp H H')(b:Kp H' H''):Kp H H'':=λc o n e=>b c o n (a c o n e)
theorem Kp.lst (k:Kp H H'){b:Aj}{xs:List V}(e:H b=some (.lst xs)):H' b=some (.lst xs):=k b _ (λps z=>by cases z) e
theorem Kp.tup (k:Kp H H'){b:Aj}{xs:List V}(e:H b=some (.tup xs)):H' b=some (.tup xs):=k b _ (λps z=>by cases z) e
theorem Kp.none (k:Kp H H'){b:Aj}(hT:∀ps,H b=some (.tbl ps)->False)(e:H' b=.none):H b=.none:=by
 cases q:H b with
 |none=>rfl
 |some o=>rw[k b o (λps z=>hT ps (by rw[q,z])) q]at e;cases e
theorem Kp.upd (k:Kp H H')(n:H p=.none):Kp H (L2.upd H' p o):=λb u h e=>by rw[q8 (wx e n)];exact k b u h e
theorem Kp.sql {a:Aj}{xs:List V}(k:Kp H H')(h:SqL K H a xs):SqL K H' a xs:=by
 rcases h with (h|⟨o,h⟩)|h
 .exact .inl (.inl (k.lst h))
 .exact .inl (.inr ⟨o,k _ _ (λps z=>by cases z) h⟩)
 .exact .inr h
def PL (H:Hp)(vs:List V)(pt:Nat->Int×Int):Prop:=∀i v,vs[i]?=some v->∃a,v=.ref a/\H a=some (.tup [.int (pt i).1,.int (pt i).2])
variable {vs:List V}
theorem PL.kp {pt:Nat->Int×Int}(h:PL H vs pt)(k:Kp H H'):PL H' vs pt:=λi v e=>by obtain⟨a,e1,e2⟩:=h i v e;exact⟨a,e1,k.tup e2⟩
def OkP (q:Int×Int):Prop:=1<=q.2/\Sm 150 q.1/\Sm 150 q.2
theorem Zy {T:Aj}{pos:Pos}{q:Str}(h:Q5 T pos q H)(s:Same H H'):Q5 T pos q H':=by
 rcases h with h|⟨c,h1,h2⟩
 .exact .inl (s _ _ h)
 .exact .inr ⟨c,s _ _ h1,s _ _ h2⟩
theorem xw5 {T:Aj}{pos:Pos}{q:Str}{xs:List V}(h:Q5 T pos q H)(hp:H p=some (.lst xs)):Q5 T pos q (L2.upd H p o):=by
 rcases h with h|⟨c,h1,h2⟩
 .exact .inl (by rw[q8 (λz=>by rw[z,hp]at h;cases h)];exact h)
 .exact .inr ⟨c,by rw[q8 (λz=>by rw[z,hp]at h1;cases h1)];exact h1,by rw[q8 (λz=>by rw[z,hp]at h2;cases h2)];exact h2⟩
theorem xqr {T:Aj}{pos:Pos}{q:Str}(h:Q5 T pos q H):∃ps,H T=some (.tbl ps):=by
 rcases h with h|⟨c,h,_⟩
 .exact⟨_,h⟩
 .exact⟨_,h⟩
abbrev qw7:Pos:=⟨71,30,71,72⟩
abbrev lamQ:Str:=("ordered" : Str) ++ ".<locals>." ++ "<lambda>"
def lamOf:Stmt->Expr
 |.Return (some (.Call _ _ [⟨_,l,_⟩] _)) _=>l
 |_=>.Constant .none 0 ⟨0,0,0,0⟩
def lamA:Expr->Arguments
 |.Lambda a _ _ _=>a
 |_=>⟨[],[],none,[],[],none,[]⟩
def lamB:Expr->Expr
 |.Lambda _ b _ _=>b
 |e=>e
abbrev xqz:Expr:=lamOf ((vz zaj).getD 3 (.Pass ⟨0,0,0,0⟩))
theorem xqh {x y z:Str}(h:([(x,NameKind.local),(y,NameKind.free)]:List (Str×NameKind)).lookup z=some .free):z=y:=by
 rw[bA]at h;split at h
 .cases h
 .rw[bA]at h;split at h
  .rename_i e;simpa using e
  .cases h
def wuc (K:Aa)(T C:Aj):Sp:=λvs H Q E=>∃(p:Aj) (xs:List V) (pt:Nat->Int×Int),vs=[.ref p]/\SqL K H p xs/\PL H xs pt/\Q5 T qw7 lamQ H/\(∀i,i<xs.length->OkP (pt i))/\(∀i j,i<j->j<xs.length->(pt i).1*(pt j).2≠(pt j).1*(pt i).2)/\xs.length<=2000/\∀(l:Aj) (il:List Nat) (H':Hp),Kp H H'->Q5 T qw7 lamQ H'->H l=none->il.Perm (List.range xs.length)->il.Pairwise (Wor pt)->H' l=some (.lst (il.map λi=>xs.getD i .non))->Q (.ref l) H'
theorem zez {f:Aj}{fd:Ad}{cO TT:Aj}(F:FunT K "ordered" zaj cO f fd)(T:Txt K mg qr qk qg qu qp qm qy)(hB:BMain mg base)(hC:PySem.W.codeHdIn K cO TT=true)(zby:Cal P w K mg base "check_bottom" 1 (qwb qk)) :
  FK P w K mg base 6 f fd ["points"] (wuc K TT qk):=by
 have sc:=wwu;have lsc:LamSc "point" "scale" ⟨.function,[("point",.local),("scale",.free)],false,false,[]⟩:=⟨rfl,rfl,rfl,rfl,rfl,⋯,λz h=>xqh h,⋯⟩;refine F.okX sc (λvs H Q E h=>by obtain⟨_,_,_,rfl,_⟩:=h;rfl) (λA outer s H vs Q E hr h=>?_);obtain⟨p,xs,pt,rfl,hS,hP,hT,hok,hne,h64,k⟩:=h;refine⟨_,(qj (jx bh rfl (vc (pv 0)) (xy (i:=1)) (qh (vy (wu zby (hr.mono ⋯) rfl qt (qw (wv wb (pv 1) qx (λ_ _=>rfl)) qv)))))
   (qj (wg (i:=2) (wjc (wkt rfl) rfl T.max_ df (qw (kx (M:=[]) rfl rfl (by walk_at "cap") (by walk_at "has") (by walk_at "cix") rfl (by decide +kernel) rfl (show List.Nodup (["point"]:List Str) by decide +kernel) (vc (pv 0)) (λ_ _ _ _ _=>(wv (Yu (K:=K) rfl) (pv 0) qx (λ_ _=>rfl)))) qv) (wvj qx xxz)))
   (qj (wg (i:=3) (wz xk (pv 2) (pv 2)))
   (qh (xw (wx2 (qyh (k:=0) (params:=lamA xqz) (body:=lamB xqz) (qual:=lamQ) (pm:=(mg "__name__").getD .none) (x := "point") (y := "scale") (iy:=3) lsc (hr.mono ⋯) rfl rfl rfl rfl (by intro _ _ _;rfl) (λ_ _ _ _ _ _ _=>(wz j9 (wz xk (wv (Yu (K:=K) rfl) (pv 0) qx (λ_ _=>rfl)) (pv 1)) (wv (Yu (K:=K) rfl) (pv 0) qx (λ_ _=>rfl))))) rfl T.sorted_ fC (qw (pv 0) qv) (wvj (pe_lam hB rfl hC rfl rfl) xxz))))))),?_⟩
 refine exI rfl ⟨p,rfl,⟨_,hS⟩,qzh (K:=K) (a:=p) (xs:=xs) (λi σ H1=>H1=H/\(∀j,j<i->1<=(pt j).2)/\∃z,σ=[some (.ref p),z,none,none]) ⟨rfl,λj h=>absurd h ⋯,_,rfl⟩ ?_ ?_ ?_⟩
 .rintro i σ H1 _ ⟨rfl,_,_,_⟩;exact hS
 .rintro i y σ H1 hy ⟨rfl,hn,z,rfl⟩;obtain⟨a,rfl,fa⟩:=hP i y hy;have hi:i<xs.length:=(ak.mp hy).1;refine⟨_,rfl,_,_,_,_,rfl,rfl,SqT.of fa,rfl,_,rfl,λh1=>⟨rfl,λj hj=>?_,_,rfl⟩,λh2=>?_⟩
  .by_cases e:j=i
   .rw[e];exact h1
   .exact hn j ⋯
  .exact absurd (hok i hi).1 ⋯
 .rintro σ H1 ⟨rfl,hn,z,rfl⟩;refine exI rfl ⟨p,rfl,⟨_,hS⟩,Qq (K:=K) (a:=p) (xs:=xs) (λj v _=>v=.int (pt j).2) (λi v H H' p g _ _=>g) hS ⋯ (λi x H2 R hx hs hR=>?_) λp2 ys H2 np2 s2 f2 hl2 hG2=>?_⟩
  .obtain⟨a,rfl,fa⟩:=hP i x hx;exact exI rfl (exX rfl rfl (SqT.of (hs _ _ fa)) rfl (hR _ _ (Same.refl _) rfl λb e=>nomatch e))
  have ey:ys=((List.range xs.length).map λj=>(pt j).2).map V.int:=by
   refine bT λj=>?_;rw[ba,aA];by_cases hj:j<xs.length
   .rw[bp hj];have e:ys[j]?=some ys[j]:=aa ⋯;rw[e,(hG2 j _ e).1];rfl
   .rw[aR ⋯,aR (by rw[aG];lia)];rfl
  rw[ey]at f2;refine⟨p2,_,1,rfl,rfl,SqL.of f2,λG hG1 hG2=>?_⟩;have gb:∀i,i<xs.length->(pt i).2<=G:=λi hi=>hG1 _ (aJ.mpr ⟨i,ay.mpr hi,rfl⟩);have gs:Sm 150 G:=by
   rcases hG2 with h|⟨_,h⟩
   .obtain⟨i,hi,rfl⟩:=aJ.mp h;exact(hok i (ay.mp hi)).2.2
   .rw[h];unfold Sm;decide +kernel
  refine exI rfl (exI rfl (wp rfl rfl ⟨gs.ok gs ⋯,?_⟩));refine exI rfl ⟨Zy hT s2,λg c' ctv H3 kT tA ng fg=>?_⟩;obtain⟨ps,hps⟩:=xqr (Zy hT s2);have k3:Kp H2 H3:=Kp.ofT hps kT;have k13:Kp H1 H3:=(Kp.of s2).trans k3;have P3:=hP.kp k13;refine⟨p,xs,(List.range xs.length).map (λi=>Jk (G*G) (pt i)),g,c',ctv,.int (G*G),rfl,rfl,k13.sql hS,⋯,?_,by rw[ag,aG],fg,tA.2,rfl,λi v hv=>?_,λl il nl st=>?_⟩
  .refine br.mpr λi j hi hj hij=>?_;rw[ag,aG]at hi hj;simp only[gm,List.getElem_range];intro z;have w:=wxc (hok i hi).1 (hok j hj).1 (gb i hi) (gb j hj) (.inr ⟨z,hij⟩);have w':=λh=>wxc (pt:=pt) (i:=j) (j:=i) (hok j hj).1 (hok i hi).1 (gb j hj) (gb i hi) h;rcases w with w|⟨w,_⟩
   .exact ja _ (by have:=wzs (hok i hi).1 (hok j hj).1 (gb i hi) (gb j hj) w;rw[z]at this;exact this)
   .exact hne i j hij hj w
  .obtain⟨a,rfl,fa⟩:=P3 i v hv;have hi:i<xs.length:=(ak.mp hv).1;obtain⟨o1,o2,o3⟩:=hok i hi;refine exI rfl (exX rfl rfl (SqT.of fa) rfl (exI rfl (wp rfl rfl ⟨o2.ok (gs.mul gs) ⋯,exI rfl (exX rfl rfl (SqT.of fa) rfl (wp rfl rfl ⟨⟨⋯,o3.mono ⋯⟩,?_,rfl⟩))⟩)));rw[af,aA,bp hi];rfl
  .have hlT:∀ps,H1 l=some (.tbl ps)->False:=λps e=>by
    obtain⟨ps2,e2⟩:=xqr hT;have:H3 l=none:=nl;by_cases h:l=TT
    .rw[h,tA.1]at this;cases this
    .rw[kT l _ h (s2 _ _ e)]at this;cases this
   have n1:H1 l=none:=k13.none hlT nl;refine k l il _ (k13.upd n1) (Zy (.inr ⟨c',tA⟩) (Same.upd nl)) n1 st.1 ?_ qf;refine st.2.imp_of_mem λ{i j} hi hj h=>?_;have hi':i<xs.length:=ay.mp (st.1.mem_iff.mp hi);have hj':j<xs.length:=ay.mp (st.1.mem_iff.mp hj);have e:∀i,i<xs.length->((List.range xs.length).map λi=>Jk (G*G) (pt i)).getD i 0=Jk (G*G) (pt i):=λi h=>by rw[af,aA,bp h];rfl
   rw[e i hi',e j hj']at h;exact wxc (hok i hi').1 (hok j hj').1 (gb i hi') (gb j hj') h
def inK (p:Int×Int)(k:Int):Bool:=decide (k*p.2<=p.1/\p.1<=(k+1)*p.2)
def jd (ws:List Int)(p:Int×Int):Bool:=ws.any (inK p)
def liesV (p:Int×Int):V->V
 |.int k=>.bl (inK p k)
 |_=>.non
def ww4 (K:Aa):Sp:=λvs H Q _=>∃(a q:Aj) (p:Int×Int) (ws:List Int),vs=[.ref a,.ref q]/\SqT K H a [.int p.1,.int p.2]/\SqL K H q (ws.map V.int)/\ws.length<=1000/\(∀k∈ws,0<=k/\k<24)/\∀H',Same H H'->Q (.bl (jd ws p)) H'
include T in
theorem xvk (F:Fun K "lies_in" "lies_in" za4 f fd):FK P w K mg base 1 f fd ["point","stretches"] (ww4 K):=by
 have sc:=wzu;refine F.okX sc (λvs H Q E h=>by obtain⟨_,_,_,_,rfl,_⟩:=h;rfl) λ_ _ _ _ H vs Q E hr h=>?_;obtain⟨a,q,p,ws,rfl,hA,hQ,hl,hw,k⟩:=h;refine⟨_,(qj (u7 (pv 0) (y7 rfl (zk (xy (i:=2)) (zk (xy (i:=3)) jb))))
   (qh (xw (wn (qz0 (K:=K) rfl rfl) rfl T.any_ PyProof.Rows.boot_any (qw (kx (M:=[2,3]) rfl rfl (by walk_at "cap") (by walk_at "has") (by walk_at "cix") rfl (by decide +kernel) rfl (show List.Nodup (["stretch","top","bottom"]:List Str) by decide +kernel) (vc (pv 1)) (λ_ _ _ _ _=>(Y7 (yd wz1 (pv 1) (wz xk (pv 0) (pv 2)) (xv _)) (Js (yd qwn (pv 1) (wz xk (wz x9 (pv 0) qx) (pv 2)) (xv _)))))) qv))))),?_⟩
 refine exI rfl ⟨a,exI rfl ⟨hA,rfl,_,_,rfl,_,_,rfl,rfl,?_⟩⟩;refine exI rfl ⟨q,rfl,⟨_,hQ⟩,wxg (K:=K) (liesV p) (λx b z=>by cases x <;> cases z) hQ (by rw[ag];lia) (λx H' R hx hs hR=>?_) λp2 H2 np s2 f2=>?_⟩
 .obtain⟨i,hi,rfl⟩:=aJ.mp hx;obtain⟨i0,i1⟩:=hw i hi;have m1:∀x:Int,IntMulOk i x:=λx=>IntMulOk.of_left (intBits_le_64 ⋯ ⋯);have m2:∀x:Int,IntMulOk (i+1) x:=λx=>IntMulOk.of_left (intBits_le_64 ⋯ ⋯);refine exI rfl (exI rfl (exI rfl (wp rfl rfl ⟨m1 _,wp rfl rfl (exI rfl ?_)⟩)));have fin:R (.bl (decide (i*p.2<=p.1/\p.1<=(i+1)*p.2))) H':=hR H' (Same.refl _);refine kr (λz=>?_) (λz=>?_)
  .refine exI rfl (exI rfl (wp rfl rfl (exI rfl (wp rfl rfl ⟨m2 _,wp rfl rfl ?_⟩))));have e:decide (i*p.2<=p.1/\p.1<=(i+1)*p.2)=decide (p.1<=(i+1)*p.2):=by
    by_cases y:p.1<=(i+1)*p.2
    .rw[aS y,aS ⟨z,y⟩]
    .rw[bb y,bb (λw=>y w.2)]
   rw[e]at fin;exact fin
  .rw[bb (λw=>z w.1)]at fin;exact fin
 .have e:(ws.map V.int).map (liesV p)=(ws.map (inK p)).map V.bl:=by rw[ba,ba];rfl
  rw[e]at f2;refine⟨p2,exI rfl ⟨SqL.of f2,?_⟩⟩;have e2:(ws.map (inK p)).any id=jd ws p:=by unfold jd;rw[List.any_map];rfl
  rw[e2];exact k _ s2
def qky (hs:List Int)(m:Nat):List (Int×Int):=((List.range hs.length).filter λc:Nat=>decide (itP hs ((0:Int)+c,1) m=((0:Int)+c,1))).map λc:Nat=>((0:Int)+c,(1:Int))
def qjw (C:Aj):Sp:=λvs H Q _=>∃(r:Aj) (hs:List Int) (m:Int),vs=[.ref r,.int m]/\RoadAt C H r hs/\wj hs/\1<=m/\m<=12/\∀p ys H',H p=none->Same H H'->H' p=some (.lst ys)->Paired (PtR H') ys (qky hs m.toNat)->Q (.ref p) H'
theorem xwh {p:Int×Int}(h:PtR H v p)(k:∀b o,(∀xs,o≠HO.lst xs)->H b=some o->H' b=some o):PtR H' v p:=by obtain⟨a,e,f⟩:=h;exact⟨a,e,k a _ (λxs z=>by cases z) f⟩
theorem low1 (x:Int):wy x 1=(x,1):=by
 have h1:=zg (t:=x) (b:=1) ⋯;have h2:=yt (t:=x) (b:=1) ⋯;have h3:=zd (t:=x) (b:=1) ⋯;have e2:(wy x 1).2=1:=by lia
 rw[e2]at h3;exact iU ⋯ e2
theorem W0 {α β:Type}{R:α->β->Prop}{f:Nat->α}{g:Nat->β}:∀ {l:List Nat},(∀i∈l,R (f i) (g i))->Paired R (l.map f) (l.map g)
 |[],_=>.nil
 |i::l,h=>.cons (h i (.head _)) (W0 λj hj=>h j (.tail _ hj))
include T in
theorem xw1 (F:Fun K "corners_back" "corners_back" za3 f fd)(zaa:MCal P w K mg base qy "width" 1 (j3 qy))(ze0:Cal P w K mg base "walked" 5 (qwp K qy qk qg qu)) :
  FK P w K mg base 6 f fd ["road","many"] (qjw qy):=by
 have sc:=qqm;refine F.okX sc (λvs H Q E h=>by obtain⟨_,_,_,rfl,_⟩:=h;rfl) λ_ _ _ s H vs Q E hr h=>?_;obtain⟨r,hs,m,rfl,hR,ok,m1,m2,k⟩:=h;have o1:=ok.1;have o2:=ok.2.1;obtain⟨dx,q0,h1,h2⟩:=id hR;refine⟨_,(qj (Qw (i:=2) (M:=[]) sc.nd rfl (by walk_at "loc") rfl rfl (by walk_at "cap") (by walk_at "has") (by walk_at "cix") rfl (by decide +kernel) rfl (show List.Nodup (["corner"]:List Str) by decide +kernel) (xh rfl T.range_ (qw (wz x9 (km (pv 0) T.cl zaa (hr.mono ⋯) qt) qx) qv)) (λ_ _ _ _ _=>(vj (qw (pv 0) (qw qx qv)))))
   (qh (xw (wqw (M:=[0,1]) rfl rfl (by walk_at "cap") (by walk_at "has") (by walk_at "cix") rfl (by decide +kernel) rfl (show List.Nodup (["corner","road","many"]:List Str) by decide +kernel) (vc (pv 2)) (λ_ _ _ _ _=>(wt (xzm (K:=K) rfl hr.units) (wv (jh (K:=K) rfl) (wu ze0 (hr.mono ⋯) rfl Zm (qw (pv 1) (qw (pv 0) (qw (pv 2) qv)))) (pv 2) (λ_ _=>rfl)) (pv 0) (xv _))) (λ_ _ _ _ _=>(pv 0)))))),?_⟩
 refine exI rfl ⟨r,dx,exI rfl ⟨h1,xr (by decide +kernel),r,hs,rfl,hR,wp rfl rfl (exI rfl ⟨⋯,⋯,?_⟩)⟩⟩;rw[show((hs.length:Int)-1+1).toNat=hs.length by lia];refine qqj (λi v H=>PtR H v ((0:Int)+i,1)) (λi v H1 H2 g st=>xwh g st) ⋯ (λi H' R hi s' hR'=>?_) λp1 ys1 H1 n1 s1 f1 l1 g1=>?_
 .exact exI rfl ⟨sz2,λp np=>hR' _ _ (Same.upd np) ⟨p,rfl,qf⟩⟩
 refine exI rfl ⟨p1,rfl,⟨_,SqL.of f1⟩,qxh (K:=K) (λi=>decide (itP hs ((0:Int)+i,1) m.toNat=((0:Int)+i,1))) (SqL.of f1) ⋯ (λi x H2 R hx s2 hR2=>?_) (λi x H2 R hx _ s2 hR2=>?_) λp3 H3 n3 s3 f3=>?_⟩
 .obtain⟨a,rfl,fa⟩:=g1 i x hx;have hi:i<hs.length:=by rw[<-l1];exact(ak.mp hx).1
  have fa2:=s2 _ _ fa;have s02:=s1.trans s2;have on:zn hs ((0:Int)+i) 1:=⟨⋯,⋯⟩;refine⟨_,rfl,_,rfl,_,rfl,r,a,hs,(0:Int)+i,1,m,rfl,hR.same s02,ok,SqT.of fa2,λ_=>⟨Sm.small ⋯ ⋯ ⋯,λ_=>⟨λ_ q H4 nq s4 P4=>?_,λz=>absurd ⟨⋯,λy e=>by cases e;lia⟩ z⟩,λz=>absurd on z⟩,λz=>absurd z ⋯⟩;rw[low1]at P4;obtain⟨vs4,f4,pr4⟩:=P4;obtain⟨v,ev,⟨b,rfl,fb⟩⟩:=Y3 (i:=m.toNat) (b:=itP hs ((0:Int)+i,1) m.toNat) pr4 (by rw[Jz,az (by rw[Wn];exact al _),Wn];simp);have ea:atI vs4 m=some (.ref b):=by have:=vg ev;rwa [bY ⋯]at this
  refine exI rfl (exX rfl rfl (SqL.of f4) ea (exI rfl ?_));refine⟨ptD _,ptD ((0:Int)+i,1),qxz (SqT.of fb),qxz (SqT.of (s4 _ _ fa2)),rfl,rfl,wzg,?_⟩;refine exI rfl ?_;show R (PyData.eqv (ptD (itP hs ((0:Int)+i,1) m.toNat)) (ptD ((0:Int)+i,1))) H4;rw[qj5];exact hR2 _ s4
 .exact exI rfl (hR2 _ (Same.refl _))
 .refine k p3 _ H3 (js s1 n3) (s1.trans s3) f3 ?_;unfold Qm qky;rw[l1];refine W0 λi hi=>?_;have hi':i<ys1.length:=by rw[l1];exact ay.mp (cQ.mp hi).1
  have e:ys1[i]?=some (ys1.getD i .non):=by rw[af,aa hi'];rfl
  exact(g1 i _ e).same s3
def two (p:Int×Int):List Int:=[p.1,p.2]
theorem xv4 {p q:Int×Int}(h:two p=two q):p=q:=by unfold two at h;exact iU (iu h).1 (iu (iu h).2).1
theorem yc {α:Type}{l:List α}{x d:α}(h:l[i]?=some x):l.getD i d=x:=by rw[af,h];rfl
def qkj (hs:List Int)(m:Nat):List (Int×Int):=(((List.range (zj hs m).length).filter λi=>!decide ((w8 hs ((zj hs m).getD i [])).1=1)).map λi=>Qs (w8 hs ((zj hs m).getD i [])))++qky hs m
theorem xxx (ok:wj hs){m:Nat}{p:Int×Int}:p∈qky hs m↔(p.2=1/\0<=p.1/\p.1<=(hs.length:Int)-1/\trT hs p.1 1 m=p.1):=by
 have o1:=ok.1;have tl:∀t:Int,itP hs (t,1) m=(trT hs t 1 m,1):=λt=>by have:=wz4 (hs:=hs) (t:=t) (b:=1) ⋯ m;rw[low1,low1]at this;exact this.symm
 unfold qky;rw[aJ];constructor
 .rintro⟨c,hc,rfl⟩;obtain⟨h1,h2⟩:=cQ.mp hc;have h1:=ay.mp h1;have h2:=cL h2;rw[tl]at h2;refine⟨rfl,?_,?_,(Prod.ext_iff.mp h2).1⟩
  .show(0:Int)<=0+c;lia
  .show(0:Int)+c<=_;lia
 .rintro⟨h1,h2,h3,h4⟩;refine⟨p.1.toNat,cQ.mpr ⟨ay.mpr ⋯,?_⟩,iU (by show(0:Int)+(p.1.toNat:Int)=p.1;lia) h1.symm⟩;rw[show(0:Int)+(p.1.toNat:Int)=p.1 by lia,tl,h4];exact aS rfl
theorem wkb (h:r∈zj hs m):∃i,i<(zj hs m).length/\(zj hs m).getD i []=r:=by obtain⟨i,hi,e⟩:=cZ h;exact⟨i,hi,by rw[af,aa hi,e];rfl⟩
theorem Yy (h:i<(zj hs m).length):(zj hs m).getD i []∈zj hs m:=by rw[af,aa h];exact bJ h
theorem qy0 (ok:wj hs){m:Nat}{p:Int×Int}:p∈qkj hs m↔Z5 hs m p:=by
 unfold qkj Z5;rw[aU,xxx ok,aJ];refine or_congr ?_ Iff.rfl;constructor
 .rintro⟨i,hi,rfl⟩;obtain⟨h1,h2⟩:=cQ.mp hi;refine⟨_,Yy (ay.mp h1),λz=>?_,rfl⟩;rw[z]at h2;cases h2
 .rintro⟨r,hr,h1,rfl⟩;obtain⟨i,hi,rfl⟩:=wkb hr;exact⟨i,cQ.mpr ⟨ay.mpr hi,by rw[bb h1];rfl⟩,rfl⟩
theorem wwp (ok:wj hs){m:Nat}(m1:1<=m)(m2:m<=12){p:Int×Int}(h:Z5 hs m p):OkP p:=by
 obtain⟨hb,_,on⟩:=Yx ok m1 m2 h;have o2:=ok.2.1;have key:p.2<=36520347436056577:=by
  rcases h with⟨r,hr,z,rfl⟩|⟨e1,_⟩
  .have c:=(v9 ok m1).mp hr;have ab:=Y9 ok (xs:=r) r.length;rw[bn,c.1]at ab;have ab:(w8 hs r).1.natAbs<=24 ^ 12:=bM ab (dr ⋯ m2);have p12:(24:Nat) ^ 12=36520347436056576:=by decide
   rw[p12]at ab;unfold Qs;split
   .have:=yt (t:=-(w8 hs r).2) (b:=(w8 hs r).1-1) ⋯;lia
   .have:=yt (t:=(w8 hs r).2) (b:=1-(w8 hs r).1) ⋯;lia
  .lia
 have top:p.1<=24*p.2:=dF on.2 (au ⋯ ⋯);have t0:=on.1;exact⟨hb,Sm.small ⋯ ⋯ ⋯,Sm.small ⋯ ⋯ ⋯⟩
theorem wzr (ok:wj hs){m:Nat}(m1:1<=m){i:Nat}(h:i<(zj hs m).length):0<=((zj hs m).getD i []).getD 0 0/\((zj hs m).getD i []).getD 0 0<(hs.length:Int)-1:=by
 have c:=(v9 ok m1).mp (Yy h);refine c.2.1 _ ?_;have l:0<((zj hs m).getD i []).length:=by rw[c.1];lia
 generalize (zj hs m).getD i []=r at l;rw[af,aa l];exact bJ l
structure BackOf (hs:List Int)(m:Nat)(pts:List (Int×Int))(ws:List Int):Prop where
 wup:ws.Pairwise (·<·)
 wmem:∀v,v∈ws↔Zr hs m v
 pup:pts.Pairwise λp q=>p.1*q.2<q.1*p.2
 pmem:∀p,p∈pts↔(Z5 hs m p/\jd ws p=false)
 wfew:ws.length<=24
 pfew:pts.length<=1025
def wxb (C TT:Aj):Sp:=λvs H Q _=>∃(r:Aj) (hs:List Int) (m:Int),vs=[.ref r,.int m]/\RoadAt C H r hs/\wj hs/\1<=m/\m<=12/\crS hs m.toNat<=1000/\Q5 TT qw7 lamQ H /\
 ∀(a lp lw:Aj) (ys:List V) (pts:List (Int×Int)) (ws:List Int) (H':Hp),Kp H H'->Q5 TT qw7 lamQ H'->H' a=some (.tup [.ref lp,.ref lw])->H' lp=some (.lst ys)->Paired (PtR H') ys pts->H' lw=some (.lst (ws.map V.int))->BackOf hs m.toNat pts ws->H lp=none->H lw=none->lp≠lw->Q (.ref a) H'
theorem wzn (s:Same H H'){p:Aj}(n:H' p=none):H p=none:=by
 cases e:H p with
 |none=>rfl
 |some o=>rw[s _ _ e]at n;cases n
theorem quz:∀ {ys:List V} {ps:List (Int×Int)},Paired (PtR H) ys ps->Tups (ps.map two) ys H
 |_,_,.nil=>.nil
 |_,_,.cons ⟨a,e,f⟩ t=>.cons ⟨a,e,f⟩ (quz t)
theorem xvb {L:List (List Int)}(h:Tups L ys H)(e:L=ps.map two):Paired (PtR H) ys ps:=by
 subst e
 induction ps generalizing ys with
 |nil=>cases h;exact .nil
 |cons p ps ih =>
  cases h with
  |cons r t=>exact .cons r (ih t)
theorem qwd:∀ {L:List (List Int)},(∀x∈L,x∈ps.map two)->∃qs:List (Int×Int),L=qs.map two/\∀q∈qs,q∈ps
 |[],_=>⟨[],rfl,λq h=>by cases h⟩
 |x::L,h=>by
  obtain⟨p,hp,e⟩:=aJ.mp (h x (.head _));obtain⟨qs,e2,h2⟩:=qwd (L:=L) λy hy=>h y (.tail _ hy);refine⟨p::qs,by rw[e2,<-e];rfl,λq hq=>?_⟩;rcases aM.mp hq with rfl|hq
  .exact hp
  .exact h2 q hq
theorem wjd {l:List Int}(h:l.Pairwise (·<=·))(nd:l.Nodup):l.Pairwise (·<·):=by refine List.Pairwise.imp₂ (λa b h1 h2=>?_) h nd;have:a≠b:=h2;lia
include T in
theorem xv2 {f:Aj}{fd:Ad}{TT:Aj}(F:Fun K "back" "back" za5 f fd)(ze1:Cal P w K mg base "rows" 7 (wxh qy qu qp))(ze2:Cal P w K mg base "fixed_point" 5 (qj8 K qy))(ze3:Cal P w K mg base "corners_back" 6 (qjw qy))(ze4:Cal P w K mg base "lies_in" 1 (ww4 K))(ze5:Cal P w K mg base "ordered" 6 (wuc K TT qk)) :
  FK P w K mg base 8 f fd ["road","many"] (wxb qy TT):=by
 have sc:=xxr;refine F.okX sc (λvs H Q E h=>by obtain⟨_,_,_,rfl,_⟩:=h;rfl) λ_ _ _ s H vs Q E hr h=>?_;obtain⟨r,hs,m,rfl,hR,ok,m1,m2,few,hT,k⟩:=h;have o1:=ok.1;have o2:=ok.2.1;have big:(1000000:Nat)<sizeLine:=by decide
 have n1:1<=m.toNat:=by lia
 have n2:m.toNat<=12:=by lia
 have rl:=qkz ok n1;have clr:∀x∈zj hs m.toNat,ClR hs m.toNat x:=λx hx=>(v9 ok n1).mp hx;refine⟨_,(qj (wg (i:=2) (wu ze1 (hr.mono ⋯) rfl qt (qw (pv 0) (qw (pv 1) qv))))
   (qj (Qw (i:=3) (M:=[0]) sc.nd rfl (by walk_at "loc") rfl rfl (by walk_at "cap") (by walk_at "has") (by walk_at "cix") rfl (by decide +kernel) rfl (show List.Nodup (["row","road"]:List Str) by decide +kernel) (vc (pv 2)) (λ_ _ _ _ _=>(wu ze2 (hr.mono ⋯) rfl Zm (qw (pv 1) (qw (pv 0) qv)))))
   (qj (wg (i:=4) (wn (qzt rfl) rfl T.sorted_ fC (qw (xw7 (x := "row") (y2 := "point") (M:=[]) rfl rfl (by walk_at "cap") (by walk_at "has") (by walk_at "cix") rfl (by decide +kernel) (λ_ _ _ _ _=>xx0 (K:=K) (n:=2) rfl rfl (zk (xy (i:=0) (show List.Nodup (["row","point"]:List Str) by decide +kernel) rfl (by walk_at "loc")) (zk (xy (i:=1) (show List.Nodup (["row","point"]:List Str) by decide +kernel) rfl (by walk_at "loc")) jb))) (pi_zip rfl T.zip_ (qw (pv 2) (qw (pv 3) qv))) (λ_ _ _ _ _=>(wt op_isN (pv 1) qj0 (xv _))) (λ_ _ _ _ _=>(wv (Yu (K:=K) rfl) (pv 0) qx (λ_ _=>rfl))) (λ_ _ _ _ _=>(xww (P:=P) (w:=w) rfl rfl))) qv)))
   (qj (wg (i:=5) (wz wur (wqw (M:=[]) rfl rfl (by walk_at "cap") (by walk_at "has") (by walk_at "cix") rfl (by decide +kernel) rfl (show List.Nodup (["point"]:List Str) by decide +kernel) (vc (pv 3)) (λ_ _ _ _ _=>(wt wvy (pv 0) qj0 (xv _))) (λ_ _ _ _ _=>(pv 0))) (wu ze3 (hr.mono ⋯) rfl qt (qw (pv 0) (qw (pv 1) qv)))))
   (qj (wg (i:=6) (wu ze5 (hr.mono ⋯) rfl qt (qw (wn (qvf rfl) rfl T.sorted_ fC (qw (xz3 (M:=[4]) rfl rfl (by walk_at "cap") (by walk_at "has") (by walk_at "cix") rfl (by decide +kernel) rfl (show List.Nodup (["point","wholes"]:List Str) by decide +kernel) (vc (pv 5)) (λ_ _ _ _ _=>(Qz (Qb (wu ze4 (hr.mono ⋯) rfl Zm (qw (pv 0) (qw (pv 1) qv)))))) (λ_ _ _ _ _=>(pv 0)) (λ_ _ _ _ _=>(wud (P:=P) (w:=w) rfl rfl hr.units))) qv)) qv)))
   (qh (xw (vj (qw (pv 6) (qw (pv 4) qv)))))))))),?_⟩
 refine exI rfl (exI rfl ⟨r,hs,m,rfl,hR,ok,m1,m2,few,λp1 ys1 H1 np1 s1 f1 t1=>?_⟩);have l1:=t1.len;have at1:∀i x,ys1[i]?=some x->∃a,x=.ref a/\i<(zj hs m.toNat).length/\H1 a=some (.tup (((zj hs m.toNat).getD i []).map V.int)):=λi x hx=>by obtain⟨a,xs,e1,e2,e3⟩:=t1.get hx;exact⟨a,e1,(ak.mp e2).1,by rw[af,e2];exact e3⟩
 refine exI rfl ⟨p1,rfl,⟨_,SqL.of f1⟩,ww2 (K:=K) (λi v H=>FixR H (w8 hs ((zj hs m.toNat).getD i [])) v) (λi v H H' g st=>?_) (SqL.of f1) ⋯ (λi x H2 R hx s2 hR2=>?_) λp3 fs H3 np3 s3 f3 l3 g3=>?_⟩
 .rcases g with g|⟨g1,q,g2,g3⟩
  .exact .inl g
  .exact .inr ⟨g1,q,g2,st _ _ (λxs z=>by cases z) g3⟩
 .obtain⟨a,rfl,hi,fa⟩:=at1 i x hx;have c:=clr _ (Yy hi);exact⟨_,rfl,_,rfl,r,a,hs,_,rfl,hR.same (s1.trans s2),ok,SqT.of (s2 _ _ fa),c.2.1,by rw[c.1];lia,λv H4 s4 g4=>hR2 v H4 s4 g4⟩
 have s13:=s1.trans s3;have fs_at:∀i,i<(zj hs m.toNat).length->FixR H3 (w8 hs ((zj hs m.toNat).getD i [])) (fs.getD i .non):=λi hi=>by have e:fs[i]?=some fs[i]:=aa ⋯;have:=g3 i _ e;rw[yc e];exact this
 have fs_non:∀i,i<(zj hs m.toNat).length->decide (fs.getD i .non=.non)=decide ((w8 hs ((zj hs m.toNat).getD i [])).1=1):=λi hi=>by
  rcases fs_at i hi with⟨g1,g2⟩|⟨g1,q,g2,_⟩
  .rw[g2,aS g1];exact aS rfl
  .rw[g2,bb g1];exact bb (λz=>by cases z)
 refine exI rfl (exI rfl ⟨p1,p3,ys1,fs,rfl,SqL.of (s3 _ _ f1),SqL.of f3,?_⟩);refine wxx (K:=K) (zj hs m.toNat).length (λi=>(ys1.getD i .non,fs.getD i .non)) (λi=>decide ((w8 hs ((zj hs m.toNat).getD i [])).1=1)) (λi=>((zj hs m.toNat).getD i []).getD 0 0) 24 (λi hi=>?_) ⋯ (λi H' hi sH=>?_) (λH' sH=>?_) (λi H2 v H4 hi sH yl=>?_) (λi H' R hi sH hR'=>?_) (λi H' R hi hc sH hR'=>?_) λp5 ps H5 ns np5 s5 f5 I5 nd5 mem5=>?_
 .have:=wzr ok n1 hi;lia
 .exact⟨SqL.of (sH _ _ (s3 _ _ f1)),SqL.of (sH _ _ f3),⋯,⋯⟩
 .exact⟨SqL.of (sH _ _ (s3 _ _ f1)),SqL.of (sH _ _ f3),.inl ⋯⟩
 .obtain⟨q,x,y,nq,rfl,ex,ey,rfl⟩:=yl;refine⟨Same.upd nq,q,rfl,?_⟩;have e1:ys1.getD i .non=x:=by rw[af,ex];rfl
  have e2:fs.getD i .non=y:=by rw[af,ey];rfl
  show SqT K _ q [ys1.getD i .non,fs.getD i .non];rw[e1,e2];exact SqT.of qf
 .refine exI rfl ⟨rfl,_,rfl,?_⟩;have:=hR' H' (Same.refl _);rw[<-fs_non i hi]at this;exact this
 .have ex:ys1[i]?=some (ys1.getD i .non):=by rw[af,aa ⋯];rfl
  obtain⟨a,ea,_,fa⟩:=at1 i _ ex;have c:=clr _ (Yy hi);have z0:0<((zj hs m.toNat).getD i []).length:=by rw[c.1];lia
  have a0:∀r:List Int,0<r.length->atI (r.map V.int) 0=some (.int (r.getD 0 0)):=λr h=>by have:=vg (xs:=r.map V.int) (j:=0) (v:=V.int (r.getD 0 0)) (by rw[aA,aa h,yc (aa h)];rfl);exact this
  refine exI rfl ⟨_,_,_,_,ea▸rfl,rfl,SqT.of (sH _ _ (s3 _ _ fa)),a0 _ z0,hR' _ (Same.refl _)⟩
 have i5:∀v∈ns,0<=v/\v<24:=λv hv=>by obtain⟨i,hi,_,rfl⟩:=(mem5 v).mp hv;have:=wzr ok n1 hi;lia
 have ln:ns.length<=24:=by
  have:=qzk (ns.map Int.toNat) (List.range 24) ?_ λv hv=>?_
  .rwa [ag,aG]at this
  .refine cK.mpr (cP (λ{x y} hx hy hxy z=>?_) nd5);have a1:=i5 x hx;have a2:=i5 y hy;exact hxy ⋯
  .obtain⟨x,hx,rfl⟩:=aJ.mp hv;have a1:=i5 x hx;exact ay.mpr ⋯
 refine⟨p5,ps,ns,rfl,f5,I5,⋯,λp6 ws np6 pm6 up6=>?_⟩;have s6:Same H5 (upd H5 p6 (.lst (ws.map V.int))):=Same.upd np6;have f6:upd H5 p6 (.lst (ws.map V.int)) p6=some (.lst (ws.map V.int)):=qf;generalize upd H5 p6 (.lst (ws.map V.int))=H6 at s6 f6;have wmem:∀v,v∈ws↔Zr hs m.toNat v:=λv=>by
  rw[pm6.mem_iff,mem5 v];constructor
  .rintro⟨i,hi,h1,h2⟩;exact⟨_,Yy hi,cL h1,h2⟩
  .rintro⟨r,hr,h1,h2⟩;obtain⟨i,hi,rfl⟩:=wkb hr;exact⟨i,hi,aS h1,h2⟩
 have wup:=wjd up6 (pm6.nodup_iff.mpr nd5);have wfew:ws.length<=24:=by rw[pm6.length_eq];exact ln
 have win:∀k∈ws,0<=k/\k<24:=λv hv=>i5 v (pm6.mem_iff.mp hv);have s36:=s5.trans s6;refine exI rfl ⟨p3,rfl,⟨_,SqL.of (s36 _ _ f3)⟩,qxh (K:=K) (λi=>!decide (fs.getD i .non=.non)) (SqL.of (s36 _ _ f3)) ⋯ (λi x H2 R hx s2 hR2=>?_) (λi x H2 R hx _ s2 hR2=>?_) λp7 H7 np7 s7 f7=>?_⟩
 .have e:fs.getD i .non=x:=by rw[af,hx];rfl
  refine exI rfl ⟨rfl,_,rfl,?_⟩;have:=hR2 H2 (Same.refl _);rw[e]at this;exact this
 .exact exI rfl (hR2 _ (Same.refl _))
 have s17:=s13.trans (s36.trans s7);refine exI rfl (exI rfl ⟨r,hs,m,rfl,hR.same s17,ok,m1,m2,λp8 ys8 H8 np8 s8 f8 P8=>?_⟩);have l8:ys8.length<=25:=by rw[dG P8];unfold qky;rw[ag];have:=eO (λc:Nat=>decide (itP hs ((0:Int)+c,1) m.toNat=((0:Int)+c,1))) (List.range hs.length);rw[aG]at this;lia
 have l7:(Qm (λi=>!decide (fs.getD i .non=.non)) fs fs.length).length<=fs.length:=by unfold Qm;rw[ag];have:=eO (λi=>!decide (fs.getD i .non=.non)) (List.range fs.length);rwa [aG]at this
 refine⟨p7,p8,_,_,rfl,rfl,s8 _ _ f7,f8,⋯,λp9 np9=>?_⟩;have P7:Paired (PtR H8) (Qm (λi=>!decide (fs.getD i .non=.non)) fs fs.length) (((List.range (zj hs m.toNat).length).filter λi=>!decide ((w8 hs ((zj hs m.toNat).getD i [])).1=1)).map λi=>Qs (w8 hs ((zj hs m.toNat).getD i []))):=by
  unfold Qm;have e:(List.range fs.length).filter (λi=>!decide (fs.getD i .non=.non))=(List.range (zj hs m.toNat).length).filter (λi=>!decide ((w8 hs ((zj hs m.toNat).getD i [])).1=1)):=by rw[show fs.length=(zj hs m.toNat).length by lia];refine List.filter_congr λi hi=>?_;rw[fs_non i (ay.mp hi)]
  rw[e];refine W0 λi hi=>?_;obtain⟨h1,h2⟩:=cQ.mp hi;have h1:=ay.mp h1;rcases fs_at i h1 with⟨g1,g2⟩|⟨g1,q,g2,g3⟩
  .rw[g1]at h2;cases h2
  .exact⟨q,g2,s8 _ _ (s7 _ _ (s36 _ _ g3))⟩
 have P9:Paired (PtR H8) (Qm (λi=>!decide (fs.getD i .non=.non)) fs fs.length++ys8) (qkj hs m.toNat):=Paired.app P7 P8;generalize Qm (λi=>!decide (fs.getD i .non=.non)) fs fs.length=us7 at P9 l7;have s9:Same H8 (upd H8 p9 (.lst (us7++ys8))):=Same.upd np9;have f9:upd H8 p9 (.lst (us7++ys8)) p9=some (.lst (us7++ys8)):=qf;have T9:=(quz P9).same s9;have l9:=dG P9;generalize upd H8 p9 (.lst (us7++ys8))=H9 at s9 f9 T9;rw[am]at l9;have f69:H9 p6=some (.lst (ws.map V.int)):=s9 _ _ (s8 _ _ (s7 _ _ f6));refine exI rfl ⟨p9,rfl,⟨_,SqL.of f9⟩,?_⟩;refine wj0 (K:=K) ((qkj hs m.toNat).map two) (λxs=>!jd ws (xs.getD 0 0,xs.getD 1 0)) (SqL.of f9) T9 (by rw[ag];lia) (λxs a H' R hx fa sH hR'=>?_) (λa H' R hR'=>(exI rfl hR')) λp10 ps10 H10 L10 np10 s10 f10 T10 nd10 mem10 len10=>?_
 .obtain⟨q,hq,rfl⟩:=aJ.mp hx;refine⟨_,rfl,_,rfl,a,p6,q,ws,rfl,SqT.of fa,SqL.of (sH _ _ f69),⋯,win,λH'' s''=>?_⟩;exact exI rfl (hR' H'' s'')
 rw[ag]at len10;obtain⟨qs,eq,hq⟩:=qwd (L:=L10) (ps:=qkj hs m.toNat) λx hx=>((mem10 x).mp hx).1;refine⟨p10,ps10,L10,2,rfl,f10,T10,nd10,⋯,⋯,λr hr=>?_,λp11 ys11 L11 np11 pm11 up11 t11=>?_⟩
 .obtain⟨q,_,rfl⟩:=aJ.mp ((mem10 r).mp hr).1;rfl
 obtain⟨qs,eq,hq⟩:=qwd (L:=L11) (ps:=qkj hs m.toNat) λx hx=>((mem10 x).mp (pm11.mem_iff.mp hx)).1;have s11:Same H10 (upd H10 p11 (.lst ys11)):=Same.upd np11;have f11:upd H10 p11 (.lst ys11) p11=some (.lst ys11):=qf;have P11:Paired (PtR (upd H10 p11 (.lst ys11))) ys11 qs:=xvb (t11.same s11) eq;generalize upd H10 p11 (.lst ys11)=H11 at s11 f11 P11;have s011:=s17.trans (s8.trans (s9.trans (s10.trans s11)));have l11:=dG P11;have lq:qs.length=L10.length:=by rw[<-pm11.length_eq,eq,ag]
 have ndq:qs.Nodup:=by have:=pm11.nodup_iff.mpr nd10;rw[eq]at this;exact List.Pairwise.imp (λh z=>h (by rw[z])) (cK.mp this)
 have okq:∀q∈qs,Z5 hs m.toNat q:=λq h=>(qy0 ok).mp (hq q h);have gd:∀i,i<qs.length->qs.getD i (0,1)∈qs:=λi hi=>by rw[af,aa hi];exact bJ hi
 have nw:∀i j,i<j->j<ys11.length->(qs.getD i (0,1)).1*(qs.getD j (0,1)).2≠(qs.getD j (0,1)).1*(qs.getD i (0,1)).2:=λi j hij hj z=>by obtain⟨b1,g1,_⟩:=Yx ok n1 n2 (okq _ (gd i ⋯));obtain⟨b2,g2,_⟩:=Yx ok n1 n2 (okq _ (gd j ⋯));have t1:=(y9 b1 b2).mp z;rw[j7 b1 g1,j7 b2 g2]at t1;refine(br.mp ndq) i j ⋯ ⋯ hij ?_;have e1:=yc (d:=((0:Int),(1:Int))) (aa (show i<qs.length by lia));have e2:=yc (d:=((0:Int),(1:Int))) (aa (show j<qs.length by lia));rw[<-e1,<-e2];exact t1
 refine⟨p11,ys11,λi=>qs.getD i (0,1),rfl,SqL.of f11,λi v e=>?_,Zy hT s011,λi hi=>?_,nw,⋯,λl il H12 k12 T12 nl pm12 up12 f12=>?_⟩
 .obtain⟨q,e1,b,e2,e3⟩:=qzb P11 e;show ∃a,v=.ref a/\H11 a=some (.tup [.int (qs.getD i (0,1)).1,.int (qs.getD i (0,1)).2]);rw[yc e1];exact⟨b,e2,e3⟩
 .exact wwp ok n1 n2 (okq _ (gd i ⋯))
 have k012:Kp H H12:=(Kp.of s011).trans k12;refine exI rfl (exI rfl ⟨sz2,λa na=>?_⟩);have s12:Same H12 (upd H12 a (.tup [.ref l,.ref p6])):=Same.upd na;have f13:upd H12 a (.tup [.ref l,.ref p6]) a=some (.tup [.ref l,.ref p6]):=qf;generalize upd H12 a (.tup [.ref l,.ref p6])=H13 at s12 f13;have P12:Paired (PtR H13) (il.map λi=>ys11.getD i .non) (il.map λi=>qs.getD i (0,1)):=W0 λi hi=>by have hi:i<ys11.length:=ay.mp (pm12.mem_iff.mp hi);have e:ys11[i]?=some ys11[i]:=aa hi;obtain⟨q,e1,b,e2,e3⟩:=qzb P11 e;rw[yc e,yc e1];exact⟨b,e2,s12 _ _ (k12.tup e3)⟩
 have mq:∀q,q∈(il.map λi=>qs.getD i (0,1))↔q∈qs:=λq=>by
  rw[aJ];constructor
  .rintro⟨i,hi,rfl⟩;have hi:i<ys11.length:=ay.mp (pm12.mem_iff.mp hi);exact gd i ⋯
  .intro h;obtain⟨i,hi,e⟩:=cZ h;exact⟨i,pm12.mem_iff.mpr (ay.mpr ⋯),by rw[yc (aa hi)];exact e⟩
 have lil:il.length<=1025:=by rw[pm12.length_eq,aG];lia
 refine k a l p6 _ _ ws H13 (k012.trans (Kp.of s12)) (Zy T12 s12) f13 (s12 _ _ f12) P12 (s12 _ _ (k12.lst (s11 _ _ (s10 _ _ f69)))) ⟨wup,wmem,?_,λp=>?_,wfew,by rw[ag];exact lil⟩ (wzn s011 nl) (wzn (s13.trans s5) np6) (dD (wx (s11 _ _ (s10 _ _ f69)) nl))
 .refine cK.mpr (up12.imp_of_mem λ{i j} hi hj h=>?_);have hi:i<ys11.length:=ay.mp (pm12.mem_iff.mp hi);have hj:j<ys11.length:=ay.mp (pm12.mem_iff.mp hj);rcases h with h|⟨h,hij⟩
  .exact h
  .exact absurd h (nw i j hij hj)
 .rw[mq p];constructor
  .intro h;refine⟨okq p h,?_⟩;have:two p∈L11:=by rw[eq];exact aJ.mpr ⟨p,h,rfl⟩
   have:=((mem10 _).mp (pm11.mem_iff.mp this)).2;exact ii _▸this
  .rintro⟨h1,h2⟩;have:two p∈L11:=pm11.mem_iff.mpr ((mem10 _).mpr ⟨aJ.mpr ⟨p,(qy0 ok).mpr h1,rfl⟩,by show(!jd ws p)=true;rw[h2];rfl⟩);rw[eq]at this;obtain⟨q,hq,e⟩:=aJ.mp this;rw[<-xv4 e];exact hq
def qw2 (K:Aa):Sp:=λvs H Q _=>∃(q:Aj) (ps:List (Int×Int)),vs=[.ref q]/\PtsAt H q ps/\ps.length<=2000/\(∀p∈ps,1<=p.2/\gOf p.1 p.2=1)/\∀H',Same H H'->Q (.bl true) H'
theorem wk2 (ns:List α):(ns.map λ_=>true).all id=true:=by
 induction ns with
 |nil=>rfl
 |cons a r ih=>rw[aD,List.all_cons,ih];rfl
include T in
theorem wk7 (F:Fun K "_law_points" "_law_points" zbu f fd)(ze6:Cal P w K mg base "_law_point" 2 (qk3 K)):FK P w K mg base 3 f fd ["_law_found"] (qw2 K):=by
 have sc:=qx7;refine F.okX sc (λvs H Q E h=>by obtain⟨_,_,rfl,_⟩:=h;rfl) λ_ _ _ _ H vs Q E hr h=>?_;obtain⟨q,ps,rfl,⟨vs,hq,pr⟩,hn,hg,k⟩:=h;have hlen:=pr.length;refine⟨_,(qh (xw (Y7 (wn kn rfl T.isinstance_ cn (qw (pv 0) (qw (W6 (v:=V.ty "list") rfl T.list_ cX rfl) qv))) (Js (wn (Zz rfl) rfl T.all_ wqh (qw (kx (M:=[]) rfl rfl (by walk_at "cap") (by walk_at "has") (by walk_at "cix") rfl (by decide +kernel) rfl (show List.Nodup (["_law_point_here"]:List Str) by decide +kernel) (vc (pv 0)) (λ_ _ _ _ _=>(wu ze6 (hr.mono ⋯) rfl Zm (qw (pv 0) qv)))) qv)))))),?_⟩;refine exI rfl ⟨_,_,_,_,rfl,TyOf.lst hq,rfl,_,rfl,?_⟩;refine yp ?_;refine exI rfl ⟨q,rfl,⟨_,SqL.of hq⟩,?_⟩;refine Jh (K:=K) (M:=[]) (a:=q) (xs:=vs) (λ_=>V.bl true) (SqL.of hq) ⋯ (λx H' R hx hs hR=>?_) λp np=>?_
 .obtain⟨pt,hm,⟨a,rfl,fa⟩⟩:=qut pr hx;exact exI rfl ⟨a,pt.1,pt.2,rfl,hs _ _ fa,(hg pt hm).1,(hg pt hm).2,hR⟩
 .have e:vs.map (λ_=>V.bl true)=(vs.map λ_=>true).map V.bl:=by rw[ba];rfl
  rw[e];refine⟨p,vs.map λ_=>true,rfl,SqL.new,?_⟩;rw[wk2];exact k _ (Same.upd np)
def wkx:Sp:=λvs H Q _=>∃t b:Int,vs=[.int t,.int b]/\1<=b/\Sm 9000 b/\∀p,H p=none->Q (.ref p) (upd H p (.tup (ptV (wy t b))))
include T in
theorem ze7 (F:Fun K "_law_low" "_law_low" zbm f fd)(zbz:Cal P w K mg base "_law_common" 1 qzm):FK P w K mg base 2 f fd ["_law_top","_law_bottom"] wkx:=by
 have sc:=wwv;refine F.okX sc (λvs H Q E h=>by obtain⟨_,_,rfl,_⟩:=h;rfl) λ_ _ _ _ H vs Q E hr h=>?_;obtain⟨t,b,rfl,g1,sb,k⟩:=h;have hg:=yf (t:=t) g1;have hs:Sm 9000 (gOf t b):=sb.of_le (by have:=wu4 (t:=t) g1;lia);refine⟨_,(qj (wg (i:=2) (wu zbz (hr.mono ⋯) rfl qt (qw (wn ux rfl T.abs_ uq (qw (pv 0) qv)) (qw (pv 1) qv))))
   (qh (xw (vj (qw (wz j9 (pv 0) (pv 2)) (qw (wz j9 (pv 1) (pv 2)) qv)))))),?_⟩
 refine exI rfl (exI rfl (exI rfl ⟨y8 t,b,rfl,qj3 t,⋯,?_⟩));refine exI rfl ⟨V.int (gOf t b),rfl,wp rfl rfl ⟨⟨⋯,hs⟩,exI rfl ⟨V.int (gOf t b),rfl,wp rfl rfl ⟨⟨⋯,hs⟩,sz2,λp n=>?_⟩⟩⟩⟩;exact k p n
def Yn (hs:List Int)(x y:Int)(u:Bool):Prop:=(0<=x/\x<(hs.length:Int)-1)/\hAt hs x=y+(if u=true then 1 else 0)/\hAt hs (x+1)=y+(if u=true then 0 else 1)
def y6 (d:Nat->Bool):Nat->Bool
 |0=>false
 |i+1=>Bool.xor (y6 d i) (d i)
def inS (s:Bool)(b x:Int):Int:=if s=true then b-x else x
theorem wj8 {z:Int}{s u:Bool}(h:Yn hs x y u):hAt hs x*b+(hAt hs (x+1)-hAt hs x)*inS s b z=y*b+inS (Bool.xor s u) b z:=by
 obtain⟨_,h1,h2⟩:=h;cases u with
 |false =>
  simp only[aI,bN]at h1 h2;rw[h1,h2,show y+1-(y+0)=1 by lia,bj,gO,Bool.xor_false]
 |true =>
  simp only[db]at h1 h2;rw[h1,h2,show y+0-(y+1)=-1 by lia,i6,bj,bF,bj];cases s <;> simp only[inS,Bool.xor_true,fB,gZ,aI,db,bN] <;> lia
theorem wqn {c:Nat->Int}{d:Nat->Bool}(h:∀i,i<xs.length->Yn hs (c i) (c (i+1)) (d i))(e:∀i,i<xs.length->xq xs i=c i){b x:Int}:∀i,i<=xs.length->Qy hs xs (c 0*b+x) b i=c i*b+inS (y6 d i) b x
 |0,_=>j6 ..
 |i+1,hi=>by have ih:=wqn h e (b:=b) (x:=x) i ⋯;have u:=h i ⋯;rw[uk ⋯,ih,e i ⋯,show c i*b+inS (y6 d i) b x-c i*b=inS (y6 d i) b x by lia,wj8 u];rfl
theorem quc {u:Bool}(h:Yn hs x y u):cvr hs x y:=by obtain⟨_,h1,h2⟩:=h;unfold cvr loH hiH jj Qu;cases u <;> simp only[aI,db,bN]at h1 h2 <;> rw[h1,h2] <;> constructor <;> (split <;> lia)
theorem wyu (ok:wj hs){c:Nat->Int}{d:Nat->Bool}{m:Nat}(m1:1<=m)(h:∀i,i<m->Yn hs (c i) (c (i+1)) (d i))(e:c m=c 0)(s:y6 d m=false):Zr hs m (c 0):=by
 have hl:((List.range m).map c).length=m:=by rw[ag,aG]
 have hg:∀i,i<m->((List.range m).map c).getD i 0=c i:=λi hi=>by rw[af,aA,bp hi];rfl
 have cl:ClR hs m ((List.range m).map c):=by
  refine⟨hl,λx hx=>?_,λi hi=>?_,?_⟩
  .obtain⟨i,hi,rfl⟩:=aJ.mp hx;exact(h i (ay.mp hi)).1
  .rw[hg i ⋯,hg (i+1) hi];exact quc (h i ⋯)
  .rw[hg (m-1) ⋯,hg 0 ⋯,<-e];have:=quc (h (m-1) ⋯);rwa [show m-1+1=m by lia]at this
 refine⟨_,(v9 ok m1).mpr cl,?_,hg 0 ⋯⟩;have he:∀i,i<((List.range m).map c).length->xq ((List.range m).map c) i=c i:=λi hi=>by unfold xq;rw[d9 hi];exact hg i ⋯
 have ht:=λx:Int=>wqn (hs:=hs) (xs:=(List.range m).map c) (d:=d) (b:=3) (x:=x) (λi hi=>h i ⋯) he _ (al _);have t1:=ht 1;have t2:=ht 2;rw[Wf,hl,e,s]at t1 t2;simp only[inS,aI,bN,Int.mul_add]at t1 t2;lia
abbrev Cor:=(Int×Int)×Int
structure Cell where
 u:Int
 S:Int
 a:Int
 b:Int
def Cell.D (c:Cell):Nat:=if(c.b-c.a).natAbs=0 then 1 else(c.b-c.a).natAbs
def Cell.sg (c:Cell):Int:=if c.b>c.a then 1 else if c.b<c.a then -1 else 0
def Cell.lft (c:Cell):Cor:=(wy c.u c.S,c.a)
def Cell.rgt (c:Cell):Cor:=(wy (c.u+1) c.S,c.b)
def vx:List Cell->List Cor
 |[]=>[]
 |[c]=>[c.lft,c.rgt]
 |c::d::r=>c.lft::vx (d::r)
def jw (n M:Int):List Cell->Prop
 |[]=>False
 |[c]=>1<=c.S/\c.S<=M/\0<=c.u/\c.u+1<=n*c.S/\(0<=c.a/\c.a<=n)/\0<=c.b/\c.b<=n
 |c::d::r=>(1<=c.S/\c.S<=M/\0<=c.u/\c.u+1<=n*c.S/\(0<=c.a/\c.a<=n)/\0<=c.b/\c.b<=n)/\c.rgt=d.lft/\jw n M (d::r)
def Cell.cut (c:Cell):List Cell:=(List.range c.D).map λk:Nat=>⟨c.u*c.D+k,c.S*c.D,c.a+c.sg*k,c.a+c.sg*(k+1)⟩
def Cell.up (hs:List Int)(c:Cell):Cell:=⟨c.u,c.S,hAt hs c.a,hAt hs c.b⟩
def vm (hs:List Int)(cs:List Cell):List Cell:=(cs.map λc=>c.cut.map (Cell.up hs)).flatten
def k8 (hs:List Int):List Cell:=(List.range (hs.length-1)).map λk:Nat=>⟨k,1,hAt hs k,hAt hs (k+1)⟩
def xj (hs:List Int):Nat->List Cell
 |0=>k8 hs
 |t+1=>vm hs (xj hs t)
theorem qkv (c:Cell):1<=c.D:=by unfold Cell.D;split <;> lia
def Z8 (n M:Int)(c:Cell):Prop:=1<=c.S/\c.S<=M/\0<=c.u/\c.u+1<=n*c.S/\(0<=c.a/\c.a<=n)/\0<=c.b/\c.b<=n
variable {n M:Int}{c:Cell}
theorem wj3 (h:Z8 n M c):jw n M [c]:=h
variable {d:Cell}
theorem qx8 {r:List Cell}(h:Z8 n M c)(e:c.rgt=d.lft)(t:jw n M (d::r)):jw n M (c::d::r):=⟨h,e,t⟩
theorem qqx:∀ {xs ys:List Cell},jw n M xs->jw n M ys->xs.getLast?.map Cell.rgt=ys.head?.map Cell.lft->jw n M (xs++ys)
 |[],_,h,_,_=>h.elim
 |[c],[],_,h,_=>h.elim
 |[c],d::r,h,t,e=>qx8 h (aq e) t
 |c::d::r,ys,h,t,e=>qx8 h.1 h.2.1 (qqx (xs:=d::r) h.2.2 t (by simpa using e))
theorem vt {cs:List Cell}(h:jw n M cs):cs≠[]:=by intro z;rw[z]at h;exact h
theorem xn:∀ {cs:List Cell},jw n M cs->∀c∈cs,Z8 n M c
 |[],h,_,_=>h.elim
 |[c],h,x,hx=>by rw[aH.mp hx];exact h
 |c::d::r,h,x,hx=>by
  rcases aM.mp hx with rfl|hx
  .exact h.1
  .exact xn h.2.2 x hx
theorem Wd (f:Nat->Cell):∀d:Nat,(∀k,k<=d->Z8 n M (f k))->(∀k,k<d->(f k).rgt=(f (k+1)).lft)->jw n M ((List.range (d+1)).map f)
 |0,g,_=>g 0 (al _)
 |d+1,g,c=>by rw[bL,aW];refine qqx (Wd f d (λk hk=>g k ⋯) λk hk=>c k ⋯) (wj3 (g (d+1) (al _))) ?_;rw[bL,aW,d6];exact cr some (c d ⋯)
def mapc (hs:List Int)(c:Cor):Cor:=(c.1,hAt hs c.2)
theorem qk4 (c:Cell):c.a+c.sg*(c.D:Int)=c.b:=by
 unfold Cell.sg Cell.D;split
 .rename_i h;rw[ar ⋯];lia
 .split
  .rename_i h1 h2;rw[ar ⋯];lia
  .lia
theorem wxd (c:Cell){n:Int}{k:Nat}(hk:k<=c.D)(h1:0<=c.a/\c.a<=n)(h2:0<=c.b/\c.b<=n):0<=c.a+c.sg*k/\c.a+c.sg*k<=n:=by
 have e:=qk4 c;unfold Cell.sg at e ⊢;split at e
 .rename_i h;rw[aw h];lia
 .rename_i h;rw[ar h];split at e
  .rename_i g;rw[aw g];lia
  .rename_i g;rw[ar g];lia
theorem D_le (hn:1<=n)(h1:0<=c.a/\c.a<=n)(h2:0<=c.b/\c.b<=n):(c.D:Int)<=n:=by unfold Cell.D;split <;> lia
theorem qzx (ok:wj hs){M:Int}{c:Cell}(h:Z8 ((hs.length:Int)-1) M c) :
  jw ((hs.length:Int)-1) (24*M) (c.cut.map (Cell.up hs))/\(c.cut.map (Cell.up hs)).head?.map Cell.lft=some (mapc hs c.lft)/\(c.cut.map (Cell.up hs)).getLast?.map Cell.rgt=some (mapc hs c.rgt):=by
 obtain⟨g1,g2,g3,g4,g5,g6⟩:=h;have o1:=ok.1;have o2:=ok.2.1;have hD:=qkv c;have hDn:=D_le (c:=c) (n:=(hs.length:Int)-1) ⋯ g5 g6;obtain⟨d,hd⟩:∃d,c.D=d+1:=⟨c.D-1,⋯⟩;have e:c.cut.map (Cell.up hs)=(List.range (d+1)).map λk:Nat=>(⟨c.u*c.D+k,c.S*c.D,hAt hs (c.a+c.sg*k),hAt hs (c.a+c.sg*(k+1))⟩:Cell):=by unfold Cell.cut;rw[ba,hd];rfl
 rw[e];have sD:1<=c.S*(c.D:Int):=by have:=bw g1 (show(1:Int)<=c.D by lia) ⋯ ⋯;simpa using this
 have hr:=qkr ok;refine⟨Wd _ d (λk hk=>⟨sD,?_,?_,?_,⟨(hr _).1,(hr _).2⟩,(hr _).1,(hr _).2⟩) λk hk=>?_,?_,?_⟩
 .show c.S*(c.D:Int)<=24*M;have:=bw g2 (show(c.D:Int)<=24 by lia) ⋯ ⋯;lia
 .show 0<=c.u*(c.D:Int)+k;have:=bg g3 (show(0:Int)<=c.D by lia);lia
 .show c.u*(c.D:Int)+k+1<=((hs.length:Int)-1)*(c.S*(c.D:Int));have:=au g4 (show(0:Int)<=c.D by lia);have e2:(c.u+1)*(c.D:Int)=c.u*c.D+c.D:=by grind
  have e3:((hs.length:Int)-1)*c.S*(c.D:Int)=((hs.length:Int)-1)*(c.S*(c.D:Int)):=by grind
  lia
 .show(wy (c.u*c.D+k+1) (c.S*c.D),hAt hs (c.a+c.sg*(k+1)))=(wy (c.u*c.D+((k+1:Nat):Int)) (c.S*c.D),hAt hs (c.a+c.sg*((k+1:Nat):Int)));push_cast;rw[je]
 .rw[List.range_succ_eq_map,aD];show some (wy (c.u*c.D+((0:Nat):Int)) (c.S*c.D),hAt hs (c.a+c.sg*((0:Nat):Int)))=some (wy c.u c.S,hAt hs c.a);rw[show c.u*(c.D:Int)+((0:Nat):Int)=c.u*(c.D:Int) by lia,ut g1 ⋯];simp
 .rw[bL,aW,d6];show some (wy (c.u*c.D+(d:Int)+1) (c.S*c.D),hAt hs (c.a+c.sg*((d:Int)+1)))=some (wy (c.u+1) c.S,hAt hs c.b);have e1:c.u*(c.D:Int)+(d:Int)+1=(c.u+1)*(c.D:Int):=by rw[hd];push_cast;grind
  have e2:c.a+c.sg*((d:Int)+1)=c.b:=by have:=qk4 c;rw[hd]at this;push_cast at this;exact this
  rw[e1,e2,ut g1 ⋯]
theorem xq3 {α:Type}{xs ys:List α}(h:xs≠[]):(xs++ys).head?=xs.head?:=by
 cases xs with
 |nil=>exact absurd rfl h
 |cons x l=>rfl
theorem wy7 {α:Type}{xs ys:List α}(h:ys≠[]):(xs++ys).getLast?=ys.getLast?:=by
 rw[d6];cases g:ys.getLast? with
 |none=>exact absurd (fk.mp g) h
 |some c=>rfl
theorem Zk (ok:wj hs){M:Int}:∀ {cs:List Cell},jw ((hs.length:Int)-1) M cs ->
  jw ((hs.length:Int)-1) (24*M) (vm hs cs)/\(vm hs cs).head?.map Cell.lft=cs.head?.map (λc=>mapc hs c.lft)/\(vm hs cs).getLast?.map Cell.rgt=cs.getLast?.map (λc=>mapc hs c.rgt)
 |[],h=>h.elim
 |[c],h=>by have:=qzx ok (xn h c (by simp));show jw _ _ (c.cut.map (Cell.up hs)++[])/\(c.cut.map (Cell.up hs)++[]).head?.map Cell.lft=_/\(c.cut.map (Cell.up hs)++[]).getLast?.map Cell.rgt=_;rw[bR];exact this
 |c::d::r,h=>by
  have a:=qzx ok h.1;have b:=Zk ok h.2.2;have e:vm hs (c::d::r)=c.cut.map (Cell.up hs)++vm hs (d::r):=rfl;have ne1:=vt a.1;have ne2:=vt b.1;rw[e];refine⟨qqx a.1 b.1 ?_,?_,?_⟩
  .rw[a.2.2,b.2.1,h.2.1];rfl
  .rw[xq3 ne1,a.2.1];rfl
  .rw[wy7 ne2,b.2.2];rfl
theorem W9:∀ {cs:List Cell} (h:cs≠[]),vx cs=cs.map Cell.lft++(match cs.getLast? with|some c=>[c.rgt]|none=>[])
 |[],h=>absurd rfl h
 |[c],_=>rfl
 |c::d::r,_=>by show c.lft::vx (d::r)=_;rw[W9 (cs:=d::r) (by simp)];simp
theorem xxc (ok:wj hs):jw ((hs.length:Int)-1) 1 (k8 hs):=by have o1:=ok.1;have hr:=qkr ok;obtain⟨d,hd⟩:∃d,hs.length-1=d+1:=⟨hs.length-2,⋯⟩;unfold k8;rw[hd];refine Wd _ d (λk hk=>⟨by show(1:Int)<=1;decide,by show(1:Int)<=1;decide,by show(0:Int)<=k;lia,by show(k:Int)+1<=((hs.length:Int)-1)*1;lia,hr _,hr _⟩) λk hk=>?_;show(wy ((k:Int)+1) 1,hAt hs ((k:Int)+1))=(wy ((k+1:Nat):Int) 1,hAt hs ((k+1:Nat):Int));push_cast;rfl
theorem vh (ok:wj hs):∀t:Nat,jw ((hs.length:Int)-1) (24 ^ t) (xj hs t)
 |0=>xxc ok
 |t+1=>by have:=(Zk ok (vh ok t)).1;rw[show(24:Int) ^ (t+1)=24*24 ^ t by rw[Int.pow_succ];lia];exact this
theorem Wg:∀ {cs:List Cell},cs≠[]->(vx cs).length=cs.length+1:=λ{cs} h=>by
 rw[W9 h,am,ag];cases g:cs.getLast? with
 |none=>exact absurd (fk.mp g) h
 |some c=>rfl
def CoR (H:Hp)(v:V)(c:Cor):Prop:=∃q pq,v=.ref q/\H q=some (.tup [.ref pq,.int c.2])/\H pq=some (.tup [.int c.1.1,.int c.1.2])
theorem CoR.keep {c:Cor}(h:CoR H v c)(k:∀b o,(∀xs,o≠.lst xs)->H b=some o->H' b=some o):CoR H' v c:=by obtain⟨q,pq,e,a,b⟩:=h;exact⟨q,pq,e,k _ _ (λxs z=>by cases z) a,k _ _ (λxs z=>by cases z) b⟩
theorem qu6 {xs:List V}{o':HO}(hp:H p=some (.lst xs)):∀b o,(∀xs,o≠.lst xs)->H b=some o->upd H p o' b=some o:=λb o no e=>by
 rw[q8]
 .exact e
 .intro z;rw[z,hp]at e;exact no _ (aq e).symm
def CosV (H:Hp)(vs:List V)(cs:List Cor):Prop:=vs.length=cs.length/\∀(i:Nat) v c,vs[i]?=some v->cs[i]?=some c->CoR H v c
variable {cs:List Cor}
theorem CosV.keep (h:CosV H vs cs)(k:∀b o,(∀xs,o≠.lst xs)->H b=some o->H' b=some o):CosV H' vs cs:=⟨h.1,λi v c a b=>(h.2 i v c a b).keep k⟩
theorem CosV.same (h:CosV H vs cs)(s:Same H H'):CosV H' vs cs:=h.keep λb o _ e=>s b o e
theorem CosV.app {ws:List V}{ds:List Cor}(h:CosV H vs cs)(g:CosV H ws ds):CosV H (vs++ws) (cs++ds):=by
 refine⟨by rw[am,am,h.1,g.1],λi v c e1 e2=>?_⟩;rcases bo i vs.length with z|z
 .rw[aP z]at e1;rw[aP (by rw[<-h.1];exact z)]at e2;exact h.2 i v c e1 e2
 .rw[az z]at e1;rw[az (by rw[<-h.1];exact z),<-h.1]at e2;exact g.2 _ v c e1 e2
theorem CosV.one {c:Cor}(h:CoR H v c):CosV H [v] [c]:=⟨rfl,λi v' c' e1 e2=>by
 rcases i with _|i
 .cases e1;cases e2;exact h
 .cases e1⟩
def SzP (p:Int×Int):Prop:=1<=p.2/\p.2<=1000000000000000000/\0<=p.1/\p.1<=1000000000000000000
def SzC (c:Cor):Prop:=SzP c.1/\0<=c.2/\c.2<=24
theorem xvr {m:Int}(a1:1<=a)(a2:a<=1000000000000000000)(b1:1<=b)(b2:b<=1000000000000000000)(m1:1<=m)(m2:m<=24):1<=a*b*m/\Sm 9000 (a*b*m):=by
 have p1:1<=a*b:=by have:=bw a1 b1 ⋯ ⋯;simpa using this
 have p2:a*b<=1000000000000000000*1000000000000000000:=bw a2 b2 ⋯ ⋯;have p3:1<=a*b*m:=by have:=bw p1 m1 ⋯ ⋯;simpa using this
 have p4:a*b*m<=1000000000000000000*1000000000000000000*24:=bw p2 m2 ⋯ ⋯;exact⟨p3,(show Sm 200 (a*b*m) from by unfold Sm;lia).mono ⋯⟩
theorem j5 (s:Same H H'){p:Aj}(n:H' p=none):H p=none:=by
 cases e:H p with
 |none=>rfl
 |some o=>rw[s _ _ e]at n;cases n
theorem qj2 (i:Int):wy i 1=(i,1):=by
 have h1:1<=(wy i 1).2:=zg ⋯;have h2:(wy i 1).2<=1:=yt ⋯;have e:(wy i 1).2=1:=by lia
 have c:=zd (t:=i) (b:=1) ⋯;rw[e,ig,ig]at c;exact iU c e
theorem cors0 (ok:wj hs):vx (k8 hs)=(List.range hs.length).map λk:Nat=>(((k:Int),(1:Int)),hAt hs k):=by
 have o1:=ok.1;obtain⟨d,hd⟩:∃d,hs.length=d+1+1:=⟨hs.length-2,⋯⟩;have hne:k8 hs≠[]:=vt (xxc ok);rw[W9 hne];unfold k8;rw[ba,hd,fL,bL (n:=d+1),aW];congr 1
 .refine da λk _=>?_;show(wy (k:Int) 1,hAt hs k)=_;rw[qj2]
 .rw[bL,aW,d6];show[(wy ((d:Int)+1) 1,hAt hs ((d:Int)+1))]=[((((d+1:Nat):Int),(1:Int)),hAt hs ((d+1:Nat):Int))];rw[qj2];push_cast;rfl
theorem wkv {u S:Int}(hS:1<=S)(h0:0<=u)(h1:u<=n*S):0<=(wy u S).1/\(wy u S).1<=n*(wy u S).2:=by
 constructor
 .rcases bD (wy u S).1 0 with z|z
  .have:=(Yp hS).mp z;lia
  .exact z
 .rcases bD (n*(wy u S).2) (wy u S).1 with z|z
  .have:=(qyg hS).mp z;lia
  .exact z
theorem wkf (n0:0<=n)(n24:n<=24)(hM:M<=40000000000000000){c:Cell}(h:Z8 n M c):SzC c.lft/\SzC c.rgt:=by obtain⟨g1,g2,g3,g4,g5,g6⟩:=h;have l1:1<=(wy c.u c.S).2:=zg g1;have l2:(wy c.u c.S).2<=c.S:=yt g1;have r1:1<=(wy (c.u+1) c.S).2:=zg g1;have r2:(wy (c.u+1) c.S).2<=c.S:=yt g1;have t1:=wkv g1 g3 (show c.u<=n*c.S by lia);have t2:=wkv g1 (show 0<=c.u+1 by lia) g4;have b1:n*(wy c.u c.S).2<=24*40000000000000000:=bw n24 ⋯ ⋯ ⋯;have b2:n*(wy (c.u+1) c.S).2<=24*40000000000000000:=bw n24 ⋯ ⋯ ⋯;refine⟨⟨⟨l1,by show(wy c.u c.S).2<=_;lia,t1.1,by show(wy c.u c.S).1<=_;lia⟩,by show 0<=c.a;lia,by show c.a<=24;lia⟩,⟨r1,by show(wy (c.u+1) c.S).2<=_;lia,t2.1,by show(wy (c.u+1) c.S).1<=_;lia⟩,by show 0<=c.b;lia,by show c.b<=24;lia⟩
theorem pow24:∀t:Nat,t<=11->(24:Int) ^ t<=40000000000000000:=by decide +kernel
theorem wxt (hs:List Int)(t:Nat):(xj hs t).length<=(xj hs (t+1)).length:=by
 show _<=(vm hs (xj hs t)).length;generalize xj hs t=cs
 induction cs with
 |nil=>exact aT _
 |cons c cs ih =>
  have e:vm hs (c::cs)=c.cut.map (Cell.up hs)++vm hs cs:=rfl;rw[e,am,aQ,ag];unfold Cell.cut;rw[ag,aG];have:=qkv c;lia
theorem qw0 (hs:List Int):∀ {t d:Nat},(xj hs t).length<=(xj hs (t+d)).length
 |t,0=>al _
 |t,d+1=>bM (qw0 hs (t:=t) (d:=d)) (wxt hs (t+d))
theorem wyz (ok:wj hs){s t:Nat}(h:s<=t):(vx (xj hs s)).length<=(vx (xj hs t)).length:=by rw[Wg (vt (vh ok s)),Wg (vt (vh ok t))];have:=qw0 hs (t:=s) (d:=t-s);rw[show s+(t-s)=t by lia]at this;lia
theorem cut_pt (hS:1<=c.S)(k:Int){D:Int}(hD:1<=D):wy ((wy c.u c.S).1*(wy (c.u+1) c.S).2*(D-k)+(wy (c.u+1) c.S).1*(wy c.u c.S).2*k) ((wy c.u c.S).2*(wy (c.u+1) c.S).2*D)=wy (c.u*D+k) (c.S*D):=by
 have l1:1<=(wy c.u c.S).2:=zg hS;have l2:1<=(wy (c.u+1) c.S).2:=zg hS;have x1:=zd (t:=c.u) hS;have x2:=zd (t:=c.u+1) hS;generalize (wy c.u c.S).1=t1 at x1 ⊢;generalize (wy c.u c.S).2=b1 at x1 l1 ⊢;generalize (wy (c.u+1) c.S).1=t2 at x2 ⊢;generalize (wy (c.u+1) c.S).2=b2 at x2 l2 ⊢;have p1:1<=b1*b2:=by have:=bw l1 l2 ⋯ ⋯;simpa using this
 have p2:(1:Int)<=b1*b2*D:=by have:=bw p1 hD ⋯ ⋯;simpa using this
 have p3:(1:Int)<=c.S*D:=by have:=bw hS hD ⋯ ⋯;simpa using this
 refine(y9 p2 p3).mp ?_;grind
def wx0 (hs:List Int)(c:Cell)(k:Nat):Cor:=(wy (c.u*c.D+k) (c.S*c.D),hAt hs (c.a+c.sg*k))
theorem xxf (hs:List Int)(c:Cell):(c.cut.map (Cell.up hs)).map Cell.lft=(List.range c.D).map (wx0 hs c):=by unfold Cell.cut;rw[ba,ba];rfl
variable {us:List V}
theorem CosV.snoc {c:Cor}(h:CosV H us cs)(g:CoR H v c):CosV H (us++[v]) (cs++[c]):=h.app (.one g)
def BtAt (H:Hp)(vl vr:V)(ph:Aj)(st:Int)(x:Int):St->Hp->Prop:=λσ H'=>H'=H/\σ=[some vl,some vr,some (.ref ph),some (.int st),some (.int x),none,none,none,none]
def wxy (K:Aa):Sp:=λvs H Q _=>∃(v v':V) (ph:Aj) (hs:List Int) (c:Cell) (M:Int),vs=[v,v',.ref ph]/\CoR H v c.lft/\CoR H v' c.rgt/\SqL K H ph (hs.map V.int)/\wj hs/\Z8 ((hs.length:Int)-1) M c/\M<=40000000000000000 /\
 ∀p ys H',H p=none->Same H H'->H' p=some (.lst ys)->CosV H' ys ((c.cut.map (Cell.up hs)).map Cell.lft)->Q (.ref p) H'
include T in
theorem xz5 (F:Fun K "_law_between" "_law_between" zbn f fd)(zb3:Cal P w K mg base "_law_low" 2 wkx):FK P w K mg base 3 f fd ["_law_left","_law_right","_law_heights_here"] (wxy K):=by
 have sc:=qq1;refine F.okX sc (λvs H Q E h=>by obtain⟨_,_,_,_,_,_,rfl,_⟩:=h;rfl) λ_ _ _ _ H vs Q E hr h=>?_;obtain⟨_,_,ph,hs,c,M,rfl,⟨p,pp,rfl,p1,p2⟩,⟨q,qq,rfl,q1,q2⟩,hS,ok,gc,hM,k⟩:=h;have o1:=ok.1;have o2:=ok.2.1;have big:(1000000:Nat)<sizeLine:=by decide
 obtain⟨⟨⟨l1,l2,l3,l4⟩,l5,l6⟩,⟨⟨r1,r2,r3,r4⟩,r5,r6⟩⟩:=wkf (n:=(hs.length:Int)-1) ⋯ ⋯ hM gc;obtain⟨g1,g2,g3,g4,g5,g6⟩:=gc;have hD:=qkv c;have hDn:=D_le (c:=c) (n:=(hs.length:Int)-1) ⋯ g5 g6;have sg1:-1<=c.sg/\c.sg<=1:=by
  unfold Cell.sg;split
  .lia
  .split <;> lia
 have sm:=xvr l1 l2 r1 r2 (show(1:Int)<=c.D by lia) (show(c.D:Int)<=24 by lia);have P1:SqT K H p [.ref pp,.int c.lft.2]:=SqT.of p1;have P2:SqT K H pp [.int c.lft.1.1,.int c.lft.1.2]:=SqT.of p2;have Q1:SqT K H q [.ref qq,.int c.rgt.2]:=SqT.of q1;have Q2:SqT K H qq [.int c.rgt.1.1,.int c.rgt.1.2]:=SqT.of q2;refine⟨_,(qj (wg (i:=3) (wn (W5 rfl) rfl T.max_ df (qw qx (qw (wn ux rfl T.abs_ uq (qw (wz zm (wv wb (pv 1) qx (λ_ _=>rfl)) (wv wb (pv 0) qx (λ_ _=>rfl))) qv)) qv))))
   (qj (wg (i:=4) qx)
   (qwu (zr (wt Wv (wv wb (pv 1) qx (λ_ _=>rfl)) (wv wb (pv 0) qx (λ_ _=>rfl)) (xv _)) (qh (wg (i:=4) qx)) xg)
   (qwu (zr (wt Q3 (wv wb (pv 1) qx (λ_ _=>rfl)) (wv wb (pv 0) qx (λ_ _=>rfl)) (xv _)) (qh (wg (i:=4) (Qn jm qx))) xg)
   (qj (wg (i:=5) (vf qv))
   (qj (jx bh rfl (xh rfl T.range_ (qw (pv 3) qv)) (xy (i:=6)) (qj (wg (i:=7) (wz xk (wz xk (wv wb (wv wb (pv 0) qx (λ_ _=>rfl)) qx (λ_ _=>rfl)) (wv wb (wv wb (pv 1) qx (λ_ _=>rfl)) qx (λ_ _=>rfl))) (wz zm (pv 3) (pv 6))))
   (qj (qyf (i:=7) sc.nd rfl (Or.inl rfl) (wz xk (wz xk (wv wb (wv wb (pv 1) qx (λ_ _=>rfl)) qx (λ_ _=>rfl)) (wv wb (wv wb (pv 0) qx (λ_ _=>rfl)) qx (λ_ _=>rfl))) (pv 6)) xw4)
   (qj (wg (i:=8) (wu zb3 (hr.mono ⋯) rfl qt (qw (pv 7) (qw (wz xk (wz xk (wv wb (wv wb (pv 0) qx (λ_ _=>rfl)) qx (λ_ _=>rfl)) (wv wb (wv wb (pv 1) qx (λ_ _=>rfl)) qx (λ_ _=>rfl))) (pv 3)) qv))))
   (qh (vy (Q0 bB bG bH vk (pv 5) (qw (vj (qw (pv 8) (qw (wv x8 (pv 2) (wz x9 (wv wb (pv 0) qx (λ_ _=>rfl)) (wz xk (pv 4) (pv 6))) (λ_ _=>rfl)) qv))) qv))))))))
   (qh (xw (pv 5))))))))),?_⟩
 refine exI rfl (exX rfl rfl Q1 rfl (exI rfl (exX rfl rfl P1 rfl (wp rfl rfl (exI rfl ⟨_,_,rfl,?_⟩)))));have eS:(if(if c.rgt.2-c.lft.2<0 then -(c.rgt.2-c.lft.2) else c.rgt.2-c.lft.2)>1 then(if c.rgt.2-c.lft.2<0 then -(c.rgt.2-c.lft.2) else c.rgt.2-c.lft.2) else 1)=(c.D:Int):=by show(if(if c.b-c.a<0 then -(c.b-c.a) else c.b-c.a)>1 then(if c.b-c.a<0 then -(c.b-c.a) else c.b-c.a) else 1)=(c.D:Int);unfold Cell.D;split <;> split <;> split <;> lia
 dsimp only;rw[eS];refine⟨BtAt H (.ref p) (.ref q) ph c.D (if c.b>c.a then 1 else 0),?_,?_⟩
 .refine exI rfl (exX rfl rfl Q1 rfl (exI rfl (exX rfl rfl P1 rfl (wp rfl rfl (exI rfl (kr (λz=>?_) (λz=>?_)))))))
  .have z':c.b>c.a:=z;exact⟨rfl,by rw[aw z'];rfl⟩
  .have z':¬ c.b>c.a:=z;exact⟨rfl,by rw[ar z'];rfl⟩
 rintro σ H1 ⟨e1,rfl⟩;subst e1;refine⟨BtAt H1 (.ref p) (.ref q) ph c.D c.sg,?_,?_⟩
 .refine exI rfl (exX rfl rfl Q1 rfl (exI rfl (exX rfl rfl P1 rfl (wp rfl rfl (exI rfl (kr (λz=>?_) (λz=>?_)))))))
  .have z':c.b<c.a:=z;have e:c.sg=-1:=by unfold Cell.sg;rw[ar ⋯,aw z']
   refine exI rfl ⟨rfl,?_⟩;rw[e];rfl
  .have z':¬ c.b<c.a:=z;have e:c.sg=if c.b>c.a then 1 else 0:=by
    unfold Cell.sg;by_cases y:c.b>c.a
    .rw[aw y,aw y]
    .rw[ar y,ar z',ar y]
   exact⟨rfl,by rw[e]⟩
 rintro σ H2 ⟨e2,rfl⟩;subst e2;refine⟨sz0,λpm nm=>?_⟩;refine exI rfl (exI rfl ⟨⋯,⋯,?_⟩);rw[show((c.D:Int)).toNat=c.D by lia];refine v6 (λi σ H'=>Same H2 H'/\∃(ys:List V) (z6 z7 z8:Option V),σ=[some (.ref p),some (.ref q),some (.ref ph),some (.int c.D),some (.int c.sg),some (.ref pm),z6,z7,z8]/\H' pm=some (.lst ys)/\CosV H' ys ((List.range i).map (wx0 hs c)))
  ⟨Same.upd nm,[],_,_,_,rfl,qf,⟨rfl,λi v c e=>by cases e⟩⟩ ?_ ?_
 .rintro i σ H3 hi ⟨s3,ys,z6,z7,z8,rfl,fm,cy⟩;have P13:=s3.sqt P1;have P23:=s3.sqt P2;have Q13:=s3.sqt Q1;have Q23:=s3.sqt Q2;refine exI rfl (exX rfl rfl P13 rfl (exX rfl rfl P23 rfl (exI rfl (exX rfl rfl Q13 rfl (exX rfl rfl Q23 rfl (wp rfl rfl ⟨(by walk_at "mul"),exI rfl (exI rfl (wp rfl rfl (wp rfl rfl ⟨(by walk_at "mul"),?_⟩)))⟩))))));refine exI rfl (exI rfl (exX rfl rfl Q13 rfl (exX rfl rfl Q23 rfl (exI rfl (exX rfl rfl P13 rfl (exX rfl rfl P23 rfl (wp rfl rfl ⟨(by walk_at "mul"),exI rfl (wp rfl rfl ⟨(by walk_at "mul"),wp rfl rfl ?_⟩)⟩)))))));refine exI rfl (exI rfl (exX rfl rfl P13 rfl (exX rfl rfl P23 rfl (exI rfl (exX rfl rfl Q13 rfl (exX rfl rfl Q23 rfl (wp rfl rfl ⟨(by walk_at "mul"),exI rfl (wp rfl rfl ⟨(by walk_at "mul"),_,_,rfl,sm.1,sm.2,λpt nt=>?_⟩)⟩)))))));have e0:wy (c.lft.1.1*c.rgt.1.2*((c.D:Int)-((0:Int)+i))+c.rgt.1.1*c.lft.1.2*((0:Int)+i)) (c.lft.1.2*c.rgt.1.2*(c.D:Int))=(wx0 hs c i).1:=by rw[ff];exact cut_pt g1 (i:Int) ⋯
  dsimp only;rw[e0];have s4:=Same.upd (H:=H3) (o:=.tup (ptV (wx0 hs c i).1)) nt;have f4:upd H3 pt (.tup (ptV (wx0 hs c i).1)) pt=some (.tup (ptV (wx0 hs c i).1)):=qf;generalize upd H3 pt (.tup (ptV (wx0 hs c i).1))=H4 at s4 f4;have md:=wxd c (n:=(hs.length:Int)-1) (k:=i) ⋯ g5 g6;have a0:atI (hs.map V.int) (c.lft.2+c.sg*((0:Int)+i))=some (V.int (hAt hs (c.a+c.sg*i))):=by rw[ff];exact wx5 (k:=c.a+c.sg*(i:Int)) md.1 (by have:=md.2;lia)
  refine exI rfl ⟨.inl ⟨rfl,_,SqL.of (s4 _ _ fm)⟩,exI rfl (exI rfl (exI rfl (exX rfl rfl ((s3.trans s4).sqt P1) rfl (exI rfl (exI rfl (wp rfl rfl ⟨(by walk_at "mul"),wp rfl rfl (exX rfl rfl ((s3.trans s4).sql hS) a0 ⟨sz2,λpc nc=>?_⟩)⟩))))))⟩;have s5:=Same.upd (H:=H4) (o:=.tup [.ref pt,.int (hAt hs (c.a+c.sg*i))]) nc;refine⟨pm,wp rfl rfl ⟨s5 _ _ (s4 _ _ fm),?_,?_⟩⟩
  .rw[cy.1,ag,aG];lia
  .have s35:=s4.trans s5;have st:∀b o,(∀xs,o≠.lst xs)->upd H4 pc (.tup [.ref pt,.int (hAt hs (c.a+c.sg*i))]) b=some o->upd (upd H4 pc (.tup [.ref pt,.int (hAt hs (c.a+c.sg*i))])) pm (.lst (ys++[.ref pc])) b=some o:=λb o no e=>by
    rw[q8]
    .exact e
    .intro z;rw[z,s5 _ _ (s4 _ _ fm)]at e;exact no _ (aq e).symm
   refine⟨Same.upd2 (s3.trans s35) nm,_,_,_,_,rfl,qf,?_⟩;rw[bL,aW];refine CosV.snoc ((cy.same s35).keep st) ?_;refine CoR.keep (H:=upd H4 pc (.tup [.ref pt,.int (hAt hs (c.a+c.sg*i))])) ⟨pc,pt,rfl,qf,s5 _ _ f4⟩ st
 .rintro σ H3 ⟨s3,ys,z6,z7,z8,rfl,fm,cy⟩;refine exI rfl (k pm ys H3 nm s3 fm ?_);rw[xxf];exact cy
theorem Z7:∀ {cs:List Cell},jw n M cs->∀i c,cs[i]?=some c->(vx cs)[i]?=some c.lft/\(vx cs)[i+1]?=some c.rgt
 |[],h,_,_,_=>h.elim
 |[c],_,0,x,e=>by rw[<-aq e];exact⟨rfl,rfl⟩
 |[c],_,i+1,x,e=>by cases e
 |c::d::r,h,0,x,e=>by rw[<-aq e];refine⟨rfl,?_⟩;have:=(Z7 h.2.2 0 d rfl).1;show(vx (d::r))[0]?=some c.rgt;rw[this,h.2.1]
 |c::d::r,h,i+1,x,e=>Z7 (cs:=d::r) h.2.2 i x e
theorem wk4 (ok:wj hs){M:Int}{cs:List Cell}(h:jw ((hs.length:Int)-1) M cs){d:Cell}(g:cs.getLast?=some d):vx (vm hs cs)=(cs.map λc=>(c.cut.map (Cell.up hs)).map Cell.lft).flatten++[mapc hs d.rgt]:=by
 have b:=Zk ok h;rw[W9 (vt b.1)];congr 1
 .unfold vm;rw[List.map_flatten,ba];rfl
 .have e:=b.2.2;rw[g]at e;cases g2:(vm hs cs).getLast? with
  |none=>rw[g2]at e;cases e
  |some x =>
   rw[g2]at e;have e':x.rgt=mapc hs d.rgt:=aq e;show[x.rgt]=_;rw[e']
theorem xzs (h:ys[ys.length-1]?=some v):atI ys (-1)=some v:=by
 have hz:ys≠[]:=by rintro rfl;cases h
 have e1:=(dB hz).symm;have e2:ys.getLast hz=v:=by have hl:=List.length_pos_iff.mpr hz;rw[fT];rw[aa ⋯]at h;exact aq h
 rw[e1,e2];exact Wq _ _
theorem wu7 {a:Aj}{xs:List V}(f:H a=some (.lst xs)):∀b o,(∀zs,o≠.lst zs)->H b=some o->upd H a (.lst ys) b=some o:=λb o no e=>by
 rw[q8]
 .exact e
 .intro z;rw[z,f]at e;exact no _ (aq e).symm
def qj7 (K:Aa):Sp:=λvs H Q _=>∃(ph:Aj) (hs:List Int) (m:Int),vs=[.ref ph,.int m]/\SqL K H ph (hs.map V.int)/\wj hs/\1<=m/\m<=12/\(vx (xj hs (m.toNat-1))).length<=4000/\∀p us H',H p=none->Same H H'->H' p=some (.lst us)->CosV H' us (vx (xj hs (m.toNat-1)))->Q (.ref p) H'
include T in
theorem xwk (F:Fun K "_law_laid" "_law_laid" zbo f fd)(ze8:Cal P w K mg base "_law_between" 3 (wxy K)):FK P w K mg base 4 f fd ["_law_heights_here","_law_many"] (qj7 K):=by
 have sc:=qyt;refine F.okX sc (λvs H Q E h=>by obtain⟨_,_,_,rfl,_⟩:=h;rfl) λ_ _ _ s H vs Q E hr h=>?_;obtain⟨ph,hs,m,rfl,hS,ok,m1,m2,short,k⟩:=h;have o1:=ok.1;have o2:=ok.2.1;have big:(1000000:Nat)<sizeLine:=by decide
 have hlen:(hs.map V.int).length=hs.length:=ag _;refine⟨_,(qj (Qw (i:=2) (M:=[0]) sc.nd rfl (by walk_at "loc") rfl rfl (by walk_at "cap") (by walk_at "has") (by walk_at "cix") rfl (by decide +kernel) rfl (show List.Nodup (["_law_k","_law_heights_here"]:List Str) by decide +kernel) (xh rfl T.range_ (qw (wn xf rfl T.len_ bU (qw (pv 0) qv)) qv)) (λ_ _ _ _ _=>(vj (qw (vj (qw (pv 0) (qw qx qv))) (qw (wv (jh (K:=K) rfl) (pv 1) (pv 0) (λ_ _=>rfl)) qv)))))
   (qj (jx bh rfl (xh rfl T.range_ (qw (wz zm (pv 1) qx) qv)) (xy (i:=3)) (qj (wg (i:=4) (vf qv))
   (qj (jx bh rfl (xh rfl T.range_ (qw (wz zm (wn xf rfl T.len_ bU (qw (pv 2) qv)) qx) qv)) (xy (i:=5)) (qh (qyf (i:=4) sc.nd rfl (Or.inl rfl) (wu ze8 (hr.mono ⋯) rfl qt (qw (wv x8 (pv 2) (pv 5) (λ_ _=>rfl)) (qw (wv x8 (pv 2) (wz x9 (pv 5) qx) (λ_ _=>rfl)) (qw (pv 0) qv)))) xwq)))
   (qh (wg (i:=2) (wz wur (pv 4) (vf (qw (vj (qw (wv wb (wv x8 (pv 2) (Qn jm qx) (λ_ _=>rfl)) qx (λ_ _=>rfl)) (qw (wv x8 (pv 0) (wv wb (wv x8 (pv 2) (Qn jm qx) (λ_ _=>rfl)) qx (λ_ _=>rfl)) (λ_ _=>rfl)) qv))) qv))))))))
   (qh (xw (pv 2))))),?_⟩
 refine exI rfl ⟨_,_,rfl,.inl hS,exI rfl ⟨⋯,⋯,?_⟩⟩;rw[hlen,show((hs.length:Int)).toNat=hs.length by lia];refine qqj (λi v H'=>CoR H' v (((i:Int),(1:Int)),hAt hs i)) (λi v H1 H2 g st=>g.keep st) ⋯ (λi H' R hi s' hR'=>?_) λpl us H2 npl s2 f2 lu g2=>?_
 .refine exI rfl ⟨sz2,λpa na=>?_⟩;have s3:=s'.trans (Same.upd (o:=.tup [.int ((0:Int)+i),.int 1]) na);refine exI rfl (exI rfl (exX rfl rfl (s3.sql hS) (wx5 ⋯ ⋯) ⟨sz2,λpb nb=>?_⟩));refine hR' (.ref pb) _ ((Same.upd na).trans (Same.upd nb)) ?_;rw[ff]at *;exact⟨pb,pa,rfl,qf,(Same.upd nb) _ _ qf⟩
 have C0:CosV H2 us (vx (xj hs 0)):=by
  show CosV H2 us (vx (k8 hs));rw[cors0 ok];refine⟨by rw[lu,ag,aG],λi v c e1 e2=>?_⟩;have hi:i<hs.length:=by have:=(ak.mp e1).1;lia
  rw[aA,bp hi]at e2;rw[<-aq e2];exact g2 i v e1
 refine exI rfl (wp rfl rfl (exI rfl ⟨⋯,⋯,?_⟩));refine v6 (λt σ H'=>Same H H'/\∃(pl:Aj) (us:List V) (z3 z4 z5:Option V),σ=[some (.ref ph),some (.int m),some (.ref pl),z3,z4,z5]/\H pl=none/\H' pl=some (.lst us)/\CosV H' us (vx (xj hs t)))
  ⟨s2,pl,us,_,_,_,rfl,npl,f2,C0⟩ ?_ ?_
 .rintro t σ H3 ht ⟨s3,pl,us,z3,z4,z5,rfl,nl,fl,Cl⟩;have ch:=vh ok t;have hM:=pow24 t ⋯;have lc:=Wg (vt ch);have lm:=wyz ok (s:=t) (t:=m.toNat-1) ⋯;have lu:us.length=(xj hs t).length+1:=by rw[Cl.1,lc]
  generalize hcs:xj hs t=cs at ch lc lm Cl lu;refine⟨sz0,λpm nm=>?_⟩;have nm0:=j5 s3 nm;have dm:pl≠pm:=wx fl nm;refine exI rfl ⟨_,_,rfl,.inl (SqL.of ((Same.upd nm) _ _ fl)),wp rfl rfl (exI rfl ⟨⋯,⋯,?_⟩)⟩;rw[show((us.length:Int)-1).toNat=cs.length by lia];refine v6 (λi σ H'=>Same H H'/\∃(ys:List V) (z5:Option V),σ=[some (.ref ph),some (.int m),some (.ref pl),some (.int ((0:Int)+t)),some (.ref pm),z5]/\H' pl=some (.lst us)/\CosV H' us (vx cs)/\H' pm=some (.lst ys)/\CosV H' ys ((cs.take i).map λc=>(c.cut.map (Cell.up hs)).map Cell.lft).flatten/\ys.length<=25*i)
   ⟨s3.trans (Same.upd nm),[],exI rfl ⟨(Same.upd nm) _ _ fl,Cl.same (Same.upd nm),qf,⟨rfl,λi v c e=>by cases e⟩,aT _⟩⟩ ?_ ?_
  .rintro i σ H4 hi ⟨s4,ys,z5,rfl,fl4,Cl4,fm4,cy,ly⟩;have ec:cs[i]?=some cs[i]:=aa hi;obtain⟨e1,e2⟩:=Z7 ch i _ ec;have u1:us[i]?=some us[i]:=aa ⋯;have u2:us[i+1]?=some us[i+1]:=aa ⋯;have gd:=xn ch _ (aC ec);have a1:atI us ((0:Int)+i)=some us[i]:=by rw[ff];exact vg u1
   have a2:atI us ((0:Int)+i+1)=some us[i+1]:=by rw[show(0:Int)+i+1=((i+1:Nat):Int) by lia];exact vg u2
   refine exI rfl (exI rfl (exI rfl (exX rfl rfl (SqL.of fl4) a1 (exI rfl (exI rfl (wp rfl rfl (exX rfl rfl (SqL.of fl4) a2 (exI rfl ⟨_,_,ph,hs,cs[i],exI rfl ⟨Cl4.2 i _ _ u1 e1,Cl4.2 (i+1) _ _ u2 e2,s4.sql hS,ok,gd,hM,λp5 zs H5 n5 s5 f5 cz=>?_⟩⟩))))))));have lz:zs.length<=25:=by rw[cz.1,ag,ag];unfold Cell.cut;rw[ag,aG];have:=D_le (c:=cs[i]) (n:=(hs.length:Int)-1) ⋯ gd.2.2.2.2.1 gd.2.2.2.2.2;lia
   have fm5:=s5 _ _ fm4;have fl5:=s5 _ _ fl4;refine⟨pm,p5,ys,zs,rfl,rfl,fm5,f5,⋯,?_⟩;have kl:=wu7 (ys:=ys++zs) fm5;refine⟨Same.upd2 (s4.trans s5) nm0,ys++zs,exI rfl ⟨?_,(Cl4.same s5).keep kl,qf,?_,by rw[am];lia⟩⟩
   .rw[q8 dm];exact fl5
   .have e:(cs.take (i+1)).map (λc=>(c.cut.map (Cell.up hs)).map Cell.lft)=(cs.take i).map (λc=>(c.cut.map (Cell.up hs)).map Cell.lft)++[(cs[i].cut.map (Cell.up hs)).map Cell.lft]:=by rw[gW,ec,aW];rfl
    rw[e,gK];refine CosV.app ((cy.same s5).keep kl) ?_;simpa using cz.keep kl
  .rintro σ H4 ⟨s4,ys,z5,rfl,fl4,Cl4,fm4,cy,ly⟩;rw[bn]at cy;obtain⟨d,hd⟩:∃d,cs.getLast?=some d:=by
    cases g:cs.getLast? with
    |none=>exact absurd (fk.mp g) (vt ch)
    |some d=>exact⟨d,rfl⟩
   have cpos:=List.length_pos_iff.mpr (vt ch);have ed:cs[cs.length-1]?=some d:=by rw[<-dU];exact hd
   have el:=(Z7 ch _ _ ed).2;rw[show cs.length-1+1=us.length-1 by lia]at el;have ul:us[us.length-1]?=some us[us.length-1]:=aa ⋯;obtain⟨qc,qd,ec,fc,fd'⟩:=Cl4.2 _ _ _ ul el;rw[ec]at ul;have at1:atI us (-1)=some (.ref qc):=xzs ul;have gd:=xn ch _ (aC ed);obtain⟨b1,b2⟩:=gd.2.2.2.2.2;have ah:atI (hs.map V.int) d.rgt.2=some (V.int (hAt hs d.rgt.2)):=wx5 b1 (by show d.b<_;lia);refine exI rfl (exI rfl (exI rfl (exX rfl rfl (SqL.of fl4) at1 (exX rfl rfl (SqT.of fc) rfl (exI rfl (exI rfl (exI rfl (exX rfl rfl (SqL.of fl4) at1 (exX rfl rfl (SqT.of fc) rfl (exX rfl rfl (s4.sql hS) ah ⟨sz2,λp5 n5=>?_⟩))))))))));have s5:=Same.upd (o:=.tup [.ref qd,.int (hAt hs d.rgt.2)]) n5;have f5:upd H4 p5 (.tup [.ref qd,.int (hAt hs d.rgt.2)]) p5=some (.tup [.ref qd,.int (hAt hs d.rgt.2)]):=qf;generalize upd H4 p5 (.tup [.ref qd,.int (hAt hs d.rgt.2)])=H5 at s5 f5;refine⟨sz1,λp6 n6=>?_⟩;have s6:=Same.upd (H:=H5) (o:=.lst [.ref p5]) n6;refine⟨pm,p6,_,_,rfl,rfl,s6 _ _ (s5 _ _ fm4),qf,by simp only[aQ,eJ];lia,λp7 n7=>?_⟩;have s7:=Same.upd (H:=upd H5 p6 (.lst [.ref p5])) (o:=.lst (ys++[.ref p5])) n7;have t7:=s5.trans (s6.trans s7);refine⟨s4.trans t7,p7,_,_,_,_,rfl,j5 (s4.trans (s5.trans s6)) n7,qf,?_⟩;show CosV _ _ (vx (vm hs (xj hs t)));rw[hcs,wk4 ok ch hd];exact(cy.same t7).app (.one ⟨p5,qd,rfl,(s6.trans s7) _ _ f5,t7 _ _ fd'⟩)
 .rintro σ H3 ⟨s3,pl,us,z3,z4,z5,rfl,nl,fl,Cl⟩;rw[show(m-1).toNat=m.toNat-1 by lia]at Cl;exact exI rfl (k pl us H3 nl s3 fl Cl)
def itL (hs:List Int)(B:Int):Nat->Int->Int
 |0,x=>x
 |t+1,x=>vd hs (itL hs B t x) B
theorem Wj {parts part j:Int}(hB:1<=B)(hp:1<=parts)(p0:0<=part)(p1:part<=parts)(j0:0<=j)(j1:j<(hs.length:Int)-1)(e:parts*y=(j*parts+part)*B) :
  parts*vd hs y B=(hAt hs j*parts+(hAt hs (j+1)-hAt hs j)*part)*B:=by
 have q0:=bg p0 (show 0<=B by lia);have q1:=au p1 (show 0<=B by lia);have h1:j*B<=y:=by refine cf (a:=parts) ?_ ⋯;rw[e,show(j*parts+part)*B=parts*(j*B)+part*B by grind];lia
 have h2:y<=(j+1)*B:=by refine cf (a:=parts) ?_ ⋯;rw[e,show(j*parts+part)*B=parts*(j*B)+part*B by grind,show parts*((j+1)*B)=parts*(j*B)+parts*B by grind];lia
 rw[Z2 j0 j1 hB h1 h2];generalize hAt hs j=u;generalize hAt hs (j+1)=v;grind
theorem wu6 (ok:wj hs){B y parts a:Int}(hB:1<=B)(hp:1<=parts)(a0:0<=a)(a1:a<=(hs.length:Int)-1)(e:parts*y=a*parts*B):parts*vd hs y B=hAt hs a*parts*B:=by
 have o1:=ok.1;rcases(by lia:a<(hs.length:Int)-1\/a=(hs.length:Int)-1) with z|z
 .have:=Wj (hs:=hs) hB hp (show(0:Int)<=0 by lia) ⋯ a0 z (by rw[e];grind);rw[this];grind
 .have:=Wj (hs:=hs) (j:=a-1) hB hp (show 0<=parts by lia) (cB _) ⋯ ⋯ (by rw[e];grind);rw[this,show a-1+1=a by lia];grind
theorem cellV (ok:wj hs):∀(t:Nat) (c:Cell),c∈xj hs t->∀(B parts part top:Int),1<=B->1<=parts->0<=part->part<=parts->c.S*parts*top=(c.u*parts+part)*B->parts*itL hs B (t+1) top=(c.a*parts+(c.b-c.a)*part)*B
 |0,c,hc,B,parts,part,top,hB,hp,p0,p1,e=>by have o1:=ok.1;obtain⟨k,hk,rfl⟩:=aJ.mp (show c∈k8 hs from hc);have hk':=ay.mp hk;have e':(1:Int)*parts*top=((k:Int)*parts+part)*B:=e;show parts*vd hs top B=(hAt hs k*parts+(hAt hs (k+1)-hAt hs k)*part)*B;exact Wj hB hp p0 p1 ⋯ ⋯ (by rw[<-e',bj])
 |t+1,c',hc,B,parts,part,top,hB,hp,p0,p1,e=>by
  have o1:=ok.1;have hc2:c'∈((xj hs t).map λc=>c.cut.map (Cell.up hs)).flatten:=hc;obtain⟨l,hl,hcl⟩:=gn.mp hc2;obtain⟨c,hcc,rfl⟩:=aJ.mp hl;obtain⟨d,hd,rfl⟩:=aJ.mp hcl;obtain⟨k,hk,rfl⟩:=aJ.mp hd;have hk':=ay.mp hk;obtain⟨_,_,_,_,g5,g6⟩:=xn (vh ok t) c hcc;have hD:=qkv c;have sm:=qk4 c;have d1:=wxd c (n:=(hs.length:Int)-1) (k:=k) ⋯ g5 g6;have d2:=wxd c (n:=(hs.length:Int)-1) (k:=k+1) ⋯ g5 g6;have sgc:c.sg=1\/c.sg=-1\/c.sg=0:=by
   unfold Cell.sg;split
   .exact .inl rfl
   .split
    .exact .inr (.inl rfl)
    .exact .inr (.inr rfl)
  have e':c.S*(c.D:Int)*parts*top=((c.u*(c.D:Int)+k)*parts+part)*B:=e;have b1:=bg (show(0:Int)<=k by lia) (show 0<=parts by lia);have b2:((k:Int)+1)*parts<=(c.D:Int)*parts:=au ⋯ ⋯;have b3:1*1<=(c.D:Int)*parts:=bw ⋯ hp ⋯ ⋯;have b4:((k:Int)+1)*parts=k*parts+parts:=by grind
  have ih:=cellV ok t c hcc B ((c.D:Int)*parts) (k*parts+part) top hB ⋯ ⋯ ⋯ (by grind);have hy:parts*itL hs B (t+1) top=((c.a+c.sg*k)*parts+c.sg*part)*B:=by
   refine bQ (a:=(c.D:Int)) ⋯ ?_;have:c.b-c.a=c.sg*(c.D:Int):=by lia
   rw[this]at ih;grind
  show parts*vd hs (itL hs B (t+1) top) B=(hAt hs (c.a+c.sg*k)*parts+(hAt hs (c.a+c.sg*(k+1))-hAt hs (c.a+c.sg*k))*part)*B;push_cast at d2;rcases sgc with z|z|z
  .rw[z]at hy d1 d2 ⊢;have:=Wj (hs:=hs) (j:=c.a+1*k) hB hp p0 p1 ⋯ ⋯ (by rw[hy];grind);rw[this,show c.a+1*(k:Int)+1=c.a+1*((k:Int)+1) by lia]
  .rw[z]at hy d1 d2 ⊢;have:=Wj (hs:=hs) (j:=c.a+-1*((k:Int)+1)) (part:=parts-part) hB hp ⋯ ⋯ ⋯ ⋯ (by rw[hy];grind);rw[this,show c.a+-1*((k:Int)+1)+1=c.a+-1*(k:Int) by lia];grind
  .rw[z]at hy d1 d2 ⊢;have:=wu6 ok (a:=c.a+0*k) hB hp ⋯ ⋯ (by rw[hy];grind);rw[this,show c.a+0*((k:Int)+1)=c.a+0*(k:Int) by lia];grind
theorem wk8 (hS:1<=c.S)(parts part:Int):c.S*parts*(c.lft.1.1*c.rgt.1.2*parts+(c.rgt.1.1*c.lft.1.2-c.lft.1.1*c.rgt.1.2)*part)=(c.u*parts+part)*(c.lft.1.2*c.rgt.1.2*parts):=by have x1:=zd (t:=c.u) hS;have x2:=zd (t:=c.u+1) hS;show c.S*parts*((wy c.u c.S).1*(wy (c.u+1) c.S).2*parts+((wy (c.u+1) c.S).1*(wy c.u c.S).2-(wy c.u c.S).1*(wy (c.u+1) c.S).2)*part)=(c.u*parts+part)*((wy c.u c.S).2*(wy (c.u+1) c.S).2*parts);generalize (wy c.u c.S).1=t1 at x1 ⊢;generalize (wy c.u c.S).2=b1 at x1 ⊢;generalize (wy (c.u+1) c.S).1=t2 at x2 ⊢;generalize (wy (c.u+1) c.S).2=b2 at x2 ⊢;grind
theorem xvj {parts part top:Int}(h:Z8 ((hs.length:Int)-1) M c)(hB:1<=B)(hp:1<=parts)(p0:0<=part)(p1:part<=parts)(e:c.S*parts*top=(c.u*parts+part)*B):zn hs top B:=by
 obtain⟨hS,_,u0,u1,_,_⟩:=h;have q1:1<=c.S*parts:=by have:=bw hS hp ⋯ ⋯;simpa using this
 have q2:=bg u0 (show 0<=parts by lia);constructor
 .refine cf (a:=c.S*parts) ?_ ⋯;rw[e,dE];exact bg ⋯ ⋯
 .refine cf (a:=c.S*parts) ?_ ⋯;rw[e,show c.S*parts*(((hs.length:Int)-1)*B)=((hs.length:Int)-1)*c.S*parts*B by grind];refine au ?_ ⋯;have:=au u1 (show 0<=parts by lia);have e2:(c.u+1)*parts=c.u*parts+parts:=by grind
  lia
theorem wkg (n:Nat)(g:Nat->Int):vq (n+1) g=g 0+vq n λk=>g (k+1):=by unfold vq zp;rw[List.range_succ_eq_map,aD,bW,ba];rfl
theorem qv3 (n:Nat)(g:Nat->Int):vq (n+1) g=vq n g+g n:=by unfold vq;rw[W8,eK];simp
theorem wv7 (f:Nat->Int):∀d:Nat,(vq d λk=>f (d-1-k))=vq d f
 |0=>rfl
 |d+1=>by rw[wkg,qv3,<-wv7 f d,Int.add_comm];congr 1;refine kg λk hk=>?_;show f (d-(k+1))=f (d-1-k);rw[Nat.add_comm k 1,Nat.sub_add_eq]
def cvS (hs:List Int)(s:Nat)(a b:Int):Int:=vq (b-a).natAbs λj:Nat=>yk hs s (jj a b+j)
theorem xw6 (hs:List Int)(s:Nat)(a b:Int):cvS hs s a b=cvS hs s b a:=by unfold cvS;rw[show(b-a).natAbs=(a-b).natAbs by lia,show jj a b=jj b a by unfold jj;split <;> split <;> lia]
theorem wwn (hs:List Int)(s:Nat)(k:Int):yk hs (s+1) k=cvS hs s (hAt hs k) (hAt hs (k+1)):=by show((jp hs k).map (yk hs s)).sum=_;unfold jp cvS vq zp;rw[ba,show(hiH hs k-loH hs k).toNat=(hAt hs (k+1)-hAt hs k).natAbs by unfold hiH loH Qu jj;split <;> split <;> lia];rfl
theorem cut_cv (hs:List Int)(s:Nat)(c:Cell):((c.cut.map (Cell.up hs)).map λc=>cvS hs s c.a c.b).sum=cvS hs (s+1) c.a c.b:=by
 unfold Cell.cut;rw[ba,ba];show(zp c.D λk:Nat=>cvS hs s (hAt hs (c.a+c.sg*k)) (hAt hs (c.a+c.sg*(k+1)))).sum=_;rcases gk c.a c.b with z|z|z
 .have e1:c.sg=1:=by unfold Cell.sg;rw[aw z]
  have e2:c.D=(c.b-c.a).natAbs:=by unfold Cell.D;rw[ar ⋯]
  have e3:jj c.a c.b=c.a:=by unfold jj;rw[ar ⋯]
  unfold cvS;rw[e1,e2,e3];show vq _ _=vq _ _;refine kg λk _=>?_;have:=wwn hs s (c.a+k);unfold cvS at this;rw[this,bj,bj,je]
 .have e2:c.D=1:=by unfold Cell.D;rw[aw ⋯]
  have e1:c.sg=0:=by unfold Cell.sg;rw[ar ⋯,ar ⋯]
  rw[e2,e1];have h0:∀(n:Nat) (x y:Int),x=y->cvS hs n x y=0:=λn x y e=>by unfold cvS;rw[show(y-x).natAbs=0 by lia];rfl
  rw[h0 _ _ _ z];show cvS hs s (hAt hs (c.a+0*((0:Nat):Int))) (hAt hs (c.a+0*(((0:Nat):Int)+1)))+0=0;rw[h0 _ _ _ (by rw[gN,gN])];rfl
 .have e1:c.sg=-1:=by unfold Cell.sg;rw[ar ⋯,aw z]
  have e2:c.D=(c.b-c.a).natAbs:=by unfold Cell.D;rw[ar ⋯]
  have e3:jj c.a c.b=c.b:=by unfold jj;rw[aw z]
  have e4:cvS hs (s+1) c.a c.b=vq (c.b-c.a).natAbs λj:Nat=>yk hs (s+1) (c.b+j):=by unfold cvS;rw[e3]
  rw[e1,e2,e4,<-wv7];show vq _ _=vq _ _;refine kg λk hk=>?_;rw[wwn,xw6];congr 2 <;> lia
theorem wzh (hs:List Int)(s:Nat):∀cs:List Cell,((vm hs cs).map λc=>cvS hs s c.a c.b).sum=(cs.map λc=>cvS hs (s+1) c.a c.b).sum
 |[]=>rfl
 |c::cs=>by
  have e:vm hs (c::cs)=c.cut.map (Cell.up hs)++vm hs cs:=by unfold vm;rw[aD,cM]
  rw[e,aW,eK,wzh hs s cs,cut_cv,aD,bW]
theorem T_cv (hs:List Int):∀(t s:Nat),((xj hs t).map λc=>cvS hs s c.a c.b).sum=crS hs (s+t+1)
 |0,s=>by show((k8 hs).map λc=>cvS hs s c.a c.b).sum=_;unfold k8 crS zp;rw[ba];congr 1;exact da λk _=>(wwn hs s k).symm
 |t+1,s=>by show((vm hs (xj hs t)).map λc=>cvS hs s c.a c.b).sum=_;rw[wzh,T_cv hs t (s+1)];congr 1;lia
theorem xvp (hs:List Int)(a b:Int):cvS hs 0 a b=((b-a).natAbs:Int):=by
 unfold cvS;generalize (b-a).natAbs=n
 induction n with
 |zero=>rfl
 |succ n ih=>rw[qv3,ih];show(n:Int)+1=_;lia
theorem qkb (hs:List Int):∀cs:List Cell,((vm hs cs).length:Int)<=(cs.map λc=>cvS hs 0 c.a c.b).sum+cs.length
 |[]=>cB _
 |c::cs=>by
  have ih:=qkb hs cs;have e:vm hs (c::cs)=c.cut.map (Cell.up hs)++vm hs cs:=by unfold vm;rw[aD,cM]
  have e2:(c.cut.map (Cell.up hs)).length=c.D:=by unfold Cell.cut;rw[ag,ag,aG]
  have e3:(c.D:Int)<=((c.b-c.a).natAbs:Int)+1:=by unfold Cell.D;split <;> lia
  rw[e,am,e2,aD,bW,aQ,xvp];lia
theorem qxf (ok:wj hs){x:Int}(h:∀i:Nat,1<=i->(i:Int)<x->crS hs (i+1)<=300):∀t:Nat,(t:Int)<x->((xj hs t).length:Int)<=24+(if t=0 then 0 else 576+300*((t:Int)-1))
 |0,_=>by have:=ok.2.1;show(((k8 hs).length:Nat):Int)<=_;unfold k8;rw[ag,aG,aw rfl];lia
 |t+1,ht=>by
  have ih:=qxf ok h t ⋯;have n:=qkb hs (xj hs t);rw[T_cv,cx]at n;have e:xj hs (t+1)=vm hs (xj hs t):=rfl;rw[e,ar ⋯];rcases(by lia:t=0\/1<=t) with z|z
  .subst z;have:=xwt ok;rw[aw rfl]at ih;simp only[cx]at n;lia
  .have:=h t z ⋯;rw[ar ⋯]at ih;lia
theorem wyc (ok:wj hs){x:Int}(x1:1<=x)(x2:x<=12)(h:∀i:Nat,1<=i->(i:Int)<x->crS hs (i+1)<=300):(vx (xj hs (x.toNat-1))).length<=4000:=by rw[Wg (vt (vh ok _))];have:=qxf ok h (x.toNat-1) ⋯;split at this <;> lia
def InC (c:Cell)(P:Int×Int):Prop:=c.u*P.2<=c.S*P.1/\c.S*P.1<=(c.u+1)*P.2
def Cell.o1 (c:Cell):Int:=c.S*c.a-c.u
def Cell.o2 (c:Cell):Int:=c.S*c.b-(c.u+1)
theorem xq4 (hs:List Int)(B x:Int):∀n:Nat,itL hs B n x=trT hs x B n
 |0=>rfl
 |n+1=>by show vd hs (itL hs B n x) B=vd hs (trT hs x B n) B;rw[xq4 hs B x n]
theorem fixC (ok:wj hs){t:Nat}{c:Cell}(hc:c∈xj hs t){p q:Int}(hb:1<=q)(hi:InC c (p,q)):trT hs p q (t+1)=p↔(q-(c.S*p-c.u*q))*c.o1+(c.S*p-c.u*q)*c.o2=0:=by
 have hS:1<=c.S:=(xn (vh ok t) c hc).1;have i1:c.u*q<=c.S*p:=hi.1;have i2:c.S*p<=(c.u+1)*q:=hi.2;rw[bF,bj]at i2;have v:=cellV ok t c hc q q (c.S*p-c.u*q) p hb hb ⋯ ⋯ (by grind);rw[xq4]at v;have e:trT hs p q (t+1)=c.a*q+(c.b-c.a)*(c.S*p-c.u*q):=bQ (a:=q) ⋯ (by rw[v,bC]);rw[e];have id:(q-(c.S*p-c.u*q))*c.o1+(c.S*p-c.u*q)*c.o2=c.S*(c.a*q+(c.b-c.a)*(c.S*p-c.u*q)-p):=by unfold Cell.o1 Cell.o2;grind
 rw[id];constructor
 .intro z;rw[z,Int.sub_self,dE]
 .intro z;rcases dX.mp z with y|y <;> lia
theorem inC_on {p q:Int}(h:Z8 ((hs.length:Int)-1) M c)(hb:1<=q)(hi:InC c (p,q)):zn hs p q:=by have i1:c.u*q<=c.S*p:=hi.1;have i2:c.S*p<=(c.u+1)*q:=hi.2;rw[bF,bj]at i2;exact xvj (part:=c.S*p-c.u*q) h hb hb ⋯ ⋯ (by grind)
def Cell.Wh (c:Cell):Prop:=c.o1=0/\c.o2=0
theorem Z4 (hS:1<=c.S)(h:c.Wh):c.S=1/\c.u=c.a/\c.b=c.a+1:=by
 obtain⟨h1,h2⟩:=h;unfold Cell.o1 at h1;unfold Cell.o2 at h2;have e:c.S*(c.b-c.a)=1:=by rw[fU];lia
 have d1:1<=c.b-c.a:=by
  rcases bD 0 (c.b-c.a) with z|z
  .lia
  .have:=dO (show 0<=c.S by lia) z;lia
 have:=aV d1 (show 0<=c.S by lia);have s1:c.S=1:=by lia
 rw[s1]at h1 e;lia
theorem wwt (hS:1<=c.S):(c.lft.1=(c.lft.2,1)/\c.rgt.1=(c.rgt.2,1))↔c.Wh:=by
 have one:∀u a:Int,wy u c.S=(a,1)↔c.S*a-u=0:=λu a=>by
  constructor
  .intro e;have:=zd (t:=u) hS;rw[e]at this;have this:a*c.S=u*1:=this;rw[bC c.S];lia
  .intro e;have:u=a*c.S:=by rw[bC];lia
   have e2:=ut (t:=a) (b:=1) (c:=c.S) ⋯ hS;rw[bj]at e2;rw[this,e2,qj2]
 exact and_congr (one c.u c.a) (one (c.u+1) c.b)
theorem wv2 {D:Nat}{e:Int}(hb:1<=b)(hD:1<=D)(e0:0<=e)(e1:e<=D*b):∃k:Nat,k<D/\(k:Int)*b<=e/\e<=((k:Int)+1)*b:=by
 rcases bD e (D*b) with z|z
 .have h1:=Int.mul_ediv_add_emod e b;have h2:=cE e (show b≠0 by lia);have h3:=bV e (show 0<b by lia);have h4:=iP e0 (show 0<=b by lia);have h5:e/b<D:=by
   rcases bD (e/b) D with y|y
   .exact y
   .have:=au y (show 0<=b by lia);rw[bC (e/b)]at this;lia
  refine⟨(e/b).toNat,⋯,?_,?_⟩
  .rw[bY h4,bC];lia
  .rw[bY h4,bF,bj,bC];lia
 .refine⟨D-1,⋯,?_,?_⟩
  .have:=au (show((D-1:Nat):Int)<=D by lia) (show 0<=b by lia);lia
  .rw[show((D-1:Nat):Int)+1=D by lia];exact e1
theorem wxf (ok:wj hs){p q:Int}(hb:1<=q)(on:zn hs p q):∀t:Nat,∃c∈xj hs t,InC c (p,q)
 |0=>by
  have o1:=ok.1;obtain⟨k,hk,k1,k2⟩:=wv2 (D:=hs.length-1) hb ⋯ on.1 (by have:=on.2;rwa [show((hs.length-1:Nat):Int)=(hs.length:Int)-1 by lia]);refine⟨⟨k,1,hAt hs k,hAt hs (k+1)⟩,aJ.mpr ⟨k,ay.mpr hk,rfl⟩,?_,?_⟩
  .show(k:Int)*q<=1*p;lia
  .show 1*p<=((k:Int)+1)*q;lia
 |t+1=>by
  obtain⟨c,hc,i1,i2⟩:=wxf ok hb on t;have i1:c.u*q<=c.S*p:=i1;have i2:c.S*p<=(c.u+1)*q:=i2;rw[bF,bj]at i2;have hD:=qkv c;have m1:=bg (show(0:Int)<=c.D by lia) (show 0<=c.S*p-c.u*q by lia);have m2:=aV (show c.S*p-c.u*q<=q by lia) (show(0:Int)<=c.D by lia);obtain⟨k,hk,k1,k2⟩:=wv2 (D:=c.D) (e:=(c.D:Int)*(c.S*p-c.u*q)) hb hD m1 m2;refine⟨⟨c.u*c.D+k,c.S*c.D,hAt hs (c.a+c.sg*k),hAt hs (c.a+c.sg*(k+1))⟩,gn.mpr ⟨c.cut.map (Cell.up hs),aJ.mpr ⟨c,hc,rfl⟩,aJ.mpr ⟨_,aJ.mpr ⟨k,ay.mpr hk,rfl⟩,rfl⟩⟩,?_,?_⟩
  .show(c.u*c.D+k)*q<=c.S*c.D*p;rw[show c.S*(c.D:Int)*p=(c.D:Int)*(c.S*p-c.u*q)+c.u*c.D*q by grind,bF];lia
  .show c.S*c.D*p<=(c.u*c.D+k+1)*q;rw[show c.S*(c.D:Int)*p=(c.D:Int)*(c.S*p-c.u*q)+c.u*c.D*q by grind,je,bF];lia
theorem wq8:∀ {cs:List Cell},jw n M cs->cs.Pairwise λc d=>(c.u+1)*d.S<=d.u*c.S
 |[],h=>h.elim
 |[c],_=>b7 _ _
 |c::d::r,h=>by
  have ih:=wq8 h.2.2;refine dM.mpr ⟨λe he=>?_,ih⟩;have gd:=xn h.2.2 d (by simp);have e1:(c.u+1)*d.S=d.u*c.S:=(y9 h.1.1 gd.1).mpr (cr Prod.fst h.2.1);rcases aM.mp he with rfl|hr
  .lia
  .have e2:=(dM.mp ih).1 e hr;have ge:=xn h.2.2 e (bI _ hr);refine dN (a:=d.S) ?_ (by have:=gd.1;lia);have e3:=au e2 (show 0<=c.S by have:=h.1.1;lia);have e4:=bg (show 0<=e.S by have:=ge.1;lia) (show 0<=c.S by have:=h.1.1;lia);rw[show(c.u+1)*e.S*d.S=(c.u+1)*d.S*e.S by grind,e1,show e.u*c.S*d.S=e.u*d.S*c.S by grind];rw[show(d.u+1)*e.S*c.S=d.u*c.S*e.S+e.S*c.S by grind]at e3;lia
theorem inC_le {P Q:Int×Int}(hc:1<=c.S)(hd:1<=d.S)(hP:1<=P.2)(hQ:1<=Q.2)(h:(c.u+1)*d.S<=d.u*c.S)(i:InC c P)(j:InC d Q):P.1*Q.2<=Q.1*P.2:=by have i2:=i.2;have j1:=j.1;have cd:0<c.S*d.S:=eT ⋯ ⋯;refine cf (a:=c.S*d.S) ?_ cd;have q1:0<=Q.2*d.S:=bg ⋯ ⋯;have q2:0<=P.2*Q.2:=bg ⋯ ⋯;have q3:0<=P.2*c.S:=bg ⋯ ⋯;have a1:=au i2 q1;have a2:=au h q2;have a3:=au j1 q3;rw[show c.S*d.S*(P.1*Q.2)=c.S*P.1*(Q.2*d.S) by grind,show c.S*d.S*(Q.1*P.2)=d.S*Q.1*(P.2*c.S) by grind];rw[show(c.u+1)*P.2*(Q.2*d.S)=(c.u+1)*d.S*(P.2*Q.2) by grind]at a1;rw[show d.u*Q.2*(P.2*c.S)=d.u*c.S*(P.2*Q.2) by grind]at a3;lia
theorem xz6 (hc:1<=c.S)(h:(c.u+1)*d.S<=d.u*c.S)(wc:c.Wh)(wd:d.Wh)(hd:1<=d.S):c.a<d.a:=by obtain⟨a1,a2,a3⟩:=Z4 hc wc;obtain⟨b1,b2,b3⟩:=Z4 hd wd;rw[a1,b1]at h;lia
theorem wqx (ok:wj hs):∀(t:Nat) (c:Cell),c∈xj hs t->c.S=1->(c.b-c.a).natAbs=1->∃(x:Nat->Int) (d:Nat->Bool),x 0=c.u/\(∀i,i<t+1->Yn hs (x i) (x (i+1)) (d i))/\c.a=x (t+1)+(if y6 d (t+1)=true then 1 else 0)/\c.b=x (t+1)+(if y6 d (t+1)=true then 0 else 1)
 |0,c,hc,_,d1=>by
  obtain⟨k,hk,rfl⟩:=aJ.mp (show c∈k8 hs from hc);have hk':=ay.mp hk;have d1:(hAt hs (k+1)-hAt hs k).natAbs=1:=d1;have o1:=ok.1;show ∃(x:Nat->Int) (d:Nat->Bool),x 0=(k:Int)/\(∀i,i<0+1->Yn hs (x i) (x (i+1)) (d i))/\hAt hs k=x (0+1)+(if y6 d (0+1)=true then 1 else 0)/\hAt hs (k+1)=x (0+1)+(if y6 d (0+1)=true then 0 else 1);by_cases z:hAt hs k>hAt hs (k+1)
  .refine⟨λi=>if i=0 then k else hAt hs (k+1),λ_=>true,rfl,λi hi=>?_,?_,?_⟩
   .obtain rfl:i=0:=by lia
    exact⟨⟨by show(0:Int)<=k;lia,by show(k:Int)<_;lia⟩,by show hAt hs k=hAt hs (k+1)+1;lia,by show hAt hs (k+1)=hAt hs (k+1)+0;lia⟩
   .show hAt hs k=hAt hs (k+1)+1;lia
   .show hAt hs (k+1)=hAt hs (k+1)+0;lia
  .refine⟨λi=>if i=0 then k else hAt hs k,λ_=>false,rfl,λi hi=>?_,?_,?_⟩
   .obtain rfl:i=0:=by lia
    exact⟨⟨by show(0:Int)<=k;lia,by show(k:Int)<_;lia⟩,by show hAt hs k=hAt hs k+0;lia,by show hAt hs (k+1)=hAt hs k+1;lia⟩
   .show hAt hs k=hAt hs k+0;lia
   .show hAt hs (k+1)=hAt hs k+1;lia
 |t+1,c',hc,s1,d1=>by
  obtain⟨l,hl,hcl⟩:=gn.mp (show c'∈((xj hs t).map λc=>c.cut.map (Cell.up hs)).flatten from hc);obtain⟨c,hcc,rfl⟩:=aJ.mp hl;obtain⟨d,hd,rfl⟩:=aJ.mp hcl;obtain⟨k,hk,rfl⟩:=aJ.mp hd;have hk':=ay.mp hk;obtain⟨g1,_,_,_,g5,g6⟩:=xn (vh ok t) c hcc;have hD:=qkv c;have s1:c.S*(c.D:Int)=1:=s1;have sD:c.S=1/\c.D=1:=by have a:=aV (show(1:Int)<=c.D by lia) (show 0<=c.S by lia);have b:=au g1 (show(0:Int)<=c.D by lia);lia
  obtain⟨sS,eD⟩:=sD;obtain rfl:k=0:=by lia
  have sm:=qk4 c;rw[eD]at sm;have d1:(hAt hs (c.a+c.sg*(((0:Nat):Int)+1))-hAt hs (c.a+c.sg*((0:Nat):Int))).natAbs=1:=d1;have e0:c.a+c.sg*((0:Nat):Int)=c.a:=by simp
  have e1:c.a+c.sg*(((0:Nat):Int)+1)=c.b:=by rw[<-sm];rfl
  rw[e0,e1]at d1;have nz:(c.b-c.a).natAbs=1:=by
   have hE:=eD;unfold Cell.D at hE;split at hE
   .rename_i z;rw[show c.b=c.a by lia]at d1;simp at d1
   .exact hE
  obtain⟨x,f,x0,un,ea,eb⟩:=wqx ok t c hcc sS nz;show ∃(x:Nat->Int) (d:Nat->Bool),x 0=c.u*(c.D:Int)+((0:Nat):Int)/\(∀i,i<t+1+1->Yn hs (x i) (x (i+1)) (d i))/\hAt hs (c.a+c.sg*((0:Nat):Int))=x (t+1+1)+(if y6 d (t+1+1)=true then 1 else 0)/\hAt hs (c.a+c.sg*(((0:Nat):Int)+1))=x (t+1+1)+(if y6 d (t+1+1)=true then 0 else 1);rw[e0,e1,eD];have y0:0<=x (t+1)/\x (t+1)<(hs.length:Int)-1:=by split at ea <;> split at eb <;> lia
  let b:Bool:=decide (hAt hs (x (t+1))>hAt hs (x (t+1)+1));let y:Int:=if b=true then hAt hs (x (t+1)+1) else hAt hs (x (t+1))
  have dd:(hAt hs (x (t+1)+1)-hAt hs (x (t+1))).natAbs=1:=by split at ea <;> split at eb <;> first | (rename_i q1 q2;exact absurd q1 q2) | (rename_i q1 q2;exact absurd q2 q1) | (rw[ea,eb,gO]at d1;lia)
  have uy:Yn hs (x (t+1)) y b:=by
   refine⟨y0,?_,?_⟩
   .show _=(if b=true then hAt hs (x (t+1)+1) else hAt hs (x (t+1)))+_;by_cases z:hAt hs (x (t+1))>hAt hs (x (t+1)+1)
    .rw[show b=true from aS z,aw rfl,aw rfl];lia
    .rw[show b=false from bb z,ar ⋯,ar ⋯];lia
   .show _=(if b=true then hAt hs (x (t+1)+1) else hAt hs (x (t+1)))+_;by_cases z:hAt hs (x (t+1))>hAt hs (x (t+1)+1)
    .rw[show b=true from aS z,aw rfl,aw rfl];lia
    .rw[show b=false from bb z,ar ⋯,ar ⋯];lia
  generalize y=y at uy;generalize b=b at uy;let F:Nat->Bool:=λi=>if i<=t then f i else b
  have sg:∀i,i<=t+1->y6 F i=y6 f i:=λi=>by
   induction i with
   |zero=>intro _;rfl
   |succ i ih =>
    intro hi;show Bool.xor (y6 F i) (if i<=t then f i else b)=Bool.xor (y6 f i) (f i);rw[ih ⋯,aw ⋯]
  have sg2:y6 F (t+1+1)=Bool.xor (y6 f (t+1)) b:=by show Bool.xor (y6 F (t+1)) (if t+1<=t then f (t+1) else b)=_;rw[sg _ (al _),ar ⋯]
  refine⟨λi=>if i<=t+1 then x i else y,F,?_,λi hi=>?_,?_⟩
  .show(if 0<=t+1 then x 0 else y)=_;rw[aw ⋯,x0];simp
  .show Yn hs (if i<=t+1 then x i else y) (if i+1<=t+1 then x (i+1) else y) (if i<=t then f i else b);by_cases z:i<=t
   .rw[aw ⋯,aw ⋯,aw z];exact un i ⋯
   .obtain rfl:i=t+1:=by lia
    rw[aw ⋯,ar ⋯,ar ⋯];exact uy
  .rw[sg2];show hAt hs c.a=(if t+1+1<=t+1 then x (t+1+1) else y)+_/\hAt hs c.b=(if t+1+1<=t+1 then x (t+1+1) else y)+_;rw[ar ⋯];obtain⟨_,u1,u2⟩:=uy;cases hz:y6 f (t+1) with
   |false =>
    rw[hz,ar ⋯]at ea;rw[hz,ar ⋯]at eb;rw[ea,eb,gO,u1,u2,Bool.false_xor];exact⟨rfl,rfl⟩
   |true =>
    rw[hz,aw rfl]at ea;rw[hz,aw rfl]at eb;rw[ea,eb,gO,u1,u2,Bool.true_xor];cases b <;> exact⟨rfl,rfl⟩
theorem wqb (ok:wj hs):∀(t:Nat) (c:Cell),c∈xj hs t->∃j:Int,j*c.S<=c.u/\c.u+1<=(j+1)*c.S
 |0,c,hc=>by obtain⟨k,hk,rfl⟩:=aJ.mp (show c∈k8 hs from hc);exact⟨k,by show(k:Int)*1<=k;lia,by show(k:Int)+1<=(k+1)*1;lia⟩
 |t+1,c',hc=>by
  obtain⟨l,hl,hcl⟩:=gn.mp (show c'∈((xj hs t).map λc=>c.cut.map (Cell.up hs)).flatten from hc);obtain⟨c,hcc,rfl⟩:=aJ.mp hl;obtain⟨d,hd,rfl⟩:=aJ.mp hcl;obtain⟨k,hk,rfl⟩:=aJ.mp hd;have hk':=ay.mp hk;obtain⟨j,j1,j2⟩:=wqb ok t c hcc;have a1:=au j1 (show(0:Int)<=c.D by lia);have a2:=au j2 (show(0:Int)<=c.D by lia);refine⟨j,?_,?_⟩
  .show j*(c.S*c.D)<=c.u*c.D+k;rw[<-iq];lia
  .show c.u*c.D+k+1<=(j+1)*(c.S*c.D);rw[<-iq];rw[bF,bj]at a2;lia
theorem qku (ok:wj hs){t:Nat}(t11:t<=11)(v:Int):Zr hs (t+1) v↔∃c∈xj hs t,c.Wh/\v=c.a:=by
 constructor
 .rintro⟨r,hr,a1,rfl⟩;have c:=(v9 ok ⋯).mp hr;have cl:=j8 ⋯ ⋯ c;have rg:0<=r.getD 0 0/\r.getD 0 0<(hs.length:Int)-1:=by
   have hl:0<r.length:=by rw[c.1];lia
   refine c.2.1 _ ?_;rw[af,aa hl];exact bJ hl
  have all:∀p q:Int,1<=q->r.getD 0 0*q<=p->p<=(r.getD 0 0+1)*q->trT hs p q (t+1)=p:=λp q hq h1 h2=>by have:=qzj cl a1 hq (by rw[ug];exact h1) (by rw[ug];exact h2);rwa [c.1]at this
  generalize r.getD 0 0=k at rg all;obtain⟨d,hd,i1,i2⟩:=wxf ok (p:=2*k+1) (q:=2) ⋯ ⟨⋯,⋯⟩ t;have i1:d.u*2<=d.S*(2*k+1):=i1;have i2:d.S*(2*k+1)<=(d.u+1)*2:=i2;have gd:=xn (vh ok t) d hd;have hS:=gd.1;obtain⟨j,j1,j2⟩:=wqb ok t d hd;have jk:j=k:=by
   have a1:d.S*(2*j)<=d.S*(2*k+1):=by rw[show d.S*(2*j)=j*d.S*2 by grind];lia
   have a2:d.S*(2*k+1)<=d.S*(2*(j+1)):=by rw[show d.S*(2*(j+1))=(j+1)*d.S*2 by grind];lia
   have b1:=cf a1 ⋯;have b2:=cf a2 ⋯;lia
  subst jk;have f1:=(fixC ok hd (p:=d.u) (q:=d.S) hS ⟨by show d.u*d.S<=d.S*d.u;rw[bC];exact cB _,by show d.S*d.u<=(d.u+1)*d.S;rw[bF,bC];lia⟩).mp (all _ _ hS j1 ⋯);have f2:=(fixC ok hd (p:=d.u+1) (q:=d.S) hS ⟨by show d.u*d.S<=d.S*(d.u+1);rw[Int.mul_add,bC];lia,by show d.S*(d.u+1)<=(d.u+1)*d.S;rw[bC];exact cB _⟩).mp (all _ _ hS ⋯ j2);rw[show d.S*d.u-d.u*d.S=0 by rw[bC];lia]at f1;rw[show d.S*(d.u+1)-d.u*d.S=d.S by rw[Int.mul_add,bC];lia]at f2;have w:d.Wh:=by
   constructor
   .rcases dX.mp (show d.S*d.o1=0 by simpa using f1) with z|z <;> lia
   .rcases dX.mp (show d.S*d.o2=0 by simpa using f2) with z|z <;> lia
  obtain⟨w1,w2,w3⟩:=Z4 hS w;refine⟨d,hd,w,?_⟩;rw[w1]at i1 i2;lia
 .rintro⟨c,hc,w,rfl⟩;have hS:=(xn (vh ok t) c hc).1;obtain⟨w1,w2,w3⟩:=Z4 hS w;obtain⟨x,d,x0,un,ea,eb⟩:=wqx ok t c hc w1 ⋯;have sg:y6 d (t+1)=false:=by
   cases hz:y6 d (t+1) with
   |false=>rfl
   |true=>rw[hz,aw rfl]at ea;rw[hz,aw rfl]at eb;lia
  rw[sg,ar ⋯]at ea;have:=wyu ok (c:=x) (d:=d) (m:=t+1) ⋯ un ⋯ sg;rwa [x0,w2]at this
def FxP (hs:List Int)(m:Nat)(c:Cell)(P:Int×Int):Prop:=(1<=P.2/\gOf P.1 P.2=1)/\InC c P/\trT hs P.1 P.2 m=P.1/\¬ c.Wh
theorem wkj (ok:wj hs){t:Nat}(t11:t<=11){ws:List Int}(hw:∀v,v∈ws↔Zr hs (t+1) v){P:Int×Int}(nl:jd ws P=false):(∃c∈xj hs t,FxP hs (t+1) c P)↔Z5 hs (t+1) P:=by
 have no:∀k,Zr hs (t+1) k->¬ (k*P.2<=P.1/\P.1<=(k+1)*P.2):=λk hk z=>by have:jd ws P=true:=eX.mpr ⟨k,(hw k).mpr hk,aS z⟩;rw[nl]at this;cases this
 constructor
 .rintro⟨c,hc,⟨hb,g⟩,i,bk,_⟩;have on:=inC_on (xn (vh ok t) c hc) hb i;rcases(wwj ok ⋯ ⋯ hb g on).mp bk with z|⟨k,hk,l⟩
  .exact z
  .exact absurd l (no k hk)
 .intro sp;obtain⟨hb,g,on⟩:=Yx ok ⋯ ⋯ sp;obtain⟨c,hc,i⟩:=wxf ok hb on t;refine⟨c,hc,⟨hb,g⟩,i,(wwj ok ⋯ ⋯ hb g on).mpr (.inl sp),λw=>?_⟩;obtain⟨w1,w2,w3⟩:=Z4 (xn (vh ok t) c hc).1 w;refine no c.a ((qku ok t11 _).mpr ⟨c,hc,w,rfl⟩) ?_;have i1:=i.1;have i2:=i.2;rw[w1,w2,bj]at i1 i2;exact⟨i1,i2⟩
theorem xxq {P Q:Int×Int}(h1:1<=P.2)(g1:gOf P.1 P.2=1)(h2:1<=Q.2)(g2:gOf Q.1 Q.2=1)(e:P.1*Q.2=Q.1*P.2):P=Q:=by have:=(y9 h1 h2).mp e;rw[j7 h1 g1,j7 h2 g2]at this;exact this
structure MetI (hs:List Int)(t:Nat)(i:Nat)(ks:List Int)(ms:List (Int×Int)):Prop where
 kup:ks.Pairwise (·<·)
 kmem:∀v,v∈ks↔∃c∈(xj hs t).take i,c.Wh/\v=c.a
 mup:ms.Pairwise λP Q=>P.1*Q.2<=Q.1*P.2
 mmem:∀P,P∈ms↔∃c∈(xj hs t).take i,FxP hs (t+1) c P
theorem MetI.nil {t:Nat}:MetI hs t 0 [] []:=⟨.nil,λv=>⟨λz=>(by cases z),λ⟨_,h,_⟩=>(by cases h)⟩,.nil,λv=>⟨λz=>(by cases z),λ⟨_,h,_⟩=>(by cases h)⟩⟩
theorem kj {l:List α}{c:α}(e:l[i]?=some c)(x:α):x∈l.take (i+1)↔x∈l.take i\/x=c:=by rw[gW,e];simp
theorem wz7 {R:α->α->Prop}{l:List α}(h:l.Pairwise R){i:Nat}{c:α}(e:l[i]?=some c){x:α}(hx:x∈l.take i):R x c:=by obtain⟨j,hj,rfl⟩:=cZ hx;rw[aY]at hj;rw[ij];have:=br.mp h j i ⋯ (ak.mp e).1 ⋯;rwa [(ak.mp e).2]at this
theorem MetI.step (ok:wj hs){t i:Nat}{ks:List Int}{ms:List (Int×Int)}(h:MetI hs t i ks ms){c:Cell}(e:(xj hs t)[i]?=some c){ks':List Int}(hk:(c.Wh/\ks'=ks++[c.a])\/(¬ c.Wh/\ks'=ks)){L:List (Int×Int)}(hl:L.length<=1)(hL:∀P,P∈L↔FxP hs (t+1) c P):MetI hs t (i+1) ks' (ms++L):=by
 have ch:=vh ok t;have up:=wq8 ch;have gd:=xn ch;have hc:=aC e;have bef:∀d∈(xj hs t).take i,d∈xj hs t/\(d.u+1)*c.S<=c.u*d.S:=λd hd=>⟨cC hd,wz7 up e hd⟩;refine⟨?_,λv=>?_,?_,λP=>?_⟩
 .rcases hk with⟨w,rfl⟩|⟨_,rfl⟩
  .refine aZ.mpr ⟨h.kup,b7 _ _,λx hx y hy=>?_⟩;obtain⟨d,hd,wd,rfl⟩:=(h.kmem x).mp hx;rw[aH.mp hy];obtain⟨b1,b2⟩:=bef d hd;exact xz6 (gd d b1).1 b2 wd w (gd c hc).1
  .exact h.kup
 .constructor
  .intro hv;have old:v∈ks->∃c∈(xj hs t).take (i+1),c.Wh/\v=c.a:=λz=>by obtain⟨d,hd,r⟩:=(h.kmem v).mp z;exact⟨d,(kj e d).mpr (.inl hd),r⟩
   rcases hk with⟨w,rfl⟩|⟨_,rfl⟩
   .rcases aU.mp hv with z|z
    .exact old z
    .exact⟨c,(kj e c).mpr (.inr rfl),w,aH.mp z⟩
   .exact old hv
  .rintro⟨d,hd,wd,rfl⟩;rcases(kj e d).mp hd with z|rfl
   .have:=(h.kmem d.a).mpr ⟨d,z,wd,rfl⟩;rcases hk with⟨w,rfl⟩|⟨_,rfl⟩
    .exact ca _ this
    .exact this
   .rcases hk with⟨w,rfl⟩|⟨w,_⟩
    .exact aN _ (aH.mpr rfl)
    .exact absurd wd w
 .refine aZ.mpr ⟨h.mup,?_,λx hx y hy=>?_⟩
  .rcases L with _|⟨x,_|⟨y,l⟩⟩
   .exact .nil
   .exact b7 _ _
   .simp at hl
  .obtain⟨d,hd,f⟩:=(h.mmem x).mp hx;have g:=(hL y).mp hy;obtain⟨b1,b2⟩:=bef d hd;exact inC_le (gd d b1).1 (gd c hc).1 f.1.1 g.1.1 b2 f.2.1 g.2.1
 .rw[aU,h.mmem,hL];constructor
  .rintro (⟨d,hd,f⟩|f)
   .exact⟨d,(kj e d).mpr (.inl hd),f⟩
   .exact⟨c,(kj e c).mpr (.inr rfl),f⟩
  .rintro⟨d,hd,f⟩;rcases(kj e d).mp hd with z|rfl
   .exact .inl ⟨d,z,f⟩
   .exact .inr f
structure PtI (ks:List Int)(ms:List (Int×Int))(j:Nat)(ps:List (Int×Int)):Prop where
 pup:ps.Pairwise λP Q=>P.1*Q.2<Q.1*P.2
 pmem:∀P,P∈ps↔P∈ms.take j/\jd ks P=false
variable {ks:List Int}{ms:List (Int×Int)}
theorem PtI.nil:PtI ks ms 0 []:=⟨.nil,λv=>⟨λz=>(by cases z),λh=>(by cases h.1)⟩⟩
theorem PtI.in (h:PtI ks ms j ps){P:Int×Int}(e:ms[j]?=some P)(l:jd ks P=true):PtI ks ms (j+1) ps:=⟨h.pup,λQ=>by
 rw[h.pmem,kj e]
 constructor
 .exactλ⟨a,b⟩=>⟨.inl a,b⟩
 .rintro⟨a|rfl,b⟩
  .exact⟨a,b⟩
  .rw[l]at b;cases b⟩
theorem PtI.same (h:PtI ks ms j ps){P:Int×Int}(e:ms[j]?=some P)(l:P∈ps):PtI ks ms (j+1) ps:=⟨h.pup,λQ=>by
 rw[h.pmem,kj e]
 constructor
 .exactλ⟨a,b⟩=>⟨.inl a,b⟩
 .rintro⟨a|rfl,b⟩
  .exact⟨a,b⟩
  .exact(h.pmem Q).mp l⟩
theorem PtI.add (h:PtI ks ms j ps)(up:ms.Pairwise λP Q=>P.1*Q.2<=Q.1*P.2)(lw:∀P∈ms,1<=P.2/\gOf P.1 P.2=1){P:Int×Int}(e:ms[j]?=some P)(l:jd ks P=false)(nl:ps.getLast?≠some P):PtI ks ms (j+1) (ps++[P]):=by
 refine⟨aZ.mpr ⟨h.pup,b7 _ _,λQ hQ y hy=>?_⟩,λQ=>?_⟩
 .rw[aH.mp hy];have le:∀Q∈ps,Q.1*P.2<=P.1*Q.2:=λQ hQ=>wz7 up e ((h.pmem Q).mp hQ).1;have lo:∀Q∈ps,1<=Q.2/\gOf Q.1 Q.2=1:=λQ hQ=>lw Q (cC ((h.pmem Q).mp hQ).1);have lP:=lw P (aC e);have ne:P∉ps:=λhP=>by
   obtain⟨i,hi,e1⟩:=cZ hP;rw[dU]at nl;have hl:i≠ps.length-1:=λz=>nl (by rw[<-z,aa hi,e1]);have hj:ps.length-1<ps.length:=by lia
   have a:=br.mp h.pup i (ps.length-1) hi hj ⋯;rw[e1]at a;have b:=le _ (bJ hj);lia
  rcases bD (Q.1*P.2) (P.1*Q.2) with z|z
  .exact z
  .have e2:Q.1*P.2=P.1*Q.2:=Int.le_antisymm (le Q hQ) z;exact absurd (xxq (lo Q hQ).1 (lo Q hQ).2 lP.1 lP.2 e2▸hQ) ne
 .rw[aU,h.pmem,kj e,aH];constructor
  .rintro (⟨a,b⟩|rfl)
   .exact⟨.inl a,b⟩
   .exact⟨.inr rfl,l⟩
  .rintro⟨a|rfl,b⟩
   .exact .inl ⟨a,b⟩
   .exact .inr rfl
theorem qjf {R:α->α->Prop}(asy:∀a b,R a b->¬ R b a):∀ {xs ys:List α},xs.Pairwise R->ys.Pairwise R->(∀a,a∈xs↔a∈ys)->xs=ys
 |[],[],_,_,_=>rfl
 |[],y::ys,_,_,h=>by have:=(h y).mpr (by simp);cases this
 |x::xs,[],_,_,h=>by have:=(h x).mp (by simp);cases this
 |x::xs,y::ys,hx,hy,h=>by
  obtain⟨x1,x2⟩:=dM.mp hx;obtain⟨y1,y2⟩:=dM.mp hy;have e:x=y:=by
   rcases aM.mp ((h x).mp (by simp)) with z|z
   .exact z
   .rcases aM.mp ((h y).mpr (by simp)) with w|w
    .exact w.symm
    .exact absurd (y1 x z) (asy _ _ (x1 y w))
  subst e;have nx:x∉xs:=λz=>asy _ _ (x1 x z) (x1 x z);have ny:x∉ys:=λz=>asy _ _ (y1 x z) (y1 x z);rw[qjf asy x2 y2 λa=>?_];constructor
  .intro ha;rcases aM.mp ((h a).mp (bI _ ha)) with z|z
   .exact absurd (z▸ha) nx
   .exact z
  .intro ha;rcases aM.mp ((h a).mpr (bI _ ha)) with z|z
   .exact absurd (z▸ha) ny
   .exact z
structure Bk (hs:List Int)(m:Nat)(pts:List (Int×Int))(ws:List Int):Prop where
 wup:ws.Pairwise (·<·)
 wmem:∀v,v∈ws↔Zr hs m v
 pup:pts.Pairwise λp q=>p.1*q.2<q.1*p.2
 pmem:∀p,p∈pts↔(Z5 hs m p/\jd ws p=false)
variable {ws:List Int}
theorem BackOf.bk {pts:List (Int×Int)}(B:BackOf hs m pts ws):Bk hs m pts ws:=⟨B.wup,B.wmem,B.pup,B.pmem⟩
theorem Bk.uniq {pts pts':List (Int×Int)}{ws':List Int}(A:Bk hs m pts ws)(B:Bk hs m pts' ws'):pts=pts'/\ws=ws':=by have e:ws=ws':=qjf (λa b h=>by lia) A.wup B.wup λv=>(A.wmem v).trans (B.wmem v).symm;subst e;exact⟨qjf (λa b h=>by lia) A.pup B.pup λv=>(A.pmem v).trans (B.pmem v).symm,rfl⟩
theorem Bk.of (ok:wj hs){t:Nat}(t11:t<=11){ks:List Int}{ms ps:List (Int×Int)}(M:MetI hs t (xj hs t).length ks ms)(p:PtI ks ms ms.length ps):Bk hs (t+1) ps ks:=by
 have k1:=M.kmem;have m1:=M.mmem;rw[bn]at k1 m1;have w:∀v,v∈ks↔Zr hs (t+1) v:=λv=>(k1 v).trans (qku ok t11 v).symm;refine⟨M.kup,w,p.pup,λP=>?_⟩;rw[p.pmem,bn,m1];constructor
 .exactλ⟨a,b⟩=>⟨(wkj ok t11 w b).mp a,b⟩
 .exactλ⟨a,b⟩=>⟨(wkj ok t11 w b).mpr a,b⟩
theorem qqk (hS:1<=c.S):c.S*(c.lft.2*c.lft.1.2-c.lft.1.1)=c.lft.1.2*c.o1/\c.S*(c.rgt.2*c.rgt.1.2-c.rgt.1.1)=c.rgt.1.2*c.o2:=by
 have x1:c.lft.1.1*c.S=c.u*c.lft.1.2:=zd (t:=c.u) hS;have x2:c.rgt.1.1*c.S=(c.u+1)*c.rgt.1.2:=zd (t:=c.u+1) hS;have ea:c.lft.2=c.a:=rfl;have eb:c.rgt.2=c.b:=rfl;rw[ea,eb];unfold Cell.o1 Cell.o2;constructor
 .rw[fU,bC c.S c.lft.1.1,x1];grind
 .rw[fU,bC c.S c.rgt.1.1,x2];grind
theorem wzq (ok:wj hs){t:Nat}{c:Cell}(hc:c∈xj hs t)(h:((c.lft.2*c.lft.1.2-c.lft.1.1)=0/\(c.rgt.2*c.rgt.1.2-c.rgt.1.1)=0)\/(c.lft.2*c.lft.1.2-c.lft.1.1)*(c.rgt.2*c.rgt.1.2-c.rgt.1.1)>0)(P:Int×Int):¬ FxP hs (t+1) c P:=by
 rintro⟨⟨hb,_⟩,hi,bk,nw⟩;have hS:1<=c.S:=(xn (vh ok t) c hc).1;have lb:1<=c.lft.1.2:=zg hS;have rb:1<=c.rgt.1.2:=zg hS;obtain⟨s1,s2⟩:=qqk hS;generalize c.lft.2*c.lft.1.2-c.lft.1.1=x at h s1;generalize c.rgt.2*c.rgt.1.2-c.rgt.1.1=y at h s2;generalize c.lft.1.2=l at s1 lb;generalize c.rgt.1.2=r at s2 rb;have fx:=(fixC ok hc (p:=P.1) (q:=P.2) hb hi).mp bk;have i1:=hi.1;have i2:=hi.2;rw[bF,bj]at i2;have hp0:0<=c.S*P.1-c.u*P.2:=by lia
 have hp1:0<=P.2-(c.S*P.1-c.u*P.2):=by lia
 have sgn:∀(s l o z:Int),1<=s->1<=l->s*z=l*o->(0<z->0<o)/\(z<0->o<0)/\(z=0->o=0):=λs l o z hs hl e=>by
  refine⟨λh=>?_,λh=>?_,λh=>?_⟩
  .have:=eT (show 0<s by lia) h;rw[e]at this;rcases bD 0 o with g|g
   .exact g
   .have:=dO (show 0<=l by lia) g;lia
  .have:=eT (show 0<s by lia) (show 0 < -z by lia);rw[Int.mul_neg,e]at this;rcases bD o 0 with g|g
   .exact g
   .have:=bg (show 0<=l by lia) g;lia
  .rw[h,dE]at e;rcases dX.mp e.symm with g|g <;> lia
 have g1:=sgn _ _ _ _ hS lb s1;have g2:=sgn _ _ _ _ hS rb s2;rcases h with⟨h1,h2⟩|h
 .exact nw ⟨g1.2.2 h1,g2.2.2 h2⟩
 .have key:∀q0 q1 a b:Int,0<=q0->0<=q1->1<=q0+q1->0<a->0<b->q0*a+q1*b≠0:=λq0 q1 a b h0 h1 h2 ha hb e=>by
   have m0:=bg h0 (show 0<=a by lia);have m1:=bg h1 (show 0<=b by lia);rcases(by lia:0<q0\/0<q1) with z|z
   .have:=eT z ha;lia
   .have:=eT z hb;lia
  rcases gk x 0 with a|a|a
  .have b:y<0:=by
    rcases bD y 0 with b|b
    .exact b
    .have:=Int.mul_nonpos_of_nonpos_of_nonneg (show x<=0 by lia) b;lia
   have n1:=g1.2.1 a;have n2:=g2.2.1 b;refine key _ _ (-c.o1) (-c.o2) hp1 hp0 ⋯ ⋯ ⋯ ?_;rw[Int.mul_neg,Int.mul_neg];lia
  .rw[a,gN]at h;lia
  .have b:0<y:=by
    rcases bD 0 y with b|b
    .exact b
    .have:=dO (show 0<=x by lia) b;lia
   exact key _ _ _ _ hp1 hp0 ⋯ (g1.1 a) (g2.1 b) fx
theorem wjs (ok:wj hs){t:Nat}{c:Cell}(hc:c∈xj hs t){part total:Int}(h0:0<=part)(h1:part<=total)(h2:1<=total)
  (e:total*(c.rgt.1.2*(c.lft.2*c.lft.1.2-c.lft.1.1))=part*(c.rgt.1.2*(c.lft.2*c.lft.1.2-c.lft.1.1)-c.lft.1.2*(c.rgt.2*c.rgt.1.2-c.rgt.1.1)))
  (nz:¬ ((c.lft.2*c.lft.1.2-c.lft.1.1)=0/\(c.rgt.2*c.rgt.1.2-c.rgt.1.1)=0)) (np:c.rgt.1.2*(c.lft.2*c.lft.1.2-c.lft.1.1)-c.lft.1.2*(c.rgt.2*c.rgt.1.2-c.rgt.1.1)≠0) (P:Int×Int) :
  P∈[wy (c.lft.1.1*c.rgt.1.2*total+(c.rgt.1.1*c.lft.1.2-c.lft.1.1*c.rgt.1.2)*part) (c.lft.1.2*c.rgt.1.2*total)]↔FxP hs (t+1) c P:=by
 have hS:1<=c.S:=(xn (vh ok t) c hc).1;have lb:1<=c.lft.1.2:=zg hS;have rb:1<=c.rgt.1.2:=zg hS;obtain⟨s1,s2⟩:=qqk hS;have gb:1<=c.lft.1.2*c.rgt.1.2:=by have:=bw lb rb ⋯ ⋯;simpa using this
 have hB:1<=c.lft.1.2*c.rgt.1.2*total:=by have:=bw gb h2 ⋯ ⋯;simpa using this
 have cl:=wk8 hS total part;generalize c.lft.2*c.lft.1.2-c.lft.1.1=x at e s1 nz np;generalize c.rgt.2*c.rgt.1.2-c.rgt.1.1=y at e s2 nz np;generalize c.lft.1.1*c.rgt.1.2*total+(c.rgt.1.1*c.lft.1.2-c.lft.1.1*c.rgt.1.2)*part=top at cl;generalize hg:c.lft.1.2*c.rgt.1.2=g at gb hB cl;generalize c.lft.1.2=l at s1 lb e np hg;generalize c.rgt.1.2=r at s2 rb e np hg;have eo:total*c.o1=part*(c.o1-c.o2):=by
  refine bQ (a:=g) ⋯ ?_;have a1:g*(total*c.o1)=total*(r*(l*c.o1)):=by rw[<-hg];grind
  have a2:g*(part*(c.o1-c.o2))=part*(r*(l*c.o1)-l*(r*c.o2)):=by rw[<-hg];grind
  rw[a1,a2,<-s1,<-s2];have:=cr (λz=>c.S*z) e;grind
 have nw:¬ c.Wh:=λ⟨w1,w2⟩=>nz ⟨by
   rw[w1,dE]at s1
   rcases dX.mp s1 with z|z <;> lia,by
   rw[w2,dE]at s2
   rcases dX.mp s2 with z|z <;> lia⟩
 have no:c.o1-c.o2≠0:=λz=>by refine np (bQ (a:=c.S) ⋯ ?_);rw[dE,show c.S*(r*x-l*y)=r*(c.S*x)-l*(c.S*y) by grind,s1,s2,show r*(l*c.o1)-l*(r*c.o2)=r*l*(c.o1-c.o2) by grind,z,dE]
 have key:FxP hs (t+1) c (wy top (g*total)):=by
  have b1:1<=(wy top (g*total)).2:=zg hB;have b2:=qjn (t:=top) hB;have b3:=zd (t:=top) hB;generalize wy top (g*total)=P at b1 b2 b3;have m:c.S*P.1*total=(c.u*total+part)*P.2:=by refine bQ (a:=g*total) ⋯ ?_;rw[show g*total*(c.S*P.1*total)=c.S*total*(P.1*(g*total)) by grind,b3,show c.S*total*(top*P.2)=c.S*total*top*P.2 by grind,cl];grind
  have m2:(c.S*P.1-c.u*P.2)*total=part*P.2:=by grind
  have q0:0<=c.S*P.1-c.u*P.2:=by
   rcases bD (c.S*P.1-c.u*P.2) 0 with z|z
   .have:=eT (show 0 < -(c.S*P.1-c.u*P.2) by lia) (show 0<total by lia);rw[i6,m2]at this;have:=bg h0 (show 0<=P.2 by lia);lia
   .exact z
  have q1:c.S*P.1-c.u*P.2<=P.2:=by refine dN (a:=total) ?_ ⋯;rw[m2,bC P.2];exact au h1 ⋯
  have hi:InC c (P.1,P.2):=⟨by show c.u*P.2<=c.S*P.1;lia,by show c.S*P.1<=(c.u+1)*P.2;rw[bF,bj];lia⟩;refine⟨⟨b1,b2⟩,hi,(fixC ok hc b1 hi).mpr (bQ (a:=total) ⋯ ?_),nw⟩;generalize c.S*P.1-c.u*P.2=d at m2;rw[show total*((P.2-d)*c.o1+d*c.o2)=P.2*(total*c.o1)-d*total*(c.o1-c.o2) by grind,m2,eo];grind
 rw[aH];constructor
 .rintro rfl;exact key
 .intro f;generalize wy top (g*total)=Q at key;have fP:=(fixC ok hc f.1.1 f.2.1).mp f.2.2.1;have fQ:=(fixC ok hc key.1.1 key.2.1).mp key.2.2.1;refine xxq f.1.1 f.1.2 key.1.1 key.1.2 (bQ (a:=c.S) ⋯ ?_);have m:(c.S*P.1-c.u*P.2)*Q.2=(c.S*Q.1-c.u*Q.2)*P.2:=by refine bQ no ?_;generalize c.S*P.1-c.u*P.2=d1 at fP;generalize c.S*Q.1-c.u*Q.2=d2 at fQ;generalize c.o1=o1 at fP fQ;generalize c.o2=o2 at fP fQ;grind
  grind
def qj9 (K:Aa):Sp:=λvs H Q _=>∃(v v':V) (hs:List Int) (t:Nat) (c:Cell),vs=[v,v']/\CoR H v c.lft/\CoR H v' c.rgt/\wj hs/\t<=11/\c∈xj hs t /\
 ∀(q:Aj) (ws:List V) (L:List (Int×Int)) (H':Hp),H q=none->Same H H'->H' q=some (.lst ws)->L.length<=1->Paired (PtV H') ws L->(∀P,P∈L↔FxP hs (t+1) c P)->Q (.ref q) H'
include T in
theorem wy6 (F:Fun K "_law_cross" "_law_cross" zbp f fd)(zb3:Cal P w K mg base "_law_low" 2 wkx):FK P w K mg base 3 f fd ["_law_left","_law_right"] (qj9 K):=by
 have sc:=qz2;refine F.okX sc (λvs H Q E h=>by obtain⟨_,_,_,_,_,rfl,_⟩:=h;rfl) λ_ _ _ _ H vs Q E hr h=>?_;obtain⟨_,_,hs,t,c,rfl,⟨p,pp,rfl,p1,p2⟩,⟨q,qq,rfl,q1,q2⟩,ok,ht,hc,k⟩:=h;have o1:=ok.1;have o2:=ok.2.1;have gc:=xn (vh ok t) c hc;have hM:=pow24 t ht;have P1:SqT K H p [.ref pp,.int c.lft.2]:=SqT.of p1;have P2:SqT K H pp [.int c.lft.1.1,.int c.lft.1.2]:=SqT.of p2;have Q1:SqT K H q [.ref qq,.int c.rgt.2]:=SqT.of q1;have Q2:SqT K H qq [.int c.rgt.1.1,.int c.rgt.1.2]:=SqT.of q2;obtain⟨⟨⟨l1,l2,l3,l4⟩,l5,l6⟩,⟨⟨r1,r2,r3,r4⟩,r5,r6⟩⟩:=wkf (n:=(hs.length:Int)-1) ⋯ ⋯ hM gc;have back:=λpart total h0 h1 h2 e nz np=>wjs ok hc (part:=part) (total:=total) h0 h1 h2 e nz np;have noneX:=wzq ok hc;have sl:∀x:Int,0<=x->x<=1000000000000000000->Sm 65 x:=λx h0 h1=>Sm.small ⋯ ⋯ ⋯;have S1:=sl _ l3 l4;have S2:=sl _ ⋯ l2;have S3:=sl _ r3 r4;have S4:=sl _ ⋯ r2;have S5:=sl c.lft.2 l5 ⋯;have S6:=sl c.rgt.2 r5 ⋯;refine⟨_,(qj (wg (i:=2) (wz zm (wz xk (wv wb (pv 0) qx (λ_ _=>rfl)) (wv wb (wv wb (pv 0) qx (λ_ _=>rfl)) qx (λ_ _=>rfl))) (wv wb (wv wb (pv 0) qx (λ_ _=>rfl)) qx (λ_ _=>rfl))))
   (qj (wg (i:=3) (wz zm (wz xk (wv wb (pv 1) qx (λ_ _=>rfl)) (wv wb (wv wb (pv 1) qx (λ_ _=>rfl)) qx (λ_ _=>rfl))) (wv wb (wv wb (pv 1) qx (λ_ _=>rfl)) qx (λ_ _=>rfl))))
   (qj (zr (PW.pt (Qr (PW.pt (Yt (wt uz (pv 2) qx (xv _)) (W1 (wt uz (pv 3) qx (xv _))))) (yq (wt Wv (wz xk (pv 2) (pv 3)) qx (xv _))))) (qh (xw (vf qv))) xg)
   (qj (wg (i:=4) (wz xk (pv 2) (wv wb (wv wb (pv 1) qx (λ_ _=>rfl)) qx (λ_ _=>rfl))))
   (qj (wg (i:=5) (wz zm (pv 4) (wz xk (pv 3) (wv wb (wv wb (pv 0) qx (λ_ _=>rfl)) qx (λ_ _=>rfl)))))
   (qwu (zr (wt Q3 (pv 5) qx (xv _)) (qj (wg (i:=4) (Qn jm (pv 4)))
   (qh (wg (i:=5) (Qn jm (pv 5))))) xg)
   (qj (wg (i:=6) (wz xk (wv wb (wv wb (pv 0) qx (λ_ _=>rfl)) qx (λ_ _=>rfl)) (wv wb (wv wb (pv 1) qx (λ_ _=>rfl)) qx (λ_ _=>rfl))))
   (qj (wg (i:=7) (wz xk (wv wb (wv wb (pv 1) qx (λ_ _=>rfl)) qx (λ_ _=>rfl)) (wv wb (wv wb (pv 0) qx (λ_ _=>rfl)) qx (λ_ _=>rfl))))
   (qj (wg (i:=7) (wz zm (pv 7) (wz xk (wv wb (wv wb (pv 0) qx (λ_ _=>rfl)) qx (λ_ _=>rfl)) (wv wb (wv wb (pv 1) qx (λ_ _=>rfl)) qx (λ_ _=>rfl)))))
   (qj (wg (i:=8) (wz x9 (wz xk (wz xk (wv wb (wv wb (pv 0) qx (λ_ _=>rfl)) qx (λ_ _=>rfl)) (wv wb (wv wb (pv 1) qx (λ_ _=>rfl)) qx (λ_ _=>rfl))) (pv 5)) (wz xk (pv 7) (pv 4))))
   (qh (xw (vf (qw (wu zb3 (hr.mono ⋯) rfl qt (qw (pv 8) (qw (wz xk (pv 6) (pv 5)) qv))) qv)))))))))))))),?_⟩
 generalize c.lft.1.1=lt at P2 l3 l4 S1 back noneX;generalize c.lft.1.2=lb at P2 l1 l2 S2 back noneX;generalize c.lft.2=lh at P1 l5 l6 S5 back noneX;generalize c.rgt.1.1=rt at Q2 r3 r4 S3 back noneX;generalize c.rgt.1.2=rb at Q2 r1 r2 S4 back noneX;generalize c.rgt.2=rh at Q1 r5 r6 S6 back noneX;have So:Sm 131 (lh*lb-lt):=((S5.mul S2).mono ⋯).sub (S1.mono ⋯);have Su:Sm 131 (rh*rb-rt):=((S6.mul S4).mono ⋯).sub (S3.mono ⋯);refine exI rfl ⟨_,_,_,_,rfl,rfl,P1,rfl,exI rfl ⟨_,_,_,_,rfl,rfl,P1,rfl,⟨_,_,_,_,rfl,rfl,P2,rfl,⟨_,_,rfl,rfl,S5.ok S2 ⋯,exI rfl ⟨_,_,_,_,rfl,rfl,P1,rfl,⟨_,_,_,_,rfl,rfl,P2,rfl,⟨_,_,rfl,rfl,?_⟩⟩⟩⟩⟩⟩⟩;refine exI rfl ⟨_,_,_,_,rfl,rfl,Q1,rfl,exI rfl ⟨_,_,_,_,rfl,rfl,Q1,rfl,⟨_,_,_,_,rfl,rfl,Q2,rfl,⟨_,_,rfl,rfl,S6.ok S4 ⋯,exI rfl ⟨_,_,_,_,rfl,rfl,Q1,rfl,⟨_,_,_,_,rfl,rfl,Q2,rfl,⟨_,_,rfl,rfl,?_⟩⟩⟩⟩⟩⟩⟩;have nothing:(∀P,¬ FxP hs (t+1) c P)->∀q',H q'=none->Q (.ref q') (upd H q' (.lst [])):=λnoP=>λq' nq=>k q' [] [] _ nq (Same.upd nq) qf ⋯ .nil λP=>⟨λz=>(by cases z),λz=>absurd z (noP P)⟩;by_cases cond:((lh*lb-lt)=0/\(rh*rb-rt)=0)\/(lh*lb-lt)*(rh*rb-rt)>0
 .have nothing:=nothing (noneX cond);refine exI rfl ⟨rfl,_,rfl,uw (λz1=>?_) (λz1=>?_)⟩
  .refine exI rfl ⟨rfl,_,rfl,uw (λz2=>?_) (λz2=>?_)⟩
   .exact yp ⟨sz0,nothing⟩
   .have:(lh*lb-lt)*(rh*rb-rt)=0:=by rw[show lh*lb-lt=0 from z1,gN]
    exact absurd cond ⋯
  .refine jz ?_;refine exI rfl (exI rfl ⟨_,_,rfl,rfl,So.ok Su ⋯,⟨_,_,rfl,rfl,_,rfl,kr (λz3=>⟨sz0,nothing⟩) (λz3=>absurd cond ⋯)⟩⟩)
 have nz:¬ ((lh*lb-lt)=0/\(rh*rb-rt)=0):=λz=>cond (.inl z);have np:¬ (lh*lb-lt)*(rh*rb-rt)>0:=λz=>cond (.inr z);have sg:(0<=(lh*lb-lt)/\(rh*rb-rt)<=0)\/((lh*lb-lt)<=0/\0<=(rh*rb-rt)):=by
  rcases gk (lh*lb-lt) 0 with a|a|a
  .rcases bD (rh*rb-rt) 0 with b|b
   .exact absurd (fj a b) ⋯
   .exact .inr ⟨⋯,b⟩
  .lia
  .rcases bD 0 (rh*rb-rt) with b|b
   .exact absurd (eT a b) ⋯
   .exact .inl ⟨⋯,b⟩
 have Sp:Sm 197 ((lh*lb-lt)*rb):=(So.mul S4).mono ⋯;have Sq:Sm 197 ((rh*rb-rt)*lb):=(Su.mul S2).mono ⋯;have St:Sm 198 ((lh*lb-lt)*rb-(rh*rb-rt)*lb):=Sp.sub Sq;refine(λrest=>(exI rfl ⟨rfl,_,rfl,uw (λz1=>(exI rfl ⟨rfl,_,rfl,uw (λz2=>absurd ⟨z1,z2⟩ nz) (λz2=>rest)⟩)) (λz1=>rest)⟩:_)) ?_;refine exI rfl (exI rfl ⟨_,_,rfl,rfl,So.ok Su ⋯,⟨_,_,rfl,rfl,_,rfl,?_⟩⟩);rw[bb np];refine jz ?_;refine exI rfl (exI rfl ⟨_,_,_,_,rfl,rfl,Q1,rfl,⟨_,_,_,_,rfl,rfl,Q2,rfl,⟨_,_,rfl,rfl,So.ok S4 ⋯,?_⟩⟩⟩);refine exI rfl (exI rfl (exI rfl ⟨_,_,_,_,rfl,rfl,P1,rfl,⟨_,_,_,_,rfl,rfl,P2,rfl,⟨_,_,rfl,rfl,Su.ok S2 ⋯,⟨_,_,rfl,rfl,?_⟩⟩⟩⟩));have m1:∀x:Int,0<=x->0<=x*rb/\(1<=x->1<=x*rb):=λx h=>⟨bg h ⋯,λh=>by have:=bw h r1 ⋯ ⋯;simpa using this⟩;have m2:∀x:Int,0<=x->0<=x*lb/\(1<=x->1<=x*lb):=λx h=>⟨bg h ⋯,λh=>by have:=bw h l1 ⋯ ⋯;simpa using this⟩;have sg2:(0<=(lh*lb-lt)*rb/\(rh*rb-rt)*lb<=0/\1<=(lh*lb-lt)*rb-(rh*rb-rt)*lb)\/((lh*lb-lt)*rb<=0/\0<=(rh*rb-rt)*lb/\(lh*lb-lt)*rb-(rh*rb-rt)*lb<=-1):=by
  rcases sg with⟨a,b⟩|⟨a,b⟩
  .have x1:=m1 _ a;have x2:=m2 (-(rh*rb-rt)) ⋯;rw[i6]at x2;refine .inl ⟨x1.1,⋯,?_⟩;rcases(by lia:1<=lh*lb-lt\/1<=-(rh*rb-rt)) with z|z
   .have:=x1.2 z;lia
   .have:=x2.2 z;lia
  .have x1:=m1 (-(lh*lb-lt)) ⋯;have x2:=m2 _ b;rw[i6]at x1;refine .inr ⟨⋯,x2.1,?_⟩;rcases(by lia:1<=-(lh*lb-lt)\/1<=rh*rb-rt) with z|z
   .have:=x1.2 z;lia
   .have:=x2.2 z;lia
 have npz:rb*(lh*lb-lt)-lb*(rh*rb-rt)≠0:=by rw[bC rb,bC lb];lia
 have fin:∀part total:Int,0<=part->part<=total->1<=total->total*(rb*(lh*lb-lt))=part*(rb*(lh*lb-lt)-lb*(rh*rb-rt))->Sm 197 part->Sm 198 total->∀pt,H pt=none->∀pl,upd H pt (.tup (ptV (wy (lt*rb*total+(rt*lb-lt*rb)*part) (lb*rb*total)))) pl=none->Q (.ref pl) (upd (upd H pt (.tup (ptV (wy (lt*rb*total+(rt*lb-lt*rb)*part) (lb*rb*total))))) pl (.lst [.ref pt])):=λpart total h0 h1 h2 e sp st pt npt pl npl=>by have s1:=Same.upd (o:=.tup (ptV (wy (lt*rb*total+(rt*lb-lt*rb)*part) (lb*rb*total)))) npt;have s2:=Same.upd (H:=upd H pt (.tup (ptV (wy (lt*rb*total+(rt*lb-lt*rb)*part) (lb*rb*total))))) (o:=.lst [.ref pt]) npl;refine k pl [.ref pt] _ _ (j5 s1 npl) (s1.trans s2) qf (al _) (.cons ⟨pt,rfl,s2 _ _ qf⟩ .nil) (back part total h0 h1 h2 e nz npz)
 refine⟨λσ H'=>H'=H/\∃part total:Int,0<=part/\part<=total/\1<=total/\total*(rb*(lh*lb-lt))=part*(rb*(lh*lb-lt)-lb*(rh*rb-rt))/\Sm 197 part/\Sm 198 total/\σ=[some (.ref p),some (.ref q),some (.int (lh*lb-lt)),some (.int (rh*rb-rt)),some (.int part),some (.int total),none,none,none],?_,?_⟩
 .refine exI rfl ⟨_,_,rfl,rfl,_,rfl,kr (λz=>?_) (λz=>?_)⟩
  .refine exI rfl (exI rfl ?_);refine exI rfl (exI rfl ?_);refine⟨rfl,-((lh*lb-lt)*rb),-((lh*lb-lt)*rb-(rh*rb-rt)*lb),⋯,⋯,⋯,by grind,Sp.neg,St.neg,rfl⟩
  .refine⟨rfl,(lh*lb-lt)*rb,(lh*lb-lt)*rb-(rh*rb-rt)*lb,⋯,⋯,⋯,by grind,Sp,St,rfl⟩
 rintro σ H' ⟨rfl,part,total,h0,h1,h2,e,sp,st,rfl⟩;have S24:=S2.mul S4;have S14:=S1.mul S4;have S32:=S3.mul S2;have Sw:Sm 131 (rt*lb-lt*rb):=S32.sub S14;refine exI rfl ⟨_,_,_,_,rfl,rfl,P1,rfl,⟨_,_,_,_,rfl,rfl,P2,rfl,exI rfl ⟨_,_,_,_,rfl,rfl,Q1,rfl,⟨_,_,_,_,rfl,rfl,Q2,rfl,⟨_,_,rfl,rfl,S2.ok S4 ⋯,?_⟩⟩⟩⟩⟩;refine exI rfl ⟨_,_,_,_,rfl,rfl,Q1,rfl,⟨_,_,_,_,rfl,rfl,Q2,rfl,exI rfl ⟨_,_,_,_,rfl,rfl,P1,rfl,⟨_,_,_,_,rfl,rfl,P2,rfl,⟨_,_,rfl,rfl,S3.ok S2 ⋯,?_⟩⟩⟩⟩⟩;refine exI rfl (exI rfl ⟨_,_,_,_,rfl,rfl,P1,rfl,⟨_,_,_,_,rfl,rfl,P2,rfl,exI rfl ⟨_,_,_,_,rfl,rfl,Q1,rfl,⟨_,_,_,_,rfl,rfl,Q2,rfl,⟨_,_,rfl,rfl,S1.ok S4 ⋯,⟨_,_,rfl,rfl,?_⟩⟩⟩⟩⟩⟩);refine exI rfl ⟨_,_,_,_,rfl,rfl,P1,rfl,⟨_,_,_,_,rfl,rfl,P2,rfl,exI rfl ⟨_,_,_,_,rfl,rfl,Q1,rfl,⟨_,_,_,_,rfl,rfl,Q2,rfl,⟨_,_,rfl,rfl,S1.ok S4 ⋯,exI rfl ⟨_,_,rfl,rfl,S14.ok st ⋯,exI rfl (exI rfl ⟨_,_,rfl,rfl,Sw.ok sp ⋯,⟨_,_,rfl,rfl,?_⟩⟩)⟩⟩⟩⟩⟩⟩;have hB:1<=lb*rb*total:=by have a:=bw l1 r1 ⋯ ⋯;rw[bj]at a;have b:=bw a h2 ⋯ ⋯;rw[bj]at b;exact b
 refine exI rfl (exI rfl (exI rfl ⟨_,_,rfl,rfl,S24.ok st ⋯,_,_,rfl,hB,(S24.mul st).mono ⋯,λpt npt=>⟨sz1,λpl npl=>?_⟩⟩));exact fin part total h0 h1 h2 e sp st pt npt pl npl
def qw3 (K:Aa):Sp:=λvs H Q _=>∃(a b:Aj) (P:Int×Int) (ks:List Int),vs=[.ref a,.ref b]/\SqT K H a [.int P.1,.int P.2]/\SqL K H b (ks.map V.int)/\(∀x∈ks,0<=x/\x<=24)/\Q (.bl (jd ks P)) H
include T in
theorem wjy (F:Fun K "_law_within" "_law_within" zbq f fd):FK P w K mg base 1 f fd ["_law_point_here","_law_wholes"] (qw3 K):=by
 have sc:=qxt;refine F.okX sc (λvs H Q E h=>by obtain⟨_,_,_,_,rfl,_⟩:=h;rfl) λ_ _ _ _ H vs Q E hr h=>?_;obtain⟨a,b,pt,ks,rfl,hA,hB,hk,k⟩:=h;refine⟨_,(qj (jx bh rfl (vc (pv 1)) (xy (i:=2)) (qh (zr (PW.pt (Yt (wt qwn (wz xk (pv 2) (wv wb (pv 0) qx (λ_ _=>rfl))) (wv wb (pv 0) qx (λ_ _=>rfl)) (xv _)) (W1 (wt qwn (wv wb (pv 0) qx (λ_ _=>rfl)) (wz xk (wz x9 (pv 2) qx) (wv wb (pv 0) qx (λ_ _=>rfl))) (xv _))))) (qh (xw qqb)) xg)))
   (qh (xw qqb))),?_⟩
 refine exI rfl ⟨b,rfl,⟨_,hB⟩,qzh (xs:=ks.map V.int) (λi σ H'=>H'=H/\(∀x∈ks.take i,inK pt x=false)/\∃z,σ=[some (.ref a),some (.ref b),z]) ⟨rfl,λx hx=>(by cases hx),_,rfl⟩ (λi σ H' _ h=>by rw[h.1];exact hB) ?_ ?_⟩
 .rintro i v σ H1 ev ⟨rfl,hno,z,rfl⟩;rw[aA]at ev;obtain⟨x,ex,rfl⟩:=Option.map_eq_some_iff.mp ev;obtain⟨x0,x1⟩:=hk x (aC ex);have nx:¬ (x*pt.2<=pt.1/\pt.1<=(x+1)*pt.2)->∀y∈ks.take (i+1),inK pt y=false:=λh y hy=>by
   rcases(kj ex y).mp hy with g|rfl
   .exact hno y g
   .exact bb h
  refine exI rfl (exI rfl (exX rfl rfl hA rfl (wp rfl rfl ⟨IntMulOk.of_left (intBits_le_64 ⋯ ⋯),exI rfl (exX rfl rfl hA rfl (wp rfl rfl (exI rfl (kr (λy=>?_) (λy=>?_)))))⟩)))
  .refine exI rfl (exX rfl rfl hA rfl (exI rfl (wp rfl rfl (exI rfl (exX rfl rfl hA rfl (wp rfl rfl ⟨IntMulOk.of_left (intBits_le_64 ⋯ ⋯),wp rfl rfl (exI rfl (kr (λu=>?_) (λu=>⟨rfl,nx λz=>u z.2,_,rfl⟩)))⟩))))));have e:jd ks pt=true:=eX.mpr ⟨x,aC ex,aS ⟨y,u⟩⟩;rw[e]at k;exact k
  .exact jz ⟨rfl,nx λz=>y z.1,_,rfl⟩
 .rintro σ H1 ⟨rfl,hno,z,rfl⟩;have e:jd ks pt=false:=by rw[show jd ks pt=ks.any (inK pt) from rfl,List.any_eq_false];intro x hx;rw[hno x (by rw[ag,bn];exact hx)];decide
  rw[e]at k;exact k
theorem kf (h:Paired (PtV H) us ms)(k:∀b o,(∀xs,o≠.lst xs)->H b=some o->H' b=some o):Paired (PtV H') us ms:=Paired.imp' (λv p ⟨a,e,f⟩=>⟨a,e,k _ _ (λxs z=>by cases z) f⟩) h
theorem wv0 {R:α->β->Prop}:∀(n:Nat) {xs:List α} {ys:List β},Paired R xs ys->Paired R (xs.drop n) (ys.drop n)
 |0,_,_,h=>h
 |n+1,_,_,.nil=>.nil
 |n+1,_,_,.cons _ t=>wv0 n t
theorem wzm {R:α->β->Prop}:∀(n:Nat) {xs:List α} {ys:List β},Paired R xs ys->Paired R (xs.take n) (ys.take n)
 |0,_,_,_=>.nil
 |n+1,_,_,.nil=>.nil
 |n+1,_,_,.cons r t=>.cons r (wzm n t)
theorem wy5 {R:V->Int×Int->Prop}(h:Paired R us ps):∃qs,Paired R (Yd us (some (-1)) none) qs/\∀P,P∈qs↔ps.getLast?=some P:=by
 have hl:=h.length;unfold Yd;refine⟨_,wzm _ (wv0 _ h),λP=>?_⟩;rcases Nat.eq_zero_or_pos ps.length with z|z
 .rw[iI.mp z];simp
 .have e1:HT.sIx us.length 0 (some (-1))=ps.length-1:=by have:=HT.clip_eq (-1) us.length 0;rw[aw ⋯]at this;lia
  rw[e1,HT.sIx_none,hl,dU,show ps.length-(ps.length-1)=1 by lia];have hd:ps.drop (ps.length-1)=[ps[ps.length-1]]:=by rw[dS ⋯,show ps.length-1+1=ps.length by lia,List.drop_length]
  rw[hd,aa ⋯,cI (by simp),aH,Option.some.injEq];exact eq_comm
theorem pv_at:∀ {us:List V} {ms:List (Int×Int)} {i:Nat} {v:V} {p:Int×Int},Paired (PtV H) us ms->us[i]?=some v->ms[i]?=some p->∃a,v=.ref a/\H a=some (.tup [.int p.1,.int p.2])
 |_,_,0,_,_,.cons h _,e1,e2=>by cases e1;cases e2;exact h
 |_,_,i+1,_,_,.cons _ t,e1,e2=>pv_at (i:=i) t e1 e2
def qj1 (K:Aa):Sp:=λvs H Q _=>∃(p:Aj) (hs:List Int) (x:Int),vs=[.ref p,.int x]/\SqL K H p (hs.map V.int)/\wj hs/\1<=x/\x<=12/\(vx (xj hs (x.toNat-1))).length<=4000 /\
 ∀(q pl pw:Aj) (us:List V) (ps:List (Int×Int)) (ks:List Int) (H':Hp),Same H H'->H' q=some (.tup [.ref pl,.ref pw])->H' pl=some (.lst us)->Paired (PtR H') us ps->H' pw=some (.lst (ks.map V.int))->H pl=none->H pw=none->pl≠pw->Bk hs x.toNat ps ks->Q (.ref q) H'
include T in
theorem xwf (F:Fun K "_law_back" "_law_back" zbr f fd)(ze9:Cal P w K mg base "_law_laid" 4 (qj7 K))(zfa:Cal P w K mg base "_law_cross" 3 (qj9 K))(zfb:Cal P w K mg base "_law_within" 1 (qw3 K)):FK P w K mg base 5 f fd ["_law_heights_here","_law_many"] (qj1 K):=by
 have sc:=qyw;refine F.okX sc (λvs H Q E h=>by obtain⟨_,_,_,rfl,_⟩:=h;rfl) λ_ _ _ _ H vs Q E hr h=>?_;obtain⟨p,hs,x,rfl,hP,ok,x1,x2,short,k⟩:=h;have o1:=ok.1;have o2:=ok.2.1;have big:(1000000:Nat)<sizeLine:=by decide
 refine⟨_,(qj (wg (i:=2) (wu ze9 (hr.mono ⋯) rfl qt (qw (pv 0) (qw (pv 1) qv))))
   (qj (wg (i:=3) (vf qv))
   (qj (wg (i:=4) (vf qv))
   (qj (jx bh rfl (xh rfl T.range_ (qw (wz zm (wn xf rfl T.len_ bU (qw (pv 2) qv)) qx) qv)) (xy (i:=5)) (qj (wg (i:=6) (wv x8 (pv 2) (pv 5) (λ_ _=>rfl)))
   (qj (wg (i:=7) (wv x8 (pv 2) (wz x9 (pv 5) qx) (λ_ _=>rfl)))
   (qwu (zr (PW.pt (Yt (wt (qw9 hr.units) (wv wb (pv 6) qx (λ_ _=>rfl)) (vj (qw (wv wb (pv 6) qx (λ_ _=>rfl)) (qw qx qv))) (xv _)) (W1 (wt (qw9 hr.units) (wv wb (pv 7) qx (λ_ _=>rfl)) (vj (qw (wv wb (pv 7) qx (λ_ _=>rfl)) (qw qx qv))) (xv _))))) (qh (vy (Q0 bB bG bH vk (pv 3) (qw (wv wb (pv 6) qx (λ_ _=>rfl)) qv)))) xg)
   (qh (qyf (i:=4) sc.nd rfl (Or.inl rfl) (wu zfa (hr.mono ⋯) rfl qt (qw (pv 6) (qw (pv 7) qv))) xwq))))))
   (qj (wg (i:=8) (vf qv))
   (qj (jx bh rfl (vc (pv 4)) (xy (i:=9)) (qh (zr (PW.pt (Yt (Qz (Qb (wu zfb (hr.mono ⋯) rfl qt (qw (pv 9) (qw (pv 3) qv))))) (W1 (wt (wjf hr.units) (pv 9) (wqd wz0 (pv 8) (qyb (Qn jm qx)) xzc) rfl)))) (qh (vy (Q0 bB bG bH vk (pv 8) (qw (pv 9) qv)))) xg)))
   (qh (xw (vj (qw (pv 8) (qw (pv 3) qv))))))))))),?_⟩
 refine exI rfl (exI rfl ⟨p,hs,x,rfl,hP,ok,x1,x2,short,λpc us H1 _ s1 f1 C1=>?_⟩);have ch:=vh ok (x.toNat-1);have lc:=Wg (vt ch);have et:x.toNat-1+1=x.toNat:=Nat.sub_add_cancel (Int.lt_toNat.mpr x1);have lu:us.length=(xj hs (x.toNat-1)).length+1:=by rw[C1.1,lc]
 have mem:∀i c,(xj hs (x.toNat-1))[i]?=some c->c∈xj hs (x.toNat-1):=λi c e=>aC e;have hcell:=@Z7 _ _ _ ch;refine⟨sz0,λpw nw=>?_⟩;have s2:=Same.upd (o:=.lst []) nw;have f2:upd H1 pw (.lst []) pw=some (.lst []):=qf;have cw:pc≠pw:=wx f1 nw;have f12:=s2 _ _ f1;generalize upd H1 pw (.lst [])=H2 at s2 f2 f12;refine⟨sz0,λpm nm=>?_⟩;have s3:=Same.upd (o:=.lst []) nm;have wm:pw≠pm:=wx f2 nm;have cm:pc≠pm:=wx f12 nm;have s13:=s2.trans s3;have nw0:H pw=none:=j5 s1 nw;have nm0:H pm=none:=j5 (s1.trans s2) nm;refine exI rfl ⟨_,_,rfl,.inl (SqL.of (s3 _ _ f12)),wp rfl rfl (exI rfl ⟨⋯,⋯,?_⟩)⟩;rw[show((us.length:Int)-1).toNat=(xj hs (x.toNat-1)).length by lia];refine v6 (λi σ H'=>Same H H'/\∃(ks:List Int) (ms:List V) (Ms:List (Int×Int)) (z5 z6 z7:Option V),σ=[some (.ref p),some (.int x),some (.ref pc),some (.ref pw),some (.ref pm),z5,z6,z7,none,none]/\H' pc=some (.lst us)/\CosV H' us (vx (xj hs (x.toNat-1)))/\H' pw=some (.lst (ks.map V.int))/\(∀y∈ks,0<=y/\y<=24)/\ks.length<=i/\H' pm=some (.lst ms)/\Ms.length<=i/\Paired (PtV H') ms Ms/\MetI hs (x.toNat-1) i ks Ms)
  ⟨s1.trans s13,[],[],[],_,_,_,rfl,s3 _ _ f12,C1.same s13,s3 _ _ f2,λy hy=>(by cases hy),aT _,qf,aT _,.nil,.nil⟩ ?_ ?_
 .rintro i σ H4 hi ⟨s4,ks,ms,Ms,z5,z6,z7,rfl,fc,Cc,fw,hk,lk,fm,lm,bm,MI⟩;have ec:(xj hs (x.toNat-1))[i]?=some (xj hs (x.toNat-1))[i]:=aa hi;obtain⟨e1,e2⟩:=hcell i _ ec;have hcm:=mem i _ ec;generalize (xj hs (x.toNat-1))[i]=c at ec e1 e2 hcm;have gc:=xn ch c hcm;have u1:us[i]?=some us[i]:=aa ⋯;have u2:us[i+1]?=some us[i+1]:=aa ⋯;have a1:atI us ((0:Int)+i)=some us[i]:=by rw[ff];exact vg u1
  have a2:atI us ((0:Int)+i+1)=some us[i+1]:=by rw[show(0:Int)+i+1=((i+1:Nat):Int) by lia];exact vg u2
  have K1:=Cc.2 i _ _ u1 e1;have K2:=Cc.2 (i+1) _ _ u2 e2;generalize us[i]=vl at a1 K1;generalize us[i+1]=vr at a2 K2;refine exI rfl (exI rfl (exX rfl rfl (SqL.of fc) a1 ?_));refine exI rfl (exI rfl (wp rfl rfl (exX rfl rfl (SqL.of fc) a2 ?_)));obtain⟨qa,pa,rfl,ka,kb⟩:=id K1;obtain⟨qb,pb,rfl,kc,kd⟩:=id K2;have h24:0<=c.lft.2/\c.lft.2<=24:=by have:=gc.2.2.2.2.1;show 0<=c.a/\c.a<=24;lia
  refine⟨λσ H'=>Same H H'/\(∀b o,b≠pw->H4 b=some o->H' b=some o)/\∃ks':List Int,σ=[some (.ref p),some (.int x),some (.ref pc),some (.ref pw),some (.ref pm),some (.int ((0:Int)+i)),some (.ref qa),some (.ref qb),none,none]/\H' pw=some (.lst (ks'.map V.int))/\(∀y∈ks',0<=y/\y<=24)/\ks'.length<=i+1/\((c.Wh/\ks'=ks++[c.a])\/(¬ c.Wh/\ks'=ks)),?_,?_⟩
  .refine exI rfl (exX rfl rfl (SqT.of ka) rfl (exI rfl (exX rfl rfl (SqT.of ka) rfl ⟨sz2,λp9 n9=>?_⟩)));have s9:=Same.upd (o:=.tup [.int c.lft.2,.int 1]) n9;refine⟨ptD c.lft.1,ptD (c.lft.2,1),qxz (SqT.of (s9 _ _ kb)),qxz SqT.new,rfl,rfl,wzg,_,rfl,?_⟩;show if PyData.eqv (ptD c.lft.1) (ptD (c.lft.2,1))=true then _ else _
   generalize upd H4 p9 (.tup [.int c.lft.2,.int 1])=H9 at s9;rw[qj5];by_cases w1:c.lft.1=(c.lft.2,1);rotate_left
   .rw[bb w1];exact jz (jz ⟨s4.trans s9,λb o _ e=>s9 b o e,ks,rfl,s9 _ _ fw,hk,⋯,.inr ⟨λz=>w1 ((wwt gc.1).mpr z).1,rfl⟩⟩)
   .rw[aS w1];refine yp ?_;refine exI rfl (exX rfl rfl (SqT.of (s9 _ _ kc)) rfl (exI rfl (exX rfl rfl (SqT.of (s9 _ _ kc)) rfl ⟨sz2,λp10 n10=>?_⟩)));have s10:=Same.upd (o:=.tup [.int c.rgt.2,.int 1]) n10;have s910:=s9.trans s10;refine⟨ptD c.rgt.1,ptD (c.rgt.2,1),qxz (SqT.of (s910 _ _ kd)),qxz SqT.new,rfl,rfl,wzg,_,rfl,?_⟩;show if PyData.eqv (ptD c.rgt.1) (ptD (c.rgt.2,1))=true then _ else _
    generalize upd H9 p10 (.tup [.int c.rgt.2,.int 1])=H10 at s910;rw[qj5];by_cases w2:c.rgt.1=(c.rgt.2,1);rotate_left
    .rw[bb w2];exact jz ⟨s4.trans s910,λb o _ e=>s910 b o e,ks,rfl,s910 _ _ fw,hk,⋯,.inr ⟨λz=>w2 ((wwt gc.1).mpr z).2,rfl⟩⟩
    .rw[aS w2];refine yp ?_;refine⟨_,rfl,.inl ⟨rfl,_,SqL.of (s910 _ _ fw)⟩,_,rfl,_,_,_,_,rfl,rfl,SqT.of (s910 _ _ ka),rfl,pw,_,_,rfl,rfl,s910 _ _ fw,by rw[ag];lia,?_⟩;refine⟨Same.upd2 (s4.trans s910) nw0,λb o nb e=>by rw[q8 nb];exact s910 _ _ e,ks++[c.lft.2],rfl,by rw[qf,aW];rfl,λy hy=>?_,by rw[am];show ks.length+1<=i+1;lia,.inl ⟨(wwt gc.1).mp ⟨w1,w2⟩,rfl⟩⟩;rcases aU.mp hy with hy|hy
     .exact hk y hy
     .rw[aH.mp hy];exact h24
  rintro σ H5 ⟨s5,k5,ks',rfl,fw5,hk5,lk5,wk5⟩;have nt:∀b o,(∀xs,o≠.lst xs)->H4 b=some o->H5 b=some o:=λb o no e=>k5 b o (λz=>by rw[z,fw]at e;exact no _ (aq e).symm) e;have fc5:=k5 _ _ cw fc;have fm5:=k5 _ _ (dD wm) fm;have Cc5:=Cc.keep nt;have bm5:=kf bm nt;refine⟨_,rfl,_,rfl,_,rfl,_,_,hs,x.toNat-1,c,rfl,K1.keep nt,K2.keep nt,ok,⋯,hcm,λq6 ws L6 H6 n6 s6 f6 l6 b6 g6=>?_⟩;have fm6:=s6 _ _ fm5;refine⟨pm,q6,ms,ws,rfl,rfl,fm6,f6,by rw[bm.length,b6.length];lia,?_⟩;have kp:=qu6 (o':=.lst (ms++ws)) fm6;refine⟨Same.upd2 (s5.trans s6) nm0,ks',ms++ws,Ms++L6,_,_,_,rfl,by rw[q8 cm];exact s6 _ _ fc5,(Cc5.same s6).keep kp,by rw[q8 wm];exact s6 _ _ fw5,hk5,lk5,qf,by rw[am];lia,kf (Paired.app (kf bm5 λb o _ e=>s6 b o e) b6) kp,MI.step ok ec wk5 l6 g6⟩
 .rintro σ H4 ⟨s4,ks,ms,Ms,z5,z6,z7,rfl,fc,Cc,fw,hk,lk,fm,lm,bm,MI⟩;refine⟨sz0,λpp np=>?_⟩;have np0:=j5 s4 np;have s5:=Same.upd (o:=.lst []) np;have pmp:pm≠pp:=wx fm np;have pwp:pw≠pp:=wx fw np;refine⟨_,rfl,pm,rfl,⟨_,SqL.of (s5 _ _ fm)⟩,qzh (xs:=ms) (λi σ H'=>Same H H'/\∃(ps:List V) (Ps:List (Int×Int)) (z9:Option V),σ=[some (.ref p),some (.int x),some (.ref pc),some (.ref pw),some (.ref pm),z5,z6,z7,some (.ref pp),z9]/\H' pm=some (.lst ms)/\H' pw=some (.lst (ks.map V.int))/\Paired (PtV H') ms Ms/\H' pp=some (.lst ps)/\ps.length<=i/\Paired (PtV H') ps Ps/\PtI ks Ms i Ps)
   ⟨s4.trans s5,[],[],exI rfl ⟨s5 _ _ fm,s5 _ _ fw,kf bm λb o _ e=>s5 b o e,qf,aT _,.nil,.nil⟩⟩ (λi σ H' _ h=>by obtain⟨_,ps,Ps,z9,_,f',_⟩:=h;exact SqL.of f') ?_ ?_⟩
  .rintro i v σ H6 ev ⟨s6,ps,Ps,z9,rfl,fm6,fw6,bm6,fp6,lp6,bp6,PI⟩;have hiM:i<Ms.length:=by rw[<-bm6.length];exact(ak.mp ev).1
   have eM:Ms[i]?=some Ms[i]:=aa hiM;obtain⟨a,rfl,fa⟩:=pv_at bm6 ev eM;generalize Ms[i]=P' at eM fa;have hi:=(ak.mp ev).1;refine exI rfl (exI rfl ⟨a,pw,P',ks,rfl,SqT.of fa,SqL.of fw6,hk,?_⟩);refine exI rfl ?_;cases z:jd ks P'
   .refine yp ?_;refine exI rfl (exI rfl (exI rfl (exI rfl ⟨_,_,rfl,SqL.of fp6,λp7 n7=>?_⟩)));have s7:=Same.upd (o:=.lst (Yd ps (some (-1)) none)) n7;have f7:upd H6 p7 (.lst (Yd ps (some (-1)) none)) p7=some (.lst (Yd ps (some (-1)) none)):=qf;generalize upd H6 p7 (.lst (Yd ps (some (-1)) none))=H7 at s7 f7;obtain⟨qs,pr,lst⟩:=wy5 (kf bp6 λb o _ e=>s7 b o e);refine⟨p7,a,_,qs,P',rfl,rfl,f7,pr,s7 _ _ fa,_,rfl,?_⟩;show if(!decide (P'∈qs))=true then _ else _
    by_cases hq:P'∈qs
    .rw[aS hq];exact jz ⟨s6.trans s7,ps,Ps,_,rfl,s7 _ _ fm6,s7 _ _ fw6,kf bm6 λb o _ e=>s7 b o e,s7 _ _ fp6,⋯,kf bp6 λb o _ e=>s7 b o e,PI.same eM (List.mem_of_getLast? ((lst P').mp hq))⟩
    .rw[bb hq];refine yp ?_;have fp7:=s7 _ _ fp6;refine⟨_,rfl,.inl ⟨rfl,_,SqL.of fp7⟩,_,rfl,pp,_,_,rfl,rfl,fp7,⋯,?_⟩;have kp:=qu6 (o':=.lst (ps++[.ref a])) fp7;refine⟨Same.upd2 (s6.trans s7) np0,ps++[.ref a],Ps++[P'],_,rfl,by rw[q8 pmp];exact s7 _ _ fm6,by rw[q8 pwp];exact s7 _ _ fw6,kf (kf bm6 λb o _ e=>s7 b o e) kp,qf,by rw[am];show ps.length+1<=i+1;lia,?_,?_⟩
     .exact kf (Paired.app (kf bp6 λb o _ e=>s7 b o e) (.cons ⟨a,rfl,s7 _ _ fa⟩ .nil)) kp
     .exact PI.add MI.mup (λQ hQ=>by obtain⟨c,_,f⟩:=(MI.mmem Q).mp hQ;exact f.1) eM z λy=>hq ((lst P').mpr y)
   .exact jz (jz ⟨s6,ps,Ps,_,rfl,fm6,fw6,bm6,fp6,⋯,bp6,PI.in eM z⟩)
  .rintro σ H6 ⟨s6,ps,Ps,z9,rfl,fm6,fw6,bm6,fp6,lp6,bp6,PI⟩;refine exI rfl (exI rfl ⟨sz2,λq7 n7=>?_⟩);have s7:=Same.upd (o:=.tup [.ref pp,.ref pw]) n7;rw[bm6.length]at PI;have B:=Bk.of ok ⋯ MI PI;rw[et]at B;exact k q7 pp pw ps Ps ks _ (s6.trans s7) qf (s7 _ _ fp6) (kf bp6 λb o _ e=>s7 b o e) (s7 _ _ fw6) np0 nw0 (dD pwp) B
def qjq (K:Aa)(TT:Aj):Sp:=λvs H Q _=>∃(a:Aj) (ns:List Int),vs=[.ref a]/\SqL K H a (ns.map V.int)/\ns.length<=63/\H TT=some (.tbl #[])/\∀H',Q (.bl true) H'
theorem sz3 {x y z:V}:[x,y,z].length<=sizeLine:=by show 3<=sizeLine;decide
theorem Yr (f:SqL K H p (xs.map V.int)):RD K H (.list (xs.map .int)) (.ref p):=by rw[RD];exact⟨p,exI rfl ⟨f,wkk xs⟩⟩
theorem Wk (xs:List Int):(PyData.list (xs.map .int)).canLay0=true:=by rw[PyData.canLay0];exact quy xs
theorem wwx (xs ys:List Int):min (PyData.list (xs.map .int)).depth (PyData.list (ys.map .int)).depth<=60:=by have h1:=qxv xs;simp only[PyData.depth];lia
theorem qw4 (xs:List Int):PyData.eqv (.list (xs.map .int)) (.list (xs.map .int))=true:=by rw[PyData.eqv,qzw,aS rfl]
theorem wu3 {lp lw:Aj}(f:H q=some (.tup [.ref lp,.ref lw]))(f1:H lp=some (.lst us))(p:Paired (PtR H) us ps)(f2:H lw=some (.lst (ws.map V.int))):RD K H (.tuple [.list (ps.map ptD),.list (ws.map .int)]) (.ref q):=by rw[RD];exact⟨q,exI rfl ⟨SqT.of f,by rw[RDs];exact⟨_,_,rfl,PtsAt.rd ⟨_,f1,p⟩,by rw[RDs];exact⟨_,_,rfl,Yr (SqL.of f2),by rw[RDs]⟩⟩⟩⟩
theorem wz8 (ps:List (Int×Int))(ws:List Int):(PyData.tuple [.list (ps.map ptD),.list (ws.map .int)]).canLay0=true:=by rw[PyData.canLay0,PyData.canLayAll0,PyData.canLayAll0,PyData.canLayAll0,qyr,Wk];rfl
theorem xzg (ps qs:List (Int×Int))(ws vs:List Int):min (PyData.tuple [.list (ps.map ptD),.list (ws.map .int)]).depth (PyData.tuple [.list (qs.map ptD),.list (vs.map .int)]).depth<=60:=by have h1:=qjc ps;have h2:=qxv ws;simp only[PyData.depth,PyData.depthAll];lia
theorem xx8 (ps:List (Int×Int))(ws:List Int):PyData.eqv (.tuple [.list (ps.map ptD),.list (ws.map .int)]) (.tuple [.list (ps.map ptD),.list (ws.map .int)])=true:=by rw[PyData.eqv,PyData.eqvAll,PyData.eqvAll,PyData.eqvAll,wz9,qw4];rfl
theorem qzf (k:Kp H H'){us:List V}{ps:List (Int×Int)}(p:Paired (PtR H) us ps):Paired (PtR H') us ps:=qxy (λ_ _ ⟨a,e,f⟩=>⟨a,e,k.tup f⟩) p
include T in
theorem zfc {f:Aj}{fd:Ad}{TT:Aj}(F:Fun K "law" "law" zbx f fd)(zab:Cal P w K mg base "_law_pick" 2 (Jx K))(zfd:Cal P w K mg base "_law_heights" 4 (Y8 K))(zfe:CCal P w K mg base "Road" qy 2 (qk8 K qr qy))(zff:Cal P w K mg base "_law_times" 2 (qjm K))
  (zd6:Cal P w K mg base "back" 8 (wxb qy TT)) (zfg:Cal P w K mg base "_law_back" 5 (qj1 K)) (zfh:Cal P w K mg base "_law_points" 3 (qw2 K)) (zfi:Cal P w K mg base "_law_numbers" 2 (Jf K)) (zfj:MCal P w K mg base qy "corners" 1 (Ju qy)) :
  FK P w K mg base 9 f fd ["_law_script"] (qjq K TT):=by
 have sc:=zeb;refine F.okX sc (λvs H Q E h=>by obtain⟨_,_,rfl,_⟩:=h;rfl) λ_ _ _ _ H vs Q E hr h=>?_;obtain⟨a,ns,rfl,hS,hl,hT,k⟩:=h;refine⟨_,(qj (wg (i:=1) (wu zfd (hr.mono ⋯) rfl qt (qw (pv 0) (qw qx (qw (wv x8 (vf (qw qx (qw qx (qw qx qv)))) (wu zab (hr.mono ⋯) rfl qt (qw (pv 0) (qw qx (qw qx (qw qx qv))))) (λ_ _=>rfl)) qv)))))
   (qj (wg (i:=2) (wv x8 (vf (qw qx (qw qx qv))) (Ws wks rfl T.int_ PyProof.Rows.boot_int (qw (yd uz (wu zab (hr.mono ⋯) rfl qt (qw (pv 0) (qw qx (qw qx (qw qx qv))))) qx (xv _)) qv)) (λ_ _=>rfl)))
   (qj (wg (i:=3) (wu zff (hr.mono ⋯) rfl qt (qw (pv 1) (qw (wz x9 qx (wu zab (hr.mono ⋯) rfl qt (qw (pv 0) (qw qx (qw qx (qw qx qv)))))) (qw (pv 2) qv)))))
   (qj (wg (i:=4) (xw8 zfe (hr.mono ⋯) rfl qt (qw (Ws uh rfl T.list_ cX (qw (pv 1) qv)) qv)))
   (qj (u7 (wu zfg (hr.mono ⋯) rfl qt (qw (pv 1) (qw (pv 3) qv))) (y7 rfl (zk (xy (i:=5)) (zk (xy (i:=6)) jb))))
   (qj (wg (i:=7) (wu zd6 (hr.mono ⋯) rfl qt (qw (pv 4) (qw (pv 3) qv))))
   (qj (zr (PW.pt (Qr (Qz (Qb (wn kn rfl T.isinstance_ cn (qw (pv 7) (qw (W6 (v:=V.ty "tuple") rfl T.tuple_ iJ rfl) qv))))) (yq (wt op_ne (wn xf rfl T.len_ bU (qw (pv 7) qv)) qx (xv _))))) (qh (xw qqb)) xg)
   (qj (zr (PW.pt (Qr (Qz (Qb (wu zfh (hr.mono ⋯) rfl qt (qw (wv wb (pv 7) qx (λ_ _=>rfl)) qv)))) (yq (Qz (Qb (wu zfi (hr.mono ⋯) rfl qt (qw (wv wb (pv 7) qx (λ_ _=>rfl)) qv))))))) (qh (xw qqb)) xg)
   (qj (zr (PW.pt (Qr (wt (wum hr.units) (wv wb (pv 7) qx (λ_ _=>rfl)) (pv 5) (xv _)) (yq (wt (wum hr.units) (wv wb (pv 7) qx (λ_ _=>rfl)) (pv 6) (xv _))))) (qh (xw qqb)) xg)
   (qj (vy (Q0 bB bG bH vk (wv wb (pv 7) qx (λ_ _=>rfl)) (qw (vj (qw qx (qw qx qv))) qv)))
   (qj (vy (Q0 bB bG bH vk (wv wb (pv 7) qx (λ_ _=>rfl)) (qw qx qv)))
   (qj (wg (i:=8) (wu zd6 (hr.mono ⋯) rfl qt (qw (pv 4) (qw (pv 3) qv))))
   (qh (xw (Y7 (yd (qw9 hr.units) (pv 8) (vj (qw (pv 5) (qw (pv 6) qv))) (xv _)) (Js (yd (qw9 hr.units) (km (pv 4) T.cl zfj (hr.mono ⋯) qt) (pv 1) (xv _)))))))))))))))))),?_⟩
 refine exI rfl ⟨sz3,λp0 n0=>?_⟩;have s0:Same H (upd H p0 (.lst [.int 5,.int 5,.int 24])):=Same.upd n0;refine exI rfl ⟨a,ns,_,_,_,rfl,s0.sql hS,⋯,⋯,⋯,⋯,λr0 _ l0 u0=>?_⟩;have ex:∃m:Int,atI [V.int 5,V.int 5,V.int 24] r0=some (.int m)/\1<=m/\m<=24:=by
  rcases(by lia:r0=0\/r0=1\/r0=2) with e|e|e
  .subst e;exact⟨5,rfl,⋯,⋯⟩
  .subst e;exact⟨5,rfl,⋯,⋯⟩
  .subst e;exact⟨24,rfl,⋯,⋯⟩
 obtain⟨m0,hm,mm1,mm2⟩:=ex;refine exX rfl rfl SqL.new hm ?_;generalize upd H p0 (.lst [.int 5,.int 5,.int 24])=H0 at s0;refine⟨a,ns,_,m0,rfl,s0.sql hS,⋯,mm1,mm2,λp hs w1 n1 a1 b1 i1=>?_⟩;have ok:wj hs:=xvu i1 a1 ⋯;have o1:=ok.1;have o2:=ok.2.1;have s1:Same H0 (upd H0 p (.lst (hs.map V.int))):=Same.upd n1;have f1:upd H0 p (.lst (hs.map V.int)) p=some (.lst (hs.map V.int)):=qf;generalize upd H0 p (.lst (hs.map V.int))=H1 at s1 f1;have s01:=s0.trans s1;refine⟨sz2,λq0 nq0=>?_⟩;have sq:Same H1 (upd H1 q0 (.lst [.int 60,.int 300])):=Same.upd nq0;refine exI rfl ⟨a,ns,_,_,_,rfl,(s01.trans sq).sql hS,⋯,⋯,⋯,⋯,λr9 _ l9 u9=>?_⟩;refine⟨rfl,.inr ((exI rfl ?_))⟩;have exr:∃rm:Int,atI [V.int 60,V.int 300] (if decide (V.int r9=V.int 1)=true then 1 else 0)=some (.int rm)/\rm<=300:=by
  split
  .exact⟨300,rfl,⋯⟩
  .exact⟨60,rfl,⋯⟩
 obtain⟨rm,hrm,rm3⟩:=exr;refine exX rfl rfl SqL.new hrm ?_;have f1q:=sq _ _ f1;generalize upd H1 q0 (.lst [.int 60,.int 300])=Hq at sq f1q;have s0q:=s01.trans sq;refine exI rfl (exI rfl ⟨a,ns,_,_,_,rfl,s0q.sql hS,⋯,⋯,⋯,⋯,λr1 _ l1 u1=>?_⟩);refine⟨_,_,rfl,rfl,_,rfl,p,hs,1+r1,rm,rfl,SqL.of f1q,ok,⋯,⋯,λmany H2 e1 e2 hx s2=>?_⟩;have s02:=s0q.trans s2;have f2:=s2 _ _ f1q;have hx3:∀i:Nat,1<=i->(i:Int)<many->crS hs (i+1)<=300:=λi h1 h2=>dF (hx i h1 h2) rm3;have cr1:crS hs many.toNat<=1000:=by
  rcases(by lia:many=1\/2<=many) with z|z
  .subst z;have:=xwt ok;show crS hs 1<=1000;lia
  .have:=hx3 (many.toNat-1) ⋯ ⋯;rw[show many.toNat-1+1=many.toNat by lia]at this;lia
 refine exI rfl ⟨_,_,rfl,.inl (SqL.of f2),λp4 n4=>?_⟩;have s4:Same H2 (upd H2 p4 (.lst (hs.map V.int))):=Same.upd n4;refineλrd d0 nx nd0 ne0=>xzj qf nx nd0 (λ_ H5 s5 R5=>?_) λz=>absurd ok z;have s45:=s4.trans s5;have f5:=s45 _ _ f2;have m1:1<=many.toNat:=by lia
 have m2:many.toNat<=12:=by lia
 refine⟨_,rfl,_,rfl,p,hs,many,rfl,SqL.of f5,ok,e1,⋯,wyc ok e1 ⋯ hx3,λqb pl pw us Ps Ks H6 s6 fq6 fl6 P6 fw6 _ _ pn6 BK=>?_⟩;refine⟨qb,exI rfl ⟨SqT.of fq6,rfl,_,_,rfl,_,_,rfl,rfl,?_⟩⟩;have T6:Q5 TT qw7 lamQ H6:=Zy (.inl hT) (s02.trans (s45.trans s6));have R6:=R5.same s6;refine⟨_,rfl,_,rfl,rd,hs,many,rfl,R6,ok,e1,⋯,cr1,T6,λb1 lp lw ys pts ws H7 k7 T7 fb7 fl7 P7 fw7 B7 nlp nlw nlpw=>?_⟩;obtain⟨ee1,ee2⟩:=Bk.uniq B7.bk BK;subst ee1 ee2;have hb7:SqT K H7 b1 [.ref lp,.ref lw]:=SqT.of fb7;refine exI rfl ⟨_,_,_,_,rfl,TyOf.tup fb7,rfl,_,rfl,jz ?_⟩;refine exI rfl ⟨_,_,rfl,.inr hb7,rfl,_,rfl,jz ?_⟩;have g1:∀p∈pts,1<=p.2/\gOf p.1 p.2=1/\zn hs p.1 p.2:=λp hp=>Yx ok m1 m2 ((B7.pmem p).mp hp).1;have pf:=B7.pfew;have wf:=B7.wfew;refine⟨_,rfl,_,_,_,_,rfl,rfl,hb7,rfl,lp,pts,rfl,⟨ys,fl7,P7⟩,⋯,λp hp=>⟨(g1 p hp).1,(g1 p hp).2.1⟩,λH8 s8=>(exI rfl (jz ?_))⟩;refine⟨_,rfl,_,_,_,_,rfl,rfl,SqT.of (s8 _ _ fb7),rfl,lw,ws,rfl,s8 _ _ fw7,⋯,λH9 s9=>(exI rfl (jz ?_))⟩;have s79:=s8.trans s9;have k69:Kp H6 H9:=k7.trans (Kp.of s79);have fb:=s79 _ _ fb7;have fl:=s79 _ _ fl7;have fw:=s79 _ _ fw7;have PP:=qzf (Kp.of s79) P7;have fpl:=k69.lst fl6;have fpw:=k69.lst fw6;have PPl:=qzf k69 P6;refine exI rfl (exX rfl rfl (SqT.of fb) rfl (exI rfl ⟨_,_,PtsAt.rd ⟨_,fl,PP⟩,PtsAt.rd ⟨_,fpl,PPl⟩,qyr _,qyr _,xx3 _ _,_,rfl,?_⟩));rw[wz9];refine jz ?_;refine exI rfl (exX rfl rfl (SqT.of fb) rfl (exI rfl ⟨_,_,Yr (SqL.of fw),Yr (SqL.of fpw),Wk _,Wk _,wwx _ _,_,rfl,?_⟩));rw[qw4];refine jz ?_;have nl6:lp≠pl:=λz=>by rw[z,fl6]at nlp;cases nlp
 have nl6':lp≠pw:=λz=>by rw[z,fw6]at nlp;cases nlp
 have nw6:lw≠pl:=λz=>by rw[z,fl6]at nlw;cases nlw
 have nw6':lw≠pw:=λz=>by rw[z,fw6]at nlw;cases nlw
 have lys:=dG PP;have big:(1000000:Nat)<sizeLine:=by decide
 refine exI rfl (exX rfl rfl (SqT.of fb) rfl ⟨.inl ⟨rfl,_,SqL.of fl⟩,sz2,λpa na=>?_⟩);have sa:Same H9 (upd H9 pa (.tup [.int 0,.int 1])):=Same.upd na;have fla:=sa _ _ fl;have k9a:Kp H6 (upd H9 pa (.tup [.int 0,.int 1])):=k69.trans (Kp.of sa);have fba:=sa _ _ fb;have fwa:=sa _ _ fw;have fpla:=sa _ _ fpl;have fpwa:=sa _ _ fpw;have PPa:=qzf (Kp.of sa) PPl;have Ta:=Zy T7 (s79.trans sa);have Ra:RoadAt qy (upd H9 pa (.tup [.int 0,.int 1])) rd hs:=by obtain⟨dx,q,h1,h2⟩:=R6;exact⟨dx,q,k9a _ _ (λ_ z=>by cases z) h1,k9a.lst h2⟩
 have fpa:=k9a.lst (s6 _ _ f5);generalize upd H9 pa (.tup [.int 0,.int 1])=Ha at fla fba fwa fpla fpwa PPa Ta Ra fpa k9a;refine⟨lp,_,_,rfl,rfl,fla,⋯,?_⟩;have fl10:upd Ha lp (.lst (ys++[.ref pa])) lw=some (.lst (ws.map V.int)):=by rw[q8 (dD nlpw)];exact fwa
 have fb10:upd Ha lp (.lst (ys++[.ref pa])) b1=some (.tup [.ref lp,.ref lw]):=by rw[q8 (λz=>by rw[z,fla]at fba;cases fba)];exact fba
 refine⟨_,rfl,_,_,_,_,rfl,rfl,SqT.of fb10,rfl,.inl ⟨rfl,_,SqL.of fl10⟩,lw,_,_,rfl,rfl,fl10,by rw[ag];lia,?_⟩;have kk:∀b o,H6 b=some o->(∀ps,o≠HO.tbl ps)->upd (upd Ha lp (.lst (ys++[.ref pa]))) lw (.lst (ws.map V.int++[.int 0])) b=some o:=λb o e no=>by have e2:=k9a b o no e;rw[q8 (λz=>by rw[z]at e;rw[e]at nlw;cases nlw),q8 (λz=>by rw[z]at e;rw[e]at nlp;cases nlp)];exact e2
 have T11:=xw5 (o:=.lst (ws.map V.int++[.int 0])) (xw5 (o:=.lst (ys++[.ref pa])) Ta fla) fl10;have k11:Kp H6 (upd (upd Ha lp (.lst (ys++[.ref pa]))) lw (.lst (ws.map V.int++[.int 0]))):=λb o no e=>kk b o e no;generalize upd (upd Ha lp (.lst (ys++[.ref pa]))) lw (.lst (ws.map V.int++[.int 0]))=H11 at T11 k11;have R11:RoadAt qy H11 rd hs:=by obtain⟨dx,q,h1,h2⟩:=R6;exact⟨dx,q,k11 _ _ (λ_ z=>by cases z) h1,k11.lst h2⟩
 refine⟨_,rfl,_,rfl,rd,hs,many,rfl,R11,ok,e1,⋯,cr1,T11,λb2 lp2 lw2 ys2 pts2 ws2 H12 k12 T12 fb12 fl12 P12 fw12 B12 _ _ _=>?_⟩;obtain⟨ee3,ee4⟩:=Bk.uniq B12.bk BK;subst ee3 ee4;have k612:=k11.trans k12;refine exI rfl (exI rfl (exI rfl ⟨sz2,λpt npt=>?_⟩));have s13:Same H12 (upd H12 pt (.tup [.ref pl,.ref pw])):=Same.upd npt;have f13:upd H12 pt (.tup [.ref pl,.ref pw]) pt=some (.tup [.ref pl,.ref pw]):=qf;generalize upd H12 pt (.tup [.ref pl,.ref pw])=H13 at s13 f13;have k613:Kp H6 H13:=k612.trans (Kp.of s13);refine⟨_,_,wu3 (s13 _ _ fb12) (s13 _ _ fl12) (qzf (Kp.of s13) P12) (s13 _ _ fw12),wu3 f13 (k613.lst fl6) (qzf k613 P6) (k613.lst fw6),wz8 _ _,wz8 _ _,xzg _ _ _ _,_,rfl,?_⟩;rw[xx8];refine yp ?_;have R13:RoadAt qy H13 rd hs:=by obtain⟨dx,q,h1,h2⟩:=R6;exact⟨dx,q,k613 _ _ (λ_ z=>by cases z) h1,k613.lst h2⟩
 obtain⟨dx,q9,h1,h2⟩:=id R13;refine exI rfl ⟨rd,dx,exI rfl ⟨h1,xr (by decide +kernel),rd,hs,rfl,R13,λp18 n18=>?_⟩⟩;refine exI rfl ⟨_,_,Yr SqL.new,Yr (SqL.of ((Same.upd n18) _ _ (k613.lst (s6 _ _ f5)))),Wk _,Wk _,wwx _ _,?_⟩;show Q (.bl (PyData.eqv (.list (hs.map .int)) (.list (hs.map .int)))) _;rw[qw4];exact k _
end
section
theorem all_mk {l:PySem.W.OpenLaw}{w:Ah}{K:Aa}{h:Heap}{mg:Str->Option Ag}{fa cO TT:Aj}{qr:Aj}{qk:Aj}{qg:Aj}{qu:Aj}{qp:Aj}{qm:Aj}{qy:Aj}{zd7:Tok}{zd8:Tok}{zd9:Tok}{zea:Tok}(X:K.In h)(G:h.Ns mainGlobals mg)(hfa:mg "law" = some (.ref fa))
  (zb4:DefIn K "_law_cell" zbf)
  (zb5:DefIn K "_law_pick" zbg)
  (zb6:DefInD K "check_count" zai)
  (zb7:DefIn K "check_bottom" zax)
  (zb8:DefIn K "is_line" za6)
  (zb9:DefIn K "covered" zaq)
  (zca:DefIn K "covers_of" zar)
  (zcb:DefIn K "ways_of_no_step" zas)
  (zcc:DefIn K "one_step_more" zat)
  (zcd:DefIn K "ways_up_to" zau)
  (zce:DefIn K "rows_from" zav)
  (zcf:DefIn K "rows" zaw)
  (zcg:DefIn K "common_divisor" zay)
  (zch:DefIn K "lowest" zaz)
  (zci:DefInT K "ordered" zaj cO) (hC:PySem.W.codeHdIn K cO TT=true)
  (zcj:DefIn K "walked" za0)
  (zck:DefIn K "corners_back" za3)
  (zcl:DefIn K "lies_in" za4)
  (zcm:DefIn K "line_along" za1)
  (zcn:DefIn K "fixed_point" za2)
  (zco:DefIn K "back" za5)
  (zcp:DefIn K "_law_climb" zbh)
  (zcq:DefIn K "_law_heights" zbi)
  (zcr:DefIn K "_law_crowds" zbj)
  (zcs:DefIn K "_law_times" zbk)
  (zct:DefIn K "_law_common" zbl)
  (zcu:DefIn K "_law_low" zbm)
  (zcv:DefIn K "_law_between" zbn)
  (zcw:DefIn K "_law_laid" zbo)
  (zcx:DefIn K "_law_cross" zbp)
  (zcy:DefIn K "_law_within" zbq)
  (zcz:DefIn K "_law_back" zbr)
  (zc0:DefIn K "_law_whole" zbs)
  (zc1:DefIn K "_law_point" zbt)
  (zc2:DefIn K "_law_points" zbu)
  (zc3:DefIn K "_law_numbers" zbv)
  (zc4:DefIn K "law" zbx)
  (zc5:PySem.W.nsIn K mainGlobals "BadLine" = some (some (.ref qr)))
  (zak:PySem.W.excIn K qr [.type "ValueError",.type "Exception",.type "BaseException",.type "object"] "ValueError.__new__" = true)
  (zc6:PySem.W.nsIn K mainGlobals "BadBottom" = some (some (.ref qk)))
  (zal:PySem.W.excIn K qk [.type "ValueError",.type "Exception",.type "BaseException",.type "object"] "ValueError.__new__" = true)
  (zc7:PySem.W.nsIn K mainGlobals "OffRoad" = some (some (.ref qg)))
  (zam:PySem.W.excIn K qg [.type "ValueError",.type "Exception",.type "BaseException",.type "object"] "ValueError.__new__" = true)
  (zc8:PySem.W.nsIn K mainGlobals "BadCount" = some (some (.ref qu)))
  (zan:PySem.W.excIn K qu [.type "ValueError",.type "Exception",.type "BaseException",.type "object"] "ValueError.__new__" = true)
  (zc9:PySem.W.nsIn K mainGlobals "TooLong" = some (some (.ref qp)))
  (zao:PySem.W.excIn K qp [.type "ValueError",.type "Exception",.type "BaseException",.type "object"] "ValueError.__new__" = true)
  (zda:PySem.W.nsIn K mainGlobals "BadRow" = some (some (.ref qm)))
  (zap:PySem.W.excIn K qm [.type "ValueError",.type "Exception",.type "BaseException",.type "object"] "ValueError.__new__" = true)
  (zdb:PySem.W.nsIn K mainGlobals "Road" = some (some (.ref qy)))
  (zdc:PySem.W.plainGet K qy Str.empty=true)
  (zdd:PySem.W.hasDictIn K qy=true)
  (zde:PySem.W.plainOver K qy=true)
  (zdf:PySem.W.findIn K (.ref qy) "__setattr__" = some (some (.builtin "object.__setattr__")))
  (zdg:PySem.W.makesIn K qy=true)
  (zdh:PySem.W.keepIn K (.ref qy)=true)
  (zdi:MethIn K qy "__init__" "Road.__init__" za7)
  (zdj:MethIn K qy "width" "Road.width" za8)
  (zdk:MethIn K qy "corners" "Road.corners" za9)
  (zdl:MethIn K qy "ends" "Road.ends" zba)
  (zdm:MethIn K qy "reach" "Road.reach" zbc)
  (zdn:MethIn K qy "slope" "Road.slope" zbb)
  (zdo:MethIn K qy "on_road" "Road.on_road" zbd)
  (zdp:MethIn K qy "at" "Road.at" zbe)
  (zdq:PySem.W.findIn K (.ref qy) "heights" = some none)
  (zac:PySem.W.nsIn K mainGlobals "WIDEST" = some (some (.int 24 zd7)))
  (zad:PySem.W.nsIn K mainGlobals "LONGEST_ROW" = some (some (.int 12 zd8)))
  (zae:PySem.W.nsIn K mainGlobals "MOST_WAYS" = some (some (.int 1000 zd9)))
  (zaf:PySem.W.nsIn K mainGlobals "MOST_WALKED" = some (some (.int 1000 zea)))
  (zdr:PySem.W.nsIn K mainGlobals "len" = some none)
  (zds:PySem.W.nsIn K mainGlobals "abs" = some none)
  (zdt:PySem.W.nsIn K mainGlobals "range" = some none)
  (zdu:PySem.W.nsIn K mainGlobals "isinstance" = some none)
  (zdv:PySem.W.nsIn K mainGlobals "int" = some none)
  (zdw:PySem.W.nsIn K mainGlobals "bool" = some none)
  (zdx:PySem.W.nsIn K mainGlobals "list" = some none)
  (zdy:PySem.W.nsIn K mainGlobals "tuple" = some none)
  (zdz:PySem.W.nsIn K mainGlobals "min" = some none)
  (zd0:PySem.W.nsIn K mainGlobals "max" = some none)
  (zd1:PySem.W.nsIn K mainGlobals "all" = some none)
  (zd2:PySem.W.nsIn K mainGlobals "any" = some none)
  (zd3:PySem.W.nsIn K mainGlobals "sum" = some none)
  (zd4:PySem.W.nsIn K mainGlobals "sorted" = some none)
  (zd5:PySem.W.nsIn K mainGlobals "zip" = some none) :
  ∃fd:Ad,(∀(s:Ab) (v:Ag),BindsTo s fd ⟨[v],[]⟩ [("_law_script",v)])/\∀base:Heap,K.In base->base.Ns mainGlobals mg->BMain mg base->FnOk l.prog w K mg base (CXE l.prog w) 9 fa fd ["_law_script"] (qjq K TT):=by
 have T:Txt K mg qr qk qg qu qp qm qy:=⟨bz X G zdr,bz X G zds,bz X G zdt,bz X G zdu,bz X G zdv,bz X G zdw,bz X G zdx,bz X G zdy,bz X G zdz,bz X G zd0,bz X G zd1,bz X G zd2,bz X G zd3,bz X G zd4,bz X G zd5,b9 X G zc5,⟨zak⟩,b9 X G zc6,⟨zal⟩,b9 X G zc7,⟨zam⟩,b9 X G zc8,⟨zan⟩,b9 X G zc9,⟨zao⟩,b9 X G zda,⟨zap⟩,⟨zdc,zdd,zde,zdf⟩,zdq,⟨zd7,b9 X G zac⟩,b9 X G zdb,⟨zd8,b9 X G zad⟩,⟨zd9,b9 X G zae⟩,⟨zea,b9 X G zaf⟩⟩;obtain⟨f,fd,a,F⟩:=zc4.ex;have e:=hfa.symm.trans (b9 X G a);cases e;refine⟨fd,λs v=>?_,λbase kb nb hB=>?_⟩
 .obtain⟨oc,od,kV,doc,pm,an,cdv,ct,osl,rfl,lk,hcd⟩:=F.ex;exact .of_eq rfl
 .have c1:Cal l.prog w K mg base "_law_cell" 1 (wzj K):=zb4.cal X G qyx λf fd F=>xx9 T F;have c2:Cal l.prog w K mg base "_law_pick" 2 (Jx K):=zb5.cal X G qkt λf fd F=>xv0 T F c1;have c3:CalD l.prog w K mg base "check_count" 1 (qq7 qu):=zb6.cal X G qx0 qxc λf fd F=>wuw T F;have c4:Cal l.prog w K mg base "check_bottom" 1 (qwb qk):=zb7.cal X G qq5 λf fd F=>xwu T F;have c5:Cal l.prog w K mg base "is_line" 1 (qx6 K):=zb8.cal X G wwm λf fd F=>wzw T F;have c6:CCal l.prog w K mg base "Road" qy 2 (qk8 K qr qy):=zdi.ccal T.zei zdg zdh Jt λf fd F=>xz8 T F c5;have c7:MCal l.prog w K mg base qy "width" 1 (j3 qy):=zdj.cal qvg λf fd F=>xq2 T F;have c8:MCal l.prog w K mg base qy "corners" 1 (Ju qy):=zdk.cal qq0 λf fd F=>ww6 T F;have c9:MCal l.prog w K mg base qy "ends" 2 (Jp qy qm):=zdl.cal qk5 λf fd F=>xvx T F c7;have c10:MCal l.prog w K mg base qy "reach" 3 (qkp qy qm):=zdm.cal qzp λf fd F=>xwm T F c9;have c11:MCal l.prog w K mg base qy "slope" 3 (qj6 qy qm):=zdn.cal qvr λf fd F=>xqn T F c9;have c12:Cal l.prog w K mg base "covered" 4 (Y4 qy qm):=zb9.cal X G wwc λf fd F=>ww5 T F c10;have c13:Cal l.prog w K mg base "covers_of" 5 (Qk qy):=zca.cal X G qkn λf fd F=>qyu T F c7 c12;have c14:Cal l.prog w K mg base "ways_of_no_step" 1 qzq:=zcb.cal X G Zh λf fd F=>wxm T F;have c15:∀hs,wj hs->Cal l.prog w K mg base "one_step_more" 1 (Y6 hs):=λhs ok=>zcc.cal X G qqz λf fd F=>wqq ok F T;have c16:Cal l.prog w K mg base "ways_up_to" 6 (qxj qy):=zcd.cal X G qzr λf fd F=>ww1 T F c13 c7 c14 c15;have c17:Cal l.prog w K mg base "rows_from" 1 Zd:=zce.cal X G qys λf fd F=>qjx T F;have c18:Cal l.prog w K mg base "rows" 7 (wxh qy qu qp):=zcf.cal X G xz1 λf fd F=>xxp T F c3 c16 c13 c7 c17;have c19:Cal l.prog w K mg base "common_divisor" 1 qzm:=zcg.cal X G Yk λf fd F=>zem T F;have c20:Cal l.prog w K mg base "lowest" 2 (Wu qk):=zch.cal X G wjt λf fd F=>wjv T F c4 c19;have c21:Cal l.prog w K mg base "ordered" 6 (wuc K TT qk):=zci.cal X G wxj λf fd F=>zez F T hB hC c4;have c22:MCal l.prog w K mg base qy "on_road" 3 (Z3 K qy qk qg):=zdo.cal qqg λf fd F=>wxz T F c7 c20;have c23:MCal l.prog w K mg base qy "at" 4 (spAt K qy qk qg):=zdp.cal wwd λf fd F=>zeo T F c7 c20 c9 c22;have c24:Cal l.prog w K mg base "walked" 5 (qwp K qy qk qg qu):=zcj.cal X G wj9 λf fd F=>wyd T F c3 c22 c23;have c25:Cal l.prog w K mg base "corners_back" 6 (qjw qy):=zck.cal X G qqt λf fd F=>xw1 T F c7 c24;have c26:Cal l.prog w K mg base "lies_in" 1 (ww4 K):=zcl.cal X G ww3 λf fd F=>xvk T F;have c27:Cal l.prog w K mg base "line_along" 4 (qju K qy):=zcm.cal X G qvn λf fd F=>wu8 T F c11 c9;have c28:Cal l.prog w K mg base "fixed_point" 5 (qj8 K qy):=zcn.cal X G qw6 λf fd F=>wux T F c27 c20;have c29:Cal l.prog w K mg base "back" 8 (wxb qy TT):=zco.cal X G xz9 λf fd F=>xv2 T F c18 c28 c25 c26 c21;have c30:Cal l.prog w K mg base "_law_climb" 3 (qwv K):=zcp.cal X G qvd λf fd F=>xxd T F c2;have c31:Cal l.prog w K mg base "_law_heights" 4 (Y8 K):=zcq.cal X G qqh λf fd F=>wxq T F c2 c30;have c32:Cal l.prog w K mg base "_law_crowds" 1 (qzn K):=zcr.cal X G qwm λf fd F=>wkh T F;have c33:Cal l.prog w K mg base "_law_times" 2 (qjm K):=zcs.cal X G qz7 λf fd F=>wug T F c32;have c34:Cal l.prog w K mg base "_law_common" 1 qzm:=zct.cal X G qzd λf fd F=>wj4 T F;have c35:Cal l.prog w K mg base "_law_low" 2 wkx:=zcu.cal X G qup λf fd F=>ze7 T F c34;have c36:Cal l.prog w K mg base "_law_between" 3 (wxy K):=zcv.cal X G qqf λf fd F=>xz5 T F c35;have c37:Cal l.prog w K mg base "_law_laid" 4 (qj7 K):=zcw.cal X G qyy λf fd F=>xwk T F c36;have c38:Cal l.prog w K mg base "_law_cross" 3 (qj9 K):=zcx.cal X G qz3 λf fd F=>wy6 T F c35;have c39:Cal l.prog w K mg base "_law_within" 1 (qw3 K):=zcy.cal X G qzu λf fd F=>wjy T F;have c40:Cal l.prog w K mg base "_law_back" 5 (qj1 K):=zcz.cal X G qj4 λf fd F=>xwf T F c37 c38 c39;have c41:Cal l.prog w K mg base "_law_whole" 1 qwq:=zc0.cal X G qvz λf fd F=>xqg T F;have c42:Cal l.prog w K mg base "_law_point" 2 (qk3 K):=zc1.cal X G qvj λf fd F=>xqs T F c41 c34;have c43:Cal l.prog w K mg base "_law_points" 3 (qw2 K):=zc2.cal X G qws λf fd F=>wk7 T F c42;have c44:Cal l.prog w K mg base "_law_numbers" 2 (Jf K):=zc3.cal X G qqp λf fd F=>wxr T F c41;exact zfc T F c2 c31 c6 c33 c29 c40 c43 c44 c8
theorem walk {l:PySem.W.OpenLaw}{q:Ac}{loose:List Str}{XP:(Str->Option Ag)->Heap->Prop}{YP:Ah->Heap->Prop}{d:DefRec}{K:Params->Aa}{cO TT:Aj}(hn:l.most=some 63)(hdf:d.params.defaults=[])
  (hY:∀(w:Ah) (h:Heap),YP w h->(K w.params).In h/\h.get? TT=some (PySem.W.tabObj #[])) (hcT:∀p,PySem.W.codeHdIn (K p) cO TT=true) (hKT:∀p,(K p).lookup TT=none)
  (F:∀(w:Ah) (mg:Str->Option Ag) (fa:Aj) (h:Heap),(K w.params).In h->h.Ns mainGlobals mg->mg d.name=some (.ref fa) ->
   ∃fd:Ad,(∀(s:Ab) (u:Ag),BindsTo s fd ⟨[u],[]⟩ [("_law_script",u)])/\∀base:Heap,(K w.params).In base->base.Ns mainGlobals mg->BMain mg base->FnOk l.prog w (K w.params) mg base (CXE l.prog w) 9 fa fd ["_law_script"] (qjq (K w.params) TT)) :
  PySem.W.WalkO q loose XP YP l.row.toRowW d [] (λf vs=>PySem.call f vs) :=
 L2.wuf (n:=63) (k:=9) (x := "_law_script") (CX:=λw=>CXE l.prog w) (sp:=λw=>qjq (K w.params) TT) hn ⋯ hdf ⟨rfl,⋯,⋯⟩ hY hcT hKT F (λ_ _ a ns hl hT hS=>⟨a,ns,rfl,hS,hl,hT,λ_=>rfl⟩) λ_ _ _ _ _ z=>CXE.no z
end
end My
open PySem PySem.W PyProof.Rows
local macro_rules | `(tactic| walk_at "defT")=>`(tactic| (refine' L2.xzh ?a ?l ?c ?k;(case a=>k_is);(case l=>k_is);(case c=>k_is);(case k=>k_is)))
local macro_rules | `(tactic| walk_at "def")=>`(tactic| (refine' L2.def_mk ?a ?l ?c ?k;(case a=>k_is);(case l=>k_is);(case c=>k_is);(case k=>k_is)))
local macro_rules | `(tactic| walk_at "defD")=>`(tactic| (refine' L2.xzf ?a ?l ?c ?k ?t;(case a=>k_is);(case l=>k_is);(case c=>k_is);(case k=>k_is);(case t=>k_is)))
local macro_rules | `(tactic| walk_at "meth")=>`(tactic| (refine' L2.xvh ?a ?i ?l ?c ?k;(case a=>k_is);(case i=>k_is);(case l=>k_is);(case c=>k_is);(case k=>k_is)))
section
open Lean
local macro_rules|`(universe $x*)=>do let mut r:=#[];for i in x do {let s:=i.getId.toString;let n:=((s.drop 1).toString.splitOn "_").map String.toNat!;for j in [n.head!:n.getLast!+1] do {r:=r.push (<-`(command|theorem $(mkIdent (.str `PySem.W.Fast s!"tw{(Name.str `PySem.Challenge.cw_crookroad_k22_whole_who_is_back_holds ((match s.front with|'h'=>"heap_"|'t'=>"tree_"|'v'=>"view_"|'s'=>"sts_"|'e'=>"env_"|_=>"o_")++toString j)).hash}")):ident:True:=trivial))}};return mkNullNode r
universe h39 h46 h466 t47 t63 t78 t93 t108 t123 t138 t183 t259 t273 t345 t425 t465 v39 o43_465 s49 s64 s79 s94 s109 s124 s139 s184 s260 s274 s346 s426 e41
end
theorem PySem.W.Fast.tw8359891190140417453:True:=trivial
theorem PySem.W.Fast.tw18405266775197365906:True:=trivial
set_option maxRecDepth 100000 in
set_option maxHeartbeats 0 in
theorem PySem.Challenge.cw_crookroad_k22_whole_who_is_back_holds : PySem.Challenge.rw_crookroad_k22_whole_who_is_back.Holds := by
 w_on;o_law;k_head;(case hw=>w_witness2)
 k_fill
 refine My.walk (l:=PySem.Challenge.rw_crookroad_k22_whole_who_is_back) (cO:=171) (TT:=169) rfl rfl (fun w h Y=>⟨PySem.W.km_in_of Y,PySem.W.km_tabs_of Y 169 (.head _)⟩) (fun p=>by kernel_rfl) (fun p=>by kernel_rfl) ?F
 case F =>
  intro w mg fa h KX G hmg
  refine' My.all_mk (cO:=171) (TT:=169) KX G hmg ?zb4 ?zb5 ?zb6 ?zb7 ?zb8 ?zb9 ?zca ?zcb ?zcc ?zcd ?zce ?zcf ?zcg ?zch ?zci ?hC ?zcj ?zck ?zcl ?zcm ?zcn ?zco ?zcp ?zcq ?zcr ?zcs ?zct ?zcu ?zcv ?zcw ?zcx ?zcy ?zcz ?zc0 ?zc1 ?zc2 ?zc3 ?zc4 ?zc5 ?zak ?zc6 ?zal ?zc7 ?zam ?zc8 ?zan ?zc9 ?zao ?zda ?zap ?zdb ?zdc ?zdd ?zde ?zdf ?zdg ?zdh ?zdi ?zdj ?zdk ?zdl ?zdm ?zdn ?zdo ?zdp ?zdq ?zac ?zad ?zae ?zaf ?zdr ?zds ?zdt ?zdu ?zdv ?zdw ?zdx ?zdy ?zdz ?zd0 ?zd1 ?zd2 ?zd3 ?zd4 ?zd5
  (case zb4=>walk_at "def")
  (case zb5=>walk_at "def")
  (case zb6=>walk_at "defD")
  (case zb7=>walk_at "def")
  (case zb8=>walk_at "def")
  (case zb9=>walk_at "def")
  (case zca=>walk_at "def")
  (case zcb=>walk_at "def")
  (case zcc=>walk_at "def")
  (case zcd=>walk_at "def")
  (case zce=>walk_at "def")
  (case zcf=>walk_at "def")
  (case zcg=>walk_at "def")
  (case zch=>walk_at "def")
  (case zci=>walk_at "defT")
  (case hC=>exact(by kernel_rfl))
  (case zcj=>walk_at "def")
  (case zck=>walk_at "def")
  (case zcl=>walk_at "def")
  (case zcm=>walk_at "def")
  (case zcn=>walk_at "def")
  (case zco=>walk_at "def")
  (case zcp=>walk_at "def")
  (case zcq=>walk_at "def")
  (case zcr=>walk_at "def")
  (case zcs=>walk_at "def")
  (case zct=>walk_at "def")
  (case zcu=>walk_at "def")
  (case zcv=>walk_at "def")
  (case zcw=>walk_at "def")
  (case zcx=>walk_at "def")
  (case zcy=>walk_at "def")
  (case zcz=>walk_at "def")
  (case zc0=>walk_at "def")
  (case zc1=>walk_at "def")
  (case zc2=>walk_at "def")
  (case zc3=>walk_at "def")
  (case zc4=>walk_at "def")
  (case zc5=>k_is)
  (case zak=>k_exc)
  (case zc6=>k_is)
  (case zal=>k_exc)
  (case zc7=>k_is)
  (case zam=>k_exc)
  (case zc8=>k_is)
  (case zan=>k_exc)
  (case zc9=>k_is)
  (case zao=>k_exc)
  (case zda=>k_is)
  (case zap=>k_exc)
  (case zdb=>k_is)
  (case zdc=>k_is)
  (case zdd=>k_is)
  (case zde=>k_is)
  (case zdf=>k_is)
  (case zdg=>k_is)
  (case zdh=>k_is)
  (case zdi=>walk_at "meth")
  (case zdj=>walk_at "meth")
  (case zdk=>walk_at "meth")
  (case zdl=>walk_at "meth")
  (case zdm=>walk_at "meth")
  (case zdn=>walk_at "meth")
  (case zdo=>walk_at "meth")
  (case zdp=>walk_at "meth")
  (case zdq=>k_is)
  (case zac=>k_is)
  (case zad=>k_is)
  (case zae=>k_is)
  (case zaf=>k_is)
  (case zdr=>k_is)
  (case zds=>k_is)
  (case zdt=>k_is)
  (case zdu=>k_is)
  (case zdv=>k_is)
  (case zdw=>k_is)
  (case zdx=>k_is)
  (case zdy=>k_is)
  (case zdz=>k_is)
  (case zd0=>k_is)
  (case zd1=>k_is)
  (case zd2=>k_is)
  (case zd3=>k_is)
  (case zd4=>k_is)
  (case zd5=>k_is)
