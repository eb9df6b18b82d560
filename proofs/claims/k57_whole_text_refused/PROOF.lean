import PyProof.Rows.All
import Wide.All
import OpenK.AllK
import Wide.FinOn
import Lean
import PyProof.EqAt
import PyProof.EqKinds
import PyProof.TupleCall
import PyProof.NeData
import KE.IntBitsLaws
import KE.KRevIter
import PyProof.DictIter
import PyProof.DictItems
import PyProof.DictWalks
import PyProof.StrLoop
import KE.KPairComp
import PyProof.StrWalks
import KE.KSortKey
import KE.KDictOf
import PyProof.Rows.TupDisplay
import PyProof.DictCompW
import PyProof.StrLawsIn
import KE.KIntText
import PyProof.StrCalls2
import PyProof.Rows.StrJoin2
import PyProof.FString
import PyProof.Rows.StrSplitCount
import PyProof.StrLawsChain
import PyProof.AutoSeq1
import KE.KListMore
import PyProof.FString5
import PyProof.P3Eq
import PySem.Challenge.RW_crookroad_k57_whole_text_refused
set_option maxHeartbeats 0
set_option Elab.async false
set_option linter.all false
set_option maxRecDepth 100000
open Lean in
local macro_rules(kind:=Lean.Parser.Command.declaration)|s=>do {if s.getPos?.isNone||(`PySem.Challenge).isPrefixOf s[1][1][0].getId then Macro.throwUnsupported else let k:=s[1].getKind;let m←`(command|noncomputable def x:=0);let s:=if (k==`Lean.Parser.Command.definition||k==`Lean.Parser.Command.abbrev||k==`Lean.Parser.Command.instance)&&s[0][4].isNone then s.setArg 0 (s[0].setArg 4 m.raw[0][4]) else s;return Id.run (s.rewriteBottomUpM fun x=>x.setInfo .none)}
local macro_rules|`(tactic|lia)=>`(tactic|first|lia +splitIte|omega)
local macro_rules|`(⋯)=>`(by first|decide|lia)
local macro_rules|`(tactic|walk_at "iv")=>`(tactic|first|exact .inl rfl|exact .inr rfl|assumption)
local macro_rules|`(tactic|walk_at "vs")=>`(tactic|first|exact Or.inl rfl|exact Or.inr (Or.inl rfl)|exact Or.inr (Or.inr rfl))
def ac:=@List.length_map
def ae:=@PySem.wpAny_bind
def af:=@PySem.Heap.get?_push_of_some
def ag:=@List.getElem?_eq_getElem
def ah:=@Nat.le_refl
def al:=@if_neg
def am:=@if_pos
def ao:=@List.not_mem_nil
def ap:=@List.mem_cons
def aq:=@PySem.Heap.lt_size
def ar:=@List.mem_singleton
def au:=@List.mem_cons_self
def av:=@List.mem_map
def aw:=@List.length_cons
def ax:=@Option.some.inj
def ay:=@List.length_append
def az:=@PySem.Heap.get?_push_size
def aA:=@List.getD_eq_getElem?_getD
def aB:=@PySem.boot_len
def aC:=@List.mem_append_right
def aD:=@List.getElem?_map
def aE:=@List.mem_cons_of_mem
def aF:=@PySem.wpAny_pure
def aG:=@List.size_toArray
def aH:=@Option.isSome_iff_exists
def aI:=@Bool.false_ne_true
def aJ:=@Nat.ne_of_lt
def aK:=@PySem.wpAny_mono
def aL:=@Nat.lt_of_lt_of_le
def aM:=@decide_eq_true
def aN:=@decide_eq_false
def aO:=@Array.length_toList
def aP:=@List.mem_append
def aQ:=@List.map_append
def aR:=@Nat.zero_le
def aS:=@PySem.W.mg_of
def aT:=@PySem.W.mg_none_of
def aU:=@Nat.lt_irrefl
def aV:=@List.map_cons
def aW:=@List.map_map
def aX:=@Nat.le_trans
def aY:=@PySem.F.plainAttrs_str
def aZ:=@List.lookup_cons
def ba:=@List.getElem?_eq_some_iff
def bc:=@List.mem_range
def bd:=@PySem.PassesOwn.leaving
def be:=@List.nodup_cons
def bg:=@List.mem_append_left
def bh:=@Bool.and_eq_true_iff
def bi:=@congrArg
def bj:=@List.nodup_nil
def bn:=@List.getElem?_eq_none
def bq:=@beq_eq_false_iff_ne
def br:=@Int.emod_nonneg
def bt:=@List.getElem_mem
def bu:=@List.all_eq_true
def bv:=@Nat.lt_trans
def bw:=@Int.emod_lt_of_pos
def bx:=@PySem.StrLaws.glued_eq_join
def bz:=@List.map_congr_left
def bA:=@List.length_take
def bB:=@List.getElem?_append_right
def bD:=@PySem.F.plainAttrs_list
def bE:=@Ne.symm
def bF:=@of_decide_eq_true
def bG:=@List.getElem?_append_left
def bH:=@Nat.le_of_lt
def bI:=@List.length_range
def bJ:=@PySem.wpAny_holding
def bK:=@List.append_nil
def bL:=@PySem.F.slot_str_split
def bM:=@PySem.F.type_str_split
def bN:=@PySem.Paired.length
def bO:=@List.mem_of_getElem?
def bP:=@PySem.wpAny_standAt
def bQ:=@PySem.F.excBase_ValueError
def bR:=@PyProof.Rows.boot_list
def bS:=@List.take_of_length_le
def bT:=@Bool.and_eq_true
def bU:=@List.filter_cons
def bV:=@PySem.F.slot_list_append
def bW:=@PySem.F.type_list_append
def bX:=@PyProof.Rows.boot_sorted
def bY:=@PyProof.Rows.joinOk_of_weight
def bZ:=@PySem.wpAny_loadPart_at
def ca:=@Int.eq_ofNat_of_zero_le
def cb:=@Option.map_some
def ce:=@Option.map_eq_some_iff
def cf:=@PySem.StrLaws.join_length_le
def cg:=@List.cons_ne_nil
def ck:=@or_false
def cm:=@List.length_filter_le
def cn:=@PySem.F.slot_str_join
def cr:=@PySem.F.type_str_join
def cu:=@PyProof.Rows.boot_int
def cv:=@PySem.wpAny_passesOwn
def cw:=@List.range_succ
def cx:=@List.map_nil
def cy:=@Int.toNat_natCast
def cz:=@List.append_assoc
def cA:=@PySem.intText_digits
def cB:=@PySem.mem_of_lookup
def cC:=@Int.toNat_of_nonneg
def cD:=@List.length_drop
def cE:=@List.take_length
def cF:=@List.lt_irrefl
def cG:=@PySem.wpAny_getItem_str_slice
def cH:=@Int.mul_le_mul_of_nonneg_left
def cI:=@PySem.W.of_hideAll
def cJ:=@PySem.wpAny_Call_Name_kw
def cK:=@PySem.Heap.get?_update_other
def cL:=@PySem.tupleKind_room_in1
def cM:=@PySem.wpAny_execs_nil
def cN:=@Bool.eq_iff_iff
def cO:=@List.find?_cons
def cP:=@List.length_nil
def cQ:=@Bool.true_and
def cR:=@Array.getElem?_toList
def cS:=@PySem.codeAny_handlers_test
def cT:=@PyProof.Rows.boot_str
def cU:=@PySem.W.KIN.num_reads
def cV:=@PySem.wpAny_truthy_bool
def cW:=@Option.isSome_map
def cX:=@List.take_add_one
def cY:=@beq_iff_eq
def cZ:=@PySem.Calls.evalArgs_plain
def db:=@Array.getElem?_eq_some_iff
def de:=@Nat.pow_le_pow_right
def df:=@PySem.lookup_relabel_local
def dh:=@Array.size_map
def di:=@Int.lt_or_le
def dj:=@Classical.byContradiction
def dk:=@PySem.W.hideAll_get
def dm:=@List.filterMap_cons
def dn:=@PySem.wpAny_handleBy_cons
def dq:=@List.mem_filter
def dt:=@List.filter_append
def du:=@PySem.StrLaws.split_free
def dv:=@List.pairwise_cons
def dz:=@PySem.wpAny_field
def dA:=@List.not_lt
def dB:=@PySem.wpAny_newObj_type
def dC:=@Bool.false_and
def dD:=@PySem.Calls.callWith_builtin
def dE:=@List.ext_getElem?
def dF:=@Array.getElem?_eq_none
def dG:=@List.pairwise_map
def dH:=@decide_eq_true_eq
def dI:=@PySem.codeAny_handlers_suite
def dJ:=@Array.getElem?_setIfInBounds_ne
def dL:=@PySem.Heap.get?_update_self
def dM:=@PySem.F.slot_dict_get
def dN:=@PyProof.Rows.boot_max
def dO:=@Int.mul_le_mul_of_nonneg_right
def dP:=@List.sum_cons
def dQ:=@Int.le_refl
def dR:=@List.mem_of_mem_take
def dS:=@List.mem_iff_getElem
def dU:=@List.count_le_length
def dW:=@Int.mul_ediv_mul_of_pos_left
def dX:=@PySem.post_val_or_str
def dY:=@PySem.W.plainGet_of
def dZ:=@List.getElem_of_mem
def d5:=@PySem.wpAny_isSubtype_exc
def d6:=@List.getElem?_range
def d7:=@PySem.Heap.get?_update_ne
def d8:=@ne_true_of_eq_false
def ee:=@Nat.ne_of_gt
def ei:=@PyProof.Rows.callWith_type1
def eo:=@PySem.codeAny_mono
def eA:=@Nat.lt_or_ge
def eB:=@Array.getD_eq_getD_getElem?
def eC:=@Array.append_assoc
def eE:=@PyProof.Rows.assignInOrder_cons
def eG:=@List.mem_filterMap
def eI:=@PySem.Heap.size_push
def eJ:=@PySem.typeIs_str
def eK:=@PySem.call_meets
def eL:=@PySem.Obj.data_mapFields
def eM:=@PySem.W.callWith_K
def eN:=@Int.mul_lt_mul_of_pos_left
def eO:=@Bool.false_eq_true
def eP:=@PySem.F.args_str_split_2
def eQ:=@PySem.StrLaws.join_split
def eS:=@List.count_eq_zero
def eT:=@PySem.F.slot_dict_delitem
def eU:=@Array.getElem?_eq_getElem
def eX:=@List.mem_or_eq_of_mem_set
def eY:=@PySem.wpAny_assign_Name
def eZ:=@List.take_sublist
def e9:=@PySem.Heap.SameBut.refl
def fc:=@PySem.F.entry_str_split
def fe:=@List.nodup_append
def fh:=@List.count_append
def fi:=@Array.size_setIfInBounds
def fm:=@PySem.wpAny_newList
def fo:=@PySem.F.slot_list_insert
def fu:=@PySem.F.type_list_insert
def fv:=@PySem.wpAny_execs_cons
def fx:=@Int.natCast_dvd_natCast
def fy:=@PySem.F.args_dict_get_2
def fA:=@PySem.F.plainAttrs_dict
def fB:=@PySem.F.slot_dict_items
def fC:=@List.length_eq_zero_iff
def fD:=@PySem.F.slot_str_split
def fE:=@List.mem_flatMap
def fF:=@decide_eq_false_iff_not
def fG:=@PySem.call_meetsIn
def fH:=@List.of_mem_zip
def fI:=@List.length_set
def fJ:=@Int.natCast_mul
def fL:=@Int.mul_le_mul
def fM:=@Bool.and_false
def fN:=@List.any_cons
def fP:=@List.map_take
def fQ:=@List.lt_asymm
def fS:=@if_false
section
open PySem PySem.Spec PyProof.Rows
abbrev Aa:=PySem.W.Frag
abbrev Ab:=PySem.Shared
abbrev Ac:=PySem.Program
abbrev Ad:=PySem.FuncData
abbrev Ae:=Around
abbrev Af:=SortSt
abbrev Ag:=Value
abbrev Ah:=World
abbrev Ai:=Keyed
abbrev Aj:=Addr
end
namespace L2
theorem exI {α:Sort _}{A K:α->Prop}{v:α}(e:A v)(h:K v):∃x,A x/\K x:=⟨v,e,h⟩
theorem xx {α β:Sort _}{A:α->Prop}{B:β->Prop}{K:α->β->Prop}{u:α}{v:β}(a:A u)(b:B v)(h:K u v):∃x y,A x/\B y/\K x y:=⟨u,v,a,b,h⟩
theorem exX {α β γ δ:Sort _}{A:α->Prop}{B:γ->Prop}{C:α->β->Prop}{D:β->γ->δ->Prop}{K:δ->Prop}{p:α}{xs:β}{i:γ}{v:δ}(a:A p)(b:B i)(c:C p xs)(d:D xs i v)(h:K v):∃p xs i v,A p/\B i/\C p xs/\D xs i v/\K v:=⟨p,xs,i,v,a,b,c,d,h⟩
end L2
namespace L2
open PySem PySem.Spec PyProof.Rows
abbrev Key:=Sum Int Str
def qq7:Key->Ag->Bool
 |.inl k,v=>Value.isInt k v
 |.inr x,v=>Value.isStrOf x v
def keyH (w:Ah):Key->Int
 |.inl k=>hashInt k
 |.inr x=>hashStr w x
theorem zh:∀ {k:Key} {v:Ag},qq7 k v=true->(∃i t,k=Sum.inl i/\v=Value.int i t)\/(∃x t,k=Sum.inr x/\v=Value.str x t)
 |.inl i,v,h=>by obtain⟨t,e⟩:=Value.isInt_shape (k:=i) (v:=v) h;exact .inl ⟨i,t,rfl,e⟩
 |.inr x,v,h=>by obtain⟨t,e⟩:=Value.isStrOf_shape (x:=x) (v:=v) h;exact .inr ⟨x,t,rfl,e⟩
theorem wxx (i:Int)(t:Tok):qq7 (.inl i) (.int i t)=true:=by simp[qq7,Value.isInt]
theorem wxw (x:Str)(t:Tok):qq7 (.inr x) (.str x t)=true:=by simp[qq7,Value.isStrOf]
theorem key_ll (a b:Int):decide ((Sum.inl a:Key)=Sum.inl b)=(a==b):=by
 by_cases e:a=b
 .subst e;simp
 .have h:¬ (Sum.inl a:Key)=Sum.inl b:=λq=>e (Sum.inl.inj q);rw[aN h];exact(bq.mpr e).symm
theorem key_rr (a b:Str):decide ((Sum.inr a:Key)=Sum.inr b)=decide (a=b):=by
 by_cases e:a=b
 .subst e;simp
 .have h:¬ (Sum.inr a:Key)=Sum.inr b:=λq=>e (Sum.inr.inj q);rw[aN h,aN e]
theorem key_lr (a:Int)(b:Str):decide ((Sum.inl a:Key)=Sum.inr b)=false:=aN (λq=>nomatch q)
theorem key_rl (a:Str)(b:Int):decide ((Sum.inr a:Key)=Sum.inl b)=false:=aN (λq=>nomatch q)
def xt (prog:Ac)(w:Ah):PySem.KeyKind prog w Key where
 is:=qq7
 hash:=keyH w
 inj:=λv a b ha hb=>by
  rcases zh ha with⟨i,t,rfl,rfl⟩|⟨x,t,rfl,rfl⟩
  .rcases zh hb with⟨j,u,rfl,e⟩|⟨y,u,rfl,e⟩
   .injection e with e1 _;rw[e1]
   .exact nomatch e
  .rcases zh hb with⟨j,u,rfl,e⟩|⟨y,u,rfl,e⟩
   .exact nomatch e
   .injection e with e1 _;rw[e1]
 byValue:=λk v h=>by rcases zh h with⟨i,t,rfl,rfl⟩|⟨x,t,rfl,rfl⟩ <;> rfl
 pyHash:=λhv h=>by
  rcases zh hv with⟨i,t,rfl,rfl⟩|⟨x,t,rfl,rfl⟩
  .exact wpAny_pyHash_int h
  .exact wpAny_pyHash_str h
 eqBool:=λhu hv h=>by
  rcases zh hu with⟨i,t,rfl,rfl⟩|⟨x,t,rfl,rfl⟩
  .rcases zh hv with⟨j,u,rfl,rfl⟩|⟨y,u,rfl,rfl⟩
   .rw[key_ll]at h;exact wpAny_eqBool_int h
   .rw[key_lr]at h;exact SeqAt.EqAt.int_str i t y u _ _ _ _ h
  .rcases zh hv with⟨j,u,rfl,rfl⟩|⟨y,u,rfl,rfl⟩
   .rw[key_rl]at h;exact SeqAt.EqAt.str_int x t j u _ _ _ _ h
   .rw[key_rr]at h;exact wpAny_eqBool_str h
 «strs»:=λk x t v h=>by
  rcases zh h with⟨i,u,rfl,e⟩|⟨y,u,rfl,e⟩
  .exact nomatch e
  .injection e with e1 _
   subst e1;cases v <;> rfl
theorem qjx (prog:Ac)(w:Ah)(i:Int)(t:Tok):(xt prog w).is (.inl i) (.int i t)=true:=wxx i t
theorem qyj (prog:Ac)(w:Ah)(x:Str)(t:Tok):(xt prog w).is (.inr x) (.str x t)=true:=wxw x t
inductive V where
 |non|bl (b:Bool)|int (i:Int)|str (x:Str)|byt (b:Array UInt8)|flt (b:UInt64)|ref (a:Aj)|ty (n:String)
 deriving DecidableEq
def RelV:V->Ag->Prop
 |.non,u=>u=Value.none
 |.bl b,u=>u=Value.bool b
 |.int i,u=>∃t,u=Value.int i t
 |.str x,u=>∃t,u=Value.str x t
 |.byt b,u=>∃t,u=Value.bytes b t
 |.flt b,u=>∃t,u=Value.float b t
 |.ref a,u=>u=Value.ref a
 |.ty n,u=>u=Value.type n
abbrev Vals:List V->List Ag->Prop:=Paired RelV
theorem Vals.length {xs:List V}{us:List Ag}(r:Vals xs us):xs.length=us.length:=bN r
theorem Vals.get:∀ {xs:List V} {us:List Ag} {i:Nat} {x:V},Vals xs us->xs[i]?=some x->∃u,us[i]?=some u/\RelV x u
 |_,_,_,_,.nil,e=>by simp at e
 |_,_,0,_,.cons r _,e=>by simp at e;subst e;exact⟨_,rfl,r⟩
 |_,_,i+1,x,.cons _ t,e=>by obtain⟨u,h1,h2⟩:=Vals.get (i:=i) (x:=x) t (by simpa using e);exact⟨u,by simpa using h1,h2⟩
theorem Vals.set {x:V}{u:Ag}(r:RelV x u):∀ {xs:List V} {us:List Ag} (i:Nat),Vals xs us->Vals (xs.set i x) (us.set i u)
 |_,_,_,.nil=>.nil
 |_,_,0,.cons _ t=>.cons r t
 |_,_,i+1,.cons q t=>.cons q (Vals.set r i t)
theorem Vals.append:∀ {xs ys:List V} {us ws:List Ag},Vals xs us->Vals ys ws->Vals (xs++ys) (us++ws)
 |_,_,_,_,.nil,s=>s
 |_,_,_,_,.cons r t,s=>.cons r (Vals.append t s)
theorem Vals.take:∀ {xs:List V} {us:List Ag} (n:Nat),Vals xs us->Vals (xs.take n) (us.take n)
 |_,_,0,_=>.nil
 |_,_,_+1,.nil=>.nil
 |_,_,n+1,.cons r t=>.cons r (Vals.take n t)
theorem Vals.drop:∀ {xs:List V} {us:List Ag} (n:Nat),Vals xs us->Vals (xs.drop n) (us.drop n)
 |_,_,0,r=>r
 |_,_,_+1,.nil=>.nil
 |_,_,n+1,.cons _ t=>Vals.drop n t
def RelO:Option V->Option Ag->Prop
 |some v,some u=>RelV v u
 |none,none=>True
 |_,_=>False
def KV {κ:Type}:List (κ×V)->List (κ×Ag)->Prop:=Paired λ(p:κ×V) (q:κ×Ag)=>p.1=q.1/\RelV p.2 q.2
def kV:Key->V
 |.inl i=>.int i
 |.inr x=>.str x
inductive HO where
 |lst (xs:List V)
 |tup (xs:List V)
 |dK (kvs:List (Key×V))|dT (kvs:List (List Key×V))
 |set (S:Int->Bool) (n:Nat)
 |ins (C dx:Aj) (fs:List (Str×V))
 |own (x:Aj)
 |xd (fs:List (Str×V))
 |met (f x:Aj)
 |rng (lo hi:Int)
 |frz (o:Obj) (u:HO)
 |tbl (ps:Array Ag)
 |ext (φ:Heap->Prop)
abbrev Hp:=Aj->Option HO
def upd (H:Hp)(a:Aj)(o:HO):Hp:=λb=>if b=a then some o else H b
theorem qy {H:Hp}{a:Aj}{o:HO}:upd H a o a=some o:=by unfold upd;rw[am rfl]
theorem wj {H:Hp}{a b:Aj}{o:HO}(h:b≠a):upd H a o b=H b:=by unfold upd;rw[al h]
theorem Qv {H:Hp}{a:Aj}{o u:HO}:upd (upd H a o) a u=upd H a u:=by funext b;unfold upd;split <;> rfl
theorem ne_of {H:Hp}{a b:Aj}{o u:HO}(h:H a=some o)(h':H b=some u)(d:o≠u):a≠b:=by intro e;subst e;rw[h]at h';exact d (ax h')
theorem wz {H:Hp}{a b:Aj}{o:HO}(h:H a=some o)(h':H b=none):a≠b:=by intro e;subst e;rw[h]at h';cases h'
section
variable (P:Ac)(w:Ah)
def ObjOk (H:Hp)(h:Heap)(a:Aj):HO->Prop
 |.lst xs=>xs.length<=sizeLine/\∃(its:List Ag) (n:Nat),Vals xs its/\h.get? a=some { cls:=.type "list",data:=.seq its.toArray n }
 |.tup xs=>xs.length<=sizeLine/\∃its:List Ag,Vals xs its/\IsTup h a its.toArray
 |.dK kvs=>kvs.length<=sizeLine/\(a==sysModules)=false/\∃vs,KV kvs vs/\h.DictOf (xt P w) a vs
 |.dT kvs=>kvs.length<=sizeLine/\(a==sysModules)=false/\∃xs:List (List Key×Aj×Ag),
   Paired (λ(p:List Key×V) (q:List Key×Aj×Ag)=>p.1=q.1/\H q.2.1=some (.tup (p.1.map kV))/\RelV p.2 q.2.2) kvs xs /\
   ∃o es ep,h.get? a=some o/\o.ExactDict/\o.data=.dict es ep/\es.toList=xs.map (entryOfKey (tupleKind (xt P w)))/\(xs.map (·.1)).Nodup
 |.set S n=>h.SetOf (intKind P w) a S n
 |.ins C dx fs=>H dx=some (.own a)/\fs.length<=1000/\dx≠a/\h.get? a=some (W.instObj C dx) /\
   ∃mA,h.Ns1 dx mA/\(∀f,RelO (fs.lookup f) (mA f))/\PySem.Within mA (fs.map (·.1))
 |.own _=>∃o,h.get? a=some o
 |.xd fs=>∃mA,h.Ns1 a mA/\∀f,RelO (fs.lookup f) (mA f)
 |.rng lo hi=>∃t u v,h.get? a=some { cls:=.type "range",data:=.fields #[.int lo t,.int hi u,.int 1 v] }
 |.frz o u=>h.get? a=some o/\ObjOk H h a u
 |.tbl ps=>h.get? a=some { cls:=.none,data:=.fields ps }
 |.met f x=>h.get? a=some (W.methodObj (.ref f) (.ref x))
 |.ext φ=>φ h/\(∃o,h.get? a=some o)/\∀h1 h2:Heap,φ h1->(∀o,h1.get? a=some o->h2.get? a=some o)->φ h2
def HOk (H:Hp)(h:Heap):Prop:=∀a o,H a=some o->ObjOk P w H h a o
end
section
variable {P:Ac}{w:Ah}{H H':Hp}{h h':Heap}{a:Aj}{o:HO}
theorem ObjOk.lt (x:ObjOk P w H h a o):a<h.objs.size:=by
 cases o with
 |lst xs=>obtain⟨_,_,_,_,e⟩:=x;exact aq e
 |tup xs=>obtain⟨_,_,_,p⟩:=x;exact p.lt
 |dK kvs=>obtain⟨_,_,_,_,o,_,_,e,_⟩:=x;exact aq e
 |dT kvs=>obtain⟨_,_,_,_,o,_,_,e,_⟩:=x;exact aq e
 |set S n=>obtain⟨o,_,_,_,e,_⟩:=x;exact aq e
 |ins C dx fs=>obtain⟨_,_,_,e,_⟩:=x;exact aq e
 |own y=>obtain⟨_,e⟩:=x;exact aq e
 |xd fs=>obtain⟨_,⟨_,_,_,e,_⟩,_⟩:=x;exact aq e
 |rng lo hi=>obtain⟨_,_,_,e⟩:=x;exact aq e
 |frz ob u=>obtain⟨e,_⟩:=x;exact aq e
 |tbl ps=>exact aq (show h.get? a=some _ from x)
 |met f y=>exact aq (show h.get? a=some _ from x)
 |ext φ=>obtain⟨_,⟨_,e⟩,_⟩:=x;exact aq e
theorem Paired.mapP {α β:Type}{F G:α->β->Prop}:∀ {l₁:List α} {l₂:List β},Paired F l₁ l₂->(∀a b,F a b->G a b)->Paired G l₁ l₂
 |_,_,.nil,_=>.nil
 |_,_,.cons r t,f=>.cons (f _ _ r) (Paired.mapP t f)
theorem ObjOk.stay (x:ObjOk P w H h a o)(k:∀b u,(b=a\/H b=some (.own a))->h.get? b=some u->h'.get? b=some u)
  (ho:∀b,H b=some (.own a)->H' b=some (.own a)) (ht:∀b xs,H b=some (.tup xs)->H' b=some (.tup xs)):ObjOk P w H' h' a o:=by
 induction o with
 |lst xs=>obtain⟨z,J,n,r,e⟩:=x;exact⟨z,J,n,r,k _ _ (.inl rfl) e⟩
 |tup xs=>obtain⟨z,J,r,ob,e,c⟩:=x;exact⟨z,J,r,ob,k _ _ (.inl rfl) e,c⟩
 |dK kvs=>obtain⟨z,y,L,r,ob,es,F,e,c⟩:=x;exact⟨z,y,L,r,ob,es,F,k _ _ (.inl rfl) e,c⟩
 |dT kvs =>
  obtain⟨z,y,xs,r,ob,es,F,e,c⟩:=x;exact⟨z,y,xs,Paired.mapP r λp q z=>⟨z.1,ht _ _ z.2.1,z.2.2⟩,ob,es,F,k _ _ (.inl rfl) e,c⟩
 |set S n=>obtain⟨ob,es,F,t,e,c⟩:=x;exact⟨ob,es,F,t,k _ _ (.inl rfl) e,c⟩
 |ins C dx fs =>
  obtain⟨d,z,O,e,mA,⟨I,es,F,U,c⟩,r⟩:=x;exact⟨ho _ d,z,O,k _ _ (.inl rfl) e,mA,⟨I,es,F,k _ _ (.inr d) U,c⟩,r⟩
 |own y=>obtain⟨ob,e⟩:=x;exact⟨ob,k _ _ (.inl rfl) e⟩
 |xd fs=>obtain⟨mA,⟨I,es,F,e,c⟩,r⟩:=x;exact⟨mA,⟨I,es,F,k _ _ (.inl rfl) e,c⟩,r⟩
 |rng lo hi=>obtain⟨t,u,v,e⟩:=x;exact⟨t,u,v,k _ _ (.inl rfl) e⟩
 |frz ob u ih=>obtain⟨e,q⟩:=x;exact⟨k _ _ (.inl rfl) e,ih q⟩
 |tbl ps =>
  have e:h.get? a=some { cls:=.none,data:=.fields ps }:=x;show h'.get? a=some { cls:=.none,data:=.fields ps };exact k a _ (.inl rfl) e
 |met f y =>
  have e:h.get? a=some (W.methodObj (.ref f) (.ref y)):=x;show h'.get? a=some (W.methodObj (.ref f) (.ref y));exact k a _ (.inl rfl) e
 |ext φ=>obtain⟨p,⟨o,e⟩,st⟩:=x;exact⟨st _ _ p λo q=>k _ _ (.inl rfl) q,⟨o,k _ _ (.inl rfl) e⟩,st⟩
theorem HOk.lt (x:HOk P w H h)(e:H a=some o):a<h.objs.size:=(x a o e).lt
theorem HOk.fresh (x:HOk P w H h)(e:h.objs.size<=a):H a=none:=by
 cases q:H a with
 |none=>rfl
 |some u=>exact absurd (aL (x.lt q) e) (aU _)
theorem HOk.kept (x:HOk P w H h)(k:∀b u,h.get? b=some u->h'.get? b=some u):HOk P w H h':=λa o e =>
 (x a o e).stay (λb u _ q=>k b u q) (λ_ q=>q) λ_ _ q=>q
theorem HOk.laid (x:HOk P w H h)(k:∀b u,h.get? b=some u->h'.get? b=some u)(hp:h.objs.size<=a)(new:ObjOk P w (upd H a o) h' a o):HOk P w (upd H a o) h':=λb u e=>by
 have hn:=x.fresh hp;by_cases hb:b=a
 .subst hb;rw[qy]at e;cases e;exact new
 .rw[wj hb]at e;exact(x b u e).stay (λc v _ q=>k c v q) (λc q=>by rw[wj (wz q hn)];exact q) λc xs q=>by rw[wj (wz q hn)];exact q
end
def Rd (H:Hp)(a:Aj)(u:HO):Prop:=H a=some u\/∃o,H a=some (.frz o u)
theorem Rd.ok {P:Ac}{w:Ah}{H:Hp}{h:Heap}{a:Aj}{u:HO}(r:Rd H a u)(x:HOk P w H h):ObjOk P w H h a u:=by
 rcases r with r|⟨o,r⟩
 .exact x a u r
 .obtain⟨_,q⟩:=x a _ r;exact q
def Mut:Option HO->Prop
 |some (.lst _)=>True
 |some (.dK _)=>True
 |some (.dT _)=>True
 |some (.set _ _)=>True
 |some (.ins _ _ _)=>True
 |some (.ext _)=>True
 |_=>False
section
variable {P:Ac}{w:Ah}{H:Hp}{h h':Heap}{x e:Aj}{o':HO}
theorem HOk.write (ok:HOk P w H h)(mu:Mut (H x))(he:e=x\/H e=some (.own x))(k:∀b u,b≠e->h.get? b=some u->h'.get? b=some u)(heo:∃u,h'.get? e=some u)
  (new:ObjOk P w (upd H x o') h' x o'):HOk P w (upd H x o') h':=λb u q=>by
 have nown:∀c y,H c=some (.own y)->c≠x:=λc y r z=>by subst z;rw[r]at mu;exact mu
 have ntup:∀c xs,H c=some (.tup xs)->c≠x:=λc xs r z=>by subst z;rw[r]at mu;exact mu
 by_cases hb:b=x
 .subst hb;rw[qy]at q;cases q;exact new
 .rw[wj hb]at q;by_cases hbe:b=e
  .have q':H b=some (.own x):=by
    rcases he with z|z
    .exact absurd (hbe.trans z) hb
    .rw[hbe];exact z
   rw[q]at q';cases q';obtain⟨v,I⟩:=heo;exact⟨v,by rw[hbe];exact I⟩
  .refine(ok b u q).stay (λc v F r=>k c v ?_ r) (λc r=>by rw[wj (nown c b r)];exact r) λc xs r=>by rw[wj (ntup c xs r)];exact r
   rcases F with rfl|F
   .exact hbe
   .rintro rfl;rcases he with z|z
    .exact nown c b F z
    .rw[F]at z;cases z;exact hb rfl
end
structure Un (fs ex:List Aj)(H H':Hp)(h h':Heap):Prop where
 keep:∀b o,h.get? b=some o->H b=none->b∉fs->b∉ex->h'.get? b=some o
 slot:∀b o,h.get? b=some o->H b=none->b∈fs->b∉ex->∃sl,h'.get? b=some { o with slots:=sl }
 free:∀b o,h.get? b=some o->H b=none->b∉ex->H' b=none
 there:∀b o,h.get? b=some o->b∉ex->∃o',h'.get? b=some o'
 tups:∀b xs,H b=some (.tup xs)->H' b=some (.tup xs)
 frzs:∀b o u,H b=some (.frz o u)->H' b=some (.frz o u)
 tbls:∀b ps,H b=some (.tbl ps)->∃more,H' b=some (.tbl (ps++more))
section
variable {fs fs' ex ex':List Aj}{H H1 H2:Hp}{h h1 h2 h':Heap}{a x e:Aj}{o:HO}
theorem Un.any (u:Un fs ex H H1 h h1){b:Aj}{ob:Obj}(q:h.get? b=some ob)(n:H b=none)(hx:b∉ex):∃sl,h1.get? b=some { ob with slots:=sl }:=by
 by_cases hb:b∈fs
 .exact u.slot b ob q n hb hx
 .exact⟨ob.slots,u.keep b ob q n hb hx⟩
theorem Un.kept (k:∀b u,h.get? b=some u->h'.get? b=some u):Un fs ex H H h h' :=
 ⟨λb ob q _ _ _=>k b ob q,λb ob q _ _ _=>⟨ob.slots,k b ob q⟩,λ_ _ _ n _=>n,λb ob q _=>⟨ob,k b ob q⟩,λ_ _ q=>q,λ_ _ _ q=>q,λ_ ps q=>⟨#[],by rw[q];simp⟩⟩
theorem Un.refl:Un fs ex H H h h:=Un.kept λ_ _ q=>q
theorem Un.laid (k:∀b u,h.get? b=some u->h'.get? b=some u)(hp:h.objs.size<=a)(hn:H a=none):Un fs ex H (upd H a o) h h' where
 keep:=λb u q _ _ _=>k b u q
 slot:=λb u q _ _ _=>⟨u.slots,k b u q⟩
 free:=λb u q n _=>by rw[wj (aJ (aL (aq q) hp))];exact n
 there:=λb u q _=>⟨u,k b u q⟩
 tups:=λb xs q=>by rw[wj (wz q hn)];exact q
 frzs:=λb u xs q=>by rw[wj (wz q hn)];exact q
 tbls:=λb ps q=>⟨#[],by rw[wj (wz q hn),q];simp⟩
theorem Un.write (mu:Mut (H x))(he:e=x\/H e=some (.own x))(k:∀b u,b≠e->h.get? b=some u->h'.get? b=some u)(heo:∃u,h'.get? e=some u):Un fs ex H (upd H x o) h h':=by
 have I:∀b,H b=none->b≠x:=λb n z=>by subst z;rw[n]at mu;exact mu
 have J:∀b,H b=none->b≠e:=λb n z=>by
  subst z;rcases he with r|r
  .exact I b n r
  .rw[n]at r;cases r
 have F:∀b u,H b=some u->¬ Mut (some u)->b≠x:=λb u q nm z=>by subst z;rw[q]at mu;exact nm mu
 refine⟨λb u q n _ _=>k b u (J b n) q,λb u q n _ _=>⟨u.slots,k b u (J b n) q⟩,λb u q n _=>by rw[wj (I b n)];exact n,λb u q _=>?_,
  λb xs q=>by rw[wj (F b _ q λz=>z)];exact q,λb u xs q=>by rw[wj (F b _ q λz=>z)];exact q,λb ps q=>⟨#[],by rw[wj (F b _ q λz=>z),q];simp⟩⟩
 by_cases hbe:b=e
 .subst hbe;exact heo
 .exact⟨u,k b u hbe q⟩
end
def trk (h:Heap)(H:Hp):List Aj:=(List.range h.objs.size).filter λa=>(H a).isSome
def qkj (h:Heap)(H:Hp):Heap:=W.hideAll h (trk h H)
theorem wx9 (h:Heap)(H:Hp):(qkj h H).objs.size=h.objs.size:=W.hideAll_size _ _
theorem wzs {h:Heap}{H:Hp}{b:Aj}{o:Obj}(e:h.get? b=some o)(n:H b=none):(qkj h H).get? b=some o :=
 dk _ e λhm=>by have q:(H b).isSome=true:=(dq.mp hm).2;rw[n]at q;simp at q
theorem wjy {h:Heap}{H:Hp}{b:Aj}{o:Obj}(e:(qkj h H).get? b=some o):h.get? b=some o/\H b=none:=by
 have F:h.get? b=some o:=cI (trk h H) e;refine⟨F,?_⟩;cases q:H b with
 |none=>rfl
 |some x =>
  have I:b∈trk h H:=dq.mpr ⟨bc.mpr (aq F),by simp[q]⟩;have z:(qkj h H).get? b=none:=W.hideAll_none (trk h H) I;rw[z]at e;cases e
def wyc (g h:Heap)(L:Aj):List (Aj×Obj):=(List.range h.objs.size).filterMap λa=>if a=L\/(g.get? a).isSome=true then none else(h.get? a).map λo=>(a,o)
def rest (g h:Heap)(L d:Aj):List (Aj×Obj):=(wyc g h L).filter λp=>decide (p.1≠d)
structure Mod (K:Aa)(mg:Str->Option Ag)(base:Heap):Prop where
 kin:K.In base
 glob:base.Ns mainGlobals mg
 blt:∃mb,base.Ns builtinsNs mb/\∀x:Str,x ≠ "__name__" -> mb x=bootBuiltins x
 nolimit:base.NoLimit
structure Cx where
 prog:Ac
 w:Ah
 K:Aa
 mg:Str->Option Ag
 base:Heap
 A:Ae
 N:List Str
 s₀:Ab
 H₀:Hp
 env:Env
 outer:List Env
 stack:List Env
 ex:List Aj
 fn:Str->Bool
 calm:Bool
 pn:List (Aj×Obj)
 xe:Ag->Ab->Prop
def frs (l:List Env):List Aj:=l.filterMap (·.frame)
abbrev Cx.fs (X:Cx):List Aj:=frs X.outer
def Vis (sc:Scope)(x:Str):Prop:=sc.names.lookup x=some .local\/sc.names.lookup x=some .cell\/sc.names.lookup x=some .free
def Loc (sc:Scope)(x:Str):Prop:=sc.names.lookup x=some .local\/sc.names.lookup x=some .cell
def Look (env:Env)(h:Heap)(m:Str->Option Ag)(x:Str)(u:Ag):Prop :=
 (env.kindOf x=some .local/\m x=some u)\/((env.kindOf x=some .cell\/env.kindOf x=some .free)/\∃c,env.cells.lookup x=some c/\h.IsCell c (some u))
structure Cx.Ok (X:Cx):Prop where
 mod:Mod X.K X.mg X.base
 kind:X.env.scope.kind=.function
 glob:X.env.globals=mainGlobals
 blt:X.env.builtins=builtinsNs
 above:X.s₀.heap.objs.size<=X.env.locals
 inj:∀x y c,X.env.cells.lookup x=some c->X.env.cells.lookup y=some c->x=y
 has:∀x,(X.env.kindOf x=some .cell\/X.env.kindOf x=some .free)->∃c,X.env.cells.lookup x=some c
 cab:∀x c,X.fn x=true->X.env.cells.lookup x=some c->X.s₀.heap.objs.size<=c
 hd:X.calm=true->X.A.handled=none
 frames:X.A.frames=some X.stack
 stk:X.stack=X.outer\/(X.stack=X.env::X.outer/\X.env.frame=some X.env.locals)
 exf:∀b∈X.ex,b≠X.env.locals/\∀x c,X.env.cells.lookup x=some c->c≠b
 bs:∀b o,X.base.get? b=some o->X.s₀.heap.get? b=some o/\X.H₀ b=none
 bsz:X.base.objs.size<=X.s₀.heap.objs.size
 noex:∀b o,X.base.get? b=some o->b∉X.ex
 exfs:∀b∈X.ex,b∉X.fs
 funs:X.s₀.heap.FunFrames X.base X.outer
 frf:∀b∈X.fs,X.H₀ b=none
structure Inv (X:Cx)(pins:List (Aj×Obj))(σ:List (Option V))(H:Hp)(s:Ab):Prop where
 ok:X.Ok
 os:s.os=X.s₀.os
 bare:AllBare s.gens
 base:Un X.fs X.ex X.H₀ H X.s₀.heap s.heap
 loc:∃m,s.heap.Ns X.env.locals m/\∀(i:Nat) (x:Str) (v:V),X.N[i]?=some x->σ[i]?=some (some v)->Vis X.env.scope x->∃u,RelV v u/\Look X.env s.heap m x u
 cell:∀x c,X.env.cells.lookup x=some c->∃v,s.heap.IsCell c v
 free:H X.env.locals=none
 freeC:∀x c,X.env.cells.lookup x=some c->H c=none
 pin:∀p∈X.pn++pins,s.heap.get? p.1=some p.2/\H p.1=none/\p.1≠X.env.locals/\p.1∉X.fs/\∀v,p.2.data≠.cell v
 hok:HOk X.prog X.w H s.heap
 len:σ.length=X.N.length
section
variable {X:Cx}{pins:List (Aj×Obj)}{σ:List (Option V)}{H H':Hp}{s:Ab}{h':Heap}
theorem Cx.Ok.nofr (ok:X.Ok){b:Aj}{o:Obj}(e:X.base.get? b=some o):b∉X.fs:=λhb=>by have:=(ok.funs.mem hb).1;rw[e]at this;cases this
theorem Inv.bs (I:Inv X pins σ H s):∀b o,X.base.get? b=some o->s.heap.get? b=some o/\H b=none:=λb o e =>
 ⟨I.base.keep b o (I.ok.bs b o e).1 (I.ok.bs b o e).2 (I.ok.nofr e) (I.ok.noex b o e),I.base.free b o (I.ok.bs b o e).1 (I.ok.bs b o e).2 (I.ok.noex b o e)⟩
theorem Inv.bk (I:Inv X pins σ H s):∀b o,X.base.get? b=some o->s.heap.get? b=some o:=λb o e=>(I.bs b o e).1
theorem Inv.mod (I:Inv X pins σ H s):Mod X.K X.mg X.base:=I.ok.mod
theorem Inv.kIn (I:Inv X pins σ H s):X.K.In s.heap:=I.ok.mod.kin.keeps I.bk
theorem Inv.lt (I:Inv X pins σ H s):X.env.locals<s.heap.objs.size:=let ⟨_,hn,_⟩:=I.loc;hn.lt
theorem Inv.sz (I:Inv X pins σ H s):X.s₀.heap.objs.size<=s.heap.objs.size:=aX I.ok.above (bH I.lt)
theorem Inv.nofs (I:Inv X pins σ H s){a:Aj}(h:s.heap.objs.size<=a):a∉X.fs:=λhb=>by obtain⟨_,o,ho,_⟩:=I.ok.funs.mem hb;exact absurd (aL (aq ho) (aX I.sz h)) (aU _)
theorem Inv.cne (I:Inv X pins σ H s):∀x c,X.env.cells.lookup x=some c->c≠X.env.locals:=λx c e z=>by obtain⟨v,o,ho,hd⟩:=I.cell x c e;obtain⟨m,⟨o',es,ep,ho',hd',_⟩,_⟩:=I.loc;rw[z,ho']at ho;cases ho;rw[hd']at hd;cases hd
theorem Inv.funs (I:Inv X pins σ H s):s.heap.FunFrames X.base X.outer:=by
 have aa:∀(l:List Env),(∀b∈frs l,b∈X.fs)->X.s₀.heap.FunFrames X.base l->s.heap.FunFrames X.base l:=by
  intro l
  induction l with
  |nil=>intro _ _;trivial
  |cons env r ih =>
   intro hs hl;obtain⟨hk,⟨L,o,F,Z,U,hd⟩,S⟩:=hl;have O:L∈X.fs:=hs L (by unfold frs;rw[dm,F];exact au);obtain⟨sl,e⟩:=I.base.slot L o U (I.ok.frf L O) O λz=>I.ok.exfs L z O;exact⟨hk,⟨L,_,F,Z,e,hd⟩,ih (λb J=>hs b (by unfold frs;rw[dm,F];exact aE _ J)) S⟩
 exact aa X.outer (λ_ J=>J) I.ok.funs
theorem Inv.stack (I:Inv X pins σ H s):s.heap.FunFrames X.base X.stack:=by
 rcases I.ok.stk with e|⟨e,hf⟩
 .rw[e];exact I.funs
 .rw[e];obtain⟨m,F,_⟩:=I.loc;refine .cons (by rw[I.ok.kind];decide) hf F ?_ I.funs;exact Heap.get?_none_of_le (aX I.ok.bsz I.ok.above)
theorem Inv.stkSub (I:Inv X pins σ H s):∀b∈frs X.stack,b∈X.env.locals::X.fs:=λb hb=>by
 rcases I.ok.stk with e|⟨e,hf⟩
 .rw[e]at hb;exact aE _ hb
 .rw[e]at hb;unfold frs at hb;rw[dm,hf]at hb;exact hb
theorem Inv.stkFree (I:Inv X pins σ H s):∀b∈frs X.stack,H b=none:=λb hb=>by
 rcases ap.mp (I.stkSub b hb) with e|hb
 .rw[e];exact I.free
 .obtain⟨_,o,ho,_⟩:=I.ok.funs.mem hb;exact I.base.free b o ho (I.ok.frf b hb) λz=>I.ok.exfs b z hb
theorem Inv.step {g':Array GenState}{t':Nat}{d':Drawn}{ch:List Aj}(I:Inv X pins σ H s)
  (hch:∀b∈ch,(b∈X.ex\/X.s₀.heap.objs.size<=b)/\b≠X.env.locals/\(∀x c,X.env.cells.lookup x=some c->c≠b)/\∀p∈X.pn++pins,p.1≠b)
  (keep:∀b o,b≠X.env.locals->b∉X.fs->b∉ch->s.heap.get? b=some o->H b=none->h'.get? b=some o)
  (slot:∀b o,b≠X.env.locals->b∈X.fs->b∉ch->s.heap.get? b=some o->H b=none->∃sl,h'.get? b=some { o with slots:=sl }) (free:∀b o,b∉ch->s.heap.get? b=some o->H b=none->H' b=none)
  (there:∀b o,b∉ch->s.heap.get? b=some o->∃o',h'.get? b=some o')
  (tups:∀b xs,H b=some (.tup xs)->H' b=some (.tup xs)) (frzs:∀b o u,H b=some (.frz o u)->H' b=some (.frz o u)) (tbls:∀b ps,H b=some (.tbl ps)->∃more,H' b=some (.tbl (ps++more)))
  (ns:∀m,s.heap.Ns X.env.locals m->h'.Ns X.env.locals m) (hok:HOk X.prog X.w H' h') (hg:AllBare g') :
  Inv X pins σ H' { s with heap:=h',gens:=g',drawn:=d',toks:=t' }:=by
 have aa:∀b o,X.s₀.heap.get? b=some o->b≠X.env.locals:=λb o e=>aJ (aL (aq e) I.ok.above);have Z:∀b o,X.s₀.heap.get? b=some o->b∉X.ex->b∉ch:=λb o e F L=>by
  rcases(hch b L).1 with z|z
  .exact F z
  .exact absurd (aL (aq e) z) (aU _)
 have ad:∀x c,X.env.cells.lookup x=some c->∀v,s.heap.IsCell c v->h'.IsCell c v:=λx c e v ⟨o,O,hd⟩=>by
  have S:c∉ch:=λz=>(hch c z).2.2.1 x c e rfl;by_cases hc:c∈X.fs
  .obtain⟨sl,q⟩:=slot c o (I.cne x c e) hc S O (I.freeC x c e);exact⟨_,q,hd⟩
  .exact⟨o,keep c o (I.cne x c e) hc S O (I.freeC x c e),hd⟩
 refine⟨I.ok,I.os,hg,⟨λb o e n L F=>?_,λb o e n L F=>?_,λb o e n F=>?_,λb o e F=>?_,λb xs e=>tups b xs (I.base.tups b xs e),λb o xs e=>frzs b o xs (I.base.frzs b o xs e),λb ps e=>?_⟩,?_,λx c e=>?_,?_,λx c e=>?_,λp hp=>?_,hok,I.len⟩
 .exact keep b o (aa b o e) L (Z b o e F) (I.base.keep b o e n L F) (I.base.free b o e n F)
 .obtain⟨sl,J⟩:=I.base.slot b o e n L F;obtain⟨ai,U⟩:=slot b _ (aa b o e) L (Z b o e F) J (I.base.free b o e n F);exact⟨ai,U⟩
 .obtain⟨o',J⟩:=I.base.there b o e F;exact free b o' (Z b o e F) J (I.base.free b o e n F)
 .obtain⟨o',J⟩:=I.base.there b o e F;exact there b o' (Z b o e F) J
 .obtain⟨m1,J⟩:=I.base.tbls b ps e;obtain⟨m2,U⟩:=tbls b _ J;exact⟨m1++m2,by rw[U,eC]⟩
 .obtain⟨m,hn,hl⟩:=I.loc;refine⟨m,ns m hn,λi x v J U e3=>?_⟩;obtain⟨u,r,l⟩:=hl i x v J U e3;refine⟨u,r,?_⟩;rcases l with l|⟨k,c,e,z⟩
  .exact .inl l
  .exact .inr ⟨k,c,e,ad x c e _ z⟩
 .obtain⟨v,z⟩:=I.cell x c e;exact⟨v,ad x c e v z⟩
 .obtain⟨m,⟨o,_,_,O,_⟩,_⟩:=I.loc;exact free _ o (λz=>(hch _ z).2.1 rfl) O I.free
 .obtain⟨v,o,O,hd⟩:=I.cell x c e;exact free c o (λz=>(hch c z).2.2.1 x c e rfl) O (I.freeC x c e)
 .obtain⟨e,n,ne,nf,d⟩:=I.pin p hp;have S:p.1∉ch:=λz=>(hch p.1 z).2.2.2 p hp rfl;exact⟨keep p.1 p.2 ne nf S e n,free p.1 p.2 S e n,ne,nf,d⟩
theorem Inv.un {t':Nat}(I:Inv X pins σ H s)(u:Un X.fs [] H H' s.heap h')(hok:HOk X.prog X.w H' h'):Inv X pins σ H' { s with heap:=h',toks:=t' }:=by
 obtain⟨m,⟨o,es,ep,L,r⟩,_⟩:=id I.loc;obtain⟨sl,U⟩:=u.any L I.free (by simp);exact I.step (g':=s.gens) (d':=s.drawn) (ch:=[]) (λ_ z=>nomatch z) (λb o _ F _ e n=>u.keep b o e n F (by simp)) (λb o _ F _ e n=>u.slot b o e n F (by simp)) (λb o _ e n=>u.free b o e n (by simp)) (λb o _ e=>u.there b o e (by simp)) u.tups u.frzs u.tbls (λm' S=>by
  obtain⟨o',Z,aa,J,O⟩:=S
  rw[L]at J;cases J
  exact⟨_,Z,aa,U,O⟩) hok I.bare
theorem Inv.call {g':Array GenState}{t':Nat}{d':Drawn}{ch:List Aj}(I:Inv X pins σ H s)(u:Un (frs X.stack) ch H H' s.heap h')(hok:HOk X.prog X.w H' h')(hg:AllBare g')
  (hch:∀b∈ch,(b∈X.ex\/X.s₀.heap.objs.size<=b)/\b≠X.env.locals/\(∀x c,X.env.cells.lookup x=some c->c≠b)/\∀p∈X.pn++pins,p.1≠b) :
  Inv X pins σ H' { s with heap:=h',gens:=g',drawn:=d',toks:=t' }:=by
 obtain⟨m,⟨o,es,ep,O,r⟩,_⟩:=id I.loc;obtain⟨sl,J⟩:=u.any O I.free λz=>(hch _ z).2.1 rfl;exact I.step (ch:=ch) hch (λb o J Z F e n=>u.keep b o e n (λz=>(ap.mp (I.stkSub b z)).elim J Z) F) (λb o _ _ F e n=>u.any e n F) (λb o F e n=>u.free b o e n F) (λb o F e=>u.there b o e F) u.tups u.frzs u.tbls (λm' U=>by
  obtain⟨o',aa,ad,L,S⟩:=U
  rw[O]at L;cases L
  exact⟨_,aa,ad,J,S⟩) hok hg
theorem Inv.turned {t':Nat}{it:Aj}(I:Inv X pins σ H s)(k:∀b o,b≠it->s.heap.get? b=some o->h'.get? b=some o)(hn:H it=none)(hL:it≠X.env.locals)
  (h1:it∈X.ex\/X.s₀.heap.objs.size<=it) (h2:∀x c,X.env.cells.lookup x=some c->c≠it) (h3:∀p∈X.pn++pins,p.1≠it):Inv X pins σ H { s with heap:=h',toks:=t' }:=by
 have J:∀b u,H b=some u->b≠it:=λb u e z=>by rw[z,hn]at e;cases e
 refine I.step (g':=s.gens) (d':=s.drawn) (ch:=[it]) (λb S=>?_) (λb o _ _ F e _=>k b o (λz=>F (by simp[z])) e) (λb o _ _ F e _=>⟨o.slots,k b o (λz=>F (by simp[z])) e⟩) (λ_ _ _ _ n=>n)
  (λb o F e=>⟨o,k b o (λz=>F (by simp[z])) e⟩) (λ_ _ e=>e) (λ_ _ _ e=>e) (λb ps e=>⟨#[],by rw[e];simp⟩) (λm O=>?_) (λb u e=>?_) I.bare
 .have e:b=it:=by simpa using S
  subst e;exact⟨h1,hL,h2,h3⟩
 .obtain⟨o,es,U,L,r⟩:=O;exact⟨o,es,U,k _ o (bE hL) L,r⟩
 .refine(I.hok b u e).stay (λc v F q=>k c v ?_ q) (λ_ q=>q) λ_ _ q=>q;rcases F with z|z
  .rw[z];exact J b u e
  .exact J c _ z
theorem Inv.tok (I:Inv X pins σ H s)(t:Nat):Inv X pins σ H { s with toks:=t }:=I.un (h':=s.heap) (t':=t) Un.refl I.hok
theorem Inv.kept {t':Nat}(I:Inv X pins σ H s)(k:∀b u,s.heap.get? b=some u->h'.get? b=some u):Inv X pins σ H { s with heap:=h',toks:=t' }:=I.un (Un.kept k) (I.hok.kept k)
theorem Inv.laid {a:Aj}{o:HO}{t':Nat}(I:Inv X pins σ H s)(k:∀b u,s.heap.get? b=some u->h'.get? b=some u)(hp:s.heap.objs.size<=a)(new:ObjOk X.prog X.w (upd H a o) h' a o) :
  Inv X pins σ (upd H a o) { s with heap:=h',toks:=t' }:=I.un (Un.laid k hp (I.hok.fresh hp)) (I.hok.laid k hp new)
theorem Inv.write {x e:Aj}{o:HO}{t':Nat}(I:Inv X pins σ H s)(mu:Mut (H x))(he:e=x\/H e=some (.own x))(k:∀b u,b≠e->s.heap.get? b=some u->h'.get? b=some u)(heo:∃u,h'.get? e=some u)
  (new:ObjOk X.prog X.w (upd H x o) h' x o):Inv X pins σ (upd H x o) { s with heap:=h',toks:=t' }:=I.un (Un.write mu he k heo) (I.hok.write mu he k heo new)
theorem Inv.weak {σ':List (Option V)}(I:Inv X pins σ H s)(hl:σ'.length=σ.length)(w:∀(i:Nat) v,σ'[i]?=some (some v)->σ[i]?=some (some v)):Inv X pins σ' H s :=
 ⟨I.ok,I.os,I.bare,I.base,let ⟨m,hn,hl'⟩:=I.loc;⟨m,hn,λi x v e1 e2 e3=>hl' i x v e1 (w i v e2) e3⟩,I.cell,I.free,I.freeC,I.pin,I.hok,hl.trans I.len⟩
theorem Inv.pins_of {pins':List (Aj×Obj)}(I:Inv X pins σ H s)(h:∀p∈pins',s.heap.get? p.1=some p.2/\H p.1=none/\p.1≠X.env.locals/\p.1∉X.fs/\∀v,p.2.data≠.cell v):Inv X pins' σ H s :=
 ⟨I.ok,I.os,I.bare,I.base,I.loc,I.cell,I.free,I.freeC,λp hp=>(aP.mp hp).elim (λz=>I.pin p (bg _ z)) (h p),I.hok,I.len⟩
theorem qj4 {N:List Str}(hN:N.Nodup){i j:Nat}{x:Str}(a:N[i]?=some x)(b:N[j]?=some x):i=j:=by obtain⟨h1,e1⟩:=ba.mp a;obtain⟨h2,e2⟩:=ba.mp b;exact(List.getElem_inj hN).mp (e1.trans e2.symm)
theorem _root_.aU0 (h:True:=by walk_at "iv"):True:=h
theorem wxr {M:Model}{A:Ae}{E:Ag->Ab->Prop}{i:Nat}{x:Str}{v:V}{u:Ag}{Q:Unit->Ab->Prop}(I:Inv X pins σ H s)(hN:X.N.Nodup)(hi:X.N[i]?=some x)(hx:Loc X.env.scope x)(r:RelV v u)
  (h:∀s',Inv X pins (σ.set i (some v)) H s'->(∃a,Heap.SameBut a s.heap s'.heap/\(a=X.env.locals\/X.env.cells.lookup x=some a))->Q () s') (hf:autoParam (X.fn x=true\/X.env.scope.names.lookup x=some .local) aU0._auto_1):wpAny M A (storeName X.env x u) Q E s:=by
 obtain⟨m,hn,hl⟩:=id I.loc;have a4:(X.env.scope.kind==.class||(X.env.scope.kind==.module&&X.env.locals != X.env.globals))=false:=by rw[I.ok.kind];rfl
 have ak:i<σ.length:=by rw[I.len];exact(ba.mp hi).1
 have ad:=I.cne;have ai:∀ {a:Aj} {h':Heap},(∃o,s.heap.get? a=some o/\H a=none)->Heap.SameBut a s.heap h'->HOk X.prog X.w H h':=λ{a h'} ha hs b ob e=>by
  obtain⟨_,_,an⟩:=ha;refine(I.hok b ob e).stay (λc S J q=>(hs.2 c ?_).trans q) (λ_ q=>q) λ_ _ q=>q;rintro rfl;rcases J with rfl|J
  .rw[an]at e;cases e
  .rw[an]at J;cases J
 rcases hx with hk|hk
 .refine wpAny_storeName_local hk hn (λh' a3 hs=>?_) a4;obtain⟨oL,_,_,a2,_⟩:=id hn;refine h _ ⟨I.ok,I.os,I.bare,⟨λb o e n O hx=>?_,λb o e n O hx=>?_,I.base.free,λb o e hx=>?_,I.base.tups,I.base.frzs,I.base.tbls⟩,⟨_,a3,λj y v' F L e3=>?_⟩,λy c e=>?_,I.free,I.freeC,λp hp=>?_,ai ⟨oL,a2,I.free⟩ hs,by simpa using I.len⟩ ⟨_,hs,.inl rfl⟩
  .exact(hs.2 b (aJ (aL (aq e) I.ok.above))).trans (I.base.keep b o e n O hx)
  .obtain⟨sl,F⟩:=I.base.slot b o e n O hx;exact⟨sl,(hs.2 b (aJ (aL (aq e) I.ok.above))).trans F⟩
  .obtain⟨o',F⟩:=I.base.there b o e hx;exact⟨o',(hs.2 b (aJ (aL (aq e) I.ok.above))).trans F⟩
  .by_cases hj:j=i
   .subst hj;rw[hi]at F;cases F;rw[List.getElem?_set_self ak]at L;cases L;exact⟨u,r,.inl ⟨hk,by simp⟩⟩
   .rw[List.getElem?_set_ne (bE hj)]at L;obtain⟨u',r',q⟩:=hl j y v' F L e3;refine⟨u',r',?_⟩;rcases q with⟨k,e⟩|⟨k,c,e,z⟩
    .refine .inl ⟨k,?_⟩;have:y≠x:=λe=>hj (qj4 hN F (e▸hi));simp[this,e]
    .exact .inr ⟨k,c,e,z.sameBut hs (ad y c e)⟩
  .obtain⟨S,z⟩:=I.cell y c e;exact⟨S,z.sameBut hs (ad y c e)⟩
  .obtain⟨e,n,U,nf,d⟩:=I.pin p hp;exact⟨(hs.2 p.1 U).trans e,n,U,nf,d⟩
 .have aa:X.fn x=true:=by
   rcases hf with z|z
   .exact z
   .rw[z]at hk;cases hk
  obtain⟨c,J⟩:=I.ok.has x (.inl hk);obtain⟨S,z⟩:=I.cell x c J;refine wpAny_storeName_cell I.ok.kind hk J z (λh' a0 hs=>?_);obtain⟨oc,aj,a1⟩:=id z;refine h { s with heap:=h' } ⟨I.ok,I.os,I.bare,⟨λb o e n O hx=>?_,λb o e n O hx=>?_,I.base.free,λb o e hx=>?_,I.base.tups,I.base.frzs,I.base.tbls⟩,⟨m,hn.sameBut hs (bE (ad x c J)),λj y v' F L e3=>?_⟩,λy Z e=>?_,I.free,I.freeC,λp hp=>?_,ai ⟨oc,aj,I.freeC x c J⟩ hs,by simpa using I.len⟩ ⟨c,hs,.inr J⟩
  .exact(hs.2 b (aJ (aL (aq e) (I.ok.cab x c aa J)))).trans (I.base.keep b o e n O hx)
  .obtain⟨sl,F⟩:=I.base.slot b o e n O hx;exact⟨sl,(hs.2 b (aJ (aL (aq e) (I.ok.cab x c aa J)))).trans F⟩
  .obtain⟨o',F⟩:=I.base.there b o e hx;exact⟨o',(hs.2 b (aJ (aL (aq e) (I.ok.cab x c aa J)))).trans F⟩
  .by_cases hj:j=i
   .subst hj;rw[hi]at F;cases F;rw[List.getElem?_set_self ak]at L;cases L;exact⟨u,r,.inr ⟨.inl hk,c,J,a0⟩⟩
   .rw[List.getElem?_set_ne (bE hj)]at L;obtain⟨u',r',q⟩:=hl j y v' F L e3;refine⟨u',r',?_⟩;rcases q with q|⟨k,Z,e,z'⟩
    .exact .inl q
    .refine .inr ⟨k,Z,e,z'.sameBut hs ?_⟩;rintro rfl;exact hj (qj4 hN F (I.ok.inj _ _ _ e J▸hi))
  .by_cases hcc:Z=c
   .subst hcc;exact⟨_,a0⟩
   .obtain⟨w2,z2⟩:=I.cell y Z e;exact⟨w2,z2.sameBut hs hcc⟩
  .obtain⟨e,n,U,nf,d⟩:=I.pin p hp;refine⟨(hs.2 p.1 ?_).trans e,n,U,nf,d⟩;intro q;rw[q,aj]at e;have q':oc=p.2:=ax e;exact d S (by rw[<-q'];exact a1)
theorem ud {M:Model}{A:Ae}{E:Ag->Ab->Prop}{i:Nat}{x:Str}{v:V}{u:Ag}{Q:Unit->Ab->Prop}(I:Inv X pins σ H s)(hN:X.N.Nodup)(hi:X.N[i]?=some x)(hx:Loc X.env.scope x)(r:RelV v u)
  (h:∀s',Inv X pins (σ.set i (some v)) H s'->Q () s') (hf:autoParam (X.fn x=true\/X.env.scope.names.lookup x=some .local) aU0._auto_1):wpAny M A (storeName X.env x u) Q E s :=
 wxr I hN hi hx r (λs' I' _=>h s' I') hf
theorem Inv.call' {s':Ab}{ch:List Aj}(I:Inv X pins σ H s)(ho:s'.os=s.os)(u:Un (frs X.stack) ch H H' s.heap s'.heap)(hok:HOk X.prog X.w H' s'.heap)(hg:AllBare s'.gens)
  (hch:∀b∈ch,(b∈X.ex\/X.s₀.heap.objs.size<=b)/\b≠X.env.locals/\(∀x c,X.env.cells.lookup x=some c->c≠b)/\∀p∈X.pn++pins,p.1≠b):Inv X pins σ H' s':=by
 obtain⟨h',g',d',t',o'⟩:=s';have e:o'=s.os:=ho;subst e;exact I.call (g':=g') (t':=t') (d':=d') u hok hg hch
end
abbrev XK:=Ag->Option Aj->Hp->Prop
abbrev St:=List (Option V)
abbrev VK:=V->Hp->Prop
abbrev TE:=St->Hp->VK->Prop
abbrev TT:=St->Hp->(Bool->Hp->Prop)->Prop
abbrev TA:=St->Hp->(List V->Hp->Prop)->Prop
structure Ends where
 nx:St->Hp->Prop
 rt:VK
 bk:St->Hp->Prop:=λ_ _=>False
 ct:St->Hp->Prop:=λ_ _=>False
abbrev TS:=Ends->St->Hp->Prop
def EP (X:Cx)(pins:List (Aj×Obj))(σ:St)(Q:VK)(u:Ag)(s':Ab):Prop:=∃v H',Inv X pins σ H' s'/\RelV v u/\Q v H'
def TP (X:Cx)(pins:List (Aj×Obj))(σ:St)(Q:Bool->Hp->Prop)(b:Bool)(s':Ab):Prop:=∃H',Inv X pins σ H' s'/\Q b H'
def AP (X:Cx)(pins:List (Aj×Obj))(σ:St)(Q:List V->Hp->Prop)(us:List Ag)(s':Ab):Prop:=∃vs H',Inv X pins σ H' s'/\Vals vs us/\Q vs H'
def SP (X:Cx)(pins:List (Aj×Obj))(D:Ends)(f:Flow)(s':Ab):Prop :=
 match f with
 |.next=>∃σ' H',Inv X pins σ' H' s'/\D.nx σ' H'
 |.brk=>∃σ' H',Inv X pins σ' H' s'/\D.bk σ' H'
 |.cont=>∃σ' H',Inv X pins σ' H' s'/\D.ct σ' H'
 |.ret u=>∃v σ' H',Inv X pins σ' H' s'/\RelV v u/\D.rt v H'
def PE (X:Cx)(e:Expr)(t:TE):Prop :=
 ∀(pins:List (Aj×Obj)) (s:Ab) (σ:St) (H:Hp) (Q:VK),Inv X pins σ H s->t σ H Q->wpAny (model X.prog X.w) X.A (eval e X.env) (EP X pins σ Q) X.xe s
def PT (X:Cx)(e:Expr)(t:TT):Prop :=
 ∀(pins:List (Aj×Obj)) (s:Ab) (σ:St) (H:Hp) (Q:Bool->Hp->Prop),Inv X pins σ H s->t σ H Q->wpAny (model X.prog X.w) X.A (isTrue e X.env (eval e X.env)) (TP X pins σ Q) X.xe s
def PW (X:Cx)(e:Expr)(t:TT):Prop :=
 ∀(whole:Sem Ag) (pins:List (Aj×Obj)) (s:Ab) (σ:St) (H:Hp) (Q:Bool->Hp->Prop),Inv X pins σ H s->t σ H Q->wpAny (model X.prog X.w) X.A (isTrue e X.env whole) (TP X pins σ Q) X.xe s
theorem PW.pt {X:Cx}{e:Expr}{t:TT}(h:PW X e t):PT X e t:=h _
def PA (X:Cx)(es:List Expr)(t:TA):Prop :=
 ∀(pos:Pos) (pins:List (Aj×Obj)) (s:Ab) (σ:St) (H:Hp) (Q:List V->Hp->Prop),Inv X pins σ H s->t σ H Q->wpAny (model X.prog X.w) X.A (spliced (backTo pos (starEach es X.env))) (AP X pins σ Q) X.xe s
def PS (X:Cx)(st:Stmt)(t:TS):Prop :=
 ∀(pins:List (Aj×Obj)) (s:Ab) (σ:St) (H:Hp) (D:Ends),Inv X pins σ H s->t D σ H->wpAny (model X.prog X.w) X.A (exec st X.env) (SP X pins D) X.xe s
def PSs (X:Cx)(st:List Stmt)(t:TS):Prop :=
 ∀(pins:List (Aj×Obj)) (s:Ab) (σ:St) (H:Hp) (D:Ends),Inv X pins σ H s->t D σ H->wpAny (model X.prog X.w) X.A (execs st X.env) (SP X pins D) X.xe s
theorem thn {α:Type}{t:Sem α}{Q Q':α->Ab->Prop}{M:Model}{A:Ae}{E:Ag->Ab->Prop}{s:Ab}(h:wpAny M A t Q E s)(hQ:∀a s,Q a s->Q' a s):wpAny M A t Q' E s:=aK h hQ λ_ _ x=>x
section
variable {X:Cx}
def Z6 (i:Nat):TE:=λσ H Q=>∃v,σ[i]?=some (some v)/\Q v H
def tC (v:V):TE:=λ_ H Q=>Q v H
theorem _root_.aU1 (h:True:=by decide):True:=h
theorem pe_var {i:Nat}{x:Str}{pos:Pos}(hN:X.N[i]?=some x)(hv:Vis X.env.scope x)(hd:autoParam ((x==("__debug__" : Str))=false) aU1._auto_1)(hcd:autoParam ((x==("__classdict__" : Str))=false) aU1._auto_1):PE X (.Name x pos) (Z6 i):=by
 intro pins s σ H Q I h;obtain⟨v,e,h⟩:=h;obtain⟨m,S,Z⟩:=I.loc;obtain⟨u,r,l⟩:=Z i x v hN e hv;have J:EP X pins σ Q u s:=⟨v,H,I,r,h⟩;rcases l with⟨F,U⟩|⟨F,c,O,L⟩
 .exact wpAny_Name (wpAny_loadName_local I.ok.kind F S U J) hd
 .rcases F with F|F
  .exact wpAny_Name (wpAny_loadName_cell I.ok.kind F O L J) hd
  .exact wpAny_Name (wpAny_loadName_free I.ok.kind F O L J hcd) hd
theorem qj {i j pos}:PE X (.Constant (.int i) j pos) (tC (.int i)):=λ_ _ _ H _ I h=>wpAny_Constant_int ⟨.int i,H,I.tok _,⟨_,rfl⟩,h⟩
theorem W1 {b j pos}:PE X (.Constant (.bool b) j pos) (tC (.bl b)):=λ_ _ _ H _ I h=>Constant_bool ⟨.bl b,H,I,rfl,h⟩
theorem wkw {j pos}:PE X (.Constant .none j pos) (tC .non):=λ_ _ _ H _ I h=>Constant_none ⟨.non,H,I,rfl,h⟩
theorem wt {x j pos}:PE X (.Constant (.str x) j pos) (tC (.str x)):=λ_ _ _ H _ I h=>Calls.Constant_str ⟨.str x,H,I.tok _,⟨_,rfl⟩,h⟩
def Gl (X:Cx)(x:Str):Prop:=X.env.kindOf x=some .globalImplicit
theorem jc {E:Ag->Ab->Prop}{pins:List (Aj×Obj)}{s:Ab}{σ:St}{H:Hp}{x:Str}{u:Ag}{pos:Pos}{Q:Ag->Ab->Prop}(I:Inv X pins σ H s)(hg:Gl X x)(hm:X.mg x=some u)(h:Q u s)
  (hd:autoParam ((x==("__debug__" : Str))=false) aU1._auto_1):wpAny (model X.prog X.w) X.A (eval (.Name x pos) X.env) Q E s :=
 Calls.Name_function_global I.ok.kind hg (Calls.loadGlobal_global (by rw[I.ok.glob];exact I.mod.glob.keeps I.bk) hm h) hd
theorem _root_.aU2 (h:True:= by decide):True:=h
theorem qu9 {E:Ag->Ab->Prop}{pins:List (Aj×Obj)}{s:Ab}{σ:St}{H:Hp}{x:Str}{u:Ag}{pos:Pos}{Q:Ag->Ab->Prop}(I:Inv X pins σ H s)(hg:Gl X x)(hm:X.mg x=none)(hv:bootBuiltins x=some u)(h:Q u s)
  (hn:autoParam (x ≠ "__name__") aU2._auto_1) (hd:autoParam ((x==("__debug__" : Str))=false) aU1._auto_1):wpAny (model X.prog X.w) X.A (eval (.Name x pos) X.env) Q E s:=by
 obtain⟨F,h1,h2⟩:=I.mod.blt;exact Calls.Name_function_global I.ok.kind hg (Calls.loadGlobal_builtin (by rw[I.ok.glob];exact I.mod.glob.keeps I.bk) hm (by rw[I.ok.blt];exact h1.keeps I.bk) ((h2 x hn).trans hv) h) hd
theorem y6 {x:Str}{v:V}{u:Ag}{pos:Pos}(hg:Gl X x)(hm:X.mg x=some u)(r:RelV v u)(hd:autoParam ((x==("__debug__" : Str))=false) aU1._auto_1):PE X (.Name x pos) (tC v) :=
 λ_ _ _ H _ I h=>jc I hg hm ⟨v,H,I,r,h⟩ hd
variable {a b:Expr}{ta tb:TE}{pos:Pos}
def PC (X:Cx)(op:CmpOp)(a b:Expr)(t:TE):Prop :=
 ∀(pins:List (Aj×Obj)) (s:Ab) (σ:St) (H:Hp) (Q:VK),Inv X pins σ H s->t σ H Q ->
  wpAny (model X.prog X.w) X.A (eval a X.env) (λv s₁=>wpAny (model X.prog X.w) X.A (eval b X.env) (λu s₂=>wpAny (model X.prog X.w) X.A (compareOp op v u) (EP X pins σ Q) X.xe s₂) X.xe s₁) X.xe s
def tB (t:TE):TT:=λσ H Q=>t σ H λx H1=>∃c,x=.bl c/\Q c H1
theorem qvy {op:CmpOp}{t:TE}(h:PC X op a b t)(h1:behindInMarks op b=false:=by first | exact nobehind _ ⋯ ⋯ | rfl):PT X (.Compare a [op] [b] pos) (tB t):=by intro pins s σ H Q I F;refine wpAny_isTrue_Compare1 (thn (h pins s σ H _ I F) λv J h1=>thn h1 λu s2 h2=>thn h2 λc s3 ⟨x,H1,I1,r1,q1⟩=>?_) h1;obtain⟨d,rfl,q⟩:=q1;cases r1;exact cV ⟨H1,I1,q⟩
theorem _root_.aU3 (h:True:=by intro _;rfl):True:=h
theorem Qq {e:Expr}{t:TE}(h:PE X e t)(he:autoParam (∀whole,isTrue e X.env whole=(do let v <-whole;standAt e.pos;holding [v] (truthy v))) aU3._auto_1):PT X e (tB t):=by intro pins s σ H Q I F;refine isTrue_plain (thn (h pins s σ H _ I F) λv s1 ⟨x,H1,I1,r1,q1⟩=>?_) (he _);obtain⟨d,rfl,q⟩:=q1;cases r1;exact cV ⟨H1,I1,q⟩
variable {tA tB':TT}{rest:List Expr}
def tAnd (t u:TT):TT:=λσ H Q=>t σ H λc H1=>if c=true then u σ H1 Q else Q false H1
def tOr (t u:TT):TT:=λσ H Q=>t σ H λc H1=>if c=true then Q true H1 else u σ H1 Q
def tNot (t:TT):TT:=λσ H Q=>t σ H λc H1=>Q (!c) H1
theorem ut (ha:PT X a tA):PW X (.BoolOp .And [a] pos) tA:=by
 intro wh pins s σ H Q I h;refine isTrue_and (thn (ha pins s σ H Q I h) λc F e=>?_);cases c with
 |true=>exact isTrue_and_nil e
 |false=>exact e
theorem jk (ha:PT X a tA):PW X (.BoolOp .Or [a] pos) tA:=by
 intro wh pins s σ H Q I h;refine isTrue_or (thn (ha pins s σ H Q I h) λc F e=>?_);cases c with
 |false=>exact isTrue_or_nil e
 |true=>exact e
theorem Zu (ha:PT X a tA)(hb:PW X (.BoolOp .And (b::rest) pos) tB'):PW X (.BoolOp .And (a::b::rest) pos) (tAnd tA tB'):=by
 intro wh pins s σ H Q I h;refine isTrue_and (thn (ha pins s σ H _ I h) λc s1 ⟨H1,I1,q1⟩=>?_);cases c with
 |true=>exact hb wh pins s1 σ H1 Q I1 q1
 |false=>exact⟨H1,I1,q1⟩
theorem k6 (ha:PT X a tA)(hb:PW X (.BoolOp .Or (b::rest) pos) tB'):PW X (.BoolOp .Or (a::b::rest) pos) (tOr tA tB'):=by
 intro wh pins s σ H Q I h;refine isTrue_or (thn (ha pins s σ H _ I h) λc s1 ⟨H1,I1,q1⟩=>?_);cases c with
 |true=>exact⟨H1,I1,q1⟩
 |false=>exact hb wh pins s1 σ H1 Q I1 q1
theorem Qw (ha:PT X a tA):PT X (.UnaryOp .Not a pos) (tNot tA):=by intro pins s σ H Q I h;exact isTrue_not (ha pins s σ H (λc H1=>Q (!c) H1) I h)
def tAndV (ta tb:TE):TE:=λσ H Q=>ta σ H λx H1=>∃c,x=.bl c/\if c=true then tb σ H1 Q else Q (.bl false) H1
theorem qv7 {op}{t:TE}(h:PE X a t):PE X (.BoolOp op [a] pos) t:=λpins s σ H Q I hw=>BoolOp_one (h pins s σ H Q I hw)
theorem Y6 (ha:PE X a ta)(hb:PE X (.BoolOp .And (b::rest) pos) tb):PE X (.BoolOp .And (a::b::rest) pos) (tAndV ta tb):=by
 intro pins s σ H Q I h;refine BoolOp_and (thn (ha pins s σ H _ I h) λv s1 ⟨x,H1,I1,r1,F⟩=>?_);obtain⟨c,rfl,F⟩:=F;cases r1;refine cV ?_;cases c with
 |true=>exact hb pins s1 σ H1 Q I1 F
 |false=>exact⟨.bl false,H1,I1,rfl,F⟩
def tIf (t:TT)(ta tb:TE):TE:=λσ H Q=>t σ H λc H1=>if c=true then ta σ H1 Q else tb σ H1 Q
theorem qy9 {c:Expr}(hc:PT X c tA)(ha:PE X a ta)(hb:PE X b tb):PE X (.IfExp c a b pos) (tIf tA ta tb):=by
 intro pins s σ H Q I h;refine wpAny_IfExp (thn (hc pins s σ H _ I h) λd s1 ⟨H1,I1,q1⟩=>?_);cases d with
 |true=>exact ha pins s1 σ H1 Q I1 q1
 |false=>exact hb pins s1 σ H1 Q I1 q1
end
def SqL (K:Aa)(H:Hp)(a:Aj)(xs:List V):Prop :=
 Rd H a (.lst xs) \/
  ∃(o:Obj) (its:Array Ag) (n:Nat),K.lookup a=some o/\o.cls=.type "list" /\ o.dict=none/\o.data=.seq its n/\its.size<=sizeLine/\Vals xs its.toList
def SqT (K:Aa)(H:Hp)(a:Aj)(xs:List V):Prop :=
 Rd H a (.tup xs) \/
  ∃(o:Obj) (its:Array Ag) (n:Nat),K.lookup a=some o/\o.cls=.type "tuple" /\ o.data=.seq its n/\its.size<=sizeLine/\Vals xs its.toList
def absV:Ag->Option V
 |.none=>some .non
 |.bool b=>some (.bl b)
 |.int i _=>some (.int i)
 |.str x _=>some (.str x)
 |.bytes b _=>some (.byt b)
 |.float b _=>some (.flt b)
 |.ref a=>some (.ref a)
 |.type n=>some (.ty n)
 |_=>none
theorem RelV.abs {x:V}{u:Ag}(r:RelV x u):absV u=some x:=by
 cases x with
 |non=>cases r;rfl
 |bl _=>cases r;rfl
 |int _=>obtain⟨t,rfl⟩:=r;rfl
 |str _=>obtain⟨t,rfl⟩:=r;rfl
 |byt _=>obtain⟨t,rfl⟩:=r;rfl
 |flt _=>obtain⟨t,rfl⟩:=r;rfl
 |ref _=>cases r;rfl
 |ty _=>cases r;rfl
theorem RelV.inj {x y:V}{u:Ag}(r:RelV x u)(q:RelV y u):x=y:=ax (r.abs.symm.trans q.abs)
theorem Vals.inj:∀ {xs ys:List V} {us:List Ag},Vals xs us->Vals ys us->xs=ys
 |_,_,_,.nil,.nil=>rfl
 |_,_,_,.cons r t,.cons r' t'=>by rw[r.inj r',Vals.inj t t']
section
variable {X:Cx}{pins:List (Aj×Obj)}{σ:St}{H:Hp}{s:Ab}{a:Aj}{xs ys:List V}
theorem SqL.of {K:Aa}(h:H a=some (.lst xs)):SqL K H a xs:=.inl (.inl h)
theorem SqT.of {K:Aa}(h:H a=some (.tup xs)):SqT K H a xs:=.inl (.inl h)
theorem Inv.list (I:Inv X pins σ H s)(h:SqL X.K H a xs):∃its:List Ag,Vals xs its/\PlainL s.heap a its.toArray/\xs.length<=sizeLine:=by
 rcases h with h|⟨o,its,n,hk,hc,hd,hs,hz,r⟩
 .obtain⟨z,its,n,r,e⟩:=h.ok I.hok;exact⟨its,r,⟨_,n,e,rfl,rfl,rfl⟩,z⟩
 .refine⟨its.toList,r,⟨o,n,I.kIn a o hk,hc,hd,by simpa using hs⟩,?_⟩;have e:=r.length;simp only[aO]at e;lia
theorem Inv.tuple (I:Inv X pins σ H s)(h:SqT X.K H a xs):∃its:List Ag,Vals xs its/\IsTup s.heap a its.toArray/\xs.length<=sizeLine:=by
 rcases h with h|⟨o,its,n,hk,hc,hs,hz,r⟩
 .obtain⟨z,its,r,p⟩:=h.ok I.hok;exact⟨its,r,p,z⟩
 .refine⟨its.toList,r,⟨o,I.kIn a o hk,hc,n,by simpa using hs⟩,?_⟩;have e:=r.length;simp only[aO]at e;lia
theorem Inv.list_inj (I:Inv X pins σ H s)(h:SqL X.K H a xs)(h':SqL X.K H a ys):xs=ys:=by
 obtain⟨S,r,⟨o,n,e,_,_,d⟩,_⟩:=I.list h;obtain⟨O,L,⟨o',U,F,_,_,J⟩,_⟩:=I.list h';rw[e]at F;cases F;rw[d]at J;injection J with d1 _;have:S=O:=by simpa using bi Array.toList d1
 subst this;exact r.inj L
end
abbrev Cx.wish (X:Cx)(E:Ag->Ab->Prop):Cx:={ X with xe:=E }
section
variable {X:Cx}{pins:List (Aj×Obj)}{σ:St}{H:Hp}{s:Ab}{E:Ag->Ab->Prop}
end
section
variable {X:Cx}{st:Stmt}{rest:List Stmt}{t u:TS}{e:Expr}{te:TE}{pos:Pos}
def tNext:TS:=λD σ H=>D.nx σ H
def uv (t u:TS):TS:=λD σ H=>t { D with nx:=u D } σ H
theorem xz:PSs X [] tNext:=λ_ _ σ H _ I h=>cM ⟨σ,H,I,h⟩
theorem qu (h1:PS X st t)(h2:PSs X rest u):PSs X (st::rest) (uv t u):=by
 intro pins s σ H D I h;refine fv (thn (h1 pins s σ H { D with nx:=u D } I h) λf J q=>?_);cases f with
 |next =>
  obtain⟨F,H',L,q⟩:=q;exact h2 pins J F H' D L q
 |ret v=>exact q
 |brk=>exact q
 |cont=>exact q
theorem qm (h1:PS X st t):PSs X [st] t:=by
 intro pins s σ H D I h;refine fv (thn (h1 pins s σ H D I h) λf s1 q=>?_);cases f with
 |next=>exact cM q
 |ret v=>exact q
 |brk=>exact q
 |cont=>exact q
theorem Inv.quiet {pins:List (Aj×Obj)}{σ:St}{H:Hp}{s:Ab}(I:Inv X pins σ H s):interactive X.env=false:=by simp[interactive,I.ok.kind]
def tDrop (te:TE):TS:=λD σ H=>te σ H λ_ H1=>D.nx σ H1
theorem _root_.aU4 (h:True:=by rfl):True:=h
theorem zk (he:PE X e te)(hs:autoParam (swapsWith e none pos.line X.env=pure false) aU4._auto_1):PS X (.Expr e pos) (tDrop te):=by intro pins s σ H D I h;exact wpAny_Expr_any (thn (he pins s σ H _ I h) λv s1 ⟨x,H1,I1,r1,q1⟩=>⟨σ,H1,I1,q1⟩) I.quiet hs
def tRet (te:TE):TS:=λD σ H=>te σ H D.rt
theorem w8 (he:PE X e te):PS X (.Return (some e) pos) (tRet te):=by intro pins s σ H D I h;exact wpAny_Return_some (thn (he pins s σ H _ I h) λv s1 ⟨x,H1,I1,r1,q1⟩=>⟨x,σ,H1,I1,r1,q1⟩)
def tIfS (c:TT)(t u:TS):TS:=λD σ H=>c σ H λb H1=>if b=true then t D σ H1 else u D σ H1
theorem xc {c:Expr}{a b:List Stmt}{tc:TT}(hc:PT X c tc)(ha:PSs X a t)(hb:PSs X b u):PS X (.If c a b pos) (tIfS tc t u):=by
 intro pins s σ H D I h;refine wpAny_If (thn (hc pins s σ H _ I h) λd s1 ⟨H1,I1,q1⟩=>?_);cases d with
 |true=>exact ha pins s1 σ H1 D I1 q1
 |false=>exact hb pins s1 σ H1 D I1 q1
end
abbrev TG:=V->St->Hp->(St->Hp->Prop)->Prop
abbrev TGs:=List V->St->Hp->(St->Hp->Prop)->Prop
def PG (X:Cx)(target:Expr)(t:TG):Prop :=
 ∀(pins:List (Aj×Obj)) (s:Ab) (σ:St) (H:Hp) (v:V) (u:Ag) (Q:St->Hp->Prop),Inv X pins σ H s->RelV v u->t v σ H Q ->
  wpAny (model X.prog X.w) X.A (assign target X.env u) (λ_ s'=>∃σ' H',Inv X pins σ' H' s'/\Q σ' H') X.xe s
def PGs (X:Cx)(ts:List Expr)(t:TGs):Prop :=
 ∀(pins:List (Aj×Obj)) (s:Ab) (σ:St) (H:Hp) (vs:List V) (us:List Ag) (Q:St->Hp->Prop),Inv X pins σ H s->Vals vs us->t vs σ H Q ->
  wpAny (model X.prog X.w) X.A (assignInOrder ((assignEach ts X.env).map (·.2)) us) (λ_ s'=>∃σ' H',Inv X pins σ' H' s'/\Q σ' H') X.xe s
abbrev TSet:=V->V->V->Hp->(Hp->Prop)->Prop
def PSet (X:Cx)(t:TSet):Prop :=
 ∀(pins:List (Aj×Obj)) (s:Ab) (σ:St) (H:Hp) (o i v:V) (ov iv u:Ag) (Q:Hp->Prop),Inv X pins σ H s->RelV o ov->RelV i iv->RelV v u->t o i v H Q ->
  wpAny (model X.prog X.w) X.A (setItem ov iv u) (λ_ s'=>∃H',Inv X pins σ H' s'/\Q H') X.xe s
section
variable {X:Cx}{pos:Pos}
def wq3 (i:Nat):TG:=λv σ H Q=>Q (σ.set i (some v)) H
theorem _root_.aU5 (h:True:=by walk_at "loc"):True:=h
theorem _root_.aU6 (h:True:=by exact FnScope.nd (by assumption)):True:=h
theorem xf {i:Nat}{x:Str}(hN:autoParam (X.N.Nodup) aU6._auto_1)(hi:autoParam (X.N[i]?=some x) aU4._auto_1)(hx:autoParam (Loc X.env.scope x) aU5._auto_1)(hf:autoParam (X.fn x=true\/X.env.scope.names.lookup x=some .local) aU0._auto_1):PG X (.Name x pos) (wq3 i):=by intro pins s σ H v u Q I r h;exact eY (ud I hN hi hx r (λs' F=>⟨_,H,F,h⟩) hf)
def gNil:TGs:=λvs σ H Q=>vs=[]/\Q σ H
def gCons (t:TG)(u:TGs):TGs:=λvs σ H Q=>∃v r,vs=v::r/\t v σ H λσ' H'=>u r σ' H' Q
theorem y8:PGs X [] gNil:=by intro pins s σ H vs us Q I r h;obtain⟨e,h⟩:=h;subst e;cases r;exact assignInOrder_nil ⟨σ,H,I,h⟩
theorem zy {e:Expr}{es:List Expr}{t:TG}{u:TGs}(h1:PG X e t)(h2:PGs X es u)
  (hs:autoParam ((assignEach (e::es) X.env).map (·.2)=assign e X.env::(assignEach es X.env).map (·.2)) aU4._auto_1):PGs X (e::es) (gCons t u):=by
 intro pins s σ H J O Q I r h;obtain⟨v,L,F,h⟩:=h;subst F;cases r with
 |cons r rr =>
  rw[hs];refine eE (thn (h1 pins s σ H _ _ _ I r h) λ_ s1 ⟨σ1,H1,I1,q1⟩=>?_);exact h2 pins s1 σ1 H1 _ _ Q I1 rr q1
def gTup (K:Aa)(n:Nat)(t:TGs):TG:=λv σ H Q=>∃a xs,v=.ref a/\SqT K H a xs/\xs.length=n/\t xs σ H Q
theorem Q1 {es:List Expr}{k:Nat}{t:TGs}{n:Nat}(hc:X.calm=true)(h:PGs X es t)
  (hn:autoParam ((assignEach es X.env).length=n) aU4._auto_1) (hst:autoParam ((assignEach es X.env).findIdx? (·.1)=none) aU4._auto_1):PG X (.Tuple es k pos) (gTup X.K n t):=by
 intro pins s σ H v u Q I r F;obtain⟨a,xs,Z,S,U,F⟩:=F;subst Z;cases r;obtain⟨aa,J,O,hz⟩:=I.tuple S;refine assign_Tuple_tuple (I.ok.hd hc) O (by simp[hn,<-U,J.length]) hst λh' L=>?_;have I1:Inv X pins σ H { s with heap:=h' }:=I.kept (t':=s.toks) λb o e=>L b o (aJ (aq e)) e;exact h pins _ σ H xs _ Q I1 (by simpa using J) F
def gSub (to ti:TE)(t:TSet):TG:=λv σ H Q=>to σ H λo H1=>ti σ H1 λi H2=>t o i v H2 λH3=>Q σ H3
theorem wzt {o i:Expr}{to ti:TE}{t:TSet}(ho:PE X o to)(hi:PE X i ti)(hs:PSet X t)
  (ha:autoParam (∀v,assign (.Subscript o i pos) X.env v=(do
   let ov <-holding [v] (eval o X.env)
   let iv <-holding [v,ov] (eval i X.env)
   standAt pos
   holding [v,ov,iv] (setItem ov iv v)
   release [v,ov,iv] [])) aU3._auto_1):PG X (.Subscript o i pos) (gSub to ti t):=by
 intro pins s σ H v u Q I r h;rw[ha];refine ae (bJ (thn (ho pins s σ H _ I h) λov s1 ⟨x,H1,I1,r1,q1⟩=>?_));refine ae (bJ (thn (hi pins s1 σ H1 _ I1 q1) λiv s2 ⟨y,H2,I2,r2,q2⟩=>?_));refine ae (bP (ae (bJ (thn (hs pins s2 σ H2 x y v ov iv u _ I2 r1 r2 r q2) λ_ s3 ⟨H3,I3,q3⟩=>?_))));exact wpAny_release ⟨σ,H3,I3,q3⟩
def tAsg (te:TE)(g:TG):TS:=λD σ H=>te σ H λx H1=>g x σ H1 D.nx
theorem Wq {tg e:Expr}{te:TE}{g:TG}(he:PE X e te)(hg:PG X tg g)(hs:autoParam (swapsWithSole [tg] e pos.line X.env=pure false) aU4._auto_1)(hw:autoParam (swappedStores [tg] e X.env=pure none) aU4._auto_1)
  (h1:autoParam ((assignEach [tg] X.env).map (·.2)=[assign tg X.env]) aU4._auto_1):PS X (.Assign [tg] e pos) (tAsg te g):=by
 intro pins s σ H D I h;refine wpAny_Assign_stores (thn (he pins s σ H _ I h) λv s1 ⟨x,H1,I1,r1,q1⟩=>?_) hs hw;rw[h1];exact thn (hg pins s1 σ H1 x v _ I1 r1 q1) λ_ s2 q=>q
theorem w6 {i:Nat}{x:Str}{e:Expr}{te:TE}{pos':Pos}(he:PE X e te)(hN:autoParam (X.N.Nodup) aU6._auto_1)(hi:autoParam (X.N[i]?=some x) aU4._auto_1)(hx:autoParam (Loc X.env.scope x) aU5._auto_1)(hs:autoParam (swapsWith e (some (.Name x pos')) pos.line X.env=pure false) aU4._auto_1)(hf:autoParam (X.fn x=true\/X.env.scope.names.lookup x=some .local) aU0._auto_1) :
  PS X (.Assign [.Name x pos'] e pos) (tAsg te (wq3 i)):=by
 intro pins s σ H D I h;refine wpAny_Assign_Name (thn (he pins s σ H _ I h) λv s1 ⟨y,H1,I1,r1,q1⟩=>?_) hs;exact ud I1 hN hi hx r1 (λs2 F=>⟨_,H1,F,q1⟩) hf
def tPar (i j:Nat)(ta:TA):TS:=λD σ H=>ta σ H λvs H1=>∃v w,vs=[v,w]/\D.nx ((σ.set i (some v)).set j (some w)) H1
theorem wv5 {i j:Nat}{x y:Str}{a b:Expr}{ta:TA}{px py pt:Pos}{kt k2 pt2}(hc:X.calm=true)(hN:X.N.Nodup)(hi:X.N[i]?=some x)(hj:X.N[j]?=some y)(hij:i≠j)
  (hx:X.env.scope.names.lookup x=some .local) (hy:X.env.scope.names.lookup y=some .local) (ha:PA X [a,b] ta)
  (hw:swappedStores [.Tuple [.Name x px,.Name y py] kt pt] (.Tuple [a,b] k2 pt2) X.env=pure (some [x,y]))
  (hs:autoParam (swapsWithSole [.Tuple [.Name x px,.Name y py] kt pt] (.Tuple [a,b] k2 pt2) pos.line X.env=pure false) aU4._auto_1) :
  PS X (.Assign [.Tuple [.Name x px,.Name y py] kt pt] (.Tuple [a,b] k2 pt2) pos) (tPar i j ta):=by
 intro pins s σ H D I h;rw[exec_Assign_arm];refine ae (bP ?_);rw[hs];refine ae (aF ?_);rw[al ⋯];refine ae (Tuple_ (thn (ha _ pins s σ H _ I h) λus s1 ⟨vs,H1,I1,r1,L⟩=>?_));obtain⟨v,w,e1,L⟩:=L;subst e1;obtain⟨J,F,rfl,U,S⟩:∃J F,us=[J,F]/\RelV v J/\RelV w F:=by
  cases r1 with
  |cons p q =>
   cases q with
   |cons p' q' =>
    cases q';exact⟨_,_,rfl,p,p'⟩
 refine dB ?_ (by show 2<=sizeLine;decide);have I2:Inv X pins σ H1 { s1 with heap:=s1.heap.push { cls:=.type "tuple",data:=.seq [J,F].toArray } }:=I1.kept (t':=s1.toks) λb o e=>af _ e;rw[hw];refine ae (aF ?_);show wpAny (model X.prog X.w) X.A (do rule "assign.swapped-stores";let items <-unpackItems (.ref s1.heap.objs.size) 2 none;assignInOrder [λv=>bindName X.env y v,λv=>bindName X.env x v] items.reverse;pure Flow.next) _ _ _;refine ae (wpAny_rule (ae (unpackItems_tuple (items:=#[J,F]) (I.ok.hd hc) (IsTup.new s1.heap _) λh' Z=>?_)));have I3:=I2.kept (h':=h') (t':=s1.toks) λb o e=>Z b o (aJ (aq e)) e;show wpAny _ _ (assignInOrder [λv=>bindName X.env y v,λv=>bindName X.env x v] [F,J] >>= λ_=>pure Flow.next) _ _ _;refine ae (eE (wpAny_bindName (ud I3 hN hj (.inl hy) S (λs2 I4=>?_) (.inr hy))));refine eE (wpAny_bindName (ud I4 hN hi (.inl hx) U (λs3 O=>assignInOrder_nil (aF ?_)) (.inr hx)));rw[List.set_comm _ _ (bE hij)]at O;exact⟨_,H1,O,L⟩
end
section
variable {X:Cx}{pos:Pos}
def qu5 (c:TT)(tb:TS):TS:=λD σ H=>∃W:Nat->St->Hp->Prop,(∃m,W m σ H)/\∀m σ H,W m σ H ->
 c σ H λb H1=>if b=true then ∃N:St->Hp->Prop,(∀σ' H',N σ' H'->∃m',m'<m/\W m' σ' H')/\tb { D with nx:=N,ct:=N,bk:=D.nx } σ H1 else D.nx σ H1
theorem qyk {c:Expr}{body:List Stmt}{tc:TT}{tb:TS}(hp:PassesOwn (model X.prog X.w) X.A X.env X.xe)(hc:PT X c tc)(hb:PSs X body tb):PS X (.While c body [] pos) (qu5 tc tb):=by
 intro pins s σ H D I h;obtain⟨W,⟨m0,w0⟩,aa⟩:=h;refine wpAny_While (codeAny_whileLoop (λn s'=>∃σ' H',Inv X pins σ' H' s'/\W n σ' H') ?_ m0 ⟨σ,H,I,w0⟩);rintro n s1 ⟨σ1,H1,I1,w1⟩;refine cv hp (thn (hc pins s1 σ1 H1 _ I1 (aa n σ1 H1 w1)) λb s2 ⟨H2,I2,L⟩=>?_);cases b with
 |true =>
  obtain⟨N,hN,L⟩:=L;rw[am rfl];refine cv hp (thn (hb pins s2 σ1 H2 _ I2 L) λf s3 J=>?_);cases f with
  |next =>
   obtain⟨F,H3,I3,S⟩:=J;obtain⟨U,Z,O⟩:=hN F H3 S;exact⟨U,Z,F,H3,I3,O⟩
  |cont =>
   obtain⟨F,H3,I3,S⟩:=J;obtain⟨U,Z,O⟩:=hN F H3 S;exact⟨U,Z,F,H3,I3,O⟩
  |brk=>exact J
  |ret v=>exact J
 |false =>
  rw[al aI];exact cM ⟨σ1,H2,I2,L⟩
end
structure It where
 go:Nat->Hp->Prop
 yld:Nat->Hp->V->Hp->Prop
 stop:Nat->Hp->Prop
def yp (X:Cx)(pins:List (Aj×Obj))(H:Hp)(b:Aj):Prop :=
 H b=none/\b≠X.env.locals/\b∉X.fs/\(b∈X.ex\/X.s₀.heap.objs.size<=b)/\(∀x c,X.env.cells.lookup x=some c->c≠b)/\∀p∈X.pn++pins,p.1≠b
theorem Inv.fpOk {X:Cx}{pins:List (Aj×Obj)}{σ:St}{H H':Hp}{s:Ab}{b:Aj}(I:Inv X pins σ H s)(hb:s.heap.objs.size<=b)(hn:H' b=none):yp X pins H' b:=by
 refine⟨hn,ee (aL I.lt hb),I.nofs hb,.inr (aX I.sz hb),λx c e z=>?_,λp F z=>?_⟩
 .obtain⟨v,q⟩:=I.cell x c e;exact absurd (aL q.lt (by rw[z];exact hb)) (aU _)
 .exact absurd (aL (aq (I.pin p F).1) (by rw[z];exact hb)) (aU _)
structure Turn (P:Ac)(w:Ah)(K:Aa)(tg:Expr)(J:It)(fp:List Aj)(it:Aj)(tn:Nat->Heap->Prop):Prop where
 mem:it∈fp
 obj:∀i h,tn i h->∀b∈fp,∃o,h.get? b=some o/\∀v,o.data≠.cell v
 keep:∀i h h',tn i h->(∀b∈fp,∀o,h.get? b=some o->h'.get? b=some o)->tn i h'
 item:∀(X:Cx),X.prog=P->X.w=w->X.K=K->X.calm=true->∀(i:Nat) (pins:List (Aj×Obj)) (s:Ab) (σ:St) (H:Hp) (E:Ag->Ab->Prop),Inv X pins σ H s->(∀b∈fp,yp X pins H b)->tn i s.heap->J.go i H ->
  wpAny (model P w) X.A (pyNext (.ref it)) (λr s1=>∃u,r=some u /\
   wpAny (model P w) X.A (letOwnedTupleGo tg (.ref it) u) (λ_ s2=>∃x H',Inv X pins σ H' s2/\RelV x u/\J.yld i H x H'/\tn (i+1) s2.heap/\∀b∈fp,H' b=none) E s1) E s
 done:∀(X:Cx),X.prog=P->X.w=w->X.K=K->X.calm=true->∀(i:Nat) (pins:List (Aj×Obj)) (s:Ab) (σ:St) (H:Hp) (E:Ag->Ab->Prop),Inv X pins σ H s->(∀b∈fp,yp X pins H b)->tn i s.heap->J.stop i H ->
  wpAny (model P w) X.A (pyNext (.ref it)) (λr s1=>r=none/\Inv X pins σ H s1) E s
 self:∀(A:Ae) (i:Nat) (s:Ab) (Q:Ag->Ab->Prop) (E:Ag->Ab->Prop),tn i s.heap->Q (.ref it) s->wpAny (model P w) A (pyIter (.ref it)) Q E s
abbrev TI:=St->Hp->(It->Hp->Prop)->Prop
def PIE (X:Cx)(pins:List (Aj×Obj))(σ:St)(tg:Expr)(R:It->Hp->Prop)(itv:Ag)(s2:Ab):Prop :=
 ∃(it:Aj) (fp:List Aj) (tn:Nat->Heap->Prop) (J:It) (H':Hp),itv=.ref it/\Inv X pins σ H' s2/\Turn X.prog X.w X.K tg J fp it tn/\tn 0 s2.heap/\(∀b∈fp,yp X pins H' b)/\R J H'
def PI (X:Cx)(tg iter:Expr)(wi:TI):Prop :=
 ∀(pins:List (Aj×Obj)) (s:Ab) (σ:St) (H:Hp) (R:It->Hp->Prop),Inv X pins σ H s->wi σ H R ->
  wpAny (model X.prog X.w) X.A (eval iter X.env) (λv s1=>wpAny (model X.prog X.w) X.A (pyIter v) (PIE X pins σ tg R) X.xe s1) X.xe s
theorem qj2 {M:Model}{A:Ae}{E:Ag->Ab->Prop}{s:Ab}{tg:Expr}{it:Aj}{u:Ag}{o:Obj}{n:String}{vs:Array Ag}{Q:Unit->Ab->Prop}(ho:s.heap.get? it=some o)(hc:o.cls=.type n)(hd:o.data=.fields vs)
  (hn:["enumerate","zip","dict_itemiterator","dict_reverseitemiterator","odict_iterator","itertools.zip_longest","itertools.pairwise"].contains n=false) (hQ:Q () s):wpAny M A (letOwnedTupleGo tg (.ref it) u) Q E s:=by
 unfold letOwnedTupleGo;cases tg <;> first
  |exact aF hQ
  |(cases u <;> first
    |exact aF hQ
    |(refine ae (wpAny_load ho ?_)
      rw[hc,hd]
      show wpAny M A (if(["enumerate","zip","dict_itemiterator","dict_reverseitemiterator","odict_iterator","itertools.zip_longest","itertools.pairwise"].contains n&&vs[0]?==some (rawInt _))=true then _ else _) Q E s
      rw[al (by intro h;rw[hn,dC]at h;cases h)]
      exact aF hQ))
def Itl (K:Aa)(a:Aj):It :=
 ⟨λi H=>∃xs x,SqL K H a xs/\xs[i]?=some x,λi H x H'=>H'=H/\∀xs,SqL K H a xs->xs[i]?=some x,λi H=>∃xs,SqL K H a xs/\xs.length<=i⟩
def Itr (lo:Int)(n:Nat):It:=⟨λi _=>i<n,λi H x H'=>H'=H/\x=.int (lo+i),λi _=>n<=i⟩
theorem wwt {P:Ac}{w:Ah}{K:Aa}{tg:Expr}(a it:Aj):Turn P w K tg (Itl K a) [it] it (λi h=>h.IsListIter it a i) where
 mem:=by simp
 obj:=λi h st b hb=>by
  have e:b=it:=by simpa using hb
  subst e;obtain⟨o,e,c,d⟩:=st;exact⟨o,e,λv z=>by rw[d]at z;cases z⟩
 keep:=λi h h' st k=>st.at λo e=>k it (by simp) o e
 item:=by intro X hP hw hK hc i pins s σ H E I hf st hg;subst hP hw hK;obtain⟨xs,x,hq,hx⟩:=hg;obtain⟨its,rv,p,hz⟩:=I.list hq;obtain⟨u,hu,ru⟩:=rv.get hx;obtain⟨f0,f1,f2,f3,f4,f5⟩:=hf it (by simp);refine wpAny_pyNext_list_item st p.isList (x:=u) (by simpa using hu) λh' st' sb=>?_;have I1:Inv X pins σ H { s with heap:=h' }:=I.turned (t':=s.toks) (λb o hb e=>(sb.2 b hb).trans e) f0 f1 f3 f4 f5;obtain⟨o,e,c,d⟩:=id st';exact⟨u,rfl,qj2 (s:={ s with heap:=h' }) e c d ⋯ ⟨x,H,I1,ru,⟨rfl,λys hy=>by rw[I.list_inj hy hq];exact hx⟩,st',λb hb=>(hf b hb).1⟩⟩
 done:=by intro X hP hw hK hc i pins s σ H E I hf st hg;subst hP hw hK;obtain⟨xs,hq,hx⟩:=hg;obtain⟨its,rv,p,hz⟩:=I.list hq;obtain⟨f0,f1,f2,f3,f4,f5⟩:=hf it (by simp);have hl:=rv.length;exact wpAny_pyNext_list_end (I.ok.hd hc) st p.isList (by simp;lia) λh' eb=>⟨rfl,I.turned (t':=s.toks) (λb o hb e=>eb b o hb e) f0 f1 f3 f4 f5⟩
 self:=λ_ _ _ _ _ st h=>wpAny_pyIter_listiter st h
theorem qu7 {P:Ac}{w:Ah}{K:Aa}{tg:Expr}(it:Aj)(lo:Int)(n:Nat):Turn P w K tg (Itr lo n) [it] it (λi h=>IsRangeIter h it (lo+(i:Nat)*1) ((n:Int)-(i:Nat)) 1) where
 mem:=by simp
 obj:=λi h st b hb=>by
  have e:b=it:=by simpa using hb
  subst e;exact⟨_,st,λv z=>by
   have z':Data.fields _=Data.cell v:=z
   cases z'⟩
 keep:=λi h h' st k=>k it (by simp) _ st
 item:=by intro X hP hw hK hc i pins s σ H E I hf st hg;subst hP hw hK;obtain⟨f0,f1,f2,f3,f4,f5⟩:=hf it (by simp);have W:=Walks.range (prog:=X.prog) (w:=X.w) (I.ok.hd hc) it lo 1 n;refine W.item i s _ _ hg st λv h' tk hv st' kk=>?_;obtain⟨t,rfl⟩:=hv;have I1:Inv X pins σ H { s with heap:=h',toks:=tk }:=I.turned (λb o hb e=>kk b o (by simpa using hb) e) f0 f1 f3 f4 f5;refine⟨_,rfl,qj2 (s:={ s with heap:=h',toks:=tk }) (n := "range_iterator") st' rfl rfl ⋯ ⟨.int (lo+i),H,I1,⟨t,?_⟩,⟨rfl,rfl⟩,st',λb hb=>(hf b hb).1⟩⟩;rw[Int.mul_one]
 done:=by intro X hP hw hK hc i pins s σ H E I hf st hg;subst hP hw hK;obtain⟨f0,f1,f2,f3,f4,f5⟩:=hf it (by simp);exact wpAny_pyNext_range_end (I.ok.hd hc) st (by have:n<=i:=hg;lia) λh' eb=>⟨rfl,I.turned (t':=s.toks) (λb o hb e=>eb b o hb e) f0 f1 f3 f4 f5⟩
 self:=λ_ _ _ _ _ st h=>wpAny_pyIter_rangeiter st h
section
variable {X:Cx}{tg:Expr}
def iList (K:Aa)(tl:TE):TI:=λσ H R=>tl σ H λx H1=>∃a,x=.ref a/\(∃xs,SqL K H1 a xs)/\R (Itl K a) H1
theorem v3 {l:Expr}{tl:TE}(hl:PE X l tl):PI X tg l (iList X.K tl):=by
 intro pins s σ H R I h;refine thn (hl pins s σ H _ I h) λv s1 ⟨x,H1,I1,r1,q1⟩=>?_;obtain⟨a,e,⟨xs,F⟩,q⟩:=q1;subst e;cases r1;obtain⟨O,L,p,S⟩:=I1.list F;refine wpAny_pyIter_list p.isList ?_;refine⟨s1.heap.objs.size,[s1.heap.objs.size],_,_,H1,rfl,I1.kept (t':=s1.toks) λb o e=>af _ e,wwt a _,⟨_,az _ rfl,rfl,rfl⟩,λb J=>?_,q⟩;have e:b=s1.heap.objs.size:=by simpa using J
 subst e;exact I1.fpOk (ah _) (I1.hok.fresh (ah _))
theorem wz8 {pins:List (Aj×Obj)}{σ:St}{H:Hp}{s:Ab}{R:It->Hp->Prop}{E:Ag->Ab->Prop}{lo hi:Int}{t u v:Tok}{tk:Nat}(I:Inv X pins σ H s)(h1:-(2 ^ 62)<=lo)(h2:lo<2 ^ 62)(h3:-(2 ^ 62)<=hi)(h4:hi<2 ^ 62)
  (q:R (Itr lo (hi-lo).toNat) H):wpAny (model X.prog X.w) X.A (pyIter (.ref s.heap.objs.size)) (PIE X pins σ tg R) E { s with heap:=s.heap.push { cls:=.type "range",data:=.fields #[.int lo t,.int hi u,.int 1 v] },toks:=tk }:=by
 refine wpAny_pyIter_range (IsRange.new ..) (small_one h1 h2 h3 h4) ?_;have F:Inv X pins σ H { s with heap:=s.heap.push { cls:=.type "range",data:=.fields #[.int lo t,.int hi u,.int 1 v] },toks:=tk }:=I.kept λb o e=>af _ e;refine⟨(s.heap.push { cls:=.type "range",data:=.fields #[.int lo t,.int hi u,.int 1 v] }).objs.size,[(s.heap.push { cls:=.type "range",data:=.fields #[.int lo t,.int hi u,.int 1 v] }).objs.size],_,_,H,rfl,
  F.kept (t':=tk) λb o e=>af _ e,qu7 _ lo (hi-lo).toNat,?_,λb J=>?_,q⟩
 .have O:lo+((0:Nat):Int)*1=lo:=by simp
  have L:(((hi-lo).toNat:Nat):Int)-((0:Nat):Int)=Builtin.Range.rangeSize lo hi 1:=by rw[rangeSize_one];split <;> lia
  show IsRangeIter _ _ (lo+((0:Nat):Int)*1) ((((hi-lo).toNat:Nat):Int)-((0:Nat):Int)) 1;rw[O,L];exact az _ rfl
 .have e:b=(s.heap.push { cls:=.type "range",data:=.fields #[.int lo t,.int hi u,.int 1 v] }).objs.size:=by simpa using J
  subst e;exact F.fpOk (ah _) (F.hok.fresh (ah _))
def iRng1 (ta:TA):TI:=λσ H R=>ta σ H λvs H1=>∃j:Int,vs=[.int j]/\-(2 ^ 62)<=j/\j<2 ^ 62/\R (Itr 0 j.toNat) H1
theorem z8 {a:Expr}{ta:TA}{p pos:Pos}(hg:Gl X "range")(hm:X.mg "range" = none)(ha:PA X [a] ta)(hs:autoParam (starEach [a] X.env=[(false,eval a X.env)]) aU4._auto_1):PI X tg (.Call (.Name "range" p) [a] [] pos) (iRng1 ta):=by
 intro pins s σ H R I h;refine Call_ (qu9 I hg hm boot_range (ei (thn (ha pos pins s σ H _ I h) λus s1 ⟨vs,H1,I1,r1,F⟩=>?_) hs rfl));obtain⟨j,e,F,J,q⟩:=F;subst e;cases r1 with
 |cons r rr =>
  cases rr;obtain⟨t,rfl⟩:=r;exact call_range_1 (wz8 I1 ⋯ ⋯ F J (by simpa using q))
def tFor (wi:TI)(g:TG)(tb:TS):TS:=λD σ H=>wi σ H λJ H1=>∃W:Nat->Nat->St->Hp->Prop,(∃m,W 0 m σ H1)/\∀i m σ H,W i m σ H ->
 (J.stop i H/\D.nx σ H)\/(J.go i H/\∃N:St->Hp->Prop,(∀σ' H',N σ' H'->∃m',m'<m/\W (i+1) m' σ' H')/\∀x H',J.yld i H x H'->g x σ H' λσ2 H2=>tb { D with nx:=N,ct:=N,bk:=D.nx } σ2 H2)
def qv8 (fp:List Aj)(h:Heap):List (Aj×Obj):=fp.filterMap λb=>(h.get? b).map λo=>(b,o)
theorem jv {fp:List Aj}{h:Heap}{b:Aj}{o:Obj}(hb:b∈fp)(e:h.get? b=some o):(b,o)∈qv8 fp h:=eG.mpr ⟨b,hb,by rw[e];rfl⟩
theorem wxb {fp:List Aj}{h:Heap}{p:Aj×Obj}(hp:p∈qv8 fp h):p.1∈fp/\h.get? p.1=some p.2:=by
 obtain⟨b,F,e⟩:=eG.mp hp;cases q:h.get? b with
 |none=>rw[q]at e;cases e
 |some o =>
  rw[q]at e;have I:(b,o)=p:=ax e;subst I;exact⟨F,q⟩
theorem Inv.pinned {pins:List (Aj×Obj)}{σ:St}{H:Hp}{s:Ab}{fp:List Aj}(I:Inv X pins σ H s)(hf:∀b∈fp,yp X pins H b)(ho:∀b∈fp,∃o,s.heap.get? b=some o/\∀v,o.data≠.cell v):Inv X (pins++qv8 fp s.heap) σ H s :=
 I.pins_of λp hp=>(aP.mp hp).elim (λz=>I.pin p (aC _ z)) λz=>by obtain⟨hb,e⟩:=wxb z;obtain⟨f0,f1,f2,_⟩:=hf p.1 hb;obtain⟨o,e',d⟩:=ho p.1 hb;rw[e]at e';cases e';exact⟨e,f0,f1,f2,d⟩
theorem Inv.unpinned {pins pl:List (Aj×Obj)}{σ:St}{H:Hp}{s:Ab}(I:Inv X (pins++pl) σ H s):Inv X pins σ H s:=I.pins_of λp hp=>I.pin p (aC _ (bg _ hp))
theorem ju {iter:Expr}{body:List Stmt}{wi:TI}{g:TG}{tb:TS}{pos:Pos}(hp:PassesOwn (model X.prog X.w) X.A X.env X.xe)(hc:X.calm=true)(hi:PI X tg iter wi)(hg:PG X tg g)(hb:PSs X body tb)
  (hs:autoParam (∀x,foldedSetIterable iter X.env x=pure x) aU3._auto_1):PS X (.For tg iter body [] pos) (tFor wi g tb):=by
 intro pins s σ H D I h;refine wpAny_For (thn (hi pins s σ H _ I h) λv s1 h1=>thn h1 λa0 s2 h2=>?_) hs;obtain⟨it,fp,tn,J,H2,e,I2,T,ak,f2,W,⟨m0,w0⟩,ad⟩:=h2;subst e;have Z:∀ {H':Hp},(∀b∈fp,H' b=none)->∀b∈fp,yp X pins H' b:=λhn b hb=>⟨hn b hb,(f2 b hb).2⟩;refine codeAny_forLoop_any (λn s'=>∃i σ' H',Inv X pins σ' H' s'/\tn i s'.heap/\(∀b∈fp,H' b=none)/\W i n σ' H') ?_ m0 ⟨0,σ,H2,I2,ak,λb hb=>(f2 b hb).1,w0⟩;rintro n s3 ⟨i,σ3,H3,I3,st3,fr3,w3⟩;rcases ad i n σ3 H3 w3 with⟨ai,qn⟩|⟨go,N,hN,aj⟩
 .refine cv hp (thn (T.done X rfl rfl rfl hc i pins s3 σ3 H3 X.xe I3 (Z fr3) st3 ai) λr s4 ⟨hr,I4⟩=>?_);subst hr;exact cM ⟨σ3,H3,I4,qn⟩
 .refine cv hp (thn (T.item X rfl rfl rfl hc i pins s3 σ3 H3 X.xe I3 (Z fr3) st3 go) λr s4 ⟨u,hr,h4⟩=>?_);subst hr;refine cv hp (thn h4 λ_ s5 ⟨x,H5,I5,r5,y5,st5,fr5⟩=>?_);have an:=I5.pinned (Z fr5) (T.obj _ _ st5);refine cv hp (thn (hg _ s5 σ3 H5 x u _ an r5 (aj x H5 y5)) λ_ s6 ⟨σ6,H6,I6,q6⟩=>?_);refine cv hp (thn (hb _ s6 σ6 H6 _ I6 q6) λf s7 S=>?_);have aa:∀ {F:St} {O:Hp},Inv X (pins++qv8 fp s5.heap) F O s7->N F O->∃m,m<n/\∃i σ' H',Inv X pins σ' H' s7/\tn i s7.heap/\(∀b∈fp,H' b=none)/\W i m σ' H':=λ{F O} L U=>by obtain⟨m',hm,w7⟩:=hN F O U;refine⟨m',hm,i+1,F,O,L.unpinned,T.keep _ _ _ st5 λb hb o e=>(L.pin (b,o) (aC _ (aC _ (jv hb e)))).1,λb hb=>?_,w7⟩;obtain⟨o,e,d⟩:=T.obj _ _ st5 b hb;exact(L.pin (b,o) (aC _ (aC _ (jv hb e)))).2.1
  cases f with
  |next=>obtain⟨F,O,L,U⟩:=S;exact aa L U
  |cont=>obtain⟨F,O,L,U⟩:=S;exact aa L U
  |brk=>obtain⟨F,O,L,S⟩:=S;exact⟨F,O,L.unpinned,S⟩
  |ret v=>obtain⟨x7,F,O,L,r7,S⟩:=S;exact⟨x7,F,O,L.unpinned,r7,S⟩
end
theorem uc {K:Aa}{a:Aj}{xs:List V}{g:TG}{tb:TS}{D:Ends}{σ:St}{H:Hp}(Pv:Nat->St->Hp->Prop)(h0:Pv 0 σ H)(hl:∀i σ H,i<=xs.length->Pv i σ H->SqL K H a xs)
  (hs:∀i x σ H,xs[i]?=some x->Pv i σ H->g x σ H λσ2 H2=>tb { D with nx:=Pv (i+1),ct:=Pv (i+1),bk:=D.nx } σ2 H2) (hd:∀σ H,Pv xs.length σ H->D.nx σ H) :
  ∃W:Nat->Nat->St->Hp->Prop,(∃m,W 0 m σ H)/\∀i m σ H,W i m σ H ->
   ((Itl K a).stop i H/\D.nx σ H)\/((Itl K a).go i H/\∃N:St->Hp->Prop,(∀σ' H',N σ' H'->∃m',m'<m/\W (i+1) m' σ' H')/\∀x H',(Itl K a).yld i H x H'->g x σ H' λσ2 H2=>tb { D with nx:=N,ct:=N,bk:=D.nx } σ2 H2):=by
 refine⟨λi m σ H=>m=xs.length-i/\i<=xs.length/\Pv i σ H,⟨xs.length,by simp,aR _,h0⟩,?_⟩;rintro i m σ H ⟨rfl,hi,p⟩;have q:=hl i σ H hi p;by_cases hlt:i<xs.length
 .refine .inr ⟨⟨xs,xs[i],q,by simp[hlt]⟩,Pv (i+1),λσ' H' F=>⟨xs.length-(i+1),⋯,rfl,hlt,F⟩,λx H' y=>?_⟩;obtain⟨e,y⟩:=y;subst e;exact hs i x σ _ (y xs q) p
 .have e:i=xs.length:=by lia
  subst e;exact .inl ⟨⟨xs,q,ah _⟩,hd σ H p⟩
theorem yw {lo:Int}{n:Nat}{g:TG}{tb:TS}{D:Ends}{σ:St}{H:Hp}(Pv:Nat->St->Hp->Prop)(h0:Pv 0 σ H)
  (hs:∀i σ H,i<n->Pv i σ H->g (.int (lo+i)) σ H λσ2 H2=>tb { D with nx:=Pv (i+1),ct:=Pv (i+1),bk:=D.nx } σ2 H2) (hd:∀σ H,Pv n σ H->D.nx σ H) :
  ∃W:Nat->Nat->St->Hp->Prop,(∃m,W 0 m σ H)/\∀i m σ H,W i m σ H ->
   ((Itr lo n).stop i H/\D.nx σ H)\/((Itr lo n).go i H/\∃N:St->Hp->Prop,(∀σ' H',N σ' H'->∃m',m'<m/\W (i+1) m' σ' H')/\∀x H',(Itr lo n).yld i H x H'->g x σ H' λσ2 H2=>tb { D with nx:=N,ct:=N,bk:=D.nx } σ2 H2):=by
 refine⟨λi m σ H=>m=n-i/\i<=n/\Pv i σ H,⟨n,by simp,aR _,h0⟩,?_⟩;rintro i m σ H ⟨rfl,hi,p⟩;by_cases hlt:i<n
 .refine .inr ⟨hlt,Pv (i+1),λσ' H' F=>⟨n-(i+1),⋯,rfl,hlt,F⟩,λx H' y=>?_⟩;obtain⟨e,y⟩:=y;subst e y;exact hs i σ _ hlt p
 .have e:i=n:=by lia
  subst e;exact .inl ⟨ah _,hd σ H p⟩
theorem wvn {c:TT}{tb:TS}{D:Ends}{σ:St}{H:Hp}(Pv:St->Hp->Prop)(μ:St->Hp->Nat)(h0:Pv σ H)
  (hs:∀σ H,Pv σ H->c σ H λb H1=>if b=true then tb { D with nx:=λσ' H'=>Pv σ' H'/\μ σ' H'<μ σ H,ct:=λσ' H'=>Pv σ' H'/\μ σ' H'<μ σ H,bk:=D.nx } σ H1 else D.nx σ H1)
  (mono:∀σ H Q Q',(∀b H1,Q b H1->Q' b H1)->c σ H Q->c σ H Q'):qu5 c tb D σ H:=by
 refine⟨λm σ H=>m=μ σ H/\Pv σ H,⟨_,rfl,h0⟩,?_⟩;rintro m σ H ⟨rfl,p⟩;refine mono σ H _ _ (λb H1 q=>?_) (hs σ H p);cases b with
 |true=>exact⟨_,λσ' H' ⟨p',l⟩=>⟨_,l,rfl,p'⟩,q⟩
 |false=>exact q
abbrev R2:=V->V->Hp->VK->Prop
def OpR (X:Cx)(f:Ag->Ag->Sem Ag)(r:R2):Prop :=
 ∀(pins:List (Aj×Obj)) (s:Ab) (σ:St) (H:Hp) (x y:V) (v u:Ag) (Q:VK),Inv X pins σ H s->RelV x v->RelV y u->r x y H Q ->
  wpAny (model X.prog X.w) X.A (f v u) (EP X pins σ Q) X.xe s
def UnR (X:Cx)(f:Ag->Sem Ag)(r:V->Hp->VK->Prop):Prop :=
 ∀(pins:List (Aj×Obj)) (s:Ab) (σ:St) (H:Hp) (x:V) (v:Ag) (Q:VK),Inv X pins σ H s->RelV x v->r x H Q ->
  wpAny (model X.prog X.w) X.A (f v) (EP X pins σ Q) X.xe s
def jw (X:Cx)(f:Ag)(r:List V->Hp->VK->Prop):Prop :=
 ∀(pins:List (Aj×Obj)) (s:Ab) (σ:St) (H:Hp) (xs:List V) (us:List Ag) (Q:VK),Inv X pins σ H s->Vals xs us->r xs H Q ->
  wpAny (model X.prog X.w) X.A (call f us) (EP X pins σ Q) X.xe s
def tOp (r:R2)(ta tb:TE):TE:=λσ H Q=>ta σ H λx H1=>tb σ H1 λy H2=>r x y H2 Q
def tUn (r:V->Hp->VK->Prop)(ta:TE):TE:=λσ H Q=>ta σ H λx H1=>r x H1 Q
def rI (C:Int->Int->Prop)(g:Int->Int->V):R2:=λx y H Q=>∃i j,x=.int i/\y=.int j/\C i j/\Q (g i j) H
def rI0 (g:Int->Int->V):R2:=λx y H Q=>∃i j,x=.int i/\y=.int j/\Q (g i j) H
def rU (g:Int->V):V->Hp->VK->Prop:=λx H Q=>∃i,x=.int i/\Q (g i) H
section
variable {X:Cx}{a b c:Expr}{ta tb tc:TE}{pos:Pos}
theorem binT (ha:PE X a ta)(hb:PE X b tb){pins:List (Aj×Obj)}{s:Ab}{σ:St}{H:Hp}{R:V->V->Hp->Prop}(I:Inv X pins σ H s)
  (h:ta σ H λx H1=>tb σ H1 λy H2=>R x y H2) {Q:Ag->Ab->Prop} {f:Ag->Ag->Sem Ag}
  (hf:∀v u s2 x y H2,Inv X pins σ H2 s2->RelV x v->RelV y u->R x y H2->wpAny (model X.prog X.w) X.A (f v u) Q X.xe s2) :
  wpAny (model X.prog X.w) X.A (eval a X.env) (λv s₁=>wpAny (model X.prog X.w) X.A (eval b X.env) (λu s₂=>wpAny (model X.prog X.w) X.A (f v u) Q X.xe s₂) X.xe s₁) X.xe s:=by
 refine thn (ha pins s σ H _ I h) λv s1 ⟨x,H1,I1,r1,q1⟩=>?_;refine thn (hb pins s1 σ H1 _ I1 q1) λu s2 ⟨y,H2,I2,r2,q2⟩=>?_;exact hf v u s2 x y H2 I2 r1 r2 q2
theorem wg {op:Operator}{r:R2}(ho:OpR X (binaryOp op) r)(ha:PE X a ta)(hb:PE X b tb):PE X (.BinOp a op b pos) (tOp r ta tb):=by intro pins s σ H Q I h;exact wpAny_BinOp (binT ha hb I h λv u s2 x y H2 L J F q=>ho pins s2 σ H2 x y v u Q L J F q)
theorem wk6 {op:UnaryOp}{r:V->Hp->VK->Prop}(ho:UnR X (unaryOp op) r)(ha:PE X a ta):PE X (.UnaryOp op a pos) (tUn r ta):=by intro pins s σ H Q I h;exact UnaryOp_ (thn (ha pins s σ H _ I h) λv s1 ⟨x,H1,I1,r1,q1⟩=>ho pins s1 σ H1 x v Q I1 r1 q1)
theorem opI {f:Ag->Ag->Sem Ag}{C:Int->Int->Prop}{g:Int->Int->Int}
  (rule:∀(i j:Int) (t u:Tok) (s:Ab) (Q:Ag->Ab->Prop) (E:Ag->Ab->Prop),C i j->Q (.int (g i j) s.toks) { s with toks:=s.toks+1 }->wpAny (model X.prog X.w) X.A (f (.int i t) (.int j u)) Q E s) :
  OpR X f (rI C λi j=>.int (g i j)):=by
 intro pins s σ H x y v u Q I L J h;obtain⟨i,j,rfl,rfl,O,q⟩:=h;obtain⟨t,rfl⟩:=L;obtain⟨F,rfl⟩:=J;exact rule i j t F s _ _ O ⟨.int (g i j),H,I.tok _,⟨_,rfl⟩,q⟩
theorem opI0 {f:Ag->Ag->Sem Ag}{g:Int->Int->Int}
  (rule:∀(i j:Int) (t u:Tok) (s:Ab) (Q:Ag->Ab->Prop) (E:Ag->Ab->Prop),Q (.int (g i j) s.toks) { s with toks:=s.toks+1 }->wpAny (model X.prog X.w) X.A (f (.int i t) (.int j u)) Q E s) :
  OpR X f (rI0 λi j=>.int (g i j)):=by
 intro pins s σ H x y v u Q I L J h;obtain⟨i,j,rfl,rfl,q⟩:=h;obtain⟨t,rfl⟩:=L;obtain⟨F,rfl⟩:=J;exact rule i j t F s _ _ ⟨.int (g i j),H,I.tok _,⟨_,rfl⟩,q⟩
theorem opB0 {f:Ag->Ag->Sem Ag}{g:Int->Int->Bool}
  (rule:∀(i j:Int) (t u:Tok) (s:Ab) (Q:Ag->Ab->Prop) (E:Ag->Ab->Prop),Q (.bool (g i j)) s->wpAny (model X.prog X.w) X.A (f (.int i t) (.int j u)) Q E s) :
  OpR X f (rI0 λi j=>.bl (g i j)):=by
 intro pins s σ H x y v u Q I L J h;obtain⟨i,j,rfl,rfl,q⟩:=h;obtain⟨t,rfl⟩:=L;obtain⟨F,rfl⟩:=J;exact rule i j t F s _ _ ⟨.bl (g i j),H,I,rfl,q⟩
def CPow (i j:Int):Prop:=0<=j/\j<=1000000/\i.natAbs<2 ^ 64
theorem xb:OpR X (binaryOp .Add) (rI0 λi j=>.int (i+j)):=opI0 λ_ _ _ _ _ _ _ q=>add_int q
theorem Qh:OpR X (binaryOp .Sub) (rI0 λi j=>.int (i-j)):=opI0 λ_ _ _ _ _ _ _ q=>sub_int q
theorem kj:OpR X (binaryOp .Mod) (rI (λ_ j=>0<j) λi j=>.int (i%j)):=opI λi j _ _ _ _ _ hc q=>by have h1:(0:Int)<j:=hc;exact mod_int' ⋯ (by rw[Int.fmod_eq_emod_of_nonneg i ⋯];exact q)
theorem op_pow:OpR X (binaryOp .Pow) (rI CPow λi j=>.int (i ^ j.toNat)):=opI λ_ _ _ _ _ _ _ hc q=>pow_int_small hc.1 hc.2.1 hc.2.2 q
theorem unI {f:Ag->Sem Ag}{g:Int->Int}
  (rule:∀(i:Int) (t:Tok) (s:Ab) (Q:Ag->Ab->Prop) (E:Ag->Ab->Prop),Q (.int (g i) s.toks) { s with toks:=s.toks+1 }->wpAny (model X.prog X.w) X.A (f (.int i t)) Q E s) :
  UnR X f (rU λi=>.int (g i)):=by
 intro pins s σ H x v Q I F h;obtain⟨i,rfl,q⟩:=h;obtain⟨t,rfl⟩:=F;exact rule i t s _ _ ⟨.int (g i),H,I.tok _,⟨_,rfl⟩,q⟩
theorem wqu:UnR X (unaryOp .USub) (rU λi=>.int (-i)):=unI λ_ _ _ _ _ q=>neg_int q
end
def scal:V->V->Bool
 |.non,.non=>true|.non,.int _=>true|.int _,.non=>true|.non,.bl _=>true|.bl _,.non=>true|.non,.str _=>true|.str _,.non=>true
 |.int _,.int _=>true|.bl _,.bl _=>true|.str _,.str _=>true|.byt _,.byt _=>true
 |.int _,.str _=>true|.str _,.int _=>true|.bl _,.str _=>true|.str _,.bl _=>true
 |_,_=>false
def rEq:R2:=λx y H Q=>scal x y=true/\Q (.bl (decide (x=y))) H
def rNe:R2:=λx y H Q=>scal x y=true/\Q (.bl (!decide (x=y))) H
theorem wwb {i j:Int}:decide (V.int i=V.int j)=(i==j):=by rw[cN];simp
theorem wzr {i j:Bool}:decide (V.bl i=V.bl j)=(i==j):=by rw[cN];simp
theorem wwj {i j:Str}:decide (V.str i=V.str j)=(i==j):=by rw[cN];simp
theorem wwx {i j:Array UInt8}:decide (V.byt i=V.byt j)=(i.toList==j.toList):=by rw[cN];cases i;cases j;simp
section
variable {X:Cx}{a b c:Expr}{ta tb tc:TE}{pos:Pos}
theorem x4 {pins:List (Aj×Obj)}{σ:St}{H:Hp}{s:Ab}{Q:VK}{k k':Bool}(I:Inv X pins σ H s)(q:Q (.bl k) H)(e:k=k'):EP X pins σ Q (.bool k') s:=by subst e;exact⟨.bl k,H,I,rfl,q⟩
theorem zw:OpR X (compareOp .Eq) rEq:=by
 intro pins s σ H x y v u Q I L F h;obtain⟨hs,q⟩:=h;cases x with
 |non =>
  cases L;cases y with
  |non=>cases F;exact PySem.EqNone.eq_none_none (x4 I q (by simp))
  |bl j=>cases F;exact PySem.EqNone.eq_none_bool (x4 I q (by simp))
  |int j=>obtain⟨J,rfl⟩:=F;exact PySem.EqNone.eq_none_int (x4 I q (by simp))
  |str j=>obtain⟨J,rfl⟩:=F;exact PySem.EqNone.eq_none_str (x4 I q (by simp))
  |_=>exact absurd (show false=true from hs) aI
 |bl i =>
  cases L;cases y with
  |non=>cases F;exact PySem.EqNone.eq_bool_none (x4 I q (by simp))
  |bl j=>cases F;exact eq_bool (x4 I q wzr)
  |str j=>obtain⟨J,rfl⟩:=F;exact PySem.EqMixed.eq_bool_str (x4 I q (by simp))
  |_=>exact absurd (show false=true from hs) aI
 |int i =>
  obtain⟨t,rfl⟩:=L;cases y with
  |non=>cases F;exact PySem.EqNone.eq_int_none (x4 I q (by simp))
  |int j=>obtain⟨J,rfl⟩:=F;exact eq_int (x4 I q wwb)
  |str j=>obtain⟨J,rfl⟩:=F;exact PySem.EqMixed.eq_int_str (x4 I q (by simp))
  |_=>exact absurd (show false=true from hs) aI
 |str i =>
  obtain⟨t,rfl⟩:=L;cases y with
  |non=>cases F;exact PySem.EqNone.eq_str_none (x4 I q (by simp))
  |bl j=>cases F;exact PySem.EqMixed.eq_str_bool (x4 I q (by simp))
  |int j=>obtain⟨J,rfl⟩:=F;exact PySem.EqMixed.eq_str_int (x4 I q (by simp))
  |str j=>obtain⟨J,rfl⟩:=F;exact eq_str (x4 I q wwj)
  |_=>exact absurd (show false=true from hs) aI
 |byt i =>
  obtain⟨t,rfl⟩:=L;cases y with
  |byt j=>obtain⟨J,rfl⟩:=F;exact W.eq_bytes (x4 I q wwx)
  |_=>exact absurd (show false=true from hs) aI
 |_=>cases y <;> exact absurd (show false=true from hs) aI
theorem qx9:OpR X (compareOp .NotEq) rNe:=by
 intro pins s σ H x y v u Q I L F h;obtain⟨hs,q⟩:=h;cases x with
 |non =>
  cases L;cases y with
  |non=>cases F;exact PySem.EqNone.ne_none_none (x4 I q (by simp))
  |bl j=>cases F;exact PySem.EqNone.ne_none_bool (x4 I q (by simp))
  |int j=>obtain⟨J,rfl⟩:=F;exact PySem.EqNone.ne_none_int (x4 I q (by simp))
  |str j=>obtain⟨J,rfl⟩:=F;exact PySem.EqNone.ne_none_str (x4 I q (by simp))
  |_=>exact absurd (show false=true from hs) aI
 |bl i =>
  cases L;cases y with
  |non=>cases F;exact PySem.EqNone.ne_bool_none (x4 I q (by simp))
  |bl j=>cases F;exact ne_bool (x4 I q (bi not wzr))
  |str j=>obtain⟨J,rfl⟩:=F;exact PySem.EqMixed.ne_bool_str (x4 I q (by simp))
  |_=>exact absurd (show false=true from hs) aI
 |int i =>
  obtain⟨t,rfl⟩:=L;cases y with
  |non=>cases F;exact PySem.EqNone.ne_int_none (x4 I q (by simp))
  |int j=>obtain⟨J,rfl⟩:=F;exact ne_int (x4 I q (bi not wwb))
  |str j=>obtain⟨J,rfl⟩:=F;exact PySem.EqMixed.ne_int_str (x4 I q (by simp))
  |_=>exact absurd (show false=true from hs) aI
 |str i =>
  obtain⟨t,rfl⟩:=L;cases y with
  |non=>cases F;exact PySem.EqNone.ne_str_none (x4 I q (by simp))
  |bl j=>cases F;exact PySem.EqMixed.ne_str_bool (x4 I q (by simp))
  |int j=>obtain⟨J,rfl⟩:=F;exact PySem.EqMixed.ne_str_int (x4 I q (by simp))
  |str j=>obtain⟨J,rfl⟩:=F;exact ne_str (x4 I q (bi not wwj))
  |_=>exact absurd (show false=true from hs) aI
 |byt i =>
  obtain⟨t,rfl⟩:=L;cases y with
  |byt j=>obtain⟨J,rfl⟩:=F;exact W.ne_bytes (x4 I q (bi not wwx))
  |_=>exact absurd (show false=true from hs) aI
 |_=>cases y <;> exact absurd (show false=true from hs) aI
theorem jr:OpR X (compareOp .Lt) (rI0 λi j=>.bl (decide (i<j))):=opB0 λ_ _ _ _ _ _ _ q=>lt_int q
theorem qy5:OpR X (compareOp .LtE) (rI0 λi j=>.bl (decide (i<=j))):=opB0 λ_ _ _ _ _ _ _ q=>le_int q
theorem jh:OpR X (compareOp .Gt) (rI0 λi j=>.bl (decide (j<i))):=opB0 λ_ _ _ _ _ _ _ q=>gt_int q
theorem op_ge:OpR X (compareOp .GtE) (rI0 λi j=>.bl (decide (j<=i))):=opB0 λ_ _ _ _ _ _ _ q=>ge_int q
theorem Y3:OpR X (compareOp .In) (λx y H Q=>∃i j,x=.str i/\y=.str j/\Q (.bl (!(Builtin.Str.occurrences j i 0 j.length 1).isEmpty)) H):=by intro pins s σ H x y v u Q I J F h;obtain⟨i,j,rfl,rfl,q⟩:=h;obtain⟨t,rfl⟩:=J;obtain⟨L,rfl⟩:=F;exact in_str (x4 I q rfl)
theorem op_isN:OpR X (compareOp .Is) (λx y H Q=>y=.non/\Q (.bl (decide (x=.non))) H):=by
 intro pins s σ H x y v u Q I F J h;obtain⟨rfl,q⟩:=h;cases J;refine is_none_gen (x4 I q ?_);cases x <;> first
  |(cases F;rfl)
  |(obtain⟨t,rfl⟩:=F;rfl)
theorem Z3:OpR X (compareOp .NotIn) (λx y H Q=>∃i j,x=.str i/\y=.str j/\Q (.bl (!(!(Builtin.Str.occurrences j i 0 j.length 1).isEmpty))) H):=by intro pins s σ H x y v u Q I J F h;obtain⟨i,j,rfl,rfl,q⟩:=h;obtain⟨t,rfl⟩:=J;obtain⟨L,rfl⟩:=F;exact notIn_str (x4 I q rfl)
theorem wm (b:Expr){op:CmpOp}(h:autoParam (op≠.In) aU1._auto_1)(h2:autoParam (op≠.NotIn) aU1._auto_1):behindInMarks op b=false:=by
 have I:(op==CmpOp.In)=false:=by cases op <;> first | rfl | exact absurd rfl h
 have F:(op==CmpOp.NotIn)=false:=by cases op <;> first | rfl | exact absurd rfl h2
 cases b <;> simp[behindInMarks,I,F]
theorem zp {op:CmpOp}{r:R2}(ho:OpR X (compareOp op) r)(ha:PE X a ta)(hb:PE X b tb)(hm:behindInMarks op b=false):PE X (.Compare a [op] [b] pos) (tOp r ta tb):=by intro pins s σ H Q I h;exact wpAny_Compare1 (binT ha hb I h λv u s2 x y H2 L J F q=>ho pins s2 σ H2 x y v u Q L J F q) hm
def tTest (t:TE):TT:=λσ H Q=>t σ H λx H'=>∃k,x=.bl k/\Q k H'
theorem wc {op:CmpOp}{r:R2}(ho:OpR X (compareOp op) r)(ha:PE X a ta)(hb:PE X b tb)(hm:behindInMarks op b=false):PT X (.Compare a [op] [b] pos) (tTest (tOp r ta tb)):=by
 intro pins s σ H Q I h;refine wpAny_isTrue_Compare1 (thn (ha pins s σ H _ I h) λv s1 ⟨x,H1,I1,r1,q1⟩=>thn (hb pins s1 σ H1 _ I1 q1) λu s2 ⟨y,H2,I2,r2,q2⟩ =>
  thn (ho pins s2 σ H2 x y v u _ I2 r1 r2 q2) λc s3 ⟨z,H3,I3,r3,k,e,q3⟩=>?_) hm
 subst e;cases r3;exact cV ⟨H3,I3,q3⟩
theorem Y2:(sizeLine:Nat)<2 ^ 63:=by rw[sizeLine_eq];decide
theorem xg:OpR X (binaryOp .Add) (λx y H Q=>∃i j,x=.str i/\y=.str j/\i.length+j.length<=sizeLine/\Q (.str (i++j)) H):=by intro pins s σ H x y v u Q I L J h;obtain⟨i,j,rfl,rfl,O,q⟩:=h;obtain⟨t,rfl⟩:=L;obtain⟨F,rfl⟩:=J;exact add_str (λF tk=>⟨.str (i++j),H,I.tok _,⟨_,rfl⟩,q⟩) O
theorem yt {x:V}{us:List Ag}(r:Vals [x] us):∃u,us=[u]/\RelV x u:=by
 cases r with
 |cons r1 r2=>cases r2;exact⟨_,rfl,r1⟩
theorem vals2 {x y:V}{us:List Ag}(r:Vals [x,y] us):∃u w',us=[u,w']/\RelV x u/\RelV y w':=by
 cases r with
 |cons r1 r2 =>
  cases r2 with
  |cons r3 r4=>cases r4;exact⟨_,_,rfl,r1,r3⟩
theorem Zp:jw X (.builtin "abs") (λxs H Q=>∃i,xs=[.int i]/\Q (.int (if i<0 then -i else i)) H):=by intro pins s σ H xs F Q I r h;obtain⟨i,rfl,q⟩:=h;obtain⟨u,rfl,t,rfl⟩:=yt r;exact call_abs_int λu tk=>⟨.int (if i<0 then -i else i),H,I.tok _,⟨_,rfl⟩,q⟩
theorem qz5 (hc:X.calm=true):jw X (.builtin "max") (λxs H Q=>∃i j,xs=[.int i,.int j]/\Q (.int (if j>i then j else i)) H):=by
 intro pins s σ H xs J Q I r h;obtain⟨i,j,rfl,q⟩:=h;obtain⟨u,F,rfl,⟨t,rfl⟩,⟨L,rfl⟩⟩:=vals2 r;refine max_two_ints (I.ok.hd hc) λh' tk k=>⟨_,H,I.kept k,?_,q⟩;by_cases hj:j>i
 .rw[am hj,am hj];exact⟨_,rfl⟩
 .rw[al hj,al hj];exact⟨_,rfl⟩
theorem wxm (hc:X.calm=true):jw X (.builtin "min") (λxs H Q=>∃i j,xs=[.int i,.int j]/\Q (.int (if j<i then j else i)) H):=by
 intro pins s σ H xs J Q I r h;obtain⟨i,j,rfl,q⟩:=h;obtain⟨u,F,rfl,⟨t,rfl⟩,⟨L,rfl⟩⟩:=vals2 r;refine min_two_ints (I.ok.hd hc) λh' tk k=>⟨_,H,I.kept k,?_,q⟩;by_cases hj:j<i
 .rw[am hj,am hj];exact⟨_,rfl⟩
 .rw[al hj,al hj];exact⟨_,rfl⟩
theorem qz0:jw X (.type "int") (λxs H Q=>(∃i,xs=[.int i]/\Q (.int i) H)\/∃k,xs=[.bl k]/\Q (.int (if k then 1 else 0)) H):=by
 intro pins s σ H xs J Q I r h;rcases h with⟨i,rfl,q⟩|⟨k,rfl,q⟩
 .obtain⟨u,rfl,t,rfl⟩:=yt r;exact call_int_int ⟨.int i,H,I,⟨_,rfl⟩,q⟩
 .obtain⟨u,rfl,F⟩:=yt r;cases F;exact call_int_bool ⟨.int (if k then 1 else 0),H,I.tok _,⟨_,rfl⟩,q⟩
theorem jt:jw X (.type "str") (λxs H Q=>∃i,xs=[.int i]/\i.natAbs.log2<1920/\Q (.str (toString i)) H):=by intro pins s σ H xs J Q I r h;obtain⟨i,rfl,F,q⟩:=h;obtain⟨u,rfl,t,rfl⟩:=yt r;exact PySem.P.str_of_int F ⟨.str _,H,I.tok _,⟨_,rfl⟩,q⟩
end
structure ObjM (h:Heap)(x dx C:Aj)(mA:Str->Option Ag):Prop where
 obj:h.get? x=some (W.instObj C dx)
 ns:h.Ns1 dx mA
 ne:dx≠x
theorem wwh {h:Heap}{dx:Aj}{mA:Str->Option Ag}(n:h.Ns1 dx mA):∃od,h.get? dx=some od/\∀name,W.lookIn name od=some (mA name):=by
 obtain⟨o,es,ep,ho,hd,hk,_,hm⟩:=n;refine⟨o,ho,λname=>?_⟩;have e:=hm name;unfold nsFind findBy at e;rw[<-Array.find?_toList]at e;unfold W.lookIn;rw[hd];dsimp only;split
 .rename_i y q;rw[q]at e;exact bi some e
 .rename_i q;rw[q]at e;have a:es.toList.any (·.refKey)=false:=by rw[List.any_eq_false];intro y hy;obtain⟨z,t,hkey⟩:=hk y (Array.mem_toList_iff.mp hy);simp[DictEntry.refKey,hkey]
  have a':¬ es.toList.any (·.refKey)=true:=by rw[a];exact aI
  rw[al a'];exact bi some e
theorem ObjM.look {h:Heap}{x dx C:Aj}{mA:Str->Option Ag}(I:ObjM h x dx C mA):∃od,W.InstAt h x (W.instObj C dx) C (some od)/\∀name,W.lookIn name od=some (mA name) :=
 let ⟨od,ho,hl⟩:=wwh I.ns;⟨od,⟨I.obj,rfl,rfl,ho⟩,hl⟩
section
variable {prog:Ac}{w:Ah}{A:Ae}{E:Ag->Ab->Prop}{s:Ab}{K:Aa}{x dx C f:Aj}{mA:Str->Option Ag}{name:Str}{v:Ag}
theorem wjh {expr:Bool}{Q:Ag->Ab->Prop}(X:K.In s.heap)(I:ObjM s.heap x dx C mA)(hg:W.plainGet K C name=true)(hh:W.hasDictIn K C=true)
  (ha:W.findIn K (.ref C) name=some none) (hv:mA name=some v) (hv':W.handedIn v=true) (h:Q v { s with toks:=s.toks+1 }) :
  wpAny (model prog w) A (getAttr (.ref x) name expr) Q E s:=by
 obtain⟨L,J,F⟩:=I.look;exact W.get_value X J (dY hg).1 (W.findObj_own hh ha rfl (by rw[F,hv])) hv' h
theorem wvb {pl:Sem Bool}{Q:Ag×List Ag->Ab->Prop}(X:K.In s.heap)(I:ObjM s.heap x dx C mA)(hg:W.plainGet K C name=true)
  (hf:W.findIn K (.ref C) name=some (some (.ref f))) (ht:W.isFn K (.ref f)=true) (hv:mA name=none) (h:Q (.ref f,[.ref x]) s) :
  wpAny (model prog w) A (getMethod (.ref x) name pl) Q E s:=by
 obtain⟨F,J,L⟩:=I.look;exact W.method_fn X J (dY hg).1 (dY hg).2 hf (cY.mp ht) (by show(W.lookIn name F).map (·.isSome)=some false;rw[L,hv];rfl) h
theorem wjj {ns:List Str}{Q:Unit->Ab->Prop}(X:K.In s.heap)(I:ObjM s.heap x dx C mA)
  (hs:W.findIn K (.ref C) "__setattr__" = some (some (.builtin "object.__setattr__"))) (hp:W.plainOver K C=true) (ht:W.takerIn K C name=some none) (hh:W.hasDictIn K C=true)
  (hw:PySem.Within mA ns) (hsz:ns.length<=sizeLine)
  (h:∀h',ObjM h' x dx C (λy=>if y=name then some v else mA y)->Heap.SameBut dx s.heap h'->Q () { s with heap:=h',toks:=s.toks+2 }) :
  wpAny (model prog w) A (setAttr (.ref x) name v) Q E s:=by
 obtain⟨od,J,hl⟩:=I.look;refine W.set_plain X J hs (W.osa_open (s:={ s with toks:=s.toks+1 }) (r:=none) X J hp ht λb=>?_);obtain⟨cd,hc,Z⟩:=W.any_some hh;have O:s.heap.get? x=some ⟨.ref C,some dx,.plain,#[]⟩:=I.obj;refine ae (aF (ae (ae (wpAny_loadPart O (ae (W.Looks.here (s:={ s with toks:=s.toks+1 }) (W.looks_clsIn X hc) ?_))))));rw[Z];refine aF (a:=some dx) (ae (aF (ae ?_)));refine wpAny_nsSet1 (s:={ s with toks:=s.toks+1 }) I.ns λh' L F=>?_;obtain⟨oD,ad,ai,S,U,aa⟩:=L.count (PySem.Within.cons name v hw);refine ae (wpAny_lookBehind S (by rw[U];exact pastItsLine_dict (aX aa (by rw[aw];lia))) ?_);exact aF (h _ ⟨(F.2 _ (bE I.ne)).trans I.obj,L,I.ne⟩ F)
theorem wjv {R:Result->Ab->Prop}{vs:List Ag}{kw:List (Str×Ag)}(X:K.In s.heap)(hm:W.makesIn K C=true)
  (hi:W.findIn K (.ref C) "__init__" = some (some (.ref f))) (hf:W.typeIn K (.ref f)=some (.type "function"))
  (h:codeAny (model prog w) (A.under (.builtin "type.__call__" ⟨.ref C::vs,kw⟩)) (.call (.ref f) ⟨.ref (s.heap.objs.size+1)::vs,kw⟩) (W.InitBack (s.heap.objs.size+1) R)
   { s with heap:=(s.heap.push W.emptyDict).push (W.instObj C s.heap.objs.size) }) :
  codeAny (model prog w) A (.call (.ref C) ⟨vs,kw⟩) R s:=by
 obtain⟨J,g,d,t,I⟩:=s;exact W.make_core (W.makes_of X hm) (W.looks_findIn X hi) (λF=>W.bind_fn X F hf) (.inl rfl) h
end
def vw (f:Str)(v:V):List (Str×V)->List (Str×V)
 |[]=>[(f,v)]
 |(g,x)::r=>if g=f then(g,v)::r else(g,x)::vw f v r
theorem Jy (f g:Str)(v:V):∀fs:List (Str×V),(vw f v fs).lookup g=if g=f then some v else fs.lookup g
 |[]=>by
  show List.lookup g [(f,v)]=_;by_cases h:g=f
  .have hb:(g==f)=true:=cY.mpr h;simp only[List.lookup,hb,am h]
  .have hb:(g==f)=false:=bq.mpr h;simp only[List.lookup,hb,al h]
 |(k,x)::r=>by
  have ih:=Jy f g v r;rw[show vw f v ((k,x)::r)=(if k=f then(k,v)::r else(k,x)::vw f v r) from rfl];by_cases hk:k=f
  .rw[am hk];by_cases h:g=k
   .have hb:(g==k)=true:=cY.mpr h;simp only[List.lookup,hb,am (h.trans hk)]
   .have hb:(g==k)=false:=bq.mpr h;simp only[List.lookup,hb,al (λe:g=f=>h (e.trans hk.symm))]
  .rw[al hk];by_cases h:g=k
   .have hb:(g==k)=true:=cY.mpr h;simp only[List.lookup,hb,al (λe:g=f=>hk (h.symm.trans e))]
   .have hb:(g==k)=false:=bq.mpr h;simp only[List.lookup,hb];exact ih
theorem Jz (f:Str)(v:V):∀fs:List (Str×V),f∈(vw f v fs).map (·.1)/\∀g,g∈fs.map (·.1)->g∈(vw f v fs).map (·.1)
 |[]=>⟨by simp[vw],λg h=>by simp at h⟩
 |(k,x)::r=>by
  obtain⟨i1,i2⟩:=Jz f v r;rw[show vw f v ((k,x)::r)=(if k=f then(k,v)::r else(k,x)::vw f v r) from rfl];by_cases hk:k=f
  .rw[am hk];subst hk;exact⟨by simp,λg h=>by simpa using h⟩
  .rw[al hk];refine⟨?_,λg h=>?_⟩
   .rw[aV];exact aE _ i1
   .rw[aV]at h ⊢;rcases ap.mp h with e|e
    .exact ap.mpr (.inl e)
    .exact aE _ (i2 g e)
theorem Ju (f:Str)(v:V):∀fs:List (Str×V),(vw f v fs).length<=fs.length+1
 |[]=>by simp[vw]
 |(k,x)::r=>by
  have ih:=Ju f v r;rw[show vw f v ((k,x)::r)=(if k=f then(k,v)::r else(k,x)::vw f v r) from rfl];by_cases hk:k=f
  .rw[am hk,aw,aw];lia
  .rw[al hk,aw,aw];lia
theorem RelO.some_of {v:V}{o:Option Ag}(r:RelO (some v) o):∃u,o=some u/\RelV v u:=by
 cases o with
 |none=>exact(show False from r).elim
 |some u=>exact⟨u,rfl,r⟩
theorem RelO.none_of {o:Option Ag}(r:RelO none o):o=none:=by
 cases o with
 |none=>rfl
 |some u=>exact(show False from r).elim
theorem wxg {v:V}{u:Ag}(r:RelV v u):W.handedIn u=true:=by
 cases v with
 |non=>cases(show u=Value.none from r);rfl
 |bl b=>cases(show u=Value.bool b from r);rfl
 |int i=>obtain⟨t,e⟩:=(show ∃t,u=Value.int i t from r);cases e;rfl
 |str x=>obtain⟨t,e⟩:=(show ∃t,u=Value.str x t from r);cases e;rfl
 |byt b=>obtain⟨t,e⟩:=(show ∃t,u=Value.bytes b t from r);cases e;rfl
 |flt b=>obtain⟨t,e⟩:=(show ∃t,u=Value.float b t from r);cases e;rfl
 |ref a=>cases(show u=Value.ref a from r);rfl
 |ty n=>cases(show u=Value.type n from r);rfl
section
variable {P:Ac}{w:Ah}{H H':Hp}{h h':Heap}{a C dx:Aj}{fs fs':List (Str×V)}
theorem qvz (hok:HOk P w H h)(e:H a=some (.ins C dx fs)):∃mA,ObjM h a dx C mA/\(∀f,RelO (fs.lookup f) (mA f))/\PySem.Within mA (fs.map (·.1))/\fs.length<=1000/\H dx=some (.own a):=by obtain⟨d,z,F,ob,mA,n,r,q⟩:=(show ObjOk P w H h a (.ins C dx fs) from hok a _ e);exact⟨mA,⟨ob,n,F⟩,r,q,z,d⟩
end
structure Cls (K:Aa)(C:Aj):Prop where
 pg:W.plainGet K C Str.empty=true
 hd:W.hasDictIn K C=true
 po:W.plainOver K C=true
 sa:W.findIn K (.ref C) "__setattr__" = some (some (.builtin "object.__setattr__"))
theorem Cls.get {K:Aa}{C:Aj}(c:Cls K C)(f:Str):W.plainGet K C f=true:=c.pg
def NoAttr (K:Aa)(C:Aj)(f:Str):Prop:=W.findIn K (.ref C) f=some none
theorem NoAttr.taker {K:Aa}{C:Aj}{f:Str}(n:NoAttr K C f):W.takerIn K C f=some none:=by unfold W.takerIn;rw[show W.findIn K (.ref C) f=some none from n];rfl
structure Con (K:Aa)(C:Aj)(f:Str)(v:V)(u:Ag):Prop where
 at_:W.findIn K (.ref C) f=some (some u)
 rel:RelV v u
 get:W.specialIn K u "__get__" = some none
 cp:W.copiedNames.contains f=false
structure Meth (K:Aa)(C:Aj)(m:Str)(f:Aj):Prop where
 at_:W.findIn K (.ref C) m=some (some (.ref f))
 fn:W.isFn K (.ref f)=true
 kp:W.keepIn K (.ref f)=true
section
variable {X:Cx}{pins:List (Aj×Obj)}{σ:St}{H:Hp}{s:Ab}{a C dx:Aj}{fs:List (Str×V)}{f:Str}{v:V}{A:Ae}{E:Ag->Ab->Prop}
theorem quc {b:Bool}{Q:Ag->Ab->Prop}(I:Inv X pins σ H s)(e:H a=some (.ins C dx fs))(c:Cls X.K C)(n:NoAttr X.K C f)(l:fs.lookup f=some v)
  (h:∀u s',Inv X pins σ H s'->RelV v u->Q u s'):wpAny (model X.prog X.w) A (getAttr (.ref a) f b) Q E s:=by
 obtain⟨mA,O,r,_,_,_⟩:=qvz I.hok e;obtain⟨u,J,F⟩:=RelO.some_of (v:=v) (o:=mA f) (by rw[<-l];exact r f);exact wjh I.kIn O (c.get f) c.hd n J (wxg F) (h u _ (I.tok _) F)
theorem qwr {m:Str}{g:Aj}{pl:Sem Bool}{Q:Ag×List Ag->Ab->Prop}(I:Inv X pins σ H s)(e:H a=some (.ins C dx fs))(c:Cls X.K C)(k:Meth X.K C m g)(l:fs.lookup m=none)
  (h:Q (.ref g,[.ref a]) s):wpAny (model X.prog X.w) A (getMethod (.ref a) m pl) Q E s:=by
 obtain⟨mA,O,r,_,_,_⟩:=qvz I.hok e;have F:mA m=none:=RelO.none_of (by rw[<-l];exact r m);exact wvb I.kIn O (c.get m) k.at_ k.fn F h
theorem qu2 {y:V}{u:Ag}{Q:Unit->Ab->Prop}(I:Inv X pins σ H s)(e:H a=some (.ins C dx fs))(c:Cls X.K C)(n:NoAttr X.K C f)(hl:fs.length<1000)(ry:RelV y u)
  (h:∀s',Inv X pins σ (upd H a (.ins C dx (vw f y fs))) s'->Q () s'):wpAny (model X.prog X.w) A (setAttr (.ref a) f u) Q E s:=by
 obtain⟨mA,O,r,wi,_,J⟩:=qvz I.hok e;have S:(fs.map (·.1)).length<=sizeLine:=by rw[ac,sizeLine_eq];lia
 refine wjj I.kIn O c.sa c.po n.taker c.hd wi S λh' F L=>h _ ?_;have Z:∃o,h'.get? dx=some o:=let ⟨o,_,_,e',_⟩:=F.ns;⟨o,e'⟩;refine I.write (x:=a) (e:=dx) (by rw[e];exact True.intro) (.inr J) (λb q hb z=>(L.2 b hb).trans z) Z ?_;refine⟨by rw[wj O.ne];exact J,?_,O.ne,F.obj,_,F.ns,λg=>?_,λg U=>?_⟩
 .have:=Ju f y fs;lia
 .show RelO ((vw f y fs).lookup g) (if g=f then some u else mA g);rw[Jy];by_cases q:g=f
  .rw[am q,am q];exact ry
  .rw[al q,al q];exact r g
 .by_cases q:g=f
  .rw[q];exact(Jz f y fs).1
  .refine(Jz f y fs).2 g (wi g λz=>U ?_);show(if g=f then some u else mA g)=none;rw[al q];exact z
theorem Inv.made (I:Inv X pins σ H s):Inv X pins σ (upd (upd H s.heap.objs.size (.own (s.heap.objs.size+1))) (s.heap.objs.size+1) (.ins C s.heap.objs.size []))
  { s with heap:=(s.heap.push W.emptyDict).push (W.instObj C s.heap.objs.size) }:=by
 have J:(s.heap.push W.emptyDict).get? s.heap.objs.size=some W.emptyDict:=az s.heap rfl;have U:((s.heap.push W.emptyDict).push (W.instObj C s.heap.objs.size)).get? (s.heap.objs.size+1)=some (W.instObj C s.heap.objs.size):=by have:=az (s.heap.push W.emptyDict) (o:=W.instObj C s.heap.objs.size) rfl;rwa [eI]at this
 have S:(s.heap.push W.emptyDict).Ns s.heap.objs.size (λ_=>none):=⟨W.emptyDict,#[],_,J,rfl,(λe O=>absurd O (by simp)),λ_=>rfl⟩;have Z:=I.laid (a:=s.heap.objs.size) (o:=.own (s.heap.objs.size+1)) (h':=s.heap.push W.emptyDict) (t':=s.toks) (λb u q=>af _ q) (ah _) ⟨_,J⟩;refine Z.laid (a:=s.heap.objs.size+1) (o:=.ins C s.heap.objs.size []) (t':=s.toks) (λb u q=>af _ q) (Nat.le_of_eq (eI _ _)) ?_;have F:s.heap.objs.size≠s.heap.objs.size+1:=aJ (Nat.lt_succ_self _);refine⟨by rw[wj F,qy],aR _,F,U,λ_=>none,(Heap.Ns1.of_empty S).at λo q=>af _ q,λ_=>True.intro,λy L=>absurd rfl L⟩
theorem wyr {prog:Ac}{w:Ah}{env:Env}{e:Expr}{f:Str}{pos:Pos}{s:Ab}{Q:Ag->Ab->Prop}(hb:attributeBase e f env (eval e env)=eval e env)
  (h:wpAny (model prog w) A (eval e env) (λo s₁=>wpAny (model prog w) A (getAttr o f true) Q E s₁) E s):wpAny (model prog w) A (eval (.Attribute e f pos) env) Q E s :=
 Attribute_any_ h (by rw[arm_eval_Attribute,hb])
end
def tFld (K:Aa)(ta:TE)(f:Str):TE:=λσ H Q=>ta σ H λx H1=>∃a C dx fs v,x=.ref a/\H1 a=some (.ins C dx fs)/\Cls K C/\NoAttr K C f/\fs.lookup f=some v/\Q v H1
def sFld (K:Aa)(ta tv:TE)(f:Str):TS:=λD σ H=>tv σ H λy H1=>ta σ H1 λx H2=>∃a C dx fs,x=.ref a/\H2 a=some (.ins C dx fs)/\Cls K C/\NoAttr K C f/\fs.length<1000 /\
 D.nx σ (upd H2 a (.ins C dx (vw f y fs)))
section
variable {X:Cx}{o e value:Expr}{f:Str}{pos pos' tpos:Pos}{ta tv:TE}
theorem v9 (he:PE X e ta)(hb:attributeBase e f X.env (eval e X.env)=eval e X.env):PE X (.Attribute e f pos) (tFld X.K ta f):=by intro pins s σ H Q I h;refine wyr hb (thn (he pins s σ H _ I h) λu s1 ⟨x,H1,I1,rx,a,C,dx,fs,v,ex,ea,c,n,l,q⟩=>?_);subst ex;obtain rfl:u=Value.ref a:=rx;exact quc I1 ea c n l λL s2 J F=>⟨v,H1,J,F,q⟩
theorem Ww (ha:PE X o ta)(hv:PE X value tv)(hs:swapsWith value (some (.Attribute o f pos')) pos.line X.env=pure false):PS X (.Assign [.Attribute o f pos'] value pos) (sFld X.K ta tv f):=by intro pins s σ H D I h;refine plainObj_wpAny_Assign_Attribute (thn (hv pins s σ H _ I h) λu s1 ⟨y,H1,I1,ry,q⟩=>thn (ha pins s1 σ H1 _ I1 q) λov s2 ⟨x,H2,I2,rx,a,C,dx,fs,ex,ea,c,n,l,q2⟩=>?_) hs;subst ex;obtain rfl:ov=Value.ref a:=rx;exact qu2 I2 ea c n l ry λJ F=>⟨σ,_,F,q2⟩
end
section
variable {X:Cx}{pins:List (Aj×Obj)}{σ:St}{H:Hp}{s:Ab}{A:Ae}{E:Ag->Ab->Prop}{Q:Ag->Ab->Prop}{c:Ag}{b:Bool}
inductive TyOf (K:Aa) (H:Hp):V->Ag->Prop where
 |non:TyOf K H .non (.type "NoneType")
 |bl (x:Bool):TyOf K H (.bl x) (.type "bool")
 |int (i:Int):TyOf K H (.int i) (.type "int")
 |str (x:Str):TyOf K H (.str x) (.type "str")
 |flt (x:UInt64):TyOf K H (.flt x) (.type "float")
 |lst {a:Aj} {xs:List V} (e:H a=some (.lst xs)):TyOf K H (.ref a) (.type "list")
 |frz {a:Aj} {o:Obj} {xs:List V} (e:H a=some (.frz o (.lst xs))):TyOf K H (.ref a) (.type "list")
 |tup {a:Aj} {xs:List V} (e:H a=some (.tup xs)):TyOf K H (.ref a) (.type "tuple")
 |dK {a:Aj} {kvs:List (Key×V)} (e:H a=some (.dK kvs)):TyOf K H (.ref a) (.type "dict")
 |dT {a:Aj} {kvs:List (List Key×V)} (e:H a=some (.dT kvs)):TyOf K H (.ref a) (.type "dict")
 |ins {a C dx:Aj} {fs:List (Str×V)} (e:H a=some (.ins C dx fs)) (cl:Cls K C) (ha:W.findIn K (.ref C) "__class__" = some (some (.builtin "object.__class__")))
   (hn:W.specialIn K (.builtin "object.__class__") "__get__" = some (some (.builtin "getset_descriptor.__get__"))) (htk:W.takesIn K (.builtin "object.__class__")=some true)
   (hm:W.mroIn K C (.type "object")=some true):TyOf K H (.ref a) (.ref C)
end
structure Room (k:Nat)(A:Ae):Prop where
 hd:A.handled=none
 dp:A.depth+3*k+5<recursionLimit
 un:A.units+16*k+200<cLine
theorem Room.mono {j k:Nat}{A:Ae}(r:Room k A)(h:j<=k):Room j A:=⟨r.hd,by have:=r.dp;lia,by have:=r.un;lia⟩
theorem Room.deeper {k:Nat}{A:Ae}(r:Room (k+1) A)(env:Env):Room k (A.deeper env) :=
 ⟨r.hd,by have:=r.dp;show A.depth+1+3*k+5<_;lia,by have:=r.un;show A.units+3+16*k+200<_;lia⟩
theorem quu {A:Ae}{C:Aj}{us:List Ag}{kw:List (Str×Ag)}:(A.under (.builtin "type.__call__" ⟨.ref C::us,kw⟩)).depth=A.depth+1:=by
 first | rfl | simp[Around.under,Code.weight,Code.isCreation,Code.isGuard,Code.isCaller,Code.frames,Code.isFrame,guardIds]
theorem wqz {A:Ae}{C:Aj}{us:List Ag}{kw:List (Str×Ag)}:(A.under (.builtin "type.__call__" ⟨.ref C::us,kw⟩)).units=A.units+1:=by
 first | rfl | simp[Around.under,Code.cUnits,Code.frames,Code.isFrame]
theorem Room.make {k:Nat}{A:Ae}(r:Room (k+1) A)(C:Aj)(us:List Ag)(kw:List (Str×Ag)):Room k (A.under (.builtin "type.__call__" ⟨.ref C::us,kw⟩)) :=
 ⟨r.hd,by have:=r.dp;rw[quu];lia,by have:=r.un;rw[wqz];lia⟩
theorem Room.depth {k:Nat}{A:Ae}(r:Room k A):A.depth<recursionLimit:=by have:=r.dp;lia
theorem Room.units {k:Nat}{A:Ae}(r:Room k A):A.units+64<cLine:=by have:=r.un;lia
theorem Room.units0 {k:Nat}{A:Ae}(r:Room k A):A.units<cLine:=by have:=r.un;lia
def Qu:TA:=λ_ H Q=>Q [] H
def vc (ta:TE)(tr:TA):TA:=λσ H Q=>ta σ H λx H1=>tr σ H1 λxs H2=>Q (x::xs) H2
section
variable {X:Cx}{e:Expr}{es:List Expr}{te:TE}{t:TA}{pos:Pos}
theorem qk:PA X [] Qu:=λ_ _ _ _ H Q I h=>Calls.spliced_nil ⟨[],H,I,.nil,h⟩
theorem xh (ha:PE X e te)(hr:PA X es t)(hs:autoParam (starEach (e::es) X.env=(false,eval e X.env)::starEach es X.env) aU4._auto_1):PA X (e::es) (vc te t):=by intro pos pins s σ H Q I h;rw[hs];show wpAny _ _ (spliced ((false,eval e X.env)::backTo pos (starEach es X.env))) _ _ s;refine Calls.spliced_cons (thn (ha pins s σ H _ I h) λu s1 ⟨x,H1,I1,r1,q1⟩=>?_);exact thn (hr pos pins s1 σ H1 _ I1 q1) λus s2 ⟨xs,H2,I2,r2,q2⟩=>⟨x::xs,H2,I2,.cons r1 r2,q2⟩
def tTup (t:TA):TE:=λσ H Q=>t σ H λxs H1=>xs.length<=sizeLine/\∀p,H1 p=none->Q (.ref p) (upd H1 p (.tup xs))
def tLst (t:TA):TE:=λσ H Q=>t σ H λxs H1=>xs.length<=sizeLine/\∀p,H1 p=none->Q (.ref p) (upd H1 p (.lst xs))
theorem jz {x1}(h:PA X es t):PE X (.Tuple es x1 pos) (tTup t):=by intro pins s σ H Q I F;refine wpAny_Tuple_spliced (thn (h pos pins s σ H _ I F) λus s1 ⟨xs,H1,I1,r,z,q⟩=>⟨by rw[<-r.length];exact z,?_⟩);have J:H1 s1.heap.objs.size=none:=I1.hok.fresh (ah _);refine⟨.ref s1.heap.objs.size,upd H1 s1.heap.objs.size (.tup xs),I1.laid (t':=s1.toks) (λb u e=>af _ e) (ah _) ?_,rfl,q _ J⟩;exact⟨z,us,r,⟨_,az _ rfl,rfl,_,rfl⟩⟩
theorem vj (h:PA X es t):PE X (.List es pos) (tLst t):=by intro pins s σ H Q I F;refine wpAny_List_spliced (thn (h pos pins s σ H _ I F) λus s1 ⟨xs,H1,I1,r,z,q⟩=>⟨by rw[<-r.length];exact z,?_⟩);have J:H1 s1.heap.objs.size=none:=I1.hok.fresh (ah _);refine⟨.ref s1.heap.objs.size,upd H1 s1.heap.objs.size (.lst xs),I1.laid (t':=s1.toks) (λb u e=>af _ e) (ah _) ?_,rfl,q _ J⟩;exact⟨z,us,0,r,az _ rfl⟩
end
abbrev Sp:=List V->Hp->VK->XK->Prop
abbrev CXT:=List Env->Hp->Ab->XK->Ag->Ab->Prop
structure Env0 (P:Ac)(w:Ah)(K:Aa)(mg:Str->Option Ag)(base:Heap)(A:Ae)(outer:List Env)(s:Ab)(H:Hp):Prop where
 frames:A.frames=some outer
 mod:Mod K mg base
 bs:∀b o,base.get? b=some o->s.heap.get? b=some o/\H b=none
 bsz:base.objs.size<=s.heap.objs.size
 funs:s.heap.FunFrames base outer
 frf:∀b∈frs outer,H b=none
 hok:HOk P w H s.heap
 bare:AllBare s.gens
def CE (outer:List Env)(P:Ac)(w:Ah)(H:Hp)(s:Ab)(Q:VK)(u:Ag)(s':Ab):Prop :=
 ∃v H',s'.os=s.os/\AllBare s'.gens/\Un (frs outer) [] H H' s.heap s'.heap/\HOk P w H' s'.heap/\RelV v u/\Q v H'
def CR (CX:CXT)(outer:List Env)(P:Ac)(w:Ah)(H:Hp)(s:Ab)(Q:VK)(E:XK)(r:Result)(s':Ab):Prop :=
 match r with
 |.ok (.ret u)=>CE outer P w H s Q u s'
 |.ok _=>False
 |.error e=>CX outer H s E e s'
structure FnOk (P:Ac)(w:Ah)(K:Aa)(mg:Str->Option Ag)(base:Heap)(CX:CXT)(k:Nat)(f:Aj)(fd:Ad)(ps:List Str)(sp:Sp):Prop where
 len:∀vs H Q E,sp vs H Q E->vs.length=ps.length
 run:∀(A:Ae) (outer:List Env) (s:Ab) (H:Hp) (args:Args) (us:List Ag) (vs:List V) (Q:VK) (E:XK),Room k A->Env0 P w K mg base A outer s H->BindsTo s fd args (ps.zip us)->Vals vs us->sp vs H Q E ->
  codeAny (model P w) A (.call (.ref f) args) (CR CX outer P w H s Q E) s
theorem Env0.make {P:Ac}{w:Ah}{K:Aa}{mg:Str->Option Ag}{base:Heap}{A:Ae}{outer:List Env}{s:Ab}{H:Hp}(e:Env0 P w K mg base A outer s H)(C:Aj)(us:List Ag)(kw:List (Str×Ag)) :
  Env0 P w K mg base (A.under (.builtin "type.__call__" ⟨.ref C::us,kw⟩)) outer s H:=⟨by first | exact e.frames | (simpa [Around.under,Code.envs,Code.isFrame,pushEnvs] using e.frames),e.mod,e.bs,e.bsz,e.funs,e.frf,e.hok,e.bare⟩
section
variable {X:Cx}{pins:List (Aj×Obj)}{σ:St}{H:Hp}{s s':Ab}
theorem Inv.env0 (I:Inv X pins σ H s):Env0 X.prog X.w X.K X.mg X.base X.A X.stack s H :=
 ⟨I.ok.frames,I.ok.mod,I.bs,aX I.ok.bsz I.sz,I.stack,I.stkFree,I.hok,I.bare⟩
theorem Inv.after {Q:VK}{u:Ag}(I:Inv X pins σ H s)(h:CE X.stack X.prog X.w H s Q u s'):EP X pins σ Q u s':=by obtain⟨v,H',L,U,F,O,r,q⟩:=h;obtain⟨S,g,d,t,J⟩:=s';obtain rfl:J=s.os:=L;exact⟨v,H',I.call (h':=S) (g':=g) (d':=d) (t':=t) (ch:=[]) F O U (λb z=>absurd z (by simp)),r,q⟩
end
def Binds (K:Aa)(fd:Ad)(ps:List Str)(ds:List Ag):Prop :=
 ∀(s:Ab) (us:List Ag),K.In s.heap->(us++ds).length=ps.length->BindsTo s fd ⟨us,[]⟩ (ps.zip (us++ds))
theorem Binds.all {K:Aa}{fd:Ad}{ps:List Str}(h:∀us:List Ag,us.length=ps.length->bindArgs fd ⟨us,[]⟩=pure (ps.zip us)):Binds K fd ps []:=λs us _ hl=>by rw[bK]at hl ⊢;exact .of_eq (h us hl)
section
variable {X:Cx}{CX:CXT}{k:Nat}{f C:Aj}{fd:Ad}{ps:List Str}{sp:Sp}{dvs:List V}{ds:List Ag}{E:XK}{x m:Str}{p pos apos:Pos}{e o:Expr}{es:List Expr}{ta:TE}{t:TA}
structure Mk (K:Aa)(C f:Aj):Prop where
 makes:W.makesIn K C=true
 init:W.findIn K (.ref C) "__init__" = some (some (.ref f))
 fn:W.isFn K (.ref f)=true
 kp:W.keepIn K (.ref C)=true
end
section
variable {X:Cx}{CX:CXT}{k:Nat}{f C:Aj}{fd:Ad}{ps ks:List Str}{sp:Sp}{E:XK}{x m:Str}{p pos apos kpos:Pos}{e o:Expr}{es:List Expr}{kws:List Keyword}{te ta:TE}{t tk:TA}{nm:Option Str}
structure KBinds (K:Aa)(fd:Ad)(ps ks:List Str)(g:List Ag->List Ag->List Ag)(gV:List V->List V->List V):Prop where
 to:∀(s:Ab) (us ws:List Ag),K.In s.heap->(g us ws).length=ps.length->BindsTo s fd ⟨us,ks.zip ws⟩ (ps.zip (g us ws))
 rel:∀ {vs:List V} {us:List Ag} {zs:List V} {ws:List Ag},Vals vs us->Vals zs ws->Vals (gV vs zs) (g us ws)
variable {g:List Ag->List Ag->List Ag}{gV:List V->List V->List V}
end
structure FnScope (N P:List Str)(sc:Scope):Prop where
 kind:sc.kind=.function
 co:sc.isCoroutine=false
 gen:sc.isGenerator=false
 nd:N.Nodup
 pre:N.take P.length=P
 par:∀x∈P,sc.names.lookup x=some .local\/sc.names.lookup x=some .cell
 nofree:∀y∈sc.names,y.2≠.free
theorem qzp {kindOf:Str->Option NameKind}{x:Str}:∀ {binds:List (Str×Ag)} {m:Str->Option Ag},(∀v,(x,v)∉binds)->bindL kindOf binds m x=m x
 |[],_,_=>rfl
 |(n,v)::r,m,h=>by
  unfold bindL;rw[qzp λw hw=>h w (aE _ hw)];split
  .have:x≠n:=by rintro rfl;exact h v au
   simp[this]
  .rfl
theorem qzr {kindOf:Str->Option NameKind}{x:Str}:∀ {binds:List (Str×Ag)} {m:Str->Option Ag},(∀v,(x,v)∉binds)->bindC kindOf binds m x=m x
 |[],_,_=>rfl
 |(n,v)::r,m,h=>by
  unfold bindC;rw[qzr λw hw=>h w (aE _ hw)];split
  .rfl
  .have:x≠n:=by rintro rfl;exact h v au
   simp[this]
theorem qzc {kindOf:Str->Option NameKind}{x:Str}{v:Ag}:∀ {P:List Str} {vs:List Ag} {i:Nat} {m:Str->Option Ag},P.Nodup->P[i]?=some x->vs[i]?=some v->kindOf x=some .local ->
  bindL kindOf (P.zip vs) m x=some v
 |[],_,_,_,_,h,_,_=>by simp at h
 |_::_,[],_,_,_,_,h,_=>by simp at h
 |p::P,w::vs,0,m,nd,h1,h2,hk=>by simp at h1 h2;subst h1;subst h2;show bindL kindOf ((p,w)::P.zip vs) m p=_;unfold bindL;rw[qzp λv hv=>(be.mp nd).1 (fH hv).1,am hk];simp
 |p::P,w::vs,i+1,m,nd,h1,h2,hk=>by show bindL kindOf ((p,w)::P.zip vs) m x=_;unfold bindL;exact qzc (i:=i) (be.mp nd).2 (by simpa using h1) (by simpa using h2) hk
theorem qz1 {kindOf:Str->Option NameKind}{x:Str}{v:Ag}:∀ {P:List Str} {vs:List Ag} {i:Nat} {m:Str->Option Ag},P.Nodup->P[i]?=some x->vs[i]?=some v->kindOf x≠some .local ->
  bindC kindOf (P.zip vs) m x=some v
 |[],_,_,_,_,h,_,_=>by simp at h
 |_::_,[],_,_,_,_,h,_=>by simp at h
 |p::P,w::vs,0,m,nd,h1,h2,hk=>by simp at h1 h2;subst h1;subst h2;show bindC kindOf ((p,w)::P.zip vs) m p=_;unfold bindC;rw[qzr λv hv=>(be.mp nd).1 (fH hv).1,al hk];simp
 |p::P,w::vs,i+1,m,nd,h1,h2,hk=>by show bindC kindOf ((p,w)::P.zip vs) m x=_;unfold bindC;exact qz1 (i:=i) (be.mp nd).2 (by simpa using h1) (by simpa using h2) hk
def Q6 (N:List Str)(vs:List V):St:=vs.map some++List.replicate (N.length-vs.length) none
def W9 (CX:CXT)(P:Ac)(w:Ah)(K:Aa)(mg:Str->Option Ag)(base:Heap)(N:List Str)(qual:Str)(scope:Scope)(f:Aj)(cd:Ag)(A:Ae)(outer:List Env)(s:Ab)(H:Hp)(E:XK):Cx where
 prog:=P
 w:=w
 K:=K
 mg:=mg
 base:=base
 A:=A.deeper (envOfC qual scope s.heap.objs.size f cd)
 N:=N
 s₀:=s
 H₀:=H
 env:=envOfC qual scope s.heap.objs.size f cd
 outer:=outer
 stack:=envOfC qual scope s.heap.objs.size f cd::outer
 ex:=[]
 calm:=true
 fn:=λ_=>true
 pn:=[]
 xe:=λe s'=>wpAny (model P w) (A.deeper (envOfC qual scope s.heap.objs.size f cd)) (leaving (envOfC qual scope s.heap.objs.size f cd) e) (λ_ s''=>CX outer H s E e s'') (λe' s''=>CX outer H s E e' s'') s'
theorem qjv {sc:Scope}{n:Nat}{x:Str}(h:sc.names.lookup x=some .cell):∃c,(cellsFrom n sc.names []).lookup x=some c:=by have q:=W.cellsFrom_some sc.names n [] (.inl h);exact aH.mp q
theorem wxy {CX:CXT}{P:Ac}{w:Ah}{K:Aa}{mg:Str->Option Ag}{base:Heap}{N ps:List Str}{qual:Str}{scope:Scope}{f:Aj}{cd:Ag}{A:Ae}{outer:List Env}{s s1:Ab}{H:Hp}{E:XK}{us:List Ag}{vs:List V}
  (S:FnScope N ps scope) (hd:A.handled=none) (e0:Env0 P w K mg base A outer s H) (hl:vs.length=ps.length) (r:Vals vs us)
  (x:InCallC s s.heap.objs.size (bindL (envOfC qual scope s.heap.objs.size f cd).kindOf (ps.zip us) λ_=>none) (cellsFrom (s.heap.objs.size+1) scope.names []) (bindC (envOfC qual scope s.heap.objs.size f cd).kindOf (ps.zip us) λ_=>none) s1) :
  Inv (W9 CX P w K mg base N qual scope f cd A outer s H E) [] (Q6 N vs) H s1:=by
 have aa:ps.length<=N.length:=by have:=bi List.length S.pre;rw[bA]at this;lia
 obtain⟨h1,tk,rfl,U⟩:=x.done;have J:∀b:Aj,b∉(W9 CX P w K mg base N qual scope f cd A outer s H E).ex:=λb z=>absurd (show b∈([]:List Aj) from z) (by simp);refine⟨⟨e0.mod,S.kind,rfl,rfl,ah _,λy z c h1 h2=>?_,λy F=>?_,λy c _ h=>?_,λ_=>hd,Around.frames_deeper e0.frames,.inr ⟨rfl,rfl⟩,λb z=>absurd z (J b),e0.bs,e0.bsz,λb _ _=>J b,λb z=>absurd z (J b),e0.funs,e0.frf⟩,
  rfl,e0.bare,Un.kept U,⟨_,x.toInCall.ns,λi y v h1 h2 h3=>?_⟩,λy c h=>⟨_,x.cell y c h⟩,e0.hok.fresh (ah _),λy c h=>?_,λp I=>absurd (show p∈([]:List (Aj×Obj)) from I) (by simp),e0.hok.kept U,?_⟩
 .exact name_of_addr x.apart (cB h1) (cB h2)
 .have F:scope.names.lookup y=some .cell\/scope.names.lookup y=some .free:=F;rcases F with F|F
  .exact qjv F
  .exact absurd rfl (S.nofree _ (cB F))
 .exact bH (x.above y c (cB h))
 .have hi:i<vs.length:=by
   unfold Q6 at h2;by_cases hi:i<vs.length
   .exact hi
   .rw[bB (by simpa using hi)]at h2;rw[List.getElem?_replicate]at h2;split at h2 <;> cases h2
  have ha:vs[i]?=some v:=by
   unfold Q6 at h2;rw[bG (by simpa using hi),aD]at h2;cases e:vs[i]? with
   |none=>rw[e]at h2;cases h2
   |some a=>rw[e]at h2;cases h2;rfl
  obtain⟨u,O,Z⟩:=r.get ha;have I:ps[i]?=some y:=by rw[<-S.pre,List.getElem?_take_of_lt ⋯];exact h1
  have L:ps.Nodup:=by rw[<-S.pre];exact S.nd.sublist (eZ _ _)
  refine⟨u,Z,?_⟩;rcases S.par y (bO I) with k|k
  .exact .inl ⟨k,qzc L I O k⟩
  .obtain⟨c,e⟩:=qjv (n:=s.heap.objs.size+1) k;refine .inr ⟨.inl k,c,e,?_⟩;have q:=x.cell y c e;rw[qz1 L I O (by show scope.names.lookup y≠_;rw[k];decide)]at q;exact q
 .exact e0.hok.fresh (bH (x.above y c (cB h)))
 .unfold Q6;show _=N.length;rw[ay,ac,List.length_replicate];lia
theorem fn_of {CX:CXT}{P:Ac}{w:Ah}{K:Aa}{mg:Str->Option Ag}{base:Heap}{k:Nat}{f:Aj}{name qual:Str}{params:Arguments}{body:List Stmt}{scope:Scope}{dV kV doc pm cdv ct oc:Ag}{an od:Option Aj}
  {osl:Array (Option Ag)} {N ps:List Str} {sp:Sp} (lk:K.lookup f=some ⟨oc,od,.func (W.fnOf name qual params body scope dV kV doc pm an cdv ct),osl⟩) (hcd:W.codeIn K cdv qual=true) (S:FnScope N ps scope)
  (len:∀vs H Q E,sp vs H Q E->vs.length=ps.length)
  (hbody:∀(A:Ae) (outer:List Env) (s:Ab) (H:Hp) (vs:List V) (Q:VK) (E:XK),Room k (A.deeper (envOfC qual scope s.heap.objs.size f cdv))->sp vs H Q E ->
   ∃t,PSs (W9 CX P w K mg base N qual scope f cdv A outer s H E) body t/\t { nx:=λ_ H'=>Q .non H',rt:=Q } (Q6 N vs) H) :
  FnOk P w K mg base CX (k+1) f (W.fnOf name qual params body scope dV kV doc pm an cdv ct) ps sp:=by
 refine⟨len,λA outer s H ak us vs Q E U F hb r aa=>?_⟩;have hl:=len _ _ _ _ aa;have KX:K.In s.heap:=F.mod.kin.keeps λb o e=>(F.bs b o e).1;have ai:s.heap.NoLimit:=F.mod.nolimit.keeps λb o e=>(F.bs b o e).1;have aj:∀y∈ps.zip us,scope.names.lookup y.1=some .local\/(scope.names.lookup y.1=some .cell/\((cellsFrom (s.heap.objs.size+1) scope.names []).lookup y.1).isSome=true):=λ⟨n,v⟩ hy=>by
  rcases S.par n (fH hy).1 with q|q
  .exact .inl q
  .exact .inr ⟨q,W.cellsFrom_some _ _ _ (.inl q)⟩
 refine codeAny_call_function U.depth (KX _ _ lk) rfl S.co S.gen rfl (W.codeRec_of KX hcd) (hb _ _ _ _ ?_);refine wpAny_newFunctionEnv_cells S.kind aj λenv he Z x=>?_;subst he;refine⟨ai.keeps x.toInCall.keep,codeAny_func ?_⟩;obtain⟨t,ht,hq⟩:=hbody A outer s H vs Q E (U.deeper _) aa;have I:Inv (W9 CX P w K mg base N qual scope f cdv A outer s H E) [] (Q6 N vs) H Z:=wxy S U.hd F hl r x;refine aK (ht [] Z (Q6 N vs) H _ I hq) (λfl s' hs=>?_) λe s' hs=>hs;have ad:∀ {L:St} {H':Hp} {v:V} {u:Ag},Inv (W9 CX P w K mg base N qual scope f cdv A outer s H E) [] L H' s'->RelV v u->Q v H'->CE outer P w H s Q u s' :=
  λ{L H' v u} J O q=>⟨v,H',J.os,J.bare,J.base,J.hok,O,q⟩
 cases fl with
 |ret u =>
  obtain⟨v,L,H',J,O,q⟩:=hs;exact ad J O q
 |next =>
  obtain⟨L,H',J,q⟩:=hs;exact ad (v:=V.non) (u:=Value.none) J rfl q
 |brk =>
  obtain⟨_,_,_,q⟩:=hs;exact False.elim q
 |cont =>
  obtain⟨_,_,_,q⟩:=hs;exact False.elim q
section
variable {X:Cx}{x:Str}{p pos:Pos}{e:Expr}{es:List Expr}{t:TA}{id T:String}{r:List V->Hp->VK->Prop}
def tCB (r:List V->Hp->VK->Prop)(t:TA):TE:=λσ H Q=>t σ H λvs H1=>r vs H1 Q
theorem wn (hc:jw X (.builtin id) r)(hg:Gl X x)(hm:X.mg x=none)(hv:bootBuiltins x=some (.builtin id))(ha:PA X (e::es) t)(hn:autoParam (x ≠ "__name__") aU2._auto_1)(hdb:autoParam ((x==("__debug__" : Str))=false) aU1._auto_1)
  (he:autoParam (starEach (e::es) X.env=(false,eval e X.env)::starEach es X.env) aU4._auto_1) (hpl:autoParam ((backTo pos (starEach es X.env)).any (·.1)=false) aU4._auto_1):PE X (.Call (.Name x p) (e::es) [] pos) (tCB r t):=by
 intro pins s σ H Q I h;refine cJ (qu9 I hg hm hv ?_ hn hdb);exact PyProof.Rows.callWith_builtin1 (thn (ha pos pins s σ H _ I h) λus s1 ⟨vs,H1,I1,r1,q1⟩=>hc pins s1 σ H1 vs us Q I1 r1 q1) he hpl
theorem zv (hc:jw X (.type T) r)(hg:Gl X x)(hm:X.mg x=none)(hv:bootBuiltins x=some (.type T))(ha:PA X (e::es) t)(hn:autoParam (x ≠ "__name__") aU2._auto_1)(hdb:autoParam ((x==("__debug__" : Str))=false) aU1._auto_1)
  (he:autoParam (starEach (e::es) X.env=(false,eval e X.env)::starEach es X.env) aU4._auto_1) (hpl:autoParam ((backTo pos (starEach es X.env)).any (·.1)=false) aU4._auto_1):PE X (.Call (.Name x p) (e::es) [] pos) (tCB r t):=by
 intro pins s σ H Q I h;refine cJ (qu9 I hg hm hv ?_ hn hdb);exact ei (thn (ha pos pins s σ H _ I h) λus s1 ⟨vs,H1,I1,r1,q1⟩=>hc pins s1 σ H1 vs us Q I1 r1 q1) he hpl
end
end L2
namespace HT
open PySem PyProof.Rows
theorem wjx (A:Ae)(s:Ab)(a:Int)(t:Tok)(c:Int)(u:Tok):∃e,SeqAt.EqAt A s (.int a t) (.int c u) e/\(e=true↔a=c) :=
 ⟨(a==c),SeqAt.EqAt.int_int a t c u,by simp⟩
section
open PySem.SeqAt
open PySem.AutoSeq1 (wpAny_loadPart')
open PySem.MeetsSeq PySem.MeetsSeq2 PySem.MeetsSeq3
end
section
variable {prog:Ac}{w:Ah}{A:Ae}{E:Ag->Ab->Prop}{s:Ab}
def sIx (n d:Nat):Option Int->Nat
 |none=>d
 |some v=>if v<0 then(v+(n:Int)).toNat else min v.toNat n
end
end HT
namespace L2
open PySem PySem.Spec PyProof.Rows
abbrev TO:=St->Hp->(Option Int->Hp->Prop)->Prop
def PO (X:Cx)(e:Option Expr)(t:TO):Prop :=
 ∀(pins:List (Aj×Obj)) (s:Ab) (σ:St) (H:Hp) (Q:Option Int->Hp->Prop),Inv X pins σ H s->t σ H Q ->
  wpAny (model X.prog X.w) X.A (evalPart e X.env) (λu s'=>∃o H',Inv X pins σ H' s'/\IsPart u o/\Q o H') X.xe s
def wjk:TO:=λ_ H Q=>Q none H
def tPart (t:TE):TO:=λσ H Q=>t σ H λx H1=>∃i,x=.int i/\Q (some i) H1
theorem wqy {ns:List Int}:∀ {us:List Ag},Vals (ns.map V.int) us->IntsAre us ns:=by
 induction ns with
 |nil=>intro us r;rw[cx]at r;cases r;exact .nil
 |cons n ns ih =>
  intro us r;rw[aV]at r;cases r with
  |cons r1 r2 =>
   obtain⟨t,e⟩:=r1;subst e;exact .cons n t (ih r2)
section
variable {X:Cx}{e:Expr}{te:TE}{lo hi:Option Expr}{tl th:TO}{pos p2:Pos}
theorem jd:PO X none wjk:=by intro pins s σ H Q I h;rw[evalPart_none];exact aF ⟨none,H,I,.none,h⟩
theorem jf (h:PE X e te):PO X (some e) (tPart te):=by intro pins s σ H Q I F;rw[evalPart_some];refine thn (h pins s σ H _ I F) λu s1 ⟨x,H1,I1,r1,q1⟩=>?_;obtain⟨i,rfl,q⟩:=q1;obtain⟨t,rfl⟩:=r1;exact⟨some i,H1,I1,.int i t,q⟩
def SlR (X:Cx)(r:V->Option Int->Option Int->Hp->VK->Prop):Prop :=
 ∀(pins:List (Aj×Obj)) (s:Ab) (σ:St) (H:Hp) (x:V) (v vl vu:Ag) (lo hi:Option Int) (sl:Aj) (Q:VK),Inv X pins σ H s->RelV x v->s.heap.IsSliceOf sl vl vu .none->IsPart vl lo->IsPart vu hi->r x lo hi H Q ->
  ∃T id,typeLookup (.type T) "__getitem__" = pure (some (.builtin id))/\s.TypeIs v T/\wpAny (model X.prog X.w) X.A (getItem v (.ref sl)) (EP X pins σ Q) X.xe s
def tSl (r:V->Option Int->Option Int->Hp->VK->Prop)(te:TE)(tl th:TO):TE:=λσ H Q=>te σ H λx H1=>tl σ H1 λl H2=>th σ H2 λu H3=>r x l u H3 Q
theorem v6 {r:V->Option Int->Option Int->Hp->VK->Prop}(hr:SlR X r)(he:PE X e te)(hl:PO X lo tl)(hu:PO X hi th):PE X (.Subscript e (.Slice lo hi none p2) pos) (tSl r te tl th):=by intro pins s σ H Q I h;refine Subscript_ (thn (he pins s σ H _ I h) λv s1 ⟨x,H1,I1,r1,q1⟩=>?_);refine wpAny_Slice (thn (hl pins s1 σ H1 _ I1 q1) λvl s2 ⟨l,H2,I2,pl,q2⟩=>thn (hu pins s2 σ H2 _ I2 q2) λvu s3 ⟨u,H3,I3,pu,q3⟩=>?_);rw[evalPart_none];refine aF ?_;have O:Inv X pins σ H3 { s3 with heap:=s3.heap.push { cls:=.type "slice",data:=.fields #[vl,vu,.none] } }:=I3.kept (t':=s3.toks) λb ob q=>af _ q;obtain⟨T,id,L,F,J⟩:=hr pins { s3 with heap:=s3.heap.push { cls:=.type "slice",data:=.fields #[vl,vu,.none] } } σ H3 x v vl vu l u s3.heap.objs.size Q O r1 (Heap.IsSliceOf.new ..) pl pu q3;show wpAny (model X.prog X.w) X.A (subscriptTail e (.Slice lo hi none p2) v (.ref s3.heap.objs.size)) (EP X pins σ Q) X.xe { s3 with heap:=s3.heap.push { cls:=.type "slice",data:=.fields #[vl,vu,.none] } };exact tail_any (ops:=[.ref s3.heap.objs.size,v]) F L J (by with_unfolding_all rfl)
def cutV (xs:List V)(lo hi:Option Int):List V:=(xs.drop (HT.sIx xs.length 0 lo)).take (HT.sIx xs.length xs.length hi-HT.sIx xs.length 0 lo)
theorem qjc (xs:List V)(lo hi:Option Int):(cutV xs lo hi).length<=xs.length:=by unfold cutV;rw[bA,cD];lia
end
def ixN (n:Nat)(i:Int):Option Nat:=if 0<=i then(if i<n then some i.toNat else none) else if -(n:Int)<=i then some (i+n).toNat else none
def atI {α:Type}(xs:List α)(i:Int):Option α:=(ixN xs.length i).bind λj=>xs[j]?
theorem qvj {n:Nat}{i:Int}{j:Nat}(h:ixN n i=some j):seqIndex? i n=some j/\j<n/\-(n:Int)<=i/\i<n:=by
 unfold ixN at h;by_cases h0:0<=i
 .rw[am h0]at h;by_cases h1:i<n
  .rw[am h1]at h;have e:i.toNat=j:=ax h;exact⟨by rw[seqIndex_of h0 h1,e],⋯,⋯,h1⟩
  .rw[al h1]at h;cases h
 .rw[al h0]at h;by_cases h1:-(n:Int)<=i
  .rw[am h1]at h;have e:(i+n).toNat=j:=ax h;exact⟨by rw[seqIndex_neg ⋯ h1,e],⋯,h1,⋯⟩
  .rw[al h1]at h;cases h
theorem qv2 {α:Type}{xs:List α}{i:Int}{v:α}(h:atI xs i=some v):∃j,seqIndex? i xs.length=some j/\xs[j]?=some v/\j<xs.length/\-(xs.length:Int)<=i/\i<xs.length:=by
 unfold atI at h;cases e:ixN xs.length i with
 |none=>rw[e]at h;cases h
 |some j =>
  rw[e]at h;obtain⟨h1,h2,I,F⟩:=qvj e;exact⟨j,h1,h,h2,I,F⟩
theorem v8 {α:Type}{xs:List α}{j:Nat}{v:α}(h:xs[j]?=some v):atI xs (j:Int)=some v:=by
 have F:j<xs.length:=(ba.mp h).1;have e:ixN xs.length (j:Int)=some j:=by unfold ixN;rw[am ⋯,am ⋯];simp
 unfold atI;rw[e];exact h
theorem wk2 {α:Type}(xs:List α)(v:α):atI (xs++[v]) (-1)=some v:=by
 have F:(xs++[v]).length=xs.length+1:=by simp
 have e:ixN (xs++[v]).length (-1)=some xs.length:=by unfold ixN;rw[F,al ⋯,am ⋯];congr 1;lia
 unfold atI;rw[e];show(xs++[v])[xs.length]?=some v;simp
def wj3 (b:Expr):Prop:=∀o i,subscripted b false o i=operate [o,i] (getItem o i)
def IxR (X:Cx)(r:R2):Prop :=
 ∀(value slice:Expr) (pins:List (Aj×Obj)) (s:Ab) (σ:St) (H:Hp) (x y:V) (v u:Ag) (Q:VK),Inv X pins σ H s->RelV x v->RelV y u->r x y H Q ->
  subscripted slice false v u=operate [v,u] (getItem v u)->wpAny (model X.prog X.w) X.A (subscriptTail value slice v u) (EP X pins σ Q) X.xe s
def MtR (X:Cx)(id:String)(r:V->List V->Hp->VK->Prop):Prop :=
 ∀(pins:List (Aj×Obj)) (s:Ab) (σ:St) (H:Hp) (x:V) (xs:List V) (v:Ag) (us:List Ag) (Q:VK),Inv X pins σ H s->RelV x v->Vals xs us->r x xs H Q ->
  wpAny (model X.prog X.w) X.A (call (.builtin id) (v::us)) (EP X pins σ Q) X.xe s
section
variable {X:Cx}{a b:Expr}{ta tb:TE}{pos:Pos}
theorem IxR.or {r r':R2}(h:IxR X r)(h':IxR X r'):IxR X (λx y H Q=>r x y H Q\/r' x y H Q):=by
 intro value F pins s σ H x y v u Q I L J q hs;rcases q with q|q
 .exact h value F pins s σ H x y v u Q I L J q hs
 .exact h' value F pins s σ H x y v u Q I L J q hs
theorem xn {r:R2}(hr:IxR X r)(ha:PE X a ta)(hb:PE X b tb)(hs:wj3 b):PE X (.Subscript a b pos) (tOp r ta tb):=by intro pins s σ H Q I h;exact Subscript_ (binT ha hb I h λv u s2 x y H2 L J F q=>hr a b pins s2 σ H2 x y v u Q L J F q (hs _ _))
def rIxL (K:Aa):R2:=λx y H Q=>∃p xs i v,x=.ref p/\y=.int i/\SqL K H p xs/\atI xs i=some v/\Q v H
def rIxT (K:Aa):R2:=λx y H Q=>∃p xs i v,x=.ref p/\y=.int i/\SqT K H p xs/\atI xs i=some v/\Q v H
def rIxS:R2:=λx y H Q=>∃z i c,x=.str z/\y=.int i/\z.length<=sizeLine/\atI z.cps.toList i=some c/\Q (.str ⟨#[c]⟩) H
theorem ix_list:IxR X (rIxL X.K):=by
 intro value ad pins s σ H x y v u Q I U S h hs;obtain⟨p,xs,i,z,rfl,rfl,hq,he,q⟩:=h;cases U;obtain⟨t,rfl⟩:=S;obtain⟨aa,r,F,hz⟩:=I.list hq;obtain⟨j,h1,h2,h3,h4,h5⟩:=qv2 he;obtain⟨w,O,Z⟩:=r.get h2;have hl:=r.length;have hn:=Y2;have L:EP X pins σ Q w s:=⟨z,H,I,Z,q⟩;by_cases h0:0<=i
 .have J:i.toNat=j:=by rw[seqIndex_of h0 h5]at h1;exact ax h1
  exact item_listR F.isList h0 ⋯ (by rw[J];simpa using O) L hs
 .have J:(i+(aa.toArray.size:Int)).toNat=j:=by rw[seqIndex_neg ⋯ h4]at h1;rw[aG,<-hl];exact ax h1
  exact subscriptTail_builtinR (x:=w) F.isList.typeIs slot_list_getitem.lookup
   (wpAny_getItem_list_neg (Q:=λr s'=>r=w/\EP X pins σ Q r s') F.isList ⋯ (by rw[aG] <;> lia) ⋯ (by rw[J];simpa using O) ⟨rfl,L⟩) hs
theorem ix_tup:IxR X (rIxT X.K):=by
 intro value ad pins s σ H x y v u Q I L J h hs;obtain⟨p,xs,i,z,rfl,rfl,S,Z,q⟩:=h;cases L;obtain⟨t,rfl⟩:=J;obtain⟨ai,r,F,hz⟩:=I.tuple S;obtain⟨j,h1,h2,h3,h4,h5⟩:=qv2 Z;obtain⟨w,ew,O⟩:=r.get h2;have U:=r.length;have hn:=Y2;have aa:EP X pins σ Q w s:=⟨z,H,I,O,q⟩;exact subscriptTail_builtinR (x:=w) F.typeIs slot_tuple_getitem.lookup
  (getItem_tuple (j:=j) (Q:=λr s'=>r=w/\EP X pins σ Q r s') F ⋯ ⋯ (by rw[aG,<-U];exact h1) (by simpa using ew) ⟨rfl,aa⟩) hs
theorem qk0:IxR X rIxS:=by
 intro value aa pins s σ H x y v u Q I J F h hs;obtain⟨z,i,c,rfl,rfl,hz,O,q⟩:=h;obtain⟨t,rfl⟩:=J;obtain⟨t',rfl⟩:=F;obtain⟨j,h1,h2,h3,U,S⟩:=qv2 O;have L:z.cps.toList.length=z.length:=by simp[Str.length]
 rw[L]at h1 U S;have hn:=Y2;exact tail_any (eJ s z t) slot_str_getitem.lookup (getItem_str (c:=c) (by
  have e1:decide (i < -(2 ^ 63:Int))=false:=aN ⋯
  have Z:decide (i>=2 ^ 63)=false:=aN ⋯
  rw[e1,Z,Bool.or_false]) (by rw[h1];simpa using h2) ⟨.str ⟨#[c]⟩,H,I.tok _,⟨_,rfl⟩,q⟩) hs
def rIx (K:Aa):R2:=λx y H Q=>rIxL K x y H Q\/rIxT K x y H Q\/rIxS x y H Q
theorem v5:IxR X (rIx X.K):=ix_list.or (ix_tup.or qk0)
theorem qu1 (its:List Ag)(n j:Nat)(u:Ag):Obj.mapSeq (·.setIfInBounds j u) { cls:=.type "list",data:=.seq its.toArray n }={ cls:=.type "list",data:=.seq (its.set j u).toArray n }:=by simp[Obj.mapSeq]
theorem Inv.lst {pins:List (Aj×Obj)}{σ:St}{H:Hp}{s:Ab}{p:Aj}{xs:List V}(I:Inv X pins σ H s)(h:H p=some (.lst xs)) :
  ∃(its:List Ag) (n:Nat),Vals xs its/\s.heap.get? p=some { cls:=.type "list",data:=.seq its.toArray n }/\xs.length<=sizeLine:=by
 obtain⟨z,its,n,r,e⟩:=I.hok p _ h;exact⟨its,n,r,e,z⟩
theorem Inv.lstUpd {pins:List (Aj×Obj)}{σ:St}{H:Hp}{s:Ab}{p:Aj}{xs ys:List V}{its its':List Ag}{n n':Nat}{f:Obj->Obj}(I:Inv X pins σ H s)(h:H p=some (.lst xs))
  (ho:s.heap.get? p=some { cls:=.type "list",data:=.seq its.toArray n }) (hf:f { cls:=.type "list",data:=.seq its.toArray n }={ cls:=.type "list",data:=.seq its'.toArray n' }) (r:Vals ys its') (hz:ys.length<=sizeLine) (t:Nat) :
  Inv X pins σ (upd H p (.lst ys)) { s with heap:=s.heap.update p f,toks:=t }:=by
 have e:(s.heap.update p f).get? p=some { cls:=.type "list",data:=.seq its'.toArray n' }:=by rw[dL f ho (by rw[hf] <;> rfl),hf]
 refine I.write (x:=p) (e:=p) (by rw[h];trivial) (.inl rfl) (λb u F q=>(cK _ _ (bE F)).trans q) ⟨_,e⟩ ?_;exact⟨hz,its',n',r,e⟩
def rSetL:V->V->V->Hp->(Hp->Prop)->Prop:=λo i v H Q=>∃p xs k j,o=.ref p/\i=.int k/\H p=some (.lst xs)/\ixN xs.length k=some j/\Q (upd H p (.lst (xs.set j v)))
theorem qk9:PSet X rSetL:=by
 intro pins s σ H o i v ov iv u Q I ro ri rv h;obtain⟨p,xs,k,j,rfl,rfl,S,hj,q⟩:=h;cases ro;obtain⟨t,rfl⟩:=ri;obtain⟨O,n,r,F,hz⟩:=I.lst S;obtain⟨h1,h2,Z,U⟩:=qvj hj;have J:=r.length;have hn:=Y2;have I':Inv X pins σ (upd H p (.lst (xs.set j v))) { s with heap:=s.heap.update p (Obj.mapSeq (·.setIfInBounds j u)) } :=
  I.lstUpd S F (qu1 O n j u) (r.set rv j) (by rw[fI];exact hz) s.toks
 by_cases h0:0<=k
 .have L:k.toNat=j:=by rw[seqIndex_of h0 U]at h1;exact ax h1
  exact W.ki_setAt F h0 ⋯ (by rw[aG,<-J];exact U) (by rw[L];exact⟨_,I',q⟩)
 .have L:(k+(O.toArray.size:Int)).toNat=j:=by rw[seqIndex_neg ⋯ Z]at h1;rw[aG,<-J];exact ax h1
  exact W.ki_setBack F ⋯ (by rw[aG,<-J];exact Z) ⋯ (by rw[L];exact⟨_,I',q⟩)
theorem qkm (lo hi:Option Int)(n:Nat):(sliceBounds lo hi none n).1=((HT.sIx n 0 lo:Nat):Int)/\(sliceBounds lo hi none n).2.1=((HT.sIx n n hi:Nat):Int)/\(sliceBounds lo hi none n).2.2=1:=by
 refine⟨?_,?_,rfl⟩
 .cases lo with
  |none=>simp[sliceBounds,HT.sIx]
  |some i =>
   simp only[sliceBounds,HT.sIx,Option.getD_none,show(1:Int)>0 by decide,if_true];by_cases h:i<0
   .simp only[h,if_true] <;> lia
   .simp only[h,fS] <;> lia
 .cases hi with
  |none=>simp[sliceBounds,HT.sIx]
  |some i =>
   simp only[sliceBounds,HT.sIx,Option.getD_none,show(1:Int)>0 by decide,if_true];by_cases h:i<0
   .simp only[h,if_true] <;> lia
   .simp only[h,fS] <;> lia
theorem qxb (its:List Ag)(lo hi:Option Int):slicePick its.toArray lo hi none=((its.drop (HT.sIx its.length 0 lo)).take (HT.sIx its.length its.length hi-HT.sIx its.length 0 lo)).toArray:=by obtain⟨h1,h2,F⟩:=qkm lo hi its.toArray.size;unfold slicePick;rw[h1,h2,F];simp only[sliceRange_one,pick_run,aG] <;> rfl
def rSlL (K:Aa):V->Option Int->Option Int->Hp->VK->Prop:=λx lo hi H Q=>∃a xs,x=.ref a/\SqL K H a xs/\∀p,H p=none->Q (.ref p) (upd H p (.lst (cutV xs lo hi)))
theorem qvf:SlR X (rSlL X.K):=by intro pins s σ H x v vl vu lo hi sl Q I J hs O L h;obtain⟨a,xs,rfl,U,q⟩:=h;cases J;obtain⟨aa,r,F,S⟩:=I.list U;have Z:=r.length;refine⟨"list",_,slot_list_getitem.lookup,F.isList.typeIs,?_⟩;refine wpAny_getItem_list_slice F.isList hs O L .none (by simp) ?_ (by rw[aG] <;> lia);rw[qxb,<-Z];refine⟨.ref s.heap.objs.size,_,I.laid (t':=s.toks) (o:=.lst (cutV xs lo hi)) (λb ob q=>af _ q) (ah _) ?_,rfl,q _ (I.hok.fresh (ah _))⟩;exact⟨aX (qjc xs lo hi) S,_,0,(r.drop (HT.sIx xs.length 0 lo)).take (HT.sIx xs.length xs.length hi-HT.sIx xs.length 0 lo),az _ rfl⟩
theorem xk:jw X (.builtin "len") (λxs H Q=>∃p ys,xs=[.ref p]/\(SqL X.K H p ys\/SqT X.K H p ys)/\Q (.int ys.length) H):=by
 intro pins s σ H xs us Q I r h;obtain⟨p,ys,rfl,F,q⟩:=h;obtain⟨u,rfl,S⟩:=yt r;cases S;have hn:=Y2;rcases F with F|F
 .obtain⟨U,J,L,Z⟩:=I.list F;have O:=J.length;exact Calls.call_len_list L.isList (by simp only[aG] <;> lia) ⟨.int ys.length,H,I.tok _,⟨s.toks+1,by rw[aG,O]⟩,q⟩
 .obtain⟨U,J,L,Z⟩:=I.tuple F;have O:=J.length;exact len_tuple L (by simp only[aG] <;> lia) ⟨.int ys.length,H,I.tok _,⟨s.toks+1,by rw[aG,O]⟩,q⟩
theorem x6:jw X (.builtin "len") (λxs H Q=>∃z,xs=[.str z]/\z.length<=sizeLine/\Q (.int z.length) H):=by intro pins s σ H xs F Q I r h;obtain⟨z,rfl,J,q⟩:=h;obtain⟨u,rfl,t,rfl⟩:=yt r;have L:=Y2;exact len_str ⋯ ⟨.int z.length,H,I.tok _,⟨_,rfl⟩,q⟩
theorem u9:jw X (.type "list") (λxs H Q=>∃p ys,xs=[.ref p]/\(SqL X.K H p ys\/SqT X.K H p ys)/\∀l,H l=none->Q (.ref l) (upd H l (.lst ys))):=by
 intro pins s σ H xs us Q I r h;obtain⟨p,ys,rfl,U,q⟩:=h;obtain⟨u,rfl,rx⟩:=yt r;cases rx;have aa:∀(F:List Ag),Vals ys F->ys.length<=sizeLine->∀(h':Heap) (L:Nat),(∀b o',s.heap.get? b=some o'->h'.get? b=some o') ->
   h'.get? s.heap.objs.size=some { cls:=.type "list",dict:=none,data:=.seq F.toArray L,slots:=#[] }->EP X pins σ Q (.ref s.heap.objs.size) { s with heap:=h' }:=λF J S h' L O e =>
  ⟨.ref s.heap.objs.size,_,I.laid (t':=s.toks) O (ah _) (show ObjOk X.prog X.w _ h' _ (.lst ys) from ⟨S,F,L,J,e⟩),rfl,q _ (I.hok.fresh (ah _))⟩
 rcases U with U|U
 .obtain⟨F,J,Z,S⟩:=I.list U;have ad:=J.length;obtain⟨o,ho,hc,n,hd⟩:=Z.isList;exact call_list_seq p (.inl rfl) ho hc hd (λh' L O e=>aa F J S h' L O e) (by simp only[aG] <;> lia)
 .obtain⟨F,J,Z,S⟩:=I.tuple U;have ad:=J.length;obtain⟨o,ho,hc,n,hd⟩:=Z;exact call_list_seq p (.inr rfl) ho hc hd (λh' L O e=>aa F J S h' L O e) (by simp only[aG] <;> lia)
def tyV (K:Aa)(T:String)(x:V)(H:Hp):Prop:=match x with
 |.str _=>T = "str"
 |.int _=>T = "int"
 |.ref p=>(T = "list" /\ ∃xs,SqL K H p xs)\/(T = "tuple" /\ ∃o,K.lookup p=some o/\o.cls=.type "tuple" /\ o.dict=none) \/
   (T = "dict" /\ ((∃kvs,H p=some (.dK kvs))\/∃kvs,H p=some (.dT kvs)))\/(T = "set" /\ ∃S n,H p=some (.set S n))
 |_=>False
theorem tyV_is {pins:List (Aj×Obj)}{σ:St}{H:Hp}{s:Ab}{T:String}{x:V}{v:Ag}(I:Inv X pins σ H s)(r:RelV x v)(ty:tyV X.K T x H) :
  s.TypeIs v T/\∀a,v=.ref a->∃ob,s.heap.get? a=some ob/\ob.dict=none:=by
 cases x with
 |str z =>
  obtain⟨t,rfl⟩:=r;cases(show T = "str" from ty);exact⟨eJ s z t,λ_ e=>nomatch e⟩
 |int i =>
  obtain⟨t,rfl⟩:=r;cases(show T = "int" from ty);exact⟨typeIs_int s i t,λ_ e=>nomatch e⟩
 |ref p =>
  cases r;rcases ty with⟨rfl,xs,U⟩|⟨rfl,o,F,Z,J⟩|⟨rfl,F⟩|⟨rfl,S,n,F⟩
  .obtain⟨aa,_,O,_⟩:=I.list U;refine⟨O.isList.typeIs,λa e=>?_⟩;cases e;obtain⟨o,n,e,c,J,_⟩:=O;exact⟨o,e,J⟩
  .refine⟨⟨o,I.kIn p o F,Z⟩,λa e=>?_⟩;cases e;exact⟨o,I.kIn _ o F,J⟩
  .have z:∃o,s.heap.get? p=some o/\o.ExactDict:=by
    rcases F with⟨kvs,F⟩|⟨kvs,F⟩
    .obtain⟨_,_,_,_,o,_,_,e,ex,_⟩:=I.hok p _ F;exact⟨o,e,ex⟩
    .obtain⟨_,_,_,_,o,_,_,e,ex,_⟩:=I.hok p _ F;exact⟨o,e,ex⟩
   obtain⟨o,e,ex⟩:=z;refine⟨⟨o,e,ex.1⟩,λa L=>?_⟩;cases L;exact⟨o,e,ex.2.1⟩
  .obtain⟨o,_,_,_,e,ex,_⟩:=I.hok p _ F;refine⟨⟨o,e,ex.1⟩,λa L=>?_⟩;cases L;exact⟨o,e,ex.2.1⟩
 |_=>exact False.elim ty
def tBM (K:Aa)(T:String)(r:V->List V->Hp->VK->Prop)(to:TE)(t:TA):TE:=λσ H Q=>to σ H λx H1=>tyV K T x H1/\t σ H1 λxs H2=>r x xs H2 Q
variable {o e:Expr}{es:List Expr}{to:TE}{t:TA}{name:Str}{apos cpos:Pos}{T id:String}{r:V->List V->Hp->VK->Prop}
theorem kh (pa:PlainAttrs T)(slot:Slot T name id)(hty:typeOf (.builtin id)=pure (.type "method_descriptor"))(hm:MtR X id r)(ho:PE X o to)(ha:PA X (e::es) t)
  (hbase:autoParam (attributeBase o name X.env (eval o X.env)=eval o X.env) aU4._auto_1)
  (hfew:autoParam (((backTo cpos (starEach (e::es) X.env)).all (λx=>!x.1)&&(backToKw cpos (keywordEach [] X.env)).all (λx=>x.1.isSome)
   && decide ((e::es).length+([]:List Keyword).length+(if([]:List Keyword).isEmpty then 0 else 1)<30))=true) aU4._auto_1)
  (hline:autoParam ((apos.endLine==cpos.line)=true) aU4._auto_1) (hs:autoParam (starEach (e::es) X.env=(false,eval e X.env)::starEach es X.env) aU4._auto_1) (hplain:autoParam ((backTo cpos (starEach es X.env)).any (·.1)=false) aU4._auto_1) :
  PE X (.Call (.Attribute o name apos) (e::es) [] cpos) (tBM X.K T r to t):=by
 intro pins s σ H Q I h;refine wpAny_Call_method_late hbase hfew hline rfl (thn (ho pins s σ H _ I h) λv s1 ⟨x,H1,I1,r1,ty,q1⟩=>?_);obtain⟨h1,h2⟩:=tyV_is I1 r1 ty;refine⟨T,id,pa,slot,hty,h1,h2,?_⟩;have F:=ha cpos pins s1 σ H1 _ I1 q1;rw[hs]at F ⊢;refine dD (by show(false||(backTo cpos (starEach es X.env)).any (·.1))=false;rw[hplain] <;> rfl) (cZ ?_);exact thn F λus s2 ⟨vs,H2,I2,r2,q2⟩=>hm pins s2 σ H2 x vs v us Q I2 r1 r2 q2
end
def MtM (X:Cx)(id:String)(r:V->List V->Hp->VK->Prop):Prop :=
 ∀(pins:List (Aj×Obj)) (s:Ab) (σ:St) (H:Hp) (x:V) (xs:List V) (v:Ag) (us:List Ag) (Q:VK),Inv X pins σ H s->RelV x v->Vals xs us->r x xs H Q ->
  wpAny (model X.prog X.w) X.A (call (.builtin id) (v::us)) (EP X pins σ Q) X.xe s
theorem Vals.one:∀ {x:V} {us:List Ag},Vals [x] us->∃u,us=[u]/\RelV x u
 |_,_,.cons r .nil=>⟨_,rfl,r⟩
theorem Vals.two:∀ {x y:V} {us:List Ag},Vals [x,y] us->∃u v,us=[u,v]/\RelV x u/\RelV y v
 |_,_,_,.cons r (.cons q .nil)=>⟨_,_,rfl,r,q⟩
theorem Vals.eraseIdx:∀ {xs:List V} {us:List Ag} (i:Nat),Vals xs us->Vals (xs.eraseIdx i) (us.eraseIdx i)
 |_,_,_,.nil=>.nil
 |_,_,0,.cons _ t=>t
 |_,_,i+1,.cons r t=>.cons r (Vals.eraseIdx i t)
theorem qzu {α:Type}:∀(l:List α) (i:Nat),(l.eraseIdx i).length<=l.length
 |[],_=>ah _
 |_::_,0=>Nat.le_succ _
 |_::r,i+1=>Nat.succ_le_succ (qzu r i)
section
variable {X:Cx}{pins:List (Aj×Obj)}{σ:St}{H:Hp}{s:Ab}{l b:Aj}{xs ys zs:List V}
theorem Inv.lset {its its':List Ag}{n:Nat}{f:Array Ag->Array Ag}{t':Nat}(I:Inv X pins σ H s)(hH:H l=some (.lst xs))
  (e:s.heap.get? l=some { cls:=.type "list",data:=.seq its.toArray n }) (hf:f its.toArray=its'.toArray) (hv:Vals ys its') (hz:ys.length<=sizeLine) :
  Inv X pins σ (upd H l (.lst ys)) { s with heap:=s.heap.update l (Obj.mapSeq f),toks:=t' }:=by
 have q:=PySem.IsL.update e f;rw[hf]at q;refine I.write (x:=l) (e:=l) (by rw[hH];exact trivial) (.inl rfl) (λL u J F=>(cK s.heap (Obj.mapSeq f) (bE J)).trans F) ⟨_,q⟩ ?_;exact⟨hz,its',_,hv,q⟩
theorem Inv.lnew {its:List Ag}{t':Nat}(I:Inv X pins σ H s)(hv:Vals ys its)(hz:ys.length<=sizeLine) :
  Inv X pins σ (upd H s.heap.objs.size (.lst ys)) { s with heap:=s.heap.push { cls:=.type "list",data:=.seq its.toArray },toks:=t' } :=
 I.laid (λ_ _ q=>af _ q) (ah _) ⟨hz,its,0,hv,az _ rfl⟩
theorem Inv.fresh (I:Inv X pins σ H s):H s.heap.objs.size=none:=I.hok.fresh (ah _)
theorem Inv.lstM (I:Inv X pins σ H s)(hH:H l=some (.lst xs)):xs.length<=sizeLine/\∃(its:List Ag) (n:Nat),Vals xs its/\xs.length=its.length/\s.heap.get? l=some { cls:=.type "list",data:=.seq its.toArray n }:=by obtain⟨z,its,n,r,e⟩:=I.hok l _ hH;exact⟨z,its,n,r,r.length,e⟩
end
section
variable {X:Cx}
def wyw:V->List V->Hp->VK->Prop:=λx vs H Q=>∃l xs y,x=.ref l/\vs=[y]/\H l=some (.lst xs)/\xs.length<sizeLine/\Q .non (upd H l (.lst (xs++[y])))
theorem jy:MtM X "list.append" wyw:=by intro pins s σ H x Z v us Q I O S h;obtain⟨l,xs,y,rfl,rfl,L,hz,q⟩:=h;cases O;obtain⟨u,rfl,U⟩:=S.one;obtain⟨z,J,n,r,hl,e⟩:=I.lstM L;refine eK F.slot_list_append ⟨_,e,rfl⟩ F.entry_list_append (F.args_list_append_2 _ _) (PySem.list_append l J.toArray n u (by rw[aG];lia)) ⟨e,?_⟩;refine⟨.non,_,I.lset (its':=J++[u]) L e (by simp) (r.append (.cons U .nil)) ?_,rfl,q⟩;rw[ay,List.length_singleton];lia
def rPopAt:V->List V->Hp->VK->Prop:=λx vs H Q=>∃l xs i k y,x=.ref l/\vs=[.int i]/\H l=some (.lst xs)/\-(2 ^ 63)<=i/\i<2 ^ 63/\seqIndex? i xs.length=some k/\xs[k]?=some y/\Q y (upd H l (.lst (xs.eraseIdx k)))
theorem wk3:MtM X "list.pop" rPopAt:=by
 intro pins s σ H x vs v us Q I O U h;obtain⟨l,xs,i,k,y,rfl,rfl,L,h1,h2,hk,hy,q⟩:=h;cases O;obtain⟨u,rfl,Z⟩:=U.one;obtain⟨t,rfl⟩:=Z;obtain⟨z,J,n,r,hl,e⟩:=I.lstM L;obtain⟨w,hw,S⟩:=r.get hy;refine eK F.slot_list_pop ⟨_,e,rfl⟩ F.entry_list_pop (F.args_list_pop_2 _ _)
  (MeetsSeq.list_pop_at l J.toArray n i t k w (fitsIndex_both h1 h2) (by rw[aG,<-hl];exact hk) (by rw[<-cR];exact hw) (by rw[aG];lia)) ⟨e,?_⟩
 refine⟨y,_,I.lset (its':=J.eraseIdx k) L e ?_ (r.eraseIdx k) ?_,S,q⟩
 .show J.toArray.eraseIdxIfInBounds k=(J.eraseIdx k).toArray;rw[List.eraseIdxIfInBounds_toArray]
 .have:=qzu xs k;lia
def rCat:R2:=λx y H Q=>∃l b xs zs,x=.ref l/\y=.ref b/\H l=some (.lst xs)/\H b=some (.lst zs)/\xs.length+zs.length<=sizeLine/\∀p,H p=none->Q (.ref p) (upd H p (.lst (xs++zs)))
theorem Qz:OpR X (binaryOp .Add) rCat:=by
 intro pins s σ H x y v u Q I O L h;obtain⟨l,b,xs,zs,rfl,rfl,U,Z,hz,q⟩:=h;cases O;cases L;obtain⟨z,J,n,r,hl,e⟩:=I.lstM U;obtain⟨z2,F,n2,S,aa,e2⟩:=I.lstM Z;refine PySem.P.add_list e e2 ?_ (by rw[aG,aG];lia);have ea:J.toArray++F.toArray=(J++F).toArray:=by simp
 rw[ea];exact⟨.ref _,_,I.lnew (t':=s.toks) (r.append S) (by rw[ay];lia),rfl,q _ I.fresh⟩
end
section
variable {prog:Ac}{w:Ah}{A:Ae}{E:Ag->Ab->Prop}{s:Ab}
end
section
variable {X:Cx}
end
end L2
namespace Att
open PySem PySem.W PySem.Calls PyProof.Rows
theorem J9 {P:Params}{h:Heap}:∀(ns:List Int) (vs:List Ag),WellAll P h vs (ns.map WData.int)->IntsAre vs ns:=by
 intro ns
 induction ns with
 |nil =>
  intro vs w;rw[cx]at w;cases w;exact .nil
 |cons n ns ih =>
  intro vs w;rw[aV]at w;cases w with
  |cons a b =>
   cases a;exact .cons _ _ (ih _ b)
theorem wwn {l:OpenLaw}{n:Nat}(hn:l.most=some n){P:Params}{h:Heap}{args:List WData}{vals:List Ag}
  (hpre:l.row.toRowW.claim.pre args=true) (hwl:WellAll P h vals args) :
  ∃a vs ns,vals=[Value.ref a]/\args=[WData.list (ns.map WData.int)]/\h.get? a=some { cls:=.type "list",data:=.seq vs.toArray }/\IntsAre vs ns/\ns.length<=n:=by
 have O:WShape.hasAll [] args [.list .int]=true:=(pre_splitW hpre).1;have J:l.pre.holds [] { args:=args }=true:=(pre_splitW hpre).2;obtain⟨d,r,rfl,h1,h2⟩:=hasAllW_cons O;obtain rfl:=hasAllW_nil h2;obtain⟨xs,rfl,U⟩:=hasW_list h1;obtain⟨ns,rfl⟩:=items_int U;have S:ns.length<=n:=by
  unfold OpenLaw.pre at J;have I:(WTm.not (.lt (.lit (.int (n:Int))) (.len (.arg 0)))).holds [] { args:=[.list (ns.map .int)] }=true:=by have I:=(holds_andW J).1;rw[hn]at I;exact I
  have F:=condW_of I (w_not (w_lt w_lit (w_len_list (w_arg rfl))));rw[ac]at F;refine Nat.le_of_not_lt λq=>?_;have L:(n:Int)<((ns.length:Nat):Int):=by lia
  first
   |(rw[aM L]at F;exact absurd F ⋯)
   |(simp at F;lia)
 cases hwl with
 |cons w1 w2 =>
  cases w2;cases w1 with
  |list ho hall=>exact⟨_,_,ns,rfl,rfl,ho,J9 ns _ hall,S⟩
theorem ww1 (l:OpenLaw)(args:List WData):l.row.toRowW.claim.post args (.bool true) args=true :=
 postW_of (r:=l.row.toRowW) (X:=(true==true))
  (show WShape.has [] (.bool true) .bool=true by first | rfl | decide | simp[WShape.has,WShape.arms,WShape.armsAll])
  (show(WTm.eq .res (.lit (.bool true))).value [] { args:=args,res:=some (.bool true),after:=args }=some (.bool (true==true)) from w_eq_bool (w_res rfl) w_lit) rfl
theorem attach_call {l:OpenLaw}{n:Nat}{q:Ac}{loose:List Str}{XP:(Str->Option Ag)->Heap->Prop}{YP:Ah->Heap->Prop}{d:DefRec}
  (hn:l.most=some n) (hdf:d.params.defaults=[])
  (call:∀(w:Ah) (s₀ s₁:Ab) (mg mb:Str->Option Ag) (fa:Aj) (o:Obj) (pm cd doc:Ag) (a:Aj) (vs:List Ag) (ns:List Int),
   Ground q loose [] XP w s₀ mg mb s₁.heap->YP w s₁.heap ->
   s₁.heap.get? fa=some o->o.data=.func (docDef d.name d.params d.body d.scope pm cd doc)->s₁.heap.CodeRec cd d.name->mg d.name=some (.ref fa) ->
   s₁.heap.get? a=some { cls:=.type "list",data:=.seq vs.toArray }->IntsAre vs ns->ns.length<=n->s₁.gens=#[] ->
   codeAny (model l.prog w) callerA (.call (.ref fa) ⟨[.ref a],[]⟩) (λr s'=>r=.ok (.ret (.bool true))/\OldK s₁.heap s'.heap/\s'.os=s₁.os/\AllBare s'.gens) s₁) :
  WalkO q loose XP YP l.row.toRowW d [] (λf vs=>PySem.call f vs):=by
 intro w s₀ s₁ mg mb G Y fa o pm cd doc dV kV S hd ai F U hg a1 aj as L a0 ak I an;obtain rfl:dV=.none:=Dflts.none F hdf;obtain rfl:kV=.none:=Dflts.noKw F;obtain⟨a,vs,ns,rfl,rfl,O,ad,aa⟩:=wwn hn L I;refine enter_call (eo (call w s₀ s₁ mg mb fa o pm cd doc a vs ns G Y S (fd_plain hd) ai U O ad aa hg) λr s' J=>?_);obtain⟨rfl,h2,h3,h4⟩:=J;exact⟨.inl ⟨.bool true,.bool true,[],rfl,λ_=>rfl,.bool true,ww1 l _,λ_=>⟨List.Pairwise.nil,λ_ Z=>(nomatch Z)⟩⟩,h2,h3,h4⟩
section
variable {prog:Ac}{w:Ah}{A:Ae}{E:Ag->Ab->Prop}{s:Ab}{K:Frag}
end
end Att
namespace L2
open PySem PySem.Spec PyProof.Rows
theorem qzw:∀ {vs:List Ag} {ns:List Int},IntsAre vs ns->Vals (ns.map V.int) vs
 |_,_,.nil=>.nil
 |_,_,.cons n t h=>.cons ⟨t,rfl⟩ (qzw h)
def Only (H:Hp):Prop:=∀b,H b=none\/∃o xs,H b=some (.frz o (.lst xs))
theorem wvw {P:Ac}{w:Ah}{K:Aa}{mg mb:Str->Option Ag}{CX:CXT}{k:Nat}{fa a:Aj}{fd:Ad}{x:Str}{sp:Sp}{s₁:Ab}{vs:List Ag}{ns:List Int}
  (KX:K.In s₁.heap) (hns:s₁.heap.Ns mainGlobals mg) (hb:s₁.heap.Ns builtinsNs mb) (hbb:∀x:Str,x ≠ "__name__" -> mb x=bootBuiltins x) (hlim:s₁.heap.NoLimit) (hg:s₁.gens=#[])
  (ha:s₁.heap.get? a=some { cls:=.type "list",data:=.seq vs.toArray }) (hi:IntsAre vs ns) (hl:ns.length<=sizeLine) (hr:Room k callerA)
  (F:∀base:Heap,K.In base->base.Ns mainGlobals mg->FnOk P w K mg base CX k fa fd [x] sp) (hbind:∀(s:Ab) (u:Ag),BindsTo s fd ⟨[u],[]⟩ [(x,u)])
  (hsp:∀H:Hp,Only H->SqL K H a (ns.map V.int)->sp [.ref a] H (λv _=>v=.bl true) λ_ _ _=>False)
  (hCX:∀H e s',CX [] H s₁ (λ_ _ _=>False) e s'->False) :
  codeAny (model P w) callerA (.call (.ref fa) ⟨[.ref a],[]⟩) (λr s'=>r=.ok (.ret (.bool true))/\OldK s₁.heap s'.heap/\s'.os=s₁.os/\AllBare s'.gens) s₁:=by
 have S:=qzw hi;have ak:=hi.length;have ad:∀H:Hp,Only H->SqL K H a (ns.map V.int)->HOk P w H s₁.heap->(∀b,H b≠none->b=a)->(H a≠none->K.lookup a=none) ->
   codeAny (model P w) callerA (.call (.ref fa) ⟨[.ref a],[]⟩) (λr s'=>r=.ok (.ret (.bool true))/\OldK s₁.heap s'.heap/\s'.os=s₁.os/\AllBare s'.gens) s₁:=by
  intro H Z hS U hA hK;have ai:∀ {b:Aj} {o:Obj},s₁.heap.get? b=some o->H b=none->(qkj s₁.heap H).get? b=some o:=λe n=>wzs e n;have aj:∀ {b:Aj} {o:Obj} {es:Array DictEntry} {ep:Nat},s₁.heap.get? b=some o->o.data=.dict es ep->H b=none:=λ{b o es ep} e d=>by
   cases q:H b with
   |none=>rfl
   |some u =>
    have L:b=a:=hA b (by rw[q];simp);subst L;rw[ha]at e;cases e;have d':Data.seq vs.toArray _=Data.dict es ep:=d;cases d'
  have J:∀ {b:Aj} {m:Str->Option Ag},s₁.heap.Ns b m->(qkj s₁.heap H).Ns b m:=λ{b m} ⟨o,es,ep,e,d,r⟩=>⟨o,es,ep,ai e (aj e d),d,r⟩;have aa:K.In (qkj s₁.heap H):=λb o e=>ai (KX b o e) (by
   cases q:H b with
   |none=>rfl
   |some u =>
    have L:b=a:=hA b (by rw[q];simp)
    subst L
    rw[hK (by rw[q];simp)]at e;cases e)
  have hM:Mod K mg (qkj s₁.heap H):=⟨aa,J hns,⟨mb,J hb,hbb⟩,let ⟨mc,h1,h2⟩:=hlim;⟨mc,J h1,h2⟩⟩;have e0:Env0 P w K mg (qkj s₁.heap H) callerA [] s₁ H:=⟨rfl,hM,λb o e=>wjy e,Nat.le_of_eq (wx9 _ _),trivial,λb hb=>absurd (show b∈([]:List Aj) from hb) (by simp),U,.of_eq hg⟩;refine eo ((F _ aa (J hns)).run callerA [] s₁ H ⟨[.ref a],[]⟩ [.ref a] [.ref a] _ _ hr e0 (hbind s₁ (.ref a)) (.cons rfl .nil) (hsp H Z hS)) λr s' h=>?_;cases r with
  |error e=>exact(hCX H e s' h).elim
  |ok fl =>
   cases fl with
   |next=>exact False.elim h
   |brk=>exact False.elim h
   |cont=>exact False.elim h
   |ret u =>
    obtain⟨v,H',os,a0,O,an,r',q⟩:=h;have q':v=.bl true:=q;subst q';obtain rfl:u=Value.bool true:=r';refine⟨rfl,OldK.of_keep λb o e=>?_,os,a0⟩;cases q:H b with
    |none=>exact O.keep b o e q (by intro z;exact absurd (show b∈([]:List Aj) from z) (by simp)) (by simp)
    |some u =>
     rcases Z b with z|⟨ob,xs,z⟩
     .rw[q]at z;cases z
     .have z2:=O.frzs b ob _ z;obtain⟨e1,_⟩:=U b _ z;obtain⟨e2,_⟩:=an b _ z2;rw[e]at e1;cases e1;exact e2
 cases hk:K.lookup a with
 |some o =>
  have e:=KX a o hk;rw[ha]at e;cases e;refine ad (λ_=>none) (λ_=>.inl rfl) (.inr ⟨_,vs.toArray,_,hk,rfl,rfl,rfl,by rw[aG,ak];exact hl,by simpa using S⟩) (λb u z=>by have I:(none:Option HO)=some u:=z;cases I) (λb z=>absurd rfl z) λz=>absurd rfl z
 |none =>
  refine ad (λb=>if b=a then some (.frz { cls:=.type "list",data:=.seq vs.toArray } (.lst (ns.map V.int))) else none) (λb=>?_) (.inl (.inr ⟨{ cls:=.type "list",data:=.seq vs.toArray },am rfl⟩)) (λb u z=>?_) (λb z=>?_) λ_=>hk
  .by_cases hb:b=a
   .exact .inr ⟨_,_,am hb⟩
   .exact .inl (al hb)
  .by_cases hb:b=a
   .have I:=(am hb).symm.trans z;cases I;subst hb;exact⟨ha,by rw[ac];exact hl,vs,_,S,ha⟩
   .have I:=(al hb).symm.trans z;cases I
  .by_cases hb:b=a
   .exact hb
   .exact absurd (al hb) z
theorem wju {l:W.OpenLaw}{n k:Nat}{q:Ac}{loose:List Str}{XP:(Str->Option Ag)->Heap->Prop}{YP:Ah->Heap->Prop}{d:DefRec}{K:Params->Aa}{CX:Ah->CXT}{sp:Ah->Sp}{x:Str}
  (hn:l.most=some n) (hn2:n<=sizeLine) (hdf:d.params.defaults=[]) (hr:Room k callerA)
  (hY:∀(w:Ah) (h:Heap),YP w h->(K w.params).In h)
  (F:∀(w:Ah) (mg:Str->Option Ag) (fa:Aj) (h:Heap),(K w.params).In h->h.Ns mainGlobals mg->mg d.name=some (.ref fa) ->
   ∃fd:Ad,(∀(s:Ab) (u:Ag),BindsTo s fd ⟨[u],[]⟩ [(x,u)]) /\
    ∀base:Heap,(K w.params).In base->base.Ns mainGlobals mg->FnOk l.prog w (K w.params) mg base (CX w) k fa fd [x] (sp w))
  (hsp:∀(w:Ah) (H:Hp) (a:Aj) (ns:List Int),ns.length<=n->Only H->SqL (K w.params) H a (ns.map V.int)->sp w [.ref a] H (λv _=>v=.bl true) λ_ _ _=>False)
  (hCX:∀(w:Ah) (H:Hp) (s:Ab) (e:Ag) (s':Ab),CX w [] H s (λ_ _ _=>False) e s'->False) :
  W.WalkO q loose XP YP l.row.toRowW d [] (λf vs=>PySem.call f vs):=by
 refine Att.attach_call hn hdf λw s₀ L mg mb fa o pm cd ad a vs ns G Y ho hd aa S O U I Z=>?_;have J:=hY w _ Y;obtain⟨fd,hb,hF⟩:=F w mg fa _ J G.T.g S;exact wvw J G.T.g G.T.b G.T.builtins G.T.nolimit Z O U (aX I hn2) hr hF hb (λH hO hS=>hsp w H a ns I hO hS) λH e s'=>hCX w H L e s'
def vq (s:Stmt)(j:Nat):Stmt:=match s with
 |.ClassDef _ _ _ body _ _ _ _ _ _ _=>body.getD j (.Pass ⟨0,0,0,0⟩)
 |_=>.Pass ⟨0,0,0,0⟩
def y0 (s:Stmt):Arguments:=match s with
 |.FunctionDef _ a _ _ _ _ _ _ _ _=>a
 |_=>{ posonlyargs:=[],args:=[],vararg:=none,kwonlyargs:=[],kw_defaults:=[],kwarg:=none,defaults:=[] }
def j8 (s:Stmt):List Stmt:=match s with
 |.FunctionDef _ _ b _ _ _ _ _ _ _=>b
 |_=>[]
def wf (s:Stmt):Scope:=match s with
 |.FunctionDef _ _ _ _ _ _ sc _ _ _=>sc
 |_=>{ kind:=.function,names:=[],isGenerator:=false,isCoroutine:=false }
abbrev E0:XK:=λ_ _ _=>False
structure Fun (K:Aa)(x qual:Str)(st:Stmt)(f:Aj)(fd:Ad):Prop where
 ex:∃(oc:Ag) (od:Option Aj) (kV doc pm:Ag) (an:Option Aj) (cdv ct:Ag) (osl:Array (Option Ag)),
  fd=W.fnOf x qual (y0 st) (j8 st) (wf st) .none kV doc pm an cdv ct/\K.lookup f=some ⟨oc,od,.func fd,osl⟩/\W.codeIn K cdv qual=true
 kp:W.keepIn K (.ref f)=true
section
variable {P:Ac}{w:Ah}{K:Aa}{mg:Str->Option Ag}{base:Heap}
theorem Fun.binds {x qual:Str}{st:Stmt}{f:Aj}{fd:Ad}{ps:List Str}(F:Fun K x qual st f fd)
  (h:∀(kV doc pm:Ag) (an:Option Aj) (cdv ct:Ag) (us:List Ag),us.length=ps.length->bindArgs (W.fnOf x qual (y0 st) (j8 st) (wf st) .none kV doc pm an cdv ct) ⟨us,[]⟩=pure (ps.zip us)):Binds K fd ps []:=by
 obtain⟨L,J,kV,doc,pm,an,cdv,ct,I,rfl,O,S⟩:=F.ex;exact .all (h kV doc pm an cdv ct)
theorem wkf {x qual:Str}{st:Stmt}{f:Aj}{oc:Ag}{od an:Option Aj}{osl:Array (Option Ag)}{kV doc pm cdv ct:Ag}(l:K.lookup f=some ⟨oc,od,.func (W.fnOf x qual (y0 st) (j8 st) (wf st) .none kV doc pm an cdv ct),osl⟩)
  (c:W.codeIn K cdv qual=true) (k:W.keepIn K (.ref f)=true):Fun K x qual st f (W.fnOf x qual (y0 st) (j8 st) (wf st) .none kV doc pm an cdv ct):=⟨⟨oc,od,kV,doc,pm,an,cdv,ct,osl,rfl,l,c⟩,k⟩
end
theorem js {A:Ae}{k:Nat}(hr:Room k A):A.units+1<cLine:=Nat.lt_of_le_of_lt (Nat.add_le_add_left (by decide:1<=64) _) hr.units
section
variable {X:Cx}
theorem pv (i:Nat){x:Str}{pos:Pos}(hN:autoParam (X.N[i]?=some x) aU4._auto_1)(hv:Vis X.env.scope x:=by walk_at "vs")(hd:autoParam ((x==("__debug__" : Str))=false) aU1._auto_1)
  (hcd:autoParam ((x==("__classdict__" : Str))=false) aU1._auto_1):PE X (.Name x pos) (Z6 i):=pe_var hN hv hd hcd
end
theorem jq {A B:Prop}(h:B):if false=true then A else B:=by rw[al aI];exact h
theorem vg {A B:Prop}(h:A):if true=true then A else B:=by rw[am rfl];exact h
theorem wz1 {c A B:Prop}[Decidable c](hc:c)(h:B):if(!decide c)=true then A else B:=by rw[aM hc];exact jq h
def Same (H H':Hp):Prop:=∀b o,H b=some o->H' b=some o
theorem Same.refl (H:Hp):Same H H:=λ_ _ h=>h
theorem Same.trans {H H1 H2:Hp}(a:Same H H1)(b:Same H1 H2):Same H H2:=λc o h=>b c o (a c o h)
theorem Same.free {H H':Hp}(e:Same H H'){l:Aj}(h:H' l=Option.none):H l=Option.none:=by
 cases q:H l with
 |none=>rfl
 |some o =>
  rw[e l o q]at h;cases h
theorem Same.seq {K:Aa}{H H':Hp}{a:Aj}{xs:List V}(e:Same H H')(h:SqL K H a xs):SqL K H' a xs:=by
 rcases h with (h|⟨o,h⟩)|h
 .exact .inl (.inl (e _ _ h))
 .exact .inl (.inr ⟨o,e _ _ h⟩)
 .exact .inr h
section
variable {M:Model}{A:Ae}{E:Ag->Ab->Prop}{s:Ab}
theorem qq2 {a:Aj}{o:Obj}{vs:Array Ag}{i:Nat}{x:Ag}{Q:Unit->Ab->Prop}(he:s.heap.get? a=some o)(hd:o.data=.fields vs)(hi:i<vs.size)
  (h:∀(g:Heap) (o':Obj),g.get? a=some o'->o'.cls=o.cls->o'.data=.fields (vs.setIfInBounds i x)->(∀b,b≠a->g.get? b=s.heap.get? b)->Q () { s with heap:=g }):wpAny M A (setField (.ref a) i x) Q E s :=
 wpAny_setField he hd hi (h _ _ (dL _ he (Obj.isFreed_of_fields (eL hd _))) (Obj.cls_mapFields _ _) (eL hd _) λ_ nb=>cK _ _ (bE nb))
def TrV (h B:Heap)(e:Aj)(cls:Ag)(ws:Array Ag)(fl:Ag):Prop:=∃oe T oT ts,h.get? e=some oe/\oe.cls=cls/\oe.data=.fields (ws.setIfInBounds 1 (.ref T))/\1<ws.size/\B.get? T=none/\T≠e/\h.get? T=some oT/\oT.data=.fields ts/\ts[3]?=some fl
theorem TrV.toW {h B:Heap}{e:Aj}{cls a0 fl:Ag}{ws:Array Ag}(x:TrV h B e cls ws fl)(h0:ws[0]?=some a0):h.TracedAtW B e cls a0 fl:=by obtain⟨I,T,J,F,O,U,S,L,r⟩:=x;exact⟨I,_,T,J,F,O,⟨U,by rw[dJ ⋯];exact h0⟩,S,by simp[L],r⟩
def FlyV (B:Heap)(l:List Env)(e:Aj)(cls:Ag)(ws:Array Ag)(fl:Ag)(h:Heap):Prop:=B.StaysIn h/\B.get? e=none/\h.FunFrames B l/\TrV h B e cls ws fl
theorem FlyV.toW {B h:Heap}{l:List Env}{e:Aj}{cls a0:Ag}{ws:Array Ag}(x:FlyV B l e cls ws .none h)(h0:ws[0]?=some a0):Heap.FlyingW B l e cls a0 h:=⟨x.1,x.2.1,x.2.2.1,x.2.2.2.toW h0⟩
theorem qj9 {B h g:Heap}{l:List Env}{a:Aj}{oa:Obj}{vs:Array Ag}(hB:B.StaysIn h)(hl:h.FunFrames B l)(ha:h.get? a=some oa)(hd:oa.data=.fields vs)(na:B.get? a=none)(hg:∀b,b≠a->g.get? b=h.get? b) :
  B.StaysIn g/\g.FunFrames B l/\∀b o,h.get? b=some o->(∀vs,o.data≠.fields vs)->g.get? b=some o:=by
 have J:∀b o,h.get? b=some o->(∀vs,o.data≠.fields vs)->b≠a:=λb o F I z=>by rw[z,ha]at F;cases F;exact I vs hd
 refine⟨λb o F=>?_,hl.of_keeps λb o F I=>⟨o,(hg b (J b o F I)).trans F,rfl⟩,λb o F I=>(hg b (J b o F I)).trans F⟩;rw[hg b λz=>by rw[z,na]at F;cases F];exact hB b o F
theorem Q8 {B:Heap}{l:List Env}{e:Aj}{cls fl:Ag}{ws:Array Ag}{Q:Unit->Ab->Prop}(x:FlyV B l e cls ws fl s.heap)(v:Option Aj)
  (h:∀g,FlyV B l e cls ws (v.elim Value.none λf=>rawInt f) g->s.heap.UpToSlots g->Q () { s with heap:=g }):wpAny M A (setFlight (.ref e) v) Q E s:=by
 obtain⟨k1,k2,k3,oe,T,oT,ts,L,hc,O,J,I,Te,S,Z,h3⟩:=x;have F:3<ts.size:=(db.mp h3).1;unfold setFlight;refine ae (dz L O (x:=.ref T) (by simp[J]) ?_);rw[am (show(Value.ref T != Value.none)=true from by simp)];refine qq2 S Z F λg o' g1 g2 g3 U=>?_;obtain⟨q1,q2,q3⟩:=qj9 k1 k3 S Z I U;exact h g ⟨q1,k2,q2,oe,T,o',_,(U e (bE Te)).trans L,hc,O,J,I,Te,g1,g3,by simp[F]⟩ λb o hb hn=>⟨o.slots,q3 b o hb hn⟩
theorem TrV.again {h B:Heap}{e:Aj}{cls fl x:Ag}{ws:Array Ag}(t:TrV h B e cls (ws.setIfInBounds 1 x) fl):TrV h B e cls ws fl:=by obtain⟨L,T,O,J,S,U,I,F,r⟩:=t;rw[fi]at F;rw[Array.setIfInBounds_setIfInBounds]at I;exact⟨L,T,O,J,S,U,I,F,r⟩
theorem wqt {B:Heap}{env:Env}{outer:List Env}{L e:Aj}{oe:Obj}{vs:Array Ag}{head:Ag}{hadNext:Bool}{Q:Unit->Ab->Prop}(hfr:A.frames=some (env::outer))(hf:env.frame=some L)(hB:B.StaysIn s.heap)(hen:B.get? e=none)(hl:s.heap.FunFrames B (env::outer))
  (he:s.heap.get? e=some oe) (hd:oe.data=.fields vs) (hz:1<vs.size) (h:∀g,FlyV B (env::outer) e oe.cls vs (rawInt L) g->s.heap.UpToSlots g->Q () { s with heap:=g }) :
  wpAny M A (do let a <-frameOf env;let pl <-entryPlaceOf L hadNext;let b <-EntryCells.newEntry head a .none (rawInt L) .none pl;setField (.ref e) 1 b) Q E s:=by
 refine ae (wpAny_frameOf_fun hfr hl hf λI O=>?_);refine ae (wpAny_entryPlaceOf λpl ip=>?_);unfold EntryCells.newEntry newFields;refine ae (dB ?_ (ip.sizeOk5 _ _ _ _ _));have eF:e∉(env::outer).filterMap (·.frame):=λm=>by obtain⟨_,u,hu,nu⟩:=hl.mem m;rw[he]at hu;cases hu;exact nu vs hd
 have e1:I.get? e=some oe:=(O.2.1 e eF).trans he;have B1:B.StaysIn I:=λb o F=>(O.2.1 b λm=>by rw[(hl.mem m).1]at F;cases F).trans (hB b o F);have nT:B.get? I.objs.size=none:=B1.fresh;have Te:I.objs.size≠e:=ee (aq e1);generalize hts:([head,.ref L,.none,rawInt L,.none]++(if pl.isEmpty then List.replicate 6 Value.none else pl)).toArray=ts;have t3:ts[3]?=some (rawInt L):=by rw[<-hts];simp
 refine qq2 (af _ e1) hd hz λg o' q1 q2 q3 Z=>?_;have hT:=(Z _ Te).trans (az I rfl);have aa:∀b o,I.get? b=some o->b≠e->g.get? b=some o:=λb o F nb=>(Z b nb).trans (af _ F);have ad:∀b o,s.heap.get? b=some o->(∀vs,o.data≠.fields vs)->b≠e:=λb o F J z=>by rw[z,he]at F;cases F;exact J vs hd
 have S:s.heap.UpToSlots g:=λb o F J=>by obtain⟨U,hs⟩:=O.2.2 b o F;exact⟨U,aa b _ hs (ad b o F J)⟩
 have Bg:B.StaysIn g:=λb o F=>aa b o (B1 b o F) λz=>by rw[z,hen]at F;cases F
 refine h g ⟨Bg,hen,hl.of_keeps λb o F J=>?_,⟨o',_,_,ts,q1,q2,q3,hz,nT,Te,hT,rfl,t3⟩⟩ S;obtain⟨U,hs⟩:=S b o F J;exact⟨_,hs,rfl⟩
theorem wx7 {B:Heap}{env:Env}{outer:List Env}{L e:Aj}{oe:Obj}{vs:Array Ag}{Q:Unit->Ab->Prop}(hfr:A.frames=some (env::outer))(hf:env.frame=some L)(hB:B.StaysIn s.heap)(hen:B.get? e=none)(hl:s.heap.FunFrames B (env::outer))
  (he:s.heap.get? e=some oe) (hd:oe.data=.fields vs) (h1:vs[1]?=some .none) (h:∀g,FlyV B (env::outer) e oe.cls vs (rawInt L) g->s.heap.UpToSlots g->Q () { s with heap:=g }):wpAny M A (noteFrame (.ref e) env) Q E s:=by
 unfold noteFrame;simp only[hf];refine ae (dz he hd h1 ?_);rw[al ⋯];exact wqt hfr hf hB hen hl he hd (db.mp h1).1 h
theorem qum {B:Heap}{env:Env}{outer:List Env}{L e:Aj}{cls fl:Ag}{ws:Array Ag}{Q:Unit->Ab->Prop}(hfr:A.frames=some (env::outer))(hf:env.frame=some L)(x:FlyV B (env::outer) e cls ws fl s.heap)
  (h:∀g,FlyV B (env::outer) e cls ws (rawInt L) g->s.heap.UpToSlots g->Q () { s with heap:=g }):wpAny M A (noteFrame (.ref e) env) Q E s:=by
 obtain⟨k1,k2,k3,oe,T,oT,ts,O,hc,S,J,nT,Te,F,I,U⟩:=id x;unfold noteFrame;simp only[hf];refine ae (dz O S (x:=.ref T) (by simp[J]) ?_);rw[am (show(Value.ref T != Value.none)=true from by simp)];refine ae (dz F I U ?_);by_cases z:fl=rawInt L
 .subst z;rw[am (by simp)];exact aF (h s.heap x (Heap.UpToSlots.refl _))
 rw[al (show ¬ ((fl==rawInt L)=true) from by simp[z])];refine ae (qq2 F I (db.mp U).1 λg o' g1 g2 g3 Z=>?_);obtain⟨q1,q2,q3⟩:=qj9 k1 k3 F I nT Z;subst hc;refine wqt hfr hf q1 k2 q2 ((Z e (bE Te)).trans O) S (by rw[fi];exact J) λg' r up=>h g' ⟨r.1,r.2.1,r.2.2.1,r.2.2.2.again⟩ ?_;exact Heap.UpToSlots.trans (λb o hb hn=>⟨o.slots,q3 b o hb hn⟩) up
theorem wwk {B:Heap}{env:Env}{outer:List Env}{L e:Aj}{cls fl:Ag}{ws:Array Ag}{Q:Unit->Ab->Prop}(hfr:A.frames=some (env::outer))(hf:env.frame=some L)(x:FlyV B (env::outer) e cls ws fl s.heap)
  (h:∀g,FlyV B outer e cls ws .none g->s.heap.UpToSlots g->Q () { s with heap:=g }):wpAny M A (leaving env (.ref e)) Q E s:=by
 unfold leaving;refine ae (qum hfr hf x λZ x1 J=>?_);refine Q8 x1 none λg F I=>?_;obtain⟨U,S,⟨_,_,k3⟩,O⟩:=F;exact h g ⟨U,S,k3,O⟩ (J.trans I)
theorem wku {B:Heap}{env:Env}{outer:List Env}{L e:Aj}{oe:Obj}{vs:Array Ag}{Q:Unit->Ab->Prop}(hfr:A.frames=some (env::outer))(hf:env.frame=some L)(hB:B.StaysIn s.heap)(hen:B.get? e=none)(hl:s.heap.FunFrames B (env::outer))
  (he:s.heap.get? e=some oe) (hd:oe.data=.fields vs) (h1:vs[1]?=some .none) (h:∀g,FlyV B outer e oe.cls vs .none g->s.heap.UpToSlots g->Q () { s with heap:=g }):wpAny M A (leaving env (.ref e)) Q E s:=by
 unfold leaving;refine ae (wx7 hfr hf hB hen hl he hd h1 λZ x1 J=>?_);refine Q8 x1 none λg F I=>?_;obtain⟨U,S,⟨_,_,k3⟩,O⟩:=F;exact h g ⟨U,S,k3,O⟩ (J.trans I)
end
theorem nin {b:Aj}:b∉([]:List Aj):=λz=>nomatch z
theorem qqu {K:Aa}{h:Heap}{C:Aj}{bmB:List Ag}{newId:String}(X:K.In h)(q:W.excIn K C bmB newId=true) :
  ∃tl N a1 a2 a3 a4 a5 a6 a7 a8 a9 b0 b1 b2 b3 b5 mN,h.get? C=some (excClassObj a1 a2 C N a3 tl a4 a5 a6 a7 a8 a9 b0 b1 b2 b3 b5 newId) /\
   h.Ns N mN/\mN "__init__" = none/\OwnTail h bmB tl:=by
 unfold W.excIn at q;split at q
 .next dd cd sl ho =>
  split at q
  .next C1 tl x0 x1 x2 x3 nn x5 hm hs =>
   rw[bT,bT,bT,bT,bT]at q;obtain⟨⟨⟨⟨⟨p1,p2⟩,U⟩,L⟩,F⟩,J⟩:=q;have aa:=eq_of_beq p1;have Z:=eq_of_beq p2;have I:=eq_of_beq J;have S:cd.hasDel=false:=by simpa using U
   subst aa Z;obtain⟨f1,f2,f3,f4,f5,f6,f7,f8,f9,an,ak⟩:=cd;have aj:f3=Value.ref C1::tl:=hm;have O:ak=false:=S;subst aj O;have ai:sl=#[x0,x1,x2,x3,some (.builtin nn),x5]:=by
    cases sl with
    |mk l =>
     have:l=[x0,x1,x2,x3,some (.builtin nn),x5]:=hs;rw[this]
   subst ai;have ad:=W.isNs_of_in X F;exact⟨tl,f4,f1,f5,f2,f6,f7,f8,f9,an,dd,x0,x1,x2,x3,x5,_,X _ _ ho,.of_isNs ad,W.nsMap_none_of_in X F I,W.tail_of_in X L⟩
  .exact absurd q ⋯
 .exact absurd q ⋯
def CXE (P:Ac)(w:Ah):CXT:=λouter H s E e s' =>
 ∃(a C:Aj) (a0:Ag) (ws:Array Ag) (d:Option Aj) (B:Heap) (H':Hp),e=.ref a/\s'.os=s.os/\AllBare s'.gens/\Un (frs outer) [] H H' s.heap s'.heap/\HOk P w H' B /\
  FlyV B outer a (.ref C) ws .none s'.heap/\(ws[0]?=some a0/\(d=none->ws[2]?=some .none))/\(∀b o,s.heap.get? b=some o->b∉frs outer->∃o',B.get? b=some o'/\(H b=none->o'=o))/\E (.ref C) d H'
theorem CXE.no {P:Ac}{w:Ah}{outer:List Env}{H:Hp}{s s':Ab}{e:Ag}(h:CXE P w outer H s E0 e s'):False:=by obtain⟨_,_,_,_,_,_,_,_,_,_,_,_,_,_,_,q⟩:=h;exact q
def k9 (X:Cx)(E:St->XK):Prop:=∀(pins:List (Aj×Obj)) (σ:St) (H:Hp) (s:Ab) (e:Ag) (s':Ab),Inv X pins σ H s->CXE X.prog X.w X.stack H s (E σ) e s'->X.xe e s'
theorem qk6 {X:Cx}:k9 X (λ_=>E0):=λ_ _ _ _ _ _ _ h=>h.no.elim
def wzp (X:Cx)(E:St->XK):Prop:=∀(pins:List (Aj×Obj)) (σ:St) (H:Hp) (s:Ab) (h':Heap) (e C:Aj) (vs:List Ag),Inv X pins σ H s->Heap.MadeExcOf s.heap h' e (.ref C) vs->E σ (.ref C) none H->X.xe (.ref e) { s with heap:=h' }
def wjz (X:Cx)(E:St->XK):Prop:=∀(pins:List (Aj×Obj)) (σ:St) (H:Hp) (s:Ab) (h':Heap) (e C:Aj) (oe:Obj) (vs:Array Ag) (a0:Ag) (d:Option Aj),Inv X pins σ H s->s.heap.get? e=none->(∀b o,s.heap.get? b=some o->h'.get? b=some o)->h'.get? e=some oe->oe.cls=.ref C->oe.data=.fields vs ->
 vs[0]?=some a0->vs[1]?=some .none->(d=none->vs[2]?=some .none)->E σ (.ref C) d H->X.xe (.ref e) { s with heap:=h' }
theorem ug {env:Env}{L:Aj}{outer:List Env}(h:env.frame=some L):frs (env::outer)=L::frs outer:=by unfold frs;rw[dm,h]
section
variable {P:Ac}{w:Ah}{K:Aa}{mg:Str->Option Ag}{base:Heap}{N:List Str}{qual:Str}{scope:Scope}{f:Aj}{cdv:Ag}{A:Ae}{outer:List Env}{s0:Ab}{H0:Hp}{E:XK}
theorem q8:k9 (W9 (CXE P w) P w K mg base N qual scope f cdv A outer s0 H0 E) (λ_=>E):=by
 intro pins σ H s e s' I hx;obtain⟨a,C,a0,ws,dd,B,H',rfl,a4,a7,U,a5,ai,a1,a3,q⟩:=hx;have J:=I.base;have hL:∀b o,s0.heap.get? b=some o->b≠s0.heap.objs.size:=λb o e z=>aU _ (z▸aq e);have aa:frs (envOfC qual scope s0.heap.objs.size f cdv::outer)=s0.heap.objs.size::frs outer:=ug rfl;have a6:∀b o,s0.heap.get? b=some o->b∉frs outer->b∉frs (envOfC qual scope s0.heap.objs.size f cdv::outer):=λb o e n=>by
  rw[aa];intro z;rcases ap.mp z with z|z
  .exact hL b o e z
  .exact n z
 have ad:∀b o,s0.heap.get? b=some o->b∉frs outer->∃o',B.get? b=some o'/\(H0 b=none->o'=o):=λb o e n=>by obtain⟨o1,F⟩:=J.there b o e nin;obtain⟨o2,O,S⟩:=a3 b o1 F (a6 b o e n);refine⟨o2,O,λz=>?_⟩;have Z:=J.keep b o e z n nin;have e5:=J.free b o e z nin;rw[F]at Z;rw[S e5];exact ax Z
 refine wwk I.ok.frames rfl ai λh' aj an=>?_;have a2:∀b,b∈frs outer->∀o,s0.heap.get? b=some o->H0 b=none->∃sl,h'.get? b=some { o with slots:=sl }:=λb L o e n=>by obtain⟨sl,F⟩:=J.slot b o e n L nin;obtain⟨a8,O⟩:=U.slot b _ F (J.free b o e n nin) (by show b∈frs (envOfC qual scope s0.heap.objs.size f cdv::outer);rw[aa];exact .tail _ L) nin;obtain⟨_,o3,S,nf⟩:=ai.2.2.1.mem (b:=b) (by show b∈frs (envOfC qual scope s0.heap.objs.size f cdv::outer);rw[aa];exact .tail _ L);obtain⟨ak,Z⟩:=an b o3 S nf;rw[O]at S;have e5:=ax S;exact⟨ak,by rw[Z,<-e5]⟩
 refine⟨a,C,a0,ws,dd,B,H',rfl,a4.trans I.os,a7,⟨λb o e n nb _=>?_,λb o e n L _=>a2 b L o e n,λb o e n _=>?_,λb o e _=>?_,λb xs e=>U.tups b xs (J.tups b xs e),λb o u e=>U.frzs b o u (J.frzs b o u e),λb ps e=>?_⟩,a5,aj,a1,ad,q⟩
 .obtain⟨o',F,O⟩:=ad b o e nb;rw[O n]at F;exact aj.1 b o F
 .obtain⟨o1,F⟩:=J.there b o e nin;exact U.free b o1 F (J.free b o e n nin) nin
 .by_cases L:b∈frs outer
  .obtain⟨o1,F⟩:=J.there b o e nin;obtain⟨o2,O⟩:=U.there b o1 F nin;obtain⟨_,o3,S,nf⟩:=ai.2.2.1.mem (b:=b) (by show b∈frs (envOfC qual scope s0.heap.objs.size f cdv::outer);rw[aa];exact .tail _ L);obtain⟨ak,Z⟩:=an b o3 S nf;exact⟨_,Z⟩
  .obtain⟨o',F,_⟩:=ad b o e L;exact⟨o',aj.1 b o' F⟩
 .obtain⟨m1,F⟩:=J.tbls b ps e;obtain⟨m2,O⟩:=U.tbls b _ F;exact⟨m1++m2,by rw[O,eC]⟩
theorem Zf:wjz (W9 (CXE P w) P w K mg base N qual scope f cdv A outer s0 H0 E) (λ_=>E):=by
 intro pins σ H s h' e C oe vs a0 d I a4 ai he S hd w0 w1 w2 q;have O:=I.base;have a1:frs (envOfC qual scope s0.heap.objs.size f cdv::outer)=s0.heap.objs.size::frs outer:=ug rfl;have a5:∀b o,s0.heap.get? b=some o->b∉frs outer->b∉frs (envOfC qual scope s0.heap.objs.size f cdv::outer):=λb o e n=>by
  rw[a1];intro z;rcases ap.mp z with z|z
  .exact aU _ (z▸aq e)
  .exact n z
 have a6:∀b∈frs (envOfC qual scope s0.heap.objs.size f cdv::outer),H b=none:=I.stkFree;have hB:∀b o,s.heap.get? b=some o->b∉frs (envOfC qual scope s0.heap.objs.size f cdv::outer)->(W.hideAll s.heap (frs (envOfC qual scope s0.heap.objs.size f cdv::outer))).get? b=some o:=λb o e n=>dk _ e n;have a3:HOk P w H (W.hideAll s.heap (frs (envOfC qual scope s0.heap.objs.size f cdv::outer))):=λb u F=>by
  refine(I.hok b u F).stay (λc v S ec=>hB c v ec λhm=>?_) (λ_ z=>z) (λ_ _ z=>z);have hn:=a6 c hm;rcases S with rfl|S
  .rw[hn]at F;cases F
  .rw[hn]at S;cases S
 have ad:∀b o,s0.heap.get? b=some o->b∉frs outer->∃o',(W.hideAll s.heap (frs (envOfC qual scope s0.heap.objs.size f cdv::outer))).get? b=some o'/\(H0 b=none->o'=o):=λb o e n=>by obtain⟨o1,J⟩:=O.there b o e nin;refine⟨o1,hB b o1 J (a5 b o e n),λz=>?_⟩;have U:=O.keep b o e z n nin;rw[J]at U;exact ax U
 have an:s.heap.FunFrames base (envOfC qual scope s0.heap.objs.size f cdv::outer):=I.stack;have a7:=W.funFrames_hide (as:=frs (envOfC qual scope s0.heap.objs.size f cdv::outer)) an (λenv he b F=>eG.mpr ⟨env,he,F⟩);have a8:(W.hideAll s.heap (frs (envOfC qual scope s0.heap.objs.size f cdv::outer))).get? e=none:=by
  cases z:(W.hideAll s.heap (frs (envOfC qual scope s0.heap.objs.size f cdv::outer))).get? e with
  |none=>rfl
  |some o =>
   have:=cI _ z;rw[a4]at this;cases this
 refine wku (B:=W.hideAll s.heap (frs (envOfC qual scope s0.heap.objs.size f cdv::outer))) I.ok.frames rfl (λb o e=>ai b o (cI _ e)) a8 (a7.of_keeps λb o F _=>⟨o,ai b o F,rfl⟩) he hd w1 λa9 aa a2=>?_;rw[S]at aa;have aj:∀b,b∈frs outer->∃o,s.heap.get? b=some o/\∃sl,a9.get? b=some { o with slots:=sl }:=λb F=>by obtain⟨_,o3,L,nf⟩:=an.mem (b:=b) (by show b∈frs (envOfC qual scope s0.heap.objs.size f cdv::outer);rw[a1];exact .tail _ F);exact⟨o3,L,a2 b o3 (ai b o3 L) nf⟩
 refine⟨e,C,a0,vs,d,_,H,rfl,I.os,I.bare,⟨λb o J n nb _=>?_,λb o J n F _=>?_,λb o J n _=>O.free b o J n nin,λb o J _=>?_,O.tups,O.frzs,O.tbls⟩,a3,aa,⟨w0,w2⟩,ad,q⟩
 .obtain⟨o',Z,L⟩:=ad b o J nb;rw[L n]at Z;exact aa.1 b o Z
 .obtain⟨sl,Z⟩:=O.slot b o J n F nin;obtain⟨o3,L,ak,U⟩:=aj b F;rw[Z]at L;have e5:=ax L;exact⟨ak,by rw[U,<-e5]⟩
 .by_cases F:b∈frs outer
  .obtain⟨o3,L,ak,U⟩:=aj b F;exact⟨_,U⟩
  .obtain⟨o',Z,_⟩:=ad b o J F;exact⟨o',aa.1 b o' Z⟩
theorem zq:wzp (W9 (CXE P w) P w K mg base N qual scope f cdv A outer s0 H0 E) (λ_=>E):=by intro pins σ H s h' e C L I F q;obtain⟨t,J,_,_⟩:=F.there;exact Zf pins σ H s h' e C _ _ _ none I F.new F.keeps J rfl rfl rfl rfl (λ_=>rfl) q
end
section
variable {P:Ac}{w:Ah}{K:Aa}{mg:Str->Option Ag}{base:Heap}
end
def qqm (sp:Sp)(E:St->XK)(t:TA):TE:=λσ H Q=>t σ H λvs H1=>sp vs H1 Q (E σ)
def qq4 (C:Aj)(m:Str)(sp:Sp)(E:St->XK)(ta:TE)(t:TA):TE:=λσ H Q=>ta σ H λx H1=>∃a dx fs,x=.ref a/\H1 a=some (.ins C dx fs)/\fs.lookup m=none /\
 t σ H1 λvs H2=>sp (x::vs) H2 Q (E σ)
def qu3 (C:Aj)(sp:Sp)(E:St->XK)(t:TA):TE:=λσ H Q=>t σ H λvs H1=>∀x dx,H1 x=none->H1 dx=none->dx≠x ->
 sp (.ref x::vs) (upd (upd H1 dx (.own x)) x (.ins C dx [])) (λv H2=>v=.non/\Q (.ref x) H2) (E σ)
section
variable {X:Cx}{k:Nat}{f C:Aj}{fd:Ad}{ps:List Str}{sp:Sp}{E:St->XK}{x m:Str}{p pos apos:Pos}{e o:Expr}{es:List Expr}{ta:TE}{t:TA}
theorem qkg {pins:List (Aj×Obj)}{σ:St}{H:Hp}{s:Ab}{Q:VK}{us:List Ag}{vs:List V}(F:FnOk X.prog X.w X.K X.mg X.base (CXE X.prog X.w) k f fd ps sp)(hr:Room k X.A)(hb:Binds X.K fd ps [])(hx:k9 X E)
  (I:Inv X pins σ H s) (r:Vals vs us) (h:sp vs H Q (E σ)):wpAny (model X.prog X.w) X.A (call (.ref f) us) (EP X pins σ Q) X.xe s:=by
 have O:(us++[]).length=ps.length:=by rw[bK,<-r.length];exact F.len _ _ _ _ h
 have L:=hb s us I.kIn O;rw[bK]at L;refine wpAny_call (eo (F.run X.A X.stack s H ⟨us,[]⟩ us vs Q (E σ) hr I.env0 L r h) λr s' J=>?_);cases r with
 |error e=>exact hx pins σ H s e s' I J
 |ok fl =>
  cases fl with
  |ret u=>exact I.after J
  |next=>exact False.elim J
  |brk=>exact False.elim J
  |cont=>exact False.elim J
theorem wz4 (F:FnOk X.prog X.w X.K X.mg X.base (CXE X.prog X.w) k f fd ps sp)(hr:Room k X.A)(hg:Gl X x)(hm:X.mg x=some (.ref f))(hk:W.keepIn X.K (.ref f)=true)(hb:Binds X.K fd ps [])(hx:k9 X E)
  (ha:PA X (e::es) t) (hdb:autoParam ((x==("__debug__" : Str))=false) aU1._auto_1) (he:autoParam (starEach (e::es) X.env=(false,eval e X.env)::starEach es X.env) aU4._auto_1) (hpl:autoParam ((backTo pos (starEach es X.env)).any (·.1)=false) aU4._auto_1) :
  PE X (.Call (.Name x p) (e::es) [] pos) (qqm sp E t):=by
 intro pins s σ H Q I h;refine cJ (jc I hg hm ?_ hdb);refine eM (h₀:=X.base) I.ok.mod.kin hk (thn (ha pos pins s σ H _ I h) λus s1 ⟨vs,H1,I1,r,q⟩=>⟨I1.kIn,?_⟩) he hpl;exact qkg F hr hb hx I1 r q
theorem wks {pl:Sem Bool}(he:PE X o ta)(c:Cls X.K C)(hm:Meth X.K C m f)(F:FnOk X.prog X.w X.K X.mg X.base (CXE X.prog X.w) k f fd ps sp)(hr:Room k X.A)(hb:Binds X.K fd ps [])(hx:k9 X E)(ha:PA X (e::es) t)
  (hst:autoParam (starEach (e::es) X.env=(false,eval e X.env)::starEach es X.env) aU4._auto_1) (hpl:autoParam ((backTo pos (starEach es X.env)).any (·.1)=false) aU4._auto_1)
  (ht:autoParam (eval (.Call (.Attribute o m apos) (e::es) [] pos) X.env=(do
   let ov <-eval o X.env
   standAt apos.atName
   let (f,first) <-holding [ov] (getMethod ov m pl)
   callWith pos f first (backTo pos (starEach (e::es) X.env)) (backToKw pos (keywordEach [] X.env)))) aU4._auto_1) :
  PE X (.Call (.Attribute o m apos) (e::es) [] pos) (qq4 C m sp E ta t):=by
 intro pins s σ H Q I h;refine W.methodCall_KW (pl:=pl) (thn (he pins s σ H _ I h) λu s1 ⟨x,H1,I1,rx,a,dx,fs,ex,ea,l,q⟩=>?_) ht;subst ex;obtain rfl:u=Value.ref a:=rx;refine qwr I1 ea c hm l ?_;refine eM (first:=[.ref a]) (h₀:=X.base) I.ok.mod.kin hm.kp (thn (ha pos pins s1 σ H1 _ I1 q) λus s2 ⟨vs,H2,I2,r,q2⟩=>⟨I2.kIn,?_⟩) hst hpl;exact qkg (us:=.ref a::us) (vs:=.ref a::vs) F hr hb hx I2 (.cons rfl r) q2
theorem wx0 {pl:Sem Bool}(he:PE X o ta)(c:Cls X.K C)(hm:Meth X.K C m f)(F:FnOk X.prog X.w X.K X.mg X.base (CXE X.prog X.w) k f fd ps sp)(hr:Room k X.A)(hb:Binds X.K fd ps [])(hx:k9 X E)
  (ht:autoParam (eval (.Call (.Attribute o m apos) [] [] pos) X.env=(do
   let ov <-eval o X.env
   standAt apos.atName
   let (f,first) <-holding [ov] (getMethod ov m pl)
   callWith pos f first (backTo pos (starEach [] X.env)) (backToKw pos (keywordEach [] X.env)))) aU4._auto_1) :
  PE X (.Call (.Attribute o m apos) [] [] pos) (qq4 C m sp E ta Qu):=by
 intro pins s σ H Q I h;refine W.methodCall_KW (pl:=pl) (thn (he pins s σ H _ I h) λu s1 ⟨x,H1,I1,rx,a,dx,fs,ex,ea,l,q⟩=>?_) ht;subst ex;obtain rfl:u=Value.ref a:=rx;refine qwr I1 ea c hm l ?_;exact W.callWith_K0 (first:=[.ref a]) I1.kIn hm.kp (qkg (us:=[.ref a]) (vs:=[.ref a]) F hr hb hx I1 (.cons rfl .nil) q)
theorem qzk {pins:List (Aj×Obj)}{σ:St}{H:Hp}{s:Ab}{Q:VK}{us:List Ag}{vs:List V}(M:Mk X.K C f)(F:FnOk X.prog X.w X.K X.mg X.base (CXE X.prog X.w) k f fd ps sp)(hr:Room (k+1) X.A)(hb:Binds X.K fd ps [])
  (hx:k9 X E) (I:Inv X pins σ H s) (r:Vals vs us)
  (h:∀x dx,H x=none->H dx=none->dx≠x->sp (.ref x::vs) (upd (upd H dx (.own x)) x (.ins C dx [])) (λv H2=>v=.non/\Q (.ref x) H2) (E σ)) :
  wpAny (model X.prog X.w) X.A (call (.ref C) us) (EP X pins σ Q) X.xe s:=by
 have S:=h (s.heap.objs.size+1) s.heap.objs.size (I.hok.fresh (Nat.le_succ _)) (I.hok.fresh (ah _)) (aJ (Nat.lt_succ_self _));have L:=Inv.made (C:=C) I;have O:Vals (V.ref (s.heap.objs.size+1)::vs) (Value.ref (s.heap.objs.size+1)::us):=.cons rfl r;have hl:((Value.ref (s.heap.objs.size+1)::us)++[]).length=ps.length:=by rw[bK,<-O.length];exact F.len _ _ _ _ S
 have U:=hb _ (Value.ref (s.heap.objs.size+1)::us) L.kIn hl;rw[bK]at U;refine wpAny_call (wjv (f:=f) I.kIn M.makes M.init (cY.mp M.fn) (eo (F.run _ X.stack _ _ ⟨Value.ref (s.heap.objs.size+1)::us,[]⟩ (Value.ref (s.heap.objs.size+1)::us) _ _ (E σ) (hr.make C us [])
  (L.env0.make C us []) U O S) λr s' J=>?_))
 cases r with
 |error e=>exact hx pins σ _ _ e s' L J
 |ok fl =>
  cases fl with
  |ret u =>
   obtain⟨v,H',I3,Z,ev,q3⟩:=L.after J;subst ev;exact⟨Z,⟨V.ref (s.heap.objs.size+1),H',I3,rfl,q3⟩⟩
  |next=>exact False.elim J
  |brk=>exact False.elim J
  |cont=>exact False.elim J
theorem wkx (M:Mk X.K C f)(F:FnOk X.prog X.w X.K X.mg X.base (CXE X.prog X.w) k f fd ps sp)(hr:Room (k+1) X.A)(hg:Gl X x)(hm:X.mg x=some (.ref C))(hb:Binds X.K fd ps [])(hx:k9 X E)
  (ha:PA X (e::es) t) (hdb:autoParam ((x==("__debug__" : Str))=false) aU1._auto_1) (he:autoParam (starEach (e::es) X.env=(false,eval e X.env)::starEach es X.env) aU4._auto_1) (hpl:autoParam ((backTo pos (starEach es X.env)).any (·.1)=false) aU4._auto_1) :
  PE X (.Call (.Name x p) (e::es) [] pos) (qu3 C sp E t):=by
 intro pins s σ H Q I h;refine cJ (jc I hg hm ?_ hdb);refine eM (h₀:=X.base) I.ok.mod.kin M.kp (thn (ha pos pins s σ H _ I h) λus s1 ⟨vs,H1,I1,r,q⟩=>⟨I1.kIn,?_⟩) he hpl;exact qzk M F hr hb hx I1 r q
end
structure ExcC (K:Aa)(C:Aj):Prop where
 q:W.excIn K C [.type "ValueError",.type "Exception",.type "BaseException",.type "object"] "ValueError.__new__" = true
def tRaise (C:Aj)(E:St->XK)(t:TA):TS:=λD σ H=>t σ H λvs H1=>vs.length<=sizeLine/\E σ (.ref C) none H1
section
variable {X:Cx}{C:Aj}{E:St->XK}{x:Str}{np cpos pos:Pos}{e:Expr}{es:List Expr}{t:TA}
theorem z0 (hc:X.calm=true)(c:ExcC X.K C)(hR:wzp X E)(hg:Gl X x)(hm:X.mg x=some (.ref C))(ha:PA X (e::es) t)(hdb:autoParam ((x==("__debug__" : Str))=false) aU1._auto_1)
  (he:autoParam (starEach (e::es) X.env=(false,eval e X.env)::starEach es X.env) aU4._auto_1) (hpl:autoParam ((backTo cpos (starEach es X.env)).any (·.1)=false) aU4._auto_1) :
  PS X (.Raise (some (.Call (.Name x np) (e::es) [] cpos)) none pos) (tRaise C E t):=by
 intro pins s σ H D I h;obtain⟨tl,N,a1,a2,a3,a4,a5,a6,a7,a8,a9,b0,b1,b2,Z,U,mN,S,O,L,T⟩:=qqu I.ok.mod.kin c.q;refine wpAny_Raise_call_subT (C:=C) (nm:=a1) (q:=a2) (N:=N) (bs:=a3) (bm:=tl) (hdct:=a4) (sn:=a5) (sub:=a6) (ab:=a7) (col:=a8) (dd:=a9) (k0:=b0) (k1:=b1) (k2:=b2) (k3:=Z) (k5:=U)
  bQ (mN:=mN) (T.hasType bQ.hasBase) (I.ok.hd hc) (by rw[he];show(false||(backTo cpos (starEach es X.env)).any (·.1))=false;rw[hpl];rfl) L (jc I hg hm ⟨rfl,?_⟩ hdb)
 have F:=ha cpos pins s σ H _ I h;rw[he]at F ⊢;refine cZ (aK F (λus s1 ⟨vs,H1,I1,r,hl,q⟩=>⟨rfl,by rw[<-r.length];exact hl,I1.bk _ _ S,O.keeps I1.bk,T.keeps I1.bk,λh' e J=>hR pins σ H1 s1 h' e C us I1 J q⟩) λ_ _ z=>z)
end
abbrev Cx.handling (X:Cx)(e:Aj):Cx:={ X with A:=X.A.mark (some (.ref e)),calm:=false,xe:=λ_ _=>False }
abbrev Cx.trying (X:Cx)(pn:List (Aj×Obj))(xe:Ag->Ab->Prop):Cx:={ X with pn:=pn,xe:=xe }
section
variable {X:Cx}{pins:List (Aj×Obj)}{σ:St}{H H':Hp}{s s':Ab}{e:Aj}
theorem Cx.Ok.handling (o:X.Ok)(e:Aj):(X.handling e).Ok :=
 ⟨o.mod,o.kind,o.glob,o.blt,o.above,o.inj,o.has,o.cab,λz=>(aI z).elim,o.frames,o.stk,o.exf,o.bs,o.bsz,o.noex,o.exfs,o.funs,o.frf⟩
theorem Cx.Ok.trying (o:X.Ok)(pn:List (Aj×Obj))(xe:Ag->Ab->Prop):(X.trying pn xe).Ok :=
 ⟨o.mod,o.kind,o.glob,o.blt,o.above,o.inj,o.has,o.cab,o.hd,o.frames,o.stk,o.exf,o.bs,o.bsz,o.noex,o.exfs,o.funs,o.frf⟩
theorem Inv.handling (I:Inv X pins σ H s)(e:Aj):Inv (X.handling e) pins σ H s:=⟨I.ok.handling e,I.os,I.bare,I.base,I.loc,I.cell,I.free,I.freeC,I.pin,I.hok,I.len⟩
theorem Inv.unhandling (o:X.Ok)(I:Inv (X.handling e) pins σ H s):Inv X pins σ H s:=⟨o,I.os,I.bare,I.base,I.loc,I.cell,I.free,I.freeC,I.pin,I.hok,I.len⟩
theorem Inv.trying (I:Inv X pins σ H s)(xe:Ag->Ab->Prop):Inv (X.trying (X.pn++pins) xe) [] σ H s :=
 ⟨I.ok.trying _ _,I.os,I.bare,I.base,I.loc,I.cell,I.free,I.freeC,λp hp=>I.pin p ((aP.mp hp).elim (λz=>z) λz=>nomatch z),I.hok,I.len⟩
theorem Inv.untrying {pins':List (Aj×Obj)}{xe:Ag->Ab->Prop}(o:X.Ok)(I:Inv (X.trying (X.pn++pins) xe) pins' σ H s):Inv X pins σ H s :=
 ⟨o,I.os,I.bare,I.base,I.loc,I.cell,I.free,I.freeC,λp hp=>I.pin p (bg _ hp),I.hok,I.len⟩
theorem SP.untrying {pins':List (Aj×Obj)}{xe:Ag->Ab->Prop}{D:Ends}{f:Flow}(o:X.Ok)(h:SP (X.trying (X.pn++pins) xe) pins' D f s'):SP X pins D f s':=by
 cases f with
 |next=>obtain⟨a,b,c,d⟩:=h;exact⟨a,b,c.untrying o,d⟩
 |brk=>obtain⟨a,b,c,d⟩:=h;exact⟨a,b,c.untrying o,d⟩
 |cont=>obtain⟨a,b,c,d⟩:=h;exact⟨a,b,c.untrying o,d⟩
 |ret u=>obtain⟨v,a,b,c,d⟩:=h;exact⟨v,a,b,c.untrying o,d⟩
theorem SP.unhandling {D:Ends}{f:Flow}(o:X.Ok)(h:SP (X.handling e) pins D f s'):SP X pins D f s':=by
 cases f with
 |next=>obtain⟨a,b,c,d⟩:=h;exact⟨a,b,c.unhandling o,d⟩
 |brk=>obtain⟨a,b,c,d⟩:=h;exact⟨a,b,c.unhandling o,d⟩
 |cont=>obtain⟨a,b,c,d⟩:=h;exact⟨a,b,c.unhandling o,d⟩
 |ret u=>obtain⟨v,a,b,c,d⟩:=h;exact⟨v,a,b,c.unhandling o,d⟩
def Qr (K:Aa)(C D:Aj):Prop:=∀ {M:Model} {A:Ae} {E:Ag->Ab->Prop} {h:Heap} {g:Array GenState} {d:Drawn} {t:Nat} {os:OsState} {e:Aj} {oe:Obj} {Q:Bool->Ab->Prop},
 K.In h->h.get? e=some oe->oe.cls=.ref C->Q true ⟨h,g,d,t,os⟩->wpAny M A (excMatches (.ref e) (.ref D)) Q E ⟨h,g,d,t,os⟩
theorem qug {K:Aa}{C:Aj}(c:ExcC K C):Qr K C C:=by intro M A E h g d t L e O Q X F I q;obtain⟨tl,N,a1,a2,a3,a4,a5,a6,a7,a8,a9,b0,b1,b2,b3,b5,S,J,Z,U,T⟩:=qqu X c.q;exact wpAny_excMatches_sub_self J F I (T.hasType bQ.hasBase) q
end
section
variable {X:Cx}{x:Str}{D0:Aj}{np hpos pos:Pos}{b₀:Stmt}{body suite:List Stmt}{tb:(St->XK)->TS}{th:TS}
end
def Sm (n:Nat)(i:Int):Prop:=i.natAbs<2 ^ n
theorem Sm.bits {n:Nat}{i:Int}(h:Sm n i):Builtin.Int.intBits i<=n:=PyProof.Rows.intBits_le h
theorem Sm.mono {n m:Nat}{i:Int}(h:Sm n i)(hm:n<=m):Sm m i:=aL h (de ⋯ hm)
theorem Sm.of_le {n:Nat}{i j:Int}(h:Sm n j)(e:i.natAbs<=j.natAbs):Sm n i:=Nat.lt_of_le_of_lt e h
theorem Sm.ok {n m:Nat}{i j:Int}(h:Sm n i)(h':Sm m j)(e:n+m<=134217728):IntMulOk i j:=IntMulOk.of_le h.bits h'.bits e
theorem Sm.log {n:Nat}{i:Int}(h:Sm n i)(hn:n<=9000):i.natAbs.log2<9000:=by
 by_cases h0:i.natAbs=0
 .rw[h0];decide
 .exact aL ((Nat.log2_lt h0).mpr h) hn
theorem Sm.noPl {n:Nat}{i j:Int}(h:Sm n j)(hn:n<=9000):Builtin.divisionGoesByPylong i j=false:=PyProof.noPylong_of_log2 (h.log hn)
section
variable {X:Cx}
theorem zb:OpR X (binaryOp .Mult) (rI IntMulOk λi j=>.int (i*j)):=opI λ_ _ _ _ _ _ _ hc q=>mul_int q hc
theorem Q7:OpR X (binaryOp .FloorDiv) (rI (λ_ j=>0<j/\Sm 9000 j) λi j=>.int (i/j)):=opI λi j _ _ _ _ _ hc q =>
 floordiv_int ⋯ (by rw[Int.fdiv_eq_ediv_of_nonneg i (Int.le_of_lt hc.1)];exact q) (.inl (hc.2.noPl (ah _)))
end
mutual
def RD (K:Aa)(H:Hp):PyData->V->Prop
 |.none,v=>v=.non
 |.bool b,v=>v=.bl b
 |.int i,v=>v=.int i
 |.str x,v=>v=.str x
 |.list ds,v=>∃a xs,v=.ref a/\SqL K H a xs/\RDs K H ds xs
 |.tuple ds,v=>∃a xs,v=.ref a/\SqT K H a xs/\RDs K H ds xs
 |.dict _,_=>False
def RDs (K:Aa)(H:Hp):List PyData->List V->Prop
 |[],xs=>xs=[]
 |d::ds,xs=>∃y ys,xs=y::ys/\RD K H d y/\RDs K H ds ys
end
section
variable {X:Cx}{pins:List (Aj×Obj)}{σ:St}{H:Hp}{s:Ab}
mutual
theorem wzf (I:Inv X pins σ H s):∀(d:PyData) (v:V) (u:Ag),RD X.K H d v->RelV v u->∃as,Reads s.heap u d as
 |.none,v,u,h,r=>by rw[RD]at h;subst h;cases(show u=Value.none from r);exact⟨_,.none⟩
 |.bool b,v,u,h,r=>by rw[RD]at h;subst h;cases(show u=Value.bool b from r);exact⟨_,.bool b⟩
 |.int i,v,u,h,r=>by rw[RD]at h;subst h;obtain⟨t,rfl⟩:=(show ∃t,u=Value.int i t from r);exact⟨_,.int i t⟩
 |.str x,v,u,h,r=>by rw[RD]at h;subst h;obtain⟨t,rfl⟩:=(show ∃t,u=Value.str x t from r);exact⟨_,.str x t⟩
 |.list ds,v,u,h,r=>by rw[RD]at h;obtain⟨a,xs,rfl,hs,hd⟩:=h;cases(show u=Value.ref a from r);obtain⟨its,rv,⟨o,n,e1,e2,_,e3⟩,_⟩:=I.list hs;obtain⟨as,ha⟩:=Y7 I ds xs its hd rv;exact⟨_,.list e1 e2 e3 (by simpa using ha)⟩
 |.tuple ds,v,u,h,r=>by rw[RD]at h;obtain⟨a,xs,rfl,hs,hd⟩:=h;cases(show u=Value.ref a from r);obtain⟨its,rv,⟨o,e1,e2,n,e3⟩,_⟩:=I.tuple hs;obtain⟨as,ha⟩:=Y7 I ds xs its hd rv;exact⟨_,.tuple e1 e2 e3 (by simpa using ha)⟩
 |.dict _,_,_,h,_=>by rw[RD]at h;exact h.elim
theorem Y7 (I:Inv X pins σ H s):∀(ds:List PyData) (vs:List V) (us:List Ag),RDs X.K H ds vs->Vals vs us->∃as,ReadsAll s.heap us ds as
 |[],vs,us,h,r=>by rw[RDs]at h;subst h;cases r;exact⟨_,.nil⟩
 |d::ds,vs,us,h,r=>by
  rw[RDs]at h;obtain⟨y,ys,rfl,h1,h2⟩:=h;cases r with
  |cons r1 r2 =>
   obtain⟨as,a1⟩:=wzf I d y _ h1 r1;obtain⟨bs,a2⟩:=Y7 I ds ys _ h2 r2;exact⟨_,.cons a1 a2⟩
end
end
end L2
namespace L2
open PySem PySem.Spec PyProof.Rows
section
variable {P:Ac}{w:Ah}{K:Aa}{mg:Str->Option Ag}{base:Heap}
theorem Fun.okX {x qual:Str}{st:Stmt}{f:Aj}{fd:Ad}{N ps:List Str}{k:Nat}{sp:Sp}(F:Fun K x qual st f fd)(S:FnScope N ps (wf st))(len:∀vs H Q E,sp vs H Q E->vs.length=ps.length)
  (body:∀(cdv:Ag) (A:Ae) (outer:List Env) (s:Ab) (H:Hp) (vs:List V) (Q:VK) (E:XK),Room k (A.deeper (envOfC qual (wf st) s.heap.objs.size f cdv))->sp vs H Q E ->
   ∃t,PSs (W9 (CXE P w) P w K mg base N qual (wf st) f cdv A outer s H E) (j8 st) t/\t { nx:=λ_ H'=>Q .non H',rt:=Q } (Q6 N vs) H):FnOk P w K mg base (CXE P w) (k+1) f fd ps sp:=by
 obtain⟨oc,od,kV,aa,U,an,cdv,ct,Z,rfl,I,O⟩:=F.ex;exact fn_of I O S len λA outer s H vs Q E L J=>body cdv A outer s H vs Q E L J
structure DefIn (K:Aa)(x:Str)(st:Stmt):Prop where
 ex:∃f fd,W.nsIn K mainGlobals x=some (some (.ref f))/\Fun K x x st f fd
theorem def_mk {x:Str}{st:Stmt}{f:Aj}{oc:Ag}{od an:Option Aj}{osl:Array (Option Ag)}{kV doc pm cdv ct:Ag}(a:W.nsIn K mainGlobals x=some (some (.ref f)))
  (l:K.lookup f=some ⟨oc,od,.func (W.fnOf x x (y0 st) (j8 st) (wf st) .none kV doc pm an cdv ct),osl⟩) (c:W.codeIn K cdv x=true) (k:W.keepIn K (.ref f)=true):DefIn K x st:=⟨_,_,a,wkf l c k⟩
def xm (x:Str)(st:Stmt)(ps:List Str):Prop:=∀(kV doc pm:Ag) (an:Option Aj) (cdv ct:Ag) (us:List Ag),us.length=ps.length->bindArgs (W.fnOf x x (y0 st) (j8 st) (wf st) .none kV doc pm an cdv ct) ⟨us,[]⟩=pure (ps.zip us)
theorem bA1 {f}{ps:List Str}{u:List Ag}(h:u.length=1)(k:∀a,bindArgs f ⟨[a],[]⟩=pure (ps.zip [a])):bindArgs f ⟨u,[]⟩=pure (ps.zip u):=match u,h with|[a],_=>k a
theorem bA2 {f}{ps:List Str}{u:List Ag}(h:u.length=2)(k:∀a b,bindArgs f ⟨[a,b],[]⟩=pure (ps.zip [a,b])):bindArgs f ⟨u,[]⟩=pure (ps.zip u):=match u,h with|[a,b],_=>k a b
theorem bA3 {f}{ps:List Str}{u:List Ag}(h:u.length=3)(k:∀a b c,bindArgs f ⟨[a,b,c],[]⟩=pure (ps.zip [a,b,c])):bindArgs f ⟨u,[]⟩=pure (ps.zip u):=match u,h with|[a,b,c],_=>k a b c
theorem bA4 {f}{ps:List Str}{u:List Ag}(h:u.length=4)(k:∀a b c d,bindArgs f ⟨[a,b,c,d],[]⟩=pure (ps.zip [a,b,c,d])):bindArgs f ⟨u,[]⟩=pure (ps.zip u):=match u,h with|[a,b,c,d],_=>k a b c d
structure Cal (P:Ac)(w:Ah)(K:Aa)(mg:Str->Option Ag)(base:Heap)(x:Str)(k:Nat)(sp:Sp):Prop where
 ex:∃f fd ps,mg x=some (.ref f)/\FnOk P w K mg base (CXE P w) k f fd ps sp/\W.keepIn K (.ref f)=true/\Binds K fd ps []
theorem DefIn.cal {x:Str}{st:Stmt}{ps:List Str}{k:Nat}{sp:Sp}{h:Heap}(d:DefIn K x st)(KX:K.In h)(G:h.Ns mainGlobals mg)(b:xm x st ps)(ok:∀f fd,Fun K x x st f fd->FnOk P w K mg base (CXE P w) k f fd ps sp):Cal P w K mg base x k sp:=by obtain⟨f,fd,a,F⟩:=d.ex;exact⟨f,fd,ps,aS KX G a,ok f fd F,F.kp,F.binds b⟩
end
section
variable {X:Cx}{x:Str}{k:Nat}{sp:Sp}{E:St->XK}{p pos:Pos}{e:Expr}{es:List Expr}{t:TA}
theorem wk9 (c:Cal X.prog X.w X.K X.mg X.base x k sp)(hr:Room k X.A)(hg:Gl X x)(hx:k9 X E)
  (ha:PA X (e::es) t) (hdb:autoParam ((x==("__debug__" : Str))=false) aU1._auto_1) (he:autoParam (starEach (e::es) X.env=(false,eval e X.env)::starEach es X.env) aU4._auto_1) (hpl:autoParam ((backTo pos (starEach es X.env)).any (·.1)=false) aU4._auto_1) :
  PE X (.Call (.Name x p) (e::es) [] pos) (qqm sp E t):=by
 obtain⟨f,fd,ps,J,F,I,b⟩:=c.ex;exact wz4 F hr hg J I b hx ha hdb he hpl
end
def tCut (t u:TS):TS:=λD σ H=>∃R:St->Hp->Prop,t { D with nx:=R } σ H/\∀σ' H',R σ' H'->u D σ' H'
theorem j0 {X:Cx}{st:Stmt}{rest:List Stmt}{t u:TS}(h1:PS X st t)(h2:PSs X rest u):PSs X (st::rest) (tCut t u):=by
 intro pins s σ H D I ⟨R,h,hR⟩;refine fv (thn (h1 pins s σ H { D with nx:=R } I h) λf J q=>?_);cases f with
 |next =>
  obtain⟨F,H1,O,L⟩:=q;exact h2 pins J F H1 D O (hR F H1 L)
 |brk=>exact q
 |cont=>exact q
 |ret u=>exact q
theorem zd {c A B:Prop}[Decidable c](h1:c->A)(h2:¬ c->B):if decide c=true then A else B:=by
 by_cases h:c
 .rw[aM h];exact vg (h1 h)
 .rw[aN h];exact jq (h2 h)
theorem qyr {c A B:Prop}[Decidable c](h1:¬ c->A)(h2:c->B):if(!decide c)=true then A else B:=by
 by_cases h:c
 .rw[aM h];exact jq (h2 h)
 .rw[aN h];exact vg (h1 h)
theorem deqI {i j:Int}:decide (V.int i=V.int j)=decide (i=j):=by
 by_cases h:i=j
 .subst h;simp
 .simp[h]
theorem vh {i j:Int}{A B:Prop}(h1:i=j->A)(h2:i≠j->B):if decide (V.int i=V.int j)=true then A else B:=by rw[deqI];exact zd h1 h2
theorem xN {i j:Int}{A B:Prop}(k:B)(h:autoParam (i≠j) aU1._auto_1):if decide (V.int i=V.int j)=true then A else B:=vh (λz=>absurd z h) (λ_=>k)
theorem iteNDV {i j:Int}{A B:Prop}(h1:i≠j->A)(h2:i=j->B):if(!decide (V.int i=V.int j))=true then A else B:=by rw[deqI];exact qyr h1 h2
theorem Same.upd {H:Hp}{p:Aj}{o:HO}(n:H p=none):Same H (upd H p o):=λb u e=>by rw[wj (wz e n)];exact e
theorem Same.sql {K:Aa}{H H':Hp}{a:Aj}{xs:List V}(h:Same H H')(s:SqL K H a xs):SqL K H' a xs:=h.seq s
theorem SqT.new {K:Aa}{H:Hp}{p:Aj}{xs:List V}:SqT K (upd H p (.tup xs)) p xs:=SqT.of qy
theorem SqL.new {K:Aa}{H:Hp}{p:Aj}{xs:List V}:SqL K (upd H p (.lst xs)) p xs:=SqL.of qy
theorem Z8:bootBuiltins "abs" = some (.builtin "abs"):=by decide +kernel
theorem qq5:bootBuiltins "all" = some (.builtin "all"):=by decide +kernel
theorem qkn {ns:List Int}{i:Int}(h0:0<=i)(h1:i<ns.length):atI (ns.map V.int) i=some (V.int (ns.getD i.toNat 0)):=by
 have F:i.toNat<ns.length:=by lia
 have e:(ns.map V.int)[i.toNat]?=some (V.int (ns.getD i.toNat 0)):=by rw[aD,aA,ag F];rfl
 have:=v8 e;rwa [cC h0]at this
def qy1 (ns:List Int)(i:Int):Int:=if i<ns.length then ns.getD i.toNat 0 else if(ns.length:Int)=0 then 7*i+3 else ns.getD (i%ns.length).toNat 0+1009*i
def divs (c:Int):Nat->Int
 |0=>c
 |n+1=>divs c n/1000
def wqw (K:Aa):Sp:=λvs H Q _=>∃(a:Aj) (ns:List Int) (i:Int),vs=[.ref a,.int i]/\SqL K H a (ns.map V.int)/\0<=i/\∀r,r=qy1 ns i->Q (.int r) H
def yn (c:Int):Int:=if c<0 then -c else c
def qv3 (c t:Int):Int:=(c%1000003*48271+t*7919+101)%999983
def qjk (c t:Int):Int:=(qv3 c t*qv3 c t+c%1000003*31+t*104729)%1000033
def qjj (c t:Int):Int:=if 10 ^ 18<=yn c then(if c<0 then divs (yn c) t.toNat%1000 else divs (yn c) t.toNat) else(qjk c t*qjk c t+qv3 c t*17+t*30011)%999979
def qy0 (ns:List Int)(i t m:Int):Int:=qjj (qy1 ns i) t%m
theorem wzd (ns:List Int)(i t m:Int)(h:0<m):0<=qy0 ns i t m:=br _ ⋯
theorem wkn (ns:List Int)(i t m:Int)(h:0<m):qy0 ns i t m<m:=bw _ h
theorem wzj {c t:Int}(h:10 ^ 18<=yn c)(n:c<0):qjj c t=divs (yn c) t.toNat%1000:=by rw[qjj,am h,am n]
theorem wxs {c t:Int}(h:10 ^ 18<=yn c)(n:¬ c<0):qjj c t=divs (yn c) t.toNat:=by rw[qjj,am h,al n]
theorem wkz {c t:Int}(h:¬ 10 ^ 18<=yn c):qjj c t=(qjk c t*qjk c t+qv3 c t*17+t*30011)%999979:=by rw[qjj,al h]
def yb (K:Aa):Sp:=λvs H Q _=>∃(a:Aj) (ns:List Int) (i t m:Int),vs=[.ref a,.int i,.int t,.int m]/\SqL K H a (ns.map V.int)/\0<=i/\0<=t/\t<1000000/\0<m /\
 ∀r,r=qy0 ns i t m->0<=r->r<m->Q (.int r) H
theorem Sm.small {n:Nat}{i:Int}(h1:-(2 ^ 64)<=i)(h2:i<=2 ^ 64)(hn:65<=n):Sm n i:=by refine Sm.mono (n:=65) ?_ hn;unfold Sm;lia
def wqf (K:Aa):Sp:=λvs H Q _=>∃(a:Aj) (ns:List Int),vs=[.ref a]/\SqL K H a (ns.map V.int)/\ns.length<=63/\∀H',Q (.bl true) H'
theorem sz1 {x:V}:[x].length<=sizeLine:=by show 1<=sizeLine;decide
theorem sz2 {x y:V}:[x,y].length<=sizeLine:=by show 2<=sizeLine;decide
theorem sz0:([]:List V).length<=sizeLine:=by show 0<=sizeLine;decide
end L2
namespace L2
open PySem
def yr (x y:Int):Int:=((Nat.gcd x.toNat y.toNat:Nat):Int)
theorem ww8 {x:Int}(h:0<=x):yr x 0=x:=by unfold yr;have:(0:Int).toNat=0:=rfl;rw[this,Nat.gcd_zero_right];lia
theorem wxt {x y:Int}(hx:0<=x)(hy:0<y):yr y (x%y)=yr x y:=by
 unfold yr;have e:(x%y).toNat=x.toNat%y.toNat:=by
  have h1:x=(x.toNat:Int):=by lia
  have h2:y=(y.toNat:Int):=by lia
  have F:x%y=((x.toNat%y.toNat:Nat):Int):=by
   conv=>lhs;rw[h1,h2]
   exact(Int.natCast_emod _ _).symm
  rw[F];exact cy _
 rw[e,Nat.gcd_comm y.toNat,<-Nat.gcd_rec,Nat.gcd_comm]
theorem wq1 (t:Int):yn t=(t.natAbs:Int):=by unfold yn;split <;> lia
theorem wq7 (t:Int):0<=yn t:=by rw[wq1];lia
theorem k7 (t b:Int):yr (yn t) b=((Nat.gcd t.natAbs b.toNat:Nat):Int):=by unfold yr;rw[wq1,cy]
def gOf (t b:Int):Int:=yr (yn t) b
def xu (t b:Int):Int×Int:=(t/gOf t b,b/gOf t b)
theorem y7 {t b:Int}(h:1<=b):1<=gOf t b:=by unfold gOf;rw[k7];have:0<Nat.gcd t.natAbs b.toNat:=Nat.gcd_pos_of_pos_right _ ⋯;lia
theorem wkp {t b:Int}(h:1<=b):gOf t b<=b:=by unfold gOf;rw[k7];have:Nat.gcd t.natAbs b.toNat<=b.toNat:=Nat.gcd_le_right _ ⋯;lia
theorem wxk {t b:Int}(h:1<=b):gOf t b∣b:=by
 unfold gOf;rw[k7];have h1:((Nat.gcd t.natAbs b.toNat:Nat):Int)∣(b.toNat:Int):=fx.mpr (Nat.gcd_dvd_right _ _);have h2:(b.toNat:Int)=b:=by lia
 rwa [h2]at h1
theorem ww5 {t b:Int}:gOf t b∣t:=by unfold gOf;rw[k7];have h1:((Nat.gcd t.natAbs b.toNat:Nat):Int)∣(t.natAbs:Int):=fx.mpr (Nat.gcd_dvd_left _ _);exact Int.dvd_natAbs.mp h1
theorem wwu {t b:Int}:gOf t b*(t/gOf t b)=t:=Int.mul_ediv_cancel' ww5
theorem qjn {t b:Int}(h:1<=b):gOf t b*(b/gOf t b)=b:=Int.mul_ediv_cancel' (wxk h)
theorem qzy {t b:Int}(h:1<=b):(xu t b).1*b=t*(xu t b).2:=by
 unfold xu;dsimp only;have h1:=wwu (t:=t) (b:=b);have h2:=qjn (t:=t) (b:=b) h
 conv=>lhs;rw[<-h2]
 conv=>rhs;rw[<-h1]
 rw[h1,h2];have I:t/gOf t b*b=t/gOf t b*(gOf t b*(b/gOf t b)):=by rw[h2]
 have F:t*(b/gOf t b)=gOf t b*(t/gOf t b)*(b/gOf t b):=by rw[h1]
 rw[I,F,<-Int.mul_assoc,Int.mul_comm (t/gOf t b)]
theorem qvn {t b:Int}(h:1<=b):1<=(xu t b).2:=by
 show 1<=b/gOf t b;have h2:=qjn (t:=t) (b:=b) h;have F:=y7 (t:=t) h;have:0<b/gOf t b:=by
  rcases di 0 (b/gOf t b) with z|z
  .exact z
  .have:=cH z (show 0<=gOf t b by lia);rw[h2,Int.mul_zero]at this;lia
 lia
theorem low_le {t b:Int}(h:1<=b):(xu t b).2<=b:=Int.ediv_le_self _ ⋯
theorem quf {t b:Int}(h:1<=b):gOf (xu t b).1 (xu t b).2=1:=by
 have h3:=y7 (t:=t) h;have Z:=qvn (t:=t) h;obtain⟨g,F⟩:∃g:Nat,gOf t b=(g:Int):=⟨_,by unfold gOf;exact k7 t b⟩;have O:0<g:=by lia
 have L:g=Nat.gcd t.natAbs b.toNat:=by
  have:(g:Int)=((Nat.gcd t.natAbs b.toNat:Nat):Int):=by rw[<-F];unfold gOf;exact k7 t b
  lia
 have S:g*(xu t b).1.natAbs=t.natAbs:=by have:=wwu (t:=t) (b:=b);have e:=bi Int.natAbs this;rw[Int.natAbs_mul,F]at e;simpa [xu,F] using e
 have U:g*(xu t b).2.toNat=b.toNat:=by
  have:=qjn (t:=t) (b:=b) h;rw[F]at this;have q:(xu t b).2=b/(g:Int):=by unfold xu;rw[F]
  have I:b/(g:Int)=((b/(g:Int)).toNat:Int):=by rw[<-q];lia
  rw[q];rw[I]at this;have:((g*(b/(g:Int)).toNat:Nat):Int)=b:=by rw[fJ];exact this
  lia
 unfold gOf;rw[k7];have J:g*Nat.gcd (xu t b).1.natAbs (xu t b).2.toNat=g*1:=by rw[<-Nat.gcd_mul_left,S,U,<-L,Nat.mul_one]
 have:=Nat.eq_of_mul_eq_mul_left O J;rw[this];rfl
theorem wyq {t b c:Int}(h:1<=b)(hc:1<=c):gOf (t*c) (b*c)=gOf t b*c:=by
 unfold gOf;rw[k7,k7];have L:(t*c).natAbs=t.natAbs*c.toNat:=by
  rw[Int.natAbs_mul];have:c.natAbs=c.toNat:=by lia
  rw[this]
 have J:(b*c).toNat=b.toNat*c.toNat:=by
  have I:b=(b.toNat:Int):=by lia
  have F:c=(c.toNat:Int):=by lia
  have:b*c=((b.toNat*c.toNat:Nat):Int):=by rw[fJ,<-I,<-F]
  lia
 rw[L,J,Nat.gcd_mul_right,fJ];have:(c.toNat:Int)=c:=by lia
 rw[this]
theorem qqc {t b c:Int}(h:1<=b)(hc:1<=c):xu (t*c) (b*c)=xu t b:=by unfold xu;rw[wyq h hc];have hg:=y7 (t:=t) h;rw[dW _ _ (show 0<c by lia),dW _ _ (show 0<c by lia)]
end L2
namespace L2
open PySem PySem.Spec PyProof.Rows
def CapAll (env:Env):List (Str×Aj)->Prop
 |[]=>True
 |(y,c)::r=>env.cells.lookup y=some c/\CapAll env r
theorem CapAll.look {env:Env}:∀ {cl:List (Str×Aj)},CapAll env cl->∀ {y:Str} {c:Aj},cl.lookup y=some c->env.cells.lookup y=some c
 |[],_,_,_,e=>by cases e
 |(z,d)::r,h,y,c,e=>by
  rw[aZ]at e;cases hb:y==z with
  |true =>
   rw[hb]at e;rw[eq_of_beq hb];exact h.1.trans e
  |false =>
   rw[hb]at e;exact CapAll.look h.2 e
def HasAll (cl:List (Str×Aj)):List (Str×NameKind)->Prop
 |[]=>True
 |(n,k)::r=>(k=.free->∃c,cl.lookup n=some c)/\k≠.cell/\HasAll cl r
theorem HasAll.nocell {cl:List (Str×Aj)}:∀ {ns:List (Str×NameKind)},HasAll cl ns->∀y∈ns,y.2≠.cell
 |(n,k)::r,h,y,hy=>by
  rcases ap.mp hy with rfl|hy
  .exact h.2.1
  .exact HasAll.nocell h.2.2 y hy
theorem HasAll.has {cl:List (Str×Aj)}{env:Env}:∀ {ns:List (Str×NameKind)},HasAll cl ns->∀ {x:Str} {q:NameKind},q=.cell\/q=.free ->
  (ns.map λ(n,k)=>if(k==NameKind.free&&env.scope.kind==.function&&env.kindOf n==some .cell) then(n,NameKind.cell) else(n,k)).lookup x=some q->∃c,cl.lookup x=some c
 |[],_,_,_,_,e=>by cases e
 |(n,k)::r,h,x,q,hq,e=>by
  have ih:=HasAll.has (env:=env) h.2.2 (x:=x) hq;rw[aV]at e;by_cases hc:(k==NameKind.free&&env.scope.kind==.function&&env.kindOf n==some .cell)=true
  .have e':=e;dsimp only at e';rw[am hc,aZ]at e';cases hb:x==n with
   |true =>
    rw[bT,bT]at hc;obtain⟨c,hcc⟩:=h.1 (eq_of_beq hc.1.1);exact⟨c,by rw[eq_of_beq hb];exact hcc⟩
   |false =>
    rw[hb]at e';exact ih e'
  .have e':=e;dsimp only at e';rw[al hc,aZ]at e';cases hb:x==n with
   |true =>
    rw[hb]at e';have ek:k=q:=ax e';rcases hq with rfl|rfl
    .exact absurd ek h.2.1
    .obtain⟨c,hcc⟩:=h.1 ek;exact⟨c,by rw[eq_of_beq hb];exact hcc⟩
   |false =>
    rw[hb]at e';exact ih e'
def CapIx (X:Cx)(scope:Scope)(cl:List (Str×Aj)):List Nat->Prop
 |[]=>True
 |j::r=>(∃y c,X.N[j]?=some y/\X.env.scope.names.lookup y=some .cell/\(relabel scope X.env).names.lookup y=some .cell/\cl.lookup y=some c)/\CapIx X scope cl r
theorem CapIx.get {X:Cx}{scope:Scope}{cl:List (Str×Aj)}:∀ {M:List Nat},CapIx X scope cl M->∀ {k j:Nat},M[k]?=some j ->
  ∃y c,X.N[j]?=some y/\X.env.scope.names.lookup y=some .cell/\(relabel scope X.env).names.lookup y=some .cell/\cl.lookup y=some c
 |[],_,k,j,e=>by cases e
 |i::r,h,0,j,e=>by cases e;exact h.1
 |i::r,h,k+1,j,e=>CapIx.get h.2 (k:=k) e
def Z0 (X:Cx)(x:Str)(M:List Nat):List Str:=x::M.map λj=>X.N.getD j Str.empty
def zn (M:List Nat)(σ:St)(o:Option V):St:=o::M.map λj=>(σ[j]?).join
abbrev zc (X:Cx)(scope:Scope)(cl:List (Str×Aj))(x:Str)(M:List Nat)(C:Aj)(s2:Ab)(H2:Hp)(fp:List Aj)(pn:List (Aj×Obj)):Cx :=
 { X with N:=Z0 X x M,s₀:=s2,H₀:=H2,env:=compEnvC scope cl C X.env,outer:=X.stack,ex:=fp,fn:=λ_=>false,pn:=pn,xe:=λ_ _=>False }
section
variable {X:Cx}{pins:List (Aj×Obj)}{σ:St}{H:Hp}{s2:Ab}{scope:Scope}{cl:List (Str×Aj)}{x:Str}{M:List Nat}{fp:List Aj}{C:Aj}{h1:Heap}{tk:Nat}
theorem Inv.compG {oo:HO}{xs:List Str}(I:Inv X pins σ H s2)(hc:CapAll X.env cl)(hh:HasAll cl scope.names)(hm:CapIx X scope cl M)(hk:scope.kind=.function)(hC:s2.heap.objs.size<C)
  (keep:∀b o,s2.heap.get? b=some o->h1.get? b=some o) (hn:h1.Ns C λ_=>none) (hD:ObjOk X.prog X.w (upd H s2.heap.objs.size oo) h1 s2.heap.objs.size oo)
  (hfp:∀b∈fp,yp X pins H b) (hob:∀b∈fp,∃o,s2.heap.get? b=some o) :
  Inv { X with N:=xs++M.map λj=>X.N.getD j Str.empty,s₀:=s2,H₀:=H,env:=compEnvC scope cl C X.env,outer:=X.stack,ex:=fp,fn:=λ_=>false,pn:=X.pn++pins,xe:=λ_ _=>False } [] ((xs.map λ_=>none)++M.map λj=>(σ[j]?).join) (upd H s2.heap.objs.size oo) { s2 with heap:=h1,toks:=tk }:=by
 have aj:=I.hok.fresh (a:=s2.heap.objs.size) (ah _);have o:=I.ok;have L:∀y c,cl.lookup y=some c->X.env.cells.lookup y=some c:=λy c e=>hc.look e;have ai:∀b∈fp,b<s2.heap.objs.size:=λb O=>by obtain⟨ob,e⟩:=hob b O;exact aq e
 have aa:∀b∈fp,b∉frs X.stack:=λb O z=>by
  rcases ap.mp (I.stkSub b z) with z|z
  .exact(hfp b O).2.1 z
  .exact(hfp b O).2.2.1 z
 have ak:H C=none:=I.hok.fresh (bH hC);refine⟨⟨o.mod,hk,o.glob,o.blt,bH hC,λy z c J F=>o.inj y z c (L y c J) (L z c F),λy U=>?_,λy c z=>(aI z).elim,o.hd,o.frames,.inl rfl,λb O=>⟨aJ (bv (ai b O) hC),λy c e=>(hfp b O).2.2.2.2.1 y c (L y c e)⟩,
  λb ob e=>I.bs b ob e,aX o.bsz I.sz,λb ob e z=>?_,aa,I.stack,I.stkFree⟩,rfl,I.bare,?_,?_,λy c e=>?_,?_,λy c e=>?_,λp hp=>?_,?_,?_⟩
 .rcases U with U|U
  .exact hh.has (.inl rfl) U
  .exact hh.has (.inr rfl) U
 .obtain⟨J,F⟩:=I.bs b ob e;exact(hfp b z).2.2.2.1.elim (λq=>o.noex b ob e q) λq=>by have:=o.bs b ob e;exact aU _ (aL (aq this.1) q)
 .exact(Un.laid (fs:=frs X.stack) (ex:=fp) (o:=oo) keep (ah _) aj)
 .refine⟨_,hn,λi z v J F e3=>?_⟩;rcases eA i xs.length with hi|hi
  .have F:((xs.map λ_=>(none:Option V))++M.map λj=>(σ[j]?).join)[i]?=some (some v):=F;rw[bG (by rw[ac];exact hi),aD,ag hi]at F;cases F
  have S:(xs++M.map λj=>X.N.getD j Str.empty)[i]?=some z:=J;have Z:((xs.map λ_=>(none:Option V))++M.map λj=>(σ[j]?).join)[i]?=some (some v):=F;rw[bB hi]at S;rw[bB (by rw[ac];exact hi),ac]at Z;generalize i-xs.length=k at S Z;rw[aD]at S Z;cases hj:M[k]? with
  |none=>rw[hj]at S;cases S
  |some j =>
   rw[hj]at S Z;obtain⟨y,c,f1,f2,f3,f4⟩:=hm.get hj;have ez:X.N.getD j Str.empty=z:=ax S;rw[aA,f1]at ez;have an:y=z:=ez;subst an;have ev:(σ[j]?).join=some v:=ax Z;have a0:σ[j]?=some (some v):=by
    cases hs:σ[j]? with
    |none=>rw[hs]at ev;cases ev
    |some w' =>
     rw[hs]at ev;have:w'=some v:=ev;rw[this]
   obtain⟨m,a1,hl⟩:=I.loc;obtain⟨u,r,l⟩:=hl j y v f1 a0 (.inr (.inl f2));refine⟨u,r,.inr ⟨.inl f3,c,f4,?_⟩⟩;rcases l with⟨lk,_⟩|⟨_,c',lc,li⟩
   .have:X.env.scope.names.lookup y=some .local:=lk;rw[f2]at this;cases this
   .rw[L y c f4]at lc;have:=ax lc;subst this;exact li.keeps keep
 .obtain⟨v,hv⟩:=I.cell y c (L y c e);exact⟨v,hv.keeps keep⟩
 .show upd H s2.heap.objs.size oo C=none;rw[wj (ee hC)];exact ak
 .show upd H s2.heap.objs.size oo c=none;obtain⟨v,ob,J,F⟩:=I.cell y c (L y c e);rw[wj (aJ (aq J))];exact I.freeC y c (L y c e)
 .have ad:p∈X.pn++pins:=(aP.mp hp).elim (λz=>z) λz=>nomatch z;obtain⟨J,F,e3,e4,e5⟩:=I.pin p ad;refine⟨keep _ _ J,?_,aJ (bv (aq J) hC),λz=>?_,e5⟩
  .rw[wj (aJ (aq J))];exact F
  .rcases ap.mp (I.stkSub p.1 z) with z|z
   .exact e3 z
   .exact e4 z
 .exact I.hok.laid keep (ah _) hD
 .show((xs.map λ_=>(none:Option V))++M.map λj=>(σ[j]?).join).length=(xs++M.map λj=>X.N.getD j Str.empty).length;simp only[ay,ac]
theorem Inv.comp (I:Inv X pins σ H s2)(hc:CapAll X.env cl)(hh:HasAll cl scope.names)(hm:CapIx X scope cl M)(hk:scope.kind=.function)(hC:s2.heap.objs.size<C)
  (keep:∀b o,s2.heap.get? b=some o->h1.get? b=some o) (hn:h1.Ns C λ_=>none) (hD:h1.get? s2.heap.objs.size=some { cls:=.type "list",data:=.seq #[] 0 })
  (hfp:∀b∈fp,yp X pins H b) (hob:∀b∈fp,∃o,s2.heap.get? b=some o) :
  Inv (zc X scope cl x M C s2 H fp (X.pn++pins)) [] (zn M σ none) (upd H s2.heap.objs.size (.lst [])) { s2 with heap:=h1,toks:=tk }:=I.compG (xs:=[x]) hc hh hm hk hC keep hn ⟨aR _,[],0,.nil,hD⟩ hfp hob
theorem Inv.uncomp {pins':List (Aj×Obj)}{σ':St}{H':Hp}{s':Ab}{h':Heap}(I:Inv X pins σ H s2)(hC:s2.heap.objs.size<=C)(hfp:∀b∈fp,yp X pins H b)
  (J:Inv (zc X scope cl x M C s2 H fp (X.pn++pins)) pins' σ' H' s') (hs:Heap.SameBut C s'.heap h'):Inv X pins σ H' { s' with heap:=h' }:=by
 have F:=J.base;have S:∀b o,s2.heap.get? b=some o->b≠C:=λb o e=>aJ (aL (aq e) hC);have st:∀b o,b≠C->s'.heap.get? b=some o->h'.get? b=some o:=λb o n e=>(hs.2 b n).trans e;refine I.call' (s':={ s' with heap:=h' }) (ch:=fp) J.os ⟨λb o e n nb L=>st b o (S b o e) (F.keep b o e n nb L),λb o e n ad L=>?_,F.free,λb o e L=>?_,F.tups,F.frzs,F.tbls⟩ ?_ J.bare λb aa=>?_
 .obtain⟨sl,Z⟩:=F.slot b o e n ad L;exact⟨sl,st b _ (S b o e) Z⟩
 .obtain⟨o',Z⟩:=F.there b o e L;exact⟨o',st b _ (S b o e) Z⟩
 .intro b u U;have fr:H' C=none:=J.free;refine(J.hok b u U).stay (λc v O e=>st c v ?_ e) (λ_ z=>z) λ_ _ z=>z;rcases O with rfl|O
  .intro z;rw[z,fr]at U;cases U
  .intro z;rw[z,fr]at O;cases O
 .obtain⟨q1,q2,q3,q4,q5,q6⟩:=hfp b aa;exact⟨q4,q2,q5,q6⟩
end
def Jb (J:It)(M:List Nat)(te:TE)(σ:St)(H1:Hp)(Q:VK):Prop:=∀p,H1 p=none->∃W:Nat->Nat->List V->Hp->Prop,(∃m,W 0 m [] (upd H1 p (.lst []))) /\
 ∀i m ys H2,W i m ys H2->H2 p=some (.lst ys)/\ys.length<sizeLine/\((J.stop i H2/\Q (.ref p) H2)\/(J.go i H2/\∀v H3,J.yld i H2 v H3 ->
  te (zn M σ (some v)) H3 λy H4=>H4 p=some (.lst ys)/\∃m',m'<m/\W (i+1) m' (ys++[y]) (upd H4 p (.lst (ys++[y])))))
def tComp (M:List Nat)(wi:TI)(te:TE):TE:=λσ H Q=>wi σ H λJ H1=>Jb J M te σ H1 Q
theorem Y1 {Y:Cx}{tg e:Expr}{k:Nat}{acc:Ag}{it:Aj}{fp:List Aj}{tn:Nat->Heap->Prop}{J:It}{ps:Pos}{REST:Sem PySem.Fin}{post:Result->Ab->Prop}{gg:TG}{pins:List (Aj×Obj)}{σ:St}{V:Nat->Nat->Hp->Prop}{Qd:Hp->Prop}{s0:Ab}{H0:Hp}{n0:Nat}
  (T:Turn Y.prog Y.w Y.K tg J fp it tn) (hc:Y.calm=true) (hx:∀v s,Y.xe v s->False)
  (hturn:compTurn e k (.ref it) acc Y.env=(standAt ps >>= λ_=>pyNext (.ref it) >>= λr=>match r with|none=>pure (.done .next)|some v=>letOwnedTupleGo tg (.ref it) v >>= λ_=>assign tg Y.env v >>= λ_=>REST))
  (hun:Y.A.under (.compLoop e k (.ref it) acc Y.env)=Y.A) (hden:(model Y.prog Y.w).den (.compLoop e k (.ref it) acc Y.env)=((compTurn e k (.ref it) acc Y.env).onRaise λz=>do noteFrame z Y.env;theTreesLotGoes z))
  (hg:PG Y tg gg) (fok:∀H2:Hp,(∀b∈fp,H2 b=none)->∀b∈fp,yp Y pins H2 b)
  (hV:∀i n H2,V i n H2->(J.stop i H2/\Qd H2)\/(J.go i H2/\∀v H3,J.yld i H2 v H3->∃Z:St->Hp->Prop,gg v σ H3 Z/\∀σ4 H4,Z σ4 H4->(σ.length=σ4.length/\∀(k:Nat) z,σ[k]?=some (some z)->σ4[k]?=some (some z))/\∀pins' s',Inv Y pins' σ4 H4 s' ->
   wpAny (model Y.prog Y.w) Y.A REST (λr s5=>r=Fin.again (.compLoop e k (.ref it) acc Y.env)/\∃H5,Inv Y pins' σ4 H5 s5/\∃n',n'<n/\V (i+1) n' H5) Y.xe s'))
  (fin:∀H2 s4,Inv Y pins σ H2 s4->Qd H2->post (.ok .next) s4) (I:Inv Y pins σ H0 s0) (v0:V 0 n0 H0) (t0:tn 0 s0.heap) (nf:∀b∈fp,H0 b=none) :
  codeAny (model Y.prog Y.w) Y.A (.compLoop e k (.ref it) acc Y.env) post s0:=by
 refine codeAny_loop rfl (λn F=>∃i H2,V i n H2/\Inv Y pins σ H2 F/\tn i F.heap/\∀b∈fp,H2 b=none) (λn F hI=>?_) n0 ⟨0,H0,v0,I,t0,nf⟩;obtain⟨i,H2,w,J2,t,aa⟩:=hI;rw[hun,hden];refine wpAny_noted ?_;rw[hturn];refine ae (bP (ae ?_));rcases hV i n H2 w with⟨ai,hq⟩|⟨a1,hy⟩
 .refine aK (T.done Y rfl rfl rfl hc i pins F _ H2 (λ_ _=>False) J2 (fok H2 aa) t ai) (λr s4 S=>?_) λ_ _ z=>z.elim;obtain⟨rfl,J4⟩:=S;exact aF (fin H2 s4 J4 hq)
 .refine aK (T.item Y rfl rfl rfl hc i pins F _ H2 (λ_ _=>False) J2 (fok H2 aa) t a1) (λr s4 S=>?_) λ_ _ z=>z.elim;obtain⟨u,rfl,hw⟩:=S;refine ae (aK hw (λ_ s5 an=>?_) λ_ _ z=>z.elim);obtain⟨v,H3,J5,rv,yl,O,nf⟩:=an;obtain⟨Z,hz,hZ⟩:=hy v H3 yl;refine ae (aK (hg _ s5 _ H3 v u _ (J5.pinned (fok H3 nf) (T.obj _ _ O)) rv hz) (λ_ s6 ak=>?_) λv s z=>(hx v s z).elim);obtain⟨σ6,H6,J6,z6⟩:=ak;obtain⟨⟨hl,ad⟩,hR⟩:=hZ σ6 H6 z6;refine aK (hR _ s6 J6) (λr s7 aj=>?_) λv s z=>(hx v s z).elim;obtain⟨rfl,H7,U,n',a0,v7⟩:=aj;refine⟨rfl,n',a0,i+1,H7,v7,(U.unpinned (pins:=pins)).weak hl ad,?_,?_⟩
  .exact T.keep _ _ _ O λb L o e=>(U.pin (b,o) (aC _ (aC _ (jv L e)))).1
  .intro b L;obtain⟨o,e,_⟩:=T.obj _ _ O b L;exact(U.pin (b,o) (aC _ (aC _ (jv L e)))).2.1
section
variable {Y:Cx}{elt cd:Expr}{te:TE}{tt:TT}{c:Code}{p:Aj}{σ:St}{H:Hp}{pins:List (Aj×Obj)}{s:Ab}
def appS (elt:Expr)(acc:Ag)(env:Env)(c:Code):Sem PySem.Fin:=(eval elt env >>= λx=>call (.builtin "list.append") [acc,x] >>= λ_=>pure ()) >>= λ_=>again c
theorem qy4 {ys:List V}{N:List V->Hp->Prop}(hx:∀v s,Y.xe v s->False)(he:PE Y elt te)(J:Inv Y pins σ H s)(hz:ys.length<sizeLine)(h:te σ H λy H4=>H4 p=some (.lst ys)/\N (ys++[y]) (upd H4 p (.lst (ys++[y])))) :
  wpAny (model Y.prog Y.w) Y.A (appS elt (.ref p) Y.env c) (λr s5=>r=Fin.again c/\∃H5,Inv Y pins σ H5 s5/\∃zs,N zs H5) Y.xe s:=by
 refine ae (ae (aK (he _ s _ H _ J h) (λI L Z=>?_) λ_ _ z=>z));obtain⟨y,H4,J7,O,aa,S⟩:=Z;refine ae (aK (jy (X:=Y) _ L _ H4 (.ref p) [y] (.ref p) [I] (λ_ F=>F=upd H4 p (.lst (ys++[y]))) J7 rfl (.cons O .nil) ⟨_,ys,y,rfl,rfl,aa,hz,rfl⟩) (λ_ s8 U=>?_) λ_ _ z=>z);obtain⟨_,F,J8,_,rfl⟩:=U;exact aF (aF ⟨rfl,_,J8,_,S⟩)
def tstS (cd:Expr)(env:Env)(a b:Sem PySem.Fin):Sem PySem.Fin:=(forIn [cd] true λc r=>if r=true then do let ok <-isTrue c env (eval c env);pure (ForInStep.yield ok) else pure (ForInStep.yield r)) >>= λok=>if ok=true then a else b
theorem wky {a b:Sem PySem.Fin}{F:Hp->Prop}{G:Hp->Prop}{R:PySem.Fin->Ab->Prop}(ht:PT Y cd tt)(J:Inv Y pins σ H s)(h:tt σ H λok H4=>if ok=true then F H4 else G H4)
  (ha:∀s' H4,Inv Y pins σ H4 s'->F H4->wpAny (model Y.prog Y.w) Y.A a R Y.xe s') (hb:∀s' H4,Inv Y pins σ H4 s'->G H4->wpAny (model Y.prog Y.w) Y.A b R Y.xe s') :
  wpAny (model Y.prog Y.w) Y.A (tstS cd Y.env a b) R Y.xe s:=by
 refine ae (wpAny_tests_one (aK (ht _ s _ H _ J h) (λok I U=>?_) λ_ _ z=>z));obtain⟨S,O,L⟩:=U;cases ok with
 |false=>exact hb I S O L
 |true=>exact ha I S O L
end
section
variable {X:Cx}{elt iter cd:Expr}{x:Str}{px pos:Pos}{scope:Scope}{cl:List (Str×Aj)}{M:List Nat}{wi:TI}{te:TE}{tt:TT}{pins:List (Aj×Obj)}{σ:St}
theorem qqb {N:List Str}{C:Aj}{s2:Ab}{H1:Hp}{fp:List Aj}(hcap:CapAll X.env cl)(I2:Inv X pins σ H1 s2)(hlt:s2.heap.objs.size<C)(hfp:∀b∈fp,yp X pins H1 b)(hbl:∀b∈fp,b<s2.heap.objs.size)(H2:Hp)(hn:∀b∈fp,H2 b=none) :
  ∀b∈fp,yp { X with N:=N,s₀:=s2,H₀:=H1,env:=compEnvC scope cl C X.env,outer:=X.stack,ex:=fp,fn:=λ_=>false,pn:=X.pn++pins,xe:=λ_ _=>False } [] H2 b:=λb hb=>by
 obtain⟨q1,q2,q3,q4,q5,q6⟩:=hfp b hb;refine⟨hn b hb,aJ (bv (hbl b hb) hlt),λz=>?_,.inl hb,λy c e=>q5 y c (hcap.look e),λp hp=>q6 p ((aP.mp hp).elim (λz=>z) λz=>nomatch z)⟩;rcases ap.mp (I2.stkSub b z) with z|z
 .exact q2 z
 .exact q3 z
theorem Ys {tg:Expr}{ifs:List Expr}{rest:List Comprehension}(hclos:closureFor scope X.env=pure cl)(hhas:HasAll cl scope.names)(hk:scope.kind=.function)
  (hnames:∀y∈scope.names,y.2=.local->scope.names.lookup y.1=some .local) (hi:PI X tg iter wi) (hs:∀z,foldedSetIterable iter X.env z=pure z)
  {use:Option (Ag->Sem Unit)} {QQ:Ag->Ab->Prop} {s:Ab} {H:Hp} {ps:Pos} {R:It->Hp->Prop} (I:Inv X pins σ H s) (h:wi σ H R)
  (go:∀(it:Aj) (fp:List Aj) (tn:Nat->Heap->Prop) (J:It) (H1:Hp) (s2:Ab) (C:Aj) (h3:Heap) (tk:Nat),Inv X pins σ H1 s2->Turn X.prog X.w X.K tg J fp it tn->tn 0 h3->(∀b∈fp,yp X pins H1 b)->(∀b∈fp,b<s2.heap.objs.size)->(∀b∈fp,∃o,s2.heap.get? b=some o)->R J H1->s2.heap.objs.size<C ->
   (∀b o,s2.heap.get? b=some o->h3.get? b=some o)->(h3.Ns C λ_=>none)->h3.get? s2.heap.objs.size=some { cls:=.type "list",data:=.seq #[] 0 } ->
   codeAny (model X.prog X.w) X.A (.compLoop (.ListComp elt (⟨tg,iter,ifs,0⟩::rest) scope pos) 0 (.ref it) (.ref s2.heap.objs.size) (compEnvC scope cl C X.env)) (compPost (model X.prog X.w) X.A X.xe use QQ (.ref s2.heap.objs.size) C) { s2 with heap:=h3,toks:=tk }) :
  wpAny (model X.prog X.w) X.A (comprehension (.ListComp elt (⟨tg,iter,ifs,0⟩::rest) scope pos) scope X.env ps (newList []) false (eval iter X.env) use) QQ X.xe s:=by
 refine wpAny_comprehension_free (use:=use) rfl hs hclos hk hnames ?_;refine thn (hi pins s σ H _ I h) λv s1 h1=>thn h1 λaj s2 h2=>?_;obtain⟨it,fp,tn,J,H1,rfl,I2,T,L,ai,hR⟩:=h2;refine dB ?_;refine wpAny_newFunctionEnv hhas.nocell (by intro y hy;cases hy) (λh3 O F=>?_) hk;dsimp only at O F ⊢;generalize hH2:s2.heap.push { cls:=.type "list",dict:=none,data:=.seq ([]:List Ag).toArray }=G2 at O F ⊢;have hC:G2.objs.size=s2.heap.objs.size+1:=by rw[<-hH2,eI]
 have S:s2.heap.objs.size<G2.objs.size:=by lia
 have ad:∀b o,s2.heap.get? b=some o->h3.get? b=some o:=λb o e=>by rw[F.2 b (aJ (bv (aq e) S))];exact af _ (hH2▸af _ e)
 have hD:h3.get? s2.heap.objs.size=some { cls:=.type "list",data:=.seq #[] 0 }:=by rw[F.2 _ (aJ S)];exact af _ (hH2▸az _ rfl)
 have Z:=T.keep 0 _ _ L λb _ o e=>ad b o e;have aa:=λtk=>go it fp tn J H1 s2 G2.objs.size h3 tk I2 T Z ai (λb U=>let ⟨o,e,_⟩:=T.obj 0 _ L b U;aq e) (λb U=>let ⟨o,e,_⟩:=T.obj 0 _ L b U;⟨o,e⟩) hR S ad O hD;exact codeAny_compStart_list (aa _) (T.self _ 0 _ _ _ Z (aa _))
theorem Qx (M:List Nat)(σ:St)(v:V):(zn M σ none).length=(zn M σ (some v)).length/\∀(k:Nat) z,(zn M σ none)[k]?=some (some z)->(zn M σ (some v))[k]?=some (some z):=⟨rfl,λk z ez=>by
 cases k with
 |zero=>cases ez
 |succ k=>exact ez⟩
end
section
variable {X:Cx}{elt iter:Expr}{x:Str}{px pos:Pos}{scope:Scope}{cl:List (Str×Aj)}{M:List Nat}{wi:TI}{te:TE}
theorem wvc (hc:X.calm=true)(hclos:closureFor scope X.env=pure cl)(hcap:CapAll X.env cl)(hhas:HasAll cl scope.names)(hix:CapIx X scope cl M)(hk:scope.kind=.function)
  (hnames:∀y∈scope.names,y.2=.local->scope.names.lookup y.1=some .local) (hx:scope.names.lookup x=some .local) (hnd:(Z0 X x M).Nodup) (hi:PI X (.Name x px) iter wi)
  (he:∀C s2 H2 fp pn,PE (zc X scope cl x M C s2 H2 fp pn) elt te) (hs:∀z,foldedSetIterable iter X.env z=pure z)
  {use:Option (Ag->Sem Unit)} {QQ:Ag->Ab->Prop} {pins:List (Aj×Obj)} {s:Ab} {σ:St} {H:Hp} {Q:VK} {ps:Pos} (I:Inv X pins σ H s) (h:wi σ H λJ H1=>Jb J M te σ H1 Q)
  (fin:∀(C:Aj) (s2 s4:Ab) (H1 H2:Hp) (fp:List Aj),Inv X pins σ H1 s2->s2.heap.objs.size<C->(∀b∈fp,yp X pins H1 b)->Inv (zc X scope cl x M C s2 H1 fp (X.pn++pins)) [] (zn M σ none) H2 s4->Q (.ref s2.heap.objs.size) H2 ->
   compPost (model X.prog X.w) X.A X.xe use QQ (.ref s2.heap.objs.size) C (.ok .next) s4) :
  wpAny (model X.prog X.w) X.A (comprehension (.ListComp elt [⟨.Name x px,iter,[],0⟩] scope pos) scope X.env ps (newList []) false (eval iter X.env) use) QQ X.xe s:=by
 refine Ys hclos hhas hk hnames hi hs I h λit fp tn J H1 s2 C h3 tk L T t3 F Z ad hR O aa ai hD=>?_;obtain⟨W,⟨m0,w0⟩,hW⟩:=hR s2.heap.objs.size (L.hok.fresh (ah _));have U:(relabel scope X.env).names.lookup x=some .local:=df hx;refine Y1 (Y:=zc X scope cl x M C s2 H1 fp (X.pn++pins)) (V:=λi n H2=>∃ys,W i n ys H2) (Qd:=Q (.ref s2.heap.objs.size)) (REST:=appS elt (.ref s2.heap.objs.size) (compEnvC scope cl C X.env) _) T hc (λ_ _ z=>z) (compTurn_list1 ..) rfl rfl (xf (i:=0) hnd rfl (.inl U) (.inr U)) (qqb hcap L O F Z) (λi n H2 ⟨ys,w⟩=>?_) (λH2 s4 J4 q=>fin C s2 s4 H1 H2 fp L O F J4 q) (L.comp hcap hhas hix hk O aa ai hD F ad) ⟨[],w0⟩ t3 λb hb=>by rw[wj (aJ (Z b hb))];exact(F b hb).1
 obtain⟨hp,hz,ak⟩:=hW i n ys H2 w;refine ak.imp id λ⟨aj,hy⟩=>⟨aj,λv H3 yl=>⟨λσ4 H4=>σ4=zn M σ (some v)/\H3=H4,⟨rfl,rfl⟩,λ_ _ e=>?_⟩⟩;obtain⟨rfl,rfl⟩:=e;refine⟨Qx M σ v,λan s' J=>?_⟩;refine aK (qy4 (N:=λzs S=>∃m',m'<n/\W (i+1) m' zs S) (λ_ _ z=>z) (he _ _ _ _ _) J hz (hy v H3 yl)) (λr s5 ⟨e,S,J5,zs,m',hm,w'⟩=>⟨e,S,J5,m',hm,zs,w'⟩) λ_ _ z=>z
theorem vm (hc:X.calm=true)(hclos:closureFor scope X.env=pure cl)(hcap:CapAll X.env cl)(hhas:HasAll cl scope.names)(hix:CapIx X scope cl M)(hk:scope.kind=.function)
  (hnames:∀y∈scope.names,y.2=.local->scope.names.lookup y.1=some .local) (hx:scope.names.lookup x=some .local) (hnd:(Z0 X x M).Nodup) (hi:PI X (.Name x px) iter wi)
  (he:∀C s2 H2 fp pn,PE (zc X scope cl x M C s2 H2 fp pn) elt te) (hs:autoParam (∀z,foldedSetIterable iter X.env z=pure z) aU3._auto_1) :
  PE X (.ListComp elt [⟨.Name x px,iter,[],0⟩] scope pos) (tComp M wi te):=by
 intro pins s σ H Q I h;rw[eval_ListComp];refine wvc hc hclos hcap hhas hix hk hnames hx hnd hi he hs (use:=none) I h λC s2 s4 H1 H2 fp Z S U F L=>?_;obtain⟨m,O,_⟩:=F.loc;exact⟨m,O,λh' J=>⟨.ref s2.heap.objs.size,H2,Z.uncomp (bH S) U F J,rfl,L⟩⟩
theorem Inv.but {pins:List (Aj×Obj)}{σ:St}{H:Hp}{s:Ab}{h':Heap}{C:Aj}(I:Inv X pins σ H s)(hn:H C=none)(h1:X.s₀.heap.objs.size<=C)(h2:C≠X.env.locals)(h3:∀y c,X.env.cells.lookup y=some c->c≠C)(h4:∀p∈X.pn++pins,p.1≠C)
  (hs:Heap.SameBut C s.heap h'):Inv X pins σ H { s with heap:=h' }:=by
 have st:∀b o,b≠C->s.heap.get? b=some o->h'.get? b=some o:=λb o n e=>(hs.2 b n).trans e;have L:∀b,b∉[C]->b≠C:=λb z e=>z (by rw[e];exact .head _);refine I.call' (s':={ s with heap:=h' }) (ch:=[C]) rfl ⟨λb o e n _ F=>st b o (L b F) e,λb o e n _ F=>⟨o.slots,st b o (L b F) e⟩,λb o e n _=>n,λb o e F=>⟨o,st b o (L b F) e⟩,λ_ _ e=>e,λ_ _ _ e=>e,λb ps e=>⟨#[],by rw[e];simp⟩⟩ ?_ I.bare λb S=>?_
 .intro b u O;refine(I.hok b u O).stay (λc v J e=>st c v ?_ e) (λ_ z=>z) λ_ _ z=>z;rcases J with rfl|J
  .intro z;rw[z,hn]at O;cases O
  .intro z;rw[z,hn]at J;cases J
 .rw[ar.mp S];exact⟨.inr h1,h2,h3,h4⟩
end
theorem yx {M:List Nat}{lo:Int}{n:Nat}{te:TE}{σ:St}{H:Hp}{Q:VK}(f:Nat->V)(hn:n<=1000000)(he:∀(i:Nat) (H':Hp) (R:VK),i<n->Same H H'->R (f i) H'->te (zn M σ (some (.int (lo+i)))) H' R)
  (k:∀p,H p=none->Q (.ref p) (upd H p (.lst ((List.range n).map f)))):Jb (Itr lo n) M te σ H Q:=by
 intro p np;refine⟨λi m ys H2=>i<=n/\m=n-i/\ys=(List.range i).map f/\H2=upd H p (.lst ys),⟨n,aR _,rfl,rfl,rfl⟩,?_⟩;rintro i m ys H2 ⟨hi,rfl,rfl,rfl⟩;refine⟨qy,?_,?_⟩
 .rw[ac,bI];have:(1000000:Nat)<sizeLine:=by decide
  lia
 .by_cases hlt:i<n
  .refine .inr ⟨hlt,?_⟩;rintro v H3 ⟨rfl,rfl⟩;refine he i (upd H p (.lst ((List.range i).map f))) _ hlt (Same.upd np) ⟨qy,n-(i+1),⋯,⋯,rfl,?_,?_⟩
   .rw[cw,aQ];rfl
   .rw[Qv]
  .have:i=n:=by lia
   subst this;exact .inl ⟨ah _,k p np⟩
theorem qzd {K:Aa}{M:List Nat}{a:Aj}{xs:List V}{te:TE}{σ:St}{H:Hp}{Q:VK}(f:V->V)(hS:SqL K H a xs)(hn:xs.length<=1000000)(he:∀(x:V) (H':Hp) (R:VK),x∈xs->Same H H'->R (f x) H'->te (zn M σ (some x)) H' R)
  (k:∀p,H p=none->Q (.ref p) (upd H p (.lst (xs.map f)))):Jb (Itl K a) M te σ H Q:=by
 intro p np;refine⟨λi m ys H2=>i<=xs.length/\m=xs.length-i/\ys=(xs.take i).map f/\H2=upd H p (.lst ys),⟨xs.length,aR _,rfl,rfl,rfl⟩,?_⟩;rintro i m ys H2 ⟨hi,rfl,rfl,rfl⟩;have I:SqL K (upd H p (.lst ((xs.take i).map f))) a xs:=Same.sql (Same.upd np) hS;refine⟨qy,?_,?_⟩
 .rw[ac,bA];have:(1000000:Nat)<sizeLine:=by decide
  lia
 .by_cases hlt:i<xs.length
  .have F:xs[i]?=some xs[i]:=ag hlt;refine .inr ⟨⟨xs,_,I,F⟩,?_⟩;rintro v H3 ⟨rfl,hv⟩;have e:=hv xs I;rw[F]at e;have L:=ax e;subst L;refine he _ _ _ (bt hlt) (Same.upd np) ⟨qy,xs.length-(i+1),⋯,⋯,rfl,?_,?_⟩
   .rw[List.take_succ,F,aQ];rfl
   .rw[Qv]
  .have J:i=xs.length:=by lia
   subst J;refine .inl ⟨⟨xs,I,ah _⟩,?_⟩;rw[cE];exact k p np
end L2
namespace L2
open PySem PySem.Spec PyProof.Rows
section
variable {X:Cx}
theorem qz3 {pins:List (Aj×Obj)}{σ:St}{H:Hp}{s:Ab}{p:Aj}{ns:List Int}(I:Inv X pins σ H s)(hS:SqL X.K H p (ns.map V.int)) :
  ∃ts:Array (Int×Tok),s.heap.IsList p (intItems ts)/\ns=ts.toList.map (·.1):=by
 obtain⟨aa,L,⟨o,n,U,S,e3,O⟩,hz⟩:=I.list hS;have hi:=wqy L;obtain⟨ts,F⟩:=hi.allInts.items;refine⟨ts,⟨o,U,S,n,by rw[<-F];exact O⟩,?_⟩;have Z:=hi.numsOf;have J:=nums_intItems (xs:=ts);rw[<-F]at J;exact Z.symm.trans J
theorem qxc (hc:X.calm=true):jw X (.builtin "min") (λxs H Q=>∃(p:Aj) (ns:List Int),xs=[.ref p]/\SqL X.K H p (ns.map V.int)/\0<ns.length/\∀m,m∈ns->(∀a∈ns,m<=a)->Q (.int m) H):=by
 intro pins s σ H xs us Q I r h;obtain⟨p,ns,rfl,hS,aa,q⟩:=h;obtain⟨u,rfl,S⟩:=yt r;cases(show u=Value.ref p from S);obtain⟨J,Z,F⟩:=qz3 I hS;have L:J.size=ns.length:=by rw[F,ac,aO]
 refine min_intList (I.ok.hd hc) Z ⋯ λv h' tk U hk=>?_;obtain⟨t,rfl⟩:=intItems_at U;obtain⟨b1,b2⟩:=argBest_lt (numAt J) (J.size-1);refine⟨.int _,H,I.kept hk,⟨t,rfl⟩,q _ ?_ λa O=>?_⟩
 .rw[F,numAt_eq];refine getD_mem ?_;rw[<-F,<-L];lia
 .rw[F]at O;obtain⟨j,hj,rfl⟩:=mem_getD O;rw[<-F,<-L]at hj;rw[<-numAt_eq];exact b2 j ⋯
theorem qx0 (hc:X.calm=true):jw X (.builtin "max") (λxs H Q=>∃(p:Aj) (ns:List Int),xs=[.ref p]/\SqL X.K H p (ns.map V.int)/\0<ns.length/\∀m,m∈ns->(∀a∈ns,a<=m)->Q (.int m) H):=by
 intro pins s σ H xs us Q I r h;obtain⟨p,ns,rfl,hS,aa,q⟩:=h;obtain⟨u,rfl,S⟩:=yt r;cases(show u=Value.ref p from S);obtain⟨J,Z,F⟩:=qz3 I hS;have L:J.size=ns.length:=by rw[F,ac,aO]
 refine max_intList (I.ok.hd hc) Z ⋯ λv h' tk U hk=>?_;obtain⟨t,rfl⟩:=intItems_at U;obtain⟨b1,b2⟩:=argBest_gt (numAt J) (J.size-1);refine⟨.int _,H,I.kept hk,⟨t,rfl⟩,q _ ?_ λa O=>?_⟩
 .rw[F,numAt_eq];refine getD_mem ?_;rw[<-F,<-L];lia
 .rw[F]at O;obtain⟨j,hj,rfl⟩:=mem_getD O;rw[<-F,<-L]at hj;rw[<-numAt_eq];exact b2 j ⋯
theorem qjm:∀ {bs:List Bool} {its:List Ag},Vals (bs.map V.bl) its->its=bs.map Value.bool
 |[],_,.nil=>rfl
 |b::bs,_,.cons r t=>by have e:_=Value.bool b:=r;rw[aV,<-qjm t,e]
theorem wx6 (bs:List Bool):(List.range bs.length).all (λi=>bs.getD i true)=bs.all id:=by
 rw[cN,bu,bu];constructor
 .intro h b I;obtain⟨i,hi,rfl⟩:=dZ I;have:=h i (bc.mpr hi);rw[aA,ag hi]at this;exact this
 .intro h i hi;have F:=bc.mp hi;rw[aA,ag F];exact h _ (bt F)
theorem ux (hc:X.calm=true):jw X (.builtin "all") (λxs H Q=>∃(p:Aj) (bs:List Bool),xs=[.ref p]/\SqL X.K H p (bs.map V.bl)/\Q (.bl (bs.all id)) H):=by
 intro pins s σ H xs us Q I r h;obtain⟨p,bs,rfl,hS,q⟩:=h;obtain⟨u,rfl,ru⟩:=yt r;cases(show u=Value.ref p from ru);obtain⟨J,rv,⟨o,n,Z,L,e3,e4⟩,hz⟩:=I.list hS;have S:=qjm rv;have O:s.heap.IsList p J.toArray:=⟨o,Z,L,n,e4⟩;have aa:p<s.heap.objs.size:=aq Z;refine call_all_walk (wpAny_pyIter_list O ?_);refine⟨s.heap.objs.size,_,_,_,_,_,λi=>bs.getD i true,rfl,Walks.list (A:=X.A.in1) (I.ok.hd hc) _ p (aJ aa) J.toArray,⟨⟨_,az _ rfl,rfl,rfl⟩,O.push _⟩,λi v s' Q' E' hP hQ=>?_,λh' tk hk=>?_⟩
 .have F:J[i]?=some v:=by simpa using hP
  rw[S,aD]at F;cases hb:bs[i]? with
  |none=>rw[hb]at F;cases F
  |some b =>
   rw[hb]at F;have ev:Value.bool b=v:=ax F;subst ev;refine cV ?_;have L:bs.getD i true=b:=by rw[aA,hb];rfl
   have U:Q' (bs.getD i true) s':=hQ;rw[L]at U;exact U
 .have ad:J.toArray.size=bs.length:=by rw[S];simp
  rw[ad,wx6];refine⟨.bl _,H,I.kept λb ob e=>hk b ob (λhm=>?_) (af _ e),rfl,q⟩;have z:b=s.heap.objs.size:=by simpa using hm
  exact aU _ (z▸aq e)
end
structure MCal (P:Ac)(w:Ah)(K:Aa)(mg:Str->Option Ag)(base:Heap)(C:Aj)(m:Str)(k:Nat)(sp:Sp):Prop where
 ex:∃f fd ps,Meth K C m f/\FnOk P w K mg base (CXE P w) k f fd ps sp/\Binds K fd ps []
structure CCal (P:Ac)(w:Ah)(K:Aa)(mg:Str->Option Ag)(base:Heap)(x:Str)(C:Aj)(k:Nat)(sp:Sp):Prop where
 ex:∃f fd ps,mg x=some (.ref C)/\Mk K C f/\FnOk P w K mg base (CXE P w) k f fd ps sp/\Binds K fd ps []
structure MethIn (K:Aa)(C:Aj)(m qual:Str)(st:Stmt):Prop where
 ex:∃f fd,W.findIn K (.ref C) m=some (some (.ref f))/\W.isFn K (.ref f)=true/\Fun K m qual st f fd
theorem wyt {K:Aa}{C:Aj}{m qual:Str}{st:Stmt}{f:Aj}{oc:Ag}{od an:Option Aj}{osl:Array (Option Ag)}{kV doc pm cdv ct:Ag}(a:W.findIn K (.ref C) m=some (some (.ref f)))(i:W.isFn K (.ref f)=true)
  (l:K.lookup f=some ⟨oc,od,.func (W.fnOf m qual (y0 st) (j8 st) (wf st) .none kV doc pm an cdv ct),osl⟩) (c:W.codeIn K cdv qual=true) (k:W.keepIn K (.ref f)=true):MethIn K C m qual st:=⟨_,_,a,i,wkf l c k⟩
def zt (x qual:Str)(st:Stmt)(ps:List Str):Prop:=∀(kV doc pm:Ag) (an:Option Aj) (cdv ct:Ag) (us:List Ag),us.length=ps.length->bindArgs (W.fnOf x qual (y0 st) (j8 st) (wf st) .none kV doc pm an cdv ct) ⟨us,[]⟩=pure (ps.zip us)
section
variable {P:Ac}{w:Ah}{K:Aa}{mg:Str->Option Ag}{base:Heap}{C:Aj}
theorem MethIn.cal {m qual:Str}{st:Stmt}{ps:List Str}{k:Nat}{sp:Sp}(d:MethIn K C m qual st)(b:zt m qual st ps)(ok:∀f fd,Fun K m qual st f fd->FnOk P w K mg base (CXE P w) k f fd ps sp):MCal P w K mg base C m k sp:=by obtain⟨f,fd,a,i,F⟩:=d.ex;exact⟨f,fd,ps,⟨a,i,F.kp⟩,ok f fd F,F.binds b⟩
theorem MethIn.ccal {x qual:Str}{st:Stmt}{ps:List Str}{k:Nat}{sp:Sp}(d:MethIn K C "__init__" qual st)(hm:mg x=some (.ref C))(mk:W.makesIn K C=true)(kc:W.keepIn K (.ref C)=true)(b:zt "__init__" qual st ps)
  (ok:∀f fd,Fun K "__init__" qual st f fd->FnOk P w K mg base (CXE P w) k f fd ps sp):CCal P w K mg base x C k sp:=by
 obtain⟨f,fd,a,i,F⟩:=d.ex;exact⟨f,fd,ps,hm,⟨mk,a,i,kc⟩,ok f fd F,F.binds b⟩
end
section
variable {X:Cx}{C:Aj}{x m:Str}{k:Nat}{sp:Sp}{E:St->XK}{p pos apos:Pos}{e o:Expr}{es:List Expr}{ta:TE}{t:TA}
theorem qyx (c:CCal X.prog X.w X.K X.mg X.base x C k sp)(hr:Room (k+1) X.A)(hg:Gl X x)(hx:k9 X E)
  (ha:PA X (e::es) t) (hdb:autoParam ((x==("__debug__" : Str))=false) aU1._auto_1) (he:autoParam (starEach (e::es) X.env=(false,eval e X.env)::starEach es X.env) aU4._auto_1) (hpl:autoParam ((backTo pos (starEach es X.env)).any (·.1)=false) aU4._auto_1) :
  PE X (.Call (.Name x p) (e::es) [] pos) (qu3 C sp E t):=by
 obtain⟨f,fd,ps,I,M,F,b⟩:=c.ex;exact wkx M F hr hg I b hx ha hdb he hpl
theorem wv4 {pl:Sem Bool}(he:PE X o ta)(cl:Cls X.K C)(c:MCal X.prog X.w X.K X.mg X.base C m k sp)(hr:Room k X.A)(hx:k9 X E)(ha:PA X (e::es) t)
  (hst:autoParam (starEach (e::es) X.env=(false,eval e X.env)::starEach es X.env) aU4._auto_1) (hpl:autoParam ((backTo pos (starEach es X.env)).any (·.1)=false) aU4._auto_1)
  (ht:autoParam (eval (.Call (.Attribute o m apos) (e::es) [] pos) X.env=(do
   let ov <-eval o X.env
   standAt apos.atName
   let (f,first) <-holding [ov] (getMethod ov m pl)
   callWith pos f first (backTo pos (starEach (e::es) X.env)) (backToKw pos (keywordEach [] X.env)))) aU4._auto_1) :
  PE X (.Call (.Attribute o m apos) (e::es) [] pos) (qq4 C m sp E ta t):=by
 obtain⟨f,fd,ps,I,F,b⟩:=c.ex;exact wks he cl I F hr b hx ha hst hpl ht
theorem uh {pl:Sem Bool}(he:PE X o ta)(cl:Cls X.K C)(c:MCal X.prog X.w X.K X.mg X.base C m k sp)(hr:Room k X.A)(hx:k9 X E)
  (ht:autoParam (eval (.Call (.Attribute o m apos) [] [] pos) X.env=(do
   let ov <-eval o X.env
   standAt apos.atName
   let (f,first) <-holding [ov] (getMethod ov m pl)
   callWith pos f first (backTo pos (starEach [] X.env)) (backToKw pos (keywordEach [] X.env)))) aU4._auto_1) :
  PE X (.Call (.Attribute o m apos) [] [] pos) (qq4 C m sp E ta Qu):=by
 obtain⟨f,fd,ps,I,F,b⟩:=c.ex;exact wx0 he cl I F hr b hx ht
end
end L2
namespace L2
open PySem PySem.Spec PyProof.Rows
theorem qyc {K:Aa}{C D:Aj}(d:ExcC K D)(hm:W.mroIn K C (.ref D)=some true):Qr K C D:=by
 intro M A E h g dr t U e Z Q X I O q;obtain⟨tl,N,a1,a2,a3,a4,a5,a6,a7,a8,a9,b0,b1,b2,b3,b5,mN,F,hN,aa,T⟩:=qqu X d.q;have S:=T.hasType bQ.hasBase;have J:(Value.ref D::tl).contains (.type "BaseException")=true:=by rw[List.contains_cons,S,Bool.or_true]
 have L:W.Looks M h (isSubtype (.ref C) (.ref D)) true:=W.looks_mroIn X hm;have f:=tc_notTuple;unfold excMatches
 repeat (first | (with_reducible refine bZ I ?_;rw[O]) | with_reducible refine bZ F ?_ | (with_reducible refine d5 F ?_;rw[J]) | with_reducible refine L.at ?_ | wp_step)
 exact q
section
variable {X:Cx}{pins pn:List (Aj×Obj)}{σ:St}{H H':Hp}{s s':Ab}{e:Aj}{ob:Obj}
end
section
variable {X:Cx}{x n:Str}{i:Nat}{D0:Aj}{G:Aj->Prop}{np hpos pos:Pos}{b₀:Stmt}{body suite:List Stmt}{tb:(St->XK)->TS}{th:Aj->TS}
end
end L2
namespace L2
open PySem
theorem qky {t b:Int}(hb:1<=b):(xu t b).1<0↔t<0:=by
 have I:=y7 (t:=t) hb;have F:gOf t b*(xu t b).1=t:=wwu;constructor
 .intro h;have:=eN h (show 0<gOf t b by lia);rw[F,Int.mul_zero]at this;exact this
 .intro h;rcases di (xu t b).1 0 with z|z
  .exact z
  .have:=cH z (show 0<=gOf t b by lia);rw[F,Int.mul_zero]at this;lia
theorem qu0 {t b n:Int}(hb:1<=b):n*(xu t b).2<(xu t b).1↔n*b<t:=by
 have J:=y7 (t:=t) hb;have I:gOf t b*(xu t b).1=t:=wwu;have L:gOf t b*(xu t b).2=b:=qjn hb;have F:gOf t b*(n*(xu t b).2)=n*b:=by generalize gOf t b=g at *;generalize (xu t b).2=y at *;grind
 constructor
 .intro h;have:=eN h (show 0<gOf t b by lia);rw[I,F]at this;exact this
 .intro h;rcases di (n*(xu t b).2) (xu t b).1 with z|z
  .exact z
  .have:=cH z (show 0<=gOf t b by lia);rw[I,F]at this;lia
end L2
namespace L2
open PySem PySem.Spec PyProof.Rows
def qvc (J:It)(M:List Nat)(tt:TT)(te:TE)(σ:St)(H1:Hp)(Q:VK):Prop:=∀p,H1 p=none->∃W:Nat->Nat->List V->Hp->Prop,(∃m,W 0 m [] (upd H1 p (.lst []))) /\
 ∀i m ys H2,W i m ys H2->H2 p=some (.lst ys)/\ys.length<sizeLine/\((J.stop i H2/\Q (.ref p) H2)\/(J.go i H2/\∀v H3,J.yld i H2 v H3 ->
  tt (zn M σ (some v)) H3 λb H4=>if b=true then te (zn M σ (some v)) H4 (λy H5=>H5 p=some (.lst ys)/\∃m',m'<m/\W (i+1) m' (ys++[y]) (upd H5 p (.lst (ys++[y])))) else H4 p=some (.lst ys)/\∃m',m'<m/\W (i+1) m' ys H4))
def tCompI (M:List Nat)(wi:TI)(tt:TT)(te:TE):TE:=λσ H Q=>wi σ H λJ H1=>qvc J M tt te σ H1 Q
section
variable {X:Cx}{elt iter cd:Expr}{x:Str}{px pos:Pos}{scope:Scope}{cl:List (Str×Aj)}{M:List Nat}{wi:TI}{tt:TT}{te:TE}
theorem wx2 (hc:X.calm=true)(hclos:closureFor scope X.env=pure cl)(hcap:CapAll X.env cl)(hhas:HasAll cl scope.names)(hix:CapIx X scope cl M)(hk:scope.kind=.function)
  (hnames:∀y∈scope.names,y.2=.local->scope.names.lookup y.1=some .local) (hx:scope.names.lookup x=some .local) (hnd:(Z0 X x M).Nodup) (hi:PI X (.Name x px) iter wi)
  (ht:∀C s2 H2 fp pn,PT (zc X scope cl x M C s2 H2 fp pn) cd tt) (he:∀C s2 H2 fp pn,PE (zc X scope cl x M C s2 H2 fp pn) elt te) (hs:∀z,foldedSetIterable iter X.env z=pure z)
  {use:Option (Ag->Sem Unit)} {QQ:Ag->Ab->Prop} {pins:List (Aj×Obj)} {s:Ab} {σ:St} {H:Hp} {Q:VK} {ps:Pos} (I:Inv X pins σ H s) (h:wi σ H λJ H1=>qvc J M tt te σ H1 Q)
  (fin:∀(C:Aj) (s2 s4:Ab) (H1 H2:Hp) (fp:List Aj),Inv X pins σ H1 s2->s2.heap.objs.size<C->(∀b∈fp,yp X pins H1 b)->Inv (zc X scope cl x M C s2 H1 fp (X.pn++pins)) [] (zn M σ none) H2 s4->Q (.ref s2.heap.objs.size) H2 ->
   compPost (model X.prog X.w) X.A X.xe use QQ (.ref s2.heap.objs.size) C (.ok .next) s4) :
  wpAny (model X.prog X.w) X.A (comprehension (.ListComp elt [⟨.Name x px,iter,[cd],0⟩] scope pos) scope X.env ps (newList []) false (eval iter X.env) use) QQ X.xe s:=by
 refine Ys hclos hhas hk hnames hi hs I h λit fp tn J H1 s2 C h3 tk L T t3 F aa ai hR O ad aj hD=>?_;obtain⟨W,⟨m0,w0⟩,hW⟩:=hR s2.heap.objs.size (L.hok.fresh (ah _));have Z:(relabel scope X.env).names.lookup x=some .local:=df hx;refine Y1 (Y:=zc X scope cl x M C s2 H1 fp (X.pn++pins)) (V:=λi n H2=>∃ys,W i n ys H2) (Qd:=Q (.ref s2.heap.objs.size)) (REST:=tstS cd (compEnvC scope cl C X.env) (appS elt (.ref s2.heap.objs.size) (compEnvC scope cl C X.env) _) (again _)) T hc (λ_ _ z=>z) (compTurn_list ..) rfl rfl (xf (i:=0) hnd rfl (.inl Z) (.inr Z)) (qqb hcap L O F aa) (λi n H2 ⟨ys,w⟩=>?_) (λH2 s4 J4 q=>fin C s2 s4 H1 H2 fp L O F J4 q) (L.comp hcap hhas hix hk O ad aj hD F ai) ⟨[],w0⟩ t3 λb hb=>by rw[wj (aJ (aa b hb))];exact(F b hb).1
 obtain⟨hp,hz,an⟩:=hW i n ys H2 w;refine an.imp id λ⟨ak,hy⟩=>⟨ak,λv H3 yl=>⟨λσ4 H4=>σ4=zn M σ (some v)/\H3=H4,⟨rfl,rfl⟩,λ_ _ e=>?_⟩⟩;obtain⟨rfl,rfl⟩:=e;refine⟨Qx M σ v,λa0 s' J=>?_⟩;exact wky (ht _ _ _ _ _) J (hy v H3 yl) (λs6 H6 S h6=>aK (qy4 (N:=λzs U=>∃m',m'<n/\W (i+1) m' zs U) (λ_ _ z=>z) (he _ _ _ _ _) S hz h6) (λr s5 ⟨e,U,J5,zs,m',hm,w'⟩=>⟨e,U,J5,m',hm,zs,w'⟩) λ_ _ z=>z)
  λs6 H6 S ⟨_,m',hm,w'⟩=>aF ⟨rfl,H6,S,m',hm,ys,w'⟩
theorem Jm {i:Nat}{y:Str}{py spos:Pos}(hN:X.N.Nodup)(hyi:X.N[i]?=some y)(hyl:Loc X.env.scope y)(hc:X.calm=true)(hclos:closureFor scope X.env=pure cl)(hcap:CapAll X.env cl)(hhas:HasAll cl scope.names)(hix:CapIx X scope cl M)(hk:scope.kind=.function)
  (hnames:∀y∈scope.names,y.2=.local->scope.names.lookup y.1=some .local) (hx:scope.names.lookup x=some .local) (hnd:(Z0 X x M).Nodup) (hi:PI X (.Name x px) iter wi)
  (ht:∀C s2 H2 fp pn,PT (zc X scope cl x M C s2 H2 fp pn) cd tt) (he:∀C s2 H2 fp pn,PE (zc X scope cl x M C s2 H2 fp pn) elt te) (hs:autoParam (∀z,foldedSetIterable iter X.env z=pure z) aU3._auto_1)
  (hsw:autoParam (swapsWith (.ListComp elt [⟨.Name x px,iter,[cd],0⟩] scope pos) (some (.Name y py)) spos.line X.env=pure true) aU4._auto_1) (hyf:autoParam (X.fn y=true\/X.env.scope.names.lookup y=some .local) aU0._auto_1) :
  PS X (.Assign [.Name y py] (.ListComp elt [⟨.Name x px,iter,[cd],0⟩] scope pos) spos) (tAsg (tCompI M wi tt te) (wq3 i)):=by
 intro pins s σ H D I h;rw[exec_Assign_Name_used _ _ _ _ hsw];refine ae (bP (ae ?_));refine ae (aK (wx2 hc hclos hcap hhas hix hk hnames hx hnd hi ht he hs (use:=some (assign (.Name y py) X.env)) (QQ:=λ_ s'=>SP X pins D .next s') I h λC s2 S H1 H2 fp J L a0 J4 Z=>?_) (λ_ s' Z=>aF (aF Z)) λ_ _ e=>e);have F:Inv X pins σ H2 S:=J.uncomp (h':=S.heap) (bH L) a0 J4 (e9 _ _);have ai:H2 C=none:=J4.free;obtain⟨mC,an,_⟩:=J4.loc;obtain⟨U,a6,a7,ak,ad⟩:=id an;have aa:C≠X.env.locals:=λz=>aU _ (bv L (z▸J.lt));have a2:X.s₀.heap.objs.size<=C:=aX J.sz (bH L);have a4:∀y c,X.env.cells.lookup y=some c->c≠C:=λy c e z=>by obtain⟨v,o,O,_⟩:=J.cell y c e;exact aU _ (bv L (z▸aq O))
 have a3:∀p∈X.pn++pins,p.1≠C:=λp hp z=>aU _ (bv L (z▸aq (J.pin p hp).1));have a9:C∉frs X.stack:=λz=>by
  rcases ap.mp (J.stkSub C z) with q|q
  .exact aa q
  .obtain⟨_,o,O,_⟩:=J.funs.mem (b:=C) q;exact aU _ (bv L (aq O))
 have a1:C∉X.fs:=λz=>by obtain⟨_,o,O,_⟩:=J.funs.mem (b:=C) z;exact aU _ (bv L (aq O))
 have a8:Inv X (pins++[(C,U)]) σ H2 S:=⟨F.ok,F.os,F.bare,F.base,F.loc,F.cell,F.free,F.freeC,λp hp=>by
  rcases aP.mp hp with q|q
  .exact F.pin p (bg _ q)
  .rcases aP.mp q with q|q
   .exact F.pin p (aC _ q)
   .rw[ar.mp q]
    exact⟨ak,ai,aa,a1,λv z=>by rw[ad.1]at z;cases z⟩,F.hok,F.len⟩
 show wpAny _ _ (assign (.Name y py) X.env (.ref s2.heap.objs.size)) _ _ _;refine eY (ud a8 hN hyi hyl (show RelV (.ref s2.heap.objs.size) (.ref s2.heap.objs.size) from rfl) (λs5 I5=>?_) hyf);have a5:=(I5.pin (C,U) (aC _ (aC _ (.head _)))).1;exact⟨mC,⟨U,a6,a7,a5,ad⟩,λh' aj=>⟨_,H2,I5.unpinned.but ai a2 aa a4 a3 aj,Z⟩⟩
end
end L2
namespace L2
open PySem PySem.Spec PyProof.Rows
section
variable {κ:Type}[DecidableEq κ]
def wp (kvs:List (κ×V))(k:κ):Option V:=(kvs.find? λkv=>decide (kv.1=k)).map (·.2)
def vd (kvs:List (κ×V))(k:κ)(v:V):List (κ×V) :=
 if(kvs.any λkv=>decide (kv.1=k))=true then kvs.map (λkv=>if kv.1=k then(kv.1,v) else kv) else kvs++[(k,v)]
def Wx (kvs:List (κ×V))(k:κ):List (κ×V):=kvs.filter λkv=>decide (kv.1≠k)
theorem zx {p:κ×V}{r:List (κ×V)}{k:κ}(e:p.1=k):wp (p::r) k=some p.2:=by simp[wp,cO,e]
theorem x9 {p:κ×V}{r:List (κ×V)}{k:κ}(e:¬ p.1=k):wp (p::r) k=wp r k:=by simp[wp,cO,e]
theorem uf (k:κ):∀kvs:List (κ×V),(kvs.any λkv=>decide (kv.1=k))=(wp kvs k).isSome
 |[]=>rfl
 |p::r=>by
  rw[fN];by_cases e:p.1=k
  .simp only[zx e,aM e,Bool.true_or,Option.isSome_some]
  .rw[x9 e,aN e,Bool.false_or];exact uf k r
theorem qj3 (k j:κ)(y:V):∀kvs:List (κ×V),wp (kvs.map λkv=>if kv.1=k then(kv.1,y) else kv) j=(wp kvs j).map λx=>if j=k then y else x
 |[]=>rfl
 |p::r=>by
  have ih:=qj3 k j y r;rw[aV];by_cases h:p.1=k
  .rw[am h];by_cases e:p.1=j
   .rw[zx (p:=(p.1,y)) e,zx e,cb,am (e.symm.trans h)]
   .rw[x9 (p:=(p.1,y)) e,x9 e,ih]
  .rw[al h];by_cases e:p.1=j
   .rw[zx (p:=p) e,zx e,cb,al (λz=>h (e.trans z))]
   .rw[x9 (p:=p) e,x9 e,ih]
theorem qzx (k j:κ)(y:V):∀kvs:List (κ×V),wp kvs k=none->wp (kvs++[(k,y)]) j=if j=k then some y else wp kvs j
 |[],_=>by
  by_cases e:k=j
  .rw[am e.symm];exact zx (p:=(k,y)) e
  .rw[al (λz=>e z.symm)];exact x9 (p:=(k,y)) e
 |p::r,hn=>by
  rw[List.cons_append];have hk:¬ p.1=k:=λz=>by rw[zx z]at hn;cases hn
  rw[x9 hk]at hn;have ih:=qzx k j y r hn;by_cases e:p.1=j
  .rw[zx e,zx e,al (λz=>hk (e.trans z))]
  .rw[x9 e,x9 e,ih]
theorem Q5 (kvs:List (κ×V))(k j:κ)(y:V):wp (vd kvs k y) j=if j=k then some y else wp kvs j:=by
 unfold vd;by_cases a:(kvs.any λF=>decide (F.1=k))=true
 .rw[am a,qj3];rw[uf]at a;by_cases e:j=k
  .obtain⟨x,I⟩:=aH.mp a;rw[am e,e,I,cb,am rfl]
  .rw[al e];cases wp kvs j with
   |none=>rfl
   |some x=>rw[cb,al e]
 .rw[al a];refine qzx k j y kvs ?_;rw[uf]at a;cases q:wp kvs k with
  |none=>rfl
  |some x=>rw[q]at a;exact(a rfl).elim
theorem vf (kvs:List (κ×V))(k:κ)(v:V):(vd kvs k v).length<=kvs.length+1:=by
 unfold vd;split
 .rw[ac];lia
 .rw[ay,aw,cP];lia
theorem qyn {kvs:List (κ×V)}{k:κ}(v:V)(h:wp kvs k=none):vd kvs k v=kvs++[(k,v)]:=by unfold vd;rw[uf,h];exact al ⋯
theorem RelO.isSome_eq {o:Option V}{u:Option Ag}(r:RelO o u):o.isSome=u.isSome:=by
 cases o with
 |none=>cases u with
  |none=>rfl
  |some _=>exact(show False from r).elim
 |some _=>cases u with
  |none=>exact(show False from r).elim
  |some _=>rfl
theorem RelO.getD {o:Option V}{u:Option Ag}{d:V}{d':Ag}(r:RelO o u)(rd:RelV d d'):RelV (o.getD d) (u.getD d'):=by
 cases o with
 |none=>cases u with
  |none=>exact rd
  |some _=>exact(show False from r).elim
 |some _=>cases u with
  |none=>exact(show False from r).elim
  |some _=>exact r
theorem KV.val {kvs:List (κ×V)}{vs:List (κ×Ag)}(r:KV kvs vs)(k:κ):RelO (wp kvs k) (valueAt vs k):=by
 unfold KV at r
 induction r with
 |nil=>exact True.intro
 |@cons p q ps qs h t ih =>
  obtain⟨h1,h2⟩:=h;by_cases e:p.1=k
  .have F:q.1=k:=h1.symm.trans e;have b:valueAt (q::qs) k=some q.2:=by simp[valueAt,cO,F]
   rw[zx e,b];exact h2
  .have F:¬ q.1=k:=λz=>e (h1.trans z);have b:valueAt (q::qs) k=valueAt qs k:=by simp[valueAt,cO,F]
   rw[x9 e,b];exact ih
theorem KV.any {kvs:List (κ×V)}{vs:List (κ×Ag)}(r:KV kvs vs)(k:κ):(kvs.any λkv=>decide (kv.1=k))=vs.any λkv=>decide (kv.1=k):=by
 unfold KV at r
 induction r with
 |nil=>rfl
 |cons h t ih=>rw[fN,fN,ih,h.1]
theorem KV.repl {kvs:List (κ×V)}{vs:List (κ×Ag)}(r:KV kvs vs)(k:κ){y:V}{u:Ag}(ry:RelV y u) :
  KV (kvs.map λkv=>if kv.1=k then(kv.1,y) else kv) (vs.map λkv=>if kv.1=k then(kv.1,u) else kv):=by
 unfold KV at r ⊢
 induction r with
 |nil=>exact .nil
 |@cons p q ps qs h t ih =>
  rw[aV,aV];refine .cons ?_ ih;obtain⟨h1,h2⟩:=h;by_cases e:p.1=k
  .rw[am e,am (h1.symm.trans e)];exact⟨h1,ry⟩
  .rw[al e,al (λz=>e (h1.trans z))];exact⟨h1,h2⟩
theorem KV.put {kvs:List (κ×V)}{vs:List (κ×Ag)}(r:KV kvs vs)(k:κ){y:V}{u:Ag}(ry:RelV y u):KV (vd kvs k y) (stored vs k u):=by
 unfold vd stored;rw[r.any k];by_cases e:(vs.any λF=>decide (F.1=k))=true
 .rw[am e,am e];exact r.repl k ry
 .rw[al e,al e];exact Paired.snoc r ⟨rfl,ry⟩
theorem KV.drop {kvs:List (κ×V)}{vs:List (κ×Ag)}(r:KV kvs vs)(k:κ):KV (Wx kvs k) (without vs k):=by
 unfold KV at r ⊢;unfold Wx without
 induction r with
 |nil=>exact .nil
 |@cons p q ps qs h t ih =>
  obtain⟨h1,h2⟩:=h;rw[bU,bU];by_cases e:p.1=k
  .have a:¬ decide (p.1≠k)=true:=by simp[e]
   have b:¬ decide (q.1≠k)=true:=by simp[h1.symm.trans e]
   rw[al a,al b];exact ih
  .have F:¬ q.1=k:=λz=>e (h1.trans z);have a:decide (p.1≠k)=true:=by simp[e]
   have b:decide (q.1≠k)=true:=by simp[F]
   rw[am a,am b];exact .cons ⟨h1,h2⟩ ih
theorem KV.length {kvs:List (κ×V)}{vs:List (κ×Ag)}(r:KV kvs vs):kvs.length=vs.length:=bN r
theorem qjq (kvs:List (κ×V))(k:κ):(Wx kvs k).length<=kvs.length:=cm _ _
end
theorem Yw {P:Ac}{w:Ah}{k:Key}{u:Ag}(r:RelV (kV k) u):(xt P w).is k u=true:=by
 cases k with
 |inl i=>obtain⟨t,e⟩:=(show ∃t,u=Value.int i t from r);subst e;exact qjx P w i t
 |inr x=>obtain⟨t,e⟩:=(show ∃t,u=Value.str x t from r);subst e;exact qyj P w x t
theorem qzs {P:Ac}{w:Ah}:∀ {ks:List Key} {us:List Ag},Vals (ks.map kV) us->ItemsAre (xt P w) ks us
 |[],_,r=>by rw[cx]at r;cases r;exact .nil
 |k::ks,_,r=>by
  rw[aV]at r;cases r with
  |cons h t=>exact .cons (Yw h) (qzs t)
abbrev KT (H:Hp):List (List Key×V)->List (List Key×Aj×Ag)->Prop:=Paired λp q=>p.1=q.1/\H q.2.1=some (.tup (p.1.map kV))/\RelV p.2 q.2.2
theorem KT.val {H:Hp}{kvs:List (List Key×V)}{xs:List (List Key×Aj×Ag)}(r:KT H kvs xs)(k:List Key):RelO (wp kvs k) ((atKey xs k).map (·.2)):=by
 induction r with
 |nil=>exact True.intro
 |@cons p q ps qs h t ih =>
  obtain⟨h1,_,h2⟩:=h;by_cases e:p.1=k
  .have F:q.1=k:=h1.symm.trans e;have b:atKey (q::qs) k=some q.2:=by simp[atKey,cO,F]
   rw[zx e,b];exact h2
  .have F:¬ q.1=k:=λz=>e (h1.trans z);have b:atKey (q::qs) k=atKey qs k:=by simp[atKey,cO,F]
   rw[x9 e,b];exact ih
theorem KT.repl {H:Hp}{kvs:List (List Key×V)}{xs:List (List Key×Aj×Ag)}(r:KT H kvs xs)(k:List Key){y:V}{u:Ag}(ry:RelV y u) :
  KT H (kvs.map λkv=>if kv.1=k then(kv.1,y) else kv) (xs.map (putAt k u)):=by
 induction r with
 |nil=>exact .nil
 |@cons p q ps qs h t ih =>
  rw[aV,aV];refine .cons ?_ ih;obtain⟨h1,h2,F⟩:=h;unfold putAt;by_cases e:p.1=k
  .rw[am e,am (h1.symm.trans e)];exact⟨h1,h2,ry⟩
  .rw[al e,al (λz=>e (h1.trans z))];exact⟨h1,h2,F⟩
theorem KT.put {H:Hp}{kvs:List (List Key×V)}{xs:List (List Key×Aj×Ag)}(r:KT H kvs xs)(k:List Key){b:Aj}{y:V}{u:Ag}(hb:H b=some (.tup (k.map kV)))(ry:RelV y u) :
  KT H (vd kvs k y) (storedH xs k b u):=by
 have e:(kvs.any λF=>decide (F.1=k))=(atKey xs k).isSome:=by rw[uf,(r.val k).isSome_eq,cW]
 unfold vd storedH;rw[e];by_cases q:(atKey xs k).isSome=true
 .rw[am q,am q];exact r.repl k ry
 .rw[al q,al q];exact Paired.snoc r ⟨rfl,hb,ry⟩
theorem KT.keeps {H H':Hp}{kvs:List (List Key×V)}{xs:List (List Key×Aj×Ag)}(r:KT H kvs xs)(ht:∀b ys,H b=some (.tup ys)->H' b=some (.tup ys)):KT H' kvs xs :=
 Paired.mapP r λ_ _ z=>⟨z.1,ht _ _ z.2.1,z.2.2⟩
section
variable {P:Ac}{w:Ah}{H:Hp}{h:Heap}{a:Aj}
theorem rd_of {u:HO}(ok:HOk P w H h)(e:Rd H a u):ObjOk P w H h a u:=e.ok ok
theorem Zs {kvs:List (Key×V)}(ok:HOk P w H h)(e:Rd H a (.dK kvs)):kvs.length<=sizeLine/\(a==sysModules)=false/\∃vs,KV kvs vs/\h.DictOf (xt P w) a vs :=
 show ObjOk P w H h a (.dK kvs) from rd_of ok e
theorem qzn {kvs:List (Key×V)}(ok:HOk P w H h)(e:H a=some (.dK kvs)):kvs.length<=sizeLine/\(a==sysModules)=false/\∃vs,KV kvs vs/\h.DictOf (xt P w) a vs:=Zs ok (.inl e)
theorem Zx {ks:List Key}(ok:HOk P w H h)(e:H a=some (.tup (ks.map kV))):(tupleKind (xt P w)).is h ks a:=by obtain⟨_,F,r,o,h1,h2,n,I⟩:=(show ObjOk P w H h a (.tup (ks.map kV)) from ok a _ e);exact⟨o,F.toArray,n,h1,h2,I,by simpa using qzs r⟩
theorem qqr {kvs:List (List Key×V)}(ok:HOk P w H h)(e:Rd H a (.dT kvs)):kvs.length<=sizeLine/\(a==sysModules)=false /\
  ∃xs,KT H kvs xs/\h.DictOfH (tupleKind (xt P w)) a xs:=by
 obtain⟨z,y,xs,r,o,es,O,h1,h2,L,J,I⟩:=(show ObjOk P w H h a (.dT kvs) from rd_of ok e);refine⟨z,y,xs,r,o,es,O,h1,h2,L,J,λx F=>?_,I⟩;have S:∀ {l:List (List Key×V)} {m:List (List Key×Aj×Ag)},KT H l m->∀x∈m,(tupleKind (xt P w)).is h x.1 x.2.1:=by
  intro l m q
  induction q with
  |nil=>intro x F;exact nomatch F
  |@cons p q ps qs hq t ih =>
   intro x F;rcases ap.mp F with e|F
   .subst e;exact Zx ok (by rw[<-hq.1];exact hq.2.1)
   .exact ih x F
 exact S r x F
theorem dt_of {kvs:List (List Key×V)}(ok:HOk P w H h)(e:H a=some (.dT kvs)):kvs.length<=sizeLine/\(a==sysModules)=false /\
  ∃xs,KT H kvs xs/\h.DictOfH (tupleKind (xt P w)) a xs:=qqr ok (.inl e)
end
def DGet (H:Hp)(a:Aj)(y:V)(r:Option V):Prop :=
 (∃kvs k,Rd H a (.dK kvs)/\y=kV k/\r=wp kvs k)\/∃kvs k b,Rd H a (.dT kvs)/\y=.ref b/\H b=some (.tup (k.map kV))/\r=wp kvs k
def DPut (H:Hp)(a:Aj)(y v:V)(H':Hp):Prop :=
 (∃kvs k,H a=some (.dK kvs)/\y=kV k/\kvs.length<sizeLine/\H'=upd H a (.dK (vd kvs k v))) \/
 ∃kvs k b,H a=some (.dT kvs)/\y=.ref b/\H b=some (.tup (k.map kV))/\kvs.length<sizeLine/\H'=upd H a (.dT (vd kvs k v))
theorem DGet.k {H:Hp}{a:Aj}{kvs:List (Key×V)}{k:Key}(e:H a=some (.dK kvs)):DGet H a (kV k) (wp kvs k):=.inl ⟨kvs,k,.inl e,rfl,rfl⟩
theorem DPut.k {H:Hp}{a:Aj}{kvs:List (Key×V)}{k:Key}{v:V}(e:H a=some (.dK kvs))(hl:kvs.length<sizeLine):DPut H a (kV k) v (upd H a (.dK (vd kvs k v))):=.inl ⟨kvs,k,e,rfl,hl,rfl⟩
section
variable {X:Cx}{pins:List (Aj×Obj)}{σ:St}{H:Hp}{s:Ab}{a:Aj}{y v:V}{u r:Ag}{o:Option V}{A:Ae}{E:Ag->Ab->Prop}
theorem Inv.big (I:Inv X pins σ H s):sysModules<s.heap.objs.size:=by have h:mainGlobals<s.heap.objs.size:=(I.mod.glob.keeps I.bk).lt;exact bv ⋯ h
theorem wxp {Q:Ag->Ab->Prop}(hu:A.units+1<cLine)(I:Inv X pins σ H s)(g:DGet H a y (some v))(ry:RelV y u)(h:∀w' s',Inv X pins σ H s'->RelV v w'->Q w' s') :
  wpAny (model X.prog X.w) A (getItem (.ref a) u) Q E s:=by
 rcases g with⟨kvs,k,e,O,l⟩|⟨kvs,k,b,e,O,eb,l⟩
 .subst O;obtain⟨z,hd,S,J,dd⟩:=Zs I.hok e;obtain⟨w',L,F⟩:=RelO.some_of (v:=v) (o:=valueAt S k) (by rw[l];exact J.val k);exact wpAny_getItem_of (Yw ry) dd.mapOf L (h w' _ (I.tok _) F)
 .subst O;cases(show u=Value.ref b from ry);obtain⟨z,hd,xs,J,dd⟩:=qqr I.hok e;obtain⟨w',L,F⟩:=RelO.some_of (v:=v) (o:=(atKey xs k).map (·.2)) (by rw[l];exact J.val k);obtain⟨p,Z,U⟩:=ce.mp L;refine wpAny_getItem_heap (cL hu) (Zx I.hok eb) dd Z ?_;rw[U];exact h w' _ (I.tok _) F
theorem zf2 {Q:Ag->Ab->Prop}(hu:A.units+1<cLine)(I:Inv X pins σ H s)(g:DGet H a y o)(ry:RelV y u)(h:∀s',Inv X pins σ H s'->Q (.bool o.isSome) s') :
  wpAny (model X.prog X.w) A (compareOp .In u (.ref a)) Q E s:=by
 rcases g with⟨kvs,k,e,L,l⟩|⟨kvs,k,b,e,L,O,l⟩
 .subst L;obtain⟨z,J,S,F,dd⟩:=Zs I.hok e;refine wpAny_in_of (Yw ry) J dd.mapOf ?_;rw[<- (F.val k).isSome_eq,<-l];exact h _ (I.tok _)
 .subst L;cases(show u=Value.ref b from ry);obtain⟨z,J,xs,F,dd⟩:=qqr I.hok e;refine wpAny_in_heap (cL hu) (Zx I.hok O) J dd ?_;have q:=(F.val k).isSome_eq;rw[cW]at q;rw[<-q,<-l];exact h _ (I.tok _)
theorem wyd {Q:Ag->Ab->Prop}(hu:A.units+1<cLine)(I:Inv X pins σ H s)(g:DGet H a y o)(ry:RelV y u)(h:∀s',Inv X pins σ H s'->Q (.bool (!o.isSome)) s') :
  wpAny (model X.prog X.w) A (compareOp .NotIn u (.ref a)) Q E s:=by
 rcases g with⟨kvs,k,e,L,l⟩|⟨kvs,k,b,e,L,O,l⟩
 .subst L;obtain⟨z,J,S,F,dd⟩:=Zs I.hok e;refine wpAny_notIn_of (Yw ry) J dd.mapOf ?_;rw[<- (F.val k).isSome_eq,<-l];exact h _ (I.tok _)
 .subst L;cases(show u=Value.ref b from ry);obtain⟨z,J,xs,F,dd⟩:=qqr I.hok e;refine wpAny_notIn_heap (cL hu) (Zx I.hok O) J dd ?_;have q:=(F.val k).isSome_eq;rw[cW]at q;rw[<-q,<-l];exact h _ (I.tok _)
theorem Wf {h':Heap}{t':Nat}{ob:HO}(I:Inv X pins σ H s)(mu:Mut (H a))(hs:Heap.SameBut a s.heap h')(he:∃q,h'.get? a=some q)(new:ObjOk X.prog X.w (upd H a ob) h' a ob) :
  Inv X pins σ (upd H a ob) { s with heap:=h',toks:=t' } :=
 I.write (x:=a) (e:=a) mu (.inl rfl) (λb q hb z=>(hs.2 b hb).trans z) he new
theorem qwn {P:Ac}{w:Ah}{H':Hp}{h':Heap}{kvs:List (Key×V)}{vs:List (Key×Ag)}(z:kvs.length<=sizeLine)(hd:(a==sysModules)=false)(rel:KV kvs vs)(dd:h'.DictOf (xt P w) a vs) :
  ObjOk P w H' h' a (.dK kvs):=⟨z,hd,vs,rel,dd⟩
theorem ww6 {H':Hp}{Q:Unit->Ab->Prop}(hu:A.units+1<cLine)(I:Inv X pins σ H s)(g:DPut H a y v H')(ry:RelV y u)(rv:RelV v r)(h:∀s',Inv X pins σ H' s'->Q () s') :
  wpAny (model X.prog X.w) A (setItem (.ref a) u r) Q E s:=by
 rcases g with⟨kvs,k,e,Z,l,eH⟩|⟨kvs,k,b,e,Z,eb,l,eH⟩
 .subst Z eH;obtain⟨z,U,vs,F,dd⟩:=qzn I.hok e;have O:vs.length<=sizeLine:=by rw[<-F.length];exact z
  have S:(vd kvs k v).length<=sizeLine:=by have:=vf kvs k v;lia
  refine wpAny_setItem_pairs (hsz:=O) (Yw ry) dd λh' L hs=>h _ ?_;have he:∃q,h'.get? a=some q:=let ⟨q,_,_,J,_⟩:=L;⟨q,J⟩;exact Wf I (by rw[e];exact True.intro) hs he (qwn S U (F.put k rv) L)
 .subst Z eH;cases(show u=Value.ref b from ry);obtain⟨z,U,xs,F,dd⟩:=dt_of I.hok e;have O:xs.length<=sizeLine:=by rw[<-bN F];exact z
  have S:(vd kvs k v).length<=sizeLine:=by have:=vf kvs k v;lia
  refine wpAny_setItem_heap (hsz:=O) (cL hu) (Zx I.hok eb) dd λh' L hs=>h _ ?_;obtain⟨q,es,ep,J,h2,h3,h4,_,h5⟩:=L;refine Wf I (by rw[e];exact True.intro) hs ⟨q,J⟩ ⟨S,U,_,(F.put k eb rv).keeps λc ys ec=>?_,q,es,ep,J,h2,h3,h4,h5⟩;rw[wj (ne_of ec e (λz=>nomatch z))];exact ec
end
section
variable {X:Cx}{pins:List (Aj×Obj)}{σ:St}{H:Hp}{s:Ab}{a:Aj}{kvs:List (Key×V)}{k:Key}{u:Ag}{A:Ae}{E:Ag->Ab->Prop}
theorem ww0 {Q:Unit->Ab->Prop}(I:Inv X pins σ H s)(e:H a=some (.dK kvs))(ry:RelV (kV k) u)(l:(wp kvs k).isSome=true)(h:∀s',Inv X pins σ (upd H a (.dK (Wx kvs k))) s'->Q () s') :
  wpAny (model X.prog X.w) A (delItem (.ref a) u) Q E s:=by
 obtain⟨z,Z,O,J,dd⟩:=qzn I.hok e;refine wpAny_delItem_slot dd.typeIs ⋯ eT
  (fG eT dd.typeIs PySem.F.entry_dict_delitem (PySem.F.args_dict_delitem_2 _ _) (meets_dict_delitem_pairs (xt X.prog X.w) a (Yw ry)) ⟨O,dd,by rw[<-J.length];exact z,by rw[<- (J.val k).isSome_eq];exact l,λh' L hs=>h _ ?_⟩)
 have U:∃q,h'.get? a=some q:=let ⟨q,_,_,S,_⟩:=L;⟨q,S⟩;exact Wf I (by rw[e];exact True.intro) hs U (qwn (aX (qjq kvs k) z) Z (J.drop k) L)
end
def NoSl (i:Expr):Prop:=∀ov iv,subscripted i false ov iv=operate [ov,iv] (getItem ov iv)
theorem wyk {prog:Ac}{w:Ah}{A:Ae}{E:Ag->Ab->Prop}{s:Ab}{env:Env}{value slice:Expr}{pos:Pos}{T id:String}{Q:Ag->Ab->Prop}
  (hl:typeLookup (.type T) "__getitem__" = pure (some (.builtin id))) (hs:NoSl slice)
  (h:wpAny (model prog w) A (eval value env) (λo s₁=>wpAny (model prog w) A (eval slice env) (λi s₂=>s₂.TypeIs o T/\wpAny (model prog w) A (getItem o i) Q E s₂) E s₁) E s) :
  wpAny (model prog w) A (eval (.Subscript value slice pos) env) Q E s:=by
 refine Subscript_ (aK h (λo s₁ S=>aK S (λi s₂ F=>?_) λ_ _ x=>x) λ_ _ x=>x);obtain⟨L,F⟩:=F;unfold subscriptTail;refine ae ?_;rw[getitemInPython_of_ne L.not_modules];refine ae (wpAny_specialOf L hl ?_);have I:wpAny (model prog w) A (subscripted slice false o i) (λr J=>wpAny (model prog w) A (letTemporaryGo value o r >>= λ_=>pure r) Q E J) E s₂:=by rw[hs o i];exact wpAny_operating (aK F (λr J O=>ae (wpAny_letTemporaryGo (aF O))) λ_ _ x=>x)
 first
  |exact aF (ae I)
  |exact ae (aF (ae I))
  |exact ae I
theorem qym {X:Cx}{pins:List (Aj×Obj)}{σ:St}{H:Hp}{s:Ab}{a:Aj}{y:V}{o:Option V}(I:Inv X pins σ H s)(g:DGet H a y o):s.TypeIs (.ref a) "dict" := by
 rcases g with⟨kvs,k,e,_,_⟩|⟨kvs,k,b,e,_,_,_⟩
 .obtain⟨_,_,vs,_,dd⟩:=Zs I.hok e;exact dd.typeIs
 .obtain⟨_,_,xs,_,dd⟩:=qqr I.hok e;exact dd.typeIs
def tDGet (td ty:TE):TE:=λσ H Q=>td σ H λx H1=>ty σ H1 λy H2=>∃a v,x=.ref a/\DGet H2 a y (some v)/\Q v H2
def tDIn (ty td:TE):TE:=λσ H Q=>ty σ H λy H1=>td σ H1 λx H2=>∃a o,x=.ref a/\DGet H2 a y o/\Q (.bl o.isSome) H2
def wjm (ty td:TE):TE:=λσ H Q=>ty σ H λy H1=>td σ H1 λx H2=>∃a o,x=.ref a/\DGet H2 a y o/\Q (.bl (!o.isSome)) H2
def sDPut (td ty tv:TE):TS:=λD σ H=>tv σ H λv H1=>td σ H1 λx H2=>ty σ H2 λy H3=>∃a H4,x=.ref a/\DPut H3 a y v H4/\D.nx σ H4
def sDDel (td ty:TE):TS:=λD σ H=>td σ H λx H1=>ty σ H1 λy H2=>∃a kvs k,x=.ref a/\H2 a=some (.dK kvs)/\y=kV k/\(wp kvs k).isSome=true/\D.nx σ (upd H2 a (.dK (Wx kvs k)))
section
variable {X:Cx}{o i e value:Expr}{pos pos' tpos:Pos}{td ty tv:TE}
theorem Wu (hu:X.A.units+1<cLine)(ho:PE X o td)(hi:PE X i ty)(hs:NoSl i):PE X (.Subscript o i pos) (tDGet td ty):=by intro pins s σ H Q I h;refine wyk PySem.F.slot_dict_getitem.lookup hs (thn (ho pins s σ H _ I h) λu s1 ⟨x,H1,I1,rx,q1⟩=>thn (hi pins s1 σ H1 _ I1 q1) λiv s2 ⟨y,H2,I2,ry,a,v,ex,g,q2⟩=>?_);subst ex;obtain rfl:u=Value.ref a:=rx;exact⟨qym I2 g,wxp hu I2 g ry λO S L J=>⟨v,H2,L,J,q2⟩⟩
theorem pc_din (hu:X.A.units+1<cLine)(hi:PE X i ty)(ho:PE X o td):PC X .In i o (tDIn ty td):=by intro pins s σ H Q I h;refine thn (hi pins s σ H _ I h) λiv s1 ⟨y,H1,I1,ry,q1⟩=>thn (ho pins s1 σ H1 _ I1 q1) λu s2 ⟨x,H2,I2,rx,a,ov,ex,g,q2⟩=>?_;subst ex;obtain rfl:u=Value.ref a:=rx;exact zf2 hu I2 g ry λJ F=>⟨.bl ov.isSome,H2,F,rfl,q2⟩
theorem Jw (hu:X.A.units+1<cLine)(hi:PE X i ty)(ho:PE X o td):PC X .NotIn i o (wjm ty td):=by intro pins s σ H Q I h;refine thn (hi pins s σ H _ I h) λiv s1 ⟨y,H1,I1,ry,q1⟩=>thn (ho pins s1 σ H1 _ I1 q1) λu s2 ⟨x,H2,I2,rx,a,ov,ex,g,q2⟩=>?_;subst ex;obtain rfl:u=Value.ref a:=rx;exact wyd hu I2 g ry λJ F=>⟨.bl (!ov.isSome),H2,F,rfl,q2⟩
theorem qqy (hu:X.A.units+1<cLine)(ho:PE X o td)(hi:PE X i ty)(hv:PE X value tv)(hs:swapsWith value (some (.Subscript o i pos')) pos.line X.env=pure false) :
  PS X (.Assign [.Subscript o i pos'] value pos) (sDPut td ty tv):=by
 intro pins s σ H D I h;refine wpAny_Assign_Subscript (thn (hv pins s σ H _ I h) λr s1 ⟨v,H1,I1,rv,q1⟩=>thn (ho pins s1 σ H1 _ I1 q1) λu s2 ⟨x,H2,I2,rx,q2⟩=>thn (hi pins s2 σ H2 _ I2 q2) λiv s3 ⟨y,H3,I3,ry,a,H4,ex,g,q3⟩=>?_) hs;subst ex;obtain rfl:u=Value.ref a:=rx;exact ww6 hu I3 g ry rv λJ F=>⟨σ,H4,F,q3⟩
theorem wyx (ho:PE X o td)(hi:PE X i ty):PS X (.Delete [.Subscript o i tpos] pos) (sDDel td ty):=by intro pins s σ H D I h;refine wpAny_Delete (wpAny_deleteEach_cons (wpAny_delete_Subscript (thn (ho pins s σ H _ I h) λu s1 ⟨x,H1,I1,rx,q1⟩=>thn (hi pins s1 σ H1 _ I1 q1) λiv s2 ⟨y,H2,I2,ry,a,kvs,k,ex,e,ey,l,q2⟩=>?_)));subst ex ey;obtain rfl:u=Value.ref a:=rx;exact ww0 I2 e ry l λJ F=>wpAny_deleteEach_nil ⟨σ,_,F,q2⟩
end
theorem qjw {P:Ac}{w:Ah}{H:Hp}(h:Heap)(hb:sysModules<h.objs.size):ObjOk P w H (h.push { cls:=.type "dict",data:=.dict #[] }) h.objs.size (.dK []) :=
 ⟨aR _,bq.mpr (bE (aJ hb)),[],.nil,Heap.DictOf.new h⟩
theorem wzv {P:Ac}{w:Ah}{H:Hp}(h:Heap)(hb:sysModules<h.objs.size):ObjOk P w H (h.push { cls:=.type "dict",data:=.dict #[] }) h.objs.size (.dT []) :=
 ⟨aR _,bq.mpr (bE (aJ hb)),[],.nil,_,#[],0,az _ rfl,⟨rfl,rfl,rfl⟩,rfl,rfl,bj⟩
def tDNewK:TE:=λ_ H Q=>∀p,H p=none->Q (.ref p) (upd H p (.dK []))
section
variable {X:Cx}{pos:Pos}
theorem yc:PE X (.Dict [] [] pos) tDNewK:=λpins s σ H Q I h =>
 wpAny_Dict_empty ⟨.ref s.heap.objs.size,_,I.laid (a:=s.heap.objs.size) (o:=.dK []) (t':=s.toks) (λ_ _ q=>af _ q) (ah _) (qjw s.heap I.big),rfl,h _ (I.hok.fresh (ah _))⟩
end
end L2
namespace L2
open PySem PySem.Spec PyProof.Rows
def quq:List (TE×TE)->St->Hp->(List (V×V)->Hp->Prop)->Prop
 |[],_,H,Q=>Q [] H
 |(tk,tv)::r,σ,H,Q=>tk σ H λx H1=>tv σ H1 λy H2=>quq r σ H2 λps H3=>Q ((x,y)::ps) H3
abbrev VV:List (V×V)->List (Ag×Ag)->Prop:=Paired λp q=>RelV p.1 q.1/\RelV p.2 q.2
def PPs (X:Cx)(pos:Pos)(keys:List (Option Expr))(values:List Expr)(trs:List (TE×TE)):Prop :=
 ∀(pins:List (Aj×Obj)) (s:Ab) (σ:St) (H:Hp) (Q:List (V×V)->Hp->Prop),Inv X pins σ H s->quq trs σ H Q ->
  wpAny (model X.prog X.w) X.A (evalPairs (pairTrees keys values X.env pos)) (λvs s'=>∃ps H',Inv X pins σ H' s'/\VV ps vs/\Q ps H') X.xe s
theorem wq8 {X:Cx}{pos:Pos}:PPs X pos [] [] []:=λpins s σ H Q I h=>pairTrees_nil_walk ⟨[],H,I,.nil,h⟩
theorem qyb {X:Cx}{pos:Pos}{k v:Expr}{ks:List (Option Expr)}{vs:List Expr}{tk tv:TE}{trs:List (TE×TE)}(hk:PE X k tk)(hv:PE X v tv)(hr:PPs X pos ks vs trs) :
  PPs X pos (some k::ks) (v::vs) ((tk,tv)::trs):=λpins s σ H Q I h =>
 pairTrees_cons_walk (thn (hk pins s σ H _ I h) λu s1 ⟨x,H1,I1,rx,q1⟩=>thn (hv pins s1 σ H1 _ I1 q1) λw2 s2 ⟨y,H2,I2,ry,q2⟩ =>
  thn (hr pins s2 σ H2 _ I2 q2) λws s3 ⟨ps,H3,I3,rel,q3⟩=>⟨(x,y)::ps,H3,I3,.cons ⟨rx,ry⟩ rel,q3⟩)
def qw5 (kvs more:List (Key×V)):List (Key×V):=more.foldl (λacc kv=>vd acc kv.1 kv.2) kvs
theorem KV.merge:∀ {more:List (Key×V)} {rs:List (Key×Ag)} {kvs:List (Key×V)} {vs:List (Key×Ag)},KV more rs->KV kvs vs->KV (qw5 kvs more) (merged vs rs):=by
 intro more rs kvs vs r;unfold KV at r
 induction r generalizing kvs vs with
 |nil=>intro q;exact q
 |@cons p q ps qs h t ih =>
  intro F;have e:KV (vd kvs p.1 p.2) (stored vs q.1 q.2):=by have:=F.put p.1 h.2;rw[<-h.1];exact this
  exact ih e
theorem W2:∀(more kvs:List (Key×V)),(qw5 kvs more).length<=kvs.length+more.length
 |[],kvs=>by show kvs.length<=kvs.length+0;lia
 |p::r,kvs=>by have h1:=W2 r (vd kvs p.1 p.2);have h2:=vf kvs p.1 p.2;show(qw5 (vd kvs p.1 p.2) r).length<=_;rw[aw];lia
theorem qwf {P:Ac}{w:Ah}:∀ {kvs:List (Key×V)} {ws:List (Ag×Ag)},VV (kvs.map λkv=>(kV kv.1,kv.2)) ws->∃rs,Carries (xt P w) ws rs/\KV kvs rs
 |[],_,r=>by rw[cx]at r;cases r;exact⟨[],True.intro,.nil⟩
 |p::kvs,_,r=>by
  rw[aV]at r;cases r with
  |@cons a b as bs h t =>
   obtain⟨rs,c,q⟩:=qwf (P:=P) (w:=w) t;obtain⟨b1,b2⟩:=b;exact⟨(p.1,b2)::rs,⟨Yw h.1,rfl,c⟩,.cons ⟨rfl,h.2⟩ q⟩
def tDisp (trs:List (TE×TE)):TE:=λσ H Q=>∀p,H p=none->quq trs σ (upd H p (.dK [])) λps H2=>H2 p=some (.dK [])/\∃kvs:List (Key×V),ps=kvs.map (λkv=>(kV kv.1,kv.2))/\kvs.length<=15/\Q (.ref p) (upd H2 p (.dK (qw5 [] kvs)))
theorem wq2 {X:Cx}{pos:Pos}{keys:List (Option Expr)}{values:List Expr}{trs:List (TE×TE)}(h:PPs X pos keys values trs)(hall:keys.all (·.isSome)=true)(hl:keys.length=values.length)(h0:keys≠[])
  (h15:keys.length<=15):PE X (.Dict keys values pos) (tDisp trs):=by
 intro pins s σ H Q I q;have Z:=I.hok.fresh (ah s.heap.objs.size);have I1:=I.laid (a:=s.heap.objs.size) (o:=.dK []) (h':=s.heap.push { cls:=.type "dict",data:=.dict #[] }) (t':=s.toks) (λ_ _ q=>af _ q) (ah _) (qjw s.heap I.big);refine wpAny_Dict_walk (knd:=xt X.prog X.w) hall hl h0 h15 (thn (h pins _ σ _ _ I1 (q _ Z)) λws s2 ⟨ps,H2,I2,rel,e,kvs,ep,lk,q2⟩=>?_);subst ep;obtain⟨J,c,L⟩:=qwf (P:=X.prog) (w:=X.w) rel;obtain⟨z,hd,aa,O,dd⟩:=qzn I2.hok e;cases O;refine⟨J,c,dd,λh' F hs=>⟨.ref s.heap.objs.size,_,?_,rfl,q2⟩⟩;have S:(qw5 [] kvs).length<=sizeLine:=by have h1:=W2 kvs [];rw[cP]at h1;rw[sizeLine_eq];lia
 have he:∃q,h'.get? s.heap.objs.size=some q:=let ⟨q,_,_,U,_⟩:=F;⟨q,U⟩;exact Wf I2 (by rw[e];exact True.intro) hs he (qwn S hd (L.merge .nil) F)
structure M1 (X:Cx)(o:Expr)(m:Str)(apos:Pos)(e:Expr)(cpos:Pos):Prop where
 base:attributeBase o m X.env (eval o X.env)=eval o X.env
 few:((backTo cpos (starEach [e] X.env)).all (λx=>!x.1)&&(backToKw cpos (keywordEach [] X.env)).all (λx=>x.1.isSome)
  && decide (([e]:List Expr).length+([]:List Keyword).length+(if([]:List Keyword).isEmpty then 0 else 1)<30))=true
 line:(apos.endLine==cpos.line)=true
 trees:backTo cpos (starEach [e] X.env)=[(false,eval e X.env)]
structure M2 (X:Cx)(o:Expr)(m:Str)(apos:Pos)(e f:Expr)(cpos:Pos):Prop where
 base:attributeBase o m X.env (eval o X.env)=eval o X.env
 few:((backTo cpos (starEach [e,f] X.env)).all (λx=>!x.1)&&(backToKw cpos (keywordEach [] X.env)).all (λx=>x.1.isSome)
  && decide (([e,f]:List Expr).length+([]:List Keyword).length+(if([]:List Keyword).isEmpty then 0 else 1)<30))=true
 line:(apos.endLine==cpos.line)=true
 trees:backTo cpos (starEach [e,f] X.env)=[(false,eval e X.env),(false,eval f X.env)]
def IsD (H:Hp)(a:Aj):Prop:=(∃kvs,Rd H a (.dK kvs))\/∃kvs,Rd H a (.dT kvs)
theorem wvg {X:Cx}{pins:List (Aj×Obj)}{σ:St}{H:Hp}{s:Ab}{a:Aj}(I:Inv X pins σ H s)(d:IsD H a) :
  s.TypeIs (.ref a) "dict" /\ (∀b,Value.ref a=.ref b->∃ob,s.heap.get? b=some ob/\ob.dict=none)/\(a==sysModules)=false:=by
 rcases d with⟨kvs,e⟩|⟨kvs,e⟩
 .obtain⟨_,F,J,_,dd⟩:=Zs I.hok e;refine⟨dd.typeIs,λb q=>?_,F⟩;cases q;obtain⟨ob,_,_,h1,h2,_⟩:=dd;exact⟨ob,h1,h2.2.1⟩
 .obtain⟨_,F,xs,_,dd⟩:=qqr I.hok e;refine⟨dd.typeIs,λb q=>?_,F⟩;cases q;obtain⟨ob,_,_,h1,h2,_⟩:=dd;exact⟨ob,h1,h2.2.1⟩
section
variable {X:Cx}{pins:List (Aj×Obj)}{σ:St}{H:Hp}{s:Ab}{a:Aj}{y d:V}{u r:Ag}{o:Option V}{A:Ae}{E:Ag->Ab->Prop}
theorem zf3 {Q:Ag->Ab->Prop}(hu:A.units+1<cLine)(I:Inv X pins σ H s)(g:DGet H a y o)(ry:RelV y u)(h:∀w' s',Inv X pins σ H s'->RelV (o.getD .non) w'->Q w' s') :
  wpAny (model X.prog X.w) A (call (.builtin "dict.get") [.ref a,u]) Q E s:=by
 rcases g with⟨kvs,k,e,O,l⟩|⟨kvs,k,b,e,O,S,l⟩
 .subst O;obtain⟨z,L,U,J,dd⟩:=Zs I.hok e;refine fG dM dd.typeIs PySem.F.entry_dict_get (fy _ _) (meets_dict_get (xt X.prog X.w) a (Yw ry) L) ⟨_,dd.mapOf,h _ _ (I.tok _) ?_⟩;rw[l];exact(J.val k).getD rfl
 .subst O;cases(show u=Value.ref b from ry);obtain⟨z,L,xs,J,dd⟩:=qqr I.hok e;refine fG dM dd.typeIs PySem.F.entry_dict_get (fy _ _) (meetsH_dict_get (tupleKind (xt X.prog X.w)) a b L) ⟨cL hu,k,xs,Zx I.hok S,dd,h _ _ (I.tok _) ?_⟩;rw[l];exact(J.val k).getD rfl
end
def tDGet1 (td ty:TE):TE:=λσ H Q=>td σ H λx H1=>∃a,x=.ref a/\IsD H1 a/\ty σ H1 λy H2=>∃o,DGet H2 a y o/\Q (o.getD .non) H2
section
variable {X:Cx}{o e f:Expr}{apos cpos:Pos}{td ty tx:TE}
theorem wv0 (hu:X.A.units+1<cLine)(ho:PE X o td)(he:PE X e ty)(m:M1 X o "get" apos e cpos):PE X (.Call (.Attribute o "get" apos) [e] [] cpos) (tDGet1 td ty):=by intro pins s σ H Q I h;refine wpAny_Call_method m.base m.few m.line fA dM PySem.F.type_dict_get (thn (ho pins s σ H _ I h) λu s1 ⟨x,H1,I1,rx,a,ex,d,q1⟩=>?_);subst ex;obtain rfl:u=Value.ref a:=rx;obtain⟨L,J,_⟩:=wvg I1 d;refine⟨L,J,?_⟩;rw[m.trees];refine dD rfl (cZ (Calls.spliced_cons (thn (he pins s1 σ H1 _ I1 q1) λiv s2 ⟨y,H2,I2,ry,ov,g,q2⟩=>Calls.spliced_nil ?_)));exact zf3 hu I2 g ry λU Z S O=>⟨_,H2,S,O,q2⟩
end
section
variable {X:Cx}{pins:List (Aj×Obj)}{σ:St}{H:Hp}{s:Ab}{a:Aj}{kvs:List (Key×V)}{A:Ae}{E:Ag->Ab->Prop}
end
section
variable {X:Cx}{pins:List (Aj×Obj)}{σ:St}{H:Hp}{s:Ab}{a:Aj}{y:V}{u:Ag}{A:Ae}{E:Ag->Ab->Prop}
end
end L2
namespace L2
open PySem PySem.Spec PyProof.Rows
def Stay (G:Nat->V->Hp->Prop):Prop:=∀i v H H' p,G i v H->v≠.ref p->(∀b o,b≠p->H b=some o->H' b=some o)->G i v H'
theorem qur {K:Aa}{M:List Nat}{a:Aj}{xs:List V}{te:TE}{σ:St}{H:Hp}{Q:VK}(G:Nat->V->Hp->Prop)(gs:Stay G)(hS:SqL K H a xs)(hn:xs.length<=1000000)
  (he:∀(i:Nat) (x:V) (H':Hp) (R:VK),xs[i]?=some x->Same H H'->(∀v H'',Same H' H''->G i v H''->(∀b,v=.ref b->H' b=none)->R v H'')->te (zn M σ (some x)) H' R)
  (k:∀p ys H',H p=none->Same H H'->H' p=some (.lst ys)->ys.length=xs.length->(∀j v,ys[j]?=some v->G j v H'/\v≠.ref p)->Q (.ref p) H'):Jb (Itl K a) M te σ H Q:=by
 intro p np;refine⟨λi m ys H2=>i<=xs.length/\m=xs.length-i/\ys.length=i/\Same H H2/\H2 p=some (.lst ys)/\∀j v,ys[j]?=some v->G j v H2/\v≠.ref p,⟨xs.length,aR _,rfl,rfl,Same.upd np,qy,λj v e=>by cases e⟩,?_⟩;rintro i m ys H2 ⟨hi,rfl,hy,sm,hp,hG⟩;have L:SqL K H2 a xs:=Same.sql sm hS;refine⟨hp,?_,?_⟩
 .have:(1000000:Nat)<sizeLine:=by decide
  lia
 .by_cases hlt:i<xs.length
  .have J:xs[i]?=some xs[i]:=ag hlt;refine .inr ⟨⟨xs,_,L,J⟩,?_⟩;rintro v H3 ⟨rfl,hv⟩;have e:=hv xs L;rw[J]at e;have e':=ax e;subst e';refine he i _ _ _ J sm λv O F g4 fr=>⟨F _ _ hp,xs.length-(i+1),⋯,⋯,rfl,by rw[ay,hy];rfl,λb o e=>?_,qy,λj w e=>?_⟩
   .rw[wj (wz e np)];exact F _ _ (sm _ _ e)
   .have S:v≠.ref p:=λz=>by have:=fr p z;rw[hp]at this;cases this
    have st:∀b o,b≠p->O b=some o->upd O p (.lst (ys++[v])) b=some o:=λb o I e=>by rw[wj I];exact e
    rcases(eA j ys.length) with z|z
    .rw[bG z]at e;obtain⟨g,U⟩:=hG j w e;exact⟨gs j w _ _ p g U λb o I e=>st b o I (F b o e),U⟩
    .rw[bB z]at e;have hj:j=i:=by
      rcases eA (j-ys.length) 1 with y|y
      .lia
      .rw[bn (by simpa using y)]at e;cases e
     have Z:[v][j-ys.length]?=some w:=by assumption
     subst hj;rw[show j-ys.length=0 by lia]at Z;have:v=w:=ax Z;subst this;exact⟨gs j v O _ p g4 S st,S⟩
  .have aa:i=xs.length:=by lia
   subst aa;exact .inl ⟨⟨xs,L,ah _⟩,k p ys _ np sm hp hy hG⟩
theorem yk {K:Aa}{M:List Nat}{a:Aj}{xs:List V}{te:TE}{σ:St}{H:Hp}{Q:VK}(f:V->V)(hf:∀x b,f x≠.ref b)(hS:SqL K H a xs)(hn:xs.length<=1000000)
  (he:∀(x:V) (H':Hp) (R:VK),x∈xs->Same H H'->(∀H'',Same H' H''->R (f x) H'')->te (zn M σ (some x)) H' R)
  (k:∀p H',H p=none->Same H H'->H' p=some (.lst (xs.map f))->Q (.ref p) H'):Jb (Itl K a) M te σ H Q:=by
 refine qur (λi v _=>∃x,xs[i]?=some x/\v=f x) (λi v H H' p g _ _=>g) hS hn (λi x H' R F s L=>he x H' R (bO F) s λH'' J=>L _ _ J ⟨x,F,rfl⟩ λb e=>absurd e (hf x b)) λp ys H' np s I S O=>?_;have e:ys=xs.map f:=by
  refine dE λj=>?_;rw[aD];cases hj:ys[j]? with
  |none =>
   have:xs[j]?=none:=bn (by have:=List.getElem?_eq_none_iff.mp hj;lia);rw[this];rfl
  |some v =>
   obtain⟨⟨x,F,rfl⟩,_⟩:=O j v hj;rw[F];rfl
 rw[e]at I;exact k p H' np s I
end L2
namespace L2
open PySem PySem.Spec PyProof.Rows
section
variable {X:Cx}{K:Aa}
theorem qx3 (hK:X.K=K):jw X (.builtin "len") (λxs H Q=>∃p ys,xs=[.ref p]/\(SqL K H p ys\/SqT K H p ys)/\Q (.int ys.length) H):=by subst hK;exact xk
end
end L2
namespace L2
open PySem PySem.Spec PyProof.Rows
section
variable {X:Cx}{tg:Expr}
end
end L2
namespace L2
open PySem
def IsO (K:Aa)(C:Aj):Prop:=W.findIn K (.ref C) "__class__" = some (some (.builtin "object.__class__")) /\
 W.specialIn K (.builtin "object.__class__") "__get__" = some (some (.builtin "getset_descriptor.__get__"))/\W.takesIn K (.builtin "object.__class__")=some true/\W.mroIn K C (.type "object")=some true
end L2
namespace L2
open PySem PySem.Spec PyProof.Rows
end L2
namespace L2
open PySem PySem.Spec PyProof.Rows
section
variable {X:Cx}{pins:List (Aj×Obj)}{σ:St}{H:Hp}{s:Ab}{h':Heap}{ch:List Aj}
theorem Inv.turnedL {tk:Nat}(I:Inv X pins σ H s)(hk:∀b u,b∉ch->s.heap.get? b=some u->h'.get? b=some u)(hf:∀b∈ch,yp X pins H b):Inv X pins σ H { s with heap:=h',toks:=tk }:=by
 refine I.call' (s':={ s with heap:=h',toks:=tk }) (ch:=ch) rfl ⟨λb o e n _ F=>hk b o F e,λb o e n _ F=>⟨o.slots,hk b o F e⟩,λb o e n _=>n,λb o e F=>⟨o,hk b o F e⟩,λ_ _ e=>e,λ_ _ _ e=>e,λb ps e=>⟨#[],by rw[e];simp⟩⟩ ?_ I.bare λb hb=>?_
 .intro b u L;refine(I.hok b u L).stay (λc v J e=>hk c v (λz=>?_) e) (λ_ z=>z) λ_ _ z=>z;have:=(hf c z).1;rcases J with rfl|J
  .rw[this]at L;cases L
  .rw[this]at J;cases J
 .obtain⟨q1,Z,q3,U,S,O⟩:=hf b hb;exact⟨U,Z,S,O⟩
theorem Inv.turnedT {tk:Nat}{o:HO}{ob:Obj}(I:Inv X pins σ H s)(hk:∀b u,b∉ch->s.heap.get? b=some u->h'.get? b=some u)(hn:h'.get? s.heap.objs.size=some ob)(hf:∀b∈ch,yp X pins H b)(hc:∀b∈ch,b≠s.heap.objs.size)
  (ok:ObjOk X.prog X.w (upd H s.heap.objs.size o) (s.heap.push ob) s.heap.objs.size o) (fr:ob.isFreed=false):Inv X pins σ (upd H s.heap.objs.size o) { s with heap:=h',toks:=tk }:=by
 have O:Inv X pins σ (upd H s.heap.objs.size o) { s with heap:=s.heap.push ob,toks:=tk }:=I.laid (t':=tk) (λb u e=>af _ e) (ah _) ok;refine Inv.turnedL (s:={ s with heap:=s.heap.push ob,toks:=tk }) (ch:=ch) O (λb u L e=>?_) λb F=>?_
 .rcases Heap.get?_push_cases e with⟨rfl,rfl⟩|e
  .exact hn
  .exact hk b u L e
 .obtain⟨J,q⟩:=hf b F;exact⟨by rw[wj (hc b F)];exact J,q⟩
theorem wj9 {x y:V}{u v:Ag}(I:Inv X pins σ H s)(rx:RelV x u)(ry:RelV y v):ObjOk X.prog X.w (upd H s.heap.objs.size (.tup [x,y])) (s.heap.push { cls:=.type "tuple",data:=.seq #[u,v] }) s.heap.objs.size (.tup [x,y]):=by refine⟨by show 2<=sizeLine;decide,[u,v],.cons rx (.cons ry .nil),?_⟩;exact⟨_,az _ rfl,rfl,_,rfl⟩
end
section
variable {X:Cx}
end
section
variable {X:Cx}
end
section
variable {X:Cx}{elt iter tg:Expr}{x y2:Str}{pos:Pos}{scope:Scope}{cl:List (Str×Aj)}{M:List Nat}{wi:TI}{gg:TG}{te:TE}
end
end L2
namespace L2
open PySem PySem.Spec PyProof.Rows PySem.W
def Fz (H:Hp)(d:Aj)(o:Obj)(kvs:List (Key×V))(H':Hp):Prop:=H' d=some (.frz o (.dK kvs))/\∀b,b≠d->H' b=H b
section
variable {X:Cx}{pins:List (Aj×Obj)}{σ:St}{H:Hp}{s:Ab}{d:Aj}{kvs:List (Key×V)}
theorem Inv.freeze {o:Obj}(I:Inv X pins σ H s)(e:H d=some (.dK kvs))(ho:s.heap.get? d=some o):Inv X pins σ (upd H d (.frz o (.dK kvs))) s:=by obtain⟨z,J,L,F,dd⟩:=qzn I.hok e;exact Inv.write (t':=s.toks) (h':=s.heap) I (by rw[e];exact trivial) (.inl rfl) (λ_ _ _ e=>e) ⟨o,ho⟩ ⟨ho,qwn z J F dd⟩
theorem Y0 {o:Obj}(I:Inv X pins σ H s)(e:H d=some (.frz o (.dK kvs))):kvs.length<=sizeLine/\(d==sysModules)=false/\s.heap.get? d=some o/\∃vs es ep,KV kvs vs/\o.data=.dict es ep/\s.heap.DictAt (xt X.prog X.w) d vs ep:=by obtain⟨F,z,O,vs,L,dd⟩:=(show ObjOk X.prog X.w H s.heap d (.frz o (.dK kvs)) from I.hok d _ e);obtain⟨o',es,ep,h1,h2,J,S⟩:=id dd;have:o'=o:=ax (h1.symm.trans F);subst this;exact⟨z,O,F,vs,es,ep,L,J,o',es,h1,h2,J,S⟩
theorem Inv.freezeRd (I:Inv X pins σ H s)(e:Rd H d (.dK kvs)):∃o H',Fz H d o kvs H'/\Inv X pins σ H' s:=by
 rcases e with e|⟨o,e⟩
 .obtain⟨z,S,L,O,o,es,U,J,r⟩:=qzn I.hok e;exact⟨o,_,⟨qy,λb F=>wj F⟩,I.freeze e J⟩
 .exact⟨o,H,⟨e,λ_ _=>rfl⟩,I⟩
theorem wwv {P:Ac}{w:Ah}{k:Key}{u:Ag}(h:(xt P w).is k u=true):RelV (kV k) u:=by
 rcases zh (show qq7 k u=true from h) with⟨i,t,rfl,rfl⟩|⟨x,t,rfl,rfl⟩
 .exact⟨t,rfl⟩
 .exact⟨t,rfl⟩
end
def ItD (d:Aj)(o:Obj)(kvs:List (Key×V)):It :=
 ⟨λi H=>H d=some (.frz o (.dK kvs))/\i<kvs.length,λi H v H'=>H'=H/\∃p,kvs[i]?=some p/\v=kV p.1,λi H=>H d=some (.frz o (.dK kvs))/\kvs.length<=i⟩
theorem qkh {kvs:List (Key×V)}{vs:List (Key×Ag)}(r:KV kvs vs){i:Nat}{p:Key×V}(e:kvs[i]?=some p):∃q,vs[i]?=some (p.1,q)/\RelV p.2 q:=by
 induction r generalizing i with
 |nil=>cases e
 |cons h t ih =>
  cases i with
  |zero =>
   cases e;obtain⟨h1,h2⟩:=h;rename_i b _ _;exact⟨b.2,by show some b=some (_,b.2);rw[h1],h2⟩
  |succ i=>exact ih e
theorem wys {P:Ac}{w:Ah}{K:Aa}{tg:Expr}{d it:Aj}{o:Obj}{kvs:List (Key×V)}{ep:Nat}(hep:∃es,o.data=.dict es ep):Turn P w K tg (ItD d o kvs) [it] it (λi h=>h.IsKeyIter it d i kvs.length ep) where
 mem:=by simp
 obj:=λi h st b hb=>by
  have e:b=it:=by simpa using hb
  subst e;obtain⟨ob,e,c,dd⟩:=st;exact⟨ob,e,λv z=>by rw[dd]at z;cases z⟩
 keep:=λi h h' st k=>st.at λob e=>k it (by simp) ob e
 item:=by
  intro X hP hw hK hc i pins s σ H E I hf st hg;subst hP hw hK;obtain⟨hq,hi⟩:=hg;obtain⟨z,hd,ho,vs,es,ep',rel,h3,dd⟩:=Y0 I hq;obtain⟨es2,h4⟩:=hep;have:ep'=ep:=by rw[h3]at h4;cases h4;rfl
  subst this;have e1:kvs[i]?=some kvs[i]:=ag hi;obtain⟨q,eq,rq⟩:=qkh rel e1;have hl:vs.length=kvs.length:=(bN rel).symm;obtain⟨f0,f1,f2,f3,f4,f5⟩:=hf it (by simp);refine wpAny_pyNext_dict_item (by rw[hl];exact st) dd eq λkey h' hk st' sb=>?_;have I1:Inv X pins σ H { s with heap:=h' }:=I.turned (t':=s.toks) (λb o hb e=>(sb.2 b hb).trans e) f0 f1 f3 f4 f5;rw[hl]at st';obtain⟨ob,e,c,d'⟩:=id st';exact⟨key,rfl,qj2 (s:={ s with heap:=h' }) e c d' ⋯ ⟨_,H,I1,wwv hk,⟨rfl,_,e1,rfl⟩,st',λb hb=>(hf b hb).1⟩⟩
 done:=by
  intro X hP hw hK hc i pins s σ H E I hf st hg;subst hP hw hK;obtain⟨hq,hi⟩:=hg;obtain⟨z,hd,ho,vs,es,ep',rel,h3,dd⟩:=Y0 I hq;obtain⟨es2,h4⟩:=hep;have:ep'=ep:=by rw[h3]at h4;cases h4;rfl
  subst this;have hl:vs.length=kvs.length:=(bN rel).symm;obtain⟨f0,f1,f2,f3,f4,f5⟩:=hf it (by simp);exact wpAny_pyNext_dict_end (I.ok.hd hc) (by rw[hl];exact st) dd (bn ⋯) λh' eb=>⟨rfl,I.turned (t':=s.toks) (λb o hb e=>eb b o hb e) f0 f1 f3 f4 f5⟩
 self:=λ_ _ _ _ _ st h=>wpAny_pyIter_keyiter st h
def ItDI (d:Aj)(o:Obj)(kvs:List (Key×V)):It :=
 ⟨λi H=>H d=some (.frz o (.dK kvs))/\i<kvs.length,λi H v H'=>∃q p,H q=none/\v=.ref q/\kvs[i]?=some p/\H'=upd H q (.tup [kV p.1,p.2]),λi H=>H d=some (.frz o (.dK kvs))/\kvs.length<=i⟩
theorem wj1 {P:Ac}{w:Ah}{K:Aa}{xs:List Expr}{k:Nat}{pos:Pos}{d it:Aj}{o:Obj}{kvs:List (Key×V)}{ep:Nat}(hep:∃es,o.data=.dict es ep):Turn P w K (.Tuple xs k pos) (ItDI d o kvs) [it] it (λi h=>∃ok ov,IsItemIter h it d i kvs.length ep ok ov) where
 mem:=by simp
 obj:=λi h st b hb=>by
  have e:b=it:=by simpa using hb
  subst e;obtain⟨ok,ov,e⟩:=st;exact⟨_,e,λv z=>by cases z⟩
 keep:=λi h h' st k=>by obtain⟨ok,ov,e⟩:=st;exact⟨ok,ov,k it (by simp) _ e⟩
 item:=by
  intro X hP hw hK hc i pins s σ H E I hf st hg;subst hP hw hK;obtain⟨hq,hi⟩:=hg;obtain⟨z,hd,ho,vs,es,ep',rel,h3,dd⟩:=Y0 I hq;obtain⟨es2,h4⟩:=hep;have:ep'=ep:=by rw[h3]at h4;cases h4;rfl
  subst this;have e1:kvs[i]?=some kvs[i]:=ag hi;obtain⟨q,eq,rq⟩:=qkh rel e1;have hl:vs.length=kvs.length:=(bN rel).symm;obtain⟨ok,ov,st⟩:=st;refine wpAny_pyNext_items_item (by rw[hl];exact st) dd eq λkey h' hk g1 g2 g3 g4=>?_;refine⟨_,rfl,wpAny_letOwnedTupleGo_items (s:={ s with heap:=h' }) g1 λh'' j1 j2=>?_⟩;have ne:it≠s.heap.objs.size:=aJ (aq st);have new:h''.get? s.heap.objs.size=some { cls:=.type "tuple",data:=.seq #[key,q] }:=(j2.2 _ (bE ne)).trans g2;refine⟨.ref s.heap.objs.size,_,Inv.turnedT (s:=s) (ch:=[it]) (tk:=s.toks) I (λb u nb e=>?_) new hf (λb hb=>?_) (wj9 I (wwv hk) rq) rfl,rfl,⟨_,_,I.hok.fresh (ah _),rfl,e1,rfl⟩,⟨_,_,by rw[<-hl];exact j1⟩,λb hb=>?_⟩
  .have nb:b≠it:=by simpa using nb
   exact(j2.2 b nb).trans (g4 b u nb e)
  .have e:b=it:=by simpa using hb
   rw[e];exact ne
  .have e:b=it:=by simpa using hb
   rw[e,wj ne];exact(hf it (by simp)).1
 done:=by
  intro X hP hw hK hc i pins s σ H E I hf st hg;subst hP hw hK;obtain⟨hq,hi⟩:=hg;obtain⟨z,hd,ho,vs,es,ep',rel,h3,dd⟩:=Y0 I hq;obtain⟨es2,h4⟩:=hep;have:ep'=ep:=by rw[h3]at h4;cases h4;rfl
  subst this;have hl:vs.length=kvs.length:=(bN rel).symm;obtain⟨f0,f1,f2,f3,f4,f5⟩:=hf it (by simp);obtain⟨ok,ov,st⟩:=st;exact wpAny_pyNext_items_end (I.ok.hd hc) (by rw[hl];exact st) dd (bn ⋯) λh' eb=>⟨rfl,I.turned (t':=s.toks) (λb o hb e=>eb b o hb e) f0 f1 f3 f4 f5⟩
 self:=λ_ _ _ _ _ st h=>by obtain⟨ok,ov,e⟩:=st;exact kcp_self e h
section
variable {X:Cx}{tg l:Expr}{tl:TE}
def iDk (tl:TE):TI:=λσ H R=>tl σ H λx H1=>∃d kvs,x=.ref d/\Rd H1 d (.dK kvs)/\∀o H2,Fz H1 d o kvs H2->R (ItD d o kvs) H2
theorem pi_dk (hl:PE X l tl):PI X tg l (iDk tl):=by
 intro pins s σ H R I h;refine thn (hl pins s σ H _ I h) λv s1 ⟨x,H1,I1,r1,q1⟩=>?_;obtain⟨d,kvs,e,S,q⟩:=q1;subst e;cases r1;obtain⟨o,H2,J,F⟩:=I1.freezeRd S;obtain⟨z,U,ho,L,es,ep,O,h3,dd⟩:=Y0 F J.1;have hl:L.length=kvs.length:=(bN O).symm;refine wpAny_pyIter_dict U dd ?_;refine⟨s1.heap.objs.size,[s1.heap.objs.size],_,_,H2,rfl,F.kept (t':=s1.toks) λb o e=>af _ e,wys ⟨es,h3⟩,⟨_,az _ rfl,rfl,by rw[hl];rfl⟩,λb Z=>?_,q o H2 J⟩;have e:b=s1.heap.objs.size:=by simpa using Z
 subst e;exact F.fpOk (ah _) (F.hok.fresh (ah _))
def iDi (tl:TE):TI:=λσ H R=>tl σ H λx H1=>∃d kvs,x=.ref d/\Rd H1 d (.dK kvs)/\∀o H2,Fz H1 d o kvs H2->R (ItDI d o kvs) H2
theorem pi_di {apos cpos tpos:Pos}{xs:List Expr}{k:Nat}(hl:PE X l tl)(hbase:autoParam (attributeBase l "items" X.env (eval l X.env)=eval l X.env) aU4._auto_1)(hline:autoParam ((apos.endLine==cpos.line)=true) aU4._auto_1) :
  PI X (.Tuple xs k tpos) (.Call (.Attribute l "items" apos) [] [] cpos) (iDi tl):=by
 intro pins s σ H R I h;refine wpAny_Call_method0_late hbase hline (thn (hl pins s σ H _ I h) λv s1 ⟨x,H1,I1,r1,q1⟩=>?_);obtain⟨d,kvs,e,S,q⟩:=q1;subst e;cases r1;obtain⟨o,H2,U,Z⟩:=I1.freezeRd S;obtain⟨O,t2,_⟩:=wvg I1 (.inl ⟨kvs,S⟩);obtain⟨z,hd,ho,L,es,ep,aa,h3,dd⟩:=Y0 Z U.1;have hl:L.length=kvs.length:=(bN aa).symm;refine⟨"dict","dict.items",fA,fB,PySem.F.type_dict_items,O,t2,dD rfl (PySem.evalArgs_none ?_)⟩;refine fG fB O PySem.F.entry_dict_items (PySem.F.args_dict_items_1 _) (meets_dict_items (xt X.prog X.w) d hd) ⟨⟨L,dd.dictOf⟩,?_⟩;have J:Inv X pins σ H2 { s1 with heap:=s1.heap.push { cls:=.type "dict_items",data:=.fields #[.ref d] } }:=Z.kept (t':=s1.toks) λb o e=>af _ e;refine wpAny_pyIter_items (s:={ s1 with heap:=s1.heap.push { cls:=.type "dict_items",data:=.fields #[.ref d] } }) ⟨_,az _ rfl,rfl,rfl⟩ (dd.push _) ?_;refine⟨_,[_],_,_,H2,rfl,J.kept (t':=s1.toks) λb o e=>af _ e,wj1 ⟨es,h3⟩,⟨.none,.none,?_⟩,λb hb=>?_,q o H2 U⟩
 .rw[hl];exact az _ rfl
 .have e:=ar.mp hb;subst e;exact J.fpOk (ah _) (J.hok.fresh (ah _))
def ItS (x:Str):It:=⟨λi _=>i<x.cps.size,λi H v H'=>H'=H/\v=.str ⟨#[x.cps.getD i 0]⟩,λi _=>x.cps.size<=i⟩
theorem wwp {P:Ac}{w:Ah}{K:Aa}{it:Aj}{x:Str}{t:Tok}:Turn P w K tg (ItS x) [it] it (λi h=>h.IsStrIter it "str_ascii_iterator" x t i) where
 mem:=by simp
 obj:=λi h st b hb=>by
  have e:b=it:=by simpa using hb
  subst e;obtain⟨ob,e,c,dd⟩:=st;exact⟨ob,e,λv z=>by rw[dd]at z;cases z⟩
 keep:=λi h h' st k=>by obtain⟨ob,e,r⟩:=st;exact⟨ob,k it (by simp) ob e,r⟩
 item:=by intro X hP hw hK hc i pins s σ H E I hf st hg;subst hP hw hK;have hg:i<x.cps.size:=hg;obtain⟨f0,f1,f2,f3,f4,f5⟩:=hf it (by simp);refine wpAny_pyNext_ascii_item st (c:=x.cps.getD i 0) (by rw[eB,eU hg];rfl) λh' st' sb=>?_;have I1:Inv X pins σ H { s with heap:=h',toks:=s.toks+1 }:=I.turned (t':=s.toks+1) (λb o hb e=>(sb.2 b hb).trans e) f0 f1 f3 f4 f5;obtain⟨ob,e,c,d'⟩:=id st';exact⟨_,rfl,qj2 (s:={ s with heap:=h',toks:=s.toks+1 }) e c d' ⋯ ⟨.str ⟨#[x.cps.getD i 0]⟩,H,I1,⟨_,rfl⟩,⟨rfl,rfl⟩,st',λb hb=>(hf b hb).1⟩⟩
 done:=by intro X hP hw hK hc i pins s σ H E I hf st hg;subst hP hw hK;obtain⟨f0,f1,f2,f3,f4,f5⟩:=hf it (by simp);exact wpAny_pyNext_ascii_end (I.ok.hd hc) st (dF hg) λh' eb=>⟨rfl,I.turned (t':=s.toks) (λb o hb e=>eb b o hb e) f0 f1 f3 f4 f5⟩
 self:=λ_ _ _ _ _ st h=>wpAny_pyIter_striter_ascii st h
theorem wxn {P:Ac}{w:Ah}{K:Aa}{it:Aj}{x:Str}{t:Tok}:Turn P w K tg (ItS x) [it] it (λi h=>h.IsStrIter it "str_iterator" x t i) where
 mem:=by simp
 obj:=λi h st b hb=>by
  have e:b=it:=by simpa using hb
  subst e;obtain⟨ob,e,c,dd⟩:=st;exact⟨ob,e,λv z=>by rw[dd]at z;cases z⟩
 keep:=λi h h' st k=>by obtain⟨ob,e,r⟩:=st;exact⟨ob,k it (by simp) ob e,r⟩
 item:=by intro X hP hw hK hc i pins s σ H E I hf st hg;subst hP hw hK;have hg:i<x.cps.size:=hg;obtain⟨f0,f1,f2,f3,f4,f5⟩:=hf it (by simp);refine wpAny_pyNext_wide_item st (c:=x.cps.getD i 0) (by rw[eB,eU hg];rfl) λh' st' sb=>?_;have I1:Inv X pins σ H { s with heap:=h',toks:=s.toks+1 }:=I.turned (t':=s.toks+1) (λb o hb e=>(sb.2 b hb).trans e) f0 f1 f3 f4 f5;obtain⟨ob,e,c,d'⟩:=id st';exact⟨_,rfl,qj2 (s:={ s with heap:=h',toks:=s.toks+1 }) e c d' ⋯ ⟨.str ⟨#[x.cps.getD i 0]⟩,H,I1,⟨_,rfl⟩,⟨rfl,rfl⟩,st',λb hb=>(hf b hb).1⟩⟩
 done:=by intro X hP hw hK hc i pins s σ H E I hf st hg;subst hP hw hK;obtain⟨f0,f1,f2,f3,f4,f5⟩:=hf it (by simp);exact wpAny_pyNext_wide_end (I.ok.hd hc) st (dF hg) λh' eb=>⟨rfl,I.turned (t':=s.toks) (λb o hb e=>eb b o hb e) f0 f1 f3 f4 f5⟩
 self:=λ_ _ _ _ _ st h=>wpAny_pyIter_striter_wide st h
def iStr (tl:TE):TI:=λσ H R=>tl σ H λv H1=>∃x,v=.str x/\R (ItS x) H1
theorem qw7 (hl:PE X l tl):PI X tg l (iStr tl):=by
 intro pins s σ H R I h;refine thn (hl pins s σ H _ I h) λv s1 ⟨v',H1,I1,r1,x,e,q⟩=>?_;subst e;obtain⟨t,rfl⟩:=(show ∃t,v=Value.str x t from r1);cases ha:x.cps.all (·<128)
 .refine wpAny_pyIter_wide ha ⟨s1.heap.objs.size,[s1.heap.objs.size],_,_,H1,rfl,I1.kept (t':=s1.toks) λb o e=>af _ e,wxn (t:=t),⟨_,az _ rfl,rfl,rfl⟩,λb F=>?_,q⟩;have e:=ar.mp F;subst e;exact I1.fpOk (ah _) (I1.hok.fresh (ah _))
 .refine wpAny_pyIter_ascii ha ⟨s1.heap.objs.size,[s1.heap.objs.size],_,_,H1,rfl,I1.kept (t':=s1.toks) λb o e=>af _ e,wwp (t:=t),⟨_,az _ rfl,rfl,rfl⟩,λb F=>?_,q⟩;have e:=ar.mp F;subst e;exact I1.fpOk (ah _) (I1.hok.fresh (ah _))
end
end L2
namespace L2
open PySem PySem.Spec PyProof.Rows
def Rows (q:Aj)(B:Hp)(L:List (List V))(ys:List V)(H:Hp):Prop:=Paired (λv xs=>∃a,v=.ref a/\a≠q/\B a=none/\H a=some (.lst xs)) ys L
theorem zg {H H':Hp}(s:Same H H'){a:Aj}(n:H' a=none):H a=none:=by
 cases e:H a with
 |none=>rfl
 |some o=>rw[s _ _ e]at n;cases n
def Jf (c:Nat->Bool)(xs:List V)(n:Nat):List V:=((List.range n).filter c).map λi=>xs.getD i .non
theorem qub {K:Aa}{M:List Nat}{a:Aj}{xs:List V}{tt:TT}{te:TE}{σ:St}{H:Hp}{Q:VK}(c:Nat->Bool)(hS:SqL K H a xs)(hn:xs.length<=1000000)
  (ht:∀(i:Nat) (x:V) (H':Hp) (R:Bool->Hp->Prop),xs[i]?=some x->Same H H'->(∀H'',Same H' H''->R (c i) H'')->tt (zn M σ (some x)) H' R)
  (he:∀(i:Nat) (x:V) (H':Hp) (R:VK),xs[i]?=some x->c i=true->Same H H'->(∀H'',Same H' H''->R x H'')->te (zn M σ (some x)) H' R)
  (k:∀p H',H p=none->Same H H'->H' p=some (.lst (Jf c xs xs.length))->Q (.ref p) H'):qvc (Itl K a) M tt te σ H Q:=by
 intro p np;refine⟨λi m ys H2=>i<=xs.length/\m=xs.length-i/\ys=Jf c xs i/\Same H H2/\H2 p=some (.lst ys),⟨xs.length,aR _,rfl,rfl,Same.upd np,qy⟩,?_⟩;rintro i m ys H2 ⟨hi,rfl,rfl,sm,hp⟩;refine⟨hp,?_,?_⟩
 .unfold Jf;rw[ac];have:=cm c (List.range i);rw[bI]at this;have:(1000000:Nat)<sizeLine:=by decide
  lia
 .by_cases hlt:i<xs.length
  .have F:xs[i]?=some xs[i]:=ag hlt;refine .inr ⟨⟨xs,_,sm.sql hS,F⟩,?_⟩;rintro v H3 ⟨rfl,hv⟩;have e:=ax (F.symm.trans (hv xs (sm.sql hS)));subst e;refine ht i _ _ _ F sm λU I=>?_;have J:=I _ _ hp;have O:xs.getD i .non=xs[i]:=by rw[aA,F];rfl
   cases hc:c i with
   |true =>
    refine vg ?_;refine he i _ _ _ F hc (sm.trans I) λS L=>⟨L _ _ J,xs.length-(i+1),⋯,⋯,rfl,?_,λb o e=>?_,qy⟩
    .unfold Jf;rw[cw,dt,aQ];simp only[bU,hc,if_true,List.filter_nil,aV,cx,O]
    .rw[wj (wz e np)];exact L _ _ (I _ _ (sm _ _ e))
   |false =>
    refine jq ?_;refine⟨J,xs.length-(i+1),⋯,⋯,rfl,?_,sm.trans I,J⟩;unfold Jf;rw[cw,dt,aQ];simp only[bU,hc,eO,fS,List.filter_nil,cx,bK]
  .have:i=xs.length:=by lia
   subst this;exact .inl ⟨⟨xs,sm.sql hS,ah _⟩,k p H2 np sm hp⟩
end L2
namespace L2
open PySem PySem.Spec PyProof.Rows
def Bef (a:Array Ai)(p q:Nat):Prop:=K a p<K a q\/(K a p=K a q/\p<q)
structure From (a xs:Array Ai)(k:Nat)(ix:Nat->Nat):Prop where
 at_:∀i,xs[i]?=a[ix i]?
 rest:∀i,k<=i->ix i=i
 low:∀i,i<k->ix i<k
theorem From.key {a xs:Array Ai}{k:Nat}{ix:Nat->Nat}(f:From a xs k ix)(i:Nat):K xs i=K a (ix i):=K_congr (f.at_ i)
theorem From.more {a xs:Array Ai}{k:Nat}{ix:Nat->Nat}(f:From a xs k ix):From a xs (k+1) ix :=
 ⟨f.at_,λi h=>f.rest i ⋯,λi h=>by
  by_cases e:i<k
  .have:=f.low i e;lia
  .have:=f.rest i ⋯;lia⟩
theorem From.mirror {a xs:Array Ai}{k b:Nat}{ix:Nat->Nat}(f:From a xs k ix)(hk:k<=xs.size):From a (mirror xs b k ((k-b)/2)) k (λi=>if b<=i/\i<k then ix (b+k-1-i) else ix i):=by
 refine⟨λi=>?_,λi h=>?_,λi h=>?_⟩
 .rw[getElem?_mirror_all hk];by_cases c:b<=i/\i<k
  .simp only[am c];exact f.at_ _
  .simp only[al c];exact f.at_ _
 .simp only[al (show ¬ (b<=i/\i<k) by lia)];exact f.rest i h
 .by_cases c:b<=i/\i<k
  .simp only[am c];exact f.low _ ⋯
  .simp only[al c];exact f.low i h
def Up (a xs:Array Ai)(k:Nat):Prop:=∃ix,From a xs k ix/\∀i j,i<j->j<k->Bef a (ix i) (ix j)
def Dr (a xs:Array Ai)(k:Nat):Prop:=∃ix,From a xs k ix/\∀i j,i<j->j<k->Bef a (ix j) (ix i)
def Dn (a xs:Array Ai)(k e:Nat):Prop:=e+1<=k/\∃ix,From a xs k ix/\(∀i j,i<j->j<k-(e+1)->Bef a (ix j) (ix i))/\(∀i j,i<k-(e+1)->k-(e+1)<=j->j<k->K a (ix j)<K a (ix i)) /\
 ∀i j,k-(e+1)<=i->i<j->j<k->K a (ix i)=K a (ix j)/\ix i<ix j
section
variable {a xs:Array Ai}{k e:Nat}
theorem Up.le (h:Up a xs k){i j:Nat}(hij:i<=j)(hj:j<k):K xs i<=K xs j:=by
 obtain⟨ix,f,o⟩:=h;rw[f.key,f.key];by_cases c:i=j
 .subst c;exact dQ _
 .rcases o i j ⋯ hj with h|h <;> lia
theorem Up.grow (h:Up a xs k)(hk:1<=k)(hn:¬ K xs k<K xs (k-1)):Up a xs (k+1):=by
 obtain⟨I,f,o⟩:=h;rw[f.key,f.key,f.rest k (ah _)]at hn;refine⟨I,f.more,λi j F L=>?_⟩;by_cases c:j<k
 .exact o i j F c
 .obtain rfl:j=k:=by lia
  have J:=f.low i F;rw[f.rest j (ah _)];unfold Bef;by_cases c2:i=j-1
  .subst c2;lia
  .rcases o i (j-1) ⋯ ⋯ with h|h <;> lia
theorem Dr.up (h:Dr a xs k)(hk:k<=xs.size):Up a (mirror xs 0 k ((k-0)/2)) k:=by obtain⟨F,f,o⟩:=h;refine⟨_,f.mirror hk,λi j J I=>?_⟩;simp only[am (show 0<=i/\i<k by lia),am (show 0<=j/\j<k by lia)];exact o _ _ ⋯ ⋯
theorem Dn.flat (h:Dn a xs k 0):Dr a xs k:=by
 obtain⟨h0,ix,f,o1,o2,o3⟩:=h;refine⟨ix,f,λi j hij hj=>?_⟩;by_cases c:j<k-(0+1)
 .exact o1 i j hij c
 .exact .inl (o2 i j ⋯ ⋯ hj)
theorem Dn.turn (h:Dn a xs k e)(hk:k<=xs.size):Dr a (mirror xs (k-(e+1)) k ((k-(k-(e+1)))/2)) k:=by
 obtain⟨U,O,f,J,I,F⟩:=h;refine⟨_,f.mirror hk,λi j L S=>?_⟩;by_cases c1:k-(e+1)<=i
 .simp only[am (show k-(e+1)<=i/\i<k by lia),am (show k-(e+1)<=j/\j<k by lia)];exact .inr (F _ _ ⋯ ⋯ ⋯)
 .simp only[al (show ¬ (k-(e+1)<=i/\i<k) by lia)];by_cases c2:k-(e+1)<=j
  .simp only[am (show k-(e+1)<=j/\j<k by lia)];exact .inl (I _ _ ⋯ ⋯ ⋯)
  .simp only[al (show ¬ (k-(e+1)<=j/\j<k) by lia)];exact J i j L ⋯
theorem Dr.grow (h:Dr a xs k)(hk:1<=k)(hn:K xs k<K xs (k-1)):Dn a xs (k+1) 0:=by
 obtain⟨F,f,o⟩:=h;rw[f.key,f.key,f.rest k (ah _)]at hn;refine⟨⋯,F,f.more,λi j I J=>o i j I ⋯,λi j hi h1 h2=>?_,λi j h1 h2 L=>by lia⟩;obtain rfl:j=k:=by lia
 rw[f.rest j (ah _)];by_cases c:i=j-1
 .subst c;exact hn
 .rcases o i (j-1) ⋯ ⋯ with h|h <;> lia
theorem Dn.grow (h:Dn a xs k e)(h1:¬ K xs k<K xs (k-1))(h2:¬ K xs (k-1)<K xs k):Dn a xs (k+1) (e+1):=by
 obtain⟨h0,S,f,O,J,I⟩:=h;rw[f.key,f.key,f.rest k (ah _)]at h1 h2;have F:k+1-(e+1+1)=k-(e+1):=by lia
 refine⟨⋯,S,f.more,?_,?_,?_⟩
 .rw[F];exact O
 .rw[F];intro i j hi U Z;by_cases c:j<k
  .exact J i j hi U c
  .obtain rfl:j=k:=by lia
   rw[f.rest j (ah _)];have:=J i (j-1) hi ⋯ ⋯;lia
 .rw[F];intro i j hi L hj;by_cases c:j<k
  .exact I i j hi L c
  .obtain rfl:j=k:=by lia
   rw[f.rest j (ah _)];refine⟨?_,f.low i L⟩;by_cases c2:i=j-1
   .subst c2;lia
   .have:=(I i (j-1) hi ⋯ ⋯).1;lia
theorem Up.even (h:Up a xs k)(hk:1<=k)(hz:k<=xs.size)(hr:¬ K xs 0<K xs (k-1)):Dr a (mirror xs 0 k ((k-0)/2)) k:=by
 have I:=@Up.le a xs k h;obtain⟨F,f,o⟩:=h;have J:∀i,i<k->K a (F i)=K a (F 0):=λi hi=>by have O:=I (i:=0) (j:=i) ⋯ hi;have L:=I (i:=i) (j:=k-1) ⋯ ⋯;rw[f.key,f.key]at O L hr;lia
 refine⟨_,f.mirror hz,λi j U S=>?_⟩;simp only[am (show 0<=i/\i<k by lia),am (show 0<=j/\j<k by lia)];have O:=J (0+k-1-i) ⋯;have L:=J (0+k-1-j) ⋯;rcases o (0+k-1-j) (0+k-1-i) ⋯ ⋯ with h|h
 .exact .inl h
 .exact .inr h
theorem Up.put (h:Up a xs k)(hk:k<xs.size){l:Nat}(hl:l<=k)(h1:∀i,i<l->K xs i<=K xs k)(h2:∀i,l<=i->i<k->K xs k<K xs i):Up a (bubble xs k (k-l)) (k+1):=by
 obtain⟨F,f,o⟩:=h;have L:k-(k-l)=l:=by lia
 have I:=f.rest k (ah _);refine⟨λi=>if i=l then k else if l<i/\i<=k then F (i-1) else F i,⟨λi=>?_,λi hi=>?_,λi hi=>?_⟩,λi j O S=>?_⟩
 .rw[getElem?_bubble hk _ ⋯,L];by_cases c:i=l
  .simp only[am c];rw[f.at_,I]
  .simp only[al c];by_cases c2:l<i/\i<=k
   .simp only[am c2];exact f.at_ _
   .simp only[al c2];exact f.at_ _
 .simp only[al (show ¬ i=l by lia),al (show ¬ (l<i/\i<=k) by lia)];exact f.rest i ⋯
 .by_cases c:i=l
  .simp only[am c];lia
  .simp only[al c];by_cases c2:l<i/\i<=k
   .simp only[am c2];have:=f.low (i-1) ⋯;lia
   .simp only[al c2];have:=f.low i ⋯;lia
 .have J:∀i,i<k->(i<l->K a (F i)<=K a k)/\(l<=i->K a k<K a (F i)):=λi hi=>by
   refine⟨λc=>?_,λc=>?_⟩
   .have:=h1 i c;rw[f.key,f.key,I]at this;exact this
   .have:=h2 i c hi;rw[f.key,f.key,I]at this;exact this
  by_cases ci:i=l
  .simp only[am ci,al (show ¬ j=l by lia),am (show l<j/\j<=k by lia)];exact .inl ((J (j-1) ⋯).2 ⋯)
  .by_cases cj:j=l
   .simp only[al ci,am cj,al (show ¬ (l<i/\i<=k) by lia)];have Z:=(J i ⋯).1 ⋯;have U:=f.low i ⋯;unfold Bef;lia
   .simp only[al ci,al cj];by_cases c3:l<i
    .simp only[am (show l<i/\i<=k by lia),am (show l<j/\j<=k by lia)];exact o _ _ ⋯ ⋯
    .simp only[al (show ¬ (l<i/\i<=k) by lia)];by_cases c4:l<j
     .simp only[am (show l<j/\j<=k by lia)];exact o _ _ ⋯ ⋯
     .simp only[al (show ¬ (l<j/\j<=k) by lia)];exact o _ _ O ⋯
end
section
variable {prog:Ac}{w:Ah}{A:Ae}{E:Ag->Ab->Prop}{s:Ab}{a₀:Array Ai}
end
end L2
namespace L2
open PySem PySem.Spec PyProof.Rows
theorem qzh:∀(n:Nat) (l:List Nat),l.Nodup->(∀x∈l,x<n)->l.length<=n
 |0,l,_,h=>by
  cases l with
  |nil=>exact ah _
  |cons x l=>exact absurd (h x (au ..)) (Nat.not_lt_zero _)
 |n+1,l,hn,h=>by
  have a1:=qzh n (l.erase n) (hn.erase n) λx hx=>by
   have hm:=List.mem_of_mem_erase hx;have:=h x hm;by_cases e:x=n
   .subst e;exact absurd hx (hn.not_mem_erase)
   .lia
  have a2:l.length<=(l.erase n).length+1:=by rw[List.length_erase];split <;> lia
  lia
theorem qz2:∀(n:Nat) (l:List Nat),l.Nodup->(∀x∈l,x<n)->l.length=n->l.Perm (List.range n)
 |0,l,_,_,e=>by rw[fC.mp e];exact List.Perm.refl _
 |n+1,l,hn,h,e=>by
  have hm:n∈l:=by
   apply dj;intro c;have:=qzh n l hn λx F=>by
    have:=h x F;by_cases e:x=n
    .subst e;exact absurd F c
    .lia
   lia
  have I:=qz2 n (l.erase n) (hn.erase n) (λx F=>by
   have:=h x (List.mem_of_mem_erase F)
   by_cases e:x=n
   .subst e;exact absurd F hn.not_mem_erase
   .lia) (by rw[List.length_erase,am (by simpa using hm)];lia)
  rw[cw];exact(List.perm_cons_erase hm).trans ((I.cons n).trans (List.perm_append_comm (l₁:=[n])))
theorem Up.places {a xs:Array Ai}(h:Up a xs a.size)(hz:xs.size=a.size):∃il:List Nat,il.Perm (List.range a.size)/\il.Pairwise (Bef a)/\xs.toList=il.map λi=>a.getD i (.none,.none):=by
 obtain⟨I,f,o⟩:=h;have F:((List.range a.size).map I).Pairwise (Bef a):=by rw[dG];refine List.Pairwise.imp_of_mem (R:=(·<·)) (λ{i j} hi hj hij=>?_) List.pairwise_lt_range;exact o i j hij (bc.mp hj)
 refine⟨(List.range a.size).map I,qz2 _ _ ?_ ?_ (by rw[ac,bI]),F,?_⟩
 .refine F.imp λ{i j} h e=>?_;subst e;unfold Bef at h;lia
 .intro x J;obtain⟨i,hi,rfl⟩:=av.mp J;exact f.low i (bc.mp hi)
 .refine dE λi=>?_;rw[aW,aD,cR,f.at_];by_cases c:i<a.size
  .rw[d6 c];have:=f.low i c;simp[Array.getD,this]
  .rw[f.rest i ⋯,dF ⋯,bn (by rw[bI];lia)];rfl
end L2
namespace L2
open PySem PySem.Spec PySem.W PyProof.Rows
section
variable {n:Nat}{im:Nat->Ai}{kz:Nat->Int}{ask:Nat->Nat->(Bool->Ab->Prop)->Ab->Prop}{s:Ab}
def Gd (n:Nat)(p:Array Nat):Prop:=p.Perm (List.toArray (List.range n))
theorem Gd.size {p:Array Nat}(h:Gd n p):p.size=n:=by have:=Array.Perm.size_eq h;simpa using this
theorem Gd.lt {p:Array Nat}(h:Gd n p){i:Nat}(hi:i<n):p.getD i 0<n:=by
 have hs:=h.size;have m:p[i]'⋯∈p:=Array.getElem_mem _;have:=(Array.Perm.mem_iff h).mp m;have e:p.getD i 0=p[i]'⋯:=by simp[Array.getD,hs,hi]
 rw[e];simpa using this
theorem Gd.rev {p:Array Nat}(h:Gd n p)(i j:Nat):Gd n (kas_rev p i j):=(mirror_perm _ _ _ _).trans h
theorem Gd.bub {p:Array Nat}(h:Gd n p)(i j:Nat):Gd n (bubble p i j):=(bubble_perm _ _ _).trans h
def ixA (n:Nat)(im:Nat->Ai):Array Ai:=(List.toArray (List.range n)).map im
theorem qqv (p:Array Nat)(i j:Nat):(kas_rev p i j).map im=mirror (p.map im) i j ((j-i)/2):=by unfold kas_rev mirror;exact(kas_swaps_map im _ _ _ p).symm
theorem wjf (p:Array Nat)(i j:Nat):(bubble p i j).map im=bubble (p.map im) i j:=by unfold bubble;exact(kas_swaps_map im _ _ _ p).symm
def KyI (im:Nat->Ai)(kz:Nat->Int):Prop:=∀(p:Array Nat) i,i<p.size->K (p.map im) i=kz (p.getD i 0)
def qw3 (n:Nat)(kz:Nat->Int)(ask:Nat->Nat->(Bool->Ab->Prop)->Ab->Prop)(s:Ab):Prop:=∀i j C,i<n->j<n->C (decide (kz i<kz j)) s->ask i j C s
theorem qq0 {p:Array Nat}{i j:Nat}{C:Bool->Ab->Prop}(ha:qw3 n kz ask s)(hk:KyI im kz)(g:Gd n p)(hi:i<n)(hj:j<n)
  (h1:K (p.map im) i<K (p.map im) j->C true s) (h2:¬ K (p.map im) i<K (p.map im) j->C false s):ask (p.getD i 0) (p.getD j 0) C s:=by
 refine ha _ _ _ (g.lt hi) (g.lt hj) ?_;rw[hk p i (by rw[g.size];exact hi),hk p j (by rw[g.size];exact hj)]at h1 h2;by_cases c:kz (p.getD i 0)<kz (p.getD j 0)
 .simp only[c,decide_true];exact h1 c
 .simp only[c,decide_false];exact h2 c
theorem qu8 {p:Array Nat}{e:Nat}{Q:Nat->Ab->Prop}(ha:qw3 n kz ask s)(hk:KyI im kz)(g:Gd n p)(he:e<=n):∀(f b:Nat),1<=b->b+f=e->Up (ixA n im) (p.map im) b ->
  (∀m,b<=m->m<=e->Up (ixA n im) (p.map im) m->(m=e\/K (p.map im) m<K (p.map im) (m-1))->Q m s)->(kas_asc p f b).kasWp ask Q s
 |0,b,_,hb,u,h=>h b (ah _) ⋯ u (.inl ⋯)
 |f+1,b,h1,hb,u,h=>by
  refine qq0 ha hk g ⋯ ⋯ (λc=>?_) λc=>?_
  .exact h b (ah _) ⋯ u (.inr c)
  .exact qu8 ha hk g he f (b+1) ⋯ ⋯ (u.grow h1 c) λm a1 a2 a3 a4=>h m ⋯ a2 a3 a4
theorem wwf {p:Array Nat}{k e:Nat}{Q:Nat×Array Nat->Ab->Prop}(ha:qw3 n kz ask s)(hk:KyI im kz)(g:Gd n p)(he:e<=n)(h1:1<=k)(hke:k<=e)(d:Dr (ixA n im) (p.map im) k)
  (h:∀m q,Gd n q->1<=m->m<=e->Up (ixA n im) (q.map im) m->Q (m,q) s):(kas_tail3 k e p).kasWp ask Q s:=by
 unfold kas_tail3;rw[KasT.kasWp_bind];refine qu8 ha hk (g.rev 0 k) he (e-k) k h1 ⋯ ?_ λm J I F _=>h m _ (g.rev 0 k) ⋯ I F;rw[qqv];exact d.up (by rw[dh,g.size];lia)
theorem qqj {e:Nat}{Q:Array Nat×Nat×Nat->Ab->Prop}(ha:qw3 n kz ask s)(hk:KyI im kz)(he:e<=n):∀(f:Nat) (p:Array Nat) (x q:Nat),Gd n p->x+f=e->Dn (ixA n im) (p.map im) x q ->
  (∀m r p',Gd n p'->x<=m->m<=e->Dn (ixA n im) (p'.map im) m r->Q (p',m,r) s)->(kas_desc f p x q).kasWp ask Q s
 |0,p,x,q,g,hx,d,h=>h x q p g (ah _) ⋯ d
 |f+1,p,x,q,g,hx,d,h=>by
  have hx1:1<=x:=by have:=d.1;lia
  have O:x<=(p.map im).size:=by rw[dh,g.size];lia
  refine qq0 ha hk g ⋯ ⋯ (λc=>?_) λc=>?_
  .show KasT.kasWp ask (if q>0 then kas_desc f (kas_rev p (x-(q+1)) x) (x+1) 0 else kas_desc f p (x+1) 0) Q s;by_cases F:q>0
   .rw[am F];refine qqj ha hk he f _ (x+1) 0 (g.rev _ _) ⋯ ?_ λm r p' L U J I=>h m r p' L ⋯ J I;rw[qqv];refine(d.turn O).grow hx1 ?_;rw[K_mirror O,K_mirror O,al ⋯,am (by have:=d.1;lia)];obtain⟨hq,ix,S,_,_,Z⟩:=id d;by_cases c3:x-(q+1)+x-1-(x-1)=x-1
    .rw[c3];exact c
    .have:=(Z (x-(q+1)+x-1-(x-1)) (x-1) ⋯ ⋯ ⋯).1;rw[<-S.key,<-S.key]at this;lia
   .rw[al F];obtain rfl:q=0:=by lia
    exact qqj ha hk he f p (x+1) 0 g ⋯ (d.flat.grow hx1 c) λm r p' L U J I=>h m r p' L ⋯ J I
  .refine qq0 ha hk g ⋯ ⋯ (λF=>?_) λF=>?_
   .exact h x q p g (ah _) ⋯ d
   .exact qqj ha hk he f p (x+1) (q+1) g ⋯ (d.grow c F) λm r p' L U J I=>h m r p' L ⋯ J I
theorem wwc {p:Array Nat}{k e:Nat}{Q:Nat×Array Nat->Ab->Prop}(ha:qw3 n kz ask s)(hk:KyI im kz)(g:Gd n p)(he:e<=n)(hke:k+1<=e)(d:Dn (ixA n im) (p.map im) (k+1) 0)
  (h:∀m q,Gd n q->1<=m->m<=e->Up (ixA n im) (q.map im) m->Q (m,q) s):(kas_descPart k e p).kasWp ask Q s:=by
 unfold kas_descPart;rw[KasT.kasWp_bind];refine qqj ha hk he (e-(k+1)) p (k+1) 0 g ⋯ d λm r L F S J I=>?_;have O:m<=(L.map im).size:=by rw[dh,F.size];lia
 dsimp only;by_cases c:r>0
 .rw[am c];refine wwf ha hk (F.rev _ _) he ⋯ J ?_ h;rw[qqv];exact I.turn O
 .rw[al c];obtain rfl:r=0:=by lia
  exact wwf ha hk F he ⋯ J I.flat h
theorem wvy {e:Nat}{Q:Nat×Array Nat->Ab->Prop}(ha:qw3 n kz ask s)(hk:KyI im kz)(he:e<=n)(h1:1<=e)
  (h:∀m q,Gd n q->1<=m->m<=e->Up (ixA n im) (q.map im) m->Q (m,q) s):(kas_count e (List.toArray (List.range n))).kasWp ask Q s:=by
 have g:Gd n (List.toArray (List.range n)):=Array.Perm.refl _;have O:Up (ixA n im) ((List.toArray (List.range n)).map im) 1:=⟨id,⟨λi=>rfl,λi _=>rfl,λi z=>z⟩,λi j a b=>by lia⟩;unfold kas_count;rw[KasT.kasWp_bind];refine qu8 ha hk g he (e-1) 1 (ah _) ⋯ O λm F J u U=>?_;have I:m<=((List.toArray (List.range n)).map im).size:=by rw[dh,g.size];lia
 by_cases c:m=e
 .rw[am (cY.mpr c)];exact h m _ g F J u
 .have Z:=U.resolve_left c;rw[al (λz=>c (cY.mp z))];by_cases c2:m>1
  .rw[am c2];refine qq0 ha hk g ⋯ ⋯ (λL=>?_) λL=>?_
   .exact h m _ g F J u
   .refine wwc ha hk (g.rev 0 m) he ⋯ ?_ h;rw[qqv];refine(u.even F I L).grow F ?_;rw[K_mirror I,K_mirror I,al ⋯,am ⋯];have e1:=u.le (i:=0) (j:=0+m-1-(m-1)) ⋯ ⋯;have e2:=u.le (i:=0+m-1-(m-1)) (j:=m-1) ⋯ ⋯;lia
  .rw[al c2];obtain rfl:m=1:=by lia
   obtain⟨S,f,o⟩:=u;exact wwc ha hk g he ⋯ (Dr.grow ⟨S,f,λi j a b=>by lia⟩ ⋯ Z) h
theorem qq6 {p:Array Nat}{k:Nat}{Q:Nat->Ab->Prop}(ha:qw3 n kz ask s)(hk:KyI im kz)(g:Gd n p)(hkn:k<n)(u:Up (ixA n im) (p.map im) k)
  (h:∀l,l<=k->(∀i,i<l->K (p.map im) i<=K (p.map im) k)->(∀i,l<=i->i<k->K (p.map im) k<K (p.map im) i)->Q l s):∀(f l r:Nat),l<=r->r<=k->r-l<=f->(∀i,i<l->K (p.map im) i<=K (p.map im) k)->(∀i,r<=i->i<k->K (p.map im) k<K (p.map im) i) ->
  (kas_place p k f l r).kasWp ask Q s
 |0,l,r,a1,a2,a3,a4,a5=>by
  obtain rfl:l=r:=by lia
  exact h l a2 a4 a5
 |f+1,l,r,a1,a2,a3,a4,a5=>by
  unfold kas_place;by_cases c1:l>=r
  .rw[am c1];obtain rfl:l=r:=by lia
   exact h l a2 a4 a5
  .rw[al c1];refine qq0 ha hk g ⋯ ⋯ (λJ=>?_) λJ=>?_
   .exact qq6 ha hk g hkn u h f l ((l+r)/2) ⋯ ⋯ ⋯ a4 λi I F=>by have:=u.le I F;lia
   .exact qq6 ha hk g hkn u h f ((l+r)/2+1) r ⋯ ⋯ ⋯ (λi z=>by have:=u.le (i:=i) (j:=(l+r)/2) ⋯ ⋯;lia) a5
theorem wv7 {Q:Array Nat->Ab->Prop}(ha:qw3 n kz ask s)(hk:KyI im kz)(h:∀q,Gd n q->Up (ixA n im) (q.map im) n->Q q s):∀(f:Nat) (p:Array Nat) (k:Nat),Gd n p->1<=k->k+f=n->Up (ixA n im) (p.map im) k ->
  (kas_bin f p k).kasWp ask Q s
 |0,p,k,g,_,e,u=>by
  obtain rfl:k=n:=by lia
  exact h p g u
 |f+1,p,k,g,k1,e,u=>by
  unfold kas_bin;rw[KasT.kasWp_bind];refine qq6 ha hk g ⋯ u (λl J I F=>?_) k 0 k (aR _) (ah _) ⋯ (λi z=>by lia) λi O L=>by lia
  refine wv7 ha hk h f _ (k+1) (g.bub _ _) ⋯ ⋯ ?_;rw[wjf];exact u.put (by rw[dh,g.size];lia) J I F
theorem wy0 {Q:Array Nat->Ab->Prop}(ha:qw3 n kz ask s)(hk:KyI im kz)(h1:1<=n)(h:∀q,Gd n q->Up (ixA n im) (q.map im) n->Q q s):(kas_sort n).kasWp ask Q s:=by
 unfold kas_sort;rw[KasT.kasWp_bind];refine wvy ha hk (ah _) h1 λm q g F J u=>?_;dsimp only;have I:max m 1=m:=by lia
 by_cases c:m<n
 .rw[am c,I];exact wv7 ha hk h (n-m) q m g F ⋯ u
 .rw[al c];obtain rfl:m=n:=by lia
  exact h q g u
def imI (kz:Nat->Int)(t:Tok)(i:Nat):Ai:=(.int (kz i) t,.int (i:Int) t)
theorem imI_ky (kz:Nat->Int)(t:Tok):KyI (imI kz t) kz:=λp i hi=>by unfold K;simp[hi,imI,numOf,Array.getD]
theorem tr_out {t:Tok}{Q:Array Nat->Ab->Prop}(ha:qw3 n kz ask s)(h1:1<=n)
  (h:∀il:List Nat,il.Perm (List.range n)->il.Pairwise (λi j=>kz i<kz j\/(kz i=kz j/\i<j))->Q il.toArray s):(kas_sort n).kasWp ask Q s:=by
 refine wy0 ha (imI_ky kz t) h1 λq g u=>?_;have F:(ixA n (imI kz t)).size=n:=by simp[ixA]
 have O:(q.map (imI kz t)).size=(ixA n (imI kz t)).size:=by rw[F,dh,g.size]
 obtain⟨il,p,o,e⟩:=Up.places (by rw[F];exact u) O;rw[F]at p;have I:∀i∈il,i<n:=λi hi=>bc.mp (p.mem_iff.mp hi);have aa:∀i,i<n->(ixA n (imI kz t)).getD i (.none,.none)=imI kz t i:=λi hi=>by simp[ixA,Array.getD,hi]
 have J:∀i,i<n->K (ixA n (imI kz t)) i=kz i:=λi hi=>by unfold K;simp[ixA,hi,imI,numOf]
 have Z:q.toList.map (imI kz t)=il.map (imI kz t):=by rw[<-Array.toList_map,e];exact bz λi hi=>aa i (I i hi)
 have L:∀i j,imI kz t i=imI kz t j->i=j:=λi j e=>by simp only[imI,Prod.mk.injEq,Value.int.injEq]at e;lia
 have U:q.toList=il:=(List.map_inj_right (λi j e=>L i j e)).mp Z;have S:q=il.toArray:=by rw[<-U]
 rw[S];exact h il p (o.imp_of_mem λ{i j} hi hj hb=>by
  unfold Bef at hb
  rw[J i (I i hi),J j (I j hj)]at hb
  exact hb)
end
end L2
namespace L2
open PySem PySem.Spec PySem.Calls PySem.W PyProof.Rows
section
variable {prog:Ac}{w:Ah}{A:Ae}{E:Ag->Ab->Prop}{s:Ab}
theorem W8 {h:Heap}{a:Aj}{vs:List Ag}{k:Nat}(ho:h.get? a=some (seqObj "list" vs.toArray k))(out:Array Ag):∃e,(sortedHeap h a vs out).get? a=some (seqObj "list" out e):=by obtain⟨F,I⟩:∃F,(h.update a (Obj.mapSeq λ_=>(#[]:Array Ag))).get? a=some (seqObj "list" #[] F):=⟨_,get?_update_seq ho λ_=>#[]⟩;exact⟨_,get?_update_seq (af _ (af _ I)) λ_=>out⟩
theorem Qp {h:Heap}{a b:Aj}{vs:List Ag}{o:Obj}(e:h.get? b=some o)(hb:b≠a)(out:Array Ag):(sortedHeap h a vs out).get? b=some o:=by unfold sortedHeap;rw[d7 _ _ _ _ hb];refine af _ (af _ ?_);rw[d7 _ _ _ _ hb];exact e
end
section
variable {X:Cx}
end
end L2
namespace L2
open PySem PySem.Spec PySem.Calls PySem.W PyProof.Rows
def kzS (ss:List Str)(x:Str):Int:=((ss.filter λy=>decide (y.cps.toList<x.cps.toList)).length:Nat)
theorem wz6 {ss:List Str}{x y:Str}(h:¬ y.cps.toList<x.cps.toList):kzS ss x<=kzS ss y:=by
 unfold kzS;have:(ss.filter λz=>decide (z.cps.toList<x.cps.toList)).length<=(ss.filter λz=>decide (z.cps.toList<y.cps.toList)).length:=by
  refine(List.Sublist.length_le ?_);have e:(ss.filter λz=>decide (z.cps.toList<x.cps.toList))=(ss.filter λz=>decide (z.cps.toList<y.cps.toList)).filter λz=>decide (z.cps.toList<x.cps.toList):=by
   rw[List.filter_filter];refine List.filter_congr λz _=>?_;by_cases c:z.cps.toList<x.cps.toList
   .have:z.cps.toList<y.cps.toList:=by apply dj;intro n;exact absurd c (dA.mpr (List.le_trans (dA.mp h) (dA.mp n)))
    simp[c,this]
   .simp[c]
  rw[e];exact List.filter_sublist
 lia
theorem wkr {ss:List Str}{x y:Str}(hx:x∈ss)(h:x.cps.toList<y.cps.toList):kzS ss x<kzS ss y:=by
 unfold kzS;have sub:(ss.filter λz=>decide (z.cps.toList<x.cps.toList)).length<(ss.filter λz=>decide (z.cps.toList<y.cps.toList)).length:=by
  have e:(ss.filter λz=>decide (z.cps.toList<x.cps.toList))=(ss.filter λz=>decide (z.cps.toList<y.cps.toList)).filter λz=>decide (z.cps.toList<x.cps.toList):=by
   rw[List.filter_filter];refine List.filter_congr λz _=>?_;by_cases c:z.cps.toList<x.cps.toList
   .have:z.cps.toList<y.cps.toList:=List.lt_trans c h;simp[c,this]
   .simp[c]
  rw[e];have F:x∈ss.filter λz=>decide (z.cps.toList<y.cps.toList):=dq.mpr ⟨hx,aM h⟩;refine Nat.lt_of_le_of_ne (cm _ _) λz=>?_;have:=(List.length_filter_eq_length_iff).mp z x F;exact cF _ (bF this)
 lia
theorem wjt {ss:List Str}{x y:Str}(hx:x∈ss):kzS ss x<kzS ss y↔x.cps.toList<y.cps.toList:=by
 constructor
 .intro h;apply dj;intro n;have:=wz6 (ss:=ss) n;lia
 .exact wkr hx
section
variable {prog:Ac}{w:Ah}{A:Ae}{E:Ag->Ab->Prop}{s:Ab}
def StrsR (vs:List Ag)(ss:List Str):Prop:=Paired (λv x=>∃t,v=Value.str x t) vs ss
theorem StrsR.at {vs:List Ag}{ss:List Str}(h:StrsR vs ss):∀ {i:Nat},i<ss.length->∃x t,ss[i]?=some x/\vs.getD i Value.none=Value.str x t:=by
 induction h with
 |nil=>intro i hi;exact absurd hi (Nat.not_lt_zero _)
 |@cons a b l m hd tl ih =>
  intro i hi;cases i with
  |zero=>obtain⟨t,rfl⟩:=hd;exact⟨b,t,rfl,rfl⟩
  |succ i=>exact ih (i:=i) (by simpa using hi)
theorem StrsR.mem {vs:List Ag}{ss:List Str}(h:StrsR vs ss):∀v∈vs,∃x t,v=Value.str x t:=by
 induction h with
 |nil=>intro v F;cases F
 |@cons a b l m hd tl ih =>
  intro v F;rcases ap.mp F with rfl|F
  .obtain⟨t,e⟩:=hd;exact⟨b,t,e⟩
  .exact ih v F
theorem qqt {a:Aj}{vs:List Ag}{k:Nat}{ss:List Str}{P:PySem.Fin->Ab->Prop}(ho:s.heap.get? a=some (seqObj "list" vs.toArray k))(h64:vs.length<64)(t:StrsR vs ss)
  (h:∀il:List Nat,il.Perm (List.range vs.length)->il.Pairwise (λi j=>¬ (ss.getD j Str.empty).cps.toList<(ss.getD i Str.empty).cps.toList)->P (.done (.ret .none)) { s with heap:=sortedHeap s.heap a vs (il.map λi=>vs.getD i Value.none).toArray }) :
  wpAny (model prog w) A (Builtin.«list.sort» ⟨[.ref a],[]⟩) P E s:=by
 have a5:vs.length=ss.length:=bN t;have ha:a<s.heap.objs.size:=aq ho;obtain⟨e1,ai⟩:∃e1,(s.heap.update a (Obj.mapSeq λ_=>(#[]:Array Ag))).get? a=some (seqObj "list" #[] e1):=⟨_,get?_update_seq ho λ_=>#[]⟩;have sz:(1000001:Nat)<sizeLine:=by decide
 rw[list_sort_plain];refine ae (listItems_at ho rfl ?_);refine ae (listUpdate_at ho rfl ?_ (by rw[aG];lia) (aR _));refine ae (seqEpoch_at ai rfl ?_);refine ae (wpAny_newTuple ?_ (by show vs.length<=_;lia));refine ae (fm ?_ (aR _));refine bJ ?_;show wpAny (model prog w) A _ P E { s with heap:=((s.heap.update a (Obj.mapSeq λ_=>(#[]:Array Ag))).push (seqObj "tuple" vs.toArray 0)).push (seqObj "list" #[] 0) };have I:(((s.heap.update a (Obj.mapSeq λ_=>(#[]:Array Ag))).push (seqObj "tuple" vs.toArray 0)).push (seqObj "list" #[] 0)).get? a=some (seqObj "list" #[] e1):=af _ (af _ ai);have J:∀(h':Heap) (il:List Nat),h'=((s.heap.update a (Obj.mapSeq λ_=>(#[]:Array Ag))).push (seqObj "tuple" vs.toArray 0)).push (seqObj "list" #[] 0)->il.Perm (List.range vs.length)->il.Pairwise (λi j=>¬ (ss.getD j Str.empty).cps.toList<(ss.getD i Str.empty).cps.toList)->P (.done (.ret .none)) { s with heap:=h'.update a (Obj.mapSeq λ_=>(il.map λi=>vs.getD i Value.none).toArray) }:=λh' il e a1 a2=>by subst e;exact h il a1 a2
 generalize ((s.heap.update a (Obj.mapSeq λ_=>(#[]:Array Ag))).push (seqObj "tuple" vs.toArray 0)).push (seqObj "list" #[] 0)=h6' at I J ⊢;have J:=λil=>J h6' il rfl;dsimp only;by_cases h2:vs.toArray.size<2
 .rw[am h2,am h2];refine ae (aF ?_);rw[StateT.run_pure];refine ae (aF ?_);dsimp only;have an:vs.length<2:=by simpa using h2
  have e:(arrOf (SortSt.mk' general' (vs.toArray.zip vs.toArray) #[] 7 none)).map (·.2)=((List.range vs.length).map λi=>vs.getD i Value.none).toArray:=by
   show(vs.toArray.zip vs.toArray).map (·.2)=_
   match vs,an with
   |[],_=>simp
   |[v],_=>simp
   |_::_::_,h2=>simp at h2;lia
  rw[e];refine ae (seqEpoch_at I rfl ?_);refine ae (listUpdate_at I rfl ?_ (aR _) (by rw[aG,ac,bI];lia));simp only[bne_self_eq_false,eO,fS];refine aF (J (List.range vs.length) (.refl _) ?_);rcases(by lia:vs.length=0\/vs.length=1) with z|z
  .rw[z];exact .nil
  .rw[z];exact List.pairwise_singleton _ _
 .rw[al h2,al h2];have ad:2<=vs.length:=by simpa using h2
  refine ae (kas_kind (T:=.type "str") ad (λv hv=>?_) rfl rfl ?_)
  .obtain⟨x,tk,rfl⟩:=t.mem v hv;exact Looks.of_pure rfl
  let kz:Nat->Int:=λi=>kzS ss (ss.getD i Str.empty);have Z:∀ {i x},ss[i]?=some x->ss.getD i Str.empty=x:=λe=>by rw[aA,e];rfl
  have ask:qw3 vs.length kz (kas_ask prog w A oneType' vs) { s with heap:=h6' }:=λi j C hi U hC=>by
   obtain⟨x,tx,ex,vx⟩:=t.at (i:=i) ⋯;obtain⟨y,ty,O,vy⟩:=t.at (i:=j) ⋯;unfold kas_ask;rw[vx,vy];refine kas_lt_str ?_;have e:decide (kz i<kz j)=decide (x.cps.toList<y.cps.toList):=by rw[cN,dH,dH];show kzS ss (ss.getD i Str.empty)<kzS ss (ss.getD j Str.empty)↔_;rw[Z ex,Z O];exact wjt (bO ex)
   rw[<-e];exact hC
  have aj:(kas_sort vs.length).kasWp (kas_cmp prog w A oneType' (pairsOf vs)) (λp s'=>s'={ s with heap:=h6' }/\p.toList.Perm (List.range vs.length)/\p.toList.Pairwise (λi j=>¬ (ss.getD j Str.empty).cps.toList<(ss.getD i Str.empty).cps.toList)) { s with heap:=h6' }:=by
   rw[<-kas_ask_eq];refine tr_out (t:=0) ask ⋯ λil L S=>⟨rfl,L,S.imp_of_mem λ{i j} hi U hb n=>?_⟩;have U:=bc.mp (L.mem_iff.mp U);obtain⟨y,ty,O,vy⟩:=t.at (i:=j) ⋯;have:kz j<kz i:=by show kzS ss (ss.getD j Str.empty)<kzS ss (ss.getD i Str.empty);rw[Z O]at n ⊢;exact wkr (bO O) n
   lia
  have a0:SortSt.mk' oneType' (vs.toArray.zip vs.toArray) #[] 7 none=kas_st oneType' (pairsOf vs) (List.toArray (List.range vs.length)):=by have e:=kas_range (pairsOf vs);rw[pairsOf_size]at e;show SortSt.mk' oneType' (pairsOf vs) #[] 7 none=SortSt.mk' oneType' ((List.toArray (List.range vs.length)).map (kas_item (pairsOf vs))) #[] 7 none;rw[e]
  have aa:=kas_runs (E:=E) (Q:=λ_ F s'=>∃p:Array Nat,p.size=vs.length/\arrOf F=p.map (kas_item (pairsOf vs))/\failedOf F=none/\s'={ s with heap:=h6' }/\p.toList.Perm (List.range vs.length)/\p.toList.Pairwise (λi j=>¬ (ss.getD j Str.empty).cps.toList<(ss.getD i Str.empty).cps.toList))
   ad h64 (λp' F s' a1 a2 a3 a4=>⟨p',a1,a2,a3,a4⟩) aj
  rw[<-a0]at aa;refine ae (aK aa ?_ λ_ _ e=>e);rintro⟨⟨⟩,F⟩ s' ⟨p,hp,har,hf,rfl,L,S⟩;dsimp only;have ak:(arrOf F).map (·.2)=List.toArray (p.toList.map λi=>vs.getD i Value.none):=by apply Array.toList_inj.mp;rw[har,Array.map_map,Array.toList_map];exact bz λi _=>by show(kas_item (pairsOf vs) i).2=_;rw[kas_item_eq]
  rw[ak];refine ae (seqEpoch_at I rfl ?_);refine ae (listUpdate_at I rfl ?_ (aR _) (by rw[aG,ac,aO];lia));rw[hf];simp only[bne_self_eq_false,eO,fS];exact aF (J p.toList L S)
theorem qvk {d:Aj}{vs:List (Key×Ag)}{ep:Nat}{Q:List Ag->Ab->Prop}(hh:A.handled=none)(lo:(d==sysModules)=false)(dd:s.heap.DictAt (xt prog w) d vs ep)(hn:vs.length<=sizeLine)
  (h:∀h' tk (qs:List Ag),(∀b o,s.heap.get? b=some o->h'.get? b=some o)->qs.length=vs.length->(∀(i:Nat) v,qs[i]?=some v->∃k x,vs[i]?=some (k,x)/\(xt prog w).is k v=true)->s.heap.objs.size<=h'.objs.size->Q qs { s with heap:=h',toks:=tk }):wpAny (model prog w) A (collect (.ref d)) Q E s:=by
 have S:d<s.heap.objs.size:=dd.lt_size;have R:(s.heap.push (seqObj "list" #[] 0)).DictAt (xt prog w) d vs ep:=dd.push _;have U:codeAny (model prog w) A (.builtin "proto.collect" ⟨[.ref d],[]⟩) (λr s'=>r=.ok (.ret (.ref s.heap.objs.size))/\∃h' tk F I,s'={ s with heap:=h',toks:=tk }/\(∀b o,b≠s.heap.objs.size->(s.heap.push (seqObj "list" #[] 0)).get? b=some o->h'.get? b=some o) /\
   h'.get? s.heap.objs.size=some { cls:=.type "list",dict:=none,data:=.seq F I,slots:=#[] }/\ItemsOf (λi v=>∃k x,vs[i]?=some (k,x)/\(xt prog w).is k v=true) F vs.length) s:=by
  refine codeAny_builtin entry_proto_collect' ?_;show wpAny _ _ (do again (.builtin "list.__iadd__" ⟨[<-newList [],.ref d],[]⟩)) _ _ s;(refine ae (fm (aF ⟨Code.quiet_builtin _ (by decide +kernel),codeAny_builtin entry_list_iadd' ?_⟩)) ;rw[Around.under_plainId (show plainId "list.__iadd__" = true by decide +kernel) _]);show wpAny _ _ (Builtin.List.listExtendWith (.ref s.heap.objs.size) (.ref d) (.ref s.heap.objs.size)) _ _ _;exact kdl_extend (s:={ s with heap:=s.heap.push (seqObj "list" #[] 0) }) (R:=λr s'=>r=.ok (.ret (.ref s.heap.objs.size))/\∃h' tk F I,s'={ s with heap:=h',toks:=tk }/\(∀b o,b≠s.heap.objs.size->(s.heap.push (seqObj "list" #[] 0)).get? b=some o->h'.get? b=some o) /\
   h'.get? s.heap.objs.size=some { cls:=.type "list",dict:=none,data:=.seq F I,slots:=#[] }/\ItemsOf (λi v=>∃k x,vs[i]?=some (k,x)/\(xt prog w).is k v=true) F vs.length) (kdl_dict lo) (by simpa using hh) R s.heap.objs.size (ee S) (ee S) (.ref s.heap.objs.size) 0 (az _ rfl) (λh' tk F I O L J=>⟨rfl,h',tk,F,I,rfl,O,L,J⟩) hn
 unfold collect;refine ae (wpAny_runValue (eo U λr s' Z=>?_));obtain⟨rfl,h',tk,F,I,rfl,O,L,J⟩:=Z;dsimp only;refine ae (wpAny_load L ?_);refine aF ?_;refine h h' tk _ (λb o e=>O b o (aJ (aq e)) (af _ e)) (by rw[aO];exact J.1) (λi v e=>J.2 i v (by rw[<-cR];exact e)) ?_;exact bH (aq L)
end
section
variable {X:Cx}
theorem W6 (hc:X.calm=true):jw X (.builtin "sorted") (λxs H Q=>∃(d:Aj) (kvs:List (Key×V)) (ss:List Str),xs=[.ref d]/\Rd H d (.dK kvs)/\kvs.map (·.1)=ss.map Sum.inr/\kvs.length<64 /\
  ∀(l:Aj) (ms:List Str),H l=none->ms.Perm ss->ms.Pairwise (λx y=>¬ y.cps.toList<x.cps.toList)->Q (.ref l) (upd H l (.lst (ms.map V.str)))):=by
 intro pins s σ H xs us Q I r h;obtain⟨d,kvs,ss,rfl,hd,hk,hn,q⟩:=h;obtain⟨u,rfl,ru⟩:=yt r;cases(show u=Value.ref d from ru);have sz:(100001:Nat)<sizeLine:=by decide
 obtain⟨z,lo,vs,aa,dd⟩:=Zs I.hok hd;obtain⟨ep,dd⟩:=dd.dictAt;have hl:vs.length=kvs.length:=(bN aa).symm;have a0:kvs.length=ss.length:=by have:=bi List.length hk;simpa using this
 refine Calls.call_function_entry kind_sorted plain_sorted entry_sorted (args_sorted1 _) ?_;unfold Builtin.«sorted»;refine ae (m:=checkCount "sorted" 1 1 _) (aF ?_);refine ae (qvk (by simpa using I.ok.hd hc) lo dd ⋯ λh' tk F ak a1 hq U=>?_);refine ae (fm ?_ ⋯);have Z:(h'.push (seqObj "list" F.toArray 0)).get? h'.objs.size=some (seqObj "list" F.toArray 0):=az _ rfl;have tS:StrsR F ss:=by
  have aj:∀(F:List Ag) (ss:List Str),F.length=ss.length->(∀(i:Nat) v,F[i]?=some v->∃x t,ss[i]?=some x/\v=Value.str x t)->StrsR F ss:=by
   intro F
   induction F with
   |nil =>
    intro ss e _;cases ss with
    |nil=>exact .nil
    |cons _ _=>simp at e
   |cons v F ih =>
    intro ss e S;cases ss with
    |nil=>simp at e
    |cons x ss =>
     obtain⟨x',t,O,L⟩:=S 0 v rfl;cases O;exact .cons ⟨t,L⟩ (ih ss (by simpa using e) λi v ev=>S (i+1) v ev)
  refine aj F ss ⋯ λi v ev=>?_;obtain⟨k,x,O,L⟩:=hq i v ev;have hi:=(ba.mp O).1;have ek:kvs[i]?=some kvs[i]:=ag ⋯;obtain⟨qv,e3,_⟩:=qkh aa ek;rw[O]at e3;have e4:=bi (λl=>l[i]?) hk;simp only[aD,ek,cb]at e4;have hs:ss[i]?=some ss[i]:=ag ⋯;rw[hs,cb]at e4;have e5:=ax e4;have e6:k=kvs[i].1:=bi Prod.fst (ax e3);rw[e6,e5]at L;obtain⟨t,rfl⟩:=(show ∃t,v=Value.str ss[i] t from wwv L);exact⟨ss[i],t,hs,rfl⟩
 refine ae (bJ (wpAny_call_entry slot_list_sort ⟨_,Z,rfl⟩ entry_list_sort ?_ (args_list_sort _)));refine qqt (s:={ s with heap:=h'.push (seqObj "list" F.toArray 0),toks:=tk }) Z ⋯ tS λJ pm up=>⟨_,rfl,aF ⟨_,rfl,?_⟩⟩;obtain⟨e,he⟩:=W8 Z (J.map λi=>F.getD i Value.none).toArray;have nl:H h'.objs.size=none:=I.hok.fresh U;have an:∀i∈J,i<ss.length:=λi hi=>by have:=bc.mp (pm.mem_iff.mp hi);lia
 have ai:∀(J:List Nat),(∀i∈J,i<ss.length)->Vals ((J.map λi=>ss.getD i Str.empty).map V.str) (J.map λi=>F.getD i Value.none):=by
  intro J
  induction J with
  |nil=>intro _;exact .nil
  |cons i J ih =>
   intro S;obtain⟨x,t,O,L⟩:=tS.at (S i (.head _));refine .cons ?_ (ih λj hj=>S j (.tail _ hj));show RelV (V.str (ss.getD i Str.empty)) (F.getD i Value.none);rw[L,aA,O];exact⟨t,rfl⟩
 have ad:(J.map λi=>ss.getD i Str.empty).Perm ss:=by
  have h1:=pm.map λi=>ss.getD i Str.empty;have h2:((List.range F.length).map λi=>ss.getD i Str.empty)=ss:=by
   refine dE λi=>?_;rw[aD];by_cases c:i<ss.length
   .rw[d6 ⋯,ag c];show some (ss.getD i Str.empty)=_;rw[aA,ag c];rfl
   .rw[bn (by rw[bI];lia),bn ⋯];rfl
  rw[h2]at h1;exact h1
 refine⟨.ref _,_,I.laid (t':=tk) (λb u hb=>Qp (af _ (ak b u hb)) (aJ (aL (aq hb) U)) _) U (show ObjOk X.prog X.w _ _ _ (.lst ((J.map λi=>ss.getD i Str.empty).map V.str)) from ⟨?_,_,e,ai J an,he⟩),rfl,q _ _ nl ad (dG.mpr up)⟩;rw[ac,ad.length_eq];lia
end
end L2
namespace L2
open PySem PySem.Spec PySem.Calls PyProof.Rows PySem.W
section
variable {prog:Ac}{w:Ah}{A:Ae}{E:Ag->Ab->Prop}{s:Ab}{K:Type}[DecidableEq K]{knd:KeyKind prog w K}
end
section
variable {X:Cx}
def tDispT (tk tv:TE):TE:=λσ H Q=>∀p,H p=none->tk σ (upd H p (.dT [])) λx H1=>tv σ H1 λv H2=>∃b ks,x=.ref b/\H2 b=some (.tup (ks.map kV))/\H2 p=some (.dT [])/\Q (.ref p) (upd H2 p (.dT [(ks,v)]))
theorem wvx {k v:Expr}{pos:Pos}{tk tv:TE}(hu:X.A.units<cLine)(hk:PE X k tk)(hv:PE X v tv):PE X (.Dict [some k] [v] pos) (tDispT tk tv):=by intro pins s σ H Q I q;have J:=I.hok.fresh (ah s.heap.objs.size);have I1:=I.laid (a:=s.heap.objs.size) (o:=.dT []) (h':=s.heap.push { cls:=.type "dict",data:=.dict #[] }) (t':=s.toks) (λ_ _ q=>af _ q) (ah _) (wzv s.heap I.big);refine wpAny_Dict_any rfl rfl (λz=>by cases z) (show 1<=15 by decide) ?_;refine pairTrees_cons_walk (thn (hk pins _ σ _ _ I1 (q _ J)) λu s1 ⟨x,H1,I2,rx,q1⟩=>thn (hv pins s1 σ H1 _ I2 q1) λw2 s2 ⟨y,H2,I3,ry,b,ks,ex,eb,ep,q2⟩=>pairTrees_nil_walk ?_);subst ex;cases(show u=Value.ref b from rx);obtain⟨z,L,xs,F,dd⟩:=dt_of I3.hok ep;cases F;unfold storeAll;rw[List.forIn_cons];refine ae (ae (wpAny_dictSet_heap (knd:=tupleKind (xt X.prog X.w)) (hsz:=aR _) hu (Zx I3.hok eb) dd λh' aa hs=>aF ?_));refine aF ?_;obtain⟨o',es,Z,h1,h2,U,S,_,O⟩:=aa;refine⟨.ref _,_,Wf I3 (by rw[ep];exact True.intro) hs ⟨o',h1⟩ (show ObjOk X.prog X.w (upd H2 s.heap.objs.size (.dT [(ks,y)])) h' s.heap.objs.size (.dT [(ks,y)]) from ⟨by show 1<=sizeLine;decide,L,[(ks,b,w2)],.cons ⟨rfl,?_,ry⟩ .nil,o',es,Z,h1,h2,U,S,O⟩),rfl,q2⟩;rw[wj (ne_of eb ep (λz=>nomatch z))];exact eb
end
end L2
namespace L2
open PySem PySem.Spec PySem.Calls PyProof.Rows
section
variable {Y:Cx}{kx vx:Expr}{tk te:TE}{c:Code}{p:Aj}{σ:St}{H:Hp}{pins:List (Aj×Obj)}{s:Ab}
def dctS (kx vx:Expr)(D:Aj)(env:Env)(c:Code):Sem PySem.Fin:=(eval kx env >>= λkv=>holding [kv] (eval vx env) >>= λvv=>standAt { kx.pos with endLine:=vx.pos.endLine,endCol:=vx.pos.endCol } >>= λ_=>holding [kv,vv] (dictSet D kv vv)) >>= λ_=>again c
theorem wv9 (kx vx target iter:Expr)(scope:Scope)(pos:Pos)(it:Ag)(D:Aj)(env:Env) :
  compTurn (.DictComp kx vx [⟨target,iter,[],0⟩] scope pos) 0 it (.ref D) env=(standAt iter.pos >>= λ_=>pyNext it >>= λr=>match r with|none=>pure (.done .next)|some v=>letOwnedTupleGo target it v >>= λ_=>assign target env v >>= λ_=>dctS kx vx D env (.compLoop (.DictComp kx vx [⟨target,iter,[],0⟩] scope pos) 0 it (.ref D) env)):=by rfl
theorem wvk {ys:List (Key×V)}{N:List (Key×V)->Hp->Prop}(hk:PE Y kx tk)(hv:PE Y vx te)(J:Inv Y pins σ H s)(hz:ys.length<sizeLine)
  (h:tk σ H λy H4=>te σ H4 λz H5=>∃k,y=kV k/\H5 p=some (.dK ys)/\N (vd ys k z) (upd H5 p (.dK (vd ys k z)))) :
  wpAny (model Y.prog Y.w) Y.A (dctS kx vx p Y.env c) (λr s5=>r=Fin.again c/\∃H5,Inv Y pins σ H5 s5/\∃zs,N zs H5) Y.xe s:=by
 refine ae (ae (aK (hk _ s _ H _ J h) (λkv U ad=>?_) λ_ _ z=>z));obtain⟨y,H4,J6,ry,h4⟩:=ad;refine ae (bJ (aK (hv _ U _ H4 _ J6 h4) (λvv s7 aa=>?_) λ_ _ z=>z));obtain⟨z,H5,O,Z,k,rfl,I,n5⟩:=aa;refine ae (bP (bJ ?_));obtain⟨S,hd,vs,F,dd⟩:=qzn O.hok I;have hl:(vd ys k z).length<=sizeLine:=by have:=vf ys k z;lia
 refine wpAny_dictSet_pairs (hsz:=by rw[<-F.length];exact S) (Yw ry) dd λh' L hs=>aF ⟨rfl,_,?_,_,n5⟩;have he:∃q,h'.get? p=some q:=let ⟨q,_,_,hq,_⟩:=L;⟨q,hq⟩;exact Wf O (by rw[I];exact True.intro) hs he (qwn hl hd (F.put k Z) L)
end
section
variable {X:Cx}{pins:List (Aj×Obj)}{σ:St}{H:Hp}{s2:Ab}{scope:Scope}{cl:List (Str×Aj)}{x:Str}{M:List Nat}{fp:List Aj}{C:Aj}{h1:Heap}{tk:Nat}
theorem Inv.compD (I:Inv X pins σ H s2)(hc:CapAll X.env cl)(hh:HasAll cl scope.names)(hm:CapIx X scope cl M)(hk:scope.kind=.function)(hC:s2.heap.objs.size<C)
  (keep:∀b o,s2.heap.get? b=some o->h1.get? b=some o) (hn:h1.Ns C λ_=>none) (hD:h1.get? s2.heap.objs.size=some { cls:=.type "dict",data:=.dict #[] })
  (hfp:∀b∈fp,yp X pins H b) (hob:∀b∈fp,∃o,s2.heap.get? b=some o) :
  Inv (zc X scope cl x M C s2 H fp (X.pn++pins)) [] (zn M σ none) (upd H s2.heap.objs.size (.dK [])) { s2 with heap:=h1,toks:=tk } :=
 I.compG (xs:=[x]) hc hh hm hk hC keep hn ⟨aR _,bq.mpr (bE (aJ I.big)),[],.nil,by
  obtain⟨o,es,ep,ho,r⟩:=Heap.DictOf.new (knd:=xt X.prog X.w) s2.heap
  have:o={ cls:=.type "dict",data:=.dict #[] }:=ax (ho.symm.trans (az _ rfl))
  exact⟨o,es,ep,by rw[this];exact hD,r⟩⟩ hfp hob
end
def wqj (J:It)(M:List Nat)(tk te:TE)(σ:St)(H1:Hp)(Q:VK):Prop:=∀p,H1 p=none->∃W:Nat->Nat->List (Key×V)->Hp->Prop,(∃m,W 0 m [] (upd H1 p (.dK []))) /\
 ∀i m ys H2,W i m ys H2->H2 p=some (.dK ys)/\ys.length<sizeLine/\((J.stop i H2/\Q (.ref p) H2)\/(J.go i H2/\∀v H3,J.yld i H2 v H3 ->
  tk (zn M σ (some v)) H3 λy H4=>te (zn M σ (some v)) H4 λz H5=>∃k,y=kV k/\H5 p=some (.dK ys)/\∃m',m'<m/\W (i+1) m' (vd ys k z) (upd H5 p (.dK (vd ys k z)))))
def tDComp (M:List Nat)(wi:TI)(tk te:TE):TE:=λσ H Q=>wi σ H λJ H1=>wqj J M tk te σ H1 Q
section
variable {X:Cx}{kx vx iter:Expr}{x:Str}{px pos:Pos}{scope:Scope}{cl:List (Str×Aj)}{M:List Nat}{wi:TI}{tk te:TE}{pins:List (Aj×Obj)}{σ:St}
theorem qun {tg:Expr}(hclos:closureFor scope X.env=pure cl)(hhas:HasAll cl scope.names)(hk:scope.kind=.function)
  (hnames:∀y∈scope.names,y.2=.local->scope.names.lookup y.1=some .local) (hi:PI X tg iter wi) (hs:∀z,foldedSetIterable iter X.env z=pure z)
  {use:Option (Ag->Sem Unit)} {QQ:Ag->Ab->Prop} {s:Ab} {H:Hp} {ps:Pos} {R:It->Hp->Prop} (I:Inv X pins σ H s) (h:wi σ H R)
  (go:∀(it:Aj) (fp:List Aj) (tn:Nat->Heap->Prop) (J:It) (H1:Hp) (s2:Ab) (C:Aj) (h3:Heap) (tn2:Nat),Inv X pins σ H1 s2->Turn X.prog X.w X.K tg J fp it tn->tn 0 h3->(∀b∈fp,yp X pins H1 b)->(∀b∈fp,b<s2.heap.objs.size)->(∀b∈fp,∃o,s2.heap.get? b=some o)->R J H1->s2.heap.objs.size<C ->
   (∀b o,s2.heap.get? b=some o->h3.get? b=some o)->(h3.Ns C λ_=>none)->h3.get? s2.heap.objs.size=some { cls:=.type "dict",data:=.dict #[] } ->
   codeAny (model X.prog X.w) X.A (.compLoop (.DictComp kx vx [⟨tg,iter,[],0⟩] scope pos) 0 (.ref it) (.ref s2.heap.objs.size) (compEnvC scope cl C X.env)) (compPost (model X.prog X.w) X.A X.xe use QQ (.ref s2.heap.objs.size) C) { s2 with heap:=h3,toks:=tn2 }) :
  wpAny (model X.prog X.w) X.A (comprehension (.DictComp kx vx [⟨tg,iter,[],0⟩] scope pos) scope X.env ps newDict false (eval iter X.env) use) QQ X.xe s:=by
 refine wpAny_comprehension_free (use:=use) rfl hs hclos hk hnames ?_;refine thn (hi pins s σ H _ I h) λv s1 h1=>thn h1 λaj s2 h2=>?_;obtain⟨it,fp,tn,J,H1,rfl,I2,T,L,ai,hR⟩:=h2;refine dB ?_;refine wpAny_newFunctionEnv hhas.nocell (by intro y hy;cases hy) (λh3 O F=>?_) hk;dsimp only at O F ⊢;generalize hH2:s2.heap.push { cls:=.type "dict",dict:=none,data:=.dict #[] }=G2 at O F ⊢;have hC:G2.objs.size=s2.heap.objs.size+1:=by rw[<-hH2,eI]
 have S:s2.heap.objs.size<G2.objs.size:=by lia
 have ad:∀b o,s2.heap.get? b=some o->h3.get? b=some o:=λb o e=>by rw[F.2 b (aJ (bv (aq e) S))];exact af _ (hH2▸af _ e)
 have hD:h3.get? s2.heap.objs.size=some { cls:=.type "dict",data:=.dict #[] }:=by rw[F.2 _ (aJ S)];exact af _ (hH2▸az _ rfl)
 have Z:=T.keep 0 _ _ L λb _ o e=>ad b o e;have aa:=λtn2=>go it fp tn J H1 s2 G2.objs.size h3 tn2 I2 T Z ai (λb U=>let ⟨o,e,_⟩:=T.obj 0 _ L b U;aq e) (λb U=>let ⟨o,e,_⟩:=T.obj 0 _ L b U;⟨o,e⟩) hR S ad O hD;exact codeAny_compStart_dict (aa _) (T.self _ 0 _ _ _ Z (aa _))
end
section
variable {X:Cx}{kx vx iter:Expr}{x:Str}{px pos:Pos}{scope:Scope}{cl:List (Str×Aj)}{M:List Nat}{wi:TI}{tk te:TE}
theorem ww4 (hc:X.calm=true)(hclos:closureFor scope X.env=pure cl)(hcap:CapAll X.env cl)(hhas:HasAll cl scope.names)(hix:CapIx X scope cl M)(hk:scope.kind=.function)
  (hnames:∀y∈scope.names,y.2=.local->scope.names.lookup y.1=some .local) (hx:scope.names.lookup x=some .local) (hnd:(Z0 X x M).Nodup) (hi:PI X (.Name x px) iter wi)
  (hkx:∀C s2 H2 fp pn,PE (zc X scope cl x M C s2 H2 fp pn) kx tk) (he:∀C s2 H2 fp pn,PE (zc X scope cl x M C s2 H2 fp pn) vx te) (hs:∀z,foldedSetIterable iter X.env z=pure z)
  {use:Option (Ag->Sem Unit)} {QQ:Ag->Ab->Prop} {pins:List (Aj×Obj)} {s:Ab} {σ:St} {H:Hp} {Q:VK} {ps:Pos} (I:Inv X pins σ H s) (h:wi σ H λJ H1=>wqj J M tk te σ H1 Q)
  (fin:∀(C:Aj) (s2 s4:Ab) (H1 H2:Hp) (fp:List Aj),Inv X pins σ H1 s2->s2.heap.objs.size<C->(∀b∈fp,yp X pins H1 b)->Inv (zc X scope cl x M C s2 H1 fp (X.pn++pins)) [] (zn M σ none) H2 s4->Q (.ref s2.heap.objs.size) H2 ->
   compPost (model X.prog X.w) X.A X.xe use QQ (.ref s2.heap.objs.size) C (.ok .next) s4) :
  wpAny (model X.prog X.w) X.A (comprehension (.DictComp kx vx [⟨.Name x px,iter,[],0⟩] scope pos) scope X.env ps newDict false (eval iter X.env) use) QQ X.xe s:=by
 refine qun hclos hhas hk hnames hi hs I h λit fp tn J H1 s2 C h3 an L T t3 F Z ad hR O aa ai hD=>?_;obtain⟨W,⟨m0,w0⟩,hW⟩:=hR s2.heap.objs.size (L.hok.fresh (ah _));have U:(relabel scope X.env).names.lookup x=some .local:=df hx;refine Y1 (Y:=zc X scope cl x M C s2 H1 fp (X.pn++pins)) (V:=λi n H2=>∃ys,W i n ys H2) (Qd:=Q (.ref s2.heap.objs.size)) (REST:=dctS kx vx s2.heap.objs.size (compEnvC scope cl C X.env) _) T hc (λ_ _ z=>z) (wv9 ..) rfl rfl (xf (i:=0) hnd rfl (.inl U) (.inr U)) (qqb hcap L O F Z) (λi n H2 ⟨ys,w⟩=>?_) (λH2 s4 J4 q=>fin C s2 s4 H1 H2 fp L O F J4 q) (L.compD hcap hhas hix hk O aa ai hD F ad) ⟨[],w0⟩ t3 λb hb=>by rw[wj (aJ (Z b hb))];exact(F b hb).1
 obtain⟨hp,hz,ak⟩:=hW i n ys H2 w;refine ak.imp id λ⟨aj,hy⟩=>⟨aj,λv H3 yl=>⟨λσ4 H4=>σ4=zn M σ (some v)/\H3=H4,⟨rfl,rfl⟩,λ_ _ e=>?_⟩⟩;obtain⟨rfl,rfl⟩:=e;refine⟨Qx M σ v,λa0 s' J=>?_⟩;refine aK (wvk (N:=λzs S=>∃m',m'<n/\W (i+1) m' zs S) (hkx _ _ _ _ _) (he _ _ _ _ _) J hz (hy v H3 yl)) (λr s5 ⟨e,S,J5,zs,m',hm,w'⟩=>⟨e,S,J5,m',hm,zs,w'⟩) λ_ _ z=>z
theorem qyq {i:Nat}{y:Str}{py spos:Pos}(hN:X.N.Nodup)(hyi:X.N[i]?=some y)(hyl:Loc X.env.scope y)(hc:X.calm=true)(hclos:closureFor scope X.env=pure cl)(hcap:CapAll X.env cl)(hhas:HasAll cl scope.names)(hix:CapIx X scope cl M)(hk:scope.kind=.function)
  (hnames:∀y∈scope.names,y.2=.local->scope.names.lookup y.1=some .local) (hx:scope.names.lookup x=some .local) (hnd:(Z0 X x M).Nodup) (hi:PI X (.Name x px) iter wi)
  (hkx:∀C s2 H2 fp pn,PE (zc X scope cl x M C s2 H2 fp pn) kx tk) (he:∀C s2 H2 fp pn,PE (zc X scope cl x M C s2 H2 fp pn) vx te) (hs:autoParam (∀z,foldedSetIterable iter X.env z=pure z) aU3._auto_1)
  (hsw:autoParam (swapsWith (.DictComp kx vx [⟨.Name x px,iter,[],0⟩] scope pos) (some (.Name y py)) spos.line X.env=pure true) aU4._auto_1) (hyf:autoParam (X.fn y=true\/X.env.scope.names.lookup y=some .local) aU0._auto_1) :
  PS X (.Assign [.Name y py] (.DictComp kx vx [⟨.Name x px,iter,[],0⟩] scope pos) spos) (tAsg (tDComp M wi tk te) (wq3 i)):=by
 intro pins s σ H D I h;rw[exec_Assign_Name_used _ _ _ _ hsw];refine ae (bP (ae ?_));refine ae (aK (ww4 hc hclos hcap hhas hix hk hnames hx hnd hi hkx he hs (use:=some (assign (.Name y py) X.env)) (QQ:=λ_ s'=>SP X pins D .next s') I h λC s2 S H1 H2 fp J L a0 J4 Z=>?_) (λ_ s' Z=>aF (aF Z)) λ_ _ e=>e);have F:Inv X pins σ H2 S:=J.uncomp (h':=S.heap) (bH L) a0 J4 (e9 _ _);have ai:H2 C=none:=J4.free;obtain⟨mC,an,_⟩:=J4.loc;obtain⟨U,a6,a7,ak,ad⟩:=id an;have aa:C≠X.env.locals:=λz=>aU _ (bv L (z▸J.lt));have a2:X.s₀.heap.objs.size<=C:=aX J.sz (bH L);have a4:∀y c,X.env.cells.lookup y=some c->c≠C:=λy c e z=>by obtain⟨v,o,O,_⟩:=J.cell y c e;exact aU _ (bv L (z▸aq O))
 have a3:∀p∈X.pn++pins,p.1≠C:=λp hp z=>aU _ (bv L (z▸aq (J.pin p hp).1));have a9:C∉frs X.stack:=λz=>by
  rcases ap.mp (J.stkSub C z) with q|q
  .exact aa q
  .obtain⟨_,o,O,_⟩:=J.funs.mem (b:=C) q;exact aU _ (bv L (aq O))
 have a1:C∉X.fs:=λz=>by obtain⟨_,o,O,_⟩:=J.funs.mem (b:=C) z;exact aU _ (bv L (aq O))
 have a8:Inv X (pins++[(C,U)]) σ H2 S:=⟨F.ok,F.os,F.bare,F.base,F.loc,F.cell,F.free,F.freeC,λp hp=>by
  rcases aP.mp hp with q|q
  .exact F.pin p (bg _ q)
  .rcases aP.mp q with q|q
   .exact F.pin p (aC _ q)
   .rw[ar.mp q]
    exact⟨ak,ai,aa,a1,λv z=>by rw[ad.1]at z;cases z⟩,F.hok,F.len⟩
 show wpAny _ _ (assign (.Name y py) X.env (.ref s2.heap.objs.size)) _ _ _;refine eY (ud a8 hN hyi hyl (show RelV (.ref s2.heap.objs.size) (.ref s2.heap.objs.size) from rfl) (λs5 I5=>?_) hyf);have a5:=(I5.pin (C,U) (aC _ (aC _ (.head _)))).1;exact⟨mC,⟨U,a6,a7,a5,ad⟩,λh' aj=>⟨_,H2,I5.unpinned.but ai a2 aa a4 a3 aj,Z⟩⟩
end
end L2
namespace L2
open PySem PySem.Spec PyProof.Rows
def MissR (K:Aa)(C D:Aj):Prop:=∀ {M:Model} {A:Ae} {E:Ag->Ab->Prop} {h:Heap} {g:Array GenState} {d:Drawn} {t:Nat} {os:OsState} {e:Aj} {oe:Obj} {Q:Bool->Ab->Prop},
 K.In h->h.get? e=some oe->oe.cls=.ref C->Q false ⟨h,g,d,t,os⟩->wpAny M A (excMatches (.ref e) (.ref D)) Q E ⟨h,g,d,t,os⟩
section
variable {X:Cx}{pins:List (Aj×Obj)}{σ:St}{H H':Hp}{s s':Ab}{e:Aj}
theorem land2 {E:XK}{ev:Ag}{x x1:Str}{D0 D1:Aj}{np hpos np1 hpos1:Pos}{b₀ b₁:Stmt}{suite suite1:List Stmt}{th th1:TS}{D:Ends}(I:Inv X pins σ H s)(hst:X.stack=X.env::X.outer)(hfr:X.env.frame=some X.env.locals)
  (hg:Gl X x) (hm:X.mg x=some (.ref D0)) (hdb:(x==("__debug__" : Str))=false) (hg1:Gl X x1) (hm1:X.mg x1=some (.ref D1)) (hdb1:(x1==("__debug__" : Str))=false) (hx:CXE X.prog X.w X.stack H s E ev s') (hE:∀c d H',E c d H'->∃C,c=.ref C/\((Qr X.K C D0/\th D σ H')\/(MissR X.K C D0/\Qr X.K C D1/\th1 D σ H'))) (hh:∀e,PSs (X.handling e) (b₀::suite) th) (hh1:∀e,PSs (X.handling e) (b₁::suite1) th1) :
  wpAny (model X.prog X.w) X.A (noteFrame ev X.env) (λ_ s2=>wpAny (model X.prog X.w) X.A (setFlight ev none) (λ_ s3 =>
   wpAny (model X.prog X.w) X.A (handleBy ev X.env (.ExceptHandler (some (.Name x np)) none (b₀::suite) hpos::[.ExceptHandler (some (.Name x1 np1)) none (b₁::suite1) hpos1])) (SP X pins D) X.xe s3) X.xe s2) X.xe s':=by
 obtain⟨a,C,a0,ws,dd,B,H',rfl,a7,bp,L,a8,bb,⟨w0,_⟩,a6,q⟩:=hx;have a1:=bb.toW w0;obtain⟨C1,J,bo⟩:=hE _ _ _ q;cases J;have mk:∀(F:Heap),Heap.FlyingW B X.stack a (.ref C) a0 F->s'.heap.UpToSlots F->Inv X pins σ H' { s' with heap:=F }:=λF fl up=>by
  refine I.call' (s':={ s' with heap:=F }) (ch:=[]) a7 ⟨λb o e n nb _=>?_,λb o e n O _=>?_,λb o e n _=>L.free b o e n nin,λb o e _=>?_,L.tups,L.frzs,L.tbls⟩ (a8.kept fl.1) bp (λb z=>nomatch z)
  .obtain⟨o',J,e2⟩:=a6 b o e nb;rw[e2 n]at J;exact fl.1 b o J
  .obtain⟨sl,e2⟩:=L.slot b o e n O nin;obtain⟨_,o3,S,nf⟩:=a1.2.2.1.mem (b:=b) O;obtain⟨a5,e4⟩:=up b o3 S nf;rw[e2]at S;have e5:=ax S;exact⟨a5,by show F.get? b=_;rw[e4,<-e5]⟩
  .by_cases O:b∈frs X.stack
   .obtain⟨_,o3,S,nf⟩:=a1.2.2.1.mem (b:=b) O;obtain⟨a5,e4⟩:=up b o3 S nf;exact⟨_,e4⟩
   .obtain⟨o',J,_⟩:=a6 b o e O;exact⟨o',fl.1 b o' J⟩
 have bf:X.A.frames=some (X.env::X.outer):=by rw[<-hst];exact I.ok.frames
 have bk:Heap.FlyingW B (X.env::X.outer) a (.ref C) a0 s'.heap:=by rw[<-hst];exact a1
 refine wpAny_looks_onW bf hfr bk λh4 bl ai=>?_;refine wpAny_landsW bl λU Z ad=>?_;have I5:=mk U (by rw[hst];exact Z) (ai.trans ad);have a4:=I5.handling a;obtain⟨ob,an,ak⟩:=Z.there;obtain⟨hp,gg,dd,tk,os⟩:=s';rcases bo with⟨a2,aj⟩|⟨a9,a2,aj⟩
 .refine dn (cS (jc (X:=X.handling a) a4 hg hm ?_ hdb)) (by intro z;cases z);refine a2 (h:=U) I5.kIn an ak ?_;refine dI ?_;refine lands_againW Z λF a3 aa=>?_;have I6:=(mk F (by rw[hst];exact a3) ((ai.trans ad).trans aa)).handling a;exact aK (hh a pins _ σ H' D I6 aj) (λf s2 h2=>h2.unhandling I.ok) λ_ _ z=>z.elim
 .refine dn (cS (jc (X:=X.handling a) a4 hg hm ?_ hdb)) (by intro z;cases z);refine a9 (h:=U) I5.kIn an ak ?_;refine dn (cS (jc (X:=X.handling a) a4 hg1 hm1 ?_ hdb1)) (by intro z;cases z);refine a2 (h:=U) I5.kIn an ak ?_;refine dI ?_;refine lands_againW Z λF a3 aa=>?_;have I6:=(mk F (by rw[hst];exact a3) ((ai.trans ad).trans aa)).handling a;exact aK (hh1 a pins _ σ H' D I6 aj) (λf s2 h2=>h2.unhandling I.ok) λ_ _ z=>z.elim
end
def tTry2 (K:Aa)(D0 D1:Aj)(tb:(St->XK)->TS)(th th1:TS):TS:=λD σ H=>tb (λσ' c _ H'=>∃C,c=.ref C/\((Qr K C D0/\th D σ' H')\/(MissR K C D0/\Qr K C D1/\th1 D σ' H'))) D σ H
section
variable {X:Cx}{x x1:Str}{D0 D1:Aj}{np hpos np1 hpos1 pos:Pos}{b₀ b₁:Stmt}{body suite suite1:List Stmt}{tb:(St->XK)->TS}{th th1:TS}
theorem wj7 (hst:X.stack=X.env::X.outer)(hfr:X.env.frame=some X.env.locals)(hg:Gl X x)(hm:X.mg x=some (.ref D0))(hg1:Gl X x1)(hm1:X.mg x1=some (.ref D1))
  (hb:∀(pn:List (Aj×Obj)) (xe:Ag->Ab->Prop) (E:St->XK),k9 (X.trying pn xe) E->PassesOwn (model X.prog X.w) X.A X.env xe->PSs (X.trying pn xe) body (tb E))
  (hh:∀e,PSs (X.handling e) (b₀::suite) th) (hh1:∀e,PSs (X.handling e) (b₁::suite1) th1) (hdb1:autoParam ((x1==("__debug__" : Str))=false) aU1._auto_1) (hdb:autoParam ((x==("__debug__" : Str))=false) aU1._auto_1) :
  PS X (.Try body [.ExceptHandler (some (.Name x np)) none (b₀::suite) hpos,.ExceptHandler (some (.Name x1 np1)) none (b₁::suite1) hpos1] [] [] pos) (tTry2 X.K D0 D1 tb th th1):=by
 intro pins s σ H D I h;refine wpAny_Try_except ?_;refine aK (hb (X.pn++pins) (λe L=>wpAny (model X.prog X.w) X.A (noteFrame e X.env) (λ_ J=>wpAny (model X.prog X.w) X.A (setFlight e none) (λ_ F =>
   wpAny (model X.prog X.w) X.A (handleBy e X.env [.ExceptHandler (some (.Name x np)) none (b₀::suite) hpos,.ExceptHandler (some (.Name x1 np1)) none (b₁::suite1) hpos1]) (SP X pins D) X.xe F) X.xe J) X.xe L) _ ?_ PassesOwn.looking [] s σ H D (I.trying _) h) (λf O h1=>?_) λ_ _ z=>z
 .intro ad Z H1 O e aa U S;exact land2 (X:=X) (U.untrying I.ok) hst hfr hg hm hdb hg1 hm1 hdb1 S (λc d H' q=>q) hh hh1
 .have h2:=h1.untrying I.ok;cases f with
  |next=>exact cM h2
  |brk=>exact h2
  |cont=>exact h2
  |ret u=>exact h2
end
end L2
namespace L2
open PySem
theorem qq3 {M:List Nat}{x:Str}{te:TE}{σ:St}{H:Hp}{Q:VK}(f:Nat->V)(hn:x.cps.size<=1000000)(he:∀(i:Nat) (H':Hp) (R:VK),i<x.cps.size->Same H H'->R (f i) H'->te (zn M σ (some (.str ⟨#[x.cps.getD i 0]⟩))) H' R)
  (k:∀p,H p=none->Q (.ref p) (upd H p (.lst ((List.range x.cps.size).map f)))):Jb (ItS x) M te σ H Q:=by
 intro p np;refine⟨λi m ys H2=>i<=x.cps.size/\m=x.cps.size-i/\ys=(List.range i).map f/\H2=upd H p (.lst ys),⟨x.cps.size,aR _,rfl,rfl,rfl⟩,?_⟩;rintro i m ys H2 ⟨hi,rfl,rfl,rfl⟩;refine⟨qy,?_,?_⟩
 .rw[ac,bI];have:(1000000:Nat)<sizeLine:=by decide
  lia
 .by_cases hlt:i<x.cps.size
  .refine .inr ⟨hlt,?_⟩;rintro v H3 ⟨rfl,rfl⟩;refine he i (upd H p (.lst ((List.range i).map f))) _ hlt (Same.upd np) ⟨qy,x.cps.size-(i+1),⋯,⋯,rfl,?_,?_⟩
   .rw[cw,aQ];rfl
   .rw[Qv]
  .refine .inl ⟨by show x.cps.size<=i;lia,?_⟩;have:i=x.cps.size:=by lia
   subst this;exact k p np
theorem wkv {M:List Nat}{d:Aj}{o:Obj}{cs:List (Key×V)}{tk te:TE}{σ:St}{H:Hp}{Q:VK}(f:Key->V)(hz:cs.length<=1000000)(nd:(cs.map (·.1)).Nodup)(hd:H d=some (.frz o (.dK cs)))
  (he:∀(k:Key) (H':Hp) (R:V->V->Hp->Prop),Same H H'->R (kV k) (f k) H'->tk (zn M σ (some (kV k))) H' λy H4=>te (zn M σ (some (kV k))) H4 λz H5=>R y z H5)
  (k:∀p,H p=none->Q (.ref p) (upd H p (.dK (cs.map λc=>(c.1,f c.1))))):wqj (ItD d o cs) M tk te σ H Q:=by
 intro p np;have aa:(1000000:Nat)<sizeLine:=by decide
 refine⟨λi m ys H2=>i<=cs.length/\m=cs.length-i/\ys=(cs.take i).map (λc=>(c.1,f c.1))/\H2=upd H p (.dK ys),⟨cs.length,aR _,rfl,rfl,rfl⟩,?_⟩;rintro i m ys H2 ⟨hi,rfl,rfl,rfl⟩;have I:d≠p:=wz hd np;refine⟨qy,by rw[ac,bA];lia,?_⟩;by_cases hlt:i<cs.length
 .refine .inr ⟨⟨by rw[wj I];exact hd,hlt⟩,?_⟩;rintro v H3 ⟨rfl,c,ec,rfl⟩;refine he c.1 _ _ (Same.upd np) ⟨c.1,rfl,qy,cs.length-(i+1),⋯,⋯,rfl,?_,?_⟩
  .have S:wp ((cs.take i).map λc=>(c.1,f c.1)) c.1=none:=by
    unfold wp;rw[List.find?_eq_none.mpr]
    .rfl
    .intro x O;obtain⟨y,L,rfl⟩:=av.mp O;have J:y.1∈(cs.map (·.1)).take i:=by rw[<-fP];exact av.mpr ⟨y,L,rfl⟩
     intro z;have z:y.1=c.1:=by simpa using z
     obtain⟨j,U,F⟩:=dZ J;rw[bA,ac]at U;rw[List.getElem_take]at F;have Z:(cs.map (·.1))[i]'(by rw[ac];exact hlt)=c.1:=by rw[List.getElem_map];rw[ag hlt]at ec;rw[ax ec]
     have:=(List.getElem_inj nd).mp (F.trans (z.trans Z.symm));lia
   rw[qyn _ S,cX,aQ,ec];rfl
  .rw[Qv]
 .refine .inl ⟨⟨by rw[wj I];exact hd,⋯⟩,?_⟩;have:i=cs.length:=by lia
  subst this;rw[cE];exact k p np
theorem for_di {d:Aj}{o:Obj}{cs:List (Key×V)}{g:TG}{tb:TS}{D:Ends}{σ:St}{H:Hp}(Pv:Nat->St->Hp->Prop)(h0:Pv 0 σ H)(hl:∀i σ H,i<=cs.length->Pv i σ H->H d=some (.frz o (.dK cs)))
  (hs:∀i c q σ H,cs[i]?=some c->H q=none->Pv i σ H->g (.ref q) σ (upd H q (.tup [kV c.1,c.2])) λσ2 H2=>tb { D with nx:=Pv (i+1),ct:=Pv (i+1),bk:=D.nx } σ2 H2) (hd:∀σ H,Pv cs.length σ H->D.nx σ H) :
  ∃W:Nat->Nat->St->Hp->Prop,(∃m,W 0 m σ H)/\∀i m σ H,W i m σ H ->
   ((ItDI d o cs).stop i H/\D.nx σ H)\/((ItDI d o cs).go i H/\∃N:St->Hp->Prop,(∀σ' H',N σ' H'->∃m',m'<m/\W (i+1) m' σ' H')/\∀x H',(ItDI d o cs).yld i H x H'->g x σ H' λσ2 H2=>tb { D with nx:=N,ct:=N,bk:=D.nx } σ2 H2):=by
 refine⟨λi m σ H=>m=cs.length-i/\i<=cs.length/\Pv i σ H,⟨cs.length,by simp,aR _,h0⟩,?_⟩;rintro i m σ H ⟨rfl,hi,p⟩;have q:=hl i σ H hi p;by_cases hlt:i<cs.length
 .refine .inr ⟨⟨q,hlt⟩,Pv (i+1),λσ' H' F=>⟨cs.length-(i+1),⋯,rfl,hlt,F⟩,?_⟩;rintro x H' ⟨z,c,nz,rfl,ec,rfl⟩;exact hs i c z σ H ec nz p
 .have e:i=cs.length:=by lia
  subst e;exact .inl ⟨⟨q,ah _⟩,hd σ H p⟩
def ex1 (R:List (Key×V))(c:Key×V):List (Key×V):=if c.2=.non then Wx R c.1 else vd R c.1 c.2
def exK (R cs:List (Key×V)):List (Key×V):=cs.foldl ex1 R
def bfK (R cs:List (Key×V)):List (Key×V):=cs.map λc=>(c.1,(wp R c.1).getD .non)
def ExOk (R cs:List (Key×V)):Prop:=∀(i:Nat) c,cs[i]?=some c->c.2=.non->(wp (exK R (cs.take i)) c.1).isSome=true
theorem wyh (R:List (Key×V)){cs:List (Key×V)}{i:Nat}{c:Key×V}(h:cs[i]?=some c):exK R (cs.take (i+1))=ex1 (exK R (cs.take i)) c:=by unfold exK;rw[cX,h,List.foldl_append];rfl
theorem wyf (R:List (Key×V))(c:Key×V):(ex1 R c).length<=R.length+1:=by
 unfold ex1;split
 .have:=qjq R c.1;lia
 .exact vf R c.1 c.2
theorem wjb (R cs:List (Key×V)):(exK R cs).length<=R.length+cs.length:=by
 induction cs generalizing R with
 |nil=>exact ah _
 |cons c cs ih =>
  have h1:=ih (ex1 R c);have h2:=wyf R c;show(exK (ex1 R c) cs).length<=_;rw[aw];lia
def Kb (ch:List Aj)(H H':Hp):Prop:=∀b o,b∉ch->H b=some o->H' b=some o
section
variable {X:Cx}{C:Aj}{x:Str}{k:Nat}{sp:Sp}{E:St->XK}{p pos:Pos}
theorem qz4 (c:CCal X.prog X.w X.K X.mg X.base x C k sp)(hr:Room (k+1) X.A)(hg:Gl X x)(hx:k9 X E)(hdb:autoParam ((x==("__debug__" : Str))=false) aU1._auto_1) :
  PE X (.Call (.Name x p) [] [] pos) (qu3 C sp E Qu):=by
 obtain⟨f,fd,ps,J,M,F,b⟩:=c.ex;intro pins s σ H Q I h;refine cJ (jc I hg J ?_ hdb);exact W.callWith_K0 I.kIn M.kp (qzk (us:=[]) M F hr b hx I .nil h)
end
theorem Kb.rd {ch:List Aj}{H H':Hp}(k:Kb ch H H'){d:Aj}{kvs:List (Key×V)}(n:d∉ch)(h:Rd H d (.dK kvs)):Rd H' d (.dK kvs):=by
 rcases h with h|⟨o,h⟩
 .exact .inl (k _ _ n h)
 .exact .inr ⟨o,k _ _ n h⟩
theorem Kb.of {ch:List Aj}{H H':Hp}(s:Same H H'):Kb ch H H':=λc o _ e=>s c o e
end L2
namespace L2
open PySem PySem.Spec PyProof.Rows
theorem ht_gen {o:Expr}{m:Str}{apos pos:Pos}{e:Expr}{es:List Expr}{env:Env}(hb:attributeBase o m env (eval o env)=eval o env)(hf:methodCallForm ((e::es).length+0) (backTo pos (starEach (e::es) env)) (backToKw pos (keywordEach [] env))=true)(hp:methodCallPos true o env apos pos=pure pos) :
  eval (.Call (.Attribute o m apos) (e::es) [] pos) env=(do
   let ov <-eval o env
   standAt apos.atName
   let (f,first) <-holding [ov] (getMethod ov m (do return (<-importBound o env).getD true))
   callWith pos f first (backTo pos (starEach (e::es) env)) (backToKw pos (keywordEach [] env))):=by
 rw[arm_eval_Call,hb];unfold methodCall;rw[show(e::es).length+([]:List Keyword).length=(e::es).length+0 from rfl,hf,hp];rfl
section
variable {X:Cx}{C:Aj}{x m:Str}{k:Nat}{sp:Sp}{E:St->XK}{p pos apos:Pos}{e o:Expr}{es:List Expr}{ta te:TE}{t:TA}
theorem xq {v j p'}(ha:PE X (.Constant v j p') te)(hr:PA X es t):PA X (.Constant v j p'::es) (vc te t):=xh ha hr rfl
theorem wv {v p'}(ha:PE X (.Name v p') te)(hr:PA X es t):PA X (.Name v p'::es) (vc te t):=xh ha hr rfl
theorem wz5 {v j p'}(ha:PE X (.Tuple v j p') te)(hr:PA X es t):PA X (.Tuple v j p'::es) (vc te t):=xh ha hr rfl
theorem z9 {a b c p'}(ha:PE X (.Call a b c p') te)(hr:PA X es t):PA X (.Call a b c p'::es) (vc te t):=xh ha hr rfl
theorem zj {a b c p'}(ha:PE X (.BinOp a b c p') te)(hr:PA X es t):PA X (.BinOp a b c p'::es) (vc te t):=xh ha hr rfl
theorem vz {a b p'}(ha:PE X (.Subscript a b p') te)(hr:PA X es t):PA X (.Subscript a b p'::es) (vc te t):=xh ha hr rfl
def qk1:List Expr->Bool
 |[]=>true
 |.Starred _ _::_=>false
 |_::r=>qk1 r
theorem Jx {env:Env}:∀ {es:List Expr},qk1 es=true->starEach es env=es.map λe=>(false,eval e env)
 |[],_=>rfl
 |e::r,h=>by
  cases e
  case Starred=>cases h
  all_goals exact bi _ (Jx (es:=r) h)
theorem Yn {pos:Pos}:∀ {l:List (Bool×Sem Ag)},(∀q∈l,q.1=false)->(backTo pos l).all (!·.1)=true/\(backTo pos l).any (·.1)=false:=by
 intro l h;have I:∀q∈backTo pos l,q.1=false:=by intro q F;unfold backTo at F;obtain⟨J,L,rfl⟩:=av.mp F;exact h J L
 exact⟨bu.mpr λq F=>by rw[I q F];rfl,List.any_eq_false.mpr λq F=>by rw[I q F];decide⟩
theorem vk (he:PE X o ta)(cl:Cls X.K C)(c:MCal X.prog X.w X.K X.mg X.base C m k sp)(hr:Room k X.A)(hx:k9 X E)(ha:PA X (e::es) t)(hn:autoParam (qk1 (e::es)=true) aU4._auto_1)(hl:autoParam ((e::es).length+0<30) aU1._auto_1)
  (hb:autoParam (∀z,attributeBase o m X.env z=z) aU3._auto_1) (hp:autoParam (methodCallPos true o X.env apos pos=pure pos) aU4._auto_1):PE X (.Call (.Attribute o m apos) (e::es) [] pos) (qq4 C m sp E ta t):=by
 have h1:starEach (e::es) X.env=(false,eval e X.env)::starEach es X.env:=by
  cases e
  case Starred=>cases hn
  all_goals rfl
 have h2:∀q∈starEach (e::es) X.env,q.1=false:=λq hq=>by rw[Jx hn]at hq;obtain⟨z,_,rfl⟩:=av.mp hq;rfl
 refine wv4 he cl c hr hx ha h1 (Yn λq hq=>h2 q (by rw[h1];exact aE _ hq)).2 (ht_gen (hb _) ?_ hp);unfold methodCallForm;rw[(Yn (pos:=pos) h2).1];exact aM hl
theorem wy (c:Cal X.prog X.w X.K X.mg X.base x k sp)(hr:Room k X.A)(hg:Gl X x)(hx:k9 X E)(ha:PA X (e::es) t)(hn:autoParam (qk1 (e::es)=true) aU4._auto_1)(hdb:autoParam ((x==("__debug__" : Str))=false) aU1._auto_1):PE X (.Call (.Name x p) (e::es) [] pos) (qqm sp E t):=by
 have h1:starEach (e::es) X.env=(false,eval e X.env)::starEach es X.env:=by
  cases e
  case Starred=>cases hn
  all_goals rfl
 have h2:∀q∈starEach (e::es) X.env,q.1=false:=λq hq=>by rw[Jx hn]at hq;obtain⟨z,_,rfl⟩:=av.mp hq;rfl
 exact wk9 c hr hg hx ha hdb h1 (Yn λq hq=>h2 q (by rw[h1];exact aE _ hq)).2
theorem wCA (c:Cal X.prog X.w X.K X.mg X.base x k sp)(ha:PA X (e::es) t)(hr:Room k X.A:=by exact Room.mono (by assumption) ⋯)(hg:autoParam (Gl X x) aU4._auto_1)(hx:k9 X E:=by exact q8)(hn:autoParam (qk1 (e::es)=true) aU4._auto_1)(hdb:autoParam ((x==("__debug__" : Str))=false) aU1._auto_1):PE X (.Call (.Name x p) (e::es) [] pos) (qqm sp E t):=wy c hr hg hx ha hn hdb
end
end L2
namespace L2
open PySem PySem.Spec PyProof.Rows
def rSlS:V->Option Int->Option Int->Hp->VK->Prop:=λx lo hi H Q=>∃z,x=.str z/\z.length<=sizeLine/\Q (.str (Txt.slice z lo hi)) H
theorem Zz {X:Cx}:SlR X rSlS:=by
 intro pins s σ H x v vl vu lo hi sl Q I rx hs pl pu h;obtain⟨z,rfl,hz,q⟩:=h;obtain⟨t,rfl⟩:=rx;have U:∀Z k,EP X pins σ Q (.str (Txt.slice z lo hi) Z) { s with toks:=k }:=λZ k=>⟨.str (Txt.slice z lo hi),H,I.tok _,⟨_,rfl⟩,q⟩;have J:=aX (Txt.slice_le z lo hi) hz;obtain⟨o,L,S,O⟩:=hs;refine⟨"str",_,F.slot_str_getitem.lookup,eJ _ _ _,?_⟩;cases pl with
 |none =>
  cases pu with
  |none=>exact cG (l:=none) (u:=none) (st:=none) ⟨o,L,S,O⟩ rfl (dX ⟨J,U⟩)
  |int j uj=>exact cG (l:=none) (u:=some (j,uj)) (st:=none) ⟨o,L,S,O⟩ rfl (dX ⟨J,U⟩)
 |int i ui =>
  cases pu with
  |none=>exact cG (l:=some (i,ui)) (u:=none) (st:=none) ⟨o,L,S,O⟩ rfl (dX ⟨J,U⟩)
  |int j uj=>exact cG (l:=some (i,ui)) (u:=some (j,uj)) (st:=none) ⟨o,L,S,O⟩ rfl (dX ⟨J,U⟩)
end L2
namespace L2
open PySem PySem.Spec PyProof.Rows PySem.W
section
variable {X:Cx}
theorem wyn:∀(qs:List Ag) (ss:List Str),qs.length=ss.length->(∀(i:Nat) v,qs[i]?=some v->∃x t,ss[i]?=some x/\v=Value.str x t)->StrsR qs ss:=by
 intro qs
 induction qs with
 |nil =>
  intro ss e _;cases ss with
  |nil=>exact .nil
  |cons _ _=>simp at e
 |cons v qs ih =>
  intro ss e F;cases ss with
  |nil=>simp at e
  |cons x ss =>
   obtain⟨O,t,L,J⟩:=F 0 v rfl;cases L;exact .cons ⟨t,J⟩ (ih ss (by simpa using e) λi v I=>F (i+1) v I)
theorem qzb:∀ {qs:List Ag} {ss:List Str},StrsR qs ss->Vals (ss.map V.str) qs
 |_,_,.nil=>.nil
 |_,_,.cons h t=>.cons h (qzb t)
theorem qzq:∀ {ss:List Str} {qs:List Ag},Vals (ss.map V.str) qs->StrsR qs ss
 |[],_,h=>by cases h;exact .nil
 |s::ss,_,h=>by
  cases h with
  |cons h t=>exact .cons h (qzq t)
theorem Zc (hc:X.calm=true):jw X (.type "list") (λxs H Q=>∃(a:Aj) (kvs:List (Key×V)) (ss:List Str),xs=[V.ref a]/\Rd H a (.dK kvs)/\kvs.map (·.1)=ss.map Sum.inr/\∀p,H p=none->Q (.ref p) (upd H p (.lst (ss.map V.str)))):=by
 intro pins s σ H xs us Q I r h;obtain⟨a,kvs,ss,rfl,e,S,q⟩:=h;obtain⟨u,rfl,rx⟩:=yt r;cases(show u=Value.ref a from rx);obtain⟨z,lo,vs,J,dd⟩:=Zs I.hok e;obtain⟨ep,dd⟩:=dd.dictAt;have O:vs.length=kvs.length:=(bN J).symm;have L:kvs.length=ss.length:=by have:=bi List.length S;simpa using this
 refine kdl_call (kdl_dict lo) (I.ok.hd hc) dd (by rw[O];exact z) λh' tk aa c' ad hD U=>?_;have tS:StrsR aa.toList ss:=wyn _ _ (by rw[aO,U.1,O,L]) λi v ev=>by obtain⟨k,x,e1,e2⟩:=U.2 i v (by rw[<-cR];exact ev);have hi:=(ba.mp e1).1;have Z:kvs[i]?=some kvs[i]:=ag ⋯;obtain⟨qv,e3,_⟩:=qkh J Z;rw[e1]at e3;have F:=bi (λl=>l[i]?) S;simp only[aD,Z,cb]at F;have hs:ss[i]?=some ss[i]:=ag ⋯;rw[hs,cb]at F;have e5:=ax F;have e6:k=kvs[i].1:=bi Prod.fst (ax e3);rw[e6,e5]at e2;obtain⟨t,rfl⟩:=(show ∃t,v=Value.str ss[i] t from wwv e2);exact⟨ss[i],t,hs,rfl⟩
 exact⟨.ref _,_,I.laid (t':=tk) ad (ah _) (show ObjOk X.prog X.w _ h' _ (.lst (ss.map V.str)) from ⟨by rw[ac,<-L];exact z,aa.toList,c',qzb tS,by simpa using hD⟩),rfl,q _ (I.hok.fresh (ah _))⟩
theorem uk:jw X (.builtin "sorted") (λxs H Q=>∃(a:Aj) (ss:List Str),xs=[.ref a]/\SqL X.K H a (ss.map V.str)/\ss.length<64 /\
  ∀(l:Aj) (ms:List Str),H l=none->ms.Perm ss->ms.Pairwise (λx y=>¬ y.cps.toList<x.cps.toList)->Q (.ref l) (upd H l (.lst (ms.map V.str)))):=by
 intro pins s σ H xs us Q I r h;obtain⟨a,ss,rfl,hS,hn,q⟩:=h;obtain⟨u,rfl,ru⟩:=yt r;cases(show u=Value.ref a from ru);have sz:(100001:Nat)<sizeLine:=by decide
 obtain⟨F,U,pl,an⟩:=I.list hS;have ak:s.heap.IsList a F.toArray:=pl.isList;have S:=qzq U;have a0:F.length=ss.length:=by rw[<-U.length,ac]
 refine Calls.call_function_entry kind_sorted plain_sorted entry_sorted (args_sorted1 _) ?_;unfold Builtin.«sorted»;refine ae (m:=checkCount "sorted" 1 1 _) (aF ?_);refine ae (collect_list ak ?_ ⋯);refine ae (fm ?_ ⋯);have ad:∀b o,s.heap.get? b=some o->((s.heap.push (seqObj "list" #[] 0)).update s.heap.objs.size (Obj.mapSeq (·++F.toArray))).get? b=some o:=λb o q=>by have aa:b<s.heap.objs.size:=aq q;rw[d7 _ _ _ _ (aJ aa),Heap.get?_push_ne _ _ _ (aJ aa)];exact q
 have L:s.heap.objs.size<=((s.heap.push (seqObj "list" #[] 0)).update s.heap.objs.size (Obj.mapSeq (·++F.toArray))).objs.size:=by rw[Heap.size_update,size_push'];lia
 generalize ((s.heap.push (seqObj "list" #[] 0)).update s.heap.objs.size (Obj.mapSeq (·++F.toArray)))=h' at ad L;obtain⟨tk,a1⟩:∃tk,tk=s.toks:=⟨_,rfl⟩;have O:(h'.push (seqObj "list" F.toArray 0)).get? h'.objs.size=some (seqObj "list" F.toArray 0):=az _ rfl;refine ae (bJ (wpAny_call_entry slot_list_sort ⟨_,O,rfl⟩ entry_list_sort ?_ (args_list_sort _)));refine qqt (s:={ s with heap:=h'.push (seqObj "list" F.toArray 0) }) O ⋯ S λJ pm up=>⟨_,rfl,aF ⟨_,rfl,?_⟩⟩;obtain⟨e,he⟩:=W8 O (J.map λi=>F.getD i Value.none).toArray;have nl:H h'.objs.size=none:=I.hok.fresh L;have aj:∀i∈J,i<ss.length:=λi hi=>by have:=bc.mp (pm.mem_iff.mp hi);lia
 have ai:∀(J:List Nat),(∀i∈J,i<ss.length)->Vals ((J.map λi=>ss.getD i Str.empty).map V.str) (J.map λi=>F.getD i Value.none):=by
  intro J
  induction J with
  |nil=>intro _;exact .nil
  |cons i J ih =>
   intro hh;obtain⟨x,t,e1,e2⟩:=S.at (hh i (.head _));refine .cons ?_ (ih λj hj=>hh j (.tail _ hj));show RelV (V.str (ss.getD i Str.empty)) (F.getD i Value.none);rw[e2,aA,e1];exact⟨t,rfl⟩
 have Z:(J.map λi=>ss.getD i Str.empty).Perm ss:=by
  have h1:=pm.map λi=>ss.getD i Str.empty;have h2:((List.range F.length).map λi=>ss.getD i Str.empty)=ss:=by
   refine dE λi=>?_;rw[aD];by_cases c:i<ss.length
   .rw[d6 ⋯,ag c];show some (ss.getD i Str.empty)=_;rw[aA,ag c];rfl
   .rw[bn (by rw[bI];lia),bn ⋯];rfl
  rw[h2]at h1;exact h1
 refine⟨.ref _,_,I.laid (t':=s.toks) (λb u hb=>Qp (af _ (ad b u hb)) (aJ (aL (aq hb) L)) _) L (show ObjOk X.prog X.w _ _ _ (.lst ((J.map λi=>ss.getD i Str.empty).map V.str)) from ⟨?_,_,e,ai J aj,he⟩),rfl,q _ _ nl Z (dG.mpr up)⟩;rw[ac,Z.length_eq];lia
end
theorem wxc {M:List Nat}{x:Str}{tt:TT}{te:TE}{σ:St}{H:Hp}{Q:VK}(c:Nat->Bool)(hn:x.cps.size<=1000000)
  (ht:∀(i:Nat) (H':Hp) (R:Bool->Hp->Prop),i<x.cps.size->Same H H'->R (c i) H'->tt (zn M σ (some (.str ⟨#[x.cps.getD i 0]⟩))) H' R)
  (he:∀(i:Nat) (H':Hp) (R:VK),i<x.cps.size->c i=true->Same H H'->R (.str ⟨#[x.cps.getD i 0]⟩) H'->te (zn M σ (some (.str ⟨#[x.cps.getD i 0]⟩))) H' R)
  (k:∀p ys,H p=none->ys.length=((List.range x.cps.size).filter c).length->Q (.ref p) (upd H p (.lst ys))):qvc (ItS x) M tt te σ H Q:=by
 intro p np;refine⟨λi m ys H2=>i<=x.cps.size/\m=x.cps.size-i/\ys.length=((List.range i).filter c).length/\H2=upd H p (.lst ys),⟨x.cps.size,aR _,rfl,rfl,rfl⟩,?_⟩;rintro i m ys H2 ⟨hi,rfl,el,rfl⟩;refine⟨qy,?_,?_⟩
 .have:=cm c (List.range i);rw[bI]at this;have:(1000000:Nat)<sizeLine:=by decide
  lia
 .by_cases hlt:i<x.cps.size
  .refine .inr ⟨hlt,?_⟩;rintro v H3 ⟨rfl,rfl⟩;refine ht i (upd H p (.lst ys)) _ hlt (Same.upd np) ?_;cases hc:c i with
   |true =>
    refine vg (he i _ _ hlt hc (Same.upd np) ⟨qy,x.cps.size-(i+1),⋯,⋯,rfl,?_,?_⟩)
    .rw[cw,dt,ay,ay,el];simp[hc]
    .rw[Qv]
   |false =>
    refine jq ⟨qy,x.cps.size-(i+1),⋯,⋯,rfl,?_,rfl⟩;rw[cw,dt,ay,el];simp[hc]
  .refine .inl ⟨by show x.cps.size<=i;lia,?_⟩;have:i=x.cps.size:=by lia
   subst this;exact k p ys np el
end L2
namespace L2
open PySem
theorem wj2 {x:Str}{c n:Nat}(hx:∀d∈x.cps,d<n)(h:(Builtin.Str.occurrences x ⟨#[c]⟩ 0 x.length 1).isEmpty=false):c<n:=by
 by_cases z:c<n
 .exact z
 .exfalso;have F:∀i,Builtin.Str.subAt x ⟨#[c]⟩ i=false:=λi=>by
   cases e:Builtin.Str.subAt x ⟨#[c]⟩ i with
   |false=>rfl
   |true =>
    exfalso;have m:c∈(⟨#[c]⟩:Str).cps:=by simp
    rw[<-cY.mp e]at m;obtain⟨k,S,L⟩:=Array.mem_extract_iff_getElem.mp m;exact z (by rw[<-L];exact hx _ (Array.getElem_mem _))
  have J:∀(l:List Nat) (k:Nat),(forIn (m:=Id) l ((#[]:Array Nat),k) (StrLaws.occBody x ⟨#[c]⟩ x.length 1)).run.fst=#[]:=by
   intro l
   induction l with
   |nil=>exactλ_=>rfl
   |cons j r ih =>
    intro k;rw[List.forIn_cons];have I:¬ ((((#[]:Array Nat).size<1/\k<=j)/\j+(⟨#[c]⟩:Str).length<=x.length)/\Builtin.Str.subAt x ⟨#[c]⟩ j=true):=λq=>by have:=q.2;rw[F j]at this;cases this
    have O:StrLaws.occBody x ⟨#[c]⟩ x.length 1 j ((#[]:Array Nat),k)=pure (.yield ((#[]:Array Nat),k)):=by unfold StrLaws.occBody;exact al I
    rw[O];exact ih k
  rw[StrLaws.occ_eq,J]at h;cases h
end L2
namespace L2
open PySem PySem.Spec PyProof.Rows
section
variable {X:Cx}
theorem uq:jw X (.type "int") (λxs H Q=>∃z n,xs=[.str z]/\PySem.intText? z=some n/\z.length<=640/\Q (.int n) H):=by intro pins s σ H xs J Q I r h;obtain⟨z,n,rfl,e,F,q⟩:=h;obtain⟨u,rfl,t,rfl⟩:=yt r;exact W.KIN.call_text e F ⟨.int n,H,I.tok _,⟨_,rfl⟩,q⟩
theorem Jn:∀ {ss:List Str} {qs:List Ag},Vals (ss.map V.str) qs->∃l:List (Str×Tok),qs=strValues l/\l.map (·.1)=ss
 |[],_,h=>by cases h;exact⟨[],rfl,rfl⟩
 |s::ss,_,h=>by
  cases h with
  |cons h t =>
   obtain⟨k,rfl⟩:=h;obtain⟨l,rfl,rfl⟩:=Jn t;exact⟨(s,k)::l,rfl,rfl⟩
theorem Jh:∀l:List (Str×Tok),Vals ((l.map (·.1)).map V.str) (strValues l)
 |[]=>.nil
 |(s,k)::l=>.cons ⟨k,rfl⟩ (Jh l)
theorem Z2:MtM X "str.join" (λx xs H Q=>∃(z:Str) (a:Aj) (ss:List Str),x=.str z/\xs=[.ref a]/\SqL X.K H a (ss.map V.str)/\JoinOk z ss=true/\Q (.str (Txt.join z ss)) H):=by intro pins s σ H x xs v us Q I F L h;obtain⟨z,a,ss,rfl,rfl,Z,U,q⟩:=h;obtain⟨t,rfl⟩:=F;obtain⟨u,rfl,O⟩:=L.one;cases(show u=Value.ref a from O);obtain⟨qs,J,S,hz⟩:=I.list Z;obtain⟨l,rfl,e⟩:=Jn J;exact SC.join S.isList e U λt' k=>⟨.str _,H,I.tok _,⟨_,rfl⟩,q⟩
theorem ym:MtM X "str.split" (λx xs H Q=>∃z y:Str,x=.str z/\xs=[.str y]/\(y.length==0)=false/\z.length<=sizeLine/\(Builtin.Str.partsBetween z (Builtin.Str.occurrences z y 0 z.length (z.length+1)) y.length).length<=sizeLine/\(Txt.split z y).length<=sizeLine/\∀l,H l=none->Q (.ref l) (upd H l (.lst ((Txt.split z y).map V.str)))):=by
 intro pins s σ H x xs v us Q I L O h;obtain⟨z,y,rfl,rfl,J,Z,U,hn,q⟩:=h;obtain⟨t,rfl⟩:=L;obtain⟨u,rfl,S⟩:=O.one;obtain⟨u,rfl⟩:=S;have F:∀(l:List (Str×Tok)) (k:Nat),l.map (·.1)=Txt.split z y->EP X pins σ Q (.ref s.heap.objs.size) { s with toks:=k,heap:=s.heap.push { cls:=.type "list",data:=.seq (strValues l).toArray } }:=λl k e =>
  ⟨.ref s.heap.objs.size,upd H s.heap.objs.size (.lst ((Txt.split z y).map V.str)),I.laid (t':=k) (λb u e=>af _ e) (ah _) ⟨by rw[ac];exact hn,_,0,by rw[<-e];exact Jh l,az _ rfl⟩,rfl,q _ (I.hok.fresh (ah _))⟩
 cases h1:(decide (z.length<y.length)||decide (Builtin.Str.strKind z<Builtin.Str.strKind y))
 .cases hf:(Builtin.Str.occurrences z y 0 z.length (z.length+1)).isEmpty
  .refine eK fD (eJ _ _ _) fc (eP _ _) (meets_str_split_sep z y t u h1 J hf Z U) ?_;show wants _ _ _ { s with toks:=_,heap:=s.heap.push { cls:=.type "list",data:=.seq (strsFrom s.toks (Builtin.Str.partsBetween z (Builtin.Str.occurrences z y 0 z.length (z.length+1)) y.length)).toArray } };rw[strsFrom_eq];exact F (numbered s.toks _) _ ((numbered_texts _ _).trans ((al (d8 h1)).trans (al (d8 hf))).symm)
  .exact eK fD (eJ _ _ _) fc (eP _ _) (meets_str_split_not_found z y t u h1 J hf) (F [(z,t)] _ ((al (d8 h1)).trans (am hf)).symm)
 .exact eK fD (eJ _ _ _) fc (eP _ _) (meets_str_split_cannot_occur z y t u h1) (F [(z,t)] _ (am h1).symm)
end
end L2
namespace L2
open PySem PySem.Spec PyProof.Rows
section
variable {X:Cx}
abbrev TF:=Str->St->Hp->(Str->Hp->Prop)->Prop
theorem qwu {M:Model}{A:Ae}{E:Ag->Ab->Prop}:∀(l:List (Sem Ag)) (acc:Str) (Q Q':Str->Ab->Prop) (s:Ab),Joins M A E l acc Q s->(∀o s,Q o s->Q' o s)->Joins M A E l acc Q' s
 |[],_,_,_,_,h,hQ=>hQ _ _ h
 |_::r,acc,Q,Q',_,h,hQ=>aK h (λ_ s1 ⟨y,t,e,z,hr⟩=>⟨y,t,e,z,qwu r (acc++y) Q Q' s1 hr hQ⟩) λ_ _ x=>x
def PF (X:Cx)(vs:List Expr)(t:TF):Prop :=
 ∀(acc:Str) (pins:List (Aj×Obj)) (s:Ab) (σ:St) (H:Hp) (Q:Str->Hp->Prop),Inv X pins σ H s->t acc σ H Q->Joins (model X.prog X.w) X.A X.xe (evalEach vs X.env) acc (λout s'=>∃H',Inv X pins σ H' s'/\Q out H') s
theorem pf_nil:PF X [] (λacc _ H Q=>Q acc H):=λ_ _ _ _ H _ I h=>⟨H,I,h⟩
theorem qkd {x j pos}{vs:List Expr}{t:TF}(h:PF X vs t):PF X (.Constant (.str x) j pos::vs) (λacc σ H Q=>(acc++x).length<=sizeLine/\t (acc++x) σ H Q):=by intro acc pins s σ H Q I q;show wpAny _ _ (eval _ X.env) _ _ s;exact Calls.Constant_str ⟨x,_,rfl,q.1,h _ _ _ _ _ _ (I.tok _) q.2⟩
theorem qv4 {e:Expr}{te:TE}{pos:Pos}{vs:List Expr}{t:TF}(he:PE X e te)(h:PF X vs t):PF X (.FormattedValue e (-1) none pos::vs) (λacc σ H Q=>te σ H λv H' =>
  (∃z:Str,v=.str z/\z.length<=sizeLine/\(acc++z).length<=sizeLine/\t (acc++z) σ H' Q)\/(∃i:Int,v=.int i/\i.natAbs.log2<1920/\(acc++Str.ofString (toString i)).length<=sizeLine/\t (acc++Str.ofString (toString i)) σ H' Q)):=by
 intro acc pins s σ H Q I q;show wpAny _ _ (eval _ X.env) _ _ s;refine wpAny_FormattedValue_plain (thn (he pins s σ H _ I q) λu s1 ⟨v,H1,I1,r,F⟩=>?_);rcases F with⟨z,rfl,L,J,F⟩|⟨i,rfl,hi,J,F⟩
 .obtain⟨t,rfl⟩:=r;exact wpAny_formatField_str ⟨z,_,rfl,J,h _ _ _ _ _ _ I1 F⟩ ⟨z,_,rfl,J,h _ _ _ _ _ _ (I1.tok _) F⟩ L
 .obtain⟨t,rfl⟩:=r;exact wpAny_formatField_int hi ⟨_,_,rfl,J,h _ _ _ _ _ _ (I1.tok _) F⟩
theorem wj5 {v1 v2:Expr}{rest:List Expr}{pos:Pos}{t:TF}(h:PF X (v1::v2::rest) t):PE X (.JoinedStr (v1::v2::rest) pos) (λσ H Q=>t Str.empty σ H λout H'=>out.length<=sizeLine/\Q (.str out) H'):=by intro pins s σ H Q I q;exact wpAny_JoinedStr (qwu _ _ _ _ _ (h _ pins s σ H _ I q) λout s1 ⟨H1,I1,hz,q1⟩=>⟨hz,.str out,H1,I1.tok _,⟨_,rfl⟩,q1⟩)
end
end L2
namespace L2
open PySem PySem.Spec PyProof.Rows
theorem Yy (a b:Str):(a++b).cps.toList=a.cps.toList++b.cps.toList:=W.KT.app_list a b
theorem qju {c:Nat}:∀ {a b r t:List Nat},c∉a->c∉b->a++c::r=b++c::t->a=b/\r=t
 |[],[],_,_,_,_,e=>⟨rfl,by simpa using e⟩
 |[],y::b,_,_,_,hb,e=>by
  have:c=y:=by simpa using bi List.head? e
  exact absurd (by rw[this];exact au ..) hb
 |x::a,[],_,_,ha,_,e=>by
  have:x=c:=by simpa using bi List.head? e
  exact absurd (by rw[this];exact au ..) ha
 |x::a,y::b,r,t,ha,hb,e=>by
  have L:x=y:=by simpa using bi List.head? e
  have J:a++c::r=b++c::t:=by simpa using bi List.tail e
  obtain⟨I,F⟩:=qju (λz=>ha (aE _ z)) (λz=>hb (aE _ z)) J;exact⟨by rw[L,I],F⟩
def glL (c:Nat):List (List Nat)->List Nat
 |[]=>[]
 |[x]=>x
 |x::y::r=>x++c::glL c (y::r)
theorem wq4 {c:Nat}:∀ {A B:List (List Nat)},A≠[]->B≠[]->(∀x∈A,c∉x)->(∀x∈B,c∉x)->glL c A=glL c B->A=B
 |[],_,h,_,_,_,_=>absurd rfl h
 |_,[],_,h,_,_,_=>absurd rfl h
 |[x],[y],_,_,_,_,e=>by rw[show x=y from e]
 |[x],y::z::r,_,_,ha,_,e=>by have e:x=y++c::glL c (z::r):=e;exact absurd (by rw[e];simp) (ha x (au ..))
 |x::z::r,[y],_,_,_,hb,e=>by have e:x++c::glL c (z::r)=y:=e;exact absurd (by rw[<-e];simp) (hb y (au ..))
 |x::z::r,y::u::t,_,_,ha,hb,e=>by have e:x++c::glL c (z::r)=y++c::glL c (u::t):=e;obtain⟨e1,e2⟩:=qju (ha x (au ..)) (hb y (au ..)) e;rw[e1,wq4 (cg _ _) (cg _ _) (λw hw=>ha w (aE _ hw)) (λw hw=>hb w (aE _ hw)) e2]
theorem jg (c:Nat):∀A:List Str,(Str.join ⟨#[c]⟩ A).cps.toList=glL c (A.map λs=>s.cps.toList)
 |[]=>rfl
 |[x]=>rfl
 |x::y::r=>by show(x++⟨#[c]⟩++Str.join ⟨#[c]⟩ (y::r)).cps.toList=_;rw[Yy,Yy,jg c (y::r)];show _=x.cps.toList++c::glL c ((y::r).map λs=>s.cps.toList);simp
theorem Wh {a b:Str}(h:a.cps.toList=b.cps.toList):a=b:=by obtain⟨a⟩:=a;obtain⟨b⟩:=b;have h:a=b:=Array.toList_inj.mp h;rw[h]
theorem yh {c:Nat}{rows:List Str}(hne:rows≠[])(hc:∀r∈rows,c∉r.cps.toList):Txt.split (Str.join ⟨#[c]⟩ rows) ⟨#[c]⟩=rows:=by
 have e:=eQ (Str.join ⟨#[c]⟩ rows) ⟨#[c]⟩;have J:=du (Str.join ⟨#[c]⟩ rows) c;have I:=split_pos (Str.join ⟨#[c]⟩ rows) ⟨#[c]⟩;generalize Txt.split (Str.join ⟨#[c]⟩ rows) ⟨#[c]⟩=B at e J I;have e:=bi (λs=>s.cps.toList) e;simp only[jg]at e;have L:B≠[]:=λz=>by rw[z]at I;cases I
 have m:=wq4 (by simpa using L) (by simpa using hne) (λx F=>by obtain⟨s,hs,rfl⟩:=av.mp F;exact J s hs) (λx F=>by obtain⟨s,hs,rfl⟩:=av.mp F;exact hc s hs) e;exact List.map_inj_right (λa b h=>Wh h) |>.mp m
end L2
namespace L2
open PySem PySem.Spec PyProof.Rows
theorem qxt:entryFor table "proto.unchain" = some Builtin.«proto.unchain»:=entryFor_of_fast (by kernel_rfl)
section
variable {prog:Ac}{w:Ah}{A:Ae}{E:Ag->Ab->Prop}{s:Ab}
theorem qus {e h:Aj}{o:Obj}{vs:Array Ag}{b:Bool}{R:Result->Ab->Prop}(hh:s.heap.get? h=some o)(hd:o.data=.fields vs)(h2:vs[2]?=some .none)(q:R (.ok (.ret .none)) s) :
  codeAny (model prog w) A (.builtin "proto.unchain" ⟨[.ref e,.ref h,.ref h,.bool b],[]⟩) R s:=by
 refine codeAny_builtinAt qxt (wpAt_of_wpAny ?_);unfold Builtin.«proto.unchain»;refine ae (dz hh hd h2 ?_);rw[am (show(Value.none==Value.none)=true from rfl)];exact aF q
theorem qx1 {α:Type}{e h:Aj}{o oe:Obj}{vs ws:Array Ag}{Q:α->Ab->Prop}(hA:A.handled=some (.ref h))(hh:s.heap.get? h=some o)(hd:o.data=.fields vs)(h2:vs[2]?=some .none)(ne:h≠e)
  (he:s.heap.get? e=some oe) (hde:oe.data=.fields ws) (z2:2<ws.size) (q:E (.ref e) { s with heap:=s.heap.update e (Obj.mapFields (·.setIfInBounds 2 (.ref h))) }):wpAny (model prog w) A (raiseNew (.ref e):Sem α) Q E s:=by
 unfold raiseNew;refine ae (wpAny_handled ?_);rw[hA];show wpAny (model prog w) A (do if(Value.ref h != Value.ref e)=true then _ else _) Q E s;rw[am (show(Value.ref h != Value.ref e)=true from by simp[ne])];refine ae (bJ (wpAny_runValue (qus hh hd h2 ?_)));refine ae ?_;have:=wpAny_setField (M:=model prog w) (A:=A) (E:=E) (Q:=λ_ s'=>wpAny (model prog w) A (throw (.ref e):Sem α) Q E s') he hde z2 (x:=.ref h) (wpAny_throw q);exact this
end
section
variable {prog:Ac}{w:Ah}{A:Ae}{E:Ag->Ab->Prop}{s:Ab}{env:Env}
variable {nm q:Str}{C N:Aj}{bs bm bmB:List Ag}{hdct:Bool}{sn:List Str}{sub:List Ag}{ab:Bool}{col:Option Bool}{dd:Option Aj}{k0 k1' k2' k3 k5:Option Ag}{newId initId B:String}
theorem ww7 {x c:Sem Ag}{hx:Aj}{Q:Flow->Ab->Prop}(hbase:bm.contains (.type "BaseException")=true)(hA:A.handled=some (.ref hx))(hcn:∀ {Q:Ag->Ab->Prop} {s:Ab},Q .none s->wpAny (model prog w) A c Q E s)
  (h:wpAny (model prog w) A x (λv s₁=>∃e t o vs,v=.ref e/\s₁.heap.get? C=some (excClassObj nm q C N bs bm hdct sn sub ab col dd k0 k1' k2' k3 k5 newId)/\s₁.heap.get? e=some { cls:=.ref C,data:=.fields #[.ref t,.none,.none,.none,.bool false,.none] } /\
   s₁.heap.get? hx=some o/\o.data=.fields vs/\vs[2]?=some .none/\hx≠e/\C≠e/\∀g oe,g.get? e=some oe->oe.cls=.ref C->oe.data=.fields #[.ref t,.none,.ref hx,.none,.bool true,.none]->(∀b,b≠e->g.get? b=s₁.heap.get? b)->E (.ref e) { s₁ with heap:=g }) E s) :
  wpAny (model prog w) A (raiseStmt env (some x) (some c)) Q E s:=by
 have aa:(Value.ref C::bm).contains (.type "BaseException")=true:=by rw[List.contains_cons,hbase,Bool.or_true]
 unfold raiseStmt;refine ae (aK h (λv s₁ h₁=>?_) λ_ _ x=>x);obtain⟨e,t,o,vs,rfl,S,he,ho,hd,h2,L,nC,hE⟩:=h₁;refine ae (bJ (hcn (ae (aF ?_))));dsimp -zeta only;refine ae (bJ ?_);refine aK (Q:=λv s'=>v=.ref e/\s'=s₁) (E:=E) ?_ ?_ λ_ _ z=>z
 .obtain⟨hp,g,d,tk,Z⟩:=s₁;unfold excFromValue
  repeat (first | with_reducible refine bZ he ?_ | with_reducible refine bZ S ?_ | (with_reducible refine d5 S ?_;rw[aa]) | wp_step)
  exact⟨rfl,rfl⟩
 rintro _ s₂ ⟨rfl,hs⟩;subst hs;rw[am (show(Value.none==Value.none)=true from rfl)];refine ae (aF ?_);refine ae (qq2 he rfl (by simp) λg1 o1 e1 c1 d1 J=>?_);refine ae (qq2 e1 d1 (by simp) λU o2 F c2 d2 I=>?_);have ad:U.get? C=some (excClassObj nm q C N bs bm hdct sn sub ab col dd k0 k1' k2' k3 k5 newId):=(I C nC).trans ((J C nC).trans S);obtain⟨cl,dc,da,sl⟩:=o2;have c3:cl=.ref C:=c2.trans c1;subst c3;have d3:da=.fields #[.ref t,.none,.none,.none,.bool true,.none]:=d2;subst d3;dsimp only at J I;dsimp -zeta only;refine ae (aK (Q:=λv s'=>v=false/\s'={ s₂ with heap:=U }) (E:=E) ?_ ?_ λ_ _ z=>z)
 .obtain⟨hp,g,d,tk,Z⟩:=s₂;unfold isType loadHead
  repeat (first | with_reducible refine bZ F ?_ | wp_step)
  exact⟨rfl,rfl⟩
 rintro _ _ ⟨rfl,rfl⟩;rw[al ⋯];refine ae (aK (Q:=λv s'=>v=.ref e/\s'={ s₂ with heap:=U }) (E:=E) ?_ ?_ λ_ _ z=>z)
 .obtain⟨hp,g,d,tk,Z⟩:=s₂;unfold raisedInstance
  repeat (first | with_reducible refine bZ F ?_ | with_reducible refine bZ ad ?_ | (with_reducible refine d5 ad ?_;rw[aa]) | wp_step)
  exact⟨rfl,rfl⟩
 rintro _ _ ⟨rfl,rfl⟩;unfold setFlight;refine ae (ae (dz (x:=.none) F rfl rfl ?_));rw[al ⋯];refine aF ?_;refine qx1 (o:=o) (oe:=_) hA ((I hx L).trans ((J hx L).trans ho)) hd h2 L F rfl (by simp) ?_;refine hE _ _ (dL _ F (Obj.isFreed_of_fields (eL rfl _))) rfl rfl λb O=>?_;exact(cK _ _ (bE O)).trans ((I b O).trans (J b O))
end
end L2
namespace L2
open PySem PySem.Spec PyProof.Rows
theorem ObjOk.there1 {P:Ac}{w:Ah}{H:Hp}{h:Heap}{a:Aj}{o:HO}(x:ObjOk P w H h a o):∃ob,h.get? a=some ob:=by
 cases o with
 |lst xs=>obtain⟨_,_,_,_,e⟩:=x;exact⟨_,e⟩
 |tup xs=>obtain⟨_,_,_,⟨o,e,_⟩⟩:=x;exact⟨_,e⟩
 |dK kvs=>obtain⟨_,_,_,_,o,_,_,e,_⟩:=x;exact⟨_,e⟩
 |dT kvs=>obtain⟨_,_,_,_,o,_,_,e,_⟩:=x;exact⟨_,e⟩
 |set S n=>obtain⟨o,_,_,_,e,_⟩:=x;exact⟨_,e⟩
 |ins C dx fs=>obtain⟨_,_,_,e,_⟩:=x;exact⟨_,e⟩
 |own y=>obtain⟨_,e⟩:=x;exact⟨_,e⟩
 |xd fs=>obtain⟨_,⟨_,_,_,e,_⟩,_⟩:=x;exact⟨_,e⟩
 |rng lo hi=>obtain⟨_,_,_,e⟩:=x;exact⟨_,e⟩
 |frz ob u=>obtain⟨e,_⟩:=x;exact⟨_,e⟩
 |tbl ps=>exact⟨_,(show h.get? a=some _ from x)⟩
 |met f y=>exact⟨_,(show h.get? a=some _ from x)⟩
 |ext φ=>obtain⟨_,e,_⟩:=x;exact e
abbrev Cx.handlingR (X:Cx)(e:Aj)(pn:List (Aj×Obj)):Cx:={ X with A:=X.A.mark (some (.ref e)),calm:=false,pn:=pn }
section
variable {X:Cx}{pins pn:List (Aj×Obj)}{σ:St}{H H':Hp}{s s':Ab}{e:Aj}{ob:Obj}
theorem Cx.Ok.handlingR (o:X.Ok)(e:Aj)(pn:List (Aj×Obj)):(X.handlingR e pn).Ok :=
 ⟨o.mod,o.kind,o.glob,o.blt,o.above,o.inj,o.has,o.cab,λz=>(aI z).elim,o.frames,o.stk,o.exf,o.bs,o.bsz,o.noex,o.exfs,o.funs,o.frf⟩
theorem Inv.handlingR (I:Inv X pins σ H s)(h1:s.heap.get? e=some ob)(h2:H e=none)(h3:e≠X.env.locals)(h4:e∉X.fs)(h5:∀v,ob.data≠.cell v):Inv (X.handlingR e ((e,ob)::(X.pn++pins))) [] σ H s :=
 ⟨I.ok.handlingR _ _,I.os,I.bare,I.base,I.loc,I.cell,I.free,I.freeC,λp hp=>by
  rw[bK]at hp
  rcases ap.mp hp with rfl|hp
  .exact⟨h1,h2,h3,h4,h5⟩
  .exact I.pin p hp,I.hok,I.len⟩
theorem Inv.unhandlingR {pins':List (Aj×Obj)}(o:X.Ok)(I:Inv (X.handlingR e ((e,ob)::(X.pn++pins))) pins' σ H s):Inv X pins σ H s :=
 ⟨o,I.os,I.bare,I.base,I.loc,I.cell,I.free,I.freeC,λp hp=>I.pin p (bg _ (.tail _ hp)),I.hok,I.len⟩
theorem SP.unhandlingR {D:Ends}{f:Flow}(o:X.Ok)(h:SP (X.handlingR e ((e,ob)::(X.pn++pins))) [] D f s'):SP X pins D f s':=by
 cases f with
 |next=>obtain⟨a,b,c,d⟩:=h;exact⟨a,b,c.unhandlingR o,d⟩
 |brk=>obtain⟨a,b,c,d⟩:=h;exact⟨a,b,c.unhandlingR o,d⟩
 |cont=>obtain⟨a,b,c,d⟩:=h;exact⟨a,b,c.unhandlingR o,d⟩
 |ret u=>obtain⟨v,a,b,c,d⟩:=h;exact⟨v,a,b,c.unhandlingR o,d⟩
structure Caught (X:Cx)(e:Aj)(pn:List (Aj×Obj)):Prop where
 ok:X.Ok
 ex:∃ob vs ps,pn=(e,ob)::(X.pn++ps)/\ob.data=.fields vs/\vs[2]?=some .none
theorem landR {E:XK}{ev:Ag}{x:Str}{D0:Aj}{np hpos:Pos}{b₀:Stmt}{suite:List Stmt}{rest:List ExceptHandler}{th:TS}{D:Ends}(I:Inv X pins σ H s)(hst:X.stack=X.env::X.outer)(hfr:X.env.frame=some X.env.locals)
  (hp:∀e,PassesOwnAt (model X.prog X.w) (X.A.mark (some e)) X.A X.env X.xe)
  (hg:Gl X x) (hm:X.mg x=some (.ref D0)) (hdb:(x==("__debug__" : Str))=false) (hx:CXE X.prog X.w X.stack H s E ev s') (hE:∀c d H',E c d H'->d=none/\∃C,c=.ref C/\Qr X.K C D0/\th D σ H')
  (hh:∀e pn,Caught X e pn->PSs (X.handlingR e pn) (b₀::suite) th) :
  wpAny (model X.prog X.w) X.A (noteFrame ev X.env) (λ_ s2=>wpAny (model X.prog X.w) X.A (setFlight ev none) (λ_ s3 =>
   wpAny (model X.prog X.w) X.A (handleBy ev X.env (.ExceptHandler (some (.Name x np)) none (b₀::suite) hpos::rest)) (SP X pins D) X.xe s3) X.xe s2) X.xe s':=by
 obtain⟨a,C,a0,ws,dd,B,H',rfl,a8,bl,U,a3,aa,⟨w0,w2⟩,a2,q⟩:=hx;obtain⟨hd,C1,S,bk,a7⟩:=hE _ _ _ q;have w2:=w2 hd;cases S;have mk:∀(F:Heap) (l:Ag),FlyV B X.stack a (.ref C) ws l F->s'.heap.UpToSlots F->Inv X pins σ H' { s' with heap:=F }:=λF l fl up=>by
  refine I.call' (s':={ s' with heap:=F }) (ch:=[]) a8 ⟨λb o e n nb _=>?_,λb o e n L _=>?_,λb o e n _=>U.free b o e n nin,λb o e _=>?_,U.tups,U.frzs,U.tbls⟩ (a3.kept fl.1) bl (λb z=>nomatch z)
  .obtain⟨o',S,O⟩:=a2 b o e nb;rw[O n]at S;exact fl.1 b o S
  .obtain⟨sl,O⟩:=U.slot b o e n L nin;obtain⟨_,o3,J,Z⟩:=aa.2.2.1.mem (b:=b) L;obtain⟨a1,e4⟩:=up b o3 J Z;rw[O]at J;have e5:=ax J;exact⟨a1,by show F.get? b=_;rw[e4,<-e5]⟩
  .by_cases L:b∈frs X.stack
   .obtain⟨_,o3,J,Z⟩:=aa.2.2.1.mem (b:=b) L;obtain⟨a1,e4⟩:=up b o3 J Z;exact⟨_,e4⟩
   .obtain⟨o',S,_⟩:=a2 b o e L;exact⟨o',fl.1 b o' S⟩
 have bo:H' a=none:=by
  cases e:H' a with
  |none=>rfl
  |some u =>
   obtain⟨ob,O⟩:=(a3 a u e).there1;rw[aa.2.1]at O;cases O
 have bf:X.A.frames=some (X.env::X.outer):=by rw[<-hst];exact I.ok.frames
 rw[hst]at aa;refine qum bf hfr aa λh4 bp an=>?_;refine Q8 bp none λh5 aj ak=>?_;have I5:=mk h5 _ (by rw[hst];exact aj) (an.trans ak);have b0:=I5.handling a;obtain⟨ob,T,oT,ts,bb,a9,_⟩:=aj.2.2.2;refine dn (cS (jc (X:=X.handling a) b0 hg hm ?_ hdb)) (by intro z;cases z);obtain⟨b3,gg,dx,tk,os⟩:=s';refine bk (h:=h5) I5.kIn bb a9 ?_;refine dI ?_;refine Q8 aj none λF ai a6=>?_;have I6:=mk F _ (by rw[hst];exact ai) ((an.trans ak).trans a6);obtain⟨oe,T6,b2,b1,a4,b4,ad,hz,_⟩:=id ai.2.2.2;have a5:a∉frs (X.env::X.outer):=λL=>by obtain⟨_,o3,J,Z⟩:=ai.2.2.1.mem (b:=a) L;rw[a4]at J;cases J;exact Z _ ad
 have I7:=I6.handlingR (e:=a) (ob:=oe) a4 bo (λz=>a5 (by rw[ug hfr,z];exact .head _)) (λz=>a5 (by rw[ug hfr];exact .tail _ z)) (λv z=>by rw[ad]at z;cases z);refine wpAny_passesOwnAt (hp _) ?_;exact aK (hh a _ ⟨I.ok,_,_,_,rfl,ad,by rw[dJ ⋯];exact w2⟩ [] _ σ H' D I7 a7) (λf s2 h2=>h2.unhandlingR I.ok) λ_ _ z=>z
end
def tTryR (K:Aa)(D0:Aj)(tb:(St->XK)->TS)(th:TS):TS:=λD σ H=>tb (λσ' c d H'=>d=none/\∃C,c=.ref C/\Qr K C D0/\th D σ' H') D σ H
section
variable {X:Cx}{x:Str}{D0:Aj}{np hpos pos:Pos}{b₀:Stmt}{body suite:List Stmt}{tb:(St->XK)->TS}{th:TS}
theorem wwz (hst:X.stack=X.env::X.outer)(hfr:X.env.frame=some X.env.locals)(hp:∀e,PassesOwnAt (model X.prog X.w) (X.A.mark (some e)) X.A X.env X.xe)(hg:Gl X x)(hm:X.mg x=some (.ref D0))
  (hb:∀(pn:List (Aj×Obj)) (xe:Ag->Ab->Prop) (E:St->XK),k9 (X.trying pn xe) E->PassesOwn (model X.prog X.w) X.A X.env xe->PSs (X.trying pn xe) body (tb E))
  (hh:∀e pn,Caught X e pn->PSs (X.handlingR e pn) (b₀::suite) th) (hdb:autoParam ((x==("__debug__" : Str))=false) aU1._auto_1) :
  PS X (.Try body [.ExceptHandler (some (.Name x np)) none (b₀::suite) hpos] [] [] pos) (tTryR X.K D0 tb th):=by
 intro pins s σ H D I h;refine wpAny_Try_except ?_;refine aK (hb (X.pn++pins) (λe L=>wpAny (model X.prog X.w) X.A (noteFrame e X.env) (λ_ J=>wpAny (model X.prog X.w) X.A (setFlight e none) (λ_ F =>
   wpAny (model X.prog X.w) X.A (handleBy e X.env [.ExceptHandler (some (.Name x np)) none (b₀::suite) hpos]) (SP X pins D) X.xe F) X.xe J) X.xe L) _ ?_ PassesOwn.looking [] s σ H D (I.trying _) h) (λf O h1=>?_) λ_ _ z=>z
 .intro ad Z H1 O e aa U S;exact landR (X:=X) (U.untrying I.ok) hst hfr hp hg hm hdb S (λc d H' q=>q) hh
 .have h2:=h1.untrying I.ok;cases f with
  |next=>exact cM h2
  |brk=>exact h2
  |cont=>exact h2
  |ret u=>exact h2
end
def wyj (C:Aj)(E:St->XK)(t:TA):TS:=λD σ H=>t σ H λvs H1=>vs.length<=sizeLine/\∀d,E σ (.ref C) (some d) H1
section
variable {X:Cx}{C:Aj}{E:St->XK}{x:Str}{np cpos pos jp:Pos}{j:Nat}{h:Aj}{pn:List (Aj×Obj)}{e:Expr}{es:List Expr}{t:TA}
theorem qz6 (W:Caught X h pn)(c:ExcC X.K C)(hR:wjz X E)(hg:Gl X x)(hm:X.mg x=some (.ref C))(ha:PA (X.handlingR h pn) (e::es) t)(hdb:autoParam ((x==("__debug__" : Str))=false) aU1._auto_1)
  (he:autoParam (starEach (e::es) X.env=(false,eval e X.env)::starEach es X.env) aU4._auto_1) (hpl:autoParam ((backTo cpos (starEach es X.env)).any (·.1)=false) aU4._auto_1) :
  PS (X.handlingR h pn) (.Raise (some (.Call (.Name x np) (e::es) [] cpos)) (some (.Constant .none j jp)) pos) (wyj C E t):=by
 intro pins s σ H D I q0;obtain⟨o,ob,O,ps,ad,hd,h2⟩:=W;subst ad;obtain⟨tl,N,a1,a2,a3,a4,a5,a6,a7,a8,a9,b0,b1,b2,b3,b5,mN,hC,hN,aj,T⟩:=qqu I.ok.mod.kin c.q;have F:=bQ;rw[arm_exec_Raise];refine ae (bP (ww7 (C:=C) (newId := "ValueError.__new__") (nm:=a1) (q:=a2) (N:=N) (bs:=a3) (bm:=tl) (hdct:=a4) (sn:=a5) (sub:=a6) (ab:=a7) (col:=a8) (dd:=a9) (k0:=b0) (k1':=b1) (k2':=b2) (k3:=b3) (k5:=b5) (T.hasType F.hasBase) rfl (λhq=>ae (Constant_none (ae (bP (aF hq))))) ?_));have ak:wpAny (model X.prog X.w) (X.A.mark (some (.ref h))) (eval (.Name x np) X.env) (λf S=>f=.ref C/\S=s) X.xe s:=jc I hg hm ⟨rfl,rfl⟩ hdb;refine ae (aK (wpAny_Call_ofName (aK ak (λf S h₁=>?_) λ_ _ x=>x)) (λv s₃ h₃=>ae (bP (aF h₃))) λ_ _ x=>x);obtain⟨rfl,rfl⟩:=h₁;unfold callWith;have hw:=ha cpos pins S σ H _ I q0;have ai:(backTo cpos (starEach (e::es) X.env)).any (·.1)=false:=by rw[he];show(false||(backTo cpos (starEach es X.env)).any (·.1))=false;rw[hpl];rfl
 have bf:wpAny (model X.prog X.w) (X.A.mark (some (.ref h))) (evalArgs (.ref C) true (backTo cpos (starEach (e::es) X.env)) []) (λa Z=>a.kw=[]/\∃O H1,Inv (X.handlingR h ((h,ob)::(X.pn++ps))) pins σ H1 Z/\Vals O a.pos/\O.length<=sizeLine/\∀d,E σ (.ref C) (some d) H1) X.xe S:=by rw[he]at hw ⊢;exact cZ (aK hw (λus s1 ⟨O,H1,L,r,hl,q⟩=>⟨rfl,O,H1,L,r,hl,q⟩) λ_ _ z=>z)
 refine ae (bJ (aK bf (λa Z h₂=>ae (bP ?_)) λ_ _ x=>x));obtain⟨apos,bo⟩:=a;obtain⟨bb,ws,H1,L,r,an,q⟩:=h₂;obtain rfl:bo=[]:=bb;have U:=L.bk _ _ hC;have bl:=hN.keeps L.bk;have T2:=T.keeps L.bk;have a0:apos.length<=sizeLine:=by rw[<-r.length];exact an
 obtain⟨hp,g,dr,tk,os⟩:=Z;simp only[ai];refine ae (wpAny_keeperOf_exc U ?_);refine ae (wpAny_call_exc_subT (hrest:=a0) F T2 U bl aj λh' e' J=>ae (bJ (wpAny_point (aF ?_))));obtain⟨t',ht,_,_⟩:=J.there;have aa:=(L.pin (h,ob) (bg _ (.head _))).1;refine⟨e',t',ob,O,rfl,J.keeps _ _ U,ht,J.keeps _ _ aa,hd,h2,λz=>?_,λz=>?_,λg' oe ge gc gd gk=>?_⟩
 .subst z;have:=J.new;rw[aa]at this;cases this
 .subst z;have:=J.new;rw[U]at this;cases this
 .have I2:=L.unhandlingR o;refine hR _ σ H1 ⟨hp,g,dr,tk,os⟩ g' e' C oe _ (.ref t') (some h) I2 J.new (λb o' eb=>?_) ge gc gd rfl rfl (λz=>nomatch z) (q h);have ne:b≠e':=λz=>by subst z;have:=J.new;rw[this]at eb;cases eb
  exact(gk b ne).trans (J.keeps b o' eb)
end
end L2
namespace L2
open PySem PySem.Spec PyProof.Rows
def FlyA (B:Heap)(l:List Env)(e:Aj)(cls:Ag)(ws:Array Ag)(h:Heap):Prop:=∃fl,FlyV B l e cls ws fl h
section
variable {M:Model}{A:Ae}{E:Ag->Ab->Prop}{s:Ab}
theorem wv8 {base:Heap}{l:List Env}{e:Aj}{cls fl:Ag}{ws:Array Ag}{what:String}{cenv:Env}{Q:Ag->Ab->Prop}(x:FlyV base l e cls ws fl s.heap)
  (h:∀h',FlyA base l e cls ws h'->s.heap.UpToSlots h'->E (.ref e) { s with heap:=h' }):wpAny M A (PySem.passOn what (.ref e) cenv:Sem Ag) Q E s:=by
 obtain⟨_,_,_,U,T,Z,S,L,aa,O,J,r⟩:=id x;unfold PySem.passOn;refine ae (dz L O (x:=.ref T) (by simp[J]) ?_);rw[al (show ¬ ((Value.ref T==Value.none)=true) from by simp)];exact ae (Q8 x _ λg F I=>wpAny_throw (h g ⟨_,F⟩ I))
end
end L2
namespace L2
open PySem PySem.Spec PyProof.Rows
def wzu (X:Cx)(E:St->XK):Prop:=∀(pins:List (Aj×Obj)) (σ:St) (H:Hp) (s s5 s':Ab) (a Cc C:Aj) (a0:Ag) (ws:Array Ag) (d:Option Aj) (B:Heap) (H':Hp),Inv X pins σ H s->s'.os=s.os->AllBare s'.gens->Un (frs X.stack) [] H H' s.heap s5.heap->HOk X.prog X.w H' B->FlyA B X.stack a (.ref Cc) ws s'.heap->(ws[0]?=some a0/\(d=none->ws[2]?=some .none)) ->
 (∀b o,s.heap.get? b=some o->b∉frs X.stack->b≠C->∃o',B.get? b=some o'/\(H b=none->o'=o))->(∀b∈frs X.stack,∀o,s5.heap.get? b=some o->∃sl,s'.heap.get? b=some { o with slots:=sl })->X.s₀.heap.objs.size<=C->E σ (.ref Cc) d H'->X.xe (.ref a) s'
section
variable {P:Ac}{w:Ah}{K:Aa}{mg:Str->Option Ag}{base:Heap}{N:List Str}{qual:Str}{scope:Scope}{f:Aj}{cdv:Ag}{A:Ae}{outer:List Env}{s0:Ab}{H0:Hp}{E:XK}
theorem qzm:wzu (W9 (CXE P w) P w K mg base N qual scope f cdv A outer s0 H0 E) (λ_=>E):=by
 intro pins σ H s s5 s' a C D a0 ws dd B H' I a7 bf U a8 bb an a5 a1 hD q;obtain⟨fl,ak⟩:=bb;have L:=I.base;have hL:∀b o,s0.heap.get? b=some o->b≠s0.heap.objs.size:=λb o e z=>aU _ (z▸aq e);have aj:frs (envOfC qual scope s0.heap.objs.size f cdv::outer)=s0.heap.objs.size::frs outer:=ug rfl;have a9:∀b o,s0.heap.get? b=some o->b∉frs outer->b∉frs (envOfC qual scope s0.heap.objs.size f cdv::outer):=λb o e n=>by
  rw[aj];intro z;rcases ap.mp z with z|z
  .exact hL b o e z
  .exact n z
 have ad:∀b,b∈frs outer->b∈frs (envOfC qual scope s0.heap.objs.size f cdv::outer):=λb J=>by rw[aj];exact .tail _ J
 have aa:∀b o,s0.heap.get? b=some o->b∉frs outer->∃o',B.get? b=some o'/\(H0 b=none->o'=o):=λb o e n=>by obtain⟨o1,F⟩:=L.there b o e nin;obtain⟨o2,S,O⟩:=a5 b o1 F (a9 b o e n) (λz=>aU _ (aL (aq e) (z▸hD)));refine⟨o2,S,λz=>?_⟩;have e4:=L.keep b o e z n nin;have e5:=L.free b o e z nin;rw[F]at e4;rw[O e5];exact ax e4
 refine wwk I.ok.frames rfl ak λh' ai a6=>?_;have fr:∀b,b∈frs outer->∀o,s5.heap.get? b=some o->∃Z,h'.get? b=some { o with slots:=Z }:=λb J o e=>by obtain⟨Z,F⟩:=a1 b (ad b J) o e;obtain⟨_,o3,O,nf⟩:=ak.2.2.1.mem (b:=b) (ad b J);obtain⟨a3,e4⟩:=a6 b o3 O nf;rw[F]at O;have e5:=ax O;exact⟨a3,by rw[e4,<-e5]⟩
 have a2:∀b,b∈frs outer->∀o,s0.heap.get? b=some o->H0 b=none->∃Z,h'.get? b=some { o with slots:=Z }:=λb J o e n=>by obtain⟨Z,F⟩:=L.slot b o e n J nin;obtain⟨bk,S⟩:=U.slot b _ F (L.free b o e n nin) (ad b J) nin;obtain⟨a4,O⟩:=fr b J _ S;exact⟨a4,O⟩
 refine⟨a,C,a0,ws,dd,B,H',rfl,a7.trans I.os,bf,⟨λb o e n nb _=>?_,λb o e n J _=>a2 b J o e n,λb o e n _=>?_,λb o e _=>?_,λb xs e=>U.tups b xs (L.tups b xs e),λb o u e=>U.frzs b o u (L.frzs b o u e),λb ps e=>?_⟩,a8,ai,an,aa,q⟩
 .obtain⟨o',F,S⟩:=aa b o e nb;rw[S n]at F;exact ai.1 b o F
 .obtain⟨o1,F⟩:=L.there b o e nin;exact U.free b o1 F (L.free b o e n nin) nin
 .by_cases J:b∈frs outer
  .obtain⟨o1,F⟩:=L.there b o e nin;obtain⟨o2,S⟩:=U.there b o1 F nin;obtain⟨Z,O⟩:=fr b J o2 S;exact⟨_,O⟩
  .obtain⟨o',F,_⟩:=aa b o e J;exact⟨o',ai.1 b o' F⟩
 .obtain⟨m1,F⟩:=L.tbls b ps e;obtain⟨m2,S⟩:=U.tbls b _ F;exact⟨m1++m2,by rw[S,eC]⟩
end
end L2
namespace L2
open PySem PySem.Spec PyProof.Rows
section
variable {Y:Cx}{pins:List (Aj×Obj)}{σ:St}{H:Hp}{s:Ab}
abbrev Cx.wx (Y:Cx)(xe:Ag->Ab->Prop):Cx:={ Y with xe:=xe }
theorem Cx.Ok.wx (o:Y.Ok)(xe:Ag->Ab->Prop):(Y.wx xe).Ok:=⟨o.mod,o.kind,o.glob,o.blt,o.above,o.inj,o.has,o.cab,o.hd,o.frames,o.stk,o.exf,o.bs,o.bsz,o.noex,o.exfs,o.funs,o.frf⟩
theorem Inv.wx (I:Inv Y pins σ H s)(xe:Ag->Ab->Prop):Inv (Y.wx xe) pins σ H s:=⟨Cx.Ok.wx I.ok xe,I.os,I.bare,I.base,I.loc,I.cell,I.free,I.freeC,I.pin,I.hok,I.len⟩
theorem Inv.unwx {xe:Ag->Ab->Prop}(I:Inv (Y.wx xe) pins σ H s):Inv Y pins σ H s:=⟨⟨I.ok.mod,I.ok.kind,I.ok.glob,I.ok.blt,I.ok.above,I.ok.inj,I.ok.has,I.ok.cab,I.ok.hd,I.ok.frames,I.ok.stk,I.ok.exf,I.ok.bs,I.ok.bsz,I.ok.noex,I.ok.exfs,I.ok.funs,I.ok.frf⟩,I.os,I.bare,I.base,I.loc,I.cell,I.free,I.freeC,I.pin,I.hok,I.len⟩
end
theorem quj {Y:Cx}{tg e:Expr}{k:Nat}{acc:Ag}{it:Aj}{fp:List Aj}{tn:Nat->Heap->Prop}{J:It}{ps:Pos}{REST:Sem PySem.Fin}{post:Result->Ab->Prop}{gg:TG}{pins:List (Aj×Obj)}{σ:St}{V:Nat->Nat->Hp->Prop}{Qd:Hp->Prop}{s0:Ab}{H0:Hp}{n0:Nat}
  (T:Turn Y.prog Y.w Y.K tg J fp it tn) (hc:Y.calm=true) (hx:∀v s,Y.xe v s->notedBy (model Y.prog Y.w) Y.A Y.env (λe s'=>post (.error e) s') v s)
  (hturn:compTurn e k (.ref it) acc Y.env=(standAt ps >>= λ_=>pyNext (.ref it) >>= λr=>match r with|none=>pure (.done .next)|some v=>letOwnedTupleGo tg (.ref it) v >>= λ_=>assign tg Y.env v >>= λ_=>REST))
  (hun:Y.A.under (.compLoop e k (.ref it) acc Y.env)=Y.A) (hden:(model Y.prog Y.w).den (.compLoop e k (.ref it) acc Y.env)=((compTurn e k (.ref it) acc Y.env).onRaise λz=>do noteFrame z Y.env;theTreesLotGoes z))
  (hg:PG Y tg gg) (fok:∀H2:Hp,(∀b∈fp,H2 b=none)->∀b∈fp,yp Y pins H2 b)
  (hV:∀i n H2,V i n H2->(J.stop i H2/\Qd H2)\/(J.go i H2/\∀v H3,J.yld i H2 v H3->∃Z:St->Hp->Prop,gg v σ H3 Z/\∀σ4 H4,Z σ4 H4->(σ.length=σ4.length/\∀(k:Nat) z,σ[k]?=some (some z)->σ4[k]?=some (some z))/\∀pins' s',Inv Y pins' σ4 H4 s' ->
   wpAny (model Y.prog Y.w) Y.A REST (λr s5=>r=Fin.again (.compLoop e k (.ref it) acc Y.env)/\∃H5,Inv Y pins' σ4 H5 s5/\∃n',n'<n/\V (i+1) n' H5) Y.xe s'))
  (fin:∀H2 s4,Inv Y pins σ H2 s4->Qd H2->post (.ok .next) s4) (I:Inv Y pins σ H0 s0) (v0:V 0 n0 H0) (t0:tn 0 s0.heap) (nf:∀b∈fp,H0 b=none) :
  codeAny (model Y.prog Y.w) Y.A (.compLoop e k (.ref it) acc Y.env) post s0:=by
 refine codeAny_loop rfl (λn F=>∃i H2,V i n H2/\Inv Y pins σ H2 F/\tn i F.heap/\∀b∈fp,H2 b=none) (λn F hI=>?_) n0 ⟨0,H0,v0,I,t0,nf⟩;obtain⟨i,H2,w,J2,t,aa⟩:=hI;rw[hun,hden];refine wpAny_noted ?_;rw[hturn];refine ae (bP (ae ?_));rcases hV i n H2 w with⟨ai,hq⟩|⟨a1,hy⟩
 .refine aK (T.done Y rfl rfl rfl hc i pins F _ H2 (λ_ _=>False) J2 (fok H2 aa) t ai) (λr s4 S=>?_) λ_ _ z=>z.elim;obtain⟨rfl,J4⟩:=S;exact aF (fin H2 s4 J4 hq)
 .refine aK (T.item Y rfl rfl rfl hc i pins F _ H2 (λ_ _=>False) J2 (fok H2 aa) t a1) (λr s4 S=>?_) λ_ _ z=>z.elim;obtain⟨u,rfl,hw⟩:=S;refine ae (aK hw (λ_ s5 an=>?_) λ_ _ z=>z.elim);obtain⟨v,H3,J5,rv,yl,O,nf⟩:=an;obtain⟨Z,hz,hZ⟩:=hy v H3 yl;refine ae (aK (hg _ s5 _ H3 v u _ (J5.pinned (fok H3 nf) (T.obj _ _ O)) rv hz) (λ_ s6 ak=>?_) λv s z=>hx v s z);obtain⟨σ6,H6,J6,z6⟩:=ak;obtain⟨⟨hl,ad⟩,hR⟩:=hZ σ6 H6 z6;refine aK (hR _ s6 J6) (λr s7 aj=>?_) λv s z=>hx v s z;obtain⟨rfl,H7,U,n',a0,v7⟩:=aj;refine⟨rfl,n',a0,i+1,H7,v7,(U.unpinned (pins:=pins)).weak hl ad,?_,?_⟩
  .exact T.keep _ _ _ O λb L o e=>(U.pin (b,o) (aC _ (aC _ (jv L e)))).1
  .intro b L;obtain⟨o,e,_⟩:=T.obj _ _ O b L;exact(U.pin (b,o) (aC _ (aC _ (jv L e)))).2.1
section
variable {Y:Cx}{elt:Expr}{te:TE}{c:Code}{p:Aj}{σ:St}{H:Hp}{pins:List (Aj×Obj)}{s:Ab}
theorem wxz {ys:List V}{N:List V->Hp->Prop}(he:PE Y elt te)(J:Inv Y pins σ H s)(hz:ys.length<sizeLine)(h:te σ H λy H4=>H4 p=some (.lst ys)/\N (ys++[y]) (upd H4 p (.lst (ys++[y])))) :
  wpAny (model Y.prog Y.w) Y.A (appS elt (.ref p) Y.env c) (λr s5=>r=Fin.again c/\∃H5,Inv Y pins σ H5 s5/\∃zs,N zs H5) Y.xe s:=by
 refine ae (ae (aK (he _ s _ H _ J h) (λI L Z=>?_) λ_ _ z=>z));obtain⟨y,H4,J7,O,aa,S⟩:=Z;refine ae (aK (jy (X:=Y) _ L _ H4 (.ref p) [y] (.ref p) [I] (λ_ F=>F=upd H4 p (.lst (ys++[y]))) J7 rfl (.cons O .nil) ⟨_,ys,y,rfl,rfl,aa,hz,rfl⟩) (λ_ s8 U=>?_) λ_ _ z=>z);obtain⟨_,F,J8,_,rfl⟩:=U;exact aF (aF ⟨rfl,_,J8,_,S⟩)
end
theorem qzf {h h' B:Heap}{C:Aj}(st:∀b o,b≠C->h.get? b=some o->h'.get? b=some o):∀ {l:List Env},h.FunFrames B l->C∉frs l->h'.FunFrames (W.hideAll B [C]) l
 |[],_,_=>trivial
 |env::r,⟨k,⟨L,o,e1,e2,e3,e4⟩,hr⟩,hn=>by
  rw[ug e1]at hn;have hL:L≠C:=λz=>hn (by rw[z];exact .head _);refine⟨k,⟨L,o,e1,?_,st L o hL e3,e4⟩,qzf st hr λz=>hn (.tail _ z)⟩;cases q:(W.hideAll B [C]).get? L with
  |none=>rfl
  |some o'=>rw[cI _ q]at e2;cases e2
section
variable {X:Cx}{elt iter cd:Expr}{x:Str}{px pos:Pos}{scope:Scope}{cl:List (Str×Aj)}{M:List Nat}{wi:TI}{te:TE}{E:St->XK}
theorem qud {pins:List (Aj×Obj)}{σ:St}{H1:Hp}{s2:Ab}{C:Aj}{fp:List Aj}{use:Option (Ag->Sem Unit)}{QQ:Ag->Ab->Prop}{acc:Ag}(hpc:wzu X E)(hstk:X.stack=X.env::X.outer)(hfr:X.env.frame=some X.env.locals)(I2:Inv X pins σ H1 s2)(hlt:s2.heap.objs.size<C)(hfp:∀b∈fp,yp X pins H1 b)
  {pins':List (Aj×Obj)} {σ':St} {H4:Hp} {s4 s':Ab} {v:Ag} (J:Inv (zc X scope cl x M C s2 H1 fp (X.pn++pins)) pins' σ' H4 s4) (hx:CXE X.prog X.w X.stack H4 s4 (E σ) v s') :
  notedBy (model X.prog X.w) X.A (compEnvC scope cl C X.env) (λe s''=>compPost (model X.prog X.w) X.A X.xe use QQ acc C (.error e) s'') v s':=by
 obtain⟨a,Cc,a0,ws,dd,B,H',rfl,bb,b4,un,bf,ak,a5,aa,q⟩:=hx;have I4:Inv X pins σ H4 s4:=I2.uncomp (h':=s4.heap) (bH hlt) hfp J (e9 _ _);have a2:H4 C=none:=J.free;obtain⟨m,⟨L,es,ep,O,b2,bl,bk⟩,_⟩:=J.loc;have O:s4.heap.get? C=some L:=O;have b6:C≠X.env.locals:=λz=>aU _ (bv hlt (z▸I2.lt));have Z:C∉frs X.stack:=λz=>by
  rcases ap.mp (I2.stkSub C z) with q|q
  .exact b6 q
  .obtain⟨_,o,I,_⟩:=I2.funs.mem (b:=C) q;exact aU _ (bv hlt (aq I))
 have a4:B.get? C=some L:=by obtain⟨o',I,e2⟩:=aa C L O Z;rw[e2 a2]at I;exact I
 have bo:X.A.frames=some (X.env::X.outer):=by rw[<-hstk];exact I2.ok.frames
 have bp:FlyV B (X.env::X.outer) a (.ref Cc) ws .none s'.heap:=by rw[<-hstk];exact ak
 show wpAny _ _ (noteFrame (.ref a) X.env) _ _ s';refine qum bo hfr bp λh6 a1 a7=>?_;refine⟨m,⟨L,es,ep,a1.1 _ _ a4,b2,bl,bk⟩,λh' a9 b8 _=>?_⟩;have st:∀b o,b≠C->h6.get? b=some o->h'.get? b=some o:=λb o n e=>(a9.2 b n).trans e;have U:∀b o,(W.hideAll B [C]).get? b=some o->b≠C/\B.get? b=some o:=λb o e=>⟨(λz=>by rw[W.hideAll_none [C] (h:=B) (b:=b) (by rw[z];exact .head _)]at e;cases e),cI _ e⟩;have ai:∀b,B.get? b=none->(W.hideAll B [C]).get? b=none:=λb e=>by
  cases q:(W.hideAll B [C]).get? b with
  |none=>rfl
  |some o=>rw[(U b o q).2]at e;cases e
 obtain⟨hk,an,b0,oe,T,oT,ts,he,b3,hd,h1,aj,b5,hT,b1,h3⟩:=a1;have ad:∀b,B.get? b=none->b≠C:=λb e z=>by rw[z,a4]at e;cases e
 refine wv8 (base:=W.hideAll B [C]) (l:=X.stack) (e:=a) (cls:=.ref Cc) (ws:=ws) ⟨λb o e=>st b o (U b o e).1 (hk b o (U b o e).2),ai a an,qzf st (by rw[hstk];exact b0) Z,
  oe,T,oT,ts,st _ _ (ad a an) he,b3,hd,h1,ai T aj,b5,st _ _ (ad T aj) hT,b1,h3⟩ λh7 b7 a6=>?_
 refine hpc pins σ H4 s4 s' { s' with heap:=h7 } a Cc C a0 ws dd _ H' I4 bb b4 un (λb u F=>?_) b7 a5 (λb o e n nC=>?_) (λb F o e=>?_) (aX I2.sz (bH hlt)) q
 .refine(bf b u F).stay (λc v S e=>dk _ e λz=>?_) (λ_ z=>z) λ_ _ z=>z;have z:=ar.mp z;have a3:H' C=none:=un.free C L O a2 nin;rcases S with rfl|S
  .rw[z,a3]at F;cases F
  .rw[z,a3]at S;cases S
 .obtain⟨o',I,e2⟩:=aa b o e n;exact⟨o',dk _ I λz=>nC (ar.mp z),e2⟩
 .obtain⟨_,o3,e3,nf⟩:=ak.2.2.1.mem (b:=b) F;rw[e]at e3;cases e3;obtain⟨sl,e4⟩:=a7 b o e nf;have bC:b≠C:=λz=>Z (z▸F);obtain⟨a8,e5⟩:=a6 b _ (st b _ bC e4) nf;exact⟨a8,e5⟩
end
end L2
namespace L2
open PySem PySem.Spec PyProof.Rows
def tCompE (M:List Nat)(wi:TI)(te:(St->XK)->TE)(E:St->XK):TE:=λσ H Q=>wi σ H λJ H1=>Jb J M (te λ_=>E σ) σ H1 Q
section
variable {X:Cx}{elt iter:Expr}{x:Str}{px pos:Pos}{scope:Scope}{cl:List (Str×Aj)}{M:List Nat}{wi:TI}{E:St->XK}
theorem qjr {te:(St->XK)->TE}(hpc:wzu X E)(hstk:X.stack=X.env::X.outer)(hfr:X.env.frame=some X.env.locals)(hc:X.calm=true)(hclos:closureFor scope X.env=pure cl)(hcap:CapAll X.env cl)(hhas:HasAll cl scope.names)(hix:CapIx X scope cl M)(hk:scope.kind=.function)
  (hnames:∀y∈scope.names,y.2=.local->scope.names.lookup y.1=some .local) (hx:scope.names.lookup x=some .local) (hnd:(Z0 X x M).Nodup) (hi:PI X (.Name x px) iter wi)
  (he:∀C s2 H2 fp pn xe (E':St->XK),k9 ((zc X scope cl x M C s2 H2 fp pn).wx xe) E'->PE ((zc X scope cl x M C s2 H2 fp pn).wx xe) elt (te E')) (hs:autoParam (∀z,foldedSetIterable iter X.env z=pure z) aU3._auto_1) :
  PE X (.ListComp elt [⟨.Name x px,iter,[],0⟩] scope pos) (tCompE M wi te E):=by
 intro pins s σ H Q I h;rw[eval_ListComp];refine Ys hclos hhas hk hnames hi hs I h λit fp tn J H1 s2 C h3 tk U T t3 S aj a1 hR aa ak a2 hD=>?_;obtain⟨W,⟨m0,w0⟩,hW⟩:=hR s2.heap.objs.size (U.hok.fresh (ah _));have ai:(relabel scope X.env).names.lookup x=some .local:=df hx;let xe:Ag->Ab->Prop:=λe s'=>∃Z σ' L O,Inv (zc X scope cl x M C s2 H1 fp (X.pn++pins)) Z σ' L O/\CXE X.prog X.w X.stack L O (E σ) e s';have a0:k9 ((zc X scope cl x M C s2 H1 fp (X.pn++pins)).wx xe) (λ_=>E σ):=λZ σ' L O e s' F ad=>⟨Z,σ',L,O,F.unwx,ad⟩;refine quj (Y:=(zc X scope cl x M C s2 H1 fp (X.pn++pins)).wx xe) (V:=λi n H2=>∃ys,W i n ys H2) (Qd:=Q (.ref s2.heap.objs.size)) (REST:=appS elt (.ref s2.heap.objs.size) (compEnvC scope cl C X.env) _) T hc (λv s' ⟨_,_,_,_,F,ad⟩=>qud hpc hstk hfr U aa S F ad) (compTurn_list1 ..) rfl rfl (xf (i:=0) hnd rfl (.inl ai) (.inr ai)) (qqb (N:=Z0 X x M) hcap U aa S aj) (λi n H2 ⟨ys,w⟩=>?_) (λH2 O F q=>?_) ((U.comp hcap hhas hix hk aa ak a2 hD S a1).wx xe) ⟨[],w0⟩ t3 λb hb=>by rw[wj (aJ (aj b hb))];exact(S b hb).1
 .obtain⟨hp,hz,a4⟩:=hW i n ys H2 w;refine a4.imp id λ⟨a3,hy⟩=>⟨a3,λv H3 yl=>⟨λσ4 L=>σ4=zn M σ (some v)/\H3=L,⟨rfl,rfl⟩,λ_ _ e=>?_⟩⟩;obtain⟨rfl,rfl⟩:=e;refine⟨Qx M σ v,λZ s' J=>?_⟩;exact aK (wxz (N:=λzs H5=>∃m',m'<n/\W (i+1) m' zs H5) (he _ _ _ _ _ _ _ a0) J hz (hy v H3 yl)) (λr s5 ⟨e,H5,J5,zs,m',hm,w'⟩=>⟨e,H5,J5,m',hm,zs,w'⟩) λ_ _ z=>z
 .have F:=F.unwx;obtain⟨m,hn,_⟩:=F.loc;exact⟨m,hn,λh' an=>⟨.ref s2.heap.objs.size,H2,U.uncomp (bH aa) S F an,rfl,q⟩⟩
end
end L2
namespace L2
open PySem PySem.Spec PyProof.Rows
def wjn:V->List V->Hp->VK->Prop:=λx vs H Q=>∃l xs y i,x=.ref l/\vs=[.int i,y]/\H l=some (.lst xs)/\0<=i/\i<2 ^ 63/\i.toNat<=xs.length/\xs.length<sizeLine/\Q .non (upd H l (.lst (xs.take i.toNat++y::xs.drop i.toNat)))
section
variable {X:Cx}
theorem qzv:MtM X "list.insert" wjn:=by
 intro pins s σ H x vs v us Q I S U h;obtain⟨l,xs,y,i,rfl,rfl,O,i0,i1,i2,hz,q⟩:=h;cases S;obtain⟨u1,L,rfl,r1,Z⟩:=U.two;obtain⟨t,rfl⟩:=r1;obtain⟨z,J,n,r,hl,e⟩:=I.lstM O;have hf:Builtin.List.listFitsIndex i=true:=PySem.fitsIndex_both ⋯ i1;refine eK F.slot_list_insert ⟨_,e,rfl⟩ F.entry_list_insert (F.args_list_insert_3 _ _ _) (AutoSeq1.list_insert_list_int_val_1 l J.toArray n i t L (by simp[hf]) (by rw[aG,<-hl];exact z)) ⟨e,?_⟩;refine⟨.non,_,I.lset (its':=J.take i.toNat++L::J.drop i.toNat) O e ?_ ((r.take i.toNat).append (.cons Z (r.drop i.toNat))) ?_,rfl,q⟩
 .show(J.toArray.extract 0 (if i<0 then(i+(J.toArray.size:Int)).toNat else min i.toNat J.toArray.size)).push L++J.toArray.extract (if i<0 then(i+(J.toArray.size:Int)).toNat else min i.toNat J.toArray.size)=_;rw[al ⋯,aG,Nat.min_eq_left ⋯];exact W.kl_ins_eq _ _ _
 .rw[ay,aw,bA,cD];lia
end
theorem wqr {x:Str}{g:TG}{tb:TS}{D:Ends}{σ:St}{H:Hp}(Pv:Nat->St->Hp->Prop)(h0:Pv 0 σ H)
  (hs:∀i σ H,i<x.cps.size->Pv i σ H->g (.str ⟨#[x.cps.getD i 0]⟩) σ H λσ2 H2=>tb { D with nx:=Pv (i+1),ct:=Pv (i+1),bk:=D.nx } σ2 H2) (hd:∀σ H,Pv x.cps.size σ H->D.nx σ H) :
  ∃W:Nat->Nat->St->Hp->Prop,(∃m,W 0 m σ H)/\∀i m σ H,W i m σ H ->
   ((ItS x).stop i H/\D.nx σ H)\/((ItS x).go i H/\∃N:St->Hp->Prop,(∀σ' H',N σ' H'->∃m',m'<m/\W (i+1) m' σ' H')/\∀y H',(ItS x).yld i H y H'->g y σ H' λσ2 H2=>tb { D with nx:=N,ct:=N,bk:=D.nx } σ2 H2):=by
 refine⟨λi m σ H=>m=x.cps.size-i/\i<=x.cps.size/\Pv i σ H,⟨x.cps.size,by simp,aR _,h0⟩,?_⟩;rintro i m σ H ⟨rfl,hi,p⟩;by_cases hlt:i<x.cps.size
 .refine .inr ⟨hlt,Pv (i+1),λσ' H' F=>⟨x.cps.size-(i+1),⋯,rfl,hlt,F⟩,λy H' z=>?_⟩;obtain⟨e,z⟩:=z;subst e z;exact hs i σ _ hlt p
 .have e:i=x.cps.size:=by lia
  subst e;exact .inl ⟨ah _,hd σ H p⟩
end L2
namespace HT
open PySem PyProof.Rows PySem.SeqAt
open PySem.AutoSeq1 (wpAny_loadPart')
open PySem.MeetsSeq PySem.MeetsSeq2 PySem.MeetsSeq3
def leIS (i:Int)(x:Str)(j:Int)(y:Str):Bool:=if i=j then !decide (y.cps.toList<x.cps.toList) else decide (i<=j)
theorem le_meets (l b:Aj)(n m:Nat)(d1 d2:Option Aj)(sl sm:Array (Option Ag))(i j:Int)(x y:Str)(ti tj tx ty:Tok) :
  Meets (Builtin.«tuple.__le__» ⟨[.ref l,.ref b],[]⟩) (λ_ R s=>s.heap.get? l=some ⟨.type "tuple",d1,.seq #[.int i ti,.str x tx] n,sl⟩/\s.heap.get? b=some ⟨.type "tuple",d2,.seq #[.int j tj,.str y ty] m,sm⟩/\R (.ok (.ret (.bool (leIS i x j y)))) s) :=
 .of_wp λprog w A R s h=>by
  obtain⟨hp,g,d,tk,os⟩:=s;obtain⟨hl,hb,h⟩:=h;have sub:=AutoSeq1.sub_tuple_tuple;wp_walk using wpAny_loadPart' hl,wpAny_loadPart' hb,wpAny_forIn_list _ (λrest c s'=>c.1=none/\s'=⟨hp,g,d,tk,os⟩/\(rest=[(.int i ti,.int j tj),(.str x tx,.str y ty)]\/rest=[(.str x tx,.str y ty)]/\i=j\/rest=[]/\i=j/\x=y)) _
  case turn =>
   rintro⟨p,q⟩ rest c s' ⟨hc,rfl,hz⟩;rcases hz with hz|⟨hz,rfl⟩|⟨hz,_⟩
   .cases hz;obtain⟨v,hv,hvi⟩:=wjx A.in1 ⟨hp,g,d,tk,os⟩ i ti j tj;refine ae (hv prog w _ _ ?_);cases v with
    |true =>
     have e:=hvi.mp rfl;wp_walk;exact⟨rfl,rfl,.inr (.inl ⟨rfl,e⟩)⟩
    |false =>
     have ne:i≠j:=λz=>aI (hvi.mpr z);have e:leIS i x j y=decide (i<=j):=al ne;rw[e]at h;have gi:∀(E:Ag->Ab->Prop) (Q:Ag->Ab->Prop),Q (.bool (decide (i<=j))) ⟨hp,g,d,tk,os⟩->wpAny (model prog w) A.in1 (richCompare .LtE (.int i ti) (.int j tj)) Q E ⟨hp,g,d,tk,os⟩:=λE Q h=>(PyProof.Rows.le_int h:wpAny (model prog w) A.in1 (compareOp .LtE (.int i ti) (.int j tj)) Q E _);wp_walk using gi;exact⟨_,rfl,by simpa using h⟩
   .cases hz;have hv:=EqAt.str_str (A:=A.in1) (s:=⟨hp,g,d,tk,os⟩) x tx y ty;cases hq:(x==y) with
    |true =>
     rw[hq]at hv;refine ae (hv prog w _ _ ?_);have e:=cY.mp hq;wp_walk;exact⟨rfl,rfl,.inr (.inr ⟨rfl,rfl,e⟩)⟩
    |false =>
     rw[hq]at hv;refine ae (hv prog w _ _ ?_);have e:leIS i x i y=!decide (y.cps.toList<x.cps.toList):=am rfl;rw[e]at h;have gi:∀(E:Ag->Ab->Prop) (Q:Ag->Ab->Prop),Q (.bool (!decide (y.cps.toList<x.cps.toList))) ⟨hp,g,d,tk,os⟩->wpAny (model prog w) A.in1 (richCompare .LtE (.str x tx) (.str y ty)) Q E ⟨hp,g,d,tk,os⟩:=λE Q h=>(PySem.P.le_str h:wpAny (model prog w) A.in1 (compareOp .LtE (.str x tx) (.str y ty)) Q E _);wp_walk using gi;exact⟨_,rfl,by simpa using h⟩
   .cases hz
  case fin =>
   rintro⟨c1,c2⟩ s' ⟨hc,rfl,hz⟩;simp only at hc;subst hc;rcases hz with hz|⟨hz,_⟩|⟨_,rfl,rfl⟩
   .cases hz
   .cases hz
   have ev:leIS i x i x=true:=by simp[leIS,cF]
   rw[ev]at h;wp_walk;exact⟨_,rfl,by simpa [Builtin.Tuple.tupleCompareSizes] using h⟩
  case h =>
   exact⟨rfl,rfl,.inl rfl⟩
end HT
namespace L2
open PySem PySem.Spec PyProof.Rows
section
variable {X:Cx}
def rLeIS (K:Aa):R2:=λu v H Q=>∃a b i x j y,u=.ref a/\v=.ref b/\SqT K H a [.int i,.str x]/\SqT K H b [.int j,.str y]/\Q (.bl (HT.leIS i x j y)) H
theorem wj0 (hu:X.A.units<cLine):OpR X (compareOp .LtE) (rLeIS X.K):=by
 intro pins s σ H x y v u Q I rx ry h;obtain⟨a,b,i,x,j,y,rfl,rfl,ha,hb,q⟩:=h;cases rx;cases ry;obtain⟨us,r1,p1,_⟩:=I.tuple ha;obtain⟨vs,r2,p2,_⟩:=I.tuple hb;obtain⟨⟨_,d1,_,sl⟩,L,rfl,n,rfl⟩:=id p1;obtain⟨⟨_,d2,_,sm⟩,J,rfl,m,rfl⟩:=id p2;obtain⟨u1,u2,rfl,e1,e2⟩:=r1.two;obtain⟨v1,v2,rfl,e3,e4⟩:=r2.two;obtain⟨Z,rfl⟩:=e1;obtain⟨U,rfl⟩:=e2;obtain⟨S,rfl⟩:=e3;obtain⟨O,rfl⟩:=e4;exact richCompare_meets_room (op:=.LtE) ⟨_,L,rfl⟩ ⟨_,J,rfl⟩ PySem.F.slot_tuple_le PySem.F.entry_tuple_le (PySem.F.args_tuple_le_2 _ _) (HT.le_meets a b n m d1 d2 sl sm i j x y Z S U O)
  ⟨L,J,show Value.bool (HT.leIS i x j y)≠Value.notImplemented/\EP X pins σ Q (.bool (HT.leIS i x j y)) s from ⟨(λx=>nomatch x),.bl (HT.leIS i x j y),H,I,rfl,q⟩⟩ hu
end
end L2
set_option maxHeartbeats 0
namespace L2
theorem c7 {a b c d e f g:TS}{D:Ends}{σ:St}{H:Hp}(h:∀a' b' c' d' e' f' g',a'=a->b'=b->c'=c->d'=d->e'=e->f'=f->g'=g->uv a' (uv b' (uv c' (uv d' (uv e' (uv f' g'))))) D σ H):uv a (uv b (uv c (uv d (uv e (uv f g))))) D σ H:=h _ _ _ _ _ _ _ rfl rfl rfl rfl rfl rfl rfl
theorem c5 {a b c d e:TS}{D:Ends}{σ:St}{H:Hp}(h:∀a' b' c' d' e',a'=a->b'=b->c'=c->d'=d->e'=e->uv a' (uv b' (uv c' (uv d' e'))) D σ H):uv a (uv b (uv c (uv d e))) D σ H:=h _ _ _ _ _ rfl rfl rfl rfl rfl
end L2
namespace L2
open PySem
section
variable {K:Aa}{a:Aj}{c j:Int}{r:List V}{i:Nat}{A B u:TS}{D:Ends}{σ:St}{H:Hp}
end
end L2
namespace L2
end L2
namespace My
open PySem L2
def top (i:Nat):Stmt:=PySem.Challenge.pw_crookroad_k57_whole_text_refused.main.body.getD i (.Pass ⟨0,0,0,0⟩)
abbrev zax:Stmt:=top 17
theorem _root_.aU7 (h:True:=by decide +kernel):True:=h
theorem scA{N P:List Str}{c:Scope}(a:autoParam (c.kind=.function) aU4._auto_1)(b:autoParam (c.isCoroutine=false) aU4._auto_1)(d:autoParam (c.isGenerator=false) aU4._auto_1)(e:autoParam (N.Nodup) aU7._auto_1)(f:autoParam (N.take P.length=P) aU4._auto_1)(g:autoParam (∀x∈P,c.names.lookup x=some .local\/c.names.lookup x=some .cell) aU7._auto_1)(h:autoParam (∀y∈c.names,y.2≠.free) aU7._auto_1):FnScope N P c:=⟨a,b,d,e,f,g,h⟩
theorem Jt:FnScope ["bottom"] ["bottom"] (wf zax):=scA
theorem Js:xm "check_bottom" zax ["bottom"]:=λ_ _ _ _ _ _ _ h=>bA1 h λ_=>rfl
abbrev zay:Stmt:=top 18
theorem Yu:FnScope ["one","other"] ["one","other"] (wf zay):=scA
theorem Yb:xm "common_divisor" zay ["one","other"]:=λ_ _ _ _ _ _ _ h=>bA2 h λ_ _=>rfl
abbrev zaz:Stmt:=top 19
theorem wxj:FnScope ["top","bottom","divisor"] ["top","bottom"] (wf zaz):=scA
theorem ww2:xm "lowest" zaz ["top","bottom"]:=λ_ _ _ _ _ _ _ h=>bA2 h λ_ _=>rfl
abbrev za0:Stmt:=top 28
theorem qut:FnScope ["heights","width"] ["heights"] (wf za0):=scA
theorem wqx:xm "is_line" za0 ["heights"]:=λ_ _ _ _ _ _ _ h=>bA1 h λ_=>rfl
abbrev za1:Stmt:=vq (top 29) 0
theorem Jj:FnScope ["self","heights"] ["self","heights"] (wf za1):=scA
theorem Yt:zt "__init__" "Road.__init__" za1 ["self","heights"]:=λ_ _ _ _ _ _ _ h=>bA2 h λ_ _=>rfl
abbrev za2:Stmt:=vq (top 29) 1
theorem qxm:FnScope ["self"] ["self"] (wf za2):=scA
theorem qx7:zt "width" "Road.width" za2 ["self"]:=λ_ _ _ _ _ _ _ h=>bA1 h λ_=>rfl
abbrev za3:Stmt:=vq (top 29) 2
theorem qqx:FnScope ["self"] ["self"] (wf za3):=scA
theorem qqq:zt "corners" "Road.corners" za3 ["self"]:=λ_ _ _ _ _ _ _ h=>bA1 h λ_=>rfl
abbrev za4:Stmt:=vq (top 29) 6
theorem Jp:FnScope ["self","point","top","bottom"] ["self","point"] (wf za4):=scA
theorem J0:zt "on_road" "Road.on_road" za4 ["self","point"]:=λ_ _ _ _ _ _ _ h=>bA2 h λ_ _=>rfl
abbrev za5:Stmt:=vq (top 31) 0
theorem Zd:FnScope ["self","whose","point","times"] ["self","whose","point","times"] (wf za5):=scA
theorem Zk:zt "__init__" "Walker.__init__" za5 ["self","whose","point","times"]:=λ_ _ _ _ _ _ _ h=>bA4 h λ_ _ _ _=>rfl
abbrev za6:Stmt:=top 32
theorem qjy:FnScope ["whose","point"] ["whose","point"] (wf za6):=scA
theorem qyg:xm "set_down" za6 ["whose","point"]:=λ_ _ _ _ _ _ _ h=>bA2 h λ_ _=>rfl
abbrev za7:Stmt:=top 37
theorem quv:FnScope ["name"] ["name"] (wf za7):=scA
theorem wqq:xm "is_name" za7 ["name"]:=λ_ _ _ _ _ _ _ h=>bA1 h λ_=>rfl
abbrev za8:Stmt:=top 38
theorem Z5:FnScope ["name","things"] ["name","things"] (wf za8):=scA
theorem Yx:xm "check_new_name" za8 ["name","things"]:=λ_ _ _ _ _ _ _ h=>bA2 h λ_ _=>rfl
abbrev za9:Stmt:=top 39
theorem qjz:FnScope ["things","changes","before","name","thing"] ["things","changes"] (wf za9):=scA
theorem qy6:xm "exchange" za9 ["things","changes"]:=λ_ _ _ _ _ _ _ h=>bA2 h λ_ _=>rfl
abbrev zba:Stmt:=vq (top 40) 0
theorem Zn:FnScope ["self"] ["self"] (wf zba):=scA
theorem Zr:zt "__init__" "House.__init__" zba ["self"]:=λ_ _ _ _ _ _ _ h=>bA1 h λ_=>rfl
abbrev zbb:Stmt:=vq (top 40) 1
theorem Qm:FnScope ["self","name"] ["self","name"] (wf zbb):=scA
theorem Q0:zt "road_called" "House.road_called" zbb ["self","name"]:=λ_ _ _ _ _ _ _ h=>bA2 h λ_ _=>rfl
abbrev zbc:Stmt:=vq (top 40) 2
theorem u8:FnScope ["self","name"] ["self","name"] (wf zbc):=scA
theorem u7:zt "walker_called" "House.walker_called" zbc ["self","name"]:=λ_ _ _ _ _ _ _ h=>bA2 h λ_ _=>rfl
abbrev zbd:Stmt:=vq (top 40) 4
theorem qjb:FnScope ["self","roads","walkers"] ["self","roads","walkers"] (wf zbd):=scA
theorem qyz:zt "do" "House.do" zbd ["self","roads","walkers"]:=λ_ _ _ _ _ _ _ h=>bA3 h λ_ _ _=>rfl
abbrev zbe:Stmt:=vq (top 40) 5
theorem qz7:FnScope ["self","name","heights"] ["self","name","heights"] (wf zbe):=scA
theorem qvm:zt "lay" "House.lay" zbe ["self","name","heights"]:=λ_ _ _ _ _ _ _ h=>bA3 h λ_ _ _=>rfl
abbrev zbf:Stmt:=vq (top 40) 10
theorem qw8:FnScope ["self","name","whose","point","road","here"] ["self","name","whose","point"] (wf zbf):=scA
theorem qwc:zt "place" "House.place" zbf ["self","name","whose","point"]:=λ_ _ _ _ _ _ _ h=>bA4 h λ_ _ _ _=>rfl
abbrev zbg:Stmt:=vq (top 40) 15
theorem qqw:FnScope ["self"] ["self"] (wf zbg):=scA
theorem J3:zt "forget" "House.forget" zbg ["self"]:=λ_ _ _ _ _ _ _ h=>bA1 h λ_=>rfl
abbrev zbh:Stmt:=vq (top 40) 17
theorem qwj:FnScope ["self"] ["self"] (wf zbh):=scA
theorem qqg:zt "names" "House.names" zbh ["self"]:=λ_ _ _ _ _ _ _ h=>bA1 h λ_=>rfl
abbrev zbi:Stmt:=vq (top 40) 18
theorem Wn:FnScope ["self","name"] ["self","name"] (wf zbi):=scA
theorem W0:zt "corners_of" "House.corners_of" zbi ["self","name"]:=λ_ _ _ _ _ _ _ h=>bA2 h λ_ _=>rfl
abbrev zbj:Stmt:=vq (top 40) 19
theorem qwx:FnScope ["self","name","walker"] ["self","name"] (wf zbj):=scA
theorem qwk:zt "where" "House.where" zbj ["self","name"]:=λ_ _ _ _ _ _ _ h=>bA2 h λ_ _=>rfl
abbrev zbk:Stmt:=top 44
theorem qj5:FnScope ["house","name"] ["house","name"] (wf zbk):=scA
theorem qyt:xm "road_row" zbk ["house","name"]:=λ_ _ _ _ _ _ _ h=>bA2 h λ_ _=>rfl
abbrev zbl:Stmt:=top 45
theorem qxn:FnScope ["house","name","whose","top","bottom"] ["house","name"] (wf zbl):=scA
theorem qx6:xm "walker_row" zbl ["house","name"]:=λ_ _ _ _ _ _ _ h=>bA2 h λ_ _=>rfl
abbrev zbm:Stmt:=top 46
theorem qxd:FnScope ["house","roads","walkers","rows"] ["house"] (wf zbm):=scA
theorem qxj:xm "house_text" zbm ["house"]:=λ_ _ _ _ _ _ _ h=>bA1 h λ_=>rfl
abbrev zal:Stmt:=top 47
theorem Z7:FnScope ["word"] ["word"] (wf zal):=scA
theorem Zt:xm "number_of" zal ["word"]:=λ_ _ _ _ _ _ _ h=>bA1 h λ_=>rfl
abbrev zam:Stmt:=top 48
theorem qwp:FnScope ["house","row","words"] ["house","row"] (wf zam):=scA
theorem qq8:xm "take_in" zam ["house","row"]:=λ_ _ _ _ _ _ _ h=>bA2 h λ_ _=>rfl
abbrev zan:Stmt:=top 49
theorem Jc:FnScope ["text","house","row"] ["text"] (wf zan):=scA
theorem Jg:xm "house_of" zan ["text"]:=λ_ _ _ _ _ _ _ h=>bA1 h λ_=>rfl
abbrev zao:Stmt:=top 50
theorem W7:FnScope ["text","house"] ["text"] (wf zao):=scA
theorem qxk:xm "read_house" zao ["text"]:=λ_ _ _ _ _ _ _ h=>bA1 h λ_=>rfl
abbrev zbn:Stmt:=top 52
theorem qvr:FnScope ["_law_script","_law_at"] ["_law_script","_law_at"] (wf zbn):=scA
theorem qkk:xm "_law_cell" zbn ["_law_script","_law_at"]:=λ_ _ _ _ _ _ _ h=>bA2 h λ_ _=>rfl
abbrev zbo:Stmt:=top 53
theorem qkr:FnScope ["_law_script","_law_at","_law_turn","_law_many","_law_cell_here","_law_left","_law_k","_law_low_here","_law_one","_law_two"] ["_law_script","_law_at","_law_turn","_law_many"] (wf zbo):=scA
theorem qv6:xm "_law_pick" zbo ["_law_script","_law_at","_law_turn","_law_many"]:=λ_ _ _ _ _ _ _ h=>bA4 h λ_ _ _ _=>rfl
abbrev zbp:Stmt:=top 54
theorem qxz:FnScope ["_law_script","_law_at","_law_letters","_law_size","_law_place","_law_shift","_law_made","_law_j","_law_name","_law_k","_law_sign_here"] ["_law_script","_law_at"] (wf zbp):=scA
theorem qxs:xm "_law_names" zbp ["_law_script","_law_at"]:=λ_ _ _ _ _ _ _ h=>bA2 h λ_ _=>rfl
abbrev zbq:Stmt:=top 55
theorem qxh:FnScope ["_law_script","_law_at","_law_wide","_law_row","_law_k"] ["_law_script","_law_at","_law_wide"] (wf zbq):=scA
theorem qxp:xm "_law_climb" zbq ["_law_script","_law_at","_law_wide"]:=λ_ _ _ _ _ _ _ h=>bA3 h λ_ _ _=>rfl
abbrev zbr:Stmt:=top 56
theorem Jr:FnScope ["_law_script","_law_at","_law_most","_law_wide","_law_kind"] ["_law_script","_law_at","_law_most"] (wf zbr):=scA
theorem J1:xm "_law_heights" zbr ["_law_script","_law_at","_law_most"]:=λ_ _ _ _ _ _ _ h=>bA3 h λ_ _ _=>rfl
abbrev zbs:Stmt:=top 57
theorem qkp:FnScope ["_law_script","_law_at","_law_wide","_law_most","_law_bottom","_law_top","_law_by"] ["_law_script","_law_at","_law_wide","_law_most"] (wf zbs):=scA
theorem qkz:xm "_law_spot" zbs ["_law_script","_law_at","_law_wide","_law_most"]:=λ_ _ _ _ _ _ _ h=>bA4 h λ_ _ _ _=>rfl
abbrev zbt:Stmt:=top 58
theorem qw6:FnScope ["_law_one","_law_other"] ["_law_one","_law_other"] (wf zbt):=scA
theorem qwb:xm "_law_common" zbt ["_law_one","_law_other"]:=λ_ _ _ _ _ _ _ h=>bA2 h λ_ _=>rfl
abbrev zbu:Stmt:=top 59
theorem qj7:FnScope ["_law_top","_law_bottom","_law_by"] ["_law_top","_law_bottom"] (wf zbu):=scA
theorem qy8:xm "_law_low" zbu ["_law_top","_law_bottom"]:=λ_ _ _ _ _ _ _ h=>bA2 h λ_ _=>rfl
abbrev zbv:Stmt:=top 60
theorem qx2:FnScope ["_law_script","_law_at","_law_names_here","_law_roads","_law_walkers","_law_j","_law_known","_law_whose","_law_wide","_law_point","_law_top","_law_bottom"] ["_law_script","_law_at"] (wf zbv):=scA
theorem qxg:xm "_law_stand" zbv ["_law_script","_law_at"]:=λ_ _ _ _ _ _ _ h=>bA2 h λ_ _=>rfl
abbrev zbw:Stmt:=top 61
theorem qk3:FnScope ["_law_roads","_law_walkers","_law_made","_law_name","_law_whose","_law_top","_law_bottom"] ["_law_roads","_law_walkers"] (wf zbw):=scA
theorem qk8:xm "_law_text" zbw ["_law_roads","_law_walkers"]:=λ_ _ _ _ _ _ _ h=>bA2 h λ_ _=>rfl
abbrev zbx:Stmt:=top 62
theorem Zg:FnScope ["_law_name","_law_bad"] ["_law_name"] (wf zbx):=scA
theorem Ym:xm "_law_good_name" zbx ["_law_name"]:=λ_ _ _ _ _ _ _ h=>bA1 h λ_=>rfl
abbrev zby:Stmt:=top 63
theorem Z1:FnScope ["_law_row","_law_bad"] ["_law_row"] (wf zby):=scA
theorem Yj:xm "_law_good_line" zby ["_law_row"]:=λ_ _ _ _ _ _ _ h=>bA1 h λ_=>rfl
abbrev zbz:Stmt:=top 64
theorem qjh:FnScope ["_law_k","_law_some"] ["_law_k"] (wf zbz):=scA
theorem qyy:xm "_law_odd" zbz ["_law_k"]:=λ_ _ _ _ _ _ _ h=>bA1 h λ_=>rfl
abbrev zb0:Stmt:=top 65
theorem qw1:FnScope ["_law_word","_law_sign_here"] ["_law_word"] (wf zb0):=scA
theorem qxq:xm "_law_number" zb0 ["_law_word"]:=λ_ _ _ _ _ _ _ h=>bA1 h λ_=>rfl
abbrev zb1:Stmt:=top 66
theorem Z4:FnScope ["_law_words"] ["_law_words"] (wf zb1):=scA
theorem Yh:xm "_law_road_good" zb1 ["_law_words"]:=λ_ _ _ _ _ _ _ h=>bA1 h λ_=>rfl
abbrev zb2:Stmt:=top 67
theorem Wp:FnScope ["_law_words","_law_wides","_law_top","_law_bottom"] ["_law_words","_law_wides"] (wf zb2):=scA
theorem Wt:xm "_law_walker_good" zb2 ["_law_words","_law_wides"]:=λ_ _ _ _ _ _ _ h=>bA2 h λ_ _=>rfl
abbrev zb3:Stmt:=top 68
theorem qkt:FnScope ["_law_text_here","_law_wides","_law_last","_law_line","_law_words","_law_key"] ["_law_text_here"] (wf zb3):=scA
theorem qv1:xm "_law_good" zb3 ["_law_text_here"]:=λ_ _ _ _ _ _ _ h=>bA1 h λ_=>rfl
abbrev zb4:Stmt:=top 69
theorem qvp:FnScope ["_law_script","_law_at","_law_some"] ["_law_script","_law_at"] (wf zb4):=scA
theorem qvd:xm "_law_sign" zb4 ["_law_script","_law_at"]:=λ_ _ _ _ _ _ _ h=>bA2 h λ_ _=>rfl
abbrev zb5:Stmt:=top 70
theorem Ws:FnScope ["_law_script","_law_lines","_law_kind","_law_one","_law_other","_law_made"] ["_law_script","_law_lines","_law_kind"] (wf zb5):=scA
theorem Wr:xm "_law_rows_spoilt" zb5 ["_law_script","_law_lines","_law_kind"]:=λ_ _ _ _ _ _ _ h=>bA3 h λ_ _ _=>rfl
abbrev zb6:Stmt:=top 71
theorem qwz:FnScope ["_law_script","_law_text_here","_law_kind","_law_at"] ["_law_script","_law_text_here"] (wf zb6):=scA
theorem qqp:xm "_law_spoilt" zb6 ["_law_script","_law_text_here"]:=λ_ _ _ _ _ _ _ h=>bA2 h λ_ _=>rfl
abbrev zcg:Stmt:=top 72
theorem zf4:FnScope ["_law_script","_law_roads","_law_walkers","_law_text_here","_law_told","_law_house"] ["_law_script"] (wf zcg):=scA
local macro_rules | `(tactic| walk_at "sq")=>`(tactic| first | assumption | exact SqT.new | exact SqL.new | ((with_reducible refine Same.sqt (Same.upd (by assumption)) ?_);walk_at "sq") | ((with_reducible refine Same.sql (Same.upd (by assumption)) ?_);walk_at "sq"))
local macro_rules | `(tactic| walk_at "at")=>`(tactic| first | rfl | exact qkn (by lia) (by lia))
local macro_rules | `(tactic| walk_at "mul")=>`(tactic| first | assumption | exact IntMulOk.of_left (intBits_le_64 (by lia) (by lia)) | exact IntMulOk.of_right (intBits_le_64 (by lia) (by lia)) | exact Sm.ok (by assumption) (by assumption) (by lia))
local macro_rules | `(tactic| walk_at "pos")=>`(tactic| first | lia | decide +kernel)
local macro_rules | `(tactic| walk_at "div")=>`(tactic| exact⟨by first | lia | decide +kernel,by unfold Sm;decide +kernel⟩)
local macro_rules | `(tactic| walk_at "loc")=>`(tactic| first | exact Or.inl rfl | exact Or.inr rfl)
local macro_rules | `(tactic| walk_at "cap")=>`(tactic| repeat (first | exact trivial | refine⟨rfl,?_⟩))
local macro_rules | `(tactic| walk_at "has")=>`(tactic| repeat (first | exact trivial | (refine⟨λz=>?_,(by lia),?_⟩;(first | exact⟨_,rfl⟩ | cases z))))
local macro_rules | `(tactic| walk_at "cix")=>`(tactic| repeat (first | exact trivial | refine⟨⟨_,_,rfl,rfl,rfl,rfl⟩,?_⟩))
local macro_rules | `(tactic| walk_at "hasK")=>`(tactic| repeat (first | exact trivial | (refine⟨λz=>?_,λz=>?_,?_⟩;(first | exact⟨_,rfl⟩ | cases z);(first | rfl | cases z))))
structure Txt (K:Aa)(mg:Str->Option Ag)(qx:Aj)(qf:Aj)(qw:Aj)(qd:Aj)(qg:Aj)(qt:Aj)(wq:Aj)(qc:Aj)(q9:Aj)(qr:Aj)(qb:Aj)(qh:Aj)(qp:Aj)(qz:Aj)(qq:Aj):Prop where
 len_:mg "len" = none
 abs_:mg "abs" = none
 range_:mg "range" = none
 list_:mg "list" = none
 min_:mg "min" = none
 max_:mg "max" = none
 all_:mg "all" = none
 any_:mg "any" = none
 sorted_:mg "sorted" = none
 enumerate_:mg "enumerate" = none
 dict_:mg "dict" = none
 isinstance_:mg "isinstance" = none
 int_:mg "int" = none
 bool_:mg "bool" = none
 tuple_:mg "tuple" = none
 str_:mg "str" = none
 zch:mg "RoadError" = some (.ref qx)
 zap:ExcC K qx
 zf5:mg "BadLine" = some (.ref qf)
 zaq:ExcC K qf
 zfr:mg "BadBottom" = some (.ref qw)
 zak:ExcC K qw
 zf6:mg "OffRoad" = some (.ref qd)
 zar:ExcC K qd
 zhf:mg "BadCount" = some (.ref qg)
 zb7:ExcC K qg
 zhg:mg "TooLong" = some (.ref qt)
 zb8:ExcC K qt
 zhh:mg "BadRow" = some (.ref wq)
 zb9:ExcC K wq
 zf7:mg "BadName" = some (.ref qc)
 zas:ExcC K qc
 zf8:mg "Taken" = some (.ref q9)
 zat:ExcC K q9
 zf9:mg "NoRoad" = some (.ref qr)
 zau:ExcC K qr
 zga:mg "NoWalker" = some (.ref qb)
 zav:ExcC K qb
 zae:mg "BadText" = some (.ref qh)
 zab:ExcC K qh
 cl:Cls K qp
 na:NoAttr K qp "heights"
 zaf:∃t,mg "WIDEST" = some (.int 24 t)
 zgb:mg "Road" = some (.ref qp)
 clW:Cls K qz
 clH:Cls K qq
 naWw:NoAttr K qz "whose"
 naWp:NoAttr K qz "point"
 naWt:NoAttr K qz "times"
 naHr:NoAttr K qq "roads"
 naHw:NoAttr K qq "walkers"
 naHd:NoAttr K qq "done"
 zgc:mg "Walker" = some (.ref qz)
 zgd:mg "House" = some (.ref qq)
 zca:∃t,mg "LONGEST_TRACE" = some (.int 1000 t)
 zcb:∃t,mg "FARTHEST" = some (.int 1000000000000000000000000000000000000000000000000000000000000 t)
 zag:∃t,mg "LONGEST_NAME" = some (.int 12 t)
 zah:∃t,mg "GREATEST_BOTTOM" = some (.int 40 t)
 zai:∃t,mg "LETTERS" = some (.str "abcdefghijklmnopqrstuvwxyz" t)
 io:IsO K qq
 zac:∃t,mg "LONGEST_NUMBER" = some (.int 3 t)
 zad:∃t,mg "FIGURES" = some (.str "0123456789" t)
 mr_BadText:PySem.W.mroIn K qh (.ref qx)=some true
 mr_BadName:PySem.W.mroIn K qc (.ref qx)=some true
 mr_Taken:PySem.W.mroIn K q9 (.ref qx)=some true
 mr_BadLine:PySem.W.mroIn K qf (.ref qx)=some true
 mr_NoRoad:PySem.W.mroIn K qr (.ref qx)=some true
 mr_BadBottom:PySem.W.mroIn K qw (.ref qx)=some true
 mr_OffRoad:PySem.W.mroIn K qd (.ref qx)=some true
abbrev FK(P:Ac)(w:Ah)(K:Aa)(mg:Str->Option Ag)(base:Heap):=FnOk P w K mg base (CXE P w)
section
variable {P:Ac}{w:Ah}{K:Aa}{mg:Str->Option Ag}{base:Heap}{qx:Aj}{qf:Aj}{qw:Aj}{qd:Aj}{qg:Aj}{qt:Aj}{wq:Aj}{qc:Aj}{q9:Aj}{qr:Aj}{qb:Aj}{qh:Aj}{qp:Aj}{qz:Aj}{qq:Aj}
variable {f:Aj}{fd:Ad}(T:Txt K mg qx qf qw qd qg qt wq qc q9 qr qb qh qp qz qq)
def qku (C:Aj):Sp:=λvs H Q E=>∃b:Int,vs=[.int b]/\(1<=b->Q .non H)/\(b<1->E (.ref C) none H)
include T in
theorem wz2 (F:Fun K "check_bottom" "check_bottom" zax f fd):FK P w K mg base 1 f fd ["bottom"] (qku qw):=by
 have L:=Jt;refine F.okX L (λJ H Q E h=>by obtain⟨_,rfl,_⟩:=h;rfl) λ_ _ _ _ H J Q E O h=>?_;obtain⟨b,rfl,h1,h2⟩:=h;refine⟨_,(qm (xc (wc jr (pv 0) qj (wm _)) (qm (z0 rfl T.zak zq rfl T.zfr (xq wt qk))) xz)),?_⟩;refine exI rfl (xx rfl rfl (exI rfl ?_));refine zd (λI=>?_) (λI=>?_)
 .exact⟨⋯,h2 I⟩
 .exact h1 ⋯
include T in
theorem wjg (F:Fun K "_law_cell" "_law_cell" zbn f fd):FK P w K mg base 1 f fd ["_law_script","_law_at"] (wqw K):=by
 have Z:=qvr;refine F.okX Z (λU H Q E h=>by obtain⟨_,_,_,rfl,_⟩:=h;rfl) λ_ _ _ _ H U Q E hr h=>?_;obtain⟨a,S,i,rfl,L,h0,k⟩:=h;have J:(S.map V.int).length=S.length:=ac _;refine⟨_,(qu (xc (wc jr (pv 1) (wn xk rfl T.len_ aB (wv (pv 0) qk)) (wm _)) (qm (w8 (xn ix_list (pv 0) (pv 1) (λ_ _=>rfl)))) xz)
   (qu (xc (wc zw (wn xk rfl T.len_ aB (wv (pv 0) qk)) qj (wm _)) (qm (w8 (wg xb (wg zb qj (pv 1)) qj))) xz)
   (qm (w8 (wg xb (xn ix_list (pv 0) (wg kj (pv 1) (wn xk rfl T.len_ aB (wv (pv 0) qk))) (λ_ _=>rfl)) (wg zb qj (pv 1))))))),?_⟩
 refine exI rfl (exI rfl ⟨_,_,rfl,.inl L,xx rfl rfl (exI rfl ?_)⟩);refine zd (λI=>?_) (λI=>?_)
 .rw[J]at I;refine exI rfl (exI rfl (exX rfl rfl L (qkn h0 I) ?_));exact k _ (by rw[qy1,am I])
 .rw[J]at I;refine exI rfl ⟨_,_,rfl,.inl L,rfl,_,rfl,?_⟩;rw[J];refine vh (λO=>?_) (λO=>?_)
  .refine exI rfl (xx rfl rfl ⟨(by walk_at "mul"),xx rfl rfl ?_⟩);exact k _ (by rw[qy1,al I,am O])
  .refine exI rfl (exI rfl (exI rfl ⟨_,_,rfl,.inl L,xx rfl rfl ⟨(by rw[J];lia),?_⟩⟩));rw[J];refine exX rfl rfl L (qkn (br _ O) (bw _ ⋯)) (exI rfl (xx rfl rfl ⟨(by walk_at "mul"),xx rfl rfl ?_⟩));exact k _ (by rw[qy1,al I,al O])
include T in
theorem wj4 (F:Fun K "_law_pick" "_law_pick" zbo f fd)(zge:Cal P w K mg base "_law_cell" 1 (wqw K)):FK P w K mg base 2 f fd ["_law_script","_law_at","_law_turn","_law_many"] (yb K):=by
 have Z:=qkr;refine F.okX Z (λU H Q E h=>by obtain⟨_,_,_,_,_,rfl,_⟩:=h;rfl) λ_ _ _ _ H U Q E hr h=>?_;obtain⟨a,ns,i,t,m,rfl,hS,h0,t0,t1,m0,k⟩:=h;refine⟨_,(qu (w6 (i:=4) (wCA zge (wv (pv 0) (wv (pv 1) qk))))
   (qu (xc (wc op_ge (wn Zp rfl T.abs_ Z8 (wv (pv 4) qk)) (wg op_pow qj qj) (wm _)) (qu (w6 (i:=5) (wn Zp rfl T.abs_ Z8 (wv (pv 4) qk)))
   (qu (ju bd rfl (z8 rfl T.range_ (wv (pv 2) qk)) (xf (i:=6)) (qm (w6 (i:=5) (wg Q7 (pv 5) qj))))
   (qu (xc (wc jr (pv 4) qj (wm _)) (qm (w6 (i:=5) (wg kj (pv 5) qj))) xz)
   (qm (w8 (wg kj (pv 5) (pv 3))))))) xz)
   (qu (w6 (i:=7) (wg kj (pv 4) qj))
   (qu (w6 (i:=8) (wg kj (wg xb (wg xb (wg zb (pv 7) qj) (wg zb (pv 2) qj)) qj) qj))
   (qu (w6 (i:=9) (wg kj (wg xb (wg xb (wg zb (pv 8) (pv 8)) (wg zb (pv 7) qj)) (wg zb (pv 2) qj)) qj))
   (qm (w8 (wg kj (wg kj (wg xb (wg xb (wg zb (pv 9) (pv 9)) (wg zb (pv 8) qj)) (wg zb (pv 2) qj)) qj) (pv 3))))))))),?_⟩
 refine exI rfl (exI rfl ?_);refine⟨a,ns,i,rfl,hS,h0,λc hc=>?_⟩;have S:∀v,v=qjj c t%m->Q (.int v) H:=λv O=>by
  refine k v (by rw[O,qy0,hc]) ?_ ?_
  .rw[O];exact br _ ⋯
  .rw[O];exact bw _ m0
 refine exI rfl (exI rfl (xx rfl rfl ⟨⟨⋯,⋯,⋯⟩,xx rfl rfl (exI rfl ?_)⟩));refine zd (λL=>?_) (λL=>?_)
 .have I:10 ^ 18<=yn c:=L;refine exI rfl (exI rfl ?_);refine exI rfl ⟨t,rfl,⋯,⋯,yw (λj σ H1=>H1=H/\∃z,σ=[some (.ref a),some (.int i),some (.int t),some (.int m),some (.int c),some (.int (divs (yn c) j)),z,none,none,none]) ⟨rfl,_,rfl⟩ ?_ ?_⟩
  .rintro j σ H1 hj ⟨rfl,z,rfl⟩;exact exI rfl (xx rfl rfl ⟨(by walk_at "div"),rfl,_,rfl⟩)
  .rintro σ H1 ⟨rfl,z,rfl⟩;refine exI rfl (xx rfl rfl (exI rfl ?_));refine zd (λJ=>?_) (λJ=>?_)
   .refine exI rfl (xx rfl rfl ⟨(by walk_at "pos"),exI rfl (exI rfl (xx rfl rfl ⟨(by walk_at "pos"),?_⟩))⟩);exact S _ (by rw[wzj I J])
   .refine exI rfl (exI rfl (xx rfl rfl ⟨(by walk_at "pos"),?_⟩));exact S _ (by rw[wxs I J])
 .have I:¬ 10 ^ 18<=yn c:=L;have l0:=br c (show(1000003:Int)≠0 by decide);have l1:=bw c (show(0:Int)<1000003 by decide);refine exI rfl (xx rfl rfl ⟨(by walk_at "pos"),exI rfl (xx rfl rfl ⟨(by walk_at "mul"),exI rfl (xx rfl rfl ⟨(by walk_at "mul"),xx rfl rfl (xx rfl rfl (xx rfl rfl ⟨(by walk_at "pos"),?_⟩))⟩)⟩)⟩);have o0:0<=qv3 c t:=br _ ⋯;have o1:qv3 c t<999983:=bw _ ⋯;refine⟨V.int (qv3 c t),rfl,V.int (qv3 c t),rfl,xx rfl rfl ⟨(by walk_at "mul"),exI rfl (xx rfl rfl ⟨(by walk_at "mul"),xx rfl rfl (exI rfl (xx rfl rfl ⟨(by walk_at "mul"),xx rfl rfl (xx rfl rfl ⟨(by walk_at "pos"),?_⟩)⟩))⟩)⟩⟩;have w0:0<=qjk c t:=br _ ⋯;have w1:qjk c t<1000033:=bw _ ⋯;refine⟨V.int (qjk c t),rfl,V.int (qjk c t),rfl,xx rfl rfl ⟨(by walk_at "mul"),V.int (qv3 c t),rfl,xx rfl rfl ⟨(by walk_at "mul"),xx rfl rfl (exI rfl (xx rfl rfl ⟨(by walk_at "mul"),xx rfl rfl (xx rfl rfl ⟨(by walk_at "pos"),exI rfl (xx rfl rfl ⟨(by walk_at "pos"),?_⟩)⟩)⟩))⟩⟩⟩;exact S _ (by rw[wkz I])
def Within (n f:Int)(m:Option Int):Prop:=f<=n/\∀b,m=some b->n<=b
def xy (ns:List Int):Prop:=2<=ns.length/\ns.length<=25/\∀h∈ns,0<=h/\h<=(ns.length:Int)-1
def qw9 (K:Aa):Sp:=λvs H Q _=>∃(p:Aj) (ns:List Int),vs=[.ref p]/\SqL K H p (ns.map V.int)/\(xy ns->Q (.bl true) H)/\(¬ xy ns->Q (.bl false) H)
include T in
theorem wqv (F:Fun K "is_line" "is_line" za0 f fd):FK P w K mg base 1 f fd ["heights"] (qw9 K):=by
 have sc:=qut;refine F.okX sc (λvs H Q E h=>by obtain⟨_,_,rfl,_⟩:=h;rfl) λ_ _ _ _ H vs Q E hr h=>?_;obtain⟨p,I,rfl,O,k1,J⟩:=h;have ad:(I.map V.int).length=I.length:=ac _;obtain⟨tw,Z⟩:=T.zaf;refine⟨_,(qu (w6 (i:=1) (wg Qh (wn xk rfl T.len_ aB (wv (pv 0) qk)) qj))
   (qu (xc (PW.pt (k6 (wc jr (pv 1) qj (wm _)) (jk (wc jh (pv 1) (y6 (v:=V.int 24) rfl Z ⟨_,rfl⟩) (wm _))))) (qm (w8 W1)) xz)
   (qm (w8 (Y6 (zp op_ge (wn (qxc rfl) rfl T.min_ PyProof.Rows.boot_min (wv (pv 0) qk)) qj (wm _)) (qv7 (zp qy5 (wn (qx0 rfl) rfl T.max_ dN (wv (pv 0) qk)) (pv 1) (wm _)))))))),?_⟩
 refine exI rfl ⟨_,_,rfl,.inl O,xx rfl rfl ?_⟩;refine exI rfl (xx rfl rfl (exI rfl ?_));rw[ad];refine zd (λq1=>?_) (λq1=>?_)
 .refine vg ?_;exact J (λz=>by have:=z.1;lia)
 .refine exI rfl (xx rfl rfl (exI rfl ?_));refine zd (λq2=>?_) (λq2=>?_)
  .exact J (λz=>by have:=z.2.1;lia)
  .refine exI rfl ⟨p,I,rfl,O,⋯,λm hm aj=>(xx rfl rfl (exI rfl ?_))⟩;refine zd (λS=>?_) (λS=>?_)
   .refine exI rfl ⟨p,I,rfl,O,⋯,λL aa ai=>(exI rfl (xx rfl rfl ?_))⟩;show Q (.bl (decide (L<=(I.length:Int)-1))) H;by_cases q4:L<=(I.length:Int)-1
    .rw[aM q4];exact k1 ⟨⋯,⋯,λh U=>by have:=aj h U;have:=ai h U;lia⟩
    .rw[aN q4];exact J (λz=>q4 (z.2.2 L aa).2)
   .exact J (λz=>S (z.2.2 m hm).1)
def RoadAt (C:Aj)(H:Hp)(r:Aj)(ns:List Int):Prop:=∃dx q,H r=some (.ins C dx [("heights",.ref q)])/\H q=some (.lst (ns.map V.int))
variable {C:Aj}{H H':Hp}
theorem RoadAt.same {r:Aj}{ns:List Int}(h:RoadAt C H r ns)(s:Same H H'):RoadAt C H' r ns:=by obtain⟨dx,q,h1,h2⟩:=h;exact⟨dx,q,s _ _ h1,s _ _ h2⟩
variable {q:Aj}
theorem Yk:([("heights",V.ref q)]:List (Str×V)).lookup ("heights" : Str)=some (.ref q):=by rw[aZ];simp
variable {m:Str}
theorem Zv (h:¬ m = "heights"):([("heights",V.ref q)]:List (Str×V)).lookup m=none:=by rw[aZ];have:(m==("heights" : Str))=false:=bq.mpr h;rw[this];rfl
def qk5 (K:Aa)(CB C:Aj):Sp:=λvs H Q E=>∃(r dx p:Aj) (ns:List Int),vs=[.ref r,.ref p]/\H r=some (.ins C dx [])/\SqL K H p (ns.map V.int) /\
 (xy ns->∀H' q,H q=none->(∀b o,H b=some o->b≠r->H' b=some o)->H' r=some (.ins C dx [("heights",.ref q)])->H' q=some (.lst (ns.map V.int))->Q .non H')/\(¬ xy ns->E (.ref CB) none H)
include T in
theorem wyb (F:Fun K "__init__" "Road.__init__" za1 f fd)(zgf:Cal P w K mg base "is_line" 1 (qw9 K)):FK P w K mg base 2 f fd ["self","heights"] (qk5 K qf qp):=by
 have U:=Jj;refine F.okX U (λS H Q E h=>by obtain⟨_,_,_,_,rfl,_⟩:=h;rfl) λ_ _ _ _ H S Q E hr h=>?_;obtain⟨r,dx,p,L,rfl,J,O,k,x⟩:=h;refine⟨_,(qu (xc (Qw (Qq (wCA zgf (wv (pv 1) qk)))) (qm (z0 rfl T.zaq zq rfl T.zf5 (xq wt qk))) xz)
   (qm (Ww (pv 0) (zv u9 rfl T.list_ bR (wv (pv 1) qk)) rfl))),?_⟩
 refine⟨_,rfl,p,L,rfl,O,λZ=>(exI rfl ?_),λad=>(exI rfl ?_)⟩
 .refine jq ?_;refine exI rfl ⟨_,_,rfl,.inl O,λq I=>?_⟩;have aa:upd H q (.lst (L.map V.int)) r=some (.ins qp dx []):=by rw[wj (wz J I)];exact J
  refine exI rfl ⟨r,qp,dx,[],rfl,aa,T.cl,T.na,(by show 0<1000;decide),?_⟩;refine k Z _ q I (λb o e n=>?_) qy ?_
  .rw[wj n,wj (wz e I)];exact e
  .rw[wj (wz J I).symm,qy]
 .refine vg ?_;exact⟨sz1,x ad⟩
def qz8 (C:Aj):Sp:=λvs H Q _=>∃(r:Aj) (ns:List Int),vs=[.ref r]/\RoadAt C H r ns/\Q (.int ((ns.length:Int)-1)) H
include T in
theorem wvt (F:Fun K "width" "Road.width" za2 f fd):FK P w K mg base 1 f fd ["self"] (qz8 qp):=by have J:=qxm;refine F.okX J (λI H Q E h=>by obtain⟨_,_,rfl,_⟩:=h;rfl) λ_ _ _ _ H I Q E O h=>?_;obtain⟨r,L,rfl,⟨dx,q,h1,h2⟩,k⟩:=h;refine⟨_,(qm (w8 (wg Qh (wn xk rfl T.len_ aB (xh (v9 (pv 0) rfl) qk)) qj))),?_⟩;refine exI rfl ⟨r,qp,dx,_,_,rfl,h1,T.cl,T.na,Yk,q,exI rfl ⟨.inl (SqL.of h2),xx rfl rfl ?_⟩⟩;rw[ac];exact k
def Jk (C:Aj):Sp:=λvs H Q _=>∃(r:Aj) (ns:List Int),vs=[.ref r]/\RoadAt C H r ns/\∀p,H p=none->Q (.ref p) (upd H p (.lst (ns.map V.int)))
include T in
theorem quy (F:Fun K "corners" "Road.corners" za3 f fd):FK P w K mg base 1 f fd ["self"] (Jk qp):=by have J:=qqx;refine F.okX J (λI H Q E h=>by obtain⟨_,_,rfl,_⟩:=h;rfl) λ_ _ _ _ H I Q E O h=>?_;obtain⟨r,L,rfl,⟨dx,q,h1,h2⟩,k⟩:=h;refine⟨_,(qm (w8 (zv u9 rfl T.list_ bR (xh (v9 (pv 0) rfl) qk)))),?_⟩;exact exI rfl ⟨r,qp,dx,_,_,rfl,h1,T.cl,T.na,Yk,q,exI rfl ⟨.inl (SqL.of h2),λp np=>k p np⟩⟩
def InW (ns:List Int)(wd:Int):Prop:=(ns.length:Int)=wd+1/\∀h∈ns,0<=h/\h<=wd
def qqf (K:Aa):Sp:=λvs H Q _=>∃(a:Aj) (ns:List Int) (i wd:Int),vs=[.ref a,.int i,.int wd]/\SqL K H a (ns.map V.int)/\0<=i/\1<=wd/\wd<=24 /\
 ∀p hs,H p=none->InW hs wd->Q (.ref p) (upd H p (.lst (hs.map V.int)))
include T in
theorem wz0 (F:Fun K "_law_climb" "_law_climb" zbq f fd)(zaa:Cal P w K mg base "_law_pick" 2 (yb K)):FK P w K mg base 3 f fd ["_law_script","_law_at","_law_wide"] (qqf K):=by
 have sc:=qxh;refine F.okX sc (λZ H Q E h=>by obtain⟨_,_,_,_,rfl,_⟩:=h;rfl) λ_ _ _ _ H Z Q E hr h=>?_;obtain⟨a,L,i,wd,rfl,S,U,w1,w2,k⟩:=h;refine⟨_,(qu (w6 (i:=3) (vj (z9 (wCA zaa (wv (pv 0) (wv (pv 1) (xq qj (zj (wg xb (pv 2) qj) qk))))) qk)))
   (qu (ju bd rfl (z8 rfl T.range_ (wv (pv 2) qk)) (xf (i:=4)) (qm (zk (kh bD bV bW jy (pv 3) (z9 (wn (qz5 rfl) rfl T.max_ dN (xq qj (z9 (wn (wxm rfl) rfl T.min_ PyProof.Rows.boot_min (wv (pv 2) (zj (wg Qh (wg xb (xn ix_list (pv 3) (wk6 wqu qj) (λ_ _=>rfl)) (wg zb qj (wCA zaa (wv (pv 0) (wv (pv 1) (zj (wg xb qj (pv 4)) (xq qj qk))))))) qj) qk))) qk))) qk)))))
   (qm (w8 (pv 3))))),?_⟩
 refine exI rfl (exI rfl (exI rfl (xx rfl rfl ⟨a,L,_,_,_,rfl,S,U,⋯,⋯,⋯,λr1 _ l1 u1=>⟨sz1,λp np=>?_⟩⟩)));refine⟨_,rfl,wd,rfl,⋯,⋯,yw (λj σ H1=>∃(ys:List Int) (l:Int) (z:Option V),ys.length=j/\(∀h∈ys++[l],0<=h/\h<=wd)/\H1=upd H p (.lst ((ys++[l]).map V.int))/\σ=[some (.ref a),some (.int i),some (.int wd),some (.ref p),z])
  ⟨[],r1,none,rfl,(λh I=>by have e:=ar.mp I;subst e;lia),rfl,rfl⟩ ?_ ?_⟩
 .rintro j σ H1 hj ⟨ys,l,z,hy,hb,rfl,rfl⟩;have O:upd H p (.lst ((ys++[l]).map V.int)) p=some (.lst ((ys++[l]).map V.int)):=qy;have ad:SqL K (upd H p (.lst ((ys++[l]).map V.int))) a (L.map V.int):=Same.sql (Same.upd np) S;have aa:atI ((ys++[l]).map V.int) (-1)=some (V.int l):=by rw[aQ];exact wk2 _ _
  have hl:=hb l (by simp);refine exI rfl ⟨.inl ⟨rfl,_,SqL.of O⟩,exI rfl (exI rfl (exI rfl (exX rfl rfl (SqL.of O) aa (exI rfl (exI rfl (exI rfl (xx rfl rfl ⟨a,L,_,_,_,rfl,ad,U,⋯,⋯,⋯,λJ _ l2 u2=>?_⟩)))))))⟩;refine xx rfl rfl ⟨(by walk_at "mul"),xx rfl rfl (xx rfl rfl ⟨_,_,rfl,_,_,rfl,_,_,_,rfl,rfl,O,?_,?_⟩)⟩
  .rw[ac,ay,hy];have:(1000000:Nat)<sizeLine:=by decide
   simp only[aw,cP];lia
  .refine⟨ys++[l],(if(if l+2*J-1<wd then l+2*J-1 else wd)>0 then(if l+2*J-1<wd then l+2*J-1 else wd) else 0),_,by rw[ay,hy];rfl,λh I=>?_,?_,rfl⟩
   .rcases aP.mp I with I|I
    .exact hb h I
    .have e:=ar.mp I;subst e;by_cases g1:l+2*J-1<wd
     .rw[am g1];by_cases g2:l+2*J-1>0
      .rw[am g2];lia
      .rw[al g2];lia
     .rw[al g1,am (show wd>0 by lia)];lia
   .rw[Qv,aQ (l₁:=ys++[l])];rfl
 .rintro σ H1 ⟨ys,l,z,hy,hb,rfl,rfl⟩;refine exI rfl (k p _ np ⟨?_,hb⟩);rw[ay,hy];simp only[aw,cP];lia
def Yp (K:Aa):Sp:=λvs H Q _=>∃(a:Aj) (ns:List Int) (i m:Int),vs=[.ref a,.int i,.int m]/\SqL K H a (ns.map V.int)/\0<=i/\1<=m/\m<=24 /\
 ∀p hs wd,H p=none->1<=wd->wd<=m->InW hs wd->Q (.ref p) (upd H p (.lst (hs.map V.int)))
theorem wxq {wd:Int}{n:Nat}(g:Nat->Int)(h1:(n:Int)=wd+1)(h2:∀i,i<n->0<=g i/\g i<=wd):InW ((List.range n).map g) wd:=by refine⟨by rw[ac,bI];exact h1,λh F=>?_⟩;obtain⟨i,hi,rfl⟩:=av.mp F;exact h2 i (bc.mp hi)
theorem qx8 (n:Nat)(g:Nat->Int):(List.range n).map (λi=>V.int (g i))=((List.range n).map g).map V.int:=by rw[aW];rfl
include T in
theorem wqb (F:Fun K "_law_heights" "_law_heights" zbr f fd)(zaa:Cal P w K mg base "_law_pick" 2 (yb K))(zgg:Cal P w K mg base "_law_climb" 3 (qqf K)) :
  FK P w K mg base 4 f fd ["_law_script","_law_at","_law_most"] (Yp K):=by
 have sc:=Jr;refine F.okX sc (λvs H Q E h=>by obtain⟨_,_,_,_,rfl,_⟩:=h;rfl) λ_ _ _ _ H vs Q E hr h=>?_;obtain⟨a,O,i,m,rfl,Z,h0,m1,m2,k⟩:=h;refine⟨_,(qu (w6 (i:=3) (wg xb qj (wCA zaa (wv (pv 0) (wv (pv 1) (xq qj (wv (pv 2) qk)))))))
   (qu (w6 (i:=4) (wCA zaa (wv (pv 0) (wv (pv 1) (xq qj (xq qj qk))))))
   (qu (xc (wc zw (pv 4) qj (wm _)) (qm (w8 (vm (M:=[3]) rfl rfl (by walk_at "cap") (by walk_at "has") (by walk_at "cix") rfl (by decide +kernel) rfl (show List.Nodup (["_law_k","_law_wide"]:List Str) by decide +kernel) (z8 rfl T.range_ (zj (wg xb (pv 3) qj) qk)) (λ_ _ _ _ _=>(wg zb (pv 1) (wg kj (pv 0) qj)))))) xz)
   (qu (xc (wc zw (pv 4) qj (wm _)) (qm (w8 (vm (M:=[]) rfl rfl (by walk_at "cap") (by walk_at "has") (by walk_at "cix") rfl (by decide +kernel) rfl (show List.Nodup (["_law_k"]:List Str) by decide +kernel) (z8 rfl T.range_ (zj (wg xb (pv 3) qj) qk)) (λ_ _ _ _ _=>(pv 0))))) xz)
   (qu (xc (wc zw (pv 4) qj (wm _)) (qm (w8 (vm (M:=[3]) rfl rfl (by walk_at "cap") (by walk_at "has") (by walk_at "cix") rfl (by decide +kernel) rfl (show List.Nodup (["_law_k","_law_wide"]:List Str) by decide +kernel) (z8 rfl T.range_ (zj (wg xb (pv 3) qj) qk)) (λ_ _ _ _ _=>(wg Qh (pv 1) (pv 0)))))) xz)
   (qu (xc (wc zw (pv 4) qj (wm _)) (qm (w8 (vm (M:=[3]) rfl rfl (by walk_at "cap") (by walk_at "has") (by walk_at "cix") rfl (by decide +kernel) rfl (show List.Nodup (["_law_k","_law_wide"]:List Str) by decide +kernel) (z8 rfl T.range_ (zj (wg xb (pv 3) qj) qk)) (λ_ _ _ _ _=>(wg kj (wg xb (wg zb qj (pv 0)) qj) (wg xb (pv 1) qj)))))) xz)
   (qu (xc (PW.pt (k6 (wc zw (pv 4) qj (wm _)) (jk (wc zw (pv 4) qj (wm _))))) (qm (w8 (wCA zgg (wv (pv 0) (wv (pv 1) (wv (pv 3) qk)))))) xz)
   (qm (w8 (vm (M:=[0,1,3]) rfl rfl (by walk_at "cap") (by walk_at "has") (by walk_at "cix") rfl (by decide +kernel) rfl (show List.Nodup (["_law_k","_law_script","_law_at","_law_wide"]:List Str) by decide +kernel) (z8 rfl T.range_ (zj (wg xb (pv 3) qj) qk)) (λ_ _ _ _ _=>(wy zaa (hr.mono ⋯) rfl qk6 (wv (pv 1) (wv (pv 2) (zj (wg xb qj (pv 0)) (zj (wg xb (pv 3) qj) qk)))))))))))))))),?_⟩
 refine exI rfl (exI rfl (exI rfl ⟨a,O,_,_,_,rfl,Z,h0,⋯,⋯,⋯,λI _ l1 u1=>?_⟩));refine xx rfl rfl (exI rfl (exI rfl ⟨a,O,_,_,_,rfl,Z,h0,⋯,⋯,⋯,λkd _ l2 u2=>?_⟩));have hn:((1+I+1).toNat:Int)=1+I+1:=by lia
 have S:(1+I+1).toNat<=1000000:=by lia
 have U:∀(g:Nat->Int) (p:Aj),(∀j,j<(1+I+1).toNat->0<=g j/\g j<=1+I)->H p=none->Q (.ref p) (upd H p (.lst ((List.range (1+I+1).toNat).map λj=>V.int (g j)))):=λg p hg np=>by rw[qx8];exact k p _ (1+I) np ⋯ ⋯ (wxq g hn hg)
 refine exI rfl ⟨rfl,_,rfl,vh (λq1=>?_) (λq1=>?_)⟩
 .refine exI rfl (xx rfl rfl ⟨1+I+1,rfl,⋯,⋯,yx (λj=>V.int ((1+I)*(((0:Int)+j)%2))) S (λj H' R J hs L=>?_) λp np=>U _ p (λj J=>?_) np⟩)
  .exact exI rfl (exI rfl (xx rfl rfl ⟨(by walk_at "pos"),xx rfl rfl ⟨(by walk_at "mul"),L⟩⟩))
  .have a1:=br ((0:Int)+j) (show(2:Int)≠0 by decide);have a2:=bw ((0:Int)+j) (show(0:Int)<2 by decide);rcases(by lia:((0:Int)+j)%2=0\/((0:Int)+j)%2=1) with e|e <;> rw[e] <;> lia
 .refine exI rfl ⟨rfl,_,rfl,vh (λq2=>?_) (λq2=>?_)⟩
  .refine exI rfl (xx rfl rfl ⟨1+I+1,rfl,⋯,⋯,yx (λj=>V.int ((0:Int)+j)) S (λj H' R J hs L=>?_) λp np=>U _ p (λj J=>by lia) np⟩);exact exI rfl L
  .refine exI rfl ⟨rfl,_,rfl,vh (λq3=>?_) (λq3=>?_)⟩
   .refine exI rfl (xx rfl rfl ⟨1+I+1,rfl,⋯,⋯,yx (λj=>V.int (1+I-((0:Int)+j))) S (λj H' R J hs L=>?_) λp np=>U _ p (λj J=>by lia) np⟩);exact exI rfl (exI rfl (xx rfl rfl L))
   .refine exI rfl ⟨rfl,_,rfl,vh (λq4=>?_) (λq4=>?_)⟩
    .refine exI rfl (xx rfl rfl ⟨1+I+1,rfl,⋯,⋯,yx (λj=>V.int ((2*((0:Int)+j)+1)%(1+I+1))) S (λj H' R J hs L=>?_) λp np=>U _ p (λj J=>?_) np⟩)
     .exact exI rfl (xx rfl rfl ⟨(by walk_at "mul"),xx rfl rfl (exI rfl (xx rfl rfl (xx rfl rfl ⟨(by walk_at "pos"),L⟩)))⟩)
     .have a1:=br (2*((0:Int)+j)+1) (show 1+I+1≠0 by lia);have a2:=bw (2*((0:Int)+j)+1) (show 0<1+I+1 by lia);lia
    .have ad:tRet (tComp [0,1,3] (iRng1 (vc (tOp (rI0 λi j=>.int (i+j)) (Z6 3) (tC (.int 1))) Qu)) (qqm (yb K) (λ_=>E0) (vc (Z6 1) (vc (Z6 2) (vc (tOp (rI0 λi j=>.int (i+j)) (tC (.int 3)) (Z6 0)) (vc (tOp (rI0 λi j=>.int (i+j)) (Z6 3) (tC (.int 1))) Qu))))))
       { nx:=λ_ H'=>Q .non H',rt:=Q } [some (.ref a),some (.int i),some (.int m),some (.int (1+I)),some (.int kd)] H:=by
      refine exI rfl (xx rfl rfl ⟨1+I+1,rfl,⋯,⋯,yx (λj=>V.int (qy0 O i (3+((0:Int)+j)) (1+I+1))) S (λj H' R J hs L=>?_) λp np=>U _ p (λj J=>?_) np⟩)
      .refine exI rfl (exI rfl (exI rfl (xx rfl rfl (exI rfl (xx rfl rfl ⟨a,O,_,_,_,rfl,Same.sql hs Z,h0,⋯,⋯,⋯,λr e _ _=>?_⟩)))));rw[e];exact L
      .have a1:=wzd O i (3+((0:Int)+j)) (1+I+1) ⋯;have a2:=wkn O i (3+((0:Int)+j)) (1+I+1) ⋯;lia
     have aa:tRet (qqm (qqf K) (λ_=>E) (vc (Z6 0) (vc (Z6 1) (vc (Z6 3) Qu)))) { nx:=λ_ H'=>Q .non H',rt:=Q } [some (.ref a),some (.int i),some (.int m),some (.int (1+I)),some (.int kd)] H :=
      (exI rfl (exI rfl (exI rfl ⟨a,O,i,1+I,rfl,Z,h0,⋯,⋯,λp hs np hw=>k p hs (1+I) np ⋯ ⋯ hw⟩)))
     refine exI rfl ⟨rfl,_,rfl,vh (λq5=>vg aa) (λq5=>?_)⟩;exact exI rfl ⟨rfl,_,rfl,vh (λq6=>aa) (λq6=>ad)⟩
def qwv:Sp:=λvs H Q _=>∃x y:Int,vs=[.int x,.int y]/\0<=x/\0<=y/\Q (.int (yr x y)) H
theorem qyw {tb:TS}{c:TT}{D:Ends}{x y:Int}(hx:0<=x)(hy:0<=y)(hc:c=tTest (tOp (rI0 λi j=>.bl (decide (j<i))) (Z6 1) (tC (.int 0))))(hb:tb=tPar 0 1 (vc (Z6 1) (vc (tOp (rI (λ_ j=>0<j) λi j=>.int (i%j)) (Z6 0) (Z6 1)) Qu)))
  (hD:D.nx [some (.int (yr x y)),some (.int 0)] H):qu5 c tb D [some (.int x),some (.int y)] H:=by
 subst hc hb;refine wvn (λσ H1=>H1=H/\∃u v:Int,σ=[some (.int u),some (.int v)]/\0<=u/\0<=v/\yr u v=yr x y) (λσ _=>match σ with|[_,some (.int v)]=>v.toNat|_=>0) ⟨rfl,x,y,rfl,hx,hy,rfl⟩ ?_ λσ H Q Q' h ⟨v,e,i,j,e1,e2,k,e3,q⟩=>⟨v,e,i,j,e1,e2,k,e3,h _ _ q⟩;rintro σ H1 ⟨rfl,u,v,rfl,hu,hv,e⟩;refine exI rfl (xx rfl rfl (exI rfl ?_));refine zd (λq=>?_) (λq=>?_)
 .have h1:=br u (show v≠0 by lia);have h2:=bw u q;refine exI rfl (exI rfl (exI rfl (xx rfl rfl ⟨q,_,_,rfl,⟨rfl,v,u%v,rfl,hv,h1,?_⟩,?_⟩)))
  .rw[wxt hu q,e]
  .show(u%v).toNat<v.toNat;lia
 .have z:v=0:=by lia
  subst z;rw[ww8 hu]at e;subst e;exact hD
include T in
theorem zgh (F:Fun K "common_divisor" "common_divisor" zay f fd):FK P w K mg base 1 f fd ["one","other"] qwv:=by
 have I:=Yu;refine F.okX I (λJ H Q E h=>by obtain⟨_,_,rfl,_⟩:=h;rfl) λ_ _ _ _ H J Q E S h=>?_;obtain⟨x,y,rfl,O,L,k⟩:=h;refine⟨_,(qu (qyk bd (wc jh (pv 1) qj (wm _)) (qm (wv5 (i:=0) (j:=1) rfl I.nd rfl rfl ⋯ rfl rfl (wv (pv 1) (zj (wg kj (pv 0) (pv 1)) qk)) rfl)))
   (qm (w8 (pv 0)))),?_⟩
 exact qyw O L rfl rfl (exI rfl k)
include T in
theorem wx8 (F:Fun K "_law_common" "_law_common" zbt f fd):FK P w K mg base 1 f fd ["_law_one","_law_other"] qwv:=by
 have I:=qw6;refine F.okX I (λJ H Q E h=>by obtain⟨_,_,rfl,_⟩:=h;rfl) λ_ _ _ _ H J Q E S h=>?_;obtain⟨x,y,rfl,O,L,k⟩:=h;refine⟨_,(qu (qyk bd (wc jh (pv 1) qj (wm _)) (qm (wv5 (i:=0) (j:=1) rfl I.nd rfl rfl ⋯ rfl rfl (wv (pv 1) (zj (wg kj (pv 0) (pv 1)) qk)) rfl)))
   (qm (w8 (pv 0)))),?_⟩
 exact qyw O L rfl rfl (exI rfl k)
def ptV (p:Int×Int):List V:=[.int p.1,.int p.2]
def Yf (C:Aj):Sp:=λvs H Q E=>∃t b:Int,vs=[.int t,.int b]/\(1<=b->Sm 9000 b/\∀p,H p=none->Q (.ref p) (upd H p (.tup (ptV (xu t b)))))/\(b<1->E (.ref C) none H)
include T in
theorem wxh (F:Fun K "lowest" "lowest" zaz f fd)(zgi:Cal P w K mg base "check_bottom" 1 (qku qw))(zgj:Cal P w K mg base "common_divisor" 1 qwv) :
  FK P w K mg base 2 f fd ["top","bottom"] (Yf qw):=by
 have L:=wxj;refine F.okX L (λJ H Q E h=>by obtain⟨_,_,rfl,_⟩:=h;rfl) λ_ _ _ _ H J Q E S h=>?_;obtain⟨t,b,rfl,k,x⟩:=h;refine⟨_,(qu (zk (wCA zgi (wv (pv 1) qk)))
   (qu (w6 (i:=2) (wCA zgj (z9 (wn Zp rfl T.abs_ Z8 (wv (pv 0) qk)) (wv (pv 1) qk))))
   (qm (w8 (jz (zj (wg Q7 (pv 0) (pv 2)) (zj (wg Q7 (pv 1) (pv 2)) qk))))))),?_⟩
 refine⟨_,rfl,b,rfl,λI=>?_,λI=>x I⟩;obtain⟨O,k⟩:=k I;have U:=y7 (t:=t) I;have hs:Sm 9000 (gOf t b):=O.of_le (by have:=wkp (t:=t) I;lia);refine exI rfl (exI rfl (exI rfl ⟨yn t,b,rfl,wq7 t,⋯,?_⟩));refine exI rfl ⟨V.int (gOf t b),rfl,xx rfl rfl ⟨⟨⋯,hs⟩,exI rfl ⟨V.int (gOf t b),rfl,xx rfl rfl ⟨⟨⋯,hs⟩,sz2,λp n=>?_⟩⟩⟩⟩;exact k p n
def wvd:Sp:=λvs H Q _=>∃t b:Int,vs=[.int t,.int b]/\1<=b/\Sm 9000 b/\∀p,H p=none->Q (.ref p) (upd H p (.tup (ptV (xu t b))))
include T in
theorem zgk (F:Fun K "_law_low" "_law_low" zbu f fd)(zci:Cal P w K mg base "_law_common" 1 qwv):FK P w K mg base 2 f fd ["_law_top","_law_bottom"] wvd:=by
 have L:=qj7;refine F.okX L (λJ H Q E h=>by obtain⟨_,_,rfl,_⟩:=h;rfl) λ_ _ _ _ H J Q E S h=>?_;obtain⟨t,b,rfl,I,O,k⟩:=h;have U:=y7 (t:=t) I;have hs:Sm 9000 (gOf t b):=O.of_le (by have:=wkp (t:=t) I;lia);refine⟨_,(qu (w6 (i:=2) (wCA zci (z9 (wn Zp rfl T.abs_ Z8 (wv (pv 0) qk)) (wv (pv 1) qk))))
   (qm (w8 (jz (zj (wg Q7 (pv 0) (pv 2)) (zj (wg Q7 (pv 1) (pv 2)) qk)))))),?_⟩
 refine exI rfl (exI rfl (exI rfl ⟨yn t,b,rfl,wq7 t,⋯,?_⟩));refine exI rfl ⟨V.int (gOf t b),rfl,xx rfl rfl ⟨⟨⋯,hs⟩,exI rfl ⟨V.int (gOf t b),rfl,xx rfl rfl ⟨⟨⋯,hs⟩,sz2,λp n=>?_⟩⟩⟩⟩;exact k p n
def Qy (hs:List Int)(t b:Int):Prop:=0<=t/\t<=((hs.length:Int)-1)*b
def qws (K:Aa)(C CB CO:Aj):Sp:=λvs H Q E=>∃(r p:Aj) (hs:List Int) (t b:Int),vs=[.ref r,.ref p]/\RoadAt C H r hs/\xy hs/\SqT K H p [.int t,.int b] /\
 (1<=b->Sm 8000 b/\(Qy hs t b->∀q H',Same H H'->H' q=some (.tup (ptV (xu t b)))->Q (.ref q) H')/\(¬ Qy hs t b->∀H',Same H H'->E (.ref CO) none H'))/\(b<1->E (.ref CB) none H)
include T in
theorem qu4 (F:Fun K "on_road" "Road.on_road" za4 f fd)(zgl:MCal P w K mg base qp "width" 1 (qz8 qp))(zcj:Cal P w K mg base "lowest" 2 (Yf qw)) :
  FK P w K mg base 3 f fd ["self","point"] (qws K qp qw qd):=by
 have sc:=Jp;refine F.okX sc (λvs H Q E h=>by obtain⟨_,_,_,_,_,rfl,_⟩:=h;rfl) λ_ _ _ _ H vs Q E hr h=>?_;obtain⟨r,p,hs,t,b,rfl,hR,aa,hp,U,x⟩:=h;obtain⟨dx,q,h1,h2⟩:=id hR;refine⟨_,(qu (Wq (wCA zcj (vz (xn ix_tup (pv 1) qj (λ_ _=>rfl)) (vz (xn ix_tup (pv 1) qj (λ_ _=>rfl)) qk))) (Q1 rfl (zy (xf (i:=2)) (zy (xf (i:=3)) y8))))
   (qu (xc (PW.pt (k6 (wc jr (pv 2) qj (wm _)) (jk (wc jh (pv 2) (wg zb (uh (pv 0) T.cl zgl (hr.mono ⋯) q8) (pv 3)) (wm _))))) (qm (z0 rfl T.zar zq rfl T.zf6 (xq wt qk))) xz)
   (qm (w8 (jz (wv (pv 2) (wv (pv 3) qk))))))),?_⟩
 refine⟨_,rfl,_,_,_,_,rfl,rfl,hp,rfl,_,rfl,_,_,_,_,rfl,rfl,hp,rfl,t,b,rfl,λI=>⟨(U I).1.mono ⋯,λS n1=>?_⟩,λz=>x z⟩;obtain⟨sb,k1,Z⟩:=U I;have J:Same H (upd H S (.tup (ptV (xu t b)))):=Same.upd n1;have hl:=aa.2.1;refine⟨S,exI rfl ⟨SqT.new,rfl,_,_,rfl,_,_,rfl,rfl,?_⟩⟩;refine exI rfl (xx rfl rfl (exI rfl ?_));refine zd (λO=>?_) (λO=>?_)
 .refine vg ?_;exact⟨sz1,Z (λz=>by have:=(qky I).mp O;have:=z.1;lia) _ J⟩
 .refine exI rfl (exI rfl ⟨r,dx,exI rfl ⟨J _ _ h1,Zv (by decide +kernel),r,hs,rfl,hR.same J,exI rfl (xx rfl rfl ⟨IntMulOk.of_left (intBits_le_64 ⋯ ⋯),xx rfl rfl (exI rfl ?_)⟩)⟩⟩);refine zd (λL=>?_) (λL=>?_)
  .exact⟨sz1,Z (λz=>by have:=(qu0 I).mp L;have:=z.2;lia) _ J⟩
  .refine exI rfl (exI rfl ⟨sz2,λp2 n2=>?_⟩);refine k1 ⟨?_,?_⟩ p2 _ (J.trans (Same.upd n2)) qy
   .rcases di t 0 with z|z
    .exact absurd ((qky I).mpr z) O
    .exact z
   .rcases di (((hs.length:Int)-1)*b) t with z|z
    .exact absurd ((qu0 I).mpr z) L
    .exact z
variable {x dx:Aj}
theorem ww9 (nx:H x=none)(nd:H dx=none)(h:∀b o,upd (upd H dx (.own x)) x (.ins C dx []) b=some o->b≠x->H' b=some o):Same H H':=λb o e =>
 h b o (by rw[wj (wz e nx),wj (wz e nd)];exact e) (wz e nx)
variable {p:Aj}
theorem Same.upd2 {o:HO}(s:Same H H')(n:H p=none):Same H (L2.upd H' p o):=λb u e=>by rw[wj (wz e n)];exact s b u e
theorem wkk {x y b d:Int}(hb:1<=b)(hd:1<=d):x*d=y*b↔xu x b=xu y d:=by
 constructor
 .intro e;rw[<-qqc (t:=x) hb hd,e,Int.mul_comm b d,qqc hd hb]
 .intro e;have c1:=qzy (t:=x) hb;have F:=qzy (t:=y) hd;have L:=qvn (t:=x) hb;rw[<-e]at F;have h:x*d*(xu x b).2=y*b*(xu x b).2:=by
   have J:x*d*(xu x b).2=x*(xu x b).2*d:=by grind
   have I:y*b*(xu x b).2=y*(xu x b).2*b:=by grind
   rw[J,I,<-c1,<-F];grind
  exact Int.eq_of_mul_eq_mul_right ⋯ h
variable {hs:List Int}{E:XK}
theorem wyv {CB:Aj}{Pp:Hp->Prop}(f:H p=some (.lst (hs.map V.int)))(nx:H x=none)(nd:H dx=none)(k:xy hs->∀H',Same H H'->RoadAt C H' x hs->Pp H')(bad:¬ xy hs->∀H',Same H H'->E (.ref CB) none H') :
  qk5 K CB C [.ref x,.ref p] (upd (upd H dx (.own x)) x (.ins C dx [])) (λr H2=>r=.non/\Pp H2) E:=by
 refine⟨x,dx,p,hs,rfl,qy,SqL.of (by rw[wj (wz f nx),wj (wz f nd)];exact f),λF J q L I r l=>⟨rfl,k F J (ww9 nx nd I) ⟨dx,q,r,l⟩⟩,λz=>bad z _ ?_⟩;exactλb o e=>by rw[wj (wz e nx),wj (wz e nd)];exact e
theorem low_on {t b:Int}(hb:1<=b)(hon:Qy hs t b):Qy hs (xu t b).1 (xu t b).2:=by
 constructor
 .rcases di (xu t b).1 0 with z|z
  .have:=(qky hb).mp z;have:=hon.1;lia
  .exact z
 .rcases di (((hs.length:Int)-1)*(xu t b).2) (xu t b).1 with z|z
  .have:=(qu0 hb).mp z;have:=hon.2;lia
  .exact z
def Pt (hs:List Int)(c:Int)(p:Int×Int):Prop:=1<=p.2/\p.2<=c/\gOf p.1 p.2=1/\Qy hs p.1 p.2
theorem pt_low {t b:Int}(hb:1<=b)(hon:Qy hs t b):Pt hs b (xu t b):=⟨qvn hb,low_le hb,quf hb,low_on hb hon⟩
theorem wwd {t b:Int}(hb:1<=b)(g:gOf t b=1):xu t b=(t,b):=by unfold xu;rw[g,Int.ediv_one,Int.ediv_one]
def qkb (K:Aa):Sp:=λvs H Q _=>∃(a:Aj) (ns:List Int) (i wd mo:Int),vs=[.ref a,.int i,.int wd,.int mo]/\SqL K H a (ns.map V.int)/\0<=i/\1<=wd/\wd<=24/\6<=mo/\mo<=1000 /\
 ∀p t b c,H p=none->1<=b->b<=mo->1<=c->c<=3->0<=t->t<=wd*b->Q (.ref p) (upd H p (.tup [.int (t*c),.int (b*c)]))
include T in
theorem wzg (F:Fun K "_law_spot" "_law_spot" zbs f fd)(zaa:Cal P w K mg base "_law_pick" 2 (yb K)):FK P w K mg base 3 f fd ["_law_script","_law_at","_law_wide","_law_most"] (qkb K):=by
 have sc:=qkp;refine F.okX sc (λZ H Q E h=>by obtain⟨_,_,_,_,_,rfl,_⟩:=h;rfl) λ_ _ _ _ H Z Q E hr h=>?_;obtain⟨a,I,i,wd,U,rfl,L,J,w1,w2,o1,o2,k⟩:=h;refine⟨_,(qu (w6 (i:=4) (wg xb qj (wCA zaa (wv (pv 0) (wv (pv 1) (xq qj (wv (pv 3) qk)))))))
   (j0 (xc (wc zw (wCA zaa (wv (pv 0) (wv (pv 1) (xq qj (xq qj qk))))) qj (wm _)) (qm (w6 (i:=4) (wg xb qj (wg kj (pv 4) qj)))) xz)
   (qu (w6 (i:=5) (wg xb (wg zb (wCA zaa (wv (pv 0) (wv (pv 1) (xq qj (wv (pv 2) qk))))) (pv 4)) (wCA zaa (wv (pv 0) (wv (pv 1) (xq qj (zj (wg xb (pv 4) qj) qk)))))))
   (qu (w6 (i:=6) (wg xb qj (wCA zaa (wv (pv 0) (wv (pv 1) (xq qj (xq qj qk)))))))
   (qm (w8 (jz (zj (wg zb (pv 5) (pv 6)) (zj (wg zb (pv 4) (pv 6)) qk))))))))),?_⟩
 refine exI rfl (exI rfl (exI rfl ⟨a,I,_,_,_,rfl,L,J,⋯,⋯,⋯,λS _ l1 u1=>?_⟩));refine⟨_,_,rfl,rfl,λσ H'=>∃b,σ=[some (.ref a),some (.int i),some (.int wd),some (.int U),some (.int b),none,none]/\1<=b/\b<=U/\H'=H,?_,?_⟩
 .refine exI rfl (exI rfl ⟨a,I,_,_,_,rfl,L,J,⋯,⋯,⋯,λr2 _ l2 u2=>?_⟩);refine⟨rfl,_,rfl,vh (λq1=>?_) (λq1=>?_)⟩
  .have e1:=br (1+S) (show(6:Int)≠0 by decide);have e2:=bw (1+S) (show(0:Int)<6 by decide);exact⟨_,rfl,_,_,rfl,rfl,(by walk_at "pos"),_,_,rfl,rfl,_,rfl,⋯,⋯,rfl⟩
  .exact⟨_,rfl,⋯,⋯,rfl⟩
 .rintro σ Hx ⟨b,rfl,b1,b2,rfl⟩;refine exI rfl (exI rfl (exI rfl ⟨a,I,_,_,_,rfl,L,J,⋯,⋯,⋯,λr3 _ l3 u3=>?_⟩));refine exI rfl (xx rfl rfl ⟨(by walk_at "mul"),exI rfl (exI rfl (exI rfl (xx rfl rfl ⟨a,I,_,_,_,rfl,L,J,⋯,⋯,⋯,λr4 _ l4 u4=>?_⟩)))⟩);refine xx rfl rfl ?_;refine exI rfl (exI rfl ⟨a,I,_,_,_,rfl,L,J,⋯,⋯,⋯,λO _ l5 u5=>?_⟩);refine xx rfl rfl ?_;have h1:=dO (show r3<=wd-1 by lia) (show 0<=b by lia);have h2:(wd-1)*b=wd*b-b:=by rw[Int.sub_mul,Int.one_mul]
  have h3:=Int.mul_nonneg l3 (show 0<=b by lia);refine exI rfl ⟨V.int (1+O),rfl,xx rfl rfl ⟨(by walk_at "mul"),exI rfl ⟨V.int (1+O),rfl,xx rfl rfl ⟨(by walk_at "mul"),sz2,λp np=>?_⟩⟩⟩⟩;exact k p _ b (1+O) np b1 b2 ⋯ ⋯ ⋯ ⋯
def Yv (c:Nat):Bool:=!(Builtin.Str.occurrences (Str.ofString "abcdefghijklmnopqrstuvwxyz") ⟨#[c]⟩ 0 (Str.ofString "abcdefghijklmnopqrstuvwxyz").length 1).isEmpty
def xj (x:Str):Bool:=decide (1<=x.length/\x.length<=12)&&(List.range x.cps.size).all λi=>Yv (x.cps.getD i 0)
def qww:Sp:=λvs H Q _=>∃x:Str,vs=[.str x]/\x.length<=100000/\∀H',Same H H'->Q (.bl (xj x)) H'
include T in
theorem wqk (F:Fun K "is_name" "is_name" za7 f fd):FK P w K mg base 1 f fd ["name"] qww:=by
 have S:=quv;refine F.okX S (λO H Q E h=>by obtain⟨_,rfl,_⟩:=h;rfl) λ_ _ _ _ H O Q E hr h=>?_;obtain⟨x,rfl,hx,k⟩:=h;obtain⟨tn,L⟩:=T.zag;obtain⟨tl,J⟩:=T.zai;have aa:(1000000:Nat)<sizeLine:=by decide
 refine⟨_,(qu (xc (PW.pt (k6 (wc jr (wn x6 rfl T.len_ aB (wv (pv 0) qk)) qj (wm _)) (jk (wc jh (wn x6 rfl T.len_ aB (wv (pv 0) qk)) (y6 (v:=V.int 12) rfl L ⟨_,rfl⟩) (wm _))))) (qm (w8 W1)) xz)
   (qm (w8 (wn (ux rfl) rfl T.all_ qq5 (xh (vm (M:=[]) rfl rfl (by walk_at "cap") (by walk_at "has") (by walk_at "cix") rfl (by decide +kernel) rfl (show List.Nodup (["sign"]:List Str) by decide +kernel) (qw7 (pv 0)) (λ_ _ _ _ _=>(zp Y3 (pv 0) (y6 (v:=V.str "abcdefghijklmnopqrstuvwxyz") rfl J ⟨_,rfl⟩) rfl))) qk))))),?_⟩
 refine⟨_,rfl,x,rfl,⋯,_,_,rfl,rfl,_,rfl,?_⟩;have I:∀z:¬ (1<=x.length/\x.length<=12),xj x=false:=λz=>by unfold xj;rw[aN z];rfl
 refine zd (λZ=>?_) (λZ=>?_)
 .refine vg ?_;have:=k H (Same.refl _);rw[I ⋯]at this;exact this
 .refine⟨_,rfl,x,rfl,⋯,_,_,rfl,rfl,_,rfl,zd (λU=>?_) (λU=>?_)⟩
  .have:=k H (Same.refl _);rw[I ⋯]at this;exact this
  .refine exI rfl ⟨x,rfl,qq3 (λi=>.bl (Yv (x.cps.getD i 0))) (by show x.length<=1000000;lia) (λi H' R hi hs hR=>?_) λp np=>?_⟩
   .exact exI rfl (xx rfl rfl hR)
   .have e:xj x=((List.range x.cps.size).map λi=>Yv (x.cps.getD i 0)).all id:=by unfold xj;rw[aM (show 1<=x.length/\x.length<=12 by lia),List.all_map];rfl
    refine⟨p,(List.range x.cps.size).map λi=>Yv (x.cps.getD i 0),rfl,?_,?_⟩
    .rw[aW];exact SqL.new
    .rw[<-e];exact k _ (Same.upd np)
def Wv (CN CT:Aj):Sp:=λvs H Q E=>∃(x:Str) (d:Aj) (kvs:List (Key×V)),vs=[.str x,.ref d]/\x.length<=100000/\H d=some (.dK kvs) /\
 (xj x=true->wp kvs (.inr x)=none->∀H',Same H H'->Q .non H')/\(xj x=false->∀H',Same H H'->E (.ref CN) none H')/\(xj x=true->(wp kvs (.inr x)).isSome=true->∀H',Same H H'->E (.ref CT) none H')
include T in
theorem qjt (F:Fun K "check_new_name" "check_new_name" za8 f fd)(zgm:Cal P w K mg base "is_name" 1 qww):FK P w K mg base 2 f fd ["name","things"] (Wv qc q9):=by
 have L:=Z5;refine F.okX L (λJ H Q E h=>by obtain⟨_,_,_,rfl,_⟩:=h;rfl) λ_ _ _ _ H J Q E Z h=>?_;obtain⟨x,d,kvs,rfl,U,hd,k,S,O⟩:=h;refine⟨_,(qu (xc (Qw (Qq (wCA zgm (wv (pv 0) qk)))) (qm (z0 rfl T.zas zq rfl T.zf7 (xq wt qk))) xz)
   (qm (xc (qvy (pc_din (js Z) (pv 0) (pv 1))) (qm (z0 rfl T.zat zq rfl T.zf8 (xq wt qk))) xz))),?_⟩
 refine exI rfl ⟨x,rfl,U,λH1 I=>(exI rfl ?_)⟩;have dg:DGet H1 d (.str x) (wp kvs (.inr x)):=DGet.k (k:=.inr x) (I _ _ hd);cases hn:xj x with
 |false=>exact vg ⟨sz1,S hn H1 I⟩
 |true =>
  refine jq (exI rfl (exI rfl ⟨d,exI rfl ⟨dg,_,rfl,?_⟩⟩));cases hv:wp kvs (.inr x) with
  |none=>exact jq (k hn hv H1 I)
  |some v=>exact vg ⟨sz1,O hn (by rw[hv];rfl) H1 I⟩
def quw:Sp:=λvs H Q _=>∃(t c:Aj) (R cs:List (Key×V)),vs=[.ref t,.ref c]/\t≠c/\H t=some (.dK R)/\Rd H c (.dK cs)/\(cs.map (·.1)).Nodup/\R.length<=1000/\cs.length<=1000/\ExOk R cs /\
 ∀q H',H q=none->H' q=some (.dK (bfK R cs))->H' t=some (.dK (exK R cs))->Rd H' c (.dK cs)->Kb [t,c] H H'->Q (.ref q) H'
include T in
theorem wyp (F:Fun K "exchange" "exchange" za9 f fd):FK P w K mg base 1 f fd ["things","changes"] quw:=by
 have sc:=qjz;refine F.okX sc (λvs H Q E h=>by obtain⟨_,_,_,_,rfl,_⟩:=h;rfl) λ_ _ _ s H vs Q E hr h=>?_;obtain⟨t,c,R,I,rfl,tc,ht,hc,nd,lR,lc,ok,k⟩:=h;have a0:(1000000:Nat)<sizeLine:=by decide
 refine⟨_,(qu (qyq (i:=2) (M:=[0]) sc.nd rfl (by walk_at "loc") rfl rfl (by walk_at "cap") (by walk_at "has") (by walk_at "cix") rfl (by decide +kernel) rfl (show List.Nodup (["name","things"]:List Str) by decide +kernel) (pi_dk (pv 1)) (λ_ _ _ _ _=>(pv 0)) (λ_ _ _ _ _=>(wv0 (js hr) (pv 1) (pv 0) ⟨rfl,rfl,rfl,rfl⟩)))
   (qu (ju bd rfl (pi_di (pv 1)) (Q1 rfl (zy (xf (i:=3)) (zy (xf (i:=4)) y8))) (qm (xc (wc op_isN (pv 4) wkw (wm _)) (qm (wyx (pv 0) (pv 3))) (qm (qqy (js hr) (pv 0) (pv 3) (pv 4) rfl)))))
   (qm (w8 (pv 2))))),?_⟩
 refine exI rfl ⟨c,I,rfl,hc,λo H1 O=>?_⟩;have Z:H1 t=some (.dK R):=by rw[O.2 t tc];exact ht
 refine wkv (λk=>(wp R k).getD .non) ⋯ nd O.1 (λk H' RR s' hR=>(exI rfl (exI rfl ⟨t,rfl,.inl ⟨R,.inl (s' _ _ Z)⟩,exI rfl ⟨_,DGet.k (k:=k) (s' _ _ Z),hR⟩⟩))) λq L=>?_;have ak:H q=none:=by
  cases e:H q with
  |none=>rfl
  |some ob =>
   by_cases z:q=c
   .rw[z,O.1]at L;cases L
   .rw[O.2 q z,e]at L;cases L
 have s2:Same H1 (upd H1 q (.dK (bfK R I))):=Same.upd L;have fq:upd H1 q (.dK (bfK R I)) q=some (.dK (bfK R I)):=qy;have c2:upd H1 q (.dK (bfK R I)) c=some (.frz o (.dK I)):=s2 _ _ O.1;have t2:upd H1 q (.dK (bfK R I)) t=some (.dK R):=s2 _ _ Z;have tq:t≠q:=wz Z L;have kb:Kb [t,c] H (upd H1 q (.dK (bfK R I))):=λb ob J e=>s2 _ _ (by rw[O.2 b (λz=>J (by simp[z]))];exact e);have aj:(I.map λc=>(c.1,(wp R c.1).getD .non))=bfK R I:=rfl;rw[aj];generalize upd H1 q (.dK (bfK R I))=H2 at fq c2 t2 kb;refine exI rfl ⟨c,I,rfl,.inr ⟨o,c2⟩,λo' H3 aa=>?_⟩;have cq:q≠c:=λz=>by rw[z,c2]at fq;cases fq
 have t3:H3 t=some (.dK R):=by rw[aa.2 t tc];exact t2
 have q3:H3 q=some (.dK (bfK R I)):=by rw[aa.2 q cq];exact fq
 have an:Kb [t,c] H H3:=λb ob J e=>by rw[aa.2 b (λz=>J (by simp[z]))];exact kb b ob J e
 refine for_di (λi σ H'=>(∃z3 z4,σ=[some (.ref t),some (.ref c),some (.ref q),z3,z4])/\H' c=some (.frz o' (.dK I))/\H' q=some (.dK (bfK R I))/\H' t=some (.dK (exK R (I.take i)))/\Kb [t,c] H H') ⟨⟨_,_,rfl⟩,aa.1,q3,t3,an⟩ (λi σ H' hi h=>h.2.1) ?_ ?_
 .rintro i cc z σ H' ec nz ⟨⟨z3,z4,rfl⟩,a1,a2,a3,a4⟩;have U:Same H' (upd H' z (.tup [kV cc.1,cc.2])):=Same.upd nz;refine⟨z,exI rfl ⟨SqT.new,rfl,_,_,rfl,_,_,rfl,rfl,?_⟩⟩;have b1:=U _ _ a1;have b2:=U _ _ a2;have b3:=U _ _ a3;have b4:Kb [t,c] H (upd H' z (.tup [kV cc.1,cc.2])):=λb ob J e=>U _ _ (a4 b ob J e);generalize upd H' z (.tup [kV cc.1,cc.2])=H4 at b1 b2 b3 b4;have le:=wjb R (I.take i);have lt:(I.take i).length<=1000:=by rw[bA];lia
  have et:=wyh R ec;have ai:t≠q:=tq;have ad:∀S,ex1 (exK R (I.take i)) cc=S->(∃z3' z4',[some (V.ref t),some (V.ref c),some (V.ref q),some (kV cc.1),some cc.2]=[some (V.ref t),some (V.ref c),some (V.ref q),z3',z4'])/\upd H4 t (.dK S) c=some (.frz o' (.dK I))/\upd H4 t (.dK S) q=some (.dK (bfK R I))/\upd H4 t (.dK S) t=some (.dK (exK R (I.take (i+1))))/\Kb [t,c] H (upd H4 t (.dK S)):=λS e=>by
   refine⟨⟨_,_,rfl⟩,?_,?_,?_,λb ob J e'=>?_⟩
   .rw[wj (bE tc)];exact b1
   .rw[wj (bE ai)];exact b2
   .rw[qy,et,e]
   .rw[wj (λz=>J (by simp[z]))];exact b4 b ob J e'
  refine exI rfl ⟨rfl,_,rfl,zd (λhn=>?_) (λhn=>?_)⟩
  .exact exI rfl (exI rfl ⟨t,_,cc.1,rfl,b3,rfl,ok i cc ec hn,ad _ (by unfold ex1;rw[am hn])⟩)
  .exact exI rfl (exI rfl (exI rfl ⟨t,exI rfl ⟨DPut.k (k:=cc.1) b3 ⋯,ad _ (by unfold ex1;rw[al hn])⟩⟩))
 .rintro σ H' ⟨⟨z3,z4,rfl⟩,a1,a2,a3,a4⟩;rw[cE]at a3;exact exI rfl (k q H' ak a2 a3 (.inr ⟨o',a1⟩) a4)
def hF (dr dw dd:Aj):List (Str×V):=[("roads",.ref dr),("walkers",.ref dw),("done",.ref dd)]
variable {dr dw dd:Aj}
theorem yu:(hF dr dw dd).lookup ("roads" : Str)=some (.ref dr):=by unfold hF;rw[aZ];simp
theorem k8:(hF dr dw dd).lookup ("walkers" : Str)=some (.ref dw):=by unfold hF;rw[aZ,show(("walkers" : Str)==("roads" : Str))=false by decide +kernel];dsimp only;rw[aZ];simp
theorem wwg:(hF dr dw dd).lookup ("done" : Str)=some (.ref dd):=by unfold hF;rw[aZ,show(("done" : Str)==("roads" : Str))=false by decide +kernel];dsimp only;rw[aZ,show(("done" : Str)==("walkers" : Str))=false by decide +kernel];dsimp only;rw[aZ];simp
theorem zf {dr dw dd:Aj}(h1:autoParam (¬ m = "roads") aU7._auto_1)(h2:autoParam (¬ m = "walkers") aU7._auto_1)(h3:autoParam (¬ m = "done") aU7._auto_1):(hF dr dw dd).lookup m=none:=by unfold hF;rw[aZ,bq.mpr h1];dsimp only;rw[aZ,bq.mpr h2];dsimp only;rw[aZ,bq.mpr h3];rfl
structure Hse (C:Aj)(H:Hp)(x dr dw dd:Aj)(R W:List (Key×V))(D:List V):Prop where
 ob:∃dx,H x=some (.ins C dx (hF dr dw dd))
 r:H dr=some (.dK R)
 w:H dw=some (.dK W)
 d:H dd=some (.lst D)
 ne:dr≠dw
variable {R W:List (Key×V)}{D:List V}
theorem Hse.kb (h:Hse C H x dr dw dd R W D){ch:List Aj}(k:Kb ch H H')(n:x∉ch/\dr∉ch/\dw∉ch/\dd∉ch):Hse C H' x dr dw dd R W D:=by obtain⟨dx,e⟩:=h.ob;exact⟨⟨dx,k _ _ n.1 e⟩,k _ _ n.2.1 h.r,k _ _ n.2.2.1 h.w,k _ _ n.2.2.2 h.d,h.ne⟩
theorem Hse.same (h:Hse C H x dr dw dd R W D)(s:Same H H'):Hse C H' x dr dw dd R W D:=h.kb (ch:=[]) (Kb.of s) ⟨ao,ao,ao,ao⟩
def qqk (C:Aj):Sp:=λvs H Q _=>∃x dx,vs=[.ref x]/\H x=some (.ins C dx [])/\∀H' dr dw dd,H dr=none->H dw=none->H dd=none->Hse C H' x dr dw dd [] [] []->Kb [x] H H'->Q .non H'
include T in
theorem wzn (F:Fun K "__init__" "House.__init__" zba f fd):FK P w K mg base 1 f fd ["self"] (qqk qq):=by
 have sc:=Zn;refine F.okX sc (λvs H Q E h=>by obtain⟨_,_,rfl,_⟩:=h;rfl) λ_ _ _ _ H vs Q E hr h=>?_;obtain⟨x,dx,rfl,U,k⟩:=h;refine⟨_,(qu (Ww (pv 0) yc rfl)
   (qu (Ww (pv 0) yc rfl)
   (qm (Ww (pv 0) (vj qk) rfl)))),?_⟩
 refineλdr L=>exI rfl ⟨x,qq,dx,[],rfl,(by rw[wj (wz U L)];exact U),T.clH,T.naHr,(by show 0<1000;decide),?_⟩;have e1:∀b o,b≠x->H b=some o->upd (upd H dr (.dK [])) x (.ins qq dx (vw "roads" (.ref dr) [])) b=some o:=λb o I e=>by rw[wj I,wj (wz e L)];exact e
 have x1:upd (upd H dr (.dK [])) x (.ins qq dx (vw "roads" (.ref dr) [])) x=some (.ins qq dx (vw "roads" (.ref dr) [])):=qy;have Z:upd (upd H dr (.dK [])) x (.ins qq dx (vw "roads" (.ref dr) [])) dr=some (.dK []):=by rw[wj (wz U L).symm,qy]
 generalize upd (upd H dr (.dK [])) x (.ins qq dx (vw "roads" (.ref dr) []))=H1 at e1 x1 Z;refineλdw J=>exI rfl ⟨x,qq,dx,exI rfl ⟨(by rw[wj (wz x1 J)];exact x1),T.clH,T.naHw,(by show 1<1000;decide),?_⟩⟩;have xr:x≠dr:=wz U L;have e2:∀b o,b≠x->H1 b=some o->upd (upd H1 dw (.dK [])) x (.ins qq dx (vw "walkers" (.ref dw) (vw "roads" (.ref dr) []))) b=some o:=λb o I e=>by rw[wj I,wj (wz e J)];exact e
 have O:upd (upd H1 dw (.dK [])) x (.ins qq dx (vw "walkers" (.ref dw) (vw "roads" (.ref dr) []))) x=some (.ins qq dx (vw "walkers" (.ref dw) (vw "roads" (.ref dr) []))):=qy;have w2:upd (upd H1 dw (.dK [])) x (.ins qq dx (vw "walkers" (.ref dw) (vw "roads" (.ref dr) []))) dw=some (.dK []):=by rw[wj (wz x1 J).symm,qy]
 have r2:=e2 dr _ xr.symm Z;generalize upd (upd H1 dw (.dK [])) x (.ins qq dx (vw "walkers" (.ref dw) (vw "roads" (.ref dr) [])))=H2 at e2 O w2 r2;have xw:x≠dw:=wz x1 J;refine⟨sz0,λdd S=>(exI rfl ⟨x,qq,dx,exI rfl ⟨(by rw[wj (wz O S)];exact O),T.clH,T.naHd,(by show 2<1000;decide),?_⟩⟩)⟩;have xd:x≠dd:=wz O S;have e3:∀b o,b≠x->H2 b=some o->upd (upd H2 dd (.lst [])) x (.ins qq dx (vw "done" (.ref dd) (vw "walkers" (.ref dw) (vw "roads" (.ref dr) [])))) b=some o:=λb o I e=>by rw[wj I,wj (wz e S)];exact e
 have aa:∀b o,b≠x->H b=some o->H2 b=some o:=λb o I e=>e2 b o I (e1 b o I e);have ad:∀b,b≠x->H2 b=none->H b=none:=λb I e=>by
  cases q:H b with
  |none=>rfl
  |some o=>rw[aa b o I q]at e;cases e
 refine k _ dr dw dd L (by
  cases q:H dw with
  |none=>rfl
  |some o=>rw[e1 dw o xw.symm q]at J;cases J) (ad dd xd.symm S) ⟨⟨dx,qy⟩,e3 _ _ xr.symm r2,e3 _ _ xw.symm w2,?_,wz Z J⟩ λb o I e=>e3 b o (λz=>I (by simp[z])) (aa b o (λz=>I (by simp[z])) e)
 rw[wj xd.symm,qy]
def yg (C CN:Aj)(roads:Bool):Sp:=λvs H Q E=>∃(x dr dw dd:Aj) (R W:List (Key×V)) (D:List V) (n:Str),vs=[.ref x,.str n]/\Hse C H x dr dw dd R W D /\
 (∀v,wp (if roads then R else W) (.inr n)=some v->Q v H)/\(wp (if roads then R else W) (.inr n)=none->E (.ref CN) none H)
include T in
theorem qq1 (F:Fun K "road_called" "House.road_called" zbb f fd):FK P w K mg base 1 f fd ["self","name"] (yg qq qr true):=by
 have U:=Qm;refine F.okX U (λS H Q E h=>by obtain⟨_,_,_,_,_,_,_,_,rfl,_⟩:=h;rfl) λ_ _ _ _ H S Q E L h=>?_;obtain⟨x,dr,dw,dd,R,W,D,n,rfl,O,k,kx⟩:=h;obtain⟨dx,J⟩:=O.ob;have I:DGet H dr (.str n) (wp R (.inr n)):=DGet.k (k:=.inr n) O.r;refine⟨_,(qu (xc (qvy (Jw (js L) (pv 1) (v9 (pv 0) rfl))) (qm (z0 rfl T.zau zq rfl T.zf9 (xq wt qk))) xz)
   (qm (w8 (Wu (js L) (v9 (pv 0) rfl) (pv 1) (λ_ _=>rfl))))),?_⟩
 refine exI rfl (exI rfl ⟨x,qq,dx,_,_,rfl,J,T.clH,T.naHr,yu,dr,exI rfl ⟨I,_,rfl,?_⟩⟩);cases e:wp R (.inr n) with
 |none=>exact vg ⟨sz1,kx e⟩
 |some v =>
  rw[e]at I;exact jq (exI rfl ⟨x,qq,dx,_,_,rfl,J,T.clH,T.naHr,yu,exI rfl ⟨dr,v,rfl,I,k v e⟩⟩)
include T in
theorem Yr (F:Fun K "walker_called" "House.walker_called" zbc f fd):FK P w K mg base 1 f fd ["self","name"] (yg qq qb false):=by
 have U:=u8;refine F.okX U (λS H Q E h=>by obtain⟨_,_,_,_,_,_,_,_,rfl,_⟩:=h;rfl) λ_ _ _ _ H S Q E L h=>?_;obtain⟨x,dr,dw,dd,R,W,D,n,rfl,O,k,kx⟩:=h;obtain⟨dx,J⟩:=O.ob;have I:DGet H dw (.str n) (wp W (.inr n)):=DGet.k (k:=.inr n) O.w;refine⟨_,(qu (xc (qvy (Jw (js L) (pv 1) (v9 (pv 0) rfl))) (qm (z0 rfl T.zav zq rfl T.zga (xq wt qk))) xz)
   (qm (w8 (Wu (js L) (v9 (pv 0) rfl) (pv 1) (λ_ _=>rfl))))),?_⟩
 refine exI rfl (exI rfl ⟨x,qq,dx,_,_,rfl,J,T.clH,T.naHw,k8,dw,exI rfl ⟨I,_,rfl,?_⟩⟩);cases e:wp W (.inr n) with
 |none=>exact vg ⟨sz1,kx e⟩
 |some v =>
  rw[e]at I;exact jq (exI rfl ⟨x,qq,dx,_,_,rfl,J,T.clH,T.naHw,k8,exI rfl ⟨dw,v,rfl,I,k v e⟩⟩)
def spDo (C:Aj):Sp:=λvs H Q _=>∃(x dr dw dd c1 c2:Aj) (R W cs1 cs2:List (Key×V)) (D:List V),vs=[.ref x,.ref c1,.ref c2]/\Hse C H x dr dw dd R W D/\Rd H c1 (.dK cs1)/\Rd H c2 (.dK cs2)/\c1≠c2/\c1≠dr/\c1≠dw/\c2≠dr/\c2≠dw /\
 (cs1.map (·.1)).Nodup/\(cs2.map (·.1)).Nodup/\R.length<=1000/\W.length<=1000/\cs1.length<=1000/\cs2.length<=1000/\D.length<=1000000/\ExOk R cs1/\ExOk W cs2 /\
 ∀H' tp q1 q2,H tp=none->H q1=none->H q2=none->Hse C H' x dr dw dd (exK R cs1) (exK W cs2) (D++[.ref tp])->H' tp=some (.tup [.ref q1,.ref q2])->H' q1=some (.dK (bfK R cs1))->H' q2=some (.dK (bfK W cs2))->q1≠q2->Rd H' c2 (.dK cs2)->Kb [dr,dw,dd,c1,c2] H H'->Q .non H'
include T in
theorem zgn (F:Fun K "do" "House.do" zbd f fd)(zfs:Cal P w K mg base "exchange" 1 quw):FK P w K mg base 2 f fd ["self","roads","walkers"] (spDo qq):=by
 have sc:=qjb;refine F.okX sc (λvs H Q E h=>by obtain⟨_,_,_,_,_,_,_,_,_,_,_,rfl,_⟩:=h;rfl) λ_ _ _ _ H vs Q E hr h=>?_;obtain⟨x,dr,dw,dd,c1,c2,R,W,c8,b4,D,rfl,J,h1,h2,a7,ct,a3,a6,cs,cq,cp,lR,lW,l1,l2,lD,ci,cc,k⟩:=h;obtain⟨dx,hx⟩:=J.ob;have c9:(1000000:Nat)<sizeLine:=by decide
 have an:∀ {b o},Rd H b (.dK o)->x≠b:=λ{b o} hb z=>by rcases hb with hb|⟨u,hb⟩ <;> (rw[<-z,hx]at hb;cases hb)
 have a0:∀ {b o},Rd H b (.dK o)->dd≠b:=λ{b o} hb z=>by rcases hb with hb|⟨u,hb⟩ <;> (rw[<-z,J.d]at hb;cases hb)
 have xr:=an (.inl J.r);have xw:=an (.inl J.w);have x1:=an h1;have x2:=an h2;have b3:=a0 (.inl J.r);have b2:=a0 (.inl J.w);have d1:=a0 h1;have d2:=a0 h2;refine⟨_,(qm (zk (kh bD bV bW jy (v9 (pv 0) rfl) (wz5 (jz (z9 (wCA zfs (xh (v9 (pv 0) rfl) (wv (pv 1) qk))) (z9 (wCA zfs (xh (v9 (pv 0) rfl) (wv (pv 2) qk))) qk))) qk)))),?_⟩;refine exI rfl ⟨x,qq,dx,_,_,rfl,hx,T.clH,T.naHd,wwg,.inl ⟨rfl,_,SqL.of J.d⟩,?_⟩;refine exI rfl ⟨x,qq,dx,_,_,rfl,hx,T.clH,T.naHr,yu,exI rfl ⟨dr,c1,R,c8,rfl,bE ct,J.r,h1,cq,lR,l1,ci,λU H1 aj bp bk b1 ai=>?_⟩⟩;have m1:∀b,b≠dr->b≠c1->b∉[dr,c1]:=λb a1 a2 z=>by
  rcases ap.mp z with z|z
  .exact a1 z
  .exact a2 (ar.mp z)
 have a8:=ai _ _ (m1 x xr x1) hx;have c3:=ai _ _ (m1 dw (bE J.ne) (bE a3)) J.w;have c4:=ai _ _ (m1 dd b3 d1) J.d;have c6:=ai.rd (m1 c2 a6 (bE a7)) h2;refine exI rfl ⟨x,qq,dx,_,_,rfl,a8,T.clH,T.naHw,k8,exI rfl ⟨dw,c2,W,b4,rfl,bE cs,c3,c6,cp,lW,l2,cc,λO H2 aa bl bf b0 ad=>?_⟩⟩;have m2:∀b,b≠dw->b≠c2->b∉[dw,c2]:=λb a1 a2 z=>by
  rcases ap.mp z with z|z
  .exact a1 z
  .exact a2 (ar.mp z)
 have b7:U≠dw:=λz=>by rw[z,J.w]at aj;cases aj
 have b8:U≠c2:=λz=>by rcases h2 with h2|⟨u,h2⟩ <;> (rw[z,h2]at aj;cases aj)
 have bo:=ad _ _ (m2 U b7 b8) bp;have b9:U≠O:=wz bp aa;have co:H O=none:=by
  cases e:H O with
  |none=>rfl
  |some o =>
   by_cases z:O=dr\/O=c1
   .rcases z with z|z
    .rw[z,bk]at aa;cases aa
    .rcases b1 with g|⟨u,g⟩ <;> (rw[z,g]at aa;cases aa)
   .rw[ai _ _ (m1 O (λy=>z (.inl y)) (λy=>z (.inr y))) e]at aa;cases aa
 refine⟨sz2,λI ak=>?_⟩;have c0:=ad _ _ (m2 x xw x2) a8;have a9:=ad _ _ (m2 dr J.ne (bE a6)) bk;have bb:=ad _ _ (m2 dd b2 d2) c4;have a5:∀b o,b∉[dr,dw,dd,c1,c2]->H b=some o->H2 b=some o:=λb o S e=>by simp only[ap,ao,ck,not_or]at S;exact ad _ _ (m2 b S.2.1 S.2.2.2.2) (ai _ _ (m1 b S.1 S.2.2.2.1) e)
 have b6:∀b,b=dr\/b=dw\/b=dd\/b=c1\/b=c2->H2 b≠none:=λb h z=>by
  rcases h with h|h|h|h|h
  .rw[h,a9]at z;cases z
  .rw[h,bf]at z;cases z
  .rw[h,bb]at z;cases z
  .by_cases y:c1=dw
   .exact a3 y
   .rcases b1 with g|⟨u,g⟩ <;> (rw[h,ad _ _ (m2 c1 a3 a7) g]at z;cases z)
  .rcases b0 with g|⟨u,g⟩ <;> (rw[h,g]at z;cases z)
 have cj:H I=none:=by
  cases e:H I with
  |none=>rfl
  |some o =>
   by_cases z:I=dr\/I=dw\/I=dd\/I=c1\/I=c2
   .exact absurd ak (b6 I z)
   .rw[a5 I o (by simp only[ap,ao,ck];exact z) e]at ak;cases ak
 have L:Same H2 (upd H2 I (.tup [.ref U,.ref O])):=Same.upd ak;have ft:upd H2 I (.tup [.ref U,.ref O]) I=some (.tup [.ref U,.ref O]):=qy;generalize upd H2 I (.tup [.ref U,.ref O])=H3 at L ft;have a4:=L _ _ bb;refine⟨dd,D,_,rfl,rfl,a4,⋯,?_⟩;have Z:∀b o,b≠dd->H3 b=some o->upd H3 dd (.lst (D++[.ref I])) b=some o:=λb o S e=>by rw[wj S];exact e
 have kq:∀b kv,H3 b=some (.dK kv)->b≠dd:=λb kv e z=>by rw[z,a4]at e;cases e
 have b5:Rd (upd H3 dd (.lst (D++[.ref I]))) c2 (.dK b4):=by
  rcases b0 with e|⟨u,e⟩
  .exact .inl (Z _ _ (bE d2) (L _ _ e))
  .exact .inr ⟨u,Z _ _ (bE d2) (L _ _ e)⟩
 refine k _ I U O cj aj co ⟨⟨dx,Z _ _ (λz=>by rw[z]at hx;rw[J.d]at hx;cases hx) (L _ _ c0)⟩,Z _ _ (bE b3) (L _ _ a9),Z _ _ (bE b2) (L _ _ bf),qy,J.ne⟩ (Z _ _ (λz=>by rw[z,a4]at ft;cases ft) ft) (Z _ _ (kq _ _ (L _ _ bo)) (L _ _ bo)) (Z _ _ (kq _ _ (L _ _ bl)) (L _ _ bl)) b9 b5 λb o S e=>?_;exact Z _ _ (λz=>S (by simp[z])) (L _ _ (a5 b o S e))
def qz9 (D:List V):Prop:=∀v∈D,∃a,v=V.ref a
theorem RoadAt.kb {CH:Aj}{r:Aj}(h:RoadAt C H r hs)(ok:xy hs){ch:List Aj}{D:List V}(k:Kb ch H H')(rf:qz9 D)(hc:∀b∈ch,(∃kv,Rd H b (.dK kv))\/H b=some (.lst D)):RoadAt C H' r hs:=by
 obtain⟨dx,q,h1,h2⟩:=h;refine⟨dx,q,k _ _ (λz=>?_) h1,k _ _ (λz=>?_) h2⟩
 .rcases hc r z with⟨kv,e|⟨o,e⟩⟩|e <;> (rw[h1]at e;cases e)
 .rcases hc q z with⟨kv,e|⟨o,e⟩⟩|e
  .rw[h2]at e;cases e
  .rw[h2]at e;cases e
  .rw[h2]at e;have e:hs.map V.int=D:=by cases e;rfl
   have l:=ok.1;have m:V.int (hs[0]'⋯)∈hs.map V.int:=av.mpr ⟨_,bt _,rfl⟩;rw[e]at m;obtain⟨a,F⟩:=rf _ m;cases F
variable {H3:Hp}{c1:Aj}
theorem wkb {c2:Aj}{o1 o2 o3:HO}(n1:H c1=none)(s3:Same (upd H c1 o1) H3)(n2:upd H3 c1 o2 c2=none):Same H (upd (upd H3 c1 o2) c2 o3):=λb o e=>by
 have b1:b≠c1:=wz e n1;have e3:H3 b=some o:=s3 _ _ (by rw[wj b1];exact e);have e4:upd H3 c1 o2 b=some o:=by rw[wj b1];exact e3
 rw[wj (wz e4 n2)];exact e4
variable {n:Str}{Q:VK}
theorem wyg {CR:Aj}{r:Aj}(hh:Hse C H x dr dw dd R W D)(n1:H c1=none)(s3:Same (upd H c1 (.dK [])) H3)(R3:RoadAt CR H3 r hs)(okl:xy hs)(rf:qz9 D)(lR:R.length<=1000)(lW:W.length<=1000)(lD:D.length<=1000000)
  (k:∀H' tp q1 q2,H tp=none->H q1=none->H q2=none->Hse C H' x dr dw dd (vd R (.inr n) (.ref r)) W (D++[.ref tp])->H' tp=some (.tup [.ref q1,.ref q2])->H' q1=some (.dK [(.inr n,(wp R (.inr n)).getD .non)])->H' q2=some (.dK [])->q1≠q2->RoadAt CR H' r hs->Kb [dr,dw,dd] H H'->Q .non H') :
  ∀c2,upd H3 c1 (.dK [(.inr n,.ref r)]) c2=none->spDo C [.ref x,.ref c1,.ref c2] (upd (upd H3 c1 (.dK [(.inr n,.ref r)])) c2 (.dK [])) Q E:=by
 intro c2 F;have J:Same H (upd (upd H3 c1 (.dK [(.inr n,.ref r)])) c2 (.dK [])):=wkb n1 s3 F;have aa:c1≠c2:=λz=>by rw[<-z,qy]at F;cases F
 have e1:upd (upd H3 c1 (.dK [(.inr n,.ref r)])) c2 (.dK []) c1=some (.dK [(.inr n,.ref r)]):=by rw[wj aa,qy]
 have e2:upd (upd H3 c1 (.dK [(.inr n,.ref r)])) c2 (.dK []) c2=some (.dK []):=qy;have ai:H3 c1=some (.dK []):=s3 _ _ qy;have R4:RoadAt CR (upd (upd H3 c1 (.dK [(.inr n,.ref r)])) c2 (.dK [])) r hs:=by
  obtain⟨dx,q,a1,a2⟩:=R3;have ad:∀b o,(∀kv,o≠HO.dK kv)->H3 b=some o->upd (upd H3 c1 (.dK [(.inr n,.ref r)])) c2 (.dK []) b=some o:=λb o I e=>by
   have U:b≠c1:=λz=>by rw[z,ai]at e;cases e;exact I _ rfl
   have e4:upd H3 c1 (.dK [(.inr n,.ref r)]) b=some o:=by rw[wj U];exact e
   rw[wj (wz e4 F)];exact e4
  exact⟨dx,q,ad _ _ (λkv z=>by cases z) a1,ad _ _ (λkv z=>by cases z) a2⟩
 have Z:H c2=none:=by
  cases q:H c2 with
  |none=>rfl
  |some o =>
   have U:c2≠c1:=bE aa;rw[wj U,s3 _ _ (show upd H c1 (.dK []) c2=some o by rw[wj U];exact q)]at F;cases F
 generalize upd (upd H3 c1 (.dK [(.inr n,.ref r)])) c2 (.dK [])=H4 at J e1 e2 R4;have O:=hh.same J;refine⟨x,dr,dw,dd,c1,c2,R,W,[(.inr n,.ref r)],[],D,rfl,O,.inl e1,.inl e2,aa,(wz hh.r n1).symm,(wz hh.w n1).symm,(wz hh.r Z).symm,(wz hh.w Z).symm,be.mpr ⟨ao,bj⟩,bj,lR,lW,by show 1<=1000;decide,aR _,lD,λi c S hc=>?_,(λi c S hc=>nomatch S),λH' tp q1 q2 a1 a2 a3 a4 a5 a6 a7 a8 _ a9=>?_⟩
 .cases i with
  |zero=>cases S;cases hc
  |succ i=>cases S
 .have I:∀b,H4 b=none->H b=none:=λb e=>zg J e;have rd:RoadAt CR H' r hs:=R4.kb (CH:=C) okl a9 rf λb hb=>by
   simp only[ap,ao,ck]at hb;rcases hb with rfl|rfl|rfl|rfl|rfl
   .exact .inl ⟨_,.inl O.r⟩
   .exact .inl ⟨_,.inl O.w⟩
   .exact .inr O.d
   .exact .inl ⟨_,.inl e1⟩
   .exact .inl ⟨_,.inl e2⟩
  refine k H' tp q1 q2 (I _ a1) (I _ a2) (I _ a3) a4 a5 a6 a7 a8 rd λb o L e=>a9 b o (λz=>?_) (J _ _ e);simp only[ap,ao,ck]at z L;rcases z with z|z|z|z|z
  .exact L (.inl z)
  .exact L (.inr (.inl z))
  .exact L (.inr (.inr z))
  .rw[z,n1]at e;cases e
  .rw[z,Z]at e;cases e
def RDeed (C CR:Aj)(H H':Hp)(x dr dw dd:Aj)(R W:List (Key×V))(D:List V)(n:Str)(hs:List Int):Prop:=∃r tp q1 q2,H tp=none/\H q1=none/\H q2=none/\Hse C H' x dr dw dd (vd R (.inr n) (.ref r)) W (D++[.ref tp])/\H' tp=some (.tup [.ref q1,.ref q2])/\H' q1=some (.dK [(.inr n,(wp R (.inr n)).getD .non)])/\H' q2=some (.dK [])/\q1≠q2/\RoadAt CR H' r hs/\Kb [dr,dw,dd] H H'
theorem RDeed.pre {CR:Aj}{H0:Hp}(h:RDeed C CR H H' x dr dw dd R W D n hs)(s:Same H0 H):RDeed C CR H0 H' x dr dw dd R W D n hs:=by obtain⟨r,F,J,I,a1,a2,a3,a4,a5,a6,Z,U,S,O⟩:=h;exact⟨r,F,J,I,zg s a1,zg s a2,zg s a3,a4,a5,a6,Z,U,S,λb o L e=>O b o L (s _ _ e)⟩
def qzj (K:Aa)(C CR CN CT CL:Aj):Sp:=λvs H Q E=>∃(x dr dw dd p:Aj) (R W:List (Key×V)) (D:List V) (n:Str) (hs:List Int),vs=[.ref x,.str n,.ref p]/\Hse C H x dr dw dd R W D/\qz9 D/\R.length<=1000/\W.length<=1000/\D.length<=1000000/\n.length<=100000/\H p=some (.lst (hs.map V.int)) /\
 (xj n=true->wp R (.inr n)=none->xy hs->∀H',RDeed C CR H H' x dr dw dd R W D n hs->Q .non H')/\(xj n=false->∀H',Same H H'->E (.ref CN) none H')/\(xj n=true->(wp R (.inr n)).isSome=true->∀H',Same H H'->E (.ref CT) none H')/\(xj n=true->wp R (.inr n)=none->¬ xy hs->∀H',Same H H'->E (.ref CL) none H')
include T in
theorem zgo (F:Fun K "lay" "House.lay" zbe f fd)(zck:Cal P w K mg base "check_new_name" 2 (Wv qc q9))(zgp:CCal P w K mg base "Road" qp 2 (qk5 K qf qp))(zcl:MCal P w K mg base qq "do" 2 (spDo qq)) :
  FK P w K mg base 4 f fd ["self","name","heights"] (qzj K qq qp qc q9 qf):=by
 have sc:=qz7;refine F.okX sc (λvs H Q E h=>by obtain⟨_,_,_,_,_,_,_,_,_,_,rfl,_⟩:=h;rfl) λ_ _ _ _ H vs Q E Z h=>?_;obtain⟨x,dr,dw,dd,p,R,W,D,n,hs,rfl,O,rf,lR,lW,lD,ln,hp,k,kn,kt,kl⟩:=h;obtain⟨dx,U⟩:=O.ob;refine⟨_,(qu (zk (wCA zck (wv (pv 1) (xh (v9 (pv 0) rfl) qk))))
   (qm (zk (vk (pv 0) T.clH zcl (Z.mono ⋯) q8 (xh (wq2 (qyb (pv 1) (qyx zgp (Z.mono ⋯) rfl q8 (wv (pv 2) qk)) wq8) rfl rfl (λz=>nomatch z) ⋯) (xh yc qk)))))),?_⟩
 refine⟨_,rfl,_,rfl,x,qq,dx,_,_,rfl,U,T.clH,T.naHr,yu,n,dr,R,rfl,ln,O.r,λa1 a2 H1 I=>?_,kn,kt⟩;have ad:=O.same I;refine exI rfl ⟨x,dx,exI rfl ⟨I _ _ U,zf,λc1 L=>(exI rfl (exI rfl (λr d0 nr aa ai=>wyv (H:=upd H1 c1 (.dK [])) (hs:=hs) (by rw[wj (wz (I _ _ hp) L)];exact I _ _ hp) nr aa (λS H3 J R3=>?_) λz H3 J=>kl a1 a2 z H3 (I.trans (λb o e=>J _ _ (by rw[wj (wz e L)];exact e))))))⟩⟩;refine⟨J _ _ qy,[(.inr n,.ref r)],rfl,(show 1<=15 by decide),?_⟩;exact wyg (E:=E) ad L J R3 S rf lR lW lD λH' tp q1 q2 b1 b2 b3 b4 b5 b6 b7 b8 b9 kb=>k a1 a2 S H' (RDeed.pre ⟨r,tp,q1,q2,b1,b2,b3,b4,b5,b6,b7,b8,b9,kb⟩ I)
def Q9 (C CR CN:Aj):Sp:=λvs H Q E=>∃(x dr dw dd:Aj) (R W:List (Key×V)) (D:List V) (n:Str),vs=[.ref x,.str n]/\Hse C H x dr dw dd R W D /\
 (∀v,wp R (.inr n)=some v->∃r hs,v=.ref r/\RoadAt CR H r hs/\∀p,H p=none->Q (.ref p) (upd H p (.lst (hs.map V.int))))/\(wp R (.inr n)=none->E (.ref CN) none H)
include T in
theorem qxu (F:Fun K "corners_of" "House.corners_of" zbi f fd)(zcm:MCal P w K mg base qq "road_called" 1 (yg qq qr true))(zgq:MCal P w K mg base qp "corners" 1 (Jk qp)) :
  FK P w K mg base 2 f fd ["self","name"] (Q9 qq qp qr):=by
 have S:=Wn;refine F.okX S (λO H Q E h=>by obtain⟨_,_,_,_,_,_,_,_,rfl,_⟩:=h;rfl) λ_ _ _ _ H O Q E I h=>?_;obtain⟨x,dr,dw,dd,R,W,D,n,rfl,J,k,kx⟩:=h;obtain⟨dx,U⟩:=J.ob;refine⟨_,(qm (w8 (uh (vk (pv 0) T.clH zcm (I.mono ⋯) q8 (wv (pv 1) qk)) T.cl zgq (I.mono ⋯) q8))),?_⟩;refine⟨_,rfl,x,dx,_,rfl,U,zf,_,rfl,x,dr,dw,dd,R,W,D,n,rfl,J,λv e=>?_,kx⟩;obtain⟨r,hs,rfl,L,q⟩:=k v e;obtain⟨Z,l,h1,h2⟩:=id L;exact⟨r,Z,exI rfl ⟨h1,Zv (by decide +kernel),r,hs,rfl,L,q⟩⟩
def wF (n:Str)(p t:Aj):List (Str×V):=[("whose",.str n),("point",.ref p),("times",.ref t)]
variable {t:Aj}
theorem quk:(wF n p t).lookup ("whose" : Str)=some (.str n):=by unfold wF;rw[aZ];simp
theorem qux:(wF n p t).lookup ("point" : Str)=some (.ref p):=by unfold wF;rw[aZ,show(("point" : Str)==("whose" : Str))=false by decide +kernel];dsimp only;rw[aZ];simp
structure WkAt (C:Aj)(H:Hp)(y:Aj)(n:Str)(p:Aj)(pt:Int×Int)(t:Aj)(tv:List (List Key×V)):Prop where
 ob:∃dx,H y=some (.ins C dx (wF n p t))
 pt:H p=some (.tup [.int pt.1,.int pt.2])
 tm:H t=some (.dT tv)
variable {y:Aj}{tv:List (List Key×V)}
theorem WkAt.kb {pt:Int×Int}(h:WkAt C H y n p pt t tv){ch:List Aj}(k:Kb ch H H')(hc:∀b∈ch,(∃kv,Rd H b (.dK kv))\/∃D,H b=some (.lst D)):WkAt C H' y n p pt t tv:=by
 have F:∀b o,(∀kv,o≠HO.dK kv)->(∀u kv,o≠HO.frz u (.dK kv))->(∀D,o≠HO.lst D)->H b=some o->H' b=some o:=λb o L J I e=>k _ _ (λz=>by
  rcases hc b z with⟨kv,q|⟨u,q⟩⟩|⟨D,q⟩
  .rw[e]at q;cases q;exact L _ rfl
  .rw[e]at q;cases q;exact J _ _ rfl
  .rw[e]at q;cases q;exact I _ rfl) e
 obtain⟨dx,e⟩:=h.ob;exact⟨⟨dx,F _ _ (λ_ z=>by cases z) (λ_ _ z=>by cases z) (λ_ z=>by cases z) e⟩,F _ _ (λ_ z=>by cases z) (λ_ _ z=>by cases z) (λ_ z=>by cases z) h.pt,F _ _ (λ_ z=>by cases z) (λ_ _ z=>by cases z) (λ_ z=>by cases z) h.tm⟩
theorem WkAt.same {pt:Int×Int}(h:WkAt C H y n p pt t tv)(s:Same H H'):WkAt C H' y n p pt t tv:=h.kb (ch:=[]) (Kb.of s) λb z=>nomatch z
def TmOk (tv:List (List Key×V)):Prop:=tv≠[]/\(tv.map (·.1)).Nodup/\∀q∈tv,∃a b c:Int,q=([.inl a,.inl b],.int c)/\0<=a/\a<=960/\1<=b/\b<=40
theorem TmOk.one {a b:Int}(a0:0<=a)(a1:a<=960)(b0:1<=b)(b1:b<=40):TmOk [([.inl a,.inl b],.int 1)]:=⟨λz=>(nomatch z),be.mpr ⟨ao,bj⟩,λq hq=>⟨a,b,1,ar.mp hq,a0,a1,b0,b1⟩⟩
def qqd (C:Aj):Sp:=λvs H Q _=>∃(y dx p t:Aj) (n:Str),vs=[.ref y,.str n,.ref p,.ref t]/\H y=some (.ins C dx [])/\∀H',H' y=some (.ins C dx (wF n p t))->Kb [y] H H'->Q .non H'
include T in
theorem wkm (F:Fun K "__init__" "Walker.__init__" za5 f fd):FK P w K mg base 1 f fd ["self","whose","point","times"] (qqd qz):=by
 have L:=Zd;refine F.okX L (λJ H Q E h=>by obtain⟨_,_,_,_,_,rfl,_⟩:=h;rfl) λ_ _ _ _ H J Q E S h=>?_;obtain⟨y,dx,p,t,n,rfl,O,k⟩:=h;refine⟨_,(qu (Ww (pv 0) (pv 1) rfl)
   (qu (Ww (pv 0) (pv 2) rfl)
   (qm (Ww (pv 0) (pv 3) rfl)))),?_⟩
 refine exI rfl (exI rfl ⟨y,qz,dx,[],rfl,O,T.clW,T.naWw,(by show 0<1000;decide),?_⟩);refine exI rfl (exI rfl ⟨y,qz,dx,exI rfl ⟨qy,T.clW,T.naWp,(by show 1<1000;decide),?_⟩⟩);refine exI rfl (exI rfl ⟨y,qz,dx,exI rfl ⟨qy,T.clW,T.naWt,(by show 2<1000;decide),?_⟩⟩);refine k _ qy λb o I e=>?_;have I:b≠y:=λz=>I (by simp[z]);rw[wj I,wj I,wj I];exact e
theorem wzw {Pp:Hp->Prop}(ny:H y=none)(nd:H dx=none)(k:∀H',Same H H'->(∃dx,H' y=some (.ins C dx (wF n p t)))->Pp H') :
  qqd C [.ref y,.str n,.ref p,.ref t] (upd (upd H dx (.own y)) y (.ins C dx [])) (λr H2=>r=.non/\Pp H2) E:=by
 refine⟨y,dx,p,t,n,rfl,qy,λH' e I=>⟨rfl,k H' (λb o F=>I b o (λz=>?_) ?_) ⟨dx,e⟩⟩⟩
 .rw[ar.mp z,ny]at F;cases F
 .rw[wj (wz F ny),wj (wz F nd)];exact F
def Y5 (C:Aj):Sp:=λvs H Q _=>∃(n:Str) (p:Aj) (pt:Int×Int),vs=[.str n,.ref p]/\H p=some (.tup [.int pt.1,.int pt.2])/\∀H' y t,H y=none->Same H H'->WkAt C H' y n p pt t [([.inl pt.1,.inl pt.2],.int 1)]->Q (.ref y) H'
include T in
theorem qy7 (F:Fun K "set_down" "set_down" za6 f fd)(zgr:CCal P w K mg base "Walker" qz 1 (qqd qz)):FK P w K mg base 3 f fd ["whose","point"] (Y5 qz):=by
 have sc:=qjy;refine F.okX sc (λvs H Q E h=>by obtain⟨_,_,_,rfl,_⟩:=h;rfl) λ_ _ _ _ H vs Q E U h=>?_;obtain⟨n,p,I,rfl,L,k⟩:=h;refine⟨_,(qm (w8 (qyx zgr (U.mono ⋯) rfl q8 (wv (pv 0) (wv (pv 1) (xh (wvx U.units0 (pv 1) qj) qk)))))),?_⟩;refine exI rfl (exI rfl (λt S=>(exI rfl ⟨p,[.inl I.1,.inl I.2],rfl,(by rw[wj (wz L S)];exact L),qy,?_⟩)));have J:Same H (upd (upd H t (.dT [])) t (.dT [([.inl I.1,.inl I.2],.int 1)])):=by rw[Qv];exact Same.upd S
 have Z:upd (upd H t (.dT [])) t (.dT [([.inl I.1,.inl I.2],.int 1)]) t=some (.dT [([.inl I.1,.inl I.2],.int 1)]):=qy;generalize upd (upd H t (.dT [])) t (.dT [([.inl I.1,.inl I.2],.int 1)])=H1 at J Z;exactλy dx O nd ne=>wzw O nd λH' s2 e=>k H' y t (zg J O) (J.trans s2) ⟨e,s2 _ _ (J _ _ L),s2 _ _ Z⟩
def HPt (hs:List Int)(pt:Int×Int):Prop:=xy hs/\Pt hs pt.2 pt/\pt.2<=40
theorem HPt.rng {pt:Int×Int}(h:HPt hs pt):0<=pt.1/\pt.1<=960/\1<=pt.2/\pt.2<=40:=by obtain⟨ok,⟨h1,_,_,h0,h2⟩,h3⟩:=h;have ol:=ok.2.1;have o1:=ok.1;have:((hs.length:Int)-1)*pt.2<=24*pt.2:=dO ⋯ ⋯;lia
variable {CW:Aj}
theorem wx3 {c2:Aj}{whose:Str}{pt:Int×Int}(hh:Hse C H x dr dw dd R W D)(n1:H c1=none)(n2:upd H c1 (.dK []) c2=none)(s3:Same (upd (upd H c1 (.dK [])) c2 (.dK [])) H3)(W3:WkAt CW H3 y whose p pt t tv)(lR:R.length<=1000)(lW:W.length<=1000)(lD:D.length<=1000000)
  (k:∀H' tp q1 q2,H tp=none->H q1=none->H q2=none->Hse C H' x dr dw dd R (vd W (.inr n) (.ref y)) (D++[.ref tp])->H' tp=some (.tup [.ref q1,.ref q2])->H' q1=some (.dK [])->H' q2=some (.dK [(.inr n,(wp W (.inr n)).getD .non)])->q1≠q2->WkAt CW H' y whose p pt t tv->Kb [dr,dw,dd] H H'->Q .non H') :
  spDo C [.ref x,.ref c1,.ref c2] (upd H3 c2 (.dK [(.inr n,.ref y)])) Q E:=by
 have Z:c1≠c2:=λz=>by rw[<-z,qy]at n2;cases n2
 have I:H c2=none:=by rw[<-n2,wj (bE Z)]
 have ad:Same H H3:=λb o e=>s3 _ _ (by rw[wj (wz e I),wj (wz e n1)];exact e);have ai:H3 c2=some (.dK []):=s3 _ _ qy;have aj:H3 c1=some (.dK []):=s3 _ _ (by rw[wj Z,qy]);have aa:∀b o,(∀O,o≠HO.dK O)->H3 b=some o->upd H3 c2 (.dK [(.inr n,.ref y)]) b=some o:=λb o F e=>by rw[wj (λz=>by rw[z,ai]at e;cases e;exact F _ rfl)];exact e
 have W4:WkAt CW (upd H3 c2 (.dK [(.inr n,.ref y)])) y whose p pt t tv:=by obtain⟨dx,e⟩:=W3.ob;exact⟨⟨dx,aa _ _ (λO z=>by cases z) e⟩,aa _ _ (λO z=>by cases z) W3.pt,aa _ _ (λO z=>by cases z) W3.tm⟩
 have J:Same H (upd H3 c2 (.dK [(.inr n,.ref y)])):=λb o e=>by rw[wj (wz e I)];exact ad _ _ e
 have e1:upd H3 c2 (.dK [(.inr n,.ref y)]) c1=some (.dK []):=by rw[wj Z];exact aj
 have e2:upd H3 c2 (.dK [(.inr n,.ref y)]) c2=some (.dK [(.inr n,.ref y)]):=qy;generalize upd H3 c2 (.dK [(.inr n,.ref y)])=H4 at J e1 e2 W4;have S:=hh.same J;refine⟨x,dr,dw,dd,c1,c2,R,W,[],[(.inr n,.ref y)],D,rfl,S,.inl e1,.inl e2,Z,(wz hh.r n1).symm,(wz hh.w n1).symm,(wz hh.r I).symm,(wz hh.w I).symm,bj,be.mpr ⟨ao,bj⟩,lR,lW,aR _,by show 1<=1000;decide,lD,(λi c U hc=>nomatch U),λi c U hc=>?_,λH' tp q1 q2 a1 a2 a3 a4 a5 a6 a7 a8 _ a9=>?_⟩
 .cases i with
  |zero=>cases U;cases hc
  |succ i=>cases U
 .have F:∀b,H4 b=none->H b=none:=λb e=>zg J e;have wk:WkAt CW H' y whose p pt t tv:=W4.kb a9 λb hb=>by
   simp only[ap,ao,ck]at hb;rcases hb with rfl|rfl|rfl|rfl|rfl
   .exact .inl ⟨_,.inl S.r⟩
   .exact .inl ⟨_,.inl S.w⟩
   .exact .inr ⟨_,S.d⟩
   .exact .inl ⟨_,.inl e1⟩
   .exact .inl ⟨_,.inl e2⟩
  refine k H' tp q1 q2 (F _ a1) (F _ a2) (F _ a3) a4 a5 a6 a7 a8 wk λb o L e=>a9 b o (λz=>?_) (J _ _ e);simp only[ap,ao,ck]at z L;rcases z with z|z|z|z|z
  .exact L (.inl z)
  .exact L (.inr (.inl z))
  .exact L (.inr (.inr z))
  .rw[z,n1]at e;cases e
  .rw[z,I]at e;cases e
def WDeed (C CW:Aj)(H H':Hp)(x dr dw dd:Aj)(R W:List (Key×V))(D:List V)(n whose:Str)(p:Aj)(pt:Int×Int)(t:Aj)(tv:List (List Key×V)):Prop:=∃y tp q1 q2,H tp=none/\H q1=none/\H q2=none/\Hse C H' x dr dw dd R (vd W (.inr n) (.ref y)) (D++[.ref tp])/\H' tp=some (.tup [.ref q1,.ref q2])/\H' q1=some (.dK [])/\H' q2=some (.dK [(.inr n,(wp W (.inr n)).getD .non)])/\q1≠q2/\WkAt CW H' y whose p pt t tv/\Kb [dr,dw,dd] H H'
theorem WDeed.pre {H0:Hp}{whose:Str}{pt:Int×Int}(h:WDeed C CW H H' x dr dw dd R W D n whose p pt t tv)(s:Same H0 H):WDeed C CW H0 H' x dr dw dd R W D n whose p pt t tv:=by obtain⟨y,F,J,I,a1,a2,a3,a4,a5,a6,Z,U,S,O⟩:=h;exact⟨y,F,J,I,zg s a1,zg s a2,zg s a3,a4,a5,a6,Z,U,S,λb o L e=>O b o L (s _ _ e)⟩
def qk4 (C CW CN:Aj):Sp:=λvs H Q E=>∃(x dr dw dd:Aj) (R W:List (Key×V)) (D:List V) (n:Str),vs=[.ref x,.str n]/\Hse C H x dr dw dd R W D/\(wp W (.inr n)=none->E (.ref CN) none H) /\
 (∀v,wp W (.inr n)=some v->∃y whose p pt t tv,v=.ref y/\WkAt CW H y whose p pt t tv/\∀q,H q=none->Q (.ref q) (upd H q (.tup [.str whose,.ref p])))
include T in
theorem wjq (F:Fun K "where" "House.where" zbj f fd)(zgs:MCal P w K mg base qq "walker_called" 1 (yg qq qb false)) :
  FK P w K mg base 2 f fd ["self","name"] (qk4 qq qz qb):=by
 have S:=qwx;refine F.okX S (λO H Q E h=>by obtain⟨_,_,_,_,_,_,_,_,rfl,_⟩:=h;rfl) λ_ _ _ _ H O Q E Z h=>?_;obtain⟨x,dr,dw,dd,R,W,D,n,rfl,J,kx,k⟩:=h;obtain⟨dx,U⟩:=J.ob;refine⟨_,(qu (w6 (i:=2) (vk (pv 0) T.clH zgs (Z.mono ⋯) q8 (wv (pv 1) qk)))
   (qm (w8 (jz (xh (v9 (pv 2) rfl) (xh (v9 (pv 2) rfl) qk)))))),?_⟩
 refine⟨_,rfl,x,dx,_,rfl,U,zf,_,rfl,x,dr,dw,dd,R,W,D,n,rfl,J,λv e=>?_,kx⟩;obtain⟨y,aa,p,pt,t,tv,rfl,hW,q⟩:=k v e;obtain⟨L,I⟩:=hW.ob;exact exI rfl ⟨y,qz,L,_,_,rfl,I,T.clW,T.naWw,quk,exI rfl ⟨y,qz,L,_,_,rfl,I,T.clW,T.naWp,qux,sz2,q⟩⟩
def Wc (K:Aa)(C CR CW CN CT CNR CB CO:Aj):Sp:=λvs H Q E=>∃(x dr dw dd a:Aj) (R W:List (Key×V)) (D:List V) (n whose:Str) (t b:Int),vs=[.ref x,.str n,.str whose,.ref a]/\Hse C H x dr dw dd R W D/\R.length<=1000/\W.length<=1000/\D.length<=1000000/\n.length<=100000/\H a=some (.tup [.int t,.int b]) /\
 (xj n=false->∀H',Same H H'->E (.ref CN) none H')/\(xj n=true->(wp W (.inr n)).isSome=true->∀H',Same H H'->E (.ref CT) none H')/\(xj n=true->wp W (.inr n)=none->(wp R (.inr whose)=none->∀H',Same H H'->E (.ref CNR) none H') /\
  ∀v,wp R (.inr whose)=some v->∃r hs,v=.ref r/\RoadAt CR H r hs/\xy hs/\(b<1->∀H',Same H H'->E (.ref CB) none H')/\(1<=b->Sm 8000 b/\(40<(xu t b).2->∀H',Same H H'->E (.ref CB) none H')/\((xu t b).2<=40 ->
   (¬ Qy hs (xu t b).1 (xu t b).2->∀H',Same H H'->E (.ref CO) none H')/\(Qy hs (xu t b).1 (xu t b).2->∀H' p t',WDeed C CW H H' x dr dw dd R W D n whose p (xu t b) t' [([.inl (xu t b).1,.inl (xu t b).2],.int 1)]->Q .non H'))))
theorem low1 {t b:Int}(h:1<=b):1<=(xu t b).2:=by
 have e:=qjn (t:=t) h;have g:=y7 (t:=t) h;show 1<=b/gOf t b;by_cases z:1<=b/gOf t b
 .exact z
 .have:gOf t b*(b/gOf t b)<=0:=Int.mul_nonpos_of_nonneg_of_nonpos ⋯ ⋯;lia
include T in
theorem wzz (F:Fun K "place" "House.place" zbf f fd)(zck:Cal P w K mg base "check_new_name" 2 (Wv qc q9))(zcm:MCal P w K mg base qq "road_called" 1 (yg qq qr true))(zcj:Cal P w K mg base "lowest" 2 (Yf qw))(zgt:MCal P w K mg base qp "on_road" 3 (qws K qp qw qd))(zgu:Cal P w K mg base "set_down" 3 (Y5 qz))(zcl:MCal P w K mg base qq "do" 2 (spDo qq)) :
  FK P w K mg base 5 f fd ["self","name","whose","point"] (Wc K qq qp qz qc q9 qr qw qd):=by
 have sc:=qw8;refine F.okX sc (λvs H Q E h=>by obtain⟨_,_,_,_,_,_,_,_,_,_,_,_,rfl,_⟩:=h;rfl) λ_ _ _ _ H vs Q E hr h=>?_;obtain⟨x,dr,dw,dd,a,R,W,D,n,aa,t,b,rfl,O,lR,lW,lD,ln,ha,kn,kt,k⟩:=h;obtain⟨dx,hx⟩:=O.ob;obtain⟨tg,ai⟩:=T.zah;refine⟨_,(qu (zk (wCA zck (wv (pv 1) (xh (v9 (pv 0) rfl) qk))))
   (qu (w6 (i:=4) (vk (pv 0) T.clH zcm (hr.mono ⋯) q8 (wv (pv 2) qk)))
   (qu (w6 (i:=5) (wCA zcj (vz (xn ix_tup (pv 3) qj (λ_ _=>rfl)) (vz (xn ix_tup (pv 3) qj (λ_ _=>rfl)) qk))))
   (qu (xc (wc jh (xn ix_tup (pv 5) qj (λ_ _=>rfl)) (y6 (v:=V.int 40) rfl ai ⟨_,rfl⟩) (wm _)) (qm (z0 rfl T.zak zq rfl T.zfr (xq wt qk))) xz)
   (qm (zk (vk (pv 0) T.clH zcl (hr.mono ⋯) q8 (xh yc (xh (wq2 (qyb (pv 1) (wCA zgu (wv (pv 2) (z9 (vk (pv 4) T.cl zgt (hr.mono ⋯) q8 (wv (pv 5) qk)) qk))) wq8) rfl rfl (λz=>nomatch z) ⋯) qk))))))))),?_⟩
 dsimp only [W9];refine c5 λj1 j2 j3 j4 j5 a5 a4 a3 a0 an=>?_;subst a5;refine⟨_,rfl,_,rfl,x,qq,dx,_,_,rfl,hx,T.clH,T.naHw,k8,n,dw,W,rfl,ln,O.w,λa1 a2 H1 I=>?_,kn,kt⟩;obtain⟨kr,k⟩:=k a1 a2;have ak:=O.same I;subst a4;refine⟨_,rfl,x,dx,_,rfl,I _ _ hx,zf,_,rfl,x,dr,dw,dd,R,W,D,aa,rfl,ak,λv e=>?_,λe=>kr e H1 I⟩;obtain⟨r,hs,rfl,hR,aj,Z,k⟩:=k v e;subst a3;refine⟨_,rfl,_,_,_,_,rfl,rfl,SqT.of (I _ _ ha),rfl,_,rfl,_,_,_,_,rfl,rfl,SqT.of (I _ _ ha),rfl,t,b,rfl,λJ=>?_,λJ=>Z J H1 I⟩;obtain⟨sm,kg,k⟩:=k J;refine⟨sm.mono ⋯,λp np=>?_⟩;have s2:Same H (upd H1 p (.tup (ptV (xu t b)))):=I.trans (Same.upd np);have f2:upd H1 p (.tup (ptV (xu t b))) p=some (.tup [.int (xu t b).1,.int (xu t b).2]):=qy;generalize upd H1 p (.tup (ptV (xu t b)))=H2 at s2 f2;have l1:=low1 (t:=t) J;subst a0;refine exI rfl (exX rfl rfl (SqT.of f2) rfl (xx rfl rfl (exI rfl (zd (λz=>⟨sz1,kg ⋯ H2 s2⟩) (λz=>?_)))));obtain⟨ko,k⟩:=k ⋯;subst an;refine exI rfl ⟨x,dx,exI rfl ⟨s2 _ _ hx,zf,λc1 n1=>λc2 n2=>(exI rfl (exI rfl (exI rfl ?_)))⟩⟩;obtain⟨dy,l,h1,h2⟩:=id hR;have ad:Same H2 (upd (upd H2 c1 (.dK [])) c2 (.dK [])):=λb o e=>by
  have e4:upd H2 c1 (.dK []) b=some o:=by rw[wj (wz e n1)];exact e
  rw[wj (wz e4 n2)];exact e4
 have S:=s2.trans ad;refine⟨r,dy,_,rfl,S _ _ h1,Zv (by decide +kernel),_,rfl,r,p,hs,(xu t b).1,(xu t b).2,rfl,hR.same S,aj,SqT.of (ad _ _ f2),λ_=>⟨(Sm.small (n:=65) ⋯ ⋯ ⋯).mono ⋯,λU q H3 L fq=>?_,λU H3 L=>ko U H3 (S.trans L)⟩,λz=>absurd z ⋯⟩;have e3:xu (xu t b).1 (xu t b).2=xu t b:=wwd l1 (quf J);rw[e3]at fq;refine⟨aa,q,xu t b,rfl,fq,λH4 y t' ny s5 w5=>?_⟩;refine⟨s5 _ _ (L _ _ qy),[(.inr n,.ref y)],rfl,(show 1<=15 by decide),?_⟩;exact wx3 (E:=E) (O.same s2) n1 n2 (L.trans s5) w5 lR lW lD λH' tp q1 q2 J b2 b3 b4 b5 b6 b7 b8 b9 Z=>k U H' q t' (WDeed.pre ⟨y,tp,q1,q2,J,b2,b3,b4,b5,b6,b7,b8,b9,Z⟩ s2)
def qvg (C:Aj):Sp:=λvs H Q _=>∃(x dr dw dd:Aj) (R W:List (Key×V)) (D:List V) (rs ws:List Str),vs=[.ref x]/\Hse C H x dr dw dd R W D/\R.map (·.1)=rs.map Sum.inr/\R.length<64/\W.map (·.1)=ws.map Sum.inr/\W.length<64 /\
 ∀(q l1 l2:Aj) (ms1 ms2:List Str) (H':Hp),Same H H'->ms1.Perm rs->ms1.Pairwise (λx y=>¬ y.cps.toList<x.cps.toList)->ms2.Perm ws->ms2.Pairwise (λx y=>¬ y.cps.toList<x.cps.toList)->H' l1=some (.lst (ms1.map V.str))->H' l2=some (.lst (ms2.map V.str))->H' q=some (.tup [.ref l1,.ref l2])->Q (.ref q) H'
include T in
theorem wvf (F:Fun K "names" "House.names" zbh f fd):FK P w K mg base 1 f fd ["self"] (qvg qq):=by have sc:=qwj;refine F.okX sc (λvs H Q E h=>by obtain⟨_,_,_,_,_,_,_,_,_,rfl,_⟩:=h;rfl) λ_ _ _ _ H vs Q E hr h=>?_;obtain⟨x,dr,dw,dd,R,W,D,rs,ws,rfl,S,eR,lR,eW,lW,k⟩:=h;obtain⟨dx,U⟩:=S.ob;refine⟨_,(qm (w8 (jz (z9 (wn (W6 rfl) rfl T.sorted_ bX (xh (v9 (pv 0) rfl) qk)) (z9 (wn (W6 rfl) rfl T.sorted_ bX (xh (v9 (pv 0) rfl) qk)) qk))))),?_⟩;refine exI rfl ⟨x,qq,dx,_,_,rfl,U,T.clH,T.naHr,yu,dr,R,rs,rfl,.inl S.r,eR,lR,λJ ms1 n1 aj ad=>?_⟩;have L:Same H (upd H J (.lst (ms1.map V.str))):=Same.upd n1;have f1:upd H J (.lst (ms1.map V.str)) J=some (.lst (ms1.map V.str)):=qy;generalize upd H J (.lst (ms1.map V.str))=H1 at L f1;refine exI rfl ⟨x,qq,dx,_,_,rfl,L _ _ U,T.clH,T.naHw,k8,dw,W,ws,rfl,.inl (L _ _ S.w),eW,lW,λI ms2 n2 ai aa=>?_⟩;have s2:Same H1 (upd H1 I (.lst (ms2.map V.str))):=Same.upd n2;have Z:upd H1 I (.lst (ms2.map V.str)) I=some (.lst (ms2.map V.str)):=qy;generalize upd H1 I (.lst (ms2.map V.str))=H2 at s2 Z;refine⟨sz2,λq nq=>?_⟩;have O:Same H2 (upd H2 q (.tup [.ref J,.ref I])):=Same.upd nq;exact k q J I ms1 ms2 _ (L.trans (s2.trans O)) aj ad ai aa (O _ _ (s2 _ _ f1)) (O _ _ Z) qy
def wqs (C:Aj)(H H':Hp)(x dr dw dd:Aj)(R W:List (Key×V))(D:List V)(cs1 cs2:List (Key×V)):Prop:=∃tp q1 q2,H tp=none/\H q1=none/\H q2=none/\Hse C H' x dr dw dd (exK R cs1) (exK W cs2) (D++[.ref tp])/\H' tp=some (.tup [.ref q1,.ref q2])/\H' q1=some (.dK (bfK R cs1))/\H' q2=some (.dK (bfK W cs2))/\q1≠q2/\Kb [dr,dw,dd] H H'
variable {kvs:List (Key×V)}{v:V}
theorem wzb {k:Key}{u:V}(h:wp kvs k=some u):(vd kvs k v).map (·.1)=kvs.map (·.1):=by unfold vd;rw[am (by rw[uf,h];rfl),aW];refine bz λF _=>?_;show(if F.1=k then(F.1,v) else F).1=F.1;split <;> rfl
def Dl (H:Hp)(ch:List Aj):Prop:=∀b∈ch,(∃kv,Rd H b (.dK kv))\/∃D,qz9 D/\H b=some (.lst D)
theorem Dl.nil:Dl H []:=λb hb=>nomatch hb
variable {ch:List Aj}
theorem Dl.cons {a:Aj}(h:(∃kv,Rd H a (.dK kv))\/∃D,qz9 D/\H a=some (.lst D))(d:Dl H ch):Dl H (a::ch):=λb hb=>by
 rcases ap.mp hb with rfl|hb
 .exact h
 .exact d b hb
theorem Hse.dl (h:Hse C H x dr dw dd R W D)(rf:qz9 D){ch:List Aj}(d:Dl H ch):Dl H (dr::dw::dd::ch):=.cons (.inl ⟨_,.inl h.r⟩) (.cons (.inl ⟨_,.inl h.w⟩) (.cons (.inr ⟨_,rf,h.d⟩) d))
theorem Dl.other (d:Dl H ch){a:Aj}{o:HO}(e:H a=some o)(n1:∀kv,o≠.dK kv)(n2:∀u kv,o≠.frz u (.dK kv))(n3:∀D,qz9 D->o≠.lst D):a∉ch:=λz=>by
 rcases d a z with⟨kv,y|⟨u,y⟩⟩|⟨D,rf,y⟩ <;> (rw[e]at y;injection y with y)
 .exact n1 _ y
 .exact n2 _ _ y
 .exact n3 _ rf y
theorem Dl.tup (d:Dl H ch)(k:Kb ch H H'){a:Aj}{xs:List V}(e:H a=some (.tup xs)):H' a=some (.tup xs):=k _ _ (d.other e (λ_ z=>by cases z) (λ_ _ z=>by cases z) (λ_ _ z=>by cases z)) e
theorem wkg (ok:xy hs){D:List V}(rf:qz9 D)(e:HO.lst (hs.map V.int)=HO.lst D):False:=by
 have e:hs.map V.int=D:=by injection e
 have l:=ok.1;have m:V.int (hs[0]'⋯)∈hs.map V.int:=av.mpr ⟨_,bt _,rfl⟩;rw[e]at m;obtain⟨a,F⟩:=rf _ m;cases F
theorem Dl.row (d:Dl H ch)(k:Kb ch H H'){a:Aj}{hs:List Int}(ok:xy hs)(e:H a=some (.lst (hs.map V.int))):H' a=some (.lst (hs.map V.int)):=k _ _ (d.other e (λ_ z=>by cases z) (λ_ _ z=>by cases z) (λ_ rf z=>wkg ok rf z)) e
theorem Dl.road (d:Dl H ch)(k:Kb ch H H'){r:Aj}{hs:List Int}(ok:xy hs)(h:RoadAt C H r hs):RoadAt C H' r hs:=by obtain⟨dx,q,h1,h2⟩:=h;exact⟨dx,q,k _ _ (d.other h1 (λ_ z=>by cases z) (λ_ _ z=>by cases z) (λ_ _ z=>by cases z)) h1,d.row k ok h2⟩
theorem Dl.wk (d:Dl H ch)(k:Kb ch H H'){y:Aj}{n:Str}{p:Aj}{pt:Int×Int}{t:Aj}{tv:List (List Key×V)}(h:WkAt C H y n p pt t tv):WkAt C H' y n p pt t tv:=by obtain⟨dx,e⟩:=h.ob;have F:=h.tm;exact⟨⟨dx,k _ _ (d.other e (λ_ z=>by cases z) (λ_ _ z=>by cases z) (λ_ _ z=>by cases z)) e⟩,d.tup k h.pt,k _ _ (d.other F (λ_ z=>by cases z) (λ_ _ z=>by cases z) (λ_ _ z=>by cases z)) F⟩
theorem wwy {n:Key}:exK W [(n,.ref y)]=vd W n (.ref y):=by show ex1 W (n,.ref y)=_;unfold ex1;rw[al (λz=>by cases z)]
theorem wvj {k:Key}:([(k,v)].map (·.1)).Nodup:=be.mpr ⟨ao,bj⟩
def ovr (f:Key->Option V)(cs:List (Key×V)):Key->Option V:=λm=>match wp cs m with|none=>f m|some .non=>none|some v=>some v
theorem qw4 {k j:Key}(hj:j≠k):∀kvs:List (Key×V),wp (Wx kvs k) j=wp kvs j
 |[]=>rfl
 |p::r=>by
  have ih:=qw4 hj r;unfold Wx at ih ⊢;by_cases e:p.1=k
  .rw[bU,al (by simp[e]),ih,x9 (λz=>hj (z.symm.trans e))]
  .rw[bU,am (by simp[e])];by_cases z:p.1=j
   .rw[zx z,zx z]
   .rw[x9 z,x9 z,ih]
theorem qzt {k:Key}:∀kvs:List (Key×V),wp (Wx kvs k) k=none
 |[]=>rfl
 |p::r=>by
  have ih:=qzt (k:=k) r;unfold Wx at ih ⊢;by_cases e:p.1=k
  .rw[bU,al (by simp[e]),ih]
  .rw[bU,am (by simp[e]),x9 e,ih]
theorem wzy {k:Key}(h:k∉kvs.map (·.1)):wp kvs k=none:=by unfold wp;rw[List.find?_eq_none.mpr λkv hk=>by simp only[dH];exactλz=>h (av.mpr ⟨kv,hk,z⟩)];rfl
theorem wwq {k:Key}(h:wp kvs k=some v):(k,v)∈kvs:=by unfold wp at h;obtain⟨J,F,I⟩:=ce.mp h;have:=List.find?_some F;simp only[dH]at this;have m:=List.mem_of_find?_eq_some F;rw[<-this,<-I];exact m
theorem yj (nd:(kvs.map (·.1)).Nodup){c:Key×V}(h:c∈kvs):wp kvs c.1=some c.2:=by
 induction kvs with
 |nil=>cases h
 |cons p r ih =>
  rw[aV]at nd;obtain⟨a,b⟩:=be.mp nd;rcases ap.mp h with rfl|h
  .exact zx rfl
  .rw[x9 (λz=>a (by rw[z];exact av.mpr ⟨c,h,rfl⟩))];exact ih b h
theorem wqg (R:List (Key×V))(c:Key×V)(m:Key):wp (ex1 R c) m=if m=c.1 then(if c.2=.non then none else some c.2) else wp R m:=by
 unfold ex1;by_cases z:c.2=.non
 .rw[am z,am z];by_cases y:m=c.1
  .rw[am y,y,qzt]
  .rw[al y,qw4 y]
 .rw[al z,al z,Q5]
theorem Zb:∀(cs:List (Key×V)) (R:List (Key×V)),(cs.map (·.1)).Nodup->∀m,wp (exK R cs) m=ovr (wp R) cs m
 |[],R,_,m=>rfl
 |c::cs,R,nd,m=>by
  rw[aV]at nd;obtain⟨a,b⟩:=be.mp nd;show wp (exK (ex1 R c) cs) m=_;rw[Zb cs (ex1 R c) b m];unfold ovr;by_cases z:c.1=m
  .rw[zx z,wzy (kvs:=cs) (by rw[<-z];exact a)];show wp (ex1 R c) m=_;rw[wqg,am z.symm];cases c.2 <;> rfl
  .rw[x9 z];cases wp cs m with
   |none =>
    show wp (ex1 R c) m=_;rw[wqg,al (bE z)]
   |some v=>cases v <;> rfl
theorem wqm (R cs:List (Key×V)):(bfK R cs).map (·.1)=cs.map (·.1):=by unfold bfK;rw[aW];rfl
theorem val_bf (R cs:List (Key×V))(m:Key):wp (bfK R cs) m=(wp cs m).map λ_=>(wp R m).getD .non:=by
 induction cs with
 |nil=>rfl
 |cons c cs ih =>
  show wp ((c.1,(wp R c.1).getD .non)::bfK R cs) m=_;by_cases z:c.1=m
  .rw[zx (p:=(c.1,(wp R c.1).getD .non)) z,zx z,z];rfl
  .rw[x9 (p:=(c.1,(wp R c.1).getD .non)) z,x9 z,ih]
theorem qkf {cs:List (Key×V)}(nd:(cs.map (·.1)).Nodup)(hv:∀m,wp R m≠some .non)(m:Key):ovr (wp (exK R cs)) (bfK R cs) m=wp R m:=by
 unfold ovr;rw[val_bf];cases e:wp cs m with
 |none =>
  show wp (exK R cs) m=_;rw[Zb cs R nd,ovr,e]
 |some v =>
  show(match some ((wp R m).getD .non) with|none=>wp (exK R cs) m|some .non=>none|some v=>some v)=_;have:=hv m;cases e2:wp R m with
  |none=>rfl
  |some u =>
   rw[e2]at this;cases u <;> first | rfl | exact absurd rfl this
def qx5 (f:Key->Option V)(cs:List (Key×V)):Prop:=∀c∈cs,c.2=.non->(f c.1).isSome=true
theorem go_bf {cs:List (Key×V)}(nd:(cs.map (·.1)).Nodup)(hv:∀m,wp R m≠some .non)(h:qx5 (wp R) cs):qx5 (wp (exK R cs)) (bfK R cs):=λc hc hn=>by
 obtain⟨c0,h0,rfl⟩:=av.mp hc;have hn:(wp R c0.1).getD .non=.non:=hn;show(wp (exK R cs) c0.1).isSome=true;rw[Zb cs R nd,ovr,yj nd h0];by_cases z:c0.2=.non
 .have:=h c0 h0 z;obtain⟨v,ev⟩:=aH.mp this;rw[ev]at hn;have hn:v=.non:=hn;rw[hn]at ev;exact absurd ev (hv _)
 .cases e:c0.2 <;> first | rfl | exact absurd e z
theorem wk8 (nd:(R.map (·.1)).Nodup)(c:Key×V):((ex1 R c).map (·.1)).Nodup:=by
 unfold ex1;split
 .unfold Wx;exact nd.sublist (List.Sublist.map _ List.filter_sublist)
 .cases e:wp R c.1 with
  |none =>
   rw[qyn _ e,aQ,fe];refine⟨nd,be.mpr ⟨ao,bj⟩,λx I y F z=>?_⟩;have F:y=c.1:=ar.mp F;obtain⟨p,J,rfl⟩:=av.mp I;have:=yj nd J;rw[z,F,e]at this;cases this
  |some v=>rw[wzb e];exact nd
theorem nd_ex (nd:(R.map (·.1)).Nodup):∀cs:List (Key×V),((exK R cs).map (·.1)).Nodup:=λcs=>by
 induction cs generalizing R with
 |nil=>exact nd
 |cons c cs ih=>exact ih (wk8 nd c)
def RefsF (f:Key->Option V):Prop:=∀m v,f m=some v->∃n a,m=.inr n/\v=.ref a
def Wz (cs:List (Key×V)):Prop:=∀c∈cs,∃n,c.1=.inr n/\(c.2=.non\/∃a,c.2=.ref a)
theorem RefsF.ovr {f:Key->Option V}(h:RefsF f){cs:List (Key×V)}(hc:Wz cs):RefsF (ovr f cs):=λm v e=>by
 unfold My.ovr at e;cases e2:wp cs m with
 |none=>rw[e2]at e;exact h m v e
 |some u =>
  obtain⟨n,e3,e4⟩:=hc _ (wwq e2);have e3:m=.inr n:=e3;rcases e4 with e4|⟨a,e4⟩
  .have e4:u=.non:=e4;rw[e2,e4]at e;cases e
  .have e4:u=.ref a:=e4;rw[e2,e4]at e;cases e;exact⟨n,a,e3,rfl⟩
theorem RefsF.non {f:Key->Option V}(h:RefsF f)(m:Key):f m≠some .non:=λz=>by obtain⟨_,_,_,e⟩:=h m _ z;cases e
theorem RefsF.bf (h:RefsF (wp R)){cs:List (Key×V)}(hc:Wz cs):Wz (bfK R cs):=λc hc'=>by
 obtain⟨c0,h0,rfl⟩:=av.mp hc';obtain⟨n,e,_⟩:=hc c0 h0;refine⟨n,e,?_⟩;show(wp R c0.1).getD .non=.non\/_;cases e2:wp R c0.1 with
 |none=>exact .inl rfl
 |some v =>
  obtain⟨_,a,_,e3⟩:=h _ _ e2;exact .inr ⟨a,e3⟩
structure Deed where
 tp:Aj
 q1:Aj
 q2:Aj
 cs1:List (Key×V)
 cs2:List (Key×V)
def DeedAt (H:Hp)(d:Deed):Prop:=H d.tp=some (.tup [.ref d.q1,.ref d.q2])/\Rd H d.q1 (.dK d.cs1)/\Rd H d.q2 (.dK d.cs2)
structure DeedOk (d:Deed):Prop where
 nd1:(d.cs1.map (·.1)).Nodup
 nd2:(d.cs2.map (·.1)).Nodup
 l1:d.cs1.length<=1000
 l2:d.cs2.length<=1000
 r1:Wz d.cs1
 r2:Wz d.cs2
 ne:d.q1≠d.q2
def qvs (ds:List Deed):List Aj:=ds.flatMap λd=>[d.q1,d.q2]
def Qb (ds:List Deed):List V:=ds.reverse.map λd=>V.ref d.tp
theorem wkd (d:Deed)(ds:List Deed):Qb (d::ds)=Qb ds++[.ref d.tp]:=by unfold Qb;rw[List.reverse_cons,aQ];rfl
theorem qqz (ds:List Deed):(Qb ds).length=ds.length:=by unfold Qb;rw[ac,List.length_reverse]
theorem qwq (ds:List Deed):qz9 (Qb ds):=λv hv=>by obtain⟨d,_,rfl⟩:=av.mp hv;exact⟨_,rfl⟩
theorem wvu {d:Deed}{ds:List Deed}(h:d∈ds):d.q1∈qvs ds/\d.q2∈qvs ds:=⟨fE.mpr ⟨d,h,by simp⟩,fE.mpr ⟨d,h,by simp⟩⟩
def Und:(Key->Option V)->(Key->Option V)->List Deed->Prop
 |_,_,[]=>True
 |f,g,d::ds=>qx5 f d.cs1/\qx5 g d.cs2/\Und (ovr f d.cs1) (ovr g d.cs2) ds
structure Ho where
 x:Aj
 dr:Aj
 dw:Aj
 dd:Aj
 R:List (Key×V)
 W:List (Key×V)
 ds:List Deed
structure HoAt (C:Aj)(H:Hp)(o:Ho):Prop where
 hs:Hse C H o.x o.dr o.dw o.dd o.R o.W (Qb o.ds)
 da:∀d∈o.ds,DeedAt H d/\DeedOk d
 nq:∀q∈qvs o.ds,q≠o.dr/\q≠o.dw
 un:Und (wp o.R) (wp o.W) o.ds
 nR:(o.R.map (·.1)).Nodup
 nW:(o.W.map (·.1)).Nodup
 fR:RefsF (wp o.R)
 fW:RefsF (wp o.W)
variable {o:Ho}
theorem HoAt.dl (h:HoAt C H o):Dl H [o.dr,o.dw,o.dd]:=h.hs.dl (qwq _) .nil
theorem HoAt.frame (h:HoAt C H o){ch:List Aj}(k:Kb ch H H')(dl:Dl H ch)(n:o.x∉ch/\o.dr∉ch/\o.dw∉ch/\o.dd∉ch)(rd:∀q∈ch,q∈qvs o.ds->∀kv,Rd H q (.dK kv)->Rd H' q (.dK kv)):HoAt C H' o:=by
 refine⟨h.hs.kb k n,λd F=>?_,h.nq,h.un,h.nR,h.nW,h.fR,h.fW⟩;obtain⟨⟨a,b,c⟩,e⟩:=h.da d F;obtain⟨J,I⟩:=wvu F;refine⟨⟨dl.tup k a,?_,?_⟩,e⟩
 .by_cases z:d.q1∈ch
  .exact rd _ z J _ b
  .exact k.rd z b
 .by_cases z:d.q2∈ch
  .exact rd _ z I _ c
  .exact k.rd z c
theorem HoAt.same (h:HoAt C H o)(s:Same H H'):HoAt C H' o:=h.frame (ch:=[]) (Kb.of s) Dl.nil ⟨ao,ao,ao,ao⟩ λq z=>nomatch z
def Ho.did (o:Ho)(tp q1 q2:Aj)(cs1 cs2:List (Key×V)):Ho:={ o with R:=exK o.R cs1,W:=exK o.W cs2,ds:=⟨tp,q1,q2,bfK o.R cs1,bfK o.W cs2⟩::o.ds }
theorem wxd {f f' g g':Key->Option V}(ef:∀m,f m=f' m)(eg:∀m,g m=g' m){ds:List Deed}(h:Und f g ds):Und f' g' ds:=by have a:f=f':=funext ef;have b:g=g':=funext eg;subst a b;exact h
theorem HoAt.did (h:HoAt C H o){cs1 cs2:List (Key×V)}(g:wqs C H H' o.x o.dr o.dw o.dd o.R o.W (Qb o.ds) cs1 cs2)(nd1:(cs1.map (·.1)).Nodup)(nd2:(cs2.map (·.1)).Nodup)(l1:cs1.length<=1000)(l2:cs2.length<=1000)(r1:Wz cs1)(r2:Wz cs2)(g1:qx5 (wp o.R) cs1)(g2:qx5 (wp o.W) cs2):∃tp q1 q2,H tp=none/\H q1=none/\H q2=none/\HoAt C H' (o.did tp q1 q2 cs1 cs2)/\Kb [o.dr,o.dw,o.dd] H H':=by
 obtain⟨tp,q1,q2,n0,S,O,h1,ft,f1,f2,ne,L⟩:=g;have I:∀q∈qvs o.ds,∃Z,Rd H q (.dK Z):=λq I=>by
  obtain⟨d,J,I⟩:=fE.mp I;obtain⟨⟨_,a,b⟩,_⟩:=h.da d J;simp only[ap,ao,ck]at I;rcases I with rfl|rfl
  .exact⟨_,a⟩
  .exact⟨_,b⟩
 have nin:∀q∈qvs o.ds,q∉[o.dr,o.dw,o.dd]:=λq F z=>by
  obtain⟨Z,e⟩:=I q F;have U:=h.nq q F;simp only[ap,ao,ck]at z;rcases z with z|z|z
  .exact U.1 z
  .exact U.2 z
  .rcases e with e|⟨u,e⟩ <;> (rw[z,h.hs.d]at e;cases e)
 refine⟨tp,q1,q2,n0,S,O,⟨by show Hse C H' o.x o.dr o.dw o.dd _ _ (Qb (_::o.ds));rw[wkd];exact h1,λd J=>?_,λq F=>?_,?_,nd_ex h.nR _,nd_ex h.nW _,?_,?_⟩,L⟩
 .rcases ap.mp J with rfl|J
  .exact⟨⟨ft,.inl f1,.inl f2⟩,⟨by show((bfK o.R cs1).map (·.1)).Nodup;rw[wqm];exact nd1,by show((bfK o.W cs2).map (·.1)).Nodup;rw[wqm];exact nd2,by show(bfK o.R cs1).length<=_;unfold bfK;rw[ac];exact l1,by show(bfK o.W cs2).length<=_;unfold bfK;rw[ac];exact l2,h.fR.bf r1,h.fW.bf r2,ne⟩⟩
  .obtain⟨⟨a,b,c⟩,e⟩:=h.da d J;obtain⟨m1,m2⟩:=wvu J;exact⟨⟨h.dl.tup L a,L.rd (nin _ m1) b,L.rd (nin _ m2) c⟩,e⟩
 .have F:q∈q1::q2::qvs o.ds:=F;rcases ap.mp F with rfl|F
  .exact⟨(wz h.hs.r S).symm,(wz h.hs.w S).symm⟩
  .rcases ap.mp F with rfl|F
   .exact⟨(wz h.hs.r O).symm,(wz h.hs.w O).symm⟩
   .exact h.nq q F
 .exact⟨go_bf nd1 h.fR.non g1,go_bf nd2 h.fW.non g2,wxd (λm=>(qkf nd1 h.fR.non m).symm) (λm=>(qkf nd2 h.fW.non m).symm) h.un⟩
 .show RefsF (wp (exK o.R cs1));rw[show wp (exK o.R cs1)=ovr (wp o.R) cs1 from funext (Zb cs1 o.R nd1)];exact h.fR.ovr r1
 .show RefsF (wp (exK o.W cs2));rw[show wp (exK o.W cs2)=ovr (wp o.W) cs2 from funext (Zb cs2 o.W nd2)];exact h.fW.ovr r2
structure Wk where
 wh:Str
 pt:Int×Int
 tv:List (List Key×V)
structure AH where
 rs:Str->Option (List Int)
 ws:Str->Option Wk
def AH.putW (a:AH)(n:Str)(w:Wk):AH:={ a with ws:=λm=>if m=n then some w else a.ws m }
def AH.putR (a:AH)(n:Str)(hs:List Int):AH:={ a with rs:=λm=>if m=n then some hs else a.rs m }
def RRep (CR:Aj)(H:Hp)(o:Option V):Option (List Int)->Prop
 |none=>o=none
 |some hs=>∃r,o=some (.ref r)/\RoadAt CR H r hs
def WRep (CW:Aj)(H:Hp)(o:Option V):Option Wk->Prop
 |none=>o=none
 |some w=>∃y p t,o=some (.ref y)/\WkAt CW H y w.wh p w.pt t w.tv
structure AOk (a:AH):Prop where
 lo:∀n hs,a.rs n=some hs->xy hs
 wo:∀n w,a.ws n=some w->TmOk w.tv/\∃hs,a.rs w.wh=some hs/\HPt hs w.pt
structure Rep (CR CW:Aj)(H:Hp)(f g:Key->Option V)(a:AH):Prop where
 r:∀n,RRep CR H (f (.inr n)) (a.rs n)
 w:∀n,WRep CW H (g (.inr n)) (a.ws n)
 ok:AOk a
variable {a:AH}
theorem Rep.dl {CR:Aj}{f g:Key->Option V}(h:Rep CR CW H f g a){ch:List Aj}(d:Dl H ch)(k:Kb ch H H'):Rep CR CW H' f g a:=by
 refine⟨λn=>?_,λn=>?_,h.ok⟩
 .have:=h.r n;have lo:=h.ok.lo n;cases e:a.rs n with
  |none=>rw[e]at this;exact this
  |some hs =>
   rw[e]at this;obtain⟨r,F,J⟩:=this;exact⟨r,F,d.road k (lo hs e) J⟩
 .have:=h.w n;cases e:a.ws n with
  |none=>rw[e]at this;exact this
  |some w =>
   rw[e]at this;obtain⟨y,p,t,F,I⟩:=this;exact⟨y,p,t,F,d.wk k I⟩
def Hist (CR CW:Aj)(H:Hp):List AH->(Key->Option V)->(Key->Option V)->List Deed->Prop
 |[],_,_,_=>True
 |a::as,f,g,ds=>Rep CR CW H f g a/\((ds=[]/\as=[])\/∃d ds',ds=d::ds'/\Hist CR CW H as (ovr f d.cs1) (ovr g d.cs2) ds')
theorem Hist.dl {CR:Aj}(d:Dl H ch)(k:Kb ch H H'):∀ {as:List AH} {f g:Key->Option V} {ds:List Deed},Hist CR CW H as f g ds->Hist CR CW H' as f g ds
 |[],_,_,_,_=>trivial
 |a::as,f,g,ds,h=>by
  obtain⟨h1,h2⟩:=h;refine⟨h1.dl d k,?_⟩;rcases h2 with h2|⟨d',ds',e,h2⟩
  .exact .inl h2
  .exact .inr ⟨d',ds',e,Hist.dl d k h2⟩
structure VH (C CR CW:Aj)(H:Hp)(o:Ho)(as:List AH):Prop where
 h:HoAt C H o
 t:Hist CR CW H as (wp o.R) (wp o.W) o.ds
variable {as:List AH}
theorem VH.same {CR:Aj}(v:VH C CR CW H o as)(s:Same H H'):VH C CR CW H' o as:=⟨v.h.same s,Hist.dl (ch:=[]) Dl.nil (Kb.of s) v.t⟩
theorem VH.rep {CR:Aj}(v:VH C CR CW H o (a::as)):Rep CR CW H (wp o.R) (wp o.W) a:=v.t.1
structure Nxt (H:Hp)(o o':Ho):Prop where
 x:o'.x=o.x
 dr:o'.dr=o.dr
 dw:o'.dw=o.dw
 dd:o'.dd=o.dd
 ds:∃d,o'.ds=d::o.ds/\H d.q1=none/\H d.q2=none
structure Prv (o o':Ho):Prop where
 x:o'.x=o.x
 dr:o'.dr=o.dr
 dw:o'.dw=o.dw
 dd:o'.dd=o.dd
 ds:∃d,o.ds=d::o'.ds
theorem VH.did {CR:Aj}{a':AH}(v:VH C CR CW H o (a::as)){cs1 cs2:List (Key×V)}(g:wqs C H H' o.x o.dr o.dw o.dd o.R o.W (Qb o.ds) cs1 cs2)(nd1:(cs1.map (·.1)).Nodup)(nd2:(cs2.map (·.1)).Nodup)(l1:cs1.length<=1000)(l2:cs2.length<=1000)(r1:Wz cs1)(r2:Wz cs2)(g1:qx5 (wp o.R) cs1)(g2:qx5 (wp o.W) cs2)(rp:Kb [o.dr,o.dw,o.dd] H H'->Rep CR CW H' (ovr (wp o.R) cs1) (ovr (wp o.W) cs2) a') :
  ∃o',Nxt H o o'/\VH C CR CW H' o' (a'::a::as)/\Kb [o.dr,o.dw,o.dd] H H':=by
 obtain⟨I,L,J,n0,S,O,h',F⟩:=v.h.did g nd1 nd2 l1 l2 r1 r2 g1 g2;refine⟨o.did I L J cs1 cs2,⟨rfl,rfl,rfl,rfl,⟨⟨I,L,J,bfK o.R cs1,bfK o.W cs2⟩,rfl,S,O⟩⟩,⟨h',?_⟩,F⟩;have Z:wp (exK o.R cs1)=ovr (wp o.R) cs1:=funext (Zb cs1 o.R nd1);have U:wp (exK o.W cs2)=ovr (wp o.W) cs2:=funext (Zb cs2 o.W nd2);refine⟨by show Rep CR CW H' (wp (exK o.R cs1)) (wp (exK o.W cs2)) a';rw[Z,U];exact rp F,.inr ⟨_,o.ds,rfl,?_⟩⟩;show Hist CR CW H' (a::as) (ovr (wp (exK o.R cs1)) (bfK o.R cs1)) (ovr (wp (exK o.W cs2)) (bfK o.W cs2)) o.ds;rw[show ovr (wp (exK o.R cs1)) (bfK o.R cs1)=wp o.R from funext (qkf nd1 v.h.fR.non),show ovr (wp (exK o.W cs2)) (bfK o.W cs2)=wp o.W from funext (qkf nd2 v.h.fW.non)];exact Hist.dl v.h.dl F v.t
structure Nam (NM:List Str)(a:AH):Prop where
 r:∀n,(a.rs n).isSome=true->n∈NM
 w:∀n,(a.ws n).isSome=true->n∈NM
variable {α:Type}
theorem Wj [DecidableEq α]:∀(l m:List α),l.Nodup->(∀x∈l,x∈m)->l.length<=m.length
 |[],_,_,_=>aR _
 |a::l,m,nd,h=>by obtain⟨n1,n2⟩:=be.mp nd;have ha:=h a (au ..);have:=Wj l (m.erase a) n2 λx hx=>(List.mem_erase_of_ne (λz=>n1 (by rw[<-z];exact hx))).mpr (h x (aE _ hx));rw[List.length_erase_of_mem ha]at this;have:=List.length_pos_of_mem ha;rw[aw];lia
variable {NM:List Str}
theorem qvv (nd:(R.map (·.1)).Nodup)(h:∀k v,wp R k=some v->∃n,k=.inr n/\n∈NM):R.length<=NM.length:=by
 have:=Wj (R.map (·.1)) (NM.map Sum.inr) nd λk I=>by obtain⟨c,J,rfl⟩:=av.mp I;obtain⟨n,e,F⟩:=h _ _ (yj nd J);rw[e];exact av.mpr ⟨n,F,rfl⟩
 rwa [ac,ac]at this
theorem VH.lens {CR:Aj}(v:VH C CR CW H o (a::as)){NM:List Str}(nm:Nam NM a):o.R.length<=NM.length/\o.W.length<=NM.length:=by
 refine⟨qvv v.h.nR λk u e=>?_,qvv v.h.nW λk u e=>?_⟩
 .obtain⟨n,_,rfl,_⟩:=v.h.fR k u e;refine⟨n,rfl,nm.r n ?_⟩;have:=v.rep.r n;cases e2:a.rs n with
  |none =>
   rw[e2]at this;have this:wp o.R (.inr n)=none:=this;rw[this]at e;cases e
  |some _=>rfl
 .obtain⟨n,_,rfl,_⟩:=v.h.fW k u e;refine⟨n,rfl,nm.w n ?_⟩;have:=v.rep.w n;cases e2:a.ws n with
  |none =>
   rw[e2]at this;have this:wp o.W (.inr n)=none:=this;rw[this]at e;cases e
  |some _=>rfl
theorem Rep.road {CR:Aj}{f g:Key->Option V}(h:Rep CR CW H f g a){n:Str}{hs:List Int}(e:a.rs n=some hs):∃r,f (.inr n)=some (.ref r)/\RoadAt CR H r hs:=by have:=h.r n;rw[e]at this;exact this
theorem Rep.wk {CR:Aj}{f g:Key->Option V}(h:Rep CR CW H f g a){n:Str}{w:Wk}(e:a.ws n=some w):∃y p t,g (.inr n)=some (.ref y)/\WkAt CW H y w.wh p w.pt t w.tv:=by have:=h.w n;rw[e]at this;exact this
theorem Rep.noR {CR:Aj}{f g:Key->Option V}(h:Rep CR CW H f g a){n:Str}(e:a.rs n=none):f (.inr n)=none:=by have:=h.r n;rw[e]at this;exact this
theorem Rep.noW {CR:Aj}{f g:Key->Option V}(h:Rep CR CW H f g a){n:Str}(e:a.ws n=none):g (.inr n)=none:=by have:=h.w n;rw[e]at this;exact this
theorem wq0 {f:Key->Option V}{k:Key}(m:Key):ovr f [(k,v)] m=if m=k then(if v=.non then none else some v) else f m:=by
 unfold ovr;by_cases z:k=m
 .rw[zx z,am z.symm];cases v <;> rfl
 .rw[x9 z,al (bE z)];rfl
theorem Rep.putW {CR:Aj}{f g:Key->Option V}(h:Rep CR CW H f g a){n:Str}{w:Wk}{y p t:Aj}(wk:WkAt CW H y w.wh p w.pt t w.tv)(tm:TmOk w.tv){hs:List Int}(er:a.rs w.wh=some hs)(hp:HPt hs w.pt):Rep CR CW H (ovr f []) (ovr g [(.inr n,.ref y)]) (a.putW n w):=by
 refine⟨h.r,λm=>?_,h.ok.lo,λm F e=>?_⟩
 .rw[wq0];show WRep CW H _ (if m=n then some w else a.ws m);by_cases z:m=n
  .rw[am z,am (by rw[z]),al (λq=>by cases q)];exact⟨y,p,t,rfl,wk⟩
  .rw[al z,al (λq=>z (by injection q))];exact h.w m
 .have e:(if m=n then some w else a.ws m)=some F:=e;by_cases z:m=n
  .rw[am z]at e;cases e;exact⟨tm,hs,er,hp⟩
  .rw[al z]at e;exact h.ok.wo m F e
theorem qys:Wz [((Sum.inr n:Key),V.ref y)]:=λc hc=>by rw[ar.mp hc];exact⟨n,rfl,.inr ⟨y,rfl⟩⟩
theorem qyp:Wz []:=λc hc=>nomatch hc
theorem wzh {f:Key->Option V}:qx5 f []:=λc hc=>nomatch hc
theorem wvq {f:Key->Option V}{k:Key}:qx5 f [(k,.ref y)]:=λc hc hn=>by rw[ar.mp hc]at hn;cases hn
variable {wh:Str}
theorem WDeed.g {pt:Int×Int}(h:WDeed C CW H H' x dr dw dd R W D n wh p pt t tv):∃y,wqs C H H' x dr dw dd R W D [] [(.inr n,.ref y)]/\WkAt CW H' y wh p pt t tv:=by obtain⟨y,F,J,I,a1,a2,a3,a4,a5,Z,U,S,O,L⟩:=h;refine⟨y,⟨F,J,I,a1,a2,a3,?_,a5,Z,U,S,L⟩,O⟩;rw[wwy];exact a4
theorem RDeed.g {CR:Aj}(h:RDeed C CR H H' x dr dw dd R W D n hs):∃r,wqs C H H' x dr dw dd R W D [(.inr n,.ref r)] []/\RoadAt CR H' r hs:=by obtain⟨r,F,J,I,a1,a2,a3,a4,a5,Z,U,S,O,L⟩:=h;refine⟨r,⟨F,J,I,a1,a2,a3,?_,a5,Z,U,S,L⟩,O⟩;rw[wwy];exact a4
theorem VH.walk {CR:Aj}(v:VH C CR CW H o (a::as)){n:Str}{w:Wk}{p t:Aj}(g:WDeed C CW H H' o.x o.dr o.dw o.dd o.R o.W (Qb o.ds) n w.wh p w.pt t w.tv)(tm:TmOk w.tv){hs:List Int}(er:a.rs w.wh=some hs)(hp:HPt hs w.pt):∃o',Nxt H o o'/\VH C CR CW H' o' (a.putW n w::a::as)/\Kb [o.dr,o.dw,o.dd] H H':=by obtain⟨y,J,F⟩:=g.g;exact v.did J bj wvj (aR _) (show 1<=1000 by decide) qyp qys wzh wvq λI=>(v.rep.dl v.h.dl I).putW F tm er hp
structure Ap (o p:Ho):Prop where
 rr:o.dr≠p.dr
 rw_:o.dr≠p.dw
 wr:o.dw≠p.dr
 ww:o.dw≠p.dw
 dd:o.dd≠p.dd
 q1:∀q∈qvs o.ds,q≠p.dr/\q≠p.dw
 q2:∀q∈qvs p.ds,q≠o.dr/\q≠o.dw
theorem VH.places {CR CN CT CNR CB CO:Aj}{pa:Aj}{t b:Int}(v:VH C CR CW H o (a::as)){NM:List Str}(nm:Nam NM a)(lN:NM.length<=100)(lD:o.ds.length<=10000)(nn:xj n=true)(ln:n.length<=100000)(en:a.ws n=none)(er:a.rs wh=some hs)(fp:H pa=some (.tup [.int t,.int b]))(b1:1<=b)(sm:Sm 8000 b)(hp:HPt hs (xu t b))
  (k:∀H' o',Nxt H o o'->VH C CR CW H' o' (a.putW n ⟨wh,xu t b,[([.inl (xu t b).1,.inl (xu t b).2],.int 1)]⟩::a::as)->Kb [o.dr,o.dw,o.dd] H H'->Q .non H'):Wc K C CR CW CN CT CNR CB CO [.ref o.x,.str n,.str wh,.ref pa] H Q E:=by
 obtain⟨r,J,S⟩:=v.rep.road er;have L:=v.rep.noW en;have aa:=v.lens nm;refine⟨o.x,o.dr,o.dw,o.dd,pa,o.R,o.W,_,n,wh,t,b,rfl,v.h.hs,⋯,⋯,by rw[qqz];lia,ln,fp,(λz=>by rw[nn]at z;cases z),(λ_ z=>by rw[L]at z;cases z),λ_ _=>⟨(λz=>by rw[J]at z;cases z),λu I=>?_⟩⟩;rw[J]at I;cases I;refine⟨r,hs,rfl,S,hp.1,(λz=>absurd z ⋯),λ_=>⟨sm,(λz=>absurd z (by have:=hp.2.2;lia)),λ_=>⟨(λz=>absurd hp.2.1.2.2.2 z),λ_ H' p t' wd=>?_⟩⟩⟩;have F:=hp.rng;obtain⟨o',U,O,Z⟩:=v.walk (w:=⟨wh,xu t b,[([.inl (xu t b).1,.inl (xu t b).2],.int 1)]⟩) wd (TmOk.one F.1 F.2.1 F.2.2.1 F.2.2.2) er hp;exact k H' o' U O Z
def qkq (c:Key×V):Str:=match c.1 with | .inr n=>n | .inl _ => ""
theorem um (nd:(W.map (·.1)).Nodup)(h:RefsF (wp W)):W.map (·.1)=(W.map qkq).map Sum.inr/\(W.map qkq).Nodup:=by
 have e:W.map (·.1)=(W.map qkq).map Sum.inr:=by rw[aW];refine bz λc F=>?_;obtain⟨n,_,e,_⟩:=h _ _ (yj nd F);show c.1=Sum.inr (qkq c);unfold qkq;rw[e]
 refine⟨e,?_⟩;rw[e]at nd;exact(dG.mp nd).imp λ{x y} hxy z=>hxy (by rw[z])
def AH.nil:AH:=⟨λ_=>none,λ_=>none⟩
theorem VH.nil {CR:Aj}(h:Hse C H x dr dw dd [] [] []):VH C CR CW H ⟨x,dr,dw,dd,[],[],[]⟩ [AH.nil] :=
 ⟨⟨h,(λd hd=>nomatch hd),(λq hq=>nomatch hq),trivial,bj,bj,(λm v e=>nomatch e),(λm v e=>nomatch e)⟩,⟨⟨(λ_=>rfl),(λ_=>rfl),⟨(λ_ _ e=>nomatch e),(λ_ _ e=>nomatch e)⟩⟩,.inl ⟨rfl,rfl⟩⟩⟩
theorem Nam.nil:Nam NM AH.nil:=⟨(λ_ e=>nomatch e),(λ_ e=>nomatch e)⟩
theorem Nam.putR (h:Nam NM a){n:Str}(hn:n∈NM)(hs:List Int):Nam NM (a.putR n hs):=⟨λm e=>by
 have e:(if m=n then some hs else a.rs m).isSome=true:=e
 by_cases z:m=n
 .rw[z];exact hn
 .rw[al z]at e
  exact h.r m e,h.w⟩
theorem Rep.putR {CR:Aj}{f g:Key->Option V}(h:Rep CR CW H f g a){n:Str}{hs:List Int}{r:Aj}(ra:RoadAt CR H r hs)(lo:xy hs)(hw:∀m w,a.ws m=some w->w.wh=n->HPt hs w.pt):Rep CR CW H (ovr f [(.inr n,.ref r)]) (ovr g []) (a.putR n hs):=by
 refine⟨λm=>?_,h.w,λm F e=>?_,λm w e=>?_⟩
 .rw[wq0];show RRep CR H _ (if m=n then some hs else a.rs m);by_cases z:m=n
  .rw[am z,am (by rw[z]),al (λq=>by cases q)];exact⟨r,rfl,ra⟩
  .rw[al z,al (λq=>z (by injection q))];exact h.r m
 .have e:(if m=n then some hs else a.rs m)=some F:=e;by_cases z:m=n
  .rw[am z]at e;cases e;exact lo
  .rw[al z]at e;exact h.ok.lo m F e
 .obtain⟨I,F,L,J⟩:=h.ok.wo m w e;by_cases z:w.wh=n
  .exact⟨I,hs,am z,hw m w e z⟩
  .exact⟨I,F,(al z).trans L,J⟩
theorem VH.road {CR:Aj}(v:VH C CR CW H o (a::as)){n:Str}{hs:List Int}(g:RDeed C CR H H' o.x o.dr o.dw o.dd o.R o.W (Qb o.ds) n hs)(lo:xy hs)(hw:∀m w,a.ws m=some w->w.wh=n->HPt hs w.pt):∃o',Nxt H o o'/\VH C CR CW H' o' (a.putR n hs::a::as)/\Kb [o.dr,o.dw,o.dd] H H':=by obtain⟨r,J,F⟩:=g.g;exact v.did J wvj bj (show 1<=1000 by decide) (aR _) qys qyp wvq wzh λI=>(v.rep.dl v.h.dl I).putR F lo hw
theorem VH.lays {CR CN CT CL:Aj}(v:VH C CR CW H o (a::as)){NM:List Str}(nm:Nam NM a)(lN:NM.length<=100)(lD:o.ds.length<=10000)(nn:xj n=true)(ln:n.length<=100000)(en:a.rs n=none)(fp:H p=some (.lst (hs.map V.int)))(lo:xy hs)
  (k:∀H' o',Nxt H o o'->VH C CR CW H' o' (a.putR n hs::a::as)->Kb [o.dr,o.dw,o.dd] H H'->Q .non H'):qzj K C CR CN CT CL [.ref o.x,.str n,.ref p] H Q E:=by
 have I:=v.rep.noR en;have Z:=v.lens nm;refine⟨o.x,o.dr,o.dw,o.dd,p,o.R,o.W,_,n,hs,rfl,v.h.hs,qwq _,⋯,⋯,by rw[qqz];lia,ln,fp,λ_ _ _ H' L=>?_,(λz=>by rw[nn]at z;cases z),(λ_ z=>by rw[I]at z;cases z),λ_ _ z=>absurd lo z⟩;obtain⟨o',O,J,S⟩:=v.road L lo λm w e U=>by obtain⟨_,aa,F,_⟩:=v.rep.ok.wo m w e;rw[U,en]at F;cases F
 exact k H' o' O J S
def vb (cs:List Nat):Str:=⟨cs.toArray⟩
def Lets (cs:List Nat):Prop:=∀c∈cs,97<=c/\c<123
theorem let_at:∀i:Nat,i<26->atI (("abcdefghijklmnopqrstuvwxyz" : Str)).cps.toList (i:Int)=some (97+i):=by decide +kernel
theorem let_sz:(("abcdefghijklmnopqrstuvwxyz" : Str)).length<=sizeLine:=aX (show _<=1000 by decide +kernel) ⋯
theorem wvv:∀i:Nat,i<26->Yv (97+i)=true:=by decide +kernel
theorem wjw (cs:List Nat)(c:Nat):vb cs++(⟨#[c]⟩:Str)=vb (cs++[c]):=by show(⟨cs.toArray++#[c]⟩:Str)=⟨(cs++[c]).toArray⟩;simp
theorem yz (cs:List Nat):(vb cs).length=cs.length:=by show cs.toArray.size=_;simp
theorem wjr {cs:List Nat}(h:Lets cs)(l1:1<=cs.length)(l2:cs.length<=12):xj (vb cs)=true:=by
 unfold xj;rw[yz,aM ⟨l1,l2⟩,cQ];refine bu.mpr λi hi=>?_;have hi:i<cs.length:=by have:=bc.mp hi;rw[show(vb cs).cps.size=cs.length from yz cs]at this;exact this
 have e:(vb cs).cps.getD i 0=cs[i]:=by show cs.toArray.getD i 0=_;simp[Array.getD,hi]
 rw[e];have:=h _ (bt hi);rw[show cs[i]=97+(cs[i]-97) by lia];exact wvv _ ⋯
theorem quz (cs:List Nat){n:Nat}(hn:n<=cs.length):Txt.slice (vb cs) none (some (n:Int))=vb (cs.take n):=by
 have O:Builtin.Str.strSliceIndices none (some (n:Int)) 1 (vb cs).length=Builtin.Str.strSliceIndices (some ((0:Nat):Int)) (some (n:Int)) 1 (vb cs).length:=by unfold Builtin.Str.strSliceIndices;simp;rw[show max (0:Int) (min 0 ((vb cs).length:Int))=0 by lia]
 have F:n<=(vb cs).length:=by rw[yz];exact hn
 have L:=StrLaws.sliced_plain (vb cs) (aR n) F;have J:=StrLaws.strSliceIndices_plain (aR n) F;have I:(vb cs).cps.toList=cs:=by show cs.toArray.toList=cs;simp
 unfold Txt.slice;rw[O];split
 .next h =>
  rw[J]at h;have:n=cs.length:=by simpa [yz] using h
  rw[this,cE]
 .rw[L,I,List.drop_zero,Nat.sub_zero];rfl
def NmOk (place:Nat)(v:Nat)(cs:List Nat):Prop:=Lets cs/\1<=cs.length/\cs.length<=12/\cs[place]?=some (97+v)
def qw2 (K:Aa):Sp:=λvs H Q _=>∃(a:Aj) (ns:List Int) (i:Int),vs=[.ref a,.int i]/\SqL K H a (ns.map V.int)/\0<=i/\∀(q:Aj) (L:List (List Nat)) (H':Hp),Same H H'->H q=none->H' q=some (.lst (L.map λcs=>V.str (vb cs)))->L.length=5->(∀cs∈L,Lets cs/\1<=cs.length/\cs.length<=12)->L.Nodup->Q (.ref q) H'
include T in
theorem wwm (F:Fun K "_law_names" "_law_names" zbp f fd)(zaa:Cal P w K mg base "_law_pick" 2 (yb K)):FK P w K mg base 3 f fd ["_law_script","_law_at"] (qw2 K):=by
 have sc:=qxz;refine F.okX sc (λvs H Q E h=>by obtain⟨_,_,_,rfl,_⟩:=h;rfl) λ_ _ _ _ H vs Q E hr h=>?_;obtain⟨a,ns,i,rfl,hS,h0,kk⟩:=h;have a6:(1000000:Nat)<sizeLine:=by decide
 have sm:∀z:Int,-(2 ^ 64)<=z->z<=2 ^ 64->Sm 65 z:=λz z1 z2=>Sm.small z1 z2 ⋯;refine⟨_,(qu (w6 (i:=2) wt)
   (qu (w6 (i:=3) (wg xb qj (wCA zaa (wv (pv 0) (wv (pv 1) (xq qj (xq qj qk)))))))
   (qu (w6 (i:=4) (wCA zaa (wv (pv 0) (wv (pv 1) (xq qj (wv (pv 3) qk))))))
   (qu (w6 (i:=5) (wCA zaa (wv (pv 0) (wv (pv 1) (xq qj (xq qj qk))))))
   (qu (w6 (i:=6) (vj qk))
   (qu (ju bd rfl (z8 rfl T.range_ (xq qj qk)) (xf (i:=7)) (qu (w6 (i:=8) wt)
   (qu (ju bd rfl (z8 rfl T.range_ (wv (pv 3) qk)) (xf (i:=9)) (qu (w6 (i:=10) (wCA zaa (wv (pv 0) (wv (pv 1) (zj (wg xb qj (pv 9)) (xq qj qk))))))
   (j0 (xc (wc zw (pv 9) (pv 4) (wm _)) (qm (w6 (i:=10) (wg kj (wg xb (pv 5) (wg zb qj (pv 7))) qj))) xz)
   (qm (w6 (i:=8) (wg xg (pv 8) (xn qk0 (pv 2) (pv 10) (λ_ _=>rfl))))))))
   (j0 (xc (wc zw (wCA zaa (wv (pv 0) (wv (pv 1) (xq qj (xq qj qk))))) qj (wm _)) (qm (w6 (i:=8) (v6 Zz (pv 8) jd (jf (wn (qz5 rfl) rfl T.max_ dN (zj (wg xb (pv 4) qj) (zj (wg Qh (pv 3) (wg kj (wg zb qj (pv 7)) qj)) qk))))))) xz)
   (qm (zk (kh bD bV bW jy (pv 6) (wv (pv 8) qk))))))))
   (qm (w8 (pv 6))))))))),?_⟩
 dsimp only [W9];refine c7 λj1 j2 j3 j4 j5 j6 j7 a3 a2 a1 an ak aj ai=>?_;subst a3;subst a2;refine exI rfl (exI rfl ⟨a,ns,_,_,_,rfl,hS,h0,⋯,⋯,⋯,λS _ l0 u0=>(xx rfl rfl ?_)⟩);subst a1;refine exI rfl (exI rfl (exI rfl ⟨a,ns,_,_,_,rfl,hS,h0,⋯,⋯,⋯,λJ _ l1 u1=>?_⟩));subst an;refine exI rfl (exI rfl ⟨a,ns,_,_,_,rfl,hS,h0,⋯,⋯,⋯,λO _ l2 u2=>?_⟩);subst ak;refine⟨sz0,λp np=>?_⟩;subst aj;refine⟨_,rfl,⋯,⋯,yw (n:=(5:Int).toNat) (λj σ H'=>∃(L:List (List Nat)) (z1 z2 z3 z4:Option V),L.length=j/\(∀(t:Nat) I,L[t]?=some I->NmOk J.toNat ((O+5*t)%26).toNat I)/\Same H H'/\H' p=some (.lst (L.map λI=>V.str (vb I)))/\σ=[some (.ref a),some (.int i),some (.str "abcdefghijklmnopqrstuvwxyz"),some (.int (1+S)),some (.int J),some (.int O),some (.ref p),z1,z2,z3,z4])
  ⟨[],_,_,_,_,rfl,(λt I e=>by cases e),Same.upd np,qy,rfl⟩ ?_ ?_⟩
 .rintro j σ H1 hj ⟨L,z1,z2,z3,z4,U,hL,s1,f1,rfl⟩;have hj:j<5:=hj;have m0:=br (O+5*((0:Int)+j)) (show(26:Int)≠0 by decide);have m1:=bw (O+5*((0:Int)+j)) (show(0:Int)<26 by decide);refine⟨_,rfl,1+S,rfl,⋯,⋯,yw (n:=(1+S).toNat) (λk σ H'=>∃(I:List Nat) (z3 z4:Option V),I.length=k/\Lets I/\(J.toNat<k->I[J.toNat]?=some (97+((O+5*((0:Int)+j))%26).toNat))/\H'=H1/\σ=[some (.ref a),some (.int i),some (.str "abcdefghijklmnopqrstuvwxyz"),some (.int (1+S)),some (.int J),some (.int O),some (.ref p),some (.int ((0:Int)+j)),some (.str (vb I)),z3,z4])
   ⟨[],_,_,rfl,(λc hc=>nomatch hc),(λz=>absurd z ⋯),rfl,rfl⟩ ?_ ?_⟩
  .rintro k σ H2 hk ⟨I,z3,z4,lc,hc,hp,rfl,rfl⟩;refine exI rfl (exI rfl (exI rfl (xx rfl rfl ⟨a,ns,_,_,_,rfl,s1.sql hS,h0,⋯,⋯,⋯,λsg _ g0 g1=>?_⟩)));refine⟨λσ H'=>∃v:Int,0<=v/\v<26/\((0:Int)+k=J->v=(O+5*((0:Int)+j))%26)/\H'=H2/\σ=[some (.ref a),some (.int i),some (.str "abcdefghijklmnopqrstuvwxyz"),some (.int (1+S)),some (.int J),some (.int O),some (.ref p),some (.int ((0:Int)+j)),some (.str (vb I)),some (.int ((0:Int)+k)),some (.int v)],?_,?_⟩
   .refine exI rfl (exI rfl ⟨rfl,_,rfl,vh (λe=>?_) (λe=>⟨sg,g0,g1,λz=>absurd z e,rfl,rfl⟩)⟩);exact⟨_,rfl,_,rfl,_,_,rfl,rfl,(sm _ ⋯ ⋯).ok (sm _ ⋯ ⋯) ⋯,_,_,rfl,rfl,_,_,rfl,rfl,(by walk_at "pos"),_,m0,m1,λ_=>rfl,rfl,rfl⟩
   .rintro σ H3 ⟨v,v0,v1,ve,rfl,rfl⟩;have ea:=let_at v.toNat ⋯;rw[cC v0]at ea;refine exI rfl (exI rfl (exI rfl ⟨_,_,_,rfl,rfl,let_sz,ea,xx rfl rfl ⟨?_,?_⟩⟩))
    .rw[yz];show I.length+1<=_;lia
    .refine⟨I++[97+v.toNat],_,_,by rw[ay,lc];rfl,λc aa=>?_,λz=>?_,rfl,by rw[<-wjw];rfl⟩
     .rcases aP.mp aa with q|q
      .exact hc c q
      .rw[ar.mp q];lia
     .rcases(by lia:J.toNat<k\/J.toNat=k) with q|q
      .rw[bG ⋯];exact hp q
      .rw[bB ⋯,lc,q,Nat.sub_self,ve ⋯];rfl
  .rintro σ H2 ⟨I,z3,z4,lc,hc,hp,rfl,rfl⟩;have lc:I.length=(1+S).toNat:=lc;have hp:=hp ⋯;refine⟨λσ H'=>∃(ds:List Nat),NmOk J.toNat ((O+5*((0:Int)+j))%26).toNat ds/\H'=H2/\σ=[some (.ref a),some (.int i),some (.str "abcdefghijklmnopqrstuvwxyz"),some (.int (1+S)),some (.int J),some (.int O),some (.ref p),some (.int ((0:Int)+j)),some (.str (vb ds)),z3,z4],?_,?_⟩
   .refine exI rfl (exI rfl ⟨a,ns,_,_,_,rfl,s1.sql hS,h0,⋯,⋯,⋯,λr3 _ l3 u3=>?_⟩);refine⟨rfl,_,rfl,vh (λe=>?_) (λe=>⟨I,⟨hc,⋯,⋯,hp⟩,rfl,rfl⟩)⟩;have q0:=br (2*((0:Int)+j)) (show(7:Int)≠0 by decide);refine exI rfl (exI rfl (xx rfl rfl (exI rfl (exI rfl (xx rfl rfl ⟨(sm _ ⋯ ⋯).ok (sm _ ⋯ ⋯) ⋯,xx rfl rfl ⟨(by walk_at "pos"),xx rfl rfl ⟨_,_,rfl,_,rfl,?_⟩⟩⟩)))));obtain⟨n,hn,n1,n2⟩:∃n:Nat,(if 1+S-2*((0:Int)+j)%7>J+1 then 1+S-2*((0:Int)+j)%7 else J+1)=(n:Int)/\J.toNat<n/\n<=I.length:=by refine⟨(if 1+S-2*((0:Int)+j)%7>J+1 then 1+S-2*((0:Int)+j)%7 else J+1).toNat,?_,?_,?_⟩ <;> split <;> lia
    have e8:Txt.slice (vb I) none (some (if 1+S-2*((0:Int)+j)%7>J+1 then 1+S-2*((0:Int)+j)%7 else J+1))=vb (I.take n):=by rw[hn];exact quz I n2
    have lt:(I.take n).length=n:=by rw[bA];lia
    refine⟨vb I,rfl,by rw[yz];lia,I.take n,⟨λc aa=>hc c (dR aa),⋯,⋯,?_⟩,rfl,by rw[<-e8];rfl⟩;rw[List.getElem?_take,am n1];exact hp
   .rintro σ H3 ⟨ds,hd,rfl,rfl⟩;refine exI rfl ⟨.inl ⟨rfl,_,SqL.of f1⟩,exI rfl ⟨_,_,_,rfl,rfl,f1,?_,?_⟩⟩
    .rw[ac,U];lia
    .refine⟨L++[ds],_,_,_,_,by rw[ay,U];rfl,λt a4 Z=>?_,Same.upd2 s1 np,?_,rfl⟩
     .rcases eA t L.length with q|q
      .rw[bG q]at Z;exact hL t a4 Z
      .rw[bB q]at Z;have:t=L.length:=by
        rcases(by lia:t-L.length=0\/1<=t-L.length) with y|y
        .lia
        .rw[bn (by simpa using y)]at Z;cases Z
       subst this;rw[Nat.sub_self]at Z;cases Z;rw[Int.zero_add]at hd;rw[U];exact hd
     .rw[aQ];exact qy
 .rintro σ H1 ⟨L,z1,z2,z3,z4,U,hL,s1,f1,rfl⟩;have U:L.length=5:=U;subst ai;refine exI rfl (kk p L H1 s1 np f1 U (λI ad=>?_) ?_)
  .obtain⟨t,ht,rfl⟩:=dS.mp ad;obtain⟨q1,q2,q3,_⟩:=hL t _ (ag ht);exact⟨q1,q2,q3⟩
  .refine List.pairwise_iff_getElem.mpr λx y hx hy a5 e=>?_;have e1:=(hL x _ (ag hx)).2.2.2;have e2:=(hL y _ (ag hy)).2.2.2;rw[e,e2]at e1;have e3:=ax e1;have a0:=br (O+5*(x:Int)) (show(26:Int)≠0 by decide);have b0:=br (O+5*(y:Int)) (show(26:Int)≠0 by decide);have:(O+5*(x:Int))%26=(O+5*(y:Int))%26:=by lia
   lia
theorem qjd:∀ {l m:List Str},l.Nodup->m.Nodup->(∀x,x∈l↔x∈m)->l.Pairwise (λx y=>¬ y.cps.toList<x.cps.toList)->m.Pairwise (λx y=>¬ y.cps.toList<x.cps.toList)->l=m
 |[],[],_,_,_,_,_=>rfl
 |[],y::m,_,_,h,_,_=>absurd ((h y).mpr (au ..)) ao
 |x::l,[],_,_,h,_,_=>absurd ((h x).mp (au ..)) ao
 |x::l,y::m,n1,n2,h,p1,p2=>by
  obtain⟨a1,m1⟩:=be.mp n1;obtain⟨a2,m2⟩:=be.mp n2;obtain⟨b1,q1⟩:=dv.mp p1;obtain⟨b2,q2⟩:=dv.mp p2;have exy:x=y:=by
   rcases ap.mp ((h x).mp (au ..)) with z|z
   .exact z
   .rcases ap.mp ((h y).mpr (au ..)) with w|w
    .exact w.symm
    .have e:=List.le_antisymm (as:=x.cps.toList) (bs:=y.cps.toList) (b1 y w) (b2 x z);cases x;cases y;simpa using e
  subst exy;have:l=m:=qjd m1 m2 (λz=>by
   have F:=h z
   simp only[ap]at F
   constructor
   .intro J
    rcases F.mp (.inr J) with w|w
    .exact absurd (w▸J) a1
    .exact w
   .intro I
    rcases F.mpr (.inr I) with w|w
    .exact absurd (w▸I) a2
    .exact w) q1 q2
  rw[this]
theorem Q2 (nd:(W.map (·.1)).Nodup)(h:RefsF (wp W))(n:Str):n∈W.map qkq↔(wp W (.inr n)).isSome=true:=by
 have L:=(um nd h).1;have:n∈W.map qkq↔(Sum.inr n:Key)∈W.map (·.1):=by
  rw[L];exact⟨λh=>av.mpr ⟨n,h,rfl⟩,λh=>by
   obtain⟨F,h',e⟩:=av.mp h
   have e:F=n:=by injection e
   rw[<-e];exact h'⟩
 rw[this];constructor
 .intro h;obtain⟨c,I,e⟩:=av.mp h;have:=yj nd I;rw[e]at this;rw[this];rfl
 .intro h;obtain⟨u,J⟩:=aH.mp h;exact av.mpr ⟨_,wwq J,rfl⟩
def xv (i:Int):Str:=Str.ofString (toString i)
def Qj (n:Str)(hs:List Int):Str:=Txt.join " " (("road" : Str)::n::hs.map xv)
def uy (n wh:Str)(pt:Int×Int):Str:=Str.empty ++ "walker " ++ n ++ " " ++ wh ++ " " ++ xv pt.1 ++ " " ++ xv pt.2
theorem Wd {i:Int}(h0:0<=i)(h:i<=100000):i.natAbs.log2<1920:=by
 by_cases z:i.natAbs=0
 .rw[z];decide
 .refine(Nat.log2_lt z).mpr ?_;have:(2:Nat) ^ 17<=2 ^ 1920:=de ⋯ ⋯;have e:(2:Nat) ^ 17=131072:=by decide
  lia
theorem yd {i:Int}(h0:0<=i)(h:i<=100000):(xv i).length<=10:=PySem.W.KT.len_num h0 ⋯
theorem zu (a b:Str):(a++b).length=a.length+b.length:=by show(a.cps++b.cps).size=_;rw[Array.size_append];rfl
theorem z7 (lo:xy hs):hs.length<=25/\∀h∈hs,0<=h/\h<=100000:=by obtain⟨_,h2,h3⟩:=lo;exact⟨h2,λh hh=>⟨(h3 h hh).1,by have:=(h3 h hh).2;lia⟩⟩
theorem Yc (h:∀h∈hs,0<=h/\h<=100000):((hs.map xv).map (·.length)).sum<=10*hs.length:=by
 induction hs with
 |nil=>exact aR _
 |cons a l ih =>
  have:=ih λx F=>h x (aE _ F);have b:=yd (h a (au ..)).1 (h a (au ..)).2;simp only[aV,dP,aw];lia
theorem qqn:("road" : Str).length=4:=by decide +kernel
theorem qyu (lo:xy hs)(ln:n.length<=100):JoinOk " " (("road" : Str)::n::hs.map xv)=true:=by obtain⟨h1,h2⟩:=z7 lo;have:=Yc h2;have e:=qqn;refine bY ?_ (by decide +kernel);simp only[aV,dP,aw,ac]at this ⊢;lia
theorem Qt (lo:xy hs)(ln:n.length<=100):(Qj n hs).length<=1000:=by obtain⟨h1,h2⟩:=z7 lo;have:=Yc h2;have e:=qqn;unfold Qj;rw[show Txt.join " " (("road" : Str)::n::hs.map xv)=Str.join " " (("road" : Str)::n::hs.map xv) from bx _ _];refine aX (cf _ _) ?_;rw[show(" " : Str).length=1 by decide +kernel];simp only[aV,dP,aw,ac]at this ⊢;lia
def Y9 (C CR CW:Aj):Sp:=λvs H Q _=>∃(o:Ho) (a:AH) (as:List AH) (n:Str) (hs:List Int),vs=[.ref o.x,.str n]/\VH C CR CW H o (a::as)/\a.rs n=some hs/\n.length<=100/\∀H',Same H H'->Q (.str (Qj n hs)) H'
include T in
theorem qjs (F:Fun K "road_row" "road_row" zbk f fd)(zgv:MCal P w K mg base qq "corners_of" 2 (Q9 qq qp qr)) :
  FK P w K mg base 3 f fd ["house","name"] (Y9 qq qp qz):=by
 have sc:=qj5;refine F.okX sc (λvs H Q E h=>by obtain⟨_,_,_,_,_,rfl,_⟩:=h;rfl) λ_ _ _ _ H vs Q E hr h=>?_;obtain⟨o,a,as,n,hs,rfl,v,O,ln,k⟩:=h;obtain⟨r,er,ra⟩:=v.rep.road O;have lo:=v.rep.ok.lo n hs O;obtain⟨dx,hx⟩:=v.h.hs.ob;refine⟨_,(qm (w8 (kh aY cn cr Z2 wt (zj (wg Qz (vj (xq wt (wv (pv 1) qk))) (vm (M:=[]) rfl rfl (by walk_at "cap") (by walk_at "has") (by walk_at "cix") rfl (by decide +kernel) rfl (show List.Nodup (["height"]:List Str) by decide +kernel) (v3 (vk (pv 0) T.clH zgv (hr.mono ⋯) q8 (wv (pv 1) qk))) (λ_ _ _ _ _=>(zv jt rfl T.str_ cT (wv (pv 0) qk))))) qk)))),?_⟩;dsimp only [W9];refine⟨rfl,exI rfl ⟨sz2,λp np=>?_⟩⟩;have S:Same H (upd H p (.lst [.str "road",.str n])):=Same.upd np;have I:=v.same S;obtain⟨r',Z,aa⟩:=I.rep.road O;obtain⟨ak,ai⟩:=I.h.hs.ob;refine⟨_,rfl,o.x,ak,_,rfl,ai,zf,_,rfl,o.x,o.dr,o.dw,o.dd,o.R,o.W,_,n,rfl,I.h.hs,λu U=>?_,λz=>by rw[Z]at z;cases z⟩;rw[Z]at U;cases U;refine⟨r',hs,rfl,aa,λq J=>?_⟩;refine⟨q,rfl,⟨_,SqL.of qy⟩,qzd (λx=>match x with|.int i=>.str (xv i)|_=>.non) (SqL.of qy) (by rw[ac];have:=(z7 lo).1;lia) (λx H' R aj s2 hR=>?_) λl L=>?_⟩
 .obtain⟨i,hi,rfl⟩:=av.mp aj;have:=(z7 lo).2 i hi;exact exI rfl (exI rfl ⟨Wd this.1 this.2,hR⟩)
 .have e:(hs.map V.int).map (λx=>match x with|.int i=>V.str (xv i)|_=>.non)=(hs.map xv).map V.str:=by rw[aW,aW];rfl
  rw[e];have np1:q≠p:=λz=>by rw[z,qy]at J;cases J
  have ad:l≠p:=λz=>by rw[z,wj np1.symm,qy]at L;cases L
  refine⟨p,l,_,_,rfl,rfl,by rw[wj ad.symm,wj np1.symm];exact qy,qy,?_,λj nj=>?_⟩
  .have:=(z7 lo).1;have an:(1000000:Nat)<sizeLine:=by decide
   simp only[aw,cP,ac];lia
  .exact⟨_,_,("road" : Str)::n::hs.map xv,rfl,rfl,SqL.of qy,qyu lo ln,k _ (((S.trans (Same.upd J)).trans (Same.upd L)).trans (Same.upd nj))⟩
theorem Q4 {pt:Int×Int}(ln:n.length<=100)(lw:wh.length<=100)(h1:0<=pt.1/\pt.1<=100000)(h2:0<=pt.2/\pt.2<=100000):(uy n wh pt).length<=1000:=by
 have L:=yd h1.1 h1.2;have J:=yd h2.1 h2.2;have F:(Str.empty ++ "walker " : Str).length=7:=by decide +kernel
 have I:(" " : Str).length=1:=by decide +kernel
 unfold uy;simp only[zu]at F ⊢;lia
def Qs (C CR CW:Aj):Sp:=λvs H Q _=>∃(o:Ho) (a:AH) (as:List AH) (n:Str) (w:Wk),vs=[.ref o.x,.str n]/\VH C CR CW H o (a::as)/\a.ws n=some w/\n.length<=100/\w.wh.length<=100/\∀H',Same H H'->Q (.str (uy n w.wh w.pt)) H'
include T in
theorem qxx (F:Fun K "walker_row" "walker_row" zbl f fd)(zgw:MCal P w K mg base qq "where" 2 (qk4 qq qz qb)) :
  FK P w K mg base 3 f fd ["house","name"] (Qs qq qp qz):=by
 have sc:=qxn;refine F.okX sc (λvs H Q E h=>by obtain⟨_,_,_,_,_,rfl,_⟩:=h;rfl) λ_ _ _ _ H vs Q E hr h=>?_;obtain⟨o,a,as,n,I,rfl,v,en,ln,lw,k⟩:=h;refine⟨_,(qu (Wq (vk (pv 0) T.clH zgw (hr.mono ⋯) q8 (wv (pv 1) qk)) (Q1 rfl (zy (xf (i:=2)) (zy (Q1 rfl (zy (xf (i:=3)) (zy (xf (i:=4)) y8))) y8))))
   (qm (w8 (wj5 (qkd (qv4 (pv 1) (qkd (qv4 (pv 2) (qkd (qv4 (pv 3) (qkd (qv4 (pv 4) pf_nil)))))))))))),?_⟩
 dsimp only [W9];obtain⟨y,p,tt,Z,O⟩:=v.rep.wk en;obtain⟨dx,hx⟩:=v.h.hs.ob;obtain⟨_,hs,_,hp⟩:=v.rep.ok.wo n I en;have rg:=hp.rng;have L:0<=I.pt.1/\I.pt.1<=100000:=by lia
 have J:0<=I.pt.2/\I.pt.2<=100000:=by lia
 have aa:(1000000:Nat)<sizeLine:=by decide
 have a1:=yd L.1 L.2;have a2:=yd J.1 J.2;have e1:(Str.empty ++ "walker " : Str).length=7:=by decide +kernel
 have e2:(" " : Str).length=1:=by decide +kernel
 unfold xv at a1 a2;rw[zu]at e1;refine exI rfl ⟨o.x,dx,exI rfl ⟨hx,zf,exI rfl ⟨o.x,o.dr,o.dw,o.dd,o.R,o.W,_,n,rfl,v.h.hs,(λz=>by rw[Z]at z;cases z),λu eu=>?_⟩⟩⟩;rw[Z]at eu;cases eu;refine⟨y,I.wh,p,I.pt,tt,I.tv,rfl,O,λq nq=>?_⟩;have S:Same H (upd H q (.tup [.str I.wh,.ref p])):=Same.upd nq;have fp:=(WkAt.same O S).pt;have U:=k _ S;unfold uy xv at U;refine⟨q,exI rfl ⟨SqT.of qy,rfl,_,_,rfl,_,_,rfl,p,exI rfl ⟨SqT.of fp,rfl,_,_,rfl,_,_,rfl,rfl,rfl,?_⟩⟩⟩;have z:∀m:Nat,m<=1000->m<=sizeLine:=λm h=>by lia
 have n1:=Wd L.1 L.2;have n2:=Wd J.1 J.2;refine⟨z _ ?_,_,rfl,.inl ⟨n,rfl,z _ ⋯,z _ ?_,z _ ?_,_,rfl,.inl ⟨I.wh,rfl,z _ ⋯,z _ ?_,z _ ?_,_,rfl,.inr ⟨I.pt.1,rfl,n1,z _ ?_,z _ ?_,_,rfl,.inr ⟨I.pt.2,rfl,n2,z _ ?_,z _ ?_,U⟩⟩⟩⟩⟩ <;> simp only[zu] <;> lia
structure BA where
 rs:Str->Option (List Int)
 ws:Str->Option (Str×(Int×Int))
def AH.bk (a:AH):BA:=⟨a.rs,λn=>(a.ws n).map λw=>(w.wh,w.pt)⟩
def BA.putR (b:BA)(n:Str)(hs:List Int):BA:={ b with rs:=λm=>if m=n then some hs else b.rs m }
def BA.putW (b:BA)(n:Str)(w:Str×(Int×Int)):BA:={ b with ws:=λm=>if m=n then some w else b.ws m }
structure BOk (NM:List Str)(b:BA):Prop where
 lo:∀n hs,b.rs n=some hs->xy hs/\xj n=true/\n∈NM
 wo:∀n w,b.ws n=some w->xj n=true/\n∈NM/\∃hs,b.rs w.1=some hs/\HPt hs w.2
theorem BOk.nil:BOk NM AH.nil.bk:=⟨(λn hs e=>nomatch e),(λn w e=>nomatch e)⟩
variable {b:BA}
theorem BOk.putR (h:BOk NM b){n:Str}{hs:List Int}(lo:xy hs)(nn:xj n=true)(hn:n∈NM)(hw:∀m w,b.ws m=some w->w.1=n->HPt hs w.2):BOk NM (b.putR n hs):=by
 refine⟨λm ks e=>?_,λm w e=>?_⟩
 .have e:(if m=n then some hs else b.rs m)=some ks:=e;by_cases z:m=n
  .rw[am z]at e;cases e;rw[z];exact⟨lo,nn,hn⟩
  .rw[al z]at e;exact h.lo m ks e
 .obtain⟨a,c,ks,I,F⟩:=h.wo m w e;refine⟨a,c,?_⟩;by_cases z:w.1=n
  .exact⟨hs,am z,hw m w e z⟩
  .exact⟨ks,(al z).trans I,F⟩
theorem BOk.putW (h:BOk NM b){n:Str}{w:Str×(Int×Int)}(nn:xj n=true)(hn:n∈NM){hs:List Int}(er:b.rs w.1=some hs)(hp:HPt hs w.2):BOk NM (b.putW n w):=by
 refine⟨h.lo,λm F e=>?_⟩;have e:(if m=n then some w else b.ws m)=some F:=e;by_cases z:m=n
 .rw[am z]at e;cases e;rw[z];exact⟨nn,hn,hs,er,hp⟩
 .rw[al z]at e;exact h.wo m F e
theorem AOk.bk (h:BOk NM a.bk):Nam NM a:=⟨λn e=>by
 cases er:a.rs n with
 |none=>rw[er]at e;cases e
 |some hs=>exact(h.lo n hs er).2.2,λn e=>by
 cases ew:a.ws n with
 |none=>rw[ew]at e;cases e
 |some w=>exact(h.wo n (w.wh,w.pt) (by show(a.ws n).map _=_;rw[ew];rfl)).2.1⟩
def RowAt (H:Hp)(o:Option V):Option (List Int)->Prop
 |none=>o=none
 |some hs=>xy hs/\∃p,o=some (.ref p)/\H p=some (.lst (hs.map V.int))
def WlkAt (H:Hp)(o:Option V):Option (Str×(Int×Int))->Prop
 |none=>o=none
 |some w=>∃p,o=some (.ref p)/\H p=some (.tup [.str w.1,.int w.2.1,.int w.2.2])
structure BP (H:Hp)(R W:List (Key×V))(b:BA):Prop where
 nR:(R.map (·.1)).Nodup
 nW:(W.map (·.1)).Nodup
 fR:RefsF (wp R)
 fW:RefsF (wp W)
 r:∀n,RowAt H (wp R (.inr n)) (b.rs n)
 w:∀n,WlkAt H (wp W (.inr n)) (b.ws n)
theorem BP.row (h:BP H R W b){n:Str}{hs:List Int}(e:b.rs n=some hs):xy hs/\∃p,wp R (.inr n)=some (.ref p)/\H p=some (.lst (hs.map V.int)):=by have:=h.r n;rw[e]at this;exact this
theorem BP.noR (h:BP H R W b){n:Str}(e:b.rs n=none):wp R (.inr n)=none:=by have:=h.r n;rw[e]at this;exact this
theorem BP.wlk (h:BP H R W b){n:Str}{v:Str×(Int×Int)}(e:b.ws n=some v):∃p,wp W (.inr n)=some (.ref p)/\H p=some (.tup [.str v.1,.int v.2.1,.int v.2.2]):=by have:=h.w n;rw[e]at this;exact this
theorem BP.noW (h:BP H R W b){n:Str}(e:b.ws n=none):wp W (.inr n)=none:=by have:=h.w n;rw[e]at this;exact this
theorem BP.kb (h:BP H R W b){ch:List Aj}(dl:Dl H ch)(k:Kb ch H H'):BP H' R W b:=by
 refine⟨h.nR,h.nW,h.fR,h.fW,λn=>?_,λn=>?_⟩
 .cases e:b.rs n with
  |none=>exact h.noR e
  |some hs =>
   obtain⟨lo,p,I,F⟩:=h.row e;exact⟨lo,p,I,dl.row k lo F⟩
 .cases e:b.ws n with
  |none=>exact h.noW e
  |some v =>
   obtain⟨p,I,F⟩:=h.wlk e;exact⟨p,I,dl.tup k F⟩
theorem BP.same (h:BP H R W b)(s:Same H H'):BP H' R W b:=h.kb (ch:=[]) Dl.nil (Kb.of s)
theorem qj1 (h:RefsF (wp R))(n:Str)(p:Aj):RefsF (wp (vd R (.inr n) (.ref p))):=λm v e=>by
 rw[Q5]at e;by_cases z:m=.inr n
 .rw[am z]at e;cases e;exact⟨n,p,z,rfl⟩
 .rw[al z]at e;exact h m v e
theorem wk7 (h:(R.map (·.1)).Nodup)(n:Key)(p:Aj):((vd R n (.ref p)).map (·.1)).Nodup:=by have:=wk8 h (n,.ref p);unfold ex1 at this;rw[al (λz=>by cases z)]at this;exact this
theorem BP.putR (h:BP H R W b){n:Str}{hs:List Int}{p:Aj}(lo:xy hs)(fp:H p=some (.lst (hs.map V.int))):BP H (vd R (.inr n) (.ref p)) W (b.putR n hs):=by
 refine⟨wk7 h.nR _ _,h.nW,qj1 h.fR _ _,h.fW,λm=>?_,h.w⟩;show RowAt H _ (if m=n then some hs else b.rs m);rw[Q5];by_cases z:m=n
 .rw[am z,am (by rw[z])];exact⟨lo,p,rfl,fp⟩
 .rw[al z,al (λy=>z (by injection y))];exact h.r m
theorem BP.putW (h:BP H R W b){n:Str}{v:Str×(Int×Int)}{p:Aj}(fp:H p=some (.tup [.str v.1,.int v.2.1,.int v.2.2])):BP H R (vd W (.inr n) (.ref p)) (b.putW n v):=by
 refine⟨h.nR,wk7 h.nW _ _,h.fR,qj1 h.fW _ _,h.r,λm=>?_⟩;show WlkAt H _ (if m=n then some v else b.ws m);rw[Q5];by_cases z:m=n
 .rw[am z,am (by rw[z])];exact⟨p,rfl,fp⟩
 .rw[al z,al (λy=>z (by injection y))];exact h.w m
theorem BP.lens (h:BP H R W b){NM:List Str}(bo:BOk NM b):R.length<=NM.length/\W.length<=NM.length:=by
 refine⟨qvv h.nR λk u e=>?_,qvv h.nW λk u e=>?_⟩
 .obtain⟨n,_,rfl,_⟩:=h.fR k u e;refine⟨n,rfl,?_⟩;cases e2:b.rs n with
  |none=>rw[h.noR e2]at e;cases e
  |some hs=>exact(bo.lo n hs e2).2.2
 .obtain⟨n,_,rfl,_⟩:=h.fW k u e;refine⟨n,rfl,?_⟩;cases e2:b.ws n with
  |none=>rw[h.noW e2]at e;cases e
  |some v=>exact(bo.wo n v e2).2.1
structure B2 (H:Hp)(dr dw:Aj)(R W:List (Key×V))(b:BA):Prop where
 r:H dr=some (.dK R)
 w:H dw=some (.dK W)
 ne:dr≠dw
 bp:BP H R W b
theorem B2.dl (h:B2 H dr dw R W b):Dl H [dr,dw]:=.cons (.inl ⟨_,.inl h.r⟩) (.cons (.inl ⟨_,.inl h.w⟩) .nil)
theorem B2.same (h:B2 H dr dw R W b)(s:Same H H'):B2 H' dr dw R W b:=⟨s _ _ h.r,s _ _ h.w,h.ne,h.bp.same s⟩
theorem wv6 {a:Aj}{o:HO}(h:a∈ch):Kb ch H (upd H a o):=λb x nb e=>by rw[wj (λz=>nb (by rw[z];exact h))];exact e
theorem B2.setR {R':List (Key×V)}{b':BA}(h:B2 H dr dw R W b)(hb:BP H R' W b'):B2 (upd H dr (.dK R')) dr dw R' W b':=by have k:Kb [dr,dw] H (upd H dr (.dK R')):=wv6 (by simp);exact⟨qy,by rw[wj (bE h.ne)];exact h.w,h.ne,hb.kb h.dl k⟩
theorem B2.setW {W':List (Key×V)}{b':BA}(h:B2 H dr dw R W b)(hb:BP H R W' b'):B2 (upd H dw (.dK W')) dr dw R W' b':=by have k:Kb [dr,dw] H (upd H dw (.dK W')):=wv6 (by simp);exact⟨by rw[wj h.ne];exact h.r,qy,h.ne,hb.kb h.dl k⟩
def SrtN (p:Str->Bool)(ms:List Str):Prop:=ms.Nodup/\(∀x,x∈ms↔p x=true)/\ms.Pairwise (λx y=>¬ y.cps.toList<x.cps.toList)
theorem SrtN.uniq {p:Str->Bool}{l m:List Str}(a:SrtN p l)(b:SrtN p m):l=m:=qjd a.1 b.1 (λx=>(a.2.1 x).trans (b.2.1 x).symm) a.2.2 b.2.2
def zr (b:BA)(n:Str):Str:=Qj n ((b.rs n).getD [])
def zm (b:BA)(n:Str):Str:=uy n ((b.ws n).getD ("",0,0)).1 ((b.ws n).getD ("",0,0)).2
def jn (b:BA)(ms1 ms2:List Str):Str:=Txt.join ("\n" : Str) (ms1.map (zr b)++ms2.map (zm b))
theorem qqs {f:Str->Str}{N:Nat}:∀ {ms:List Str},(∀m∈ms,(f m).length<=N)->((ms.map f).map (·.length)).sum<=N*ms.length
 |[],_=>aR _
 |m::ms,h=>by have a:=h m (au ..);have b:=qqs λx hx=>h x (aE m hx);simp only[aV,dP,aw];rw[Nat.mul_succ];lia
variable {ms1 ms2:List Str}
theorem Jd {f g:Str->Str}(h1:∀m∈ms1,(f m).length<=1000)(h2:∀m∈ms2,(g m).length<=1000)(l1:ms1.length<=100)(l2:ms2.length<=100):JoinOk ("\n" : Str) (ms1.map f++ms2.map g)=true:=by refine bY ?_ (by decide +kernel);have a:=qqs h1;have b:=qqs h2;rw[aQ,List.sum_append,ay,ac,ac];lia
def qxw (C CR CW:Aj):Sp:=λvs H Q _=>∃(o:Ho) (a:AH) (as:List AH) (NM:List Str),vs=[.ref o.x]/\VH C CR CW H o (a::as)/\Nam NM a/\NM.length<60/\(∀n∈NM,n.length<=100)/\∀H' ms1 ms2,Same H H'->SrtN (λn=>(a.bk.rs n).isSome) ms1->SrtN (λn=>(a.bk.ws n).isSome) ms2->Q (.str (jn a.bk ms1 ms2)) H'
include T in
theorem qx4 (F:Fun K "house_text" "house_text" zbm f fd)(zgx:MCal P w K mg base qq "names" 1 (qvg qq))(zgy:Cal P w K mg base "road_row" 3 (Y9 qq qp qz))(zgz:Cal P w K mg base "walker_row" 3 (Qs qq qp qz)) :
  FK P w K mg base 4 f fd ["house"] (qxw qq qp qz):=by
 have sc:=qxd;refine F.okX sc (λvs H Q E h=>by obtain⟨_,_,_,_,rfl,_⟩:=h;rfl) λ_ _ _ _ H vs Q E hr h=>?_;obtain⟨o,a,as,NM,rfl,v,nm,lN,U,k⟩:=h;obtain⟨dx,hx⟩:=v.h.hs.ob;obtain⟨eR,nR⟩:=um v.h.nR v.h.fR;obtain⟨eW,nW⟩:=um v.h.nW v.h.fW;have ak:=v.lens nm;have an:(1000000:Nat)<sizeLine:=by decide
 refine⟨_,(qu (Wq (uh (pv 0) T.clH zgx (hr.mono ⋯) q8) (Q1 rfl (zy (xf (i:=1)) (zy (xf (i:=2)) y8))))
   (qu (w6 (i:=3) (wg Qz (vm (M:=[0]) rfl rfl (by walk_at "cap") (by walk_at "has") (by walk_at "cix") rfl (by decide +kernel) rfl (show List.Nodup (["name","house"]:List Str) by decide +kernel) (v3 (pv 1)) (λ_ _ _ _ _=>(wy zgy (hr.mono ⋯) rfl qk6 (wv (pv 1) (wv (pv 0) qk))))) (vm (M:=[0]) rfl rfl (by walk_at "cap") (by walk_at "has") (by walk_at "cix") rfl (by decide +kernel) rfl (show List.Nodup (["name","house"]:List Str) by decide +kernel) (v3 (pv 2)) (λ_ _ _ _ _=>(wy zgz (hr.mono ⋯) rfl qk6 (wv (pv 1) (wv (pv 0) qk)))))))
   (qm (w8 (kh aY cn cr Z2 wt (wv (pv 3) qk)))))),?_⟩
 dsimp only [W9];refine⟨_,rfl,o.x,dx,_,rfl,hx,zf,o.x,o.dr,o.dw,o.dd,o.R,o.W,_,_,_,rfl,v.h.hs,eR,⋯,eW,⋯,λq l1 l2 ms1 ms2 H1 O S w1 p2 w2 f1 f2 fq=>?_⟩;have S1:SrtN (λn=>(a.bk.rs n).isSome) ms1:=by
  refine⟨S.nodup_iff.mpr nR,λn=>?_,w1⟩;rw[S.mem_iff,Q2 v.h.nR v.h.fR];have:=v.rep.r n;show _↔(a.rs n).isSome=true;cases e:a.rs n with
  |none=>rw[e]at this;rw[show wp o.R (.inr n)=none from this];exact⟨(λz=>nomatch z),(λz=>nomatch z)⟩
  |some hs=>rw[e]at this;obtain⟨r,e1,_⟩:=this;rw[e1];exact⟨λ_=>rfl,λ_=>rfl⟩
 have S2:SrtN (λn=>(a.bk.ws n).isSome) ms2:=by
  refine⟨p2.nodup_iff.mpr nW,λn=>?_,w2⟩;rw[p2.mem_iff,Q2 v.h.nW v.h.fW];have:=v.rep.w n;show _↔((a.ws n).map _).isSome=true;cases e:a.ws n with
  |none=>rw[e]at this;rw[show wp o.W (.inr n)=none from this];exact⟨(λz=>nomatch z),(λz=>nomatch z)⟩
  |some hs=>rw[e]at this;obtain⟨r,_,_,e1,_⟩:=this;rw[e1];exact⟨λ_=>rfl,λ_=>rfl⟩
 have g1:∀n∈ms1,n.length<=100/\∃hs,a.rs n=some hs:=λn I=>by have h:(a.rs n).isSome=true:=(S1.2.1 n).mp I;exact⟨U n (nm.r n h),aH.mp h⟩
 have g2:∀n∈ms2,n.length<=100/\∃w,a.ws n=some w/\w.wh.length<=100:=λn I=>by have h:((a.ws n).map λw=>(w.wh,w.pt)).isSome=true:=(S2.2.1 n).mp I;rw[cW]at h;obtain⟨w,e⟩:=aH.mp h;obtain⟨_,hs,er,_⟩:=v.rep.ok.wo n w e;exact⟨U n (nm.w n h),w,e,U _ (nm.r _ (by rw[er];rfl))⟩
 have r1:∀n∈ms1,(zr a.bk n).length<=1000:=λn I=>by obtain⟨J,hs,e⟩:=g1 n I;unfold zr;rw[show a.bk.rs n=some hs from e];exact Qt (v.rep.ok.lo n hs e) J
 have e2:∀n w,a.ws n=some w->a.bk.ws n=some (w.wh,w.pt):=λn w e=>by show(a.ws n).map _=_;rw[e];rfl
 have r2:∀n∈ms2,(zm a.bk n).length<=1000:=λn I=>by obtain⟨J,w,e,Z⟩:=g2 n I;obtain⟨_,hs,_,hp⟩:=v.rep.ok.wo n w e;have rg:=hp.rng;unfold zm;rw[e2 n w e];exact Q4 J Z ⟨by show 0<=w.pt.1;lia,by show w.pt.1<=_;lia⟩ ⟨by show 0<=w.pt.2;lia,by show w.pt.2<=_;lia⟩
 have aj:ms1.length<=60:=by rw[S.length_eq,ac];lia
 have ai:ms2.length<=60:=by rw[p2.length_eq,ac];lia
 refine⟨q,exI rfl ⟨SqT.of fq,rfl,_,_,rfl,_,_,rfl,rfl,?_⟩⟩;refine exI rfl ⟨l1,rfl,⟨_,SqL.of f1⟩,yk (λx=>match x with|.str n=>.str (zr a.bk n)|_=>.non) (λx b=>by split <;> exactλz=>nomatch z) (SqL.of f1) (by rw[ac];lia) (λx H2 R ad s2 hR=>?_) λc1 H2 n1 s2 f3=>?_⟩
 .obtain⟨n,I,rfl⟩:=av.mp ad;obtain⟨J,hs,e⟩:=g1 n I;refine exI rfl (exI rfl ⟨o,a,as,n,hs,rfl,v.same (O.trans s2),e,J,λH3 L=>?_⟩);have:=hR H3 L;dsimp only at this;unfold zr at this;rw[show a.bk.rs n=some hs from e]at this;exact this
 refine exI rfl ⟨l2,rfl,⟨_,SqL.of (s2 _ _ f2)⟩,yk (λx=>match x with|.str n=>.str (zm a.bk n)|_=>.non) (λx b=>by split <;> exactλz=>nomatch z) (SqL.of (s2 _ _ f2)) (by rw[ac];lia) (λx H3 R aa L hR=>?_) λc2 H3 n2 L f4=>?_⟩
 .obtain⟨n,I,rfl⟩:=av.mp aa;obtain⟨J,w,e,Z⟩:=g2 n I;refine exI rfl (exI rfl ⟨o,a,as,n,w,rfl,v.same ((O.trans s2).trans L),e,J,Z,λH4 s4=>?_⟩);have:=hR H4 s4;dsimp only at this;unfold zm at this;rw[e2 n w e]at this;exact this
 have m1:(ms1.map V.str).map (λx=>match x with|.str n=>V.str (zr a.bk n)|_=>.non)=(ms1.map (zr a.bk)).map V.str:=by rw[aW,aW];rfl
 have m2:(ms2.map V.str).map (λx=>match x with|.str n=>V.str (zm a.bk n)|_=>.non)=(ms2.map (zm a.bk)).map V.str:=by rw[aW,aW];rfl
 rw[m1]at f3;rw[m2]at f4;refine⟨c1,c2,_,_,rfl,rfl,L _ _ f3,f4,by simp only[ac];lia,λp np=>?_⟩;refine⟨rfl,exI rfl ⟨_,_,ms1.map (zr a.bk)++ms2.map (zm a.bk),rfl,rfl,SqL.of (by rw[aQ];exact qy),Jd r1 r2 ⋯ ⋯,?_⟩⟩;exact k _ ms1 ms2 (((O.trans s2).trans L).trans (Same.upd np)) S1 S2
theorem wk1 (h:hs≠[]):("road " : Str)++n ++ " " ++ Txt.join " " (hs.map xv)=Qj n hs:=by
 unfold Qj;rw[show Txt.join " " (hs.map xv)=Str.join " " (hs.map xv) from bx _ _,show Txt.join " " (("road" : Str)::n::hs.map xv)=Str.join " " (("road" : Str)::n::hs.map xv) from bx _ _];cases hs with
 |nil=>exact absurd rfl h
 |cons i l =>
  show _ = "road" ++ " " ++ (n ++ " " ++ Str.join " " ((i::l).map xv));refine Wh ?_;simp only[Yy];have e:("road " : Str).cps.toList=("road" : Str).cps.toList++(" " : Str).cps.toList:=by decide +kernel
  rw[e];simp only[cz]
theorem wv1 (n wh:Str)(pt:Int×Int):("walker " : Str)++n ++ " " ++ wh ++ " " ++ xv pt.1 ++ " " ++ xv pt.2=uy n wh pt:=by unfold uy;rw[PySem.W.KT.empty_app]
theorem qjf (lo:xy hs):JoinOk " " (hs.map xv)=true:=by obtain⟨h1,h2⟩:=z7 lo;have:=Yc h2;refine bY ?_ (by decide +kernel);rw[ac];lia
theorem qxv (lo:xy hs):(Txt.join " " (hs.map xv)).length<=300:=by obtain⟨h1,h2⟩:=z7 lo;have:=Yc h2;rw[show Txt.join " " (hs.map xv)=Str.join " " (hs.map xv) from bx _ _];refine aX (cf _ _) ?_;rw[show(" " : Str).length=1 by decide +kernel,ac];lia
theorem BP.in_r (h:BP H R W b)(n:Str):(wp R (.inr n)).isSome=(b.rs n).isSome:=by
 cases e:b.rs n with
 |none=>rw[h.noR e];rfl
 |some hs=>obtain⟨_,p,e1,_⟩:=h.row e;rw[e1];rfl
theorem BP.in_w (h:BP H R W b)(n:Str):(wp W (.inr n)).isSome=(b.ws n).isSome:=by
 cases e:b.ws n with
 |none=>rw[h.noW e];rfl
 |some hs=>obtain⟨p,e1,_⟩:=h.wlk e;rw[e1];rfl
variable {ms:List Str}{i:Nat}
theorem qyv (e:(ms.map V.str)[i]?=some v):∃n,v=.str n/\n∈ms/\ms.take (i+1)=ms.take i++[n]:=by
 rw[aD]at e;cases h:ms[i]? with
 |none=>rw[h]at e;cases e
 |some n =>
  rw[h]at e;cases e;exact⟨n,rfl,bO h,by rw[cX,h];rfl⟩
def qkc:Sp:=λvs H Q _=>∃(dr dw:Aj) (R W:List (Key×V)) (b:BA) (NM:List Str),vs=[.ref dr,.ref dw]/\B2 H dr dw R W b/\BOk NM b/\NM.length<60/\(∀n∈NM,n.length<=100)/\∀H' ms1 ms2,Same H H'->SrtN (λn=>(b.rs n).isSome) ms1->SrtN (λn=>(b.ws n).isSome) ms2->Q (.str (jn b ms1 ms2)) H'
include T in
theorem wvm (F:Fun K "_law_text" "_law_text" zbw f fd):FK P w K mg base 1 f fd ["_law_roads","_law_walkers"] qkc:=by
 have sc:=qk3;refine F.okX sc (λvs H Q E h=>by obtain⟨_,_,_,_,_,_,rfl,_⟩:=h;rfl) λ_ _ _ _ H vs Q E hr h=>?_;obtain⟨dr,dw,R,W,b,NM,rfl,I,O,lN,S,k⟩:=h;obtain⟨eR,nR⟩:=um I.bp.nR I.bp.fR;obtain⟨eW,nW⟩:=um I.bp.nW I.bp.fW;have a1:=I.bp.lens O;have a2:(1000000:Nat)<sizeLine:=by decide
 have z:∀m:Nat,m<=1000->m<=sizeLine:=λm h=>by lia
 refine⟨_,(qu (w6 (i:=2) (vj qk))
   (qu (ju bd rfl (v3 (wn (uk) rfl T.sorted_ bX (z9 (zv (Zc rfl) rfl T.list_ bR (wv (pv 0) qk)) qk))) (xf (i:=3)) (qm (zk (kh bD bV bW jy (pv 2) (zj (wg xg (wg xg (wg xg wt (pv 3)) wt) (kh aY cn cr Z2 wt (xh (vm (M:=[]) rfl rfl (by walk_at "cap") (by walk_at "has") (by walk_at "cix") rfl (by decide +kernel) rfl (show List.Nodup (["_law_height"]:List Str) by decide +kernel) (v3 (Wu (js hr) (pv 0) (pv 3) (λ_ _=>rfl))) (λ_ _ _ _ _=>(zv jt rfl T.str_ cT (wv (pv 0) qk)))) qk))) qk)))))
   (qu (ju bd rfl (v3 (wn (uk) rfl T.sorted_ bX (z9 (zv (Zc rfl) rfl T.list_ bR (wv (pv 1) qk)) qk))) (xf (i:=3)) (qu (Wq (Wu (js hr) (pv 1) (pv 3) (λ_ _=>rfl)) (Q1 rfl (zy (xf (i:=4)) (zy (xf (i:=5)) (zy (xf (i:=6)) y8)))))
   (qm (zk (kh bD bV bW jy (pv 2) (zj (wg xg (wg xg (wg xg (wg xg (wg xg (wg xg (wg xg wt (pv 3)) wt) (pv 4)) wt) (zv jt rfl T.str_ cT (wv (pv 5) qk))) wt) (zv jt rfl T.str_ cT (wv (pv 6) qk))) qk))))))
   (qm (w8 (kh aY cn cr Z2 wt (wv (pv 2) qk))))))),?_⟩
 refine⟨sz0,λp np=>?_⟩;have s0:Same H (upd H p (.lst [])):=Same.upd np;refine exI rfl ⟨_,_,_,rfl,.inl (s0 _ _ I.r),eR,λl0 n0=>?_⟩;refine⟨_,_,rfl,SqL.of qy,by rw[ac];lia,λl1 ms1 n1 p1 w1=>?_⟩;have S1:SrtN (λn=>(b.rs n).isSome) ms1:=⟨p1.nodup_iff.mpr nR,λn=>by rw[p1.mem_iff,Q2 I.bp.nR I.bp.fR,I.bp.in_r],w1⟩;have a0:ms1.length<=60:=by rw[p1.length_eq,ac];lia
 have ai:l0≠p:=λq=>by rw[q,qy]at n0;cases n0
 have ad:l1≠p:=λq=>by rw[q,wj ai.symm,qy]at n1;cases n1
 have e5:("road " : Str).length=5:=by decide +kernel
 have e7:("walker " : Str).length=7:=by decide +kernel
 have e1:(" " : Str).length=1:=by decide +kernel
 refine⟨l1,rfl,⟨_,SqL.of qy⟩,uc (xs:=ms1.map V.str) (λi σ H1=>∃y,Same H H1/\H1 p=some (.lst (((ms1.take i).map (zr b)).map V.str))/\H1 l1=some (.lst (ms1.map V.str))/\σ=[some (.ref dr),some (.ref dw),some (.ref p),y,none,none,none])
  ⟨_,(s0.trans (Same.upd n0)).trans (Same.upd n1),by rw[wj ad.symm,wj ai.symm];exact qy,qy,rfl⟩ (λi σ H1 _ h=>by obtain⟨_,_,_,h,_⟩:=h;exact SqL.of h) ?_ ?_⟩
 .rintro i x σ H1 hi ⟨y,s1,f1,f2,rfl⟩;obtain⟨n,rfl,J,ht⟩:=qyv hi;obtain⟨hs,L⟩:=aH.mp ((S1.2.1 n).mp J);have aa:=I.same s1;obtain⟨lo,q,eq,fq⟩:=aa.bp.row L;have ln:=S n (O.lo n hs L).2.2;have dg:DGet H1 dr (.str n) (wp R (.inr n)):=DGet.k (k:=.inr n) aa.r;rw[eq]at dg;have jl:=qxv lo;refine exI rfl ⟨.inl ⟨rfl,_,SqL.of f1⟩,exI rfl (xx rfl rfl ⟨z _ ⋯,xx rfl rfl ⟨z _ (by simp only[zu];lia),rfl,exI rfl (exI rfl ⟨dr,exI rfl ⟨dg,q,rfl,⟨_,SqL.of fq⟩,qzd (λx=>match x with|.int i=>.str (xv i)|_=>.non) (SqL.of fq) (by rw[ac];have:=(z7 lo).1;lia) (λx H' R' ak s2 hR=>?_) λc U=>?_⟩⟩)⟩⟩)⟩
  .obtain⟨j,hj,rfl⟩:=av.mp ak;have:=(z7 lo).2 j hj;exact exI rfl (exI rfl ⟨Wd this.1 this.2,hR⟩)
  .have e:(hs.map V.int).map (λx=>match x with|.int i=>V.str (xv i)|_=>.non)=(hs.map xv).map V.str:=by rw[aW,aW];rfl
   rw[e];have pc:p≠c:=λq=>by rw[<-q,f1]at U;cases U
   have lc:l1≠c:=λq=>by rw[<-q,f2]at U;cases U
   refine⟨_,c,hs.map xv,rfl,rfl,SqL.of qy,qjf lo,_,_,rfl,rfl,z _ (by simp only[zu];lia),p,_,_,rfl,rfl,by rw[wj pc];exact f1,by simp only[ac,bA];lia,?_⟩;refine⟨_,Same.upd2 (s1.trans (Same.upd U)) np,?_,by rw[wj ad,wj lc];exact f2,rfl⟩;rw[ht,aQ,aQ];have e3:zr b n=("road " : Str)++n ++ " " ++ Txt.join " " (hs.map xv):=by unfold zr;rw[L];refine(wk1 (λq=>?_)).symm;have:=lo.1;rw[show hs=[] from q]at this;cases this
   rw[show[n].map (zr b)=[zr b n] from rfl,e3];exact qy
 rintro σ H1 ⟨y,s1,f1,f2,rfl⟩;rw[ac,cE]at f1;have aa:=I.same s1;refine exI rfl ⟨_,_,_,rfl,.inl aa.w,eW,λl2 n2=>?_⟩;refine⟨_,_,rfl,SqL.of qy,by rw[ac];lia,λl3 ms2 n3 p2 w2=>?_⟩;have S2:SrtN (λn=>(b.ws n).isSome) ms2:=⟨p2.nodup_iff.mpr nW,λn=>by rw[p2.mem_iff,Q2 I.bp.nW I.bp.fW,I.bp.in_w],w2⟩;have an:ms2.length<=60:=by rw[p2.length_eq,ac];lia
 have s2:=s1.trans (Same.upd (o:=.lst ((W.map qkq).map V.str)) n2);have s3:=s2.trans (Same.upd (o:=.lst (ms2.map V.str)) n3);have p3:l3≠p:=λq=>by rw[q,Same.upd n2 _ _ f1]at n3;cases n3
 refine⟨l3,rfl,⟨_,SqL.of qy⟩,uc (xs:=ms2.map V.str) (λi σ H1=>∃y1 y2 y3 y4,Same H H1/\H1 p=some (.lst ((ms1.map (zr b)++(ms2.take i).map (zm b)).map V.str))/\H1 l3=some (.lst (ms2.map V.str))/\σ=[some (.ref dr),some (.ref dw),some (.ref p),y1,y2,y3,y4])
  ⟨_,_,_,_,s3,by rw[List.take_zero,cx,bK];exact Same.upd n3 _ _ (Same.upd n2 _ _ f1),qy,rfl⟩ (λi σ H1 _ h=>by obtain⟨_,_,_,_,_,_,h,_⟩:=h;exact SqL.of h) ?_ ?_⟩
 .rintro i x σ H2 hi ⟨y1,y2,y3,y4,sx,g1,g2,rfl⟩;obtain⟨n,rfl,J,ht⟩:=qyv hi;obtain⟨v,ev⟩:=aH.mp ((S2.2.1 n).mp J);have aj:=I.same sx;obtain⟨q,eq,fq⟩:=aj.bp.wlk ev;obtain⟨nn,Z,hs,L,hp⟩:=O.wo n v ev;have ln:=S n Z;have lw:=S v.1 (O.lo v.1 hs L).2.2;have rg:=hp.rng;have q1:=yd (i:=v.2.1) ⋯ ⋯;have q2:=yd (i:=v.2.2) ⋯ ⋯;unfold xv at q1 q2;have dg:DGet H2 dw (.str n) (wp W (.inr n)):=DGet.k (k:=.inr n) aj.w;rw[eq]at dg;refine exI rfl (exI rfl ⟨dw,exI rfl ⟨dg,q,exI rfl ⟨SqT.of fq,rfl,_,_,rfl,_,_,rfl,_,_,rfl,rfl,?_⟩⟩⟩);refine exI rfl ⟨.inl ⟨rfl,_,SqL.of g1⟩,exI rfl (xx rfl rfl ⟨z _ ?_,xx rfl rfl ⟨z _ ?_,exI rfl (xx rfl rfl ⟨z _ ?_,xx rfl rfl ⟨z _ ?_,exI rfl (exI rfl ⟨Wd ⋯ ⋯,xx rfl rfl ⟨z _ ?_,xx rfl rfl ⟨z _ ?_,exI rfl (exI rfl ⟨Wd ⋯ ⋯,xx rfl rfl ⟨z _ ?_,p,xx rfl rfl ⟨g1,?_,?_⟩⟩⟩)⟩⟩⟩)⟩⟩)⟩⟩)⟩
  any_goals (first | lia | (simp only[zu];lia))
  .simp only[ac,ay,bA];lia
  .refine⟨_,_,_,_,Same.upd2 sx np,?_,by rw[wj p3];exact g2,rfl⟩;rw[ht,aQ (l₁:=ms2.take i),<-cz,aQ (l₂:=[n].map (zm b))];have e3:zm b n=("walker " : Str)++n ++ " " ++ v.1 ++ " " ++ xv v.2.1 ++ " " ++ xv v.2.2:=by unfold zm;rw[ev];exact(wv1 n v.1 v.2).symm
   rw[show[n].map (zm b)=[zm b n] from rfl,e3];exact qy
 rintro σ H2 ⟨y1,y2,y3,y4,sx,g1,g2,rfl⟩;rw[ac,cE]at g1;have r1:∀n∈ms1,(zr b n).length<=1000:=λn J=>by obtain⟨hs,e⟩:=aH.mp ((S1.2.1 n).mp J);obtain⟨lo,_,Z⟩:=O.lo n hs e;unfold zr;rw[e];exact Qt lo (S n Z)
 have r2:∀n∈ms2,(zm b n).length<=1000:=λn J=>by obtain⟨v,e⟩:=aH.mp ((S2.2.1 n).mp J);obtain⟨_,Z,hs,L,hp⟩:=O.wo n v e;have rg:=hp.rng;unfold zm;rw[e];exact Q4 (S n Z) (S v.1 (O.lo v.1 hs L).2.2) ⟨by show 0<=v.2.1;lia,by show v.2.1<=_;lia⟩ ⟨by show 0<=v.2.2;lia,by show v.2.2<=_;lia⟩
 exact⟨rfl,exI rfl ⟨_,_,_,rfl,rfl,SqL.of g1,Jd r1 r2 ⋯ ⋯,k _ ms1 ms2 sx S1 S2⟩⟩
theorem wzk {wd:Int}(h:InW hs wd)(h1:1<=wd)(h2:wd<=24):xy hs:=by obtain⟨a,b⟩:=h;exact⟨⋯,⋯,λx hx=>by have:=b x hx;lia⟩
theorem qqc {t b c:Int}(hb:1<=b)(hc:1<=c):xu (t*c) (b*c)=xu t b:=by have:1*1<=b*c:=fL hb hc ⋯ ⋯;refine(wkk ⋯ hb).mp ?_;rw[Int.mul_assoc,Int.mul_comm c b]
theorem wz9 {t b c wd mo:Int}(lo:xy hs)(hw:wd=(hs.length:Int)-1)(b1:1<=b)(b2:b<=mo)(m:mo<=40)(c1:1<=c)(t0:0<=t)(t1:t<=wd*b):HPt hs (xu (t*c) (b*c)):=by rw[qqc b1 c1];have I:Qy hs t b:=⟨t0,by rw[<-hw];exact t1⟩;have F:=pt_low b1 I;exact⟨lo,⟨F.1,dQ _,F.2.2.1,F.2.2.2⟩,by have:=F.2.1;lia⟩
theorem at_two {r:Int}(x y:Int)(h0:0<=r)(h1:r<2):atI [V.int x,V.int y] r=some (.int (if r=1 then y else x)):=by
 have:r=0\/r=1:=by lia
 rcases this with rfl|rfl <;> rfl
theorem at_int {c:Prop}[Decidable c](x y:Int):atI [V.int x,V.int y] (if decide c=true then 1 else 0)=some (.int (if c then y else x)):=by
 by_cases h:c
 .rw[am h,am (aM h)];rfl
 .rw[al h,al (by rw[aN h];exact aI)];rfl
theorem wqn {L:List (List Nat)}{j:Nat}(hj:j<L.length):atI (L.map λcs=>V.str (vb cs)) ((0:Int)+j)=some (.str (vb L[j])):=by rw[Int.zero_add];refine v8 ?_;rw[aD,ag hj];rfl
def StandK (H:Hp)(Q:VK):Prop:=∀(q dr dw:Aj) (R W:List (Key×V)) (b:BA) (NM:List Str) (H':Hp),Same H H'->H dr=none->H dw=none->H' q=some (.tup [.ref dr,.ref dw])->B2 H' dr dw R W b->BOk NM b->NM.length=5->(∀n∈NM,n.length<=12)->Q (.ref q) H'
def qv0 (K:Aa):Sp:=λvs H Q _=>∃(a:Aj) (ns:List Int) (i:Int),vs=[.ref a,.int i]/\SqL K H a (ns.map V.int)/\0<=i/\StandK H Q
include T in
theorem wz7 (F:Fun K "_law_stand" "_law_stand" zbv f fd)(zg0:Cal P w K mg base "_law_names" 3 (qw2 K))(zaa:Cal P w K mg base "_law_pick" 2 (yb K))(zg1:Cal P w K mg base "_law_heights" 4 (Yp K))(zg2:Cal P w K mg base "_law_spot" 3 (qkb K))(zg3:Cal P w K mg base "_law_low" 2 wvd):FK P w K mg base 5 f fd ["_law_script","_law_at"] (qv0 K):=by
 have sc:=qx2;refine F.okX sc (λvs H Q E h=>by obtain⟨_,_,_,rfl,_⟩:=h;rfl) λ_ _ _ _ H vs Q E hr h=>?_;obtain⟨a,S,i,rfl,hS,i0,k⟩:=h;have bf:(1000000:Nat)<sizeLine:=by decide
 have sm:∀z:Int,-(2 ^ 64)<=z->z<=2 ^ 64->Sm 65 z:=λz z1 z2=>Sm.small z1 z2 ⋯;refine⟨_,(qu (w6 (i:=2) (wCA zg0 (wv (pv 0) (wv (pv 1) qk))))
   (qu (w6 (i:=3) yc)
   (qu (w6 (i:=4) yc)
   (qu (ju bd rfl (z8 rfl T.range_ (xq qj qk)) (xf (i:=5)) (qm (xc (wc jr (wCA zaa (wv (pv 0) (zj (wg xb (pv 1) qj) (wv (pv 5) (xq qj qk))))) qj (wm _)) (qm (qqy (js hr) (pv 3) (xn ix_list (pv 2) (pv 5) (λ_ _=>rfl)) (wCA zg1 (wv (pv 0) (zj (wg xb (wg xb (pv 1) qj) (pv 5)) (vz (xn ix_list (vj (xq qj (xq qj qk))) (wCA zaa (wv (pv 0) (zj (wg xb (pv 1) qj) (zj (wg xb qj (pv 5)) (xq qj qk))))) (λ_ _=>rfl)) qk)))) rfl)) xz)))
   (qu (w6 (i:=6) (wn (uk) rfl T.sorted_ bX (z9 (zv (Zc rfl) rfl T.list_ bR (wv (pv 3) qk)) qk)))
   (qu (ju bd rfl (z8 rfl T.range_ (xq qj qk)) (xf (i:=5)) (qm (xc (PW.pt (Zu (wc jh (wn xk rfl T.len_ aB (wv (pv 6) qk)) qj (wm _)) (ut (wc jr (wCA zaa (wv (pv 0) (zj (wg xb (pv 1) qj) (zj (wg xb qj (pv 5)) (xq qj qk))))) qj (wm _))))) (qu (w6 (i:=7) (xn ix_list (pv 6) (wCA zaa (wv (pv 0) (zj (wg xb (pv 1) qj) (zj (wg xb qj (pv 5)) (z9 (wn xk rfl T.len_ aB (wv (pv 6) qk)) qk))))) (λ_ _=>rfl)))
   (qu (w6 (i:=8) (wg Qh (wn xk rfl T.len_ aB (vz (Wu (js hr) (pv 3) (pv 7) (λ_ _=>rfl)) qk)) qj))
   (qu (w6 (i:=9) (wCA zg2 (wv (pv 0) (zj (wg xb (wg xb (pv 1) qj) (pv 5)) (wv (pv 8) (vz (xn ix_list (vj (xq qj (xq qj qk))) (zv qz0 rfl T.int_ cu (xh (zp jh (pv 8) qj (wm _)) qk)) (λ_ _=>rfl)) qk))))))
   (qu (Wq (wCA zg3 (vz (xn ix_tup (pv 9) qj (λ_ _=>rfl)) (vz (xn ix_tup (pv 9) qj (λ_ _=>rfl)) qk))) (Q1 rfl (zy (xf (i:=10)) (zy (xf (i:=11)) y8))))
   (qm (qqy (js hr) (pv 4) (xn ix_list (pv 2) (pv 5) (λ_ _=>rfl)) (jz (wv (pv 7) (wv (pv 10) (wv (pv 11) qk)))) rfl)))))) xz)))
   (qm (w8 (jz (wv (pv 3) (wv (pv 4) qk))))))))))),?_⟩
 refine exI rfl (exI rfl ⟨a,S,i,rfl,hS,i0,λl L H1 s1 nl f1 lL hL nd=>?_⟩);refineλdr nr=>?_;refineλdw nw=>?_;have ak:dr≠dw:=λq=>by rw[<-q,qy]at nw;cases nw
 have hN:∀(j:Nat) (J:j<L.length),xj (vb L[j])=true/\vb L[j]∈L.map vb:=λj J=>by obtain⟨c1,c2,c3⟩:=hL _ (bt J);exact⟨wjr c1 c2 c3,av.mpr ⟨_,bt J,rfl⟩⟩
 have a1:=s1.free nr;have a0:H dw=none:=(s1.trans (Same.upd nr)).free nw;have s3:=(s1.trans (Same.upd (o:=.dK []) nr)).trans (Same.upd (o:=.dK []) nw);have ai:dr≠l:=λq=>by rw[q,f1]at nr;cases nr
 have an:dw≠l:=λq=>by rw[q,wj ai.symm,f1]at nw;cases nw
 have b0:B2 (upd (upd H1 dr (.dK [])) dw (.dK [])) dr dw [] [] AH.nil.bk:=⟨by rw[wj ak];exact qy,qy,ak,bj,bj,(λm v e=>nomatch e),(λm v e=>nomatch e),(λn=>rfl),(λn=>rfl)⟩;refine⟨_,rfl,⋯,⋯,yw (n:=(5:Int).toNat) (λj σ H2=>∃(R:List (Key×V)) (b:BA) (z:Option V),Same H H2/\B2 H2 dr dw R [] b/\BOk (L.map vb) b/\(∀n,b.ws n=none)/\H2 l=some (.lst (L.map λcs=>V.str (vb cs)))/\σ=[some (.ref a),some (.int i),some (.ref l),some (.ref dr),some (.ref dw),z,none,none,none,none,none,none])
  ⟨[],_,_,s3,b0,BOk.nil,(λ_=>rfl),by rw[wj an.symm,wj ai.symm];exact f1,rfl⟩ ?_ ?_⟩
 .rintro j σ H2 J ⟨R,b,z,s2,hb,bo,hw,f2,rfl⟩;have J:j<5:=J;refine exI rfl (exI rfl (xx rfl rfl (exI rfl ⟨a,S,_,_,_,rfl,s2.sql hS,⋯,⋯,⋯,⋯,λr _ l0 u0=>?_⟩)));refine xx rfl rfl (exI rfl (zd (λe=>?_) λe=>⟨R,b,_,s2,hb,bo,hw,f2,rfl⟩));refine exI rfl (exI rfl (xx rfl rfl (exI rfl (xx rfl rfl ⟨sz2,λp np=>?_⟩))));have I:=s2.trans (Same.upd (o:=.lst [.int 4,.int 24]) np);refine exI rfl (exI rfl (xx rfl rfl (exI rfl (xx rfl rfl ⟨a,S,_,_,_,rfl,I.sql hS,⋯,⋯,⋯,⋯,λr' _ l1 u1=>?_⟩))));refine⟨p,_,_,_,rfl,rfl,SqL.of qy,at_two 4 24 l1 u1,a,S,_,_,rfl,I.sql hS,⋯,(by split <;> lia),(by split <;> lia),λq hs wd U h1 h2 iw=>?_⟩;have lo:xy hs:=wzk iw h1 (by split at h2 <;> lia);have s5:=I.trans (Same.upd (o:=.lst (hs.map V.int)) U);have sb:=(Same.upd (H:=H2) (o:=.lst [.int 4,.int 24]) np).trans (Same.upd (o:=.lst (hs.map V.int)) U);have ad:=hb.same sb;have f5:=sb _ _ f2;have Z:j<L.length:=by lia
  have a5:=ad.bp.lens bo;have ll:(L.map vb).length=5:=by rw[ac];exact lL
  refine exI rfl (exI rfl (exI rfl ⟨l,_,_,_,rfl,rfl,SqL.of f5,wqn Z,dr,exI rfl ⟨DPut.k (k:=.inr (vb L[j])) ad.r ⋯,?_⟩⟩));refine⟨_,b.putR (vb L[j]) hs,_,Same.upd2 s5 a1,ad.setR (ad.bp.putR lo qy),bo.putR lo (hN j Z).1 (hN j Z).2 (λm w e'=>by rw[hw m]at e';cases e'),hw,by rw[wj ai.symm];exact f5,rfl⟩
 .rintro σ H2 ⟨R,b,z,s2,hb,bo,hw,f2,rfl⟩;obtain⟨eR,nR⟩:=um hb.bp.nR hb.bp.fR;have a5:=hb.bp.lens bo;have ll:(L.map vb).length=5:=by rw[ac];exact lL
  refine exI rfl ⟨_,_,_,rfl,.inl hb.r,eR,λl0 n0=>?_⟩;refine⟨_,_,rfl,SqL.of qy,by rw[ac];lia,λkn ms n1 p1 w1=>?_⟩;have lm:ms.length<=5:=by rw[p1.length_eq,ac];lia
  have hm:∀n∈ms,∃hs,b.rs n=some hs:=λn hn=>by refine aH.mp ?_;rw[<-hb.bp.in_r];exact(Q2 hb.bp.nR hb.bp.fR n).mp (p1.mem_iff.mp hn)
  have sk:=(Same.upd (H:=H2) (o:=.lst ((R.map qkq).map V.str)) n0).trans (Same.upd (o:=.lst (ms.map V.str)) n1);have a4:dw≠kn:=λq=>by rw[<-q,Same.upd n0 _ _ hb.w]at n1;cases n1
  refine⟨_,rfl,⋯,⋯,yw (n:=(5:Int).toNat) (λj σ H2=>∃(W:List (Key×V)) (b':BA) (z1 z2 z3 z4 z5 z6:Option V),Same H H2/\B2 H2 dr dw R W b'/\BOk (L.map vb) b'/\b'.rs=b.rs/\H2 l=some (.lst (L.map λcs=>V.str (vb cs)))/\H2 kn=some (.lst (ms.map V.str))/\σ=[some (.ref a),some (.int i),some (.ref l),some (.ref dr),some (.ref dw),z1,some (.ref kn),z2,z3,z4,z5,z6])
   ⟨[],b,_,_,_,_,_,_,s2.trans sk,hb.same sk,bo,rfl,sk _ _ f2,qy,rfl⟩ ?_ ?_⟩
  .rintro j σ H3 J ⟨W,b',z1,z2,z3,z4,z5,z6,I,hb',bo',er',f3,fk,rfl⟩;have J:j<5:=J;refine exI rfl ⟨kn,exI rfl ⟨.inl (SqL.of fk),xx rfl rfl (exI rfl (zd (λe1=>?_) λ_=>jq ⟨W,b',_,_,_,_,_,_,I,hb',bo',er',f3,fk,rfl⟩))⟩⟩;rw[ac]at e1;refine exI rfl (exI rfl (xx rfl rfl (exI rfl (xx rfl rfl ⟨a,S,_,_,_,rfl,I.sql hS,⋯,⋯,⋯,⋯,λr _ l0 u0=>?_⟩))));refine xx rfl rfl (exI rfl (zd (λe=>?_) λe=>⟨W,b',_,_,_,_,_,_,I,hb',bo',er',f3,fk,rfl⟩));refine exI rfl (exI rfl (exI rfl (xx rfl rfl (exI rfl (xx rfl rfl (exI rfl ⟨kn,exI rfl ⟨.inl (SqL.of fk),a,S,_,_,_,rfl,I.sql hS,⋯,⋯,⋯,(by rw[ac];lia),λr1 _ l1 u1=>?_⟩⟩))))));rw[ac]at u1;have a3:r1.toNat<ms.length:=by lia
   have at1:atI (ms.map V.str) r1=some (.str ms[r1.toNat]):=by have:=v8 (xs:=ms.map V.str) (j:=r1.toNat) (v:=.str ms[r1.toNat]) (by rw[aD,ag a3];rfl);rwa [cC l1]at this
   obtain⟨hs,eh⟩:=hm _ (bt a3);rw[<-er']at eh;generalize ms[r1.toNat]=wh at at1 eh;obtain⟨lo,p,ep,fp⟩:=hb'.bp.row eh;have dg:DGet H3 dr (.str wh) (wp R (.inr wh)):=DGet.k (k:=.inr wh) hb'.r;rw[ep]at dg;have hl:=lo.1;have a7:=lo.2.1;refine⟨kn,_,_,_,rfl,rfl,SqL.of fk,at1,?_⟩;refine exI rfl (exI rfl ⟨dr,exI rfl ⟨dg,p,exI rfl ⟨.inl (SqL.of fp),xx rfl rfl ?_⟩⟩⟩);rw[ac];obtain⟨mo,aj,m1,m2⟩:∃mo:Int,(if(12:Int)<(hs.length:Int)-1 then(12:Int) else 40)=mo/\12<=mo/\mo<=40:=⟨_,rfl,by split <;> lia,by split <;> lia⟩;refine exI rfl (exI rfl (xx rfl rfl (exI rfl (xx rfl rfl (exI rfl ⟨sz2,λp2 a2=>?_⟩)))));have s5:=I.trans (Same.upd (o:=.lst [.int 40,.int 12]) a2);refine exI rfl (xx rfl rfl (.inr ((exI rfl ⟨p2,_,_,_,rfl,rfl,SqL.of qy,at_int 40 12,a,S,_,_,_,rfl,s5.sql hS,⋯,⋯,⋯,(by rw[aj];lia),(by rw[aj];lia),λq t O c U b1 b2 c1 c2 t0 t1=>?_⟩))));rw[aj]at b2;have a9:1*1<=O*c:=fL b1 c1 ⋯ ⋯;have a8:O*c<=40*3:=fL ⋯ c2 ⋯ ⋯;refine exI rfl ⟨q,_,_,_,rfl,rfl,SqT.of qy,rfl,exI rfl ⟨q,_,_,_,rfl,rfl,SqT.of qy,rfl,_,_,rfl,⋯,Sm.small ⋯ ⋯ ⋯,λu nu=>?_⟩⟩;refine⟨u,exI rfl ⟨SqT.of qy,rfl,_,_,rfl,_,_,rfl,rfl,?_⟩⟩;refine exI rfl (exI rfl (exI rfl ⟨(show 3<=sizeLine by decide),λv nv=>?_⟩));have sv:=(((Same.upd (H:=H3) (o:=.lst [.int 40,.int 12]) a2).trans (Same.upd (o:=.tup [.int (t*c),.int (O*c)]) U)).trans (Same.upd (o:=.tup (ptV (xu (t*c) (O*c)))) nu)).trans (Same.upd (o:=.tup [.str wh,.int (xu (t*c) (O*c)).1,.int (xu (t*c) (O*c)).2]) nv);have aa:=hb'.same sv;have Z:j<L.length:=by lia
   have a6:=aa.bp.lens bo';refine exI rfl (exI rfl (exI rfl ⟨l,_,_,_,rfl,rfl,SqL.of (sv _ _ f3),wqn Z,dw,exI rfl ⟨DPut.k (k:=.inr (vb L[j])) aa.w ⋯,?_⟩⟩));refine⟨_,b'.putW (vb L[j]) (wh,xu (t*c) (O*c)),_,_,_,_,_,_,Same.upd2 (I.trans sv) a0,aa.setW (aa.bp.putW (v:=(wh,xu (t*c) (O*c))) qy),bo'.putW (hN j Z).1 (hN j Z).2 eh (wz9 lo rfl b1 b2 m2 c1 t0 t1),er',by rw[wj an.symm];exact sv _ _ f3,by rw[wj a4.symm];exact sv _ _ fk,rfl⟩
  .rintro σ H3 ⟨W,b',z1,z2,z3,z4,z5,z6,I,hb',bo',er',f3,fk,rfl⟩;refine exI rfl (exI rfl ⟨sz2,λq U=>?_⟩);exact k q dr dw R W b' _ _ (I.trans (Same.upd U)) a1 a0 qy (hb'.same (Same.upd U)) bo' ll (λn hn=>by
    obtain⟨cs,hc,rfl⟩:=av.mp hn
    rw[yz]
    exact(hL cs hc).2.2)
def Qg (c:Nat):Bool:=!(Builtin.Str.occurrences (Str.ofString "0123456789") ⟨#[c]⟩ 0 (Str.ofString "0123456789").length 1).isEmpty
theorem wqp:∀i:Nat,i<1000->1<=(xv (i:Int)).length/\(xv (i:Int)).length<=3/\((List.range (xv (i:Int)).cps.size).all λj=>Qg ((xv (i:Int)).cps.getD j 0))=true:=by decide +kernel
def qkw:Sp:=λvs H Q _=>∃i:Int,vs=[.str (xv i)]/\0<=i/\i<1000/\∀H',Same H H'->Q (.int i) H'
include T in
theorem qv9 (F:Fun K "number_of" "number_of" zal f fd):FK P w K mg base 1 f fd ["word"] qkw:=by
 have U:=Z7;refine F.okX U (λS H Q E h=>by obtain⟨_,rfl,_⟩:=h;rfl) λ_ _ _ _ H S Q E hr h=>?_;obtain⟨i,rfl,J,i1,k⟩:=h;obtain⟨t1,O⟩:=T.zac;obtain⟨t2,L⟩:=T.zad;obtain⟨n1,Z,I⟩:=wqp i.toNat ⋯;rw[cC J]at n1 Z I;have aa:(1000000:Nat)<sizeLine:=by decide
 refine⟨_,(qu (xc (PW.pt (k6 (wc jr (wn x6 rfl T.len_ aB (wv (pv 0) qk)) qj (wm _)) (k6 (wc jh (wn x6 rfl T.len_ aB (wv (pv 0) qk)) (y6 (v:=V.int 3) rfl O ⟨_,rfl⟩) (wm _)) (jk (Qw (Qq (wn (ux rfl) rfl T.all_ qq5 (xh (vm (M:=[]) rfl rfl (by walk_at "cap") (by walk_at "has") (by walk_at "cix") rfl (by decide +kernel) rfl (show List.Nodup (["sign"]:List Str) by decide +kernel) (qw7 (pv 0)) (λ_ _ _ _ _=>(zp Y3 (pv 0) (y6 (v:=V.str "0123456789") rfl L ⟨_,rfl⟩) rfl))) qk)))))))) (qm (z0 rfl T.zab zq rfl T.zae (xq wt qk))) xz)
   (qm (w8 (zv uq rfl T.int_ cu (wv (pv 0) qk))))),?_⟩
 refine⟨_,rfl,_,rfl,⋯,_,_,rfl,rfl,_,rfl,zd (λe=>absurd e ⋯) λ_=>?_⟩;refine⟨_,rfl,_,rfl,⋯,_,_,rfl,rfl,_,rfl,zd (λe=>absurd e ⋯) λ_=>?_⟩;have e0:(xv i).cps.size=(xv i).length:=rfl;refine exI rfl (exI rfl (qq3 (λj=>.bl (Qg ((xv i).cps.getD j 0))) ⋯ (λj H' R hj hs hR=>(exI rfl (xx rfl rfl hR))) λp np=>?_));refine⟨p,(List.range (xv i).cps.size).map λj=>Qg ((xv i).cps.getD j 0),rfl,by rw[aW];exact SqL.new,?_⟩;rw[show((List.range (xv i).cps.size).map λj=>Qg ((xv i).cps.getD j 0)).all id=true by rw[List.all_map];exact I];refine exI rfl (jq ?_);exact⟨_,rfl,_,i,rfl,cU J ⋯,⋯,k _ (Same.upd np)⟩
theorem Qc:(" " : Str)=⟨#[32]⟩:=by decide +kernel
theorem W5:("\n" : Str)=⟨#[10]⟩:=by decide +kernel
theorem Wy (n wh:Str)(pt:Int×Int):uy n wh pt=Str.join ⟨#[32]⟩ [("walker" : Str),n,wh,xv pt.1,xv pt.2]:=by
 rw[<-Qc];unfold uy;show _=("walker" : Str) ++ " " ++ (n ++ " " ++ (wh ++ " " ++ (xv pt.1 ++ " " ++ xv pt.2)));refine Wh ?_;simp only[Yy];have e:Str.empty.cps.toList++("walker " : Str).cps.toList=("walker" : Str).cps.toList++(" " : Str).cps.toList:=by decide +kernel
 rw[e];simp only[cz]
theorem Wb (n:Str)(hs:List Int):Qj n hs=Str.join ⟨#[32]⟩ (("road" : Str)::n::hs.map xv):=by unfold Qj;rw[Qc];exact bx _ _
theorem wkt:∀c:Nat,c<97->Yv c=false:=by decide +kernel
theorem vt (h:xj n=true){c:Nat}(hc:c<97):c∉n.cps.toList:=λm=>by unfold xj at h;rw[bT]at h;obtain⟨i,hi,e⟩:=dS.mp m;have:=bu.mp h.2 i (bc.mpr (by simpa using hi));rw[show n.cps.getD i 0=c by rw[<-e];simp at hi;simp[Array.getD,hi]]at this;rw[wkt c hc]at this;cases this
variable {c:Nat}
theorem km (hc:c=32\/c=10)(i:Int):c∉(xv i).cps.toList:=by
 unfold xv;rcases hc with rfl|rfl
 .exactλh=>(PyProof.Rows.intText_free_32 i).mp h
 .exact PyProof.Rows.int_text_free' 10 ⟨⋯,⋯⟩ i
variable {z:Str}
theorem jm (h:z.length<=1000000):z.length<=sizeLine/\(Builtin.Str.partsBetween z (Builtin.Str.occurrences z ⟨#[c]⟩ 0 z.length (z.length+1)) (⟨#[c]⟩:Str).length).length<=sizeLine:=by
 have F:(1000010:Nat)<sizeLine:=by decide
 refine⟨⋯,?_⟩;rw[PySem.length_partsBetween];have:=PySem.StrLaws.occ_length_le z ⟨#[c]⟩ 0 z.length (z.length+1);lia
theorem cut2 (x y:V)(l:List V):cutV (x::y::l) (some 2) none=l:=by unfold cutV HT.sIx;simp
theorem at0 (x:V)(l:List V):atI (x::l) 0=some x:=v8 (j:=0) rfl
theorem at1 (x y:V)(l:List V):atI (x::y::l) 1=some y:=v8 (j:=1) rfl
def TakeR (C CR CW:Aj)(H:Hp)(o:Ho)(a:AH)(as:List AH)(row:Str)(Q:VK):Prop:=∃(n:Str) (hs:List Int),row=Qj n hs/\xj n=true/\n.length<=100/\a.rs n=none/\xy hs /\
 ∀H1 H' o',Same H H1->Nxt H1 o o'->VH C CR CW H' o' (a.putR n hs::a::as)->Kb [o.dr,o.dw,o.dd] H1 H'->Q .non H'
def TakeW (C CR CW:Aj)(H:Hp)(o:Ho)(a:AH)(as:List AH)(row:Str)(Q:VK):Prop:=∃(n wh:Str) (hs:List Int) (pt:Int×Int),row=uy n wh pt/\xj n=true/\xj wh=true/\n.length<=100/\wh.length<=100/\a.ws n=none/\a.rs wh=some hs/\HPt hs pt /\
 ∀H1 H' o',Same H H1->Nxt H1 o o'->VH C CR CW H' o' (a.putW n ⟨wh,pt,[([.inl pt.1,.inl pt.2],.int 1)]⟩::a::as)->Kb [o.dr,o.dw,o.dd] H1 H'->Q .non H'
def Z9 (C CR CW:Aj):Sp:=λvs H Q _=>∃(o:Ho) (a:AH) (as:List AH) (NM:List Str) (row:Str),vs=[.ref o.x,.str row]/\VH C CR CW H o (a::as)/\Nam NM a/\NM.length<=100/\o.ds.length<=10000/\(TakeR C CR CW H o a as row Q\/TakeW C CR CW H o a as row Q)
include T in
theorem wqc (F:Fun K "take_in" "take_in" zam f fd)(zcn:MCal P w K mg base qq "lay" 4 (qzj K qq qp qc q9 qf))(zco:MCal P w K mg base qq "place" 5 (Wc K qq qp qz qc q9 qr qw qd))(zaj:Cal P w K mg base "number_of" 1 qkw) :
  FK P w K mg base 6 f fd ["house","row"] (Z9 qq qp qz):=by
 have sc:=qwp;refine F.okX sc (λvs H Q E h=>by obtain⟨_,_,_,_,_,rfl,_⟩:=h;rfl) λ_ _ _ _ H vs Q E J h=>?_;obtain⟨o,a,as,NM,ak,rfl,v,nm,lN,ld,h⟩:=h;have an:(1000000:Nat)<sizeLine:=by decide
 refine⟨_,(qu (w6 (i:=2) (kh aY bL bM ym (pv 1) (xq wt qk)))
   (qm (xc (PW.pt (Zu (wc zw (xn ix_list (pv 2) qj (λ_ _=>rfl)) wt (wm _)) (ut (wc jh (wn xk rfl T.len_ aB (wv (pv 2) qk)) qj (wm _))))) (qm (zk (vk (pv 0) T.clH zcn (J.mono ⋯) q8 (vz (xn ix_list (pv 2) qj (λ_ _=>rfl)) (xh (qjr (M:=[]) qzm rfl rfl rfl rfl (by walk_at "cap") (by walk_at "has") (by walk_at "cix") rfl (by decide +kernel) rfl (show List.Nodup (["word"]:List Str) by decide +kernel) (v3 (v6 qvf (pv 2) (jf qj) jd)) (λ_ _ _ _ _ _ _ hE=>(wy zaj (J.mono ⋯) rfl hE (wv (pv 0) qk)))) qk))))) (qm (xc (PW.pt (Zu (wc zw (xn ix_list (pv 2) qj (λ_ _=>rfl)) wt (wm _)) (ut (wc zw (wn xk rfl T.len_ aB (wv (pv 2) qk)) qj (wm _))))) (qm (zk (vk (pv 0) T.clH zco (J.mono ⋯) q8 (vz (xn ix_list (pv 2) qj (λ_ _=>rfl)) (vz (xn ix_list (pv 2) qj (λ_ _=>rfl)) (wz5 (jz (z9 (wCA zaj (vz (xn ix_list (pv 2) qj (λ_ _=>rfl)) qk)) (z9 (wCA zaj (vz (xn ix_list (pv 2) qj (λ_ _=>rfl)) qk)) qk))) qk)))))) (qm (z0 rfl T.zab zq rfl T.zae (xq wt qk)))))))),?_⟩
 rcases h with⟨n,hs,rfl,S,ln,en,lo,k⟩|⟨n,wh,hs,pt,rfl,S,nw,ln,lw,en,er,hp,k⟩
 .have ad:=Qt lo ln;obtain⟨z1,z2⟩:=jm (z:=Qj n hs) (c:=32) ⋯;have es:Txt.split (Qj n hs) " " = ("road" : Str)::n::hs.map xv:=by
   rw[Wb,Qc];refine yh (cg _ _) λr J=>?_;rcases ap.mp J with rfl|J
   .decide +kernel
   rcases ap.mp J with rfl|J
   .exact vt S ⋯
   obtain⟨i,_,rfl⟩:=av.mp J;exact km (.inl rfl) i
  have lh:=(z7 lo).1;refine⟨_,rfl,rfl,_,_,rfl,rfl,by decide +kernel,z1,by rw[Qc];exact z2,by rw[es];simp only[aw,ac];lia,λl nl=>?_⟩;rw[es];have L:Same H (upd H l (.lst ((("road" : Str)::n::hs.map xv).map V.str))):=Same.upd nl;have I:upd H l (.lst ((("road" : Str)::n::hs.map xv).map V.str)) l=some (.lst (V.str "road" :: V.str n::(hs.map xv).map V.str)):=qy;generalize upd H l (.lst ((("road" : Str)::n::hs.map xv).map V.str))=H1 at L I;have v1:=v.same L;obtain⟨dx,hx⟩:=v1.h.hs.ob;refine exI rfl ⟨l,_,_,_,rfl,rfl,SqL.of I,at0 _ _,rfl,_,rfl,zd (λ_=>?_) λe=>absurd rfl e⟩;refine exI rfl ⟨l,exI rfl ⟨.inl (SqL.of I),xx rfl rfl (exI rfl (zd (λ_=>?_) λe=>absurd (by simp only[aw];lia) e))⟩⟩;refine exI rfl ⟨o.x,dx,exI rfl ⟨hx,zf,exI rfl ⟨l,_,_,_,rfl,rfl,SqL.of I,at1 _ _ _,?_⟩⟩⟩;refine exI rfl (exI rfl ⟨l,exI rfl ⟨SqL.of I,λl2 aa=>?_⟩⟩);rw[cut2];refine⟨l2,rfl,⟨_,SqL.of qy⟩,yk (λx=>match x with|.str z=>.int ((intText? z).getD 0)|_=>.non) (λx b=>by split <;> exactλz=>nomatch z) (SqL.of qy) (by simp only[ac];lia) (λx H' R ai s2 hR=>?_) λp H2 np s2 f2=>?_⟩
  .obtain⟨z,hz,rfl⟩:=av.mp ai;obtain⟨i,hi,rfl⟩:=av.mp hz;have Z:=lo.2.2 i hi;refine⟨_,rfl,i,rfl,Z.1,⋯,λaj O=>?_⟩;have:=hR aj O;dsimp only at this;rw[show intText? (xv i)=some i from cU Z.1 ⋯]at this;exact this
  .have em:((hs.map xv).map V.str).map (λx=>match x with|.str z=>V.int ((intText? z).getD 0)|_=>.non)=hs.map V.int:=by rw[aW,aW];refine bz λi hi=>?_;have Z:=lo.2.2 i hi;show V.int ((intText? (xv i)).getD 0)=_;rw[show intText? (xv i)=some i from cU Z.1 ⋯];rfl
   rw[em]at f2;dsimp only [vc,Qu,tC];have O:=(L.trans (Same.upd (o:=.lst ((hs.map xv).map V.str)) aa)).trans s2;exact VH.lays (v.same O) nm lN ld S ⋯ en f2 lo λH' o' nx U kb=>k H2 H' o' O nx U kb
 .have rg:=hp.rng;have ad:=Q4 (n:=n) (wh:=wh) (pt:=pt) ln lw ⋯ ⋯;obtain⟨z1,z2⟩:=jm (z:=uy n wh pt) (c:=32) ⋯;have es:Txt.split (uy n wh pt) " " = [("walker" : Str),n,wh,xv pt.1,xv pt.2]:=by
   rw[Wy,Qc];refine yh (cg _ _) λr J=>?_;simp only[ap,ao,ck]at J;rcases J with rfl|rfl|rfl|rfl|rfl
   .decide +kernel
   .exact vt S ⋯
   .exact vt nw ⋯
   .exact km (.inl rfl) _
   .exact km (.inl rfl) _
  refine⟨_,rfl,rfl,_,_,rfl,rfl,by decide +kernel,z1,by rw[Qc];exact z2,by rw[es];exact(show 5<=sizeLine by lia),λl nl=>?_⟩;rw[es];have L:Same H (upd H l (.lst (([("walker" : Str),n,wh,xv pt.1,xv pt.2]:List Str).map V.str))):=Same.upd nl;have I:upd H l (.lst (([("walker" : Str),n,wh,xv pt.1,xv pt.2]:List Str).map V.str)) l=some (.lst [V.str "walker",V.str n,V.str wh,V.str (xv pt.1),V.str (xv pt.2)]):=qy;generalize upd H l (.lst (([("walker" : Str),n,wh,xv pt.1,xv pt.2]:List Str).map V.str))=H1 at L I;have v1:=v.same L;obtain⟨dx,hx⟩:=v1.h.hs.ob;refine exI rfl ⟨l,_,_,_,rfl,rfl,SqL.of I,at0 _ _,rfl,_,rfl,zd (λe=>absurd (V.str.inj e) (by decide +kernel)) λ_=>jq ?_⟩;refine exI rfl ⟨l,_,_,_,rfl,rfl,SqL.of I,at0 _ _,rfl,_,rfl,zd (λ_=>?_) λe=>absurd rfl e⟩;refine exI rfl ⟨l,exI rfl ⟨.inl (SqL.of I),rfl,_,rfl,zd (λ_=>?_) λe=>absurd rfl e⟩⟩;refine exI rfl ⟨o.x,dx,exI rfl ⟨hx,zf,exI rfl ⟨l,_,_,_,rfl,rfl,SqL.of I,at1 _ _ _,?_⟩⟩⟩;refine exI rfl ⟨l,_,_,_,rfl,rfl,SqL.of I,rfl,?_⟩;refine⟨_,rfl,l,_,_,_,rfl,rfl,SqL.of I,rfl,pt.1,rfl,⋯,⋯,λH2 s2=>?_⟩;refine⟨_,rfl,l,_,_,_,rfl,rfl,SqL.of (s2 _ _ I),rfl,pt.2,rfl,⋯,⋯,λH3 O=>?_⟩;refine⟨sz2,λp np=>?_⟩;dsimp only [vc,Qu,tC];have s4:=(((L.trans s2).trans O)).trans (Same.upd (o:=.tup [.int pt.1,.int pt.2]) np);have el:xu pt.1 pt.2=pt:=wwd rg.2.2.1 hp.2.1.2.2.1;refine VH.places (v.same s4) nm lN ld S ⋯ en er qy rg.2.2.1 (Sm.small ⋯ ⋯ ⋯) (by rw[el];exact hp) λH' o' nx U kb=>?_;rw[el]at U;exact k _ H' o' s4 nx U kb
structure New (H:Hp)(o:Ho):Prop where
 x:H o.x=none
 r:H o.dr=none
 w:H o.dw=none
 d:H o.dd=none
theorem New.nxt {H1:Hp}{o':Ho}(h:New H o)(n:Nxt H1 o o'):New H o':=⟨by rw[n.x];exact h.x,by rw[n.dr];exact h.r,by rw[n.dw];exact h.w,by rw[n.dd];exact h.d⟩
theorem New.kb {H1 H2:Hp}(h:New H o)(k:Kb ch H H1)(k2:Kb [o.dr,o.dw,o.dd] H1 H2):Kb ch H H2:=λx u nx e=>k2 _ _ (λz=>by
 simp only[ap,ao,ck]at z
 rcases z with z|z|z
 .rw[z,h.r]at e;cases e
 .rw[z,h.w]at e;cases e
 .rw[z,h.d]at e;cases e) (k x u nx e)
theorem BA.same {c:BA}(h1:∀n,b.rs n=c.rs n)(h2:∀n,b.ws n=c.ws n):b=c:=by obtain⟨r,w⟩:=b;obtain⟨r',w'⟩:=c;have e1:r=r':=funext h1;have e2:w=w':=funext h2;rw[e1,e2]
theorem qjp {ks:List Str}(nd:ks.Nodup)(e:ks.take (i+1)=ks.take i++[n]):n∉ks.take i:=λh=>by have:=(eZ (i+1) ks).nodup nd;rw[e]at this;exact(fe.mp this).2.2 n h n (ar.mpr rfl) rfl
theorem ne_rdx {CR:Aj}{r dy:Aj}(hx:H x=some (.ins C dx (hF dr dw dd)))(h:H r=some (.ins CR dy [("heights",.ref q)])):r≠x:=λz=>by
 rw[z,hx]at h;injection h with h
 injection h with _ _ h
 unfold hF at h;injection h with _ h
 cases h
theorem ne_wdx {dy:Aj}(hx:H x=some (.ins C dx (hF dr dw dd)))(h:H y=some (.ins CW dy (wF n p t))):y≠x:=λz=>by
 rw[z,hx]at h;injection h with h
 injection h with _ _ h
 unfold hF wF at h;injection h with h _
 injection h with h _
 exact absurd h (by decide +kernel)
theorem Rep.kx {CR:Aj}{f g:Key->Option V}(h:Rep CR CW H f g a)(hx:H x=some (.ins C dx (hF dr dw dd)))(k:Kb [x] H H'):Rep CR CW H' f g a:=by
 have st:∀y u,y≠x->H y=some u->H' y=some u:=λy u U e=>k y u (λz=>U (ar.mp z)) e;refine⟨λn=>?_,λn=>?_,h.ok⟩
 .cases e:a.rs n with
  |none=>exact h.noR e
  |some hs =>
   obtain⟨r,L,O,q,h1,h2⟩:=h.road e;exact⟨r,L,O,q,st _ _ (ne_rdx hx h1) h1,st _ _ (λz=>by rw[z,hx]at h2;cases h2) h2⟩
 .cases e:a.ws n with
  |none=>exact h.noW e
  |some w =>
   obtain⟨y,p,t,L,F⟩:=h.wk e;obtain⟨O,S⟩:=F.ob;have J:=F.pt;have I:=F.tm;exact⟨y,p,t,L,⟨O,st _ _ (ne_wdx hx S) S⟩,st _ _ (λz=>by rw[z,hx]at J;cases J) J,st _ _ (λz=>by rw[z,hx]at I;cases I) I⟩
def Ho.fgt (o:Ho)(dd:Aj):Ho:=⟨o.x,o.dr,o.dw,dd,o.R,o.W,[]⟩
def Zh (C CR CW:Aj):Sp:=λvs H Q _=>∃(o:Ho) (a:AH) (as:List AH),vs=[.ref o.x]/\VH C CR CW H o (a::as)/\∀H' dd,H dd=none->VH C CR CW H' (o.fgt dd) [a]->Kb [o.x] H H'->Q .non H'
include T in
theorem ww3 (F:Fun K "forget" "House.forget" zbg f fd):FK P w K mg base 1 f fd ["self"] (Zh qq qp qz):=by
 have sc:=qqw;refine F.okX sc (λvs H Q E h=>by obtain⟨_,_,_,rfl,_⟩:=h;rfl) λ_ _ _ _ H vs Q E hr h=>?_;obtain⟨o,a,as,rfl,v,k⟩:=h;obtain⟨dx,J⟩:=v.h.hs.ob;refine⟨_,(qm (Ww (pv 0) (vj qk) rfl)),?_⟩;refine⟨sz0,λdd I=>(exI rfl ⟨o.x,qq,dx,exI rfl ⟨Same.upd I _ _ J,T.clH,T.naHd,(by show 3<1000;decide),?_⟩⟩)⟩;have ef:vw "done" (.ref dd) (hF o.dr o.dw o.dd)=hF o.dr o.dw dd:=by
  have n1:¬ ("roads" : Str) = "done" := by decide +kernel
  have n2:¬ ("walkers" : Str) = "done" := by decide +kernel
  unfold hF;rw[vw,al n1,vw,al n2,vw,am rfl]
 rw[ef];have O:Kb [o.x] H (upd (upd H dd (.lst [])) o.x (.ins qq dx (hF o.dr o.dw dd))):=λb u L e=>by rw[wj (λz=>L (by rw[z];simp))];exact Same.upd I _ _ e
 have Z:∀b u,b≠o.x->H b=some u->upd (upd H dd (.lst [])) o.x (.ins qq dx (hF o.dr o.dw dd)) b=some u:=λb u L e=>O b u (by simpa using L) e;have h:=v.h;have U:=h.hs.r;have S:=h.hs.w;have nr:o.dr≠o.x:=λz=>by rw[z,J]at U;cases U
 have nw:o.dw≠o.x:=λz=>by rw[z,J]at S;cases S
 refine k _ dd I ⟨⟨⟨⟨dx,qy⟩,Z _ _ nr U,Z _ _ nw S,?_,h.hs.ne⟩,(λd hd=>nomatch hd),(λq hq=>nomatch hq),trivial,h.nR,h.nW,h.fR,h.fW⟩,⟨v.rep.kx J O,.inl ⟨rfl,rfl⟩⟩⟩ O;show upd (upd H dd (.lst [])) o.x _ dd=some (.lst []);rw[wj (λz=>by rw[z,J]at I;cases I)];exact qy
def qvt (w:Str×(Int×Int)):Wk:=⟨w.1,w.2,[([.inl w.2.1,.inl w.2.2],.int 1)]⟩
def Fresh (a:AH)(b:BA):Prop:=(∀n,a.rs n=b.rs n)/\∀n,a.ws n=(b.ws n).map qvt
theorem Fresh.bk (h:Fresh a b):a.bk=b:=BA.same h.1 λn=>by show(a.ws n).map _=_;rw[h.2 n];cases b.ws n <;> rfl
def ReadPre (b:BA)(NM ms1 ms2:List Str):Prop:=BOk NM b/\NM.length<60/\(∀n∈NM,n.length<=100)/\SrtN (λn=>(b.rs n).isSome) ms1/\SrtN (λn=>(b.ws n).isSome) ms2
def Wg (C CR CW:Aj):Sp:=λvs H Q _=>∃(b:BA) (NM ms1 ms2:List Str),vs=[.str (jn b ms1 ms2)]/\ReadPre b NM ms1 ms2/\∀H' (o:Ho) (a:AH),Same H H'->VH C CR CW H' o [a]->New H o->o.ds=[]->Fresh a b->Q (.ref o.x) H'
theorem qwt {d:Nat}(hc:d≠c):∀ {A:List (List Nat)},(∀x∈A,d∉x)->d∉glL c A
 |[],_=>ao
 |[x],h=>h x (au ..)
 |x::y::r,h=>λz=>by
  have z:d∈x++c::glL c (y::r):=z;rcases aP.mp z with z|z
  .exact h x (au ..) z
  .rcases ap.mp z with z|z
   .exact hc z
   .exact qwt hc (λw hw=>h w (aE _ hw)) z
theorem wxv (nn:xj n=true):10∉(Qj n hs).cps.toList:=by
 rw[Wb,jg];exact qwt ⋯ λx F=>by
  obtain⟨s,hs,rfl⟩:=av.mp F;rcases ap.mp hs with rfl|hs
  .decide +kernel
  rcases ap.mp hs with rfl|hs
  .exact vt nn ⋯
  obtain⟨i,_,rfl⟩:=av.mp hs;exact km (.inr rfl) i
theorem wx4 {pt:Int×Int}(nn:xj n=true)(nw:xj wh=true):10∉(uy n wh pt).cps.toList:=by
 rw[Wy,jg];exact qwt ⋯ λx F=>by
  obtain⟨s,hs,rfl⟩:=av.mp F;simp only[ap,ao,ck]at hs;rcases hs with rfl|rfl|rfl|rfl|rfl
  .decide +kernel
  .exact vt nn ⋯
  .exact vt nw ⋯
  .exact km (.inr rfl) _
  .exact km (.inr rfl) _
theorem wzc:1<=(Qj n hs).length:=by unfold Qj;rw[show Txt.join " " (("road" : Str)::n::hs.map xv)=Str.join " " (("road" : Str)::n::hs.map xv) from bx _ _];show 1<=("road" ++ " " ++ Str.join " " (n::hs.map xv)).length;rw[zu,zu,qqn];lia
theorem wvp {pt:Int×Int}:1<=(uy n wh pt).length:=by
 have e1:(Str.empty ++ "walker " : Str).length=7:=by decide +kernel
 unfold uy;simp only[zu]at e1 ⊢;lia
theorem wvr {x:Str}{l:List Str}(h:1<=x.length):Str.join ⟨#[10]⟩ (x::l) ≠ "" := λz=>by
 have z:=bi Str.length z;rw[show("" : Str).length=0 by decide +kernel]at z;cases l with
 |nil=>have z:x.length=0:=z;lia
 |cons y l =>
  have z:(x++⟨#[10]⟩++Str.join ⟨#[10]⟩ (y::l)).length=0:=z;rw[zu,zu]at z;lia
def x8 (b:BA)(ms1 ms2:List Str):List Str:=ms1.map (zr b)++ms2.map (zm b)
theorem ku (b:BA)(ms1 ms2:List Str):jn b ms1 ms2=Str.join ⟨#[10]⟩ (x8 b ms1 ms2):=by unfold jn x8;rw[W5];exact bx _ _
theorem ReadPre.row (h:ReadPre b NM ms1 ms2):∀n∈ms1,∃hs,b.rs n=some hs/\xy hs/\xj n=true/\n.length<=100/\n∈NM:=λn hn=>by obtain⟨bo,_,nl,S1,_⟩:=h;obtain⟨hs,e⟩:=aH.mp ((S1.2.1 n).mp hn);obtain⟨lo,nn,hN⟩:=bo.lo n hs e;exact⟨hs,e,lo,nn,nl n hN,hN⟩
theorem ReadPre.wlk (h:ReadPre b NM ms1 ms2):∀n∈ms2,∃w hs,b.ws n=some w/\b.rs w.1=some hs/\HPt hs w.2/\xj n=true/\xj w.1=true/\n.length<=100/\w.1.length<=100/\n∈NM:=λn hn=>by obtain⟨bo,_,nl,_,S2⟩:=h;obtain⟨w,e⟩:=aH.mp ((S2.2.1 n).mp hn);obtain⟨nn,hN,hs,er,hp⟩:=bo.wo n w e;obtain⟨_,nw,hW⟩:=bo.lo w.1 hs er;exact⟨w,hs,e,er,hp,nn,nw,nl n hN,nl _ hW,hN⟩
theorem ReadPre.lens (h:ReadPre b NM ms1 ms2):ms1.length<60/\ms2.length<60:=by
 have a:=Wj ms1 NM h.2.2.2.1.1 λn F=>(h.row n F).choose_spec.2.2.2.2;have c:=Wj ms2 NM h.2.2.2.2.1 λn F=>by obtain⟨_,_,_,_,_,_,_,_,_,e⟩:=h.wlk n F;exact e
 have:=h.2.1;lia
theorem ReadPre.text (h:ReadPre b NM ms1 ms2)(ne:x8 b ms1 ms2≠[]):jn b ms1 ms2 ≠ "" /\ Txt.split (jn b ms1 ms2) "\n" = x8 b ms1 ms2:=by
 have L:∀r∈x8 b ms1 ms2,10∉r.cps.toList/\1<=r.length:=λr F=>by
  rcases aP.mp F with F|F
  .obtain⟨n,J,rfl⟩:=av.mp F;obtain⟨hs,e,lo,I,_⟩:=h.row n J;exact⟨wxv I,wzc⟩
  .obtain⟨n,J,rfl⟩:=av.mp F;obtain⟨w,hs,e,U,S,I,O,_⟩:=h.wlk n J;unfold zm;rw[e];exact⟨wx4 I O,wvp⟩
 rw[ku,W5];refine⟨?_,yh ne λr F=>(L r F).1⟩;cases e:x8 b ms1 ms2 with
 |nil=>exact absurd e ne
 |cons x l=>exact wvr (L x (by rw[e];exact au ..)).2
theorem ReadPre.len (h:ReadPre b NM ms1 ms2):(jn b ms1 ms2).length<=1000000:=by
 have l:=h.lens;have L:∀n∈ms1,(zr b n).length<=1000:=λn I=>by obtain⟨hs,e,lo,O,F,_⟩:=h.row n I;unfold zr;rw[e];exact Qt lo F
 have J:∀n∈ms2,(zm b n).length<=1000:=λn I=>by obtain⟨w,hs,e,er,U,O,nw,F,S,_⟩:=h.wlk n I;have Z:=U.rng;unfold zm;rw[e];exact Q4 F S ⟨by show 0<=w.2.1;lia,by show w.2.1<=_;lia⟩ ⟨by show 0<=w.2.2;lia,by show w.2.2<=_;lia⟩
 have a:=qqs L;have c:=qqs J;rw[ku];refine aX (cf _ _) ?_;unfold x8;rw[show(⟨#[10]⟩:Str).length=1 from rfl,aQ,List.sum_append,ay,ac,ac];lia
def RdI (C CR CW:Aj)(H:Hp)(l:Aj)(b:BA)(ms1 ms2:List Str)(i:Nat)(o:Ho)(Hx:Hp):Prop:=∃(a:AH) (as:List AH),VH C CR CW Hx o (a::as)/\New H o/\o.ds.length=i/\Same H Hx/\Hx l=some (.lst ((x8 b ms1 ms2).map V.str))/\l∉[o.dr,o.dw,o.dd]/\(∀n,a.rs n=if n∈ms1.take i then b.rs n else none)/\∀n,a.ws n=if n∈ms2.take (i-ms1.length) then(b.ws n).map qvt else none
theorem qjg {f g:Str->Option α}(ht:ms.take (i+1)=ms.take i++[n])(h:∀m,g m=if m∈ms.take i then f m else none){v:α}(e:f n=some v)(m:Str):(if m=n then some v else g m)=if m∈ms.take (i+1) then f m else none:=by
 rw[ht];by_cases q:m=n
 .rw[am q,am (by rw[q];simp),q,e]
 .rw[al q,h m];by_cases y:m∈ms.take i
  .rw[am y,am (bg _ y)]
  .rw[al y,al (λF=>by rcases aP.mp F with F|F;exact y F;exact q (ar.mp F))]
theorem wqh {CR:Aj}{Hx:Hp}{l:Aj}{row:Str}(pre:ReadPre b NM ms1 ms2)(hi:(x8 b ms1 ms2)[i]?=some row)(h:RdI C CR CW H l b ms1 ms2 i o Hx)(k:∀o' H',RdI C CR CW H l b ms1 ms2 (i+1) o' H'->o'.x=o.x->Q .non H'):Z9 C CR CW [.ref o.x,.str row] Hx Q E:=by
 obtain⟨a,as,v,nw,ld,s,fl,ln,S,Z⟩:=h;have aj:=pre.lens;have S1:=pre.2.2.2.1;have S2:=pre.2.2.2.2;have li:i<ms1.length+ms2.length:=by have:=(ba.mp hi).1;unfold x8 at this;rwa [ay,ac,ac]at this
 have nm:Nam NM a:=⟨(λm e=>by
  rw[S m]at e
  by_cases q:m∈ms1.take i
  .rw[am q]at e
   obtain⟨hs,e'⟩:=aH.mp e
   exact(pre.1.lo m hs e').2.2
  .rw[al q]at e;cases e),(λm e=>by
  rw[Z m]at e
  by_cases q:m∈ms2.take (i-ms1.length)
  .rw[am q,cW]at e
   obtain⟨u,e'⟩:=aH.mp e
   exact(pre.1.wo m u e').2.1
  .rw[al q]at e;cases e)⟩
 have go:∀(U:AH) (H1 H':Hp) (o':Ho),Same Hx H1->Nxt H1 o o'->VH C CR CW H' o' (U::a::as)->Kb [o.dr,o.dw,o.dd] H1 H'->(∀n,U.rs n=if n∈ms1.take (i+1) then b.rs n else none)->(∀n,U.ws n=if n∈ms2.take (i+1-ms1.length) then(b.ws n).map qvt else none)->Q .non H':=λU H1 H' o' I F L J h1 h2=>by obtain⟨d,ed,_⟩:=F.ds;have ad:Kb [] H H1:=Kb.of (s.trans I);exact k o' H' ⟨U,a::as,L,nw.nxt F,by rw[ed,aw,ld],λy u e=>nw.kb ad J y u ao e,J _ _ ln (I _ _ fl),by rw[F.dr,F.dw,F.dd];exact ln,h1,h2⟩ F.x
 refine⟨o,a,as,NM,row,rfl,v,nm,by have:=pre.2.1;lia,⋯,?_⟩;unfold x8 at hi;rcases eA i ms1.length with q|q
 .rw[bG (by rw[ac];exact q),aD,ag q]at hi;have hi:zr b ms1[i]=row:=by injection hi
  obtain⟨hs,e,lo,nn,l1,_⟩:=pre.row ms1[i] (bt q);have O:ms1.take (i+1)=ms1.take i++[ms1[i]]:=by rw[cX,ag q];rfl
  unfold zr at hi;rw[e]at hi;refine .inl ⟨ms1[i],hs,hi.symm,nn,l1,by rw[S,al (qjp S1.1 O)],lo,λH1 H' o' I F L J=>go _ H1 H' o' I F L J (qjg O S e) λn=>?_⟩;show a.ws n=_;rw[Z n,show i-ms1.length=0 by lia,show i+1-ms1.length=0 by lia]
 .have q2:i-ms1.length<ms2.length:=by lia
  rw[bB (by rw[ac];exact q),ac,aD,ag q2]at hi;have hi:zm b ms2[i-ms1.length]=row:=by injection hi
  obtain⟨u,hs,e,er,hp,nn,aa,l1,l2,_⟩:=pre.wlk _ (bt q2);have O:ms2.take (i-ms1.length+1)=ms2.take (i-ms1.length)++[ms2[i-ms1.length]]:=by rw[cX,ag q2];rfl
  have tk:∀j,i<=j->ms1.take j=ms1:=λj hj=>bS ⋯;unfold zm at hi;rw[e]at hi;have ai:a.rs u.1=some hs:=by rw[S,tk i (ah _),am ((S1.2.1 u.1).mpr (by show(b.rs u.1).isSome=true;rw[er];rfl)),er]
  refine .inr ⟨_,u.1,hs,u.2,hi.symm,nn,aa,l1,l2,by rw[Z,al (qjp S2.1 O)],ai,hp,λH1 H' o' I F L J=>go _ H1 H' o' I F L J (λn=>?_) λn=>?_⟩
  .show a.rs n=_;rw[S n,tk i (ah _),tk (i+1) ⋯]
  .rw[show i+1-ms1.length=i-ms1.length+1 by lia];exact qjg (f:=λn=>(b.ws n).map qvt) O Z (by rw[e];rfl) n
include T in
theorem qyf (F:Fun K "house_of" "house_of" zan f fd)(zcp:CCal P w K mg base "House" qq 1 (qqk qq))(zcq:Cal P w K mg base "take_in" 6 (Z9 qq qp qz))(zcr:MCal P w K mg base qq "forget" 1 (Zh qq qp qz)) :
  FK P w K mg base 7 f fd ["text"] (Wg qq qp qz):=by
 have sc:=Jc;refine F.okX sc (λvs H Q E h=>by obtain⟨_,_,_,_,rfl,_⟩:=h;rfl) λ_ _ _ s H vs Q E I h=>?_;obtain⟨b,NM,ms1,ms2,rfl,S,k⟩:=h;have a7:(1000000:Nat)<sizeLine:=by decide
 have a6:=S.lens;refine⟨_,(qu (w6 (i:=1) (qz4 zcp (I.mono ⋯) rfl q8))
   (qu (ju bd rfl (v3 (qy9 (wc qx9 (pv 0) wt (wm _)) (kh aY bL bM ym (pv 0) (xq wt qk)) (vj qk))) (xf (i:=2)) (qm (zk (wCA zcq (wv (pv 1) (wv (pv 2) qk))))))
   (qu (zk (uh (pv 1) T.clH zcr (I.mono ⋯) q8))
   (qm (w8 (pv 1)))))),?_⟩
 refineλx d9 nx ad a5=>⟨x,d9,rfl,qy,λL aj ai ak a2 a1 a0 a4 a3=>⟨rfl,?_⟩⟩;have s4:Same H L:=λz o e=>a3 z o (λy=>by rw[ar.mp y,nx]at e;cases e) (by rw[wj (wz e nx),wj (wz e ad)];exact e);have aa:∀ {b},upd (upd H d9 (HO.own x)) x (HO.ins qq d9 []) b=none->H b=none:=λ{b} m=>by
  cases e:H b with
  |none=>rfl
  |some o=>rw[wj (wz e nx),wj (wz e ad),e]at m;cases m
 have O:VH qq qp qz L ⟨x,aj,ai,ak,[],[],[]⟩ [AH.nil]:=VH.nil a4;have an:New H ⟨x,aj,ai,ak,[],[],[]⟩:=⟨nx,aa a2,aa a1,aa a0⟩;have S1:=S.2.2.2.1;have S2:=S.2.2.2.2;rcases Classical.em (x8 b ms1 ms2=[]) with e0|e0
 have te:jn b ms1 ms2 = "" := by rw[ku,e0];decide +kernel
 refine exI rfl ⟨rfl,_,rfl,wz1 (by rw[te]) ⟨sz0,λl J=>?_⟩⟩;have Z:Same L (upd L l (.lst [])):=Same.upd J;have f5:upd L l (.lst []) l=some (.lst ((x8 b ms1 ms2).map V.str)):=by rw[e0];exact qy
 generalize upd L l (.lst [])=H5 at Z f5;rotate_left;obtain⟨te,es⟩:=S.text e0;obtain⟨z1,z2⟩:=jm (c:=10) S.len;refine exI rfl ⟨rfl,_,rfl,qyr (λ_=>⟨_,rfl,rfl,_,_,rfl,rfl,by decide +kernel,z1,by rw[W5];exact z2,by rw[es];unfold x8;rw[ay,ac,ac];lia,λl J=>?_⟩) λz=>absurd (V.str.inj z) te⟩;rw[es];have Z:Same L (upd L l (.lst ((x8 b ms1 ms2).map V.str))):=Same.upd J;have f5:upd L l (.lst ((x8 b ms1 ms2).map V.str)) l=some (.lst ((x8 b ms1 ms2).map V.str)):=qy;generalize upd L l (.lst ((x8 b ms1 ms2).map V.str))=H5 at Z f5
 all_goals clear e0
 all_goals refine⟨l,rfl,⟨_,SqL.of f5⟩,uc (xs:=(x8 b ms1 ms2).map V.str) (λi σ U=>∃(o:Ho) (z:Option V),RdI qq qp qz H l b ms1 ms2 i o U/\o.x=x/\σ=[some (.str (jn b ms1 ms2)),some (.ref x),z])
   ⟨_,_,⟨_,_,O.same Z,an,rfl,s4.trans Z,f5,λy=>?_,(λn=>rfl),(λn=>by rw[Nat.zero_sub];rfl)⟩,rfl,rfl⟩ (λi σ U _ h=>by obtain⟨_,_,⟨_,_,_,_,_,_,h,_⟩,_⟩:=h;exact SqL.of h) ?_ ?_⟩
 .simp only[ap,ao,ck]at y;rcases y with y|y|y <;> rw[y]at J
  .have:=O.h.hs.r;rw[J]at this;cases this
  .have:=O.h.hs.w;rw[J]at this;cases this
  .have:=O.h.hs.d;rw[J]at this;cases this
 .rintro i y σ U hi ⟨o,z,h,ex,rfl⟩;rw[aD]at hi;cases I:(x8 b ms1 ms2)[i]? with
  |none=>rw[I]at hi;cases hi
  |some row =>
   rw[I]at hi;cases hi;refine exI rfl (exI rfl ?_);dsimp only [Qu];rw[<-ex];exact wqh S I h λo' H' h' e'=>⟨o',_,h',e',rfl⟩
 .rintro σ U ⟨o,z,⟨a,as,v,nw,ld,s,fl,ln,I,hw⟩,ex,rfl⟩;obtain⟨dx,hx⟩:=v.h.hs.ob;have lr:((x8 b ms1 ms2).map V.str).length=ms1.length+ms2.length:=by unfold x8;rw[ac,ay,ac,ac]
  rw[lr]at I hw;rw[<-ex];refine exI rfl ⟨o.x,dx,exI rfl ⟨hx,zf,o,a,as,rfl,v,λH' dd nd v' kb=>?_⟩⟩;refine exI rfl (k H' (o.fgt dd) a (λy u e=>kb _ _ (λz=>?_) (s _ _ e)) v' ⟨nw.x,nw.r,nw.w,s.free nd⟩ rfl ⟨λn=>?_,λn=>?_⟩)
  .rw[ar.mp z,nw.x]at e;cases e
  .rw[I n,bS ⋯];by_cases q:n∈ms1
   .rw[am q]
   .rw[al q];cases e:b.rs n with
    |none=>rfl
    |some hs=>exact absurd ((S1.2.1 n).mpr (by show(b.rs n).isSome=true;rw[e];rfl)) q
  .rw[hw n,bS ⋯];by_cases q:n∈ms2
   .rw[am q]
   .rw[al q];cases e:b.ws n with
    |none=>rfl
    |some hs=>exact absurd ((S2.2.1 n).mpr (by show(b.ws n).isSome=true;rw[e];rfl)) q
 .simp only[ap,ao,ck]at y;rcases y with y|y|y <;> rw[y]at J
  .have:=O.h.hs.r;rw[J]at this;cases this
  .have:=O.h.hs.w;rw[J]at this;cases this
  .have:=O.h.hs.d;rw[J]at this;cases this
 .rintro i y σ U hi ⟨o,z,h,ex,rfl⟩;rw[aD]at hi;cases I:(x8 b ms1 ms2)[i]? with
  |none=>rw[I]at hi;cases hi
  |some row =>
   rw[I]at hi;cases hi;refine exI rfl (exI rfl ?_);dsimp only [Qu];rw[<-ex];exact wqh S I h λo' H' h' e'=>⟨o',_,h',e',rfl⟩
 .rintro σ U ⟨o,z,⟨a,as,v,nw,ld,s,fl,ln,I,hw⟩,ex,rfl⟩;obtain⟨dx,hx⟩:=v.h.hs.ob;have lr:((x8 b ms1 ms2).map V.str).length=ms1.length+ms2.length:=by unfold x8;rw[ac,ay,ac,ac]
  rw[lr]at I hw;rw[<-ex];refine exI rfl ⟨o.x,dx,exI rfl ⟨hx,zf,o,a,as,rfl,v,λH' dd nd v' kb=>?_⟩⟩;refine exI rfl (k H' (o.fgt dd) a (λy u e=>kb _ _ (λz=>?_) (s _ _ e)) v' ⟨nw.x,nw.r,nw.w,s.free nd⟩ rfl ⟨λn=>?_,λn=>?_⟩)
  .rw[ar.mp z,nw.x]at e;cases e
  .rw[I n,bS ⋯];by_cases q:n∈ms1
   .rw[am q]
   .rw[al q];cases e:b.rs n with
    |none=>rfl
    |some hs=>exact absurd ((S1.2.1 n).mpr (by show(b.rs n).isSome=true;rw[e];rfl)) q
  .rw[hw n,bS ⋯];by_cases q:n∈ms2
   .rw[am q]
   .rw[al q];cases e:b.ws n with
    |none=>rfl
    |some hs=>exact absurd ((S2.2.1 n).mpr (by show(b.ws n).isSome=true;rw[e];rfl)) q
include T in
theorem qxr (F:Fun K "read_house" "read_house" zao f fd)(zcs:Cal P w K mg base "house_of" 7 (Wg qq qp qz))(zaw:Cal P w K mg base "house_text" 4 (qxw qq qp qz)) :
  FK P w K mg base 8 f fd ["text"] (Wg qq qp qz):=by
 have U:=W7;refine F.okX U (λS H Q E h=>by obtain⟨_,_,_,_,rfl,_⟩:=h;rfl) λ_ _ _ _ H S Q E hr h=>?_;obtain⟨b,NM,ms1,ms2,rfl,I,k⟩:=h;refine⟨_,(qu (wwz rfl rfl (λ_=>PassesOwnAt.leaving) rfl T.zch (λpn xe E hE hO=>(qm (w6 (i:=1) (wy zcs (hr.mono ⋯) rfl hE (wv (pv 0) qk))))) (λe pn W=>(qm (qz6 W T.zab Zf rfl T.zae (xq wt qk)))))
   (qu (xc (wc qx9 (wCA zaw (wv (pv 1) qk)) (pv 0) (wm _)) (qm (z0 rfl T.zab zq rfl T.zae (xq wt qk))) xz)
   (qm (w8 (pv 1))))),?_⟩
 refine exI rfl ⟨b,NM,ms1,ms2,rfl,I,λH1 o a Z v nw ed J=>?_⟩;have L:=J.bk;have nm:Nam NM a:=AOk.bk (by rw[L];exact I.1);refine exI rfl ⟨o,a,[],NM,rfl,v,nm,I.2.1,I.2.2.1,λH2 ad aa s2 O R2=>?_⟩;rw[L]at O R2 ⊢;rw[SrtN.uniq O I.2.2.2.1,SrtN.uniq R2 I.2.2.2.2];refine exI rfl ⟨rfl,_,rfl,wz1 rfl ((exI rfl (k H2 o a (Z.trans s2) (v.same s2) nw ed J)))⟩
theorem wjc:∀c:Nat,c<48->Qg c=false:=by decide +kernel
theorem wyz (h:Qg c=true):48<=c/\c<=57:=by
 refine⟨?_,?_⟩
 .by_cases q:c<48
  .rw[wjc c q]at h;cases h
  .lia
 .have h':(Builtin.Str.occurrences (Str.ofString "0123456789") ⟨#[c]⟩ 0 (Str.ofString "0123456789").length 1).isEmpty=false:=by unfold Qg at h;simpa using h
  have:=wj2 (x:=Str.ofString "0123456789") (c:=c) (n:=58) (by decide +kernel) h';lia
def Yg (z:Str):Bool:=(List.range z.cps.size).all λj=>Qg (z.cps.getD j 0)
def w9 (z:Str):Int:=if z.length=0\/9<z.length\/(1<z.length/\z.cps.getD 0 0=48) then -1 else if Yg z=true then(intText? z).getD 0 else -1
theorem Qn (h:Yg z=true):NumText.AllDigits z.cps.toList:=λc hc=>by obtain⟨i,hi,e⟩:=dS.mp hc;have:=bu.mp h i (bc.mpr (by simpa using hi));rw[show z.cps.getD i 0=c by rw[<-e];simp at hi;simp[Array.getD,hi]]at this;exact wyz this
theorem wws:∀c:Nat,c<58->(Char.ofNat c).toNat=c:=by decide +kernel
theorem wq5:∀l:List Nat,NumText.AllDigits l.reverse->NumText.digitsVal l.reverse<10 ^ l.length
 |[],_=>by decide
 |c::l,h=>by rw[List.reverse_cons]at h ⊢;have a:=wq5 l λd hd=>h d (bg _ hd);have b:=h c (aC _ (ar.mpr rfl));rw[NumText.digitsVal_snoc,aw,Nat.pow_succ];lia
theorem wvh {cs:List Nat}(h:NumText.AllDigits cs):NumText.digitsVal cs<10 ^ cs.length:=by have:=wq5 cs.reverse (by rw[List.reverse_reverse];exact h);rwa [List.reverse_reverse,List.length_reverse]at this
theorem j9 (h:0<=w9 z):z=xv (w9 z)/\w9 z<1000000000:=by
 unfold w9 at h ⊢;split at h
 .exact absurd h ⋯
 rename_i c;split at h;rotate_left
 .exact absurd h ⋯
 rename_i f;rw[al c,am f];have ad:=Qn f;have l1:z.cps.toList.length=z.length:=aO;have ne:z.cps.toList≠[]:=λe=>c (.inl (by rw[<-l1,e];rfl));have l9:z.length<=9:=by lia
 rw[cA ad ne ⋯];show z=xv ((NumText.digitsVal z.cps.toList:Nat):Int)/\((NumText.digitsVal z.cps.toList:Nat):Int)<1000000000;refine⟨Wh ?_,?_⟩
 .unfold xv;rw[PySem.W.KIN.signs_num,NumText.toDigits_digitsVal (z.length-1) _ (by rw[l1];lia) ad ?_,aW]
  .refine(List.map_id z.cps.toList).symm.trans (bz λx hx=>?_);exact(wws x (by have:=(ad x hx).2;lia)).symm
  .by_cases q:z.length=1
   .exact .inl ⋯
   .refine .inr ?_;cases e:z.cps.toList with
    |nil=>exact absurd e ne
    |cons x r =>
     refine⟨x,r,rfl,?_⟩;have h48:=(ad x (by rw[e];exact au ..)).1;have:z.cps.getD 0 0=x:=by
      have g:z.cps.toList.getD 0 0=x:=by rw[e];rfl
      rw[<-g];cases z with|mk a=>cases a with|mk l=>cases l with|nil=>cases e|cons _ _=>rfl
     have:x≠48:=λq=>c (.inr (.inr ⟨⋯,by rw[this,q]⟩));lia
 .have a:=wvh ad;rw[l1]at a;have b:10 ^ z.length<=10 ^ 9:=de ⋯ l9;have e:(10:Nat) ^ 9=1000000000:=by decide
  lia
theorem wzm:∀i:Nat,i<1000->¬ (1<(xv (i:Int)).length/\(xv (i:Int)).cps.getD 0 0=48):=by decide +kernel
theorem Zq {i:Int}(i0:0<=i)(i1:i<1000):w9 (xv i)=i:=by obtain⟨L,J,I⟩:=wqp i.toNat ⋯;have F:=wzm i.toNat ⋯;rw[cC i0]at L J I F;unfold w9;rw[al (by rintro (h|h|h);lia;lia;exact F h),am (show Yg (xv i)=true from I),show intText? (xv i)=some i from cU i0 ⋯];rfl
def wu (z:Str):List Str:=Txt.split z " "
def xp (z:Str):List Str:=Txt.split z "\n"
theorem u6 (z:Str):z=Str.join ⟨#[32]⟩ (wu z):=by unfold wu;rw[Qc];exact(eQ z _).symm
theorem Y4 (z:Str):z=Str.join ⟨#[10]⟩ (xp z):=by unfold xp;rw[W5];exact(eQ z _).symm
theorem wj8 (nn:xj n=true):wu (Qj n hs)=("road" : Str)::n::hs.map xv:=by
 unfold wu;rw[Wb,Qc];refine yh (cg _ _) λr F=>?_;rcases ap.mp F with rfl|F
 .decide +kernel
 rcases ap.mp F with rfl|F
 .exact vt nn ⋯
 obtain⟨i,_,rfl⟩:=av.mp F;exact km (.inl rfl) i
theorem wyy {pt:Int×Int}(nn:xj n=true)(nw:xj wh=true):wu (uy n wh pt)=[("walker" : Str),n,wh,xv pt.1,xv pt.2]:=by
 unfold wu;rw[Wy,Qc];refine yh (cg _ _) λr F=>?_;simp only[ap,ao,ck]at F;rcases F with rfl|rfl|rfl|rfl|rfl
 .decide +kernel
 .exact vt nn ⋯
 .exact vt nw ⋯
 .exact km (.inl rfl) _
 .exact km (.inl rfl) _
theorem Jq (c:Nat):∀A:List (List Nat),A≠[]->(∀x∈A,c∉x)->A.length=(glL c A).count c+1
 |[],h,_=>absurd rfl h
 |[x],_,h=>by show 1=x.count c+1;rw[eS.mpr (h x (au ..))]
 |x::y::r,_,h=>by show(y::r).length+1=(x++c::glL c (y::r)).count c+1;rw[fh,List.count_cons_self,eS.mpr (h x (au ..)),Jq c (y::r) (cg _ _) λz hz=>h z (aE _ hz)];lia
def nlC (z:Str):Nat:=z.cps.toList.count 10
theorem wk4 (z:Str):xp z≠[]:=λe=>by have:=PyProof.Rows.split_pos z "\n";unfold xp at e;rw[e]at this;exact absurd this ⋯
theorem jj (z:Str):wu z≠[]:=λe=>by have:=PyProof.Rows.split_pos z " ";unfold wu at e;rw[e]at this;exact absurd this ⋯
theorem jx (z:Str):(xp z).length=nlC z+1:=by
 have e:=Y4 z;have f:∀r∈xp z,10∉r.cps.toList:=by unfold xp;rw[W5];exact du z 10
 have:=Jq 10 ((xp z).map λs=>s.cps.toList) (by simpa using wk4 z) λx F=>by obtain⟨r,I,rfl⟩:=av.mp F;exact f r I
 rw[<-jg,<-e,ac]at this;exact this
theorem wqd (c:Nat):∀(A:List (List Nat)) (x:List Nat),x∈A->x.length<=(glL c A).length
 |[],_,h=>absurd h ao
 |[x],y,h=>by rw[ar.mp h];exact ah _
 |x::y::r,z,h=>by
  show z.length<=(x++c::glL c (y::r)).length;rw[ay,aw];rcases ap.mp h with rfl|h
  .lia
  .have:=wqd c (y::r) z h;lia
variable {r:Str}
theorem qyd {A:List Str}(h:r∈A):r.length<=(Str.join ⟨#[c]⟩ A).length:=by have:=wqd c (A.map λs=>s.cps.toList) r.cps.toList (av.mpr ⟨r,h,rfl⟩);rw[<-jg]at this;simpa [Str.length] using this
theorem qzg (h:r∈wu z):r.length<=z.length:=by have:=qyd (c:=32) h;rwa [<-u6]at this
theorem qy2 (h:r∈xp z):r.length<=z.length:=by have:=qyd (c:=10) h;rwa [<-Y4]at this
instance lineDec (ns:List Int):Decidable (xy ns):=by unfold xy;exact inferInstance
def jb (ws:List Str):Bool:=decide (3<=ws.length)&&(xj (ws.getD 1 "")&&decide (xy ((ws.drop 2).map w9)))
def yy (wd:Str->Option Int)(ws:List Str):Bool:=decide (ws.length=5)&&(xj (ws.getD 1 "")&&match wd (ws.getD 2 "") with
 |none=>false
 |some k=>decide (0<=w9 (ws.getD 3 "")/\1<=w9 (ws.getD 4 "")/\w9 (ws.getD 4 "")<=40/\w9 (ws.getD 3 "")<=k*w9 (ws.getD 4 "")/\yr (w9 (ws.getD 3 "")) (w9 (ws.getD 4 ""))=1))
def uw (ws:List Str):Int:=if ws.getD 0 "" = "walker" then 1 else 0
def yq (ws:List Str):Str:=(ws++[("" : Str)]).getD 1 ""
def putI (wd:Str->Option Int)(n:Str)(k:Int):Str->Option Int:=λm=>if m=n then some k else wd m
def yf (wd:Str->Option Int)(i:Int)(x:Str):List Str->Bool
 |[]=>true
 |r::rs=>if HT.leIS (uw (wu r)) (yq (wu r)) i x=true then false
  else if(wu r).getD 0 "" = "road" then(if jb (wu r)=true then yf (putI wd (yq (wu r)) ((wu r).length-3)) (uw (wu r)) (yq (wu r)) rs else false)
  else if uw (wu r)=1/\yy wd (wu r)=true then yf wd (uw (wu r)) (yq (wu r)) rs else false
def Qf (z:Str):Bool:=if z = "" then true else yf (λ_=>none) 0 "" (xp z)
theorem Yz:¬ (("road" : Str) = "walker"):=by decide +kernel
theorem wxf (h:jb (wu r)=true)(h0:(wu r).getD 0 "" = "road"):∃n hs,r=Qj n hs/\xj n=true/\xy hs/\wu r=("road" : Str)::n::hs.map xv:=by
 have e:=u6 r;generalize wu r=ws at *;unfold jb at h;obtain⟨h1,h⟩:=bh.mp h;obtain⟨h2,F⟩:=bh.mp h;have h1:=bF h1;have F:=bF F
 match ws,h1 with
 |w0::n::l,_ =>
  have h0:w0 = "road" := h0;have h2:xj n=true:=h2;have F:xy (l.map w9):=F;have I:(l.map w9).map xv=l:=by rw[aW];refine(bz λz J=>?_).trans (List.map_id l);have:=(F.2.2 _ (av.mpr ⟨z,J,rfl⟩)).1;exact(j9 this).1.symm
  refine⟨n,l.map w9,?_,h2,F,by rw[h0,I]⟩;rw[Wb,I,<-h0];exact e
variable {wd:Str->Option Int}
theorem wwr (h:yy wd (wu r)=true)(h0:(wu r).getD 0 "" = "walker"):∃n wh pt k,r=uy n wh pt/\xj n=true/\wd wh=some k/\0<=pt.1/\1<=pt.2/\pt.2<=40/\pt.1<=k*pt.2/\yr pt.1 pt.2=1/\wu r=[("walker" : Str),n,wh,xv pt.1,xv pt.2]:=by
 have e:=u6 r;generalize wu r=ws at *;unfold yy at h;obtain⟨h1,h⟩:=bh.mp h;obtain⟨h2,F⟩:=bh.mp h;have h1:=bF h1
 match ws,h1 with
 |[w0,n,wh,a,p],_ =>
  have h0:w0 = "walker" := h0;have h2:xj n=true:=h2;have F:(match wd wh with|none=>false|some k=>decide (0<=w9 a/\1<=w9 p/\w9 p<=40/\w9 a<=k*w9 p/\yr (w9 a) (w9 p)=1))=true:=F;cases ew:wd wh with
  |none=>rw[ew]at F;cases F
  |some k =>
   rw[ew]at F;obtain⟨L,O,p2,S,g⟩:=bF F;have J:=(j9 L).1;have I:=(j9 (z:=p) ⋯).1;refine⟨n,wh,(w9 a,w9 p),k,?_,h2,ew,L,O,p2,S,g,by rw[h0,<-J,<-I]⟩;rw[Wy];show r=Str.join ⟨#[32]⟩ [("walker" : Str),n,wh,xv (w9 a),xv (w9 p)];rw[<-J,<-I,<-h0];exact e
theorem hpt_of {pt:Int×Int}(lo:xy hs)(a0:0<=pt.1)(p1:1<=pt.2)(p2:pt.2<=40)(a1:pt.1<=((hs.length:Int)-1)*pt.2)(g:yr pt.1 pt.2=1):HPt hs pt:=by refine⟨lo,⟨p1,dQ _,?_,a0,a1⟩,p2⟩;unfold gOf;rw[show yn pt.1=pt.1 from by unfold yn;exact al ⋯];exact g
theorem qj0 {p q:Str->Bool}(h:SrtN p ms)(hn:∀m∈ms,m.cps.toList<n.cps.toList)(hq:∀m,q m=true↔m=n\/p m=true):SrtN q (ms++[n]):=by
 obtain⟨h1,h2,L⟩:=h;have J:n∉ms:=λz=>cF _ (hn n z);refine⟨?_,λx=>?_,?_⟩
 .rw[fe];exact⟨h1,by simp,λa I b F=>by rw[ar.mp F];exactλz=>J (z▸I)⟩
 .rw[aP,ar,h2,hq];exact Or.comm
 .rw[List.pairwise_append];refine⟨L,by simp,λa I b F=>?_⟩;rw[ar.mp F];exact fQ (hn a I)
theorem qu6 {i j:Int}{x y:Str}(h:¬ HT.leIS i x j y=true):j<i\/i=j/\y.cps.toList<x.cps.toList:=by
 unfold HT.leIS at h;split at h
 .rename_i e;refine .inr ⟨e,?_⟩;by_cases q:y.cps.toList<x.cps.toList
  .exact q
  .exact absurd (by rw[aN q];rfl) h
 .refine .inl ?_;by_cases q:i<=j
  .exact absurd (aM q) h
  .lia
structure GI (wd:Str->Option Int)(i:Int)(x:Str)(b:BA)(s1 s2:List Str):Prop where
 ok:BOk (s1++s2) b
 f1:SrtN (λn=>(b.rs n).isSome) s1
 f2:SrtN (λn=>(b.ws n).isSome) s2
 fw:∀n,wd n=(b.rs n).map λhs=>(hs.length:Int)-1
 k:(i=0/\s2=[]/\∀n∈s1,¬ x.cps.toList<n.cps.toList)\/(i=1/\∀n∈s2,¬ x.cps.toList<n.cps.toList)
theorem GI.road {i:Int}{x:Str}{s1 s2:List Str}(h:GI wd i x b s1 s2)(lo:xy hs)(nn:xj n=true)(hk:¬ HT.leIS 0 n i x=true) :
  GI (putI wd n ((hs.length:Int)-1)) 0 n (b.putR n hs) (s1++[n]) s2/\x8 (b.putR n hs) (s1++[n]) s2=x8 b s1 s2++[Qj n hs]:=by
 rcases h.k with⟨rfl,U,S⟩|⟨rfl,_⟩;rotate_left
 .rcases qu6 hk with z|⟨z,_⟩ <;> lia
 subst U;have O:x.cps.toList<n.cps.toList:=by
  rcases qu6 hk with z|⟨_,z⟩
  .lia
  .exact z
 have I:∀m∈s1,m.cps.toList<n.cps.toList:=λm F=>List.lt_of_le_of_lt (dA.mp (S m F)) O;have J:n∉s1:=λz=>cF _ (I n z);have L:∀m,b.ws m=none:=λm=>by
  cases e:b.ws m with
  |none=>rfl
  |some w=>exact absurd ((h.f2.2.1 m).mpr (by show(b.ws m).isSome=true;rw[e];rfl)) ao
 refine⟨⟨⟨λm ks e=>?_,λm w e=>?_⟩,qj0 h.f1 I λm=>?_,h.f2,λm=>?_,.inl ⟨rfl,rfl,λm F=>?_⟩⟩,?_⟩
 .have e:(if m=n then some hs else b.rs m)=some ks:=e;by_cases z:m=n
  .rw[am z]at e;cases e;rw[z];exact⟨lo,nn,by simp⟩
  .rw[al z]at e;obtain⟨a,c,d⟩:=h.ok.lo m ks e;exact⟨a,c,by simp at d ⊢;exact .inl d⟩
 .exact absurd e (by show b.ws m≠some w;rw[L m];exactλz=>nomatch z)
 .show(if m=n then some hs else b.rs m).isSome=true↔_;by_cases z:m=n
  .simp[z]
  .simp[z]
 .show(if m=n then some ((hs.length:Int)-1) else wd m)=(if m=n then some hs else b.rs m).map _;by_cases z:m=n
  .simp[z]
  .rw[al z,al z];exact h.fw m
 .rcases aP.mp F with F|F
  .exact fQ (I m F)
  .rw[ar.mp F];exact cF _
 .unfold x8;rw[aQ,cx,bK,cx,bK];congr 1
  .refine bz λm F=>?_;unfold zr;show Qj m ((if m=n then some hs else b.rs m).getD [])=_;rw[al (λz:m=n=>J (z▸F))]
  .show[Qj n ((if n=n then some hs else b.rs n).getD [])]=_;rw[am rfl];rfl
theorem GI.walk {i:Int}{x:Str}{pt:Int×Int}{k:Int}{s1 s2:List Str}(h:GI wd i x b s1 s2)(nn:xj n=true)(ek:wd wh=some k)(a0:0<=pt.1)(p1:1<=pt.2)(p2:pt.2<=40)(a1:pt.1<=k*pt.2)(g:yr pt.1 pt.2=1)(hk:¬ HT.leIS 1 n i x=true) :
  GI wd 1 n (b.putW n (wh,pt)) s1 (s2++[n])/\x8 (b.putW n (wh,pt)) s1 (s2++[n])=x8 b s1 s2++[uy n wh pt]:=by
 have I:∀m∈s2,m.cps.toList<n.cps.toList:=λm F=>by
  rcases h.k with⟨rfl,U,J⟩|⟨rfl,J⟩
  .rw[U]at F;exact absurd F ao
  .rcases qu6 hk with z|⟨_,z⟩
   .lia
   .exact List.lt_of_le_of_lt (dA.mp (J m F)) z
 have O:n∉s2:=λz=>cF _ (I n z);rw[h.fw wh]at ek;obtain⟨hs,L,ek⟩:=ce.mp ek;subst ek;have S:HPt hs pt:=hpt_of (h.ok.lo wh hs L).1 a0 p1 p2 a1 g;refine⟨⟨⟨λm ks e=>?_,λm w e=>?_⟩,h.f1,qj0 h.f2 I λm=>?_,h.fw,.inr ⟨rfl,λm F=>?_⟩⟩,?_⟩
 .obtain⟨a,c,d⟩:=h.ok.lo m ks e;refine⟨a,c,?_⟩;rw[aP]at d ⊢;exact d.imp id λz=>bg _ z
 .have e:(if m=n then some (wh,pt) else b.ws m)=some w:=e;by_cases z:m=n
  .rw[am z]at e;cases e;rw[z];exact⟨nn,by simp,hs,L,S⟩
  .rw[al z]at e;obtain⟨a,c,d⟩:=h.ok.wo m w e;refine⟨a,?_,d⟩;rw[aP]at c ⊢;exact c.imp id λz=>bg _ z
 .show(if m=n then some (wh,pt) else b.ws m).isSome=true↔_;by_cases z:m=n
  .simp[z]
  .simp[z]
 .rcases aP.mp F with F|F
  .exact fQ (I m F)
  .rw[ar.mp F];exact cF _
 .unfold x8;rw[aQ,<-cz];congr 1
  .congr 1;refine bz λm F=>?_;unfold zm;show uy m ((if m=n then some (wh,pt) else b.ws m).getD ("",0,0)).1 ((if m=n then some (wh,pt) else b.ws m).getD ("",0,0)).2=_;rw[al (λz:m=n=>O (z▸F))]
  .show[uy n ((if n=n then some (wh,pt) else b.ws n).getD ("",0,0)).1 ((if n=n then some (wh,pt) else b.ws n).getD ("",0,0)).2]=_;rw[am rfl];rfl
theorem Y8:∀ {rows:List Str} {wd:Str->Option Int} {i:Int} {x:Str} {b:BA} {s1 s2:List Str},GI wd i x b s1 s2->yf wd i x rows=true->∃b' t1 t2,BOk (t1++t2) b'/\SrtN (λn=>(b'.rs n).isSome) t1/\SrtN (λn=>(b'.ws n).isSome) t2/\x8 b' t1 t2=x8 b s1 s2++rows
 |[],_,_,_,b,s1,s2,h,_=>⟨b,s1,s2,h.ok,h.f1,h.f2,(bK _).symm⟩
 |r::rs,wd,i,x,b,s1,s2,h,g=>by
  unfold yf at g;split at g
  .cases g
  rename_i hk;split at g
  .rename_i h0;split at g
   .rename_i hr;obtain⟨n,hs,er,nn,lo,ew⟩:=wxf hr h0;rw[ew]at g hk;have e1:uw (("road" : Str)::n::hs.map xv)=0:=al Yz;have e2:yq (("road" : Str)::n::hs.map xv)=n:=rfl;have e3:(((("road" : Str)::n::hs.map xv).length:Nat):Int)-3=(hs.length:Int)-1:=by simp only[aw,ac];lia
    rw[e1,e2]at hk;rw[e1,e2,e3]at g;obtain⟨h',e'⟩:=h.road lo nn hk;obtain⟨b',t1,t2,k1,k2,k3,k4⟩:=Y8 h' g;exact⟨b',t1,t2,k1,k2,k3,by rw[k4,e',er,cz];rfl⟩
   .cases g
  .rename_i h0;split at g
   .rename_i hr;obtain⟨hi,hr⟩:=hr;have h0':(wu r).getD 0 "" = "walker" := by
     unfold uw at hi;split at hi
     .assumption
     .cases hi
    obtain⟨n,wh,pt,k,er,nn,ek,a0,p1,p2,a1,gg,ew⟩:=wwr hr h0';rw[hi]at g hk;rw[ew]at g hk;have e2:yq [("walker" : Str),n,wh,xv pt.1,xv pt.2]=n:=rfl;rw[e2]at g hk;obtain⟨h',e'⟩:=h.walk nn ek a0 p1 p2 a1 gg hk;obtain⟨b',t1,t2,k1,k2,k3,k4⟩:=Y8 h' g;exact⟨b',t1,t2,k1,k2,k3,by rw[k4,e',er,cz];rfl⟩
   .cases g
theorem Yd (h:xj n=true):1<=n.length/\n.length<=12:=by unfold xj at h;exact bF (bh.mp h).1
theorem wvz (h:Qf z=true)(hz:nlC z<58):∃b NM ms1 ms2,ReadPre b NM ms1 ms2/\z=jn b ms1 ms2:=by
 have n0:SrtN (λn=>(AH.nil.bk.rs n).isSome) []:=⟨bj,λx=>⟨λq=>absurd q ao,λq=>Bool.noConfusion (show false=true from q)⟩,.nil⟩;have n1:SrtN (λn=>(AH.nil.bk.ws n).isSome) []:=⟨bj,λx=>⟨λq=>absurd q ao,λq=>Bool.noConfusion (show false=true from q)⟩,.nil⟩;unfold Qf at h;split at h
 .rename_i e;refine⟨AH.nil.bk,[],[],[],⟨BOk.nil,⋯,λn hn=>absurd hn ao,n0,n1⟩,?_⟩;rw[e,ku];decide +kernel
 .have h0:GI (λ_=>none) 0 "" AH.nil.bk [] []:=⟨BOk.nil,n0,n1,λn=>rfl,.inl ⟨rfl,rfl,λn hn=>absurd hn ao⟩⟩;obtain⟨b,t1,t2,k1,k2,k3,k4⟩:=Y8 h0 h;have k4:x8 b t1 t2=xp z:=k4;refine⟨b,t1++t2,t1,t2,⟨k1,?_,λn hn=>?_,k2,k3⟩,?_⟩
  .have:=bi List.length k4;rw[jx]at this;unfold x8 at this;rw[ay,ac,ac]at this;rw[ay];lia
  .have:xj n=true:=by
    rcases aP.mp hn with hn|hn
    .obtain⟨hs,e⟩:=aH.mp ((k2.2.1 n).mp hn);exact(k1.lo n hs e).2.1
    .obtain⟨w,e⟩:=aH.mp ((k3.2.1 n).mp hn);exact(k1.wo n w e).1
   have:=Yd this;lia
  .rw[ku,k4];exact Y4 z
theorem wz3 (h:xj n=true):("" : Str).cps.toList<n.cps.toList:=by
 have:=(Yd h).1;have e:("" : Str).cps.toList=[]:=by decide +kernel
 rw[e];cases q:n.cps.toList with
 |nil =>
  have l:n.cps.toList.length=n.length:=aO;rw[q]at l;exact absurd this (by rw[<-l];decide)
 |cons c r=>exact List.nil_lt_cons ..
theorem wkh (h:¬ m.cps.toList<n.cps.toList)(ne:n≠m):n.cps.toList<m.cps.toList:=by
 by_cases q:n.cps.toList<m.cps.toList
 .exact q
 .exact absurd (Wh (List.le_antisymm (dA.mp h) (dA.mp q))) ne
theorem wv2 {i j:Int}{x y:Str}(h:j<i\/i=j/\y.cps.toList<x.cps.toList):¬ HT.leIS i x j y=true:=by
 unfold HT.leIS;rcases h with h|⟨rfl,h⟩
 .rw[al ⋯];exactλz=>absurd (bF z) ⋯
 .rw[am rfl,aM h];exact Bool.noConfusion
theorem qq9 (hw:∀n hs,b.rs n=some hs->wd n=some ((hs.length:Int)-1)):∀ {l:List Str} {i:Int} {x:Str},(∀n∈l,∃u hs,b.ws n=some u/\b.rs u.1=some hs/\HPt hs u.2/\xj n=true/\xj u.1=true)->l.Nodup->l.Pairwise (λx y=>¬ y.cps.toList<x.cps.toList)->(i=0\/i=1/\∀n∈l,x.cps.toList<n.cps.toList)->yf wd i x (l.map (zm b))=true
 |[],_,_,_,_,_,_=>rfl
 |n::l,i,x,h,nd,pw,hk=>by
  obtain⟨u,hs,e,er,hp,nn,nw⟩:=h n (au ..);have ew:wu (zm b n)=[("walker" : Str),n,u.1,xv u.2.1,xv u.2.2]:=by unfold zm;rw[e];exact wyy nn nw
  have rg:=hp.rng;have lo:=hp.1;have ll:=lo.2.1;obtain⟨⟨S,p2,gg,Z,U⟩,O⟩:=hp.2;have I:yy wd [("walker" : Str),n,u.1,xv u.2.1,xv u.2.2]=true:=by unfold yy;rw[show decide (([("walker" : Str),n,u.1,xv u.2.1,xv u.2.2]:List Str).length=5)=true from rfl,cQ];refine bh.mpr ⟨nn,?_⟩;show(match wd u.1 with|none=>false|some k=>decide (0<=w9 (xv u.2.1)/\1<=w9 (xv u.2.2)/\w9 (xv u.2.2)<=40/\w9 (xv u.2.1)<=k*w9 (xv u.2.2)/\yr (w9 (xv u.2.1)) (w9 (xv u.2.2))=1))=true;rw[hw _ _ er,Zq (i:=u.2.1) ⋯ ⋯,Zq (i:=u.2.2) ⋯ ⋯];refine aM ⟨Z,S,O,U,?_⟩;unfold gOf at gg;rwa [show yn u.2.1=u.2.1 from by unfold yn;exact al ⋯]at gg
  have e1:uw [("walker" : Str),n,u.1,xv u.2.1,xv u.2.2]=1:=am rfl;have e2:yq [("walker" : Str),n,u.1,xv u.2.1,xv u.2.2]=n:=rfl;show yf wd i x (zm b n::l.map (zm b))=true;unfold yf;rw[ew,e1,e2,al (wv2 (by
   rcases hk with rfl|⟨rfl,hk⟩
   .exact .inl ⋯
   .exact .inr ⟨rfl,hk n (au ..)⟩)),al (by exactλz=>Yz z.symm),am ⟨rfl,I⟩]
  obtain⟨n1,n2⟩:=be.mp nd;obtain⟨L,J⟩:=dv.mp pw;exact qq9 hw (λm F=>h m (aE _ F)) n2 J (.inr ⟨rfl,λm F=>wkh (L m F) λz=>n1 (z▸F)⟩)
variable {ws:List Str}
theorem qw0 (hws:∀(wd:Str->Option Int) (x:Str),(∀n hs,b.rs n=some hs->wd n=some ((hs.length:Int)-1))->yf wd 0 x ws=true):∀ {l:List Str} {wd:Str->Option Int} {x:Str},(∀n∈l,∃hs,b.rs n=some hs/\xy hs/\xj n=true)->l.Nodup->l.Pairwise (λx y=>¬ y.cps.toList<x.cps.toList)->(∀n∈l,x.cps.toList<n.cps.toList)->(∀n hs,b.rs n=some hs->n∉l->wd n=some ((hs.length:Int)-1))->yf wd 0 x (l.map (zr b)++ws)=true
 |[],wd,x,_,_,_,_,hw=>hws wd x λn hs e=>hw n hs e ao
 |n::l,wd,x,h,nd,pw,hk,hw=>by
  obtain⟨hs,e,lo,nn⟩:=h n (au ..);have ew:wu (zr b n)=("road" : Str)::n::hs.map xv:=by unfold zr;rw[e];exact wj8 nn
  have ll:=lo.2.1;have l2:=lo.1;have J:jb (("road" : Str)::n::hs.map xv)=true:=by
   unfold jb;refine bh.mpr ⟨aM (by simp only[aw,ac];lia),bh.mpr ⟨nn,aM ?_⟩⟩;show xy ((hs.map xv).map w9);rw[aW,show hs.map (w9∘xv)=hs from (bz λi hi=>by
    have:=lo.2.2 i hi
    exact Zq ⋯ ⋯).trans (List.map_id hs)]
   exact lo
  have e1:uw (("road" : Str)::n::hs.map xv)=0:=al Yz;have e2:yq (("road" : Str)::n::hs.map xv)=n:=rfl;have Z:(((("road" : Str)::n::hs.map xv).length:Nat):Int)-3=(hs.length:Int)-1:=by simp only[aw,ac];lia
  show yf wd 0 x (zr b n::(l.map (zr b)++ws))=true;unfold yf;rw[ew,e1,e2,Z,al (wv2 (.inr ⟨rfl,hk n (au ..)⟩)),am (show(("road" : Str)::n::hs.map xv).getD 0 "" = "road" from rfl),am J];obtain⟨U,S⟩:=be.mp nd;obtain⟨O,L⟩:=dv.mp pw;refine qw0 hws (λm F=>h m (aE _ F)) S L (λm F=>wkh (O m F) λz=>U (z▸F)) λm ks I nm=>?_;show(if m=n then some ((hs.length:Int)-1) else wd m)=_;by_cases z:m=n
  .rw[am z];rw[z,e]at I;cases I;rfl
  .rw[al z];exact hw m ks I λy=>by
    rcases ap.mp y with y|y
    .exact z y
    .exact nm y
theorem wx1 (pre:ReadPre b NM ms1 ms2):Qf (jn b ms1 ms2)=true:=by
 have S1:=pre.2.2.2.1;have S2:=pre.2.2.2.2;unfold Qf;split
 .rfl
 .rename_i ne;by_cases q:x8 b ms1 ms2=[]
  .exact absurd (by rw[ku,q];decide +kernel) ne
  .unfold xp;rw[(pre.text q).2];unfold x8;refine qw0 (b:=b) (λwd x hw=>qq9 hw (λn hn=>?_) S2.1 S2.2.2 (.inl rfl)) (λn hn=>?_) S1.1 S1.2.2 (λn hn=>?_) λn hs e hn=>?_
   .obtain⟨u,hs,e,er,hp,nn,nw,_⟩:=pre.wlk n hn;exact⟨u,hs,e,er,hp,nn,nw⟩
   .obtain⟨hs,e,lo,nn,_⟩:=pre.row n hn;exact⟨hs,e,lo,nn⟩
   .obtain⟨hs,e,lo,nn,_⟩:=pre.row n hn;exact wz3 nn
   .exact absurd ((S1.2.1 n).mpr (by show(b.rs n).isSome=true;rw[e];rfl)) hn
def Qk:Sp:=λvs H Q _=>∃x:Str,vs=[.str x]/\x.length<=100000/\∀H',Same H H'->Q (.bl (xj x)) H'
theorem filt0 {n:Nat}{c:Nat->Bool}:((List.range n).filter c).length=0↔(List.range n).all (λi=>!c i)=true:=by rw[fC,List.filter_eq_nil_iff,bu];simp
include T in
theorem qvh (F:Fun K "_law_good_name" "_law_good_name" zbx f fd):FK P w K mg base 1 f fd ["_law_name"] Qk:=by
 have L:=Zg;refine F.okX L (λZ H Q E h=>by obtain⟨_,rfl,_⟩:=h;rfl) λ_ _ _ _ H Z Q E hr h=>?_;obtain⟨x,rfl,hx,k⟩:=h;have aa:(1000000:Nat)<sizeLine:=by decide
 refine⟨_,(qu (Jm (i:=1) (M:=[]) L.nd rfl (by walk_at "loc") rfl rfl (by walk_at "cap") (by walk_at "has") (by walk_at "cix") rfl (by decide +kernel) rfl (show List.Nodup (["_law_sign_here"]:List Str) by decide +kernel) (qw7 (pv 0)) (λ_ _ _ _ _=>(wc Z3 (pv 0) wt rfl)) (λ_ _ _ _ _=>(pv 0)))
   (qm (w8 (Y6 (zp qy5 qj (wn x6 rfl T.len_ aB (wv (pv 0) qk)) (wm _)) (Y6 (zp qy5 (wn x6 rfl T.len_ aB (wv (pv 0) qk)) qj (wm _)) (qv7 (zp zw (wn xk rfl T.len_ aB (wv (pv 1) qk)) qj (wm _)))))))),?_⟩
 refine exI rfl ⟨x,rfl,wxc (λi=>!Yv (x.cps.getD i 0)) (by show x.length<=1000000;lia) (λi H' R hi hs J=>(exI rfl (xx rfl rfl (exI rfl J)))) (λi H' R hi hc hs J=>(exI rfl J)) λp ys np ly=>?_⟩;have I:=Same.upd (H:=H) (o:=.lst ys) np;have U:upd H p (.lst ys) p=some (.lst ys):=qy;generalize upd H p (.lst ys)=H1 at I U;have O:∀z:¬ (1<=x.length/\x.length<=12),Q (.bl false) H1:=λz=>by have:=k H1 I;unfold xj at this;rw[aN z]at this;exact this
 refine⟨_,rfl,x,rfl,⋯,_,_,rfl,rfl,_,rfl,zd (λc1=>?_) (λc1=>?_)⟩
 .refine⟨_,rfl,x,rfl,⋯,_,_,rfl,rfl,_,rfl,zd (λc2=>?_) (λc2=>?_)⟩
  .refine exI rfl ⟨p,exI rfl ⟨.inl (SqL.of U),rfl,?_⟩⟩;have e:decide (V.int (ys.length:Int)=V.int 0)=xj x:=by
    unfold xj;rw[aM (show 1<=x.length/\x.length<=12 by lia),cQ];have:=filt0 (n:=x.cps.size) (c:=λi=>!Yv (x.cps.getD i 0));simp only[Bool.not_not]at this;cases h:(List.range x.cps.size).all (λi=>Yv (x.cps.getD i 0)) with
    |true=>exact aM (by rw[ly,this.mpr h];rfl)
    |false=>exact aN (λz=>by
      have z:(ys.length:Int)=0:=by injection z
      rw[this.mp ⋯]at h;cases h)
   have S:=k H1 I;rw[<-e]at S;exact S
  .exact O ⋯
 .exact O ⋯
open Classical in
def Zy:Sp:=λvs H Q _=>∃(p:Aj) (hs:List Int),vs=[.ref p]/\H p=some (.lst (hs.map V.int))/\hs.length<=100000/\(xy hs->∀H',Same H H'->Q (.bl true) H')/\(¬ xy hs->∀H',Same H H'->Q (.bl false) H')
include T in
theorem qkv (F:Fun K "_law_good_line" "_law_good_line" zby f fd):FK P w K mg base 1 f fd ["_law_row"] Zy:=by
 have sc:=Z1;refine F.okX sc (λvs H Q E h=>by obtain⟨_,_,rfl,_⟩:=h;rfl) λ_ _ _ s H vs Q E hr h=>?_;obtain⟨p,hs,rfl,U,hl,kt,Z⟩:=h;refine⟨_,(qu (Jm (i:=1) (M:=[0]) sc.nd rfl (by walk_at "loc") rfl rfl (by walk_at "cap") (by walk_at "has") (by walk_at "cix") rfl (by decide +kernel) rfl (show List.Nodup (["_law_height","_law_row"]:List Str) by decide +kernel) (v3 (pv 0)) (λ_ _ _ _ _=>(PW.pt (k6 (wc jr (pv 0) qj (wm _)) (jk (wc jh (pv 0) (wg Qh (wn (qx3 (K:=K) rfl) rfl T.len_ aB (wv (pv 1) qk)) qj) (wm _)))))) (λ_ _ _ _ _=>(pv 0)))
   (qm (w8 (Y6 (zp qy5 qj (wn xk rfl T.len_ aB (wv (pv 0) qk)) (wm _)) (Y6 (zp qy5 (wn xk rfl T.len_ aB (wv (pv 0) qk)) qj (wm _)) (qv7 (zp zw (wn xk rfl T.len_ aB (wv (pv 1) qk)) qj (wm _)))))))),?_⟩
 have J:(hs.map V.int).length=hs.length:=ac _;let c:Nat->Bool:=λi=>decide (hs.getD i 0<0)||decide (hs.getD i 0>(hs.length:Int)-1);refine exI rfl ⟨p,rfl,⟨_,SqL.of U⟩,qub (K:=K) c (SqL.of U) (by rw[J];lia) (λi v H' R L s' I=>?_) (λi v H' R L ci s' I=>(exI rfl (I H' (Same.refl _)))) λq H1 nq O f1=>?_⟩
 .rw[aD]at L;cases em:hs[i]? with
  |none=>rw[em]at L;cases L
  |some h =>
   rw[em]at L;cases L;have S:hs.getD i 0=h:=by rw[aA,em];rfl
   have I:=I H' (Same.refl _);have ec:c i=(decide (h<0)||decide (h>(hs.length:Int)-1)):=by show(decide (hs.getD i 0<0)||_)=_;rw[S]
   rw[ec]at I;refine exI rfl (xx rfl rfl (exI rfl (zd (λz=>?_) (λz=>?_))))
   .rw[aM z,Bool.true_or]at I;exact I
   .rw[aN z,Bool.false_or]at I;refine exI rfl (exI rfl ⟨p,exI rfl ⟨.inl (SqL.of (s' _ _ U)),xx rfl rfl (xx rfl rfl (exI rfl ?_))⟩⟩);rw[J];exact I
 .have aa:(Jf c (hs.map V.int) (hs.map V.int).length).length=0↔∀h∈hs,0<=h/\h<=(hs.length:Int)-1:=by
   unfold Jf;rw[ac,J,filt0,bu];constructor
   .intro z h hh;obtain⟨i,hi,e⟩:=dZ hh;have:=z i (bc.mpr hi);have S:hs.getD i 0=h:=by rw[aA,ag hi];exact e
    simp only[c,S,Bool.not_eq_true',Bool.or_eq_false_iff,fF]at this;lia
   .intro z i hi;have hi:=bc.mp hi;have:=z hs[i] (bt hi);have S:hs.getD i 0=hs[i]:=by rw[aA,ag hi];rfl
    simp only[c,S,Bool.not_eq_true',Bool.or_eq_false_iff,fF];lia
  generalize Jf c (hs.map V.int) (hs.map V.int).length=ys at aa f1;have ad:=O _ _ U;refine exI rfl ⟨p,exI rfl ⟨.inl (SqL.of ad),xx rfl rfl (exI rfl (zd (λc1=>?_) (λc1=>?_)))⟩⟩
  .rw[J]at c1;refine exI rfl ⟨p,exI rfl ⟨.inl (SqL.of ad),xx rfl rfl (exI rfl (zd (λc2=>?_) (λc2=>?_)))⟩⟩
   .rw[J]at c2;refine exI rfl ⟨q,exI rfl ⟨.inl (SqL.of f1),rfl,?_⟩⟩;by_cases z:∀h∈hs,0<=h/\h<=(hs.length:Int)-1
    .rw[aa.mpr z,aM (show V.int ((0:Nat):Int)=V.int 0 from rfl)];exact kt ⟨⋯,⋯,z⟩ H1 O
    .rw[aN (λy=>z (aa.mp (by
      have y:(ys.length:Int)=0:=by injection y
      lia)))]
     exact Z (λl=>z l.2.2) H1 O
   .rw[J]at c2;exact Z (λl=>by have:=l.2.1;lia) H1 O
  .rw[J]at c1;exact Z (λl=>by have:=l.1;lia) H1 O
def qk7:Sp:=λvs H Q _=>∃x:Str,vs=[.str x]/\x.length<=100000/\Q (.int (w9 x)) H
theorem str_len0 {x:Str}:x = "" ↔ x.length=0:=by refine⟨λe=>by rw[e];decide +kernel,λe=>Wh ?_⟩;have l:x.cps.toList.length=x.length:=aO;rw[List.eq_nil_of_length_eq_zero (l.trans e)];decide +kernel
theorem www {x:Str}(h:x.length≠0):(V.str ⟨#[x.cps.getD 0 0]⟩=V.str "0")↔x.cps.getD 0 0=48:=by
 have e:("0" : Str)=⟨#[48]⟩:=by decide +kernel
 rw[e];refine⟨λz=>?_,λz=>by rw[z]⟩;injection z with z
 injection z with z
 injection z with z
 injection z
theorem wq9 {x:Str}(h:i<x.length):atI x.cps.toList (i:Int)=some (x.cps.getD i 0):=by refine v8 ?_;have h:i<x.cps.size:=h;simp[Array.getD,h]
include T in
theorem qxf (F:Fun K "_law_number" "_law_number" zb0 f fd):FK P w K mg base 1 f fd ["_law_word"] qk7:=by
 have sc:=qw1;refine F.okX sc (λvs H Q E h=>by obtain⟨_,rfl,_⟩:=h;rfl) λ_ _ _ _ H vs Q E hr h=>?_;obtain⟨x,rfl,hx,k⟩:=h;have aa:(1000000:Nat)<sizeLine:=by decide
 have U:∀z:x.length=0\/9<x.length\/(1<x.length/\x.cps.getD 0 0=48),Q (.int (-1)) H:=λz=>by have k:=k;unfold w9 at k;rwa [am z]at k
 refine⟨_,(qu (xc (PW.pt (k6 (wc zw (pv 0) wt (wm _)) (k6 (wc jh (wn x6 rfl T.len_ aB (wv (pv 0) qk)) qj (wm _)) (jk (PW.pt (Zu (wc jh (wn x6 rfl T.len_ aB (wv (pv 0) qk)) qj (wm _)) (ut (wc zw (xn qk0 (pv 0) qj (λ_ _=>rfl)) wt (wm _))))))))) (qm (w8 (wk6 wqu qj))) xz)
   (qu (ju bd rfl (qw7 (pv 0)) (xf (i:=1)) (qm (xc (wc Z3 (pv 1) wt rfl) (qm (w8 (wk6 wqu qj))) xz)))
   (qm (w8 (zv uq rfl T.int_ cu (wv (pv 0) qk)))))),?_⟩
 refine exI rfl ⟨rfl,_,rfl,zd (λI=>?_) λI=>?_⟩
 .exact vg (exI rfl (U (.inl (str_len0.mp (V.str.inj I)))))
 refine⟨_,rfl,_,rfl,⋯,_,_,rfl,rfl,_,rfl,zd (λc1=>?_) λc1=>?_⟩
 .exact vg (exI rfl (U (.inr (.inl ⋯))))
 have I:x.length≠0:=λz=>I (bi V.str (str_len0.mpr z));refine⟨_,rfl,_,rfl,⋯,_,_,rfl,rfl,_,rfl,zd (λc2=>?_) λc2=>?_⟩;rotate_left
 .have J:¬ (x.length=0\/9<x.length\/(1<x.length/\x.cps.getD 0 0=48)):=by rintro (h|h|h) <;> lia
  refine jq ?_;refine exI rfl ⟨x,rfl,wqr (λi σ H'=>H'=H/\(∀j,j<i->Qg (x.cps.getD j 0)=true)/\∃z:Option V,σ=[some (.str x),z]) ⟨rfl,λj h=>absurd h ⋯,_,rfl⟩ ?_ ?_⟩
  .rintro i σ H' hi ⟨rfl,ha,z,rfl⟩;refine exI rfl (xx rfl rfl (exI rfl ?_));show if(!Qg (x.cps.getD i 0))=true then _ else _
   cases fb:Qg (x.cps.getD i 0) with
   |true =>
    refine(jq ?_:if(false:Bool)=true then _ else _);refine⟨rfl,λj L=>?_,_,rfl⟩;by_cases z:j=i
    .rw[z];exact fb
    .exact ha j ⋯
   |false =>
    refine(vg ?_:if(true:Bool)=true then _ else _);have ff:¬ Yg x=true:=λy=>by have:=bu.mp y i (bc.mpr hi);rw[fb]at this;cases this
    have k:=k;unfold w9 at k;rw[al J,al ff]at k;exact exI rfl k
  .rintro σ H' ⟨rfl,ha,z,rfl⟩;have O:Yg x=true:=bu.mpr λj L=>ha j (bc.mp L);have ad:=Qn O;have l1:x.cps.toList.length=x.length:=aO;have Z:x.cps.toList≠[]:=λe=>I (by rw[<-l1,e];rfl);have S:=cA ad Z ⋯;have k:=k;unfold w9 at k;rw[al J,am O,S]at k;exact⟨_,rfl,_,_,rfl,S,⋯,k⟩
 .refine⟨_,rfl,x,0,x.cps.getD 0 0,rfl,rfl,⋯,wq9 (i:=0) ⋯,rfl,_,rfl,zd (λc3=>?_) λc3=>?_⟩
  .exact exI rfl (U (.inr (.inr ⟨⋯,(www I).mp c3⟩)))
  have J:¬ (x.length=0\/9<x.length\/(1<x.length/\x.cps.getD 0 0=48)):=by
   rintro (h|h|⟨_,h⟩)
   .lia
   .lia
   .exact c3 ((www I).mpr h)
  refine exI rfl ⟨x,rfl,wqr (λi σ H'=>H'=H/\(∀j,j<i->Qg (x.cps.getD j 0)=true)/\∃z:Option V,σ=[some (.str x),z]) ⟨rfl,λj h=>absurd h ⋯,_,rfl⟩ ?_ ?_⟩
  .rintro i σ H' hi ⟨rfl,ha,z,rfl⟩;refine exI rfl (xx rfl rfl (exI rfl ?_));show if(!Qg (x.cps.getD i 0))=true then _ else _
   cases fb:Qg (x.cps.getD i 0) with
   |true =>
    refine(jq ?_:if(false:Bool)=true then _ else _);refine⟨rfl,λj L=>?_,_,rfl⟩;by_cases z:j=i
    .rw[z];exact fb
    .exact ha j ⋯
   |false =>
    refine(vg ?_:if(true:Bool)=true then _ else _);have ff:¬ Yg x=true:=λy=>by have:=bu.mp y i (bc.mpr hi);rw[fb]at this;cases this
    have k:=k;unfold w9 at k;rw[al J,al ff]at k;exact exI rfl k
  .rintro σ H' ⟨rfl,ha,z,rfl⟩;have O:Yg x=true:=bu.mpr λj L=>ha j (bc.mp L);have ad:=Qn O;have l1:x.cps.toList.length=x.length:=aO;have Z:x.cps.toList≠[]:=λe=>I (by rw[<-l1,e];rfl);have S:=cA ad Z ⋯;have k:=k;unfold w9 at k;rw[al J,am O,S]at k;exact⟨_,rfl,_,_,rfl,S,⋯,k⟩
def qk2 (H:Hp)(p:Aj)(ws:List Str):Prop:=H p=some (.lst (ws.map V.str))/\ws.length<=100000/\∀r∈ws,r.length<=100000
def qv5:Sp:=λvs H Q _=>∃(p:Aj) (ws:List Str),vs=[.ref p]/\qk2 H p ws/\∀H',Same H H'->Q (.bl (jb ws)) H'
include T in
theorem qvq (F:Fun K "_law_road_good" "_law_road_good" zb1 f fd)(zct:Cal P w K mg base "_law_good_name" 1 Qk)(zg4:Cal P w K mg base "_law_good_line" 1 Zy)(zcc:Cal P w K mg base "_law_number" 1 qk7):FK P w K mg base 2 f fd ["_law_words"] qv5:=by
 have sc:=Z4;refine F.okX sc (λZ H Q E h=>by obtain⟨_,_,rfl,_⟩:=h;rfl) λ_ _ _ s H Z Q E hr h=>?_;obtain⟨p,ws,rfl,⟨I,L,J⟩,k⟩:=h;have ak:(1000000:Nat)<sizeLine:=by decide
 refine⟨_,(qu (xc (PW.pt (k6 (wc jr (wn xk rfl T.len_ aB (wv (pv 0) qk)) qj (wm _)) (jk (Qw (Qq (wCA zct (vz (xn v5 (pv 0) qj (λ_ _=>rfl)) qk))))))) (qm (w8 W1)) xz)
   (qm (w8 (wCA zg4 (xh (vm (M:=[]) rfl rfl (by walk_at "cap") (by walk_at "has") (by walk_at "cix") rfl (by decide +kernel) rfl (show List.Nodup (["_law_word"]:List Str) by decide +kernel) (v3 (v6 qvf (pv 0) (jf qj) jd)) (λ_ _ _ _ _=>(wy zcc (hr.mono ⋯) rfl qk6 (wv (pv 0) qk)))) qk))))),?_⟩
 refine exI rfl ⟨p,exI rfl ⟨.inl (SqL.of I),xx rfl rfl (exI rfl (zd (λc1=>?_) λc1=>?_))⟩⟩
 .have k:=k H (Same.refl _);unfold jb at k;rw[aN (by rw[ac]at c1;lia),dC]at k;exact vg k
 rw[ac]at c1
 match ws,I,L,J,k,c1 with
 |[],I,L,J,k,c1=>exact absurd ⋯ c1
 |[_],I,L,J,k,c1=>exact absurd (by show(1:Int)<3;decide) c1
 |w0::w1::l,I,L,J,k,c1 =>
  have I:H p=some (.lst (V.str w0::V.str w1::l.map V.str)):=I;refine exI rfl (.inl ⟨p,_,_,_,rfl,rfl,SqL.of I,at1 _ _ _,w1,rfl,J w1 (by simp),λH1 O=>?_⟩);cases nn:xj w1 with
  |false =>
   have k:=k H1 O;unfold jb at k;rw[show(w0::w1::l).getD 1 "" = w1 from rfl,nn,dC,fM]at k;exact exI rfl (vg k)
  |true =>
   refine exI rfl (jq ?_);have ai:=O _ _ I;refine exI rfl (exI rfl ⟨p,exI rfl ⟨SqL.of ai,λl2 aa=>?_⟩⟩);rw[cut2];have aj:(l.map V.str).length<=100000:=by rw[ac];simp only[aw]at L;lia
   refine⟨l2,rfl,⟨_,SqL.of qy⟩,yk (λx=>match x with|.str z=>.int (w9 z)|_=>.non) (λx b=>by split <;> exactλz=>nomatch z) (SqL.of qy) ⋯ (λx H' R ad s2 hR=>?_) λq H2 nq s2 U=>?_⟩
   .obtain⟨z,hz,rfl⟩:=av.mp ad;exact exI rfl ⟨z,rfl,J z (by simp[hz]),hR H' (Same.refl _)⟩
   .have em:(l.map V.str).map (λx=>match x with|.str z=>V.int (w9 z)|_=>.non)=(l.map w9).map V.int:=by rw[aW,aW];rfl
    rw[em]at U;have S:=(O.trans (Same.upd (o:=.lst (l.map V.str)) aa)).trans s2;refine⟨q,_,rfl,U,by rw[ac]at aj ⊢;lia,λlo H' s'=>?_,λlo H' s'=>?_⟩
    .have k:=k H' (S.trans s');unfold jb at k;rw[show(w0::w1::l).getD 1 "" = w1 from rfl,nn,show((w0::w1::l).drop 2)=l from rfl,aM lo,aM ⋯]at k;exact k
    .have k:=k H' (S.trans s');unfold jb at k;rw[show(w0::w1::l).getD 1 "" = w1 from rfl,nn,show((w0::w1::l).drop 2)=l from rfl,aN lo,fM,fM]at k;exact k
def WdAt (H:Hp)(d:Aj)(wd:Str->Option Int):Prop:=∃R:List (Key×V),H d=some (.dK R)/\(∀n,wp R (.inr n)=(wd n).map V.int)/\∀n k,wd n=some k->0<=k/\k<=100
theorem WdAt.same {d:Aj}(h:WdAt H d wd)(s:Same H H'):WdAt H' d wd:=by obtain⟨R,e,a,b⟩:=h;exact⟨R,s _ _ e,a,b⟩
theorem WdAt.get {d:Aj}(h:WdAt H d wd)(n:Str):DGet H d (.str n) ((wd n).map V.int):=by obtain⟨R,e,a,b⟩:=h;rw[<-a n];exact DGet.k (k:=.inr n) e
theorem qwh (z:Str):-1<=w9 z/\w9 z<1000000000:=by
 by_cases h:0<=w9 z
 .exact⟨⋯,(j9 h).2⟩
 .refine⟨?_,⋯⟩;unfold w9 at h ⊢;split
  .exact dQ _
  .rename_i c;rw[al c]at h;split
   .rename_i f;rw[am f]at h;have ad:=Qn f;have l1:z.cps.toList.length=z.length:=aO;have ne:z.cps.toList≠[]:=λe=>c (.inl (by rw[<-l1,e];rfl));rw[cA ad ne ⋯]at h ⊢;exact absurd (Int.natCast_nonneg _) h
   .exact dQ _
def qvu:Sp:=λvs H Q _=>∃(p d:Aj) (ws:List Str) (wd:Str->Option Int),vs=[.ref p,.ref d]/\qk2 H p ws/\WdAt H d wd/\∀H',Same H H'->Q (.bl (yy wd ws)) H'
include T in
theorem qwm (F:Fun K "_law_walker_good" "_law_walker_good" zb2 f fd)(zct:Cal P w K mg base "_law_good_name" 1 Qk)(zcc:Cal P w K mg base "_law_number" 1 qk7)(zci:Cal P w K mg base "_law_common" 1 qwv):FK P w K mg base 2 f fd ["_law_words","_law_wides"] qvu:=by
 have sc:=Wp;refine F.okX sc (λvs H Q E h=>by obtain⟨_,_,_,_,rfl,_⟩:=h;rfl) λ_ _ _ _ H vs Q E hr h=>?_;obtain⟨p,d,ws,wd,rfl,⟨J,hl,O⟩,Z,k⟩:=h;have aa:(1000000:Nat)<sizeLine:=by decide
 refine⟨_,(qu (xc (PW.pt (k6 (wc qx9 (wn xk rfl T.len_ aB (wv (pv 0) qk)) qj (wm _)) (k6 (Qw (Qq (wCA zct (vz (xn v5 (pv 0) qj (λ_ _=>rfl)) qk)))) (jk (qvy (Jw (js hr) (xn v5 (pv 0) qj (λ_ _=>rfl)) (pv 1))))))) (qm (w8 W1)) xz)
   (qu (w6 (i:=2) (wCA zcc (vz (xn v5 (pv 0) qj (λ_ _=>rfl)) qk)))
   (qu (w6 (i:=3) (wCA zcc (vz (xn v5 (pv 0) qj (λ_ _=>rfl)) qk)))
   (qu (xc (PW.pt (k6 (wc jr (pv 2) qj (wm _)) (k6 (wc jr (pv 3) qj (wm _)) (k6 (wc jh (pv 3) qj (wm _)) (jk (wc jh (pv 2) (wg zb (Wu (js hr) (pv 1) (xn v5 (pv 0) qj (λ_ _=>rfl)) (λ_ _=>rfl)) (pv 3)) (wm _))))))) (qm (w8 W1)) xz)
   (qm (w8 (zp zw (wCA zci (wv (pv 2) (wv (pv 3) qk))) qj (wm _)))))))),?_⟩
 refine exI rfl ⟨p,exI rfl ⟨.inl (SqL.of J),rfl,_,rfl,iteNDV (λc1=>?_) λc1=>?_⟩⟩
 .have k:=k H (Same.refl _);unfold yy at k;rw[aN (by rw[ac]at c1;lia),dC]at k;exact vg k
 rw[ac]at c1
 match ws,J,hl,O,k,c1 with
 |[w0,w1,w2,w3,w4],J,hl,O,k,c1 =>
  have J:H p=some (.lst [V.str w0,V.str w1,V.str w2,V.str w3,V.str w4]):=J;refine exI rfl (.inl ⟨p,_,_,_,rfl,rfl,SqL.of J,rfl,w1,rfl,O w1 (by simp),λH1 L=>?_⟩);have U:=L _ _ J;have I:=k H1 L;unfold yy at I;rw[show([w0,w1,w2,w3,w4]:List Str).getD 1 "" = w1 from rfl,show([w0,w1,w2,w3,w4]:List Str).getD 2 "" = w2 from rfl,show decide (([w0,w1,w2,w3,w4]:List Str).length=5)=true from rfl,cQ]at I;cases nn:xj w1 with
  |false =>
   rw[nn,dC]at I;exact exI rfl (vg (vg I))
  |true =>
   rw[nn,cQ]at I;refine exI rfl (jq ?_);refine exI rfl (.inl ⟨p,_,_,_,rfl,rfl,SqL.of U,rfl,exI rfl ⟨d,exI rfl ⟨(Z.same L).get w2,_,rfl,?_⟩⟩⟩);cases ew:wd w2 with
   |none =>
    rw[ew]at I;refine(vg ?_:if(true:Bool)=true then _ else _);exact I
   |some k0 =>
    obtain⟨_,_,_,hk⟩:=id Z;have hk:=hk w2 k0 ew;refine(jq ?_:if(false:Bool)=true then _ else _);refine exI rfl (.inl ⟨p,_,_,_,rfl,rfl,SqL.of U,rfl,w3,rfl,O w3 (by simp),?_⟩);refine exI rfl (.inl ⟨p,_,_,_,rfl,rfl,SqL.of U,rfl,w4,rfl,O w4 (by simp),?_⟩);have ra:=qwh w3;have rb:=qwh w4;have S:¬ (0<=w9 w3/\1<=w9 w4/\w9 w4<=40/\w9 w3<=k0*w9 w4/\yr (w9 w3) (w9 w4)=1)->Q (.bl false) H1:=λz=>by have k:=k H1 L;unfold yy at k;rw[show decide (([w0,w1,w2,w3,w4]:List Str).length=5)=true from rfl,show([w0,w1,w2,w3,w4]:List Str).getD 1 "" = w1 from rfl,show([w0,w1,w2,w3,w4]:List Str).getD 2 "" = w2 from rfl,nn,ew]at k;dsimp only at k;rw[show([w0,w1,w2,w3,w4]:List Str).getD 3 "" = w3 from rfl,show([w0,w1,w2,w3,w4]:List Str).getD 4 "" = w4 from rfl,aN z]at k;exact k
    refine exI rfl (xx rfl rfl (exI rfl (zd (λz=>?_) λz1=>?_)))
    .exact vg (S ⋯)
    refine exI rfl (xx rfl rfl (exI rfl (zd (λz=>?_) λz2=>?_)))
    .exact vg (S ⋯)
    refine exI rfl (xx rfl rfl (exI rfl (zd (λz=>?_) λz3=>?_)))
    .exact vg (S ⋯)
    have hg:=(Z.same L).get w2;rw[ew]at hg;refine exI rfl (exI rfl (exI rfl (.inl ⟨p,_,_,_,rfl,rfl,SqL.of U,rfl,d,.int k0,rfl,hg,exI rfl ⟨k0,w9 w4,rfl,rfl,Sm.ok (Sm.small (n:=65) ⋯ ⋯ ⋯) (Sm.small (n:=65) ⋯ ⋯ ⋯) ⋯,xx rfl rfl (exI rfl (zd (λz=>?_) λz4=>?_))⟩⟩)))
    .exact S ⋯
    refine⟨_,rfl,_,rfl,_,_,rfl,⋯,⋯,rfl,?_⟩;have k:=k H1 L;unfold yy at k;rw[show decide (([w0,w1,w2,w3,w4]:List Str).length=5)=true from rfl,show([w0,w1,w2,w3,w4]:List Str).getD 1 "" = w1 from rfl,show([w0,w1,w2,w3,w4]:List Str).getD 2 "" = w2 from rfl,nn,ew]at k;dsimp only at k;rw[show([w0,w1,w2,w3,w4]:List Str).getD 3 "" = w3 from rfl,show([w0,w1,w2,w3,w4]:List Str).getD 4 "" = w4 from rfl,cQ,cQ]at k;have e:decide (0<=w9 w3/\1<=w9 w4/\w9 w4<=40/\w9 w3<=k0*w9 w4/\yr (w9 w3) (w9 w4)=1)=decide (V.int (yr (w9 w3) (w9 w4))=V.int 1):=by
     by_cases g:yr (w9 w3) (w9 w4)=1
     .rw[aM ⟨⋯,⋯,⋯,⋯,g⟩,aM (bi V.int g)]
     .rw[aN (λz=>g z.2.2.2.2),aN (λz=>g (V.int.inj z))]
    rw[e]at k;exact k
def qks:Sp:=λvs H Q _=>∃z:Str,vs=[.str z]/\z.length<=90000/\∀H',Same H H'->Q (.bl (Qf z)) H'
structure LgI (z:Str)(H:Hp)(l d lk:Aj)(i0:Int)(x:Str)(wd:Str->Option Int)(i:Nat)(Hx:Hp):Prop where
 s:Same H Hx
 fl:Hx l=some (.lst ((xp z).map V.str))
 fk:Hx lk=some (.tup [.int i0,.str x])
 fd:∃R:List (Key×V),Hx d=some (.dK R)/\R.length<=i/\(∀n,wp R (.inr n)=(wd n).map V.int)
 lo:∀n k,wd n=some k->0<=k/\k<=100
 nd:H d=none
 g:yf wd i0 x ((xp z).drop i)=Qf z
theorem Q3 (z:Str):(wu z).length<=z.length+1:=by
 have e:=u6 z;have f:∀r∈wu z,32∉r.cps.toList:=by unfold wu;rw[Qc];exact du z 32
 have:=Jq 32 ((wu z).map λs=>s.cps.toList) (by simpa using jj z) λx F=>by obtain⟨r,I,rfl⟩:=av.mp F;exact f r I
 rw[<-jg,<-e,ac]at this;have c:=dU (a:=32) (l:=z.cps.toList);have J:z.cps.toList.length=z.length:=aO;lia
theorem uu (h:ws≠[]):atI (ws.map V.str) 0=some (V.str (ws.getD 0 "")):=by
 cases ws with
 |nil=>exact absurd rfl h
 |cons w l=>exact v8 (j:=0) rfl
theorem wzq (h:ws≠[]):atI (ws.map V.str++[V.str ""]) 1=some (V.str (yq ws)):=by
 cases ws with
 |nil=>exact absurd rfl h
 |cons w l =>
  cases l with
  |nil=>exact v8 (j:=1) rfl
  |cons y l=>exact v8 (j:=1) rfl
theorem wjp (ws:List Str):(if decide (V.str (ws.getD 0 "")=V.str "walker")=true then(1:Int) else 0)=uw ws:=by
 unfold uw;by_cases h:ws.getD 0 "" = "walker"
 .rw[am h,am (aM (bi V.str h))]
 .rw[al h,al (λz=>h (V.str.inj (bF z)))]
include T in
theorem qy3 (F:Fun K "_law_good" "_law_good" zb3 f fd)(zg5:Cal P w K mg base "_law_road_good" 2 qv5)(zg6:Cal P w K mg base "_law_walker_good" 2 qvu):FK P w K mg base 3 f fd ["_law_text_here"] qks:=by
 have sc:=qkt;refine F.okX sc (λvs H Q E h=>by obtain⟨_,rfl,_⟩:=h;rfl) λ_ _ _ s H vs Q E hr h=>?_;obtain⟨z,rfl,hz,k⟩:=h;have a8:(1000000:Nat)<sizeLine:=by decide
 refine⟨_,(qu (w6 (i:=1) yc)
   (qu (w6 (i:=2) (jz (xq qj (xq wt qk))))
   (qu (xc (wc zw (pv 0) wt (wm _)) (qm (w8 W1)) xz)
   (qu (ju bd rfl (v3 (kh aY bL bM ym (pv 0) (xq wt qk))) (xf (i:=3)) (qu (w6 (i:=4) (kh aY bL bM ym (pv 3) (xq wt qk)))
   (qu (w6 (i:=5) (jz (z9 (zv qz0 rfl T.int_ cu (xh (zp zw (xn v5 (pv 4) qj (λ_ _=>rfl)) wt (wm _)) qk)) (vz (xn v5 (wg Qz (pv 4) (vj (xq wt qk))) qj (λ_ _=>rfl)) qk))))
   (qu (xc (wc (wj0 (Nat.lt_of_succ_lt (js hr))) (pv 5) (pv 2) (wm _)) (qm (w8 W1)) xz)
   (j0 (xc (PW.pt (Zu (wc zw (xn v5 (pv 4) qj (λ_ _=>rfl)) wt (wm _)) (ut (wc zw (xn v5 (pv 5) qj (λ_ _=>rfl)) qj (wm _))))) (qu (xc (Qw (Qq (wCA zg5 (wv (pv 4) qk)))) (qm (w8 W1)) xz)
   (qm (qqy (js hr) (pv 1) (xn v5 (pv 4) qj (λ_ _=>rfl)) (wg Qh (wn xk rfl T.len_ aB (wv (pv 4) qk)) qj) rfl))) (qm (xc (PW.pt (k6 (wc qx9 (xn v5 (pv 4) qj (λ_ _=>rfl)) wt (wm _)) (jk (Qw (Qq (wCA zg6 (wv (pv 4) (wv (pv 1) qk)))))))) (qm (w8 W1)) xz)))
   (qm (w6 (i:=2) (pv 5))))))))
   (qm (w8 W1)))))),?_⟩
 refineλd nd=>⟨sz2,λI aa=>?_⟩;have S:Same H (upd (upd H d (.dK [])) I (.tup [.int 0,.str ""])):=(Same.upd nd).trans (Same.upd aa);have a5:d≠I:=λe=>by rw[<-e,qy]at aa;cases aa
 have a0:upd (upd H d (.dK [])) I (.tup [.int 0,.str ""]) d=some (.dK []):=by rw[wj a5,qy]
 have aj:upd (upd H d (.dK [])) I (.tup [.int 0,.str ""]) I=some (.tup [.int 0,.str ""]):=qy;dsimp only [vc,Qu,tC];generalize upd (upd H d (.dK [])) I (.tup [.int 0,.str ""])=H1 at S a0 aj;refine exI rfl ⟨rfl,_,rfl,zd (λe=>?_) λe=>?_⟩
 .have k:=k H1 S;unfold Qf at k;rw[am (V.str.inj e)]at k;exact k
 have ez:¬ z = "" := λy=>e (bi V.str y);have eg:Qf z=yf (λ_=>none) 0 "" (xp z):=by unfold Qf;rw[al ez]
 obtain⟨z1,z2⟩:=jm (z:=z) (c:=10) ⋯;have lr:(xp z).length<=100001:=by rw[jx];have:=dU (a:=10) (l:=z.cps.toList);have l1:z.cps.toList.length=z.length:=aO;unfold nlC;lia
 refine⟨_,rfl,rfl,_,_,rfl,rfl,by decide +kernel,z1,by rw[W5];exact z2,by show(xp z).length<=_;lia,λl nl=>?_⟩;have s2:Same H1 (upd H1 l (.lst ((xp z).map V.str))):=Same.upd nl;have f2:upd H1 l (.lst ((xp z).map V.str)) l=some (.lst ((xp z).map V.str)):=qy;have s3:=S.trans s2;have ik:LgI z H l d I 0 "" (λ_=>none) 0 (upd H1 l (.lst ((xp z).map V.str))):=⟨s3,f2,s2 _ _ aj,⟨[],s2 _ _ a0,ah _,λn=>rfl⟩,(λn k e=>nomatch e),nd,eg.symm⟩;clear aa a0 aj S s2 f2;generalize hh:upd H1 l (.lst ((xp z).map V.str))=H2 at s3 ik;have hh:upd H1 l (.lst ((Txt.split z "\n").map V.str))=H2:=hh;rw[hh];clear hh;refine⟨l,rfl,⟨_,SqL.of ik.fl⟩,uc (xs:=(xp z).map V.str) (λi σ J=>∃(I:Aj) (i0:Int) (x:Str) (wd:Str->Option Int) (z3 z4 z5:Option V),LgI z H l d I i0 x wd i J/\σ=[some (.str z),some (.ref d),some (.ref I),z3,z4,z5]) ⟨_,_,_,_,_,_,_,ik,rfl⟩ (λi σ J _ h=>by obtain⟨_,_,_,_,_,_,_,h,_⟩:=h;exact SqL.of h.fl) ?_ ?_⟩;rotate_left
 .rintro σ J ⟨I,i0,x,wd,z3,z4,z5,h,rfl⟩;have k:=k J h.s;rw[<-h.g,ac,List.drop_length]at k;exact k
 .rintro i y σ J hi ⟨I,i0,x,wd,z3,z4,z5,h,rfl⟩;rw[aD]at hi;cases er:(xp z)[i]? with
  |none=>rw[er]at hi;cases hi
  |some r =>
   rw[er]at hi;cases hi;have mr:r∈xp z:=bO er;have a7:=qy2 mr;have il:i<(xp z).length:=(ba.mp er).1;have ed:(xp z).drop i=r::(xp z).drop (i+1):=by rw[List.drop_eq_getElem_cons il];congr 1;exact(ba.mp er).2
   have g:=h.g;rw[ed]at g;unfold yf at g;obtain⟨w1,w2⟩:=jm (z:=r) (c:=32) ⋯;have lw:(wu r).length<=100001:=by have:=Q3 r;lia
   refine⟨_,rfl,rfl,_,_,rfl,rfl,by decide +kernel,w1,by rw[Qc];exact w2,by show(wu r).length<=_;lia,λp np=>?_⟩;have S:Same J (upd J p (.lst ((wu r).map V.str))):=Same.upd np;have f1:upd J p (.lst ((wu r).map V.str)) p=some (.lst ((wu r).map V.str)):=qy;generalize ad:upd J p (.lst ((wu r).map V.str))=H1 at S f1;have ad:upd J p (.lst ((Txt.split r " ").map V.str))=H1:=ad;rw[ad];clear ad;refine exI rfl (.inl ⟨p,_,_,_,rfl,rfl,SqL.of f1,uu (jj r),rfl,.inr ((exI rfl ?_))⟩);rw[wjp];refine exI rfl ⟨sz1,λq nq=>⟨p,q,xx rfl rfl ⟨Same.upd nq _ _ f1,qy,?_,λj nj=>.inl ⟨j,_,_,_,rfl,rfl,SqL.of qy,wzq (jj r),?_⟩⟩⟩⟩
   .rw[ac];simp only[aw,cP];lia
   refine⟨sz2,λkx nk=>?_⟩;dsimp only [vc,Qu,tC];have s4:=((Same.upd (o:=.lst [V.str ""]) nq).trans (Same.upd nj)).trans (Same.upd (o:=.tup [.int (uw (wu r)),.str (yq (wu r))]) nk);have Z:=qy (H:=upd (upd H1 q (.lst [V.str ""])) j (.lst ((wu r).map V.str++[V.str ""]))) (a:=kx) (o:=.tup [.int (uw (wu r)),.str (yq (wu r))]);generalize upd (upd (upd H1 q (.lst [V.str ""])) j (.lst ((wu r).map V.str++[V.str ""]))) kx (.tup [.int (uw (wu r)),.str (yq (wu r))])=H4 at s4 Z;clear nq nj nk;have U:=S.trans s4;have t1:SqT K H4 kx [V.int (uw (wu r)),V.str (yq (wu r))]:=SqT.of Z;have t2:SqT K H4 I [V.int i0,V.str x]:=SqT.of (U _ _ h.fk);refine exI rfl (exI rfl ⟨kx,I,uw (wu r),yq (wu r),i0,x,rfl,rfl,t1,t2,_,rfl,?_⟩);cases hle:HT.leIS (uw (wu r)) (yq (wu r)) i0 x with
   |true =>
    rw[hle,am rfl]at g;refine vg ?_;have k:=k H4 (h.s.trans U);rw[<-g]at k;exact k
   |false =>
    rw[hle,al aI]at g;refine jq ?_;have fp:=s4 _ _ f1;have wa:qk2 H4 p (wu r):=⟨fp,by have:=Q3 r;have:=h.s;lia,λu hu=>by have:=qzg hu;lia⟩;obtain⟨R,fd,lR,wR⟩:=h.fd;have no:Qf z=false->∀H',Same H4 H'->Q (.bl false) H':=λe H' s'=>by have k:=k H' ((h.s.trans U).trans s');rw[e]at k;exact k
    refine⟨λσ' H'=>∃wd',LgI z H l d kx (uw (wu r)) (yq (wu r)) wd' (i+1) H'/\σ'=[some (.str z),some (.ref d),some (.ref I),some (.str r),some (.ref p),some (.ref kx)],?_,?_⟩;rotate_left
    .rintro σ' H' ⟨wd',h',rfl⟩;exact exI rfl ⟨kx,_,_,wd',_,_,_,h',rfl⟩
    by_cases h0:(wu r).getD 0 "" = "road"
    .rw[am h0]at g;have ek:uw (wu r)=0:=by unfold uw;rw[h0];exact al Yz
     refine exI rfl (.inl ⟨p,_,_,_,rfl,rfl,SqL.of fp,uu (jj r),rfl,_,rfl,zd (λ_=>?_) λe=>absurd (bi V.str h0) e⟩);refine exI rfl (.inr (.inl ⟨kx,_,_,_,rfl,rfl,SqT.of Z,at0 _ _,rfl,_,rfl,vh (λ_=>?_) λe=>absurd ek e⟩));refine exI rfl ⟨p,wu r,rfl,wa,λH5 L=>?_⟩;cases wb:jb (wu r) with
     |false =>
      rw[al (by rw[wb];exact aI)]at g;exact exI rfl (vg (no g.symm H5 L))
     |true =>
      rw[am wb]at g;have l3:3<=(wu r).length:=by unfold jb at wb;exact bF (bh.mp wb).1
      have e1:(wu r).getD 1 "" = yq (wu r):=by unfold yq;rw[aA,aA,bG ⋯]
      have a1:atI ((wu r).map V.str) 1=some (V.str (yq (wu r))):=by refine v8 (j:=1) ?_;rw[aD,ag ⋯,<-e1,aA,ag ⋯];rfl
      have O:=U.trans L;have an:=O _ _ fd;have ai:=O _ _ h.fl;have ak:=L _ _ Z;have a2:=L _ _ fp;have a3:l≠d:=λe=>by rw[e,an]at ai;cases ai
      have a4:kx≠d:=λe=>by rw[e,an]at ak;cases ak
      have a6:=vf R (.inr (yq (wu r)):Key) (.int (((wu r).length:Int)-3));refine exI rfl (jq ?_);refine exI rfl ⟨p,exI rfl ⟨.inl (SqL.of a2),xx rfl rfl (exI rfl (exI rfl (.inl ⟨p,_,_,_,rfl,rfl,SqL.of a2,a1,d,exI rfl ⟨DPut.k (k:=.inr (yq (wu r))) an ⋯,?_⟩⟩)))⟩⟩;rw[ac];refine⟨putI wd (yq (wu r)) (((wu r).length:Int)-3),⟨λy u e=>?_,?_,?_,⟨_,qy,aX (vf _ _ _) ⋯,λn=>?_⟩,λn k1 e=>?_,h.nd,g⟩,rfl⟩
      .rw[wj (λq=>by rw[q,h.nd]at e;cases e)];exact O _ _ (h.s _ _ e)
      .rw[wj a3];exact ai
      .rw[wj a4];exact ak
      .rw[Q5];unfold putI;by_cases q:n=yq (wu r)
       .rw[am (bi Sum.inr q),am q];rfl
       .rw[al (λz=>q (Sum.inr.inj z)),al q];exact wR n
      .unfold putI at e;by_cases q:n=yq (wu r)
       .rw[am q]at e;cases e;have:xy (((wu r).drop 2).map w9):=by unfold jb at wb;exact bF (bh.mp (bh.mp wb).2).2
        have:=this.2.1;rw[ac,cD]at this;lia
       .rw[al q]at e;exact h.lo n k1 e
    .rw[al h0]at g;refine exI rfl (.inl ⟨p,_,_,_,rfl,rfl,SqL.of fp,uu (jj r),rfl,_,rfl,zd (λe=>absurd (V.str.inj e) h0) λ_=>jq ?_⟩);refine exI rfl (.inl ⟨p,_,_,_,rfl,rfl,SqL.of fp,uu (jj r),rfl,_,rfl,qyr (λe=>?_) λe=>?_⟩)
     .have e:¬ (wu r).getD 0 "" = "walker" := λz=>e (bi V.str z);have ek:uw (wu r)=0:=al e;rw[al (by rw[ek];exactλz=>absurd z.1 ⋯)]at g;exact vg (no g.symm H4 (Same.refl _))
     .have ek:uw (wu r)=1:=am (V.str.inj e);refine exI rfl (exI rfl ⟨p,d,wu r,wd,rfl,wa,⟨R,U _ _ fd,wR,h.lo⟩,λH5 L=>?_⟩);cases wb:yy wd (wu r) with
      |false =>
       rw[al (by rw[wb];exactλz=>absurd z.2 aI)]at g;exact exI rfl (vg (no g.symm H5 L))
      |true =>
       rw[am ⟨ek,wb⟩]at g;have O:=U.trans L;exact exI rfl (jq ⟨wd,⟨h.s.trans O,O _ _ h.fl,L _ _ Z,⟨R,O _ _ fd,⋯,wR⟩,h.lo,h.nd,g⟩,rfl⟩)
def wkc:List Expr->Option (List V)
 |[]=>some []
 |.Constant (.str x) _ _::r=>(wkc r).map (V.str x::·)
 |_=>none
theorem Yq {X:Cx}:∀ {es:List Expr} {vs:List V},wkc es=some vs->PA X es (λ_ H Q=>Q vs H)
 |[],vs,h=>by cases h;exact qk
 |e::r,vs,h=>by
  unfold wkc at h;split at h
  .next _=>simp at *
  .next x j p r' he =>
   cases he;obtain⟨ws,hw,rfl⟩:=ce.mp h;exact xq wt (Yq hw)
  .cases h
theorem ur (a b:Str):nlC (a++b)=nlC a+nlC b:=by unfold nlC;rw[Yy,fh]
theorem wkq {n:Nat}(h:n<=z.length):Txt.slice z none (some (n:Int))=⟨(z.cps.toList.take n).toArray⟩:=by have F:z.cps.toList.length=z.length:=aO;have:=StrLaws.sliceText_to (x:=z) (j:=(n:Int)) ⟨⋯,⋯⟩;refine(show Txt.slice z none (some (n:Int))=StrLaws.sliceText z none (some (n:Int)) from rfl).trans (this.trans ?_);rw[List.drop_zero,show((n:Int)-0).toNat=n by lia]
theorem wk0 {n:Nat}(h:n<=z.length):Txt.slice z (some (n:Int)) none=⟨(z.cps.toList.drop n).toArray⟩:=by have F:z.cps.toList.length=z.length:=aO;have:=StrLaws.sliceText_from (x:=z) (i:=(n:Int)) ⟨⋯,⋯⟩;refine(show Txt.slice z (some (n:Int)) none=StrLaws.sliceText z (some (n:Int)) none from rfl).trans (this.trans ?_);congr 2;refine bS ?_;rw[cD];simp only[cy];lia
theorem nl_hi {n:Nat}(h:n<=z.length):nlC (Txt.slice z none (some (n:Int)))<=nlC z/\(Txt.slice z none (some (n:Int))).length<=z.length:=by refine⟨?_,Txt.slice_le z _ _⟩;rw[wkq h];exact List.Sublist.count_le _ (eZ _ _)
theorem nl_lo {n:Nat}:nlC (Txt.slice z (some (n:Int)) none)<=nlC z/\(Txt.slice z (some (n:Int)) none).length<=z.length:=by
 refine⟨?_,Txt.slice_le z _ _⟩;by_cases h:n<=z.length
 .rw[wk0 h];exact List.Sublist.count_le _ (List.drop_sublist _ _)
 .rw[PyProof.Rows.slice_from_beyond ⋯];exact aR _
def Zm (r:Str):Prop:=r.length<=1000/\nlC r<=1
theorem wv3:∀A:List (List Nat),(∀x∈A,x.count 10<=1)->(glL 10 A).count 10<=2*A.length
 |[],_=>ah _
 |[x],h=>by show x.count 10<=2;have:=h x (au ..);lia
 |x::y::r,h=>by show(x++10::glL 10 (y::r)).count 10<=_;have a:=h x (au ..);have b:=wv3 (y::r) λz hz=>h z (aE _ hz);rw[fh,List.count_cons_self];simp only[aw]at b ⊢;lia
theorem qvw {N:Nat}:∀ {ms:List Str},(∀m∈ms,m.length<=N)->(ms.map (·.length)).sum<=N*ms.length
 |[],_=>aR _
 |m::ms,h=>by have a:=h m (au ..);have b:=qvw λx hx=>h x (aE m hx);simp only[aV,dP,aw];rw[Nat.mul_succ];lia
theorem qj6 {rs:List Str}(h:∀r∈rs,Zm r)(hl:rs.length<=14):JoinOk ("\n" : Str) rs=true/\(Txt.join ("\n" : Str) rs).length<=15000/\nlC (Txt.join ("\n" : Str) rs)<=28:=by
 have a:=qvw λr F=>(h r F).1;have J:("\n" : Str).length=1:=by decide +kernel
 refine⟨bY ⋯ (by decide +kernel),?_,?_⟩
 .rw[show Txt.join ("\n" : Str) rs=Str.join ("\n" : Str) rs from bx _ _];refine aX (cf _ _) ?_;rw[J];lia
 .rw[show Txt.join ("\n" : Str) rs=Str.join ("\n" : Str) rs from bx _ _,W5];unfold nlC;rw[jg];have b:=wv3 (rs.map λs=>s.cps.toList) λx I=>by obtain⟨r,F,rfl⟩:=av.mp I;exact(h r F).2
  rw[ac]at b;lia
def od0:List Str:=[""," ","road","walker","road a","road a 0","road a 0 0 "," road a 0 0"]
def od1:List Str:=["road a 00 0","road a 0 2","road a -1 0","Road a 0 0","road A 0 0","road  0 0"]
def od2:List Str:=["road a  0 0","road a 0 0 0 4","road aa 1 0","walker a b 0 1","walker a a 0 1"]
def od3:List Str:=["walker a a 0 2","walker a a 2 4","walker a a 1 0","roads a 0 0"]
def od4:List Str:=["walker a a 1","walker a a 1 2 3","walker a a 99 1","walker a a 1 41","walker a a 10000 10001"]
def od5:List Str:=["road a +1 0","road a 0 0\n","road abcdefghijklm 0 0","road a 0,0"]
def od6:List Str:=["road a 0 1000000000001","walker a a 1000000000000 1000000000001"]
def odds:List Str:=od0++od1++od2++od3++od4++od5++od6
instance (r:Str):Decidable (Zm r):=by unfold Zm;exact inferInstance
theorem wvs:odds.map V.str=od0.map V.str++od1.map V.str++od2.map V.str++od3.map V.str++od4.map V.str++od5.map V.str++od6.map V.str:=by unfold odds;simp only[aQ]
theorem wjs:∀r∈odds,Zm r:=by
 have:(odds.all λr=>decide (Zm r))=true:=by decide +kernel
 exactλr hr=>bF (bu.mp this r hr)
theorem wzx:odds.length=34:=by decide +kernel
theorem odd_at {k:Int}(k0:0<=k)(k1:k<34):∃z∈odds,atI (odds.map V.str) k=some (V.str z):=by
 obtain⟨n,rfl⟩:=ca k0;have hn:n<odds.length:=by rw[wzx];lia
 refine⟨odds[n],bt hn,v8 ?_⟩;rw[aD,ag hn];rfl
def wq6:Sp:=λvs H Q _=>∃k:Int,vs=[.int k]/\0<=k/\k<34/\∀H' z,Same H H'->Zm z->Q (.str z) H'
include T in
theorem zg7 (F:Fun K "_law_odd" "_law_odd" zbz f fd):FK P w K mg base 1 f fd ["_law_k"] wq6:=by
 have sc:=qjh;refine F.okX sc (λvs H Q E h=>by obtain⟨_,rfl,_⟩:=h;rfl) λ_ A _ _ H vs Q E hr h=>?_;obtain⟨k,rfl,k0,k1,kk⟩:=h;have aa:(1000000:Nat)<sizeLine:=by decide
 refine⟨_,(qu (w6 (i:=1) (vj (Yq (vs:=[V.str "",V.str " ",V.str "road",V.str "walker",V.str "road a",V.str "road a 0",V.str "road a 0 0 ",V.str " road a 0 0"]) rfl)))
   (qu (w6 (i:=1) (wg Qz (pv 1) (vj (Yq (vs:=[V.str "road a 00 0",V.str "road a 0 2",V.str "road a -1 0",V.str "Road a 0 0",V.str "road A 0 0",V.str "road  0 0"]) rfl))))
   (qu (w6 (i:=1) (wg Qz (pv 1) (vj (Yq (vs:=[V.str "road a  0 0",V.str "road a 0 0 0 4",V.str "road aa 1 0",V.str "walker a b 0 1",V.str "walker a a 0 1"]) rfl))))
   (qu (w6 (i:=1) (wg Qz (pv 1) (vj (xq wt (xq wt (xq wt (xq wt qk)))))))
   (qu (w6 (i:=1) (wg Qz (pv 1) (vj (Yq (vs:=[V.str "walker a a 1",V.str "walker a a 1 2 3",V.str "walker a a 99 1",V.str "walker a a 1 41",V.str "walker a a 10000 10001"]) rfl))))
   (qu (w6 (i:=1) (wg Qz (pv 1) (vj (xq wt (xq wt (xq wt (xq wt qk)))))))
   (qm (w8 (xn v5 (wg Qz (pv 1) (vj (xq wt (xq wt qk)))) (pv 0) (λ_ _=>rfl)))))))))),?_⟩
 have I:∀m:Nat,m<=100->m<=sizeLine:=λm h=>by lia
 refine⟨I _ ⋯,λl0 n0=>?_⟩;have f0:∀X:Hp,upd X l0 (.lst (od0.map V.str)) l0=some (.lst (od0.map V.str)):=λX=>qy;refine exI rfl ⟨I _ ⋯,λb1 n1=>⟨l0,b1,od0.map V.str,od1.map V.str,rfl,rfl,Same.upd n1 _ _ (f0 _),qy,I _ (by decide +kernel),λZ m1=>?_⟩⟩;have f1:∀X:Hp,upd X Z (.lst (od0.map V.str++od1.map V.str)) Z=some (.lst (od0.map V.str++od1.map V.str)):=λX=>qy;refine exI rfl ⟨I _ ⋯,λb2 n2=>⟨Z,b2,od0.map V.str++od1.map V.str,od2.map V.str,rfl,rfl,Same.upd n2 _ _ (f1 _),qy,I _ (by decide +kernel),λU m2=>?_⟩⟩;have f2:∀X:Hp,upd X U (.lst (od0.map V.str++od1.map V.str++od2.map V.str)) U=some (.lst (od0.map V.str++od1.map V.str++od2.map V.str)):=λX=>qy;refine exI rfl ⟨I _ ⋯,λb3 n3=>⟨U,b3,od0.map V.str++od1.map V.str++od2.map V.str,od3.map V.str,rfl,rfl,Same.upd n3 _ _ (f2 _),qy,I _ (by decide +kernel),λS m3=>?_⟩⟩;have f3:∀X:Hp,upd X S (.lst (od0.map V.str++od1.map V.str++od2.map V.str++od3.map V.str)) S=some (.lst (od0.map V.str++od1.map V.str++od2.map V.str++od3.map V.str)):=λX=>qy;refine exI rfl ⟨I _ ⋯,λb4 n4=>⟨S,b4,od0.map V.str++od1.map V.str++od2.map V.str++od3.map V.str,od4.map V.str,rfl,rfl,Same.upd n4 _ _ (f3 _),qy,I _ (by decide +kernel),λO m4=>?_⟩⟩;have f4:∀X:Hp,upd X O (.lst (od0.map V.str++od1.map V.str++od2.map V.str++od3.map V.str++od4.map V.str)) O=some (.lst (od0.map V.str++od1.map V.str++od2.map V.str++od3.map V.str++od4.map V.str)):=λX=>qy;refine exI rfl ⟨I _ ⋯,λb5 n5=>⟨O,b5,od0.map V.str++od1.map V.str++od2.map V.str++od3.map V.str++od4.map V.str,od5.map V.str,rfl,rfl,Same.upd n5 _ _ (f4 _),qy,I _ (by decide +kernel),λL m5=>?_⟩⟩;have f5:∀X:Hp,upd X L (.lst (od0.map V.str++od1.map V.str++od2.map V.str++od3.map V.str++od4.map V.str++od5.map V.str)) L=some (.lst (od0.map V.str++od1.map V.str++od2.map V.str++od3.map V.str++od4.map V.str++od5.map V.str)):=λX=>qy;refine exI rfl ⟨I _ ⋯,λb6 n6=>⟨L,b6,od0.map V.str++od1.map V.str++od2.map V.str++od3.map V.str++od4.map V.str++od5.map V.str,od6.map V.str,rfl,rfl,Same.upd n6 _ _ (f5 _),qy,I _ (by decide +kernel),λJ m6=>?_⟩⟩;have f6:∀X:Hp,upd X J (.lst (od0.map V.str++od1.map V.str++od2.map V.str++od3.map V.str++od4.map V.str++od5.map V.str++od6.map V.str)) J=some (.lst (odds.map V.str)):=λX=>by rw[wvs];exact qy
 obtain⟨z,hz,ak⟩:=odd_at k0 k1;refine exI rfl (.inl ⟨J,_,_,_,rfl,rfl,SqL.of (f6 _),ak,?_⟩);exact kk _ _ (((((((((((((Same.upd n0).trans (Same.upd n1)).trans (Same.upd m1)).trans (Same.upd n2)).trans (Same.upd m2)).trans (Same.upd n3)).trans (Same.upd m3)).trans (Same.upd n4)).trans (Same.upd m4)).trans (Same.upd n5)).trans (Same.upd m5)).trans (Same.upd n6)).trans (Same.upd m6)) (wjs z hz)
theorem wym (c:Nat):(⟨#[c]⟩:Str).length=1/\nlC ⟨#[c]⟩<=1:=⟨rfl,by unfold nlC;exact dU⟩
def qvb (K:Aa):Sp:=λvs H Q _=>∃(a:Aj) (ns:List Int),vs=[.ref a,.int 0]/\SqL K H a (ns.map V.int)/\∀c:Nat,Q (.str ⟨#[c]⟩) H
include T in
theorem wk5 (F:Fun K "_law_sign" "_law_sign" zb4 f fd)(zaa:Cal P w K mg base "_law_pick" 2 (yb K)):FK P w K mg base 3 f fd ["_law_script","_law_at"] (qvb K):=by
 have U:=qvp;refine F.okX U (λS H Q E h=>by obtain⟨_,_,rfl,_⟩:=h;rfl) λ_ _ _ _ H S Q E hr h=>?_;obtain⟨a,L,rfl,O,k⟩:=h;have aa:(1000000:Nat)<sizeLine:=by decide
 refine⟨_,(qu (w6 (i:=2) wt)
   (qu (w6 (i:=2) (wg xg (pv 2) wt))
   (j0 (xc (wc zw (wCA zaa (wv (pv 0) (wv (pv 1) (xq qj (xq qj qk))))) qj (wm _)) (qm (w6 (i:=2) wt)) xz)
   (qm (w8 (xn qk0 (pv 2) (wCA zaa (wv (pv 0) (wv (pv 1) (xq qj (z9 (wn x6 rfl T.len_ aB (wv (pv 2) qk)) qk))))) (λ_ _=>rfl))))))),?_⟩
 refine exI rfl (xx rfl rfl ⟨?_,?_⟩)
 .exact aX (show _<=1000000 by decide +kernel) (bH aa)
 refine⟨λI H'=>H'=H/\∃x:Str,I=[some (.ref a),some (.int 0),some (.str x)]/\1<=x.length/\x.length<=1000,?_,?_⟩
 .refine⟨_,rfl,_,rfl,a,L,_,_,_,rfl,O,⋯,⋯,⋯,⋯,λr _ J Z=>?_⟩;refine⟨rfl,_,rfl,vh (λ_=>⟨rfl,_,rfl,by decide +kernel,by decide +kernel⟩) λ_=>⟨rfl,_,rfl,by decide +kernel,by decide +kernel⟩⟩
 .rintro I H' ⟨rfl,x,rfl,x1,x2⟩;refine⟨_,rfl,_,rfl,_,rfl,_,rfl,x,rfl,⋯,a,L,_,_,_,rfl,O,⋯,⋯,⋯,⋯,λr _ J Z=>?_⟩;obtain⟨n,rfl⟩:=ca J;exact⟨x,_,_,rfl,rfl,⋯,wq9 ⋯,k _⟩
theorem qzz {β:Type}(g:α->β):∀(xs:List α) (i:Nat),(xs.map g).eraseIdx i=(xs.eraseIdx i).map g
 |[],_=>rfl
 |_::_,0=>rfl
 |x::xs,i+1=>bi (g x::·) (qzz g xs i)
theorem quh {xs:List Str}(h:i<xs.length):∃r∈xs,xs[i]?=some r/\atI (xs.map V.str) (i:Int)=some (V.str r):=by refine⟨xs[i],bt h,ag h,v8 ?_⟩;rw[aD,ag h];rfl
theorem qkx {n:Nat}(h:i<n):ixN n (i:Int)=some i:=by unfold ixN;rw[am ⋯,am ⋯,cy]
structure RS (H:Hp)(m:Aj)(xs:List Str)(H':Hp):Prop where
 s:Same H H'
 m:H' m=some (.lst (xs.map V.str))
 ok:∀r∈xs,Zm r
theorem RS.put {m:Aj}{xs ys:List Str}(h:RS H m xs H')(nm:H m=none)(ok:∀r∈ys,Zm r):RS H m ys (upd H' m (.lst (ys.map V.str))):=⟨λy u e=>by
 rw[wj (λq=>by rw[q,nm]at e;cases e)]
 exact h.s _ _ e,qy,ok⟩
def qwg (K:Aa):Sp:=λvs H Q _=>∃(a p:Aj) (ns:List Int) (rs:List Str) (kd:Int),vs=[.ref a,.ref p,.int kd]/\SqL K H a (ns.map V.int)/\H p=some (.lst (rs.map V.str))/\(∀r∈rs,Zm r)/\1<=rs.length/\rs.length<=12/\∀H' z,Same H H'->z.length<=15000->nlC z<=28->Q (.str z) H'
include T in
theorem qwy (F:Fun K "_law_rows_spoilt" "_law_rows_spoilt" zb5 f fd)(zaa:Cal P w K mg base "_law_pick" 2 (yb K))(zcu:Cal P w K mg base "_law_odd" 1 wq6):FK P w K mg base 3 f fd ["_law_script","_law_lines","_law_kind"] (qwg K):=by
 have sc:=Ws;refine F.okX sc (λvs H Q E h=>by obtain⟨_,_,_,_,_,rfl,_⟩:=h;rfl) λ_ _ _ _ H vs Q E J h=>?_;obtain⟨a,p,ns,I,kd,rfl,hS,Z,ok,l1,l2,k⟩:=h;have a0:(1000000:Nat)<sizeLine:=by decide
 refine⟨_,(qu (w6 (i:=3) (wCA zaa (wv (pv 0) (xq qj (xq qj (z9 (wn xk rfl T.len_ aB (wv (pv 1) qk)) qk))))))
   (qu (w6 (i:=4) (wCA zaa (wv (pv 0) (xq qj (xq qj (z9 (wn xk rfl T.len_ aB (wv (pv 1) qk)) qk))))))
   (qu (w6 (i:=5) (zv u9 rfl T.list_ bR (wv (pv 1) qk)))
   (j0 (xc (wc zw (pv 2) qj (wm _)) (qu (Wq (xn v5 (pv 1) (pv 4) (λ_ _=>rfl)) (wzt (pv 5) (pv 3) qk9))
   (qm (Wq (xn v5 (pv 1) (pv 3) (λ_ _=>rfl)) (wzt (pv 5) (pv 4) qk9)))) xz)
   (j0 (xc (wc zw (pv 2) qj (wm _)) (qm (zk (kh bD PySem.F.slot_list_pop PySem.F.type_list_pop wk3 (pv 5) (wv (pv 3) qk)))) xz)
   (j0 (xc (wc zw (pv 2) qj (wm _)) (qm (zk (kh bD fo fu qzv (pv 5) (wv (pv 4) (vz (xn v5 (pv 1) (pv 3) (λ_ _=>rfl)) qk))))) xz)
   (j0 (xc (wc zw (pv 2) qj (wm _)) (qm (zk (kh bD fo fu qzv (pv 5) (wv (pv 3) (z9 (wCA zcu (z9 (wCA zaa (wv (pv 0) (xq qj (xq qj (xq qj qk))))) qk)) qk))))) xz)
   (qm (w8 (kh aY cn cr Z2 wt (wv (pv 5) qk))))))))))),?_⟩
 have lm:(I.map V.str).length=I.length:=ac _;refine⟨_,rfl,_,rfl,p,_,rfl,.inl (SqL.of Z),a,ns,_,_,_,rfl,hS,⋯,⋯,⋯,⋯,λan _ o0 o1=>?_⟩;refine⟨_,rfl,_,rfl,p,_,rfl,.inl (SqL.of Z),a,ns,_,_,_,rfl,hS,⋯,⋯,⋯,⋯,λak _ t0 t1=>?_⟩;rw[lm]at o1 t1;obtain⟨i,rfl⟩:=ca o0;obtain⟨j,rfl⟩:=ca t0;have li:i<I.length:=by lia
 have lj:j<I.length:=by lia
 obtain⟨U,mi,_,ai⟩:=quh li;obtain⟨S,mj,_,aj⟩:=quh lj;refine exI rfl ⟨p,exI rfl ⟨.inl (SqL.of Z),λm nm=>?_⟩⟩;have r0:RS H m I (upd H m (.lst (I.map V.str))):=⟨Same.upd nm,qy,ok⟩;generalize upd H m (.lst (I.map V.str))=H1 at r0;let σ0:St:=[some (.ref a),some (.ref p),some (.int kd),some (.int i),some (.int j),some (.ref m)];refine⟨λL H'=>L=σ0/\∃xs,RS H m xs H'/\xs.length=I.length,?_,?_⟩
 .refine exI rfl ⟨rfl,_,rfl,vh (λz=>?_) λz=>⟨rfl,I,r0,rfl⟩⟩;refine exI rfl (exI rfl (.inl ⟨p,_,_,_,rfl,rfl,SqL.of (r0.s _ _ Z),aj,exI rfl (exI rfl ⟨m,_,_,i,rfl,rfl,r0.m,qkx ⋯,?_⟩)⟩));rw[show(I.map V.str).set i (V.str S)=(I.set i S).map V.str from List.map_set.symm];have r1:=r0.put (ys:=I.set i S) nm λr J=>(eX J).elim (ok r) λe=>e▸ok S mj;generalize upd H1 m (.lst ((I.set i S).map V.str))=H2 at r1;have ad:(I.set i S).length=I.length:=fI;refine exI rfl (exI rfl (.inl ⟨p,_,_,_,rfl,rfl,SqL.of (r1.s _ _ Z),ai,exI rfl (exI rfl ⟨m,_,_,j,rfl,rfl,r1.m,qkx (by rw[ac];lia),?_⟩)⟩));rw[show((I.set i S).map V.str).set j (V.str U)=((I.set i S).set j U).map V.str from List.map_set.symm];exact⟨rfl,_,r1.put (ys:=(I.set i S).set j U) nm λr J=>(eX J).elim (λh=>r1.ok r h) λe=>e▸ok U mi,by rw[fI,ad]⟩
 rintro L H' ⟨rfl,xs,rx,O⟩;refine⟨λL H'=>L=σ0/\∃xs,RS H m xs H'/\((kd=1/\xs.length<=12)\/(kd≠1/\xs.length=I.length)),?_,?_⟩
 .refine exI rfl ⟨rfl,_,rfl,vh (λz=>?_) λz=>⟨rfl,xs,rx,.inr ⟨z,O⟩⟩⟩;obtain⟨r,_,er,_⟩:=quh (xs:=xs) (i:=i) ⋯;refine⟨_,rfl,.inl ⟨rfl,_,SqL.of rx.m⟩,_,rfl,m,_,_,i,V.str r,rfl,rfl,rx.m,⋯,⋯,(qvj (qkx (by rw[ac];lia))).1,by rw[aD,er];rfl,?_⟩;rw[show(xs.map V.str).eraseIdx i=(xs.eraseIdx i).map V.str from qzz _ _ _];refine⟨rfl,_,rx.put (ys:=xs.eraseIdx i) nm λr J=>rx.ok r (List.mem_of_mem_eraseIdx J),.inl ⟨z,?_⟩⟩;have:=List.length_eraseIdx_le xs i;lia
 clear rx O;rintro L H' ⟨rfl,xs,rx,O⟩;refine⟨λL H'=>L=σ0/\∃xs,RS H m xs H'/\((kd≠3/\xs.length<=13)\/xs.length=I.length),?_,?_⟩
 .refine exI rfl ⟨rfl,_,rfl,vh (λz=>?_) λz=>⟨rfl,xs,rx,?_⟩⟩
  .have O:xs.length=I.length:=by lia
   refine exI rfl ⟨.inl ⟨rfl,_,SqL.of rx.m⟩,exI rfl (exI rfl (exI rfl (.inl ⟨p,_,_,_,rfl,rfl,SqL.of (rx.s _ _ Z),ai,m,_,_,_,rfl,rfl,rx.m,⋯,⋯,by rw[ac];lia,by rw[ac];lia,?_⟩)))⟩;rw[cy,show(xs.map V.str).take j++V.str U::(xs.map V.str).drop j=(xs.take j++U::xs.drop j).map V.str by rw[aQ,aV,fP,List.map_drop]];refine⟨rfl,_,rx.put (ys:=xs.take j++U::xs.drop j) nm λr J=>?_,.inl ⟨⋯,?_⟩⟩
   .rcases aP.mp J with J|J
    .exact rx.ok r (dR J)
    .rcases ap.mp J with rfl|J
     .exact ok _ mi
     .exact rx.ok r (List.mem_of_mem_drop J)
   .rw[ay,aw,bA,cD];lia
  .rcases O with⟨e,l⟩|⟨_,l⟩
   .exact .inl ⟨⋯,⋯⟩
   .exact .inr l
 clear rx O;rintro L H' ⟨rfl,xs,rx,O⟩;refine⟨λL H'=>L=σ0/\∃xs,RS H m xs H'/\xs.length<=14,?_,?_⟩
 .refine exI rfl ⟨rfl,_,rfl,vh (λz=>?_) λz=>⟨rfl,xs,rx,⋯⟩⟩;have O:xs.length=I.length:=by lia
  refine⟨_,rfl,.inl ⟨rfl,_,SqL.of rx.m⟩,_,rfl,_,rfl,a,ns,_,_,_,rfl,rx.s.sql hS,⋯,⋯,⋯,⋯,λkk _ k0 k1=>?_⟩;refine⟨kk,rfl,k0,k1,λH3 z3 s3 aa=>?_⟩;have r3:RS H m xs H3:=⟨rx.s.trans s3,s3 _ _ rx.m,rx.ok⟩;refine⟨m,_,_,_,rfl,rfl,r3.m,⋯,⋯,by rw[ac];lia,by rw[ac];lia,?_⟩;rw[cy,show(xs.map V.str).take i++V.str z3::(xs.map V.str).drop i=(xs.take i++z3::xs.drop i).map V.str by rw[aQ,aV,fP,List.map_drop]];refine⟨rfl,_,r3.put (ys:=xs.take i++z3::xs.drop i) nm λr J=>?_,?_⟩
  .rcases aP.mp J with J|J
   .exact rx.ok r (dR J)
   .rcases ap.mp J with rfl|J
    .exact aa
    .exact rx.ok r (List.mem_of_mem_drop J)
  .rw[ay,aw,bA,cD];lia
 clear rx O;rintro L H' ⟨rfl,xs,rx,O⟩;obtain⟨j1,j2,j3⟩:=qj6 rx.ok O;exact⟨rfl,exI rfl ⟨_,m,xs,rfl,rfl,SqL.of rx.m,j1,k _ _ rx.s j2 j3⟩⟩
theorem wkj (h:r∈xp z):nlC r=0:=by
 have f:∀r∈xp z,10∉r.cps.toList:=by unfold xp;rw[W5];exact du z 10
 exact eS.mpr (f r h)
def qqh (K:Aa):Sp:=λvs H Q _=>∃(a:Aj) (ns:List Int) (x:Str),vs=[.ref a,.str x]/\SqL K H a (ns.map V.int)/\(∀r∈xp x,r.length<=1000)/\nlC x<=11/\x.length<=15000/\∀H' z,Same H H'->z.length<=40000->nlC z<=40->Q (.str z) H'
include T in
theorem wxu (F:Fun K "_law_spoilt" "_law_spoilt" zb6 f fd)(zaa:Cal P w K mg base "_law_pick" 2 (yb K))(zcu:Cal P w K mg base "_law_odd" 1 wq6)(zg8:Cal P w K mg base "_law_rows_spoilt" 3 (qwg K))(zft:Cal P w K mg base "_law_sign" 3 (qvb K)):FK P w K mg base 4 f fd ["_law_script","_law_text_here"] (qqh K):=by
 have sc:=qwz;refine F.okX sc (λvs H Q E h=>by obtain⟨_,_,_,rfl,_⟩:=h;rfl) λ_ _ _ s H vs Q E hr h=>?_;obtain⟨a,I,x,rfl,J,ad,hn,hx,k⟩:=h;have ai:(1000000:Nat)<sizeLine:=by decide
 have e1:("\n" : Str).length=1:=by decide +kernel
 have e2:nlC "\n" = 1:=by decide +kernel
 refine⟨_,(qu (w6 (i:=2) (wCA zaa (wv (pv 0) (xq qj (xq qj (xq qj qk))))))
   (qu (xc (wc jr (pv 2) qj (wm _)) (qm (w8 (wCA zg8 (wv (pv 0) (z9 (kh aY bL bM ym (pv 1) (xq wt qk)) (wv (pv 2) qk)))))) xz)
   (qu (w6 (i:=3) (wCA zaa (wv (pv 0) (xq qj (xq qj (zj (wg xb (wn x6 rfl T.len_ aB (wv (pv 1) qk)) qj) qk))))))
   (qu (xc (wc zw (pv 2) qj (wm _)) (qm (w8 (wg xg (pv 1) wt))) xz)
   (qu (xc (wc zw (pv 2) qj (wm _)) (qm (w8 (wg xg wt (pv 1)))) xz)
   (qu (xc (wc zw (pv 2) qj (wm _)) (qm (w8 (wCA zcu (z9 (wCA zaa (wv (pv 0) (xq qj (xq qj (xq qj qk))))) qk)))) xz)
   (qu (xc (PW.pt (k6 (wc zw (pv 2) qj (wm _)) (jk (wc zw (pv 2) qj (wm _))))) (qm (w8 (wg xg (wg xg (v6 Zz (pv 1) jd (jf (pv 3))) (wCA zft (wv (pv 0) (xq qj qk)))) (v6 Zz (pv 1) (jf (pv 3)) jd)))) xz)
   (qu (xc (wc zw (pv 2) qj (wm _)) (qm (w8 (wg xg (v6 Zz (pv 1) jd (jf (pv 3))) (v6 Zz (pv 1) (jf (wg xb (pv 3) qj)) jd)))) xz)
   (qu (xc (wc jr (pv 2) qj (wm _)) (qm (w8 (wg xg (wg xg (v6 Zz (pv 1) jd (jf (pv 3))) (wCA zft (wv (pv 0) (xq qj qk)))) (v6 Zz (pv 1) (jf (wg xb (pv 3) qj)) jd)))) xz)
   (qm (w8 (pv 1)))))))))))),?_⟩
 refine⟨_,rfl,a,I,_,_,_,rfl,J,⋯,⋯,⋯,⋯,λkd _ d0 d1=>?_⟩;refine exI rfl (xx rfl rfl (exI rfl (zd (λc=>?_) λ_=>?_)))
 .obtain⟨z1,z2⟩:=jm (z:=x) (c:=10) ⋯;have rc:=jx x;refine⟨_,rfl,_,rfl,rfl,_,_,rfl,rfl,by decide +kernel,z1,by rw[W5];exact z2,by show(xp x).length<=_;lia,λp np=>?_⟩;exact⟨_,rfl,a,p,I,xp x,kd,rfl,(Same.upd np).sql J,qy,λr Z=>⟨ad r Z,by rw[wkj Z];decide⟩,⋯,⋯,λH' z s' l1 l2=>k H' z ((Same.upd np).trans s') ⋯ ⋯⟩
 refine⟨_,rfl,_,rfl,x,rfl,⋯,_,_,rfl,rfl,a,I,_,_,_,rfl,J,⋯,⋯,⋯,⋯,λaj _ a0 a1=>?_⟩;obtain⟨n,rfl⟩:=ca a0;have ln:n<=x.length:=by lia
 obtain⟨h1,h2⟩:=nl_hi ln;obtain⟨h3,h4⟩:=nl_lo (z:=x) (n:=n);obtain⟨h5,h6⟩:nlC (Txt.slice x (some ((n:Int)+1)) none)<=nlC x/\(Txt.slice x (some ((n:Int)+1)) none).length<=x.length:=nl_lo (z:=x) (n:=n+1);refine exI rfl ⟨rfl,_,rfl,vh (λ_=>?_) λ_=>?_⟩
 .exact⟨_,rfl,_,_,rfl,rfl,⋯,k H _ (Same.refl _) (by rw[zu];lia) (by rw[ur];lia)⟩
 refine exI rfl ⟨rfl,_,rfl,vh (λ_=>?_) λ_=>?_⟩
 .exact⟨_,rfl,_,_,rfl,rfl,⋯,k H _ (Same.refl _) (by rw[zu];lia) (by rw[ur];lia)⟩
 refine exI rfl ⟨rfl,_,rfl,vh (λ_=>?_) λ_=>?_⟩
 .exact⟨_,rfl,a,I,_,_,_,rfl,J,⋯,⋯,⋯,⋯,λkk _ k0 k1=>⟨kk,rfl,k0,k1,λH3 z3 s3 S=>k H3 z3 s3 (by have:=S.1;lia) (by have:=S.2;lia)⟩⟩
 have L:=wym;have U:∀c:Nat,Q (.str (Txt.slice x none (some (n:Int))++⟨#[c]⟩++Txt.slice x (some (n:Int)) none)) H:=λc=>by obtain⟨g1,g2⟩:=L c;exact k H _ (Same.refl _) (by rw[zu,zu];lia) (by rw[ur,ur];lia)
 have aa:∀c:Nat,Q (.str (Txt.slice x none (some (n:Int))++⟨#[c]⟩++Txt.slice x (some ((n:Int)+1)) none)) H:=λc=>by obtain⟨g1,g2⟩:=L c;exact k H _ (Same.refl _) (by rw[zu,zu];lia) (by rw[ur,ur];lia)
 have O:∀c:Nat,(Txt.slice x none (some (n:Int))).length+(⟨#[c]⟩:Str).length<=sizeLine:=λc=>by rw[(L c).1];lia
 have b2:∀c:Nat,(Txt.slice x none (some (n:Int))++⟨#[c]⟩).length+(Txt.slice x (some (n:Int)) none).length<=sizeLine:=λc=>by rw[zu,(L c).1];lia
 have b3:∀c:Nat,(Txt.slice x none (some (n:Int))++⟨#[c]⟩).length+(Txt.slice x (some ((n:Int)+1)) none).length<=sizeLine:=λc=>by rw[zu,(L c).1];lia
 refine exI rfl ⟨rfl,_,rfl,vh (λ_=>vg ?_) λ_=>(exI rfl ⟨rfl,_,rfl,vh (λ_=>?_) λ_=>?_⟩)⟩
 .exact⟨_,rfl,_,rfl,_,rfl,x,rfl,⋯,_,rfl,a,I,rfl,J,λc=>⟨_,_,rfl,rfl,O c,_,rfl,_,rfl,_,rfl,x,rfl,⋯,_,_,rfl,rfl,b2 c,U c⟩⟩
 .exact⟨_,rfl,_,rfl,_,rfl,x,rfl,⋯,_,rfl,a,I,rfl,J,λc=>⟨_,_,rfl,rfl,O c,_,rfl,_,rfl,_,rfl,x,rfl,⋯,_,_,rfl,rfl,b2 c,U c⟩⟩
 have b4:(Txt.slice x none (some (n:Int))).length+(Txt.slice x (some ((n:Int)+1)) none).length<=sizeLine:=by lia
 refine exI rfl ⟨rfl,_,rfl,vh (λ_=>?_) λ_=>?_⟩
 .exact⟨_,rfl,_,rfl,_,rfl,x,rfl,⋯,_,rfl,_,rfl,_,_,rfl,rfl,_,rfl,x,rfl,⋯,_,_,rfl,rfl,b4,k H _ (Same.refl _) (by rw[zu];lia) (by rw[ur];lia)⟩
 refine exI rfl (xx rfl rfl (exI rfl (zd (λ_=>?_) λ_=>?_)))
 .exact⟨_,rfl,_,rfl,_,rfl,x,rfl,⋯,_,rfl,a,I,rfl,J,λc=>⟨_,_,rfl,rfl,O c,_,rfl,_,rfl,_,_,rfl,rfl,_,rfl,x,rfl,⋯,_,_,rfl,rfl,b3 c,aa c⟩⟩
 .exact exI rfl (k H x (Same.refl _) ⋯ ⋯)
theorem Rep.rsome {CR:Aj}{f g:Key->Option V}(h:Rep CR CW H f g a)(n:Str):(f (.inr n)).isSome=(a.rs n).isSome:=by
 cases e:a.rs n with
 |none=>rw[h.noR e];rfl
 |some hs=>obtain⟨r,F,_⟩:=h.road e;rw[F];rfl
theorem wjd {CR:Aj}{f g:Key->Option V}(h:Rep CR CW H f g a){n:Str}(e:f (.inr n)=none):a.rs n=none:=by
 have:=h.rsome n;rw[e]at this;cases e2:a.rs n with
 |none=>rfl
 |some _=>rw[e2]at this;cases this
theorem wyu {CR:Aj}{f g:Key->Option V}(h:Rep CR CW H f g a){n:Str}{v:V}(e:f (.inr n)=some v):∃r hs,v=.ref r/\a.rs n=some hs/\RoadAt CR H r hs:=by
 cases e2:a.rs n with
 |none=>rw[h.noR e2]at e;cases e
 |some hs =>
  obtain⟨r,F,I⟩:=h.road e2;rw[e]at F;cases F;exact⟨r,hs,rfl,rfl,I⟩
theorem Nam.putW (h:Nam NM a){n:Str}(hn:n∈NM)(w:Wk):Nam NM (a.putW n w):=⟨h.r,λm e=>by
 have e:(if m=n then some w else a.ws m).isSome=true:=e
 by_cases z:m=n
 .rw[z];exact hn
 .rw[al z]at e
  exact h.w m e⟩
def qxy (z:Str):Int:=(intText? z).getD 0
def qwd (CT:Aj):Sp:=λvs H Q E=>∃z:Str,vs=[.str z]/\z.length<=100000/\(0<=qxy z->qxy z<1000->∀H',Same H H'->Q (.int (qxy z)) H')/\∀H',Same H H'->E (.ref CT) none H'
include T in
theorem qup (F:Fun K "number_of" "number_of" zal f fd):FK P w K mg base 1 f fd ["word"] (qwd qh):=by
 have sc:=Z7;refine F.okX sc (λvs H Q E h=>by obtain⟨_,rfl,_⟩:=h;rfl) λ_ _ _ _ H vs Q E hr h=>?_;obtain⟨z,rfl,hz,k,I⟩:=h;obtain⟨t1,Z⟩:=T.zac;obtain⟨t2,U⟩:=T.zad;have aa:(1000000:Nat)<sizeLine:=by decide
 refine⟨_,(qu (xc (PW.pt (k6 (wc jr (wn x6 rfl T.len_ aB (wv (pv 0) qk)) qj (wm _)) (k6 (wc jh (wn x6 rfl T.len_ aB (wv (pv 0) qk)) (y6 (v:=V.int 3) rfl Z ⟨_,rfl⟩) (wm _)) (jk (Qw (Qq (wn (ux rfl) rfl T.all_ qq5 (xh (vm (M:=[]) rfl rfl (by walk_at "cap") (by walk_at "has") (by walk_at "cix") rfl (by decide +kernel) rfl (show List.Nodup (["sign"]:List Str) by decide +kernel) (qw7 (pv 0)) (λ_ _ _ _ _=>(zp Y3 (pv 0) (y6 (v:=V.str "0123456789") rfl U ⟨_,rfl⟩) rfl))) qk)))))))) (qm (z0 rfl T.zab zq rfl T.zae (xq wt qk))) xz)
   (qm (w8 (zv uq rfl T.int_ cu (wv (pv 0) qk))))),?_⟩
 refine⟨_,rfl,_,rfl,⋯,_,_,rfl,rfl,_,rfl,zd (λe=>vg ⟨sz1,I H (Same.refl _)⟩) λc1=>?_⟩;refine⟨_,rfl,_,rfl,⋯,_,_,rfl,rfl,_,rfl,zd (λe=>vg ⟨sz1,I H (Same.refl _)⟩) λc2=>?_⟩;have e0:z.cps.size=z.length:=rfl;refine exI rfl (exI rfl (qq3 (λj=>.bl (Qg (z.cps.getD j 0))) ⋯ (λj H' R hj hs hR=>(exI rfl (xx rfl rfl hR))) λp np=>?_));refine⟨p,(List.range z.cps.size).map λj=>Qg (z.cps.getD j 0),rfl,by rw[aW];exact SqL.new,?_⟩;rw[show((List.range z.cps.size).map λj=>Qg (z.cps.getD j 0)).all id=Yg z by rw[List.all_map];rfl];cases fg:Yg z with
 |false=>exact exI rfl (vg ⟨sz1,I _ (Same.upd np)⟩)
 |true =>
  have S:=Qn fg;have J:z.cps.toList.length=z.length:=aO;have ne:z.cps.toList≠[]:=λe=>c1 (by rw[<-J,e];decide);have O:=cA S ne ⋯;have L:qxy z=((NumText.digitsVal z.cps.toList:Nat):Int):=by unfold qxy;rw[O];rfl
  have dl:=wvh S;rw[J]at dl;have d3:10 ^ z.length<=10 ^ 3:=de ⋯ ⋯;have d4:(10:Nat) ^ 3=1000:=by decide
  have k:=k ⋯ (by rw[L];lia) _ (Same.upd (o:=.lst ((List.range z.cps.size).map λj=>V.bl (Qg (z.cps.getD j 0)))) np);rw[L]at k;exact exI rfl (jq ⟨_,rfl,_,_,rfl,O,⋯,k⟩)
section
variable {C CR CW CN CT CL CNR CB CO:Aj}{H:Hp}{o:Ho}{a:AH}{as:List AH}{NM:List Str}{Q:VK}{E:XK}{n wh:Str}
theorem VH.layAny (v:VH C CR CW H o (a::as))(nm:Nam NM a)(lN:NM.length<=100)(lD:o.ds.length<=10000)(hn:xj n=true->n∈NM)(ln:n.length<=100000)(fp:H p=some (.lst (hs.map V.int)))
  (k:∀(a':AH) H' o',Nxt H o o'->VH C CR CW H' o' (a'::a::as)->Nam NM a'->Kb [o.dr,o.dw,o.dd] H H'->Q .non H') (e1:∀H',Same H H'->E (.ref CN) none H') (e2:∀H',Same H H'->E (.ref CT) none H') (e3:∀H',Same H H'->E (.ref CL) none H'):qzj K C CR CN CT CL [.ref o.x,.str n,.ref p] H Q E:=by
 have aa:=v.lens nm;refine⟨o.x,o.dr,o.dw,o.dd,p,o.R,o.W,_,n,hs,rfl,v.h.hs,qwq _,⋯,⋯,by rw[qqz];lia,ln,fp,λS I lo H' L=>?_,λ_=>e1,λ_ _=>e2,λ_ _ _=>e3⟩;have en:=wjd v.rep I;obtain⟨o',O,J,U⟩:=v.road L lo λm w e Z=>by obtain⟨_,ad,F,_⟩:=v.rep.ok.wo m w e;rw[Z,en]at F;cases F
 exact k _ H' o' O J (nm.putR (hn S) hs) U
theorem VH.placeAny {t b:Int}{pa:Aj}(v:VH C CR CW H o (a::as))(nm:Nam NM a)(lN:NM.length<=100)(lD:o.ds.length<=10000)(hn:xj n=true->n∈NM)(ln:n.length<=100000)(fp:H pa=some (.tup [.int t,.int b]))(sb:-1000000<=b/\b<=1000000)
  (k:∀(a':AH) H' o',Nxt H o o'->VH C CR CW H' o' (a'::a::as)->Nam NM a'->Kb [o.dr,o.dw,o.dd] H H'->Q .non H') (e1:∀H',Same H H'->E (.ref CN) none H') (e2:∀H',Same H H'->E (.ref CT) none H') (e3:∀H',Same H H'->E (.ref CNR) none H') (e4:∀H',Same H H'->E (.ref CB) none H') (e5:∀H',Same H H'->E (.ref CO) none H'):Wc K C CR CW CN CT CNR CB CO [.ref o.x,.str n,.str wh,.ref pa] H Q E:=by
 have ad:=v.lens nm;refine⟨o.x,o.dr,o.dw,o.dd,pa,o.R,o.W,_,n,wh,t,b,rfl,v.h.hs,⋯,⋯,by rw[qqz];lia,ln,fp,λ_=>e1,λ_ _=>e2,λnn vn=>⟨λ_=>e3,λu eu=>?_⟩⟩;obtain⟨r,hs,rfl,J,S⟩:=wyu v.rep eu;have lo:=v.rep.ok.lo wh hs J;refine⟨r,hs,rfl,S,lo,λ_=>e4,λL=>⟨(Sm.small (n:=65) ⋯ ⋯ ⋯).mono ⋯,λ_=>e4,λaa=>⟨λ_=>e5,λU H' p t' wd=>?_⟩⟩⟩;have I:HPt hs (xu t b):=⟨lo,⟨low1 L,dQ _,quf L,U⟩,aa⟩;have F:=I.rng;obtain⟨o',Z,O,kb⟩:=v.walk (w:=⟨wh,xu t b,[([.inl (xu t b).1,.inl (xu t b).2],.int 1)]⟩) wd (TmOk.one F.1 F.2.1 F.2.2.1 F.2.2.2) J I;exact k _ H' o' Z O (nm.putW (hn nn) _) kb
end
def RefE (L:List Aj)(H:Hp)(E:XK):Prop:=∀c∈L,∀H',Same H H'->E (.ref c) none H'
theorem RefE.same {L:List Aj}(h:RefE L H E)(s:Same H H'):RefE L H' E:=λc hc H2 s2=>h c hc H2 (s.trans s2)
def Wm (C CR CW:Aj)(L:List Aj):Sp:=λvs H Q E=>∃(o:Ho) (a:AH) (as:List AH) (NM:List Str) (row:Str),vs=[.ref o.x,.str row]/\VH C CR CW H o (a::as)/\Nam NM a/\NM.length<=100/\o.ds.length<=10000/\row.length<=90000/\(xj ((wu row).getD 1 "")=true->(wu row).getD 1 "" ∈ NM) /\
 (∀(a':AH) H1 H' o',Same H H1->Nxt H1 o o'->VH C CR CW H' o' (a'::a::as)->Nam NM a'->Kb [o.dr,o.dw,o.dd] H1 H'->Q .non H')/\RefE L H E
include T in
theorem qyh (F:Fun K "take_in" "take_in" zam f fd)(zcn:MCal P w K mg base qq "lay" 4 (qzj K qq qp qc q9 qf))(zco:MCal P w K mg base qq "place" 5 (Wc K qq qp qz qc q9 qr qw qd))(zaj:Cal P w K mg base "number_of" 1 (qwd qh)) :
  FK P w K mg base 6 f fd ["house","row"] (Wm qq qp qz [qh,qc,q9,qf,qr,qw,qd]):=by
 have sc:=qwp;refine F.okX sc (λvs H Q E h=>by obtain⟨_,_,_,_,_,rfl,_⟩:=h;rfl) λ_ _ _ s H vs Q E hr h=>?_;obtain⟨o,a,as,NM,J,rfl,v,nm,lN,ld,ak,L,k,ke⟩:=h;have a0:(1000000:Nat)<sizeLine:=by decide
 refine⟨_,(qu (w6 (i:=2) (kh aY bL bM ym (pv 1) (xq wt qk)))
   (qm (xc (PW.pt (Zu (wc zw (xn ix_list (pv 2) qj (λ_ _=>rfl)) wt (wm _)) (ut (wc jh (wn xk rfl T.len_ aB (wv (pv 2) qk)) qj (wm _))))) (qm (zk (vk (pv 0) T.clH zcn (hr.mono ⋯) q8 (vz (xn ix_list (pv 2) qj (λ_ _=>rfl)) (xh (qjr (M:=[]) qzm rfl rfl rfl rfl (by walk_at "cap") (by walk_at "has") (by walk_at "cix") rfl (by decide +kernel) rfl (show List.Nodup (["word"]:List Str) by decide +kernel) (v3 (v6 qvf (pv 2) (jf qj) jd)) (λ_ _ _ _ _ _ _ hE=>(wy zaj (hr.mono ⋯) rfl hE (wv (pv 0) qk)))) qk))))) (qm (xc (PW.pt (Zu (wc zw (xn ix_list (pv 2) qj (λ_ _=>rfl)) wt (wm _)) (ut (wc zw (wn xk rfl T.len_ aB (wv (pv 2) qk)) qj (wm _))))) (qm (zk (vk (pv 0) T.clH zco (hr.mono ⋯) q8 (vz (xn ix_list (pv 2) qj (λ_ _=>rfl)) (vz (xn ix_list (pv 2) qj (λ_ _=>rfl)) (wz5 (jz (z9 (wCA zaj (vz (xn ix_list (pv 2) qj (λ_ _=>rfl)) qk)) (z9 (wCA zaj (vz (xn ix_list (pv 2) qj (λ_ _=>rfl)) qk)) qk))) qk)))))) (qm (z0 rfl T.zab zq rfl T.zae (xq wt qk)))))))),?_⟩
 obtain⟨z1,z2⟩:=jm (z:=J) (c:=32) ⋯;have Z:(wu J).length<=90001:=by have:=Q3 J;lia
 refine⟨_,rfl,rfl,_,_,rfl,rfl,by decide +kernel,z1,by rw[Qc];exact z2,by show(wu J).length<=_;lia,λl nl=>?_⟩;have s1:Same H (upd H l (.lst ((wu J).map V.str))):=Same.upd nl;have I:upd H l (.lst ((wu J).map V.str)) l=some (.lst ((wu J).map V.str)):=qy;generalize hh:upd H l (.lst ((wu J).map V.str))=H1 at s1 I;have hh:upd H l (.lst ((Txt.split J " ").map V.str))=H1:=hh;rw[hh];clear hh;have v1:=v.same s1;obtain⟨dx,hx⟩:=v1.h.hs.ob;have S:=uu (jj J);have O:∀r∈wu J,r.length<=90000:=λr hr=>aX (qzg hr) ak;generalize wu J=ws at *;have aa:RefE [qh,qc,q9,qf,qr,qw,qd] H1 E:=ke.same s1;have lm:(ws.map V.str).length=ws.length:=ac _;refine exI rfl ⟨l,_,_,_,rfl,rfl,SqL.of I,S,rfl,_,rfl,zd (λe=>?_) λe=>jq ?_⟩
 .refine exI rfl ⟨l,exI rfl ⟨.inl (SqL.of I),xx rfl rfl (exI rfl (zd (λc=>?_) λc=>?_))⟩⟩
  .rw[lm]at c
   match ws,L,Z,I,S,O,e,c with
   |[],L,Z,I,S,O,e,c=>exact absurd c ⋯
   |[_],L,Z,I,S,O,e,c=>exact absurd c (by show ¬ (1:Int)<1;decide)
   |x::n::r,L,Z,I,S,O,e,c =>
    have I:H1 l=some (.lst (V.str x::V.str n::r.map V.str)):=I;have L:xj n=true->n∈NM:=L;have ln:=O n (by simp);have lr:(r.map V.str).length<=90001:=by rw[ac];simp only[aw]at Z;lia
    refine exI rfl ⟨o.x,dx,exI rfl ⟨hx,zf,exI rfl ⟨l,_,_,_,rfl,rfl,SqL.of I,at1 _ _ _,?_⟩⟩⟩;refine exI rfl (exI rfl ⟨l,exI rfl ⟨SqL.of I,λl2 aj=>?_⟩⟩);rw[cut2];refine⟨l2,rfl,⟨_,SqL.of qy⟩,yk (λx=>match x with|.str z=>.int (qxy z)|_=>.non) (λx b=>by split <;> exactλz=>nomatch z) (SqL.of qy) ⋯ (λx H' R an s2 hR=>?_) λp H2 np s2 f2=>?_⟩
    .obtain⟨z,hz,rfl⟩:=av.mp an;have:=O z (by simp[hz]);exact⟨_,rfl,z,rfl,⋯,λ_ _ ai U=>hR ai U,λai U=>aa _ (by simp) ai (((Same.upd aj).trans s2).trans U)⟩
    .have em:(r.map V.str).map (λx=>match x with|.str z=>V.int (qxy z)|_=>.non)=(r.map qxy).map V.int:=by rw[aW,aW];rfl
     rw[em]at f2;dsimp only [vc,Qu,tC];have U:=(s1.trans (Same.upd (o:=.lst (r.map V.str)) aj)).trans s2;have b3:=ke.same U;exact VH.layAny (v.same U) nm lN ld L ⋯ f2 (λa' H' o' nx v' ad kb=>k a' H2 H' o' U nx v' ad kb) (b3 _ (by simp)) (b3 _ (by simp)) (b3 _ (by simp))
  .have e':¬ V.str (ws.getD 0 "")=V.str "walker" := λz=>Yz (V.str.inj (e.symm.trans z));exact exI rfl ⟨l,_,_,_,rfl,rfl,SqL.of I,S,rfl,_,rfl,zd (λz=>absurd z e') λ_=>jq ⟨sz1,aa _ (by simp) H1 (Same.refl _)⟩⟩
 .refine exI rfl ⟨l,_,_,_,rfl,rfl,SqL.of I,S,rfl,_,rfl,zd (λe=>?_) λ_=>jq ⟨sz1,aa _ (by simp) H1 (Same.refl _)⟩⟩;refine exI rfl ⟨l,exI rfl ⟨.inl (SqL.of I),rfl,_,rfl,vh (λc=>?_) λ_=>⟨sz1,aa _ (by simp) H1 (Same.refl _)⟩⟩⟩;rw[lm]at c
  match ws,L,Z,I,S,O,e,c with
  |[x,n,wh,t,b],L,Z,I,S,O,e,c =>
   have I:H1 l=some (.lst [V.str x,V.str n,V.str wh,V.str t,V.str b]):=I;have L:xj n=true->n∈NM:=L;have ln:=O n (by simp);have lt:=O t (by simp);have lb:=O b (by simp);refine exI rfl ⟨o.x,dx,exI rfl ⟨hx,zf,exI rfl ⟨l,_,_,_,rfl,rfl,SqL.of I,at1 _ _ _,?_⟩⟩⟩;refine exI rfl ⟨l,_,_,_,rfl,rfl,SqL.of I,rfl,?_⟩;refine⟨_,rfl,l,_,_,_,rfl,rfl,SqL.of I,rfl,t,rfl,⋯,λt0 t1 H2 s2=>?_,λH' s'=>aa _ (by simp) H' s'⟩;refine⟨_,rfl,l,_,_,_,rfl,rfl,SqL.of (s2 _ _ I),rfl,b,rfl,⋯,λb0 b1 H3 U=>?_,λH' s'=>aa _ (by simp) H' (s2.trans s')⟩;refine⟨sz2,λp np=>?_⟩;dsimp only [vc,Qu,tC];have s4:=(((s1.trans s2).trans U)).trans (Same.upd (o:=.tup [.int (qxy t),.int (qxy b)]) np);have b4:=ke.same s4;exact VH.placeAny (v.same s4) nm lN ld L ⋯ qy ⋯ (λa' H' o' nx v' ad kb=>k a' _ H' o' s4 nx v' ad kb) (b4 _ (by simp)) (b4 _ (by simp)) (b4 _ (by simp)) (b4 _ (by simp)) (b4 _ (by simp))
def uz (z:Str):List Str:=((xp z).map λr=>(wu r).getD 1 "").filter xj
theorem Zj (z:Str):(uz z).length<=nlC z+1:=by have:=cm xj ((xp z).map λr=>(wu r).getD 1 "");rw[ac,jx]at this;exact this
theorem wx5 (h:r∈xp z)(hn:xj ((wu r).getD 1 "")=true):(wu r).getD 1 "" ∈ uz z:=dq.mpr ⟨av.mpr ⟨r,h,rfl⟩,hn⟩
theorem y9 (h:n∈uz z):xj n=true:=(dq.mp h).2
def Zw (C CR CW:Aj)(L:List Aj):Sp:=λvs H Q E=>∃z:Str,vs=[.str z]/\z.length<=90000/\nlC z<58/\(∀H' (o:Ho) (a:AH),Same H H'->VH C CR CW H' o [a]->Nam (uz z) a->Q (.ref o.x) H')/\RefE L H E
def RA (C CR CW:Aj)(z:Str)(H:Hp)(l:Aj)(rs:List Str)(x:Aj)(i:Nat)(o:Ho)(Hx:Hp):Prop:=∃(a:AH) (as:List AH),VH C CR CW Hx o (a::as)/\Nam (uz z) a/\New H o/\o.ds.length=i/\Same H Hx/\Hx l=some (.lst (rs.map V.str))/\l∉[o.dr,o.dw,o.dd]/\o.x=x
theorem RA.step {CR:Aj}{L:List Aj}{Hx:Hp}{l:Aj}{rs:List Str}{row:Str}(h:RA C CR CW z H l rs x i o Hx)(hi:rs[i]?=some row)(hall:∀r∈rs,r∈xp z)(hr:rs.length<=59)(hz:z.length<=90000)(hn:nlC z<58)(k:∀o' H',RA C CR CW z H l rs x (i+1) o' H'->Q .non H')(ke:RefE L H E):Wm C CR CW L [.ref x,.str row] Hx Q E:=by obtain⟨a,as,v,nm,J,ld,s,fl,S,ex⟩:=h;have O:row∈xp z:=hall row (bO hi);have li:=(ba.mp hi).1;have lN:=Zj z;refine⟨o,a,as,uz z,row,by rw[ex],v,nm,⋯,⋯,aX (qy2 O) hz,wx5 O,λa' H1 H' o' I F Z aa U=>?_,ke.same s⟩;obtain⟨d,ed,_⟩:=F.ds;have ad:Kb [] H H1:=Kb.of (s.trans I);exact k o' H' ⟨a',a::as,Z,aa,J.nxt F,by rw[ed,aw,ld],λy u e=>J.kb ad U y u ao e,U _ _ S (I _ _ fl),by rw[F.dr,F.dw,F.dd];exact S,by rw[F.x];exact ex⟩
include T in
theorem qvx (F:Fun K "house_of" "house_of" zan f fd){L:List Aj}(zcp:CCal P w K mg base "House" qq 1 (qqk qq))(zcq:Cal P w K mg base "take_in" 6 (Wm qq qp qz L))(zcr:MCal P w K mg base qq "forget" 1 (Zh qq qp qz)) :
  FK P w K mg base 7 f fd ["text"] (Zw qq qp qz L):=by
 have sc:=Jc;refine F.okX sc (λvs H Q E h=>by obtain⟨_,rfl,_⟩:=h;rfl) λ_ _ _ s H vs Q E U h=>?_;obtain⟨z,rfl,hz,hn,k,ke⟩:=h;have a6:(1000000:Nat)<sizeLine:=by decide
 have lN:=Zj z;have lr:=jx z;refine⟨_,(qu (w6 (i:=1) (qz4 zcp (U.mono ⋯) rfl q8))
   (qu (ju bd rfl (v3 (qy9 (wc qx9 (pv 0) wt (wm _)) (kh aY bL bM ym (pv 0) (xq wt qk)) (vj qk))) (xf (i:=2)) (qm (zk (wCA zcq (wv (pv 1) (wv (pv 2) qk))))))
   (qu (zk (uh (pv 1) T.clH zcr (U.mono ⋯) q8))
   (qm (w8 (pv 1)))))),?_⟩
 refineλx d9 nx ak a5=>⟨x,d9,rfl,qy,λI ad aa ai a2 a1 a0 a4 a3=>⟨rfl,?_⟩⟩;have s4:Same H I:=λz o e=>a3 z o (λy=>by rw[ar.mp y,nx]at e;cases e) (by rw[wj (wz e nx),wj (wz e ak)];exact e);have aj:∀ {b},upd (upd H d9 (HO.own x)) x (HO.ins qq d9 []) b=none->H b=none:=λ{b} m=>by
  cases e:H b with
  |none=>rfl
  |some o=>rw[wj (wz e nx),wj (wz e ak),e]at m;cases m
 have Z:VH qq qp qz I ⟨x,ad,aa,ai,[],[],[]⟩ [AH.nil]:=VH.nil a4;have an:New H ⟨x,ad,aa,ai,[],[],[]⟩:=⟨nx,aj a2,aj a1,aj a0⟩;obtain⟨z1,z2⟩:=jm (z:=z) (c:=10) ⋯;have Q6:∀(l:Aj) (rs:List Str),I l=none->RA qq qp qz z H l rs x 0 ⟨x,ad,aa,ai,[],[],[]⟩ (upd I l (.lst (rs.map V.str))):=λl rs J=>by
  have s5:Same I (upd I l (.lst (rs.map V.str))):=Same.upd J;refine⟨_,_,Z.same s5,Nam.nil,an,rfl,s4.trans s5,qy,λy=>?_,rfl⟩;simp only[ap,ao,ck]at y;rcases y with y|y|y <;> rw[y]at J
  .have:=Z.h.hs.r;rw[J]at this;cases this
  .have:=Z.h.hs.w;rw[J]at this;cases this
  .have:=Z.h.hs.d;rw[J]at this;cases this
 by_cases e0:z = ""
 .refine exI rfl ⟨rfl,_,rfl,wz1 (bi V.str e0) ⟨sz0,λl J=>?_⟩⟩;have st:=Q6 l [] J;generalize O:upd I l (.lst (([]:List Str).map V.str))=H5 at st;have O:upd I l (.lst [])=H5:=O;rw[O];clear O;refine⟨l,rfl,⟨_,SqL.of (by obtain⟨_,_,_,_,_,_,_,h,_⟩:=st;exact h)⟩,uc (xs:=([]:List Str).map V.str) (λi σ S=>∃(o:Ho) (y:Option V),RA qq qp qz z H l ([]) x i o S/\σ=[some (.str z),some (.ref x),y]) ⟨_,_,st,rfl⟩ (λi σ S _ h=>by obtain⟨_,_,⟨_,_,_,_,_,_,_,h,_⟩,_⟩:=h;exact SqL.of h) ?_ ?_⟩
  .rintro i y σ S hi ⟨o,z5,h,rfl⟩;rw[aD]at hi;cases er:([]:List Str)[i]? with
   |none=>rw[er]at hi;cases hi
   |some row =>
    rw[er]at hi;cases hi;refine exI rfl (exI rfl ?_);dsimp only [Qu];exact h.step er (λr U=>absurd U ao) ⋯ hz hn (λo' H' h'=>⟨o',_,h',rfl⟩) ke
  .rintro σ S ⟨o,z5,h,rfl⟩;obtain⟨a,as,v,nm,nw,ld,s,fl,ln,ex⟩:=h;subst ex;obtain⟨dx,hx⟩:=v.h.hs.ob;refine exI rfl ⟨o.x,dx,exI rfl ⟨hx,zf,o,a,as,rfl,v,λH' dd nd v' kb=>?_⟩⟩;refine exI rfl (k H' (o.fgt dd) a (λy u e=>kb _ _ (λq=>?_) (s _ _ e)) v' nm);rw[ar.mp q,nw.x]at e;cases e
 .refine exI rfl ⟨rfl,_,rfl,qyr (λ_=>⟨_,rfl,rfl,_,_,rfl,rfl,by decide +kernel,z1,by rw[W5];exact z2,by show(xp z).length<=_;lia,λl J=>?_⟩) λy=>absurd (V.str.inj y) e0⟩;have st:=Q6 l (xp z) J;generalize O:upd I l (.lst ((xp z).map V.str))=H5 at st;have O:upd I l (.lst ((Txt.split z "\n").map V.str))=H5:=O;rw[O];clear O;refine⟨l,rfl,⟨_,SqL.of (by obtain⟨_,_,_,_,_,_,_,h,_⟩:=st;exact h)⟩,uc (xs:=(xp z).map V.str) (λi σ S=>∃(o:Ho) (y:Option V),RA qq qp qz z H l (xp z) x i o S/\σ=[some (.str z),some (.ref x),y]) ⟨_,_,st,rfl⟩ (λi σ S _ h=>by obtain⟨_,_,⟨_,_,_,_,_,_,_,h,_⟩,_⟩:=h;exact SqL.of h) ?_ ?_⟩
  .rintro i y σ S hi ⟨o,z5,h,rfl⟩;rw[aD]at hi;cases er:(xp z)[i]? with
   |none=>rw[er]at hi;cases hi
   |some row =>
    rw[er]at hi;cases hi;refine exI rfl (exI rfl ?_);dsimp only [Qu];exact h.step er (λr U=>U) ⋯ hz hn (λo' H' h'=>⟨o',_,h',rfl⟩) ke
  .rintro σ S ⟨o,z5,h,rfl⟩;obtain⟨a,as,v,nm,nw,ld,s,fl,ln,ex⟩:=h;subst ex;obtain⟨dx,hx⟩:=v.h.hs.ob;refine exI rfl ⟨o.x,dx,exI rfl ⟨hx,zf,o,a,as,rfl,v,λH' dd nd v' kb=>?_⟩⟩;refine exI rfl (k H' (o.fgt dd) a (λy u e=>kb _ _ (λq=>?_) (s _ _ e)) v' nm);rw[ar.mp q,nw.x]at e;cases e
def Jv (CT:Aj):Sp:=λvs H Q E=>∃z:Str,vs=[.str z]/\z.length<=90000/\nlC z<58/\Qf z=false/\∀d H',Same H H'->E (.ref CT) d H'
theorem wj6 {CR:Aj}(v:VH C CR CW H o (a::as))(nm:Nam (uz z) a):BOk (uz z) a.bk:=by
 refine⟨λn hs e=>?_,λn w e=>?_⟩
 .have e:a.rs n=some hs:=e;have F:=nm.r n (by rw[e];rfl);exact⟨v.rep.ok.lo n hs e,y9 F,F⟩
 .have e:(a.ws n).map (λw=>(w.wh,w.pt))=some w:=e;obtain⟨J,I,rfl⟩:=ce.mp e;have F:=nm.w n (by rw[I];rfl);obtain⟨_,hs,O,L⟩:=v.rep.ok.wo n J I;exact⟨y9 F,F,hs,O,L⟩
include T in
theorem qj8 (F:Fun K "read_house" "read_house" zao f fd)(zcs:Cal P w K mg base "house_of" 7 (Zw qq qp qz [qh,qc,q9,qf,qr,qw,qd]))(zaw:Cal P w K mg base "house_text" 4 (qxw qq qp qz)) :
  FK P w K mg base 8 f fd ["text"] (Jv qh):=by
 have S:=W7;refine F.okX S (λO H Q E h=>by obtain⟨_,rfl,_⟩:=h;rfl) λ_ _ _ s H O Q E hr h=>?_;obtain⟨z,rfl,hz,hn,hg,J⟩:=h;have lN:=Zj z;refine⟨_,(qu (wwz rfl rfl (λ_=>PassesOwnAt.leaving) rfl T.zch (λpn xe E hE hO=>(qm (w6 (i:=1) (wy zcs (hr.mono ⋯) rfl hE (wv (pv 0) qk))))) (λe pn W=>(qm (qz6 W T.zab Zf rfl T.zae (xq wt qk)))))
   (qu (xc (wc qx9 (wCA zaw (wv (pv 1) qk)) (pv 0) (wm _)) (qm (z0 rfl T.zab zq rfl T.zae (xq wt qk))) xz)
   (qm (w8 (pv 1))))),?_⟩
 refine⟨_,rfl,z,rfl,hz,hn,λH1 o a U v nm=>?_,λc L H' s'=>?_⟩
 .refine⟨_,rfl,o,a,[],uz z,rfl,v,nm,⋯,λn I=>by have:=Yd (y9 I);lia,λH2 ad aa s2 R1 R2=>?_⟩;refine exI rfl ⟨rfl,_,rfl,qyr (λ_=>⟨sz1,J _ H2 (U.trans s2)⟩) λe=>?_⟩;have Z:ReadPre a.bk (uz z) ad aa:=⟨wj6 v nm,⋯,λn I=>by have:=Yd (y9 I);lia,R1,R2⟩;have:=wx1 Z;rw[V.str.inj e,hg]at this;cases this
 .have m:PySem.W.mroIn K c (.ref qx)=some true:=by
   simp only[ap,ao,ck]at L;rcases L with rfl|rfl|rfl|rfl|rfl|rfl|rfl
   .exact T.mr_BadText
   .exact T.mr_BadName
   .exact T.mr_Taken
   .exact T.mr_BadLine
   .exact T.mr_NoRoad
   .exact T.mr_BadBottom
   .exact T.mr_OffRoad
  exact⟨rfl,c,rfl,qyc T.zap m,sz1,λd=>J _ H' s'⟩
theorem FnOk.or {CX:CXT}{k:Nat}{f:Aj}{fd:Ad}{ps:List Str}{a b:Sp}(F:FnOk P w K mg base CX k f fd ps a)(G:FnOk P w K mg base CX k f fd ps b):FnOk P w K mg base CX k f fd ps (λvs H Q E=>a vs H Q E\/b vs H Q E) :=
 ⟨λvs H Q E h=>h.elim (F.len vs H Q E) (G.len vs H Q E),λA outer s H args us vs Q E hr he hb hv h=>h.elim (F.run A outer s H args us vs Q E hr he hb hv) (G.run A outer s H args us vs Q E hr he hb hv)⟩
theorem ReadPre.small (h:ReadPre b NM ms1 ms2)(l5:NM.length=5):(∀r∈xp (jn b ms1 ms2),r.length<=1000)/\nlC (jn b ms1 ms2)<=11/\(jn b ms1 ms2).length<=15000:=by
 have l1:=Wj ms1 NM h.2.2.2.1.1 λn F=>(h.row n F).choose_spec.2.2.2.2;have l2:=Wj ms2 NM h.2.2.2.2.1 λn F=>by obtain⟨_,_,_,_,_,_,_,_,_,e⟩:=h.wlk n F;exact e
 have S:∀n∈ms1,(zr b n).length<=1000:=λn F=>by obtain⟨hs,e,lo,U,J,_⟩:=h.row n F;unfold zr;rw[e];exact Qt lo J
 have O:∀n∈ms2,(zm b n).length<=1000:=λn F=>by obtain⟨w,hs,e,er,hp,U,nw,J,Z,_⟩:=h.wlk n F;have rg:=hp.rng;unfold zm;rw[e];exact Q4 J Z ⟨by show 0<=w.2.1;lia,by show w.2.1<=_;lia⟩ ⟨by show 0<=w.2.2;lia,by show w.2.2<=_;lia⟩
 have rl:(x8 b ms1 ms2).length<=10:=by unfold x8;rw[ay,ac,ac];lia
 have L:∀r∈x8 b ms1 ms2,r.length<=1000:=λr I=>by
  rcases aP.mp I with I|I
  .obtain⟨n,F,rfl⟩:=av.mp I;exact S n F
  .obtain⟨n,F,rfl⟩:=av.mp I;exact O n F
 by_cases q:x8 b ms1 ms2=[]
 .rw[ku,q];have e:xp (Str.join ⟨#[10]⟩ [])=[("" : Str)]:=by decide +kernel
  rw[e];exact⟨λr I=>by rw[ar.mp I];decide +kernel,by decide +kernel,by decide +kernel⟩
 .have e:=(h.text q).2;have e:xp (jn b ms1 ms2)=x8 b ms1 ms2:=e;have c:=jx (jn b ms1 ms2);rw[e]at c ⊢;refine⟨L,⋯,?_⟩;rw[ku];refine aX (cf _ _) ?_;have:=qvw L;rw[show(⟨#[10]⟩:Str).length=1 from rfl];lia
include T in
theorem zg9 (F:Fun K "law" "law" zcg f fd)(zha:Cal P w K mg base "_law_stand" 5 (qv0 K))(zhb:Cal P w K mg base "_law_text" 1 qkc)(zhc:Cal P w K mg base "_law_spoilt" 4 (qqh K))(zhd:Cal P w K mg base "read_house" 8 (λvs H Q E=>Wg qq qp qz vs H Q E\/Jv qh vs H Q E))(zhe:Cal P w K mg base "_law_good" 3 qks)(zaw:Cal P w K mg base "house_text" 4 (qxw qq qp qz)) :
  FK P w K mg base 9 f fd ["_law_script"] (wqf K):=by
 have sc:=zf4;refine F.okX sc (λvs H Q E h=>by obtain⟨_,_,rfl,_⟩:=h;rfl) λ_ _ _ s H vs Q E hr h=>?_;obtain⟨a,Z,rfl,hS,hl,k⟩:=h;refine⟨_,(qu (Wq (wCA zha (wv (pv 0) (xq qj qk))) (Q1 rfl (zy (xf (i:=1)) (zy (xf (i:=2)) y8))))
   (qu (w6 (i:=3) (wCA zhc (wv (pv 0) (z9 (wCA zhb (wv (pv 1) (wv (pv 2) qk))) qk))))
   (qu (w6 (i:=4) wt)
   (qu (w6 (i:=5) wkw)
   (qu (wj7 rfl rfl rfl T.zae rfl T.zch (λpn xe E hE hO=>(qm (w6 (i:=5) (wy zhd (hr.mono ⋯) rfl hE (wv (pv 3) qk))))) (λe=>(qm (w6 (i:=4) wt))) (λe=>(qm (w6 (i:=4) wt))))
   (qu (xc (Qw (Qq (wCA zhe (wv (pv 3) qk)))) (qm (w8 (zp zw (pv 4) wt (wm _)))) xz)
   (qm (w8 (Y6 (zp zw (pv 4) wt (wm _)) (qv7 (zp zw (wCA zaw (wv (pv 5) qk)) (pv 3) (wm _)))))))))))),?_⟩
 refine exI rfl ⟨a,Z,exI rfl ⟨hS,⋯,λq dr dw R W b NM H1 s1 nr nw fq hb bo lN nl=>?_⟩⟩;refine⟨q,exI rfl ⟨SqT.of fq,rfl,_,_,rfl,_,_,rfl,rfl,?_⟩⟩;have aa:∀n∈NM,n.length<=100:=λn hn=>by have:=nl n hn;lia
 refine⟨_,rfl,_,rfl,_,rfl,dr,dw,R,W,b,NM,rfl,hb,bo,⋯,aa,λH2 ms1 ms2 s2 S1 S2=>?_⟩;have I:ReadPre b NM ms1 ms2:=⟨bo,⋯,aa,S1,S2⟩;obtain⟨S,O,L⟩:=I.small lN;refine⟨a,Z,exI rfl ⟨(s1.trans s2).sql hS,S,O,L,λH3 z s3 lz nz=>?_⟩⟩;dsimp only [vc,Qu,tC];clear S O L I S1 S2;cases hg:Qf z with
 |false =>
  refine exI rfl (.inr ⟨z,rfl,⋯,⋯,hg,λd H' s'=>(exI rfl (.inl ⟨qug T.zab,?_⟩))⟩);refine⟨_,rfl,z,rfl,⋯,λH4 U=>?_⟩;rw[hg];refine exI rfl (vg ?_);exact exI rfl ⟨rfl,by rw[aM rfl];exact k _⟩
 |true =>
  obtain⟨b',J,m1,m2,I,rfl⟩:=wvz hg ⋯;refine exI rfl (.inl ⟨b',J,m1,m2,rfl,I,λH' o a0 s' v nw ed fr=>?_⟩);refine⟨_,rfl,_,rfl,⋯,λH4 U=>?_⟩;rw[hg];refine exI rfl (jq ?_);have eb:=fr.bk;have nm:Nam J a0:=AOk.bk (by rw[eb];exact I.1);refine exI rfl ⟨rfl,_,rfl,zd (λ_=>?_) λe=>absurd rfl e⟩;refine exI rfl ⟨o,a0,[],J,rfl,v.same U,nm,I.2.1,I.2.2.1,λH5 n1 n2 s5 R1 R2=>?_⟩;rw[eb]at R1 R2 ⊢;rw[SrtN.uniq R1 I.2.2.2.1,SrtN.uniq R2 I.2.2.2.2];exact exI rfl ⟨rfl,by rw[aM rfl];exact k _⟩
end
section
theorem all_mk {l:PySem.W.OpenLaw}{w:Ah}{K:Aa}{h:Heap}{mg:Str->Option Ag}{fa:Aj}{qx:Aj}{qf:Aj}{qw:Aj}{qd:Aj}{qg:Aj}{qt:Aj}{wq:Aj}{qc:Aj}{q9:Aj}{qr:Aj}{qb:Aj}{qh:Aj}{qp:Aj}{qz:Aj}{qq:Aj}{zfu:Tok}{zfv:Tok}{zfw:Tok}{zfx:Tok}{zfy:Tok}{zfz:Tok}{zf0:Tok}{zf1:Tok}(X:K.In h)(G:h.Ns mainGlobals mg)(hfa:mg "law" = some (.ref fa))
  (zcv:DefIn K "_law_cell" zbn)
  (zcw:DefIn K "_law_pick" zbo)
  (zcx:DefIn K "check_bottom" zax)
  (zcy:DefIn K "common_divisor" zay)
  (zcz:DefIn K "lowest" zaz)
  (zc0:DefIn K "is_line" za0)
  (zc1:DefIn K "set_down" za6)
  (zc2:DefIn K "is_name" za7)
  (zc3:DefIn K "check_new_name" za8)
  (zc4:DefIn K "exchange" za9)
  (zc5:DefIn K "_law_climb" zbq)
  (zc6:DefIn K "_law_heights" zbr)
  (zc7:DefIn K "_law_common" zbt)
  (zc8:DefIn K "_law_low" zbu)
  (zc9:DefIn K "_law_spot" zbs)
  (zda:DefIn K "_law_names" zbp)
  (zdb:DefIn K "road_row" zbk)
  (zdc:DefIn K "walker_row" zbl)
  (zdd:DefIn K "house_text" zbm)
  (zcd:DefIn K "number_of" zal)
  (zce:DefIn K "take_in" zam)
  (zcf:DefIn K "house_of" zan)
  (zde:DefIn K "_law_stand" zbv)
  (zdf:DefIn K "_law_text" zbw)
  (zdg:DefIn K "_law_good_name" zbx)
  (zdh:DefIn K "_law_good_line" zby)
  (zdi:DefIn K "_law_number" zb0)
  (zdj:DefIn K "_law_road_good" zb1)
  (zdk:DefIn K "_law_walker_good" zb2)
  (zdl:DefIn K "_law_good" zb3)
  (zdm:DefIn K "_law_odd" zbz)
  (zdn:DefIn K "_law_sign" zb4)
  (zdo:DefIn K "_law_rows_spoilt" zb5)
  (zdp:DefIn K "_law_spoilt" zb6)
  (zdq:DefIn K "read_house" zao)
  (zdr:DefIn K "law" zcg)
  (zds:PySem.W.nsIn K mainGlobals "RoadError" = some (some (.ref qx)))
  (zap:PySem.W.excIn K qx [.type "ValueError",.type "Exception",.type "BaseException",.type "object"] "ValueError.__new__" = true)
  (zdt:PySem.W.nsIn K mainGlobals "BadLine" = some (some (.ref qf)))
  (zaq:PySem.W.excIn K qf [.type "ValueError",.type "Exception",.type "BaseException",.type "object"] "ValueError.__new__" = true)
  (zdu:PySem.W.nsIn K mainGlobals "BadBottom" = some (some (.ref qw)))
  (zak:PySem.W.excIn K qw [.type "ValueError",.type "Exception",.type "BaseException",.type "object"] "ValueError.__new__" = true)
  (zdv:PySem.W.nsIn K mainGlobals "OffRoad" = some (some (.ref qd)))
  (zar:PySem.W.excIn K qd [.type "ValueError",.type "Exception",.type "BaseException",.type "object"] "ValueError.__new__" = true)
  (zdw:PySem.W.nsIn K mainGlobals "BadCount" = some (some (.ref qg)))
  (zb7:PySem.W.excIn K qg [.type "ValueError",.type "Exception",.type "BaseException",.type "object"] "ValueError.__new__" = true)
  (zdx:PySem.W.nsIn K mainGlobals "TooLong" = some (some (.ref qt)))
  (zb8:PySem.W.excIn K qt [.type "ValueError",.type "Exception",.type "BaseException",.type "object"] "ValueError.__new__" = true)
  (zdy:PySem.W.nsIn K mainGlobals "BadRow" = some (some (.ref wq)))
  (zb9:PySem.W.excIn K wq [.type "ValueError",.type "Exception",.type "BaseException",.type "object"] "ValueError.__new__" = true)
  (zdz:PySem.W.nsIn K mainGlobals "BadName" = some (some (.ref qc)))
  (zas:PySem.W.excIn K qc [.type "ValueError",.type "Exception",.type "BaseException",.type "object"] "ValueError.__new__" = true)
  (zd0:PySem.W.nsIn K mainGlobals "Taken" = some (some (.ref q9)))
  (zat:PySem.W.excIn K q9 [.type "ValueError",.type "Exception",.type "BaseException",.type "object"] "ValueError.__new__" = true)
  (zd1:PySem.W.nsIn K mainGlobals "NoRoad" = some (some (.ref qr)))
  (zau:PySem.W.excIn K qr [.type "ValueError",.type "Exception",.type "BaseException",.type "object"] "ValueError.__new__" = true)
  (zd2:PySem.W.nsIn K mainGlobals "NoWalker" = some (some (.ref qb)))
  (zav:PySem.W.excIn K qb [.type "ValueError",.type "Exception",.type "BaseException",.type "object"] "ValueError.__new__" = true)
  (zd3:PySem.W.nsIn K mainGlobals "BadText" = some (some (.ref qh)))
  (zab:PySem.W.excIn K qh [.type "ValueError",.type "Exception",.type "BaseException",.type "object"] "ValueError.__new__" = true)
  (zd4:PySem.W.nsIn K mainGlobals "Road" = some (some (.ref qp)))
  (zd5:PySem.W.plainGet K qp Str.empty=true)
  (zd6:PySem.W.hasDictIn K qp=true)
  (zd7:PySem.W.plainOver K qp=true)
  (zd8:PySem.W.findIn K (.ref qp) "__setattr__" = some (some (.builtin "object.__setattr__")))
  (zd9:PySem.W.makesIn K qp=true)
  (zea:PySem.W.keepIn K (.ref qp)=true)
  (zeb:MethIn K qp "__init__" "Road.__init__" za1)
  (zec:MethIn K qp "width" "Road.width" za2)
  (zed:MethIn K qp "corners" "Road.corners" za3)
  (zee:MethIn K qp "on_road" "Road.on_road" za4)
  (zef:PySem.W.nsIn K mainGlobals "Walker" = some (some (.ref qz)))
  (zeg:PySem.W.plainGet K qz Str.empty=true)
  (zeh:PySem.W.hasDictIn K qz=true)
  (zei:PySem.W.plainOver K qz=true)
  (zej:PySem.W.findIn K (.ref qz) "__setattr__" = some (some (.builtin "object.__setattr__")))
  (zek:PySem.W.makesIn K qz=true)
  (zel:PySem.W.keepIn K (.ref qz)=true)
  (zem:MethIn K qz "__init__" "Walker.__init__" za5)
  (zen:PySem.W.nsIn K mainGlobals "House" = some (some (.ref qq)))
  (zeo:PySem.W.plainGet K qq Str.empty=true)
  (zep:PySem.W.hasDictIn K qq=true)
  (zeq:PySem.W.plainOver K qq=true)
  (zer:PySem.W.findIn K (.ref qq) "__setattr__" = some (some (.builtin "object.__setattr__")))
  (zes:PySem.W.makesIn K qq=true)
  (zet:PySem.W.keepIn K (.ref qq)=true)
  (zeu:MethIn K qq "__init__" "House.__init__" zba)
  (zev:MethIn K qq "road_called" "House.road_called" zbb)
  (zew:MethIn K qq "walker_called" "House.walker_called" zbc)
  (zex:MethIn K qq "do" "House.do" zbd)
  (zey:MethIn K qq "lay" "House.lay" zbe)
  (zez:MethIn K qq "corners_of" "House.corners_of" zbi)
  (ze0:MethIn K qq "where" "House.where" zbj)
  (ze1:MethIn K qq "place" "House.place" zbf)
  (ze2:MethIn K qq "names" "House.names" zbh)
  (ze3:MethIn K qq "forget" "House.forget" zbg)
  (ze4:PySem.W.findIn K (.ref qp) "heights" = some none)
  (ze5:PySem.W.findIn K (.ref qz) "whose" = some none)
  (ze6:PySem.W.findIn K (.ref qz) "point" = some none)
  (ze7:PySem.W.findIn K (.ref qz) "times" = some none)
  (ze8:PySem.W.findIn K (.ref qq) "roads" = some none)
  (ze9:PySem.W.findIn K (.ref qq) "walkers" = some none)
  (zfa:PySem.W.findIn K (.ref qq) "done" = some none)
  (zaf:PySem.W.nsIn K mainGlobals "WIDEST" = some (some (.int 24 zfu)))
  (zca:PySem.W.nsIn K mainGlobals "LONGEST_TRACE" = some (some (.int 1000 zfv)))
  (zcb:PySem.W.nsIn K mainGlobals "FARTHEST" = some (some (.int 1000000000000000000000000000000000000000000000000000000000000 zfw)))
  (zag:PySem.W.nsIn K mainGlobals "LONGEST_NAME" = some (some (.int 12 zfx)))
  (zah:PySem.W.nsIn K mainGlobals "GREATEST_BOTTOM" = some (some (.int 40 zfy)))
  (zai:PySem.W.nsIn K mainGlobals "LETTERS" = some (some (.str "abcdefghijklmnopqrstuvwxyz" zfz)))
  (zac:PySem.W.nsIn K mainGlobals "LONGEST_NUMBER" = some (some (.int 3 zf0)))
  (zad:PySem.W.nsIn K mainGlobals "FIGURES" = some (some (.str "0123456789" zf1)))
  (o1:PySem.W.findIn K (.ref qq) "__class__" = some (some (.builtin "object.__class__")))
  (o2:PySem.W.specialIn K (.builtin "object.__class__") "__get__" = some (some (.builtin "getset_descriptor.__get__")))
  (o3:PySem.W.takesIn K (.builtin "object.__class__")=some true)
  (o4:PySem.W.mroIn K qq (.type "object")=some true)
  (mr_BadText:PySem.W.mroIn K qh (.ref qx)=some true)
  (mr_BadName:PySem.W.mroIn K qc (.ref qx)=some true)
  (mr_Taken:PySem.W.mroIn K q9 (.ref qx)=some true)
  (mr_BadLine:PySem.W.mroIn K qf (.ref qx)=some true)
  (mr_NoRoad:PySem.W.mroIn K qr (.ref qx)=some true)
  (mr_BadBottom:PySem.W.mroIn K qw (.ref qx)=some true)
  (mr_OffRoad:PySem.W.mroIn K qd (.ref qx)=some true)
  (zfb:PySem.W.nsIn K mainGlobals "len" = some none)
  (zfc:PySem.W.nsIn K mainGlobals "abs" = some none)
  (zfd:PySem.W.nsIn K mainGlobals "range" = some none)
  (zfe:PySem.W.nsIn K mainGlobals "list" = some none)
  (zff:PySem.W.nsIn K mainGlobals "min" = some none)
  (zfg:PySem.W.nsIn K mainGlobals "max" = some none)
  (zfh:PySem.W.nsIn K mainGlobals "all" = some none)
  (zfi:PySem.W.nsIn K mainGlobals "any" = some none)
  (zfj:PySem.W.nsIn K mainGlobals "sorted" = some none)
  (zfk:PySem.W.nsIn K mainGlobals "enumerate" = some none)
  (zfl:PySem.W.nsIn K mainGlobals "dict" = some none)
  (zfm:PySem.W.nsIn K mainGlobals "isinstance" = some none)
  (zfn:PySem.W.nsIn K mainGlobals "int" = some none)
  (zfo:PySem.W.nsIn K mainGlobals "bool" = some none)
  (zfp:PySem.W.nsIn K mainGlobals "tuple" = some none)
  (zfq:PySem.W.nsIn K mainGlobals "str" = some none) :
  ∃fd:Ad,(∀(s:Ab) (v:Ag),BindsTo s fd ⟨[v],[]⟩ [("_law_script",v)])/\∀base:Heap,K.In base->base.Ns mainGlobals mg->FnOk l.prog w K mg base (CXE l.prog w) 9 fa fd ["_law_script"] (wqf K):=by
 have T:Txt K mg qx qf qw qd qg qt wq qc q9 qr qb qh qp qz qq:=⟨aT X G zfb,aT X G zfc,aT X G zfd,aT X G zfe,aT X G zff,aT X G zfg,aT X G zfh,aT X G zfi,aT X G zfj,aT X G zfk,aT X G zfl,aT X G zfm,aT X G zfn,aT X G zfo,aT X G zfp,aT X G zfq,aS X G zds,⟨zap⟩,aS X G zdt,⟨zaq⟩,aS X G zdu,⟨zak⟩,aS X G zdv,⟨zar⟩,aS X G zdw,⟨zb7⟩,aS X G zdx,⟨zb8⟩,aS X G zdy,⟨zb9⟩,aS X G zdz,⟨zas⟩,aS X G zd0,⟨zat⟩,aS X G zd1,⟨zau⟩,aS X G zd2,⟨zav⟩,aS X G zd3,⟨zab⟩,⟨zd5,zd6,zd7,zd8⟩,ze4,⟨zfu,aS X G zaf⟩,aS X G zd4,⟨zeg,zeh,zei,zej⟩,⟨zeo,zep,zeq,zer⟩,ze5,ze6,ze7,ze8,ze9,zfa,aS X G zef,aS X G zen,⟨zfv,aS X G zca⟩,⟨zfw,aS X G zcb⟩,⟨zfx,aS X G zag⟩,⟨zfy,aS X G zah⟩,⟨zfz,aS X G zai⟩,⟨o1,o2,o3,o4⟩,⟨zf0,aS X G zac⟩,⟨zf1,aS X G zad⟩,mr_BadText,mr_BadName,mr_Taken,mr_BadLine,mr_NoRoad,mr_BadBottom,mr_OffRoad⟩;obtain⟨f,fd,a,F⟩:=zdr.ex;have e:=hfa.symm.trans (aS X G a);cases e;refine⟨fd,λs v=>?_,λbase kb nb=>?_⟩
 .obtain⟨oc,od,kV,dg,pm,an,cdv,ct,da,rfl,lk,dc⟩:=F.ex;exact .of_eq rfl
 .have c1:Cal l.prog w K mg base "_law_cell" 1 (wqw K):=zcv.cal X G qkk λf fd F=>wjg T F;have I:Cal l.prog w K mg base "_law_pick" 2 (yb K):=zcw.cal X G qv6 λf fd F=>wj4 T F c1;have c3:Cal l.prog w K mg base "check_bottom" 1 (qku qw):=zcx.cal X G Js λf fd F=>wz2 T F;have c4:Cal l.prog w K mg base "common_divisor" 1 qwv:=zcy.cal X G Yb λf fd F=>zgh T F;have c5:Cal l.prog w K mg base "lowest" 2 (Yf qw):=zcz.cal X G ww2 λf fd F=>wxh T F c3 c4;have c6:Cal l.prog w K mg base "is_line" 1 (qw9 K):=zc0.cal X G wqx λf fd F=>wqv T F;have c7:CCal l.prog w K mg base "Road" qp 2 (qk5 K qf qp):=zeb.ccal T.zgb zd9 zea Yt λf fd F=>wyb T F c6;have c8:MCal l.prog w K mg base qp "width" 1 (qz8 qp):=zec.cal qx7 λf fd F=>wvt T F;have c9:MCal l.prog w K mg base qp "corners" 1 (Jk qp):=zed.cal qqq λf fd F=>quy T F;have c0:MCal l.prog w K mg base qp "on_road" 3 (qws K qp qw qd):=zee.cal J0 λf fd F=>qu4 T F c8 c5;have cs:CCal l.prog w K mg base "Walker" qz 1 (qqd qz):=zem.ccal T.zgc zek zel Zk λf fd F=>wkm T F;have cq:Cal l.prog w K mg base "set_down" 3 (Y5 qz):=zc1.cal X G qyg λf fd F=>qy7 T F cs;have cp:Cal l.prog w K mg base "is_name" 1 qww:=zc2.cal X G wqq λf fd F=>wqk T F;have a1:Cal l.prog w K mg base "check_new_name" 2 (Wv qc q9):=zc3.cal X G Yx λf fd F=>qjt T F cp;have co:Cal l.prog w K mg base "exchange" 1 quw:=zc4.cal X G qy6 λf fd F=>wyp T F;have a0:CCal l.prog w K mg base "House" qq 1 (qqk qq):=zeu.ccal T.zgd zes zet Zr λf fd F=>wzn T F;have ak:MCal l.prog w K mg base qq "road_called" 1 (yg qq qr true):=zev.cal Q0 λf fd F=>qq1 T F;have cj:MCal l.prog w K mg base qq "walker_called" 1 (yg qq qb false):=zew.cal u7 λf fd F=>Yr T F;have aj:MCal l.prog w K mg base qq "do" 2 (spDo qq):=zex.cal qyz λf fd F=>zgn T F co;have ai:MCal l.prog w K mg base qq "lay" 4 (qzj K qq qp qc q9 qf):=zey.cal qvm λf fd F=>zgo T F a1 c7 aj;have ci:MCal l.prog w K mg base qq "corners_of" 2 (Q9 qq qp qr):=zez.cal W0 λf fd F=>qxu T F ak c9;have cc:MCal l.prog w K mg base qq "where" 2 (qk4 qq qz qb):=ze0.cal qwk λf fd F=>wjq T F cj;have ad:MCal l.prog w K mg base qq "place" 5 (Wc K qq qp qz qc q9 qr qw qd):=ze1.cal qwc λf fd F=>wzz T F a1 ak c5 c0 cq aj;have b9:MCal l.prog w K mg base qq "names" 1 (qvg qq):=ze2.cal qqg λf fd F=>wvf T F;have b8:Cal l.prog w K mg base "_law_climb" 3 (qqf K):=zc5.cal X G qxp λf fd F=>wz0 T F I;have b7:Cal l.prog w K mg base "_law_heights" 4 (Yp K):=zc6.cal X G J1 λf fd F=>wqb T F I b8;have aa:Cal l.prog w K mg base "_law_common" 1 qwv:=zc7.cal X G qwb λf fd F=>wx8 T F;have b6:Cal l.prog w K mg base "_law_low" 2 wvd:=zc8.cal X G qy8 λf fd F=>zgk T F aa;have b5:Cal l.prog w K mg base "_law_spot" 3 (qkb K):=zc9.cal X G qkz λf fd F=>wzg T F I;have b4:Cal l.prog w K mg base "_law_names" 3 (qw2 K):=zda.cal X G qxs λf fd F=>wwm T F I;have Z:MCal l.prog w K mg base qq "forget" 1 (Zh qq qp qz):=ze3.cal J3 λf fd F=>ww3 T F;have b3:Cal l.prog w K mg base "road_row" 3 (Y9 qq qp qz):=zdb.cal X G qyt λf fd F=>qjs T F ci;have b2:Cal l.prog w K mg base "walker_row" 3 (Qs qq qp qz):=zdc.cal X G qx6 λf fd F=>qxx T F cc;have J:Cal l.prog w K mg base "house_text" 4 (qxw qq qp qz):=zdd.cal X G qxj λf fd F=>qx4 T F b9 b3 b2;have b1:Cal l.prog w K mg base "number_of" 1 qkw:=zcd.cal X G Zt λf fd F=>qv9 T F;have b0:Cal l.prog w K mg base "take_in" 6 (Z9 qq qp qz):=zce.cal X G qq8 λf fd F=>wqc T F ai ad b1;have bp:Cal l.prog w K mg base "house_of" 7 (Wg qq qp qz):=zcf.cal X G Jg λf fd F=>qyf T F a0 b0 Z;have bo:Cal l.prog w K mg base "_law_stand" 5 (qv0 K):=zde.cal X G qxg λf fd F=>wz7 T F b4 I b7 b5 b6;have bl:Cal l.prog w K mg base "_law_text" 1 qkc:=zdf.cal X G qk8 λf fd F=>wvm T F;have U:Cal l.prog w K mg base "_law_good_name" 1 Qk:=zdg.cal X G Ym λf fd F=>qvh T F;have bk:Cal l.prog w K mg base "_law_good_line" 1 Zy:=zdh.cal X G Yj λf fd F=>qkv T F;have S:Cal l.prog w K mg base "_law_number" 1 qk7:=zdi.cal X G qxq λf fd F=>qxf T F;have bf:Cal l.prog w K mg base "_law_road_good" 2 qv5:=zdj.cal X G Yh λf fd F=>qvq T F U bk S;have bb:Cal l.prog w K mg base "_law_walker_good" 2 qvu:=zdk.cal X G Wt λf fd F=>qwm T F U S aa;have a9:Cal l.prog w K mg base "_law_good" 3 qks:=zdl.cal X G qv1 λf fd F=>qy3 T F bf bb;have O:Cal l.prog w K mg base "_law_odd" 1 wq6:=zdm.cal X G qyy λf fd F=>zg7 T F;have a8:Cal l.prog w K mg base "_law_sign" 3 (qvb K):=zdn.cal X G qvd λf fd F=>wk5 T F I;have a7:Cal l.prog w K mg base "_law_rows_spoilt" 3 (qwg K):=zdo.cal X G Wr λf fd F=>qwy T F I O;have a6:Cal l.prog w K mg base "_law_spoilt" 4 (qqh K):=zdp.cal X G qqp λf fd F=>wxu T F I O a7 a8;have a5:Cal l.prog w K mg base "number_of" 1 (qwd qh):=zcd.cal X G Zt λf fd F=>qup T F;have a4:Cal l.prog w K mg base "take_in" 6 (Wm qq qp qz [qh,qc,q9,qf,qr,qw,qd]):=zce.cal X G qq8 λf fd F=>qyh T F ai ad a5;have a3:Cal l.prog w K mg base "house_of" 7 (Zw qq qp qz [qh,qc,q9,qf,qr,qw,qd]):=zcf.cal X G Jg λf fd F=>qvx T F a0 a4 Z;have a2:Cal l.prog w K mg base "read_house" 8 (λL H Q E=>Wg qq qp qz L H Q E\/Jv qh L H Q E):=zdq.cal X G qxk λf fd F=>FnOk.or (qxr T F bp J) (qj8 T F a3 J);exact zg9 T F bo bl a6 a2 a9 J
theorem walk {l:PySem.W.OpenLaw}{q:Ac}{loose:List Str}{XP:(Str->Option Ag)->Heap->Prop}{YP:Ah->Heap->Prop}{d:DefRec}{K:Params->Aa}(hn:l.most=some 63)(hdf:d.params.defaults=[])
  (hY:∀(w:Ah) (h:Heap),YP w h->(K w.params).In h)
  (F:∀(w:Ah) (mg:Str->Option Ag) (fa:Aj) (h:Heap),(K w.params).In h->h.Ns mainGlobals mg->mg d.name=some (.ref fa) ->
   ∃fd:Ad,(∀(s:Ab) (u:Ag),BindsTo s fd ⟨[u],[]⟩ [("_law_script",u)])/\∀base:Heap,(K w.params).In base->base.Ns mainGlobals mg->FnOk l.prog w (K w.params) mg base (CXE l.prog w) 9 fa fd ["_law_script"] (wqf (K w.params))) :
  PySem.W.WalkO q loose XP YP l.row.toRowW d [] (λf vs=>PySem.call f vs) :=
 L2.wju (n:=63) (k:=9) (x := "_law_script") (CX:=λw=>CXE l.prog w) (sp:=λw=>wqf (K w.params)) hn ⋯ hdf ⟨rfl,⋯,⋯⟩ hY F (λ_ _ a ns hl _ hS=>⟨a,ns,rfl,hS,hl,λ_=>rfl⟩) λ_ _ _ _ _ z=>CXE.no z
end
end My
open PySem PySem.W PyProof.Rows
local macro_rules | `(tactic| walk_at "def")=>`(tactic| (refine' L2.def_mk ?a ?l ?c ?k;(case a=>k_is);(case l=>k_is);(case c=>k_is);(case k=>k_is)))
local macro_rules | `(tactic| walk_at "defD")=>`(tactic| (refine' L2.defD_mk ?a ?l ?c ?k ?t;(case a=>k_is);(case l=>k_is);(case c=>k_is);(case k=>k_is);(case t=>k_is)))
local macro_rules | `(tactic| walk_at "meth")=>`(tactic| (refine' L2.wyt ?a ?i ?l ?c ?k;(case a=>k_is);(case i=>k_is);(case l=>k_is);(case c=>k_is);(case k=>k_is)))
section
open Lean
local macro_rules|`(universe $x*)=>do let mut r:=#[];for i in x do {let s:=i.getId.toString;let n:=((s.drop 1).toString.splitOn "_").map String.toNat!;for j in [n.head!:n.getLast!+1] do {r:=r.push (<-`(command|theorem $(mkIdent (.str `PySem.W.Fast s!"tw{(Name.str `PySem.Challenge.cw_crookroad_k57_whole_text_refused_holds ((match s.front with|'h'=>"heap_"|'t'=>"tree_"|'v'=>"view_"|'s'=>"sts_"|'e'=>"env_"|_=>"o_")++toString j)).hash}")):ident:True:=trivial))}};return mkNullNode r
universe h39 h46 h879 t47 t70 t85 t100 t115 t130 t145 t160 t175 t190 t205 t220 t264 t294 t366 t415 t422 t606 t691 t770 t855 t878 v39 o43_691 o695_878 s49 s71 s86 s101 s116 s131 s146 s161 s176 s191 s206 s221 s265 s295 s367 s416 s423 s695 s771 s856 e41
end
theorem PySem.W.Fast.tw7963164497971115272:True:=trivial
theorem PySem.W.Fast.tw9101329288589887048:True:=trivial
set_option maxRecDepth 100000 in
set_option maxHeartbeats 0 in
theorem PySem.Challenge.cw_crookroad_k57_whole_text_refused_holds : PySem.Challenge.rw_crookroad_k57_whole_text_refused.Holds := by
 w_on;o_law;k_head;(case hw=>w_witness2)
 k_fill
 refine My.walk (l:=PySem.Challenge.rw_crookroad_k57_whole_text_refused) rfl rfl (fun w h Y=>PySem.W.kIn_of Y) ?F
 case F =>
  intro w mg fa h KX G hmg
  refine' My.all_mk KX G hmg ?zcv ?zcw ?zcx ?zcy ?zcz ?zc0 ?zc1 ?zc2 ?zc3 ?zc4 ?zc5 ?zc6 ?zc7 ?zc8 ?zc9 ?zda ?zdb ?zdc ?zdd ?zcd ?zce ?zcf ?zde ?zdf ?zdg ?zdh ?zdi ?zdj ?zdk ?zdl ?zdm ?zdn ?zdo ?zdp ?zdq ?zdr ?zds ?zap ?zdt ?zaq ?zdu ?zak ?zdv ?zar ?zdw ?zb7 ?zdx ?zb8 ?zdy ?zb9 ?zdz ?zas ?zd0 ?zat ?zd1 ?zau ?zd2 ?zav ?zd3 ?zab ?zd4 ?zd5 ?zd6 ?zd7 ?zd8 ?zd9 ?zea ?zeb ?zec ?zed ?zee ?zef ?zeg ?zeh ?zei ?zej ?zek ?zel ?zem ?zen ?zeo ?zep ?zeq ?zer ?zes ?zet ?zeu ?zev ?zew ?zex ?zey ?zez ?ze0 ?ze1 ?ze2 ?ze3 ?ze4 ?ze5 ?ze6 ?ze7 ?ze8 ?ze9 ?zfa ?zaf ?zca ?zcb ?zag ?zah ?zai ?zac ?zad ?o1 ?o2 ?o3 ?o4 ?mr_BadText ?mr_BadName ?mr_Taken ?mr_BadLine ?mr_NoRoad ?mr_BadBottom ?mr_OffRoad ?zfb ?zfc ?zfd ?zfe ?zff ?zfg ?zfh ?zfi ?zfj ?zfk ?zfl ?zfm ?zfn ?zfo ?zfp ?zfq
  (case zcv=>walk_at "def")
  (case zcw=>walk_at "def")
  (case zcx=>walk_at "def")
  (case zcy=>walk_at "def")
  (case zcz=>walk_at "def")
  (case zc0=>walk_at "def")
  (case zc1=>walk_at "def")
  (case zc2=>walk_at "def")
  (case zc3=>walk_at "def")
  (case zc4=>walk_at "def")
  (case zc5=>walk_at "def")
  (case zc6=>walk_at "def")
  (case zc7=>walk_at "def")
  (case zc8=>walk_at "def")
  (case zc9=>walk_at "def")
  (case zda=>walk_at "def")
  (case zdb=>walk_at "def")
  (case zdc=>walk_at "def")
  (case zdd=>walk_at "def")
  (case zcd=>walk_at "def")
  (case zce=>walk_at "def")
  (case zcf=>walk_at "def")
  (case zde=>walk_at "def")
  (case zdf=>walk_at "def")
  (case zdg=>walk_at "def")
  (case zdh=>walk_at "def")
  (case zdi=>walk_at "def")
  (case zdj=>walk_at "def")
  (case zdk=>walk_at "def")
  (case zdl=>walk_at "def")
  (case zdm=>walk_at "def")
  (case zdn=>walk_at "def")
  (case zdo=>walk_at "def")
  (case zdp=>walk_at "def")
  (case zdq=>walk_at "def")
  (case zdr=>walk_at "def")
  (case zds=>k_is)
  (case zap=>k_exc)
  (case zdt=>k_is)
  (case zaq=>k_exc)
  (case zdu=>k_is)
  (case zak=>k_exc)
  (case zdv=>k_is)
  (case zar=>k_exc)
  (case zdw=>k_is)
  (case zb7=>k_exc)
  (case zdx=>k_is)
  (case zb8=>k_exc)
  (case zdy=>k_is)
  (case zb9=>k_exc)
  (case zdz=>k_is)
  (case zas=>k_exc)
  (case zd0=>k_is)
  (case zat=>k_exc)
  (case zd1=>k_is)
  (case zau=>k_exc)
  (case zd2=>k_is)
  (case zav=>k_exc)
  (case zd3=>k_is)
  (case zab=>k_exc)
  (case zd4=>k_is)
  (case zd5=>k_is)
  (case zd6=>k_is)
  (case zd7=>k_is)
  (case zd8=>k_is)
  (case zd9=>k_is)
  (case zea=>k_is)
  (case zeb=>walk_at "meth")
  (case zec=>walk_at "meth")
  (case zed=>walk_at "meth")
  (case zee=>walk_at "meth")
  (case zef=>k_is)
  (case zeg=>k_is)
  (case zeh=>k_is)
  (case zei=>k_is)
  (case zej=>k_is)
  (case zek=>k_is)
  (case zel=>k_is)
  (case zem=>walk_at "meth")
  (case zen=>k_is)
  (case zeo=>k_is)
  (case zep=>k_is)
  (case zeq=>k_is)
  (case zer=>k_is)
  (case zes=>k_is)
  (case zet=>k_is)
  (case zeu=>walk_at "meth")
  (case zev=>walk_at "meth")
  (case zew=>walk_at "meth")
  (case zex=>walk_at "meth")
  (case zey=>walk_at "meth")
  (case zez=>walk_at "meth")
  (case ze0=>walk_at "meth")
  (case ze1=>walk_at "meth")
  (case ze2=>walk_at "meth")
  (case ze3=>walk_at "meth")
  (case ze4=>k_is)
  (case ze5=>k_is)
  (case ze6=>k_is)
  (case ze7=>k_is)
  (case ze8=>k_is)
  (case ze9=>k_is)
  (case zfa=>k_is)
  (case zaf=>k_is)
  (case zca=>k_is)
  (case zcb=>k_is)
  (case zag=>k_is)
  (case zah=>k_is)
  (case zai=>k_is)
  (case zac=>k_is)
  (case zad=>k_is)
  (case o1=>k_is)
  (case o2=>k_is)
  (case o3=>k_is)
  (case o4=>k_is)
  (case mr_BadText=>k_is)
  (case mr_BadName=>k_is)
  (case mr_Taken=>k_is)
  (case mr_BadLine=>k_is)
  (case mr_NoRoad=>k_is)
  (case mr_BadBottom=>k_is)
  (case mr_OffRoad=>k_is)
  (case zfb=>k_is)
  (case zfc=>k_is)
  (case zfd=>k_is)
  (case zfe=>k_is)
  (case zff=>k_is)
  (case zfg=>k_is)
  (case zfh=>k_is)
  (case zfi=>k_is)
  (case zfj=>k_is)
  (case zfk=>k_is)
  (case zfl=>k_is)
  (case zfm=>k_is)
  (case zfn=>k_is)
  (case zfo=>k_is)
  (case zfp=>k_is)
  (case zfq=>k_is)
