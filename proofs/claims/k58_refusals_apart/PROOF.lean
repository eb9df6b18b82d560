import PyProof.Rows.All
import Wide.All
import OpenK.AllK
import Wide.FinOn
import Lean
import PyProof.EqAt
import PyProof.EqKinds
import PyProof.TupleCall
import PyProof.NeData
import KE.IntBitsLaws
import PyProof.DictIter
import PyProof.DictItems
import PyProof.DictWalks
import PyProof.StrLoop
import KE.KPairComp
import PyProof.StrWalks
import KE.KSortKey
import KE.KDictOf
import PyProof.Rows.TupDisplay
import PyProof.DictCompW
import KE.KIntText
import PyProof.StrCalls2
import PyProof.Rows.StrJoin2
import PyProof.ExcAttrAll.ValueError
import PyProof.StrOps2
import PySem.Challenge.RW_crookroad_k58_refusals_apart
set_option maxHeartbeats 0
set_option Elab.async false
set_option linter.all false
set_option maxRecDepth 100000
open Lean in
local macro_rules(kind:=Lean.Parser.Command.declaration)|s=>do {if s.getPos?.isNone||(`PySem.Challenge).isPrefixOf s[1][1][0].getId then Macro.throwUnsupported else let k:=s[1].getKind;let m←`(command|noncomputable def x:=0);let s:=if (k==`Lean.Parser.Command.definition||k==`Lean.Parser.Command.abbrev||k==`Lean.Parser.Command.instance)&&s[0][4].isNone then s.setArg 0 (s[0].setArg 4 m.raw[0][4]) else s;return Id.run (s.rewriteBottomUpM fun x=>x.setInfo .none)}
local macro_rules|`(tactic|lia)=>`(tactic|first|lia +splitIte|omega)
local macro_rules|`(⋯)=>`(by first|decide|lia)
local macro_rules|`(tactic|walk_at "iv")=>`(tactic|first|exact .inl rfl|exact .inr rfl|assumption)
local macro_rules|`(tactic|walk_at "vs")=>`(tactic|first|exact Or.inl rfl|exact Or.inr (Or.inl rfl)|exact Or.inr (Or.inr rfl))
def aa:=@PySem.wpAny_bind
def ac:=@PySem.Heap.get?_push_of_some
def ae:=@PySem.Heap.lt_size
def af:=@Nat.le_refl
def ag:=@PySem.wpAny_pure
def ah:=@List.length_map
def ai:=@List.getElem?_eq_getElem
def aj:=@PySem.Heap.get?_push_size
def ak:=@if_neg
def al:=@Option.some.inj
def am:=@List.getD_eq_getElem?_getD
def ao:=@if_pos
def aq:=@Bool.false_ne_true
def ar:=@Nat.ne_of_lt
def au:=@List.size_toArray
def av:=@List.mem_cons
def aw:=@Nat.lt_of_lt_of_le
def ax:=@PyProof.Rows.boot_isinstance
def ay:=@List.map_cons
def az:=@PySem.W.mg_of
def aA:=@List.not_mem_nil
def aB:=@List.length_cons
def aC:=@List.lookup_cons
def aD:=@Nat.zero_le
def aE:=@PySem.W.mg_none_of
def aF:=@List.mem_map
def aG:=@PySem.wpAny_mono
def aH:=@List.mem_singleton
def aI:=@List.getElem?_map
def aJ:=@List.mem_append_right
def aK:=@List.getElem?_eq_none
def aL:=@List.length_range
def aM:=@beq_eq_false_iff_ne
def aN:=@PySem.boot_len
def aO:=@Bool.and_eq_true
def aP:=@decide_eq_false
def aQ:=@Nat.le_trans
def aR:=@PySem.wpAny_field
def aS:=@Nat.lt_irrefl
def aT:=@List.getElem?_eq_some_iff
def aU:=@PySem.Heap.size_push
def aV:=@Nat.lt_trans
def aW:=@PySem.wpAny_loadPart_at
def aX:=@List.length_append
def aY:=@PyProof.Rows.slot_tuple_getitem
def aZ:=@Nat.le_of_lt
def ba:=@Ne.symm
def bb:=@PySem.wpAny_newObj_type
def bc:=@List.mem_cons_of_mem
def bd:=@List.mem_range
def be:=@List.nodup_cons
def bg:=@List.getElem?_append_right
def bh:=@List.mem_of_getElem?
def bi:=@List.nodup_nil
def bj:=@List.map_nil
def bn:=@PySem.wpAny_holding
def bo:=@List.map_append
def bp:=@List.length_nil
def bq:=@List.mem_append_left
def br:=@PySem.wpAny_callSpecial?_slot
def bt:=@PyProof.Rows.callWith_type1
def bu:=@PySem.Paired.length
def bv:=@decide_eq_true
def bw:=@List.map_map
def bx:=@Array.length_toList
def bz:=@List.map_congr_left
def bA:=@List.mem_append
def bB:=@List.append_nil
def bC:=@List.getElem?_append_left
def bD:=@List.length_take
def bE:=@List.filter_cons
def bF:=@PySem.PassesOwn.leaving
def bG:=@Array.getElem?_eq_none
def bH:=@PySem.wpAny_call_entry
def bI:=@congrArg
def bJ:=@PySem.wpAny_Call_Name_kw
def bK:=@PySem.F.excBase_ValueError
def bL:=@PySem.F.slot_tuple_iterator_next
def bM:=@PySem.wpAny_seqItems
def bN:=@PySem.wpAny_setField_rec
def bO:=@Int.emod_lt_of_pos
def bP:=@PySem.wpAny_passesOwn
def bQ:=@Bool.eq_iff_iff
def bR:=@Int.toNat_natCast
def bS:=@PySem.wpAny_standAt
def bT:=@PySem.mem_of_lookup
def bU:=@Int.mul_le_mul_of_nonneg_left
def bV:=@List.mem_cons_self
def bW:=@List.getElem?_set_self
def bX:=@Nat.ne_of_gt
def bY:=@beq_iff_eq
def bZ:=@PySem.Obj.data_mapFields
def cb:=@Int.lt_or_le
def ce:=@PySem.tupleKind_room_in1
def cf:=@PySem.wpAny_execs_nil
def cg:=@Int.mul_ediv_mul_of_pos_left
def ck:=@List.range_succ
def cm:=@List.find?_cons
def cn:=@Option.map_some
def cr:=@Int.emod_nonneg
def cu:=@PySem.wpAny_truthy_bool
def cv:=@List.ext_getElem?
def cw:=@decide_eq_true_eq
def cx:=@List.getElem?_set_ne
def cy:=@PySem.Calls.evalArgs_plain
def cz:=@Array.getElem?_eq_some_iff
def cA:=@Array.size_map
def cB:=@Nat.lt_succ_self
def cC:=@Nat.lt_or_ge
def cD:=@Classical.byContradiction
def cE:=@List.filterMap_cons
def cF:=@Int.toNat_of_nonneg
def cG:=@List.getElem?_range
def cH:=@Option.isSome_iff_exists
def cI:=@PySem.F.args_tuple_add_2
def cJ:=@PySem.wpAny_comprehension_free
def cK:=@or_false
def cL:=@List.mem_filter
def cM:=@PySem.wpAny_rule
def cN:=@PySem.F.entry_tuple_add
def cO:=@PySem.F.slot_tuple_add
def cP:=@PySem.Calls.callWith_builtin
def cQ:=@PySem.Heap.get?_update_other
def cR:=@PyProof.Rows.boot_list
def cS:=@Array.getElem?_setIfInBounds_ne
def cT:=@PySem.Heap.get?_update_self
def cU:=@PySem.Obj.isFreed_of_fields
def cV:=@List.length_filter_le
def cW:=@PySem.F.slot_dict_get
def cX:=@PyProof.Rows.boot_min
def cY:=@PySem.W.KIN.num_reads
def cZ:=@List.length_drop
def db:=@List.getElem_mem
def de:=@List.take_length
def df:=@List.all_eq_true
def dh:=@List.any_cons
def di:=@PySem.wpAny_onRaise
def dj:=@PySem.lookup_relabel_local
def dk:=@PySem.wpAny_updateSeq_pair
def dm:=@PySem.F.args_tuple_iterator_next_1
def dn:=@PySem.F.slot_zip_next
def dt:=@PySem.W.plainGet_of
def du:=@PySem.wpAny_isSubtype_exc
def dv:=@ne_true_of_eq_false
def dz:=@PySem.codeAny_mono
def dA:=@Array.getD_eq_getD_getElem?
def dB:=@PySem.F.entry_tuple_iterator_next
def dC:=@PySem.W.of_hideAll
def dE:=@PyProof.Rows.assignInOrder_cons
def dF:=@List.mem_filterMap
def dG:=@PySem.Calls.spliced_cons
def dH:=@Nat.lt_of_le_of_lt
def dI:=@PySem.wpAny_setField
def dJ:=@PySem.W.callWith_K
def dL:=@Int.mul_lt_mul_of_pos_left
def dM:=@Bool.false_eq_true
def dN:=@PySem.F.args_str_split_2
def dO:=@PySem.F.slot_dict_delitem
def dP:=@List.getElem?_eq_none_iff
def dQ:=@Array.getElem?_eq_getElem
def dR:=@PySem.wpAny_pyIter_list
def dS:=@PySem.Calls.spliced_nil
def dU:=@if_true
def dW:=@Option.isSome_map
def dX:=@List.pairwise_map
def dY:=@PySem.F.entry_str_split
def dZ:=@Array.size_setIfInBounds
def d6:=@List.sum_cons
def d7:=@PySem.F.slot_list_append
def d8:=@PySem.F.type_list_append
def ee:=@PySem.wpAny_execs_cons
def eh:=@PySem.noFill_tuple_add
def el:=@Int.natCast_dvd_natCast
def eo:=@PySem.F.args_dict_get_2
def eA:=@PySem.F.plainAttrs_dict
def eB:=@beq_self_eq_true
def eC:=@List.getElem_map
def eD:=@PySem.F.slot_dict_items
def eE:=@PySem.F.slot_str_split
def eG:=@Option.bind_eq_some_iff
def eI:=@PySem.F.plainAttrs_list
def eJ:=@List.mem_flatMap
def eK:=@PySem.wpAny_typeOf
def eL:=@PySem.call_meets
def eM:=@PySem.call_meetsIn
def eN:=@List.of_mem_zip
def eO:=@Int.natCast_mul
def eP:=@List.forIn_cons
def eR:=@PySem.codeAny_builtin
def eS:=@PySem.P.mul_str
def eU:=@if_false
section
open PySem PySem.Spec PyProof.Rows
abbrev Aa:=PySem.W.Frag
abbrev Ab:=PySem.Shared
abbrev Ac:=PySem.Program
abbrev Ad:=PySem.FuncData
abbrev Ae:=Around
abbrev Af:=SortSt
abbrev Ag:=Value
abbrev Ah:=World
abbrev Ai:=Keyed
abbrev Aj:=Addr
end
namespace L2
theorem exI {α:Sort _}{A K:α->Prop}{v:α}(e:A v)(h:K v):∃x,A x/\K x:=⟨v,e,h⟩
theorem xh {α β:Sort _}{A:α->Prop}{B:β->Prop}{K:α->β->Prop}{u:α}{v:β}(a:A u)(b:B v)(h:K u v):∃x y,A x/\B y/\K x y:=⟨u,v,a,b,h⟩
theorem exX {α β γ δ:Sort _}{A:α->Prop}{B:γ->Prop}{C:α->β->Prop}{D:β->γ->δ->Prop}{K:δ->Prop}{p:α}{xs:β}{i:γ}{v:δ}(a:A p)(b:B i)(c:C p xs)(d:D xs i v)(h:K v):∃p xs i v,A p/\B i/\C p xs/\D xs i v/\K v:=⟨p,xs,i,v,a,b,c,d,h⟩
end L2
namespace L2
open PySem PySem.Spec PyProof.Rows
abbrev Key:=Sum Int Str
def Yp:Key->Ag->Bool
 |.inl k,v=>Value.isInt k v
 |.inr x,v=>Value.isStrOf x v
def keyH (w:Ah):Key->Int
 |.inl k=>hashInt k
 |.inr x=>hashStr w x
theorem zh:∀ {k:Key} {v:Ag},Yp k v=true->(∃i t,k=Sum.inl i/\v=Value.int i t)\/(∃x t,k=Sum.inr x/\v=Value.str x t)
 |.inl i,v,h=>by obtain⟨t,e⟩:=Value.isInt_shape (k:=i) (v:=v) h;exact .inl ⟨i,t,rfl,e⟩
 |.inr x,v,h=>by obtain⟨t,e⟩:=Value.isStrOf_shape (x:=x) (v:=v) h;exact .inr ⟨x,t,rfl,e⟩
theorem qu5 (i:Int)(t:Tok):Yp (.inl i) (.int i t)=true:=by simp[Yp,Value.isInt]
theorem qum (x:Str)(t:Tok):Yp (.inr x) (.str x t)=true:=by simp[Yp,Value.isStrOf]
theorem key_ll (a b:Int):decide ((Sum.inl a:Key)=Sum.inl b)=(a==b):=by
 by_cases e:a=b
 .subst e;simp
 .have h:¬ (Sum.inl a:Key)=Sum.inl b:=λq=>e (Sum.inl.inj q);rw[aP h];exact(aM.mpr e).symm
theorem key_rr (a b:Str):decide ((Sum.inr a:Key)=Sum.inr b)=decide (a=b):=by
 by_cases e:a=b
 .subst e;simp
 .have h:¬ (Sum.inr a:Key)=Sum.inr b:=λq=>e (Sum.inr.inj q);rw[aP h,aP e]
theorem key_lr (a:Int)(b:Str):decide ((Sum.inl a:Key)=Sum.inr b)=false:=aP (λq=>nomatch q)
theorem key_rl (a:Str)(b:Int):decide ((Sum.inr a:Key)=Sum.inl b)=false:=aP (λq=>nomatch q)
def xm (prog:Ac)(w:Ah):PySem.KeyKind prog w Key where
 is:=Yp
 hash:=keyH w
 inj:=λv a b ha hb=>by
  rcases zh ha with⟨i,t,rfl,rfl⟩|⟨x,t,rfl,rfl⟩
  .rcases zh hb with⟨j,u,rfl,e⟩|⟨y,u,rfl,e⟩
   .injection e with e1 _;rw[e1]
   .exact nomatch e
  .rcases zh hb with⟨j,u,rfl,e⟩|⟨y,u,rfl,e⟩
   .exact nomatch e
   .injection e with e1 _;rw[e1]
 byValue:=λk v h=>by rcases zh h with⟨i,t,rfl,rfl⟩|⟨x,t,rfl,rfl⟩ <;> rfl
 pyHash:=λhv h=>by
  rcases zh hv with⟨i,t,rfl,rfl⟩|⟨x,t,rfl,rfl⟩
  .exact wpAny_pyHash_int h
  .exact wpAny_pyHash_str h
 eqBool:=λhu hv h=>by
  rcases zh hu with⟨i,t,rfl,rfl⟩|⟨x,t,rfl,rfl⟩
  .rcases zh hv with⟨j,u,rfl,rfl⟩|⟨y,u,rfl,rfl⟩
   .rw[key_ll]at h;exact wpAny_eqBool_int h
   .rw[key_lr]at h;exact SeqAt.EqAt.int_str i t y u _ _ _ _ h
  .rcases zh hv with⟨j,u,rfl,rfl⟩|⟨y,u,rfl,rfl⟩
   .rw[key_rl]at h;exact SeqAt.EqAt.str_int x t j u _ _ _ _ h
   .rw[key_rr]at h;exact wpAny_eqBool_str h
 «strs»:=λk x t v h=>by
  rcases zh h with⟨i,u,rfl,e⟩|⟨y,u,rfl,e⟩
  .exact nomatch e
  .injection e with e1 _
   subst e1;cases v <;> rfl
theorem qv9 (prog:Ac)(w:Ah)(i:Int)(t:Tok):(xm prog w).is (.inl i) (.int i t)=true:=qu5 i t
theorem qv4 (prog:Ac)(w:Ah)(x:Str)(t:Tok):(xm prog w).is (.inr x) (.str x t)=true:=qum x t
inductive V where
 |non|bl (b:Bool)|int (i:Int)|str (x:Str)|byt (b:Array UInt8)|flt (b:UInt64)|ref (a:Aj)|ty (n:String)
 deriving DecidableEq
def RelV:V->Ag->Prop
 |.non,u=>u=Value.none
 |.bl b,u=>u=Value.bool b
 |.int i,u=>∃t,u=Value.int i t
 |.str x,u=>∃t,u=Value.str x t
 |.byt b,u=>∃t,u=Value.bytes b t
 |.flt b,u=>∃t,u=Value.float b t
 |.ref a,u=>u=Value.ref a
 |.ty n,u=>u=Value.type n
abbrev Vals:List V->List Ag->Prop:=Paired RelV
theorem Vals.length {xs:List V}{us:List Ag}(r:Vals xs us):xs.length=us.length:=bu r
theorem Vals.get:∀ {xs:List V} {us:List Ag} {i:Nat} {x:V},Vals xs us->xs[i]?=some x->∃u,us[i]?=some u/\RelV x u
 |_,_,_,_,.nil,e=>by simp at e
 |_,_,0,_,.cons r _,e=>by simp at e;subst e;exact⟨_,rfl,r⟩
 |_,_,i+1,x,.cons _ t,e=>by obtain⟨u,h1,h2⟩:=Vals.get (i:=i) (x:=x) t (by simpa using e);exact⟨u,by simpa using h1,h2⟩
theorem Vals.append:∀ {xs ys:List V} {us ws:List Ag},Vals xs us->Vals ys ws->Vals (xs++ys) (us++ws)
 |_,_,_,_,.nil,s=>s
 |_,_,_,_,.cons r t,s=>.cons r (Vals.append t s)
theorem Vals.take:∀ {xs:List V} {us:List Ag} (n:Nat),Vals xs us->Vals (xs.take n) (us.take n)
 |_,_,0,_=>.nil
 |_,_,_+1,.nil=>.nil
 |_,_,n+1,.cons r t=>.cons r (Vals.take n t)
theorem Vals.drop:∀ {xs:List V} {us:List Ag} (n:Nat),Vals xs us->Vals (xs.drop n) (us.drop n)
 |_,_,0,r=>r
 |_,_,_+1,.nil=>.nil
 |_,_,n+1,.cons _ t=>Vals.drop n t
def RelO:Option V->Option Ag->Prop
 |some v,some u=>RelV v u
 |none,none=>True
 |_,_=>False
def KV {κ:Type}:List (κ×V)->List (κ×Ag)->Prop:=Paired λ(p:κ×V) (q:κ×Ag)=>p.1=q.1/\RelV p.2 q.2
def kV:Key->V
 |.inl i=>.int i
 |.inr x=>.str x
inductive HO where
 |lst (xs:List V)
 |tup (xs:List V)
 |dK (kvs:List (Key×V))|dT (kvs:List (List Key×V))
 |set (S:Int->Bool) (n:Nat)
 |ins (C dx:Aj) (fs:List (Str×V))
 |own (x:Aj)
 |xd (fs:List (Str×V))
 |met (f x:Aj)
 |rng (lo hi:Int)
 |frz (o:Obj) (u:HO)
 |tbl (ps:Array Ag)
 |ext (φ:Heap->Prop)
abbrev Hp:=Aj->Option HO
def upd (H:Hp)(a:Aj)(o:HO):Hp:=λb=>if b=a then some o else H b
theorem wj {H:Hp}{a:Aj}{o:HO}:upd H a o a=some o:=by unfold upd;rw[ao rfl]
theorem wf {H:Hp}{a b:Aj}{o:HO}(h:b≠a):upd H a o b=H b:=by unfold upd;rw[ak h]
theorem Qn {H:Hp}{a:Aj}{o u:HO}:upd (upd H a o) a u=upd H a u:=by funext b;unfold upd;split <;> rfl
theorem ne_of {H:Hp}{a b:Aj}{o u:HO}(h:H a=some o)(h':H b=some u)(d:o≠u):a≠b:=by intro e;subst e;rw[h]at h';exact d (al h')
theorem wz {H:Hp}{a b:Aj}{o:HO}(h:H a=some o)(h':H b=none):a≠b:=by intro e;subst e;rw[h]at h';cases h'
section
variable (P:Ac)(w:Ah)
def ObjOk (H:Hp)(h:Heap)(a:Aj):HO->Prop
 |.lst xs=>xs.length<=sizeLine/\∃(its:List Ag) (n:Nat),Vals xs its/\h.get? a=some { cls:=.type "list",data:=.seq its.toArray n }
 |.tup xs=>xs.length<=sizeLine/\∃its:List Ag,Vals xs its/\IsTup h a its.toArray
 |.dK kvs=>kvs.length<=sizeLine/\(a==sysModules)=false/\∃vs,KV kvs vs/\h.DictOf (xm P w) a vs
 |.dT kvs=>kvs.length<=sizeLine/\(a==sysModules)=false/\∃xs:List (List Key×Aj×Ag),
   Paired (λ(p:List Key×V) (q:List Key×Aj×Ag)=>p.1=q.1/\H q.2.1=some (.tup (p.1.map kV))/\RelV p.2 q.2.2) kvs xs /\
   ∃o es ep,h.get? a=some o/\o.ExactDict/\o.data=.dict es ep/\es.toList=xs.map (entryOfKey (tupleKind (xm P w)))/\(xs.map (·.1)).Nodup
 |.set S n=>h.SetOf (intKind P w) a S n
 |.ins C dx fs=>H dx=some (.own a)/\fs.length<=1000/\dx≠a/\h.get? a=some (W.instObj C dx) /\
   ∃mA,h.Ns1 dx mA/\(∀f,RelO (fs.lookup f) (mA f))/\PySem.Within mA (fs.map (·.1))
 |.own _=>∃o,h.get? a=some o
 |.xd fs=>∃mA,h.Ns1 a mA/\∀f,RelO (fs.lookup f) (mA f)
 |.rng lo hi=>∃t u v,h.get? a=some { cls:=.type "range",data:=.fields #[.int lo t,.int hi u,.int 1 v] }
 |.frz o u=>h.get? a=some o/\ObjOk H h a u
 |.tbl ps=>h.get? a=some { cls:=.none,data:=.fields ps }
 |.met f x=>h.get? a=some (W.methodObj (.ref f) (.ref x))
 |.ext φ=>φ h/\(∃o,h.get? a=some o)/\∀h1 h2:Heap,φ h1->(∀o,h1.get? a=some o->h2.get? a=some o)->φ h2
def HOk (H:Hp)(h:Heap):Prop:=∀a o,H a=some o->ObjOk P w H h a o
end
section
variable {P:Ac}{w:Ah}{H H':Hp}{h h':Heap}{a:Aj}{o:HO}
theorem ObjOk.lt (x:ObjOk P w H h a o):a<h.objs.size:=by
 cases o with
 |lst xs=>obtain⟨_,_,_,_,e⟩:=x;exact ae e
 |tup xs=>obtain⟨_,_,_,p⟩:=x;exact p.lt
 |dK kvs=>obtain⟨_,_,_,_,o,_,_,e,_⟩:=x;exact ae e
 |dT kvs=>obtain⟨_,_,_,_,o,_,_,e,_⟩:=x;exact ae e
 |set S n=>obtain⟨o,_,_,_,e,_⟩:=x;exact ae e
 |ins C dx fs=>obtain⟨_,_,_,e,_⟩:=x;exact ae e
 |own y=>obtain⟨_,e⟩:=x;exact ae e
 |xd fs=>obtain⟨_,⟨_,_,_,e,_⟩,_⟩:=x;exact ae e
 |rng lo hi=>obtain⟨_,_,_,e⟩:=x;exact ae e
 |frz ob u=>obtain⟨e,_⟩:=x;exact ae e
 |tbl ps=>exact ae (show h.get? a=some _ from x)
 |met f y=>exact ae (show h.get? a=some _ from x)
 |ext φ=>obtain⟨_,⟨_,e⟩,_⟩:=x;exact ae e
theorem Paired.mapP {α β:Type}{F G:α->β->Prop}:∀ {l₁:List α} {l₂:List β},Paired F l₁ l₂->(∀a b,F a b->G a b)->Paired G l₁ l₂
 |_,_,.nil,_=>.nil
 |_,_,.cons r t,f=>.cons (f _ _ r) (Paired.mapP t f)
theorem ObjOk.stay (x:ObjOk P w H h a o)(k:∀b u,(b=a\/H b=some (.own a))->h.get? b=some u->h'.get? b=some u)
  (ho:∀b,H b=some (.own a)->H' b=some (.own a)) (ht:∀b xs,H b=some (.tup xs)->H' b=some (.tup xs)):ObjOk P w H' h' a o:=by
 induction o with
 |lst xs=>obtain⟨z,J,n,r,e⟩:=x;exact⟨z,J,n,r,k _ _ (.inl rfl) e⟩
 |tup xs=>obtain⟨z,J,r,ob,e,c⟩:=x;exact⟨z,J,r,ob,k _ _ (.inl rfl) e,c⟩
 |dK kvs=>obtain⟨z,y,vs,r,ob,es,F,e,c⟩:=x;exact⟨z,y,vs,r,ob,es,F,k _ _ (.inl rfl) e,c⟩
 |dT kvs =>
  obtain⟨z,y,xs,r,ob,es,F,e,c⟩:=x;exact⟨z,y,xs,Paired.mapP r λp q z=>⟨z.1,ht _ _ z.2.1,z.2.2⟩,ob,es,F,k _ _ (.inl rfl) e,c⟩
 |set S n=>obtain⟨ob,es,F,t,e,c⟩:=x;exact⟨ob,es,F,t,k _ _ (.inl rfl) e,c⟩
 |ins C dx fs =>
  obtain⟨d,z,L,e,mA,⟨I,es,F,O,c⟩,r⟩:=x;exact⟨ho _ d,z,L,k _ _ (.inl rfl) e,mA,⟨I,es,F,k _ _ (.inr d) O,c⟩,r⟩
 |own y=>obtain⟨ob,e⟩:=x;exact⟨ob,k _ _ (.inl rfl) e⟩
 |xd fs=>obtain⟨mA,⟨I,es,F,e,c⟩,r⟩:=x;exact⟨mA,⟨I,es,F,k _ _ (.inl rfl) e,c⟩,r⟩
 |rng lo hi=>obtain⟨t,u,v,e⟩:=x;exact⟨t,u,v,k _ _ (.inl rfl) e⟩
 |frz ob u ih=>obtain⟨e,q⟩:=x;exact⟨k _ _ (.inl rfl) e,ih q⟩
 |tbl ps =>
  have e:h.get? a=some { cls:=.none,data:=.fields ps }:=x;show h'.get? a=some { cls:=.none,data:=.fields ps };exact k a _ (.inl rfl) e
 |met f y =>
  have e:h.get? a=some (W.methodObj (.ref f) (.ref y)):=x;show h'.get? a=some (W.methodObj (.ref f) (.ref y));exact k a _ (.inl rfl) e
 |ext φ=>obtain⟨p,⟨o,e⟩,st⟩:=x;exact⟨st _ _ p λo q=>k _ _ (.inl rfl) q,⟨o,k _ _ (.inl rfl) e⟩,st⟩
theorem HOk.lt (x:HOk P w H h)(e:H a=some o):a<h.objs.size:=(x a o e).lt
theorem HOk.fresh (x:HOk P w H h)(e:h.objs.size<=a):H a=none:=by
 cases q:H a with
 |none=>rfl
 |some u=>exact absurd (aw (x.lt q) e) (aS _)
theorem HOk.kept (x:HOk P w H h)(k:∀b u,h.get? b=some u->h'.get? b=some u):HOk P w H h':=λa o e =>
 (x a o e).stay (λb u _ q=>k b u q) (λ_ q=>q) λ_ _ q=>q
theorem HOk.laid (x:HOk P w H h)(k:∀b u,h.get? b=some u->h'.get? b=some u)(hp:h.objs.size<=a)(new:ObjOk P w (upd H a o) h' a o):HOk P w (upd H a o) h':=λb u e=>by
 have hn:=x.fresh hp;by_cases hb:b=a
 .subst hb;rw[wj]at e;cases e;exact new
 .rw[wf hb]at e;exact(x b u e).stay (λc v _ q=>k c v q) (λc q=>by rw[wf (wz q hn)];exact q) λc xs q=>by rw[wf (wz q hn)];exact q
end
def Rd (H:Hp)(a:Aj)(u:HO):Prop:=H a=some u\/∃o,H a=some (.frz o u)
theorem Rd.ok {P:Ac}{w:Ah}{H:Hp}{h:Heap}{a:Aj}{u:HO}(r:Rd H a u)(x:HOk P w H h):ObjOk P w H h a u:=by
 rcases r with r|⟨o,r⟩
 .exact x a u r
 .obtain⟨_,q⟩:=x a _ r;exact q
def Mut:Option HO->Prop
 |some (.lst _)=>True
 |some (.dK _)=>True
 |some (.dT _)=>True
 |some (.set _ _)=>True
 |some (.ins _ _ _)=>True
 |some (.ext _)=>True
 |_=>False
section
variable {P:Ac}{w:Ah}{H:Hp}{h h':Heap}{x e:Aj}{o':HO}
theorem HOk.write (ok:HOk P w H h)(mu:Mut (H x))(he:e=x\/H e=some (.own x))(k:∀b u,b≠e->h.get? b=some u->h'.get? b=some u)(heo:∃u,h'.get? e=some u)
  (new:ObjOk P w (upd H x o') h' x o'):HOk P w (upd H x o') h':=λb u q=>by
 have nown:∀c y,H c=some (.own y)->c≠x:=λc y r z=>by subst z;rw[r]at mu;exact mu
 have ntup:∀c xs,H c=some (.tup xs)->c≠x:=λc xs r z=>by subst z;rw[r]at mu;exact mu
 by_cases hb:b=x
 .subst hb;rw[wj]at q;cases q;exact new
 .rw[wf hb]at q;by_cases hbe:b=e
  .have q':H b=some (.own x):=by
    rcases he with z|z
    .exact absurd (hbe.trans z) hb
    .rw[hbe];exact z
   rw[q]at q';cases q';obtain⟨v,I⟩:=heo;exact⟨v,by rw[hbe];exact I⟩
  .refine(ok b u q).stay (λc v F r=>k c v ?_ r) (λc r=>by rw[wf (nown c b r)];exact r) λc xs r=>by rw[wf (ntup c xs r)];exact r
   rcases F with rfl|F
   .exact hbe
   .rintro rfl;rcases he with z|z
    .exact nown c b F z
    .rw[F]at z;cases z;exact hb rfl
end
structure Un (fs ex:List Aj)(H H':Hp)(h h':Heap):Prop where
 keep:∀b o,h.get? b=some o->H b=none->b∉fs->b∉ex->h'.get? b=some o
 slot:∀b o,h.get? b=some o->H b=none->b∈fs->b∉ex->∃sl,h'.get? b=some { o with slots:=sl }
 free:∀b o,h.get? b=some o->H b=none->b∉ex->H' b=none
 there:∀b o,h.get? b=some o->b∉ex->∃o',h'.get? b=some o'
 tups:∀b xs,H b=some (.tup xs)->H' b=some (.tup xs)
 frzs:∀b o u,H b=some (.frz o u)->H' b=some (.frz o u)
 tbls:∀b ps,H b=some (.tbl ps)->∃more,H' b=some (.tbl (ps++more))
section
variable {fs fs' ex ex':List Aj}{H H1 H2:Hp}{h h1 h2 h':Heap}{a x e:Aj}{o:HO}
theorem Un.any (u:Un fs ex H H1 h h1){b:Aj}{ob:Obj}(q:h.get? b=some ob)(n:H b=none)(hx:b∉ex):∃sl,h1.get? b=some { ob with slots:=sl }:=by
 by_cases hb:b∈fs
 .exact u.slot b ob q n hb hx
 .exact⟨ob.slots,u.keep b ob q n hb hx⟩
theorem Un.kept (k:∀b u,h.get? b=some u->h'.get? b=some u):Un fs ex H H h h' :=
 ⟨λb ob q _ _ _=>k b ob q,λb ob q _ _ _=>⟨ob.slots,k b ob q⟩,λ_ _ _ n _=>n,λb ob q _=>⟨ob,k b ob q⟩,λ_ _ q=>q,λ_ _ _ q=>q,λ_ ps q=>⟨#[],by rw[q];simp⟩⟩
theorem Un.refl:Un fs ex H H h h:=Un.kept λ_ _ q=>q
theorem Un.laid (k:∀b u,h.get? b=some u->h'.get? b=some u)(hp:h.objs.size<=a)(hn:H a=none):Un fs ex H (upd H a o) h h' where
 keep:=λb u q _ _ _=>k b u q
 slot:=λb u q _ _ _=>⟨u.slots,k b u q⟩
 free:=λb u q n _=>by rw[wf (ar (aw (ae q) hp))];exact n
 there:=λb u q _=>⟨u,k b u q⟩
 tups:=λb xs q=>by rw[wf (wz q hn)];exact q
 frzs:=λb u xs q=>by rw[wf (wz q hn)];exact q
 tbls:=λb ps q=>⟨#[],by rw[wf (wz q hn),q];simp⟩
theorem Un.write (mu:Mut (H x))(he:e=x\/H e=some (.own x))(k:∀b u,b≠e->h.get? b=some u->h'.get? b=some u)(heo:∃u,h'.get? e=some u):Un fs ex H (upd H x o) h h':=by
 have I:∀b,H b=none->b≠x:=λb n z=>by subst z;rw[n]at mu;exact mu
 have J:∀b,H b=none->b≠e:=λb n z=>by
  subst z;rcases he with r|r
  .exact I b n r
  .rw[n]at r;cases r
 have F:∀b u,H b=some u->¬ Mut (some u)->b≠x:=λb u q nm z=>by subst z;rw[q]at mu;exact nm mu
 refine⟨λb u q n _ _=>k b u (J b n) q,λb u q n _ _=>⟨u.slots,k b u (J b n) q⟩,λb u q n _=>by rw[wf (I b n)];exact n,λb u q _=>?_,
  λb xs q=>by rw[wf (F b _ q λz=>z)];exact q,λb u xs q=>by rw[wf (F b _ q λz=>z)];exact q,λb ps q=>⟨#[],by rw[wf (F b _ q λz=>z),q];simp⟩⟩
 by_cases hbe:b=e
 .subst hbe;exact heo
 .exact⟨u,k b u hbe q⟩
end
def trk (h:Heap)(H:Hp):List Aj:=(List.range h.objs.size).filter λa=>(H a).isSome
def qxw (h:Heap)(H:Hp):Heap:=W.hideAll h (trk h H)
theorem qup (h:Heap)(H:Hp):(qxw h H).objs.size=h.objs.size:=W.hideAll_size _ _
theorem ww3 {h:Heap}{H:Hp}{b:Aj}{o:Obj}(e:h.get? b=some o)(n:H b=none):(qxw h H).get? b=some o :=
 W.hideAll_get _ e λhm=>by have q:(H b).isSome=true:=(cL.mp hm).2;rw[n]at q;simp at q
theorem wz2 {h:Heap}{H:Hp}{b:Aj}{o:Obj}(e:(qxw h H).get? b=some o):h.get? b=some o/\H b=none:=by
 have F:h.get? b=some o:=dC (trk h H) e;refine⟨F,?_⟩;cases q:H b with
 |none=>rfl
 |some x =>
  have I:b∈trk h H:=cL.mpr ⟨bd.mpr (ae F),by simp[q]⟩;have z:(qxw h H).get? b=none:=W.hideAll_none (trk h H) I;rw[z]at e;cases e
def wkk (g h:Heap)(L:Aj):List (Aj×Obj):=(List.range h.objs.size).filterMap λa=>if a=L\/(g.get? a).isSome=true then none else(h.get? a).map λo=>(a,o)
def rest (g h:Heap)(L d:Aj):List (Aj×Obj):=(wkk g h L).filter λp=>decide (p.1≠d)
structure Mod (K:Aa)(mg:Str->Option Ag)(base:Heap):Prop where
 kin:K.In base
 glob:base.Ns mainGlobals mg
 blt:∃mb,base.Ns builtinsNs mb/\∀x:Str,x ≠ "__name__" -> mb x=bootBuiltins x
 nolimit:base.NoLimit
structure Cx where
 prog:Ac
 w:Ah
 K:Aa
 mg:Str->Option Ag
 base:Heap
 A:Ae
 N:List Str
 s₀:Ab
 H₀:Hp
 env:Env
 outer:List Env
 stack:List Env
 ex:List Aj
 fn:Str->Bool
 calm:Bool
 pn:List (Aj×Obj)
 xe:Ag->Ab->Prop
def frs (l:List Env):List Aj:=l.filterMap (·.frame)
abbrev Cx.fs (X:Cx):List Aj:=frs X.outer
def Vis (sc:Scope)(x:Str):Prop:=sc.names.lookup x=some .local\/sc.names.lookup x=some .cell\/sc.names.lookup x=some .free
def Loc (sc:Scope)(x:Str):Prop:=sc.names.lookup x=some .local\/sc.names.lookup x=some .cell
def Look (env:Env)(h:Heap)(m:Str->Option Ag)(x:Str)(u:Ag):Prop :=
 (env.kindOf x=some .local/\m x=some u)\/((env.kindOf x=some .cell\/env.kindOf x=some .free)/\∃c,env.cells.lookup x=some c/\h.IsCell c (some u))
structure Cx.Ok (X:Cx):Prop where
 mod:Mod X.K X.mg X.base
 kind:X.env.scope.kind=.function
 glob:X.env.globals=mainGlobals
 blt:X.env.builtins=builtinsNs
 above:X.s₀.heap.objs.size<=X.env.locals
 inj:∀x y c,X.env.cells.lookup x=some c->X.env.cells.lookup y=some c->x=y
 has:∀x,(X.env.kindOf x=some .cell\/X.env.kindOf x=some .free)->∃c,X.env.cells.lookup x=some c
 cab:∀x c,X.fn x=true->X.env.cells.lookup x=some c->X.s₀.heap.objs.size<=c
 hd:X.calm=true->X.A.handled=none
 frames:X.A.frames=some X.stack
 stk:X.stack=X.outer\/(X.stack=X.env::X.outer/\X.env.frame=some X.env.locals)
 exf:∀b∈X.ex,b≠X.env.locals/\∀x c,X.env.cells.lookup x=some c->c≠b
 bs:∀b o,X.base.get? b=some o->X.s₀.heap.get? b=some o/\X.H₀ b=none
 bsz:X.base.objs.size<=X.s₀.heap.objs.size
 noex:∀b o,X.base.get? b=some o->b∉X.ex
 exfs:∀b∈X.ex,b∉X.fs
 funs:X.s₀.heap.FunFrames X.base X.outer
 frf:∀b∈X.fs,X.H₀ b=none
structure Inv (X:Cx)(pins:List (Aj×Obj))(σ:List (Option V))(H:Hp)(s:Ab):Prop where
 ok:X.Ok
 os:s.os=X.s₀.os
 bare:AllBare s.gens
 base:Un X.fs X.ex X.H₀ H X.s₀.heap s.heap
 loc:∃m,s.heap.Ns X.env.locals m/\∀(i:Nat) (x:Str) (v:V),X.N[i]?=some x->σ[i]?=some (some v)->Vis X.env.scope x->∃u,RelV v u/\Look X.env s.heap m x u
 cell:∀x c,X.env.cells.lookup x=some c->∃v,s.heap.IsCell c v
 free:H X.env.locals=none
 freeC:∀x c,X.env.cells.lookup x=some c->H c=none
 pin:∀p∈X.pn++pins,s.heap.get? p.1=some p.2/\H p.1=none/\p.1≠X.env.locals/\p.1∉X.fs/\∀v,p.2.data≠.cell v
 hok:HOk X.prog X.w H s.heap
 len:σ.length=X.N.length
section
variable {X:Cx}{pins:List (Aj×Obj)}{σ:List (Option V)}{H H':Hp}{s:Ab}{h':Heap}
theorem Cx.Ok.nofr (ok:X.Ok){b:Aj}{o:Obj}(e:X.base.get? b=some o):b∉X.fs:=λhb=>by have:=(ok.funs.mem hb).1;rw[e]at this;cases this
theorem Inv.bs (I:Inv X pins σ H s):∀b o,X.base.get? b=some o->s.heap.get? b=some o/\H b=none:=λb o e =>
 ⟨I.base.keep b o (I.ok.bs b o e).1 (I.ok.bs b o e).2 (I.ok.nofr e) (I.ok.noex b o e),I.base.free b o (I.ok.bs b o e).1 (I.ok.bs b o e).2 (I.ok.noex b o e)⟩
theorem Inv.bk (I:Inv X pins σ H s):∀b o,X.base.get? b=some o->s.heap.get? b=some o:=λb o e=>(I.bs b o e).1
theorem Inv.mod (I:Inv X pins σ H s):Mod X.K X.mg X.base:=I.ok.mod
theorem Inv.kIn (I:Inv X pins σ H s):X.K.In s.heap:=I.ok.mod.kin.keeps I.bk
theorem Inv.lt (I:Inv X pins σ H s):X.env.locals<s.heap.objs.size:=let ⟨_,hn,_⟩:=I.loc;hn.lt
theorem Inv.sz (I:Inv X pins σ H s):X.s₀.heap.objs.size<=s.heap.objs.size:=aQ I.ok.above (aZ I.lt)
theorem Inv.nofs (I:Inv X pins σ H s){a:Aj}(h:s.heap.objs.size<=a):a∉X.fs:=λhb=>by obtain⟨_,o,ho,_⟩:=I.ok.funs.mem hb;exact absurd (aw (ae ho) (aQ I.sz h)) (aS _)
theorem Inv.cne (I:Inv X pins σ H s):∀x c,X.env.cells.lookup x=some c->c≠X.env.locals:=λx c e z=>by obtain⟨v,o,ho,hd⟩:=I.cell x c e;obtain⟨m,⟨o',es,ep,ho',hd',_⟩,_⟩:=I.loc;rw[z,ho']at ho;cases ho;rw[hd']at hd;cases hd
theorem Inv.funs (I:Inv X pins σ H s):s.heap.FunFrames X.base X.outer:=by
 have ad:∀(l:List Env),(∀b∈frs l,b∈X.fs)->X.s₀.heap.FunFrames X.base l->s.heap.FunFrames X.base l:=by
  intro l
  induction l with
  |nil=>intro _ _;trivial
  |cons env r ih =>
   intro hs hl;obtain⟨hk,⟨L,o,F,Z,U,hd⟩,S⟩:=hl;have O:L∈X.fs:=hs L (by unfold frs;rw[cE,F];exact bV);obtain⟨sl,e⟩:=I.base.slot L o U (I.ok.frf L O) O λz=>I.ok.exfs L z O;exact⟨hk,⟨L,_,F,Z,e,hd⟩,ih (λb J=>hs b (by unfold frs;rw[cE,F];exact bc _ J)) S⟩
 exact ad X.outer (λ_ J=>J) I.ok.funs
theorem Inv.stack (I:Inv X pins σ H s):s.heap.FunFrames X.base X.stack:=by
 rcases I.ok.stk with e|⟨e,hf⟩
 .rw[e];exact I.funs
 .rw[e];obtain⟨m,F,_⟩:=I.loc;refine .cons (by rw[I.ok.kind];decide) hf F ?_ I.funs;exact Heap.get?_none_of_le (aQ I.ok.bsz I.ok.above)
theorem Inv.stkSub (I:Inv X pins σ H s):∀b∈frs X.stack,b∈X.env.locals::X.fs:=λb hb=>by
 rcases I.ok.stk with e|⟨e,hf⟩
 .rw[e]at hb;exact bc _ hb
 .rw[e]at hb;unfold frs at hb;rw[cE,hf]at hb;exact hb
theorem Inv.stkFree (I:Inv X pins σ H s):∀b∈frs X.stack,H b=none:=λb hb=>by
 rcases av.mp (I.stkSub b hb) with e|hb
 .rw[e];exact I.free
 .obtain⟨_,o,ho,_⟩:=I.ok.funs.mem hb;exact I.base.free b o ho (I.ok.frf b hb) λz=>I.ok.exfs b z hb
theorem Inv.step {g':Array GenState}{t':Nat}{d':Drawn}{ch:List Aj}(I:Inv X pins σ H s)
  (hch:∀b∈ch,(b∈X.ex\/X.s₀.heap.objs.size<=b)/\b≠X.env.locals/\(∀x c,X.env.cells.lookup x=some c->c≠b)/\∀p∈X.pn++pins,p.1≠b)
  (keep:∀b o,b≠X.env.locals->b∉X.fs->b∉ch->s.heap.get? b=some o->H b=none->h'.get? b=some o)
  (slot:∀b o,b≠X.env.locals->b∈X.fs->b∉ch->s.heap.get? b=some o->H b=none->∃sl,h'.get? b=some { o with slots:=sl }) (free:∀b o,b∉ch->s.heap.get? b=some o->H b=none->H' b=none)
  (there:∀b o,b∉ch->s.heap.get? b=some o->∃o',h'.get? b=some o')
  (tups:∀b xs,H b=some (.tup xs)->H' b=some (.tup xs)) (frzs:∀b o u,H b=some (.frz o u)->H' b=some (.frz o u)) (tbls:∀b ps,H b=some (.tbl ps)->∃more,H' b=some (.tbl (ps++more)))
  (ns:∀m,s.heap.Ns X.env.locals m->h'.Ns X.env.locals m) (hok:HOk X.prog X.w H' h') (hg:AllBare g') :
  Inv X pins σ H' { s with heap:=h',gens:=g',drawn:=d',toks:=t' }:=by
 have ad:∀b o,X.s₀.heap.get? b=some o->b≠X.env.locals:=λb o e=>ar (aw (ae e) I.ok.above);have Z:∀b o,X.s₀.heap.get? b=some o->b∉X.ex->b∉ch:=λb o e F L=>by
  rcases(hch b L).1 with z|z
  .exact F z
  .exact absurd (aw (ae e) z) (aS _)
 have an:∀x c,X.env.cells.lookup x=some c->∀v,s.heap.IsCell c v->h'.IsCell c v:=λx c e v ⟨o,O,hd⟩=>by
  have S:c∉ch:=λz=>(hch c z).2.2.1 x c e rfl;by_cases hc:c∈X.fs
  .obtain⟨sl,q⟩:=slot c o (I.cne x c e) hc S O (I.freeC x c e);exact⟨_,q,hd⟩
  .exact⟨o,keep c o (I.cne x c e) hc S O (I.freeC x c e),hd⟩
 refine⟨I.ok,I.os,hg,⟨λb o e n L F=>?_,λb o e n L F=>?_,λb o e n F=>?_,λb o e F=>?_,λb xs e=>tups b xs (I.base.tups b xs e),λb o xs e=>frzs b o xs (I.base.frzs b o xs e),λb ps e=>?_⟩,?_,λx c e=>?_,?_,λx c e=>?_,λp hp=>?_,hok,I.len⟩
 .exact keep b o (ad b o e) L (Z b o e F) (I.base.keep b o e n L F) (I.base.free b o e n F)
 .obtain⟨sl,J⟩:=I.base.slot b o e n L F;obtain⟨ap,U⟩:=slot b _ (ad b o e) L (Z b o e F) J (I.base.free b o e n F);exact⟨ap,U⟩
 .obtain⟨o',J⟩:=I.base.there b o e F;exact free b o' (Z b o e F) J (I.base.free b o e n F)
 .obtain⟨o',J⟩:=I.base.there b o e F;exact there b o' (Z b o e F) J
 .obtain⟨m1,J⟩:=I.base.tbls b ps e;obtain⟨m2,U⟩:=tbls b _ J;exact⟨m1++m2,by rw[U,Array.append_assoc]⟩
 .obtain⟨m,hn,hl⟩:=I.loc;refine⟨m,ns m hn,λi x v J U e3=>?_⟩;obtain⟨u,r,l⟩:=hl i x v J U e3;refine⟨u,r,?_⟩;rcases l with l|⟨k,c,e,z⟩
  .exact .inl l
  .exact .inr ⟨k,c,e,an x c e _ z⟩
 .obtain⟨v,z⟩:=I.cell x c e;exact⟨v,an x c e v z⟩
 .obtain⟨m,⟨o,_,_,O,_⟩,_⟩:=I.loc;exact free _ o (λz=>(hch _ z).2.1 rfl) O I.free
 .obtain⟨v,o,O,hd⟩:=I.cell x c e;exact free c o (λz=>(hch c z).2.2.1 x c e rfl) O (I.freeC x c e)
 .obtain⟨e,n,ne,nf,d⟩:=I.pin p hp;have S:p.1∉ch:=λz=>(hch p.1 z).2.2.2 p hp rfl;exact⟨keep p.1 p.2 ne nf S e n,free p.1 p.2 S e n,ne,nf,d⟩
theorem Inv.un {t':Nat}(I:Inv X pins σ H s)(u:Un X.fs [] H H' s.heap h')(hok:HOk X.prog X.w H' h'):Inv X pins σ H' { s with heap:=h',toks:=t' }:=by
 obtain⟨m,⟨o,es,ep,L,r⟩,_⟩:=id I.loc;obtain⟨sl,U⟩:=u.any L I.free (by simp);exact I.step (g':=s.gens) (d':=s.drawn) (ch:=[]) (λ_ z=>nomatch z) (λb o _ F _ e n=>u.keep b o e n F (by simp)) (λb o _ F _ e n=>u.slot b o e n F (by simp)) (λb o _ e n=>u.free b o e n (by simp)) (λb o _ e=>u.there b o e (by simp)) u.tups u.frzs u.tbls (λm' S=>by
  obtain⟨o',Z,ad,J,O⟩:=S
  rw[L]at J;cases J
  exact⟨_,Z,ad,U,O⟩) hok I.bare
theorem Inv.call {g':Array GenState}{t':Nat}{d':Drawn}{ch:List Aj}(I:Inv X pins σ H s)(u:Un (frs X.stack) ch H H' s.heap h')(hok:HOk X.prog X.w H' h')(hg:AllBare g')
  (hch:∀b∈ch,(b∈X.ex\/X.s₀.heap.objs.size<=b)/\b≠X.env.locals/\(∀x c,X.env.cells.lookup x=some c->c≠b)/\∀p∈X.pn++pins,p.1≠b) :
  Inv X pins σ H' { s with heap:=h',gens:=g',drawn:=d',toks:=t' }:=by
 obtain⟨m,⟨o,es,ep,O,r⟩,_⟩:=id I.loc;obtain⟨sl,J⟩:=u.any O I.free λz=>(hch _ z).2.1 rfl;exact I.step (ch:=ch) hch (λb o J Z F e n=>u.keep b o e n (λz=>(av.mp (I.stkSub b z)).elim J Z) F) (λb o _ _ F e n=>u.any e n F) (λb o F e n=>u.free b o e n F) (λb o F e=>u.there b o e F) u.tups u.frzs u.tbls (λm' U=>by
  obtain⟨o',ad,an,L,S⟩:=U
  rw[O]at L;cases L
  exact⟨_,ad,an,J,S⟩) hok hg
theorem Inv.turned {t':Nat}{it:Aj}(I:Inv X pins σ H s)(k:∀b o,b≠it->s.heap.get? b=some o->h'.get? b=some o)(hn:H it=none)(hL:it≠X.env.locals)
  (h1:it∈X.ex\/X.s₀.heap.objs.size<=it) (h2:∀x c,X.env.cells.lookup x=some c->c≠it) (h3:∀p∈X.pn++pins,p.1≠it):Inv X pins σ H { s with heap:=h',toks:=t' }:=by
 have J:∀b u,H b=some u->b≠it:=λb u e z=>by rw[z,hn]at e;cases e
 refine I.step (g':=s.gens) (d':=s.drawn) (ch:=[it]) (λb S=>?_) (λb o _ _ F e _=>k b o (λz=>F (by simp[z])) e) (λb o _ _ F e _=>⟨o.slots,k b o (λz=>F (by simp[z])) e⟩) (λ_ _ _ _ n=>n)
  (λb o F e=>⟨o,k b o (λz=>F (by simp[z])) e⟩) (λ_ _ e=>e) (λ_ _ _ e=>e) (λb ps e=>⟨#[],by rw[e];simp⟩) (λm O=>?_) (λb u e=>?_) I.bare
 .have e:b=it:=by simpa using S
  subst e;exact⟨h1,hL,h2,h3⟩
 .obtain⟨o,es,U,L,r⟩:=O;exact⟨o,es,U,k _ o (ba hL) L,r⟩
 .refine(I.hok b u e).stay (λc v F q=>k c v ?_ q) (λ_ q=>q) λ_ _ q=>q;rcases F with z|z
  .rw[z];exact J b u e
  .exact J c _ z
theorem Inv.tok (I:Inv X pins σ H s)(t:Nat):Inv X pins σ H { s with toks:=t }:=I.un (h':=s.heap) (t':=t) Un.refl I.hok
theorem Inv.kept {t':Nat}(I:Inv X pins σ H s)(k:∀b u,s.heap.get? b=some u->h'.get? b=some u):Inv X pins σ H { s with heap:=h',toks:=t' }:=I.un (Un.kept k) (I.hok.kept k)
theorem Inv.laid {a:Aj}{o:HO}{t':Nat}(I:Inv X pins σ H s)(k:∀b u,s.heap.get? b=some u->h'.get? b=some u)(hp:s.heap.objs.size<=a)(new:ObjOk X.prog X.w (upd H a o) h' a o) :
  Inv X pins σ (upd H a o) { s with heap:=h',toks:=t' }:=I.un (Un.laid k hp (I.hok.fresh hp)) (I.hok.laid k hp new)
theorem Inv.write {x e:Aj}{o:HO}{t':Nat}(I:Inv X pins σ H s)(mu:Mut (H x))(he:e=x\/H e=some (.own x))(k:∀b u,b≠e->s.heap.get? b=some u->h'.get? b=some u)(heo:∃u,h'.get? e=some u)
  (new:ObjOk X.prog X.w (upd H x o) h' x o):Inv X pins σ (upd H x o) { s with heap:=h',toks:=t' }:=I.un (Un.write mu he k heo) (I.hok.write mu he k heo new)
theorem Inv.weak {σ':List (Option V)}(I:Inv X pins σ H s)(hl:σ'.length=σ.length)(w:∀(i:Nat) v,σ'[i]?=some (some v)->σ[i]?=some (some v)):Inv X pins σ' H s :=
 ⟨I.ok,I.os,I.bare,I.base,let ⟨m,hn,hl'⟩:=I.loc;⟨m,hn,λi x v e1 e2 e3=>hl' i x v e1 (w i v e2) e3⟩,I.cell,I.free,I.freeC,I.pin,I.hok,hl.trans I.len⟩
theorem Inv.pins_of {pins':List (Aj×Obj)}(I:Inv X pins σ H s)(h:∀p∈pins',s.heap.get? p.1=some p.2/\H p.1=none/\p.1≠X.env.locals/\p.1∉X.fs/\∀v,p.2.data≠.cell v):Inv X pins' σ H s :=
 ⟨I.ok,I.os,I.bare,I.base,I.loc,I.cell,I.free,I.freeC,λp hp=>(bA.mp hp).elim (λz=>I.pin p (bq _ z)) (h p),I.hok,I.len⟩
theorem Yx {N:List Str}(hN:N.Nodup){i j:Nat}{x:Str}(a:N[i]?=some x)(b:N[j]?=some x):i=j:=by obtain⟨h1,e1⟩:=aT.mp a;obtain⟨h2,e2⟩:=aT.mp b;exact(List.getElem_inj hN).mp (e1.trans e2.symm)
theorem _root_.aU0 (h:True:=by walk_at "iv"):True:=h
theorem quk {M:Model}{A:Ae}{E:Ag->Ab->Prop}{i:Nat}{x:Str}{v:V}{u:Ag}{Q:Unit->Ab->Prop}(I:Inv X pins σ H s)(hN:X.N.Nodup)(hi:X.N[i]?=some x)(hx:Loc X.env.scope x)(r:RelV v u)
  (h:∀s',Inv X pins (σ.set i (some v)) H s'->(∃a,Heap.SameBut a s.heap s'.heap/\(a=X.env.locals\/X.env.cells.lookup x=some a))->Q () s') (hf:autoParam (X.fn x=true\/X.env.scope.names.lookup x=some .local) aU0._auto_1):wpAny M A (storeName X.env x u) Q E s:=by
 obtain⟨m,hn,hl⟩:=id I.loc;have a7:(X.env.scope.kind==.class||(X.env.scope.kind==.module&&X.env.locals != X.env.globals))=false:=by rw[I.ok.kind];rfl
 have a1:i<σ.length:=by rw[I.len];exact(aT.mp hi).1
 have an:=I.cne;have ap:∀ {a:Aj} {h':Heap},(∃o,s.heap.get? a=some o/\H a=none)->Heap.SameBut a s.heap h'->HOk X.prog X.w H h':=λ{a h'} ha hs b ob e=>by
  obtain⟨_,_,a2⟩:=ha;refine(I.hok b ob e).stay (λc S J q=>(hs.2 c ?_).trans q) (λ_ q=>q) λ_ _ q=>q;rintro rfl;rcases J with rfl|J
  .rw[a2]at e;cases e
  .rw[a2]at J;cases J
 rcases hx with hk|hk
 .refine wpAny_storeName_local hk hn (λh' a6 hs=>?_) a7;obtain⟨oL,_,_,a5,_⟩:=id hn;refine h _ ⟨I.ok,I.os,I.bare,⟨λb o e n O hx=>?_,λb o e n O hx=>?_,I.base.free,λb o e hx=>?_,I.base.tups,I.base.frzs,I.base.tbls⟩,⟨_,a6,λj y v' F L e3=>?_⟩,λy c e=>?_,I.free,I.freeC,λp hp=>?_,ap ⟨oL,a5,I.free⟩ hs,by simpa using I.len⟩ ⟨_,hs,.inl rfl⟩
  .exact(hs.2 b (ar (aw (ae e) I.ok.above))).trans (I.base.keep b o e n O hx)
  .obtain⟨sl,F⟩:=I.base.slot b o e n O hx;exact⟨sl,(hs.2 b (ar (aw (ae e) I.ok.above))).trans F⟩
  .obtain⟨o',F⟩:=I.base.there b o e hx;exact⟨o',(hs.2 b (ar (aw (ae e) I.ok.above))).trans F⟩
  .by_cases hj:j=i
   .subst hj;rw[hi]at F;cases F;rw[bW a1]at L;cases L;exact⟨u,r,.inl ⟨hk,by simp⟩⟩
   .rw[cx (ba hj)]at L;obtain⟨u',r',q⟩:=hl j y v' F L e3;refine⟨u',r',?_⟩;rcases q with⟨k,e⟩|⟨k,c,e,z⟩
    .refine .inl ⟨k,?_⟩;have:y≠x:=λe=>hj (Yx hN F (e▸hi));simp[this,e]
    .exact .inr ⟨k,c,e,z.sameBut hs (an y c e)⟩
  .obtain⟨S,z⟩:=I.cell y c e;exact⟨S,z.sameBut hs (an y c e)⟩
  .obtain⟨e,n,U,nf,d⟩:=I.pin p hp;exact⟨(hs.2 p.1 U).trans e,n,U,nf,d⟩
 .have ad:X.fn x=true:=by
   rcases hf with z|z
   .exact z
   .rw[z]at hk;cases hk
  obtain⟨c,J⟩:=I.ok.has x (.inl hk);obtain⟨S,z⟩:=I.cell x c J;refine wpAny_storeName_cell I.ok.kind hk J z (λh' a3 hs=>?_);obtain⟨oc,a0,a4⟩:=id z;refine h { s with heap:=h' } ⟨I.ok,I.os,I.bare,⟨λb o e n O hx=>?_,λb o e n O hx=>?_,I.base.free,λb o e hx=>?_,I.base.tups,I.base.frzs,I.base.tbls⟩,⟨m,hn.sameBut hs (ba (an x c J)),λj y v' F L e3=>?_⟩,λy Z e=>?_,I.free,I.freeC,λp hp=>?_,ap ⟨oc,a0,I.freeC x c J⟩ hs,by simpa using I.len⟩ ⟨c,hs,.inr J⟩
  .exact(hs.2 b (ar (aw (ae e) (I.ok.cab x c ad J)))).trans (I.base.keep b o e n O hx)
  .obtain⟨sl,F⟩:=I.base.slot b o e n O hx;exact⟨sl,(hs.2 b (ar (aw (ae e) (I.ok.cab x c ad J)))).trans F⟩
  .obtain⟨o',F⟩:=I.base.there b o e hx;exact⟨o',(hs.2 b (ar (aw (ae e) (I.ok.cab x c ad J)))).trans F⟩
  .by_cases hj:j=i
   .subst hj;rw[hi]at F;cases F;rw[bW a1]at L;cases L;exact⟨u,r,.inr ⟨.inl hk,c,J,a3⟩⟩
   .rw[cx (ba hj)]at L;obtain⟨u',r',q⟩:=hl j y v' F L e3;refine⟨u',r',?_⟩;rcases q with q|⟨k,Z,e,z'⟩
    .exact .inl q
    .refine .inr ⟨k,Z,e,z'.sameBut hs ?_⟩;rintro rfl;exact hj (Yx hN F (I.ok.inj _ _ _ e J▸hi))
  .by_cases hcc:Z=c
   .subst hcc;exact⟨_,a3⟩
   .obtain⟨w2,z2⟩:=I.cell y Z e;exact⟨w2,z2.sameBut hs hcc⟩
  .obtain⟨e,n,U,nf,d⟩:=I.pin p hp;refine⟨(hs.2 p.1 ?_).trans e,n,U,nf,d⟩;intro q;rw[q,a0]at e;have q':oc=p.2:=al e;exact d S (by rw[<-q'];exact a4)
theorem k6 {M:Model}{A:Ae}{E:Ag->Ab->Prop}{i:Nat}{x:Str}{v:V}{u:Ag}{Q:Unit->Ab->Prop}(I:Inv X pins σ H s)(hN:X.N.Nodup)(hi:X.N[i]?=some x)(hx:Loc X.env.scope x)(r:RelV v u)
  (h:∀s',Inv X pins (σ.set i (some v)) H s'->Q () s') (hf:autoParam (X.fn x=true\/X.env.scope.names.lookup x=some .local) aU0._auto_1):wpAny M A (storeName X.env x u) Q E s :=
 quk I hN hi hx r (λs' I' _=>h s' I') hf
theorem Inv.call' {s':Ab}{ch:List Aj}(I:Inv X pins σ H s)(ho:s'.os=s.os)(u:Un (frs X.stack) ch H H' s.heap s'.heap)(hok:HOk X.prog X.w H' s'.heap)(hg:AllBare s'.gens)
  (hch:∀b∈ch,(b∈X.ex\/X.s₀.heap.objs.size<=b)/\b≠X.env.locals/\(∀x c,X.env.cells.lookup x=some c->c≠b)/\∀p∈X.pn++pins,p.1≠b):Inv X pins σ H' s':=by
 obtain⟨h',g',d',t',o'⟩:=s';have e:o'=s.os:=ho;subst e;exact I.call (g':=g') (t':=t') (d':=d') u hok hg hch
end
abbrev XK:=Ag->Option Aj->Hp->Prop
abbrev St:=List (Option V)
abbrev VK:=V->Hp->Prop
abbrev TE:=St->Hp->VK->Prop
abbrev TT:=St->Hp->(Bool->Hp->Prop)->Prop
abbrev TA:=St->Hp->(List V->Hp->Prop)->Prop
structure Ends where
 nx:St->Hp->Prop
 rt:VK
 bk:St->Hp->Prop:=λ_ _=>False
 ct:St->Hp->Prop:=λ_ _=>False
abbrev TS:=Ends->St->Hp->Prop
def EP (X:Cx)(pins:List (Aj×Obj))(σ:St)(Q:VK)(u:Ag)(s':Ab):Prop:=∃v H',Inv X pins σ H' s'/\RelV v u/\Q v H'
def TP (X:Cx)(pins:List (Aj×Obj))(σ:St)(Q:Bool->Hp->Prop)(b:Bool)(s':Ab):Prop:=∃H',Inv X pins σ H' s'/\Q b H'
def AP (X:Cx)(pins:List (Aj×Obj))(σ:St)(Q:List V->Hp->Prop)(us:List Ag)(s':Ab):Prop:=∃vs H',Inv X pins σ H' s'/\Vals vs us/\Q vs H'
def SP (X:Cx)(pins:List (Aj×Obj))(D:Ends)(f:Flow)(s':Ab):Prop :=
 match f with
 |.next=>∃σ' H',Inv X pins σ' H' s'/\D.nx σ' H'
 |.brk=>∃σ' H',Inv X pins σ' H' s'/\D.bk σ' H'
 |.cont=>∃σ' H',Inv X pins σ' H' s'/\D.ct σ' H'
 |.ret u=>∃v σ' H',Inv X pins σ' H' s'/\RelV v u/\D.rt v H'
def PE (X:Cx)(e:Expr)(t:TE):Prop :=
 ∀(pins:List (Aj×Obj)) (s:Ab) (σ:St) (H:Hp) (Q:VK),Inv X pins σ H s->t σ H Q->wpAny (model X.prog X.w) X.A (eval e X.env) (EP X pins σ Q) X.xe s
def PT (X:Cx)(e:Expr)(t:TT):Prop :=
 ∀(pins:List (Aj×Obj)) (s:Ab) (σ:St) (H:Hp) (Q:Bool->Hp->Prop),Inv X pins σ H s->t σ H Q->wpAny (model X.prog X.w) X.A (isTrue e X.env (eval e X.env)) (TP X pins σ Q) X.xe s
def PW (X:Cx)(e:Expr)(t:TT):Prop :=
 ∀(whole:Sem Ag) (pins:List (Aj×Obj)) (s:Ab) (σ:St) (H:Hp) (Q:Bool->Hp->Prop),Inv X pins σ H s->t σ H Q->wpAny (model X.prog X.w) X.A (isTrue e X.env whole) (TP X pins σ Q) X.xe s
theorem PW.pt {X:Cx}{e:Expr}{t:TT}(h:PW X e t):PT X e t:=h _
def PA (X:Cx)(es:List Expr)(t:TA):Prop :=
 ∀(pos:Pos) (pins:List (Aj×Obj)) (s:Ab) (σ:St) (H:Hp) (Q:List V->Hp->Prop),Inv X pins σ H s->t σ H Q->wpAny (model X.prog X.w) X.A (spliced (backTo pos (starEach es X.env))) (AP X pins σ Q) X.xe s
def PS (X:Cx)(st:Stmt)(t:TS):Prop :=
 ∀(pins:List (Aj×Obj)) (s:Ab) (σ:St) (H:Hp) (D:Ends),Inv X pins σ H s->t D σ H->wpAny (model X.prog X.w) X.A (exec st X.env) (SP X pins D) X.xe s
def PSs (X:Cx)(st:List Stmt)(t:TS):Prop :=
 ∀(pins:List (Aj×Obj)) (s:Ab) (σ:St) (H:Hp) (D:Ends),Inv X pins σ H s->t D σ H->wpAny (model X.prog X.w) X.A (execs st X.env) (SP X pins D) X.xe s
theorem thn {α:Type}{t:Sem α}{Q Q':α->Ab->Prop}{M:Model}{A:Ae}{E:Ag->Ab->Prop}{s:Ab}(h:wpAny M A t Q E s)(hQ:∀a s,Q a s->Q' a s):wpAny M A t Q' E s:=aG h hQ λ_ _ x=>x
section
variable {X:Cx}
def Wx (i:Nat):TE:=λσ H Q=>∃v,σ[i]?=some (some v)/\Q v H
def tC (v:V):TE:=λ_ H Q=>Q v H
theorem _root_.aU1 (h:True:=by decide):True:=h
theorem pe_var {i:Nat}{x:Str}{pos:Pos}(hN:X.N[i]?=some x)(hv:Vis X.env.scope x)(hd:autoParam ((x==("__debug__" : Str))=false) aU1._auto_1)(hcd:autoParam ((x==("__classdict__" : Str))=false) aU1._auto_1):PE X (.Name x pos) (Wx i):=by
 intro pins s σ H Q I h;obtain⟨v,e,h⟩:=h;obtain⟨m,S,Z⟩:=I.loc;obtain⟨u,r,l⟩:=Z i x v hN e hv;have J:EP X pins σ Q u s:=⟨v,H,I,r,h⟩;rcases l with⟨F,U⟩|⟨F,c,O,L⟩
 .exact wpAny_Name (wpAny_loadName_local I.ok.kind F S U J) hd
 .rcases F with F|F
  .exact wpAny_Name (wpAny_loadName_cell I.ok.kind F O L J) hd
  .exact wpAny_Name (wpAny_loadName_free I.ok.kind F O L J hcd) hd
theorem wc {i j pos}:PE X (.Constant (.int i) j pos) (tC (.int i)):=λ_ _ _ H _ I h=>wpAny_Constant_int ⟨.int i,H,I.tok _,⟨_,rfl⟩,h⟩
theorem qzp {b j pos}:PE X (.Constant (.bool b) j pos) (tC (.bl b)):=λ_ _ _ H _ I h=>Constant_bool ⟨.bl b,H,I,rfl,h⟩
theorem www {j pos}:PE X (.Constant .none j pos) (tC .non):=λ_ _ _ H _ I h=>Constant_none ⟨.non,H,I,rfl,h⟩
theorem xf {x j pos}:PE X (.Constant (.str x) j pos) (tC (.str x)):=λ_ _ _ H _ I h=>Calls.Constant_str ⟨.str x,H,I.tok _,⟨_,rfl⟩,h⟩
def Gl (X:Cx)(x:Str):Prop:=X.env.kindOf x=some .globalImplicit
theorem jb {E:Ag->Ab->Prop}{pins:List (Aj×Obj)}{s:Ab}{σ:St}{H:Hp}{x:Str}{u:Ag}{pos:Pos}{Q:Ag->Ab->Prop}(I:Inv X pins σ H s)(hg:Gl X x)(hm:X.mg x=some u)(h:Q u s)
  (hd:autoParam ((x==("__debug__" : Str))=false) aU1._auto_1):wpAny (model X.prog X.w) X.A (eval (.Name x pos) X.env) Q E s :=
 Calls.Name_function_global I.ok.kind hg (Calls.loadGlobal_global (by rw[I.ok.glob];exact I.mod.glob.keeps I.bk) hm h) hd
theorem _root_.aU2 (h:True:= by decide):True:=h
theorem u3 {E:Ag->Ab->Prop}{pins:List (Aj×Obj)}{s:Ab}{σ:St}{H:Hp}{x:Str}{u:Ag}{pos:Pos}{Q:Ag->Ab->Prop}(I:Inv X pins σ H s)(hg:Gl X x)(hm:X.mg x=none)(hv:bootBuiltins x=some u)(h:Q u s)
  (hn:autoParam (x ≠ "__name__") aU2._auto_1) (hd:autoParam ((x==("__debug__" : Str))=false) aU1._auto_1):wpAny (model X.prog X.w) X.A (eval (.Name x pos) X.env) Q E s:=by
 obtain⟨F,h1,h2⟩:=I.mod.blt;exact Calls.Name_function_global I.ok.kind hg (Calls.loadGlobal_builtin (by rw[I.ok.glob];exact I.mod.glob.keeps I.bk) hm (by rw[I.ok.blt];exact h1.keeps I.bk) ((h2 x hn).trans hv) h) hd
theorem zq {x:Str}{v:V}{u:Ag}{pos:Pos}(hg:Gl X x)(hm:X.mg x=some u)(r:RelV v u)(hd:autoParam ((x==("__debug__" : Str))=false) aU1._auto_1):PE X (.Name x pos) (tC v) :=
 λ_ _ _ H _ I h=>jb I hg hm ⟨v,H,I,r,h⟩ hd
theorem wz3 {x:Str}{v:V}{u:Ag}{pos:Pos}(hg:Gl X x)(hm:X.mg x=none)(hv:bootBuiltins x=some u)(r:RelV v u)(hn:autoParam (x ≠ "__name__") aU2._auto_1)(hd:autoParam ((x==("__debug__" : Str))=false) aU1._auto_1):PE X (.Name x pos) (tC v) :=
 λ_ _ _ H _ I h=>u3 I hg hm hv ⟨v,H,I,r,h⟩ hn hd
variable {a b:Expr}{ta tb:TE}{pos:Pos}
def PC (X:Cx)(op:CmpOp)(a b:Expr)(t:TE):Prop :=
 ∀(pins:List (Aj×Obj)) (s:Ab) (σ:St) (H:Hp) (Q:VK),Inv X pins σ H s->t σ H Q ->
  wpAny (model X.prog X.w) X.A (eval a X.env) (λv s₁=>wpAny (model X.prog X.w) X.A (eval b X.env) (λu s₂=>wpAny (model X.prog X.w) X.A (compareOp op v u) (EP X pins σ Q) X.xe s₂) X.xe s₁) X.xe s
def tB (t:TE):TT:=λσ H Q=>t σ H λx H1=>∃c,x=.bl c/\Q c H1
theorem qj1 {op:CmpOp}{t:TE}(h:PC X op a b t)(h1:behindInMarks op b=false:=by first | exact nobehind _ ⋯ ⋯ | rfl):PT X (.Compare a [op] [b] pos) (tB t):=by intro pins s σ H Q I F;refine wpAny_isTrue_Compare1 (thn (h pins s σ H _ I F) λv J h1=>thn h1 λu s2 h2=>thn h2 λc s3 ⟨x,H1,I1,r1,q1⟩=>?_) h1;obtain⟨d,rfl,q⟩:=q1;cases r1;exact cu ⟨H1,I1,q⟩
theorem _root_.aU3 (h:True:=by intro _;rfl):True:=h
theorem qjb {e:Expr}{t:TE}(h:PE X e t)(he:autoParam (∀whole,isTrue e X.env whole=(do let v <-whole;standAt e.pos;holding [v] (truthy v))) aU3._auto_1):PT X e (tB t):=by intro pins s σ H Q I F;refine isTrue_plain (thn (h pins s σ H _ I F) λv s1 ⟨x,H1,I1,r1,q1⟩=>?_) (he _);obtain⟨d,rfl,q⟩:=q1;cases r1;exact cu ⟨H1,I1,q⟩
variable {tA tB':TT}{rest:List Expr}
def tAnd (t u:TT):TT:=λσ H Q=>t σ H λc H1=>if c=true then u σ H1 Q else Q false H1
def tOr (t u:TT):TT:=λσ H Q=>t σ H λc H1=>if c=true then Q true H1 else u σ H1 Q
def tNot (t:TT):TT:=λσ H Q=>t σ H λc H1=>Q (!c) H1
theorem qxq (ha:PT X a tA):PW X (.BoolOp .And [a] pos) tA:=by
 intro F pins s σ H Q I h;refine isTrue_and (thn (ha pins s σ H Q I h) λc J e=>?_);cases c with
 |true=>exact isTrue_and_nil e
 |false=>exact e
theorem u8 (ha:PT X a tA):PW X (.BoolOp .Or [a] pos) tA:=by
 intro F pins s σ H Q I h;refine isTrue_or (thn (ha pins s σ H Q I h) λc J e=>?_);cases c with
 |false=>exact isTrue_or_nil e
 |true=>exact e
theorem qjy (ha:PT X a tA)(hb:PW X (.BoolOp .And (b::rest) pos) tB'):PW X (.BoolOp .And (a::b::rest) pos) (tAnd tA tB'):=by
 intro F pins s σ H Q I h;refine isTrue_and (thn (ha pins s σ H _ I h) λc s1 ⟨H1,I1,q1⟩=>?_);cases c with
 |true=>exact hb F pins s1 σ H1 Q I1 q1
 |false=>exact⟨H1,I1,q1⟩
theorem Wr (ha:PT X a tA)(hb:PW X (.BoolOp .Or (b::rest) pos) tB'):PW X (.BoolOp .Or (a::b::rest) pos) (tOr tA tB'):=by
 intro F pins s σ H Q I h;refine isTrue_or (thn (ha pins s σ H _ I h) λc s1 ⟨H1,I1,q1⟩=>?_);cases c with
 |true=>exact⟨H1,I1,q1⟩
 |false=>exact hb F pins s1 σ H1 Q I1 q1
theorem qjz (ha:PT X a tA):PT X (.UnaryOp .Not a pos) (tNot tA):=by intro pins s σ H Q I h;exact isTrue_not (ha pins s σ H (λc H1=>Q (!c) H1) I h)
def tAndV (ta tb:TE):TE:=λσ H Q=>ta σ H λx H1=>∃c,x=.bl c/\if c=true then tb σ H1 Q else Q (.bl false) H1
theorem pe_one {op}{t:TE}(h:PE X a t):PE X (.BoolOp op [a] pos) t:=λpins s σ H Q I hw=>BoolOp_one (h pins s σ H Q I hw)
theorem pe_and (ha:PE X a ta)(hb:PE X (.BoolOp .And (b::rest) pos) tb):PE X (.BoolOp .And (a::b::rest) pos) (tAndV ta tb):=by
 intro pins s σ H Q I h;refine BoolOp_and (thn (ha pins s σ H _ I h) λv s1 ⟨x,H1,I1,r1,F⟩=>?_);obtain⟨c,rfl,F⟩:=F;cases r1;refine cu ?_;cases c with
 |true=>exact hb pins s1 σ H1 Q I1 F
 |false=>exact⟨.bl false,H1,I1,rfl,F⟩
def tIf (t:TT)(ta tb:TE):TE:=λσ H Q=>t σ H λc H1=>if c=true then ta σ H1 Q else tb σ H1 Q
theorem qv6 {c:Expr}(hc:PT X c tA)(ha:PE X a ta)(hb:PE X b tb):PE X (.IfExp c a b pos) (tIf tA ta tb):=by
 intro pins s σ H Q I h;refine wpAny_IfExp (thn (hc pins s σ H _ I h) λd s1 ⟨H1,I1,q1⟩=>?_);cases d with
 |true=>exact ha pins s1 σ H1 Q I1 q1
 |false=>exact hb pins s1 σ H1 Q I1 q1
end
def SqL (K:Aa)(H:Hp)(a:Aj)(xs:List V):Prop :=
 Rd H a (.lst xs) \/
  ∃(o:Obj) (its:Array Ag) (n:Nat),K.lookup a=some o/\o.cls=.type "list" /\ o.dict=none/\o.data=.seq its n/\its.size<=sizeLine/\Vals xs its.toList
def SqT (K:Aa)(H:Hp)(a:Aj)(xs:List V):Prop :=
 Rd H a (.tup xs) \/
  ∃(o:Obj) (its:Array Ag) (n:Nat),K.lookup a=some o/\o.cls=.type "tuple" /\ o.data=.seq its n/\its.size<=sizeLine/\Vals xs its.toList
def absV:Ag->Option V
 |.none=>some .non
 |.bool b=>some (.bl b)
 |.int i _=>some (.int i)
 |.str x _=>some (.str x)
 |.bytes b _=>some (.byt b)
 |.float b _=>some (.flt b)
 |.ref a=>some (.ref a)
 |.type n=>some (.ty n)
 |_=>none
theorem RelV.abs {x:V}{u:Ag}(r:RelV x u):absV u=some x:=by
 cases x with
 |non=>cases r;rfl
 |bl _=>cases r;rfl
 |int _=>obtain⟨t,rfl⟩:=r;rfl
 |str _=>obtain⟨t,rfl⟩:=r;rfl
 |byt _=>obtain⟨t,rfl⟩:=r;rfl
 |flt _=>obtain⟨t,rfl⟩:=r;rfl
 |ref _=>cases r;rfl
 |ty _=>cases r;rfl
theorem RelV.inj {x y:V}{u:Ag}(r:RelV x u)(q:RelV y u):x=y:=al (r.abs.symm.trans q.abs)
theorem Vals.inj:∀ {xs ys:List V} {us:List Ag},Vals xs us->Vals ys us->xs=ys
 |_,_,_,.nil,.nil=>rfl
 |_,_,_,.cons r t,.cons r' t'=>by rw[r.inj r',Vals.inj t t']
section
variable {X:Cx}{pins:List (Aj×Obj)}{σ:St}{H:Hp}{s:Ab}{a:Aj}{xs ys:List V}
theorem SqL.of {K:Aa}(h:H a=some (.lst xs)):SqL K H a xs:=.inl (.inl h)
theorem SqT.of {K:Aa}(h:H a=some (.tup xs)):SqT K H a xs:=.inl (.inl h)
theorem Inv.list (I:Inv X pins σ H s)(h:SqL X.K H a xs):∃its:List Ag,Vals xs its/\PlainL s.heap a its.toArray/\xs.length<=sizeLine:=by
 rcases h with h|⟨o,its,n,hk,hc,hd,hs,hz,r⟩
 .obtain⟨z,its,n,r,e⟩:=h.ok I.hok;exact⟨its,r,⟨_,n,e,rfl,rfl,rfl⟩,z⟩
 .refine⟨its.toList,r,⟨o,n,I.kIn a o hk,hc,hd,by simpa using hs⟩,?_⟩;have e:=r.length;simp only[bx]at e;lia
theorem Inv.tuple (I:Inv X pins σ H s)(h:SqT X.K H a xs):∃its:List Ag,Vals xs its/\IsTup s.heap a its.toArray/\xs.length<=sizeLine:=by
 rcases h with h|⟨o,its,n,hk,hc,hs,hz,r⟩
 .obtain⟨z,its,r,p⟩:=h.ok I.hok;exact⟨its,r,p,z⟩
 .refine⟨its.toList,r,⟨o,I.kIn a o hk,hc,n,by simpa using hs⟩,?_⟩;have e:=r.length;simp only[bx]at e;lia
theorem Inv.list_inj (I:Inv X pins σ H s)(h:SqL X.K H a xs)(h':SqL X.K H a ys):xs=ys:=by
 obtain⟨S,r,⟨o,n,e,_,_,d⟩,_⟩:=I.list h;obtain⟨O,L,⟨o',U,F,_,_,J⟩,_⟩:=I.list h';rw[e]at F;cases F;rw[d]at J;injection J with d1 _;have:S=O:=by simpa using bI Array.toList d1
 subst this;exact r.inj L
end
abbrev Cx.wish (X:Cx)(E:Ag->Ab->Prop):Cx:={ X with xe:=E }
section
variable {X:Cx}{pins:List (Aj×Obj)}{σ:St}{H:Hp}{s:Ab}{E:Ag->Ab->Prop}
end
section
variable {X:Cx}{st:Stmt}{rest:List Stmt}{t u:TS}{e:Expr}{te:TE}{pos:Pos}
def wwf:TS:=λD σ H=>D.nx σ H
def qxs (t u:TS):TS:=λD σ H=>t { D with nx:=u D } σ H
theorem xk:PSs X [] wwf:=λ_ _ σ H _ I h=>cf ⟨σ,H,I,h⟩
theorem wu (h1:PS X st t)(h2:PSs X rest u):PSs X (st::rest) (qxs t u):=by
 intro pins s σ H D I h;refine ee (thn (h1 pins s σ H { D with nx:=u D } I h) λf J q=>?_);cases f with
 |next =>
  obtain⟨F,H',L,q⟩:=q;exact h2 pins J F H' D L q
 |ret v=>exact q
 |brk=>exact q
 |cont=>exact q
theorem wy (h1:PS X st t):PSs X [st] t:=by
 intro pins s σ H D I h;refine ee (thn (h1 pins s σ H D I h) λf s1 q=>?_);cases f with
 |next=>exact cf q
 |ret v=>exact q
 |brk=>exact q
 |cont=>exact q
theorem Inv.quiet {pins:List (Aj×Obj)}{σ:St}{H:Hp}{s:Ab}(I:Inv X pins σ H s):interactive X.env=false:=by simp[interactive,I.ok.kind]
def tDrop (te:TE):TS:=λD σ H=>te σ H λ_ H1=>D.nx σ H1
theorem _root_.aU4 (h:True:=by rfl):True:=h
theorem xj (he:PE X e te)(hs:autoParam (swapsWith e none pos.line X.env=pure false) aU4._auto_1):PS X (.Expr e pos) (tDrop te):=by intro pins s σ H D I h;exact wpAny_Expr_any (thn (he pins s σ H _ I h) λv s1 ⟨x,H1,I1,r1,q1⟩=>⟨σ,H1,I1,q1⟩) I.quiet hs
def tRet (te:TE):TS:=λD σ H=>te σ H D.rt
theorem x6 (he:PE X e te):PS X (.Return (some e) pos) (tRet te):=by intro pins s σ H D I h;exact wpAny_Return_some (thn (he pins s σ H _ I h) λv s1 ⟨x,H1,I1,r1,q1⟩=>⟨x,σ,H1,I1,r1,q1⟩)
def tIfS (c:TT)(t u:TS):TS:=λD σ H=>c σ H λb H1=>if b=true then t D σ H1 else u D σ H1
theorem x9 {c:Expr}{a b:List Stmt}{tc:TT}(hc:PT X c tc)(ha:PSs X a t)(hb:PSs X b u):PS X (.If c a b pos) (tIfS tc t u):=by
 intro pins s σ H D I h;refine wpAny_If (thn (hc pins s σ H _ I h) λd s1 ⟨H1,I1,q1⟩=>?_);cases d with
 |true=>exact ha pins s1 σ H1 D I1 q1
 |false=>exact hb pins s1 σ H1 D I1 q1
end
abbrev TG:=V->St->Hp->(St->Hp->Prop)->Prop
abbrev TGs:=List V->St->Hp->(St->Hp->Prop)->Prop
def PG (X:Cx)(target:Expr)(t:TG):Prop :=
 ∀(pins:List (Aj×Obj)) (s:Ab) (σ:St) (H:Hp) (v:V) (u:Ag) (Q:St->Hp->Prop),Inv X pins σ H s->RelV v u->t v σ H Q ->
  wpAny (model X.prog X.w) X.A (assign target X.env u) (λ_ s'=>∃σ' H',Inv X pins σ' H' s'/\Q σ' H') X.xe s
def PGs (X:Cx)(ts:List Expr)(t:TGs):Prop :=
 ∀(pins:List (Aj×Obj)) (s:Ab) (σ:St) (H:Hp) (vs:List V) (us:List Ag) (Q:St->Hp->Prop),Inv X pins σ H s->Vals vs us->t vs σ H Q ->
  wpAny (model X.prog X.w) X.A (assignInOrder ((assignEach ts X.env).map (·.2)) us) (λ_ s'=>∃σ' H',Inv X pins σ' H' s'/\Q σ' H') X.xe s
abbrev TIp:=V->V->Hp->VK->Prop
def PIp (X:Cx)(op:Operator)(t:TIp):Prop :=
 ∀(pins:List (Aj×Obj)) (s:Ab) (σ:St) (H:Hp) (x y:V) (v u:Ag) (Q:VK),Inv X pins σ H s->RelV x v->RelV y u->t x y H Q ->
  wpAny (model X.prog X.w) X.A (inplaceOp op v u) (EP X pins σ Q) X.xe s
section
variable {X:Cx}{pos:Pos}
def wxj (i:Nat):TG:=λv σ H Q=>Q (σ.set i (some v)) H
theorem _root_.aU5 (h:True:=by walk_at "loc"):True:=h
theorem _root_.aU6 (h:True:=by exact FnScope.nd (by assumption)):True:=h
theorem zc {i:Nat}{x:Str}(hN:autoParam (X.N.Nodup) aU6._auto_1)(hi:autoParam (X.N[i]?=some x) aU4._auto_1)(hx:autoParam (Loc X.env.scope x) aU5._auto_1)(hf:autoParam (X.fn x=true\/X.env.scope.names.lookup x=some .local) aU0._auto_1):PG X (.Name x pos) (wxj i):=by intro pins s σ H v u Q I r h;exact wpAny_assign_Name (k6 I hN hi hx r (λs' F=>⟨_,H,F,h⟩) hf)
def gNil:TGs:=λvs σ H Q=>vs=[]/\Q σ H
def gCons (t:TG)(u:TGs):TGs:=λvs σ H Q=>∃v r,vs=v::r/\t v σ H λσ' H'=>u r σ' H' Q
theorem yk:PGs X [] gNil:=by intro pins s σ H vs us Q I r h;obtain⟨e,h⟩:=h;subst e;cases r;exact assignInOrder_nil ⟨σ,H,I,h⟩
theorem zn {e:Expr}{es:List Expr}{t:TG}{u:TGs}(h1:PG X e t)(h2:PGs X es u)
  (hs:autoParam ((assignEach (e::es) X.env).map (·.2)=assign e X.env::(assignEach es X.env).map (·.2)) aU4._auto_1):PGs X (e::es) (gCons t u):=by
 intro pins s σ H vs L Q I r h;obtain⟨v,J,F,h⟩:=h;subst F;cases r with
 |cons r rr =>
  rw[hs];refine dE (thn (h1 pins s σ H _ _ _ I r h) λ_ s1 ⟨σ1,H1,I1,q1⟩=>?_);exact h2 pins s1 σ1 H1 _ _ Q I1 rr q1
def gTup (K:Aa)(n:Nat)(t:TGs):TG:=λv σ H Q=>∃a xs,v=.ref a/\SqT K H a xs/\xs.length=n/\t xs σ H Q
theorem ug {es:List Expr}{k:Nat}{t:TGs}{n:Nat}(hc:X.calm=true)(h:PGs X es t)
  (hn:autoParam ((assignEach es X.env).length=n) aU4._auto_1) (hst:autoParam ((assignEach es X.env).findIdx? (·.1)=none) aU4._auto_1):PG X (.Tuple es k pos) (gTup X.K n t):=by
 intro pins s σ H v u Q I r F;obtain⟨a,xs,Z,S,U,F⟩:=F;subst Z;cases r;obtain⟨ad,J,O,hz⟩:=I.tuple S;refine assign_Tuple_tuple (I.ok.hd hc) O (by simp[hn,<-U,J.length]) hst λh' L=>?_;have I1:Inv X pins σ H { s with heap:=h' }:=I.kept (t':=s.toks) λb o e=>L b o (ar (ae e)) e;exact h pins _ σ H xs _ Q I1 (by simpa using J) F
def tAsg (te:TE)(g:TG):TS:=λD σ H=>te σ H λx H1=>g x σ H1 D.nx
theorem Y8 {tg e:Expr}{te:TE}{g:TG}(he:PE X e te)(hg:PG X tg g)(hs:autoParam (swapsWithSole [tg] e pos.line X.env=pure false) aU4._auto_1)(hw:autoParam (swappedStores [tg] e X.env=pure none) aU4._auto_1)
  (h1:autoParam ((assignEach [tg] X.env).map (·.2)=[assign tg X.env]) aU4._auto_1):PS X (.Assign [tg] e pos) (tAsg te g):=by
 intro pins s σ H D I h;refine wpAny_Assign_stores (thn (he pins s σ H _ I h) λv s1 ⟨x,H1,I1,r1,q1⟩=>?_) hs hw;rw[h1];exact thn (hg pins s1 σ H1 x v _ I1 r1 q1) λ_ s2 q=>q
theorem zx {i:Nat}{x:Str}{e:Expr}{te:TE}{pos':Pos}(he:PE X e te)(hN:autoParam (X.N.Nodup) aU6._auto_1)(hi:autoParam (X.N[i]?=some x) aU4._auto_1)(hx:autoParam (Loc X.env.scope x) aU5._auto_1)(hs:autoParam (swapsWith e (some (.Name x pos')) pos.line X.env=pure false) aU4._auto_1)(hf:autoParam (X.fn x=true\/X.env.scope.names.lookup x=some .local) aU0._auto_1) :
  PS X (.Assign [.Name x pos'] e pos) (tAsg te (wxj i)):=by
 intro pins s σ H D I h;refine wpAny_Assign_Name (thn (he pins s σ H _ I h) λv s1 ⟨y,H1,I1,r1,q1⟩=>?_) hs;exact k6 I1 hN hi hx r1 (λs2 F=>⟨_,H1,F,q1⟩) hf
def tPar (i j:Nat)(ta:TA):TS:=λD σ H=>ta σ H λvs H1=>∃v w,vs=[v,w]/\D.nx ((σ.set i (some v)).set j (some w)) H1
theorem ps_par {i j:Nat}{x y:Str}{a b:Expr}{ta:TA}{px py pt:Pos}{kt k2 pt2}(hc:X.calm=true)(hN:X.N.Nodup)(hi:X.N[i]?=some x)(hj:X.N[j]?=some y)(hij:i≠j)
  (hx:X.env.scope.names.lookup x=some .local) (hy:X.env.scope.names.lookup y=some .local) (ha:PA X [a,b] ta)
  (hw:swappedStores [.Tuple [.Name x px,.Name y py] kt pt] (.Tuple [a,b] k2 pt2) X.env=pure (some [x,y]))
  (hs:autoParam (swapsWithSole [.Tuple [.Name x px,.Name y py] kt pt] (.Tuple [a,b] k2 pt2) pos.line X.env=pure false) aU4._auto_1) :
  PS X (.Assign [.Tuple [.Name x px,.Name y py] kt pt] (.Tuple [a,b] k2 pt2) pos) (tPar i j ta):=by
 intro pins s σ H D I h;rw[exec_Assign_arm];refine aa (bS ?_);rw[hs];refine aa (ag ?_);rw[ak ⋯];refine aa (Tuple_ (thn (ha _ pins s σ H _ I h) λus s1 ⟨vs,H1,I1,r1,L⟩=>?_));obtain⟨v,w,e1,L⟩:=L;subst e1;obtain⟨J,F,rfl,U,S⟩:∃J F,us=[J,F]/\RelV v J/\RelV w F:=by
  cases r1 with
  |cons p q =>
   cases q with
   |cons p' q' =>
    cases q';exact⟨_,_,rfl,p,p'⟩
 refine bb ?_ (by show 2<=sizeLine;decide);have I2:Inv X pins σ H1 { s1 with heap:=s1.heap.push { cls:=.type "tuple",data:=.seq [J,F].toArray } }:=I1.kept (t':=s1.toks) λb o e=>ac _ e;rw[hw];refine aa (ag ?_);show wpAny (model X.prog X.w) X.A (do rule "assign.swapped-stores";let items <-unpackItems (.ref s1.heap.objs.size) 2 none;assignInOrder [λv=>bindName X.env y v,λv=>bindName X.env x v] items.reverse;pure Flow.next) _ _ _;refine aa (cM (aa (unpackItems_tuple (items:=#[J,F]) (I.ok.hd hc) (IsTup.new s1.heap _) λh' Z=>?_)));have I3:=I2.kept (h':=h') (t':=s1.toks) λb o e=>Z b o (ar (ae e)) e;show wpAny _ _ (assignInOrder [λv=>bindName X.env y v,λv=>bindName X.env x v] [F,J] >>= λ_=>pure Flow.next) _ _ _;refine aa (dE (wpAny_bindName (k6 I3 hN hj (.inl hy) S (λs2 I4=>?_) (.inr hy))));refine dE (wpAny_bindName (k6 I4 hN hi (.inl hx) U (λs3 O=>assignInOrder_nil (ag ?_)) (.inr hx)));rw[List.set_comm _ _ (ba hij)]at O;exact⟨_,H1,O,L⟩
def tAug (i:Nat)(te:TE)(ti:TIp):TS:=λD σ H=>∃x,σ[i]?=some (some x)/\te σ H λy H1=>ti x y H1 λz H2=>D.nx (σ.set i (some z)) H2
theorem qk4 {i:Nat}{x:Str}{e:Expr}{te:TE}{op:Operator}{ti:TIp}{pos':Pos}(hN:X.N.Nodup)(hi:X.N[i]?=some x)(hx:Loc X.env.scope x)(he:PE X e te)(ho:PIp X op ti)(hf:autoParam (X.fn x=true\/X.env.scope.names.lookup x=some .local) aU0._auto_1) :
  PS X (.AugAssign (.Name x pos') op e pos) (tAug i te ti):=by
 intro pins s σ H D I h;obtain⟨v,e1,h⟩:=h;obtain⟨m,U,hl⟩:=I.loc;have L:Vis X.env.scope x:=by rcases hx with k|k;exact .inl k;exact .inr (.inl k)
 obtain⟨u,r,l⟩:=hl i x v hi e1 L;refine wpAny_AugAssign_Name ?_;have J:wpAny (model X.prog X.w) X.A (eval e X.env) (λw S=>wpAny (model X.prog X.w) X.A (inplaceOp op u w) (λr O=>wpAny (model X.prog X.w) X.A (storeName X.env x r) (λ_=>SP X pins D .next) X.xe O) X.xe S) X.xe s:=by refine thn (he pins s σ H _ I h) λw s1 ⟨y,H1,I1,r1,q1⟩=>?_;refine thn (ho pins s1 σ H1 v y u w _ I1 r r1 q1) λz s2 ⟨zv,H2,I2,r2,q2⟩=>?_;exact k6 I2 hN hi hx r2 (λs3 I3=>⟨_,H2,I3,q2⟩) hf
 rcases l with⟨F,Z⟩|⟨F,c,hc,ad⟩
 .exact wpAny_loadName_local I.ok.kind F U Z J
 .rcases F with F|F
  .exact wpAny_loadName_cell I.ok.kind F hc ad J
  .rcases hx with k|k
   .have:X.env.scope.names.lookup x=some .free:=F;rw[k]at this;cases this
   .have:X.env.scope.names.lookup x=some .free:=F;rw[k]at this;cases this
end
section
variable {X:Cx}{pos:Pos}
def qk3 (c:TT)(tb:TS):TS:=λD σ H=>∃W:Nat->St->Hp->Prop,(∃m,W m σ H)/\∀m σ H,W m σ H ->
 c σ H λb H1=>if b=true then ∃N:St->Hp->Prop,(∀σ' H',N σ' H'->∃m',m'<m/\W m' σ' H')/\tb { D with nx:=N,ct:=N,bk:=D.nx } σ H1 else D.nx σ H1
theorem qvy {c:Expr}{body:List Stmt}{tc:TT}{tb:TS}(hp:PassesOwn (model X.prog X.w) X.A X.env X.xe)(hc:PT X c tc)(hb:PSs X body tb):PS X (.While c body [] pos) (qk3 tc tb):=by
 intro pins s σ H D I h;obtain⟨W,⟨m0,w0⟩,ad⟩:=h;refine wpAny_While (codeAny_whileLoop (λn s'=>∃σ' H',Inv X pins σ' H' s'/\W n σ' H') ?_ m0 ⟨σ,H,I,w0⟩);rintro n s1 ⟨σ1,H1,I1,w1⟩;refine bP hp (thn (hc pins s1 σ1 H1 _ I1 (ad n σ1 H1 w1)) λb s2 ⟨H2,I2,L⟩=>?_);cases b with
 |true =>
  obtain⟨N,hN,L⟩:=L;rw[ao rfl];refine bP hp (thn (hb pins s2 σ1 H2 _ I2 L) λf s3 J=>?_);cases f with
  |next =>
   obtain⟨F,H3,I3,S⟩:=J;obtain⟨U,Z,O⟩:=hN F H3 S;exact⟨U,Z,F,H3,I3,O⟩
  |cont =>
   obtain⟨F,H3,I3,S⟩:=J;obtain⟨U,Z,O⟩:=hN F H3 S;exact⟨U,Z,F,H3,I3,O⟩
  |brk=>exact J
  |ret v=>exact J
 |false =>
  rw[ak aq];exact cf ⟨σ1,H2,I2,L⟩
end
structure It where
 go:Nat->Hp->Prop
 yld:Nat->Hp->V->Hp->Prop
 stop:Nat->Hp->Prop
def jq (X:Cx)(pins:List (Aj×Obj))(H:Hp)(b:Aj):Prop :=
 H b=none/\b≠X.env.locals/\b∉X.fs/\(b∈X.ex\/X.s₀.heap.objs.size<=b)/\(∀x c,X.env.cells.lookup x=some c->c≠b)/\∀p∈X.pn++pins,p.1≠b
theorem Inv.fpOk {X:Cx}{pins:List (Aj×Obj)}{σ:St}{H H':Hp}{s:Ab}{b:Aj}(I:Inv X pins σ H s)(hb:s.heap.objs.size<=b)(hn:H' b=none):jq X pins H' b:=by
 refine⟨hn,bX (aw I.lt hb),I.nofs hb,.inr (aQ I.sz hb),λx c e z=>?_,λp F z=>?_⟩
 .obtain⟨v,q⟩:=I.cell x c e;exact absurd (aw q.lt (by rw[z];exact hb)) (aS _)
 .exact absurd (aw (ae (I.pin p F).1) (by rw[z];exact hb)) (aS _)
structure Turn (P:Ac)(w:Ah)(K:Aa)(tg:Expr)(J:It)(fp:List Aj)(it:Aj)(tn:Nat->Heap->Prop):Prop where
 mem:it∈fp
 obj:∀i h,tn i h->∀b∈fp,∃o,h.get? b=some o/\∀v,o.data≠.cell v
 keep:∀i h h',tn i h->(∀b∈fp,∀o,h.get? b=some o->h'.get? b=some o)->tn i h'
 item:∀(X:Cx),X.prog=P->X.w=w->X.K=K->X.calm=true->∀(i:Nat) (pins:List (Aj×Obj)) (s:Ab) (σ:St) (H:Hp) (E:Ag->Ab->Prop),Inv X pins σ H s->(∀b∈fp,jq X pins H b)->tn i s.heap->J.go i H ->
  wpAny (model P w) X.A (pyNext (.ref it)) (λr s1=>∃u,r=some u /\
   wpAny (model P w) X.A (letOwnedTupleGo tg (.ref it) u) (λ_ s2=>∃x H',Inv X pins σ H' s2/\RelV x u/\J.yld i H x H'/\tn (i+1) s2.heap/\∀b∈fp,H' b=none) E s1) E s
 done:∀(X:Cx),X.prog=P->X.w=w->X.K=K->X.calm=true->∀(i:Nat) (pins:List (Aj×Obj)) (s:Ab) (σ:St) (H:Hp) (E:Ag->Ab->Prop),Inv X pins σ H s->(∀b∈fp,jq X pins H b)->tn i s.heap->J.stop i H ->
  wpAny (model P w) X.A (pyNext (.ref it)) (λr s1=>r=none/\Inv X pins σ H s1) E s
 self:∀(A:Ae) (i:Nat) (s:Ab) (Q:Ag->Ab->Prop) (E:Ag->Ab->Prop),tn i s.heap->Q (.ref it) s->wpAny (model P w) A (pyIter (.ref it)) Q E s
abbrev TI:=St->Hp->(It->Hp->Prop)->Prop
def PIE (X:Cx)(pins:List (Aj×Obj))(σ:St)(tg:Expr)(R:It->Hp->Prop)(itv:Ag)(s2:Ab):Prop :=
 ∃(it:Aj) (fp:List Aj) (tn:Nat->Heap->Prop) (J:It) (H':Hp),itv=.ref it/\Inv X pins σ H' s2/\Turn X.prog X.w X.K tg J fp it tn/\tn 0 s2.heap/\(∀b∈fp,jq X pins H' b)/\R J H'
def PI (X:Cx)(tg iter:Expr)(wi:TI):Prop :=
 ∀(pins:List (Aj×Obj)) (s:Ab) (σ:St) (H:Hp) (R:It->Hp->Prop),Inv X pins σ H s->wi σ H R ->
  wpAny (model X.prog X.w) X.A (eval iter X.env) (λv s1=>wpAny (model X.prog X.w) X.A (pyIter v) (PIE X pins σ tg R) X.xe s1) X.xe s
theorem qz0 {M:Model}{A:Ae}{E:Ag->Ab->Prop}{s:Ab}{tg:Expr}{it:Aj}{u:Ag}{o:Obj}{n:String}{vs:Array Ag}{Q:Unit->Ab->Prop}(ho:s.heap.get? it=some o)(hc:o.cls=.type n)(hd:o.data=.fields vs)
  (hn:["enumerate","zip","dict_itemiterator","dict_reverseitemiterator","odict_iterator","itertools.zip_longest","itertools.pairwise"].contains n=false) (hQ:Q () s):wpAny M A (letOwnedTupleGo tg (.ref it) u) Q E s:=by
 unfold letOwnedTupleGo;cases tg <;> first
  |exact ag hQ
  |(cases u <;> first
    |exact ag hQ
    |(refine aa (wpAny_load ho ?_)
      rw[hc,hd]
      show wpAny M A (if(["enumerate","zip","dict_itemiterator","dict_reverseitemiterator","odict_iterator","itertools.zip_longest","itertools.pairwise"].contains n&&vs[0]?==some (rawInt _))=true then _ else _) Q E s
      rw[ak (by intro h;rw[hn,Bool.false_and]at h;cases h)]
      exact ag hQ))
def Itl (K:Aa)(a:Aj):It :=
 ⟨λi H=>∃xs x,SqL K H a xs/\xs[i]?=some x,λi H x H'=>H'=H/\∀xs,SqL K H a xs->xs[i]?=some x,λi H=>∃xs,SqL K H a xs/\xs.length<=i⟩
def Itr (lo:Int)(n:Nat):It:=⟨λi _=>i<n,λi H x H'=>H'=H/\x=.int (lo+i),λi _=>n<=i⟩
theorem quc {P:Ac}{w:Ah}{K:Aa}{tg:Expr}(a it:Aj):Turn P w K tg (Itl K a) [it] it (λi h=>h.IsListIter it a i) where
 mem:=by simp
 obj:=λi h st b hb=>by
  have e:b=it:=by simpa using hb
  subst e;obtain⟨o,e,c,d⟩:=st;exact⟨o,e,λv z=>by rw[d]at z;cases z⟩
 keep:=λi h h' st k=>st.at λo e=>k it (by simp) o e
 item:=by intro X hP hw hK hc i pins s σ H E I hf st hg;subst hP hw hK;obtain⟨xs,x,hq,hx⟩:=hg;obtain⟨its,rv,p,hz⟩:=I.list hq;obtain⟨u,hu,ru⟩:=rv.get hx;obtain⟨f0,f1,f2,f3,f4,f5⟩:=hf it (by simp);refine wpAny_pyNext_list_item st p.isList (x:=u) (by simpa using hu) λh' st' sb=>?_;have I1:Inv X pins σ H { s with heap:=h' }:=I.turned (t':=s.toks) (λb o hb e=>(sb.2 b hb).trans e) f0 f1 f3 f4 f5;obtain⟨o,e,c,d⟩:=id st';exact⟨u,rfl,qz0 (s:={ s with heap:=h' }) e c d ⋯ ⟨x,H,I1,ru,⟨rfl,λys hy=>by rw[I.list_inj hy hq];exact hx⟩,st',λb hb=>(hf b hb).1⟩⟩
 done:=by intro X hP hw hK hc i pins s σ H E I hf st hg;subst hP hw hK;obtain⟨xs,hq,hx⟩:=hg;obtain⟨its,rv,p,hz⟩:=I.list hq;obtain⟨f0,f1,f2,f3,f4,f5⟩:=hf it (by simp);have hl:=rv.length;exact wpAny_pyNext_list_end (I.ok.hd hc) st p.isList (by simp;lia) λh' eb=>⟨rfl,I.turned (t':=s.toks) (λb o hb e=>eb b o hb e) f0 f1 f3 f4 f5⟩
 self:=λ_ _ _ _ _ st h=>wpAny_pyIter_listiter st h
theorem qkz {P:Ac}{w:Ah}{K:Aa}{tg:Expr}(it:Aj)(lo:Int)(n:Nat):Turn P w K tg (Itr lo n) [it] it (λi h=>IsRangeIter h it (lo+(i:Nat)*1) ((n:Int)-(i:Nat)) 1) where
 mem:=by simp
 obj:=λi h st b hb=>by
  have e:b=it:=by simpa using hb
  subst e;exact⟨_,st,λv z=>by
   have z':Data.fields _=Data.cell v:=z
   cases z'⟩
 keep:=λi h h' st k=>k it (by simp) _ st
 item:=by intro X hP hw hK hc i pins s σ H E I hf st hg;subst hP hw hK;obtain⟨f0,f1,f2,f3,f4,f5⟩:=hf it (by simp);have W:=Walks.range (prog:=X.prog) (w:=X.w) (I.ok.hd hc) it lo 1 n;refine W.item i s _ _ hg st λv h' tk hv st' kk=>?_;obtain⟨t,rfl⟩:=hv;have I1:Inv X pins σ H { s with heap:=h',toks:=tk }:=I.turned (λb o hb e=>kk b o (by simpa using hb) e) f0 f1 f3 f4 f5;refine⟨_,rfl,qz0 (s:={ s with heap:=h',toks:=tk }) (n := "range_iterator") st' rfl rfl ⋯ ⟨.int (lo+i),H,I1,⟨t,?_⟩,⟨rfl,rfl⟩,st',λb hb=>(hf b hb).1⟩⟩;rw[Int.mul_one]
 done:=by intro X hP hw hK hc i pins s σ H E I hf st hg;subst hP hw hK;obtain⟨f0,f1,f2,f3,f4,f5⟩:=hf it (by simp);exact wpAny_pyNext_range_end (I.ok.hd hc) st (by have:n<=i:=hg;lia) λh' eb=>⟨rfl,I.turned (t':=s.toks) (λb o hb e=>eb b o hb e) f0 f1 f3 f4 f5⟩
 self:=λ_ _ _ _ _ st h=>wpAny_pyIter_rangeiter st h
section
variable {X:Cx}{tg:Expr}
def iList (K:Aa)(tl:TE):TI:=λσ H R=>tl σ H λx H1=>∃a,x=.ref a/\(∃xs,SqL K H1 a xs)/\R (Itl K a) H1
theorem y6 {l:Expr}{tl:TE}(hl:PE X l tl):PI X tg l (iList X.K tl):=by
 intro pins s σ H R I h;refine thn (hl pins s σ H _ I h) λv s1 ⟨x,H1,I1,r1,q1⟩=>?_;obtain⟨a,e,⟨xs,F⟩,q⟩:=q1;subst e;cases r1;obtain⟨O,L,p,S⟩:=I1.list F;refine dR p.isList ?_;refine⟨s1.heap.objs.size,[s1.heap.objs.size],_,_,H1,rfl,I1.kept (t':=s1.toks) λb o e=>ac _ e,quc a _,⟨_,aj _ rfl,rfl,rfl⟩,λb J=>?_,q⟩;have e:b=s1.heap.objs.size:=by simpa using J
 subst e;exact I1.fpOk (af _) (I1.hok.fresh (af _))
theorem wwn {pins:List (Aj×Obj)}{σ:St}{H:Hp}{s:Ab}{R:It->Hp->Prop}{E:Ag->Ab->Prop}{lo hi:Int}{t u v:Tok}{tk:Nat}(I:Inv X pins σ H s)(h1:-(2 ^ 62)<=lo)(h2:lo<2 ^ 62)(h3:-(2 ^ 62)<=hi)(h4:hi<2 ^ 62)
  (q:R (Itr lo (hi-lo).toNat) H):wpAny (model X.prog X.w) X.A (pyIter (.ref s.heap.objs.size)) (PIE X pins σ tg R) E { s with heap:=s.heap.push { cls:=.type "range",data:=.fields #[.int lo t,.int hi u,.int 1 v] },toks:=tk }:=by
 refine wpAny_pyIter_range (IsRange.new ..) (small_one h1 h2 h3 h4) ?_;have F:Inv X pins σ H { s with heap:=s.heap.push { cls:=.type "range",data:=.fields #[.int lo t,.int hi u,.int 1 v] },toks:=tk }:=I.kept λb o e=>ac _ e;refine⟨(s.heap.push { cls:=.type "range",data:=.fields #[.int lo t,.int hi u,.int 1 v] }).objs.size,[(s.heap.push { cls:=.type "range",data:=.fields #[.int lo t,.int hi u,.int 1 v] }).objs.size],_,_,H,rfl,
  F.kept (t':=tk) λb o e=>ac _ e,qkz _ lo (hi-lo).toNat,?_,λb J=>?_,q⟩
 .have O:lo+((0:Nat):Int)*1=lo:=by simp
  have L:(((hi-lo).toNat:Nat):Int)-((0:Nat):Int)=Builtin.Range.rangeSize lo hi 1:=by rw[rangeSize_one];split <;> lia
  show IsRangeIter _ _ (lo+((0:Nat):Int)*1) ((((hi-lo).toNat:Nat):Int)-((0:Nat):Int)) 1;rw[O,L];exact aj _ rfl
 .have e:b=(s.heap.push { cls:=.type "range",data:=.fields #[.int lo t,.int hi u,.int 1 v] }).objs.size:=by simpa using J
  subst e;exact F.fpOk (af _) (F.hok.fresh (af _))
def iRng1 (ta:TA):TI:=λσ H R=>ta σ H λvs H1=>∃j:Int,vs=[.int j]/\-(2 ^ 62)<=j/\j<2 ^ 62/\R (Itr 0 j.toNat) H1
theorem ku {a:Expr}{ta:TA}{p pos:Pos}(hg:Gl X "range")(hm:X.mg "range" = none)(ha:PA X [a] ta)(hs:autoParam (starEach [a] X.env=[(false,eval a X.env)]) aU4._auto_1):PI X tg (.Call (.Name "range" p) [a] [] pos) (iRng1 ta):=by
 intro pins s σ H R I h;refine Call_ (u3 I hg hm boot_range (bt (thn (ha pos pins s σ H _ I h) λus s1 ⟨vs,H1,I1,r1,F⟩=>?_) hs rfl));obtain⟨j,e,F,J,q⟩:=F;subst e;cases r1 with
 |cons r rr =>
  cases rr;obtain⟨t,rfl⟩:=r;exact call_range_1 (wwn I1 ⋯ ⋯ F J (by simpa using q))
def tFor (wi:TI)(g:TG)(tb:TS):TS:=λD σ H=>wi σ H λJ H1=>∃W:Nat->Nat->St->Hp->Prop,(∃m,W 0 m σ H1)/\∀i m σ H,W i m σ H ->
 (J.stop i H/\D.nx σ H)\/(J.go i H/\∃N:St->Hp->Prop,(∀σ' H',N σ' H'->∃m',m'<m/\W (i+1) m' σ' H')/\∀x H',J.yld i H x H'->g x σ H' λσ2 H2=>tb { D with nx:=N,ct:=N,bk:=D.nx } σ2 H2)
def qw9 (fp:List Aj)(h:Heap):List (Aj×Obj):=fp.filterMap λb=>(h.get? b).map λo=>(b,o)
theorem yx {fp:List Aj}{h:Heap}{b:Aj}{o:Obj}(hb:b∈fp)(e:h.get? b=some o):(b,o)∈qw9 fp h:=dF.mpr ⟨b,hb,by rw[e];rfl⟩
theorem qub {fp:List Aj}{h:Heap}{p:Aj×Obj}(hp:p∈qw9 fp h):p.1∈fp/\h.get? p.1=some p.2:=by
 obtain⟨b,F,e⟩:=dF.mp hp;cases q:h.get? b with
 |none=>rw[q]at e;cases e
 |some o =>
  rw[q]at e;have I:(b,o)=p:=al e;subst I;exact⟨F,q⟩
theorem Inv.pinned {pins:List (Aj×Obj)}{σ:St}{H:Hp}{s:Ab}{fp:List Aj}(I:Inv X pins σ H s)(hf:∀b∈fp,jq X pins H b)(ho:∀b∈fp,∃o,s.heap.get? b=some o/\∀v,o.data≠.cell v):Inv X (pins++qw9 fp s.heap) σ H s :=
 I.pins_of λp hp=>(bA.mp hp).elim (λz=>I.pin p (aJ _ z)) λz=>by obtain⟨hb,e⟩:=qub z;obtain⟨f0,f1,f2,_⟩:=hf p.1 hb;obtain⟨o,e',d⟩:=ho p.1 hb;rw[e]at e';cases e';exact⟨e,f0,f1,f2,d⟩
theorem Inv.unpinned {pins pl:List (Aj×Obj)}{σ:St}{H:Hp}{s:Ab}(I:Inv X (pins++pl) σ H s):Inv X pins σ H s:=I.pins_of λp hp=>I.pin p (aJ _ (bq _ hp))
theorem Y2 {iter:Expr}{body:List Stmt}{wi:TI}{g:TG}{tb:TS}{pos:Pos}(hp:PassesOwn (model X.prog X.w) X.A X.env X.xe)(hc:X.calm=true)(hi:PI X tg iter wi)(hg:PG X tg g)(hb:PSs X body tb)
  (hs:autoParam (∀x,foldedSetIterable iter X.env x=pure x) aU3._auto_1):PS X (.For tg iter body [] pos) (tFor wi g tb):=by
 intro pins s σ H D I h;refine wpAny_For (thn (hi pins s σ H _ I h) λv s1 h1=>thn h1 λa3 s2 h2=>?_) hs;obtain⟨it,fp,tn,J,H2,e,I2,T,a1,f2,W,⟨m0,w0⟩,an⟩:=h2;subst e;have Z:∀ {H':Hp},(∀b∈fp,H' b=none)->∀b∈fp,jq X pins H' b:=λhn b hb=>⟨hn b hb,(f2 b hb).2⟩;refine codeAny_forLoop_any (λn s'=>∃i σ' H',Inv X pins σ' H' s'/\tn i s'.heap/\(∀b∈fp,H' b=none)/\W i n σ' H') ?_ m0 ⟨0,σ,H2,I2,a1,λb hb=>(f2 b hb).1,w0⟩;rintro n s3 ⟨i,σ3,H3,I3,st3,fr3,w3⟩;rcases an i n σ3 H3 w3 with⟨ap,qn⟩|⟨go,N,hN,a0⟩
 .refine bP hp (thn (T.done X rfl rfl rfl hc i pins s3 σ3 H3 X.xe I3 (Z fr3) st3 ap) λr s4 ⟨hr,I4⟩=>?_);subst hr;exact cf ⟨σ3,H3,I4,qn⟩
 .refine bP hp (thn (T.item X rfl rfl rfl hc i pins s3 σ3 H3 X.xe I3 (Z fr3) st3 go) λr s4 ⟨u,hr,h4⟩=>?_);subst hr;refine bP hp (thn h4 λ_ s5 ⟨x,H5,I5,r5,y5,st5,fr5⟩=>?_);have a2:=I5.pinned (Z fr5) (T.obj _ _ st5);refine bP hp (thn (hg _ s5 σ3 H5 x u _ a2 r5 (a0 x H5 y5)) λ_ s6 ⟨σ6,H6,I6,q6⟩=>?_);refine bP hp (thn (hb _ s6 σ6 H6 _ I6 q6) λf s7 S=>?_);have ad:∀ {F:St} {O:Hp},Inv X (pins++qw9 fp s5.heap) F O s7->N F O->∃m,m<n/\∃i σ' H',Inv X pins σ' H' s7/\tn i s7.heap/\(∀b∈fp,H' b=none)/\W i m σ' H':=λ{F O} L U=>by obtain⟨m',hm,w7⟩:=hN F O U;refine⟨m',hm,i+1,F,O,L.unpinned,T.keep _ _ _ st5 λb hb o e=>(L.pin (b,o) (aJ _ (aJ _ (yx hb e)))).1,λb hb=>?_,w7⟩;obtain⟨o,e,d⟩:=T.obj _ _ st5 b hb;exact(L.pin (b,o) (aJ _ (aJ _ (yx hb e)))).2.1
  cases f with
  |next=>obtain⟨F,O,L,U⟩:=S;exact ad L U
  |cont=>obtain⟨F,O,L,U⟩:=S;exact ad L U
  |brk=>obtain⟨F,O,L,S⟩:=S;exact⟨F,O,L.unpinned,S⟩
  |ret v=>obtain⟨x7,F,O,L,r7,S⟩:=S;exact⟨x7,F,O,L.unpinned,r7,S⟩
end
theorem wxq {K:Aa}{a:Aj}{xs:List V}{g:TG}{tb:TS}{D:Ends}{σ:St}{H:Hp}(Pv:Nat->St->Hp->Prop)(h0:Pv 0 σ H)(hl:∀i σ H,i<=xs.length->Pv i σ H->SqL K H a xs)
  (hs:∀i x σ H,xs[i]?=some x->Pv i σ H->g x σ H λσ2 H2=>tb { D with nx:=Pv (i+1),ct:=Pv (i+1),bk:=D.nx } σ2 H2) (hd:∀σ H,Pv xs.length σ H->D.nx σ H) :
  ∃W:Nat->Nat->St->Hp->Prop,(∃m,W 0 m σ H)/\∀i m σ H,W i m σ H ->
   ((Itl K a).stop i H/\D.nx σ H)\/((Itl K a).go i H/\∃N:St->Hp->Prop,(∀σ' H',N σ' H'->∃m',m'<m/\W (i+1) m' σ' H')/\∀x H',(Itl K a).yld i H x H'->g x σ H' λσ2 H2=>tb { D with nx:=N,ct:=N,bk:=D.nx } σ2 H2):=by
 refine⟨λi m σ H=>m=xs.length-i/\i<=xs.length/\Pv i σ H,⟨xs.length,by simp,aD _,h0⟩,?_⟩;rintro i m σ H ⟨rfl,hi,p⟩;have q:=hl i σ H hi p;by_cases hlt:i<xs.length
 .refine .inr ⟨⟨xs,xs[i],q,by simp[hlt]⟩,Pv (i+1),λσ' H' F=>⟨xs.length-(i+1),⋯,rfl,hlt,F⟩,λx H' y=>?_⟩;obtain⟨e,y⟩:=y;subst e;exact hs i x σ _ (y xs q) p
 .have e:i=xs.length:=by lia
  subst e;exact .inl ⟨⟨xs,q,af _⟩,hd σ H p⟩
theorem qq6 {lo:Int}{n:Nat}{g:TG}{tb:TS}{D:Ends}{σ:St}{H:Hp}(Pv:Nat->St->Hp->Prop)(h0:Pv 0 σ H)
  (hs:∀i σ H,i<n->Pv i σ H->g (.int (lo+i)) σ H λσ2 H2=>tb { D with nx:=Pv (i+1),ct:=Pv (i+1),bk:=D.nx } σ2 H2) (hd:∀σ H,Pv n σ H->D.nx σ H) :
  ∃W:Nat->Nat->St->Hp->Prop,(∃m,W 0 m σ H)/\∀i m σ H,W i m σ H ->
   ((Itr lo n).stop i H/\D.nx σ H)\/((Itr lo n).go i H/\∃N:St->Hp->Prop,(∀σ' H',N σ' H'->∃m',m'<m/\W (i+1) m' σ' H')/\∀x H',(Itr lo n).yld i H x H'->g x σ H' λσ2 H2=>tb { D with nx:=N,ct:=N,bk:=D.nx } σ2 H2):=by
 refine⟨λi m σ H=>m=n-i/\i<=n/\Pv i σ H,⟨n,by simp,aD _,h0⟩,?_⟩;rintro i m σ H ⟨rfl,hi,p⟩;by_cases hlt:i<n
 .refine .inr ⟨hlt,Pv (i+1),λσ' H' F=>⟨n-(i+1),⋯,rfl,hlt,F⟩,λx H' y=>?_⟩;obtain⟨e,y⟩:=y;subst e y;exact hs i σ _ hlt p
 .have e:i=n:=by lia
  subst e;exact .inl ⟨af _,hd σ H p⟩
theorem qvu {c:TT}{tb:TS}{D:Ends}{σ:St}{H:Hp}(Pv:St->Hp->Prop)(μ:St->Hp->Nat)(h0:Pv σ H)
  (hs:∀σ H,Pv σ H->c σ H λb H1=>if b=true then tb { D with nx:=λσ' H'=>Pv σ' H'/\μ σ' H'<μ σ H,ct:=λσ' H'=>Pv σ' H'/\μ σ' H'<μ σ H,bk:=D.nx } σ H1 else D.nx σ H1)
  (mono:∀σ H Q Q',(∀b H1,Q b H1->Q' b H1)->c σ H Q->c σ H Q'):qk3 c tb D σ H:=by
 refine⟨λm σ H=>m=μ σ H/\Pv σ H,⟨_,rfl,h0⟩,?_⟩;rintro m σ H ⟨rfl,p⟩;refine mono σ H _ _ (λb H1 q=>?_) (hs σ H p);cases b with
 |true=>exact⟨_,λσ' H' ⟨p',l⟩=>⟨_,l,rfl,p'⟩,q⟩
 |false=>exact q
abbrev R2:=V->V->Hp->VK->Prop
def OpR (X:Cx)(f:Ag->Ag->Sem Ag)(r:R2):Prop :=
 ∀(pins:List (Aj×Obj)) (s:Ab) (σ:St) (H:Hp) (x y:V) (v u:Ag) (Q:VK),Inv X pins σ H s->RelV x v->RelV y u->r x y H Q ->
  wpAny (model X.prog X.w) X.A (f v u) (EP X pins σ Q) X.xe s
def UnR (X:Cx)(f:Ag->Sem Ag)(r:V->Hp->VK->Prop):Prop :=
 ∀(pins:List (Aj×Obj)) (s:Ab) (σ:St) (H:Hp) (x:V) (v:Ag) (Q:VK),Inv X pins σ H s->RelV x v->r x H Q ->
  wpAny (model X.prog X.w) X.A (f v) (EP X pins σ Q) X.xe s
def kj (X:Cx)(f:Ag)(r:List V->Hp->VK->Prop):Prop :=
 ∀(pins:List (Aj×Obj)) (s:Ab) (σ:St) (H:Hp) (xs:List V) (us:List Ag) (Q:VK),Inv X pins σ H s->Vals xs us->r xs H Q ->
  wpAny (model X.prog X.w) X.A (call f us) (EP X pins σ Q) X.xe s
def tOp (r:R2)(ta tb:TE):TE:=λσ H Q=>ta σ H λx H1=>tb σ H1 λy H2=>r x y H2 Q
def tUn (r:V->Hp->VK->Prop)(ta:TE):TE:=λσ H Q=>ta σ H λx H1=>r x H1 Q
def rI (C:Int->Int->Prop)(g:Int->Int->V):R2:=λx y H Q=>∃i j,x=.int i/\y=.int j/\C i j/\Q (g i j) H
def rI0 (g:Int->Int->V):R2:=λx y H Q=>∃i j,x=.int i/\y=.int j/\Q (g i j) H
def rU (g:Int->V):V->Hp->VK->Prop:=λx H Q=>∃i,x=.int i/\Q (g i) H
section
variable {X:Cx}{a b c:Expr}{ta tb tc:TE}{pos:Pos}
theorem binT (ha:PE X a ta)(hb:PE X b tb){pins:List (Aj×Obj)}{s:Ab}{σ:St}{H:Hp}{R:V->V->Hp->Prop}(I:Inv X pins σ H s)
  (h:ta σ H λx H1=>tb σ H1 λy H2=>R x y H2) {Q:Ag->Ab->Prop} {f:Ag->Ag->Sem Ag}
  (hf:∀v u s2 x y H2,Inv X pins σ H2 s2->RelV x v->RelV y u->R x y H2->wpAny (model X.prog X.w) X.A (f v u) Q X.xe s2) :
  wpAny (model X.prog X.w) X.A (eval a X.env) (λv s₁=>wpAny (model X.prog X.w) X.A (eval b X.env) (λu s₂=>wpAny (model X.prog X.w) X.A (f v u) Q X.xe s₂) X.xe s₁) X.xe s:=by
 refine thn (ha pins s σ H _ I h) λv s1 ⟨x,H1,I1,r1,q1⟩=>?_;refine thn (hb pins s1 σ H1 _ I1 q1) λu s2 ⟨y,H2,I2,r2,q2⟩=>?_;exact hf v u s2 x y H2 I2 r1 r2 q2
theorem xb {op:Operator}{r:R2}(ho:OpR X (binaryOp op) r)(ha:PE X a ta)(hb:PE X b tb):PE X (.BinOp a op b pos) (tOp r ta tb):=by intro pins s σ H Q I h;exact wpAny_BinOp (binT ha hb I h λv u s2 x y H2 L J F q=>ho pins s2 σ H2 x y v u Q L J F q)
theorem pe_un {op:UnaryOp}{r:V->Hp->VK->Prop}(ho:UnR X (unaryOp op) r)(ha:PE X a ta):PE X (.UnaryOp op a pos) (tUn r ta):=by intro pins s σ H Q I h;exact UnaryOp_ (thn (ha pins s σ H _ I h) λv s1 ⟨x,H1,I1,r1,q1⟩=>ho pins s1 σ H1 x v Q I1 r1 q1)
theorem opI {f:Ag->Ag->Sem Ag}{C:Int->Int->Prop}{g:Int->Int->Int}
  (rule:∀(i j:Int) (t u:Tok) (s:Ab) (Q:Ag->Ab->Prop) (E:Ag->Ab->Prop),C i j->Q (.int (g i j) s.toks) { s with toks:=s.toks+1 }->wpAny (model X.prog X.w) X.A (f (.int i t) (.int j u)) Q E s) :
  OpR X f (rI C λi j=>.int (g i j)):=by
 intro pins s σ H x y v u Q I L J h;obtain⟨i,j,rfl,rfl,O,q⟩:=h;obtain⟨t,rfl⟩:=L;obtain⟨F,rfl⟩:=J;exact rule i j t F s _ _ O ⟨.int (g i j),H,I.tok _,⟨_,rfl⟩,q⟩
theorem opI0 {f:Ag->Ag->Sem Ag}{g:Int->Int->Int}
  (rule:∀(i j:Int) (t u:Tok) (s:Ab) (Q:Ag->Ab->Prop) (E:Ag->Ab->Prop),Q (.int (g i j) s.toks) { s with toks:=s.toks+1 }->wpAny (model X.prog X.w) X.A (f (.int i t) (.int j u)) Q E s) :
  OpR X f (rI0 λi j=>.int (g i j)):=by
 intro pins s σ H x y v u Q I L J h;obtain⟨i,j,rfl,rfl,q⟩:=h;obtain⟨t,rfl⟩:=L;obtain⟨F,rfl⟩:=J;exact rule i j t F s _ _ ⟨.int (g i j),H,I.tok _,⟨_,rfl⟩,q⟩
theorem opB0 {f:Ag->Ag->Sem Ag}{g:Int->Int->Bool}
  (rule:∀(i j:Int) (t u:Tok) (s:Ab) (Q:Ag->Ab->Prop) (E:Ag->Ab->Prop),Q (.bool (g i j)) s->wpAny (model X.prog X.w) X.A (f (.int i t) (.int j u)) Q E s) :
  OpR X f (rI0 λi j=>.bl (g i j)):=by
 intro pins s σ H x y v u Q I L J h;obtain⟨i,j,rfl,rfl,q⟩:=h;obtain⟨t,rfl⟩:=L;obtain⟨F,rfl⟩:=J;exact rule i j t F s _ _ ⟨.bl (g i j),H,I,rfl,q⟩
def CPow (i j:Int):Prop:=0<=j/\j<=1000000/\i.natAbs<2 ^ 64
theorem z8:OpR X (binaryOp .Add) (rI0 λi j=>.int (i+j)):=opI0 λ_ _ _ _ _ _ _ q=>add_int q
theorem Y9:OpR X (binaryOp .Sub) (rI0 λi j=>.int (i-j)):=opI0 λ_ _ _ _ _ _ _ q=>sub_int q
theorem jz:OpR X (binaryOp .Mod) (rI (λ_ j=>0<j) λi j=>.int (i%j)):=opI λi j _ _ _ _ _ hc q=>by have h1:(0:Int)<j:=hc;exact mod_int' ⋯ (by rw[Int.fmod_eq_emod_of_nonneg i ⋯];exact q)
theorem op_pow:OpR X (binaryOp .Pow) (rI CPow λi j=>.int (i ^ j.toNat)):=opI λ_ _ _ _ _ _ _ hc q=>pow_int_small hc.1 hc.2.1 hc.2.2 q
theorem unI {f:Ag->Sem Ag}{g:Int->Int}
  (rule:∀(i:Int) (t:Tok) (s:Ab) (Q:Ag->Ab->Prop) (E:Ag->Ab->Prop),Q (.int (g i) s.toks) { s with toks:=s.toks+1 }->wpAny (model X.prog X.w) X.A (f (.int i t)) Q E s) :
  UnR X f (rU λi=>.int (g i)):=by
 intro pins s σ H x v Q I F h;obtain⟨i,rfl,q⟩:=h;obtain⟨t,rfl⟩:=F;exact rule i t s _ _ ⟨.int (g i),H,I.tok _,⟨_,rfl⟩,q⟩
theorem wzc:UnR X (unaryOp .USub) (rU λi=>.int (-i)):=unI λ_ _ _ _ _ q=>neg_int q
end
def scal:V->V->Bool
 |.non,.non=>true|.non,.int _=>true|.int _,.non=>true|.non,.bl _=>true|.bl _,.non=>true|.non,.str _=>true|.str _,.non=>true
 |.int _,.int _=>true|.bl _,.bl _=>true|.str _,.str _=>true|.byt _,.byt _=>true
 |.int _,.str _=>true|.str _,.int _=>true|.bl _,.str _=>true|.str _,.bl _=>true
 |_,_=>false
def rEq:R2:=λx y H Q=>scal x y=true/\Q (.bl (decide (x=y))) H
def rNe:R2:=λx y H Q=>scal x y=true/\Q (.bl (!decide (x=y))) H
theorem qyt {i j:Int}:decide (V.int i=V.int j)=(i==j):=by rw[bQ];simp
theorem wxc {i j:Bool}:decide (V.bl i=V.bl j)=(i==j):=by rw[bQ];simp
theorem qyb {i j:Str}:decide (V.str i=V.str j)=(i==j):=by rw[bQ];simp
theorem qyn {i j:Array UInt8}:decide (V.byt i=V.byt j)=(i.toList==j.toList):=by rw[bQ];cases i;cases j;simp
section
variable {X:Cx}{a b c:Expr}{ta tb tc:TE}{pos:Pos}
theorem xp {pins:List (Aj×Obj)}{σ:St}{H:Hp}{s:Ab}{Q:VK}{k k':Bool}(I:Inv X pins σ H s)(q:Q (.bl k) H)(e:k=k'):EP X pins σ Q (.bool k') s:=by subst e;exact⟨.bl k,H,I,rfl,q⟩
theorem vz:OpR X (compareOp .Eq) rEq:=by
 intro pins s σ H x y v u Q I L F h;obtain⟨hs,q⟩:=h;cases x with
 |non =>
  cases L;cases y with
  |non=>cases F;exact PySem.EqNone.eq_none_none (xp I q (by simp))
  |bl j=>cases F;exact PySem.EqNone.eq_none_bool (xp I q (by simp))
  |int j=>obtain⟨J,rfl⟩:=F;exact PySem.EqNone.eq_none_int (xp I q (by simp))
  |str j=>obtain⟨J,rfl⟩:=F;exact PySem.EqNone.eq_none_str (xp I q (by simp))
  |_=>exact absurd (show false=true from hs) aq
 |bl i =>
  cases L;cases y with
  |non=>cases F;exact PySem.EqNone.eq_bool_none (xp I q (by simp))
  |bl j=>cases F;exact eq_bool (xp I q wxc)
  |str j=>obtain⟨J,rfl⟩:=F;exact PySem.EqMixed.eq_bool_str (xp I q (by simp))
  |_=>exact absurd (show false=true from hs) aq
 |int i =>
  obtain⟨t,rfl⟩:=L;cases y with
  |non=>cases F;exact PySem.EqNone.eq_int_none (xp I q (by simp))
  |int j=>obtain⟨J,rfl⟩:=F;exact eq_int (xp I q qyt)
  |str j=>obtain⟨J,rfl⟩:=F;exact PySem.EqMixed.eq_int_str (xp I q (by simp))
  |_=>exact absurd (show false=true from hs) aq
 |str i =>
  obtain⟨t,rfl⟩:=L;cases y with
  |non=>cases F;exact PySem.EqNone.eq_str_none (xp I q (by simp))
  |bl j=>cases F;exact PySem.EqMixed.eq_str_bool (xp I q (by simp))
  |int j=>obtain⟨J,rfl⟩:=F;exact PySem.EqMixed.eq_str_int (xp I q (by simp))
  |str j=>obtain⟨J,rfl⟩:=F;exact eq_str (xp I q qyb)
  |_=>exact absurd (show false=true from hs) aq
 |byt i =>
  obtain⟨t,rfl⟩:=L;cases y with
  |byt j=>obtain⟨J,rfl⟩:=F;exact W.eq_bytes (xp I q qyn)
  |_=>exact absurd (show false=true from hs) aq
 |_=>cases y <;> exact absurd (show false=true from hs) aq
theorem op_ne:OpR X (compareOp .NotEq) rNe:=by
 intro pins s σ H x y v u Q I L F h;obtain⟨hs,q⟩:=h;cases x with
 |non =>
  cases L;cases y with
  |non=>cases F;exact PySem.EqNone.ne_none_none (xp I q (by simp))
  |bl j=>cases F;exact PySem.EqNone.ne_none_bool (xp I q (by simp))
  |int j=>obtain⟨J,rfl⟩:=F;exact PySem.EqNone.ne_none_int (xp I q (by simp))
  |str j=>obtain⟨J,rfl⟩:=F;exact PySem.EqNone.ne_none_str (xp I q (by simp))
  |_=>exact absurd (show false=true from hs) aq
 |bl i =>
  cases L;cases y with
  |non=>cases F;exact PySem.EqNone.ne_bool_none (xp I q (by simp))
  |bl j=>cases F;exact ne_bool (xp I q (bI not wxc))
  |str j=>obtain⟨J,rfl⟩:=F;exact PySem.EqMixed.ne_bool_str (xp I q (by simp))
  |_=>exact absurd (show false=true from hs) aq
 |int i =>
  obtain⟨t,rfl⟩:=L;cases y with
  |non=>cases F;exact PySem.EqNone.ne_int_none (xp I q (by simp))
  |int j=>obtain⟨J,rfl⟩:=F;exact ne_int (xp I q (bI not qyt))
  |str j=>obtain⟨J,rfl⟩:=F;exact PySem.EqMixed.ne_int_str (xp I q (by simp))
  |_=>exact absurd (show false=true from hs) aq
 |str i =>
  obtain⟨t,rfl⟩:=L;cases y with
  |non=>cases F;exact PySem.EqNone.ne_str_none (xp I q (by simp))
  |bl j=>cases F;exact PySem.EqMixed.ne_str_bool (xp I q (by simp))
  |int j=>obtain⟨J,rfl⟩:=F;exact PySem.EqMixed.ne_str_int (xp I q (by simp))
  |str j=>obtain⟨J,rfl⟩:=F;exact ne_str (xp I q (bI not qyb))
  |_=>exact absurd (show false=true from hs) aq
 |byt i =>
  obtain⟨t,rfl⟩:=L;cases y with
  |byt j=>obtain⟨J,rfl⟩:=F;exact W.ne_bytes (xp I q (bI not qyn))
  |_=>exact absurd (show false=true from hs) aq
 |_=>cases y <;> exact absurd (show false=true from hs) aq
theorem uz:OpR X (compareOp .Lt) (rI0 λi j=>.bl (decide (i<j))):=opB0 λ_ _ _ _ _ _ _ q=>lt_int q
theorem op_le:OpR X (compareOp .LtE) (rI0 λi j=>.bl (decide (i<=j))):=opB0 λ_ _ _ _ _ _ _ q=>le_int q
theorem yr:OpR X (compareOp .Gt) (rI0 λi j=>.bl (decide (j<i))):=opB0 λ_ _ _ _ _ _ _ q=>gt_int q
theorem wq1:OpR X (compareOp .GtE) (rI0 λi j=>.bl (decide (j<=i))):=opB0 λ_ _ _ _ _ _ _ q=>ge_int q
theorem qq4:OpR X (compareOp .In) (λx y H Q=>∃i j,x=.str i/\y=.str j/\Q (.bl (!(Builtin.Str.occurrences j i 0 j.length 1).isEmpty)) H):=by intro pins s σ H x y v u Q I J F h;obtain⟨i,j,rfl,rfl,q⟩:=h;obtain⟨t,rfl⟩:=J;obtain⟨L,rfl⟩:=F;exact in_str (xp I q rfl)
theorem op_isN:OpR X (compareOp .Is) (λx y H Q=>y=.non/\Q (.bl (decide (x=.non))) H):=by
 intro pins s σ H x y v u Q I F J h;obtain⟨rfl,q⟩:=h;cases J;refine is_none_gen (xp I q ?_);cases x <;> first
  |(cases F;rfl)
  |(obtain⟨t,rfl⟩:=F;rfl)
theorem wvs:OpR X (compareOp .IsNot) (λx y H Q=>y=.non/\Q (.bl (!decide (x=.non))) H):=by
 intro pins s σ H x y v u Q I F J h;obtain⟨rfl,q⟩:=h;cases J;refine isnot_none_gen (xp I q ?_);cases x <;> first
  |(cases F;rfl)
  |(obtain⟨t,rfl⟩:=F;rfl)
theorem xq (b:Expr){op:CmpOp}(h:autoParam (op≠.In) aU1._auto_1)(h2:autoParam (op≠.NotIn) aU1._auto_1):behindInMarks op b=false:=by
 have I:(op==CmpOp.In)=false:=by cases op <;> first | rfl | exact absurd rfl h
 have F:(op==CmpOp.NotIn)=false:=by cases op <;> first | rfl | exact absurd rfl h2
 cases b <;> simp[behindInMarks,I,F]
theorem Qb {op:CmpOp}{r:R2}(ho:OpR X (compareOp op) r)(ha:PE X a ta)(hb:PE X b tb)(hm:behindInMarks op b=false):PE X (.Compare a [op] [b] pos) (tOp r ta tb):=by intro pins s σ H Q I h;exact wpAny_Compare1 (binT ha hb I h λv u s2 x y H2 L J F q=>ho pins s2 σ H2 x y v u Q L J F q) hm
def qq3 (t:TE):TT:=λσ H Q=>t σ H λx H'=>∃k,x=.bl k/\Q k H'
theorem w9 {op:CmpOp}{r:R2}(ho:OpR X (compareOp op) r)(ha:PE X a ta)(hb:PE X b tb)(hm:behindInMarks op b=false):PT X (.Compare a [op] [b] pos) (qq3 (tOp r ta tb)):=by
 intro pins s σ H Q I h;refine wpAny_isTrue_Compare1 (thn (ha pins s σ H _ I h) λv s1 ⟨x,H1,I1,r1,q1⟩=>thn (hb pins s1 σ H1 _ I1 q1) λu s2 ⟨y,H2,I2,r2,q2⟩ =>
  thn (ho pins s2 σ H2 x y v u _ I2 r1 r2 q2) λc s3 ⟨z,H3,I3,r3,k,e,q3⟩=>?_) hm
 subst e;cases r3;exact cu ⟨H3,I3,q3⟩
theorem qw6:(sizeLine:Nat)<2 ^ 63:=by rw[sizeLine_eq];decide
theorem qjm:OpR X (binaryOp .Add) (λx y H Q=>∃i j,x=.str i/\y=.str j/\i.length+j.length<=sizeLine/\Q (.str (i++j)) H):=by intro pins s σ H x y v u Q I L J h;obtain⟨i,j,rfl,rfl,O,q⟩:=h;obtain⟨t,rfl⟩:=L;obtain⟨F,rfl⟩:=J;exact add_str (λF tk=>⟨.str (i++j),H,I.tok _,⟨_,rfl⟩,q⟩) O
theorem yn {x:V}{us:List Ag}(r:Vals [x] us):∃u,us=[u]/\RelV x u:=by
 cases r with
 |cons r1 r2=>cases r2;exact⟨_,rfl,r1⟩
theorem wx3 {x y:V}{us:List Ag}(r:Vals [x,y] us):∃u w',us=[u,w']/\RelV x u/\RelV y w':=by
 cases r with
 |cons r1 r2 =>
  cases r2 with
  |cons r3 r4=>cases r4;exact⟨_,_,rfl,r1,r3⟩
theorem Z7:kj X (.builtin "abs") (λxs H Q=>∃i,xs=[.int i]/\Q (.int (if i<0 then -i else i)) H):=by intro pins s σ H xs F Q I r h;obtain⟨i,rfl,q⟩:=h;obtain⟨u,rfl,t,rfl⟩:=yn r;exact call_abs_int λu tk=>⟨.int (if i<0 then -i else i),H,I.tok _,⟨_,rfl⟩,q⟩
theorem quu (hc:X.calm=true):kj X (.builtin "max") (λxs H Q=>∃i j,xs=[.int i,.int j]/\Q (.int (if j>i then j else i)) H):=by
 intro pins s σ H xs J Q I r h;obtain⟨i,j,rfl,q⟩:=h;obtain⟨u,F,rfl,⟨t,rfl⟩,⟨L,rfl⟩⟩:=wx3 r;refine max_two_ints (I.ok.hd hc) λh' tk k=>⟨_,H,I.kept k,?_,q⟩;by_cases hj:j>i
 .rw[ao hj,ao hj];exact⟨_,rfl⟩
 .rw[ak hj,ak hj];exact⟨_,rfl⟩
theorem qwc (hc:X.calm=true):kj X (.builtin "min") (λxs H Q=>∃i j,xs=[.int i,.int j]/\Q (.int (if j<i then j else i)) H):=by
 intro pins s σ H xs J Q I r h;obtain⟨i,j,rfl,q⟩:=h;obtain⟨u,F,rfl,⟨t,rfl⟩,⟨L,rfl⟩⟩:=wx3 r;refine min_two_ints (I.ok.hd hc) λh' tk k=>⟨_,H,I.kept k,?_,q⟩;by_cases hj:j<i
 .rw[ao hj,ao hj];exact⟨_,rfl⟩
 .rw[ak hj,ak hj];exact⟨_,rfl⟩
theorem qwg:kj X (.type "str") (λxs H Q=>∃i,xs=[.int i]/\i.natAbs.log2<1920/\Q (.str (toString i)) H):=by intro pins s σ H xs J Q I r h;obtain⟨i,rfl,F,q⟩:=h;obtain⟨u,rfl,t,rfl⟩:=yn r;exact PySem.P.str_of_int F ⟨.str _,H,I.tok _,⟨_,rfl⟩,q⟩
end
structure ObjM (h:Heap)(x dx C:Aj)(mA:Str->Option Ag):Prop where
 obj:h.get? x=some (W.instObj C dx)
 ns:h.Ns1 dx mA
 ne:dx≠x
theorem qu9 {h:Heap}{dx:Aj}{mA:Str->Option Ag}(n:h.Ns1 dx mA):∃od,h.get? dx=some od/\∀name,W.lookIn name od=some (mA name):=by
 obtain⟨o,es,ep,ho,hd,hk,_,hm⟩:=n;refine⟨o,ho,λname=>?_⟩;have e:=hm name;unfold nsFind findBy at e;rw[<-Array.find?_toList]at e;unfold W.lookIn;rw[hd];dsimp only;split
 .rename_i y q;rw[q]at e;exact bI some e
 .rename_i q;rw[q]at e;have a:es.toList.any (·.refKey)=false:=by rw[List.any_eq_false];intro y hy;obtain⟨z,t,hkey⟩:=hk y (Array.mem_toList_iff.mp hy);simp[DictEntry.refKey,hkey]
  have a':¬ es.toList.any (·.refKey)=true:=by rw[a];exact aq
  rw[ak a'];exact bI some e
theorem ObjM.look {h:Heap}{x dx C:Aj}{mA:Str->Option Ag}(I:ObjM h x dx C mA):∃od,W.InstAt h x (W.instObj C dx) C (some od)/\∀name,W.lookIn name od=some (mA name) :=
 let ⟨od,ho,hl⟩:=qu9 I.ns;⟨od,⟨I.obj,rfl,rfl,ho⟩,hl⟩
section
variable {prog:Ac}{w:Ah}{A:Ae}{E:Ag->Ab->Prop}{s:Ab}{K:Aa}{x dx C f:Aj}{mA:Str->Option Ag}{name:Str}{v:Ag}
theorem wzm {expr:Bool}{Q:Ag->Ab->Prop}(X:K.In s.heap)(I:ObjM s.heap x dx C mA)(hg:W.plainGet K C name=true)(hh:W.hasDictIn K C=true)
  (ha:W.findIn K (.ref C) name=some none) (hv:mA name=some v) (hv':W.handedIn v=true) (h:Q v { s with toks:=s.toks+1 }) :
  wpAny (model prog w) A (getAttr (.ref x) name expr) Q E s:=by
 obtain⟨L,J,F⟩:=I.look;exact W.get_value X J (dt hg).1 (W.findObj_own hh ha rfl (by rw[F,hv])) hv' h
theorem ww0 {pl:Sem Bool}{Q:Ag×List Ag->Ab->Prop}(X:K.In s.heap)(I:ObjM s.heap x dx C mA)(hg:W.plainGet K C name=true)
  (hf:W.findIn K (.ref C) name=some (some (.ref f))) (ht:W.isFn K (.ref f)=true) (hv:mA name=none) (h:Q (.ref f,[.ref x]) s) :
  wpAny (model prog w) A (getMethod (.ref x) name pl) Q E s:=by
 obtain⟨F,J,L⟩:=I.look;exact W.method_fn X J (dt hg).1 (dt hg).2 hf (bY.mp ht) (by show(W.lookIn name F).map (·.isSome)=some false;rw[L,hv];rfl) h
theorem wvg {ns:List Str}{Q:Unit->Ab->Prop}(X:K.In s.heap)(I:ObjM s.heap x dx C mA)
  (hs:W.findIn K (.ref C) "__setattr__" = some (some (.builtin "object.__setattr__"))) (hp:W.plainOver K C=true) (ht:W.takerIn K C name=some none) (hh:W.hasDictIn K C=true)
  (hw:PySem.Within mA ns) (hsz:ns.length<=sizeLine)
  (h:∀h',ObjM h' x dx C (λy=>if y=name then some v else mA y)->Heap.SameBut dx s.heap h'->Q () { s with heap:=h',toks:=s.toks+2 }) :
  wpAny (model prog w) A (setAttr (.ref x) name v) Q E s:=by
 obtain⟨od,J,hl⟩:=I.look;refine W.set_plain X J hs (W.osa_open (s:={ s with toks:=s.toks+1 }) (r:=none) X J hp ht λb=>?_);obtain⟨cd,hc,Z⟩:=W.any_some hh;have O:s.heap.get? x=some ⟨.ref C,some dx,.plain,#[]⟩:=I.obj;refine aa (ag (aa (aa (wpAny_loadPart O (aa (W.Looks.here (s:={ s with toks:=s.toks+1 }) (W.looks_clsIn X hc) ?_))))));rw[Z];refine ag (a:=some dx) (aa (ag (aa ?_)));refine wpAny_nsSet1 (s:={ s with toks:=s.toks+1 }) I.ns λh' L F=>?_;obtain⟨oD,an,ap,S,U,ad⟩:=L.count (PySem.Within.cons name v hw);refine aa (wpAny_lookBehind S (by rw[U];exact pastItsLine_dict (aQ ad (by rw[aB];lia))) ?_);exact ag (h _ ⟨(F.2 _ (ba I.ne)).trans I.obj,L,I.ne⟩ F)
theorem wx6 {R:Result->Ab->Prop}{vs:List Ag}{kw:List (Str×Ag)}(X:K.In s.heap)(hm:W.makesIn K C=true)
  (hi:W.findIn K (.ref C) "__init__" = some (some (.ref f))) (hf:W.typeIn K (.ref f)=some (.type "function"))
  (h:codeAny (model prog w) (A.under (.builtin "type.__call__" ⟨.ref C::vs,kw⟩)) (.call (.ref f) ⟨.ref (s.heap.objs.size+1)::vs,kw⟩) (W.InitBack (s.heap.objs.size+1) R)
   { s with heap:=(s.heap.push W.emptyDict).push (W.instObj C s.heap.objs.size) }) :
  codeAny (model prog w) A (.call (.ref C) ⟨vs,kw⟩) R s:=by
 obtain⟨I,g,d,t,os⟩:=s;exact W.make_core (W.makes_of X hm) (W.looks_findIn X hi) (λF=>W.bind_fn X F hf) (.inl rfl) h
end
def z9 (f:Str)(v:V):List (Str×V)->List (Str×V)
 |[]=>[(f,v)]
 |(g,x)::r=>if g=f then(g,v)::r else(g,x)::z9 f v r
theorem Wp (f g:Str)(v:V):∀fs:List (Str×V),(z9 f v fs).lookup g=if g=f then some v else fs.lookup g
 |[]=>by
  show List.lookup g [(f,v)]=_;by_cases h:g=f
  .have hb:(g==f)=true:=bY.mpr h;simp only[List.lookup,hb,ao h]
  .have hb:(g==f)=false:=aM.mpr h;simp only[List.lookup,hb,ak h]
 |(k,x)::r=>by
  have ih:=Wp f g v r;rw[show z9 f v ((k,x)::r)=(if k=f then(k,v)::r else(k,x)::z9 f v r) from rfl];by_cases hk:k=f
  .rw[ao hk];by_cases h:g=k
   .have hb:(g==k)=true:=bY.mpr h;simp only[List.lookup,hb,ao (h.trans hk)]
   .have hb:(g==k)=false:=aM.mpr h;simp only[List.lookup,hb,ak (λe:g=f=>h (e.trans hk.symm))]
  .rw[ak hk];by_cases h:g=k
   .have hb:(g==k)=true:=bY.mpr h;simp only[List.lookup,hb,ak (λe:g=f=>hk (h.symm.trans e))]
   .have hb:(g==k)=false:=aM.mpr h;simp only[List.lookup,hb];exact ih
theorem Wz (f:Str)(v:V):∀fs:List (Str×V),f∈(z9 f v fs).map (·.1)/\∀g,g∈fs.map (·.1)->g∈(z9 f v fs).map (·.1)
 |[]=>⟨by simp[z9],λg h=>by simp at h⟩
 |(k,x)::r=>by
  obtain⟨i1,i2⟩:=Wz f v r;rw[show z9 f v ((k,x)::r)=(if k=f then(k,v)::r else(k,x)::z9 f v r) from rfl];by_cases hk:k=f
  .rw[ao hk];subst hk;exact⟨by simp,λg h=>by simpa using h⟩
  .rw[ak hk];refine⟨?_,λg h=>?_⟩
   .rw[ay];exact bc _ i1
   .rw[ay]at h ⊢;rcases av.mp h with e|e
    .exact av.mpr (.inl e)
    .exact bc _ (i2 g e)
theorem Wn (f:Str)(v:V):∀fs:List (Str×V),(z9 f v fs).length<=fs.length+1
 |[]=>by simp[z9]
 |(k,x)::r=>by
  have ih:=Wn f v r;rw[show z9 f v ((k,x)::r)=(if k=f then(k,v)::r else(k,x)::z9 f v r) from rfl];by_cases hk:k=f
  .rw[ao hk,aB,aB];lia
  .rw[ak hk,aB,aB];lia
theorem RelO.some_of {v:V}{o:Option Ag}(r:RelO (some v) o):∃u,o=some u/\RelV v u:=by
 cases o with
 |none=>exact(show False from r).elim
 |some u=>exact⟨u,rfl,r⟩
theorem RelO.none_of {o:Option Ag}(r:RelO none o):o=none:=by
 cases o with
 |none=>rfl
 |some u=>exact(show False from r).elim
theorem qu7 {v:V}{u:Ag}(r:RelV v u):W.handedIn u=true:=by
 cases v with
 |non=>cases(show u=Value.none from r);rfl
 |bl b=>cases(show u=Value.bool b from r);rfl
 |int i=>obtain⟨t,e⟩:=(show ∃t,u=Value.int i t from r);cases e;rfl
 |str x=>obtain⟨t,e⟩:=(show ∃t,u=Value.str x t from r);cases e;rfl
 |byt b=>obtain⟨t,e⟩:=(show ∃t,u=Value.bytes b t from r);cases e;rfl
 |flt b=>obtain⟨t,e⟩:=(show ∃t,u=Value.float b t from r);cases e;rfl
 |ref a=>cases(show u=Value.ref a from r);rfl
 |ty n=>cases(show u=Value.type n from r);rfl
section
variable {P:Ac}{w:Ah}{H H':Hp}{h h':Heap}{a C dx:Aj}{fs fs':List (Str×V)}
theorem qxd (hok:HOk P w H h)(e:H a=some (.ins C dx fs)):∃mA,ObjM h a dx C mA/\(∀f,RelO (fs.lookup f) (mA f))/\PySem.Within mA (fs.map (·.1))/\fs.length<=1000/\H dx=some (.own a):=by obtain⟨d,z,F,ob,mA,n,r,q⟩:=(show ObjOk P w H h a (.ins C dx fs) from hok a _ e);exact⟨mA,⟨ob,n,F⟩,r,q,z,d⟩
end
structure Cls (K:Aa)(C:Aj):Prop where
 pg:W.plainGet K C Str.empty=true
 hd:W.hasDictIn K C=true
 po:W.plainOver K C=true
 sa:W.findIn K (.ref C) "__setattr__" = some (some (.builtin "object.__setattr__"))
theorem Cls.get {K:Aa}{C:Aj}(c:Cls K C)(f:Str):W.plainGet K C f=true:=c.pg
def NoAttr (K:Aa)(C:Aj)(f:Str):Prop:=W.findIn K (.ref C) f=some none
theorem NoAttr.taker {K:Aa}{C:Aj}{f:Str}(n:NoAttr K C f):W.takerIn K C f=some none:=by unfold W.takerIn;rw[show W.findIn K (.ref C) f=some none from n];rfl
structure Con (K:Aa)(C:Aj)(f:Str)(v:V)(u:Ag):Prop where
 at_:W.findIn K (.ref C) f=some (some u)
 rel:RelV v u
 get:W.specialIn K u "__get__" = some none
 cp:W.copiedNames.contains f=false
structure Meth (K:Aa)(C:Aj)(m:Str)(f:Aj):Prop where
 at_:W.findIn K (.ref C) m=some (some (.ref f))
 fn:W.isFn K (.ref f)=true
 kp:W.keepIn K (.ref f)=true
section
variable {X:Cx}{pins:List (Aj×Obj)}{σ:St}{H:Hp}{s:Ab}{a C dx:Aj}{fs:List (Str×V)}{f:Str}{v:V}{A:Ae}{E:Ag->Ab->Prop}
theorem qk9 {b:Bool}{Q:Ag->Ab->Prop}(I:Inv X pins σ H s)(e:H a=some (.ins C dx fs))(c:Cls X.K C)(n:NoAttr X.K C f)(l:fs.lookup f=some v)
  (h:∀u s',Inv X pins σ H s'->RelV v u->Q u s'):wpAny (model X.prog X.w) A (getAttr (.ref a) f b) Q E s:=by
 obtain⟨mA,O,r,_,_,_⟩:=qxd I.hok e;obtain⟨u,J,F⟩:=RelO.some_of (v:=v) (o:=mA f) (by rw[<-l];exact r f);exact wzm I.kIn O (c.get f) c.hd n J (qu7 F) (h u _ (I.tok _) F)
theorem Z9 {m:Str}{g:Aj}{pl:Sem Bool}{Q:Ag×List Ag->Ab->Prop}(I:Inv X pins σ H s)(e:H a=some (.ins C dx fs))(c:Cls X.K C)(k:Meth X.K C m g)(l:fs.lookup m=none)
  (h:Q (.ref g,[.ref a]) s):wpAny (model X.prog X.w) A (getMethod (.ref a) m pl) Q E s:=by
 obtain⟨mA,O,r,_,_,_⟩:=qxd I.hok e;have F:mA m=none:=RelO.none_of (by rw[<-l];exact r m);exact ww0 I.kIn O (c.get m) k.at_ k.fn F h
theorem qjc {y:V}{u:Ag}{Q:Unit->Ab->Prop}(I:Inv X pins σ H s)(e:H a=some (.ins C dx fs))(c:Cls X.K C)(n:NoAttr X.K C f)(hl:fs.length<1000)(ry:RelV y u)
  (h:∀s',Inv X pins σ (upd H a (.ins C dx (z9 f y fs))) s'->Q () s'):wpAny (model X.prog X.w) A (setAttr (.ref a) f u) Q E s:=by
 obtain⟨mA,O,r,wi,_,J⟩:=qxd I.hok e;have S:(fs.map (·.1)).length<=sizeLine:=by rw[ah,sizeLine_eq];lia
 refine wvg I.kIn O c.sa c.po n.taker c.hd wi S λh' F L=>h _ ?_;have Z:∃o,h'.get? dx=some o:=let ⟨o,_,_,e',_⟩:=F.ns;⟨o,e'⟩;refine I.write (x:=a) (e:=dx) (by rw[e];exact True.intro) (.inr J) (λb q hb z=>(L.2 b hb).trans z) Z ?_;refine⟨by rw[wf O.ne];exact J,?_,O.ne,F.obj,_,F.ns,λg=>?_,λg U=>?_⟩
 .have:=Wn f y fs;lia
 .show RelO ((z9 f y fs).lookup g) (if g=f then some u else mA g);rw[Wp];by_cases q:g=f
  .rw[ao q,ao q];exact ry
  .rw[ak q,ak q];exact r g
 .by_cases q:g=f
  .rw[q];exact(Wz f y fs).1
  .refine(Wz f y fs).2 g (wi g λz=>U ?_);show(if g=f then some u else mA g)=none;rw[ak q];exact z
theorem Inv.made (I:Inv X pins σ H s):Inv X pins σ (upd (upd H s.heap.objs.size (.own (s.heap.objs.size+1))) (s.heap.objs.size+1) (.ins C s.heap.objs.size []))
  { s with heap:=(s.heap.push W.emptyDict).push (W.instObj C s.heap.objs.size) }:=by
 have J:(s.heap.push W.emptyDict).get? s.heap.objs.size=some W.emptyDict:=aj s.heap rfl;have U:((s.heap.push W.emptyDict).push (W.instObj C s.heap.objs.size)).get? (s.heap.objs.size+1)=some (W.instObj C s.heap.objs.size):=by have:=aj (s.heap.push W.emptyDict) (o:=W.instObj C s.heap.objs.size) rfl;rwa [aU]at this
 have S:(s.heap.push W.emptyDict).Ns s.heap.objs.size (λ_=>none):=⟨W.emptyDict,#[],_,J,rfl,(λe O=>absurd O (by simp)),λ_=>rfl⟩;have Z:=I.laid (a:=s.heap.objs.size) (o:=.own (s.heap.objs.size+1)) (h':=s.heap.push W.emptyDict) (t':=s.toks) (λb u q=>ac _ q) (af _) ⟨_,J⟩;refine Z.laid (a:=s.heap.objs.size+1) (o:=.ins C s.heap.objs.size []) (t':=s.toks) (λb u q=>ac _ q) (Nat.le_of_eq (aU _ _)) ?_;have F:s.heap.objs.size≠s.heap.objs.size+1:=ar (cB _);refine⟨by rw[wf F,wj],aD _,F,U,λ_=>none,(Heap.Ns1.of_empty S).at λo q=>ac _ q,λ_=>True.intro,λy L=>absurd rfl L⟩
theorem wzh {prog:Ac}{w:Ah}{env:Env}{e:Expr}{f:Str}{pos:Pos}{s:Ab}{Q:Ag->Ab->Prop}(hb:attributeBase e f env (eval e env)=eval e env)
  (h:wpAny (model prog w) A (eval e env) (λo s₁=>wpAny (model prog w) A (getAttr o f true) Q E s₁) E s):wpAny (model prog w) A (eval (.Attribute e f pos) env) Q E s :=
 Attribute_any_ h (by rw[arm_eval_Attribute,hb])
end
def tFld (K:Aa)(ta:TE)(f:Str):TE:=λσ H Q=>ta σ H λx H1=>∃a C dx fs v,x=.ref a/\H1 a=some (.ins C dx fs)/\Cls K C/\NoAttr K C f/\fs.lookup f=some v/\Q v H1
def sFld (K:Aa)(ta tv:TE)(f:Str):TS:=λD σ H=>tv σ H λy H1=>ta σ H1 λx H2=>∃a C dx fs,x=.ref a/\H2 a=some (.ins C dx fs)/\Cls K C/\NoAttr K C f/\fs.length<1000 /\
 D.nx σ (upd H2 a (.ins C dx (z9 f y fs)))
section
variable {X:Cx}{o e value:Expr}{f:Str}{pos pos' tpos:Pos}{ta tv:TE}
theorem zt (he:PE X e ta)(hb:attributeBase e f X.env (eval e X.env)=eval e X.env):PE X (.Attribute e f pos) (tFld X.K ta f):=by intro pins s σ H Q I h;refine wzh hb (thn (he pins s σ H _ I h) λu s1 ⟨x,H1,I1,rx,a,C,dx,fs,v,ex,ea,c,n,l,q⟩=>?_);subst ex;obtain rfl:u=Value.ref a:=rx;exact qk9 I1 ea c n l λL s2 J F=>⟨v,H1,J,F,q⟩
theorem um (ha:PE X o ta)(hv:PE X value tv)(hs:swapsWith value (some (.Attribute o f pos')) pos.line X.env=pure false):PS X (.Assign [.Attribute o f pos'] value pos) (sFld X.K ta tv f):=by intro pins s σ H D I h;refine plainObj_wpAny_Assign_Attribute (thn (hv pins s σ H _ I h) λu s1 ⟨y,H1,I1,ry,q⟩=>thn (ha pins s1 σ H1 _ I1 q) λov s2 ⟨x,H2,I2,rx,a,C,dx,fs,ex,ea,c,n,l,q2⟩=>?_) hs;subst ex;obtain rfl:ov=Value.ref a:=rx;exact qjc I2 ea c n l ry λJ F=>⟨σ,_,F,q2⟩
end
section
variable {X:Cx}{pins:List (Aj×Obj)}{σ:St}{H:Hp}{s:Ab}{A:Ae}{E:Ag->Ab->Prop}{Q:Ag->Ab->Prop}{c:Ag}{b:Bool}
inductive TyOf (K:Aa) (H:Hp):V->Ag->Prop where
 |non:TyOf K H .non (.type "NoneType")
 |bl (x:Bool):TyOf K H (.bl x) (.type "bool")
 |int (i:Int):TyOf K H (.int i) (.type "int")
 |str (x:Str):TyOf K H (.str x) (.type "str")
 |flt (x:UInt64):TyOf K H (.flt x) (.type "float")
 |lst {a:Aj} {xs:List V} (e:H a=some (.lst xs)):TyOf K H (.ref a) (.type "list")
 |frz {a:Aj} {o:Obj} {xs:List V} (e:H a=some (.frz o (.lst xs))):TyOf K H (.ref a) (.type "list")
 |tup {a:Aj} {xs:List V} (e:H a=some (.tup xs)):TyOf K H (.ref a) (.type "tuple")
 |dK {a:Aj} {kvs:List (Key×V)} (e:H a=some (.dK kvs)):TyOf K H (.ref a) (.type "dict")
 |dT {a:Aj} {kvs:List (List Key×V)} (e:H a=some (.dT kvs)):TyOf K H (.ref a) (.type "dict")
 |ins {a C dx:Aj} {fs:List (Str×V)} (e:H a=some (.ins C dx fs)) (cl:Cls K C) (ha:W.findIn K (.ref C) "__class__" = some (some (.builtin "object.__class__")))
   (hn:W.specialIn K (.builtin "object.__class__") "__get__" = some (some (.builtin "getset_descriptor.__get__"))) (htk:W.takesIn K (.builtin "object.__class__")=some true)
   (hm:W.mroIn K C (.type "object")=some true):TyOf K H (.ref a) (.ref C)
end
structure Room (k:Nat)(A:Ae):Prop where
 hd:A.handled=none
 dp:A.depth+3*k+5<recursionLimit
 un:A.units+16*k+200<cLine
theorem Room.mono {j k:Nat}{A:Ae}(r:Room k A)(h:j<=k):Room j A:=⟨r.hd,by have:=r.dp;lia,by have:=r.un;lia⟩
theorem Room.deeper {k:Nat}{A:Ae}(r:Room (k+1) A)(env:Env):Room k (A.deeper env) :=
 ⟨r.hd,by have:=r.dp;show A.depth+1+3*k+5<_;lia,by have:=r.un;show A.units+3+16*k+200<_;lia⟩
theorem qju {A:Ae}{C:Aj}{us:List Ag}{kw:List (Str×Ag)}:(A.under (.builtin "type.__call__" ⟨.ref C::us,kw⟩)).depth=A.depth+1:=by
 first | rfl | simp[Around.under,Code.weight,Code.isCreation,Code.isGuard,Code.isCaller,Code.frames,Code.isFrame,guardIds]
theorem qkh {A:Ae}{C:Aj}{us:List Ag}{kw:List (Str×Ag)}:(A.under (.builtin "type.__call__" ⟨.ref C::us,kw⟩)).units=A.units+1:=by
 first | rfl | simp[Around.under,Code.cUnits,Code.frames,Code.isFrame]
theorem Room.make {k:Nat}{A:Ae}(r:Room (k+1) A)(C:Aj)(us:List Ag)(kw:List (Str×Ag)):Room k (A.under (.builtin "type.__call__" ⟨.ref C::us,kw⟩)) :=
 ⟨r.hd,by have:=r.dp;rw[qju];lia,by have:=r.un;rw[qkh];lia⟩
theorem Room.depth {k:Nat}{A:Ae}(r:Room k A):A.depth<recursionLimit:=by have:=r.dp;lia
theorem Room.units {k:Nat}{A:Ae}(r:Room k A):A.units+64<cLine:=by have:=r.un;lia
theorem Room.units0 {k:Nat}{A:Ae}(r:Room k A):A.units<cLine:=by have:=r.un;lia
def qqq:TA:=λ_ H Q=>Q [] H
def k8 (ta:TE)(tr:TA):TA:=λσ H Q=>ta σ H λx H1=>tr σ H1 λxs H2=>Q (x::xs) H2
section
variable {X:Cx}{e:Expr}{es:List Expr}{te:TE}{t:TA}{pos:Pos}
theorem wx:PA X [] qqq:=λ_ _ _ _ H Q I h=>dS ⟨[],H,I,.nil,h⟩
theorem w8 (ha:PE X e te)(hr:PA X es t)(hs:autoParam (starEach (e::es) X.env=(false,eval e X.env)::starEach es X.env) aU4._auto_1):PA X (e::es) (k8 te t):=by intro pos pins s σ H Q I h;rw[hs];show wpAny _ _ (spliced ((false,eval e X.env)::backTo pos (starEach es X.env))) _ _ s;refine dG (thn (ha pins s σ H _ I h) λu s1 ⟨x,H1,I1,r1,q1⟩=>?_);exact thn (hr pos pins s1 σ H1 _ I1 q1) λus s2 ⟨xs,H2,I2,r2,q2⟩=>⟨x::xs,H2,I2,.cons r1 r2,q2⟩
def tTup (t:TA):TE:=λσ H Q=>t σ H λxs H1=>xs.length<=sizeLine/\∀p,H1 p=none->Q (.ref p) (upd H1 p (.tup xs))
def tLst (t:TA):TE:=λσ H Q=>t σ H λxs H1=>xs.length<=sizeLine/\∀p,H1 p=none->Q (.ref p) (upd H1 p (.lst xs))
theorem jj {x1}(h:PA X es t):PE X (.Tuple es x1 pos) (tTup t):=by intro pins s σ H Q I F;refine wpAny_Tuple_spliced (thn (h pos pins s σ H _ I F) λus s1 ⟨xs,H1,I1,r,z,q⟩=>⟨by rw[<-r.length];exact z,?_⟩);have J:H1 s1.heap.objs.size=none:=I1.hok.fresh (af _);refine⟨.ref s1.heap.objs.size,upd H1 s1.heap.objs.size (.tup xs),I1.laid (t':=s1.toks) (λb u e=>ac _ e) (af _) ?_,rfl,q _ J⟩;exact⟨z,us,r,⟨_,aj _ rfl,rfl,_,rfl⟩⟩
theorem vk (h:PA X es t):PE X (.List es pos) (tLst t):=by intro pins s σ H Q I F;refine wpAny_List_spliced (thn (h pos pins s σ H _ I F) λus s1 ⟨xs,H1,I1,r,z,q⟩=>⟨by rw[<-r.length];exact z,?_⟩);have J:H1 s1.heap.objs.size=none:=I1.hok.fresh (af _);refine⟨.ref s1.heap.objs.size,upd H1 s1.heap.objs.size (.lst xs),I1.laid (t':=s1.toks) (λb u e=>ac _ e) (af _) ?_,rfl,q _ J⟩;exact⟨z,us,0,r,aj _ rfl⟩
end
abbrev Sp:=List V->Hp->VK->XK->Prop
abbrev CXT:=List Env->Hp->Ab->XK->Ag->Ab->Prop
structure Env0 (P:Ac)(w:Ah)(K:Aa)(mg:Str->Option Ag)(base:Heap)(A:Ae)(outer:List Env)(s:Ab)(H:Hp):Prop where
 frames:A.frames=some outer
 mod:Mod K mg base
 bs:∀b o,base.get? b=some o->s.heap.get? b=some o/\H b=none
 bsz:base.objs.size<=s.heap.objs.size
 funs:s.heap.FunFrames base outer
 frf:∀b∈frs outer,H b=none
 hok:HOk P w H s.heap
 bare:AllBare s.gens
def CE (outer:List Env)(P:Ac)(w:Ah)(H:Hp)(s:Ab)(Q:VK)(u:Ag)(s':Ab):Prop :=
 ∃v H',s'.os=s.os/\AllBare s'.gens/\Un (frs outer) [] H H' s.heap s'.heap/\HOk P w H' s'.heap/\RelV v u/\Q v H'
def CR (CX:CXT)(outer:List Env)(P:Ac)(w:Ah)(H:Hp)(s:Ab)(Q:VK)(E:XK)(r:Result)(s':Ab):Prop :=
 match r with
 |.ok (.ret u)=>CE outer P w H s Q u s'
 |.ok _=>False
 |.error e=>CX outer H s E e s'
structure FnOk (P:Ac)(w:Ah)(K:Aa)(mg:Str->Option Ag)(base:Heap)(CX:CXT)(k:Nat)(f:Aj)(fd:Ad)(ps:List Str)(sp:Sp):Prop where
 len:∀vs H Q E,sp vs H Q E->vs.length=ps.length
 run:∀(A:Ae) (outer:List Env) (s:Ab) (H:Hp) (args:Args) (us:List Ag) (vs:List V) (Q:VK) (E:XK),Room k A->Env0 P w K mg base A outer s H->BindsTo s fd args (ps.zip us)->Vals vs us->sp vs H Q E ->
  codeAny (model P w) A (.call (.ref f) args) (CR CX outer P w H s Q E) s
theorem Env0.make {P:Ac}{w:Ah}{K:Aa}{mg:Str->Option Ag}{base:Heap}{A:Ae}{outer:List Env}{s:Ab}{H:Hp}(e:Env0 P w K mg base A outer s H)(C:Aj)(us:List Ag)(kw:List (Str×Ag)) :
  Env0 P w K mg base (A.under (.builtin "type.__call__" ⟨.ref C::us,kw⟩)) outer s H:=⟨by first | exact e.frames | (simpa [Around.under,Code.envs,Code.isFrame,pushEnvs] using e.frames),e.mod,e.bs,e.bsz,e.funs,e.frf,e.hok,e.bare⟩
section
variable {X:Cx}{pins:List (Aj×Obj)}{σ:St}{H:Hp}{s s':Ab}
theorem Inv.env0 (I:Inv X pins σ H s):Env0 X.prog X.w X.K X.mg X.base X.A X.stack s H :=
 ⟨I.ok.frames,I.ok.mod,I.bs,aQ I.ok.bsz I.sz,I.stack,I.stkFree,I.hok,I.bare⟩
theorem Inv.after {Q:VK}{u:Ag}(I:Inv X pins σ H s)(h:CE X.stack X.prog X.w H s Q u s'):EP X pins σ Q u s':=by obtain⟨v,H',os,S,F,L,r,q⟩:=h;obtain⟨O,g,d,t,J⟩:=s';obtain rfl:J=s.os:=os;exact⟨v,H',I.call (h':=O) (g':=g) (d':=d) (t':=t) (ch:=[]) F L S (λb z=>absurd z (by simp)),r,q⟩
end
def Binds (K:Aa)(fd:Ad)(ps:List Str)(ds:List Ag):Prop :=
 ∀(s:Ab) (us:List Ag),K.In s.heap->(us++ds).length=ps.length->BindsTo s fd ⟨us,[]⟩ (ps.zip (us++ds))
theorem Binds.all {K:Aa}{fd:Ad}{ps:List Str}(h:∀us:List Ag,us.length=ps.length->bindArgs fd ⟨us,[]⟩=pure (ps.zip us)):Binds K fd ps []:=λs us _ hl=>by rw[bB]at hl ⊢;exact .of_eq (h us hl)
section
variable {X:Cx}{CX:CXT}{k:Nat}{f C:Aj}{fd:Ad}{ps:List Str}{sp:Sp}{dvs:List V}{ds:List Ag}{E:XK}{x m:Str}{p pos apos:Pos}{e o:Expr}{es:List Expr}{ta:TE}{t:TA}
structure Mk (K:Aa)(C f:Aj):Prop where
 makes:W.makesIn K C=true
 init:W.findIn K (.ref C) "__init__" = some (some (.ref f))
 fn:W.isFn K (.ref f)=true
 kp:W.keepIn K (.ref C)=true
end
section
variable {X:Cx}{CX:CXT}{k:Nat}{f C:Aj}{fd:Ad}{ps ks:List Str}{sp:Sp}{E:XK}{x m:Str}{p pos apos kpos:Pos}{e o:Expr}{es:List Expr}{kws:List Keyword}{te ta:TE}{t tk:TA}{nm:Option Str}
structure KBinds (K:Aa)(fd:Ad)(ps ks:List Str)(g:List Ag->List Ag->List Ag)(gV:List V->List V->List V):Prop where
 to:∀(s:Ab) (us ws:List Ag),K.In s.heap->(g us ws).length=ps.length->BindsTo s fd ⟨us,ks.zip ws⟩ (ps.zip (g us ws))
 rel:∀ {vs:List V} {us:List Ag} {zs:List V} {ws:List Ag},Vals vs us->Vals zs ws->Vals (gV vs zs) (g us ws)
variable {g:List Ag->List Ag->List Ag}{gV:List V->List V->List V}
end
structure FnScope (N P:List Str)(sc:Scope):Prop where
 kind:sc.kind=.function
 co:sc.isCoroutine=false
 gen:sc.isGenerator=false
 nd:N.Nodup
 pre:N.take P.length=P
 par:∀x∈P,sc.names.lookup x=some .local\/sc.names.lookup x=some .cell
 nofree:∀y∈sc.names,y.2≠.free
theorem qqn {kindOf:Str->Option NameKind}{x:Str}:∀ {binds:List (Str×Ag)} {m:Str->Option Ag},(∀v,(x,v)∉binds)->bindL kindOf binds m x=m x
 |[],_,_=>rfl
 |(n,v)::r,m,h=>by
  unfold bindL;rw[qqn λw hw=>h w (bc _ hw)];split
  .have:x≠n:=by rintro rfl;exact h v bV
   simp[this]
  .rfl
theorem qq2 {kindOf:Str->Option NameKind}{x:Str}:∀ {binds:List (Str×Ag)} {m:Str->Option Ag},(∀v,(x,v)∉binds)->bindC kindOf binds m x=m x
 |[],_,_=>rfl
 |(n,v)::r,m,h=>by
  unfold bindC;rw[qq2 λw hw=>h w (bc _ hw)];split
  .rfl
  .have:x≠n:=by rintro rfl;exact h v bV
   simp[this]
theorem qqr {kindOf:Str->Option NameKind}{x:Str}{v:Ag}:∀ {P:List Str} {vs:List Ag} {i:Nat} {m:Str->Option Ag},P.Nodup->P[i]?=some x->vs[i]?=some v->kindOf x=some .local ->
  bindL kindOf (P.zip vs) m x=some v
 |[],_,_,_,_,h,_,_=>by simp at h
 |_::_,[],_,_,_,_,h,_=>by simp at h
 |p::P,w::vs,0,m,nd,h1,h2,hk=>by simp at h1 h2;subst h1;subst h2;show bindL kindOf ((p,w)::P.zip vs) m p=_;unfold bindL;rw[qqn λv hv=>(be.mp nd).1 (eN hv).1,ao hk];simp
 |p::P,w::vs,i+1,m,nd,h1,h2,hk=>by show bindL kindOf ((p,w)::P.zip vs) m x=_;unfold bindL;exact qqr (i:=i) (be.mp nd).2 (by simpa using h1) (by simpa using h2) hk
theorem qwb {kindOf:Str->Option NameKind}{x:Str}{v:Ag}:∀ {P:List Str} {vs:List Ag} {i:Nat} {m:Str->Option Ag},P.Nodup->P[i]?=some x->vs[i]?=some v->kindOf x≠some .local ->
  bindC kindOf (P.zip vs) m x=some v
 |[],_,_,_,_,h,_,_=>by simp at h
 |_::_,[],_,_,_,_,h,_=>by simp at h
 |p::P,w::vs,0,m,nd,h1,h2,hk=>by simp at h1 h2;subst h1;subst h2;show bindC kindOf ((p,w)::P.zip vs) m p=_;unfold bindC;rw[qq2 λv hv=>(be.mp nd).1 (eN hv).1,ak hk];simp
 |p::P,w::vs,i+1,m,nd,h1,h2,hk=>by show bindC kindOf ((p,w)::P.zip vs) m x=_;unfold bindC;exact qwb (i:=i) (be.mp nd).2 (by simpa using h1) (by simpa using h2) hk
def Qu (N:List Str)(vs:List V):St:=vs.map some++List.replicate (N.length-vs.length) none
def Q7 (CX:CXT)(P:Ac)(w:Ah)(K:Aa)(mg:Str->Option Ag)(base:Heap)(N:List Str)(qual:Str)(scope:Scope)(f:Aj)(cd:Ag)(A:Ae)(outer:List Env)(s:Ab)(H:Hp)(E:XK):Cx where
 prog:=P
 w:=w
 K:=K
 mg:=mg
 base:=base
 A:=A.deeper (envOfC qual scope s.heap.objs.size f cd)
 N:=N
 s₀:=s
 H₀:=H
 env:=envOfC qual scope s.heap.objs.size f cd
 outer:=outer
 stack:=envOfC qual scope s.heap.objs.size f cd::outer
 ex:=[]
 calm:=true
 fn:=λ_=>true
 pn:=[]
 xe:=λe s'=>wpAny (model P w) (A.deeper (envOfC qual scope s.heap.objs.size f cd)) (leaving (envOfC qual scope s.heap.objs.size f cd) e) (λ_ s''=>CX outer H s E e s'') (λe' s''=>CX outer H s E e' s'') s'
theorem qzs {sc:Scope}{n:Nat}{x:Str}(h:sc.names.lookup x=some .cell):∃c,(cellsFrom n sc.names []).lookup x=some c:=by have q:=W.cellsFrom_some sc.names n [] (.inl h);exact cH.mp q
theorem wqz {CX:CXT}{P:Ac}{w:Ah}{K:Aa}{mg:Str->Option Ag}{base:Heap}{N ps:List Str}{qual:Str}{scope:Scope}{f:Aj}{cd:Ag}{A:Ae}{outer:List Env}{s s1:Ab}{H:Hp}{E:XK}{us:List Ag}{vs:List V}
  (S:FnScope N ps scope) (hd:A.handled=none) (e0:Env0 P w K mg base A outer s H) (hl:vs.length=ps.length) (r:Vals vs us)
  (x:InCallC s s.heap.objs.size (bindL (envOfC qual scope s.heap.objs.size f cd).kindOf (ps.zip us) λ_=>none) (cellsFrom (s.heap.objs.size+1) scope.names []) (bindC (envOfC qual scope s.heap.objs.size f cd).kindOf (ps.zip us) λ_=>none) s1) :
  Inv (Q7 CX P w K mg base N qual scope f cd A outer s H E) [] (Qu N vs) H s1:=by
 have ad:ps.length<=N.length:=by have:=bI List.length S.pre;rw[bD]at this;lia
 obtain⟨h1,tk,rfl,U⟩:=x.done;have J:∀b:Aj,b∉(Q7 CX P w K mg base N qual scope f cd A outer s H E).ex:=λb z=>absurd (show b∈([]:List Aj) from z) (by simp);refine⟨⟨e0.mod,S.kind,rfl,rfl,af _,λy z c h1 h2=>?_,λy F=>?_,λy c _ h=>?_,λ_=>hd,Around.frames_deeper e0.frames,.inr ⟨rfl,rfl⟩,λb z=>absurd z (J b),e0.bs,e0.bsz,λb _ _=>J b,λb z=>absurd z (J b),e0.funs,e0.frf⟩,
  rfl,e0.bare,Un.kept U,⟨_,x.toInCall.ns,λi y v h1 h2 h3=>?_⟩,λy c h=>⟨_,x.cell y c h⟩,e0.hok.fresh (af _),λy c h=>?_,λp I=>absurd (show p∈([]:List (Aj×Obj)) from I) (by simp),e0.hok.kept U,?_⟩
 .exact name_of_addr x.apart (bT h1) (bT h2)
 .have F:scope.names.lookup y=some .cell\/scope.names.lookup y=some .free:=F;rcases F with F|F
  .exact qzs F
  .exact absurd rfl (S.nofree _ (bT F))
 .exact aZ (x.above y c (bT h))
 .have hi:i<vs.length:=by
   unfold Qu at h2;by_cases hi:i<vs.length
   .exact hi
   .rw[bg (by simpa using hi)]at h2;rw[List.getElem?_replicate]at h2;split at h2 <;> cases h2
  have ha:vs[i]?=some v:=by
   unfold Qu at h2;rw[bC (by simpa using hi),aI]at h2;cases e:vs[i]? with
   |none=>rw[e]at h2;cases h2
   |some a=>rw[e]at h2;cases h2;rfl
  obtain⟨u,O,Z⟩:=r.get ha;have I:ps[i]?=some y:=by rw[<-S.pre,List.getElem?_take_of_lt ⋯];exact h1
  have L:ps.Nodup:=by rw[<-S.pre];exact S.nd.sublist (List.take_sublist _ _)
  refine⟨u,Z,?_⟩;rcases S.par y (bh I) with k|k
  .exact .inl ⟨k,qqr L I O k⟩
  .obtain⟨c,e⟩:=qzs (n:=s.heap.objs.size+1) k;refine .inr ⟨.inl k,c,e,?_⟩;have q:=x.cell y c e;rw[qwb L I O (by show scope.names.lookup y≠_;rw[k];decide)]at q;exact q
 .exact e0.hok.fresh (aZ (x.above y c (bT h)))
 .unfold Qu;show _=N.length;rw[aX,ah,List.length_replicate];lia
theorem fn_of {CX:CXT}{P:Ac}{w:Ah}{K:Aa}{mg:Str->Option Ag}{base:Heap}{k:Nat}{f:Aj}{name qual:Str}{params:Arguments}{body:List Stmt}{scope:Scope}{dV kV doc pm cdv ct oc:Ag}{an od:Option Aj}
  {osl:Array (Option Ag)} {N ps:List Str} {sp:Sp} (lk:K.lookup f=some ⟨oc,od,.func (W.fnOf name qual params body scope dV kV doc pm an cdv ct),osl⟩) (hcd:W.codeIn K cdv qual=true) (S:FnScope N ps scope)
  (len:∀vs H Q E,sp vs H Q E->vs.length=ps.length)
  (hbody:∀(A:Ae) (outer:List Env) (s:Ab) (H:Hp) (vs:List V) (Q:VK) (E:XK),Room k (A.deeper (envOfC qual scope s.heap.objs.size f cdv))->sp vs H Q E ->
   ∃t,PSs (Q7 CX P w K mg base N qual scope f cdv A outer s H E) body t/\t { nx:=λ_ H'=>Q .non H',rt:=Q } (Qu N vs) H) :
  FnOk P w K mg base CX (k+1) f (W.fnOf name qual params body scope dV kV doc pm an cdv ct) ps sp:=by
 refine⟨len,λA outer s H a2 us vs Q E U F hb r ad=>?_⟩;have hl:=len _ _ _ _ ad;have KX:K.In s.heap:=F.mod.kin.keeps λb o e=>(F.bs b o e).1;have a0:s.heap.NoLimit:=F.mod.nolimit.keeps λb o e=>(F.bs b o e).1;have a1:∀y∈ps.zip us,scope.names.lookup y.1=some .local\/(scope.names.lookup y.1=some .cell/\((cellsFrom (s.heap.objs.size+1) scope.names []).lookup y.1).isSome=true):=λ⟨n,v⟩ hy=>by
  rcases S.par n (eN hy).1 with q|q
  .exact .inl q
  .exact .inr ⟨q,W.cellsFrom_some _ _ _ (.inl q)⟩
 refine codeAny_call_function U.depth (KX _ _ lk) rfl S.co S.gen rfl (W.codeRec_of KX hcd) (hb _ _ _ _ ?_);refine wpAny_newFunctionEnv_cells S.kind a1 λenv he Z x=>?_;subst he;refine⟨a0.keeps x.toInCall.keep,codeAny_func ?_⟩;obtain⟨t,ht,hq⟩:=hbody A outer s H vs Q E (U.deeper _) ad;have I:Inv (Q7 CX P w K mg base N qual scope f cdv A outer s H E) [] (Qu N vs) H Z:=wqz S U.hd F hl r x;refine aG (ht [] Z (Qu N vs) H _ I hq) (λfl s' hs=>?_) λe s' hs=>hs;have ap:∀ {L:St} {H':Hp} {v:V} {u:Ag},Inv (Q7 CX P w K mg base N qual scope f cdv A outer s H E) [] L H' s'->RelV v u->Q v H'->CE outer P w H s Q u s' :=
  λ{L H' v u} J O q=>⟨v,H',J.os,J.bare,J.base,J.hok,O,q⟩
 cases fl with
 |ret u =>
  obtain⟨v,L,H',J,O,q⟩:=hs;exact ap J O q
 |next =>
  obtain⟨L,H',J,q⟩:=hs;exact ap (v:=V.non) (u:=Value.none) J rfl q
 |brk =>
  obtain⟨_,_,_,q⟩:=hs;exact False.elim q
 |cont =>
  obtain⟨_,_,_,q⟩:=hs;exact False.elim q
section
variable {X:Cx}{x:Str}{p pos:Pos}{e:Expr}{es:List Expr}{t:TA}{id T:String}{r:List V->Hp->VK->Prop}
def tCB (r:List V->Hp->VK->Prop)(t:TA):TE:=λσ H Q=>t σ H λvs H1=>r vs H1 Q
theorem w4 (hc:kj X (.builtin id) r)(hg:Gl X x)(hm:X.mg x=none)(hv:bootBuiltins x=some (.builtin id))(ha:PA X (e::es) t)(hn:autoParam (x ≠ "__name__") aU2._auto_1)(hdb:autoParam ((x==("__debug__" : Str))=false) aU1._auto_1)
  (he:autoParam (starEach (e::es) X.env=(false,eval e X.env)::starEach es X.env) aU4._auto_1) (hpl:autoParam ((backTo pos (starEach es X.env)).any (·.1)=false) aU4._auto_1):PE X (.Call (.Name x p) (e::es) [] pos) (tCB r t):=by
 intro pins s σ H Q I h;refine bJ (u3 I hg hm hv ?_ hn hdb);exact PyProof.Rows.callWith_builtin1 (thn (ha pos pins s σ H _ I h) λus s1 ⟨vs,H1,I1,r1,q1⟩=>hc pins s1 σ H1 vs us Q I1 r1 q1) he hpl
theorem y3 (hc:kj X (.type T) r)(hg:Gl X x)(hm:X.mg x=none)(hv:bootBuiltins x=some (.type T))(ha:PA X (e::es) t)(hn:autoParam (x ≠ "__name__") aU2._auto_1)(hdb:autoParam ((x==("__debug__" : Str))=false) aU1._auto_1)
  (he:autoParam (starEach (e::es) X.env=(false,eval e X.env)::starEach es X.env) aU4._auto_1) (hpl:autoParam ((backTo pos (starEach es X.env)).any (·.1)=false) aU4._auto_1):PE X (.Call (.Name x p) (e::es) [] pos) (tCB r t):=by
 intro pins s σ H Q I h;refine bJ (u3 I hg hm hv ?_ hn hdb);exact bt (thn (ha pos pins s σ H _ I h) λus s1 ⟨vs,H1,I1,r1,q1⟩=>hc pins s1 σ H1 vs us Q I1 r1 q1) he hpl
end
end L2
namespace HT
open PySem PyProof.Rows
section
open PySem.SeqAt
open PySem.AutoSeq1 (wpAny_loadPart')
open PySem.MeetsSeq PySem.MeetsSeq2 PySem.MeetsSeq3
end
section
variable {prog:Ac}{w:Ah}{A:Ae}{E:Ag->Ab->Prop}{s:Ab}
theorem cat_tup {t b:Aj}{vs ws:List Ag}{Q:Ag->Ab->Prop}(ht:IsTup s.heap t vs.toArray)(hb:IsTup s.heap b ws.toArray)(hv:vs≠[])
  (h1:ws=[]->Q (.ref t) s) (h2:ws≠[]->Q (.ref s.heap.objs.size) { s with heap:=s.heap.push { cls:=.type "tuple",data:=.seq (vs++ws).toArray } })
  (hsz:vs.length+ws.length<=sizeLine):wpAny (model prog w) A (binaryOp .Add (.ref t) (.ref b)) Q E s:=by
 obtain⟨⟨cls,dd,data,L⟩,I,hc,n,U⟩:=id ht;obtain⟨⟨ap,ad,an,J⟩,F,Z,O,S⟩:=id hb;simp only at hc U Z S;subst hc U Z S;have e:vs.toArray++ws.toArray=(vs++ws).toArray:=by simp
 by_cases hw:ws=[]
 .exact concat_meets ⟨_,I,rfl⟩ ⟨_,F,rfl⟩ eh seq_tuple_add cO cN (cI _ _)
   (tuple_addW1 t b vs.toArray ws.toArray n O dd ad L J (by simpa using hv) (by simp[hw])) ⟨I,F,h1 hw⟩
 .refine concat_meets ⟨_,I,rfl⟩ ⟨_,F,rfl⟩ eh seq_tuple_add cO cN (cI _ _)
   (tuple_addW2 t b vs.toArray ws.toArray n O dd ad L J (by simpa using hv) (by simpa using hw) (by rw[au,au];exact hsz)) ⟨I,F,?_⟩
  rw[e];exact h2 hw
def sIx (n d:Nat):Option Int->Nat
 |none=>d
 |some v=>if v<0 then(v+(n:Int)).toNat else min v.toNat n
theorem sIx_none (n d:Nat):sIx n d none=d:=rfl
theorem sIx_nat (n d k:Nat):sIx n d (some (k:Int))=min k n:=by show(if(k:Int)<0 then((k:Int)+(n:Int)).toNat else min (k:Int).toNat n)=min k n;rw[ak ⋯,bR]
theorem sIx_le (n d:Nat)(hd:d<=n)(o:Option Int):sIx n d o<=n:=by
 cases o with
 |none=>exact hd
 |some v =>
  show(if v<0 then(v+(n:Int)).toNat else min v.toNat n)<=n;by_cases hv:v<0
  .rw[ao hv];lia
  .rw[ak hv];exact Nat.min_le_right _ _
theorem qj9 (v:Int)(n d:Nat):(if v<0 then max (v+(n:Int)) 0 else min v (n:Int))=((sIx n d (some v):Nat):Int):=by
 show(if v<0 then max (v+(n:Int)) 0 else min v (n:Int))=(((if v<0 then(v+(n:Int)).toNat else min v.toNat n):Nat):Int);by_cases hv:v<0
 .simp only[ao hv];lia
 .simp only[ak hv];lia
theorem qjs (lo hi:Option Int)(n:Nat):Builtin.Slice.sliceAdjust lo hi 1 (n:Int)=(((sIx n 0 lo:Nat):Int),((sIx n n hi:Nat):Int)):=by
 have h1:¬ ((1:Int)<0):=by lia
 unfold Builtin.Slice.sliceAdjust;simp only[h1,eU];refine Prod.ext ?_ ?_
 .cases lo with
  |none=>rfl
  |some v=>exact qj9 v n 0
 .cases hi with
  |none=>rfl
  |some v=>exact qj9 v n n
theorem qjt (i j:Nat):Builtin.Slice.slicePlaces (i:Int) (j:Int) 1=j-i:=by
 unfold Builtin.Slice.slicePlaces;have h1:(1:Int)>0:=by lia
 simp only[h1,dU,Int.ediv_one];split <;> lia
theorem Zs {v:Ag}{o:Option Int}{Q:Option Int->Ab->Prop}(p:IsPart v o)(h:Q o s):wpAny (model prog w) A (Builtin.Slice.slicePartIndex v) Q E s:=by
 cases p with
 |none=>exact slicePart_none h
 |int i t=>exact slicePart_int h
theorem j6 {sl:Aj}{vl vu:Ag}{lo hi:Option Int}{n:Nat}{Q:Int×Int×Nat->Ab->Prop}(hs:s.heap.IsSliceOf sl vl vu .none)(pl:IsPart vl lo)(pu:IsPart vu hi)
  (h:Q (((sIx n 0 lo:Nat):Int),1,sIx n n hi-sIx n 0 lo) s):wpAny (model prog w) A (Builtin.Slice.sliceApplied (.ref sl) (pure (n:Int))) Q E s:=by
 obtain⟨os,F,J,I⟩:=id hs;unfold Builtin.Slice.sliceApplied Builtin.Slice.sliceFields;refine aa (aa (aR F I (x:=vl) rfl (aa (aR F I (x:=vu) rfl (aa (aR F I (x:=.none) rfl (ag ?_)))))));refine aa (slicePart_none ?_);show wpAny _ _ (if((1:Int)==0)=true then _ else _) _ _ s;rw[ak ⋯];refine aa (Zs pl (aa (Zs pu (aa (ag ?_)))));show wpAny _ _ (match Builtin.Slice.sliceAdjust lo hi 1 (n:Int) with|(lo,hi)=>pure (lo,(1:Int),Builtin.Slice.slicePlaces lo hi 1)) _ _ s;rw[qjs lo hi n];show wpAny _ _ (pure (((sIx n 0 lo:Nat):Int),(1:Int),Builtin.Slice.slicePlaces ((sIx n 0 lo:Nat):Int) ((sIx n n hi:Nat):Int) 1)) _ _ s;rw[qjt];exact ag h
theorem wxf (xs:Array Ag)(i k:Nat):((List.range k).filterMap λ(m:Nat)=>xs[((i:Int)+(m:Int)*1).toNat]?).toArray=((xs.toList.drop i).take k).toArray:=by
 have e:(λ(m:Nat)=>xs[((i:Int)+(m:Int)*1).toNat]?)=λm=>xs[i+m]?:=by
  funext m;have:((i:Int)+(m:Int)*1).toNat=i+m:=by lia
  rw[this]
 rw[e];have:=pick_run xs i k;rw[List.filterMap_map]at this;have F:((λx=>xs[x]?)∘λx=>i+x)=λm=>xs[i+m]?:=rfl;rw[F]at this;rw[this]
theorem getItem_tuple_cut {t sl:Aj}{items:Array Ag}{vl vu:Ag}{lo hi:Option Int}{Q:Ag->Ab->Prop}(ht:IsTup s.heap t items)(hs:s.heap.IsSliceOf sl vl vu .none)(pl:IsPart vl lo)(pu:IsPart vu hi)
  (hw:¬ (sIx items.size 0 lo=0/\sIx items.size items.size hi=items.size))
  (h:Q (.ref s.heap.objs.size) { s with heap:=s.heap.push { cls:=.type "tuple",data:=.seq ((items.toList.drop (sIx items.size 0 lo)).take (sIx items.size items.size hi-sIx items.size 0 lo)).toArray } })
  (hsz:items.size<=sizeLine):wpAny (model prog w) A (getItem (.ref t) (.ref sl)) Q E s:=by
 have F:sizeOk (.seq ((items.toList.drop (sIx items.size 0 lo)).take (sIx items.size items.size hi-sIx items.size 0 lo)).toArray):=by show((items.toList.drop (sIx items.size 0 lo)).take (sIx items.size items.size hi-sIx items.size 0 lo)).toArray.size<=sizeLine;rw[au,bD,cZ,bx];lia
 have Z:sIx items.size items.size hi<=items.size:=sIx_le _ _ (af _) hi;obtain⟨os,I,L,ad⟩:=id hs;have O:s.TypeIs (.ref sl) "slice" := ⟨os,I,L⟩;unfold getItem
 try with_reducible refine bn ?_
 first | refine aa (ag ?_) | skip
 refine aa (wpAny_sequenceKey ht.typeIs ⋯ ?_);refine aa (br (name:=Str.ofString "__getitem__") ht.typeIs aY
  (bH aY ht.typeIs entry_tuple_getitem ?_ (args_tuple_getitem _ _)))
 show wpAny _ _ (Builtin.Tuple.tupleItemsOf (.ref t) >>= _) _ _ s;refine aa (tupleItemsOf_ ht ?_);refine aa (eK O ?_);rw[ao ⋯];refine aa (j6 hs pl pu ?_);have J:¬ ((((sIx items.size 0 lo:Nat):Int)==0&&(1:Int)==1&&(sIx items.size items.size hi-sIx items.size 0 lo)==items.size)=true):=by intro q;rw[aO,aO]at q;have U:((sIx items.size 0 lo:Nat):Int)=0:=eq_of_beq q.1.1;have S:sIx items.size items.size hi-sIx items.size 0 lo=items.size:=eq_of_beq q.2;exact hw ⟨⋯,⋯⟩
 show wpAny _ _ (if(((sIx items.size 0 lo:Nat):Int)==0&&(1:Int)==1&&(sIx items.size items.size hi-sIx items.size 0 lo)==items.size)=true then _ else _) _ _ s;rw[ak J,wxf]
 first
  |exact aa (m:=Builtin.Tuple.tupleExact _) (bb (ag ⟨_,rfl,ag h⟩) F)
  |exact aa (m:=Builtin.Tuple.tupleExact _) (bb (aa (ag (ag ⟨_,rfl,ag h⟩))) F)
  |exact aa (aa (m:=Builtin.Tuple.tupleExact _) (bb (ag (ag ⟨_,rfl,ag h⟩)) F))
  |exact aa (aa (m:=Builtin.Tuple.tupleExact _) (bb (ag ⟨_,rfl,ag h⟩) F))
end
end HT
namespace L2
open PySem PySem.Spec PyProof.Rows
abbrev TO:=St->Hp->(Option Int->Hp->Prop)->Prop
def PO (X:Cx)(e:Option Expr)(t:TO):Prop :=
 ∀(pins:List (Aj×Obj)) (s:Ab) (σ:St) (H:Hp) (Q:Option Int->Hp->Prop),Inv X pins σ H s->t σ H Q ->
  wpAny (model X.prog X.w) X.A (evalPart e X.env) (λu s'=>∃o H',Inv X pins σ H' s'/\IsPart u o/\Q o H') X.xe s
def qwh:TO:=λ_ H Q=>Q none H
def wzk (t:TE):TO:=λσ H Q=>t σ H λx H1=>∃i,x=.int i/\Q (some i) H1
theorem qkn {ns:List Int}:∀ {us:List Ag},Vals (ns.map V.int) us->IntsAre us ns:=by
 induction ns with
 |nil=>intro us r;rw[bj]at r;cases r;exact .nil
 |cons n ns ih =>
  intro us r;rw[ay]at r;cases r with
  |cons r1 r2 =>
   obtain⟨t,e⟩:=r1;subst e;exact .cons n t (ih r2)
section
variable {X:Cx}{e:Expr}{te:TE}{lo hi:Option Expr}{tl th:TO}{pos p2:Pos}
theorem qzw:PO X none qwh:=by intro pins s σ H Q I h;rw[evalPart_none];exact ag ⟨none,H,I,.none,h⟩
theorem qzk (h:PE X e te):PO X (some e) (wzk te):=by intro pins s σ H Q I F;rw[evalPart_some];refine thn (h pins s σ H _ I F) λu s1 ⟨x,H1,I1,r1,q1⟩=>?_;obtain⟨i,rfl,q⟩:=q1;obtain⟨t,rfl⟩:=r1;exact⟨some i,H1,I1,.int i t,q⟩
def SlR (X:Cx)(r:V->Option Int->Option Int->Hp->VK->Prop):Prop :=
 ∀(pins:List (Aj×Obj)) (s:Ab) (σ:St) (H:Hp) (x:V) (v vl vu:Ag) (lo hi:Option Int) (sl:Aj) (Q:VK),Inv X pins σ H s->RelV x v->s.heap.IsSliceOf sl vl vu .none->IsPart vl lo->IsPart vu hi->r x lo hi H Q ->
  ∃T id,typeLookup (.type T) "__getitem__" = pure (some (.builtin id))/\s.TypeIs v T/\wpAny (model X.prog X.w) X.A (getItem v (.ref sl)) (EP X pins σ Q) X.xe s
def tSl (r:V->Option Int->Option Int->Hp->VK->Prop)(te:TE)(tl th:TO):TE:=λσ H Q=>te σ H λx H1=>tl σ H1 λl H2=>th σ H2 λu H3=>r x l u H3 Q
theorem Z3 {r:V->Option Int->Option Int->Hp->VK->Prop}(hr:SlR X r)(he:PE X e te)(hl:PO X lo tl)(hu:PO X hi th):PE X (.Subscript e (.Slice lo hi none p2) pos) (tSl r te tl th):=by intro pins s σ H Q I h;refine Subscript_ (thn (he pins s σ H _ I h) λv s1 ⟨x,H1,I1,r1,q1⟩=>?_);refine wpAny_Slice (thn (hl pins s1 σ H1 _ I1 q1) λvl s2 ⟨l,H2,I2,pl,q2⟩=>thn (hu pins s2 σ H2 _ I2 q2) λvu s3 ⟨u,H3,I3,pu,q3⟩=>?_);rw[evalPart_none];refine ag ?_;have O:Inv X pins σ H3 { s3 with heap:=s3.heap.push { cls:=.type "slice",data:=.fields #[vl,vu,.none] } }:=I3.kept (t':=s3.toks) λb ob q=>ac _ q;obtain⟨T,id,L,F,J⟩:=hr pins { s3 with heap:=s3.heap.push { cls:=.type "slice",data:=.fields #[vl,vu,.none] } } σ H3 x v vl vu l u s3.heap.objs.size Q O r1 (Heap.IsSliceOf.new ..) pl pu q3;show wpAny (model X.prog X.w) X.A (subscriptTail e (.Slice lo hi none p2) v (.ref s3.heap.objs.size)) (EP X pins σ Q) X.xe { s3 with heap:=s3.heap.push { cls:=.type "slice",data:=.fields #[vl,vu,.none] } };exact tail_any (ops:=[.ref s3.heap.objs.size,v]) F L J (by with_unfolding_all rfl)
def Wu (xs:List V)(lo hi:Option Int):List V:=(xs.drop (HT.sIx xs.length 0 lo)).take (HT.sIx xs.length xs.length hi-HT.sIx xs.length 0 lo)
theorem Wt (xs:List V)(lo hi:Option Int):(Wu xs lo hi).length<=xs.length:=by unfold Wu;rw[bD,cZ];lia
def rSlT (K:Aa):V->Option Int->Option Int->Hp->VK->Prop:=λx lo hi H Q=>∃a xs,x=.ref a/\SqT K H a xs /\
 ¬ (HT.sIx xs.length 0 lo=0/\HT.sIx xs.length xs.length hi=xs.length)/\∀p,H p=none->Q (.ref p) (upd H p (.tup (Wu xs lo hi)))
theorem sl_tup:SlR X (rSlT X.K):=by
 intro pins s σ H x v vl vu lo hi sl Q I O hs U S h;obtain⟨a,xs,rfl,hx,hw,q⟩:=h;cases O;obtain⟨Z,r,L,J⟩:=I.tuple hx;have F:Z.toArray.size=xs.length:=by rw[au];exact r.length.symm
 refine⟨"tuple",_,aY.lookup,L.typeIs,?_⟩;refine HT.getItem_tuple_cut L hs U S (by rw[F];exact hw) ?_ (by rw[F];exact J);rw[F];refine⟨.ref s.heap.objs.size,_,I.laid (t':=s.toks) (o:=.tup (Wu xs lo hi)) (λb ob q=>ac _ q) (af _) ?_,rfl,q _ (I.hok.fresh (af _))⟩;exact⟨aQ (Wt xs lo hi) J,_,(r.drop (HT.sIx xs.length 0 lo)).take (HT.sIx xs.length xs.length hi-HT.sIx xs.length 0 lo),IsTup.new _ _⟩
def rCatT (K:Aa):R2:=λx y H Q=>∃a b xs ys,x=.ref a/\y=.ref b/\SqT K H a xs/\SqT K H b ys/\xs≠[]/\xs.length+ys.length<=sizeLine /\
 (ys=[]->Q (.ref a) H)/\(ys≠[]->∀p,H p=none->Q (.ref p) (upd H p (.tup (xs++ys))))
theorem Vals.nil_iff {xs:List V}{us:List Ag}(r:Vals xs us):us=[]↔xs=[]:=by
 cases r with
 |nil=>simp
 |cons _ _=>simp
theorem wkw:OpR X (binaryOp .Add) (rCatT X.K):=by intro pins s σ H x y v u Q I S O h;obtain⟨a,b,xs,ys,rfl,rfl,ha,hb,hx,L,Z,U⟩:=h;cases S;cases O;obtain⟨an,J,p1,_⟩:=I.tuple ha;obtain⟨ad,F,p2,_⟩:=I.tuple hb;refine HT.cat_tup p1 p2 (λz=>hx (J.nil_iff.mp z)) (λz=>⟨.ref a,H,I,rfl,Z (F.nil_iff.mp z)⟩) (λz=>?_) (by rw[<-J.length,<-F.length];exact L);refine⟨.ref s.heap.objs.size,_,I.laid (t':=s.toks) (o:=.tup (xs++ys)) (λb ob q=>ac _ q) (af _) ?_,rfl,U (λw=>z (F.nil_iff.mpr w)) _ (I.hok.fresh (af _))⟩;exact⟨by rw[aX];exact L,_,J.append F,IsTup.new _ _⟩
end
def ixN (n:Nat)(i:Int):Option Nat:=if 0<=i then(if i<n then some i.toNat else none) else if -(n:Int)<=i then some (i+n).toNat else none
def atI {α:Type}(xs:List α)(i:Int):Option α:=(ixN xs.length i).bind λj=>xs[j]?
theorem wkv {n:Nat}{i:Int}{j:Nat}(h:ixN n i=some j):seqIndex? i n=some j/\j<n/\-(n:Int)<=i/\i<n:=by
 unfold ixN at h;by_cases h0:0<=i
 .rw[ao h0]at h;by_cases h1:i<n
  .rw[ao h1]at h;have e:i.toNat=j:=al h;exact⟨by rw[seqIndex_of h0 h1,e],⋯,⋯,h1⟩
  .rw[ak h1]at h;cases h
 .rw[ak h0]at h;by_cases h1:-(n:Int)<=i
  .rw[ao h1]at h;have e:(i+n).toNat=j:=al h;exact⟨by rw[seqIndex_neg ⋯ h1,e],⋯,h1,⋯⟩
  .rw[ak h1]at h;cases h
theorem qyp {α:Type}{xs:List α}{i:Int}{v:α}(h:atI xs i=some v):∃j,seqIndex? i xs.length=some j/\xs[j]?=some v/\j<xs.length/\-(xs.length:Int)<=i/\i<xs.length:=by
 unfold atI at h;cases e:ixN xs.length i with
 |none=>rw[e]at h;cases h
 |some j =>
  rw[e]at h;obtain⟨h1,h2,I,F⟩:=wkv e;exact⟨j,h1,h,h2,I,F⟩
theorem y7 {α:Type}{xs:List α}{j:Nat}{v:α}(h:xs[j]?=some v):atI xs (j:Int)=some v:=by
 have F:j<xs.length:=(aT.mp h).1;have e:ixN xs.length (j:Int)=some j:=by unfold ixN;rw[ao ⋯,ao ⋯];simp
 unfold atI;rw[e];exact h
theorem wxg {α:Type}(xs:List α)(v:α):atI (xs++[v]) (-1)=some v:=by
 have F:(xs++[v]).length=xs.length+1:=by simp
 have e:ixN (xs++[v]).length (-1)=some xs.length:=by unfold ixN;rw[F,ak ⋯,ao ⋯];congr 1;lia
 unfold atI;rw[e];show(xs++[v])[xs.length]?=some v;simp
def wvb (b:Expr):Prop:=∀o i,subscripted b false o i=operate [o,i] (getItem o i)
def IxR (X:Cx)(r:R2):Prop :=
 ∀(value slice:Expr) (pins:List (Aj×Obj)) (s:Ab) (σ:St) (H:Hp) (x y:V) (v u:Ag) (Q:VK),Inv X pins σ H s->RelV x v->RelV y u->r x y H Q ->
  subscripted slice false v u=operate [v,u] (getItem v u)->wpAny (model X.prog X.w) X.A (subscriptTail value slice v u) (EP X pins σ Q) X.xe s
def MtR (X:Cx)(id:String)(r:V->List V->Hp->VK->Prop):Prop :=
 ∀(pins:List (Aj×Obj)) (s:Ab) (σ:St) (H:Hp) (x:V) (xs:List V) (v:Ag) (us:List Ag) (Q:VK),Inv X pins σ H s->RelV x v->Vals xs us->r x xs H Q ->
  wpAny (model X.prog X.w) X.A (call (.builtin id) (v::us)) (EP X pins σ Q) X.xe s
section
variable {X:Cx}{a b:Expr}{ta tb:TE}{pos:Pos}
theorem vg {r:R2}(hr:IxR X r)(ha:PE X a ta)(hb:PE X b tb)(hs:wvb b):PE X (.Subscript a b pos) (tOp r ta tb):=by intro pins s σ H Q I h;exact Subscript_ (binT ha hb I h λv u s2 x y H2 L J F q=>hr a b pins s2 σ H2 x y v u Q L J F q (hs _ _))
def rIxL (K:Aa):R2:=λx y H Q=>∃p xs i v,x=.ref p/\y=.int i/\SqL K H p xs/\atI xs i=some v/\Q v H
def rIxT (K:Aa):R2:=λx y H Q=>∃p xs i v,x=.ref p/\y=.int i/\SqT K H p xs/\atI xs i=some v/\Q v H
theorem z7:IxR X (rIxL X.K):=by
 intro value an pins s σ H x y v u Q I U S h hs;obtain⟨p,xs,i,z,rfl,rfl,hq,he,q⟩:=h;cases U;obtain⟨t,rfl⟩:=S;obtain⟨ad,r,F,hz⟩:=I.list hq;obtain⟨j,h1,h2,h3,h4,h5⟩:=qyp he;obtain⟨w,O,Z⟩:=r.get h2;have hl:=r.length;have hn:=qw6;have L:EP X pins σ Q w s:=⟨z,H,I,Z,q⟩;by_cases h0:0<=i
 .have J:i.toNat=j:=by rw[seqIndex_of h0 h5]at h1;exact al h1
  exact item_listR F.isList h0 ⋯ (by rw[J];simpa using O) L hs
 .have J:(i+(ad.toArray.size:Int)).toNat=j:=by rw[seqIndex_neg ⋯ h4]at h1;rw[au,<-hl];exact al h1
  exact subscriptTail_builtinR (x:=w) F.isList.typeIs slot_list_getitem.lookup
   (wpAny_getItem_list_neg (Q:=λr s'=>r=w/\EP X pins σ Q r s') F.isList ⋯ (by rw[au] <;> lia) ⋯ (by rw[J];simpa using O) ⟨rfl,L⟩) hs
theorem Jq:IxR X (rIxT X.K):=by
 intro value an pins s σ H x y v u Q I L J h hs;obtain⟨p,xs,i,z,rfl,rfl,S,Z,q⟩:=h;cases L;obtain⟨t,rfl⟩:=J;obtain⟨ap,r,F,hz⟩:=I.tuple S;obtain⟨j,h1,h2,h3,h4,h5⟩:=qyp Z;obtain⟨w,ew,O⟩:=r.get h2;have U:=r.length;have hn:=qw6;have ad:EP X pins σ Q w s:=⟨z,H,I,O,q⟩;exact subscriptTail_builtinR (x:=w) F.typeIs slot_tuple_getitem.lookup
  (getItem_tuple (j:=j) (Q:=λr s'=>r=w/\EP X pins σ Q r s') F ⋯ ⋯ (by rw[au,<-U];exact h1) (by simpa using ew) ⟨rfl,ad⟩) hs
theorem qw4 (lo hi:Option Int)(n:Nat):(sliceBounds lo hi none n).1=((HT.sIx n 0 lo:Nat):Int)/\(sliceBounds lo hi none n).2.1=((HT.sIx n n hi:Nat):Int)/\(sliceBounds lo hi none n).2.2=1:=by
 refine⟨?_,?_,rfl⟩
 .cases lo with
  |none=>simp[sliceBounds,HT.sIx]
  |some i =>
   simp only[sliceBounds,HT.sIx,Option.getD_none,show(1:Int)>0 by decide,dU];by_cases h:i<0
   .simp only[h,dU] <;> lia
   .simp only[h,eU] <;> lia
 .cases hi with
  |none=>simp[sliceBounds,HT.sIx]
  |some i =>
   simp only[sliceBounds,HT.sIx,Option.getD_none,show(1:Int)>0 by decide,dU];by_cases h:i<0
   .simp only[h,dU] <;> lia
   .simp only[h,eU] <;> lia
theorem Jf (its:List Ag)(lo hi:Option Int):slicePick its.toArray lo hi none=((its.drop (HT.sIx its.length 0 lo)).take (HT.sIx its.length its.length hi-HT.sIx its.length 0 lo)).toArray:=by obtain⟨h1,h2,F⟩:=qw4 lo hi its.toArray.size;unfold slicePick;rw[h1,h2,F];simp only[sliceRange_one,pick_run,au] <;> rfl
def rSlL (K:Aa):V->Option Int->Option Int->Hp->VK->Prop:=λx lo hi H Q=>∃a xs,x=.ref a/\SqL K H a xs/\∀p,H p=none->Q (.ref p) (upd H p (.lst (Wu xs lo hi)))
theorem wv3:SlR X (rSlL X.K):=by intro pins s σ H x v vl vu lo hi sl Q I J hs O L h;obtain⟨a,xs,rfl,U,q⟩:=h;cases J;obtain⟨ad,r,F,S⟩:=I.list U;have Z:=r.length;refine⟨"list",_,slot_list_getitem.lookup,F.isList.typeIs,?_⟩;refine wpAny_getItem_list_slice F.isList hs O L .none (by simp) ?_ (by rw[au] <;> lia);rw[Jf,<-Z];refine⟨.ref s.heap.objs.size,_,I.laid (t':=s.toks) (o:=.lst (Wu xs lo hi)) (λb ob q=>ac _ q) (af _) ?_,rfl,q _ (I.hok.fresh (af _))⟩;exact⟨aQ (Wt xs lo hi) S,_,0,(r.drop (HT.sIx xs.length 0 lo)).take (HT.sIx xs.length xs.length hi-HT.sIx xs.length 0 lo),aj _ rfl⟩
def Qy:V->Bool
 |.non=>true
 |.bl _=>true
 |.int _=>true
 |.str _=>true
 |_=>false
def eqV:V->V->Bool
 |.non,.non=>true
 |.bl a,.bl b=>a==b
 |.bl a,.int b=>(if a then 1 else 0)==b
 |.int a,.bl b=>a==(if b then 1 else 0)
 |.int a,.int b=>a==b
 |.str a,.str b=>a==b
 |_,_=>false
theorem eqAt_V {A:Ae}{s:Ab}{y x:V}{u v:Ag}(ry:RelV y u)(rx:RelV x v)(fy:Qy y=true)(fx:Qy x=true):SeqAt.EqAt A s u v (eqV y x):=by
 cases y with
 |non =>
  cases ry;cases x with
  |non=>cases rx;exact SeqAt.EqAt.same _
  |bl b=>cases rx;exact SeqAt.EqAt.none_bool b
  |int b=>obtain⟨t,rfl⟩:=rx;exact SeqAt.EqAt.none_int b t
  |str b=>obtain⟨t,rfl⟩:=rx;exact SeqAt.EqAt.none_str b t
  |_=>exact absurd (show false=true from fx) aq
 |bl a =>
  cases ry;cases x with
  |non=>cases rx;exact SeqAt.EqAt.bool_none a
  |bl b=>cases rx;exact SeqAt.EqAt.bool_bool a b
  |int b=>obtain⟨t,rfl⟩:=rx;exact SeqAt.EqAt.bool_int a b t
  |str b=>obtain⟨t,rfl⟩:=rx;exact SeqAt.EqAt.bool_str a b t
  |_=>exact absurd (show false=true from fx) aq
 |int a =>
  obtain⟨F,rfl⟩:=ry;cases x with
  |non=>cases rx;exact SeqAt.EqAt.int_none a F
  |bl b=>cases rx;exact SeqAt.EqAt.int_bool a F b
  |int b=>obtain⟨t,rfl⟩:=rx;exact SeqAt.EqAt.int_int a F b t
  |str b=>obtain⟨t,rfl⟩:=rx;exact SeqAt.EqAt.int_str a F b t
  |_=>exact absurd (show false=true from fx) aq
 |str a =>
  obtain⟨F,rfl⟩:=ry;cases x with
  |non=>cases rx;exact SeqAt.EqAt.str_none a F
  |bl b=>cases rx;exact SeqAt.EqAt.str_bool a F b
  |int b=>obtain⟨t,rfl⟩:=rx;exact SeqAt.EqAt.str_int a F b t
  |str b=>obtain⟨t,rfl⟩:=rx;exact SeqAt.EqAt.str_str a F b t
  |_=>exact absurd (show false=true from fx) aq
 |_=>exact absurd (show false=true from fy) aq
def eqU (x:V)(u:Ag):Bool:=match u with
 |.none=>eqV .non x
 |.bool b=>eqV (.bl b) x
 |.int i _=>eqV (.int i) x
 |.str z _=>eqV (.str z) x
 |_=>false
theorem wx7 {x y:V}{u:Ag}(r:RelV y u)(f:Qy y=true):eqU x u=eqV y x:=by
 cases y with
 |non=>cases r;rfl
 |bl b=>cases r;rfl
 |int i=>obtain⟨t,rfl⟩:=r;rfl
 |str z=>obtain⟨t,rfl⟩:=r;rfl
 |_=>exact absurd (show false=true from f) aq
theorem qxz {x:V}:∀ {xs:List V} {us:List Ag},Vals xs us->xs.all Qy=true->us.any (eqU x)=xs.any λy=>eqV y x
 |_,_,.nil,_=>rfl
 |y::xs,u::us,.cons r t,f=>by rw[List.all_cons,aO]at f;rw[dh,dh,wx7 r f.1,qxz t f.2]
theorem Yf {A:Ae}{s:Ab}{x:V}{v:Ag}(rx:RelV x v)(fx:Qy x=true):∀ {xs:List V} {us:List Ag},Vals xs us->xs.all Qy=true->∀u∈us,SeqAt.EqAt A s u v (eqU x u)
 |_,_,.nil,_=>λu hu=>by cases hu
 |y::xs,u::us,.cons r t,f=>λu' hu=>by
  rw[List.all_cons,aO]at f;rcases av.mp hu with rfl|hu
  .rw[wx7 r f.1];exact eqAt_V r rx f.1 fx
  .exact Yf rx fx t f.2 u' hu
def inV (x:V)(xs:List V):Bool:=xs.any λy=>eqV y x
def rIn (K:Aa)(neg:Bool):R2:=λx y H Q=>∃p xs,y=.ref p/\(SqL K H p xs\/SqT K H p xs)/\Qy x=true/\xs.all Qy=true/\Q (.bl (if neg then !inV x xs else inV x xs)) H
theorem qxu:OpR X (compareOp .NotIn) (rIn X.K true):=by
 intro pins s σ H x y v u Q I S Z h;obtain⟨p,xs,rfl,J,U,fs,q⟩:=h;cases Z;rcases J with J|J
 .obtain⟨F,r,L,hz⟩:=I.list J;refine SeqAt.notIn_listAt (eqU x) L.isList (λw O=>Yf S U r fs w (by simpa using O)) ⟨.bl _,H,I,rfl,?_⟩;rw[show F.toArray.any (eqU x)=F.any (eqU x) by simp,qxz r fs];exact q
 .obtain⟨F,r,L,hz⟩:=I.tuple J;refine SeqAt.notIn_tupleAt (eqU x) L (λw O=>Yf S U r fs w (by simpa using O)) ⟨.bl _,H,I,rfl,?_⟩;rw[show F.toArray.any (eqU x)=F.any (eqU x) by simp,qxz r fs];exact q
theorem xn:kj X (.builtin "len") (λxs H Q=>∃p ys,xs=[.ref p]/\(SqL X.K H p ys\/SqT X.K H p ys)/\Q (.int ys.length) H):=by
 intro pins s σ H xs us Q I r h;obtain⟨p,ys,rfl,F,q⟩:=h;obtain⟨u,rfl,S⟩:=yn r;cases S;have hn:=qw6;rcases F with F|F
 .obtain⟨U,J,L,Z⟩:=I.list F;have O:=J.length;exact Calls.call_len_list L.isList (by simp only[au] <;> lia) ⟨.int ys.length,H,I.tok _,⟨s.toks+1,by rw[au,O]⟩,q⟩
 .obtain⟨U,J,L,Z⟩:=I.tuple F;have O:=J.length;exact len_tuple L (by simp only[au] <;> lia) ⟨.int ys.length,H,I.tok _,⟨s.toks+1,by rw[au,O]⟩,q⟩
theorem k9:kj X (.builtin "len") (λxs H Q=>∃z,xs=[.str z]/\z.length<=sizeLine/\Q (.int z.length) H):=by intro pins s σ H xs F Q I r h;obtain⟨z,rfl,J,q⟩:=h;obtain⟨u,rfl,t,rfl⟩:=yn r;have L:=qw6;exact len_str ⋯ ⟨.int z.length,H,I.tok _,⟨_,rfl⟩,q⟩
theorem Qj:kj X (.type "list") (λxs H Q=>∃p ys,xs=[.ref p]/\(SqL X.K H p ys\/SqT X.K H p ys)/\∀l,H l=none->Q (.ref l) (upd H l (.lst ys))):=by
 intro pins s σ H xs us Q I r h;obtain⟨p,ys,rfl,U,q⟩:=h;obtain⟨u,rfl,rx⟩:=yn r;cases rx;have ad:∀(F:List Ag),Vals ys F->ys.length<=sizeLine->∀(h':Heap) (L:Nat),(∀b o',s.heap.get? b=some o'->h'.get? b=some o') ->
   h'.get? s.heap.objs.size=some { cls:=.type "list",dict:=none,data:=.seq F.toArray L,slots:=#[] }->EP X pins σ Q (.ref s.heap.objs.size) { s with heap:=h' }:=λF J S h' L O e =>
  ⟨.ref s.heap.objs.size,_,I.laid (t':=s.toks) O (af _) (show ObjOk X.prog X.w _ h' _ (.lst ys) from ⟨S,F,L,J,e⟩),rfl,q _ (I.hok.fresh (af _))⟩
 rcases U with U|U
 .obtain⟨F,J,Z,S⟩:=I.list U;have an:=J.length;obtain⟨o,ho,hc,n,hd⟩:=Z.isList;exact call_list_seq p (.inl rfl) ho hc hd (λh' L O e=>ad F J S h' L O e) (by simp only[au] <;> lia)
 .obtain⟨F,J,Z,S⟩:=I.tuple U;have an:=J.length;obtain⟨o,ho,hc,n,hd⟩:=Z;exact call_list_seq p (.inr rfl) ho hc hd (λh' L O e=>ad F J S h' L O e) (by simp only[au] <;> lia)
def tyV (K:Aa)(T:String)(x:V)(H:Hp):Prop:=match x with
 |.str _=>T = "str"
 |.int _=>T = "int"
 |.ref p=>(T = "list" /\ ∃xs,SqL K H p xs)\/(T = "tuple" /\ ∃o,K.lookup p=some o/\o.cls=.type "tuple" /\ o.dict=none) \/
   (T = "dict" /\ ((∃kvs,H p=some (.dK kvs))\/∃kvs,H p=some (.dT kvs)))\/(T = "set" /\ ∃S n,H p=some (.set S n))
 |_=>False
theorem tyV_is {pins:List (Aj×Obj)}{σ:St}{H:Hp}{s:Ab}{T:String}{x:V}{v:Ag}(I:Inv X pins σ H s)(r:RelV x v)(ty:tyV X.K T x H) :
  s.TypeIs v T/\∀a,v=.ref a->∃ob,s.heap.get? a=some ob/\ob.dict=none:=by
 cases x with
 |str z =>
  obtain⟨t,rfl⟩:=r;cases(show T = "str" from ty);exact⟨typeIs_str s z t,λ_ e=>nomatch e⟩
 |int i =>
  obtain⟨t,rfl⟩:=r;cases(show T = "int" from ty);exact⟨typeIs_int s i t,λ_ e=>nomatch e⟩
 |ref p =>
  cases r;rcases ty with⟨rfl,xs,U⟩|⟨rfl,o,F,Z,J⟩|⟨rfl,F⟩|⟨rfl,S,n,F⟩
  .obtain⟨ad,_,O,_⟩:=I.list U;refine⟨O.isList.typeIs,λa e=>?_⟩;cases e;obtain⟨o,n,e,c,J,_⟩:=O;exact⟨o,e,J⟩
  .refine⟨⟨o,I.kIn p o F,Z⟩,λa e=>?_⟩;cases e;exact⟨o,I.kIn _ o F,J⟩
  .have z:∃o,s.heap.get? p=some o/\o.ExactDict:=by
    rcases F with⟨kvs,F⟩|⟨kvs,F⟩
    .obtain⟨_,_,_,_,o,_,_,e,ex,_⟩:=I.hok p _ F;exact⟨o,e,ex⟩
    .obtain⟨_,_,_,_,o,_,_,e,ex,_⟩:=I.hok p _ F;exact⟨o,e,ex⟩
   obtain⟨o,e,ex⟩:=z;refine⟨⟨o,e,ex.1⟩,λa L=>?_⟩;cases L;exact⟨o,e,ex.2.1⟩
  .obtain⟨o,_,_,_,e,ex,_⟩:=I.hok p _ F;refine⟨⟨o,e,ex.1⟩,λa L=>?_⟩;cases L;exact⟨o,e,ex.2.1⟩
 |_=>exact False.elim ty
def tBM (K:Aa)(T:String)(r:V->List V->Hp->VK->Prop)(to:TE)(t:TA):TE:=λσ H Q=>to σ H λx H1=>tyV K T x H1/\t σ H1 λxs H2=>r x xs H2 Q
variable {o e:Expr}{es:List Expr}{to:TE}{t:TA}{name:Str}{apos cpos:Pos}{T id:String}{r:V->List V->Hp->VK->Prop}
theorem qj4 (pa:PlainAttrs T)(slot:Slot T name id)(hty:typeOf (.builtin id)=pure (.type "method_descriptor"))(hm:MtR X id r)(ho:PE X o to)(ha:PA X (e::es) t)
  (hbase:autoParam (attributeBase o name X.env (eval o X.env)=eval o X.env) aU4._auto_1)
  (hfew:autoParam (((backTo cpos (starEach (e::es) X.env)).all (λx=>!x.1)&&(backToKw cpos (keywordEach [] X.env)).all (λx=>x.1.isSome)
   && decide ((e::es).length+([]:List Keyword).length+(if([]:List Keyword).isEmpty then 0 else 1)<30))=true) aU4._auto_1)
  (hline:autoParam ((apos.endLine==cpos.line)=true) aU4._auto_1) (hs:autoParam (starEach (e::es) X.env=(false,eval e X.env)::starEach es X.env) aU4._auto_1) (hplain:autoParam ((backTo cpos (starEach es X.env)).any (·.1)=false) aU4._auto_1) :
  PE X (.Call (.Attribute o name apos) (e::es) [] cpos) (tBM X.K T r to t):=by
 intro pins s σ H Q I h;refine wpAny_Call_method_late hbase hfew hline rfl (thn (ho pins s σ H _ I h) λv s1 ⟨x,H1,I1,r1,ty,q1⟩=>?_);obtain⟨h1,h2⟩:=tyV_is I1 r1 ty;refine⟨T,id,pa,slot,hty,h1,h2,?_⟩;have F:=ha cpos pins s1 σ H1 _ I1 q1;rw[hs]at F ⊢;refine cP (by show(false||(backTo cpos (starEach es X.env)).any (·.1))=false;rw[hplain] <;> rfl) (cy ?_);exact thn F λus s2 ⟨vs,H2,I2,r2,q2⟩=>hm pins s2 σ H2 x vs v us Q I2 r1 r2 q2
end
def MtM (X:Cx)(id:String)(r:V->List V->Hp->VK->Prop):Prop :=
 ∀(pins:List (Aj×Obj)) (s:Ab) (σ:St) (H:Hp) (x:V) (xs:List V) (v:Ag) (us:List Ag) (Q:VK),Inv X pins σ H s->RelV x v->Vals xs us->r x xs H Q ->
  wpAny (model X.prog X.w) X.A (call (.builtin id) (v::us)) (EP X pins σ Q) X.xe s
theorem Vals.one:∀ {x:V} {us:List Ag},Vals [x] us->∃u,us=[u]/\RelV x u
 |_,_,.cons r .nil=>⟨_,rfl,r⟩
section
variable {X:Cx}{pins:List (Aj×Obj)}{σ:St}{H:Hp}{s:Ab}{l b:Aj}{xs ys zs:List V}
theorem Inv.lset {its its':List Ag}{n:Nat}{f:Array Ag->Array Ag}{t':Nat}(I:Inv X pins σ H s)(hH:H l=some (.lst xs))
  (e:s.heap.get? l=some { cls:=.type "list",data:=.seq its.toArray n }) (hf:f its.toArray=its'.toArray) (hv:Vals ys its') (hz:ys.length<=sizeLine) :
  Inv X pins σ (upd H l (.lst ys)) { s with heap:=s.heap.update l (Obj.mapSeq f),toks:=t' }:=by
 have q:=PySem.IsL.update e f;rw[hf]at q;refine I.write (x:=l) (e:=l) (by rw[hH];exact trivial) (.inl rfl) (λL u J F=>(cQ s.heap (Obj.mapSeq f) (ba J)).trans F) ⟨_,q⟩ ?_;exact⟨hz,its',_,hv,q⟩
theorem Inv.lnew {its:List Ag}{t':Nat}(I:Inv X pins σ H s)(hv:Vals ys its)(hz:ys.length<=sizeLine) :
  Inv X pins σ (upd H s.heap.objs.size (.lst ys)) { s with heap:=s.heap.push { cls:=.type "list",data:=.seq its.toArray },toks:=t' } :=
 I.laid (λ_ _ q=>ac _ q) (af _) ⟨hz,its,0,hv,aj _ rfl⟩
theorem Inv.fresh (I:Inv X pins σ H s):H s.heap.objs.size=none:=I.hok.fresh (af _)
theorem Inv.lstM (I:Inv X pins σ H s)(hH:H l=some (.lst xs)):xs.length<=sizeLine/\∃(its:List Ag) (n:Nat),Vals xs its/\xs.length=its.length/\s.heap.get? l=some { cls:=.type "list",data:=.seq its.toArray n }:=by obtain⟨z,its,n,r,e⟩:=I.hok l _ hH;exact⟨z,its,n,r,r.length,e⟩
theorem wx5 {n:Nat}(h:n<=sizeLine):Builtin.List.listTooLong n=false:=by unfold Builtin.List.listTooLong;exact aP ⋯
end
section
variable {X:Cx}
def wv0:V->List V->Hp->VK->Prop:=λx vs H Q=>∃l xs y,x=.ref l/\vs=[y]/\H l=some (.lst xs)/\xs.length<sizeLine/\Q .non (upd H l (.lst (xs++[y])))
theorem Q1:MtM X "list.append" wv0:=by intro pins s σ H x vs v Z Q I O S h;obtain⟨l,xs,y,rfl,rfl,L,hz,q⟩:=h;cases O;obtain⟨u,rfl,U⟩:=S.one;obtain⟨z,J,n,r,hl,e⟩:=I.lstM L;refine eL F.slot_list_append ⟨_,e,rfl⟩ F.entry_list_append (F.args_list_append_2 _ _) (PySem.list_append l J.toArray n u (by rw[au];lia)) ⟨e,?_⟩;refine⟨.non,_,I.lset (its':=J++[u]) L e (by simp) (r.append (.cons U .nil)) ?_,rfl,q⟩;rw[aX,List.length_singleton];lia
def rCat:R2:=λx y H Q=>∃l b xs zs,x=.ref l/\y=.ref b/\H l=some (.lst xs)/\H b=some (.lst zs)/\xs.length+zs.length<=sizeLine/\∀p,H p=none->Q (.ref p) (upd H p (.lst (xs++zs)))
theorem op_cat:OpR X (binaryOp .Add) rCat:=by
 intro pins s σ H x y v u Q I O L h;obtain⟨l,b,xs,zs,rfl,rfl,U,Z,hz,q⟩:=h;cases O;cases L;obtain⟨z,J,n,r,hl,e⟩:=I.lstM U;obtain⟨z2,F,n2,S,ad,e2⟩:=I.lstM Z;refine PySem.P.add_list e e2 ?_ (by rw[au,au];lia);have ea:J.toArray++F.toArray=(J++F).toArray:=by simp
 rw[ea];exact⟨.ref _,_,I.lnew (t':=s.toks) (r.append S) (by rw[aX];lia),rfl,q _ I.fresh⟩
end
section
variable {prog:Ac}{w:Ah}{A:Ae}{E:Ag->Ab->Prop}{s:Ab}
end
section
variable {X:Cx}
end
end L2
namespace Att
open PySem PySem.W PySem.Calls PyProof.Rows
theorem W7 {P:Params}{h:Heap}:∀(ns:List Int) (vs:List Ag),WellAll P h vs (ns.map WData.int)->IntsAre vs ns:=by
 intro ns
 induction ns with
 |nil =>
  intro vs w;rw[bj]at w;cases w;exact .nil
 |cons n ns ih =>
  intro vs w;rw[ay]at w;cases w with
  |cons a b =>
   cases a;exact .cons _ _ (ih _ b)
theorem qu8 {l:OpenLaw}{n:Nat}(hn:l.most=some n){P:Params}{h:Heap}{args:List WData}{vals:List Ag}
  (hpre:l.row.toRowW.claim.pre args=true) (hwl:WellAll P h vals args) :
  ∃a vs ns,vals=[Value.ref a]/\args=[WData.list (ns.map WData.int)]/\h.get? a=some { cls:=.type "list",data:=.seq vs.toArray }/\IntsAre vs ns/\ns.length<=n:=by
 have O:WShape.hasAll [] args [.list .int]=true:=(pre_splitW hpre).1;have J:l.pre.holds [] { args:=args }=true:=(pre_splitW hpre).2;obtain⟨d,r,rfl,h1,h2⟩:=hasAllW_cons O;obtain rfl:=hasAllW_nil h2;obtain⟨xs,rfl,U⟩:=hasW_list h1;obtain⟨ns,rfl⟩:=items_int U;have S:ns.length<=n:=by
  unfold OpenLaw.pre at J;have I:(WTm.not (.lt (.lit (.int (n:Int))) (.len (.arg 0)))).holds [] { args:=[.list (ns.map .int)] }=true:=by have I:=(holds_andW J).1;rw[hn]at I;exact I
  have F:=condW_of I (w_not (w_lt w_lit (w_len_list (w_arg rfl))));rw[ah]at F;refine Nat.le_of_not_lt λq=>?_;have L:(n:Int)<((ns.length:Nat):Int):=by lia
  first
   |(rw[bv L]at F;exact absurd F ⋯)
   |(simp at F;lia)
 cases hwl with
 |cons w1 w2 =>
  cases w2;cases w1 with
  |list ho hall=>exact⟨_,_,ns,rfl,rfl,ho,W7 ns _ hall,S⟩
theorem qy8 (l:OpenLaw)(args:List WData):l.row.toRowW.claim.post args (.bool true) args=true :=
 postW_of (r:=l.row.toRowW) (X:=(true==true))
  (show WShape.has [] (.bool true) .bool=true by first | rfl | decide | simp[WShape.has,WShape.arms,WShape.armsAll])
  (show(WTm.eq .res (.lit (.bool true))).value [] { args:=args,res:=some (.bool true),after:=args }=some (.bool (true==true)) from w_eq_bool (w_res rfl) w_lit) rfl
theorem attach_call {l:OpenLaw}{n:Nat}{q:Ac}{loose:List Str}{XP:(Str->Option Ag)->Heap->Prop}{YP:Ah->Heap->Prop}{d:DefRec}
  (hn:l.most=some n) (hdf:d.params.defaults=[])
  (call:∀(w:Ah) (s₀ s₁:Ab) (mg mb:Str->Option Ag) (fa:Aj) (o:Obj) (pm cd doc:Ag) (a:Aj) (vs:List Ag) (ns:List Int),
   Ground q loose [] XP w s₀ mg mb s₁.heap->YP w s₁.heap ->
   s₁.heap.get? fa=some o->o.data=.func (docDef d.name d.params d.body d.scope pm cd doc)->s₁.heap.CodeRec cd d.name->mg d.name=some (.ref fa) ->
   s₁.heap.get? a=some { cls:=.type "list",data:=.seq vs.toArray }->IntsAre vs ns->ns.length<=n->s₁.gens=#[] ->
   codeAny (model l.prog w) callerA (.call (.ref fa) ⟨[.ref a],[]⟩) (λr s'=>r=.ok (.ret (.bool true))/\OldK s₁.heap s'.heap/\s'.os=s₁.os/\AllBare s'.gens) s₁) :
  WalkO q loose XP YP l.row.toRowW d [] (λf vs=>PySem.call f vs):=by
 intro w s₀ s₁ mg mb G Y fa o pm cd doc dV kV S hd ap F U hg a4 a0 as L a3 a1 I a2;obtain rfl:dV=.none:=Dflts.none F hdf;obtain rfl:kV=.none:=Dflts.noKw F;obtain⟨a,vs,ns,rfl,rfl,O,an,ad⟩:=qu8 hn L I;refine enter_call (dz (call w s₀ s₁ mg mb fa o pm cd doc a vs ns G Y S (fd_plain hd) ap U O an ad hg) λr s' J=>?_);obtain⟨rfl,h2,h3,h4⟩:=J;exact⟨.inl ⟨.bool true,.bool true,[],rfl,λ_=>rfl,.bool true,qy8 l _,λ_=>⟨List.Pairwise.nil,λ_ Z=>(nomatch Z)⟩⟩,h2,h3,h4⟩
section
variable {prog:Ac}{w:Ah}{A:Ae}{E:Ag->Ab->Prop}{s:Ab}{K:Frag}
end
end Att
namespace L2
open PySem PySem.Spec PyProof.Rows
theorem qwk:∀ {vs:List Ag} {ns:List Int},IntsAre vs ns->Vals (ns.map V.int) vs
 |_,_,.nil=>.nil
 |_,_,.cons n t h=>.cons ⟨t,rfl⟩ (qwk h)
def Only (H:Hp):Prop:=∀b,H b=none\/∃o xs,H b=some (.frz o (.lst xs))
theorem wq6 {P:Ac}{w:Ah}{K:Aa}{mg mb:Str->Option Ag}{CX:CXT}{k:Nat}{fa a:Aj}{fd:Ad}{x:Str}{sp:Sp}{s₁:Ab}{vs:List Ag}{ns:List Int}
  (KX:K.In s₁.heap) (hns:s₁.heap.Ns mainGlobals mg) (hb:s₁.heap.Ns builtinsNs mb) (hbb:∀x:Str,x ≠ "__name__" -> mb x=bootBuiltins x) (hlim:s₁.heap.NoLimit) (hg:s₁.gens=#[])
  (ha:s₁.heap.get? a=some { cls:=.type "list",data:=.seq vs.toArray }) (hi:IntsAre vs ns) (hl:ns.length<=sizeLine) (hr:Room k callerA)
  (F:∀base:Heap,K.In base->base.Ns mainGlobals mg->FnOk P w K mg base CX k fa fd [x] sp) (hbind:∀(s:Ab) (u:Ag),BindsTo s fd ⟨[u],[]⟩ [(x,u)])
  (hsp:∀H:Hp,Only H->SqL K H a (ns.map V.int)->sp [.ref a] H (λv _=>v=.bl true) λ_ _ _=>False)
  (hCX:∀H e s',CX [] H s₁ (λ_ _ _=>False) e s'->False) :
  codeAny (model P w) callerA (.call (.ref fa) ⟨[.ref a],[]⟩) (λr s'=>r=.ok (.ret (.bool true))/\OldK s₁.heap s'.heap/\s'.os=s₁.os/\AllBare s'.gens) s₁:=by
 have S:=qwk hi;have a1:=hi.length;have an:∀H:Hp,Only H->SqL K H a (ns.map V.int)->HOk P w H s₁.heap->(∀b,H b≠none->b=a)->(H a≠none->K.lookup a=none) ->
   codeAny (model P w) callerA (.call (.ref fa) ⟨[.ref a],[]⟩) (λr s'=>r=.ok (.ret (.bool true))/\OldK s₁.heap s'.heap/\s'.os=s₁.os/\AllBare s'.gens) s₁:=by
  intro H Z hS U hA hK;have ap:∀ {b:Aj} {o:Obj},s₁.heap.get? b=some o->H b=none->(qxw s₁.heap H).get? b=some o:=λe n=>ww3 e n;have a0:∀ {b:Aj} {o:Obj} {es:Array DictEntry} {ep:Nat},s₁.heap.get? b=some o->o.data=.dict es ep->H b=none:=λ{b o es ep} e d=>by
   cases q:H b with
   |none=>rfl
   |some u =>
    have L:b=a:=hA b (by rw[q];simp);subst L;rw[ha]at e;cases e;have d':Data.seq vs.toArray _=Data.dict es ep:=d;cases d'
  have J:∀ {b:Aj} {m:Str->Option Ag},s₁.heap.Ns b m->(qxw s₁.heap H).Ns b m:=λ{b m} ⟨o,es,ep,e,d,r⟩=>⟨o,es,ep,ap e (a0 e d),d,r⟩;have ad:K.In (qxw s₁.heap H):=λb o e=>ap (KX b o e) (by
   cases q:H b with
   |none=>rfl
   |some u =>
    have L:b=a:=hA b (by rw[q];simp)
    subst L
    rw[hK (by rw[q];simp)]at e;cases e)
  have hM:Mod K mg (qxw s₁.heap H):=⟨ad,J hns,⟨mb,J hb,hbb⟩,let ⟨mc,h1,h2⟩:=hlim;⟨mc,J h1,h2⟩⟩;have e0:Env0 P w K mg (qxw s₁.heap H) callerA [] s₁ H:=⟨rfl,hM,λb o e=>wz2 e,Nat.le_of_eq (qup _ _),trivial,λb hb=>absurd (show b∈([]:List Aj) from hb) (by simp),U,.of_eq hg⟩;refine dz ((F _ ad (J hns)).run callerA [] s₁ H ⟨[.ref a],[]⟩ [.ref a] [.ref a] _ _ hr e0 (hbind s₁ (.ref a)) (.cons rfl .nil) (hsp H Z hS)) λr s' h=>?_;cases r with
  |error e=>exact(hCX H e s' h).elim
  |ok fl =>
   cases fl with
   |next=>exact False.elim h
   |brk=>exact False.elim h
   |cont=>exact False.elim h
   |ret u =>
    obtain⟨v,H',os,a3,O,a2,r',q⟩:=h;have q':v=.bl true:=q;subst q';obtain rfl:u=Value.bool true:=r';refine⟨rfl,OldK.of_keep λb o e=>?_,os,a3⟩;cases q:H b with
    |none=>exact O.keep b o e q (by intro z;exact absurd (show b∈([]:List Aj) from z) (by simp)) (by simp)
    |some u =>
     rcases Z b with z|⟨ob,xs,z⟩
     .rw[q]at z;cases z
     .have z2:=O.frzs b ob _ z;obtain⟨e1,_⟩:=U b _ z;obtain⟨e2,_⟩:=a2 b _ z2;rw[e]at e1;cases e1;exact e2
 cases hk:K.lookup a with
 |some o =>
  have e:=KX a o hk;rw[ha]at e;cases e;refine an (λ_=>none) (λ_=>.inl rfl) (.inr ⟨_,vs.toArray,_,hk,rfl,rfl,rfl,by rw[au,a1];exact hl,by simpa using S⟩) (λb u z=>by have I:(none:Option HO)=some u:=z;cases I) (λb z=>absurd rfl z) λz=>absurd rfl z
 |none =>
  refine an (λb=>if b=a then some (.frz { cls:=.type "list",data:=.seq vs.toArray } (.lst (ns.map V.int))) else none) (λb=>?_) (.inl (.inr ⟨{ cls:=.type "list",data:=.seq vs.toArray },ao rfl⟩)) (λb u z=>?_) (λb z=>?_) λ_=>hk
  .by_cases hb:b=a
   .exact .inr ⟨_,_,ao hb⟩
   .exact .inl (ak hb)
  .by_cases hb:b=a
   .have I:=(ao hb).symm.trans z;cases I;subst hb;exact⟨ha,by rw[ah];exact hl,vs,_,S,ha⟩
   .have I:=(ak hb).symm.trans z;cases I
  .by_cases hb:b=a
   .exact hb
   .exact absurd (ak hb) z
theorem wz9 {l:W.OpenLaw}{n k:Nat}{q:Ac}{loose:List Str}{XP:(Str->Option Ag)->Heap->Prop}{YP:Ah->Heap->Prop}{d:DefRec}{K:Params->Aa}{CX:Ah->CXT}{sp:Ah->Sp}{x:Str}
  (hn:l.most=some n) (hn2:n<=sizeLine) (hdf:d.params.defaults=[]) (hr:Room k callerA)
  (hY:∀(w:Ah) (h:Heap),YP w h->(K w.params).In h)
  (F:∀(w:Ah) (mg:Str->Option Ag) (fa:Aj) (h:Heap),(K w.params).In h->h.Ns mainGlobals mg->mg d.name=some (.ref fa) ->
   ∃fd:Ad,(∀(s:Ab) (u:Ag),BindsTo s fd ⟨[u],[]⟩ [(x,u)]) /\
    ∀base:Heap,(K w.params).In base->base.Ns mainGlobals mg->FnOk l.prog w (K w.params) mg base (CX w) k fa fd [x] (sp w))
  (hsp:∀(w:Ah) (H:Hp) (a:Aj) (ns:List Int),ns.length<=n->Only H->SqL (K w.params) H a (ns.map V.int)->sp w [.ref a] H (λv _=>v=.bl true) λ_ _ _=>False)
  (hCX:∀(w:Ah) (H:Hp) (s:Ab) (e:Ag) (s':Ab),CX w [] H s (λ_ _ _=>False) e s'->False) :
  W.WalkO q loose XP YP l.row.toRowW d [] (λf vs=>PySem.call f vs):=by
 refine Att.attach_call hn hdf λw s₀ L mg mb fa o pm cd an a vs ns G Y ho hd ad S O U I Z=>?_;have J:=hY w _ Y;obtain⟨fd,hb,hF⟩:=F w mg fa _ J G.T.g S;exact wq6 J G.T.g G.T.b G.T.builtins G.T.nolimit Z O U (aQ I hn2) hr hF hb (λH hO hS=>hsp w H a ns I hO hS) λH e s'=>hCX w H L e s'
def zd (s:Stmt)(j:Nat):Stmt:=match s with
 |.ClassDef _ _ _ body _ _ _ _ _ _ _=>body.getD j (.Pass ⟨0,0,0,0⟩)
 |_=>.Pass ⟨0,0,0,0⟩
def v1 (s:Stmt):Arguments:=match s with
 |.FunctionDef _ a _ _ _ _ _ _ _ _=>a
 |_=>{ posonlyargs:=[],args:=[],vararg:=none,kwonlyargs:=[],kw_defaults:=[],kwarg:=none,defaults:=[] }
def vw (s:Stmt):List Stmt:=match s with
 |.FunctionDef _ _ b _ _ _ _ _ _ _=>b
 |_=>[]
def wg (s:Stmt):Scope:=match s with
 |.FunctionDef _ _ _ _ _ _ sc _ _ _=>sc
 |_=>{ kind:=.function,names:=[],isGenerator:=false,isCoroutine:=false }
abbrev E0:XK:=λ_ _ _=>False
structure Fun (K:Aa)(x qual:Str)(st:Stmt)(f:Aj)(fd:Ad):Prop where
 ex:∃(oc:Ag) (od:Option Aj) (kV doc pm:Ag) (an:Option Aj) (cdv ct:Ag) (osl:Array (Option Ag)),
  fd=W.fnOf x qual (v1 st) (vw st) (wg st) .none kV doc pm an cdv ct/\K.lookup f=some ⟨oc,od,.func fd,osl⟩/\W.codeIn K cdv qual=true
 kp:W.keepIn K (.ref f)=true
section
variable {P:Ac}{w:Ah}{K:Aa}{mg:Str->Option Ag}{base:Heap}
theorem Fun.binds {x qual:Str}{st:Stmt}{f:Aj}{fd:Ad}{ps:List Str}(F:Fun K x qual st f fd)
  (h:∀(kV doc pm:Ag) (an:Option Aj) (cdv ct:Ag) (us:List Ag),us.length=ps.length->bindArgs (W.fnOf x qual (v1 st) (vw st) (wg st) .none kV doc pm an cdv ct) ⟨us,[]⟩=pure (ps.zip us)):Binds K fd ps []:=by
 obtain⟨L,J,kV,doc,pm,an,cdv,ct,I,rfl,O,S⟩:=F.ex;exact .all (h kV doc pm an cdv ct)
theorem wqg {x qual:Str}{st:Stmt}{f:Aj}{oc:Ag}{od an:Option Aj}{osl:Array (Option Ag)}{kV doc pm cdv ct:Ag}(l:K.lookup f=some ⟨oc,od,.func (W.fnOf x qual (v1 st) (vw st) (wg st) .none kV doc pm an cdv ct),osl⟩)
  (c:W.codeIn K cdv qual=true) (k:W.keepIn K (.ref f)=true):Fun K x qual st f (W.fnOf x qual (v1 st) (vw st) (wg st) .none kV doc pm an cdv ct):=⟨⟨oc,od,kV,doc,pm,an,cdv,ct,osl,rfl,l,c⟩,k⟩
end
theorem Ws {A:Ae}{k:Nat}(hr:Room k A):A.units+1<cLine:=dH (Nat.add_le_add_left (by decide:1<=64) _) hr.units
theorem qy0 {n:Nat}(h:n<=1000):n<sizeLine:=dH h ⋯
section
variable {X:Cx}
theorem pv (i:Nat){x:Str}{pos:Pos}(hN:autoParam (X.N[i]?=some x) aU4._auto_1)(hv:Vis X.env.scope x:=by walk_at "vs")(hd:autoParam ((x==("__debug__" : Str))=false) aU1._auto_1)
  (hcd:autoParam ((x==("__classdict__" : Str))=false) aU1._auto_1):PE X (.Name x pos) (Wx i):=pe_var hN hv hd hcd
end
theorem Y0 {A B:Prop}(h:B):if false=true then A else B:=by rw[ak aq];exact h
theorem uc {A B:Prop}(h:A):if true=true then A else B:=by rw[ao rfl];exact h
def Same (H H':Hp):Prop:=∀b o,H b=some o->H' b=some o
theorem Same.refl (H:Hp):Same H H:=λ_ _ h=>h
theorem Same.trans {H H1 H2:Hp}(a:Same H H1)(b:Same H1 H2):Same H H2:=λc o h=>b c o (a c o h)
theorem Same.seq {K:Aa}{H H':Hp}{a:Aj}{xs:List V}(e:Same H H')(h:SqL K H a xs):SqL K H' a xs:=by
 rcases h with (h|⟨o,h⟩)|h
 .exact .inl (.inl (e _ _ h))
 .exact .inl (.inr ⟨o,e _ _ h⟩)
 .exact .inr h
section
variable {M:Model}{A:Ae}{E:Ag->Ab->Prop}{s:Ab}
theorem Z8 {a:Aj}{o:Obj}{vs:Array Ag}{i:Nat}{x:Ag}{Q:Unit->Ab->Prop}(he:s.heap.get? a=some o)(hd:o.data=.fields vs)(hi:i<vs.size)
  (h:∀(g:Heap) (o':Obj),g.get? a=some o'->o'.cls=o.cls->o'.data=.fields (vs.setIfInBounds i x)->(∀b,b≠a->g.get? b=s.heap.get? b)->Q () { s with heap:=g }):wpAny M A (setField (.ref a) i x) Q E s :=
 dI he hd hi (h _ _ (cT _ he (cU (bZ hd _))) (Obj.cls_mapFields _ _) (bZ hd _) λ_ nb=>cQ _ _ (ba nb))
def TrV (h B:Heap)(e:Aj)(cls:Ag)(ws:Array Ag)(fl:Ag):Prop:=∃oe T oT ts,h.get? e=some oe/\oe.cls=cls/\oe.data=.fields (ws.setIfInBounds 1 (.ref T))/\1<ws.size/\B.get? T=none/\T≠e/\h.get? T=some oT/\oT.data=.fields ts/\ts[3]?=some fl
theorem TrV.toW {h B:Heap}{e:Aj}{cls a0 fl:Ag}{ws:Array Ag}(x:TrV h B e cls ws fl)(h0:ws[0]?=some a0):h.TracedAtW B e cls a0 fl:=by obtain⟨I,T,J,F,O,U,S,L,r⟩:=x;exact⟨I,_,T,J,F,O,⟨U,by rw[cS ⋯];exact h0⟩,S,by simp[L],r⟩
def FlyV (B:Heap)(l:List Env)(e:Aj)(cls:Ag)(ws:Array Ag)(fl:Ag)(h:Heap):Prop:=B.StaysIn h/\B.get? e=none/\h.FunFrames B l/\TrV h B e cls ws fl
theorem FlyV.toW {B h:Heap}{l:List Env}{e:Aj}{cls a0:Ag}{ws:Array Ag}(x:FlyV B l e cls ws .none h)(h0:ws[0]?=some a0):Heap.FlyingW B l e cls a0 h:=⟨x.1,x.2.1,x.2.2.1,x.2.2.2.toW h0⟩
theorem qvc {B h g:Heap}{l:List Env}{a:Aj}{oa:Obj}{vs:Array Ag}(hB:B.StaysIn h)(hl:h.FunFrames B l)(ha:h.get? a=some oa)(hd:oa.data=.fields vs)(na:B.get? a=none)(hg:∀b,b≠a->g.get? b=h.get? b) :
  B.StaysIn g/\g.FunFrames B l/\∀b o,h.get? b=some o->(∀vs,o.data≠.fields vs)->g.get? b=some o:=by
 have J:∀b o,h.get? b=some o->(∀vs,o.data≠.fields vs)->b≠a:=λb o F I z=>by rw[z,ha]at F;cases F;exact I vs hd
 refine⟨λb o F=>?_,hl.of_keeps λb o F I=>⟨o,(hg b (J b o F I)).trans F,rfl⟩,λb o F I=>(hg b (J b o F I)).trans F⟩;rw[hg b λz=>by rw[z,na]at F;cases F];exact hB b o F
theorem Qm {B:Heap}{l:List Env}{e:Aj}{cls fl:Ag}{ws:Array Ag}{Q:Unit->Ab->Prop}(x:FlyV B l e cls ws fl s.heap)(v:Option Aj)
  (h:∀g,FlyV B l e cls ws (v.elim Value.none λf=>rawInt f) g->s.heap.UpToSlots g->Q () { s with heap:=g }):wpAny M A (setFlight (.ref e) v) Q E s:=by
 obtain⟨k1,k2,k3,oe,T,oT,ts,L,hc,O,J,I,Te,S,Z,h3⟩:=x;have F:3<ts.size:=(cz.mp h3).1;unfold setFlight;refine aa (aR L O (x:=.ref T) (by simp[J]) ?_);rw[ao (show(Value.ref T != Value.none)=true from by simp)];refine Z8 S Z F λg o' g1 g2 g3 U=>?_;obtain⟨q1,q2,q3⟩:=qvc k1 k3 S Z I U;exact h g ⟨q1,k2,q2,oe,T,o',_,(U e (ba Te)).trans L,hc,O,J,I,Te,g1,g3,by simp[F]⟩ λb o hb hn=>⟨o.slots,q3 b o hb hn⟩
theorem TrV.again {h B:Heap}{e:Aj}{cls fl x:Ag}{ws:Array Ag}(t:TrV h B e cls (ws.setIfInBounds 1 x) fl):TrV h B e cls ws fl:=by obtain⟨L,T,O,J,S,U,I,F,r⟩:=t;rw[dZ]at F;rw[Array.setIfInBounds_setIfInBounds]at I;exact⟨L,T,O,J,S,U,I,F,r⟩
theorem qj7 {B:Heap}{env:Env}{outer:List Env}{L e:Aj}{oe:Obj}{vs:Array Ag}{head:Ag}{hadNext:Bool}{Q:Unit->Ab->Prop}(hfr:A.frames=some (env::outer))(hf:env.frame=some L)(hB:B.StaysIn s.heap)(hen:B.get? e=none)(hl:s.heap.FunFrames B (env::outer))
  (he:s.heap.get? e=some oe) (hd:oe.data=.fields vs) (hz:1<vs.size) (h:∀g,FlyV B (env::outer) e oe.cls vs (rawInt L) g->s.heap.UpToSlots g->Q () { s with heap:=g }) :
  wpAny M A (do let a <-frameOf env;let pl <-entryPlaceOf L hadNext;let b <-EntryCells.newEntry head a .none (rawInt L) .none pl;setField (.ref e) 1 b) Q E s:=by
 refine aa (wpAny_frameOf_fun hfr hl hf λI O=>?_);refine aa (wpAny_entryPlaceOf λpl ip=>?_);unfold EntryCells.newEntry newFields;refine aa (bb ?_ (ip.sizeOk5 _ _ _ _ _));have eF:e∉(env::outer).filterMap (·.frame):=λm=>by obtain⟨_,u,hu,nu⟩:=hl.mem m;rw[he]at hu;cases hu;exact nu vs hd
 have e1:I.get? e=some oe:=(O.2.1 e eF).trans he;have B1:B.StaysIn I:=λb o F=>(O.2.1 b λm=>by rw[(hl.mem m).1]at F;cases F).trans (hB b o F);have nT:B.get? I.objs.size=none:=B1.fresh;have Te:I.objs.size≠e:=bX (ae e1);generalize hts:([head,.ref L,.none,rawInt L,.none]++(if pl.isEmpty then List.replicate 6 Value.none else pl)).toArray=ts;have t3:ts[3]?=some (rawInt L):=by rw[<-hts];simp
 refine Z8 (ac _ e1) hd hz λg o' q1 q2 q3 Z=>?_;have hT:=(Z _ Te).trans (aj I rfl);have ad:∀b o,I.get? b=some o->b≠e->g.get? b=some o:=λb o F nb=>(Z b nb).trans (ac _ F);have an:∀b o,s.heap.get? b=some o->(∀vs,o.data≠.fields vs)->b≠e:=λb o F J z=>by rw[z,he]at F;cases F;exact J vs hd
 have S:s.heap.UpToSlots g:=λb o F J=>by obtain⟨U,hs⟩:=O.2.2 b o F;exact⟨U,ad b _ hs (an b o F J)⟩
 have Bg:B.StaysIn g:=λb o F=>ad b o (B1 b o F) λz=>by rw[z,hen]at F;cases F
 refine h g ⟨Bg,hen,hl.of_keeps λb o F J=>?_,⟨o',_,_,ts,q1,q2,q3,hz,nT,Te,hT,rfl,t3⟩⟩ S;obtain⟨U,hs⟩:=S b o F J;exact⟨_,hs,rfl⟩
theorem quf {B:Heap}{env:Env}{outer:List Env}{L e:Aj}{oe:Obj}{vs:Array Ag}{Q:Unit->Ab->Prop}(hfr:A.frames=some (env::outer))(hf:env.frame=some L)(hB:B.StaysIn s.heap)(hen:B.get? e=none)(hl:s.heap.FunFrames B (env::outer))
  (he:s.heap.get? e=some oe) (hd:oe.data=.fields vs) (h1:vs[1]?=some .none) (h:∀g,FlyV B (env::outer) e oe.cls vs (rawInt L) g->s.heap.UpToSlots g->Q () { s with heap:=g }):wpAny M A (noteFrame (.ref e) env) Q E s:=by
 unfold noteFrame;simp only[hf];refine aa (aR he hd h1 ?_);rw[ak ⋯];exact qj7 hfr hf hB hen hl he hd (cz.mp h1).1 h
theorem ww8 {B:Heap}{env:Env}{outer:List Env}{L e:Aj}{cls fl:Ag}{ws:Array Ag}{Q:Unit->Ab->Prop}(hfr:A.frames=some (env::outer))(hf:env.frame=some L)(x:FlyV B (env::outer) e cls ws fl s.heap)
  (h:∀g,FlyV B (env::outer) e cls ws (rawInt L) g->s.heap.UpToSlots g->Q () { s with heap:=g }):wpAny M A (noteFrame (.ref e) env) Q E s:=by
 obtain⟨k1,k2,k3,oe,T,oT,ts,O,hc,S,J,nT,Te,F,I,U⟩:=id x;unfold noteFrame;simp only[hf];refine aa (aR O S (x:=.ref T) (by simp[J]) ?_);rw[ao (show(Value.ref T != Value.none)=true from by simp)];refine aa (aR F I U ?_);by_cases z:fl=rawInt L
 .subst z;rw[ao (by simp)];exact ag (h s.heap x (Heap.UpToSlots.refl _))
 rw[ak (show ¬ ((fl==rawInt L)=true) from by simp[z])];refine aa (Z8 F I (cz.mp U).1 λg o' g1 g2 g3 Z=>?_);obtain⟨q1,q2,q3⟩:=qvc k1 k3 F I nT Z;subst hc;refine qj7 hfr hf q1 k2 q2 ((Z e (ba Te)).trans O) S (by rw[dZ];exact J) λg' r up=>h g' ⟨r.1,r.2.1,r.2.2.1,r.2.2.2.again⟩ ?_;exact Heap.UpToSlots.trans (λb o hb hn=>⟨o.slots,q3 b o hb hn⟩) up
theorem wvv {B:Heap}{env:Env}{outer:List Env}{L e:Aj}{cls fl:Ag}{ws:Array Ag}{Q:Unit->Ab->Prop}(hfr:A.frames=some (env::outer))(hf:env.frame=some L)(x:FlyV B (env::outer) e cls ws fl s.heap)
  (h:∀g,FlyV B outer e cls ws .none g->s.heap.UpToSlots g->Q () { s with heap:=g }):wpAny M A (leaving env (.ref e)) Q E s:=by
 unfold leaving;refine aa (ww8 hfr hf x λg1 I O=>?_);refine Qm I none λg F J=>?_;obtain⟨Z,U,⟨_,_,k3⟩,S⟩:=F;exact h g ⟨Z,U,k3,S⟩ (O.trans J)
theorem wq2 {B:Heap}{env:Env}{outer:List Env}{L e:Aj}{oe:Obj}{vs:Array Ag}{Q:Unit->Ab->Prop}(hfr:A.frames=some (env::outer))(hf:env.frame=some L)(hB:B.StaysIn s.heap)(hen:B.get? e=none)(hl:s.heap.FunFrames B (env::outer))
  (he:s.heap.get? e=some oe) (hd:oe.data=.fields vs) (h1:vs[1]?=some .none) (h:∀g,FlyV B outer e oe.cls vs .none g->s.heap.UpToSlots g->Q () { s with heap:=g }):wpAny M A (leaving env (.ref e)) Q E s:=by
 unfold leaving;refine aa (quf hfr hf hB hen hl he hd h1 λg1 I O=>?_);refine Qm I none λg F J=>?_;obtain⟨Z,U,⟨_,_,k3⟩,S⟩:=F;exact h g ⟨Z,U,k3,S⟩ (O.trans J)
end
theorem nin {b:Aj}:b∉([]:List Aj):=λz=>nomatch z
theorem qzj {K:Aa}{h:Heap}{C:Aj}{bmB:List Ag}{newId:String}(X:K.In h)(q:W.excIn K C bmB newId=true) :
  ∃tl N a1 a2 a3 a4 a5 a6 a7 a8 a9 b0 b1 b2 b3 b5 mN,h.get? C=some (excClassObj a1 a2 C N a3 tl a4 a5 a6 a7 a8 a9 b0 b1 b2 b3 b5 newId) /\
   h.Ns N mN/\mN "__init__" = none/\OwnTail h bmB tl:=by
 unfold W.excIn at q;split at q
 .next dd cd sl ho =>
  split at q
  .next C1 tl x0 x1 x2 x3 nn x5 hm hs =>
   rw[aO,aO,aO,aO,aO]at q;obtain⟨⟨⟨⟨⟨p1,p2⟩,U⟩,L⟩,F⟩,J⟩:=q;have ad:=eq_of_beq p1;have Z:=eq_of_beq p2;have I:=eq_of_beq J;have S:cd.hasDel=false:=by simpa using U
   subst ad Z;obtain⟨f1,f2,f3,f4,f5,f6,f7,f8,f9,bk,bf⟩:=cd;have a0:f3=Value.ref C1::tl:=hm;have O:bf=false:=S;subst a0 O;have ap:sl=#[x0,x1,x2,x3,some (.builtin nn),x5]:=by
    cases sl with
    |mk l =>
     have:l=[x0,x1,x2,x3,some (.builtin nn),x5]:=hs;rw[this]
   subst ap;have an:=W.isNs_of_in X F;exact⟨tl,f4,f1,f5,f2,f6,f7,f8,f9,bk,dd,x0,x1,x2,x3,x5,_,X _ _ ho,.of_isNs an,W.nsMap_none_of_in X F I,W.tail_of_in X L⟩
  .exact absurd q ⋯
 .exact absurd q ⋯
def CXE (P:Ac)(w:Ah):CXT:=λouter H s E e s' =>
 ∃(a C:Aj) (a0:Ag) (ws:Array Ag) (d:Option Aj) (B:Heap) (H':Hp),e=.ref a/\s'.os=s.os/\AllBare s'.gens/\Un (frs outer) [] H H' s.heap s'.heap/\HOk P w H' B /\
  FlyV B outer a (.ref C) ws .none s'.heap/\(ws[0]?=some a0/\(d=none->ws[2]?=some .none))/\(∀b o,s.heap.get? b=some o->b∉frs outer->∃o',B.get? b=some o'/\(H b=none->o'=o))/\E (.ref C) d H'
theorem CXE.no {P:Ac}{w:Ah}{outer:List Env}{H:Hp}{s s':Ab}{e:Ag}(h:CXE P w outer H s E0 e s'):False:=by obtain⟨_,_,_,_,_,_,_,_,_,_,_,_,_,_,_,q⟩:=h;exact q
def kh (X:Cx)(E:St->XK):Prop:=∀(pins:List (Aj×Obj)) (σ:St) (H:Hp) (s:Ab) (e:Ag) (s':Ab),Inv X pins σ H s->CXE X.prog X.w X.stack H s (E σ) e s'->X.xe e s'
theorem wws {X:Cx}:kh X (λ_=>E0):=λ_ _ _ _ _ _ _ h=>h.no.elim
def ww5 (X:Cx)(E:St->XK):Prop:=∀(pins:List (Aj×Obj)) (σ:St) (H:Hp) (s:Ab) (h':Heap) (e C:Aj) (vs:List Ag),Inv X pins σ H s->Heap.MadeExcOf s.heap h' e (.ref C) vs->E σ (.ref C) none H->X.xe (.ref e) { s with heap:=h' }
def wxx (X:Cx)(E:St->XK):Prop:=∀(pins:List (Aj×Obj)) (σ:St) (H:Hp) (s:Ab) (h':Heap) (e C:Aj) (oe:Obj) (vs:Array Ag) (a0:Ag) (d:Option Aj),Inv X pins σ H s->s.heap.get? e=none->(∀b o,s.heap.get? b=some o->h'.get? b=some o)->h'.get? e=some oe->oe.cls=.ref C->oe.data=.fields vs ->
 vs[0]?=some a0->vs[1]?=some .none->(d=none->vs[2]?=some .none)->E σ (.ref C) d H->X.xe (.ref e) { s with heap:=h' }
theorem jr {env:Env}{L:Aj}{outer:List Env}(h:env.frame=some L):frs (env::outer)=L::frs outer:=by unfold frs;rw[cE,h]
section
variable {P:Ac}{w:Ah}{K:Aa}{mg:Str->Option Ag}{base:Heap}{N:List Str}{qual:Str}{scope:Scope}{f:Aj}{cdv:Ag}{A:Ae}{outer:List Env}{s0:Ab}{H0:Hp}{E:XK}
theorem wv:kh (Q7 (CXE P w) P w K mg base N qual scope f cdv A outer s0 H0 E) (λ_=>E):=by
 intro pins σ H s e s' I hx;obtain⟨a,C,a0,ws,dd,B,H',rfl,a7,bf,U,a8,ap,a4,a6,q⟩:=hx;have J:=I.base;have hL:∀b o,s0.heap.get? b=some o->b≠s0.heap.objs.size:=λb o e z=>aS _ (z▸ae e);have ad:frs (envOfC qual scope s0.heap.objs.size f cdv::outer)=s0.heap.objs.size::frs outer:=jr rfl;have a9:∀b o,s0.heap.get? b=some o->b∉frs outer->b∉frs (envOfC qual scope s0.heap.objs.size f cdv::outer):=λb o e n=>by
  rw[ad];intro z;rcases av.mp z with z|z
  .exact hL b o e z
  .exact n z
 have an:∀b o,s0.heap.get? b=some o->b∉frs outer->∃o',B.get? b=some o'/\(H0 b=none->o'=o):=λb o e n=>by obtain⟨o1,F⟩:=J.there b o e nin;obtain⟨o2,O,S⟩:=a6 b o1 F (a9 b o e n);refine⟨o2,O,λz=>?_⟩;have Z:=J.keep b o e z n nin;have e5:=J.free b o e z nin;rw[F]at Z;rw[S e5];exact al Z
 refine wvv I.ok.frames rfl ap λh' a1 a3=>?_;have a5:∀b,b∈frs outer->∀o,s0.heap.get? b=some o->H0 b=none->∃sl,h'.get? b=some { o with slots:=sl }:=λb L o e n=>by obtain⟨sl,F⟩:=J.slot b o e n L nin;obtain⟨bk,O⟩:=U.slot b _ F (J.free b o e n nin) (by show b∈frs (envOfC qual scope s0.heap.objs.size f cdv::outer);rw[ad];exact .tail _ L) nin;obtain⟨_,o3,S,nf⟩:=ap.2.2.1.mem (b:=b) (by show b∈frs (envOfC qual scope s0.heap.objs.size f cdv::outer);rw[ad];exact .tail _ L);obtain⟨a2,Z⟩:=a3 b o3 S nf;rw[O]at S;have e5:=al S;exact⟨a2,by rw[Z,<-e5]⟩
 refine⟨a,C,a0,ws,dd,B,H',rfl,a7.trans I.os,bf,⟨λb o e n nb _=>?_,λb o e n L _=>a5 b L o e n,λb o e n _=>?_,λb o e _=>?_,λb xs e=>U.tups b xs (J.tups b xs e),λb o u e=>U.frzs b o u (J.frzs b o u e),λb ps e=>?_⟩,a8,a1,a4,an,q⟩
 .obtain⟨o',F,O⟩:=an b o e nb;rw[O n]at F;exact a1.1 b o F
 .obtain⟨o1,F⟩:=J.there b o e nin;exact U.free b o1 F (J.free b o e n nin) nin
 .by_cases L:b∈frs outer
  .obtain⟨o1,F⟩:=J.there b o e nin;obtain⟨o2,O⟩:=U.there b o1 F nin;obtain⟨_,o3,S,nf⟩:=ap.2.2.1.mem (b:=b) (by show b∈frs (envOfC qual scope s0.heap.objs.size f cdv::outer);rw[ad];exact .tail _ L);obtain⟨a2,Z⟩:=a3 b o3 S nf;exact⟨_,Z⟩
  .obtain⟨o',F,_⟩:=an b o e L;exact⟨o',a1.1 b o' F⟩
 .obtain⟨m1,F⟩:=J.tbls b ps e;obtain⟨m2,O⟩:=U.tbls b _ F;exact⟨m1++m2,by rw[O,Array.append_assoc]⟩
theorem Jk:wxx (Q7 (CXE P w) P w K mg base N qual scope f cdv A outer s0 H0 E) (λ_=>E):=by
 intro pins σ H s h' e C oe vs a0 d I a7 ap he S hd w0 w1 w2 q;have O:=I.base;have a4:frs (envOfC qual scope s0.heap.objs.size f cdv::outer)=s0.heap.objs.size::frs outer:=jr rfl;have a8:∀b o,s0.heap.get? b=some o->b∉frs outer->b∉frs (envOfC qual scope s0.heap.objs.size f cdv::outer):=λb o e n=>by
  rw[a4];intro z;rcases av.mp z with z|z
  .exact aS _ (z▸ae e)
  .exact n z
 have a9:∀b∈frs (envOfC qual scope s0.heap.objs.size f cdv::outer),H b=none:=I.stkFree;have hB:∀b o,s.heap.get? b=some o->b∉frs (envOfC qual scope s0.heap.objs.size f cdv::outer)->(W.hideAll s.heap (frs (envOfC qual scope s0.heap.objs.size f cdv::outer))).get? b=some o:=λb o e n=>W.hideAll_get _ e n;have a6:HOk P w H (W.hideAll s.heap (frs (envOfC qual scope s0.heap.objs.size f cdv::outer))):=λb u F=>by
  refine(I.hok b u F).stay (λc v S ec=>hB c v ec λhm=>?_) (λ_ z=>z) (λ_ _ z=>z);have hn:=a9 c hm;rcases S with rfl|S
  .rw[hn]at F;cases F
  .rw[hn]at S;cases S
 have an:∀b o,s0.heap.get? b=some o->b∉frs outer->∃o',(W.hideAll s.heap (frs (envOfC qual scope s0.heap.objs.size f cdv::outer))).get? b=some o'/\(H0 b=none->o'=o):=λb o e n=>by obtain⟨o1,J⟩:=O.there b o e nin;refine⟨o1,hB b o1 J (a8 b o e n),λz=>?_⟩;have U:=O.keep b o e z n nin;rw[J]at U;exact al U
 have a3:s.heap.FunFrames base (envOfC qual scope s0.heap.objs.size f cdv::outer):=I.stack;have bf:=W.funFrames_hide (as:=frs (envOfC qual scope s0.heap.objs.size f cdv::outer)) a3 (λenv he b F=>dF.mpr ⟨env,he,F⟩);have bk:(W.hideAll s.heap (frs (envOfC qual scope s0.heap.objs.size f cdv::outer))).get? e=none:=by
  cases z:(W.hideAll s.heap (frs (envOfC qual scope s0.heap.objs.size f cdv::outer))).get? e with
  |none=>rfl
  |some o =>
   have:=dC _ z;rw[a7]at this;cases this
 refine wq2 (B:=W.hideAll s.heap (frs (envOfC qual scope s0.heap.objs.size f cdv::outer))) I.ok.frames rfl (λb o e=>ap b o (dC _ e)) bk (bf.of_keeps λb o F _=>⟨o,ap b o F,rfl⟩) he hd w1 λbl ad a5=>?_;rw[S]at ad;have a1:∀b,b∈frs outer->∃o,s.heap.get? b=some o/\∃sl,bl.get? b=some { o with slots:=sl }:=λb F=>by obtain⟨_,o3,L,nf⟩:=a3.mem (b:=b) (by show b∈frs (envOfC qual scope s0.heap.objs.size f cdv::outer);rw[a4];exact .tail _ F);exact⟨o3,L,a5 b o3 (ap b o3 L) nf⟩
 refine⟨e,C,a0,vs,d,_,H,rfl,I.os,I.bare,⟨λb o J n nb _=>?_,λb o J n F _=>?_,λb o J n _=>O.free b o J n nin,λb o J _=>?_,O.tups,O.frzs,O.tbls⟩,a6,ad,⟨w0,w2⟩,an,q⟩
 .obtain⟨o',Z,L⟩:=an b o J nb;rw[L n]at Z;exact ad.1 b o Z
 .obtain⟨sl,Z⟩:=O.slot b o J n F nin;obtain⟨o3,L,a2,U⟩:=a1 b F;rw[Z]at L;have e5:=al L;exact⟨a2,by rw[U,<-e5]⟩
 .by_cases F:b∈frs outer
  .obtain⟨o3,L,a2,U⟩:=a1 b F;exact⟨_,U⟩
  .obtain⟨o',Z,_⟩:=an b o J F;exact⟨o',ad.1 b o' Z⟩
theorem xg:ww5 (Q7 (CXE P w) P w K mg base N qual scope f cdv A outer s0 H0 E) (λ_=>E):=by intro pins σ H s h' e C vs I F q;obtain⟨t,J,_,_⟩:=F.there;exact Jk pins σ H s h' e C _ _ _ none I F.new F.keeps J rfl rfl rfl rfl (λ_=>rfl) q
end
section
variable {P:Ac}{w:Ah}{K:Aa}{mg:Str->Option Ag}{base:Heap}
end
def qkj (sp:Sp)(E:St->XK)(t:TA):TE:=λσ H Q=>t σ H λvs H1=>sp vs H1 Q (E σ)
def Zr (C:Aj)(m:Str)(sp:Sp)(E:St->XK)(ta:TE)(t:TA):TE:=λσ H Q=>ta σ H λx H1=>∃a dx fs,x=.ref a/\H1 a=some (.ins C dx fs)/\fs.lookup m=none /\
 t σ H1 λvs H2=>sp (x::vs) H2 Q (E σ)
def qk0 (C:Aj)(sp:Sp)(E:St->XK)(t:TA):TE:=λσ H Q=>t σ H λvs H1=>∀x dx,H1 x=none->H1 dx=none->dx≠x ->
 sp (.ref x::vs) (upd (upd H1 dx (.own x)) x (.ins C dx [])) (λv H2=>v=.non/\Q (.ref x) H2) (E σ)
section
variable {X:Cx}{k:Nat}{f C:Aj}{fd:Ad}{ps:List Str}{sp:Sp}{E:St->XK}{x m:Str}{p pos apos:Pos}{e o:Expr}{es:List Expr}{ta:TE}{t:TA}
theorem qws {pins:List (Aj×Obj)}{σ:St}{H:Hp}{s:Ab}{Q:VK}{us:List Ag}{vs:List V}(F:FnOk X.prog X.w X.K X.mg X.base (CXE X.prog X.w) k f fd ps sp)(hr:Room k X.A)(hb:Binds X.K fd ps [])(hx:kh X E)
  (I:Inv X pins σ H s) (r:Vals vs us) (h:sp vs H Q (E σ)):wpAny (model X.prog X.w) X.A (call (.ref f) us) (EP X pins σ Q) X.xe s:=by
 have O:(us++[]).length=ps.length:=by rw[bB,<-r.length];exact F.len _ _ _ _ h
 have L:=hb s us I.kIn O;rw[bB]at L;refine wpAny_call (dz (F.run X.A X.stack s H ⟨us,[]⟩ us vs Q (E σ) hr I.env0 L r h) λr s' J=>?_);cases r with
 |error e=>exact hx pins σ H s e s' I J
 |ok fl =>
  cases fl with
  |ret u=>exact I.after J
  |next=>exact False.elim J
  |brk=>exact False.elim J
  |cont=>exact False.elim J
theorem ww1 (F:FnOk X.prog X.w X.K X.mg X.base (CXE X.prog X.w) k f fd ps sp)(hr:Room k X.A)(hg:Gl X x)(hm:X.mg x=some (.ref f))(hk:W.keepIn X.K (.ref f)=true)(hb:Binds X.K fd ps [])(hx:kh X E)
  (ha:PA X (e::es) t) (hdb:autoParam ((x==("__debug__" : Str))=false) aU1._auto_1) (he:autoParam (starEach (e::es) X.env=(false,eval e X.env)::starEach es X.env) aU4._auto_1) (hpl:autoParam ((backTo pos (starEach es X.env)).any (·.1)=false) aU4._auto_1) :
  PE X (.Call (.Name x p) (e::es) [] pos) (qkj sp E t):=by
 intro pins s σ H Q I h;refine bJ (jb I hg hm ?_ hdb);refine dJ (h₀:=X.base) I.ok.mod.kin hk (thn (ha pos pins s σ H _ I h) λus s1 ⟨vs,H1,I1,r,q⟩=>⟨I1.kIn,?_⟩) he hpl;exact qws F hr hb hx I1 r q
theorem wqd {pl:Sem Bool}(he:PE X o ta)(c:Cls X.K C)(hm:Meth X.K C m f)(F:FnOk X.prog X.w X.K X.mg X.base (CXE X.prog X.w) k f fd ps sp)(hr:Room k X.A)(hb:Binds X.K fd ps [])(hx:kh X E)(ha:PA X (e::es) t)
  (hst:autoParam (starEach (e::es) X.env=(false,eval e X.env)::starEach es X.env) aU4._auto_1) (hpl:autoParam ((backTo pos (starEach es X.env)).any (·.1)=false) aU4._auto_1)
  (ht:autoParam (eval (.Call (.Attribute o m apos) (e::es) [] pos) X.env=(do
   let ov <-eval o X.env
   standAt apos.atName
   let (f,first) <-holding [ov] (getMethod ov m pl)
   callWith pos f first (backTo pos (starEach (e::es) X.env)) (backToKw pos (keywordEach [] X.env)))) aU4._auto_1) :
  PE X (.Call (.Attribute o m apos) (e::es) [] pos) (Zr C m sp E ta t):=by
 intro pins s σ H Q I h;refine W.methodCall_KW (pl:=pl) (thn (he pins s σ H _ I h) λu s1 ⟨x,H1,I1,rx,a,dx,fs,ex,ea,l,q⟩=>?_) ht;subst ex;obtain rfl:u=Value.ref a:=rx;refine Z9 I1 ea c hm l ?_;refine dJ (first:=[.ref a]) (h₀:=X.base) I.ok.mod.kin hm.kp (thn (ha pos pins s1 σ H1 _ I1 q) λus s2 ⟨vs,H2,I2,r,q2⟩=>⟨I2.kIn,?_⟩) hst hpl;exact qws (us:=.ref a::us) (vs:=.ref a::vs) F hr hb hx I2 (.cons rfl r) q2
theorem quz {pl:Sem Bool}(he:PE X o ta)(c:Cls X.K C)(hm:Meth X.K C m f)(F:FnOk X.prog X.w X.K X.mg X.base (CXE X.prog X.w) k f fd ps sp)(hr:Room k X.A)(hb:Binds X.K fd ps [])(hx:kh X E)
  (ht:autoParam (eval (.Call (.Attribute o m apos) [] [] pos) X.env=(do
   let ov <-eval o X.env
   standAt apos.atName
   let (f,first) <-holding [ov] (getMethod ov m pl)
   callWith pos f first (backTo pos (starEach [] X.env)) (backToKw pos (keywordEach [] X.env)))) aU4._auto_1) :
  PE X (.Call (.Attribute o m apos) [] [] pos) (Zr C m sp E ta qqq):=by
 intro pins s σ H Q I h;refine W.methodCall_KW (pl:=pl) (thn (he pins s σ H _ I h) λu s1 ⟨x,H1,I1,rx,a,dx,fs,ex,ea,l,q⟩=>?_) ht;subst ex;obtain rfl:u=Value.ref a:=rx;refine Z9 I1 ea c hm l ?_;exact W.callWith_K0 (first:=[.ref a]) I1.kIn hm.kp (qws (us:=[.ref a]) (vs:=[.ref a]) F hr hb hx I1 (.cons rfl .nil) q)
theorem qq9 {pins:List (Aj×Obj)}{σ:St}{H:Hp}{s:Ab}{Q:VK}{us:List Ag}{vs:List V}(M:Mk X.K C f)(F:FnOk X.prog X.w X.K X.mg X.base (CXE X.prog X.w) k f fd ps sp)(hr:Room (k+1) X.A)(hb:Binds X.K fd ps [])
  (hx:kh X E) (I:Inv X pins σ H s) (r:Vals vs us)
  (h:∀x dx,H x=none->H dx=none->dx≠x->sp (.ref x::vs) (upd (upd H dx (.own x)) x (.ins C dx [])) (λv H2=>v=.non/\Q (.ref x) H2) (E σ)) :
  wpAny (model X.prog X.w) X.A (call (.ref C) us) (EP X pins σ Q) X.xe s:=by
 have S:=h (s.heap.objs.size+1) s.heap.objs.size (I.hok.fresh (Nat.le_succ _)) (I.hok.fresh (af _)) (ar (cB _));have L:=Inv.made (C:=C) I;have O:Vals (V.ref (s.heap.objs.size+1)::vs) (Value.ref (s.heap.objs.size+1)::us):=.cons rfl r;have hl:((Value.ref (s.heap.objs.size+1)::us)++[]).length=ps.length:=by rw[bB,<-O.length];exact F.len _ _ _ _ S
 have U:=hb _ (Value.ref (s.heap.objs.size+1)::us) L.kIn hl;rw[bB]at U;refine wpAny_call (wx6 (f:=f) I.kIn M.makes M.init (bY.mp M.fn) (dz (F.run _ X.stack _ _ ⟨Value.ref (s.heap.objs.size+1)::us,[]⟩ (Value.ref (s.heap.objs.size+1)::us) _ _ (E σ) (hr.make C us [])
  (L.env0.make C us []) U O S) λr s' J=>?_))
 cases r with
 |error e=>exact hx pins σ _ _ e s' L J
 |ok fl =>
  cases fl with
  |ret u =>
   obtain⟨v,H',I3,Z,ev,q3⟩:=L.after J;subst ev;exact⟨Z,⟨V.ref (s.heap.objs.size+1),H',I3,rfl,q3⟩⟩
  |next=>exact False.elim J
  |brk=>exact False.elim J
  |cont=>exact False.elim J
theorem ww2 (M:Mk X.K C f)(F:FnOk X.prog X.w X.K X.mg X.base (CXE X.prog X.w) k f fd ps sp)(hr:Room (k+1) X.A)(hg:Gl X x)(hm:X.mg x=some (.ref C))(hb:Binds X.K fd ps [])(hx:kh X E)
  (ha:PA X (e::es) t) (hdb:autoParam ((x==("__debug__" : Str))=false) aU1._auto_1) (he:autoParam (starEach (e::es) X.env=(false,eval e X.env)::starEach es X.env) aU4._auto_1) (hpl:autoParam ((backTo pos (starEach es X.env)).any (·.1)=false) aU4._auto_1) :
  PE X (.Call (.Name x p) (e::es) [] pos) (qk0 C sp E t):=by
 intro pins s σ H Q I h;refine bJ (jb I hg hm ?_ hdb);refine dJ (h₀:=X.base) I.ok.mod.kin M.kp (thn (ha pos pins s σ H _ I h) λus s1 ⟨vs,H1,I1,r,q⟩=>⟨I1.kIn,?_⟩) he hpl;exact qq9 M F hr hb hx I1 r q
end
structure ExcC (K:Aa)(C:Aj):Prop where
 q:W.excIn K C [.type "ValueError",.type "Exception",.type "BaseException",.type "object"] "ValueError.__new__" = true
def tRaise (C:Aj)(E:St->XK)(t:TA):TS:=λD σ H=>t σ H λvs H1=>vs.length<=sizeLine/\E σ (.ref C) none H1
section
variable {X:Cx}{C:Aj}{E:St->XK}{x:Str}{np cpos pos:Pos}{e:Expr}{es:List Expr}{t:TA}
theorem zj (hc:X.calm=true)(c:ExcC X.K C)(hR:ww5 X E)(hg:Gl X x)(hm:X.mg x=some (.ref C))(ha:PA X (e::es) t)(hdb:autoParam ((x==("__debug__" : Str))=false) aU1._auto_1)
  (he:autoParam (starEach (e::es) X.env=(false,eval e X.env)::starEach es X.env) aU4._auto_1) (hpl:autoParam ((backTo cpos (starEach es X.env)).any (·.1)=false) aU4._auto_1) :
  PS X (.Raise (some (.Call (.Name x np) (e::es) [] cpos)) none pos) (tRaise C E t):=by
 intro pins s σ H D I h;obtain⟨tl,N,a1,a2,a3,a4,a5,a6,a7,a8,a9,b0,b1,b2,Z,U,mN,S,O,L,T⟩:=qzj I.ok.mod.kin c.q;refine wpAny_Raise_call_subT (C:=C) (nm:=a1) (q:=a2) (N:=N) (bs:=a3) (bm:=tl) (hdct:=a4) (sn:=a5) (sub:=a6) (ab:=a7) (col:=a8) (dd:=a9) (k0:=b0) (k1:=b1) (k2:=b2) (k3:=Z) (k5:=U)
  bK (mN:=mN) (T.hasType bK.hasBase) (I.ok.hd hc) (by rw[he];show(false||(backTo cpos (starEach es X.env)).any (·.1))=false;rw[hpl];rfl) L (jb I hg hm ⟨rfl,?_⟩ hdb)
 have F:=ha cpos pins s σ H _ I h;rw[he]at F ⊢;refine cy (aG F (λus s1 ⟨vs,H1,I1,r,hl,q⟩=>⟨rfl,by rw[<-r.length];exact hl,I1.bk _ _ S,O.keeps I1.bk,T.keeps I1.bk,λh' e J=>hR pins σ H1 s1 h' e C us I1 J q⟩) λ_ _ z=>z)
end
abbrev Cx.handling (X:Cx)(e:Aj):Cx:={ X with A:=X.A.mark (some (.ref e)),calm:=false,xe:=λ_ _=>False }
abbrev Cx.trying (X:Cx)(pn:List (Aj×Obj))(xe:Ag->Ab->Prop):Cx:={ X with pn:=pn,xe:=xe }
section
variable {X:Cx}{pins:List (Aj×Obj)}{σ:St}{H H':Hp}{s s':Ab}{e:Aj}
theorem Cx.Ok.handling (o:X.Ok)(e:Aj):(X.handling e).Ok :=
 ⟨o.mod,o.kind,o.glob,o.blt,o.above,o.inj,o.has,o.cab,λz=>(aq z).elim,o.frames,o.stk,o.exf,o.bs,o.bsz,o.noex,o.exfs,o.funs,o.frf⟩
theorem Cx.Ok.trying (o:X.Ok)(pn:List (Aj×Obj))(xe:Ag->Ab->Prop):(X.trying pn xe).Ok :=
 ⟨o.mod,o.kind,o.glob,o.blt,o.above,o.inj,o.has,o.cab,o.hd,o.frames,o.stk,o.exf,o.bs,o.bsz,o.noex,o.exfs,o.funs,o.frf⟩
theorem Inv.handling (I:Inv X pins σ H s)(e:Aj):Inv (X.handling e) pins σ H s:=⟨I.ok.handling e,I.os,I.bare,I.base,I.loc,I.cell,I.free,I.freeC,I.pin,I.hok,I.len⟩
theorem Inv.trying (I:Inv X pins σ H s)(xe:Ag->Ab->Prop):Inv (X.trying (X.pn++pins) xe) [] σ H s :=
 ⟨I.ok.trying _ _,I.os,I.bare,I.base,I.loc,I.cell,I.free,I.freeC,λp hp=>I.pin p ((bA.mp hp).elim (λz=>z) λz=>nomatch z),I.hok,I.len⟩
theorem Inv.untrying {pins':List (Aj×Obj)}{xe:Ag->Ab->Prop}(o:X.Ok)(I:Inv (X.trying (X.pn++pins) xe) pins' σ H s):Inv X pins σ H s :=
 ⟨o,I.os,I.bare,I.base,I.loc,I.cell,I.free,I.freeC,λp hp=>I.pin p (bq _ hp),I.hok,I.len⟩
theorem SP.untrying {pins':List (Aj×Obj)}{xe:Ag->Ab->Prop}{D:Ends}{f:Flow}(o:X.Ok)(h:SP (X.trying (X.pn++pins) xe) pins' D f s'):SP X pins D f s':=by
 cases f with
 |next=>obtain⟨a,b,c,d⟩:=h;exact⟨a,b,c.untrying o,d⟩
 |brk=>obtain⟨a,b,c,d⟩:=h;exact⟨a,b,c.untrying o,d⟩
 |cont=>obtain⟨a,b,c,d⟩:=h;exact⟨a,b,c.untrying o,d⟩
 |ret u=>obtain⟨v,a,b,c,d⟩:=h;exact⟨v,a,b,c.untrying o,d⟩
def Z1 (K:Aa)(C D:Aj):Prop:=∀ {M:Model} {A:Ae} {E:Ag->Ab->Prop} {h:Heap} {g:Array GenState} {d:Drawn} {t:Nat} {os:OsState} {e:Aj} {oe:Obj} {Q:Bool->Ab->Prop},
 K.In h->h.get? e=some oe->oe.cls=.ref C->Q true ⟨h,g,d,t,os⟩->wpAny M A (excMatches (.ref e) (.ref D)) Q E ⟨h,g,d,t,os⟩
end
section
variable {X:Cx}{x:Str}{D0:Aj}{np hpos pos:Pos}{b₀:Stmt}{body suite:List Stmt}{tb:(St->XK)->TS}{th:TS}
end
def Sm (n:Nat)(i:Int):Prop:=i.natAbs<2 ^ n
theorem Sm.mono {n m:Nat}{i:Int}(h:Sm n i)(hm:n<=m):Sm m i:=aw h (Nat.pow_le_pow_right ⋯ hm)
theorem Sm.of_le {n:Nat}{i j:Int}(h:Sm n j)(e:i.natAbs<=j.natAbs):Sm n i:=dH e h
theorem Sm.log {n:Nat}{i:Int}(h:Sm n i)(hn:n<=9000):i.natAbs.log2<9000:=by
 by_cases h0:i.natAbs=0
 .rw[h0];decide
 .exact aw ((Nat.log2_lt h0).mpr h) hn
theorem Sm.noPl {n:Nat}{i j:Int}(h:Sm n j)(hn:n<=9000):Builtin.divisionGoesByPylong i j=false:=PyProof.noPylong_of_log2 (h.log hn)
section
variable {X:Cx}
theorem z0:OpR X (binaryOp .Mult) (rI IntMulOk λi j=>.int (i*j)):=opI λ_ _ _ _ _ _ _ hc q=>mul_int q hc
theorem Qc:OpR X (binaryOp .FloorDiv) (rI (λ_ j=>0<j/\Sm 9000 j) λi j=>.int (i/j)):=opI λi j _ _ _ _ _ hc q =>
 floordiv_int ⋯ (by rw[Int.fdiv_eq_ediv_of_nonneg i (Int.le_of_lt hc.1)];exact q) (.inl (hc.2.noPl (af _)))
end
mutual
def RD (K:Aa)(H:Hp):PyData->V->Prop
 |.none,v=>v=.non
 |.bool b,v=>v=.bl b
 |.int i,v=>v=.int i
 |.str x,v=>v=.str x
 |.list ds,v=>∃a xs,v=.ref a/\SqL K H a xs/\RDs K H ds xs
 |.tuple ds,v=>∃a xs,v=.ref a/\SqT K H a xs/\RDs K H ds xs
 |.dict _,_=>False
def RDs (K:Aa)(H:Hp):List PyData->List V->Prop
 |[],xs=>xs=[]
 |d::ds,xs=>∃y ys,xs=y::ys/\RD K H d y/\RDs K H ds ys
end
section
variable {X:Cx}{pins:List (Aj×Obj)}{σ:St}{H:Hp}{s:Ab}
mutual
theorem Y6 (I:Inv X pins σ H s):∀(d:PyData) (v:V) (u:Ag),RD X.K H d v->RelV v u->∃as,Reads s.heap u d as
 |.none,v,u,h,r=>by rw[RD]at h;subst h;cases(show u=Value.none from r);exact⟨_,.none⟩
 |.bool b,v,u,h,r=>by rw[RD]at h;subst h;cases(show u=Value.bool b from r);exact⟨_,.bool b⟩
 |.int i,v,u,h,r=>by rw[RD]at h;subst h;obtain⟨t,rfl⟩:=(show ∃t,u=Value.int i t from r);exact⟨_,.int i t⟩
 |.str x,v,u,h,r=>by rw[RD]at h;subst h;obtain⟨t,rfl⟩:=(show ∃t,u=Value.str x t from r);exact⟨_,.str x t⟩
 |.list ds,v,u,h,r=>by rw[RD]at h;obtain⟨a,xs,rfl,hs,hd⟩:=h;cases(show u=Value.ref a from r);obtain⟨its,rv,⟨o,n,e1,e2,_,e3⟩,_⟩:=I.list hs;obtain⟨as,ha⟩:=Q8 I ds xs its hd rv;exact⟨_,.list e1 e2 e3 (by simpa using ha)⟩
 |.tuple ds,v,u,h,r=>by rw[RD]at h;obtain⟨a,xs,rfl,hs,hd⟩:=h;cases(show u=Value.ref a from r);obtain⟨its,rv,⟨o,e1,e2,n,e3⟩,_⟩:=I.tuple hs;obtain⟨as,ha⟩:=Q8 I ds xs its hd rv;exact⟨_,.tuple e1 e2 e3 (by simpa using ha)⟩
 |.dict _,_,_,h,_=>by rw[RD]at h;exact h.elim
theorem Q8 (I:Inv X pins σ H s):∀(ds:List PyData) (vs:List V) (us:List Ag),RDs X.K H ds vs->Vals vs us->∃as,ReadsAll s.heap us ds as
 |[],vs,us,h,r=>by rw[RDs]at h;subst h;cases r;exact⟨_,.nil⟩
 |d::ds,vs,us,h,r=>by
  rw[RDs]at h;obtain⟨y,ys,rfl,h1,h2⟩:=h;cases r with
  |cons r1 r2 =>
   obtain⟨as,a1⟩:=Y6 I d y _ h1 r1;obtain⟨bs,a2⟩:=Q8 I ds ys _ h2 r2;exact⟨_,.cons a1 a2⟩
end
def rEqD (K:Aa)(neg:Bool):R2:=λx y H Q=>∃d e,RD K H d x/\RD K H e y/\d.canLay0=true/\e.canLay0=true/\min d.depth e.depth<=60/\Q (.bl (if neg then !PyData.eqv d e else PyData.eqv d e)) H
theorem op_neD (hu:X.A.units+64<cLine):OpR X (compareOp .NotEq) (rEqD X.K true):=by intro pins s σ H x y v u Q I J F h;obtain⟨d,e,h1,h2,c1,L,U,q⟩:=h;obtain⟨as,S⟩:=Y6 I d x v h1 J;obtain⟨bs,O⟩:=Y6 I e y u h2 F;exact PySem.SeqAt.compareNe_reads S O c1 L ⋯ ⟨.bl _,H,I,rfl,q⟩
end
end L2
namespace L2
open PySem PySem.Spec PyProof.Rows
section
variable {P:Ac}{w:Ah}{K:Aa}{mg:Str->Option Ag}{base:Heap}
theorem Fun.okX {x qual:Str}{st:Stmt}{f:Aj}{fd:Ad}{N ps:List Str}{k:Nat}{sp:Sp}(F:Fun K x qual st f fd)(S:FnScope N ps (wg st))(len:∀vs H Q E,sp vs H Q E->vs.length=ps.length)
  (body:∀(cdv:Ag) (A:Ae) (outer:List Env) (s:Ab) (H:Hp) (vs:List V) (Q:VK) (E:XK),Room k (A.deeper (envOfC qual (wg st) s.heap.objs.size f cdv))->sp vs H Q E ->
   ∃t,PSs (Q7 (CXE P w) P w K mg base N qual (wg st) f cdv A outer s H E) (vw st) t/\t { nx:=λ_ H'=>Q .non H',rt:=Q } (Qu N vs) H):FnOk P w K mg base (CXE P w) (k+1) f fd ps sp:=by
 obtain⟨oc,od,kV,ad,U,an,cdv,ct,Z,rfl,I,O⟩:=F.ex;exact fn_of I O S len λA outer s H vs Q E L J=>body cdv A outer s H vs Q E L J
structure DefIn (K:Aa)(x:Str)(st:Stmt):Prop where
 ex:∃f fd,W.nsIn K mainGlobals x=some (some (.ref f))/\Fun K x x st f fd
theorem def_mk {x:Str}{st:Stmt}{f:Aj}{oc:Ag}{od an:Option Aj}{osl:Array (Option Ag)}{kV doc pm cdv ct:Ag}(a:W.nsIn K mainGlobals x=some (some (.ref f)))
  (l:K.lookup f=some ⟨oc,od,.func (W.fnOf x x (v1 st) (vw st) (wg st) .none kV doc pm an cdv ct),osl⟩) (c:W.codeIn K cdv x=true) (k:W.keepIn K (.ref f)=true):DefIn K x st:=⟨_,_,a,wqg l c k⟩
def zu (x:Str)(st:Stmt)(ps:List Str):Prop:=∀(kV doc pm:Ag) (an:Option Aj) (cdv ct:Ag) (us:List Ag),us.length=ps.length->bindArgs (W.fnOf x x (v1 st) (vw st) (wg st) .none kV doc pm an cdv ct) ⟨us,[]⟩=pure (ps.zip us)
theorem bA1 {f}{ps:List Str}{u:List Ag}(h:u.length=1)(k:∀a,bindArgs f ⟨[a],[]⟩=pure (ps.zip [a])):bindArgs f ⟨u,[]⟩=pure (ps.zip u):=match u,h with|[a],_=>k a
theorem bA2 {f}{ps:List Str}{u:List Ag}(h:u.length=2)(k:∀a b,bindArgs f ⟨[a,b],[]⟩=pure (ps.zip [a,b])):bindArgs f ⟨u,[]⟩=pure (ps.zip u):=match u,h with|[a,b],_=>k a b
theorem bA3 {f}{ps:List Str}{u:List Ag}(h:u.length=3)(k:∀a b c,bindArgs f ⟨[a,b,c],[]⟩=pure (ps.zip [a,b,c])):bindArgs f ⟨u,[]⟩=pure (ps.zip u):=match u,h with|[a,b,c],_=>k a b c
theorem bA4 {f}{ps:List Str}{u:List Ag}(h:u.length=4)(k:∀a b c d,bindArgs f ⟨[a,b,c,d],[]⟩=pure (ps.zip [a,b,c,d])):bindArgs f ⟨u,[]⟩=pure (ps.zip u):=match u,h with|[a,b,c,d],_=>k a b c d
structure Cal (P:Ac)(w:Ah)(K:Aa)(mg:Str->Option Ag)(base:Heap)(x:Str)(k:Nat)(sp:Sp):Prop where
 ex:∃f fd ps,mg x=some (.ref f)/\FnOk P w K mg base (CXE P w) k f fd ps sp/\W.keepIn K (.ref f)=true/\Binds K fd ps []
theorem DefIn.cal {x:Str}{st:Stmt}{ps:List Str}{k:Nat}{sp:Sp}{h:Heap}(d:DefIn K x st)(KX:K.In h)(G:h.Ns mainGlobals mg)(b:zu x st ps)(ok:∀f fd,Fun K x x st f fd->FnOk P w K mg base (CXE P w) k f fd ps sp):Cal P w K mg base x k sp:=by obtain⟨f,fd,a,F⟩:=d.ex;exact⟨f,fd,ps,az KX G a,ok f fd F,F.kp,F.binds b⟩
end
section
variable {X:Cx}{x:Str}{k:Nat}{sp:Sp}{E:St->XK}{p pos:Pos}{e:Expr}{es:List Expr}{t:TA}
theorem Z6 (c:Cal X.prog X.w X.K X.mg X.base x k sp)(hr:Room k X.A)(hg:Gl X x)(hx:kh X E)
  (ha:PA X (e::es) t) (hdb:autoParam ((x==("__debug__" : Str))=false) aU1._auto_1) (he:autoParam (starEach (e::es) X.env=(false,eval e X.env)::starEach es X.env) aU4._auto_1) (hpl:autoParam ((backTo pos (starEach es X.env)).any (·.1)=false) aU4._auto_1) :
  PE X (.Call (.Name x p) (e::es) [] pos) (qkj sp E t):=by
 obtain⟨f,fd,ps,J,F,I,b⟩:=c.ex;exact ww1 F hr hg J I b hx ha hdb he hpl
end
def tCut (t u:TS):TS:=λD σ H=>∃R:St->Hp->Prop,t { D with nx:=R } σ H/\∀σ' H',R σ' H'->u D σ' H'
theorem vd {X:Cx}{st:Stmt}{rest:List Stmt}{t u:TS}(h1:PS X st t)(h2:PSs X rest u):PSs X (st::rest) (tCut t u):=by
 intro pins s σ H D I ⟨R,h,hR⟩;refine ee (thn (h1 pins s σ H { D with nx:=R } I h) λf J q=>?_);cases f with
 |next =>
  obtain⟨F,H1,O,L⟩:=q;exact h2 pins J F H1 D O (hR F H1 L)
 |brk=>exact q
 |cont=>exact q
 |ret u=>exact q
theorem v3 {c A B:Prop}[Decidable c](h1:c->A)(h2:¬ c->B):if decide c=true then A else B:=by
 by_cases h:c
 .rw[bv h];exact uc (h1 h)
 .rw[aP h];exact Y0 (h2 h)
theorem iteND {c A B:Prop}[Decidable c](h1:¬ c->A)(h2:c->B):if(!decide c)=true then A else B:=by
 by_cases h:c
 .rw[bv h];exact Y0 (h2 h)
 .rw[aP h];exact uc (h1 h)
theorem deqI {i j:Int}:decide (V.int i=V.int j)=decide (i=j):=by
 by_cases h:i=j
 .subst h;simp
 .simp[h]
theorem ww6 {i j:Int}{A B:Prop}(h1:i=j->A)(h2:i≠j->B):if decide (V.int i=V.int j)=true then A else B:=by rw[deqI];exact v3 h1 h2
theorem xN {i j:Int}{A B:Prop}(k:B)(h:autoParam (i≠j) aU1._auto_1):if decide (V.int i=V.int j)=true then A else B:=ww6 (λz=>absurd z h) (λ_=>k)
theorem Same.upd {H:Hp}{p:Aj}{o:HO}(n:H p=none):Same H (upd H p o):=λb u e=>by rw[wf (wz e n)];exact e
theorem Same.rd {H H':Hp}{a:Aj}{o:HO}(h:Same H H')(r:Rd H a o):Rd H' a o:=by
 rcases r with r|⟨u,r⟩
 .exact .inl (h a _ r)
 .exact .inr ⟨u,h a _ r⟩
theorem Same.sqt {K:Aa}{H H':Hp}{a:Aj}{xs:List V}(h:Same H H')(s:SqT K H a xs):SqT K H' a xs:=by
 rcases s with s|s
 .exact .inl (h.rd s)
 .exact .inr s
theorem Same.sql {K:Aa}{H H':Hp}{a:Aj}{xs:List V}(h:Same H H')(s:SqL K H a xs):SqL K H' a xs:=h.seq s
theorem SqT.new {K:Aa}{H:Hp}{p:Aj}{xs:List V}:SqT K (upd H p (.tup xs)) p xs:=SqT.of wj
theorem SqL.new {K:Aa}{H:Hp}{p:Aj}{xs:List V}:SqL K (upd H p (.lst xs)) p xs:=SqL.of wj
theorem Y5:bootBuiltins "abs" = some (.builtin "abs"):=by decide +kernel
theorem qz3:bootBuiltins "all" = some (.builtin "all"):=by decide +kernel
theorem Zy {ns:List Int}{i:Int}(h0:0<=i)(h1:i<ns.length):atI (ns.map V.int) i=some (V.int (ns.getD i.toNat 0)):=by
 have F:i.toNat<ns.length:=by lia
 have e:(ns.map V.int)[i.toNat]?=some (V.int (ns.getD i.toNat 0)):=by rw[aI,am,ai F];rfl
 have:=y7 e;rwa [cF h0]at this
def qvb (ns:List Int)(i:Int):Int:=if i<ns.length then ns.getD i.toNat 0 else if(ns.length:Int)=0 then 7*i+3 else ns.getD (i%ns.length).toNat 0+1009*i
def divs (c:Int):Nat->Int
 |0=>c
 |n+1=>divs c n/1000
def qjp (K:Aa):Sp:=λvs H Q _=>∃(a:Aj) (ns:List Int) (i:Int),vs=[.ref a,.int i]/\SqL K H a (ns.map V.int)/\0<=i/\∀r,r=qvb ns i->Q (.int r) H
def yb (c:Int):Int:=if c<0 then -c else c
def qxt (c t:Int):Int:=(c%1000003*48271+t*7919+101)%999983
def qvv (c t:Int):Int:=(qxt c t*qxt c t+c%1000003*31+t*104729)%1000033
def qvw (c t:Int):Int:=if 10 ^ 18<=yb c then(if c<0 then divs (yb c) t.toNat%1000 else divs (yb c) t.toNat) else(qvv c t*qvv c t+qxt c t*17+t*30011)%999979
def pickF (ns:List Int)(i t m:Int):Int:=qvw (qvb ns i) t%m
theorem wqr {c t:Int}(h:10 ^ 18<=yb c)(n:c<0):qvw c t=divs (yb c) t.toNat%1000:=by rw[qvw,ao h,ao n]
theorem qu4 {c t:Int}(h:10 ^ 18<=yb c)(n:¬ c<0):qvw c t=divs (yb c) t.toNat:=by rw[qvw,ao h,ak n]
theorem wx8 {c t:Int}(h:¬ 10 ^ 18<=yb c):qvw c t=(qvv c t*qvv c t+qxt c t*17+t*30011)%999979:=by rw[qvw,ak h]
def qjh (K:Aa):Sp:=λvs H Q _=>∃(a:Aj) (ns:List Int) (i t m:Int),vs=[.ref a,.int i,.int t,.int m]/\SqL K H a (ns.map V.int)/\0<=i/\0<=t/\t<1000000/\0<m /\
 ∀r,r=pickF ns i t m->0<=r->r<m->Q (.int r) H
theorem Sm.small {n:Nat}{i:Int}(h1:-(2 ^ 64)<=i)(h2:i<=2 ^ 64)(hn:65<=n):Sm n i:=by refine Sm.mono (n:=65) ?_ hn;unfold Sm;lia
def qv7 (K:Aa):Sp:=λvs H Q _=>∃(a:Aj) (ns:List Int),vs=[.ref a]/\SqL K H a (ns.map V.int)/\ns.length<=63/\∀H',Q (.bl true) H'
theorem sz1 {x:V}:[x].length<=sizeLine:=by show 1<=sizeLine;decide
theorem sz2 {x y:V}:[x,y].length<=sizeLine:=by show 2<=sizeLine;decide
theorem sz0:([]:List V).length<=sizeLine:=by show 0<=sizeLine;decide
end L2
namespace L2
open PySem
def Zw (x y:Int):Int:=((Nat.gcd x.toNat y.toNat:Nat):Int)
theorem wqq {x:Int}(h:0<=x):Zw x 0=x:=by unfold Zw;have:(0:Int).toNat=0:=rfl;rw[this,Nat.gcd_zero_right];lia
theorem quh {x y:Int}(hx:0<=x)(hy:0<y):Zw y (x%y)=Zw x y:=by
 unfold Zw;have e:(x%y).toNat=x.toNat%y.toNat:=by
  have h1:x=(x.toNat:Int):=by lia
  have h2:y=(y.toNat:Int):=by lia
  have F:x%y=((x.toNat%y.toNat:Nat):Int):=by
   conv=>lhs;rw[h1,h2]
   exact(Int.natCast_emod _ _).symm
  rw[F];exact bR _
 rw[e,Nat.gcd_comm y.toNat,<-Nat.gcd_rec,Nat.gcd_comm]
theorem qyh (t:Int):yb t=(t.natAbs:Int):=by unfold yb;split <;> lia
theorem wvq (t:Int):0<=yb t:=by rw[qyh];lia
theorem vm (t b:Int):Zw (yb t) b=((Nat.gcd t.natAbs b.toNat:Nat):Int):=by unfold Zw;rw[qyh,bR]
def gOf (t b:Int):Int:=Zw (yb t) b
def xz (t b:Int):Int×Int:=(t/gOf t b,b/gOf t b)
theorem jg {t b:Int}(h:1<=b):1<=gOf t b:=by unfold gOf;rw[vm];have:0<Nat.gcd t.natAbs b.toNat:=Nat.gcd_pos_of_pos_right _ ⋯;lia
theorem gOf_le {t b:Int}(h:1<=b):gOf t b<=b:=by unfold gOf;rw[vm];have:Nat.gcd t.natAbs b.toNat<=b.toNat:=Nat.gcd_le_right _ ⋯;lia
theorem wqj {t b:Int}(h:1<=b):gOf t b∣b:=by
 unfold gOf;rw[vm];have h1:((Nat.gcd t.natAbs b.toNat:Nat):Int)∣(b.toNat:Int):=el.mpr (Nat.gcd_dvd_right _ _);have h2:(b.toNat:Int)=b:=by lia
 rwa [h2]at h1
theorem wqv {t b:Int}:gOf t b∣t:=by unfold gOf;rw[vm];have h1:((Nat.gcd t.natAbs b.toNat:Nat):Int)∣(t.natAbs:Int):=el.mpr (Nat.gcd_dvd_left _ _);exact Int.dvd_natAbs.mp h1
theorem qyd {t b:Int}:gOf t b*(t/gOf t b)=t:=Int.mul_ediv_cancel' wqv
theorem qvk {t b:Int}(h:1<=b):gOf t b*(b/gOf t b)=b:=Int.mul_ediv_cancel' (wqj h)
theorem Zd {t b:Int}(h:1<=b):1<=(xz t b).2:=by
 show 1<=b/gOf t b;have h2:=qvk (t:=t) (b:=b) h;have F:=jg (t:=t) h;have:0<b/gOf t b:=by
  rcases cb 0 (b/gOf t b) with z|z
  .exact z
  .have:=bU z (show 0<=gOf t b by lia);rw[h2,Int.mul_zero]at this;lia
 lia
theorem qkw {t b:Int}(h:1<=b):(xz t b).2<=b:=Int.ediv_le_self _ ⋯
theorem ww9 {t b:Int}(h:1<=b):gOf (xz t b).1 (xz t b).2=1:=by
 have h3:=jg (t:=t) h;have Z:=Zd (t:=t) h;obtain⟨g,F⟩:∃g:Nat,gOf t b=(g:Int):=⟨_,by unfold gOf;exact vm t b⟩;have O:0<g:=by lia
 have L:g=Nat.gcd t.natAbs b.toNat:=by
  have:(g:Int)=((Nat.gcd t.natAbs b.toNat:Nat):Int):=by rw[<-F];unfold gOf;exact vm t b
  lia
 have S:g*(xz t b).1.natAbs=t.natAbs:=by have:=qyd (t:=t) (b:=b);have e:=bI Int.natAbs this;rw[Int.natAbs_mul,F]at e;simpa [xz,F] using e
 have U:g*(xz t b).2.toNat=b.toNat:=by
  have:=qvk (t:=t) (b:=b) h;rw[F]at this;have q:(xz t b).2=b/(g:Int):=by unfold xz;rw[F]
  have I:b/(g:Int)=((b/(g:Int)).toNat:Int):=by rw[<-q];lia
  rw[q];rw[I]at this;have:((g*(b/(g:Int)).toNat:Nat):Int)=b:=by rw[eO];exact this
  lia
 unfold gOf;rw[vm];have J:g*Nat.gcd (xz t b).1.natAbs (xz t b).2.toNat=g*1:=by rw[<-Nat.gcd_mul_left,S,U,<-L,Nat.mul_one]
 have:=Nat.eq_of_mul_eq_mul_left O J;rw[this];rfl
theorem wvy {t b c:Int}(h:1<=b)(hc:1<=c):gOf (t*c) (b*c)=gOf t b*c:=by
 unfold gOf;rw[vm,vm];have L:(t*c).natAbs=t.natAbs*c.toNat:=by
  rw[Int.natAbs_mul];have:c.natAbs=c.toNat:=by lia
  rw[this]
 have J:(b*c).toNat=b.toNat*c.toNat:=by
  have I:b=(b.toNat:Int):=by lia
  have F:c=(c.toNat:Int):=by lia
  have:b*c=((b.toNat*c.toNat:Nat):Int):=by rw[eO,<-I,<-F]
  lia
 rw[L,J,Nat.gcd_mul_right,eO];have:(c.toNat:Int)=c:=by lia
 rw[this]
theorem wzt {t b c:Int}(h:1<=b)(hc:1<=c):xz (t*c) (b*c)=xz t b:=by unfold xz;rw[wvy h hc];have hg:=jg (t:=t) h;rw[cg _ _ (show 0<c by lia),cg _ _ (show 0<c by lia)]
end L2
namespace L2
open PySem PySem.Spec PyProof.Rows
def CapAll (env:Env):List (Str×Aj)->Prop
 |[]=>True
 |(y,c)::r=>env.cells.lookup y=some c/\CapAll env r
theorem CapAll.look {env:Env}:∀ {cl:List (Str×Aj)},CapAll env cl->∀ {y:Str} {c:Aj},cl.lookup y=some c->env.cells.lookup y=some c
 |[],_,_,_,e=>by cases e
 |(z,d)::r,h,y,c,e=>by
  rw[aC]at e;cases hb:y==z with
  |true =>
   rw[hb]at e;rw[eq_of_beq hb];exact h.1.trans e
  |false =>
   rw[hb]at e;exact CapAll.look h.2 e
def HasAll (cl:List (Str×Aj)):List (Str×NameKind)->Prop
 |[]=>True
 |(n,k)::r=>(k=.free->∃c,cl.lookup n=some c)/\k≠.cell/\HasAll cl r
theorem HasAll.nocell {cl:List (Str×Aj)}:∀ {ns:List (Str×NameKind)},HasAll cl ns->∀y∈ns,y.2≠.cell
 |(n,k)::r,h,y,hy=>by
  rcases av.mp hy with rfl|hy
  .exact h.2.1
  .exact HasAll.nocell h.2.2 y hy
theorem HasAll.has {cl:List (Str×Aj)}{env:Env}:∀ {ns:List (Str×NameKind)},HasAll cl ns->∀ {x:Str} {q:NameKind},q=.cell\/q=.free ->
  (ns.map λ(n,k)=>if(k==NameKind.free&&env.scope.kind==.function&&env.kindOf n==some .cell) then(n,NameKind.cell) else(n,k)).lookup x=some q->∃c,cl.lookup x=some c
 |[],_,_,_,_,e=>by cases e
 |(n,k)::r,h,x,q,hq,e=>by
  have ih:=HasAll.has (env:=env) h.2.2 (x:=x) hq;rw[ay]at e;by_cases hc:(k==NameKind.free&&env.scope.kind==.function&&env.kindOf n==some .cell)=true
  .have e':=e;dsimp only at e';rw[ao hc,aC]at e';cases hb:x==n with
   |true =>
    rw[aO,aO]at hc;obtain⟨c,hcc⟩:=h.1 (eq_of_beq hc.1.1);exact⟨c,by rw[eq_of_beq hb];exact hcc⟩
   |false =>
    rw[hb]at e';exact ih e'
  .have e':=e;dsimp only at e';rw[ak hc,aC]at e';cases hb:x==n with
   |true =>
    rw[hb]at e';have ek:k=q:=al e';rcases hq with rfl|rfl
    .exact absurd ek h.2.1
    .obtain⟨c,hcc⟩:=h.1 ek;exact⟨c,by rw[eq_of_beq hb];exact hcc⟩
   |false =>
    rw[hb]at e';exact ih e'
def CapIx (X:Cx)(scope:Scope)(cl:List (Str×Aj)):List Nat->Prop
 |[]=>True
 |j::r=>(∃y c,X.N[j]?=some y/\X.env.scope.names.lookup y=some .cell/\(relabel scope X.env).names.lookup y=some .cell/\cl.lookup y=some c)/\CapIx X scope cl r
theorem CapIx.get {X:Cx}{scope:Scope}{cl:List (Str×Aj)}:∀ {M:List Nat},CapIx X scope cl M->∀ {k j:Nat},M[k]?=some j ->
  ∃y c,X.N[j]?=some y/\X.env.scope.names.lookup y=some .cell/\(relabel scope X.env).names.lookup y=some .cell/\cl.lookup y=some c
 |[],_,k,j,e=>by cases e
 |i::r,h,0,j,e=>by cases e;exact h.1
 |i::r,h,k+1,j,e=>CapIx.get h.2 (k:=k) e
def ym (X:Cx)(x:Str)(M:List Nat):List Str:=x::M.map λj=>X.N.getD j Str.empty
def zg (M:List Nat)(σ:St)(o:Option V):St:=o::M.map λj=>(σ[j]?).join
abbrev zr (X:Cx)(scope:Scope)(cl:List (Str×Aj))(x:Str)(M:List Nat)(C:Aj)(s2:Ab)(H2:Hp)(fp:List Aj)(pn:List (Aj×Obj)):Cx :=
 { X with N:=ym X x M,s₀:=s2,H₀:=H2,env:=compEnvC scope cl C X.env,outer:=X.stack,ex:=fp,fn:=λ_=>false,pn:=pn,xe:=λ_ _=>False }
section
variable {X:Cx}{pins:List (Aj×Obj)}{σ:St}{H:Hp}{s2:Ab}{scope:Scope}{cl:List (Str×Aj)}{x:Str}{M:List Nat}{fp:List Aj}{C:Aj}{h1:Heap}{tk:Nat}
theorem Inv.compG {oo:HO}{xs:List Str}(I:Inv X pins σ H s2)(hc:CapAll X.env cl)(hh:HasAll cl scope.names)(hm:CapIx X scope cl M)(hk:scope.kind=.function)(hC:s2.heap.objs.size<C)
  (keep:∀b o,s2.heap.get? b=some o->h1.get? b=some o) (hn:h1.Ns C λ_=>none) (hD:ObjOk X.prog X.w (upd H s2.heap.objs.size oo) h1 s2.heap.objs.size oo)
  (hfp:∀b∈fp,jq X pins H b) (hob:∀b∈fp,∃o,s2.heap.get? b=some o) :
  Inv { X with N:=xs++M.map λj=>X.N.getD j Str.empty,s₀:=s2,H₀:=H,env:=compEnvC scope cl C X.env,outer:=X.stack,ex:=fp,fn:=λ_=>false,pn:=X.pn++pins,xe:=λ_ _=>False } [] ((xs.map λ_=>none)++M.map λj=>(σ[j]?).join) (upd H s2.heap.objs.size oo) { s2 with heap:=h1,toks:=tk }:=by
 have a0:=I.hok.fresh (a:=s2.heap.objs.size) (af _);have o:=I.ok;have L:∀y c,cl.lookup y=some c->X.env.cells.lookup y=some c:=λy c e=>hc.look e;have ap:∀b∈fp,b<s2.heap.objs.size:=λb O=>by obtain⟨ob,e⟩:=hob b O;exact ae e
 have ad:∀b∈fp,b∉frs X.stack:=λb O z=>by
  rcases av.mp (I.stkSub b z) with z|z
  .exact(hfp b O).2.1 z
  .exact(hfp b O).2.2.1 z
 have a1:H C=none:=I.hok.fresh (aZ hC);refine⟨⟨o.mod,hk,o.glob,o.blt,aZ hC,λy z c J F=>o.inj y z c (L y c J) (L z c F),λy U=>?_,λy c z=>(aq z).elim,o.hd,o.frames,.inl rfl,λb O=>⟨ar (aV (ap b O) hC),λy c e=>(hfp b O).2.2.2.2.1 y c (L y c e)⟩,
  λb ob e=>I.bs b ob e,aQ o.bsz I.sz,λb ob e z=>?_,ad,I.stack,I.stkFree⟩,rfl,I.bare,?_,?_,λy c e=>?_,?_,λy c e=>?_,λp hp=>?_,?_,?_⟩
 .rcases U with U|U
  .exact hh.has (.inl rfl) U
  .exact hh.has (.inr rfl) U
 .obtain⟨J,F⟩:=I.bs b ob e;exact(hfp b z).2.2.2.1.elim (λq=>o.noex b ob e q) λq=>by have:=o.bs b ob e;exact aS _ (aw (ae this.1) q)
 .exact(Un.laid (fs:=frs X.stack) (ex:=fp) (o:=oo) keep (af _) a0)
 .refine⟨_,hn,λi z v J F e3=>?_⟩;rcases cC i xs.length with hi|hi
  .have F:((xs.map λ_=>(none:Option V))++M.map λj=>(σ[j]?).join)[i]?=some (some v):=F;rw[bC (by rw[ah];exact hi),aI,ai hi]at F;cases F
  have S:(xs++M.map λj=>X.N.getD j Str.empty)[i]?=some z:=J;have Z:((xs.map λ_=>(none:Option V))++M.map λj=>(σ[j]?).join)[i]?=some (some v):=F;rw[bg hi]at S;rw[bg (by rw[ah];exact hi),ah]at Z;generalize i-xs.length=k at S Z;rw[aI]at S Z;cases hj:M[k]? with
  |none=>rw[hj]at S;cases S
  |some j =>
   rw[hj]at S Z;obtain⟨y,c,f1,f2,f3,f4⟩:=hm.get hj;have ez:X.N.getD j Str.empty=z:=al S;rw[am,f1]at ez;have a2:y=z:=ez;subst a2;have ev:(σ[j]?).join=some v:=al Z;have a3:σ[j]?=some (some v):=by
    cases hs:σ[j]? with
    |none=>rw[hs]at ev;cases ev
    |some w' =>
     rw[hs]at ev;have:w'=some v:=ev;rw[this]
   obtain⟨m,a4,hl⟩:=I.loc;obtain⟨u,r,l⟩:=hl j y v f1 a3 (.inr (.inl f2));refine⟨u,r,.inr ⟨.inl f3,c,f4,?_⟩⟩;rcases l with⟨lk,_⟩|⟨_,c',lc,li⟩
   .have:X.env.scope.names.lookup y=some .local:=lk;rw[f2]at this;cases this
   .rw[L y c f4]at lc;have:=al lc;subst this;exact li.keeps keep
 .obtain⟨v,hv⟩:=I.cell y c (L y c e);exact⟨v,hv.keeps keep⟩
 .show upd H s2.heap.objs.size oo C=none;rw[wf (bX hC)];exact a1
 .show upd H s2.heap.objs.size oo c=none;obtain⟨v,ob,J,F⟩:=I.cell y c (L y c e);rw[wf (ar (ae J))];exact I.freeC y c (L y c e)
 .have an:p∈X.pn++pins:=(bA.mp hp).elim (λz=>z) λz=>nomatch z;obtain⟨J,F,e3,e4,e5⟩:=I.pin p an;refine⟨keep _ _ J,?_,ar (aV (ae J) hC),λz=>?_,e5⟩
  .rw[wf (ar (ae J))];exact F
  .rcases av.mp (I.stkSub p.1 z) with z|z
   .exact e3 z
   .exact e4 z
 .exact I.hok.laid keep (af _) hD
 .show((xs.map λ_=>(none:Option V))++M.map λj=>(σ[j]?).join).length=(xs++M.map λj=>X.N.getD j Str.empty).length;simp only[aX,ah]
theorem Inv.comp (I:Inv X pins σ H s2)(hc:CapAll X.env cl)(hh:HasAll cl scope.names)(hm:CapIx X scope cl M)(hk:scope.kind=.function)(hC:s2.heap.objs.size<C)
  (keep:∀b o,s2.heap.get? b=some o->h1.get? b=some o) (hn:h1.Ns C λ_=>none) (hD:h1.get? s2.heap.objs.size=some { cls:=.type "list",data:=.seq #[] 0 })
  (hfp:∀b∈fp,jq X pins H b) (hob:∀b∈fp,∃o,s2.heap.get? b=some o) :
  Inv (zr X scope cl x M C s2 H fp (X.pn++pins)) [] (zg M σ none) (upd H s2.heap.objs.size (.lst [])) { s2 with heap:=h1,toks:=tk }:=I.compG (xs:=[x]) hc hh hm hk hC keep hn ⟨aD _,[],0,.nil,hD⟩ hfp hob
theorem Inv.uncomp {pins':List (Aj×Obj)}{σ':St}{H':Hp}{s':Ab}{h':Heap}(I:Inv X pins σ H s2)(hC:s2.heap.objs.size<=C)(hfp:∀b∈fp,jq X pins H b)
  (J:Inv (zr X scope cl x M C s2 H fp (X.pn++pins)) pins' σ' H' s') (hs:Heap.SameBut C s'.heap h'):Inv X pins σ H' { s' with heap:=h' }:=by
 have F:=J.base;have S:∀b o,s2.heap.get? b=some o->b≠C:=λb o e=>ar (aw (ae e) hC);have st:∀b o,b≠C->s'.heap.get? b=some o->h'.get? b=some o:=λb o n e=>(hs.2 b n).trans e;refine I.call' (s':={ s' with heap:=h' }) (ch:=fp) J.os ⟨λb o e n nb L=>st b o (S b o e) (F.keep b o e n nb L),λb o e n an L=>?_,F.free,λb o e L=>?_,F.tups,F.frzs,F.tbls⟩ ?_ J.bare λb ad=>?_
 .obtain⟨sl,Z⟩:=F.slot b o e n an L;exact⟨sl,st b _ (S b o e) Z⟩
 .obtain⟨o',Z⟩:=F.there b o e L;exact⟨o',st b _ (S b o e) Z⟩
 .intro b u U;have fr:H' C=none:=J.free;refine(J.hok b u U).stay (λc v O e=>st c v ?_ e) (λ_ z=>z) λ_ _ z=>z;rcases O with rfl|O
  .intro z;rw[z,fr]at U;cases U
  .intro z;rw[z,fr]at O;cases O
 .obtain⟨q1,q2,q3,q4,q5,q6⟩:=hfp b ad;exact⟨q4,q2,q5,q6⟩
end
def uv (J:It)(M:List Nat)(te:TE)(σ:St)(H1:Hp)(Q:VK):Prop:=∀p,H1 p=none->∃W:Nat->Nat->List V->Hp->Prop,(∃m,W 0 m [] (upd H1 p (.lst []))) /\
 ∀i m ys H2,W i m ys H2->H2 p=some (.lst ys)/\ys.length<sizeLine/\((J.stop i H2/\Q (.ref p) H2)\/(J.go i H2/\∀v H3,J.yld i H2 v H3 ->
  te (zg M σ (some v)) H3 λy H4=>H4 p=some (.lst ys)/\∃m',m'<m/\W (i+1) m' (ys++[y]) (upd H4 p (.lst (ys++[y])))))
def tComp (M:List Nat)(wi:TI)(te:TE):TE:=λσ H Q=>wi σ H λJ H1=>uv J M te σ H1 Q
theorem y9 {Y:Cx}{tg e:Expr}{k:Nat}{acc:Ag}{it:Aj}{fp:List Aj}{tn:Nat->Heap->Prop}{J:It}{ps:Pos}{REST:Sem PySem.Fin}{post:Result->Ab->Prop}{gg:TG}{pins:List (Aj×Obj)}{σ:St}{V:Nat->Nat->Hp->Prop}{Qd:Hp->Prop}{s0:Ab}{H0:Hp}{n0:Nat}
  (T:Turn Y.prog Y.w Y.K tg J fp it tn) (hc:Y.calm=true) (hx:∀v s,Y.xe v s->False)
  (hturn:compTurn e k (.ref it) acc Y.env=(standAt ps >>= λ_=>pyNext (.ref it) >>= λr=>match r with|none=>pure (.done .next)|some v=>letOwnedTupleGo tg (.ref it) v >>= λ_=>assign tg Y.env v >>= λ_=>REST))
  (hun:Y.A.under (.compLoop e k (.ref it) acc Y.env)=Y.A) (hden:(model Y.prog Y.w).den (.compLoop e k (.ref it) acc Y.env)=((compTurn e k (.ref it) acc Y.env).onRaise λz=>do noteFrame z Y.env;theTreesLotGoes z))
  (hg:PG Y tg gg) (fok:∀H2:Hp,(∀b∈fp,H2 b=none)->∀b∈fp,jq Y pins H2 b)
  (hV:∀i n H2,V i n H2->(J.stop i H2/\Qd H2)\/(J.go i H2/\∀v H3,J.yld i H2 v H3->∃Z:St->Hp->Prop,gg v σ H3 Z/\∀σ4 H4,Z σ4 H4->(σ.length=σ4.length/\∀(k:Nat) z,σ[k]?=some (some z)->σ4[k]?=some (some z))/\∀pins' s',Inv Y pins' σ4 H4 s' ->
   wpAny (model Y.prog Y.w) Y.A REST (λr s5=>r=Fin.again (.compLoop e k (.ref it) acc Y.env)/\∃H5,Inv Y pins' σ4 H5 s5/\∃n',n'<n/\V (i+1) n' H5) Y.xe s'))
  (fin:∀H2 s4,Inv Y pins σ H2 s4->Qd H2->post (.ok .next) s4) (I:Inv Y pins σ H0 s0) (v0:V 0 n0 H0) (t0:tn 0 s0.heap) (nf:∀b∈fp,H0 b=none) :
  codeAny (model Y.prog Y.w) Y.A (.compLoop e k (.ref it) acc Y.env) post s0:=by
 refine codeAny_loop rfl (λn F=>∃i H2,V i n H2/\Inv Y pins σ H2 F/\tn i F.heap/\∀b∈fp,H2 b=none) (λn F hI=>?_) n0 ⟨0,H0,v0,I,t0,nf⟩;obtain⟨i,H2,w,J2,t,ad⟩:=hI;rw[hun,hden];refine wpAny_noted ?_;rw[hturn];refine aa (bS (aa ?_));rcases hV i n H2 w with⟨ap,hq⟩|⟨a4,hy⟩
 .refine aG (T.done Y rfl rfl rfl hc i pins F _ H2 (λ_ _=>False) J2 (fok H2 ad) t ap) (λr s4 S=>?_) λ_ _ z=>z.elim;obtain⟨rfl,J4⟩:=S;exact ag (fin H2 s4 J4 hq)
 .refine aG (T.item Y rfl rfl rfl hc i pins F _ H2 (λ_ _=>False) J2 (fok H2 ad) t a4) (λr s4 S=>?_) λ_ _ z=>z.elim;obtain⟨u,rfl,hw⟩:=S;refine aa (aG hw (λ_ s5 a2=>?_) λ_ _ z=>z.elim);obtain⟨v,H3,J5,rv,yl,O,nf⟩:=a2;obtain⟨Z,hz,hZ⟩:=hy v H3 yl;refine aa (aG (hg _ s5 _ H3 v u _ (J5.pinned (fok H3 nf) (T.obj _ _ O)) rv hz) (λ_ s6 a1=>?_) λv s z=>(hx v s z).elim);obtain⟨σ6,H6,J6,z6⟩:=a1;obtain⟨⟨hl,an⟩,hR⟩:=hZ σ6 H6 z6;refine aG (hR _ s6 J6) (λr s7 a0=>?_) λv s z=>(hx v s z).elim;obtain⟨rfl,H7,U,n',a3,v7⟩:=a0;refine⟨rfl,n',a3,i+1,H7,v7,(U.unpinned (pins:=pins)).weak hl an,?_,?_⟩
  .exact T.keep _ _ _ O λb L o e=>(U.pin (b,o) (aJ _ (aJ _ (yx L e)))).1
  .intro b L;obtain⟨o,e,_⟩:=T.obj _ _ O b L;exact(U.pin (b,o) (aJ _ (aJ _ (yx L e)))).2.1
section
variable {Y:Cx}{elt cd:Expr}{te:TE}{tt:TT}{c:Code}{p:Aj}{σ:St}{H:Hp}{pins:List (Aj×Obj)}{s:Ab}
def appS (elt:Expr)(acc:Ag)(env:Env)(c:Code):Sem PySem.Fin:=(eval elt env >>= λx=>call (.builtin "list.append") [acc,x] >>= λ_=>pure ()) >>= λ_=>again c
theorem Ym {ys:List V}{N:List V->Hp->Prop}(hx:∀v s,Y.xe v s->False)(he:PE Y elt te)(J:Inv Y pins σ H s)(hz:ys.length<sizeLine)(h:te σ H λy H4=>H4 p=some (.lst ys)/\N (ys++[y]) (upd H4 p (.lst (ys++[y])))) :
  wpAny (model Y.prog Y.w) Y.A (appS elt (.ref p) Y.env c) (λr s5=>r=Fin.again c/\∃H5,Inv Y pins σ H5 s5/\∃zs,N zs H5) Y.xe s:=by
 refine aa (aa (aG (he _ s _ H _ J h) (λI L Z=>?_) λ_ _ z=>z));obtain⟨y,H4,J7,O,ad,S⟩:=Z;refine aa (aG (Q1 (X:=Y) _ L _ H4 (.ref p) [y] (.ref p) [I] (λ_ F=>F=upd H4 p (.lst (ys++[y]))) J7 rfl (.cons O .nil) ⟨_,ys,y,rfl,rfl,ad,hz,rfl⟩) (λ_ s8 U=>?_) λ_ _ z=>z);obtain⟨_,F,J8,_,rfl⟩:=U;exact ag (ag ⟨rfl,_,J8,_,S⟩)
def tstS (cd:Expr)(env:Env)(a b:Sem PySem.Fin):Sem PySem.Fin:=(forIn [cd] true λc r=>if r=true then do let ok <-isTrue c env (eval c env);pure (ForInStep.yield ok) else pure (ForInStep.yield r)) >>= λok=>if ok=true then a else b
theorem wx0 {a b:Sem PySem.Fin}{F:Hp->Prop}{G:Hp->Prop}{R:PySem.Fin->Ab->Prop}(ht:PT Y cd tt)(J:Inv Y pins σ H s)(h:tt σ H λok H4=>if ok=true then F H4 else G H4)
  (ha:∀s' H4,Inv Y pins σ H4 s'->F H4->wpAny (model Y.prog Y.w) Y.A a R Y.xe s') (hb:∀s' H4,Inv Y pins σ H4 s'->G H4->wpAny (model Y.prog Y.w) Y.A b R Y.xe s') :
  wpAny (model Y.prog Y.w) Y.A (tstS cd Y.env a b) R Y.xe s:=by
 refine aa (wpAny_tests_one (aG (ht _ s _ H _ J h) (λok I U=>?_) λ_ _ z=>z));obtain⟨S,O,L⟩:=U;cases ok with
 |false=>exact hb I S O L
 |true=>exact ha I S O L
end
section
variable {X:Cx}{elt iter cd:Expr}{x:Str}{px pos:Pos}{scope:Scope}{cl:List (Str×Aj)}{M:List Nat}{wi:TI}{te:TE}{tt:TT}{pins:List (Aj×Obj)}{σ:St}
theorem qwn {N:List Str}{C:Aj}{s2:Ab}{H1:Hp}{fp:List Aj}(hcap:CapAll X.env cl)(I2:Inv X pins σ H1 s2)(hlt:s2.heap.objs.size<C)(hfp:∀b∈fp,jq X pins H1 b)(hbl:∀b∈fp,b<s2.heap.objs.size)(H2:Hp)(hn:∀b∈fp,H2 b=none) :
  ∀b∈fp,jq { X with N:=N,s₀:=s2,H₀:=H1,env:=compEnvC scope cl C X.env,outer:=X.stack,ex:=fp,fn:=λ_=>false,pn:=X.pn++pins,xe:=λ_ _=>False } [] H2 b:=λb hb=>by
 obtain⟨q1,q2,q3,q4,q5,q6⟩:=hfp b hb;refine⟨hn b hb,ar (aV (hbl b hb) hlt),λz=>?_,.inl hb,λy c e=>q5 y c (hcap.look e),λp hp=>q6 p ((bA.mp hp).elim (λz=>z) λz=>nomatch z)⟩;rcases av.mp (I2.stkSub b z) with z|z
 .exact q2 z
 .exact q3 z
theorem qwu {tg:Expr}{ifs:List Expr}{rest:List Comprehension}(hclos:closureFor scope X.env=pure cl)(hhas:HasAll cl scope.names)(hk:scope.kind=.function)
  (hnames:∀y∈scope.names,y.2=.local->scope.names.lookup y.1=some .local) (hi:PI X tg iter wi) (hs:∀z,foldedSetIterable iter X.env z=pure z)
  {use:Option (Ag->Sem Unit)} {QQ:Ag->Ab->Prop} {s:Ab} {H:Hp} {ps:Pos} {R:It->Hp->Prop} (I:Inv X pins σ H s) (h:wi σ H R)
  (go:∀(it:Aj) (fp:List Aj) (tn:Nat->Heap->Prop) (J:It) (H1:Hp) (s2:Ab) (C:Aj) (h3:Heap) (tk:Nat),Inv X pins σ H1 s2->Turn X.prog X.w X.K tg J fp it tn->tn 0 h3->(∀b∈fp,jq X pins H1 b)->(∀b∈fp,b<s2.heap.objs.size)->(∀b∈fp,∃o,s2.heap.get? b=some o)->R J H1->s2.heap.objs.size<C ->
   (∀b o,s2.heap.get? b=some o->h3.get? b=some o)->(h3.Ns C λ_=>none)->h3.get? s2.heap.objs.size=some { cls:=.type "list",data:=.seq #[] 0 } ->
   codeAny (model X.prog X.w) X.A (.compLoop (.ListComp elt (⟨tg,iter,ifs,0⟩::rest) scope pos) 0 (.ref it) (.ref s2.heap.objs.size) (compEnvC scope cl C X.env)) (compPost (model X.prog X.w) X.A X.xe use QQ (.ref s2.heap.objs.size) C) { s2 with heap:=h3,toks:=tk }) :
  wpAny (model X.prog X.w) X.A (comprehension (.ListComp elt (⟨tg,iter,ifs,0⟩::rest) scope pos) scope X.env ps (newList []) false (eval iter X.env) use) QQ X.xe s:=by
 refine cJ (use:=use) rfl hs hclos hk hnames ?_;refine thn (hi pins s σ H _ I h) λv s1 h1=>thn h1 λa0 s2 h2=>?_;obtain⟨it,fp,tn,J,H1,rfl,I2,T,L,ap,hR⟩:=h2;refine bb ?_;refine wpAny_newFunctionEnv hhas.nocell (by intro y hy;cases hy) (λh3 O F=>?_) hk;dsimp only at O F ⊢;generalize hH2:s2.heap.push { cls:=.type "list",dict:=none,data:=.seq ([]:List Ag).toArray }=G2 at O F ⊢;have hC:G2.objs.size=s2.heap.objs.size+1:=by rw[<-hH2,aU]
 have S:s2.heap.objs.size<G2.objs.size:=by lia
 have an:∀b o,s2.heap.get? b=some o->h3.get? b=some o:=λb o e=>by rw[F.2 b (ar (aV (ae e) S))];exact ac _ (hH2▸ac _ e)
 have hD:h3.get? s2.heap.objs.size=some { cls:=.type "list",data:=.seq #[] 0 }:=by rw[F.2 _ (ar S)];exact ac _ (hH2▸aj _ rfl)
 have Z:=T.keep 0 _ _ L λb _ o e=>an b o e;have ad:=λtk=>go it fp tn J H1 s2 G2.objs.size h3 tk I2 T Z ap (λb U=>let ⟨o,e,_⟩:=T.obj 0 _ L b U;ae e) (λb U=>let ⟨o,e,_⟩:=T.obj 0 _ L b U;⟨o,e⟩) hR S an O hD;exact codeAny_compStart_list (ad _) (T.self _ 0 _ _ _ Z (ad _))
theorem yq (M:List Nat)(σ:St)(v:V):(zg M σ none).length=(zg M σ (some v)).length/\∀(k:Nat) z,(zg M σ none)[k]?=some (some z)->(zg M σ (some v))[k]?=some (some z):=⟨rfl,λk z ez=>by
 cases k with
 |zero=>cases ez
 |succ k=>exact ez⟩
end
section
variable {X:Cx}{elt iter:Expr}{x:Str}{px pos:Pos}{scope:Scope}{cl:List (Str×Aj)}{M:List Nat}{wi:TI}{te:TE}
theorem wwy (hc:X.calm=true)(hclos:closureFor scope X.env=pure cl)(hcap:CapAll X.env cl)(hhas:HasAll cl scope.names)(hix:CapIx X scope cl M)(hk:scope.kind=.function)
  (hnames:∀y∈scope.names,y.2=.local->scope.names.lookup y.1=some .local) (hx:scope.names.lookup x=some .local) (hnd:(ym X x M).Nodup) (hi:PI X (.Name x px) iter wi)
  (he:∀C s2 H2 fp pn,PE (zr X scope cl x M C s2 H2 fp pn) elt te) (hs:∀z,foldedSetIterable iter X.env z=pure z)
  {use:Option (Ag->Sem Unit)} {QQ:Ag->Ab->Prop} {pins:List (Aj×Obj)} {s:Ab} {σ:St} {H:Hp} {Q:VK} {ps:Pos} (I:Inv X pins σ H s) (h:wi σ H λJ H1=>uv J M te σ H1 Q)
  (fin:∀(C:Aj) (s2 s4:Ab) (H1 H2:Hp) (fp:List Aj),Inv X pins σ H1 s2->s2.heap.objs.size<C->(∀b∈fp,jq X pins H1 b)->Inv (zr X scope cl x M C s2 H1 fp (X.pn++pins)) [] (zg M σ none) H2 s4->Q (.ref s2.heap.objs.size) H2 ->
   compPost (model X.prog X.w) X.A X.xe use QQ (.ref s2.heap.objs.size) C (.ok .next) s4) :
  wpAny (model X.prog X.w) X.A (comprehension (.ListComp elt [⟨.Name x px,iter,[],0⟩] scope pos) scope X.env ps (newList []) false (eval iter X.env) use) QQ X.xe s:=by
 refine qwu hclos hhas hk hnames hi hs I h λit fp tn J H1 s2 C h3 tk L T t3 F Z an hR O ad ap hD=>?_;obtain⟨W,⟨m0,w0⟩,hW⟩:=hR s2.heap.objs.size (L.hok.fresh (af _));have U:(relabel scope X.env).names.lookup x=some .local:=dj hx;refine y9 (Y:=zr X scope cl x M C s2 H1 fp (X.pn++pins)) (V:=λi n H2=>∃ys,W i n ys H2) (Qd:=Q (.ref s2.heap.objs.size)) (REST:=appS elt (.ref s2.heap.objs.size) (compEnvC scope cl C X.env) _) T hc (λ_ _ z=>z) (compTurn_list1 ..) rfl rfl (zc (i:=0) hnd rfl (.inl U) (.inr U)) (qwn hcap L O F Z) (λi n H2 ⟨ys,w⟩=>?_) (λH2 s4 J4 q=>fin C s2 s4 H1 H2 fp L O F J4 q) (L.comp hcap hhas hix hk O ad ap hD F an) ⟨[],w0⟩ t3 λb hb=>by rw[wf (ar (Z b hb))];exact(F b hb).1
 obtain⟨hp,hz,a1⟩:=hW i n ys H2 w;refine a1.imp id λ⟨a0,hy⟩=>⟨a0,λv H3 yl=>⟨λσ4 H4=>σ4=zg M σ (some v)/\H3=H4,⟨rfl,rfl⟩,λ_ _ e=>?_⟩⟩;obtain⟨rfl,rfl⟩:=e;refine⟨yq M σ v,λa2 s' J=>?_⟩;refine aG (Ym (N:=λzs S=>∃m',m'<n/\W (i+1) m' zs S) (λ_ _ z=>z) (he _ _ _ _ _) J hz (hy v H3 yl)) (λr s5 ⟨e,S,J5,zs,m',hm,w'⟩=>⟨e,S,J5,m',hm,zs,w'⟩) λ_ _ z=>z
theorem jc (hc:X.calm=true)(hclos:closureFor scope X.env=pure cl)(hcap:CapAll X.env cl)(hhas:HasAll cl scope.names)(hix:CapIx X scope cl M)(hk:scope.kind=.function)
  (hnames:∀y∈scope.names,y.2=.local->scope.names.lookup y.1=some .local) (hx:scope.names.lookup x=some .local) (hnd:(ym X x M).Nodup) (hi:PI X (.Name x px) iter wi)
  (he:∀C s2 H2 fp pn,PE (zr X scope cl x M C s2 H2 fp pn) elt te) (hs:autoParam (∀z,foldedSetIterable iter X.env z=pure z) aU3._auto_1) :
  PE X (.ListComp elt [⟨.Name x px,iter,[],0⟩] scope pos) (tComp M wi te):=by
 intro pins s σ H Q I h;rw[eval_ListComp];refine wwy hc hclos hcap hhas hix hk hnames hx hnd hi he hs (use:=none) I h λC s2 s4 H1 H2 fp Z S U F L=>?_;obtain⟨m,O,_⟩:=F.loc;exact⟨m,O,λh' J=>⟨.ref s2.heap.objs.size,H2,Z.uncomp (aZ S) U F J,rfl,L⟩⟩
theorem Inv.but {pins:List (Aj×Obj)}{σ:St}{H:Hp}{s:Ab}{h':Heap}{C:Aj}(I:Inv X pins σ H s)(hn:H C=none)(h1:X.s₀.heap.objs.size<=C)(h2:C≠X.env.locals)(h3:∀y c,X.env.cells.lookup y=some c->c≠C)(h4:∀p∈X.pn++pins,p.1≠C)
  (hs:Heap.SameBut C s.heap h'):Inv X pins σ H { s with heap:=h' }:=by
 have st:∀b o,b≠C->s.heap.get? b=some o->h'.get? b=some o:=λb o n e=>(hs.2 b n).trans e;have L:∀b,b∉[C]->b≠C:=λb z e=>z (by rw[e];exact .head _);refine I.call' (s':={ s with heap:=h' }) (ch:=[C]) rfl ⟨λb o e n _ F=>st b o (L b F) e,λb o e n _ F=>⟨o.slots,st b o (L b F) e⟩,λb o e n _=>n,λb o e F=>⟨o,st b o (L b F) e⟩,λ_ _ e=>e,λ_ _ _ e=>e,λb ps e=>⟨#[],by rw[e];simp⟩⟩ ?_ I.bare λb S=>?_
 .intro b u O;refine(I.hok b u O).stay (λc v J e=>st c v ?_ e) (λ_ z=>z) λ_ _ z=>z;rcases J with rfl|J
  .intro z;rw[z,hn]at O;cases O
  .intro z;rw[z,hn]at J;cases J
 .rw[aH.mp S];exact⟨.inr h1,h2,h3,h4⟩
end
theorem Zt {M:List Nat}{lo:Int}{n:Nat}{te:TE}{σ:St}{H:Hp}{Q:VK}(f:Nat->V)(hn:n<=1000000)(he:∀(i:Nat) (H':Hp) (R:VK),i<n->Same H H'->R (f i) H'->te (zg M σ (some (.int (lo+i)))) H' R)
  (k:∀p,H p=none->Q (.ref p) (upd H p (.lst ((List.range n).map f)))):uv (Itr lo n) M te σ H Q:=by
 intro p np;refine⟨λi m ys H2=>i<=n/\m=n-i/\ys=(List.range i).map f/\H2=upd H p (.lst ys),⟨n,aD _,rfl,rfl,rfl⟩,?_⟩;rintro i m ys H2 ⟨hi,rfl,rfl,rfl⟩;refine⟨wj,?_,?_⟩
 .rw[ah,aL];have:(1000000:Nat)<sizeLine:=by decide
  lia
 .by_cases hlt:i<n
  .refine .inr ⟨hlt,?_⟩;rintro v H3 ⟨rfl,rfl⟩;refine he i (upd H p (.lst ((List.range i).map f))) _ hlt (Same.upd np) ⟨wj,n-(i+1),⋯,⋯,rfl,?_,?_⟩
   .rw[ck,bo];rfl
   .rw[Qn]
  .have:i=n:=by lia
   subst this;exact .inl ⟨af _,k p np⟩
theorem qy7 {K:Aa}{M:List Nat}{a:Aj}{xs:List V}{te:TE}{σ:St}{H:Hp}{Q:VK}(f:V->V)(hS:SqL K H a xs)(hn:xs.length<=1000000)(he:∀(x:V) (H':Hp) (R:VK),x∈xs->Same H H'->R (f x) H'->te (zg M σ (some x)) H' R)
  (k:∀p,H p=none->Q (.ref p) (upd H p (.lst (xs.map f)))):uv (Itl K a) M te σ H Q:=by
 intro p np;refine⟨λi m ys H2=>i<=xs.length/\m=xs.length-i/\ys=(xs.take i).map f/\H2=upd H p (.lst ys),⟨xs.length,aD _,rfl,rfl,rfl⟩,?_⟩;rintro i m ys H2 ⟨hi,rfl,rfl,rfl⟩;have I:SqL K (upd H p (.lst ((xs.take i).map f))) a xs:=Same.sql (Same.upd np) hS;refine⟨wj,?_,?_⟩
 .rw[ah,bD];have:(1000000:Nat)<sizeLine:=by decide
  lia
 .by_cases hlt:i<xs.length
  .have F:xs[i]?=some xs[i]:=ai hlt;refine .inr ⟨⟨xs,_,I,F⟩,?_⟩;rintro v H3 ⟨rfl,hv⟩;have e:=hv xs I;rw[F]at e;have L:=al e;subst L;refine he _ _ _ (db hlt) (Same.upd np) ⟨wj,xs.length-(i+1),⋯,⋯,rfl,?_,?_⟩
   .rw[List.take_succ,F,bo];rfl
   .rw[Qn]
  .have J:i=xs.length:=by lia
   subst J;refine .inl ⟨⟨xs,I,af _⟩,?_⟩;rw[de];exact k p np
end L2
namespace L2
open PySem PySem.Spec PyProof.Rows
section
variable {X:Cx}
theorem qqt {pins:List (Aj×Obj)}{σ:St}{H:Hp}{s:Ab}{p:Aj}{ns:List Int}(I:Inv X pins σ H s)(hS:SqL X.K H p (ns.map V.int)) :
  ∃ts:Array (Int×Tok),s.heap.IsList p (intItems ts)/\ns=ts.toList.map (·.1):=by
 obtain⟨ad,L,⟨o,n,U,S,e3,O⟩,hz⟩:=I.list hS;have hi:=qkn L;obtain⟨ts,F⟩:=hi.allInts.items;refine⟨ts,⟨o,U,S,n,by rw[<-F];exact O⟩,?_⟩;have Z:=hi.numsOf;have J:=nums_intItems (xs:=ts);rw[<-F]at J;exact Z.symm.trans J
theorem qqd (hc:X.calm=true):kj X (.builtin "min") (λxs H Q=>∃(p:Aj) (ns:List Int),xs=[.ref p]/\SqL X.K H p (ns.map V.int)/\0<ns.length/\∀m,m∈ns->(∀a∈ns,m<=a)->Q (.int m) H):=by
 intro pins s σ H xs us Q I r h;obtain⟨p,ns,rfl,hS,ad,q⟩:=h;obtain⟨u,rfl,S⟩:=yn r;cases(show u=Value.ref p from S);obtain⟨J,Z,F⟩:=qqt I hS;have L:J.size=ns.length:=by rw[F,ah,bx]
 refine min_intList (I.ok.hd hc) Z ⋯ λv h' tk U hk=>?_;obtain⟨t,rfl⟩:=intItems_at U;obtain⟨b1,b2⟩:=argBest_lt (numAt J) (J.size-1);refine⟨.int _,H,I.kept hk,⟨t,rfl⟩,q _ ?_ λa O=>?_⟩
 .rw[F,numAt_eq];refine getD_mem ?_;rw[<-F,<-L];lia
 .rw[F]at O;obtain⟨j,hj,rfl⟩:=mem_getD O;rw[<-F,<-L]at hj;rw[<-numAt_eq];exact b2 j ⋯
theorem Jn (hc:X.calm=true):kj X (.builtin "max") (λxs H Q=>∃(p:Aj) (ns:List Int),xs=[.ref p]/\SqL X.K H p (ns.map V.int)/\0<ns.length/\∀m,m∈ns->(∀a∈ns,a<=m)->Q (.int m) H):=by
 intro pins s σ H xs us Q I r h;obtain⟨p,ns,rfl,hS,ad,q⟩:=h;obtain⟨u,rfl,S⟩:=yn r;cases(show u=Value.ref p from S);obtain⟨J,Z,F⟩:=qqt I hS;have L:J.size=ns.length:=by rw[F,ah,bx]
 refine max_intList (I.ok.hd hc) Z ⋯ λv h' tk U hk=>?_;obtain⟨t,rfl⟩:=intItems_at U;obtain⟨b1,b2⟩:=argBest_gt (numAt J) (J.size-1);refine⟨.int _,H,I.kept hk,⟨t,rfl⟩,q _ ?_ λa O=>?_⟩
 .rw[F,numAt_eq];refine getD_mem ?_;rw[<-F,<-L];lia
 .rw[F]at O;obtain⟨j,hj,rfl⟩:=mem_getD O;rw[<-F,<-L]at hj;rw[<-numAt_eq];exact b2 j ⋯
theorem qvz:∀ {bs:List Bool} {its:List Ag},Vals (bs.map V.bl) its->its=bs.map Value.bool
 |[],_,.nil=>rfl
 |b::bs,_,.cons r t=>by have e:_=Value.bool b:=r;rw[ay,<-qvz t,e]
theorem wqw (bs:List Bool):(List.range bs.length).all (λi=>bs.getD i true)=bs.all id:=by
 rw[bQ,df,df];constructor
 .intro h b I;obtain⟨i,hi,rfl⟩:=List.getElem_of_mem I;have:=h i (bd.mpr hi);rw[am,ai hi]at this;exact this
 .intro h i hi;have F:=bd.mp hi;rw[am,ai F];exact h _ (db F)
theorem uk (hc:X.calm=true):kj X (.builtin "all") (λxs H Q=>∃(p:Aj) (bs:List Bool),xs=[.ref p]/\SqL X.K H p (bs.map V.bl)/\Q (.bl (bs.all id)) H):=by
 intro pins s σ H xs us Q I r h;obtain⟨p,bs,rfl,hS,q⟩:=h;obtain⟨u,rfl,ru⟩:=yn r;cases(show u=Value.ref p from ru);obtain⟨J,rv,⟨o,n,Z,L,e3,e4⟩,hz⟩:=I.list hS;have S:=qvz rv;have O:s.heap.IsList p J.toArray:=⟨o,Z,L,n,e4⟩;have ad:p<s.heap.objs.size:=ae Z;refine call_all_walk (dR O ?_);refine⟨s.heap.objs.size,_,_,_,_,_,λi=>bs.getD i true,rfl,Walks.list (A:=X.A.in1) (I.ok.hd hc) _ p (ar ad) J.toArray,⟨⟨_,aj _ rfl,rfl,rfl⟩,O.push _⟩,λi v s' Q' E' hP hQ=>?_,λh' tk hk=>?_⟩
 .have F:J[i]?=some v:=by simpa using hP
  rw[S,aI]at F;cases hb:bs[i]? with
  |none=>rw[hb]at F;cases F
  |some b =>
   rw[hb]at F;have ev:Value.bool b=v:=al F;subst ev;refine cu ?_;have L:bs.getD i true=b:=by rw[am,hb];rfl
   have U:Q' (bs.getD i true) s':=hQ;rw[L]at U;exact U
 .have an:J.toArray.size=bs.length:=by rw[S];simp
  rw[an,wqw];refine⟨.bl _,H,I.kept λb ob e=>hk b ob (λhm=>?_) (ac _ e),rfl,q⟩;have z:b=s.heap.objs.size:=by simpa using hm
  exact aS _ (z▸ae e)
end
structure MCal (P:Ac)(w:Ah)(K:Aa)(mg:Str->Option Ag)(base:Heap)(C:Aj)(m:Str)(k:Nat)(sp:Sp):Prop where
 ex:∃f fd ps,Meth K C m f/\FnOk P w K mg base (CXE P w) k f fd ps sp/\Binds K fd ps []
structure CCal (P:Ac)(w:Ah)(K:Aa)(mg:Str->Option Ag)(base:Heap)(x:Str)(C:Aj)(k:Nat)(sp:Sp):Prop where
 ex:∃f fd ps,mg x=some (.ref C)/\Mk K C f/\FnOk P w K mg base (CXE P w) k f fd ps sp/\Binds K fd ps []
structure MethIn (K:Aa)(C:Aj)(m qual:Str)(st:Stmt):Prop where
 ex:∃f fd,W.findIn K (.ref C) m=some (some (.ref f))/\W.isFn K (.ref f)=true/\Fun K m qual st f fd
theorem wvt {K:Aa}{C:Aj}{m qual:Str}{st:Stmt}{f:Aj}{oc:Ag}{od an:Option Aj}{osl:Array (Option Ag)}{kV doc pm cdv ct:Ag}(a:W.findIn K (.ref C) m=some (some (.ref f)))(i:W.isFn K (.ref f)=true)
  (l:K.lookup f=some ⟨oc,od,.func (W.fnOf m qual (v1 st) (vw st) (wg st) .none kV doc pm an cdv ct),osl⟩) (c:W.codeIn K cdv qual=true) (k:W.keepIn K (.ref f)=true):MethIn K C m qual st:=⟨_,_,a,i,wqg l c k⟩
def zk (x qual:Str)(st:Stmt)(ps:List Str):Prop:=∀(kV doc pm:Ag) (an:Option Aj) (cdv ct:Ag) (us:List Ag),us.length=ps.length->bindArgs (W.fnOf x qual (v1 st) (vw st) (wg st) .none kV doc pm an cdv ct) ⟨us,[]⟩=pure (ps.zip us)
section
variable {P:Ac}{w:Ah}{K:Aa}{mg:Str->Option Ag}{base:Heap}{C:Aj}
theorem MethIn.cal {m qual:Str}{st:Stmt}{ps:List Str}{k:Nat}{sp:Sp}(d:MethIn K C m qual st)(b:zk m qual st ps)(ok:∀f fd,Fun K m qual st f fd->FnOk P w K mg base (CXE P w) k f fd ps sp):MCal P w K mg base C m k sp:=by obtain⟨f,fd,a,i,F⟩:=d.ex;exact⟨f,fd,ps,⟨a,i,F.kp⟩,ok f fd F,F.binds b⟩
theorem MethIn.ccal {x qual:Str}{st:Stmt}{ps:List Str}{k:Nat}{sp:Sp}(d:MethIn K C "__init__" qual st)(hm:mg x=some (.ref C))(mk:W.makesIn K C=true)(kc:W.keepIn K (.ref C)=true)(b:zk "__init__" qual st ps)
  (ok:∀f fd,Fun K "__init__" qual st f fd->FnOk P w K mg base (CXE P w) k f fd ps sp):CCal P w K mg base x C k sp:=by
 obtain⟨f,fd,a,i,F⟩:=d.ex;exact⟨f,fd,ps,hm,⟨mk,a,i,kc⟩,ok f fd F,F.binds b⟩
end
section
variable {X:Cx}{C:Aj}{x m:Str}{k:Nat}{sp:Sp}{E:St->XK}{p pos apos:Pos}{e o:Expr}{es:List Expr}{ta:TE}{t:TA}
theorem yd (c:CCal X.prog X.w X.K X.mg X.base x C k sp)(hr:Room (k+1) X.A)(hg:Gl X x)(hx:kh X E)
  (ha:PA X (e::es) t) (hdb:autoParam ((x==("__debug__" : Str))=false) aU1._auto_1) (he:autoParam (starEach (e::es) X.env=(false,eval e X.env)::starEach es X.env) aU4._auto_1) (hpl:autoParam ((backTo pos (starEach es X.env)).any (·.1)=false) aU4._auto_1) :
  PE X (.Call (.Name x p) (e::es) [] pos) (qk0 C sp E t):=by
 obtain⟨f,fd,ps,I,M,F,b⟩:=c.ex;exact ww2 M F hr hg I b hx ha hdb he hpl
theorem wwb {pl:Sem Bool}(he:PE X o ta)(cl:Cls X.K C)(c:MCal X.prog X.w X.K X.mg X.base C m k sp)(hr:Room k X.A)(hx:kh X E)(ha:PA X (e::es) t)
  (hst:autoParam (starEach (e::es) X.env=(false,eval e X.env)::starEach es X.env) aU4._auto_1) (hpl:autoParam ((backTo pos (starEach es X.env)).any (·.1)=false) aU4._auto_1)
  (ht:autoParam (eval (.Call (.Attribute o m apos) (e::es) [] pos) X.env=(do
   let ov <-eval o X.env
   standAt apos.atName
   let (f,first) <-holding [ov] (getMethod ov m pl)
   callWith pos f first (backTo pos (starEach (e::es) X.env)) (backToKw pos (keywordEach [] X.env)))) aU4._auto_1) :
  PE X (.Call (.Attribute o m apos) (e::es) [] pos) (Zr C m sp E ta t):=by
 obtain⟨f,fd,ps,I,F,b⟩:=c.ex;exact wqd he cl I F hr b hx ha hst hpl ht
theorem kd {pl:Sem Bool}(he:PE X o ta)(cl:Cls X.K C)(c:MCal X.prog X.w X.K X.mg X.base C m k sp)(hr:Room k X.A)(hx:kh X E)
  (ht:autoParam (eval (.Call (.Attribute o m apos) [] [] pos) X.env=(do
   let ov <-eval o X.env
   standAt apos.atName
   let (f,first) <-holding [ov] (getMethod ov m pl)
   callWith pos f first (backTo pos (starEach [] X.env)) (backToKw pos (keywordEach [] X.env)))) aU4._auto_1) :
  PE X (.Call (.Attribute o m apos) [] [] pos) (Zr C m sp E ta qqq):=by
 obtain⟨f,fd,ps,I,F,b⟩:=c.ex;exact quz he cl I F hr b hx ht
end
end L2
namespace L2
open PySem PySem.Spec PyProof.Rows
theorem ObjOk.there {P:Ac}{w:Ah}{H:Hp}{h:Heap}{a:Aj}{o:HO}(x:ObjOk P w H h a o):∃ob,h.get? a=some ob:=by
 cases o with
 |lst xs=>obtain⟨_,_,_,_,e⟩:=x;exact⟨_,e⟩
 |tup xs=>obtain⟨_,_,_,⟨o,e,_⟩⟩:=x;exact⟨_,e⟩
 |dK kvs=>obtain⟨_,_,_,_,o,_,_,e,_⟩:=x;exact⟨_,e⟩
 |dT kvs=>obtain⟨_,_,_,_,o,_,_,e,_⟩:=x;exact⟨_,e⟩
 |set S n=>obtain⟨o,_,_,_,e,_⟩:=x;exact⟨_,e⟩
 |ins C dx fs=>obtain⟨_,_,_,e,_⟩:=x;exact⟨_,e⟩
 |own y=>obtain⟨_,e⟩:=x;exact⟨_,e⟩
 |xd fs=>obtain⟨_,⟨_,_,_,e,_⟩,_⟩:=x;exact⟨_,e⟩
 |rng lo hi=>obtain⟨_,_,_,e⟩:=x;exact⟨_,e⟩
 |frz ob u=>obtain⟨e,_⟩:=x;exact⟨_,e⟩
 |tbl ps=>exact⟨_,(show h.get? a=some _ from x)⟩
 |met f y=>exact⟨_,(show h.get? a=some _ from x)⟩
 |ext φ=>obtain⟨_,e,_⟩:=x;exact e
theorem W0 {K:Aa}{C D:Aj}(d:ExcC K D)(hm:W.mroIn K C (.ref D)=some true):Z1 K C D:=by
 intro M A E h g dr t os e U Q X I O q;obtain⟨tl,N,a1,a2,a3,a4,a5,a6,a7,a8,a9,b0,b1,b2,b3,b5,Z,F,hN,ad,T⟩:=qzj X d.q;have S:=T.hasType bK.hasBase;have J:(Value.ref D::tl).contains (.type "BaseException")=true:=by rw[List.contains_cons,S,Bool.or_true]
 have L:W.Looks M h (isSubtype (.ref C) (.ref D)) true:=W.looks_mroIn X hm;have f:=tc_notTuple;unfold excMatches
 repeat (first | (with_reducible refine aW I ?_;rw[O]) | with_reducible refine aW F ?_ | (with_reducible refine du F ?_;rw[J]) | with_reducible refine L.at ?_ | wp_step)
 exact q
abbrev Cx.handlingAs (X:Cx)(e:Aj)(pn:List (Aj×Obj)):Cx:={ X with A:=X.A.mark (some (.ref e)),calm:=false,xe:=λ_ _=>False,pn:=pn }
def Ends.less (D:Ends)(i:Nat):Ends:={ nx:=λσ H=>D.nx (σ.set i none) H,rt:=D.rt,bk:=λσ H=>D.bk (σ.set i none) H,ct:=λσ H=>D.ct (σ.set i none) H }
section
variable {X:Cx}{pins pn:List (Aj×Obj)}{σ:St}{H H':Hp}{s s':Ab}{e:Aj}{ob:Obj}
theorem Cx.Ok.handlingAs (o:X.Ok)(e:Aj)(pn:List (Aj×Obj)):(X.handlingAs e pn).Ok :=
 ⟨o.mod,o.kind,o.glob,o.blt,o.above,o.inj,o.has,o.cab,λz=>(aq z).elim,o.frames,o.stk,o.exf,o.bs,o.bsz,o.noex,o.exfs,o.funs,o.frf⟩
theorem Inv.handlingAs (I:Inv X pins σ H s)(h1:s.heap.get? e=some ob)(h2:H e=none)(h3:e≠X.env.locals)(h4:e∉X.fs)(h5:∀v,ob.data≠.cell v):Inv (X.handlingAs e ((e,ob)::(X.pn++pins))) [] σ H s :=
 ⟨I.ok.handlingAs _ _,I.os,I.bare,I.base,I.loc,I.cell,I.free,I.freeC,λp hp=>by
  rw[bB]at hp
  rcases av.mp hp with rfl|hp
  .exact⟨h1,h2,h3,h4,h5⟩
  .exact I.pin p hp,I.hok,I.len⟩
theorem Inv.unhandlingAs (o:X.Ok)(I:Inv (X.handlingAs e ((e,ob)::(X.pn++pins))) [] σ H s):Inv X pins σ H s :=
 ⟨o,I.os,I.bare,I.base,I.loc,I.cell,I.free,I.freeC,λp hp=>I.pin p (by rw[bB];exact .tail _ hp),I.hok,I.len⟩
theorem Qw {M:Model}{A:Ae}{E:Ag->Ab->Prop}{i:Nat}{x:Str}{pos:Pos}{Q:Unit->Ab->Prop}(I:Inv X pins σ H s)(hN:X.N.Nodup)(hi:X.N[i]?=some x)(hx:X.env.scope.names.lookup x=some .local)
  (h:∀s',Inv X pins (σ.set i none) H s'->Q () s'):wpAny M A (do bindName X.env x .none;unbindBehindTheSuite X.env x pos) Q E s:=by
 refine aa (wpAny_bindName (k6 (v:=.non) I hN hi (.inl hx) rfl (λs1 F=>?_) (.inr hx)));have ad:i<σ.length:=by rw[I.len];exact(aT.mp hi).1
 obtain⟨m,hn,hl⟩:=id F.loc;obtain⟨u,r,lk⟩:=hl i x .non hi (bW ad) (.inl hx);have hv:m x=some u:=by
  rcases lk with⟨_,e⟩|⟨k,_⟩
  .exact e
  .have a1:X.env.kindOf x=some .local:=hx;rcases k with k|k <;> (rw[a1]at k;cases k)
 have a4:(X.env.scope.kind==.class||(X.env.scope.kind==.module&&X.env.locals != X.env.globals))=false:=by rw[I.ok.kind];rfl
 have ap:=F.cne;have a0:∀ {a:Aj} {h':Heap},(∃o,s1.heap.get? a=some o/\H a=none)->Heap.SameBut a s1.heap h'->HOk X.prog X.w H h':=λ{a h'} ha hs b ob e=>by
  obtain⟨_,_,an⟩:=ha;refine(F.hok b ob e).stay (λc U L q=>(hs.2 c ?_).trans q) (λ_ q=>q) λ_ _ q=>q;rintro rfl;rcases L with rfl|L
  .rw[an]at e;cases e
  .rw[an]at L;cases L
 unfold unbindBehindTheSuite;refine di (wpAny_unbindName_local hx hn hv a4 λh' Z a3 hs=>?_);obtain⟨oL,_,_,a2,_⟩:=id hn;refine h _ ⟨F.ok,F.os,F.bare,⟨λb o e n S hx=>?_,λb o e n S hx=>?_,F.base.free,λb o e hx=>?_,F.base.tups,F.base.frzs,F.base.tbls⟩,⟨_,a3,λj y v' J O e3=>?_⟩,λy c e=>?_,F.free,F.freeC,λp hp=>?_,a0 ⟨oL,a2,F.free⟩ hs,by simpa using I.len⟩
 .exact(hs.2 b (ar (aw (ae e) I.ok.above))).trans (F.base.keep b o e n S hx)
 .obtain⟨sl,J⟩:=F.base.slot b o e n S hx;exact⟨sl,(hs.2 b (ar (aw (ae e) I.ok.above))).trans J⟩
 .obtain⟨o',J⟩:=F.base.there b o e hx;exact⟨o',(hs.2 b (ar (aw (ae e) I.ok.above))).trans J⟩
 .by_cases hj:j=i
  .subst hj;rw[bW ad]at O;cases O
  .rw[cx (ba hj)]at O;obtain⟨Z,r',q⟩:=hl j y v' J (by rw[cx (ba hj)];exact O) e3;refine⟨Z,r',?_⟩;rcases q with⟨k,e⟩|⟨k,c,e,z⟩
   .refine .inl ⟨k,?_⟩;have:y≠x:=λe=>hj (Yx hN J (e▸hi));simp[this,e]
   .exact .inr ⟨k,c,e,z.sameBut hs (ap y c e)⟩
 .obtain⟨U,z⟩:=F.cell y c e;exact⟨U,z.sameBut hs (ap y c e)⟩
 .obtain⟨e,n,ne,nf,d⟩:=F.pin p hp;exact⟨(hs.2 p.1 ne).trans e,n,ne,nf,d⟩
theorem SP.unhandlingAs {M:Model}{A:Ae}{E:Ag->Ab->Prop}{i:Nat}{x:Str}{pos:Pos}{D:Ends}{f:Flow}(o:X.Ok)(hN:X.N.Nodup)(hi:X.N[i]?=some x)(hx:X.env.scope.names.lookup x=some .local)
  (h:SP (X.handlingAs e ((e,ob)::(X.pn++pins))) [] (D.less i) f s'):wpAny M A (do bindName X.env x .none;unbindBehindTheSuite X.env x pos) (λ_ s5=>SP X pins D f s5) E s':=by
 cases f with
 |next=>obtain⟨a,b,c,d⟩:=h;exact Qw (c.unhandlingAs o) hN hi hx λs5 F=>⟨_,_,F,d⟩
 |brk=>obtain⟨a,b,c,d⟩:=h;exact Qw (c.unhandlingAs o) hN hi hx λs5 F=>⟨_,_,F,d⟩
 |cont=>obtain⟨a,b,c,d⟩:=h;exact Qw (c.unhandlingAs o) hN hi hx λs5 F=>⟨_,_,F,d⟩
 |ret u=>obtain⟨v,a,b,c,r,d⟩:=h;exact Qw (c.unhandlingAs o) hN hi hx λs5 F=>⟨v,_,_,F,r,d⟩
end
section
variable {X:Cx}{x n:Str}{i:Nat}{D0:Aj}{G:Aj->Prop}{np hpos pos:Pos}{b₀:Stmt}{body suite:List Stmt}{tb:(St->XK)->TS}{th:Aj->TS}
end
theorem W5:bootBuiltins "ValueError" = some (.type "ValueError"):=by decide +kernel
theorem qjf {K:Aa}{C:Aj}(h:W.mroIn K C (.type "ValueError")=some true):W.kitCls K (.ref C) (.type "ValueError")=some true:=by unfold W.kitCls;show(if W.kitMeta "ValueError" = true then W.subIn K (.ref C) (.type "ValueError") else none)=some true;rw[ao (by decide +kernel)];exact h
end L2
namespace L2
open PySem
def hAt (hs:List Int)(k:Int):Int:=hs.getD k.toNat 0
def kF (hs:List Int)(t b:Int):Int:=if(hs.length:Int)-1-1<t/b then(hs.length:Int)-1-1 else t/b
def Zg (hs:List Int)(t b:Int):Int:=hAt hs (kF hs t b)*b+(hAt hs (kF hs t b+1)-hAt hs (kF hs t b))*(t-kF hs t b*b)
theorem kF_rng {hs:List Int}{t b:Int}(hl:2<=hs.length)(hb:1<=b)(h0:0<=t):0<=kF hs t b/\kF hs t b<(hs.length:Int)-1:=by have h:=Int.ediv_nonneg h0 (show(0:Int)<=b by lia);unfold kF;split <;> lia
theorem wzf {hs:List Int}{t b c:Int}(hc:1<=c):kF hs (t*c) (b*c)=kF hs t b:=by unfold kF;rw[cg _ _ (show 0<c by lia)]
theorem qzn {hs:List Int}{t b c:Int}(hc:1<=c):Zg hs (t*c) (b*c)=Zg hs t b*c:=by unfold Zg;rw[wzf hc];generalize hAt hs (kF hs t b)=u;generalize hAt hs (kF hs t b+1)=v;generalize kF hs t b=k;grind
def qv0 (hs:List Int)(t b:Int):Int×Int:=xz (Zg hs t b) b
theorem qut {hs:List Int}{t b:Int}(hb:1<=b):qv0 hs (xz t b).1 (xz t b).2=qv0 hs t b:=by
 unfold qv0;have I:=jg (t:=t) hb;have J:(xz t b).1*gOf t b=t:=by rw[Int.mul_comm];exact qyd
 have F:(xz t b).2*gOf t b=b:=by rw[Int.mul_comm];exact qvk hb
 have h:=qzn (hs:=hs) (t:=(xz t b).1) (b:=(xz t b).2) I;rw[J,F]at h;rw[h]
 conv=>rhs;rw[<-F]
 rw[F];have:=wzt (t:=Zg hs (xz t b).1 (xz t b).2) (b:=(xz t b).2) (Zd hb) I;rw[F]at this;exact this.symm
theorem Zf {t b:Int}(hb:1<=b):(xz t b).1<0↔t<0:=by
 have I:=jg (t:=t) hb;have F:gOf t b*(xz t b).1=t:=qyd;constructor
 .intro h;have:=dL h (show 0<gOf t b by lia);rw[F,Int.mul_zero]at this;exact this
 .intro h;rcases cb (xz t b).1 0 with z|z
  .exact z
  .have:=bU z (show 0<=gOf t b by lia);rw[F,Int.mul_zero]at this;lia
theorem qkb {t b n:Int}(hb:1<=b):n*(xz t b).2<(xz t b).1↔n*b<t:=by
 have J:=jg (t:=t) hb;have I:gOf t b*(xz t b).1=t:=qyd;have L:gOf t b*(xz t b).2=b:=qvk hb;have F:gOf t b*(n*(xz t b).2)=n*b:=by generalize gOf t b=g at *;generalize (xz t b).2=y at *;grind
 constructor
 .intro h;have:=dL h (show 0<gOf t b by lia);rw[I,F]at this;exact this
 .intro h;rcases cb (n*(xz t b).2) (xz t b).1 with z|z
  .exact z
  .have:=bU z (show 0<=gOf t b by lia);rw[I,F]at this;lia
end L2
namespace L2
open PySem PySem.Spec PyProof.Rows
def qkx (J:It)(M:List Nat)(tt:TT)(te:TE)(σ:St)(H1:Hp)(Q:VK):Prop:=∀p,H1 p=none->∃W:Nat->Nat->List V->Hp->Prop,(∃m,W 0 m [] (upd H1 p (.lst []))) /\
 ∀i m ys H2,W i m ys H2->H2 p=some (.lst ys)/\ys.length<sizeLine/\((J.stop i H2/\Q (.ref p) H2)\/(J.go i H2/\∀v H3,J.yld i H2 v H3 ->
  tt (zg M σ (some v)) H3 λb H4=>if b=true then te (zg M σ (some v)) H4 (λy H5=>H5 p=some (.lst ys)/\∃m',m'<m/\W (i+1) m' (ys++[y]) (upd H5 p (.lst (ys++[y])))) else H4 p=some (.lst ys)/\∃m',m'<m/\W (i+1) m' ys H4))
def tCompI (M:List Nat)(wi:TI)(tt:TT)(te:TE):TE:=λσ H Q=>wi σ H λJ H1=>qkx J M tt te σ H1 Q
section
variable {X:Cx}{elt iter cd:Expr}{x:Str}{px pos:Pos}{scope:Scope}{cl:List (Str×Aj)}{M:List Nat}{wi:TI}{tt:TT}{te:TE}
theorem qy2 (hc:X.calm=true)(hclos:closureFor scope X.env=pure cl)(hcap:CapAll X.env cl)(hhas:HasAll cl scope.names)(hix:CapIx X scope cl M)(hk:scope.kind=.function)
  (hnames:∀y∈scope.names,y.2=.local->scope.names.lookup y.1=some .local) (hx:scope.names.lookup x=some .local) (hnd:(ym X x M).Nodup) (hi:PI X (.Name x px) iter wi)
  (ht:∀C s2 H2 fp pn,PT (zr X scope cl x M C s2 H2 fp pn) cd tt) (he:∀C s2 H2 fp pn,PE (zr X scope cl x M C s2 H2 fp pn) elt te) (hs:∀z,foldedSetIterable iter X.env z=pure z)
  {use:Option (Ag->Sem Unit)} {QQ:Ag->Ab->Prop} {pins:List (Aj×Obj)} {s:Ab} {σ:St} {H:Hp} {Q:VK} {ps:Pos} (I:Inv X pins σ H s) (h:wi σ H λJ H1=>qkx J M tt te σ H1 Q)
  (fin:∀(C:Aj) (s2 s4:Ab) (H1 H2:Hp) (fp:List Aj),Inv X pins σ H1 s2->s2.heap.objs.size<C->(∀b∈fp,jq X pins H1 b)->Inv (zr X scope cl x M C s2 H1 fp (X.pn++pins)) [] (zg M σ none) H2 s4->Q (.ref s2.heap.objs.size) H2 ->
   compPost (model X.prog X.w) X.A X.xe use QQ (.ref s2.heap.objs.size) C (.ok .next) s4) :
  wpAny (model X.prog X.w) X.A (comprehension (.ListComp elt [⟨.Name x px,iter,[cd],0⟩] scope pos) scope X.env ps (newList []) false (eval iter X.env) use) QQ X.xe s:=by
 refine qwu hclos hhas hk hnames hi hs I h λit fp tn J H1 s2 C h3 tk L T t3 F ad ap hR O an a0 hD=>?_;obtain⟨W,⟨m0,w0⟩,hW⟩:=hR s2.heap.objs.size (L.hok.fresh (af _));have Z:(relabel scope X.env).names.lookup x=some .local:=dj hx;refine y9 (Y:=zr X scope cl x M C s2 H1 fp (X.pn++pins)) (V:=λi n H2=>∃ys,W i n ys H2) (Qd:=Q (.ref s2.heap.objs.size)) (REST:=tstS cd (compEnvC scope cl C X.env) (appS elt (.ref s2.heap.objs.size) (compEnvC scope cl C X.env) _) (again _)) T hc (λ_ _ z=>z) (compTurn_list ..) rfl rfl (zc (i:=0) hnd rfl (.inl Z) (.inr Z)) (qwn hcap L O F ad) (λi n H2 ⟨ys,w⟩=>?_) (λH2 s4 J4 q=>fin C s2 s4 H1 H2 fp L O F J4 q) (L.comp hcap hhas hix hk O an a0 hD F ap) ⟨[],w0⟩ t3 λb hb=>by rw[wf (ar (ad b hb))];exact(F b hb).1
 obtain⟨hp,hz,a2⟩:=hW i n ys H2 w;refine a2.imp id λ⟨a1,hy⟩=>⟨a1,λv H3 yl=>⟨λσ4 H4=>σ4=zg M σ (some v)/\H3=H4,⟨rfl,rfl⟩,λ_ _ e=>?_⟩⟩;obtain⟨rfl,rfl⟩:=e;refine⟨yq M σ v,λa3 s' J=>?_⟩;exact wx0 (ht _ _ _ _ _) J (hy v H3 yl) (λs6 H6 S h6=>aG (Ym (N:=λzs U=>∃m',m'<n/\W (i+1) m' zs U) (λ_ _ z=>z) (he _ _ _ _ _) S hz h6) (λr s5 ⟨e,U,J5,zs,m',hm,w'⟩=>⟨e,U,J5,m',hm,zs,w'⟩) λ_ _ z=>z)
  λs6 H6 S ⟨_,m',hm,w'⟩=>ag ⟨rfl,H6,S,m',hm,ys,w'⟩
theorem wqh (hc:X.calm=true)(hclos:closureFor scope X.env=pure cl)(hcap:CapAll X.env cl)(hhas:HasAll cl scope.names)(hix:CapIx X scope cl M)(hk:scope.kind=.function)
  (hnames:∀y∈scope.names,y.2=.local->scope.names.lookup y.1=some .local) (hx:scope.names.lookup x=some .local) (hnd:(ym X x M).Nodup) (hi:PI X (.Name x px) iter wi)
  (ht:∀C s2 H2 fp pn,PT (zr X scope cl x M C s2 H2 fp pn) cd tt) (he:∀C s2 H2 fp pn,PE (zr X scope cl x M C s2 H2 fp pn) elt te) (hs:autoParam (∀z,foldedSetIterable iter X.env z=pure z) aU3._auto_1) :
  PE X (.ListComp elt [⟨.Name x px,iter,[cd],0⟩] scope pos) (tCompI M wi tt te):=by
 intro pins s σ H Q I h;rw[eval_ListComp];refine qy2 hc hclos hcap hhas hix hk hnames hx hnd hi ht he hs (use:=none) I h λC s2 s4 H1 H2 fp Z S U F L=>?_;obtain⟨m,O,_⟩:=F.loc;exact⟨m,O,λh' J=>⟨.ref s2.heap.objs.size,H2,Z.uncomp (aZ S) U F J,rfl,L⟩⟩
end
theorem qk5 {i:Int}{acc:Array Ag}{n:Nat}(h:ItemsOf (λk v=>∃t,v=.int (i+k*1) t) acc n):Vals ((List.range n).map λk:Nat=>V.int (i+k)) acc.toList:=by
 obtain⟨h1,h2⟩:=h;have L:∀(l:List Ag) (b m:Nat),l.length=m->(∀(j:Nat) v,l[j]?=some v->∃t,v=.int (i+((b+j:Nat):Int)*1) t)->Vals ((List.range' b m).map λk:Nat=>V.int (i+k)) l:=by
  intro l
  induction l with
  |nil=>intro b m F _;subst F;exact .nil
  |cons x r ih =>
   intro b m F J;subst F;rw[aB,List.range'_succ,ay];refine .cons ?_ (ih (b+1) r.length rfl λj v e=>?_)
   .obtain⟨t,e⟩:=J 0 x rfl;refine⟨t,?_⟩;rw[e];simp
   .obtain⟨t,I⟩:=J (j+1) v e;refine⟨t,?_⟩;rw[I,show b+1+j=b+(j+1) by lia]
 have:=L acc.toList 0 n (by simpa using h1) (λj v e=>by
  obtain⟨t,I⟩:=h2 j v (by simpa using e)
  exact⟨t,by rw[I];simp⟩)
 rwa [<-List.range_eq_range']at this
def tLR (ta:TA):TE:=λσ H Q=>ta σ H λvs H1=>∃i j:Int,vs=[.int i,.int j]/\(-(2 ^ 40)<=i/\i<2 ^ 40/\-(2 ^ 40)<=j/\j<2 ^ 40)/\(j-i).toNat<=1000000/\∀q,H1 q=none->Q (.ref q) (upd H1 q (.lst ((List.range (j-i).toNat).map λk:Nat=>V.int (i+k))))
theorem Jh {X:Cx}{a b:Expr}{ta:TA}{p1 pos1 p2 pos2:Pos}(hc:X.calm=true)(hgl:Gl X "list")(hml:X.mg "list" = none)(hg:Gl X "range")(hm:X.mg "range" = none)(ha:PA X [a,b] ta)
  (hs:autoParam (starEach [a,b] X.env=[(false,eval a X.env),(false,eval b X.env)]) aU4._auto_1) (hs2:autoParam (starEach [b] X.env=[(false,eval b X.env)]) aU4._auto_1) (hs3:autoParam (starEach [(.Call (.Name "range" p1) [a,b] [] pos1)] X.env=[(false,eval (.Call (.Name "range" p1) [a,b] [] pos1) X.env)]) aU4._auto_1) :
  PE X (.Call (.Name "list" p2) [.Call (.Name "range" p1) [a,b] [] pos1] [] pos2) (tLR ta):=by
 intro pins s σ H Q I h;refine bJ (u3 I hgl hml cR ?_);refine bt (e:=.Call (.Name "range" p1) [a,b] [] pos1) (rest:=[]) ?_ hs3 rfl;rw[hs3];show wpAny _ _ (spliced ((false,eval (.Call (.Name "range" p1) [a,b] [] pos1) X.env)::[])) _ _ s;refine dG ?_;refine Call_ (u3 I hg hm boot_range (bt (thn (ha pos1 pins s σ H _ I h) λus s1 ⟨vs,H1,I1,r1,J⟩=>?_) (by rw[hs,hs2]) (by rw[hs2];rfl)));obtain⟨i,j,e,⟨J,q2,q3,q4⟩,q5,q⟩:=J;subst e;cases r1 with
 |cons r rr =>
  cases rr with
  |cons r' rr =>
   cases rr;obtain⟨t,rfl⟩:=r;obtain⟨t',rfl⟩:=r';refine call_range_2 (dS ?_);have F:Inv X pins σ H1 { s1 with heap:=s1.heap.push { cls:=.type "range",data:=.fields #[.int i t,.int j t',.int 1 s1.toks] },toks:=s1.toks+1 }:=I1.kept λb o e=>ac _ e;refine call_list_range (n:=(j-i).toNat) (F.ok.hd hc) (IsRange.new ..) (small_one ⋯ ⋯ ⋯ ⋯) (rangeSize_nat _ _) ⋯ λh' tk Z U L e S=>?_;have O:((List.range (j-i).toNat).map λk:Nat=>V.int (i+k)).length<=sizeLine:=by
    rw[ah,aL];have:(1000000:Nat)<sizeLine:=by decide
    lia
   exact⟨.ref _,_,F.laid (t':=tk) L (af _) (show ObjOk X.prog X.w _ h' _ (.lst _) from ⟨O,Z.toList,U,qk5 S,by simpa using e⟩),rfl,q _ (F.hok.fresh (af _))⟩
end L2
namespace L2
open PySem PySem.Spec PyProof.Rows
structure FunD (K:Aa)(x:Str)(st:Stmt)(f:Aj)(fd:Ad):Prop where
 ex:∃(oc:Ag) (od:Option Aj) (T:Aj) (kV doc pm:Ag) (an:Option Aj) (cdv ct:Ag) (osl:Array (Option Ag)),
  fd=W.fnOf x x (v1 st) (vw st) (wg st) (.ref T) kV doc pm an cdv ct/\K.lookup f=some ⟨oc,od,.func fd,osl⟩/\W.codeIn K cdv x=true/\∃o n,K.lookup T=some o/\o.data=.seq #[.none] n
 kp:W.keepIn K (.ref f)=true
structure DefInD (K:Aa)(x:Str)(st:Stmt):Prop where
 ex:∃f fd,W.nsIn K mainGlobals x=some (some (.ref f))/\FunD K x st f fd
section
variable {P:Ac}{w:Ah}{K:Aa}{mg:Str->Option Ag}{base:Heap}
theorem wz6 {x:Str}{st:Stmt}{f T:Aj}{oc:Ag}{od an:Option Aj}{osl:Array (Option Ag)}{kV doc pm cdv ct:Ag}(a:W.nsIn K mainGlobals x=some (some (.ref f)))
  (l:K.lookup f=some ⟨oc,od,.func (W.fnOf x x (v1 st) (vw st) (wg st) (.ref T) kV doc pm an cdv ct),osl⟩) (c:W.codeIn K cdv x=true) (k:W.keepIn K (.ref f)=true) {tc:Ag} {td:Option Aj} {tn:Nat} {ts:Array (Option Ag)} (t:K.lookup T=some ⟨tc,td,.seq #[.none] tn,ts⟩):DefInD K x st:=⟨_,_,a,⟨oc,od,T,kV,doc,pm,an,cdv,ct,osl,rfl,l,c,_,_,t,rfl⟩,k⟩
theorem FunD.okX {x:Str}{st:Stmt}{f:Aj}{fd:Ad}{N ps:List Str}{k:Nat}{sp:Sp}(F:FunD K x st f fd)(S:FnScope N ps (wg st))(len:∀vs H Q E,sp vs H Q E->vs.length=ps.length)
  (body:∀(cdv:Ag) (A:Ae) (outer:List Env) (s:Ab) (H:Hp) (vs:List V) (Q:VK) (E:XK),Room k (A.deeper (envOfC x (wg st) s.heap.objs.size f cdv))->sp vs H Q E ->
   ∃t,PSs (Q7 (CXE P w) P w K mg base N x (wg st) f cdv A outer s H E) (vw st) t/\t { nx:=λ_ H'=>Q .non H',rt:=Q } (Qu N vs) H):FnOk P w K mg base (CXE P w) (k+1) f fd ps sp:=by
 obtain⟨oc,od,T,kV,ad,U,an,cdv,ct,Z,rfl,I,O,_⟩:=F.ex;exact fn_of I O S len λA outer s H vs Q E L J=>body cdv A outer s H vs Q E L J
def Qr (x:Str)(st:Stmt)(ps:List Str)(ds:List Ag):Prop:=∀(T:Aj) (kV doc pm:Ag) (an:Option Aj) (cdv ct:Ag) (us:List Ag),(us++ds).length=ps.length ->
 ∃kk,bindArgs (W.fnOf x x (v1 st) (vw st) (wg st) (.ref T) kV doc pm an cdv ct) ⟨us,[]⟩=seqItems? (.ref T) >>= kk/\kk (some #[.none])=pure (ps.zip (us++ds))
structure CalD (P:Ac)(w:Ah)(K:Aa)(mg:Str->Option Ag)(base:Heap)(x:Str)(k:Nat)(sp:Sp):Prop where
 ex:∃f fd ps,mg x=some (.ref f)/\FnOk P w K mg base (CXE P w) k f fd ps sp/\W.keepIn K (.ref f)=true/\Binds K fd ps []/\Binds K fd ps [.none]
theorem FunD.binds {x:Str}{st:Stmt}{f:Aj}{fd:Ad}{ps:List Str}{ds:List Ag}(F:FunD K x st f fd)(b:Qr x st ps ds):Binds K fd ps ds:=by obtain⟨oc,od,T,kV,U,J,an,cdv,Z,ad,rfl,lk,ap,o,n,S,O⟩:=F.ex;intro s I X L;obtain⟨kk,h1,h2⟩:=b T kV U J an cdv Z I L;exact W.binds_K X rfl S O h1 h2
theorem DefInD.cal {x:Str}{st:Stmt}{ps:List Str}{k:Nat}{sp:Sp}{h:Heap}(d:DefInD K x st)(KX:K.In h)(G:h.Ns mainGlobals mg)(b:Qr x st ps [])(b':Qr x st ps [.none])(ok:∀f fd,FunD K x st f fd->FnOk P w K mg base (CXE P w) k f fd ps sp):CalD P w K mg base x k sp:=by obtain⟨f,fd,a,F⟩:=d.ex;exact⟨f,fd,ps,az KX G a,ok f fd F,F.kp,F.binds b,F.binds b'⟩
theorem CalD.all {x:Str}{k:Nat}{sp:Sp}(c:CalD P w K mg base x k sp):Cal P w K mg base x k sp:=by obtain⟨f,fd,ps,h1,h2,h3,h4,_⟩:=c.ex;exact⟨f,fd,ps,h1,h2,h3,h4⟩
end
section
variable {X:Cx}{x:Str}{k:Nat}{sp:Sp}{E:St->XK}{p pos:Pos}{e:Expr}{es:List Expr}{t:TA}
end
end L2
namespace L2
open PySem PySem.Spec PyProof.Rows
section
variable {κ:Type}[DecidableEq κ]
def wt (kvs:List (κ×V))(k:κ):Option V:=(kvs.find? λkv=>decide (kv.1=k)).map (·.2)
def vj (kvs:List (κ×V))(k:κ)(v:V):List (κ×V) :=
 if(kvs.any λkv=>decide (kv.1=k))=true then kvs.map (λkv=>if kv.1=k then(kv.1,v) else kv) else kvs++[(k,v)]
def yp (kvs:List (κ×V))(k:κ):List (κ×V):=kvs.filter λkv=>decide (kv.1≠k)
theorem zy {p:κ×V}{r:List (κ×V)}{k:κ}(e:p.1=k):wt (p::r) k=some p.2:=by simp[wt,cm,e]
theorem x8 {p:κ×V}{r:List (κ×V)}{k:κ}(e:¬ p.1=k):wt (p::r) k=wt r k:=by simp[wt,cm,e]
theorem js (k:κ):∀kvs:List (κ×V),(kvs.any λkv=>decide (kv.1=k))=(wt kvs k).isSome
 |[]=>rfl
 |p::r=>by
  rw[dh];by_cases e:p.1=k
  .simp only[zy e,bv e,Bool.true_or,Option.isSome_some]
  .rw[x8 e,aP e,Bool.false_or];exact js k r
theorem qvs (k j:κ)(y:V):∀kvs:List (κ×V),wt (kvs.map λkv=>if kv.1=k then(kv.1,y) else kv) j=(wt kvs j).map λx=>if j=k then y else x
 |[]=>rfl
 |p::r=>by
  have ih:=qvs k j y r;rw[ay];by_cases h:p.1=k
  .rw[ao h];by_cases e:p.1=j
   .rw[zy (p:=(p.1,y)) e,zy e,cn,ao (e.symm.trans h)]
   .rw[x8 (p:=(p.1,y)) e,x8 e,ih]
  .rw[ak h];by_cases e:p.1=j
   .rw[zy (p:=p) e,zy e,cn,ak (λz=>h (e.trans z))]
   .rw[x8 (p:=p) e,x8 e,ih]
theorem qq1 (k j:κ)(y:V):∀kvs:List (κ×V),wt kvs k=none->wt (kvs++[(k,y)]) j=if j=k then some y else wt kvs j
 |[],_=>by
  by_cases e:k=j
  .rw[ao e.symm];exact zy (p:=(k,y)) e
  .rw[ak (λz=>e z.symm)];exact x8 (p:=(k,y)) e
 |p::r,hn=>by
  rw[List.cons_append];have hk:¬ p.1=k:=λz=>by rw[zy z]at hn;cases hn
  rw[x8 hk]at hn;have ih:=qq1 k j y r hn;by_cases e:p.1=j
  .rw[zy e,zy e,ak (λz=>hk (e.trans z))]
  .rw[x8 e,x8 e,ih]
theorem ww4 (kvs:List (κ×V))(k j:κ)(y:V):wt (vj kvs k y) j=if j=k then some y else wt kvs j:=by
 unfold vj;by_cases a:(kvs.any λF=>decide (F.1=k))=true
 .rw[ao a,qvs];rw[js]at a;by_cases e:j=k
  .obtain⟨x,I⟩:=cH.mp a;rw[ao e,e,I,cn,ao rfl]
  .rw[ak e];cases wt kvs j with
   |none=>rfl
   |some x=>rw[cn,ak e]
 .rw[ak a];refine qq1 k j y kvs ?_;rw[js]at a;cases q:wt kvs k with
  |none=>rfl
  |some x=>rw[q]at a;exact(a rfl).elim
theorem km (kvs:List (κ×V))(k:κ)(v:V):(vj kvs k v).length<=kvs.length+1:=by
 unfold vj;split
 .rw[ah];lia
 .rw[aX,aB,bp];lia
theorem qz2 {kvs:List (κ×V)}{k:κ}(v:V)(h:wt kvs k=none):vj kvs k v=kvs++[(k,v)]:=by unfold vj;rw[js,h];exact ak ⋯
theorem RelO.isSome_eq {o:Option V}{u:Option Ag}(r:RelO o u):o.isSome=u.isSome:=by
 cases o with
 |none=>cases u with
  |none=>rfl
  |some _=>exact(show False from r).elim
 |some _=>cases u with
  |none=>exact(show False from r).elim
  |some _=>rfl
theorem RelO.getD {o:Option V}{u:Option Ag}{d:V}{d':Ag}(r:RelO o u)(rd:RelV d d'):RelV (o.getD d) (u.getD d'):=by
 cases o with
 |none=>cases u with
  |none=>exact rd
  |some _=>exact(show False from r).elim
 |some _=>cases u with
  |none=>exact(show False from r).elim
  |some _=>exact r
theorem KV.val {kvs:List (κ×V)}{vs:List (κ×Ag)}(r:KV kvs vs)(k:κ):RelO (wt kvs k) (valueAt vs k):=by
 unfold KV at r
 induction r with
 |nil=>exact True.intro
 |@cons p q ps qs h t ih =>
  obtain⟨h1,h2⟩:=h;by_cases e:p.1=k
  .have F:q.1=k:=h1.symm.trans e;have b:valueAt (q::qs) k=some q.2:=by simp[valueAt,cm,F]
   rw[zy e,b];exact h2
  .have F:¬ q.1=k:=λz=>e (h1.trans z);have b:valueAt (q::qs) k=valueAt qs k:=by simp[valueAt,cm,F]
   rw[x8 e,b];exact ih
theorem KV.any {kvs:List (κ×V)}{vs:List (κ×Ag)}(r:KV kvs vs)(k:κ):(kvs.any λkv=>decide (kv.1=k))=vs.any λkv=>decide (kv.1=k):=by
 unfold KV at r
 induction r with
 |nil=>rfl
 |cons h t ih=>rw[dh,dh,ih,h.1]
theorem KV.repl {kvs:List (κ×V)}{vs:List (κ×Ag)}(r:KV kvs vs)(k:κ){y:V}{u:Ag}(ry:RelV y u) :
  KV (kvs.map λkv=>if kv.1=k then(kv.1,y) else kv) (vs.map λkv=>if kv.1=k then(kv.1,u) else kv):=by
 unfold KV at r ⊢
 induction r with
 |nil=>exact .nil
 |@cons p q ps qs h t ih =>
  rw[ay,ay];refine .cons ?_ ih;obtain⟨h1,h2⟩:=h;by_cases e:p.1=k
  .rw[ao e,ao (h1.symm.trans e)];exact⟨h1,ry⟩
  .rw[ak e,ak (λz=>e (h1.trans z))];exact⟨h1,h2⟩
theorem KV.put {kvs:List (κ×V)}{vs:List (κ×Ag)}(r:KV kvs vs)(k:κ){y:V}{u:Ag}(ry:RelV y u):KV (vj kvs k y) (stored vs k u):=by
 unfold vj stored;rw[r.any k];by_cases e:(vs.any λF=>decide (F.1=k))=true
 .rw[ao e,ao e];exact r.repl k ry
 .rw[ak e,ak e];exact Paired.snoc r ⟨rfl,ry⟩
theorem KV.drop {kvs:List (κ×V)}{vs:List (κ×Ag)}(r:KV kvs vs)(k:κ):KV (yp kvs k) (without vs k):=by
 unfold KV at r ⊢;unfold yp without
 induction r with
 |nil=>exact .nil
 |@cons p q ps qs h t ih =>
  obtain⟨h1,h2⟩:=h;rw[bE,bE];by_cases e:p.1=k
  .have a:¬ decide (p.1≠k)=true:=by simp[e]
   have b:¬ decide (q.1≠k)=true:=by simp[h1.symm.trans e]
   rw[ak a,ak b];exact ih
  .have F:¬ q.1=k:=λz=>e (h1.trans z);have a:decide (p.1≠k)=true:=by simp[e]
   have b:decide (q.1≠k)=true:=by simp[F]
   rw[ao a,ao b];exact .cons ⟨h1,h2⟩ ih
theorem KV.length {kvs:List (κ×V)}{vs:List (κ×Ag)}(r:KV kvs vs):kvs.length=vs.length:=bu r
theorem qv2 (kvs:List (κ×V))(k:κ):(yp kvs k).length<=kvs.length:=cV _ _
end
theorem Qg {P:Ac}{w:Ah}{k:Key}{u:Ag}(r:RelV (kV k) u):(xm P w).is k u=true:=by
 cases k with
 |inl i=>obtain⟨t,e⟩:=(show ∃t,u=Value.int i t from r);subst e;exact qv9 P w i t
 |inr x=>obtain⟨t,e⟩:=(show ∃t,u=Value.str x t from r);subst e;exact qv4 P w x t
theorem qqm {P:Ac}{w:Ah}:∀ {ks:List Key} {us:List Ag},Vals (ks.map kV) us->ItemsAre (xm P w) ks us
 |[],_,r=>by rw[bj]at r;cases r;exact .nil
 |k::ks,_,r=>by
  rw[ay]at r;cases r with
  |cons h t=>exact .cons (Qg h) (qqm t)
abbrev KT (H:Hp):List (List Key×V)->List (List Key×Aj×Ag)->Prop:=Paired λp q=>p.1=q.1/\H q.2.1=some (.tup (p.1.map kV))/\RelV p.2 q.2.2
theorem KT.val {H:Hp}{kvs:List (List Key×V)}{xs:List (List Key×Aj×Ag)}(r:KT H kvs xs)(k:List Key):RelO (wt kvs k) ((atKey xs k).map (·.2)):=by
 induction r with
 |nil=>exact True.intro
 |@cons p q ps qs h t ih =>
  obtain⟨h1,_,h2⟩:=h;by_cases e:p.1=k
  .have F:q.1=k:=h1.symm.trans e;have b:atKey (q::qs) k=some q.2:=by simp[atKey,cm,F]
   rw[zy e,b];exact h2
  .have F:¬ q.1=k:=λz=>e (h1.trans z);have b:atKey (q::qs) k=atKey qs k:=by simp[atKey,cm,F]
   rw[x8 e,b];exact ih
theorem KT.repl {H:Hp}{kvs:List (List Key×V)}{xs:List (List Key×Aj×Ag)}(r:KT H kvs xs)(k:List Key){y:V}{u:Ag}(ry:RelV y u) :
  KT H (kvs.map λkv=>if kv.1=k then(kv.1,y) else kv) (xs.map (putAt k u)):=by
 induction r with
 |nil=>exact .nil
 |@cons p q ps qs h t ih =>
  rw[ay,ay];refine .cons ?_ ih;obtain⟨h1,h2,F⟩:=h;unfold putAt;by_cases e:p.1=k
  .rw[ao e,ao (h1.symm.trans e)];exact⟨h1,h2,ry⟩
  .rw[ak e,ak (λz=>e (h1.trans z))];exact⟨h1,h2,F⟩
theorem KT.put {H:Hp}{kvs:List (List Key×V)}{xs:List (List Key×Aj×Ag)}(r:KT H kvs xs)(k:List Key){b:Aj}{y:V}{u:Ag}(hb:H b=some (.tup (k.map kV)))(ry:RelV y u) :
  KT H (vj kvs k y) (storedH xs k b u):=by
 have e:(kvs.any λF=>decide (F.1=k))=(atKey xs k).isSome:=by rw[js,(r.val k).isSome_eq,dW]
 unfold vj storedH;rw[e];by_cases q:(atKey xs k).isSome=true
 .rw[ao q,ao q];exact r.repl k ry
 .rw[ak q,ak q];exact Paired.snoc r ⟨rfl,hb,ry⟩
theorem KT.keeps {H H':Hp}{kvs:List (List Key×V)}{xs:List (List Key×Aj×Ag)}(r:KT H kvs xs)(ht:∀b ys,H b=some (.tup ys)->H' b=some (.tup ys)):KT H' kvs xs :=
 Paired.mapP r λ_ _ z=>⟨z.1,ht _ _ z.2.1,z.2.2⟩
section
variable {P:Ac}{w:Ah}{H:Hp}{h:Heap}{a:Aj}
theorem rd_of {u:HO}(ok:HOk P w H h)(e:Rd H a u):ObjOk P w H h a u:=e.ok ok
theorem Wm {kvs:List (Key×V)}(ok:HOk P w H h)(e:Rd H a (.dK kvs)):kvs.length<=sizeLine/\(a==sysModules)=false/\∃vs,KV kvs vs/\h.DictOf (xm P w) a vs :=
 show ObjOk P w H h a (.dK kvs) from rd_of ok e
theorem qqs {kvs:List (Key×V)}(ok:HOk P w H h)(e:H a=some (.dK kvs)):kvs.length<=sizeLine/\(a==sysModules)=false/\∃vs,KV kvs vs/\h.DictOf (xm P w) a vs:=Wm ok (.inl e)
theorem uy {ks:List Key}(ok:HOk P w H h)(e:H a=some (.tup (ks.map kV))):(tupleKind (xm P w)).is h ks a:=by obtain⟨_,F,r,o,h1,h2,n,I⟩:=(show ObjOk P w H h a (.tup (ks.map kV)) from ok a _ e);exact⟨o,F.toArray,n,h1,h2,I,by simpa using qqm r⟩
theorem Y7 {kvs:List (List Key×V)}(ok:HOk P w H h)(e:Rd H a (.dT kvs)):kvs.length<=sizeLine/\(a==sysModules)=false /\
  ∃xs,KT H kvs xs/\h.DictOfH (tupleKind (xm P w)) a xs:=by
 obtain⟨z,y,xs,r,o,es,O,h1,h2,L,J,I⟩:=(show ObjOk P w H h a (.dT kvs) from rd_of ok e);refine⟨z,y,xs,r,o,es,O,h1,h2,L,J,λx F=>?_,I⟩;have S:∀ {l:List (List Key×V)} {m:List (List Key×Aj×Ag)},KT H l m->∀x∈m,(tupleKind (xm P w)).is h x.1 x.2.1:=by
  intro l m q
  induction q with
  |nil=>intro x F;exact nomatch F
  |@cons p q ps qs hq t ih =>
   intro x F;rcases av.mp F with e|F
   .subst e;exact uy ok (by rw[<-hq.1];exact hq.2.1)
   .exact ih x F
 exact S r x F
theorem dt_of {kvs:List (List Key×V)}(ok:HOk P w H h)(e:H a=some (.dT kvs)):kvs.length<=sizeLine/\(a==sysModules)=false /\
  ∃xs,KT H kvs xs/\h.DictOfH (tupleKind (xm P w)) a xs:=Y7 ok (.inl e)
end
def DGet (H:Hp)(a:Aj)(y:V)(r:Option V):Prop :=
 (∃kvs k,Rd H a (.dK kvs)/\y=kV k/\r=wt kvs k)\/∃kvs k b,Rd H a (.dT kvs)/\y=.ref b/\H b=some (.tup (k.map kV))/\r=wt kvs k
def DPut (H:Hp)(a:Aj)(y v:V)(H':Hp):Prop :=
 (∃kvs k,H a=some (.dK kvs)/\y=kV k/\kvs.length<sizeLine/\H'=upd H a (.dK (vj kvs k v))) \/
 ∃kvs k b,H a=some (.dT kvs)/\y=.ref b/\H b=some (.tup (k.map kV))/\kvs.length<sizeLine/\H'=upd H a (.dT (vj kvs k v))
theorem DGet.k {H:Hp}{a:Aj}{kvs:List (Key×V)}{k:Key}(e:H a=some (.dK kvs)):DGet H a (kV k) (wt kvs k):=.inl ⟨kvs,k,.inl e,rfl,rfl⟩
theorem DPut.k {H:Hp}{a:Aj}{kvs:List (Key×V)}{k:Key}{v:V}(e:H a=some (.dK kvs))(hl:kvs.length<sizeLine):DPut H a (kV k) v (upd H a (.dK (vj kvs k v))):=.inl ⟨kvs,k,e,rfl,hl,rfl⟩
section
variable {X:Cx}{pins:List (Aj×Obj)}{σ:St}{H:Hp}{s:Ab}{a:Aj}{y v:V}{u r:Ag}{o:Option V}{A:Ae}{E:Ag->Ab->Prop}
theorem Inv.big (I:Inv X pins σ H s):sysModules<s.heap.objs.size:=by have h:mainGlobals<s.heap.objs.size:=(I.mod.glob.keeps I.bk).lt;exact aV ⋯ h
theorem quy {Q:Ag->Ab->Prop}(hu:A.units+1<cLine)(I:Inv X pins σ H s)(g:DGet H a y (some v))(ry:RelV y u)(h:∀w' s',Inv X pins σ H s'->RelV v w'->Q w' s') :
  wpAny (model X.prog X.w) A (getItem (.ref a) u) Q E s:=by
 rcases g with⟨kvs,k,e,O,l⟩|⟨kvs,k,b,e,O,eb,l⟩
 .subst O;obtain⟨z,Z,vs,J,dd⟩:=Wm I.hok e;obtain⟨w',L,F⟩:=RelO.some_of (v:=v) (o:=valueAt vs k) (by rw[l];exact J.val k);exact wpAny_getItem_of (Qg ry) dd.mapOf L (h w' _ (I.tok _) F)
 .subst O;cases(show u=Value.ref b from ry);obtain⟨z,Z,xs,J,dd⟩:=Y7 I.hok e;obtain⟨w',L,F⟩:=RelO.some_of (v:=v) (o:=(atKey xs k).map (·.2)) (by rw[l];exact J.val k);obtain⟨p,U,S⟩:=Option.map_eq_some_iff.mp L;refine wpAny_getItem_heap (ce hu) (uy I.hok eb) dd U ?_;rw[S];exact h w' _ (I.tok _) F
theorem zgl {Q:Ag->Ab->Prop}(hu:A.units+1<cLine)(I:Inv X pins σ H s)(g:DGet H a y o)(ry:RelV y u)(h:∀s',Inv X pins σ H s'->Q (.bool o.isSome) s') :
  wpAny (model X.prog X.w) A (compareOp .In u (.ref a)) Q E s:=by
 rcases g with⟨kvs,k,e,L,l⟩|⟨kvs,k,b,e,L,O,l⟩
 .subst L;obtain⟨z,J,vs,F,dd⟩:=Wm I.hok e;refine wpAny_in_of (Qg ry) J dd.mapOf ?_;rw[<- (F.val k).isSome_eq,<-l];exact h _ (I.tok _)
 .subst L;cases(show u=Value.ref b from ry);obtain⟨z,J,xs,F,dd⟩:=Y7 I.hok e;refine wpAny_in_heap (ce hu) (uy I.hok O) J dd ?_;have q:=(F.val k).isSome_eq;rw[dW]at q;rw[<-q,<-l];exact h _ (I.tok _)
theorem wv9 {Q:Ag->Ab->Prop}(hu:A.units+1<cLine)(I:Inv X pins σ H s)(g:DGet H a y o)(ry:RelV y u)(h:∀s',Inv X pins σ H s'->Q (.bool (!o.isSome)) s') :
  wpAny (model X.prog X.w) A (compareOp .NotIn u (.ref a)) Q E s:=by
 rcases g with⟨kvs,k,e,L,l⟩|⟨kvs,k,b,e,L,O,l⟩
 .subst L;obtain⟨z,J,vs,F,dd⟩:=Wm I.hok e;refine wpAny_notIn_of (Qg ry) J dd.mapOf ?_;rw[<- (F.val k).isSome_eq,<-l];exact h _ (I.tok _)
 .subst L;cases(show u=Value.ref b from ry);obtain⟨z,J,xs,F,dd⟩:=Y7 I.hok e;refine wpAny_notIn_heap (ce hu) (uy I.hok O) J dd ?_;have q:=(F.val k).isSome_eq;rw[dW]at q;rw[<-q,<-l];exact h _ (I.tok _)
theorem y1 {h':Heap}{t':Nat}{ob:HO}(I:Inv X pins σ H s)(mu:Mut (H a))(hs:Heap.SameBut a s.heap h')(he:∃q,h'.get? a=some q)(new:ObjOk X.prog X.w (upd H a ob) h' a ob) :
  Inv X pins σ (upd H a ob) { s with heap:=h',toks:=t' } :=
 I.write (x:=a) (e:=a) mu (.inl rfl) (λb q hb z=>(hs.2 b hb).trans z) he new
theorem Jy {P:Ac}{w:Ah}{H':Hp}{h':Heap}{kvs:List (Key×V)}{vs:List (Key×Ag)}(z:kvs.length<=sizeLine)(hd:(a==sysModules)=false)(rel:KV kvs vs)(dd:h'.DictOf (xm P w) a vs) :
  ObjOk P w H' h' a (.dK kvs):=⟨z,hd,vs,rel,dd⟩
theorem qud {H':Hp}{Q:Unit->Ab->Prop}(hu:A.units+1<cLine)(I:Inv X pins σ H s)(g:DPut H a y v H')(ry:RelV y u)(rv:RelV v r)(h:∀s',Inv X pins σ H' s'->Q () s') :
  wpAny (model X.prog X.w) A (setItem (.ref a) u r) Q E s:=by
 rcases g with⟨kvs,k,e,Z,l,eH⟩|⟨kvs,k,b,e,Z,eb,l,eH⟩
 .subst Z eH;obtain⟨z,U,vs,F,dd⟩:=qqs I.hok e;have O:vs.length<=sizeLine:=by rw[<-F.length];exact z
  have S:(vj kvs k v).length<=sizeLine:=by have:=km kvs k v;lia
  refine wpAny_setItem_pairs (hsz:=O) (Qg ry) dd λh' L hs=>h _ ?_;have he:∃q,h'.get? a=some q:=let ⟨q,_,_,J,_⟩:=L;⟨q,J⟩;exact y1 I (by rw[e];exact True.intro) hs he (Jy S U (F.put k rv) L)
 .subst Z eH;cases(show u=Value.ref b from ry);obtain⟨z,U,xs,F,dd⟩:=dt_of I.hok e;have O:xs.length<=sizeLine:=by rw[<-bu F];exact z
  have S:(vj kvs k v).length<=sizeLine:=by have:=km kvs k v;lia
  refine wpAny_setItem_heap (hsz:=O) (ce hu) (uy I.hok eb) dd λh' L hs=>h _ ?_;obtain⟨q,es,ep,J,h2,h3,h4,_,h5⟩:=L;refine y1 I (by rw[e];exact True.intro) hs ⟨q,J⟩ ⟨S,U,_,(F.put k eb rv).keeps λc ys ec=>?_,q,es,ep,J,h2,h3,h4,h5⟩;rw[wf (ne_of ec e (λz=>nomatch z))];exact ec
end
section
variable {X:Cx}{pins:List (Aj×Obj)}{σ:St}{H:Hp}{s:Ab}{a:Aj}{kvs:List (Key×V)}{k:Key}{u:Ag}{A:Ae}{E:Ag->Ab->Prop}
theorem wqx {Q:Unit->Ab->Prop}(I:Inv X pins σ H s)(e:H a=some (.dK kvs))(ry:RelV (kV k) u)(l:(wt kvs k).isSome=true)(h:∀s',Inv X pins σ (upd H a (.dK (yp kvs k))) s'->Q () s') :
  wpAny (model X.prog X.w) A (delItem (.ref a) u) Q E s:=by
 obtain⟨z,U,vs,J,dd⟩:=qqs I.hok e;refine wpAny_delItem_slot dd.typeIs ⋯ dO
  (eM dO dd.typeIs PySem.F.entry_dict_delitem (PySem.F.args_dict_delitem_2 _ _) (meets_dict_delitem_pairs (xm X.prog X.w) a (Qg ry)) ⟨vs,dd,by rw[<-J.length];exact z,by rw[<- (J.val k).isSome_eq];exact l,λh' L hs=>h _ ?_⟩)
 have S:∃q,h'.get? a=some q:=let ⟨q,_,_,O,_⟩:=L;⟨q,O⟩;exact y1 I (by rw[e];exact True.intro) hs S (Jy (aQ (qv2 kvs k) z) U (J.drop k) L)
end
def NoSl (i:Expr):Prop:=∀ov iv,subscripted i false ov iv=operate [ov,iv] (getItem ov iv)
theorem wvz {prog:Ac}{w:Ah}{A:Ae}{E:Ag->Ab->Prop}{s:Ab}{env:Env}{value slice:Expr}{pos:Pos}{T id:String}{Q:Ag->Ab->Prop}
  (hl:typeLookup (.type T) "__getitem__" = pure (some (.builtin id))) (hs:NoSl slice)
  (h:wpAny (model prog w) A (eval value env) (λo s₁=>wpAny (model prog w) A (eval slice env) (λi s₂=>s₂.TypeIs o T/\wpAny (model prog w) A (getItem o i) Q E s₂) E s₁) E s) :
  wpAny (model prog w) A (eval (.Subscript value slice pos) env) Q E s:=by
 refine Subscript_ (aG h (λo s₁ S=>aG S (λi s₂ F=>?_) λ_ _ x=>x) λ_ _ x=>x);obtain⟨L,F⟩:=F;unfold subscriptTail;refine aa ?_;rw[getitemInPython_of_ne L.not_modules];refine aa (wpAny_specialOf L hl ?_);have I:wpAny (model prog w) A (subscripted slice false o i) (λr J=>wpAny (model prog w) A (letTemporaryGo value o r >>= λ_=>pure r) Q E J) E s₂:=by rw[hs o i];exact wpAny_operating (aG F (λr J O=>aa (wpAny_letTemporaryGo (ag O))) λ_ _ x=>x)
 first
  |exact ag (aa I)
  |exact aa (ag (aa I))
  |exact aa I
theorem qzu {X:Cx}{pins:List (Aj×Obj)}{σ:St}{H:Hp}{s:Ab}{a:Aj}{y:V}{o:Option V}(I:Inv X pins σ H s)(g:DGet H a y o):s.TypeIs (.ref a) "dict" := by
 rcases g with⟨kvs,k,e,_,_⟩|⟨kvs,k,b,e,_,_,_⟩
 .obtain⟨_,_,vs,_,dd⟩:=Wm I.hok e;exact dd.typeIs
 .obtain⟨_,_,xs,_,dd⟩:=Y7 I.hok e;exact dd.typeIs
def tDGet (td ty:TE):TE:=λσ H Q=>td σ H λx H1=>ty σ H1 λy H2=>∃a v,x=.ref a/\DGet H2 a y (some v)/\Q v H2
def tDIn (ty td:TE):TE:=λσ H Q=>ty σ H λy H1=>td σ H1 λx H2=>∃a o,x=.ref a/\DGet H2 a y o/\Q (.bl o.isSome) H2
def wvc (ty td:TE):TE:=λσ H Q=>ty σ H λy H1=>td σ H1 λx H2=>∃a o,x=.ref a/\DGet H2 a y o/\Q (.bl (!o.isSome)) H2
def sDPut (td ty tv:TE):TS:=λD σ H=>tv σ H λv H1=>td σ H1 λx H2=>ty σ H2 λy H3=>∃a H4,x=.ref a/\DPut H3 a y v H4/\D.nx σ H4
def sDDel (td ty:TE):TS:=λD σ H=>td σ H λx H1=>ty σ H1 λy H2=>∃a kvs k,x=.ref a/\H2 a=some (.dK kvs)/\y=kV k/\(wt kvs k).isSome=true/\D.nx σ (upd H2 a (.dK (yp kvs k)))
section
variable {X:Cx}{o i e value:Expr}{pos pos' tpos:Pos}{td ty tv:TE}
theorem qx2 (hu:X.A.units+1<cLine)(ho:PE X o td)(hi:PE X i ty)(hs:NoSl i):PE X (.Subscript o i pos) (tDGet td ty):=by intro pins s σ H Q I h;refine wvz PySem.F.slot_dict_getitem.lookup hs (thn (ho pins s σ H _ I h) λu s1 ⟨x,H1,I1,rx,q1⟩=>thn (hi pins s1 σ H1 _ I1 q1) λiv s2 ⟨y,H2,I2,ry,a,v,ex,g,q2⟩=>?_);subst ex;obtain rfl:u=Value.ref a:=rx;exact⟨qzu I2 g,quy hu I2 g ry λO S L J=>⟨v,H2,L,J,q2⟩⟩
theorem pc_din (hu:X.A.units+1<cLine)(hi:PE X i ty)(ho:PE X o td):PC X .In i o (tDIn ty td):=by intro pins s σ H Q I h;refine thn (hi pins s σ H _ I h) λiv s1 ⟨y,H1,I1,ry,q1⟩=>thn (ho pins s1 σ H1 _ I1 q1) λu s2 ⟨x,H2,I2,rx,a,ov,ex,g,q2⟩=>?_;subst ex;obtain rfl:u=Value.ref a:=rx;exact zgl hu I2 g ry λJ F=>⟨.bl ov.isSome,H2,F,rfl,q2⟩
theorem qq5 (hu:X.A.units+1<cLine)(hi:PE X i ty)(ho:PE X o td):PC X .NotIn i o (wvc ty td):=by intro pins s σ H Q I h;refine thn (hi pins s σ H _ I h) λiv s1 ⟨y,H1,I1,ry,q1⟩=>thn (ho pins s1 σ H1 _ I1 q1) λu s2 ⟨x,H2,I2,rx,a,ov,ex,g,q2⟩=>?_;subst ex;obtain rfl:u=Value.ref a:=rx;exact wv9 hu I2 g ry λJ F=>⟨.bl (!ov.isSome),H2,F,rfl,q2⟩
theorem wvx (hu:X.A.units+1<cLine)(ho:PE X o td)(hi:PE X i ty)(hv:PE X value tv)(hs:swapsWith value (some (.Subscript o i pos')) pos.line X.env=pure false) :
  PS X (.Assign [.Subscript o i pos'] value pos) (sDPut td ty tv):=by
 intro pins s σ H D I h;refine wpAny_Assign_Subscript (thn (hv pins s σ H _ I h) λr s1 ⟨v,H1,I1,rv,q1⟩=>thn (ho pins s1 σ H1 _ I1 q1) λu s2 ⟨x,H2,I2,rx,q2⟩=>thn (hi pins s2 σ H2 _ I2 q2) λiv s3 ⟨y,H3,I3,ry,a,H4,ex,g,q3⟩=>?_) hs;subst ex;obtain rfl:u=Value.ref a:=rx;exact qud hu I3 g ry rv λJ F=>⟨σ,H4,F,q3⟩
theorem wz8 (ho:PE X o td)(hi:PE X i ty):PS X (.Delete [.Subscript o i tpos] pos) (sDDel td ty):=by intro pins s σ H D I h;refine wpAny_Delete (wpAny_deleteEach_cons (wpAny_delete_Subscript (thn (ho pins s σ H _ I h) λu s1 ⟨x,H1,I1,rx,q1⟩=>thn (hi pins s1 σ H1 _ I1 q1) λiv s2 ⟨y,H2,I2,ry,a,kvs,k,ex,e,ey,l,q2⟩=>?_)));subst ex ey;obtain rfl:u=Value.ref a:=rx;exact wqx I2 e ry l λJ F=>wpAny_deleteEach_nil ⟨σ,_,F,q2⟩
end
theorem qvf {P:Ac}{w:Ah}{H:Hp}(h:Heap)(hb:sysModules<h.objs.size):ObjOk P w H (h.push { cls:=.type "dict",data:=.dict #[] }) h.objs.size (.dK []) :=
 ⟨aD _,aM.mpr (ba (ar hb)),[],.nil,Heap.DictOf.new h⟩
theorem wqp {P:Ac}{w:Ah}{H:Hp}(h:Heap)(hb:sysModules<h.objs.size):ObjOk P w H (h.push { cls:=.type "dict",data:=.dict #[] }) h.objs.size (.dT []) :=
 ⟨aD _,aM.mpr (ba (ar hb)),[],.nil,_,#[],0,aj _ rfl,⟨rfl,rfl,rfl⟩,rfl,rfl,bi⟩
def tDNewK:TE:=λ_ H Q=>∀p,H p=none->Q (.ref p) (upd H p (.dK []))
section
variable {X:Cx}{pos:Pos}
theorem Qp:PE X (.Dict [] [] pos) tDNewK:=λpins s σ H Q I h =>
 wpAny_Dict_empty ⟨.ref s.heap.objs.size,_,I.laid (a:=s.heap.objs.size) (o:=.dK []) (t':=s.toks) (λ_ _ q=>ac _ q) (af _) (qvf s.heap I.big),rfl,h _ (I.hok.fresh (af _))⟩
end
end L2
namespace L2
open PySem PySem.Spec PyProof.Rows
def qjd:List (TE×TE)->St->Hp->(List (V×V)->Hp->Prop)->Prop
 |[],_,H,Q=>Q [] H
 |(tk,tv)::r,σ,H,Q=>tk σ H λx H1=>tv σ H1 λy H2=>qjd r σ H2 λps H3=>Q ((x,y)::ps) H3
abbrev VV:List (V×V)->List (Ag×Ag)->Prop:=Paired λp q=>RelV p.1 q.1/\RelV p.2 q.2
def PPs (X:Cx)(pos:Pos)(keys:List (Option Expr))(values:List Expr)(trs:List (TE×TE)):Prop :=
 ∀(pins:List (Aj×Obj)) (s:Ab) (σ:St) (H:Hp) (Q:List (V×V)->Hp->Prop),Inv X pins σ H s->qjd trs σ H Q ->
  wpAny (model X.prog X.w) X.A (evalPairs (pairTrees keys values X.env pos)) (λvs s'=>∃ps H',Inv X pins σ H' s'/\VV ps vs/\Q ps H') X.xe s
theorem qj3 {X:Cx}{pos:Pos}:PPs X pos [] [] []:=λpins s σ H Q I h=>pairTrees_nil_walk ⟨[],H,I,.nil,h⟩
theorem qvg {X:Cx}{pos:Pos}{k v:Expr}{ks:List (Option Expr)}{vs:List Expr}{tk tv:TE}{trs:List (TE×TE)}(hk:PE X k tk)(hv:PE X v tv)(hr:PPs X pos ks vs trs) :
  PPs X pos (some k::ks) (v::vs) ((tk,tv)::trs):=λpins s σ H Q I h =>
 pairTrees_cons_walk (thn (hk pins s σ H _ I h) λu s1 ⟨x,H1,I1,rx,q1⟩=>thn (hv pins s1 σ H1 _ I1 q1) λw2 s2 ⟨y,H2,I2,ry,q2⟩ =>
  thn (hr pins s2 σ H2 _ I2 q2) λws s3 ⟨ps,H3,I3,rel,q3⟩=>⟨(x,y)::ps,H3,I3,.cons ⟨rx,ry⟩ rel,q3⟩)
def Yz (kvs more:List (Key×V)):List (Key×V):=more.foldl (λacc kv=>vj acc kv.1 kv.2) kvs
theorem KV.merge:∀ {more:List (Key×V)} {rs:List (Key×Ag)} {kvs:List (Key×V)} {vs:List (Key×Ag)},KV more rs->KV kvs vs->KV (Yz kvs more) (merged vs rs):=by
 intro more rs kvs vs r;unfold KV at r
 induction r generalizing kvs vs with
 |nil=>intro q;exact q
 |@cons p q ps qs h t ih =>
  intro F;have e:KV (vj kvs p.1 p.2) (stored vs q.1 q.2):=by have:=F.put p.1 h.2;rw[<-h.1];exact this
  exact ih e
theorem ux:∀(more kvs:List (Key×V)),(Yz kvs more).length<=kvs.length+more.length
 |[],kvs=>by show kvs.length<=kvs.length+0;lia
 |p::r,kvs=>by have h1:=ux r (vj kvs p.1 p.2);have h2:=km kvs p.1 p.2;show(Yz (vj kvs p.1 p.2) r).length<=_;rw[aB];lia
theorem Yk {P:Ac}{w:Ah}:∀ {kvs:List (Key×V)} {ws:List (Ag×Ag)},VV (kvs.map λkv=>(kV kv.1,kv.2)) ws->∃rs,Carries (xm P w) ws rs/\KV kvs rs
 |[],_,r=>by rw[bj]at r;cases r;exact⟨[],True.intro,.nil⟩
 |p::kvs,_,r=>by
  rw[ay]at r;cases r with
  |@cons a b as bs h t =>
   obtain⟨rs,c,q⟩:=Yk (P:=P) (w:=w) t;obtain⟨b1,b2⟩:=b;exact⟨(p.1,b2)::rs,⟨Qg h.1,rfl,c⟩,.cons ⟨rfl,h.2⟩ q⟩
def tDisp (trs:List (TE×TE)):TE:=λσ H Q=>∀p,H p=none->qjd trs σ (upd H p (.dK [])) λps H2=>H2 p=some (.dK [])/\∃kvs:List (Key×V),ps=kvs.map (λkv=>(kV kv.1,kv.2))/\kvs.length<=15/\Q (.ref p) (upd H2 p (.dK (Yz [] kvs)))
theorem qyf {X:Cx}{pos:Pos}{keys:List (Option Expr)}{values:List Expr}{trs:List (TE×TE)}(h:PPs X pos keys values trs)(hall:keys.all (·.isSome)=true)(hl:keys.length=values.length)(h0:keys≠[])
  (h15:keys.length<=15):PE X (.Dict keys values pos) (tDisp trs):=by
 intro pins s σ H Q I q;have Z:=I.hok.fresh (af s.heap.objs.size);have I1:=I.laid (a:=s.heap.objs.size) (o:=.dK []) (h':=s.heap.push { cls:=.type "dict",data:=.dict #[] }) (t':=s.toks) (λ_ _ q=>ac _ q) (af _) (qvf s.heap I.big);refine wpAny_Dict_walk (knd:=xm X.prog X.w) hall hl h0 h15 (thn (h pins _ σ _ _ I1 (q _ Z)) λws s2 ⟨ps,H2,I2,rel,e,kvs,ep,lk,q2⟩=>?_);subst ep;obtain⟨J,c,L⟩:=Yk (P:=X.prog) (w:=X.w) rel;obtain⟨z,hd,ad,O,dd⟩:=qqs I2.hok e;cases O;refine⟨J,c,dd,λh' F hs=>⟨.ref s.heap.objs.size,_,?_,rfl,q2⟩⟩;have S:(Yz [] kvs).length<=sizeLine:=by have h1:=ux kvs [];rw[bp]at h1;rw[sizeLine_eq];lia
 have he:∃q,h'.get? s.heap.objs.size=some q:=let ⟨q,_,_,U,_⟩:=F;⟨q,U⟩;exact y1 I2 (by rw[e];exact True.intro) hs he (Jy S hd (L.merge .nil) F)
structure M1 (X:Cx)(o:Expr)(m:Str)(apos:Pos)(e:Expr)(cpos:Pos):Prop where
 base:attributeBase o m X.env (eval o X.env)=eval o X.env
 few:((backTo cpos (starEach [e] X.env)).all (λx=>!x.1)&&(backToKw cpos (keywordEach [] X.env)).all (λx=>x.1.isSome)
  && decide (([e]:List Expr).length+([]:List Keyword).length+(if([]:List Keyword).isEmpty then 0 else 1)<30))=true
 line:(apos.endLine==cpos.line)=true
 trees:backTo cpos (starEach [e] X.env)=[(false,eval e X.env)]
structure M2 (X:Cx)(o:Expr)(m:Str)(apos:Pos)(e f:Expr)(cpos:Pos):Prop where
 base:attributeBase o m X.env (eval o X.env)=eval o X.env
 few:((backTo cpos (starEach [e,f] X.env)).all (λx=>!x.1)&&(backToKw cpos (keywordEach [] X.env)).all (λx=>x.1.isSome)
  && decide (([e,f]:List Expr).length+([]:List Keyword).length+(if([]:List Keyword).isEmpty then 0 else 1)<30))=true
 line:(apos.endLine==cpos.line)=true
 trees:backTo cpos (starEach [e,f] X.env)=[(false,eval e X.env),(false,eval f X.env)]
def IsD (H:Hp)(a:Aj):Prop:=(∃kvs,Rd H a (.dK kvs))\/∃kvs,Rd H a (.dT kvs)
theorem wxb {X:Cx}{pins:List (Aj×Obj)}{σ:St}{H:Hp}{s:Ab}{a:Aj}(I:Inv X pins σ H s)(d:IsD H a) :
  s.TypeIs (.ref a) "dict" /\ (∀b,Value.ref a=.ref b->∃ob,s.heap.get? b=some ob/\ob.dict=none)/\(a==sysModules)=false:=by
 rcases d with⟨kvs,e⟩|⟨kvs,e⟩
 .obtain⟨_,F,vs,_,dd⟩:=Wm I.hok e;refine⟨dd.typeIs,λb q=>?_,F⟩;cases q;obtain⟨ob,_,_,h1,h2,_⟩:=dd;exact⟨ob,h1,h2.2.1⟩
 .obtain⟨_,F,xs,_,dd⟩:=Y7 I.hok e;refine⟨dd.typeIs,λb q=>?_,F⟩;cases q;obtain⟨ob,_,_,h1,h2,_⟩:=dd;exact⟨ob,h1,h2.2.1⟩
section
variable {X:Cx}{pins:List (Aj×Obj)}{σ:St}{H:Hp}{s:Ab}{a:Aj}{y d:V}{u r:Ag}{o:Option V}{A:Ae}{E:Ag->Ab->Prop}
theorem zgm {Q:Ag->Ab->Prop}(hu:A.units+1<cLine)(I:Inv X pins σ H s)(g:DGet H a y o)(ry:RelV y u)(h:∀w' s',Inv X pins σ H s'->RelV (o.getD .non) w'->Q w' s') :
  wpAny (model X.prog X.w) A (call (.builtin "dict.get") [.ref a,u]) Q E s:=by
 rcases g with⟨kvs,k,e,O,l⟩|⟨kvs,k,b,e,O,S,l⟩
 .subst O;obtain⟨z,L,vs,J,dd⟩:=Wm I.hok e;refine eM cW dd.typeIs PySem.F.entry_dict_get (eo _ _) (meets_dict_get (xm X.prog X.w) a (Qg ry) L) ⟨_,dd.mapOf,h _ _ (I.tok _) ?_⟩;rw[l];exact(J.val k).getD rfl
 .subst O;cases(show u=Value.ref b from ry);obtain⟨z,L,xs,J,dd⟩:=Y7 I.hok e;refine eM cW dd.typeIs PySem.F.entry_dict_get (eo _ _) (meetsH_dict_get (tupleKind (xm X.prog X.w)) a b L) ⟨ce hu,k,xs,uy I.hok S,dd,h _ _ (I.tok _) ?_⟩;rw[l];exact(J.val k).getD rfl
end
def tDGet1 (td ty:TE):TE:=λσ H Q=>td σ H λx H1=>∃a,x=.ref a/\IsD H1 a/\ty σ H1 λy H2=>∃o,DGet H2 a y o/\Q (o.getD .non) H2
section
variable {X:Cx}{o e f:Expr}{apos cpos:Pos}{td ty tx:TE}
theorem wq3 (hu:X.A.units+1<cLine)(ho:PE X o td)(he:PE X e ty)(m:M1 X o "get" apos e cpos):PE X (.Call (.Attribute o "get" apos) [e] [] cpos) (tDGet1 td ty):=by intro pins s σ H Q I h;refine wpAny_Call_method m.base m.few m.line eA cW PySem.F.type_dict_get (thn (ho pins s σ H _ I h) λu s1 ⟨x,H1,I1,rx,a,ex,d,q1⟩=>?_);subst ex;obtain rfl:u=Value.ref a:=rx;obtain⟨L,J,_⟩:=wxb I1 d;refine⟨L,J,?_⟩;rw[m.trees];refine cP rfl (cy (dG (thn (he pins s1 σ H1 _ I1 q1) λiv s2 ⟨y,H2,I2,ry,ov,g,q2⟩=>dS ?_)));exact zgm hu I2 g ry λU Z S O=>⟨_,H2,S,O,q2⟩
end
section
variable {X:Cx}{pins:List (Aj×Obj)}{σ:St}{H:Hp}{s:Ab}{a:Aj}{kvs:List (Key×V)}{A:Ae}{E:Ag->Ab->Prop}
end
section
variable {X:Cx}{pins:List (Aj×Obj)}{σ:St}{H:Hp}{s:Ab}{a:Aj}{y:V}{u:Ag}{A:Ae}{E:Ag->Ab->Prop}
end
end L2
namespace L2
open PySem PySem.Spec PyProof.Rows
theorem wwj {M:Model}{A:Ae}{E:Ag->Ab->Prop}{s:Ab}{scope:Scope}{globals:Aj}{cl:List (Str×Aj)}{qual:Str}{func:Option Aj}{code:Ag}{outer:Env}{builtins:Aj}{x:Str}{Q:Env->Ab->Prop}(hk:scope.kind=.function)
  (hcf:cellsFrom (s.heap.objs.size+1) scope.names cl=(x,s.heap.objs.size+1)::cl) (hpc:pushCells (s.heap.push { cls:=.type "dict",data:=.dict #[] }) scope.names=(s.heap.push { cls:=.type "dict",data:=.dict #[] }).push { cls:=.type "cell",data:=.cell none })
  (hQ:Q (newEnv scope s.heap.objs.size globals ((x,s.heap.objs.size+1)::cl) qual func code (some outer) builtins) { s with heap:=(s.heap.push { cls:=.type "dict",data:=.dict #[] }).push { cls:=.type "cell",data:=.cell none } }) :
  wpAny M A (newFunctionEnv scope globals cl [] qual func code (some outer) builtins) Q E s:=by
 simp only[newFunctionEnv,Option.isSome_some,dU];refine aa (wpAny_alloc ?_);refine aa (wpAny_layCells _ (λname kind F=>by cases hkc:kind==NameKind.cell <;> simp[hkc]) _ _ _ _ ?_);rw[show({ s with heap:=s.heap.push { cls:=.type "dict",data:=.dict #[] } }:Ab).heap.objs.size=s.heap.objs.size+1 from aU ..,hcf,hpc];exact aa (ag (ag hQ))
def HasAllK (x:Str)(cl:List (Str×Aj)):List (Str×NameKind)->Prop
 |[]=>True
 |(n,k)::r=>(k=.free->∃c,cl.lookup n=some c)/\(k=.cell->n=x)/\HasAllK x cl r
theorem qvd {x y:Str}{c:Aj}{cl:List (Str×Aj)}(h:∃d,cl.lookup y=some d):∃d,((x,c)::cl).lookup y=some d:=by
 rw[aC];cases y==x with
 |true=>exact⟨c,rfl⟩
 |false=>exact h
theorem HasAllK.has {x:Str}{c:Aj}{cl:List (Str×Aj)}{env:Env}:∀ {ns:List (Str×NameKind)},HasAllK x cl ns->∀ {y:Str} {q:NameKind},q=.cell\/q=.free ->
  (ns.map λ(n,k)=>if(k==NameKind.free&&env.scope.kind==.function&&env.kindOf n==some .cell) then(n,NameKind.cell) else(n,k)).lookup y=some q->∃d,((x,c)::cl).lookup y=some d
 |[],_,_,_,_,e=>by cases e
 |(n,k)::r,h,y,q,hq,e=>by
  have ih:=HasAllK.has (c:=c) (env:=env) h.2.2 (y:=y) hq;rw[ay]at e;by_cases hc:(k==NameKind.free&&env.scope.kind==.function&&env.kindOf n==some .cell)=true
  .have e':=e;dsimp only at e';rw[ao hc,aC]at e';cases hb:y==n with
   |true =>
    rw[aO,aO]at hc;rw[eq_of_beq hb];exact qvd (h.1 (eq_of_beq hc.1.1))
   |false =>
    rw[hb]at e';exact ih e'
  .have e':=e;dsimp only at e';rw[ak hc,aC]at e';cases hb:y==n with
   |true =>
    rw[hb]at e';have ek:k=q:=al e';rw[eq_of_beq hb];rcases hq with rfl|rfl
    .rw[h.2.1 ek];exact⟨c,by rw[aC,eB]⟩
    .exact qvd (h.1 ek)
   |false =>
    rw[hb]at e';exact ih e'
abbrev jd (X:Cx)(scope:Scope)(cl:List (Str×Aj))(x:Str)(c:Aj)(M:List Nat)(C:Aj)(s2:Ab)(H2:Hp)(fp:List Aj)(pn:List (Aj×Obj)):Cx :=
 { X with N:=ym X x M,s₀:=s2,H₀:=H2,env:=compEnvC scope ((x,c)::cl) C X.env,outer:=X.stack,ex:=fp,fn:=λy=>y==x,pn:=pn,xe:=λ_ _=>False }
section
variable {X:Cx}{pins:List (Aj×Obj)}{σ:St}{H:Hp}{s2:Ab}{scope:Scope}{cl:List (Str×Aj)}{x:Str}{c:Aj}{M:List Nat}{fp:List Aj}{C:Aj}{h1:Heap}{tk:Nat}
theorem Inv.compK (I:Inv X pins σ H s2)(hc:CapAll X.env cl)(hh:HasAllK x cl scope.names)(hm:CapIx X scope cl M)(hk:scope.kind=.function)(hnd:(ym X x M).Nodup)(hC:s2.heap.objs.size<C)(hcC:C<c)(hcl:h1.IsCell c none)
  (keep:∀b o,s2.heap.get? b=some o->h1.get? b=some o) (hn:h1.Ns C λ_=>none) (hD:h1.get? s2.heap.objs.size=some { cls:=.type "list",data:=.seq #[] 0 })
  (hfp:∀b∈fp,jq X pins H b) (hob:∀b∈fp,∃o,s2.heap.get? b=some o) :
  Inv (jd X scope cl x c M C s2 H fp (X.pn++pins)) [] (zg M σ none) (upd H s2.heap.objs.size (.lst [])) { s2 with heap:=h1,toks:=tk }:=by
 have a5:=I.hok.fresh (a:=s2.heap.objs.size) (af _);have o:=I.ok;have S:∀y c,cl.lookup y=some c->X.env.cells.lookup y=some c:=λy c e=>hc.look e;have O:∀y d,((x,c)::cl).lookup y=some d->(y=x/\d=c)\/(y≠x/\cl.lookup y=some d):=λy d e=>by
  rw[aC]at e;cases F:y==x with
  |true =>
   rw[F]at e;exact .inl ⟨eq_of_beq F,(al e).symm⟩
  |false =>
   rw[F]at e;exact .inr ⟨λz=>by rw[z]at F;simp at F,e⟩
 have ap:∀y d,cl.lookup y=some d->d<s2.heap.objs.size:=λy d e=>by obtain⟨v,ob,J,L⟩:=I.cell y d (S y d e);exact ae J
 have Z:s2.heap.objs.size<c:=aV hC hcC;have a0:∀b∈fp,b<s2.heap.objs.size:=λb F=>by obtain⟨ob,e⟩:=hob b F;exact ae e
 have a2:∀b∈fp,b∉frs X.stack:=λb F z=>by
  rcases av.mp (I.stkSub b z) with z|z
  .exact(hfp b F).2.1 z
  .exact(hfp b F).2.2.1 z
 have a6:H C=none:=I.hok.fresh (aZ hC);refine⟨⟨o.mod,hk,o.glob,o.blt,aZ hC,λy z d J L=>?_,λy hy=>?_,λy d z e=>?_,o.hd,o.frames,.inl rfl,λb F=>⟨ar (aV (a0 b F) hC),λy d e=>?_⟩,
  λb ob e=>I.bs b ob e,aQ o.bsz I.sz,λb ob e z=>?_,a2,I.stack,I.stkFree⟩,rfl,I.bare,?_,?_,λy d e=>?_,?_,λy d e=>?_,λp hp=>?_,?_,?_⟩
 .rcases O y d J with⟨U,h1⟩|⟨U,h1⟩ <;> rcases O z d L with⟨a1,h2⟩|⟨a1,h2⟩
  .exact U.trans a1.symm
  .exact absurd (ap z d h2) (by rw[h1];exact Nat.not_lt_of_gt Z)
  .exact absurd (ap y d h1) (by rw[h2];exact Nat.not_lt_of_gt Z)
  .exact o.inj y z d (S y d h1) (S z d h2)
 .rcases hy with hy|hy
  .exact hh.has (.inl rfl) hy
  .exact hh.has (.inr rfl) hy
 .rcases O y d e with⟨_,h1⟩|⟨U,h1⟩
  .rw[h1];exact aZ Z
  .exact absurd (eq_of_beq z) U
 .rcases O y d e with⟨_,h1⟩|⟨U,h1⟩
  .rw[h1];exact(ar (aV (a0 b F) Z)).symm
  .exact(hfp b F).2.2.2.2.1 y d (S y d h1)
 .obtain⟨J,L⟩:=I.bs b ob e;exact(hfp b z).2.2.2.1.elim (λq=>o.noex b ob e q) λq=>by have:=o.bs b ob e;exact aS _ (aw (ae this.1) q)
 .exact(Un.laid (fs:=frs X.stack) (ex:=fp) (o:=.lst []) keep (af _) a5)
 .refine⟨_,hn,λi z v J L e3=>?_⟩;cases i with
  |zero=>cases L
  |succ k =>
   have ad:(M.map λj=>X.N.getD j Str.empty)[k]?=some z:=J;have an:(M.map λj=>(σ[j]?).join)[k]?=some (some v):=L;rw[aI]at ad an;cases hj:M[k]? with
   |none=>rw[hj]at ad;cases ad
   |some j =>
    rw[hj]at ad an;obtain⟨y,d,f1,f2,f3,f4⟩:=hm.get hj;have ez:X.N.getD j Str.empty=z:=al ad;rw[am,f1]at ez;have a8:y=z:=ez;subst a8;have nx:y≠x:=λz=>by have h0:=List.nodup_iff_pairwise_ne.mp hnd;have h1:x∉M.map λj=>X.N.getD j Str.empty:=λa4=>(List.pairwise_cons.mp h0).1 x a4 rfl;refine h1 (aF.mpr ⟨j,bh hj,?_⟩);rw[am,f1,<-z];rfl
    have a7:((x,c)::cl).lookup y=some d:=by rw[aC,show(y==x)=false from aM.mpr nx];exact f4
    have ev:(σ[j]?).join=some v:=al an;have a9:σ[j]?=some (some v):=by
     cases hs:σ[j]? with
     |none=>rw[hs]at ev;cases ev
     |some w' =>
      rw[hs]at ev;have:w'=some v:=ev;rw[this]
    obtain⟨m,bf,hl⟩:=I.loc;obtain⟨u,r,l⟩:=hl j y v f1 a9 (.inr (.inl f2));refine⟨u,r,.inr ⟨.inl f3,d,a7,?_⟩⟩;rcases l with⟨O,_⟩|⟨_,c',lc,li⟩
    .have:X.env.scope.names.lookup y=some .local:=O;rw[f2]at this;cases this
    .rw[S y d f4]at lc;have:=al lc;subst this;exact li.keeps keep
 .rcases O y d e with⟨_,rfl⟩|⟨U,h1⟩
  .exact⟨none,hcl⟩
  .obtain⟨v,hv⟩:=I.cell y d (S y d h1);exact⟨v,hv.keeps keep⟩
 .show upd H s2.heap.objs.size (.lst []) C=none;rw[wf (bX hC)];exact a6
 .show upd H s2.heap.objs.size (.lst []) d=none;rcases O y d e with⟨_,rfl⟩|⟨U,h1⟩
  .rw[wf (ar Z).symm];exact I.hok.fresh (aZ Z)
  .obtain⟨v,ob,J,L⟩:=I.cell y d (S y d h1);rw[wf (ar (ae J))];exact I.freeC y d (S y d h1)
 .have a3:p∈X.pn++pins:=(bA.mp hp).elim (λz=>z) λz=>nomatch z;obtain⟨J,L,e3,e4,e5⟩:=I.pin p a3;refine⟨keep _ _ J,?_,ar (aV (ae J) hC),λz=>?_,e5⟩
  .rw[wf (ar (ae J))];exact L
  .rcases av.mp (I.stkSub p.1 z) with z|z
   .exact e3 z
   .exact e4 z
 .exact I.hok.laid keep (af _) ⟨aD _,[],0,.nil,hD⟩
 .show(none::M.map λj=>(σ[j]?).join).length=(x::M.map λj=>X.N.getD j Str.empty).length;rw[aB,aB,ah,ah]
theorem Inv.uncompK {pins':List (Aj×Obj)}{σ':St}{H':Hp}{s':Ab}{h':Heap}(I:Inv X pins σ H s2)(hC:s2.heap.objs.size<=C)(hfp:∀b∈fp,jq X pins H b)
  (J:Inv (jd X scope cl x c M C s2 H fp (X.pn++pins)) pins' σ' H' s') (hs:Heap.SameBut C s'.heap h'):Inv X pins σ H' { s' with heap:=h' }:=by
 have F:=J.base;have S:∀b o,s2.heap.get? b=some o->b≠C:=λb o e=>ar (aw (ae e) hC);have st:∀b o,b≠C->s'.heap.get? b=some o->h'.get? b=some o:=λb o n e=>(hs.2 b n).trans e;refine I.call' (s':={ s' with heap:=h' }) (ch:=fp) J.os ⟨λb o e n nb L=>st b o (S b o e) (F.keep b o e n nb L),λb o e n an L=>?_,F.free,λb o e L=>?_,F.tups,F.frzs,F.tbls⟩ ?_ J.bare λb ad=>?_
 .obtain⟨sl,Z⟩:=F.slot b o e n an L;exact⟨sl,st b _ (S b o e) Z⟩
 .obtain⟨o',Z⟩:=F.there b o e L;exact⟨o',st b _ (S b o e) Z⟩
 .intro b u U;have fr:H' C=none:=J.free;refine(J.hok b u U).stay (λc v O e=>st c v ?_ e) (λ_ z=>z) λ_ _ z=>z;rcases O with rfl|O
  .intro z;rw[z,fr]at U;cases U
  .intro z;rw[z,fr]at O;cases O
 .obtain⟨q1,q2,q3,q4,q5,q6⟩:=hfp b ad;exact⟨q4,q2,q5,q6⟩
end
section
variable {X:Cx}{elt iter:Expr}{x:Str}{px pos:Pos}{scope:Scope}{cl:List (Str×Aj)}{M:List Nat}{wi:TI}{te:TE}
theorem quj (hc:X.calm=true)(hclos:closureFor scope X.env=pure cl)(hcap:CapAll X.env cl)(hhas:HasAllK x cl scope.names)(hix:CapIx X scope cl M)(hk:scope.kind=.function)
  (hnames:∀y∈scope.names,y.2=.local->scope.names.lookup y.1=some .local) (hcf:∀n,cellsFrom n scope.names cl=(x,n)::cl) (hpc:∀h,pushCells h scope.names=h.push { cls:=.type "cell",data:=.cell none }) (hx:(relabel scope X.env).names.lookup x=some .cell) (hnd:(ym X x M).Nodup) (hi:PI X (.Name x px) iter wi)
  (he:∀C s2 H2 fp pn,PE (jd X scope cl x (C+1) M C s2 H2 fp pn) elt te) (hs:∀z,foldedSetIterable iter X.env z=pure z)
  {use:Option (Ag->Sem Unit)} {QQ:Ag->Ab->Prop} {pins:List (Aj×Obj)} {s:Ab} {σ:St} {H:Hp} {Q:VK} {ps:Pos} (I:Inv X pins σ H s) (h:wi σ H λJ H1=>uv J M te σ H1 Q)
  (fin:∀(C:Aj) (s2 s4:Ab) (H1 H2:Hp) (fp:List Aj),Inv X pins σ H1 s2->s2.heap.objs.size<C->(∀b∈fp,jq X pins H1 b)->Inv (jd X scope cl x (C+1) M C s2 H1 fp (X.pn++pins)) [] (zg M σ none) H2 s4->Q (.ref s2.heap.objs.size) H2 ->
   compPost (model X.prog X.w) X.A X.xe use QQ (.ref s2.heap.objs.size) C (.ok .next) s4) :
  wpAny (model X.prog X.w) X.A (comprehension (.ListComp elt [⟨.Name x px,iter,[],0⟩] scope pos) scope X.env ps (newList []) false (eval iter X.env) use) QQ X.xe s:=by
 refine cJ (use:=use) rfl hs hclos hk hnames ?_;refine thn (hi pins s σ H _ I h) λv s1 h1=>thn h1 λa7 s2 h2=>?_;obtain⟨it,fp,tn,J,H1,rfl,U,T,t0,S,hR⟩:=h2;have a0:∀b∈fp,∃o,s2.heap.get? b=some o/\∀v,o.data≠.cell v:=T.obj 0 _ t0;obtain⟨W,⟨m0,w0⟩,hW⟩:=hR s2.heap.objs.size (U.hok.fresh (af _));refine bb ?_;refine wwj (x:=x) hk (hcf _) (hpc _) ?_;dsimp only;generalize hH2:s2.heap.push { cls:=.type "list",dict:=none,data:=.seq ([]:List Ag).toArray }=G2;have hC:G2.objs.size=s2.heap.objs.size+1:=by rw[<-hH2,aU]
 have O:s2.heap.objs.size<G2.objs.size:=by lia
 have Z:∀b o,G2.get? b=some o->((G2.push { cls:=.type "dict",data:=.dict #[] }).push { cls:=.type "cell",data:=.cell none }).get? b=some o:=λb o e=>ac _ (ac _ e);have a2:((G2.push { cls:=.type "dict",data:=.dict #[] }).push { cls:=.type "cell",data:=.cell none }).IsCell (G2.objs.size+1) none:=⟨_,by rw[show G2.objs.size+1=(G2.push { cls:=.type "dict",data:=.dict #[] }).objs.size from (aU ..).symm];exact aj _ rfl,rfl⟩;have a1:((G2.push { cls:=.type "dict",data:=.dict #[] }).push { cls:=.type "cell",data:=.cell none }).Ns G2.objs.size λ_=>none:=(Heap.Ns.new G2 (.type "dict")).keeps λb o e=>ac _ e;generalize (G2.push { cls:=.type "dict",data:=.dict #[] }).push { cls:=.type "cell",data:=.cell none }=h3 at Z a2 a1;have ap:∀b o,s2.heap.get? b=some o->h3.get? b=some o:=λb o e=>Z b o (hH2▸ac _ e);have hD:h3.get? s2.heap.objs.size=some { cls:=.type "list",data:=.seq #[] 0 }:=Z _ _ (hH2▸aj _ rfl);have J0:∀tk,Inv (jd X scope cl x (G2.objs.size+1) M G2.objs.size s2 H1 fp (X.pn++pins)) [] (zg M σ none) (upd H1 s2.heap.objs.size (.lst [])) { s2 with heap:=h3,toks:=tk }:=λtk =>
  U.compK hcap hhas hix hk hnd O (cB _) a2 ap a1 hD S λb F=>let ⟨o,e,_⟩:=a0 b F;⟨o,e⟩
 have ad:∀b∈fp,b<s2.heap.objs.size:=λb F=>let ⟨o,e,_⟩:=a0 b F;ae e;have a5:∀(H2:Hp),(∀b∈fp,H2 b=none)->∀b∈fp,jq (jd X scope cl x (G2.objs.size+1) M G2.objs.size s2 H1 fp (X.pn++pins)) [] H2 b:=λH2 hn b F=>by
  obtain⟨q1,q2,q3,q4,q5,q6⟩:=S b F;refine⟨hn b F,ar (aV (ad b F) O),λz=>?_,.inl F,λy d e=>?_,λp hp=>q6 p ((bA.mp hp).elim (λz=>z) λz=>nomatch z)⟩
  .rcases av.mp (U.stkSub b z) with z|z
   .exact q2 z
   .exact q3 z
  .have L:((x,G2.objs.size+1)::cl).lookup y=some d:=e;rw[aC]at L;cases hb':y==x with
   |true =>
    rw[hb']at L;have:d=G2.objs.size+1:=(al L).symm;rw[this];exact(ar (aV (aV (ad b F) O) (cB _))).symm
   |false =>
    rw[hb']at L;exact q5 y d (hcap.look L)
 have t3:=T.keep 0 _ _ t0 λb _ o e=>ap b o e;have an:=λtk=>y9 (e:=.ListComp elt [⟨.Name x px,iter,[],0⟩] scope pos) (k:=0) (acc:=.ref s2.heap.objs.size) (Y:=jd X scope cl x (G2.objs.size+1) M G2.objs.size s2 H1 fp (X.pn++pins)) (V:=λi n H2=>∃ys,W i n ys H2) (Qd:=Q (.ref s2.heap.objs.size)) (REST:=appS elt (.ref s2.heap.objs.size) (compEnvC scope ((x,G2.objs.size+1)::cl) G2.objs.size X.env) _) (post:=compPost (model X.prog X.w) X.A X.xe use QQ (.ref s2.heap.objs.size) G2.objs.size) T hc (λ_ _ z=>z) (compTurn_list1 ..) rfl rfl (zc (i:=0) hnd rfl (.inr hx) (.inl (eB x))) a5 (λi n H2 ⟨ys,w⟩=>by
  obtain⟨hp,hz,a4⟩:=hW i n ys H2 w
  refine a4.imp id λ⟨a3,hy⟩=>⟨a3,λv H3 yl=>⟨λσ4 H4=>σ4=zg M σ (some v)/\H3=H4,⟨rfl,rfl⟩,λ_ _ e=>?_⟩⟩
  obtain⟨rfl,rfl⟩:=e
  refine⟨yq M σ v,λa6 s' J=>?_⟩
  exact aG (Ym (N:=λzs H5=>∃m',m'<n/\W (i+1) m' zs H5) (λ_ _ z=>z) (he _ _ _ _ _) J hz (hy v H3 yl)) (λr s5 ⟨e,H5,J5,zs,m',hm,w'⟩=>⟨e,H5,J5,m',hm,zs,w'⟩) λ_ _ z=>z)
  (λH2 s4 J4 q=>fin G2.objs.size s2 s4 H1 H2 fp U O S J4 q) (J0 tk) ⟨[],w0⟩ t3 λb F=>by rw[wf (ar (ad b F))];exact(S b F).1
 exact codeAny_compStart_list (an _) (T.self _ 0 _ _ _ t3 (an _))
theorem Yb (hc:X.calm=true)(hclos:closureFor scope X.env=pure cl)(hcap:CapAll X.env cl)(hhas:HasAllK x cl scope.names)(hix:CapIx X scope cl M)(hk:scope.kind=.function)
  (hnames:∀y∈scope.names,y.2=.local->scope.names.lookup y.1=some .local) (hcf:∀n,cellsFrom n scope.names cl=(x,n)::cl) (hpc:∀h,pushCells h scope.names=h.push { cls:=.type "cell",data:=.cell none }) (hx:(relabel scope X.env).names.lookup x=some .cell) (hnd:(ym X x M).Nodup) (hi:PI X (.Name x px) iter wi)
  (he:∀C s2 H2 fp pn,PE (jd X scope cl x (C+1) M C s2 H2 fp pn) elt te) (hs:autoParam (∀z,foldedSetIterable iter X.env z=pure z) aU3._auto_1) :
  PE X (.ListComp elt [⟨.Name x px,iter,[],0⟩] scope pos) (tComp M wi te):=by
 intro pins s σ H Q I h;rw[eval_ListComp];refine quj hc hclos hcap hhas hix hk hnames hcf hpc hx hnd hi he hs (use:=none) I h λC s2 s4 H1 H2 fp Z S U F L=>?_;obtain⟨m,O,_⟩:=F.loc;exact⟨m,O,λh' J=>⟨.ref s2.heap.objs.size,H2,Z.uncompK (aZ S) U F J,rfl,L⟩⟩
end
end L2
namespace L2
open PySem PySem.Spec PyProof.Rows
theorem wwd {X:Cx}{tg l:Expr}{tl:TE}{K:Aa}(hK:X.K=K)(hl:PE X l tl):PI X tg l (iList K tl):=by subst hK;exact y6 hl
def Stay (G:Nat->V->Hp->Prop):Prop:=∀i v H H' p,G i v H->v≠.ref p->(∀b o,b≠p->H b=some o->H' b=some o)->G i v H'
theorem yu {M:List Nat}{lo:Int}{n:Nat}{te:TE}{σ:St}{H:Hp}{Q:VK}(G:Nat->V->Hp->Prop)(gs:Stay G)(hn:n<=1000000)
  (he:∀(i:Nat) (H':Hp) (R:VK),i<n->Same H H'->(∀v H'',Same H' H''->G i v H''->(∀b,v=.ref b->H' b=none)->R v H'')->te (zg M σ (some (.int (lo+i)))) H' R)
  (k:∀p ys H',H p=none->Same H H'->H' p=some (.lst ys)->ys.length=n->(∀j v,ys[j]?=some v->G j v H'/\v≠.ref p)->Q (.ref p) H'):uv (Itr lo n) M te σ H Q:=by
 intro p np;refine⟨λi m ys H2=>i<=n/\m=n-i/\ys.length=i/\Same H H2/\H2 p=some (.lst ys)/\∀j v,ys[j]?=some v->G j v H2/\v≠.ref p,⟨n,aD _,rfl,rfl,Same.upd np,wj,λj v e=>by cases e⟩,?_⟩;rintro i m ys H2 ⟨hi,rfl,hy,sm,hp,hG⟩;refine⟨hp,?_,?_⟩
 .have:(1000000:Nat)<sizeLine:=by decide
  lia
 .by_cases hlt:i<n
  .refine .inr ⟨hlt,?_⟩;rintro v H3 ⟨rfl,rfl⟩;refine he i _ _ hlt sm λv J F U Z=>⟨F _ _ hp,n-(i+1),⋯,⋯,rfl,by rw[aX,hy];rfl,λb o e=>?_,wj,λj w e=>?_⟩
   .rw[wf (wz e np)];exact F _ _ (sm _ _ e)
   .have L:v≠.ref p:=λz=>by have:=Z p z;rw[hp]at this;cases this
    have st:∀b o,b≠p->J b=some o->upd J p (.lst (ys++[v])) b=some o:=λb o I e=>by rw[wf I];exact e
    rcases(cC j ys.length) with z|z
    .rw[bC z]at e;obtain⟨g,O⟩:=hG j w e;exact⟨gs j w _ _ p g O λb o I e=>st b o I (F b o e),O⟩
    .rw[bg z]at e;have S:j=i:=by
      rcases cC (j-ys.length) 1 with y|y
      .lia
      .rw[aK (by simpa using y)]at e;cases e
     subst S;rw[show j-ys.length=0 by lia]at e;have:v=w:=al e;subst this;exact⟨gs j v J _ p U L st,L⟩
  .have:i=n:=by lia
   subst this;exact .inl ⟨af _,k p ys _ np sm hp hy hG⟩
theorem u6 {K:Aa}{M:List Nat}{a:Aj}{xs:List V}{te:TE}{σ:St}{H:Hp}{Q:VK}(G:Nat->V->Hp->Prop)(gs:Stay G)(hS:SqL K H a xs)(hn:xs.length<=1000000)
  (he:∀(i:Nat) (x:V) (H':Hp) (R:VK),xs[i]?=some x->Same H H'->(∀v H'',Same H' H''->G i v H''->(∀b,v=.ref b->H' b=none)->R v H'')->te (zg M σ (some x)) H' R)
  (k:∀p ys H',H p=none->Same H H'->H' p=some (.lst ys)->ys.length=xs.length->(∀j v,ys[j]?=some v->G j v H'/\v≠.ref p)->Q (.ref p) H'):uv (Itl K a) M te σ H Q:=by
 intro p np;refine⟨λi m ys H2=>i<=xs.length/\m=xs.length-i/\ys.length=i/\Same H H2/\H2 p=some (.lst ys)/\∀j v,ys[j]?=some v->G j v H2/\v≠.ref p,⟨xs.length,aD _,rfl,rfl,Same.upd np,wj,λj v e=>by cases e⟩,?_⟩;rintro i m ys H2 ⟨hi,rfl,hy,sm,hp,hG⟩;have L:SqL K H2 a xs:=Same.sql sm hS;refine⟨hp,?_,?_⟩
 .have:(1000000:Nat)<sizeLine:=by decide
  lia
 .by_cases hlt:i<xs.length
  .have J:xs[i]?=some xs[i]:=ai hlt;refine .inr ⟨⟨xs,_,L,J⟩,?_⟩;rintro v H3 ⟨rfl,hv⟩;have e:=hv xs L;rw[J]at e;have e':=al e;subst e';refine he i _ _ _ J sm λv O F g4 fr=>⟨F _ _ hp,xs.length-(i+1),⋯,⋯,rfl,by rw[aX,hy];rfl,λb o e=>?_,wj,λj w e=>?_⟩
   .rw[wf (wz e np)];exact F _ _ (sm _ _ e)
   .have S:v≠.ref p:=λz=>by have:=fr p z;rw[hp]at this;cases this
    have st:∀b o,b≠p->O b=some o->upd O p (.lst (ys++[v])) b=some o:=λb o I e=>by rw[wf I];exact e
    rcases(cC j ys.length) with z|z
    .rw[bC z]at e;obtain⟨g,U⟩:=hG j w e;exact⟨gs j w _ _ p g U λb o I e=>st b o I (F b o e),U⟩
    .rw[bg z]at e;have hj:j=i:=by
      rcases cC (j-ys.length) 1 with y|y
      .lia
      .rw[aK (by simpa using y)]at e;cases e
     have Z:[v][j-ys.length]?=some w:=by assumption
     subst hj;rw[show j-ys.length=0 by lia]at Z;have:v=w:=al Z;subst this;exact⟨gs j v O _ p g4 S st,S⟩
  .have ad:i=xs.length:=by lia
   subst ad;exact .inl ⟨⟨xs,L,af _⟩,k p ys _ np sm hp hy hG⟩
theorem qk7 {K:Aa}{M:List Nat}{a:Aj}{xs:List V}{te:TE}{σ:St}{H:Hp}{Q:VK}(f:V->V)(hf:∀x b,f x≠.ref b)(hS:SqL K H a xs)(hn:xs.length<=1000000)
  (he:∀(x:V) (H':Hp) (R:VK),x∈xs->Same H H'->(∀H'',Same H' H''->R (f x) H'')->te (zg M σ (some x)) H' R)
  (k:∀p H',H p=none->Same H H'->H' p=some (.lst (xs.map f))->Q (.ref p) H'):uv (Itl K a) M te σ H Q:=by
 refine u6 (λi v _=>∃x,xs[i]?=some x/\v=f x) (λi v H H' p g _ _=>g) hS hn (λi x H' R F s L=>he x H' R (bh F) s λH'' J=>L _ _ J ⟨x,F,rfl⟩ λb e=>absurd e (hf x b)) λp ys H' np s I S O=>?_;have e:ys=xs.map f:=by
  refine cv λj=>?_;rw[aI];cases hj:ys[j]? with
  |none =>
   have:xs[j]?=none:=aK (by have:=dP.mp hj;lia);rw[this];rfl
  |some v =>
   obtain⟨⟨x,F,rfl⟩,_⟩:=O j v hj;rw[F];rfl
 rw[e]at I;exact k p H' np s I
theorem qz7 {M:List Nat}{lo:Int}{n:Nat}{te:TE}{σ:St}{H:Hp}{Q:VK}(f:Nat->V)(hf:∀x b,f x≠.ref b)(hn:n<=1000000)
  (he:∀(i:Nat) (H':Hp) (R:VK),i<n->Same H H'->(∀H'',Same H' H''->R (f i) H'')->te (zg M σ (some (.int (lo+i)))) H' R)
  (k:∀p H',H p=none->Same H H'->H' p=some (.lst ((List.range n).map f))->Q (.ref p) H'):uv (Itr lo n) M te σ H Q:=by
 refine yu (λi v _=>v=f i) (λi v H H' p g _ _=>g) hn (λi H' R hi s L=>he i H' R hi s λH'' I=>L _ _ I rfl λb e=>absurd e (hf i b)) λp ys H' np s F S O=>?_;have e:ys=(List.range n).map f:=by
  refine cv λj=>?_;rw[aI];cases hj:ys[j]? with
  |none =>
   have:n<=j:=by have:=dP.mp hj;lia
   rw[aK (by rw[aL];exact this)];rfl
  |some v =>
   have J:j<n:=by have:=(aT.mp hj).1;lia
   rw[cG J,(O j v hj).1];rfl
 rw[e]at F;exact k p H' np s F
end L2
namespace L2
open PySem PySem.Spec PyProof.Rows
theorem Wc:bootBuiltins "sum" = some (.builtin "sum"):=by decide +kernel
section
variable {X:Cx}{K:Aa}
theorem qzf (hK:X.K=K):IxR X (rIxL K):=by subst hK;exact z7
theorem qqf (hK:X.K=K):kj X (.builtin "len") (λxs H Q=>∃p ys,xs=[.ref p]/\(SqL K H p ys\/SqT K H p ys)/\Q (.int ys.length) H):=by subst hK;exact xn
theorem qwj (ns:List Int):∀n,preSum (λi=>ns.getD i 0) n=(ns.take n).sum
 |0=>by simp[preSum]
 |n+1=>by
  rw[preSum,qwj ns n,List.take_succ];cases e:ns[n]? with
  |none=>simp[am,e]
  |some v=>simp[am,e]
theorem jm (hK:X.K=K)(hc:X.calm=true):kj X (.builtin "sum") (λxs H Q=>∃(p:Aj) (ns:List Int),xs=[.ref p]/\SqL K H p (ns.map V.int)/\Q (.int ns.sum) H):=by
 subst hK;intro pins s σ H xs us Q I r h;obtain⟨p,ns,rfl,hS,q⟩:=h;obtain⟨u,rfl,J⟩:=yn r;cases(show u=Value.ref p from J);obtain⟨F,L,⟨o,n,e1,e2,e3,e4⟩,hz⟩:=I.list hS;have Z:s.heap.IsList p F.toArray:=⟨o,e1,e2,n,e4⟩;have S:p<s.heap.objs.size:=ae e1;have U:F.length=ns.length:=by rw[<-L.length,ah]
 refine call_sum_walkG (dR Z ?_);refine⟨s.heap.objs.size,_,_,_,_,_,λi=>ns.getD i 0,rfl,Walks.list (A:=X.A.in1) (I.ok.hd hc) _ p (ar S) F.toArray,⟨⟨_,aj _ rfl,rfl,rfl⟩,Z.push _⟩,λb hb=>?_,λi v hP=>?_,λh' tk t' hk=>?_⟩
 .rcases av.mp hb with z|z
  .rw[z,aU];exact cB _
  .rw[aH.mp z,aU];exact Nat.lt_succ_of_lt S
 .have O:F[i]?=some v:=by simpa using hP
  have hi:i<(ns.map V.int).length:=by rw[ah,<-U];exact(aT.mp O).1
  obtain⟨u,eu,J⟩:=L.get (i:=i) (ai hi);rw[O]at eu;cases eu;rw[eC]at J;obtain⟨t,rfl⟩:=J;rw[ah]at hi;exact⟨t,by show Value.int ns[i] t=Value.int (ns.getD i 0) t;rw[am,ai hi];rfl⟩
 .have e:preSum (λi=>ns.getD i 0) F.toArray.size=ns.sum:=by rw[qwj,au,U,de]
  rw[e];refine⟨.int _,H,I.kept λb ob e=>hk b ob (λhm=>?_) (ac _ e),⟨t',rfl⟩,q⟩;have z:b=s.heap.objs.size:=by simpa using hm
  exact aS _ (z▸ae e)
end
def jn (n:Nat)(g:Nat->Int):List Int:=(List.range n).map g
theorem qz6 (n:Nat)(g:Nat->Int):(jn n g).length=n:=by unfold jn;rw[ah,aL]
theorem Z5 {n i:Nat}{g:Nat->Int}(h:i<n):(jn n g)[i]?=some (g i):=by unfold jn;rw[aI,cG h];rfl
theorem qz5 (n:Nat)(g:Nat->Int):(jn n g).map V.int=(List.range n).map λi=>V.int (g i):=by unfold jn;rw[bw];rfl
theorem qk6 {n:Nat}{f g:Nat->Int}(h:∀i,i<n->f i=g i):jn n f=jn n g:=bz λi hi=>h i (bd.mp hi)
def MatAt (H:Hp)(p:Aj)(n:Nat)(f:Nat->Nat->Int):Prop:=∃ys,H p=some (.lst ys)/\ys.length=n/\∀i v,ys[i]?=some v->∃q,v=.ref q/\H q=some (.lst ((jn n (f i)).map V.int))
theorem MatAt.same {H H':Hp}{p:Aj}{n:Nat}{f:Nat->Nat->Int}(h:MatAt H p n f)(s:Same H H'):MatAt H' p n f:=by obtain⟨ys,e,l,r⟩:=h;exact⟨ys,s _ _ e,l,λi v z=>let ⟨q,a,b⟩:=r i v z;⟨q,a,s _ _ b⟩⟩
theorem MatAt.row {H:Hp}{p:Aj}{n:Nat}{f:Nat->Nat->Int}(h:MatAt H p n f){ys:List V}(e:H p=some (.lst ys)){i:Nat}(hi:i<n):∃q,ys[i]?=some (.ref q)/\H q=some (.lst ((jn n (f i)).map V.int)):=by obtain⟨I,F,l,r⟩:=h;rw[e]at F;cases F;have z:ys[i]?=some ys[i]:=ai ⋯;obtain⟨q,a,b⟩:=r i _ z;exact⟨q,by rw[z,a],b⟩
def jh (n:Nat)(g:Nat->Int):Int:=(jn n g).sum
theorem jt (n:Nat)(g:Nat->Int):jh (n+1) g=jh n g+g n:=by unfold jh jn;rw[ck,bo,List.sum_append];simp
theorem wzb (n:Nat)(g h:Nat->Int):jh n (λi=>g i+h i)=jh n g+jh n h:=by
 induction n with
 |zero=>rfl
 |succ n ih=>rw[jt,jt,jt,ih];lia
theorem qwz (n:Nat)(g:Nat->Int)(h:∀i,i<n->g i=0):jh n g=0:=by
 induction n with
 |zero=>rfl
 |succ n ih=>rw[jt,ih λi hi=>h i ⋯,h n ⋯];rfl
theorem ur {n:Nat}{g h:Nat->Int}(e:∀i,i<n->g i=h i):jh n g=jh n h:=by unfold jh;rw[qk6 e]
theorem wqc {n i:Nat}(hi:i<n)(g:Nat->Int):jh n (λk=>(if k=i then 1 else 0)*g k)=g i:=by
 induction n with
 |zero=>lia
 |succ n ih =>
  rw[jt];rcases(by lia:i<n\/i=n) with z|z
  .rw[ih z,ak ⋯];lia
  .subst z;rw[ao rfl,qwz _ _ λk F=>by rw[ak ⋯,Int.zero_mul]];lia
theorem qv5 {α:Type}(n:Nat)(F:α->Nat->Int):∀L:List α,(L.map λv=>jh n (F v)).sum=jh n λk=>(L.map λv=>F v k).sum
 |[]=>by rw[bj,List.sum_nil,qwz];intro i _;rfl
 |v::L=>by rw[ay,d6,qv5 n F L,<-wzb];refine ur λk _=>?_;rw[ay,d6]
def yy (cov:Nat->List Int):Nat->Nat->Nat->Int
 |0=>λi j=>if j=i then 1 else 0
 |m+1=>λi j=>((cov i).map λv=>yy cov m v.toNat j).sum
end L2
namespace L2
open PySem PySem.Spec PyProof.Rows
theorem qug {prog:Ac}{w:Ah}{A:Ae}{E:Ag->Ab->Prop}{s:Ab}{l b:Aj}{Q:Ag->Ab->Prop}(h1:s.TypeIs (.ref l) "list")(h2:s.TypeIs (.ref b) "list")
  (h:wpAny (model prog w) A (call (.builtin "list.__iadd__") [.ref l,.ref b]) Q E s):wpAny (model prog w) A (inplaceOp .Add (.ref l) (.ref b)) Q E s:=by
 unfold inplaceOp;refine bn ?_;refine aa (eK h1 ?_);have J:typeLookup (.type "list") (dunderI "add")=pure (some (.builtin "list.__iadd__")):=F.slot_list_iadd.lookup;have I:isSeqSlot (some (.builtin "list.__iadd__"))=true:=by decide +kernel
 have S:fillsInplaceSlot (.type "list") (Operator.Add).info.snd (Operator.Add==Operator.Add)=pure false:=by show fillsInplaceSlot (.type "list") "add" true=pure false;unfold fillsInplaceSlot;show(typeLookup (.type "list") (dunderI "add") >>= λL=>pure (L.isSome&&!isSeqSlot L))=pure false;rw[J];show(pure (true&&!isSeqSlot (some (.builtin "list.__iadd__"))):Sem Bool)=pure false;rw[I];rfl
 rw[S];refine aa (ag ?_);rw[ak aq];refine aa ?_;show wpAny _ _ (binaryOp1 "add" (.ref l) (.ref b)) _ _ s;refine wpAny_binaryOp1_none h1 h2 noFill_list_add ?_;have O:seqSlot? (.type "list") (dunderI "add")=pure (some (.builtin "list.__iadd__")):=by unfold seqSlot?;rw[J];show(if(!isSeqSlot (some (.builtin "list.__iadd__")))=true then(pure none:Sem (Option Ag)) else _)=_;rw[I,ak ⋯];rfl
 show wpAny _ _ (seqSlot? (.type "list") (dunderI "add") >>= _) _ _ s;rw[O];refine aa (ag ?_);exact aa (cM h)
def ipCat:TIp:=λx y H Q=>∃l b xs zs,x=.ref l/\y=.ref b/\H l=some (.lst xs)/\H b=some (.lst zs)/\xs.length+zs.length<=sizeLine/\Q (.ref l) (upd H l (.lst (xs++zs)))
section
variable {X:Cx}
theorem qk8:PIp X .Add ipCat:=by
 intro pins s σ H x y v u Q I Z U h;obtain⟨l,b,xs,zs,rfl,rfl,O,hB,hz,q⟩:=h;cases Z;cases U;obtain⟨z,J,n,r,hl,e⟩:=I.lstM O;obtain⟨z2,L,n2,r2,ap,S⟩:=I.lstM hB;have ad:J.toArray.size+L.toArray.size<=sizeLine:=by rw[au,au];lia
 have an:¬ (!J.toArray.isEmpty&&Builtin.List.listTooLong (J.toArray.size+L.toArray.size))=true:=by rw[wx5 ad,Bool.and_false];exact aq
 refine qug ⟨_,e,rfl⟩ ⟨_,S,rfl⟩ ?_;refine eL F.slot_list_iadd ⟨_,e,rfl⟩ F.entry_list_iadd (F.args_list_iadd_2 _ _)
  (AutoSeq1.list___iadd___list_list_0 l J.toArray n b L.toArray n2 an (by rw[au];lia) ⋯) ⟨e,S,?_⟩
 refine⟨.ref l,_,I.lset (its':=J++L) O e (by simp) (r.append r2) ?_,rfl,q⟩;rw[aX];lia
end
structure Fresh (H H':Hp)(qs:List Aj)(os:List HO):Prop where
 len:qs.length=os.length
 nd:qs.Nodup
 new:∀q∈qs,H q=none
 at_:∀(i:Nat) q o,qs[i]?=some q->os[i]?=some o->H' q=some o
end L2
namespace L2
open PySem PySem.Spec PyProof.Rows
section
variable {X:Cx}{pins:List (Aj×Obj)}{σ:St}{H:Hp}{s:Ab}{h':Heap}{ch:List Aj}
theorem Inv.turnedL {tk:Nat}(I:Inv X pins σ H s)(hk:∀b u,b∉ch->s.heap.get? b=some u->h'.get? b=some u)(hf:∀b∈ch,jq X pins H b):Inv X pins σ H { s with heap:=h',toks:=tk }:=by
 refine I.call' (s':={ s with heap:=h',toks:=tk }) (ch:=ch) rfl ⟨λb o e n _ F=>hk b o F e,λb o e n _ F=>⟨o.slots,hk b o F e⟩,λb o e n _=>n,λb o e F=>⟨o,hk b o F e⟩,λ_ _ e=>e,λ_ _ _ e=>e,λb ps e=>⟨#[],by rw[e];simp⟩⟩ ?_ I.bare λb hb=>?_
 .intro b u L;refine(I.hok b u L).stay (λc v J e=>hk c v (λz=>?_) e) (λ_ z=>z) λ_ _ z=>z;have:=(hf c z).1;rcases J with rfl|J
  .rw[this]at L;cases L
  .rw[this]at J;cases J
 .obtain⟨q1,Z,q3,U,S,O⟩:=hf b hb;exact⟨U,Z,S,O⟩
theorem Inv.turnedT {tk:Nat}{o:HO}{ob:Obj}(I:Inv X pins σ H s)(hk:∀b u,b∉ch->s.heap.get? b=some u->h'.get? b=some u)(hn:h'.get? s.heap.objs.size=some ob)(hf:∀b∈ch,jq X pins H b)(hc:∀b∈ch,b≠s.heap.objs.size)
  (ok:ObjOk X.prog X.w (upd H s.heap.objs.size o) (s.heap.push ob) s.heap.objs.size o) (fr:ob.isFreed=false):Inv X pins σ (upd H s.heap.objs.size o) { s with heap:=h',toks:=tk }:=by
 have O:Inv X pins σ (upd H s.heap.objs.size o) { s with heap:=s.heap.push ob,toks:=tk }:=I.laid (t':=tk) (λb u e=>ac _ e) (af _) ok;refine Inv.turnedL (s:={ s with heap:=s.heap.push ob,toks:=tk }) (ch:=ch) O (λb u L e=>?_) λb F=>?_
 .rcases Heap.get?_push_cases e with⟨rfl,rfl⟩|e
  .exact hn
  .exact hk b u L e
 .obtain⟨J,q⟩:=hf b F;exact⟨by rw[wf (hc b F)];exact J,q⟩
theorem qyj {x y:V}{u v:Ag}(I:Inv X pins σ H s)(rx:RelV x u)(ry:RelV y v):ObjOk X.prog X.w (upd H s.heap.objs.size (.tup [x,y])) (s.heap.push { cls:=.type "tuple",data:=.seq #[u,v] }) s.heap.objs.size (.tup [x,y]):=by refine⟨by show 2<=sizeLine;decide,[u,v],.cons rx (.cons ry .nil),?_⟩;exact⟨_,aj _ rfl,rfl,_,rfl⟩
end
section
variable {X:Cx}
end
section
variable {X:Cx}
end
section
variable {X:Cx}{elt iter tg:Expr}{x y2:Str}{pos:Pos}{scope:Scope}{cl:List (Str×Aj)}{M:List Nat}{wi:TI}{gg:TG}{te:TE}
end
end L2
namespace L2
open PySem PySem.Spec PyProof.Rows PySem.W
def Fz (H:Hp)(d:Aj)(o:Obj)(kvs:List (Key×V))(H':Hp):Prop:=H' d=some (.frz o (.dK kvs))/\∀b,b≠d->H' b=H b
section
variable {X:Cx}{pins:List (Aj×Obj)}{σ:St}{H:Hp}{s:Ab}{d:Aj}{kvs:List (Key×V)}
theorem Inv.freeze {o:Obj}(I:Inv X pins σ H s)(e:H d=some (.dK kvs))(ho:s.heap.get? d=some o):Inv X pins σ (upd H d (.frz o (.dK kvs))) s:=by obtain⟨z,J,vs,F,dd⟩:=qqs I.hok e;exact Inv.write (t':=s.toks) (h':=s.heap) I (by rw[e];exact trivial) (.inl rfl) (λ_ _ _ e=>e) ⟨o,ho⟩ ⟨ho,Jy z J F dd⟩
theorem Wd {o:Obj}(I:Inv X pins σ H s)(e:H d=some (.frz o (.dK kvs))):kvs.length<=sizeLine/\(d==sysModules)=false/\s.heap.get? d=some o/\∃vs es ep,KV kvs vs/\o.data=.dict es ep/\s.heap.DictAt (xm X.prog X.w) d vs ep:=by obtain⟨F,z,O,vs,L,dd⟩:=(show ObjOk X.prog X.w H s.heap d (.frz o (.dK kvs)) from I.hok d _ e);obtain⟨o',es,ep,h1,h2,J,S⟩:=id dd;have:o'=o:=al (h1.symm.trans F);subst this;exact⟨z,O,F,vs,es,ep,L,J,o',es,h1,h2,J,S⟩
theorem Inv.freezeRd (I:Inv X pins σ H s)(e:Rd H d (.dK kvs)):∃o H',Fz H d o kvs H'/\Inv X pins σ H' s:=by
 rcases e with e|⟨o,e⟩
 .obtain⟨z,O,vs,L,o,es,S,J,r⟩:=qqs I.hok e;exact⟨o,_,⟨wj,λb F=>wf F⟩,I.freeze e J⟩
 .exact⟨o,H,⟨e,λ_ _=>rfl⟩,I⟩
theorem wwx {P:Ac}{w:Ah}{k:Key}{u:Ag}(h:(xm P w).is k u=true):RelV (kV k) u:=by
 rcases zh (show Yp k u=true from h) with⟨i,t,rfl,rfl⟩|⟨x,t,rfl,rfl⟩
 .exact⟨t,rfl⟩
 .exact⟨t,rfl⟩
end
def ItD (d:Aj)(o:Obj)(kvs:List (Key×V)):It :=
 ⟨λi H=>H d=some (.frz o (.dK kvs))/\i<kvs.length,λi H v H'=>H'=H/\∃p,kvs[i]?=some p/\v=kV p.1,λi H=>H d=some (.frz o (.dK kvs))/\kvs.length<=i⟩
theorem qkc {kvs:List (Key×V)}{vs:List (Key×Ag)}(r:KV kvs vs){i:Nat}{p:Key×V}(e:kvs[i]?=some p):∃q,vs[i]?=some (p.1,q)/\RelV p.2 q:=by
 induction r generalizing i with
 |nil=>cases e
 |cons h t ih =>
  cases i with
  |zero =>
   cases e;obtain⟨h1,h2⟩:=h;rename_i b _ _;exact⟨b.2,by show some b=some (_,b.2);rw[h1],h2⟩
  |succ i=>exact ih e
theorem wky {P:Ac}{w:Ah}{K:Aa}{tg:Expr}{d it:Aj}{o:Obj}{kvs:List (Key×V)}{ep:Nat}(hep:∃es,o.data=.dict es ep):Turn P w K tg (ItD d o kvs) [it] it (λi h=>h.IsKeyIter it d i kvs.length ep) where
 mem:=by simp
 obj:=λi h st b hb=>by
  have e:b=it:=by simpa using hb
  subst e;obtain⟨ob,e,c,dd⟩:=st;exact⟨ob,e,λv z=>by rw[dd]at z;cases z⟩
 keep:=λi h h' st k=>st.at λob e=>k it (by simp) ob e
 item:=by
  intro X hP hw hK hc i pins s σ H E I hf st hg;subst hP hw hK;obtain⟨hq,hi⟩:=hg;obtain⟨z,hd,ho,vs,es,ep',rel,h3,dd⟩:=Wd I hq;obtain⟨es2,h4⟩:=hep;have:ep'=ep:=by rw[h3]at h4;cases h4;rfl
  subst this;have e1:kvs[i]?=some kvs[i]:=ai hi;obtain⟨q,eq,rq⟩:=qkc rel e1;have hl:vs.length=kvs.length:=(bu rel).symm;obtain⟨f0,f1,f2,f3,f4,f5⟩:=hf it (by simp);refine wpAny_pyNext_dict_item (by rw[hl];exact st) dd eq λkey h' hk st' sb=>?_;have I1:Inv X pins σ H { s with heap:=h' }:=I.turned (t':=s.toks) (λb o hb e=>(sb.2 b hb).trans e) f0 f1 f3 f4 f5;rw[hl]at st';obtain⟨ob,e,c,d'⟩:=id st';exact⟨key,rfl,qz0 (s:={ s with heap:=h' }) e c d' ⋯ ⟨_,H,I1,wwx hk,⟨rfl,_,e1,rfl⟩,st',λb hb=>(hf b hb).1⟩⟩
 done:=by
  intro X hP hw hK hc i pins s σ H E I hf st hg;subst hP hw hK;obtain⟨hq,hi⟩:=hg;obtain⟨z,hd,ho,vs,es,ep',rel,h3,dd⟩:=Wd I hq;obtain⟨es2,h4⟩:=hep;have:ep'=ep:=by rw[h3]at h4;cases h4;rfl
  subst this;have hl:vs.length=kvs.length:=(bu rel).symm;obtain⟨f0,f1,f2,f3,f4,f5⟩:=hf it (by simp);exact wpAny_pyNext_dict_end (I.ok.hd hc) (by rw[hl];exact st) dd (aK ⋯) λh' eb=>⟨rfl,I.turned (t':=s.toks) (λb o hb e=>eb b o hb e) f0 f1 f3 f4 f5⟩
 self:=λ_ _ _ _ _ st h=>wpAny_pyIter_keyiter st h
def ItDI (d:Aj)(o:Obj)(kvs:List (Key×V)):It :=
 ⟨λi H=>H d=some (.frz o (.dK kvs))/\i<kvs.length,λi H v H'=>∃q p,H q=none/\v=.ref q/\kvs[i]?=some p/\H'=upd H q (.tup [kV p.1,p.2]),λi H=>H d=some (.frz o (.dK kvs))/\kvs.length<=i⟩
theorem wzn {P:Ac}{w:Ah}{K:Aa}{xs:List Expr}{k:Nat}{pos:Pos}{d it:Aj}{o:Obj}{kvs:List (Key×V)}{ep:Nat}(hep:∃es,o.data=.dict es ep):Turn P w K (.Tuple xs k pos) (ItDI d o kvs) [it] it (λi h=>∃ok ov,IsItemIter h it d i kvs.length ep ok ov) where
 mem:=by simp
 obj:=λi h st b hb=>by
  have e:b=it:=by simpa using hb
  subst e;obtain⟨ok,ov,e⟩:=st;exact⟨_,e,λv z=>by cases z⟩
 keep:=λi h h' st k=>by obtain⟨ok,ov,e⟩:=st;exact⟨ok,ov,k it (by simp) _ e⟩
 item:=by
  intro X hP hw hK hc i pins s σ H E I hf st hg;subst hP hw hK;obtain⟨hq,hi⟩:=hg;obtain⟨z,hd,ho,vs,es,ep',rel,h3,dd⟩:=Wd I hq;obtain⟨es2,h4⟩:=hep;have:ep'=ep:=by rw[h3]at h4;cases h4;rfl
  subst this;have e1:kvs[i]?=some kvs[i]:=ai hi;obtain⟨q,eq,rq⟩:=qkc rel e1;have hl:vs.length=kvs.length:=(bu rel).symm;obtain⟨ok,ov,st⟩:=st;refine wpAny_pyNext_items_item (by rw[hl];exact st) dd eq λkey h' hk g1 g2 g3 g4=>?_;refine⟨_,rfl,wpAny_letOwnedTupleGo_items (s:={ s with heap:=h' }) g1 λh'' j1 j2=>?_⟩;have ne:it≠s.heap.objs.size:=ar (ae st);have new:h''.get? s.heap.objs.size=some { cls:=.type "tuple",data:=.seq #[key,q] }:=(j2.2 _ (ba ne)).trans g2;refine⟨.ref s.heap.objs.size,_,Inv.turnedT (s:=s) (ch:=[it]) (tk:=s.toks) I (λb u nb e=>?_) new hf (λb hb=>?_) (qyj I (wwx hk) rq) rfl,rfl,⟨_,_,I.hok.fresh (af _),rfl,e1,rfl⟩,⟨_,_,by rw[<-hl];exact j1⟩,λb hb=>?_⟩
  .have nb:b≠it:=by simpa using nb
   exact(j2.2 b nb).trans (g4 b u nb e)
  .have e:b=it:=by simpa using hb
   rw[e];exact ne
  .have e:b=it:=by simpa using hb
   rw[e,wf ne];exact(hf it (by simp)).1
 done:=by
  intro X hP hw hK hc i pins s σ H E I hf st hg;subst hP hw hK;obtain⟨hq,hi⟩:=hg;obtain⟨z,hd,ho,vs,es,ep',rel,h3,dd⟩:=Wd I hq;obtain⟨es2,h4⟩:=hep;have:ep'=ep:=by rw[h3]at h4;cases h4;rfl
  subst this;have hl:vs.length=kvs.length:=(bu rel).symm;obtain⟨f0,f1,f2,f3,f4,f5⟩:=hf it (by simp);obtain⟨ok,ov,st⟩:=st;exact wpAny_pyNext_items_end (I.ok.hd hc) (by rw[hl];exact st) dd (aK ⋯) λh' eb=>⟨rfl,I.turned (t':=s.toks) (λb o hb e=>eb b o hb e) f0 f1 f3 f4 f5⟩
 self:=λ_ _ _ _ _ st h=>by obtain⟨ok,ov,e⟩:=st;exact kcp_self e h
section
variable {X:Cx}{tg l:Expr}{tl:TE}
def iDk (tl:TE):TI:=λσ H R=>tl σ H λx H1=>∃d kvs,x=.ref d/\Rd H1 d (.dK kvs)/\∀o H2,Fz H1 d o kvs H2->R (ItD d o kvs) H2
theorem pi_dk (hl:PE X l tl):PI X tg l (iDk tl):=by
 intro pins s σ H R I h;refine thn (hl pins s σ H _ I h) λv s1 ⟨x,H1,I1,r1,q1⟩=>?_;obtain⟨d,kvs,e,O,q⟩:=q1;subst e;cases r1;obtain⟨o,H2,J,F⟩:=I1.freezeRd O;obtain⟨z,S,ho,vs,es,ep,L,Z,dd⟩:=Wd F J.1;have hl:vs.length=kvs.length:=(bu L).symm;refine wpAny_pyIter_dict S dd ?_;refine⟨s1.heap.objs.size,[s1.heap.objs.size],_,_,H2,rfl,F.kept (t':=s1.toks) λb o e=>ac _ e,wky ⟨es,Z⟩,⟨_,aj _ rfl,rfl,by rw[hl];rfl⟩,λb U=>?_,q o H2 J⟩;have e:b=s1.heap.objs.size:=by simpa using U
 subst e;exact F.fpOk (af _) (F.hok.fresh (af _))
def iDi (tl:TE):TI:=λσ H R=>tl σ H λx H1=>∃d kvs,x=.ref d/\Rd H1 d (.dK kvs)/\∀o H2,Fz H1 d o kvs H2->R (ItDI d o kvs) H2
theorem pi_di {apos cpos tpos:Pos}{xs:List Expr}{k:Nat}(hl:PE X l tl)(hbase:autoParam (attributeBase l "items" X.env (eval l X.env)=eval l X.env) aU4._auto_1)(hline:autoParam ((apos.endLine==cpos.line)=true) aU4._auto_1) :
  PI X (.Tuple xs k tpos) (.Call (.Attribute l "items" apos) [] [] cpos) (iDi tl):=by
 intro pins s σ H R I h;refine wpAny_Call_method0_late hbase hline (thn (hl pins s σ H _ I h) λv s1 ⟨x,H1,I1,r1,q1⟩=>?_);obtain⟨d,kvs,e,O,q⟩:=q1;subst e;cases r1;obtain⟨o,H2,S,U⟩:=I1.freezeRd O;obtain⟨L,Z,_⟩:=wxb I1 (.inl ⟨kvs,O⟩);obtain⟨z,hd,ho,vs,es,ep,ad,h3,dd⟩:=Wd U S.1;have hl:vs.length=kvs.length:=(bu ad).symm;refine⟨"dict","dict.items",eA,eD,PySem.F.type_dict_items,L,Z,cP rfl (PySem.evalArgs_none ?_)⟩;refine eM eD L PySem.F.entry_dict_items (PySem.F.args_dict_items_1 _) (meets_dict_items (xm X.prog X.w) d hd) ⟨⟨vs,dd.dictOf⟩,?_⟩;have J:Inv X pins σ H2 { s1 with heap:=s1.heap.push { cls:=.type "dict_items",data:=.fields #[.ref d] } }:=U.kept (t':=s1.toks) λb o e=>ac _ e;refine wpAny_pyIter_items (s:={ s1 with heap:=s1.heap.push { cls:=.type "dict_items",data:=.fields #[.ref d] } }) ⟨_,aj _ rfl,rfl,rfl⟩ (dd.push _) ?_;refine⟨_,[_],_,_,H2,rfl,J.kept (t':=s1.toks) λb o e=>ac _ e,wzn ⟨es,h3⟩,⟨.none,.none,?_⟩,λb hb=>?_,q o H2 S⟩
 .rw[hl];exact aj _ rfl
 .have e:=aH.mp hb;subst e;exact J.fpOk (af _) (J.hok.fresh (af _))
def ItS (x:Str):It:=⟨λi _=>i<x.cps.size,λi H v H'=>H'=H/\v=.str ⟨#[x.cps.getD i 0]⟩,λi _=>x.cps.size<=i⟩
theorem qun {P:Ac}{w:Ah}{K:Aa}{it:Aj}{x:Str}{t:Tok}:Turn P w K tg (ItS x) [it] it (λi h=>h.IsStrIter it "str_ascii_iterator" x t i) where
 mem:=by simp
 obj:=λi h st b hb=>by
  have e:b=it:=by simpa using hb
  subst e;obtain⟨ob,e,c,dd⟩:=st;exact⟨ob,e,λv z=>by rw[dd]at z;cases z⟩
 keep:=λi h h' st k=>by obtain⟨ob,e,r⟩:=st;exact⟨ob,k it (by simp) ob e,r⟩
 item:=by intro X hP hw hK hc i pins s σ H E I hf st hg;subst hP hw hK;have hg:i<x.cps.size:=hg;obtain⟨f0,f1,f2,f3,f4,f5⟩:=hf it (by simp);refine wpAny_pyNext_ascii_item st (c:=x.cps.getD i 0) (by rw[dA,dQ hg];rfl) λh' st' sb=>?_;have I1:Inv X pins σ H { s with heap:=h',toks:=s.toks+1 }:=I.turned (t':=s.toks+1) (λb o hb e=>(sb.2 b hb).trans e) f0 f1 f3 f4 f5;obtain⟨ob,e,c,d'⟩:=id st';exact⟨_,rfl,qz0 (s:={ s with heap:=h',toks:=s.toks+1 }) e c d' ⋯ ⟨.str ⟨#[x.cps.getD i 0]⟩,H,I1,⟨_,rfl⟩,⟨rfl,rfl⟩,st',λb hb=>(hf b hb).1⟩⟩
 done:=by intro X hP hw hK hc i pins s σ H E I hf st hg;subst hP hw hK;obtain⟨f0,f1,f2,f3,f4,f5⟩:=hf it (by simp);exact wpAny_pyNext_ascii_end (I.ok.hd hc) st (bG hg) λh' eb=>⟨rfl,I.turned (t':=s.toks) (λb o hb e=>eb b o hb e) f0 f1 f3 f4 f5⟩
 self:=λ_ _ _ _ _ st h=>wpAny_pyIter_striter_ascii st h
theorem wqu {P:Ac}{w:Ah}{K:Aa}{it:Aj}{x:Str}{t:Tok}:Turn P w K tg (ItS x) [it] it (λi h=>h.IsStrIter it "str_iterator" x t i) where
 mem:=by simp
 obj:=λi h st b hb=>by
  have e:b=it:=by simpa using hb
  subst e;obtain⟨ob,e,c,dd⟩:=st;exact⟨ob,e,λv z=>by rw[dd]at z;cases z⟩
 keep:=λi h h' st k=>by obtain⟨ob,e,r⟩:=st;exact⟨ob,k it (by simp) ob e,r⟩
 item:=by intro X hP hw hK hc i pins s σ H E I hf st hg;subst hP hw hK;have hg:i<x.cps.size:=hg;obtain⟨f0,f1,f2,f3,f4,f5⟩:=hf it (by simp);refine wpAny_pyNext_wide_item st (c:=x.cps.getD i 0) (by rw[dA,dQ hg];rfl) λh' st' sb=>?_;have I1:Inv X pins σ H { s with heap:=h',toks:=s.toks+1 }:=I.turned (t':=s.toks+1) (λb o hb e=>(sb.2 b hb).trans e) f0 f1 f3 f4 f5;obtain⟨ob,e,c,d'⟩:=id st';exact⟨_,rfl,qz0 (s:={ s with heap:=h',toks:=s.toks+1 }) e c d' ⋯ ⟨.str ⟨#[x.cps.getD i 0]⟩,H,I1,⟨_,rfl⟩,⟨rfl,rfl⟩,st',λb hb=>(hf b hb).1⟩⟩
 done:=by intro X hP hw hK hc i pins s σ H E I hf st hg;subst hP hw hK;obtain⟨f0,f1,f2,f3,f4,f5⟩:=hf it (by simp);exact wpAny_pyNext_wide_end (I.ok.hd hc) st (bG hg) λh' eb=>⟨rfl,I.turned (t':=s.toks) (λb o hb e=>eb b o hb e) f0 f1 f3 f4 f5⟩
 self:=λ_ _ _ _ _ st h=>wpAny_pyIter_striter_wide st h
def iStr (tl:TE):TI:=λσ H R=>tl σ H λv H1=>∃x,v=.str x/\R (ItS x) H1
theorem wwp (hl:PE X l tl):PI X tg l (iStr tl):=by
 intro pins s σ H R I h;refine thn (hl pins s σ H _ I h) λv s1 ⟨v',H1,I1,r1,x,e,q⟩=>?_;subst e;obtain⟨t,rfl⟩:=(show ∃t,v=Value.str x t from r1);cases ha:x.cps.all (·<128)
 .refine wpAny_pyIter_wide ha ⟨s1.heap.objs.size,[s1.heap.objs.size],_,_,H1,rfl,I1.kept (t':=s1.toks) λb o e=>ac _ e,wqu (t:=t),⟨_,aj _ rfl,rfl,rfl⟩,λb F=>?_,q⟩;have e:=aH.mp F;subst e;exact I1.fpOk (af _) (I1.hok.fresh (af _))
 .refine wpAny_pyIter_ascii ha ⟨s1.heap.objs.size,[s1.heap.objs.size],_,_,H1,rfl,I1.kept (t':=s1.toks) λb o e=>ac _ e,qun (t:=t),⟨_,aj _ rfl,rfl,rfl⟩,λb F=>?_,q⟩;have e:=aH.mp F;subst e;exact I1.fpOk (af _) (I1.hok.fresh (af _))
end
end L2
namespace PySem
open Sem (wp)
section
variable {prog:Ac}{w:Ah}{A:Ae}{E:Ag->Ab->Prop}{s:Ab}
theorem uf {it l:Aj}{i:Nat}{items}{x:Ag}{Q:Ag->Ab->Prop}(hit:s.heap.IsTupleIter it l i)(hl:s.heap.IsTuple l items)(hx:items[i]?=some x)(hQ:∀h',h'.IsTupleIter it l (i+1)->Heap.SameBut it s.heap h'->Q x { s with heap:=h' }):wpAny (model prog w) A (Builtin.SmallTypes.nextOf (.ref it)) Q E s:=by (obtain⟨o,I,O,F⟩:=id hit) ;(obtain⟨S,J,_,U,L⟩:=hl) ;(unfold Builtin.SmallTypes.nextOf) ;(refine aa (br (name:=Str.ofString "__next__") hit.typeIs bL (bH bL hit.typeIs dB ?_ (dm _))));(show wpAny _ _ (field (.ref it) 0 >>= _) _ _ s) ;(refine aa (aR I F (x:=.ref l) rfl ?_)) ;(show wpAny _ _ (if(Value.ref l==Value.none)=true then _ else _) _ _ s) ;(rw[ak (show ¬ ((Value.ref l==Value.none)=true) from aq)]);(show wpAny _ _ (field (.ref it) 1 >>= _) _ _ s) ;(refine aa (aR I F (x:=.int i 0) rfl ?_)) ;(show wpAny _ _ (seqItems? (.ref l) >>= _) _ _ s) ;(refine aa (bM J L ?_));(simp only[bR,hx]) ;(refine aa (dI I F (by simp) (ag ⟨x,rfl,ag (hQ _ ?_ (Heap.SameBut.update ..))⟩))) ;(exact⟨_,cT _ I (cU (bZ F _)),(Obj.cls_mapFields ..).trans O,by rw[bZ F];simp[rawInt]⟩)
theorem qq8 {it l:Aj}{i:Nat}{items}{Q:Ag->Ab->Prop}(hh:A.handled=none)(hit:s.heap.IsTupleIter it l i)(hl:s.heap.IsTuple l items)(hx:items[i]?=none)(hE:∀h' e,Heap.ExtBut it s.heap h'->(∃o,h'.get? e=some o/\o.cls=.type "StopIteration")->E (.ref e) { s with heap:=h' }):wpAny (model prog w) A (Builtin.SmallTypes.nextOf (.ref it)) Q E s:=by (obtain⟨o,F,U,I⟩:=id hit) ;(obtain⟨O,J,_,S,L⟩:=hl) ;(unfold Builtin.SmallTypes.nextOf) ;(refine aa (br (name:=Str.ofString "__next__") hit.typeIs bL (bH bL hit.typeIs dB ?_ (dm _))));(show wpAny _ _ (field (.ref it) 0 >>= _) _ _ s) ;(refine aa (aR F I (x:=.ref l) rfl ?_)) ;(show wpAny _ _ (if(Value.ref l==Value.none)=true then _ else _) _ _ s) ;(rw[ak (show ¬ ((Value.ref l==Value.none)=true) from aq)]);(show wpAny _ _ (field (.ref it) 1 >>= _) _ _ s) ;(refine aa (aR F I (x:=.int i 0) rfl ?_)) ;(show wpAny _ _ (seqItems? (.ref l) >>= _) _ _ s) ;(refine aa (bM J L ?_));(simp only[bR,hx]) ;(refine aa (cM (aa (dI F I (by simp) ?_)))) ;(show wpAny _ _ (newExc (.type "StopIteration") [] >>= _) _ _ _) ;(refine aa ?_);(simp only[newExc,newTuple]) ;(refine aa (bb ?_ (by size_fits))) ;(refine aa (m:=firstArgMember _ _) (wpAny_of_eq (a:=Value.none) (by first | rfl | (simp only[firstArgMember];rfl)) ?_)) ;(refine bb ?_ (by size_fits));(simp only[raiseNew]) ;(refine aa (wpAny_handled ?_)) ;(first | rw[show A.in1.handled=none from hh] | rw[hh]) ;(refine aa (ag (wpAny_throw ?_)));exact hE _ _ (((Heap.SameBut.update ..).extBut.push _).push _) ⟨_,aj _ rfl,rfl⟩
theorem Zh {z TI TO i1 i2 l1 l2:Aj}{k1 k2:Nat}{xs ys:Array Ag}{x y a b:Ag}{Q:Ag->Ab->Prop}(D:ZipApart z TI TO i1 i2 l1 l2)(hz:IsZip s.heap z TI TO .none)(hTI:IsPair s.heap TI (.ref i1) (.ref i2))(hTO:IsPair s.heap TO a b)(h1:s.heap.IsTupleIter i1 l1 k1)(h2:s.heap.IsTupleIter i2 l2 k2)(hl1:s.heap.IsTuple l1 xs)(hl2:s.heap.IsTuple l2 ys)(hx:xs[k1]?=some x)(hy:ys[k2]?=some y)(hQ:∀h',IsZip h' z TI TO (rawInt s.heap.objs.size)->IsPair h' TO x y->h'.IsTupleIter i1 l1 (k1+1)->h'.IsTupleIter i2 l2 (k2+1)->IsPair h' s.heap.objs.size x y->h'.objs.size=s.heap.objs.size+1->(∀c o,c≠z->c≠TO->c≠i1->c≠i2->s.heap.get? c=some o->h'.get? c=some o)->Q (.ref s.heap.objs.size) { s with heap:=h' }):wpAny (model prog w) A (Builtin.«zip.__next__» ⟨[.ref z],[]⟩) (λfin s'=>∃v,fin=.done (.ret v)/\Q v s') E s:=by (show wpAny _ _ (field (.ref z) 2 >>= _) _ _ _) ;(refine aa (aR hz rfl (x:=.bool false) rfl ?_)) ;(show wpAny _ _ (field (.ref z) 3 >>= _) _ _ _) ;(refine aa (aR hz rfl (x:=.ref TI) rfl ?_));(refine aa (bM hTI rfl ?_)) ;(show wpAny _ _ (Builtin.SmallTypes.ownedTupleIsFree (.ref z) >>= _) _ _ _) ;(refine aa ?_) ;(unfold Builtin.SmallTypes.ownedTupleIsFree);(refine aa (aR hz rfl (x:=.none) rfl (ag ?_))) ;(simp only[dU]) ;(refine aa (cM ?_)) ;(refine aa (aR hz rfl (x:=.ref TO) rfl ?_));(refine aa (bN hz (by simp) λh₁ ap I=>?_)) ;(replace ap:IsZip h₁ z TI TO .ellipsis:=ap) ;(refine aa ?_) ;(simp only[List.zipIdx_cons,List.zipIdx_nil,eP,List.forIn_nil]);(refine aa (aa (di ?_))) ;(show wpAny _ _ (Builtin.SmallTypes.nextOf (.ref i1) >>= _) _ _ _) ;(refine aa (uf (h1.extBut I.extBut D.i1z) (hl1.extBut I.extBut D.l1z) hx λh₂ b2 L=>ag ?_)) ;(have a9:IsPair h₂ TO a b:=L.extBut _ _ D.TOi1 (I.extBut _ _ D.TOz hTO));(refine aa (bM a9 rfl ?_)) ;(refine aa (dk a9 λh₃ a2 J=>?_)) ;(replace a2:IsPair h₃ TO x b:=a2) ;(refine aa (wpAny_letGo (ag ?_)));(refine aa (aa (di ?_))) ;(show wpAny _ _ (Builtin.SmallTypes.nextOf (.ref i2) >>= _) _ _ _) ;(refine aa (uf (((h2.extBut I.extBut D.i2z).extBut L.extBut D.i12.symm).extBut J.extBut D.TOi2.symm) (((hl2.extBut I.extBut D.l2z).extBut L.extBut D.l2i1).extBut J.extBut D.l2TO) hy λh₄ b1 U=>ag ?_)) ;(have a8:IsPair h₄ TO x b:=U.extBut _ _ D.TOi2 a2);(refine aa (bM a8 rfl ?_)) ;(refine aa (dk a8 λF Z S=>?_)) ;(replace Z:IsPair F TO x y:=Z) ;(refine aa (wpAny_letGo (ag (ag ?_))));(refine aa (bM Z rfl ?_)) ;(refine aa (wpAny_newTuple ?_)) ;(have a6:F.objs.size=s.heap.objs.size:=by rw[S.1,U.1,J.1,L.1,I.1]) ;(have a3:IsZip F z TI TO .ellipsis:=S.extBut _ _ D.TOz.symm (U.extBut _ _ D.i2z.symm (J.extBut _ _ D.TOz.symm (L.extBut _ _ D.i1z.symm ap))));(have b0:∀c o,c≠z->c≠TO->c≠i1->c≠i2->s.heap.get? c=some o->F.get? c=some o:=λc o c1 c2 c3 c4 e=>S.extBut _ _ c2 (U.extBut _ _ c4 (J.extBut _ _ c2 (L.extBut _ _ c3 (I.extBut _ _ c1 e))))) ;(have bk:F.IsTupleIter i1 l1 (k1+1):=((b2.extBut J.extBut D.TOi1.symm).extBut U.extBut D.i12).extBut S.extBut D.TOi1.symm) ;(have bf:F.IsTupleIter i2 l2 (k2+1):=b1.extBut S.extBut D.TOi2.symm) ;(have a4:z<F.objs.size:=ae a3);(have b5:TO<F.objs.size:=ae Z) ;(have b4:i1<F.objs.size:=by obtain⟨_,e,_⟩:=bk;exact ae e) ;(have b3:i2<F.objs.size:=by obtain⟨_,e,_⟩:=bf;exact ae e) ;(show wpAny _ _ (Builtin.SmallTypes.ownedTupleHandOut (.ref z) (.ref F.objs.size) >>= _) _ _ _);(refine aa ?_) ;(unfold Builtin.SmallTypes.ownedTupleHandOut) ;(have bl:IsZip (F.push { cls:=.type "tuple",data:=.seq #[x,y] }) z TI TO .ellipsis:=ac _ a3) ;(refine aa (bN bl (by simp) λh₇ an a1=>?_));(replace an:IsZip h₇ z TI TO (rawInt F.objs.size):=an) ;(refine bN an (by simp) λO ad a0=>?_) ;(replace ad:IsZip O z TI TO (rawInt F.objs.size):=ad) ;(have up:∀c o,c≠z->F.get? c=some o->O.get? c=some o:=λc o c1 e=>a0.extBut _ _ c1 (a1.extBut _ _ c1 (ac _ e)));(have a7:IsPair O F.objs.size x y:=a0.extBut _ _ (bX a4) (a1.extBut _ _ (bX a4) (aj _ rfl))) ;(have a5:O.objs.size=F.objs.size+1:=by rw[a0.1,a1.1,aU]) ;(rw[a6]at ad a7 a5) ;(refine ag ⟨_,rfl,?_⟩);(show Q (.ref F.objs.size) _) ;(rw[a6]) ;(exact hQ O ad (up _ _ D.TOz Z) (bk.at λo e=>up _ o D.i1z e) (bf.at λo e=>up _ o D.i2z e) a7 a5 λc o c1 c2 c3 c4 e=>up c o c1 (b0 c o c1 c2 c3 c4 e))
theorem J1 {z TI TO i1 i2 l1 l2:Aj}{k1 k2:Nat}{xs ys:Array Ag}{a b:Ag}{Q:Fin->Ab->Prop}(hh:A.handled=none)(D:ZipApart z TI TO i1 i2 l1 l2)(hz:IsZip s.heap z TI TO .none)(hTI:IsPair s.heap TI (.ref i1) (.ref i2))(hTO:IsPair s.heap TO a b)(h1:s.heap.IsTupleIter i1 l1 k1)(h2:s.heap.IsTupleIter i2 l2 k2)(hl1:s.heap.IsTuple l1 xs)(hl2:s.heap.IsTuple l2 ys)(hend:xs[k1]?=none\/ys[k2]?=none)(hE:∀h' e,(∀c o,c≠z->c≠TO->c≠i1->c≠i2->s.heap.get? c=some o->h'.get? c=some o)->(∃o,h'.get? e=some o/\o.cls=.type "StopIteration")->E (.ref e) { s with heap:=h' }):wpAny (model prog w) A (Builtin.«zip.__next__» ⟨[.ref z],[]⟩) Q E s:=by
 (show wpAny _ _ (field (.ref z) 2 >>= _) _ _ _) ;(refine aa (aR hz rfl (x:=.bool false) rfl ?_)) ;(show wpAny _ _ (field (.ref z) 3 >>= _) _ _ _) ;(refine aa (aR hz rfl (x:=.ref TI) rfl ?_));(refine aa (bM hTI rfl ?_)) ;(show wpAny _ _ (Builtin.SmallTypes.ownedTupleIsFree (.ref z) >>= _) _ _ _) ;(refine aa ?_) ;(unfold Builtin.SmallTypes.ownedTupleIsFree);(refine aa (aR hz rfl (x:=.none) rfl (ag ?_))) ;(simp only[dU]) ;(refine aa (cM ?_)) ;(refine aa (aR hz rfl (x:=.ref TO) rfl ?_));(refine aa (bN hz (by simp) λh₁ S F=>?_)) ;(replace S:IsZip h₁ z TI TO .ellipsis:=S) ;(refine aa ?_) ;(simp only[List.zipIdx_cons,List.zipIdx_nil,eP,List.forIn_nil]);(refine aa (aa (di ?_))) ;(show wpAny _ _ (Builtin.SmallTypes.nextOf (.ref i1) >>= _) _ _ _);cases hx:xs[k1]? with
 |none =>
  (refine aa (qq8 hh (h1.extBut F.extBut D.i1z) (hl1.extBut F.extBut D.l1z) hx λZ e I he=>?_)) ;(obtain⟨U,L,O⟩:=he) ;(have ap:IsZip Z z TI TO .ellipsis:=I _ _ D.i1z.symm S) ;(have ad:e≠z:=λx=>by subst x;rw[ap]at L;cases L;simp at O)
  refine bN ap (by simp) λh₃ _ J=>hE h₃ e (λc o c1 _ c3 _ x=>J.extBut _ _ c1 (I _ _ c3 (F.extBut _ _ c1 x))) ⟨U,J.extBut _ _ ad L,O⟩
 |some x =>
  (have hy:ys[k2]?=none:=by rcases hend with h|h;rw[hx]at h;cases h;exact h) ;(refine aa (uf (h1.extBut F.extBut D.i1z) (hl1.extBut F.extBut D.l1z) hx λZ a4 I=>ag ?_)) ;(have a2:IsPair Z TO a b:=I.extBut _ _ D.TOi1 (F.extBut _ _ D.TOz hTO)) ;(refine aa (bM a2 rfl ?_))
  (refine aa (dk a2 λh₃ a3 J=>?_)) ;(refine aa (wpAny_letGo (ag ?_))) ;(refine aa (aa (di ?_))) ;(show wpAny _ _ (Builtin.SmallTypes.nextOf (.ref i2) >>= _) _ _ _)
  (refine aa (qq8 hh (((h2.extBut F.extBut D.i2z).extBut I.extBut D.i12.symm).extBut J.extBut D.TOi2.symm) (((hl2.extBut F.extBut D.l2z).extBut I.extBut D.l2i1).extBut J.extBut D.l2TO) hy λh₄ e a1 he=>?_)) ;(obtain⟨U,L,O⟩:=he) ;(have an:IsZip h₄ z TI TO .ellipsis:=a1 _ _ D.i2z.symm (J.extBut _ _ D.TOz.symm (I.extBut _ _ D.i1z.symm S))) ;(have ad:e≠z:=λx=>by subst x;rw[an]at L;cases L;simp at O)
  refine bN an (by simp) λh₅ _ a0=>hE h₅ e (λc o c1 c2 c3 c4 x=>a0.extBut _ _ c1 (a1 _ _ c4 (J.extBut _ _ c2 (I.extBut _ _ c3 (F.extBut _ _ c1 x))))) ⟨U,a0.extBut _ _ ad L,O⟩
theorem Q6 {z TI TO i1 i2 l1 l2:Aj}{k1 k2:Nat}{xs ys:Array Ag}{x y a b:Ag}{Q:Option Ag->Ab->Prop}(D:ZipApart z TI TO i1 i2 l1 l2)(hz:IsZip s.heap z TI TO .none)(hTI:IsPair s.heap TI (.ref i1) (.ref i2))(hTO:IsPair s.heap TO a b)(h1:s.heap.IsTupleIter i1 l1 k1)(h2:s.heap.IsTupleIter i2 l2 k2)(hl1:s.heap.IsTuple l1 xs)(hl2:s.heap.IsTuple l2 ys)(hx:xs[k1]?=some x)(hy:ys[k2]?=some y)(hQ:∀h',IsZip h' z TI TO (rawInt s.heap.objs.size)->IsPair h' TO x y->h'.IsTupleIter i1 l1 (k1+1)->h'.IsTupleIter i2 l2 (k2+1)->IsPair h' s.heap.objs.size x y->h'.objs.size=s.heap.objs.size+1->(∀c o,c≠z->c≠TO->c≠i1->c≠i2->s.heap.get? c=some o->h'.get? c=some o)->Q (some (.ref s.heap.objs.size)) { s with heap:=h' }):wpAny (model prog w) A (pyNext (.ref z)) Q E s:=by (have I:s.TypeIs (.ref z) "zip" := ⟨_,hz,rfl⟩) ;(unfold pyNext) ;(exact aa (wpAny_attempt (br (name:=Str.ofString "__next__") I dn (bH dn I F.entry_zip_next (Zh D hz hTI hTO h1 h2 hl1 hl2 hx hy λh' a1 Z U S O L J=>ag (hQ h' a1 Z U S O L J)) (F.args_zip_next_1 _)))))
theorem W8 {z TI TO i1 i2 l1 l2:Aj}{k1 k2:Nat}{xs ys:Array Ag}{a b:Ag}{Q:Option Ag->Ab->Prop}(hh:A.handled=none)(D:ZipApart z TI TO i1 i2 l1 l2)(hz:IsZip s.heap z TI TO .none)(hTI:IsPair s.heap TI (.ref i1) (.ref i2))(hTO:IsPair s.heap TO a b)(h1:s.heap.IsTupleIter i1 l1 k1)(h2:s.heap.IsTupleIter i2 l2 k2)(hl1:s.heap.IsTuple l1 xs)(hl2:s.heap.IsTuple l2 ys)(hend:xs[k1]?=none\/ys[k2]?=none)(hQ:∀h',(∀c o,c≠z->c≠TO->c≠i1->c≠i2->s.heap.get? c=some o->h'.get? c=some o)->Q none { s with heap:=h' }):wpAny (model prog w) A (pyNext (.ref z)) Q E s:=by (have I:s.TypeIs (.ref z) "zip" := ⟨_,hz,rfl⟩) ;(unfold pyNext) ;(refine aa (wpAny_attempt (br (name:=Str.ofString "__next__") I dn (bH dn I F.entry_zip_next (J1 hh D hz hTI hTO h1 h2 hl1 hl2 hend λh' e L O=>?_) (F.args_zip_next_1 _))))) ;(obtain⟨o,J,S⟩:=O);(refine aa (wpAny_isInstance (T := "StopIteration") (b:=true) ⟨o,J,S⟩ isSubtype_stop ?_)) ;(exact ag (hQ _ L))
end
abbrev qxp (h:Heap)(l1:Aj):Heap:=h.push { cls:=.type "tuple_iterator",data:=.fields #[.ref l1,.int 0 0] }
abbrev qx4 (h:Heap)(l1 l2:Aj):Heap:=(qxp h l1).push { cls:=.type "tuple_iterator",data:=.fields #[.ref l2,.int 0 0] }
abbrev qwf (h:Heap)(l1 l2:Aj):Heap:=(qx4 h l1 l2).push { cls:=.type "tuple",data:=.seq #[.ref h.objs.size,.ref (qxp h l1).objs.size] }
abbrev qxf (h:Heap)(l1 l2:Aj):Heap:=(qwf h l1 l2).push { cls:=.type "tuple",data:=.seq #[.none,.none] }
abbrev ud (h:Heap)(l1 l2:Aj):Heap:=(qxf h l1 l2).push { cls:=.type "zip",data:=.fields #[.none,.bool false,.bool false,.ref (qx4 h l1 l2).objs.size,.ref (qwf h l1 l2).objs.size] }
theorem Y3 (l1 l2:Aj)(xs ys:Array Ag):Meets (Builtin.«zip.__new__» ⟨[.type "zip",.ref l1,.ref l2],[]⟩) (λ_ R s=>s.heap.IsTuple l1 xs/\s.heap.IsTuple l2 ys/\R (.ok (.ret (.ref (qxf s.heap l1 l2).objs.size))) { s with heap:=ud s.heap l1 l2 }) :=
 .of_wp λprog w A R s h=>by obtain⟨hp,g,d,tk,os⟩:=s;obtain⟨t1,t2,h⟩:=h;have hsub:=sub_zip;have u1:Heap.IsTuple (Shared.heap ⟨hp,g,d,tk,os⟩) l1 xs:=t1;have u2:Heap.IsTuple (Shared.heap ⟨hp.push { cls:=.type "tuple_iterator",data:=.fields #[.ref l1,.int 0 0] },g,d,tk,os⟩) l2 ys:=Heap.IsTuple.push t2 _;wp_walk using wpAny_pyIter_tuple u1,wpAny_pyIter_tuple u2;exact⟨_,rfl,h⟩
section
variable {prog:Ac}{w:Ah}{A:Ae}{E:Ag->Ab->Prop}{s:Ab}
theorem wqy {l1 l2:Aj}{xs ys:Array Ag}{Q:Ag->Ab->Prop}(hl1:s.heap.IsTuple l1 xs)(hl2:s.heap.IsTuple l2 ys)(h:∀h',IsZip h' (s.heap.objs.size+4) (s.heap.objs.size+2) (s.heap.objs.size+3) .none->IsPair h' (s.heap.objs.size+2) (.ref s.heap.objs.size) (.ref (s.heap.objs.size+1))->IsPair h' (s.heap.objs.size+3) .none .none->h'.IsTupleIter s.heap.objs.size l1 0->h'.IsTupleIter (s.heap.objs.size+1) l2 0->h'.objs.size=s.heap.objs.size+5->(∀c o,s.heap.get? c=some o->h'.get? c=some o)->Q (.ref (s.heap.objs.size+4)) { s with heap:=h' }):wpAny (model prog w) A (call (.type "zip") [.ref l1,.ref l2]) Q E s:=by (refine callType_new F.called_zip ⋯ (F.typeCall_zip_2 _ _) (F.newCall_zip_2 _ _) (λad=>F.args_object_init_3 ad _ _) F.entry_zip_new (Y3 l1 l2 xs ys) ⟨hl1,hl2,?_⟩) ;(have O:(qxp s.heap l1).objs.size=s.heap.objs.size+1:=aU ..) ;(have L:(qx4 s.heap l1 l2).objs.size=s.heap.objs.size+2:=by rw[aU,O]) ;(have J:(qwf s.heap l1 l2).objs.size=s.heap.objs.size+3:=by rw[aU,L]);(have I:(qxf s.heap l1 l2).objs.size=s.heap.objs.size+4:=by rw[aU,J]) ;(have z5:(ud s.heap l1 l2).objs.size=s.heap.objs.size+5:=by rw[aU,I]) ;(have S:(ud s.heap l1 l2).get? (qxf s.heap l1 l2).objs.size=some _:=aj _ rfl) ;(have U:(ud s.heap l1 l2).get? (qwf s.heap l1 l2).objs.size=some _:=ac _ (aj _ rfl));(have Z:(ud s.heap l1 l2).get? (qx4 s.heap l1 l2).objs.size=some _:=ac _ (ac _ (aj _ rfl))) ;(have g2:(ud s.heap l1 l2).get? (qxp s.heap l1).objs.size=some _:=ac _ (ac _ (ac _ (aj _ rfl)))) ;(have g1:(ud s.heap l1 l2).get? s.heap.objs.size=some _:=ac _ (ac _ (ac _ (ac _ (aj _ rfl))))) ;(show _/\_);(rw[L,J,I]at S) ;(rw[O,L]at Z) ;(rw[J]at U) ;(rw[O]at g2);(rw[I]) ;(exact⟨⟨_,S,rfl⟩,h _ S Z U ⟨_,g1,rfl,rfl⟩ ⟨_,g2,rfl,rfl⟩ z5 λc o x=>ac _ (ac _ (ac _ (ac _ (ac _ x))))⟩)
end
end PySem
namespace L2
open PySem PySem.Spec PyProof.Rows
def ItZT (K:Aa)(a b:Aj)(xs ys:List V):It :=
 ⟨λi H=>SqT K H a xs/\SqT K H b ys/\i<xs.length/\i<ys.length,λi H v H'=>∃q x y,H q=none/\v=.ref q/\xs[i]?=some x/\ys[i]?=some y/\H'=upd H q (.tup [x,y]),λi H=>SqT K H a xs/\SqT K H b ys/\(xs.length<=i\/ys.length<=i)⟩
theorem qy6 {P:Ac}{w:Ah}{K:Aa}{es:List Expr}{k:Nat}{pos:Pos}(a b z TI TO i1 i2:Aj)(xs ys:List V)(ap:ZipApart z TI TO i1 i2 a b):Turn P w K (.Tuple es k pos) (ItZT K a b xs ys) [z,TI,TO,i1,i2] z
  (λi h=>IsZip h z TI TO .none/\IsPair h TI (.ref i1) (.ref i2)/\(∃u v,IsPair h TO u v)/\h.IsTupleIter i1 a i/\h.IsTupleIter i2 b i) where
 mem:=by simp
 obj:=λi h st c hc=>by
  obtain⟨h1,h2,⟨u,v,h3⟩,⟨o4,h4,c4,d4⟩,⟨o5,h5,c5,d5⟩⟩:=st;have hc':c=z\/c=TI\/c=TO\/c=i1\/c=i2:=by simpa using hc
  rcases hc' with rfl|rfl|rfl|rfl|rfl
  .exact⟨_,h1,λv z=>by cases z⟩
  .exact⟨_,h2,λv z=>by cases z⟩
  .exact⟨_,h3,λv z=>by cases z⟩
  .exact⟨_,h4,λv z=>by rw[d4]at z;cases z⟩
  .exact⟨_,h5,λv z=>by rw[d5]at z;cases z⟩
 keep:=λi h h' st k=>by obtain⟨h1,h2,⟨u,v,h3⟩,h4,h5⟩:=st;exact⟨k z (by simp) _ h1,k TI (by simp) _ h2,⟨u,v,k TO (by simp) _ h3⟩,h4.at λo e=>k i1 (by simp) o e,h5.at λo e=>k i2 (by simp) o e⟩
 item:=by
  intro X hP hw hK hc i pins s σ H E I hf st hg;subst hP hw hK;obtain⟨hq1,hq2,l1,l2⟩:=hg;obtain⟨its,rv,p,hz⟩:=I.tuple hq1;obtain⟨its2,rv2,p2,hz2⟩:=I.tuple hq2;have e1:xs[i]?=some xs[i]:=ai l1;have e2:ys[i]?=some ys[i]:=ai l2;obtain⟨u,hu,ru⟩:=rv.get e1;obtain⟨v,hv,rv'⟩:=rv2.get e2;obtain⟨h1,h2,⟨a0,b0,h3⟩,h4,h5⟩:=st;refine Q6 ap h1 h2 h3 h4 h5 p p2 (x:=u) (y:=v) (by simpa using hu) (by simpa using hv) λh' g1 g2 g3 g4 g5 g6 g7=>?_;refine⟨_,rfl,wpAny_letOwnedTupleGo_zip (s:={ s with heap:=h' }) g1 λh'' f1 f2=>?_⟩;have hsz:∀c,c∈[z,TI,TO,i1,i2]->c≠s.heap.objs.size:=λc hc e=>by
   have hc':c=z\/c=TI\/c=TO\/c=i1\/c=i2:=by simpa using hc
   have hlt:c<s.heap.objs.size:=by
    rcases hc' with rfl|rfl|rfl|rfl|rfl
    .exact ae h1
    .exact ae h2
    .exact ae h3
    .obtain⟨o,e,_⟩:=h4;exact ae e
    .obtain⟨o,e,_⟩:=h5;exact ae e
   exact aS _ (e▸hlt)
  have keep:∀c o,c∉[z,TI,TO,i1,i2]->s.heap.get? c=some o->h''.get? c=some o:=λc o nc e=>by simp only[av,aA,cK,not_or]at nc;rw[f2.2 c nc.1];exact g7 c o nc.1 nc.2.2.1 nc.2.2.2.1 nc.2.2.2.2 e
  have keepz:∀c o,c≠z->h'.get? c=some o->h''.get? c=some o:=λc o nc e=>(f2.2 c nc).trans e;have new:h''.get? s.heap.objs.size=some { cls:=.type "tuple",data:=.seq #[u,v] }:=keepz _ _ (ba (hsz z (by simp))) g5;have hTI:h''.get? TI=some { cls:=.type "tuple",data:=.seq #[.ref i1,.ref i2] }:=by refine keepz _ _ ap.TIz ?_;exact g7 TI _ ap.TIz ap.TITO ap.TIi1 ap.TIi2 h2
  refine⟨.ref s.heap.objs.size,_,Inv.turnedT (s:=s) (ch:=[z,TI,TO,i1,i2]) (tk:=s.toks) I keep new hf hsz (qyj I ru rv') rfl,rfl,⟨_,_,_,I.hok.fresh (af _),rfl,e1,e2,rfl⟩,⟨f1,hTI,⟨u,v,keepz _ _ ap.TOz g2⟩,g3.at λo e=>keepz _ _ ap.i1z e,g4.at λo e=>keepz _ _ ap.i2z e⟩,λc hc=>?_⟩;rw[wf (hsz c hc)];exact(hf c hc).1
 done:=by
  intro X hP hw hK hc i pins s σ H E I hf st hg;subst hP hw hK;obtain⟨hq1,hq2,le⟩:=hg;obtain⟨its,rv,p,hz⟩:=I.tuple hq1;obtain⟨its2,rv2,p2,hz2⟩:=I.tuple hq2;have hl:=rv.length;have hl2:=rv2.length;obtain⟨h1,h2,⟨a0,b0,h3⟩,h4,h5⟩:=st;refine W8 (I.ok.hd hc) ap h1 h2 h3 h4 h5 p p2 ?_ λh' g=>⟨rfl,Inv.turnedL (ch:=[z,TI,TO,i1,i2]) (tk:=s.toks) I (λc o nc e=>?_) hf⟩
  .rcases le with le|le
   .exact .inl (bG (by rw[au];lia))
   .exact .inr (bG (by rw[au];lia))
  .simp only[av,aA,cK,not_or]at nc;exact g c o nc.1 nc.2.2.1 nc.2.2.2.1 nc.2.2.2.2 e
 self:=λ_ _ _ _ _ st h=>wpAny_pyIter_zip st.1 h
section
variable {X:Cx}
def iZipT (K:Aa)(ta:TA):TI:=λσ H R=>ta σ H λvs H1=>∃a b xs ys,vs=[.ref a,.ref b]/\SqT K H1 a xs/\SqT K H1 b ys/\R (ItZT K a b xs ys) H1
theorem wvu {a b:Expr}{ta:TA}{p pos:Pos}{es:List Expr}{k:Nat}{tpos:Pos}(hg:Gl X "zip")(hm:X.mg "zip" = none)(ha:PA X [a,b] ta)(hv:autoParam (bootBuiltins "zip" = some (.type "zip")) aU4._auto_1)
  (hs:autoParam (starEach [a,b] X.env=[(false,eval a X.env),(false,eval b X.env)]) aU4._auto_1) (hs2:autoParam (starEach [b] X.env=[(false,eval b X.env)]) aU4._auto_1):PI X (.Tuple es k tpos) (.Call (.Name "zip" p) [a,b] [] pos) (iZipT X.K ta):=by
 intro pins s σ H R I h;refine Call_ (u3 I hg hm hv (bt (thn (ha pos pins s σ H _ I h) λus s1 ⟨vs,H1,I1,r1,q1⟩=>?_) (by rw[hs,hs2]) (by rw[hs2];rfl)));obtain⟨a,b,xs,ys,e,Z,U,q⟩:=q1;subst e;cases r1 with
 |cons r rr =>
  cases rr with
  |cons r' rr =>
   cases rr;cases r;cases r';obtain⟨ap,rv,p,hz⟩:=I1.tuple Z;obtain⟨an,ad,p2,a0⟩:=I1.tuple U;have S:a<s1.heap.objs.size:=by obtain⟨o,F,_⟩:=p;exact ae F
   have O:b<s1.heap.objs.size:=by obtain⟨o,F,_⟩:=p2;exact ae F
   refine wqy p p2 λh' L g2 g3 g4 g5 g6 g7=>?_;refine wpAny_pyIter_zip L ?_;have I2:Inv X pins σ H1 { s1 with heap:=h' }:=I1.kept (t':=s1.toks) g7;refine⟨s1.heap.objs.size+4,[s1.heap.objs.size+4,s1.heap.objs.size+2,s1.heap.objs.size+3,s1.heap.objs.size,s1.heap.objs.size+1],_,_,H1,rfl,I2,qy6 a b _ _ _ _ _ xs ys (zipApart_new S O),⟨L,g2,⟨_,_,g3⟩,g4,g5⟩,λc hc=>?_,q⟩;have J:s1.heap.objs.size<=c:=by
    have:c=s1.heap.objs.size+4\/c=s1.heap.objs.size+2\/c=s1.heap.objs.size+3\/c=s1.heap.objs.size\/c=s1.heap.objs.size+1:=by simpa using hc
    rcases this with e | e | e | e | e <;> (rw[e];first | exact af _ | exact Nat.le_add_right _ _)
   exact I1.fpOk J (I1.hok.fresh J)
end
theorem wxs {K:Aa}{a b:Aj}{xs ys:List V}{g:TG}{tb:TS}{D:Ends}{σ:St}{H:Hp}(Pv:Nat->St->Hp->Prop)(h0:Pv 0 σ H)(hl:∀i σ H,Pv i σ H->SqT K H a xs/\SqT K H b ys)
  (hs:∀i x y q σ H,xs[i]?=some x->ys[i]?=some y->H q=none->Pv i σ H->g (.ref q) σ (upd H q (.tup [x,y])) λσ2 H2=>tb { D with nx:=Pv (i+1),ct:=Pv (i+1),bk:=D.nx } σ2 H2) (hd:∀σ H,Pv (min xs.length ys.length) σ H->D.nx σ H) :
  ∃W:Nat->Nat->St->Hp->Prop,(∃m,W 0 m σ H)/\∀i m σ H,W i m σ H ->
   ((ItZT K a b xs ys).stop i H/\D.nx σ H)\/((ItZT K a b xs ys).go i H/\∃N:St->Hp->Prop,(∀σ' H',N σ' H'->∃m',m'<m/\W (i+1) m' σ' H')/\∀x H',(ItZT K a b xs ys).yld i H x H'->g x σ H' λσ2 H2=>tb { D with nx:=N,ct:=N,bk:=D.nx } σ2 H2):=by
 refine⟨λi m σ H=>m=min xs.length ys.length-i/\i<=min xs.length ys.length/\Pv i σ H,⟨_,rfl,aD _,h0⟩,?_⟩;rintro i m σ H ⟨rfl,hi,p⟩;have q:=hl i σ H p;by_cases hlt:i<min xs.length ys.length
 .refine .inr ⟨⟨q.1,q.2,⋯,⋯⟩,Pv (i+1),λσ' H' F=>⟨min xs.length ys.length-(i+1),⋯,rfl,hlt,F⟩,?_⟩;rintro v H' ⟨q',x,y,nq,rfl,ex,ey,rfl⟩;exact hs i x y q' σ H ex ey nq p
 .have:i=min xs.length ys.length:=by lia
  subst this;refine .inl ⟨⟨q.1,q.2,⋯⟩,hd σ H p⟩
end L2
namespace HT
open PySem PySem.Spec PyProof.Rows
section
variable {prog:Ac}{w:Ah}{A:Ae}{E:Ag->Ab->Prop}{s:Ab}
theorem getItem_tuple_all {t sl:Aj}{items:Array Ag}{vl vu:Ag}{lo hi:Option Int}{Q:Ag->Ab->Prop}(ht:IsTup s.heap t items)(hs:s.heap.IsSliceOf sl vl vu .none)(pl:IsPart vl lo)(pu:IsPart vu hi)
  (hw:sIx items.size 0 lo=0/\sIx items.size items.size hi=items.size) (h:Q (.ref t) s):wpAny (model prog w) A (getItem (.ref t) (.ref sl)) Q E s:=by
 obtain⟨os,I,J,O⟩:=id hs ;have L:s.TypeIs (.ref sl) "slice" := ⟨os,I,J⟩;unfold getItem ;(try with_reducible refine bn ?_) ;(first | refine aa (ag ?_) | skip) ;refine aa (wpAny_sequenceKey ht.typeIs ⋯ ?_);refine aa (br (name:=Str.ofString "__getitem__") ht.typeIs aY (bH aY ht.typeIs entry_tuple_getitem ?_ (args_tuple_getitem _ _)));show wpAny _ _ (Builtin.Tuple.tupleItemsOf (.ref t) >>= _) _ _ s ;refine aa (tupleItemsOf_ ht ?_) ;refine aa (eK L ?_) ;rw[ao ⋯] ;refine aa (j6 hs pl pu ?_);rw[hw.1,hw.2];have F:(((((0:Nat):Int))==0&&(1:Int)==1&&(items.size-0)==items.size)=true):=by simp
 show wpAny _ _ (if(((((0:Nat):Int))==0&&(1:Int)==1&&(items.size-0)==items.size)=true) then _ else _) _ _ s;rw[ao F] ;unfold Builtin.Tuple.tupleIsExact;refine aa (aa (eK ht.typeIs (ag ?_)));rw[ao ⋯]
 first
  |exact aa (cM (aa (ag ⟨_,rfl,ag h⟩)))
  |exact aa (cM (ag ⟨_,rfl,ag h⟩))
  |exact aa (cM (ag (ag ⟨_,rfl,ag h⟩)))
theorem cat_tup0 {t b:Aj}{ws:List Ag}{Q:Ag->Ab->Prop}(ht:IsTup s.heap t #[])(hb:IsTup s.heap b ws.toArray)(h:Q (.ref b) s):wpAny (model prog w) A (binaryOp .Add (.ref t) (.ref b)) Q E s:=by obtain⟨⟨a1,dd,ap,Z⟩,I,S,n,L⟩:=id ht ;obtain⟨⟨a0,ad,an,U⟩,F,O,n2,J⟩:=id hb;simp only at S L O J ;subst S L O J;exact concat_meets ⟨_,I,rfl⟩ ⟨_,F,rfl⟩ eh seq_tuple_add cO cN (cI _ _) (tuple_addW0 t b #[] ws.toArray n n2 dd ad Z U (by simp)) ⟨I,F,h⟩
end
end HT
namespace L2
open PySem PySem.Spec PyProof.Rows
section
variable {X:Cx}
def rSlW (K:Aa):V->Option Int->Option Int->Hp->VK->Prop:=λx lo hi H Q=>∃a xs,x=.ref a/\SqT K H a xs /\
 ((HT.sIx xs.length 0 lo=0/\HT.sIx xs.length xs.length hi=xs.length)->Q (.ref a) H)/\(¬ (HT.sIx xs.length 0 lo=0/\HT.sIx xs.length xs.length hi=xs.length)->∀p,H p=none->Q (.ref p) (upd H p (.tup (Wu xs lo hi))))
theorem qys:SlR X (rSlW X.K):=by
 intro pins s σ H x v Z U lo hi sl Q I F hs L J h;obtain⟨a,xs,rfl,O,q1,q2⟩:=h;by_cases hw:HT.sIx xs.length 0 lo=0/\HT.sIx xs.length xs.length hi=xs.length
 .cases F;obtain⟨ad,r,S,hz⟩:=I.tuple O;have an:ad.toArray.size=xs.length:=by rw[au];exact r.length.symm
  exact⟨"tuple",_,aY.lookup,S.typeIs,HT.getItem_tuple_all S hs L J (by rw[an];exact hw) ⟨.ref a,H,I,rfl,q1 hw⟩⟩
 .exact sl_tup pins s σ H (.ref a) v Z U lo hi sl Q I F hs L J ⟨a,xs,rfl,O,hw,q2 hw⟩
def rCatW (K:Aa):R2:=λx y H Q=>∃a b xs ys,x=.ref a/\y=.ref b/\SqT K H a xs/\SqT K H b ys/\xs.length+ys.length<=sizeLine /\
 (xs=[]->Q (.ref b) H)/\(xs≠[]->ys=[]->Q (.ref a) H)/\(xs≠[]->ys≠[]->∀p,H p=none->Q (.ref p) (upd H p (.tup (xs++ys))))
theorem wzp:OpR X (binaryOp .Add) (rCatW X.K):=by
 intro pins s σ H x y v u Q I J F h;obtain⟨a,b,xs,ys,rfl,rfl,O,L,hz,q0,Z,U⟩:=h;by_cases hx:xs=[]
 .subst hx;cases J;cases F;obtain⟨an,S,p1,_⟩:=I.tuple O;obtain⟨ad,r2,p2,_⟩:=I.tuple L;cases S;exact HT.cat_tup0 p1 p2 ⟨.ref b,H,I,rfl,q0 rfl⟩
 .exact wkw pins s σ H (.ref a) (.ref b) v u Q I J F ⟨a,b,xs,ys,rfl,rfl,O,L,hx,hz,Z hx,U hx⟩
end
end L2
namespace L2
open PySem PySem.Spec PyProof.Rows
theorem PE.weak {X:Cx}{e:Expr}{t t':TE}(h:PE X e t)(w:∀σ H Q,t' σ H Q->t σ H Q):PE X e t':=λpins s σ H Q I q=>h pins s σ H Q I (w σ H Q q)
def tRot (K:Aa)(i:Nat):TE:=λσ H Q=>Wx i σ H λx H1=>∃a xs,x=.ref a/\H1=H/\SqT K H a xs/\1<=xs.length/\xs.length<=1000/\∀b H',Same H H'->SqT K H' b (xs.drop 1++xs.take 1)->Q (.ref b) H'
theorem qzh {xs:List V}(h:1<=xs.length)(d:Nat):HT.sIx xs.length d (some 1)=1:=by show HT.sIx xs.length d (some ((1:Nat):Int))=1;rw[HT.sIx_nat];lia
theorem pe_rot {X:Cx}{e:Expr}{i:Nat}(h:PE X e (tOp (rCatW X.K) (tSl (rSlW X.K) (Wx i) (wzk (tC (.int 1))) qwh) (tSl (rSlW X.K) (Wx i) qwh (wzk (tC (.int 1)))))):PE X e (tRot X.K i):=by
 refine h.weak λσ H Q q=>?_;obtain⟨x,e,a,xs,rfl,_,J,h1,hl,k⟩:=q;have ad:(1000000:Nat)<sizeLine:=by decide
 have c1:Wu xs (some 1) none=xs.drop 1:=by unfold Wu;rw[HT.sIx_none,qzh h1,List.take_of_length_le];rw[cZ];exact af _
 have c2:Wu xs none (some 1)=xs.take 1:=by unfold Wu;rw[HT.sIx_none,qzh h1,List.drop_zero]
 refine⟨_,e,1,rfl,a,xs,rfl,J,λw=>absurd w.1 (by rw[qzh h1];decide),λ_ p np=>?_⟩;rw[c1];have I:=Same.upd (o:=.tup (xs.drop 1)) np;refine⟨_,e,1,rfl,a,xs,rfl,I.sqt J,λw=>?_,λw p2 U=>?_⟩
 .have Z:xs.length=1:=by have:=w.2;rw[qzh h1]at this;exact this.symm
  have F:xs.drop 1=[]:=List.drop_eq_nil_iff.mpr ⋯;have L:xs.take 1=xs:=List.take_of_length_le ⋯;have hk:SqT X.K (upd H p (.tup (xs.drop 1))) a (xs.drop 1++xs.take 1):=by
   have e2:xs.drop 1++xs.take 1=xs:=by rw[F,L,List.nil_append]
   rw[e2];exact I.sqt J
  refine⟨p,a,_,xs,rfl,rfl,SqT.new,I.sqt J,by rw[F];show 0+xs.length<=sizeLine;lia,λ_=>k a _ I hk,λz=>absurd F z,λz=>absurd F z⟩
 .rw[c2];have Z:¬ xs.length=1:=λz=>w ⟨rfl,by rw[qzh h1];exact z.symm⟩;have s2:=Same.upd (H:=upd H p (.tup (xs.drop 1))) (o:=.tup (xs.take 1)) U;have F:xs.drop 1≠[]:=λz=>by have:=List.drop_eq_nil_iff.mp z;lia
  have L:xs.take 1≠[]:=λz=>(List.take_eq_nil_iff.mp z).elim (λz=>nomatch z) λz=>by rw[z]at h1;exact absurd h1 ⋯
  refine⟨p,p2,_,_,rfl,rfl,s2.sqt SqT.new,SqT.new,by rw[cZ,bD];lia,λz=>absurd z F,λ_ z=>absurd z L,λ_ _ O S=>k O _ (I.trans (s2.trans (Same.upd S))) SqT.new⟩
end L2
namespace L2
open PySem PySem.Spec PyProof.Rows
def Rows (q:Aj)(B:Hp)(L:List (List V))(ys:List V)(H:Hp):Prop:=Paired (λv xs=>∃a,v=.ref a/\a≠q/\B a=none/\H a=some (.lst xs)) ys L
theorem zw {H H':Hp}(s:Same H H'){a:Aj}(n:H' a=none):H a=none:=by
 cases e:H a with
 |none=>rfl
 |some o=>rw[s _ _ e]at n;cases n
def Z0 (c:Nat->Bool)(xs:List V)(n:Nat):List V:=((List.range n).filter c).map λi=>xs.getD i .non
theorem qkv {K:Aa}{M:List Nat}{a:Aj}{xs:List V}{tt:TT}{te:TE}{σ:St}{H:Hp}{Q:VK}(c:Nat->Bool)(hS:SqL K H a xs)(hn:xs.length<=1000000)
  (ht:∀(i:Nat) (x:V) (H':Hp) (R:Bool->Hp->Prop),xs[i]?=some x->Same H H'->(∀H'',Same H' H''->R (c i) H'')->tt (zg M σ (some x)) H' R)
  (he:∀(i:Nat) (x:V) (H':Hp) (R:VK),xs[i]?=some x->c i=true->Same H H'->(∀H'',Same H' H''->R x H'')->te (zg M σ (some x)) H' R)
  (k:∀p H',H p=none->Same H H'->H' p=some (.lst (Z0 c xs xs.length))->Q (.ref p) H'):qkx (Itl K a) M tt te σ H Q:=by
 intro p np;refine⟨λi m ys H2=>i<=xs.length/\m=xs.length-i/\ys=Z0 c xs i/\Same H H2/\H2 p=some (.lst ys),⟨xs.length,aD _,rfl,rfl,Same.upd np,wj⟩,?_⟩;rintro i m ys H2 ⟨hi,rfl,rfl,sm,hp⟩;refine⟨hp,?_,?_⟩
 .unfold Z0;rw[ah];have:=cV c (List.range i);rw[aL]at this;have:(1000000:Nat)<sizeLine:=by decide
  lia
 .by_cases hlt:i<xs.length
  .have F:xs[i]?=some xs[i]:=ai hlt;refine .inr ⟨⟨xs,_,sm.sql hS,F⟩,?_⟩;rintro v H3 ⟨rfl,hv⟩;have e:=al (F.symm.trans (hv xs (sm.sql hS)));subst e;refine ht i _ _ _ F sm λU I=>?_;have J:=I _ _ hp;have O:xs.getD i .non=xs[i]:=by rw[am,F];rfl
   cases hc:c i with
   |true =>
    refine uc ?_;refine he i _ _ _ F hc (sm.trans I) λS L=>⟨L _ _ J,xs.length-(i+1),⋯,⋯,rfl,?_,λb o e=>?_,wj⟩
    .unfold Z0;rw[ck,List.filter_append,bo];simp only[bE,hc,dU,List.filter_nil,ay,bj,O]
    .rw[wf (wz e np)];exact L _ _ (I _ _ (sm _ _ e))
   |false =>
    refine Y0 ?_;refine⟨J,xs.length-(i+1),⋯,⋯,rfl,?_,sm.trans I,J⟩;unfold Z0;rw[ck,List.filter_append,bo];simp only[bE,hc,dM,eU,List.filter_nil,bj,bB]
  .have:i=xs.length:=by lia
   subst this;exact .inl ⟨⟨xs,sm.sql hS,af _⟩,k p H2 np sm hp⟩
end L2
namespace L2
open PySem PySem.Spec PyProof.Rows
def Bef (a:Array Ai)(p q:Nat):Prop:=K a p<K a q\/(K a p=K a q/\p<q)
structure From (a xs:Array Ai)(k:Nat)(ix:Nat->Nat):Prop where
 at_:∀i,xs[i]?=a[ix i]?
 rest:∀i,k<=i->ix i=i
 low:∀i,i<k->ix i<k
theorem From.key {a xs:Array Ai}{k:Nat}{ix:Nat->Nat}(f:From a xs k ix)(i:Nat):K xs i=K a (ix i):=K_congr (f.at_ i)
theorem From.more {a xs:Array Ai}{k:Nat}{ix:Nat->Nat}(f:From a xs k ix):From a xs (k+1) ix :=
 ⟨f.at_,λi h=>f.rest i ⋯,λi h=>by
  by_cases e:i<k
  .have:=f.low i e;lia
  .have:=f.rest i ⋯;lia⟩
theorem From.mirror {a xs:Array Ai}{k b:Nat}{ix:Nat->Nat}(f:From a xs k ix)(hk:k<=xs.size):From a (mirror xs b k ((k-b)/2)) k (λi=>if b<=i/\i<k then ix (b+k-1-i) else ix i):=by
 refine⟨λi=>?_,λi h=>?_,λi h=>?_⟩
 .rw[getElem?_mirror_all hk];by_cases c:b<=i/\i<k
  .simp only[ao c];exact f.at_ _
  .simp only[ak c];exact f.at_ _
 .simp only[ak (show ¬ (b<=i/\i<k) by lia)];exact f.rest i h
 .by_cases c:b<=i/\i<k
  .simp only[ao c];exact f.low _ ⋯
  .simp only[ak c];exact f.low i h
def Up (a xs:Array Ai)(k:Nat):Prop:=∃ix,From a xs k ix/\∀i j,i<j->j<k->Bef a (ix i) (ix j)
def Dr (a xs:Array Ai)(k:Nat):Prop:=∃ix,From a xs k ix/\∀i j,i<j->j<k->Bef a (ix j) (ix i)
def Dn (a xs:Array Ai)(k e:Nat):Prop:=e+1<=k/\∃ix,From a xs k ix/\(∀i j,i<j->j<k-(e+1)->Bef a (ix j) (ix i))/\(∀i j,i<k-(e+1)->k-(e+1)<=j->j<k->K a (ix j)<K a (ix i)) /\
 ∀i j,k-(e+1)<=i->i<j->j<k->K a (ix i)=K a (ix j)/\ix i<ix j
section
variable {a xs:Array Ai}{k e:Nat}
theorem Up.le (h:Up a xs k){i j:Nat}(hij:i<=j)(hj:j<k):K xs i<=K xs j:=by
 obtain⟨ix,f,o⟩:=h;rw[f.key,f.key];by_cases c:i=j
 .subst c;exact Int.le_refl _
 .rcases o i j ⋯ hj with h|h <;> lia
theorem Up.grow (h:Up a xs k)(hk:1<=k)(hn:¬ K xs k<K xs (k-1)):Up a xs (k+1):=by
 obtain⟨I,f,o⟩:=h;rw[f.key,f.key,f.rest k (af _)]at hn;refine⟨I,f.more,λi j F L=>?_⟩;by_cases c:j<k
 .exact o i j F c
 .obtain rfl:j=k:=by lia
  have J:=f.low i F;rw[f.rest j (af _)];unfold Bef;by_cases c2:i=j-1
  .subst c2;lia
  .rcases o i (j-1) ⋯ ⋯ with h|h <;> lia
theorem Dr.up (h:Dr a xs k)(hk:k<=xs.size):Up a (mirror xs 0 k ((k-0)/2)) k:=by obtain⟨F,f,o⟩:=h;refine⟨_,f.mirror hk,λi j J I=>?_⟩;simp only[ao (show 0<=i/\i<k by lia),ao (show 0<=j/\j<k by lia)];exact o _ _ ⋯ ⋯
theorem Dn.flat (h:Dn a xs k 0):Dr a xs k:=by
 obtain⟨h0,ix,f,o1,o2,o3⟩:=h;refine⟨ix,f,λi j hij hj=>?_⟩;by_cases c:j<k-(0+1)
 .exact o1 i j hij c
 .exact .inl (o2 i j ⋯ ⋯ hj)
theorem Dn.turn (h:Dn a xs k e)(hk:k<=xs.size):Dr a (mirror xs (k-(e+1)) k ((k-(k-(e+1)))/2)) k:=by
 obtain⟨U,O,f,J,I,F⟩:=h;refine⟨_,f.mirror hk,λi j L S=>?_⟩;by_cases c1:k-(e+1)<=i
 .simp only[ao (show k-(e+1)<=i/\i<k by lia),ao (show k-(e+1)<=j/\j<k by lia)];exact .inr (F _ _ ⋯ ⋯ ⋯)
 .simp only[ak (show ¬ (k-(e+1)<=i/\i<k) by lia)];by_cases c2:k-(e+1)<=j
  .simp only[ao (show k-(e+1)<=j/\j<k by lia)];exact .inl (I _ _ ⋯ ⋯ ⋯)
  .simp only[ak (show ¬ (k-(e+1)<=j/\j<k) by lia)];exact J i j L ⋯
theorem Dr.grow (h:Dr a xs k)(hk:1<=k)(hn:K xs k<K xs (k-1)):Dn a xs (k+1) 0:=by
 obtain⟨F,f,o⟩:=h;rw[f.key,f.key,f.rest k (af _)]at hn;refine⟨⋯,F,f.more,λi j I J=>o i j I ⋯,λi j hi h1 h2=>?_,λi j h1 h2 L=>by lia⟩;obtain rfl:j=k:=by lia
 rw[f.rest j (af _)];by_cases c:i=j-1
 .subst c;exact hn
 .rcases o i (j-1) ⋯ ⋯ with h|h <;> lia
theorem Dn.grow (h:Dn a xs k e)(h1:¬ K xs k<K xs (k-1))(h2:¬ K xs (k-1)<K xs k):Dn a xs (k+1) (e+1):=by
 obtain⟨h0,S,f,O,J,I⟩:=h;rw[f.key,f.key,f.rest k (af _)]at h1 h2;have F:k+1-(e+1+1)=k-(e+1):=by lia
 refine⟨⋯,S,f.more,?_,?_,?_⟩
 .rw[F];exact O
 .rw[F];intro i j hi U Z;by_cases c:j<k
  .exact J i j hi U c
  .obtain rfl:j=k:=by lia
   rw[f.rest j (af _)];have:=J i (j-1) hi ⋯ ⋯;lia
 .rw[F];intro i j hi L hj;by_cases c:j<k
  .exact I i j hi L c
  .obtain rfl:j=k:=by lia
   rw[f.rest j (af _)];refine⟨?_,f.low i L⟩;by_cases c2:i=j-1
   .subst c2;lia
   .have:=(I i (j-1) hi ⋯ ⋯).1;lia
theorem Up.even (h:Up a xs k)(hk:1<=k)(hz:k<=xs.size)(hr:¬ K xs 0<K xs (k-1)):Dr a (mirror xs 0 k ((k-0)/2)) k:=by
 have I:=@Up.le a xs k h;obtain⟨F,f,o⟩:=h;have J:∀i,i<k->K a (F i)=K a (F 0):=λi hi=>by have O:=I (i:=0) (j:=i) ⋯ hi;have L:=I (i:=i) (j:=k-1) ⋯ ⋯;rw[f.key,f.key]at O L hr;lia
 refine⟨_,f.mirror hz,λi j U S=>?_⟩;simp only[ao (show 0<=i/\i<k by lia),ao (show 0<=j/\j<k by lia)];have O:=J (0+k-1-i) ⋯;have L:=J (0+k-1-j) ⋯;rcases o (0+k-1-j) (0+k-1-i) ⋯ ⋯ with h|h
 .exact .inl h
 .exact .inr h
theorem Up.put (h:Up a xs k)(hk:k<xs.size){l:Nat}(hl:l<=k)(h1:∀i,i<l->K xs i<=K xs k)(h2:∀i,l<=i->i<k->K xs k<K xs i):Up a (bubble xs k (k-l)) (k+1):=by
 obtain⟨F,f,o⟩:=h;have L:k-(k-l)=l:=by lia
 have I:=f.rest k (af _);refine⟨λi=>if i=l then k else if l<i/\i<=k then F (i-1) else F i,⟨λi=>?_,λi hi=>?_,λi hi=>?_⟩,λi j O S=>?_⟩
 .rw[getElem?_bubble hk _ ⋯,L];by_cases c:i=l
  .simp only[ao c];rw[f.at_,I]
  .simp only[ak c];by_cases c2:l<i/\i<=k
   .simp only[ao c2];exact f.at_ _
   .simp only[ak c2];exact f.at_ _
 .simp only[ak (show ¬ i=l by lia),ak (show ¬ (l<i/\i<=k) by lia)];exact f.rest i ⋯
 .by_cases c:i=l
  .simp only[ao c];lia
  .simp only[ak c];by_cases c2:l<i/\i<=k
   .simp only[ao c2];have:=f.low (i-1) ⋯;lia
   .simp only[ak c2];have:=f.low i ⋯;lia
 .have J:∀i,i<k->(i<l->K a (F i)<=K a k)/\(l<=i->K a k<K a (F i)):=λi hi=>by
   refine⟨λc=>?_,λc=>?_⟩
   .have:=h1 i c;rw[f.key,f.key,I]at this;exact this
   .have:=h2 i c hi;rw[f.key,f.key,I]at this;exact this
  by_cases ci:i=l
  .simp only[ao ci,ak (show ¬ j=l by lia),ao (show l<j/\j<=k by lia)];exact .inl ((J (j-1) ⋯).2 ⋯)
  .by_cases cj:j=l
   .simp only[ak ci,ao cj,ak (show ¬ (l<i/\i<=k) by lia)];have Z:=(J i ⋯).1 ⋯;have U:=f.low i ⋯;unfold Bef;lia
   .simp only[ak ci,ak cj];by_cases c3:l<i
    .simp only[ao (show l<i/\i<=k by lia),ao (show l<j/\j<=k by lia)];exact o _ _ ⋯ ⋯
    .simp only[ak (show ¬ (l<i/\i<=k) by lia)];by_cases c4:l<j
     .simp only[ao (show l<j/\j<=k by lia)];exact o _ _ ⋯ ⋯
     .simp only[ak (show ¬ (l<j/\j<=k) by lia)];exact o _ _ O ⋯
end
section
variable {prog:Ac}{w:Ah}{A:Ae}{E:Ag->Ab->Prop}{s:Ab}{a₀:Array Ai}
end
end L2
namespace L2
open PySem PySem.Spec PyProof.Rows
theorem qqp:∀(n:Nat) (l:List Nat),l.Nodup->(∀x∈l,x<n)->l.length<=n
 |0,l,_,h=>by
  cases l with
  |nil=>exact af _
  |cons x l=>exact absurd (h x (bV ..)) (Nat.not_lt_zero _)
 |n+1,l,hn,h=>by
  have a1:=qqp n (l.erase n) (hn.erase n) λx hx=>by
   have hm:=List.mem_of_mem_erase hx;have:=h x hm;by_cases e:x=n
   .subst e;exact absurd hx (hn.not_mem_erase)
   .lia
  have a2:l.length<=(l.erase n).length+1:=by rw[List.length_erase];split <;> lia
  lia
theorem qq7:∀(n:Nat) (l:List Nat),l.Nodup->(∀x∈l,x<n)->l.length=n->l.Perm (List.range n)
 |0,l,_,_,e=>by rw[List.length_eq_zero_iff.mp e];exact List.Perm.refl _
 |n+1,l,hn,h,e=>by
  have hm:n∈l:=by
   apply cD;intro c;have:=qqp n l hn λx F=>by
    have:=h x F;by_cases e:x=n
    .subst e;exact absurd F c
    .lia
   lia
  have I:=qq7 n (l.erase n) (hn.erase n) (λx F=>by
   have:=h x (List.mem_of_mem_erase F)
   by_cases e:x=n
   .subst e;exact absurd F hn.not_mem_erase
   .lia) (by rw[List.length_erase,ao (by simpa using hm)];lia)
  rw[ck];exact(List.perm_cons_erase hm).trans ((I.cons n).trans (List.perm_append_comm (l₁:=[n])))
theorem Up.places {a xs:Array Ai}(h:Up a xs a.size)(hz:xs.size=a.size):∃il:List Nat,il.Perm (List.range a.size)/\il.Pairwise (Bef a)/\xs.toList=il.map λi=>a.getD i (.none,.none):=by
 obtain⟨I,f,o⟩:=h;have F:((List.range a.size).map I).Pairwise (Bef a):=by rw[dX];refine List.Pairwise.imp_of_mem (R:=(·<·)) (λ{i j} hi hj hij=>?_) List.pairwise_lt_range;exact o i j hij (bd.mp hj)
 refine⟨(List.range a.size).map I,qq7 _ _ ?_ ?_ (by rw[ah,aL]),F,?_⟩
 .refine F.imp λ{i j} h e=>?_;subst e;unfold Bef at h;lia
 .intro x J;obtain⟨i,hi,rfl⟩:=aF.mp J;exact f.low i (bd.mp hi)
 .refine cv λi=>?_;rw[bw,aI,Array.getElem?_toList,f.at_];by_cases c:i<a.size
  .rw[cG c];have:=f.low i c;simp[Array.getD,this]
  .rw[f.rest i ⋯,bG ⋯,aK (by rw[aL];lia)];rfl
end L2
namespace L2
open PySem PySem.Spec PySem.W PyProof.Rows
section
variable {n:Nat}{im:Nat->Ai}{kz:Nat->Int}{ask:Nat->Nat->(Bool->Ab->Prop)->Ab->Prop}{s:Ab}
def Gd (n:Nat)(p:Array Nat):Prop:=p.Perm (List.toArray (List.range n))
theorem Gd.size {p:Array Nat}(h:Gd n p):p.size=n:=by have:=Array.Perm.size_eq h;simpa using this
theorem Gd.lt {p:Array Nat}(h:Gd n p){i:Nat}(hi:i<n):p.getD i 0<n:=by
 have hs:=h.size;have m:p[i]'⋯∈p:=Array.getElem_mem _;have:=(Array.Perm.mem_iff h).mp m;have e:p.getD i 0=p[i]'⋯:=by simp[Array.getD,hs,hi]
 rw[e];simpa using this
theorem Gd.rev {p:Array Nat}(h:Gd n p)(i j:Nat):Gd n (kas_rev p i j):=(mirror_perm _ _ _ _).trans h
theorem Gd.bub {p:Array Nat}(h:Gd n p)(i j:Nat):Gd n (bubble p i j):=(bubble_perm _ _ _).trans h
def ixA (n:Nat)(im:Nat->Ai):Array Ai:=(List.toArray (List.range n)).map im
theorem Zc (p:Array Nat)(i j:Nat):(kas_rev p i j).map im=mirror (p.map im) i j ((j-i)/2):=by unfold kas_rev mirror;exact(kas_swaps_map im _ _ _ p).symm
theorem wz0 (p:Array Nat)(i j:Nat):(bubble p i j).map im=bubble (p.map im) i j:=by unfold bubble;exact(kas_swaps_map im _ _ _ p).symm
def KyI (im:Nat->Ai)(kz:Nat->Int):Prop:=∀(p:Array Nat) i,i<p.size->K (p.map im) i=kz (p.getD i 0)
def Yn (n:Nat)(kz:Nat->Int)(ask:Nat->Nat->(Bool->Ab->Prop)->Ab->Prop)(s:Ab):Prop:=∀i j C,i<n->j<n->C (decide (kz i<kz j)) s->ask i j C s
theorem Yh {p:Array Nat}{i j:Nat}{C:Bool->Ab->Prop}(ha:Yn n kz ask s)(hk:KyI im kz)(g:Gd n p)(hi:i<n)(hj:j<n)
  (h1:K (p.map im) i<K (p.map im) j->C true s) (h2:¬ K (p.map im) i<K (p.map im) j->C false s):ask (p.getD i 0) (p.getD j 0) C s:=by
 refine ha _ _ _ (g.lt hi) (g.lt hj) ?_;rw[hk p i (by rw[g.size];exact hi),hk p j (by rw[g.size];exact hj)]at h1 h2;by_cases c:kz (p.getD i 0)<kz (p.getD j 0)
 .simp only[c,decide_true];exact h1 c
 .simp only[c,decide_false];exact h2 c
theorem qjw {p:Array Nat}{e:Nat}{Q:Nat->Ab->Prop}(ha:Yn n kz ask s)(hk:KyI im kz)(g:Gd n p)(he:e<=n):∀(f b:Nat),1<=b->b+f=e->Up (ixA n im) (p.map im) b ->
  (∀m,b<=m->m<=e->Up (ixA n im) (p.map im) m->(m=e\/K (p.map im) m<K (p.map im) (m-1))->Q m s)->(kas_asc p f b).kasWp ask Q s
 |0,b,_,hb,u,h=>h b (af _) ⋯ u (.inl ⋯)
 |f+1,b,h1,hb,u,h=>by
  refine Yh ha hk g ⋯ ⋯ (λc=>?_) λc=>?_
  .exact h b (af _) ⋯ u (.inr c)
  .exact qjw ha hk g he f (b+1) ⋯ ⋯ (u.grow h1 c) λm a1 a2 a3 a4=>h m ⋯ a2 a3 a4
theorem qyr {p:Array Nat}{k e:Nat}{Q:Nat×Array Nat->Ab->Prop}(ha:Yn n kz ask s)(hk:KyI im kz)(g:Gd n p)(he:e<=n)(h1:1<=k)(hke:k<=e)(d:Dr (ixA n im) (p.map im) k)
  (h:∀m q,Gd n q->1<=m->m<=e->Up (ixA n im) (q.map im) m->Q (m,q) s):(kas_tail3 k e p).kasWp ask Q s:=by
 unfold kas_tail3;rw[KasT.kasWp_bind];refine qjw ha hk (g.rev 0 k) he (e-k) k h1 ⋯ ?_ λm J I F _=>h m _ (g.rev 0 k) ⋯ I F;rw[Zc];exact d.up (by rw[cA,g.size];lia)
theorem Zb {e:Nat}{Q:Array Nat×Nat×Nat->Ab->Prop}(ha:Yn n kz ask s)(hk:KyI im kz)(he:e<=n):∀(f:Nat) (p:Array Nat) (x q:Nat),Gd n p->x+f=e->Dn (ixA n im) (p.map im) x q ->
  (∀m r p',Gd n p'->x<=m->m<=e->Dn (ixA n im) (p'.map im) m r->Q (p',m,r) s)->(kas_desc f p x q).kasWp ask Q s
 |0,p,x,q,g,hx,d,h=>h x q p g (af _) ⋯ d
 |f+1,p,x,q,g,hx,d,h=>by
  have hx1:1<=x:=by have:=d.1;lia
  have O:x<=(p.map im).size:=by rw[cA,g.size];lia
  refine Yh ha hk g ⋯ ⋯ (λc=>?_) λc=>?_
  .show KasT.kasWp ask (if q>0 then kas_desc f (kas_rev p (x-(q+1)) x) (x+1) 0 else kas_desc f p (x+1) 0) Q s;by_cases F:q>0
   .rw[ao F];refine Zb ha hk he f _ (x+1) 0 (g.rev _ _) ⋯ ?_ λm r p' L U J I=>h m r p' L ⋯ J I;rw[Zc];refine(d.turn O).grow hx1 ?_;rw[K_mirror O,K_mirror O,ak ⋯,ao (by have:=d.1;lia)];obtain⟨hq,ix,S,_,_,Z⟩:=id d;by_cases c3:x-(q+1)+x-1-(x-1)=x-1
    .rw[c3];exact c
    .have:=(Z (x-(q+1)+x-1-(x-1)) (x-1) ⋯ ⋯ ⋯).1;rw[<-S.key,<-S.key]at this;lia
   .rw[ak F];obtain rfl:q=0:=by lia
    exact Zb ha hk he f p (x+1) 0 g ⋯ (d.flat.grow hx1 c) λm r p' L U J I=>h m r p' L ⋯ J I
  .refine Yh ha hk g ⋯ ⋯ (λF=>?_) λF=>?_
   .exact h x q p g (af _) ⋯ d
   .exact Zb ha hk he f p (x+1) (q+1) g ⋯ (d.grow c F) λm r p' L U J I=>h m r p' L ⋯ J I
theorem qyz {p:Array Nat}{k e:Nat}{Q:Nat×Array Nat->Ab->Prop}(ha:Yn n kz ask s)(hk:KyI im kz)(g:Gd n p)(he:e<=n)(hke:k+1<=e)(d:Dn (ixA n im) (p.map im) (k+1) 0)
  (h:∀m q,Gd n q->1<=m->m<=e->Up (ixA n im) (q.map im) m->Q (m,q) s):(kas_descPart k e p).kasWp ask Q s:=by
 unfold kas_descPart;rw[KasT.kasWp_bind];refine Zb ha hk he (e-(k+1)) p (k+1) 0 g ⋯ d λm r L F S J I=>?_;have O:m<=(L.map im).size:=by rw[cA,F.size];lia
 dsimp only;by_cases c:r>0
 .rw[ao c];refine qyr ha hk (F.rev _ _) he ⋯ J ?_ h;rw[Zc];exact I.turn O
 .rw[ak c];obtain rfl:r=0:=by lia
  exact qyr ha hk F he ⋯ J I.flat h
theorem wq4 {e:Nat}{Q:Nat×Array Nat->Ab->Prop}(ha:Yn n kz ask s)(hk:KyI im kz)(he:e<=n)(h1:1<=e)
  (h:∀m q,Gd n q->1<=m->m<=e->Up (ixA n im) (q.map im) m->Q (m,q) s):(kas_count e (List.toArray (List.range n))).kasWp ask Q s:=by
 have g:Gd n (List.toArray (List.range n)):=Array.Perm.refl _;have O:Up (ixA n im) ((List.toArray (List.range n)).map im) 1:=⟨id,⟨λi=>rfl,λi _=>rfl,λi z=>z⟩,λi j a b=>by lia⟩;unfold kas_count;rw[KasT.kasWp_bind];refine qjw ha hk g he (e-1) 1 (af _) ⋯ O λm F J u U=>?_;have I:m<=((List.toArray (List.range n)).map im).size:=by rw[cA,g.size];lia
 by_cases c:m=e
 .rw[ao (bY.mpr c)];exact h m _ g F J u
 .have Z:=U.resolve_left c;rw[ak (λz=>c (bY.mp z))];by_cases c2:m>1
  .rw[ao c2];refine Yh ha hk g ⋯ ⋯ (λL=>?_) λL=>?_
   .exact h m _ g F J u
   .refine qyz ha hk (g.rev 0 m) he ⋯ ?_ h;rw[Zc];refine(u.even F I L).grow F ?_;rw[K_mirror I,K_mirror I,ak ⋯,ao ⋯];have e1:=u.le (i:=0) (j:=0+m-1-(m-1)) ⋯ ⋯;have e2:=u.le (i:=0+m-1-(m-1)) (j:=m-1) ⋯ ⋯;lia
  .rw[ak c2];obtain rfl:m=1:=by lia
   obtain⟨S,f,o⟩:=u;exact qyz ha hk g he ⋯ (Dr.grow ⟨S,f,λi j a b=>by lia⟩ ⋯ Z) h
theorem Yj {p:Array Nat}{k:Nat}{Q:Nat->Ab->Prop}(ha:Yn n kz ask s)(hk:KyI im kz)(g:Gd n p)(hkn:k<n)(u:Up (ixA n im) (p.map im) k)
  (h:∀l,l<=k->(∀i,i<l->K (p.map im) i<=K (p.map im) k)->(∀i,l<=i->i<k->K (p.map im) k<K (p.map im) i)->Q l s):∀(f l r:Nat),l<=r->r<=k->r-l<=f->(∀i,i<l->K (p.map im) i<=K (p.map im) k)->(∀i,r<=i->i<k->K (p.map im) k<K (p.map im) i) ->
  (kas_place p k f l r).kasWp ask Q s
 |0,l,r,a1,a2,a3,a4,a5=>by
  obtain rfl:l=r:=by lia
  exact h l a2 a4 a5
 |f+1,l,r,a1,a2,a3,a4,a5=>by
  unfold kas_place;by_cases c1:l>=r
  .rw[ao c1];obtain rfl:l=r:=by lia
   exact h l a2 a4 a5
  .rw[ak c1];refine Yh ha hk g ⋯ ⋯ (λJ=>?_) λJ=>?_
   .exact Yj ha hk g hkn u h f l ((l+r)/2) ⋯ ⋯ ⋯ a4 λi I F=>by have:=u.le I F;lia
   .exact Yj ha hk g hkn u h f ((l+r)/2+1) r ⋯ ⋯ ⋯ (λi z=>by have:=u.le (i:=i) (j:=(l+r)/2) ⋯ ⋯;lia) a5
theorem wwt {Q:Array Nat->Ab->Prop}(ha:Yn n kz ask s)(hk:KyI im kz)(h:∀q,Gd n q->Up (ixA n im) (q.map im) n->Q q s):∀(f:Nat) (p:Array Nat) (k:Nat),Gd n p->1<=k->k+f=n->Up (ixA n im) (p.map im) k ->
  (kas_bin f p k).kasWp ask Q s
 |0,p,k,g,_,e,u=>by
  obtain rfl:k=n:=by lia
  exact h p g u
 |f+1,p,k,g,k1,e,u=>by
  unfold kas_bin;rw[KasT.kasWp_bind];refine Yj ha hk g ⋯ u (λl J I F=>?_) k 0 k (aD _) (af _) ⋯ (λi z=>by lia) λi O L=>by lia
  refine wwt ha hk h f _ (k+1) (g.bub _ _) ⋯ ⋯ ?_;rw[wz0];exact u.put (by rw[cA,g.size];lia) J I F
theorem wv4 {Q:Array Nat->Ab->Prop}(ha:Yn n kz ask s)(hk:KyI im kz)(h1:1<=n)(h:∀q,Gd n q->Up (ixA n im) (q.map im) n->Q q s):(kas_sort n).kasWp ask Q s:=by
 unfold kas_sort;rw[KasT.kasWp_bind];refine wq4 ha hk (af _) h1 λm q g F J u=>?_;dsimp only;have I:max m 1=m:=by lia
 by_cases c:m<n
 .rw[ao c,I];exact wwt ha hk h (n-m) q m g F ⋯ u
 .rw[ak c];obtain rfl:m=n:=by lia
  exact h q g u
def imI (kz:Nat->Int)(t:Tok)(i:Nat):Ai:=(.int (kz i) t,.int (i:Int) t)
theorem imI_ky (kz:Nat->Int)(t:Tok):KyI (imI kz t) kz:=λp i hi=>by unfold K;simp[hi,imI,numOf,Array.getD]
theorem tr_out {t:Tok}{Q:Array Nat->Ab->Prop}(ha:Yn n kz ask s)(h1:1<=n)
  (h:∀il:List Nat,il.Perm (List.range n)->il.Pairwise (λi j=>kz i<kz j\/(kz i=kz j/\i<j))->Q il.toArray s):(kas_sort n).kasWp ask Q s:=by
 refine wv4 ha (imI_ky kz t) h1 λq g u=>?_;have F:(ixA n (imI kz t)).size=n:=by simp[ixA]
 have O:(q.map (imI kz t)).size=(ixA n (imI kz t)).size:=by rw[F,cA,g.size]
 obtain⟨il,p,o,e⟩:=Up.places (by rw[F];exact u) O;rw[F]at p;have I:∀i∈il,i<n:=λi hi=>bd.mp (p.mem_iff.mp hi);have ad:∀i,i<n->(ixA n (imI kz t)).getD i (.none,.none)=imI kz t i:=λi hi=>by simp[ixA,Array.getD,hi]
 have J:∀i,i<n->K (ixA n (imI kz t)) i=kz i:=λi hi=>by unfold K;simp[ixA,hi,imI,numOf]
 have Z:q.toList.map (imI kz t)=il.map (imI kz t):=by rw[<-Array.toList_map,e];exact bz λi hi=>ad i (I i hi)
 have L:∀i j,imI kz t i=imI kz t j->i=j:=λi j e=>by simp only[imI,Prod.mk.injEq,Value.int.injEq]at e;lia
 have U:q.toList=il:=(List.map_inj_right (λi j e=>L i j e)).mp Z;have S:q=il.toArray:=by rw[<-U]
 rw[S];exact h il p (o.imp_of_mem λ{i j} hi hj hb=>by
  unfold Bef at hb
  rw[J i (I i hi),J j (I j hj)]at hb
  exact hb)
end
end L2
namespace L2
open PySem PySem.Spec PySem.Calls PySem.W PyProof.Rows
section
variable {prog:Ac}{w:Ah}{A:Ae}{E:Ag->Ab->Prop}{s:Ab}
theorem Jc {h:Heap}{a:Aj}{vs:List Ag}{k:Nat}(ho:h.get? a=some (seqObj "list" vs.toArray k))(out:Array Ag):∃e,(sortedHeap h a vs out).get? a=some (seqObj "list" out e):=by obtain⟨F,I⟩:∃F,(h.update a (Obj.mapSeq λ_=>(#[]:Array Ag))).get? a=some (seqObj "list" #[] F):=⟨_,get?_update_seq ho λ_=>#[]⟩;exact⟨_,get?_update_seq (ac _ (ac _ I)) λ_=>out⟩
theorem Yr {h:Heap}{a b:Aj}{vs:List Ag}{o:Obj}(e:h.get? b=some o)(hb:b≠a)(out:Array Ag):(sortedHeap h a vs out).get? b=some o:=by unfold sortedHeap;rw[Heap.get?_update_ne _ _ _ _ hb];refine ac _ (ac _ ?_);rw[Heap.get?_update_ne _ _ _ _ hb];exact e
end
section
variable {X:Cx}
end
end L2
namespace L2
open PySem PySem.Spec PySem.Calls PySem.W PyProof.Rows
def kzS (ss:List Str)(x:Str):Int:=((ss.filter λy=>decide (y.cps.toList<x.cps.toList)).length:Nat)
theorem wqn {ss:List Str}{x y:Str}(h:¬ y.cps.toList<x.cps.toList):kzS ss x<=kzS ss y:=by
 unfold kzS;have:(ss.filter λz=>decide (z.cps.toList<x.cps.toList)).length<=(ss.filter λz=>decide (z.cps.toList<y.cps.toList)).length:=by
  refine(List.Sublist.length_le ?_);have e:(ss.filter λz=>decide (z.cps.toList<x.cps.toList))=(ss.filter λz=>decide (z.cps.toList<y.cps.toList)).filter λz=>decide (z.cps.toList<x.cps.toList):=by
   rw[List.filter_filter];refine List.filter_congr λz _=>?_;by_cases c:z.cps.toList<x.cps.toList
   .have:z.cps.toList<y.cps.toList:=by apply cD;intro n;exact absurd c (List.not_lt.mpr (List.le_trans (List.not_lt.mp h) (List.not_lt.mp n)))
    simp[c,this]
   .simp[c]
  rw[e];exact List.filter_sublist
 lia
theorem wxm {ss:List Str}{x y:Str}(hx:x∈ss)(h:x.cps.toList<y.cps.toList):kzS ss x<kzS ss y:=by
 unfold kzS;have sub:(ss.filter λz=>decide (z.cps.toList<x.cps.toList)).length<(ss.filter λz=>decide (z.cps.toList<y.cps.toList)).length:=by
  have e:(ss.filter λz=>decide (z.cps.toList<x.cps.toList))=(ss.filter λz=>decide (z.cps.toList<y.cps.toList)).filter λz=>decide (z.cps.toList<x.cps.toList):=by
   rw[List.filter_filter];refine List.filter_congr λz _=>?_;by_cases c:z.cps.toList<x.cps.toList
   .have:z.cps.toList<y.cps.toList:=List.lt_trans c h;simp[c,this]
   .simp[c]
  rw[e];have F:x∈ss.filter λz=>decide (z.cps.toList<y.cps.toList):=cL.mpr ⟨hx,bv h⟩;refine Nat.lt_of_le_of_ne (cV _ _) λz=>?_;have:=(List.length_filter_eq_length_iff).mp z x F;exact List.lt_irrefl _ (of_decide_eq_true this)
 lia
theorem wzg {ss:List Str}{x y:Str}(hx:x∈ss):kzS ss x<kzS ss y↔x.cps.toList<y.cps.toList:=by
 constructor
 .intro h;apply cD;intro n;have:=wqn (ss:=ss) n;lia
 .exact wxm hx
section
variable {prog:Ac}{w:Ah}{A:Ae}{E:Ag->Ab->Prop}{s:Ab}
def StrsR (vs:List Ag)(ss:List Str):Prop:=Paired (λv x=>∃t,v=Value.str x t) vs ss
theorem StrsR.at {vs:List Ag}{ss:List Str}(h:StrsR vs ss):∀ {i:Nat},i<ss.length->∃x t,ss[i]?=some x/\vs.getD i Value.none=Value.str x t:=by
 induction h with
 |nil=>intro i hi;exact absurd hi (Nat.not_lt_zero _)
 |@cons a b l m hd tl ih =>
  intro i hi;cases i with
  |zero=>obtain⟨t,rfl⟩:=hd;exact⟨b,t,rfl,rfl⟩
  |succ i=>exact ih (i:=i) (by simpa using hi)
theorem StrsR.mem {vs:List Ag}{ss:List Str}(h:StrsR vs ss):∀v∈vs,∃x t,v=Value.str x t:=by
 induction h with
 |nil=>intro v F;cases F
 |@cons a b l m hd tl ih =>
  intro v F;rcases av.mp F with rfl|F
  .obtain⟨t,e⟩:=hd;exact⟨b,t,e⟩
  .exact ih v F
theorem qkg {a:Aj}{vs:List Ag}{k:Nat}{ss:List Str}{P:PySem.Fin->Ab->Prop}(ho:s.heap.get? a=some (seqObj "list" vs.toArray k))(h64:vs.length<64)(t:StrsR vs ss)
  (h:∀il:List Nat,il.Perm (List.range vs.length)->il.Pairwise (λi j=>¬ (ss.getD j Str.empty).cps.toList<(ss.getD i Str.empty).cps.toList)->P (.done (.ret .none)) { s with heap:=sortedHeap s.heap a vs (il.map λi=>vs.getD i Value.none).toArray }) :
  wpAny (model prog w) A (Builtin.«list.sort» ⟨[.ref a],[]⟩) P E s:=by
 have a8:vs.length=ss.length:=bu t;have ha:a<s.heap.objs.size:=ae ho;obtain⟨e1,ap⟩:∃e1,(s.heap.update a (Obj.mapSeq λ_=>(#[]:Array Ag))).get? a=some (seqObj "list" #[] e1):=⟨_,get?_update_seq ho λ_=>#[]⟩;have sz:(1000001:Nat)<sizeLine:=by decide
 rw[list_sort_plain];refine aa (listItems_at ho rfl ?_);refine aa (listUpdate_at ho rfl ?_ (by rw[au];lia) (aD _));refine aa (seqEpoch_at ap rfl ?_);refine aa (wpAny_newTuple ?_ (by show vs.length<=_;lia));refine aa (wpAny_newList ?_ (aD _));refine bn ?_;show wpAny (model prog w) A _ P E { s with heap:=((s.heap.update a (Obj.mapSeq λ_=>(#[]:Array Ag))).push (seqObj "tuple" vs.toArray 0)).push (seqObj "list" #[] 0) };have I:(((s.heap.update a (Obj.mapSeq λ_=>(#[]:Array Ag))).push (seqObj "tuple" vs.toArray 0)).push (seqObj "list" #[] 0)).get? a=some (seqObj "list" #[] e1):=ac _ (ac _ ap);have J:∀(h':Heap) (il:List Nat),h'=((s.heap.update a (Obj.mapSeq λ_=>(#[]:Array Ag))).push (seqObj "tuple" vs.toArray 0)).push (seqObj "list" #[] 0)->il.Perm (List.range vs.length)->il.Pairwise (λi j=>¬ (ss.getD j Str.empty).cps.toList<(ss.getD i Str.empty).cps.toList)->P (.done (.ret .none)) { s with heap:=h'.update a (Obj.mapSeq λ_=>(il.map λi=>vs.getD i Value.none).toArray) }:=λh' il e a1 a2=>by subst e;exact h il a1 a2
 generalize ((s.heap.update a (Obj.mapSeq λ_=>(#[]:Array Ag))).push (seqObj "tuple" vs.toArray 0)).push (seqObj "list" #[] 0)=h6' at I J ⊢;have J:=λil=>J h6' il rfl;dsimp only;by_cases h2:vs.toArray.size<2
 .rw[ao h2,ao h2];refine aa (ag ?_);rw[StateT.run_pure];refine aa (ag ?_);dsimp only;have a6:vs.length<2:=by simpa using h2
  have e:(arrOf (SortSt.mk' general' (vs.toArray.zip vs.toArray) #[] 7 none)).map (·.2)=((List.range vs.length).map λi=>vs.getD i Value.none).toArray:=by
   show(vs.toArray.zip vs.toArray).map (·.2)=_
   match vs,a6 with
   |[],_=>simp
   |[v],_=>simp
   |_::_::_,h2=>simp at h2;lia
  rw[e];refine aa (seqEpoch_at I rfl ?_);refine aa (listUpdate_at I rfl ?_ (aD _) (by rw[au,ah,aL];lia));simp only[bne_self_eq_false,dM,eU];refine ag (J (List.range vs.length) (.refl _) ?_);rcases(by lia:vs.length=0\/vs.length=1) with z|z
  .rw[z];exact .nil
  .rw[z];exact List.pairwise_singleton _ _
 .rw[ak h2,ak h2];have an:2<=vs.length:=by simpa using h2
  refine aa (kas_kind (T:=.type "str") an (λv hv=>?_) rfl rfl ?_)
  .obtain⟨x,tk,rfl⟩:=t.mem v hv;exact Looks.of_pure rfl
  let kz:Nat->Int:=λi=>kzS ss (ss.getD i Str.empty);have Z:∀ {i x},ss[i]?=some x->ss.getD i Str.empty=x:=λe=>by rw[am,e];rfl
  have ask:Yn vs.length kz (kas_ask prog w A oneType' vs) { s with heap:=h6' }:=λi j C hi U hC=>by
   obtain⟨x,tx,ex,vx⟩:=t.at (i:=i) ⋯;obtain⟨y,ty,O,vy⟩:=t.at (i:=j) ⋯;unfold kas_ask;rw[vx,vy];refine kas_lt_str ?_;have e:decide (kz i<kz j)=decide (x.cps.toList<y.cps.toList):=by rw[bQ,cw,cw];show kzS ss (ss.getD i Str.empty)<kzS ss (ss.getD j Str.empty)↔_;rw[Z ex,Z O];exact wzg (bh ex)
   rw[<-e];exact hC
  have a0:(kas_sort vs.length).kasWp (kas_cmp prog w A oneType' (pairsOf vs)) (λp s'=>s'={ s with heap:=h6' }/\p.toList.Perm (List.range vs.length)/\p.toList.Pairwise (λi j=>¬ (ss.getD j Str.empty).cps.toList<(ss.getD i Str.empty).cps.toList)) { s with heap:=h6' }:=by
   rw[<-kas_ask_eq];refine tr_out (t:=0) ask ⋯ λil L S=>⟨rfl,L,S.imp_of_mem λ{i j} hi U hb n=>?_⟩;have U:=bd.mp (L.mem_iff.mp U);obtain⟨y,ty,O,vy⟩:=t.at (i:=j) ⋯;have:kz j<kz i:=by show kzS ss (ss.getD j Str.empty)<kzS ss (ss.getD i Str.empty);rw[Z O]at n ⊢;exact wxm (bh O) n
   lia
  have a7:SortSt.mk' oneType' (vs.toArray.zip vs.toArray) #[] 7 none=kas_st oneType' (pairsOf vs) (List.toArray (List.range vs.length)):=by have e:=kas_range (pairsOf vs);rw[pairsOf_size]at e;show SortSt.mk' oneType' (pairsOf vs) #[] 7 none=SortSt.mk' oneType' ((List.toArray (List.range vs.length)).map (kas_item (pairsOf vs))) #[] 7 none;rw[e]
  have ad:=kas_runs (E:=E) (Q:=λ_ F s'=>∃p:Array Nat,p.size=vs.length/\arrOf F=p.map (kas_item (pairsOf vs))/\failedOf F=none/\s'={ s with heap:=h6' }/\p.toList.Perm (List.range vs.length)/\p.toList.Pairwise (λi j=>¬ (ss.getD j Str.empty).cps.toList<(ss.getD i Str.empty).cps.toList))
   an h64 (λp' F s' a1 a2 a3 a4=>⟨p',a1,a2,a3,a4⟩) a0
  rw[<-a7]at ad;refine aa (aG ad ?_ λ_ _ e=>e);rintro⟨⟨⟩,F⟩ s' ⟨p,hp,har,hf,rfl,L,S⟩;dsimp only;have a5:(arrOf F).map (·.2)=List.toArray (p.toList.map λi=>vs.getD i Value.none):=by apply Array.toList_inj.mp;rw[har,Array.map_map,Array.toList_map];exact bz λi _=>by show(kas_item (pairsOf vs) i).2=_;rw[kas_item_eq]
  rw[a5];refine aa (seqEpoch_at I rfl ?_);refine aa (listUpdate_at I rfl ?_ (aD _) (by rw[au,ah,bx];lia));rw[hf];simp only[bne_self_eq_false,dM,eU];exact ag (J p.toList L S)
theorem qw8 {d:Aj}{vs:List (Key×Ag)}{ep:Nat}{Q:List Ag->Ab->Prop}(hh:A.handled=none)(lo:(d==sysModules)=false)(dd:s.heap.DictAt (xm prog w) d vs ep)(hn:vs.length<=sizeLine)
  (h:∀h' tk (qs:List Ag),(∀b o,s.heap.get? b=some o->h'.get? b=some o)->qs.length=vs.length->(∀(i:Nat) v,qs[i]?=some v->∃k x,vs[i]?=some (k,x)/\(xm prog w).is k v=true)->s.heap.objs.size<=h'.objs.size->Q qs { s with heap:=h',toks:=tk }):wpAny (model prog w) A (collect (.ref d)) Q E s:=by
 have S:d<s.heap.objs.size:=dd.lt_size;have R:(s.heap.push (seqObj "list" #[] 0)).DictAt (xm prog w) d vs ep:=dd.push _;have U:codeAny (model prog w) A (.builtin "proto.collect" ⟨[.ref d],[]⟩) (λr s'=>r=.ok (.ret (.ref s.heap.objs.size))/\∃h' tk F I,s'={ s with heap:=h',toks:=tk }/\(∀b o,b≠s.heap.objs.size->(s.heap.push (seqObj "list" #[] 0)).get? b=some o->h'.get? b=some o) /\
   h'.get? s.heap.objs.size=some { cls:=.type "list",dict:=none,data:=.seq F I,slots:=#[] }/\ItemsOf (λi v=>∃k x,vs[i]?=some (k,x)/\(xm prog w).is k v=true) F vs.length) s:=by
  refine eR entry_proto_collect' ?_;show wpAny _ _ (do again (.builtin "list.__iadd__" ⟨[<-newList [],.ref d],[]⟩)) _ _ s;(refine aa (wpAny_newList (ag ⟨Code.quiet_builtin _ (by decide +kernel),eR entry_list_iadd' ?_⟩)) ;rw[Around.under_plainId (show plainId "list.__iadd__" = true by decide +kernel) _]);show wpAny _ _ (Builtin.List.listExtendWith (.ref s.heap.objs.size) (.ref d) (.ref s.heap.objs.size)) _ _ _;exact kdl_extend (s:={ s with heap:=s.heap.push (seqObj "list" #[] 0) }) (R:=λr s'=>r=.ok (.ret (.ref s.heap.objs.size))/\∃h' tk F I,s'={ s with heap:=h',toks:=tk }/\(∀b o,b≠s.heap.objs.size->(s.heap.push (seqObj "list" #[] 0)).get? b=some o->h'.get? b=some o) /\
   h'.get? s.heap.objs.size=some { cls:=.type "list",dict:=none,data:=.seq F I,slots:=#[] }/\ItemsOf (λi v=>∃k x,vs[i]?=some (k,x)/\(xm prog w).is k v=true) F vs.length) (kdl_dict lo) (by simpa using hh) R s.heap.objs.size (bX S) (bX S) (.ref s.heap.objs.size) 0 (aj _ rfl) (λh' tk F I O L J=>⟨rfl,h',tk,F,I,rfl,O,L,J⟩) hn
 unfold collect;refine aa (wpAny_runValue (dz U λr s' Z=>?_));obtain⟨rfl,h',tk,F,I,rfl,O,L,J⟩:=Z;dsimp only;refine aa (wpAny_load L ?_);refine ag ?_;refine h h' tk _ (λb o e=>O b o (ar (ae e)) (ac _ e)) (by rw[bx];exact J.1) (λi v e=>J.2 i v (by rw[<-Array.getElem?_toList];exact e)) ?_;exact aZ (ae L)
end
section
variable {X:Cx}
theorem Jd (hc:X.calm=true):kj X (.builtin "sorted") (λxs H Q=>∃(d:Aj) (kvs:List (Key×V)) (ss:List Str),xs=[.ref d]/\Rd H d (.dK kvs)/\kvs.map (·.1)=ss.map Sum.inr/\kvs.length<64 /\
  ∀(l:Aj) (ms:List Str),H l=none->ms.Perm ss->ms.Pairwise (λx y=>¬ y.cps.toList<x.cps.toList)->Q (.ref l) (upd H l (.lst (ms.map V.str)))):=by
 intro pins s σ H xs us Q I r h;obtain⟨d,kvs,ss,rfl,hd,hk,hn,q⟩:=h;obtain⟨u,rfl,ru⟩:=yn r;cases(show u=Value.ref d from ru);have sz:(100001:Nat)<sizeLine:=by decide
 obtain⟨z,lo,vs,ad,dd⟩:=Wm I.hok hd;obtain⟨ep,dd⟩:=dd.dictAt;have hl:vs.length=kvs.length:=(bu ad).symm;have a3:kvs.length=ss.length:=by have:=bI List.length hk;simpa using this
 refine Calls.call_function_entry kind_sorted plain_sorted entry_sorted (args_sorted1 _) ?_;unfold Builtin.«sorted»;refine aa (m:=checkCount "sorted" 1 1 _) (ag ?_);refine aa (qw8 (by simpa using I.ok.hd hc) lo dd ⋯ λh' tk F a1 a4 hq U=>?_);refine aa (wpAny_newList ?_ ⋯);have Z:(h'.push (seqObj "list" F.toArray 0)).get? h'.objs.size=some (seqObj "list" F.toArray 0):=aj _ rfl;have tS:StrsR F ss:=by
  have a0:∀(F:List Ag) (ss:List Str),F.length=ss.length->(∀(i:Nat) v,F[i]?=some v->∃x t,ss[i]?=some x/\v=Value.str x t)->StrsR F ss:=by
   intro F
   induction F with
   |nil =>
    intro ss e _;cases ss with
    |nil=>exact .nil
    |cons _ _=>simp at e
   |cons v F ih =>
    intro ss e S;cases ss with
    |nil=>simp at e
    |cons x ss =>
     obtain⟨x',t,O,L⟩:=S 0 v rfl;cases O;exact .cons ⟨t,L⟩ (ih ss (by simpa using e) λi v ev=>S (i+1) v ev)
  refine a0 F ss ⋯ λi v ev=>?_;obtain⟨k,x,O,L⟩:=hq i v ev;have hi:=(aT.mp O).1;have ek:kvs[i]?=some kvs[i]:=ai ⋯;obtain⟨qv,e3,_⟩:=qkc ad ek;rw[O]at e3;have e4:=bI (λl=>l[i]?) hk;simp only[aI,ek,cn]at e4;have hs:ss[i]?=some ss[i]:=ai ⋯;rw[hs,cn]at e4;have e5:=al e4;have e6:k=kvs[i].1:=bI Prod.fst (al e3);rw[e6,e5]at L;obtain⟨t,rfl⟩:=(show ∃t,v=Value.str ss[i] t from wwx L);exact⟨ss[i],t,hs,rfl⟩
 refine aa (bn (bH slot_list_sort ⟨_,Z,rfl⟩ entry_list_sort ?_ (args_list_sort _)));refine qkg (s:={ s with heap:=h'.push (seqObj "list" F.toArray 0),toks:=tk }) Z ⋯ tS λJ pm up=>⟨_,rfl,ag ⟨_,rfl,?_⟩⟩;obtain⟨e,he⟩:=Jc Z (J.map λi=>F.getD i Value.none).toArray;have nl:H h'.objs.size=none:=I.hok.fresh U;have a2:∀i∈J,i<ss.length:=λi hi=>by have:=bd.mp (pm.mem_iff.mp hi);lia
 have ap:∀(J:List Nat),(∀i∈J,i<ss.length)->Vals ((J.map λi=>ss.getD i Str.empty).map V.str) (J.map λi=>F.getD i Value.none):=by
  intro J
  induction J with
  |nil=>intro _;exact .nil
  |cons i J ih =>
   intro S;obtain⟨x,t,O,L⟩:=tS.at (S i (.head _));refine .cons ?_ (ih λj hj=>S j (.tail _ hj));show RelV (V.str (ss.getD i Str.empty)) (F.getD i Value.none);rw[L,am,O];exact⟨t,rfl⟩
 have an:(J.map λi=>ss.getD i Str.empty).Perm ss:=by
  have h1:=pm.map λi=>ss.getD i Str.empty;have h2:((List.range F.length).map λi=>ss.getD i Str.empty)=ss:=by
   refine cv λi=>?_;rw[aI];by_cases c:i<ss.length
   .rw[cG ⋯,ai c];show some (ss.getD i Str.empty)=_;rw[am,ai c];rfl
   .rw[aK (by rw[aL];lia),aK ⋯];rfl
  rw[h2]at h1;exact h1
 refine⟨.ref _,_,I.laid (t':=tk) (λb u hb=>Yr (ac _ (a1 b u hb)) (ar (aw (ae hb) U)) _) U (show ObjOk X.prog X.w _ _ _ (.lst ((J.map λi=>ss.getD i Str.empty).map V.str)) from ⟨?_,_,e,ap J a2,he⟩),rfl,q _ _ nl an (dX.mpr up)⟩;rw[ah,an.length_eq];lia
end
end L2
namespace L2
open PySem PySem.Spec PySem.Calls PyProof.Rows PySem.W
section
variable {prog:Ac}{w:Ah}{A:Ae}{E:Ag->Ab->Prop}{s:Ab}{K:Type}[DecidableEq K]{knd:KeyKind prog w K}
end
section
variable {X:Cx}
def tDispT (tk tv:TE):TE:=λσ H Q=>∀p,H p=none->tk σ (upd H p (.dT [])) λx H1=>tv σ H1 λv H2=>∃b ks,x=.ref b/\H2 b=some (.tup (ks.map kV))/\H2 p=some (.dT [])/\Q (.ref p) (upd H2 p (.dT [(ks,v)]))
theorem wqm {k v:Expr}{pos:Pos}{tk tv:TE}(hu:X.A.units<cLine)(hk:PE X k tk)(hv:PE X v tv):PE X (.Dict [some k] [v] pos) (tDispT tk tv):=by intro pins s σ H Q I q;have J:=I.hok.fresh (af s.heap.objs.size);have I1:=I.laid (a:=s.heap.objs.size) (o:=.dT []) (h':=s.heap.push { cls:=.type "dict",data:=.dict #[] }) (t':=s.toks) (λ_ _ q=>ac _ q) (af _) (wqp s.heap I.big);refine wpAny_Dict_any rfl rfl (λz=>by cases z) (show 1<=15 by decide) ?_;refine pairTrees_cons_walk (thn (hk pins _ σ _ _ I1 (q _ J)) λu s1 ⟨x,H1,I2,rx,q1⟩=>thn (hv pins s1 σ H1 _ I2 q1) λw2 s2 ⟨y,H2,I3,ry,b,ks,ex,eb,ep,q2⟩=>pairTrees_nil_walk ?_);subst ex;cases(show u=Value.ref b from rx);obtain⟨z,L,xs,F,dd⟩:=dt_of I3.hok ep;cases F;unfold storeAll;rw[eP];refine aa (aa (wpAny_dictSet_heap (knd:=tupleKind (xm X.prog X.w)) (hsz:=aD _) hu (uy I3.hok eb) dd λh' ad hs=>ag ?_));refine ag ?_;obtain⟨o',es,Z,h1,h2,U,S,_,O⟩:=ad;refine⟨.ref _,_,y1 I3 (by rw[ep];exact True.intro) hs ⟨o',h1⟩ (show ObjOk X.prog X.w (upd H2 s.heap.objs.size (.dT [(ks,y)])) h' s.heap.objs.size (.dT [(ks,y)]) from ⟨by show 1<=sizeLine;decide,L,[(ks,b,w2)],.cons ⟨rfl,?_,ry⟩ .nil,o',es,Z,h1,h2,U,S,O⟩),rfl,q2⟩;rw[wf (ne_of eb ep (λz=>nomatch z))];exact eb
theorem qj5 {K:Aa}(hK:X.K=K){e:Expr}{f:Str}{pos:Pos}{ta:TE}(he:PE X e ta)(hb:attributeBase e f X.env (eval e X.env)=eval e X.env):PE X (.Attribute e f pos) (tFld K ta f):=by subst hK;exact zt he hb
end
end L2
namespace L2
open PySem PySem.Spec PySem.Calls PyProof.Rows
section
variable {Y:Cx}{kx vx:Expr}{tk te:TE}{c:Code}{p:Aj}{σ:St}{H:Hp}{pins:List (Aj×Obj)}{s:Ab}
def dctS (kx vx:Expr)(D:Aj)(env:Env)(c:Code):Sem PySem.Fin:=(eval kx env >>= λkv=>holding [kv] (eval vx env) >>= λvv=>standAt { kx.pos with endLine:=vx.pos.endLine,endCol:=vx.pos.endCol } >>= λ_=>holding [kv,vv] (dictSet D kv vv)) >>= λ_=>again c
theorem wwm (kx vx target iter:Expr)(scope:Scope)(pos:Pos)(it:Ag)(D:Aj)(env:Env) :
  compTurn (.DictComp kx vx [⟨target,iter,[],0⟩] scope pos) 0 it (.ref D) env=(standAt iter.pos >>= λ_=>pyNext it >>= λr=>match r with|none=>pure (.done .next)|some v=>letOwnedTupleGo target it v >>= λ_=>assign target env v >>= λ_=>dctS kx vx D env (.compLoop (.DictComp kx vx [⟨target,iter,[],0⟩] scope pos) 0 it (.ref D) env)):=by rfl
theorem wq7 {ys:List (Key×V)}{N:List (Key×V)->Hp->Prop}(hk:PE Y kx tk)(hv:PE Y vx te)(J:Inv Y pins σ H s)(hz:ys.length<sizeLine)
  (h:tk σ H λy H4=>te σ H4 λz H5=>∃k,y=kV k/\H5 p=some (.dK ys)/\N (vj ys k z) (upd H5 p (.dK (vj ys k z)))) :
  wpAny (model Y.prog Y.w) Y.A (dctS kx vx p Y.env c) (λr s5=>r=Fin.again c/\∃H5,Inv Y pins σ H5 s5/\∃zs,N zs H5) Y.xe s:=by
 refine aa (aa (aG (hk _ s _ H _ J h) (λkv U an=>?_) λ_ _ z=>z));obtain⟨y,H4,J6,ry,h4⟩:=an;refine aa (bn (aG (hv _ U _ H4 _ J6 h4) (λvv s7 ad=>?_) λ_ _ z=>z));obtain⟨z,H5,O,Z,k,rfl,I,n5⟩:=ad;refine aa (bS (bn ?_));obtain⟨S,hd,vs,F,dd⟩:=qqs O.hok I;have hl:(vj ys k z).length<=sizeLine:=by have:=km ys k z;lia
 refine wpAny_dictSet_pairs (hsz:=by rw[<-F.length];exact S) (Qg ry) dd λh' L hs=>ag ⟨rfl,_,?_,_,n5⟩;have he:∃q,h'.get? p=some q:=let ⟨q,_,_,hq,_⟩:=L;⟨q,hq⟩;exact y1 O (by rw[I];exact True.intro) hs he (Jy hl hd (F.put k Z) L)
end
section
variable {X:Cx}{pins:List (Aj×Obj)}{σ:St}{H:Hp}{s2:Ab}{scope:Scope}{cl:List (Str×Aj)}{x:Str}{M:List Nat}{fp:List Aj}{C:Aj}{h1:Heap}{tk:Nat}
theorem Inv.compD (I:Inv X pins σ H s2)(hc:CapAll X.env cl)(hh:HasAll cl scope.names)(hm:CapIx X scope cl M)(hk:scope.kind=.function)(hC:s2.heap.objs.size<C)
  (keep:∀b o,s2.heap.get? b=some o->h1.get? b=some o) (hn:h1.Ns C λ_=>none) (hD:h1.get? s2.heap.objs.size=some { cls:=.type "dict",data:=.dict #[] })
  (hfp:∀b∈fp,jq X pins H b) (hob:∀b∈fp,∃o,s2.heap.get? b=some o) :
  Inv (zr X scope cl x M C s2 H fp (X.pn++pins)) [] (zg M σ none) (upd H s2.heap.objs.size (.dK [])) { s2 with heap:=h1,toks:=tk } :=
 I.compG (xs:=[x]) hc hh hm hk hC keep hn ⟨aD _,aM.mpr (ba (ar I.big)),[],.nil,by
  obtain⟨o,es,ep,ho,r⟩:=Heap.DictOf.new (knd:=xm X.prog X.w) s2.heap
  have:o={ cls:=.type "dict",data:=.dict #[] }:=al (ho.symm.trans (aj _ rfl))
  exact⟨o,es,ep,by rw[this];exact hD,r⟩⟩ hfp hob
end
def qku (J:It)(M:List Nat)(tk te:TE)(σ:St)(H1:Hp)(Q:VK):Prop:=∀p,H1 p=none->∃W:Nat->Nat->List (Key×V)->Hp->Prop,(∃m,W 0 m [] (upd H1 p (.dK []))) /\
 ∀i m ys H2,W i m ys H2->H2 p=some (.dK ys)/\ys.length<sizeLine/\((J.stop i H2/\Q (.ref p) H2)\/(J.go i H2/\∀v H3,J.yld i H2 v H3 ->
  tk (zg M σ (some v)) H3 λy H4=>te (zg M σ (some v)) H4 λz H5=>∃k,y=kV k/\H5 p=some (.dK ys)/\∃m',m'<m/\W (i+1) m' (vj ys k z) (upd H5 p (.dK (vj ys k z)))))
def tDComp (M:List Nat)(wi:TI)(tk te:TE):TE:=λσ H Q=>wi σ H λJ H1=>qku J M tk te σ H1 Q
section
variable {X:Cx}{kx vx iter:Expr}{x:Str}{px pos:Pos}{scope:Scope}{cl:List (Str×Aj)}{M:List Nat}{wi:TI}{tk te:TE}{pins:List (Aj×Obj)}{σ:St}
theorem qjx {tg:Expr}(hclos:closureFor scope X.env=pure cl)(hhas:HasAll cl scope.names)(hk:scope.kind=.function)
  (hnames:∀y∈scope.names,y.2=.local->scope.names.lookup y.1=some .local) (hi:PI X tg iter wi) (hs:∀z,foldedSetIterable iter X.env z=pure z)
  {use:Option (Ag->Sem Unit)} {QQ:Ag->Ab->Prop} {s:Ab} {H:Hp} {ps:Pos} {R:It->Hp->Prop} (I:Inv X pins σ H s) (h:wi σ H R)
  (go:∀(it:Aj) (fp:List Aj) (tn:Nat->Heap->Prop) (J:It) (H1:Hp) (s2:Ab) (C:Aj) (h3:Heap) (tn2:Nat),Inv X pins σ H1 s2->Turn X.prog X.w X.K tg J fp it tn->tn 0 h3->(∀b∈fp,jq X pins H1 b)->(∀b∈fp,b<s2.heap.objs.size)->(∀b∈fp,∃o,s2.heap.get? b=some o)->R J H1->s2.heap.objs.size<C ->
   (∀b o,s2.heap.get? b=some o->h3.get? b=some o)->(h3.Ns C λ_=>none)->h3.get? s2.heap.objs.size=some { cls:=.type "dict",data:=.dict #[] } ->
   codeAny (model X.prog X.w) X.A (.compLoop (.DictComp kx vx [⟨tg,iter,[],0⟩] scope pos) 0 (.ref it) (.ref s2.heap.objs.size) (compEnvC scope cl C X.env)) (compPost (model X.prog X.w) X.A X.xe use QQ (.ref s2.heap.objs.size) C) { s2 with heap:=h3,toks:=tn2 }) :
  wpAny (model X.prog X.w) X.A (comprehension (.DictComp kx vx [⟨tg,iter,[],0⟩] scope pos) scope X.env ps newDict false (eval iter X.env) use) QQ X.xe s:=by
 refine cJ (use:=use) rfl hs hclos hk hnames ?_;refine thn (hi pins s σ H _ I h) λv s1 h1=>thn h1 λa0 s2 h2=>?_;obtain⟨it,fp,tn,J,H1,rfl,I2,T,L,ap,hR⟩:=h2;refine bb ?_;refine wpAny_newFunctionEnv hhas.nocell (by intro y hy;cases hy) (λh3 O F=>?_) hk;dsimp only at O F ⊢;generalize hH2:s2.heap.push { cls:=.type "dict",dict:=none,data:=.dict #[] }=G2 at O F ⊢;have hC:G2.objs.size=s2.heap.objs.size+1:=by rw[<-hH2,aU]
 have S:s2.heap.objs.size<G2.objs.size:=by lia
 have an:∀b o,s2.heap.get? b=some o->h3.get? b=some o:=λb o e=>by rw[F.2 b (ar (aV (ae e) S))];exact ac _ (hH2▸ac _ e)
 have hD:h3.get? s2.heap.objs.size=some { cls:=.type "dict",data:=.dict #[] }:=by rw[F.2 _ (ar S)];exact ac _ (hH2▸aj _ rfl)
 have Z:=T.keep 0 _ _ L λb _ o e=>an b o e;have ad:=λtn2=>go it fp tn J H1 s2 G2.objs.size h3 tn2 I2 T Z ap (λb U=>let ⟨o,e,_⟩:=T.obj 0 _ L b U;ae e) (λb U=>let ⟨o,e,_⟩:=T.obj 0 _ L b U;⟨o,e⟩) hR S an O hD;exact codeAny_compStart_dict (ad _) (T.self _ 0 _ _ _ Z (ad _))
end
section
variable {X:Cx}{kx vx iter:Expr}{x:Str}{px pos:Pos}{scope:Scope}{cl:List (Str×Aj)}{M:List Nat}{wi:TI}{tk te:TE}
theorem wqk (hc:X.calm=true)(hclos:closureFor scope X.env=pure cl)(hcap:CapAll X.env cl)(hhas:HasAll cl scope.names)(hix:CapIx X scope cl M)(hk:scope.kind=.function)
  (hnames:∀y∈scope.names,y.2=.local->scope.names.lookup y.1=some .local) (hx:scope.names.lookup x=some .local) (hnd:(ym X x M).Nodup) (hi:PI X (.Name x px) iter wi)
  (hkx:∀C s2 H2 fp pn,PE (zr X scope cl x M C s2 H2 fp pn) kx tk) (he:∀C s2 H2 fp pn,PE (zr X scope cl x M C s2 H2 fp pn) vx te) (hs:∀z,foldedSetIterable iter X.env z=pure z)
  {use:Option (Ag->Sem Unit)} {QQ:Ag->Ab->Prop} {pins:List (Aj×Obj)} {s:Ab} {σ:St} {H:Hp} {Q:VK} {ps:Pos} (I:Inv X pins σ H s) (h:wi σ H λJ H1=>qku J M tk te σ H1 Q)
  (fin:∀(C:Aj) (s2 s4:Ab) (H1 H2:Hp) (fp:List Aj),Inv X pins σ H1 s2->s2.heap.objs.size<C->(∀b∈fp,jq X pins H1 b)->Inv (zr X scope cl x M C s2 H1 fp (X.pn++pins)) [] (zg M σ none) H2 s4->Q (.ref s2.heap.objs.size) H2 ->
   compPost (model X.prog X.w) X.A X.xe use QQ (.ref s2.heap.objs.size) C (.ok .next) s4) :
  wpAny (model X.prog X.w) X.A (comprehension (.DictComp kx vx [⟨.Name x px,iter,[],0⟩] scope pos) scope X.env ps newDict false (eval iter X.env) use) QQ X.xe s:=by
 refine qjx hclos hhas hk hnames hi hs I h λit fp tn J H1 s2 C h3 a2 L T t3 F Z an hR O ad ap hD=>?_;obtain⟨W,⟨m0,w0⟩,hW⟩:=hR s2.heap.objs.size (L.hok.fresh (af _));have U:(relabel scope X.env).names.lookup x=some .local:=dj hx;refine y9 (Y:=zr X scope cl x M C s2 H1 fp (X.pn++pins)) (V:=λi n H2=>∃ys,W i n ys H2) (Qd:=Q (.ref s2.heap.objs.size)) (REST:=dctS kx vx s2.heap.objs.size (compEnvC scope cl C X.env) _) T hc (λ_ _ z=>z) (wwm ..) rfl rfl (zc (i:=0) hnd rfl (.inl U) (.inr U)) (qwn hcap L O F Z) (λi n H2 ⟨ys,w⟩=>?_) (λH2 s4 J4 q=>fin C s2 s4 H1 H2 fp L O F J4 q) (L.compD hcap hhas hix hk O ad ap hD F an) ⟨[],w0⟩ t3 λb hb=>by rw[wf (ar (Z b hb))];exact(F b hb).1
 obtain⟨hp,hz,a1⟩:=hW i n ys H2 w;refine a1.imp id λ⟨a0,hy⟩=>⟨a0,λv H3 yl=>⟨λσ4 H4=>σ4=zg M σ (some v)/\H3=H4,⟨rfl,rfl⟩,λ_ _ e=>?_⟩⟩;obtain⟨rfl,rfl⟩:=e;refine⟨yq M σ v,λa3 s' J=>?_⟩;refine aG (wq7 (N:=λzs S=>∃m',m'<n/\W (i+1) m' zs S) (hkx _ _ _ _ _) (he _ _ _ _ _) J hz (hy v H3 yl)) (λr s5 ⟨e,S,J5,zs,m',hm,w'⟩=>⟨e,S,J5,m',hm,zs,w'⟩) λ_ _ z=>z
theorem qz1 {i:Nat}{y:Str}{py spos:Pos}(hN:X.N.Nodup)(hyi:X.N[i]?=some y)(hyl:Loc X.env.scope y)(hc:X.calm=true)(hclos:closureFor scope X.env=pure cl)(hcap:CapAll X.env cl)(hhas:HasAll cl scope.names)(hix:CapIx X scope cl M)(hk:scope.kind=.function)
  (hnames:∀y∈scope.names,y.2=.local->scope.names.lookup y.1=some .local) (hx:scope.names.lookup x=some .local) (hnd:(ym X x M).Nodup) (hi:PI X (.Name x px) iter wi)
  (hkx:∀C s2 H2 fp pn,PE (zr X scope cl x M C s2 H2 fp pn) kx tk) (he:∀C s2 H2 fp pn,PE (zr X scope cl x M C s2 H2 fp pn) vx te) (hs:autoParam (∀z,foldedSetIterable iter X.env z=pure z) aU3._auto_1)
  (hsw:autoParam (swapsWith (.DictComp kx vx [⟨.Name x px,iter,[],0⟩] scope pos) (some (.Name y py)) spos.line X.env=pure true) aU4._auto_1) (hyf:autoParam (X.fn y=true\/X.env.scope.names.lookup y=some .local) aU0._auto_1) :
  PS X (.Assign [.Name y py] (.DictComp kx vx [⟨.Name x px,iter,[],0⟩] scope pos) spos) (tAsg (tDComp M wi tk te) (wxj i)):=by
 intro pins s σ H D I h;rw[exec_Assign_Name_used _ _ _ _ hsw];refine aa (bS (aa ?_));refine aa (aG (wqk hc hclos hcap hhas hix hk hnames hx hnd hi hkx he hs (use:=some (assign (.Name y py) X.env)) (QQ:=λ_ s'=>SP X pins D .next s') I h λC s2 S H1 H2 fp J L a3 J4 Z=>?_) (λ_ s' Z=>ag (ag Z)) λ_ _ e=>e);have F:Inv X pins σ H2 S:=J.uncomp (h':=S.heap) (aZ L) a3 J4 (Heap.SameBut.refl _ _);have ap:H2 C=none:=J4.free;obtain⟨mC,a2,_⟩:=J4.loc;obtain⟨U,a9,bf,a1,an⟩:=id a2;have ad:C≠X.env.locals:=λz=>aS _ (aV L (z▸J.lt));have a5:X.s₀.heap.objs.size<=C:=aQ J.sz (aZ L);have a7:∀y c,X.env.cells.lookup y=some c->c≠C:=λy c e z=>by obtain⟨v,o,O,_⟩:=J.cell y c e;exact aS _ (aV L (z▸ae O))
 have a6:∀p∈X.pn++pins,p.1≠C:=λp hp z=>aS _ (aV L (z▸ae (J.pin p hp).1));have bl:C∉frs X.stack:=λz=>by
  rcases av.mp (J.stkSub C z) with q|q
  .exact ad q
  .obtain⟨_,o,O,_⟩:=J.funs.mem (b:=C) q;exact aS _ (aV L (ae O))
 have a4:C∉X.fs:=λz=>by obtain⟨_,o,O,_⟩:=J.funs.mem (b:=C) z;exact aS _ (aV L (ae O))
 have bk:Inv X (pins++[(C,U)]) σ H2 S:=⟨F.ok,F.os,F.bare,F.base,F.loc,F.cell,F.free,F.freeC,λp hp=>by
  rcases bA.mp hp with q|q
  .exact F.pin p (bq _ q)
  .rcases bA.mp q with q|q
   .exact F.pin p (aJ _ q)
   .rw[aH.mp q]
    exact⟨a1,ap,ad,a4,λv z=>by rw[an.1]at z;cases z⟩,F.hok,F.len⟩
 show wpAny _ _ (assign (.Name y py) X.env (.ref s2.heap.objs.size)) _ _ _;refine wpAny_assign_Name (k6 bk hN hyi hyl (show RelV (.ref s2.heap.objs.size) (.ref s2.heap.objs.size) from rfl) (λs5 I5=>?_) hyf);have a8:=(I5.pin (C,U) (aJ _ (aJ _ (.head _)))).1;exact⟨mC,⟨U,a9,bf,a8,an⟩,λh' a0=>⟨_,H2,I5.unpinned.but ap a5 ad a7 a6 a0,Z⟩⟩
end
end L2
namespace L2
open PySem
theorem qzc {M:List Nat}{x:Str}{te:TE}{σ:St}{H:Hp}{Q:VK}(f:Nat->V)(hn:x.cps.size<=1000000)(he:∀(i:Nat) (H':Hp) (R:VK),i<x.cps.size->Same H H'->R (f i) H'->te (zg M σ (some (.str ⟨#[x.cps.getD i 0]⟩))) H' R)
  (k:∀p,H p=none->Q (.ref p) (upd H p (.lst ((List.range x.cps.size).map f)))):uv (ItS x) M te σ H Q:=by
 intro p np;refine⟨λi m ys H2=>i<=x.cps.size/\m=x.cps.size-i/\ys=(List.range i).map f/\H2=upd H p (.lst ys),⟨x.cps.size,aD _,rfl,rfl,rfl⟩,?_⟩;rintro i m ys H2 ⟨hi,rfl,rfl,rfl⟩;refine⟨wj,?_,?_⟩
 .rw[ah,aL];have:(1000000:Nat)<sizeLine:=by decide
  lia
 .by_cases hlt:i<x.cps.size
  .refine .inr ⟨hlt,?_⟩;rintro v H3 ⟨rfl,rfl⟩;refine he i (upd H p (.lst ((List.range i).map f))) _ hlt (Same.upd np) ⟨wj,x.cps.size-(i+1),⋯,⋯,rfl,?_,?_⟩
   .rw[ck,bo];rfl
   .rw[Qn]
  .refine .inl ⟨by show x.cps.size<=i;lia,?_⟩;have:i=x.cps.size:=by lia
   subst this;exact k p np
theorem wwu {M:List Nat}{d:Aj}{o:Obj}{cs:List (Key×V)}{tk te:TE}{σ:St}{H:Hp}{Q:VK}(f:Key->V)(hz:cs.length<=1000000)(nd:(cs.map (·.1)).Nodup)(hd:H d=some (.frz o (.dK cs)))
  (he:∀(k:Key) (H':Hp) (R:V->V->Hp->Prop),Same H H'->R (kV k) (f k) H'->tk (zg M σ (some (kV k))) H' λy H4=>te (zg M σ (some (kV k))) H4 λz H5=>R y z H5)
  (k:∀p,H p=none->Q (.ref p) (upd H p (.dK (cs.map λc=>(c.1,f c.1))))):qku (ItD d o cs) M tk te σ H Q:=by
 intro p np;have ad:(1000000:Nat)<sizeLine:=by decide
 refine⟨λi m ys H2=>i<=cs.length/\m=cs.length-i/\ys=(cs.take i).map (λc=>(c.1,f c.1))/\H2=upd H p (.dK ys),⟨cs.length,aD _,rfl,rfl,rfl⟩,?_⟩;rintro i m ys H2 ⟨hi,rfl,rfl,rfl⟩;have I:d≠p:=wz hd np;refine⟨wj,by rw[ah,bD];lia,?_⟩;by_cases hlt:i<cs.length
 .refine .inr ⟨⟨by rw[wf I];exact hd,hlt⟩,?_⟩;rintro v H3 ⟨rfl,c,ec,rfl⟩;refine he c.1 _ _ (Same.upd np) ⟨c.1,rfl,wj,cs.length-(i+1),⋯,⋯,rfl,?_,?_⟩
  .have S:wt ((cs.take i).map λc=>(c.1,f c.1)) c.1=none:=by
    unfold wt;rw[List.find?_eq_none.mpr]
    .rfl
    .intro x O;obtain⟨y,L,rfl⟩:=aF.mp O;have J:y.1∈(cs.map (·.1)).take i:=by rw[<-List.map_take];exact aF.mpr ⟨y,L,rfl⟩
     intro z;have z:y.1=c.1:=by simpa using z
     obtain⟨j,U,F⟩:=List.getElem_of_mem J;rw[bD,ah]at U;rw[List.getElem_take]at F;have Z:(cs.map (·.1))[i]'(by rw[ah];exact hlt)=c.1:=by rw[eC];rw[ai hlt]at ec;rw[al ec]
     have:=(List.getElem_inj nd).mp (F.trans (z.trans Z.symm));lia
   rw[qz2 _ S,List.take_add_one,bo,ec];rfl
  .rw[Qn]
 .refine .inl ⟨⟨by rw[wf I];exact hd,⋯⟩,?_⟩;have:i=cs.length:=by lia
  subst this;rw[de];exact k p np
theorem for_di {d:Aj}{o:Obj}{cs:List (Key×V)}{g:TG}{tb:TS}{D:Ends}{σ:St}{H:Hp}(Pv:Nat->St->Hp->Prop)(h0:Pv 0 σ H)(hl:∀i σ H,i<=cs.length->Pv i σ H->H d=some (.frz o (.dK cs)))
  (hs:∀i c q σ H,cs[i]?=some c->H q=none->Pv i σ H->g (.ref q) σ (upd H q (.tup [kV c.1,c.2])) λσ2 H2=>tb { D with nx:=Pv (i+1),ct:=Pv (i+1),bk:=D.nx } σ2 H2) (hd:∀σ H,Pv cs.length σ H->D.nx σ H) :
  ∃W:Nat->Nat->St->Hp->Prop,(∃m,W 0 m σ H)/\∀i m σ H,W i m σ H ->
   ((ItDI d o cs).stop i H/\D.nx σ H)\/((ItDI d o cs).go i H/\∃N:St->Hp->Prop,(∀σ' H',N σ' H'->∃m',m'<m/\W (i+1) m' σ' H')/\∀x H',(ItDI d o cs).yld i H x H'->g x σ H' λσ2 H2=>tb { D with nx:=N,ct:=N,bk:=D.nx } σ2 H2):=by
 refine⟨λi m σ H=>m=cs.length-i/\i<=cs.length/\Pv i σ H,⟨cs.length,by simp,aD _,h0⟩,?_⟩;rintro i m σ H ⟨rfl,hi,p⟩;have q:=hl i σ H hi p;by_cases hlt:i<cs.length
 .refine .inr ⟨⟨q,hlt⟩,Pv (i+1),λσ' H' F=>⟨cs.length-(i+1),⋯,rfl,hlt,F⟩,?_⟩;rintro x H' ⟨z,c,nz,rfl,ec,rfl⟩;exact hs i c z σ H ec nz p
 .have e:i=cs.length:=by lia
  subst e;exact .inl ⟨⟨q,af _⟩,hd σ H p⟩
def ex1 (R:List (Key×V))(c:Key×V):List (Key×V):=if c.2=.non then yp R c.1 else vj R c.1 c.2
def exK (R cs:List (Key×V)):List (Key×V):=cs.foldl ex1 R
def bfK (R cs:List (Key×V)):List (Key×V):=cs.map λc=>(c.1,(wt R c.1).getD .non)
def ExOk (R cs:List (Key×V)):Prop:=∀(i:Nat) c,cs[i]?=some c->c.2=.non->(wt (exK R (cs.take i)) c.1).isSome=true
theorem wkq (R:List (Key×V)){cs:List (Key×V)}{i:Nat}{c:Key×V}(h:cs[i]?=some c):exK R (cs.take (i+1))=ex1 (exK R (cs.take i)) c:=by unfold exK;rw[List.take_add_one,h,List.foldl_append];rfl
theorem wv8 (R:List (Key×V))(c:Key×V):(ex1 R c).length<=R.length+1:=by
 unfold ex1;split
 .have:=qv2 R c.1;lia
 .exact km R c.1 c.2
theorem wz5 (R cs:List (Key×V)):(exK R cs).length<=R.length+cs.length:=by
 induction cs generalizing R with
 |nil=>exact af _
 |cons c cs ih =>
  have h1:=ih (ex1 R c);have h2:=wv8 R c;show(exK (ex1 R c) cs).length<=_;rw[aB];lia
def Kb (ch:List Aj)(H H':Hp):Prop:=∀b o,b∉ch->H b=some o->H' b=some o
section
variable {X:Cx}{C:Aj}{x:Str}{k:Nat}{sp:Sp}{E:St->XK}{p pos:Pos}
theorem Q3 (c:CCal X.prog X.w X.K X.mg X.base x C k sp)(hr:Room (k+1) X.A)(hg:Gl X x)(hx:kh X E)(hdb:autoParam ((x==("__debug__" : Str))=false) aU1._auto_1) :
  PE X (.Call (.Name x p) [] [] pos) (qk0 C sp E qqq):=by
 obtain⟨f,fd,ps,J,M,F,b⟩:=c.ex;intro pins s σ H Q I h;refine bJ (jb I hg J ?_ hdb);exact W.callWith_K0 I.kIn M.kp (qq9 (us:=[]) M F hr b hx I .nil h)
end
theorem Kb.rd {ch:List Aj}{H H':Hp}(k:Kb ch H H'){d:Aj}{kvs:List (Key×V)}(n:d∉ch)(h:Rd H d (.dK kvs)):Rd H' d (.dK kvs):=by
 rcases h with h|⟨o,h⟩
 .exact .inl (k _ _ n h)
 .exact .inr ⟨o,k _ _ n h⟩
theorem Kb.of {ch:List Aj}{H H':Hp}(s:Same H H'):Kb ch H H':=λc o _ e=>s c o e
end L2
namespace L2
open PySem PySem.Spec PyProof.Rows
theorem ht_gen {o:Expr}{m:Str}{apos pos:Pos}{e:Expr}{es:List Expr}{env:Env}(hb:attributeBase o m env (eval o env)=eval o env)(hf:methodCallForm ((e::es).length+0) (backTo pos (starEach (e::es) env)) (backToKw pos (keywordEach [] env))=true)(hp:methodCallPos true o env apos pos=pure pos) :
  eval (.Call (.Attribute o m apos) (e::es) [] pos) env=(do
   let ov <-eval o env
   standAt apos.atName
   let (f,first) <-holding [ov] (getMethod ov m (do return (<-importBound o env).getD true))
   callWith pos f first (backTo pos (starEach (e::es) env)) (backToKw pos (keywordEach [] env))):=by
 rw[arm_eval_Call,hb];unfold methodCall;rw[show(e::es).length+([]:List Keyword).length=(e::es).length+0 from rfl,hf,hp];rfl
section
variable {X:Cx}{C:Aj}{x m:Str}{k:Nat}{sp:Sp}{E:St->XK}{p pos apos:Pos}{e o:Expr}{es:List Expr}{ta te:TE}{t:TA}
theorem xv {v j p'}(ha:PE X (.Constant v j p') te)(hr:PA X es t):PA X (.Constant v j p'::es) (k8 te t):=w8 ha hr rfl
theorem wm {v p'}(ha:PE X (.Name v p') te)(hr:PA X es t):PA X (.Name v p'::es) (k8 te t):=w8 ha hr rfl
theorem Y1 {v p'}(ha:PE X (.List v p') te)(hr:PA X es t):PA X (.List v p'::es) (k8 te t):=w8 ha hr rfl
theorem Zn {v j p'}(ha:PE X (.Tuple v j p') te)(hr:PA X es t):PA X (.Tuple v j p'::es) (k8 te t):=w8 ha hr rfl
theorem zm {a b c p'}(ha:PE X (.Call a b c p') te)(hr:PA X es t):PA X (.Call a b c p'::es) (k8 te t):=w8 ha hr rfl
theorem k7 {a b c p'}(ha:PE X (.BinOp a b c p') te)(hr:PA X es t):PA X (.BinOp a b c p'::es) (k8 te t):=w8 ha hr rfl
theorem pa_cU {a b p'}(ha:PE X (.UnaryOp a b p') te)(hr:PA X es t):PA X (.UnaryOp a b p'::es) (k8 te t):=w8 ha hr rfl
theorem yj {a b p'}(ha:PE X (.Subscript a b p') te)(hr:PA X es t):PA X (.Subscript a b p'::es) (k8 te t):=w8 ha hr rfl
def qxb:List Expr->Bool
 |[]=>true
 |.Starred _ _::_=>false
 |_::r=>qxb r
theorem Wv {env:Env}:∀ {es:List Expr},qxb es=true->starEach es env=es.map λe=>(false,eval e env)
 |[],_=>rfl
 |e::r,h=>by
  cases e
  case Starred=>cases h
  all_goals exact bI _ (Wv (es:=r) h)
theorem Wb {pos:Pos}:∀ {l:List (Bool×Sem Ag)},(∀q∈l,q.1=false)->(backTo pos l).all (!·.1)=true/\(backTo pos l).any (·.1)=false:=by
 intro l h;have I:∀q∈backTo pos l,q.1=false:=by intro q F;unfold backTo at F;obtain⟨J,L,rfl⟩:=aF.mp F;exact h J L
 exact⟨df.mpr λq F=>by rw[I q F];rfl,List.any_eq_false.mpr λq F=>by rw[I q F];decide⟩
theorem xy (he:PE X o ta)(cl:Cls X.K C)(c:MCal X.prog X.w X.K X.mg X.base C m k sp)(hr:Room k X.A)(hx:kh X E)(ha:PA X (e::es) t)(hn:autoParam (qxb (e::es)=true) aU4._auto_1)(hl:autoParam ((e::es).length+0<30) aU1._auto_1)
  (hb:autoParam (∀z,attributeBase o m X.env z=z) aU3._auto_1) (hp:autoParam (methodCallPos true o X.env apos pos=pure pos) aU4._auto_1):PE X (.Call (.Attribute o m apos) (e::es) [] pos) (Zr C m sp E ta t):=by
 have h1:starEach (e::es) X.env=(false,eval e X.env)::starEach es X.env:=by
  cases e
  case Starred=>cases hn
  all_goals rfl
 have h2:∀q∈starEach (e::es) X.env,q.1=false:=λq hq=>by rw[Wv hn]at hq;obtain⟨z,_,rfl⟩:=aF.mp hq;rfl
 refine wwb he cl c hr hx ha h1 (Wb λq hq=>h2 q (by rw[h1];exact bc _ hq)).2 (ht_gen (hb _) ?_ hp);unfold methodCallForm;rw[(Wb (pos:=pos) h2).1];exact bv hl
theorem xx (c:Cal X.prog X.w X.K X.mg X.base x k sp)(hr:Room k X.A)(hg:Gl X x)(hx:kh X E)(ha:PA X (e::es) t)(hn:autoParam (qxb (e::es)=true) aU4._auto_1)(hdb:autoParam ((x==("__debug__" : Str))=false) aU1._auto_1):PE X (.Call (.Name x p) (e::es) [] pos) (qkj sp E t):=by
 have h1:starEach (e::es) X.env=(false,eval e X.env)::starEach es X.env:=by
  cases e
  case Starred=>cases hn
  all_goals rfl
 have h2:∀q∈starEach (e::es) X.env,q.1=false:=λq hq=>by rw[Wv hn]at hq;obtain⟨z,_,rfl⟩:=aF.mp hq;rfl
 exact Z6 c hr hg hx ha hdb h1 (Wb λq hq=>h2 q (by rw[h1];exact bc _ hq)).2
theorem wCA (c:Cal X.prog X.w X.K X.mg X.base x k sp)(ha:PA X (e::es) t)(hr:Room k X.A:=by exact Room.mono (by assumption) ⋯)(hg:autoParam (Gl X x) aU4._auto_1)(hx:kh X E:=by exact wv)(hn:autoParam (qxb (e::es)=true) aU4._auto_1)(hdb:autoParam ((x==("__debug__" : Str))=false) aU1._auto_1):PE X (.Call (.Name x p) (e::es) [] pos) (qkj sp E t):=xx c hr hg hx ha hn hdb
end
end L2
namespace L2
open PySem PySem.Spec PyProof.Rows
section
variable {X:Cx}
theorem qqc:kj X (.type "int") (λxs H Q=>∃z n,xs=[.str z]/\PySem.intText? z=some n/\z.length<=640/\Q (.int n) H):=by intro pins s σ H xs J Q I r h;obtain⟨z,n,rfl,e,F,q⟩:=h;obtain⟨u,rfl,t,rfl⟩:=yn r;exact W.KIN.call_text e F ⟨.int n,H,I.tok _,⟨_,rfl⟩,q⟩
theorem Wh:∀l:List (Str×Tok),Vals ((l.map (·.1)).map V.str) (strValues l)
 |[]=>.nil
 |(s,k)::l=>.cons ⟨k,rfl⟩ (Wh l)
theorem qzb:MtM X "str.split" (λx xs H Q=>∃z y:Str,x=.str z/\xs=[.str y]/\(y.length==0)=false/\z.length<=sizeLine/\(Builtin.Str.partsBetween z (Builtin.Str.occurrences z y 0 z.length (z.length+1)) y.length).length<=sizeLine/\(Txt.split z y).length<=sizeLine/\∀l,H l=none->Q (.ref l) (upd H l (.lst ((Txt.split z y).map V.str)))):=by
 intro pins s σ H x xs v us Q I L O h;obtain⟨z,y,rfl,rfl,J,Z,U,hn,q⟩:=h;obtain⟨t,rfl⟩:=L;obtain⟨u,rfl,S⟩:=O.one;obtain⟨u,rfl⟩:=S;have F:∀(l:List (Str×Tok)) (k:Nat),l.map (·.1)=Txt.split z y->EP X pins σ Q (.ref s.heap.objs.size) { s with toks:=k,heap:=s.heap.push { cls:=.type "list",data:=.seq (strValues l).toArray } }:=λl k e =>
  ⟨.ref s.heap.objs.size,upd H s.heap.objs.size (.lst ((Txt.split z y).map V.str)),I.laid (t':=k) (λb u e=>ac _ e) (af _) ⟨by rw[ah];exact hn,_,0,by rw[<-e];exact Wh l,aj _ rfl⟩,rfl,q _ (I.hok.fresh (af _))⟩
 cases h1:(decide (z.length<y.length)||decide (Builtin.Str.strKind z<Builtin.Str.strKind y))
 .cases hf:(Builtin.Str.occurrences z y 0 z.length (z.length+1)).isEmpty
  .refine eL eE (typeIs_str _ _ _) dY (dN _ _) (meets_str_split_sep z y t u h1 J hf Z U) ?_;show wants _ _ _ { s with toks:=_,heap:=s.heap.push { cls:=.type "list",data:=.seq (strsFrom s.toks (Builtin.Str.partsBetween z (Builtin.Str.occurrences z y 0 z.length (z.length+1)) y.length)).toArray } };rw[strsFrom_eq];exact F (numbered s.toks _) _ ((numbered_texts _ _).trans ((ak (dv h1)).trans (ak (dv hf))).symm)
  .exact eL eE (typeIs_str _ _ _) dY (dN _ _) (meets_str_split_not_found z y t u h1 J hf) (F [(z,t)] _ ((ak (dv h1)).trans (ao hf)).symm)
 .exact eL eE (typeIs_str _ _ _) dY (dN _ _) (meets_str_split_cannot_occur z y t u h1) (F [(z,t)] _ (ao h1).symm)
end
end L2
set_option maxHeartbeats 0
namespace L2
theorem c5 {a b c d e:TS}{D:Ends}{σ:St}{H:Hp}(h:∀a' b' c' d' e',a'=a->b'=b->c'=c->d'=d->e'=e->qxs a' (qxs b' (qxs c' (qxs d' e'))) D σ H):qxs a (qxs b (qxs c (qxs d e))) D σ H:=h _ _ _ _ _ rfl rfl rfl rfl rfl
end L2
namespace L2
open PySem
section
variable {K:Aa}{a:Aj}{c j:Int}{r:List V}{i:Nat}{A B u:TS}{D:Ends}{σ:St}{H:Hp}
end
end L2
namespace L2
end L2
namespace L2
open PySem PySem.Spec PyProof.Rows
theorem kf {X:Cx}{ss:List Stmt}:PSs X ss (λ_ _ _=>False):=λ_ _ _ _ _ _ h=>h.elim
inductive Hit (K:Aa) (C:Aj):List Aj->Bool->Prop
 |one {D:Aj} {b:Bool} (h:W.mroIn K C (.ref D)=some b):Hit K C [D] b
 |two {D1 D2:Aj} {b1 b2:Bool} (h1:W.mroIn K C (.ref D1)=some b1) (h2:W.mroIn K C (.ref D2)=some b2):Hit K C [D1,D2] (b1||b2)
inductive PHt (X:Cx):List ExceptHandler->List (List Aj×TS)->Prop
 |nil:PHt X [] []
 |one {x:Str} {D0:Aj} {np hpos:Pos} {b₀:Stmt} {suite:List Stmt} {th:TS} {hs:List ExceptHandler} {trs:List (List Aj×TS)} (hg:Gl X x) (hm:X.mg x=some (.ref D0)) (hc:ExcC X.K D0) (hh:∀e,PSs (X.handling e) (b₀::suite) th) (r:PHt X hs trs) (hdb:(x==("__debug__" : Str))=false) :
  PHt X (.ExceptHandler (some (.Name x np)) none (b₀::suite) hpos::hs) (([D0],th)::trs)
 |two {x y:Str} {D1 D2:Aj} {np np2 tp hpos:Pos} {ld:Nat} {b₀:Stmt} {suite:List Stmt} {th:TS} {hs:List ExceptHandler} {trs:List (List Aj×TS)} (hg:Gl X x) (hm:X.mg x=some (.ref D1)) (hc:ExcC X.K D1) (hg2:Gl X y) (hm2:X.mg y=some (.ref D2)) (hc2:ExcC X.K D2) (hh:∀e,PSs (X.handling e) (b₀::suite) th) (r:PHt X hs trs)
  (hdb:(x==("__debug__" : Str))=false) (hdb2:(y==("__debug__" : Str))=false) :
  PHt X (.ExceptHandler (some (.Tuple [.Name x np,.Name y np2] ld tp)) none (b₀::suite) hpos::hs) (([D1,D2],th)::trs)
section
variable {X:Cx}{pins:List (Aj×Obj)}{σ:St}{H H':Hp}{s s':Ab}{e:Aj}
end
section
variable {X:Cx}{pos:Pos}{body:List Stmt}{tb:(St->XK)->TS}{h1:ExceptHandler}{hs1:List ExceptHandler}{trs:List (List Aj×TS)}
end
end L2
namespace L2
open PySem PySem.Spec PyProof.Rows
theorem Jg:entryFor table "proto.unchain" = some Builtin.«proto.unchain»:=entryFor_of_fast (by kernel_rfl)
section
variable {prog:Ac}{w:Ah}{A:Ae}{E:Ag->Ab->Prop}{s:Ab}
theorem qjk {e h:Aj}{o:Obj}{vs:Array Ag}{b:Bool}{R:Result->Ab->Prop}(hh:s.heap.get? h=some o)(hd:o.data=.fields vs)(h2:vs[2]?=some .none)(q:R (.ok (.ret .none)) s) :
  codeAny (model prog w) A (.builtin "proto.unchain" ⟨[.ref e,.ref h,.ref h,.bool b],[]⟩) R s:=by
 refine codeAny_builtinAt Jg (wpAt_of_wpAny ?_);unfold Builtin.«proto.unchain»;refine aa (aR hh hd h2 ?_);rw[ao (show(Value.none==Value.none)=true from rfl)];exact ag q
theorem Jt {α:Type}{e h:Aj}{o oe:Obj}{vs ws:Array Ag}{Q:α->Ab->Prop}(hA:A.handled=some (.ref h))(hh:s.heap.get? h=some o)(hd:o.data=.fields vs)(h2:vs[2]?=some .none)(ne:h≠e)
  (he:s.heap.get? e=some oe) (hde:oe.data=.fields ws) (z2:2<ws.size) (q:E (.ref e) { s with heap:=s.heap.update e (Obj.mapFields (·.setIfInBounds 2 (.ref h))) }):wpAny (model prog w) A (raiseNew (.ref e):Sem α) Q E s:=by
 unfold raiseNew;refine aa (wpAny_handled ?_);rw[hA];show wpAny (model prog w) A (do if(Value.ref h != Value.ref e)=true then _ else _) Q E s;rw[ao (show(Value.ref h != Value.ref e)=true from by simp[ne])];refine aa (bn (wpAny_runValue (qjk hh hd h2 ?_)));refine aa ?_;have:=dI (M:=model prog w) (A:=A) (E:=E) (Q:=λ_ s'=>wpAny (model prog w) A (throw (.ref e):Sem α) Q E s') he hde z2 (x:=.ref h) (wpAny_throw q);exact this
end
section
variable {prog:Ac}{w:Ah}{A:Ae}{E:Ag->Ab->Prop}{s:Ab}{env:Env}
variable {nm q:Str}{C N:Aj}{bs bm bmB:List Ag}{hdct:Bool}{sn:List Str}{sub:List Ag}{ab:Bool}{col:Option Bool}{dd:Option Aj}{k0 k1' k2' k3 k5:Option Ag}{newId initId B:String}
theorem qu6 {x c:Sem Ag}{hx:Aj}{Q:Flow->Ab->Prop}(hbase:bm.contains (.type "BaseException")=true)(hA:A.handled=some (.ref hx))(hcn:∀ {Q:Ag->Ab->Prop} {s:Ab},Q .none s->wpAny (model prog w) A c Q E s)
  (h:wpAny (model prog w) A x (λv s₁=>∃e t o vs,v=.ref e/\s₁.heap.get? C=some (excClassObj nm q C N bs bm hdct sn sub ab col dd k0 k1' k2' k3 k5 newId)/\s₁.heap.get? e=some { cls:=.ref C,data:=.fields #[.ref t,.none,.none,.none,.bool false,.none] } /\
   s₁.heap.get? hx=some o/\o.data=.fields vs/\vs[2]?=some .none/\hx≠e/\C≠e/\∀g oe,g.get? e=some oe->oe.cls=.ref C->oe.data=.fields #[.ref t,.none,.ref hx,.none,.bool true,.none]->(∀b,b≠e->g.get? b=s₁.heap.get? b)->E (.ref e) { s₁ with heap:=g }) E s) :
  wpAny (model prog w) A (raiseStmt env (some x) (some c)) Q E s:=by
 have ad:(Value.ref C::bm).contains (.type "BaseException")=true:=by rw[List.contains_cons,hbase,Bool.or_true]
 unfold raiseStmt;refine aa (aG h (λv s₁ h₁=>?_) λ_ _ x=>x);obtain⟨e,t,o,vs,rfl,S,he,ho,hd,h2,L,Z,hE⟩:=h₁;refine aa (bn (hcn (aa (ag ?_))));dsimp -zeta only;refine aa (bn ?_);refine aG (Q:=λv s'=>v=.ref e/\s'=s₁) (E:=E) ?_ ?_ λ_ _ z=>z
 .obtain⟨hp,g,d,tk,os⟩:=s₁;unfold excFromValue
  repeat (first | with_reducible refine aW he ?_ | with_reducible refine aW S ?_ | (with_reducible refine du S ?_;rw[ad]) | wp_step)
  exact⟨rfl,rfl⟩
 rintro _ s₂ ⟨rfl,hs⟩;subst hs;rw[ao (show(Value.none==Value.none)=true from rfl)];refine aa (ag ?_);refine aa (Z8 he rfl (by simp) λg1 o1 e1 c1 d1 J=>?_);refine aa (Z8 e1 d1 (by simp) λU o2 F c2 d2 I=>?_);have an:U.get? C=some (excClassObj nm q C N bs bm hdct sn sub ab col dd k0 k1' k2' k3 k5 newId):=(I C Z).trans ((J C Z).trans S);obtain⟨cl,dc,da,sl⟩:=o2;have c3:cl=.ref C:=c2.trans c1;subst c3;have d3:da=.fields #[.ref t,.none,.none,.none,.bool true,.none]:=d2;subst d3;dsimp only at J I;dsimp -zeta only;refine aa (aG (Q:=λv s'=>v=false/\s'={ s₂ with heap:=U }) (E:=E) ?_ ?_ λ_ _ z=>z)
 .obtain⟨hp,g,d,tk,os⟩:=s₂;unfold isType loadHead
  repeat (first | with_reducible refine aW F ?_ | wp_step)
  exact⟨rfl,rfl⟩
 rintro _ _ ⟨rfl,rfl⟩;rw[ak ⋯];refine aa (aG (Q:=λv s'=>v=.ref e/\s'={ s₂ with heap:=U }) (E:=E) ?_ ?_ λ_ _ z=>z)
 .obtain⟨hp,g,d,tk,os⟩:=s₂;unfold raisedInstance
  repeat (first | with_reducible refine aW F ?_ | with_reducible refine aW an ?_ | (with_reducible refine du an ?_;rw[ad]) | wp_step)
  exact⟨rfl,rfl⟩
 rintro _ _ ⟨rfl,rfl⟩;unfold setFlight;refine aa (aa (aR (x:=.none) F rfl rfl ?_));rw[ak ⋯];refine ag ?_;refine Jt (o:=o) (oe:=_) hA ((I hx L).trans ((J hx L).trans ho)) hd h2 L F rfl (by simp) ?_;refine hE _ _ (cT _ F (cU (bZ rfl _))) rfl rfl λb O=>?_;exact(cQ _ _ (ba O)).trans ((I b O).trans (J b O))
end
end L2
namespace L2
open PySem PySem.Spec PyProof.Rows
theorem ObjOk.there1 {P:Ac}{w:Ah}{H:Hp}{h:Heap}{a:Aj}{o:HO}(x:ObjOk P w H h a o):∃ob,h.get? a=some ob:=by
 cases o with
 |lst xs=>obtain⟨_,_,_,_,e⟩:=x;exact⟨_,e⟩
 |tup xs=>obtain⟨_,_,_,⟨o,e,_⟩⟩:=x;exact⟨_,e⟩
 |dK kvs=>obtain⟨_,_,_,_,o,_,_,e,_⟩:=x;exact⟨_,e⟩
 |dT kvs=>obtain⟨_,_,_,_,o,_,_,e,_⟩:=x;exact⟨_,e⟩
 |set S n=>obtain⟨o,_,_,_,e,_⟩:=x;exact⟨_,e⟩
 |ins C dx fs=>obtain⟨_,_,_,e,_⟩:=x;exact⟨_,e⟩
 |own y=>obtain⟨_,e⟩:=x;exact⟨_,e⟩
 |xd fs=>obtain⟨_,⟨_,_,_,e,_⟩,_⟩:=x;exact⟨_,e⟩
 |rng lo hi=>obtain⟨_,_,_,e⟩:=x;exact⟨_,e⟩
 |frz ob u=>obtain⟨e,_⟩:=x;exact⟨_,e⟩
 |tbl ps=>exact⟨_,(show h.get? a=some _ from x)⟩
 |met f y=>exact⟨_,(show h.get? a=some _ from x)⟩
 |ext φ=>obtain⟨_,e,_⟩:=x;exact e
abbrev Cx.handlingR (X:Cx)(e:Aj)(pn:List (Aj×Obj)):Cx:={ X with A:=X.A.mark (some (.ref e)),calm:=false,pn:=pn }
section
variable {X:Cx}{pins pn:List (Aj×Obj)}{σ:St}{H H':Hp}{s s':Ab}{e:Aj}{ob:Obj}
theorem Cx.Ok.handlingR (o:X.Ok)(e:Aj)(pn:List (Aj×Obj)):(X.handlingR e pn).Ok :=
 ⟨o.mod,o.kind,o.glob,o.blt,o.above,o.inj,o.has,o.cab,λz=>(aq z).elim,o.frames,o.stk,o.exf,o.bs,o.bsz,o.noex,o.exfs,o.funs,o.frf⟩
theorem Inv.handlingR (I:Inv X pins σ H s)(h1:s.heap.get? e=some ob)(h2:H e=none)(h3:e≠X.env.locals)(h4:e∉X.fs)(h5:∀v,ob.data≠.cell v):Inv (X.handlingR e ((e,ob)::(X.pn++pins))) [] σ H s :=
 ⟨I.ok.handlingR _ _,I.os,I.bare,I.base,I.loc,I.cell,I.free,I.freeC,λp hp=>by
  rw[bB]at hp
  rcases av.mp hp with rfl|hp
  .exact⟨h1,h2,h3,h4,h5⟩
  .exact I.pin p hp,I.hok,I.len⟩
theorem Inv.unhandlingR {pins':List (Aj×Obj)}(o:X.Ok)(I:Inv (X.handlingR e ((e,ob)::(X.pn++pins))) pins' σ H s):Inv X pins σ H s :=
 ⟨o,I.os,I.bare,I.base,I.loc,I.cell,I.free,I.freeC,λp hp=>I.pin p (bq _ (.tail _ hp)),I.hok,I.len⟩
theorem SP.unhandlingR {D:Ends}{f:Flow}(o:X.Ok)(h:SP (X.handlingR e ((e,ob)::(X.pn++pins))) [] D f s'):SP X pins D f s':=by
 cases f with
 |next=>obtain⟨a,b,c,d⟩:=h;exact⟨a,b,c.unhandlingR o,d⟩
 |brk=>obtain⟨a,b,c,d⟩:=h;exact⟨a,b,c.unhandlingR o,d⟩
 |cont=>obtain⟨a,b,c,d⟩:=h;exact⟨a,b,c.unhandlingR o,d⟩
 |ret u=>obtain⟨v,a,b,c,d⟩:=h;exact⟨v,a,b,c.unhandlingR o,d⟩
structure Caught (X:Cx)(e:Aj)(pn:List (Aj×Obj)):Prop where
 ok:X.Ok
 ex:∃ob vs ps,pn=(e,ob)::(X.pn++ps)/\ob.data=.fields vs/\vs[2]?=some .none
theorem landR {E:XK}{ev:Ag}{x:Str}{D0:Aj}{np hpos:Pos}{b₀:Stmt}{suite:List Stmt}{rest:List ExceptHandler}{th:TS}{D:Ends}(I:Inv X pins σ H s)(hst:X.stack=X.env::X.outer)(hfr:X.env.frame=some X.env.locals)
  (hp:∀e,PassesOwnAt (model X.prog X.w) (X.A.mark (some e)) X.A X.env X.xe)
  (hg:Gl X x) (hm:X.mg x=some (.ref D0)) (hdb:(x==("__debug__" : Str))=false) (hx:CXE X.prog X.w X.stack H s E ev s') (hE:∀c d H',E c d H'->d=none/\∃C,c=.ref C/\Z1 X.K C D0/\th D σ H')
  (hh:∀e pn,Caught X e pn->PSs (X.handlingR e pn) (b₀::suite) th) :
  wpAny (model X.prog X.w) X.A (noteFrame ev X.env) (λ_ s2=>wpAny (model X.prog X.w) X.A (setFlight ev none) (λ_ s3 =>
   wpAny (model X.prog X.w) X.A (handleBy ev X.env (.ExceptHandler (some (.Name x np)) none (b₀::suite) hpos::rest)) (SP X pins D) X.xe s3) X.xe s2) X.xe s':=by
 obtain⟨a,C,a0,ws,dd,B,H',rfl,bk,b3,U,a6,ad,⟨w0,w2⟩,a5,q⟩:=hx;obtain⟨hd,C1,S,b2,bf⟩:=hE _ _ _ q;have w2:=w2 hd;cases S;have mk:∀(F:Heap) (l:Ag),FlyV B X.stack a (.ref C) ws l F->s'.heap.UpToSlots F->Inv X pins σ H' { s' with heap:=F }:=λF l fl up=>by
  refine I.call' (s':={ s' with heap:=F }) (ch:=[]) bk ⟨λb o e n nb _=>?_,λb o e n L _=>?_,λb o e n _=>U.free b o e n nin,λb o e _=>?_,U.tups,U.frzs,U.tbls⟩ (a6.kept fl.1) b3 (λb z=>nomatch z)
  .obtain⟨o',S,O⟩:=a5 b o e nb;rw[O n]at S;exact fl.1 b o S
  .obtain⟨sl,O⟩:=U.slot b o e n L nin;obtain⟨_,o3,J,Z⟩:=ad.2.2.1.mem (b:=b) L;obtain⟨a4,e4⟩:=up b o3 J Z;rw[O]at J;have e5:=al J;exact⟨a4,by show F.get? b=_;rw[e4,<-e5]⟩
  .by_cases L:b∈frs X.stack
   .obtain⟨_,o3,J,Z⟩:=ad.2.2.1.mem (b:=b) L;obtain⟨a4,e4⟩:=up b o3 J Z;exact⟨_,e4⟩
   .obtain⟨o',S,_⟩:=a5 b o e L;exact⟨o',fl.1 b o' S⟩
 have b4:H' a=none:=by
  cases e:H' a with
  |none=>rfl
  |some u =>
   obtain⟨ob,O⟩:=(a6 a u e).there1;rw[ad.2.1]at O;cases O
 have b1:X.A.frames=some (X.env::X.outer):=by rw[<-hst];exact I.ok.frames
 rw[hst]at ad;refine ww8 b1 hfr ad λh4 b5 a3=>?_;refine Qm b5 none λh5 a1 a2=>?_;have I5:=mk h5 _ (by rw[hst];exact a1) (a3.trans a2);have b6:=I5.handling a;obtain⟨ob,T,oT,ts,b0,bl,_⟩:=a1.2.2.2;refine wpAny_handleBy_cons (codeAny_handlers_test (jb (X:=X.handling a) b6 hg hm ?_ hdb)) (by intro z;cases z);obtain⟨b9,gg,dx,tk,os⟩:=s';refine b2 (h:=h5) I5.kIn b0 bl ?_;refine codeAny_handlers_suite ?_;refine Qm a1 none λF ap a9=>?_;have I6:=mk F _ (by rw[hst];exact ap) ((a3.trans a2).trans a9);obtain⟨oe,T6,b8,b7,a7,ca,an,hz,_⟩:=id ap.2.2.2;have a8:a∉frs (X.env::X.outer):=λL=>by obtain⟨_,o3,J,Z⟩:=ap.2.2.1.mem (b:=a) L;rw[a7]at J;cases J;exact Z _ an
 have I7:=I6.handlingR (e:=a) (ob:=oe) a7 b4 (λz=>a8 (by rw[jr hfr,z];exact .head _)) (λz=>a8 (by rw[jr hfr];exact .tail _ z)) (λv z=>by rw[an]at z;cases z);refine wpAny_passesOwnAt (hp _) ?_;exact aG (hh a _ ⟨I.ok,_,_,_,rfl,an,by rw[cS ⋯];exact w2⟩ [] _ σ H' D I7 bf) (λf s2 h2=>h2.unhandlingR I.ok) λ_ _ z=>z
end
def tTryR (K:Aa)(D0:Aj)(tb:(St->XK)->TS)(th:TS):TS:=λD σ H=>tb (λσ' c d H'=>d=none/\∃C,c=.ref C/\Z1 K C D0/\th D σ' H') D σ H
section
variable {X:Cx}{x:Str}{D0:Aj}{np hpos pos:Pos}{b₀:Stmt}{body suite:List Stmt}{tb:(St->XK)->TS}{th:TS}
theorem wz7 (hst:X.stack=X.env::X.outer)(hfr:X.env.frame=some X.env.locals)(hp:∀e,PassesOwnAt (model X.prog X.w) (X.A.mark (some e)) X.A X.env X.xe)(hg:Gl X x)(hm:X.mg x=some (.ref D0))
  (hb:∀(pn:List (Aj×Obj)) (xe:Ag->Ab->Prop) (E:St->XK),kh (X.trying pn xe) E->PassesOwn (model X.prog X.w) X.A X.env xe->PSs (X.trying pn xe) body (tb E))
  (hh:∀e pn,Caught X e pn->PSs (X.handlingR e pn) (b₀::suite) th) (hdb:autoParam ((x==("__debug__" : Str))=false) aU1._auto_1) :
  PS X (.Try body [.ExceptHandler (some (.Name x np)) none (b₀::suite) hpos] [] [] pos) (tTryR X.K D0 tb th):=by
 intro pins s σ H D I h;refine wpAny_Try_except ?_;refine aG (hb (X.pn++pins) (λe L=>wpAny (model X.prog X.w) X.A (noteFrame e X.env) (λ_ J=>wpAny (model X.prog X.w) X.A (setFlight e none) (λ_ F =>
   wpAny (model X.prog X.w) X.A (handleBy e X.env [.ExceptHandler (some (.Name x np)) none (b₀::suite) hpos]) (SP X pins D) X.xe F) X.xe J) X.xe L) _ ?_ PassesOwn.looking [] s σ H D (I.trying _) h) (λf O h1=>?_) λ_ _ z=>z
 .intro an Z H1 O e ad U S;exact landR (X:=X) (U.untrying I.ok) hst hfr hp hg hm hdb S (λc d H' q=>q) hh
 .have h2:=h1.untrying I.ok;cases f with
  |next=>exact cf h2
  |brk=>exact h2
  |cont=>exact h2
  |ret u=>exact h2
end
def wvj (C:Aj)(E:St->XK)(t:TA):TS:=λD σ H=>t σ H λvs H1=>vs.length<=sizeLine/\∀d,E σ (.ref C) (some d) H1
section
variable {X:Cx}{C:Aj}{E:St->XK}{x:Str}{np cpos pos jp:Pos}{j:Nat}{h:Aj}{pn:List (Aj×Obj)}{e:Expr}{es:List Expr}{t:TA}
theorem qy3 (W:Caught X h pn)(c:ExcC X.K C)(hR:wxx X E)(hg:Gl X x)(hm:X.mg x=some (.ref C))(ha:PA (X.handlingR h pn) (e::es) t)(hdb:autoParam ((x==("__debug__" : Str))=false) aU1._auto_1)
  (he:autoParam (starEach (e::es) X.env=(false,eval e X.env)::starEach es X.env) aU4._auto_1) (hpl:autoParam ((backTo cpos (starEach es X.env)).any (·.1)=false) aU4._auto_1) :
  PS (X.handlingR h pn) (.Raise (some (.Call (.Name x np) (e::es) [] cpos)) (some (.Constant .none j jp)) pos) (wvj C E t):=by
 intro pins s σ H D I q0;obtain⟨o,ob,vs,ps,an,hd,h2⟩:=W;subst an;obtain⟨tl,N,a1,a2,a3,a4,a5,a6,a7,a8,a9,b0,b1,b2,b3,b5,mN,hC,hN,a0,T⟩:=qzj I.ok.mod.kin c.q;have F:=bK;rw[arm_exec_Raise];refine aa (bS (qu6 (C:=C) (newId := "ValueError.__new__") (nm:=a1) (q:=a2) (N:=N) (bs:=a3) (bm:=tl) (hdct:=a4) (sn:=a5) (sub:=a6) (ab:=a7) (col:=a8) (dd:=a9) (k0:=b0) (k1':=b1) (k2':=b2) (k3:=b3) (k5:=b5) (T.hasType F.hasBase) rfl (λhq=>aa (Constant_none (aa (bS (ag hq))))) ?_));have bf:wpAny (model X.prog X.w) (X.A.mark (some (.ref h))) (eval (.Name x np) X.env) (λf O=>f=.ref C/\O=s) X.xe s:=jb I hg hm ⟨rfl,rfl⟩ hdb;refine aa (aG (wpAny_Call_ofName (aG bf (λf O h₁=>?_) λ_ _ x=>x)) (λv s₃ h₃=>aa (bS (ag h₃))) λ_ _ x=>x);obtain⟨rfl,rfl⟩:=h₁;unfold callWith;have hw:=ha cpos pins O σ H _ I q0;have ap:(backTo cpos (starEach (e::es) X.env)).any (·.1)=false:=by rw[he];show(false||(backTo cpos (starEach es X.env)).any (·.1))=false;rw[hpl];rfl
 have b7:wpAny (model X.prog X.w) (X.A.mark (some (.ref h))) (evalArgs (.ref C) true (backTo cpos (starEach (e::es) X.env)) []) (λa U=>a.kw=[]/\∃vs H1,Inv (X.handlingR h ((h,ob)::(X.pn++ps))) pins σ H1 U/\Vals vs a.pos/\vs.length<=sizeLine/\∀d,E σ (.ref C) (some d) H1) X.xe O:=by rw[he]at hw ⊢;exact cy (aG hw (λus s1 ⟨vs,H1,L,r,hl,q⟩=>⟨rfl,vs,H1,L,r,hl,q⟩) λ_ _ z=>z)
 refine aa (bn (aG b7 (λa U h₂=>aa (bS ?_)) λ_ _ x=>x));obtain⟨apos,b9⟩:=a;obtain⟨b6,ws,H1,L,r,bl,q⟩:=h₂;obtain rfl:b9=[]:=b6;have S:=L.bk _ _ hC;have b8:=hN.keeps L.bk;have T2:=T.keeps L.bk;have b4:apos.length<=sizeLine:=by rw[<-r.length];exact bl
 obtain⟨hp,g,dr,tk,os⟩:=U;simp only[ap];refine aa (wpAny_keeperOf_exc S ?_);refine aa (wpAny_call_exc_subT (hrest:=b4) F T2 S b8 a0 λh' e' J=>aa (bn (wpAny_point (ag ?_))));obtain⟨t',ht,_,_⟩:=J.there;have ad:=(L.pin (h,ob) (bq _ (.head _))).1;refine⟨e',t',ob,vs,rfl,J.keeps _ _ S,ht,J.keeps _ _ ad,hd,h2,λz=>?_,λz=>?_,λg' oe ge gc gd gk=>?_⟩
 .subst z;have:=J.new;rw[ad]at this;cases this
 .subst z;have:=J.new;rw[S]at this;cases this
 .have I2:=L.unhandlingR o;refine hR _ σ H1 ⟨hp,g,dr,tk,os⟩ g' e' C oe _ (.ref t') (some h) I2 J.new (λb o' Z=>?_) ge gc gd rfl rfl (λz=>nomatch z) (q h);have ne:b≠e':=λz=>by subst z;have:=J.new;rw[this]at Z;cases Z
  exact(gk b ne).trans (J.keeps b o' Z)
end
end L2
namespace L2
open PySem PySem.Spec PyProof.Rows PySem.W
structure ExcI (K:Frag)(C:Aj):Prop where
 ga:findIn K (.ref C) "__getattribute__" = some (some (.builtin "BaseException.__getattribute__"))
 gx:findIn K (.ref C) "__getattr__" = some none
 cl:findIn K (.ref C) "__class__" = some (some (.builtin "object.__class__"))
 mb:mroIn K C (.type "BaseException")=some true
 mo:mroIn K C (.type "object")=some true
section
variable {K:Frag}{prog:Ac}{w:Ah}{A:Ae}{E:Ag->Ab->Prop}{h:Heap}{g:Array GenState}{d:Drawn}{t:Nat}{os:OsState}{a C:Aj}{o:Obj}{vs:Array Ag}
theorem wv2 {R:Result->Ab->Prop}(X:K.In h)(I:ExcI K C)(hx:h.get? a=some o)(hc:o.cls=.ref C)(hd:o.data=.fields vs)(hq:R (.ok (.ret (.ref C))) ⟨h,g,d,t,os⟩) :
  codeAny (model prog w) A (.call (.builtin "getset_descriptor.__get__") ⟨[.builtin "object.__class__",.ref a,.ref C],[]⟩) R ⟨h,g,d,t,os⟩:=by
 have J:(⟨h,g,d,t,os⟩:Ab).TypeIs (.builtin "object.__class__") "getset_descriptor" := F.typeOf_object_class;have L:Looks (model prog w) h (isSubtype (.ref C) (.type (".".intercalate ("object.__class__".cutAt '.').dropLast))) true:=by rw[F.owner_object_class];exact looks_mroIn X I.mo
 refine codeAny_call_builtin F.slot_gs_get.plain F.entry_gs_get (F.slot_gs_get.check _ _ _ _ _ _ _ _ J (F.args_gs_get _ _ _) ?_)
 repeat (any_goals (first | assumption | (with_reducible refine aW hx ?_;rw[hc]) | with_reducible refine L.at ?_ | wp_step))
 refine⟨Code.quiet_builtin _ (by decide +kernel),eR F.entry_object_class ?_⟩
 repeat (any_goals (first | assumption | (with_reducible refine aW hx ?_;rw[hc]) | wp_step))
theorem qy5 {tk:Tok}{Q:Fin->Ab->Prop}(X:K.In h)(I:ExcI K C)(hx:h.get? a=some o)(hc:o.cls=.ref C)(hd:o.data=.fields vs)(hq:Q (.done (.ret (.ref C))) ⟨h,g,d,t,os⟩) :
  wpAny (model prog w) A (Builtin.«object.__getattribute__» ⟨[.ref a,.str "__class__" tk],[]⟩) Q E ⟨h,g,d,t,os⟩:=by
 have S:=F.typeOf_object_class;have O:=F.slot_gs_get.lookup;have J:=F.slot_gs_set.lookup;have L:Looks (model prog w) h (typeLookup (.ref C) "__class__") (some (.builtin "object.__class__")):=looks_findIn X I.cl
 repeat (any_goals (first | assumption | (with_reducible refine aW hx ?_;rw[hc]) | with_reducible refine L.at ?_ | wp_step))
 refine wv2 X I hx hc hd ?_
 repeat (any_goals (first | assumption | wp_step))
theorem quq {M:Model}{nameV:Ag}{Q:Unit->Ab->Prop}(X:K.In h)(I:ExcI K C)(hx:h.get? a=some o)(hc:o.cls=.ref C)(hq:Q () ⟨h,g,d,t,os⟩):wpAny M A (checkBuiltinCall "BaseException.__getattribute__" ⟨[.ref a,nameV],[]⟩) Q E ⟨h,g,d,t,os⟩:=by
 have O:builtinKind "BaseException.__getattribute__" = some .slot:=by decide +kernel
 have J:splitId "BaseException.__getattribute__" = some ("BaseException","__getattribute__"):=by decide +kernel
 have L:Looks M h (isSubtype (.ref C) (.type "BaseException")) true:=looks_mroIn X I.mb;have S:=F.args_bexc_ga (.ref a) nameV;simp only[checkBuiltinCall,O,J];refine aa ?_;unfold isInstance
 repeat (first | (with_reducible refine aW hx ?_;rw[hc]) | with_reducible refine L.at ?_ | wp_step)
 exact hq
theorem xcl_by {tk:Tok}{fill expr:Bool}{Q:Ag->Ab->Prop}(X:K.In h)(I:ExcI K C)(hx:h.get? a=some o)(hc:o.cls=.ref C)(hd:o.data=.fields vs)(hq:Q (.ref C) ⟨h,g,d,t,os⟩) :
  wpAny (model prog w) A (getAttrBy (.ref a) (.str "__class__" tk) fill expr) Q E ⟨h,g,d,t,os⟩:=by
 have Z:=F.attr_ValueError.ga.bind (.ref a);have U:(expr&&onTheHeap (Value.builtin "BaseException.__getattribute__"))=false:=by cases expr <;> rfl
 have J:(Value.builtin "BaseException.__getattribute__" == Value.builtin "object.__getattribute__")=false:=by decide +kernel
 have S:(onTheHeap (Value.ref C)&&Value.builtin "BaseException.__getattribute__" == Value.builtin "object.__getattribute__")=false:=by rw[J];rfl
 have O:Looks (model prog w) h (typeLookup (.ref C) "__getattribute__") (some (.builtin "BaseException.__getattribute__")):=looks_findIn X I.ga;have L:Looks (model prog w) h (typeLookup (.ref C) "__getattr__") none:=looks_findIn X I.gx
 repeat (any_goals (first | assumption | (with_reducible refine aW hx ?_;rw[hc]) | with_reducible refine O.at ?_ | with_reducible refine L.at ?_ | wp_step))
 refine codeAny_call_builtin F.attr_ValueError.ga.plain F.entry_bexc_ga (quq X I hx hc (qy5 X I hx hc hd ?_))
 repeat (any_goals (first | assumption | wp_step))
theorem wq9 {Q:Option Ag->Ab->Prop}(X:K.In h)(I:ExcI K C)(hx:h.get? a=some o)(hc:o.cls=.ref C)(hd:o.data=.fields vs)(hq:Q (some (.ref C)) ⟨h,g,d,t+1,os⟩) :
  wpAny (model prog w) A (getAttr? (.ref a) "__class__") Q E ⟨h,g,d,t,os⟩:=by
 unfold getAttr? getAttrBy?
 repeat (any_goals (first | assumption | with_reducible apply xcl_by X I hx hc hd | wp_step))
theorem wqt (I:ExcI K C):KitX K (.ref a) (.ref C) (λh=>∃o vs,h.get? a=some o/\o.cls=.ref C/\o.data=.fields vs) where
 ty:=λM h _ ⟨o,_,e,c,_⟩=>c▸(Looks.ld e).andThen .now
 it:=λ_ _ X _=>by
  obtain⟨cdD,hcD,_⟩:=eG.mp I.mo;unfold clsIn at hcD;split at hcD
  .rename_i c' d' cd' sl' ho;intro A' Q' E' s' k q;unfold isType loadHead;exact aa (wpAny_loadPart (k _ _ (X _ _ ho)) (ag q))
  .cases hcD
 ne:=λh tp dd its n sl X htp=>by
  obtain⟨cdD,hcD,_⟩:=eG.mp I.mo;refine Bool.eq_false_iff.mpr λq=>?_;have e:C=tp:=Value.ref.inj (bY.mp q);subst e;unfold clsIn at hcD;split at hcD
  .rename_i c' d' cd' sl' ho;have z:=(X _ _ ho).symm.trans htp;cases z
  .cases hcD
 ca:=λ{_ _ _ _ _ s} X ⟨o,vs,e,c,dd⟩ k=>by obtain⟨h,g,d,t,os⟩:=s;exact wq9 X I e c dd k
end
end L2
namespace L2
open PySem PySem.Spec PyProof.Rows
def clV:V->Ag
 |.ref a=>.ref a
 |.ty n=>.type n
 |_=>.none
theorem qw3 {X:Cx}{e C:Aj}{ob:Obj}(hm:(e,ob)∈X.pn)(hc:ob.cls=.ref C)(hv:∃vs,ob.data=.fields vs)(hI:ExcI X.K C) :
  kj X (.builtin "isinstance") (λxs H Q=>∃c b,xs=[.ref e,c]/\W.kitOne X.K (.ref C) (clV c)=some b/\Q (.bl b) H):=by
 intro pins s σ H xs U Q I r h;obtain⟨c,b,rfl,k,q⟩:=h;obtain⟨vs,O⟩:=hv;obtain⟨u,J,rfl,L,F⟩:=wx3 r;cases(show u=Value.ref e from L);have S:J=clV c:=by
  cases c with
  |ref a=>exact F
  |ty n=>exact F
  |_=>exact absurd (show(if(Value.ref C==Value.none)=true then some true else none)=some b from k) (by simp)
 rw[S];exact W.kia_one (wqt hI) I.kIn ⟨ob,vs,(I.pin _ (bq _ hm)).1,hc,O⟩ k (λz=>nomatch z) λtk=>⟨.bl b,H,I.tok tk,rfl,q⟩
end L2
namespace L2
open PySem PySem.Spec PyProof.Rows
section
variable {X:Cx}{pins pn:List (Aj×Obj)}{σ:St}{H H':Hp}{s s':Ab}{e:Aj}{ob:Obj}
theorem wvk {E:XK}{ev:Ag}{x n:Str}{i:Nat}{D0:Aj}{G:Aj->Prop}{np hpos:Pos}{b₀:Stmt}{suite:List Stmt}{rest:List ExceptHandler}{th:Aj->Aj->TS}{D:Ends}(I:Inv X pins σ H s)(hst:X.stack=X.env::X.outer)(hfr:X.env.frame=some X.env.locals)
  (hN:X.N.Nodup) (hi:X.N[i]?=some n) (hn:X.env.scope.names.lookup n=some .local)
  (hg:Gl X x) (hm:X.mg x=some (.ref D0)) (hdb:(x==("__debug__" : Str))=false) (hx:CXE X.prog X.w X.stack H s E ev s') (hE:∀c d H',E c d H'->∃C,c=.ref C/\Z1 X.K C D0/\G C/\∀e,H' e=none->th e C (D.less i) (σ.set i (some (.ref e))) H')
  (hh:∀(e:Aj) (ob:Obj) (C:Aj) (pn:List (Aj×Obj)),(e,ob)∈pn->ob.cls=.ref C->(∃vs,ob.data=.fields vs)->G C->PSs (X.handlingAs e pn) (b₀::suite) (th e C)) :
  wpAny (model X.prog X.w) X.A (noteFrame ev X.env) (λ_ s2=>wpAny (model X.prog X.w) X.A (setFlight ev none) (λ_ s3 =>
   wpAny (model X.prog X.w) X.A (handleBy ev X.env (.ExceptHandler (some (.Name x np)) (some n) (b₀::suite) hpos::rest)) (SP X pins D) X.xe s3) X.xe s2) X.xe s':=by
 obtain⟨a,C,a0,ws,dd,B,H',rfl,bl,b8,U,a6,b3,⟨w0,_⟩,a5,q⟩:=hx;have ad:=b3.toW w0;obtain⟨C1,S,b7,hG,bk⟩:=hE _ _ _ q;cases S;have mk:∀(F:Heap),Heap.FlyingW B X.stack a (.ref C) a0 F->s'.heap.UpToSlots F->Inv X pins σ H' { s' with heap:=F }:=λF fl up=>by
  refine I.call' (s':={ s' with heap:=F }) (ch:=[]) bl ⟨λb o e n nb _=>?_,λb o e n L _=>?_,λb o e n _=>U.free b o e n nin,λb o e _=>?_,U.tups,U.frzs,U.tbls⟩ (a6.kept fl.1) b8 (λb z=>nomatch z)
  .obtain⟨o',S,O⟩:=a5 b o e nb;rw[O n]at S;exact fl.1 b o S
  .obtain⟨sl,O⟩:=U.slot b o e n L nin;obtain⟨_,o3,J,Z⟩:=ad.2.2.1.mem (b:=b) L;obtain⟨a4,e4⟩:=up b o3 J Z;rw[O]at J;have e5:=al J;exact⟨a4,by show F.get? b=_;rw[e4,<-e5]⟩
  .by_cases L:b∈frs X.stack
   .obtain⟨_,o3,J,Z⟩:=ad.2.2.1.mem (b:=b) L;obtain⟨a4,e4⟩:=up b o3 J Z;exact⟨_,e4⟩
   .obtain⟨o',S,_⟩:=a5 b o e L;exact⟨o',fl.1 b o' S⟩
 have a9:H' a=none:=by
  cases e:H' a with
  |none=>rfl
  |some u =>
   obtain⟨ob,O⟩:=(a6 a u e).there;rw[ad.2.1]at O;cases O
 have b4:X.A.frames=some (X.env::X.outer):=by rw[<-hst];exact I.ok.frames
 have b5:Heap.FlyingW B (X.env::X.outer) a (.ref C) a0 s'.heap:=by rw[<-hst];exact ad
 refine wpAny_looks_onW b4 hfr b5 λh4 b6 a3=>?_;refine wpAny_landsW b6 λh5 a1 a2=>?_;have I5:=mk h5 (by rw[hst];exact a1) (a3.trans a2);have b9:=I5.handling a;obtain⟨ob,b2,b1⟩:=a1.there;refine wpAny_handleBy_cons (codeAny_handlers_test (jb (X:=X.handling a) b9 hg hm ?_ hdb)) (by intro z;cases z);obtain⟨hp,gg,dd,tk,os⟩:=s';refine b7 (h:=h5) I5.kIn b2 b1 ?_;refine codeAny_handlers_suite_as ?_;refine lands_againW a1 λF ap bf=>?_;have I6:=mk F (by rw[hst];exact ap) ((a3.trans a2).trans bf);obtain⟨oe,ws,a7,b0,an,ca⟩:=ap.first;have a8:a∉frs (X.env::X.outer):=λL=>by obtain⟨_,o3,J,Z⟩:=ap.2.2.1.mem (b:=a) L;rw[a7]at J;cases J;exact Z _ an
 have I7:=I6.handlingAs (e:=a) (ob:=oe) a7 a9 (λz=>a8 (by rw[jr hfr,z];exact .head _)) (λz=>a8 (by rw[jr hfr];exact .tail _ z)) (λv z=>by rw[an]at z;cases z);refine k6 (X:=X.handlingAs a ((a,oe)::(X.pn++pins))) (v:=.ref a) I7 hN hi (.inl hn) rfl (λs8 I8=>?_) (.inr hn);exact aG (hh a oe C _ (.head _) b0 ⟨_,an⟩ hG [] s8 _ H' (D.less i) I8 (bk a a9)) (λf s2 h2=>h2.unhandlingAs I.ok hN hi hn) λ_ _ z=>z.elim
end
def wkj (K:Aa)(D0:Aj)(G:Aj->Prop)(i:Nat)(tb:(St->XK)->TS)(th:Aj->Aj->TS):TS:=λD σ H=>tb (λσ' c _ H'=>∃C,c=.ref C/\Z1 K C D0/\G C/\∀e,H' e=none->th e C (D.less i) (σ'.set i (some (.ref e))) H') D σ H
section
variable {X:Cx}{x n:Str}{i:Nat}{D0:Aj}{G:Aj->Prop}{np hpos pos:Pos}{b₀:Stmt}{body suite:List Stmt}{tb:(St->XK)->TS}{th:Aj->Aj->TS}
theorem qur (hst:X.stack=X.env::X.outer)(hfr:X.env.frame=some X.env.locals)(hN:X.N.Nodup)(hi:X.N[i]?=some n)(hn:X.env.scope.names.lookup n=some .local)(hg:Gl X x)(hm:X.mg x=some (.ref D0))
  (hb:∀(pn:List (Aj×Obj)) (xe:Ag->Ab->Prop) (E:St->XK),kh (X.trying pn xe) E->PassesOwn (model X.prog X.w) X.A X.env xe->PSs (X.trying pn xe) body (tb E))
  (hh:∀(e:Aj) (ob:Obj) (C:Aj) (pn:List (Aj×Obj)),(e,ob)∈pn->ob.cls=.ref C->(∃vs,ob.data=.fields vs)->G C->PSs (X.handlingAs e pn) (b₀::suite) (th e C)) (hdb:autoParam ((x==("__debug__" : Str))=false) aU1._auto_1) :
  PS X (.Try body [.ExceptHandler (some (.Name x np)) (some n) (b₀::suite) hpos] [] [] pos) (wkj X.K D0 G i tb th):=by
 intro pins s σ H D I h;refine wpAny_Try_except ?_;refine aG (hb (X.pn++pins) (λe L=>wpAny (model X.prog X.w) X.A (noteFrame e X.env) (λ_ J=>wpAny (model X.prog X.w) X.A (setFlight e none) (λ_ F =>
   wpAny (model X.prog X.w) X.A (handleBy e X.env [.ExceptHandler (some (.Name x np)) (some n) (b₀::suite) hpos]) (SP X pins D) X.xe F) X.xe J) X.xe L) _ ?_ PassesOwn.looking [] s σ H D (I.trying _) h) (λf O h1=>?_) λ_ _ z=>z
 .intro an Z H1 O e ad U S;exact wvk (X:=X) (U.untrying I.ok) hst hfr hN hi hn hg hm hdb S (λc d H' q=>q) hh
 .have h2:=h1.untrying I.ok;cases f with
  |next=>exact cf h2
  |brk=>exact h2
  |cont=>exact h2
  |ret u=>exact h2
end
end L2
namespace L2
open PySem PySem.Spec PyProof.Rows PySem.W
structure XI (K:Frag)(C R:Aj):Prop where
 ga:findIn K (.ref C) "__getattribute__" = some (some (.builtin "BaseException.__getattribute__"))
 gx:findIn K (.ref C) "__getattr__" = some none
 cl:findIn K (.ref C) "__class__" = some (some (.builtin "object.__class__"))
 mb:mroIn K C (.type "BaseException")=some true
 mo:mroIn K C (.type "object")=some true
 mv:mroIn K C (.type "ValueError")=some true
 mr:mroIn K C (.ref R)=some true
theorem XI.i {K:Frag}{C R:Aj}(h:XI K C R):ExcI K C:=⟨h.ga,h.gx,h.cl,h.mb,h.mo⟩
theorem exc_kt {K:Frag}{D:Aj}(x:ExcC K D):((clsIn K D).isSome&&typeIn K (.ref D)==some (.type "type"))=true:=by
 have q:=x.q;unfold excIn at q;unfold clsIn typeIn;split at q
 .next dd cd sl ho=>simp[ho]
 .cases q
theorem zp {K:Frag}{C:Aj}:kitOne K (.ref C) (clV (.ref C))=some true:=ao (by simp[clV])
theorem wq {K:Frag}{C D:Aj}(x:ExcC K D)(m:mroIn K C (.ref D)=some false):kitOne K (.ref C) (clV (.ref D))=some false:=by
 unfold kitOne;rw[ak (λz=>?_)]
 .show(if((clsIn K D).isSome&&typeIn K (.ref D)==some (.type "type"))=true then subIn K (.ref C) (.ref D) else none)=some false;rw[ao (exc_kt x)];exact m
 .have e:C=D:=Value.ref.inj (bY.mp z);subst e;have q:=x.q;unfold excIn at q;unfold mroIn clsIn at m;split at q
  .next dd cd sl ho =>
   rw[ho]at m;split at q
   .next C1 tl x0 x1 x2 x3 nn x5 hm hs =>
    simp only[aO,bY]at q;have I:C1=C:=q.1.1.1.1.1;subst I;have F:(if cd.mro.isEmpty then none else some (cd.mro.contains (Value.ref C1)))=some false:=m;rw[hm]at F;simp at F
   .cases q
  .cases q
theorem wvd {K:Frag}{C:Aj}(m:mroIn K C (.type "ValueError")=some true):kitOne K (.ref C) (clV (.ty "ValueError"))=some true:=by unfold kitOne;exact(ak (by simp[clV])).trans (qjf m)
theorem wzq {X:Cx}:OpR X (binaryOp .Mult) (λx y H Q=>∃j:Int,x=.str "A" /\ y=.int j/\(j=0\/j=1\/j=2)/\∀z:Str,(z = "" \/ z = "A" \/ z = "AA")->Q (.str z) H):=by
 intro pins s σ H x y v u Q I O L h;obtain⟨j,rfl,rfl,S,q⟩:=h;obtain⟨t,rfl⟩:=O;obtain⟨U,rfl⟩:=L;rcases S with rfl|rfl|rfl
 .exact eS ⋯ ⋯ ⋯ (by rw[ao ⋯];exact⟨⋯,⟨.str "",H,I.tok _,⟨_,rfl⟩,q _ (.inl rfl)⟩⟩)
 .exact eS ⋯ ⋯ ⋯ (by rw[ak ⋯,ao ⋯];exact⟨.str "A",H,I,⟨_,rfl⟩,q _ (.inr (.inl rfl))⟩)
 .exact eS ⋯ (by decide +kernel) (by decide +kernel) (by rw[ak ⋯,ak (by decide +kernel)];exact⟨by decide +kernel,⟨.str "AA",H,I.tok _,⟨s.toks,bI (λz:Str=>Value.str z s.toks) (show Str.mk (List.foldl (λJ F=>J++F) #[] (List.replicate (Int.toNat 2) (Str.ofString "A").cps))=Str.ofString "AA" from by decide +kernel)⟩,q _ (.inr (.inr rfl))⟩⟩)
end L2
namespace My
open PySem L2
def top (i:Nat):Stmt:=PySem.Challenge.pw_crookroad_k58_refusals_apart.main.body.getD i (.Pass ⟨0,0,0,0⟩)
abbrev za5:Stmt:=top 18
theorem _root_.aU7 (h:True:=by decide +kernel):True:=h
theorem scA{N P:List Str}{c:Scope}(a:autoParam (c.kind=.function) aU4._auto_1)(b:autoParam (c.isCoroutine=false) aU4._auto_1)(d:autoParam (c.isGenerator=false) aU4._auto_1)(e:autoParam (N.Nodup) aU7._auto_1)(f:autoParam (N.take P.length=P) aU4._auto_1)(g:autoParam (∀x∈P,c.names.lookup x=some .local\/c.names.lookup x=some .cell) aU7._auto_1)(h:autoParam (∀y∈c.names,y.2≠.free) aU7._auto_1):FnScope N P c:=⟨a,b,d,e,f,g,h⟩
theorem W9:FnScope ["bottom"] ["bottom"] (wg za5):=scA
theorem Zx:zu "check_bottom" za5 ["bottom"]:=λ_ _ _ _ _ _ _ h=>bA1 h λ_=>rfl
abbrev za6:Stmt:=top 19
theorem Qz:FnScope ["one","other"] ["one","other"] (wg za6):=scA
theorem Qh:zu "common_divisor" za6 ["one","other"]:=λ_ _ _ _ _ _ _ h=>bA2 h λ_ _=>rfl
abbrev za7:Stmt:=top 20
theorem qux:FnScope ["top","bottom","divisor"] ["top","bottom"] (wg za7):=scA
theorem qu1:zu "lowest" za7 ["top","bottom"]:=λ_ _ _ _ _ _ _ h=>bA2 h λ_ _=>rfl
abbrev za8:Stmt:=top 23
theorem qky:FnScope ["heights","width"] ["heights"] (wg za8):=scA
theorem qjv:zu "is_line" za8 ["heights"]:=λ_ _ _ _ _ _ _ h=>bA1 h λ_=>rfl
abbrev za9:Stmt:=zd (top 24) 0
theorem Wy:FnScope ["self","heights"] ["self","heights"] (wg za9):=scA
theorem Wg:zk "__init__" "Road.__init__" za9 ["self","heights"]:=λ_ _ _ _ _ _ _ h=>bA2 h λ_ _=>rfl
abbrev zba:Stmt:=zd (top 24) 1
theorem J9:FnScope ["self"] ["self"] (wg zba):=scA
theorem qqg:zk "width" "Road.width" zba ["self"]:=λ_ _ _ _ _ _ _ h=>bA1 h λ_=>rfl
abbrev zbb:Stmt:=zd (top 24) 2
theorem Zq:FnScope ["self"] ["self"] (wg zbb):=scA
theorem W6:zk "corners" "Road.corners" zbb ["self"]:=λ_ _ _ _ _ _ _ h=>bA1 h λ_=>rfl
abbrev zbc:Stmt:=zd (top 24) 3
theorem qx7:FnScope ["self","stretch"] ["self","stretch"] (wg zbc):=scA
theorem qxn:zk "ends" "Road.ends" zbc ["self","stretch"]:=λ_ _ _ _ _ _ _ h=>bA2 h λ_ _=>rfl
abbrev zbd:Stmt:=zd (top 24) 5
theorem qqj:FnScope ["self","stretch","left","right"] ["self","stretch"] (wg zbd):=scA
theorem qqh:zk "reach" "Road.reach" zbd ["self","stretch"]:=λ_ _ _ _ _ _ _ h=>bA2 h λ_ _=>rfl
abbrev zbe:Stmt:=zd (top 24) 6
theorem Zz:FnScope ["self","point","top","bottom"] ["self","point"] (wg zbe):=scA
theorem Zv:zk "on_road" "Road.on_road" zbe ["self","point"]:=λ_ _ _ _ _ _ _ h=>bA2 h λ_ _=>rfl
abbrev zbf:Stmt:=zd (top 24) 7
theorem qkd:FnScope ["self","point","top","bottom","stretch","left","right","beyond"] ["self","point"] (wg zbf):=scA
theorem qjj:zk "at" "Road.at" zbf ["self","point"]:=λ_ _ _ _ _ _ _ h=>bA2 h λ_ _=>rfl
abbrev za1:Stmt:=top 26
theorem Jv:FnScope ["number","fewest","most"] ["number","fewest","most"] (wg za1):=scA
theorem Yu:Qr "check_count" za1 ["number","fewest","most"] []:=λ_ _ _ _ _ _ _ u h=>match u,h with|[_,_,_],_=>exI rfl rfl
theorem Yw:Qr "check_count" za1 ["number","fewest","most"] [.none]:=λ_ _ _ _ _ _ _ us hl=>by
 have h2:us.length=2:=by simpa using hl
 match us,h2 with
 |[_,_],_=>exact exI rfl rfl
abbrev zbg:Stmt:=top 31
theorem qjn:FnScope ["road","stretch","lesser","greater"] ["road","stretch"] (wg zbg):=scA
theorem qkf:zu "covered" zbg ["road","stretch"]:=λ_ _ _ _ _ _ _ h=>bA2 h λ_ _=>rfl
abbrev zbh:Stmt:=top 32
theorem qx5:FnScope ["road"] ["road"] (wg zbh):=scA
theorem qw0:zu "covers_of" zbh ["road"]:=λ_ _ _ _ _ _ _ h=>bA1 h λ_=>rfl
abbrev zbi:Stmt:=top 33
theorem u4:FnScope ["width"] ["width"] (wg zbi):=scA
theorem uu:zu "ways_of_no_step" zbi ["width"]:=λ_ _ _ _ _ _ _ h=>bA1 h λ_=>rfl
abbrev zbj:Stmt:=top 34
theorem Wq:FnScope ["covers","table"] ["covers","table"] (wg zbj):=scA
theorem Q9:zu "one_step_more" zbj ["covers","table"]:=λ_ _ _ _ _ _ _ h=>bA2 h λ_ _=>rfl
abbrev zbk:Stmt:=top 35
theorem Js:FnScope ["road","many","covers","tables"] ["road","many"] (wg zbk):=scA
theorem qqu:zu "ways_up_to" zbk ["road","many"]:=λ_ _ _ _ _ _ _ h=>bA2 h λ_ _=>rfl
abbrev zbl:Stmt:=top 36
theorem wvn:FnScope ["road","many"] ["road","many"] (wg zbl):=scA
theorem wv7:zu "ways" zbl ["road","many"]:=λ_ _ _ _ _ _ _ h=>bA2 h λ_ _=>rfl
abbrev zbm:Stmt:=top 38
theorem wku:FnScope ["road","many","tables","covers","closed","first"] ["road","many"] (wg zbm):=scA
theorem wv1:zu "rows" zbm ["road","many"]:=λ_ _ _ _ _ _ _ h=>bA2 h λ_ _=>rfl
abbrev zbn:Stmt:=top 47
theorem qx8:FnScope ["road","row","stretch","onward"] ["road","row"] (wg zbn):=scA
theorem qxr:zu "check_row" zbn ["road","row"]:=λ_ _ _ _ _ _ _ h=>bA2 h λ_ _=>rfl
abbrev zbo:Stmt:=top 50
theorem qzd:FnScope ["road","row"] ["road","row"] (wg zbo):=scA
theorem qvj:zu "point_of" zbo ["road","row"]:=λ_ _ _ _ _ _ _ h=>bA2 h λ_ _=>rfl
abbrev zbp:Stmt:=zd (top 52) 0
theorem uj:FnScope ["self","whose","point","times"] ["self","whose","point","times"] (wg zbp):=scA
theorem Qq:zk "__init__" "Walker.__init__" zbp ["self","whose","point","times"]:=λ_ _ _ _ _ _ _ h=>bA4 h λ_ _ _ _=>rfl
abbrev zbq:Stmt:=top 53
theorem qz9:FnScope ["whose","point"] ["whose","point"] (wg zbq):=scA
theorem qvr:zu "set_down" zbq ["whose","point"]:=λ_ _ _ _ _ _ _ h=>bA2 h λ_ _=>rfl
abbrev zbr:Stmt:=top 58
theorem qk2:FnScope ["name"] ["name"] (wg zbr):=scA
theorem qj0:zu "is_name" zbr ["name"]:=λ_ _ _ _ _ _ _ h=>bA1 h λ_=>rfl
abbrev zbs:Stmt:=top 59
theorem Qf:FnScope ["name","things"] ["name","things"] (wg zbs):=scA
theorem Qx:zu "check_new_name" zbs ["name","things"]:=λ_ _ _ _ _ _ _ h=>bA2 h λ_ _=>rfl
abbrev zbt:Stmt:=top 60
theorem qzt:FnScope ["things","changes","before","name","thing"] ["things","changes"] (wg zbt):=scA
theorem qvn:zu "exchange" zbt ["things","changes"]:=λ_ _ _ _ _ _ _ h=>bA2 h λ_ _=>rfl
abbrev zbu:Stmt:=zd (top 61) 0
theorem Qs:FnScope ["self"] ["self"] (wg zbu):=scA
theorem Qv:zk "__init__" "House.__init__" zbu ["self"]:=λ_ _ _ _ _ _ _ h=>bA1 h λ_=>rfl
abbrev zbv:Stmt:=zd (top 61) 1
theorem yc:FnScope ["self","name"] ["self","name"] (wg zbv):=scA
theorem yg:zk "road_called" "House.road_called" zbv ["self","name"]:=λ_ _ _ _ _ _ _ h=>bA2 h λ_ _=>rfl
abbrev zbw:Stmt:=zd (top 61) 2
theorem j8:FnScope ["self","name"] ["self","name"] (wg zbw):=scA
theorem j9:zk "walker_called" "House.walker_called" zbw ["self","name"]:=λ_ _ _ _ _ _ _ h=>bA2 h λ_ _=>rfl
abbrev zbx:Stmt:=zd (top 61) 3
theorem uq:FnScope ["self","whose"] ["self","whose"] (wg zbx):=scA
theorem uw:zk "walkers_on" "House.walkers_on" zbx ["self","whose"]:=λ_ _ _ _ _ _ _ h=>bA2 h λ_ _=>rfl
abbrev zby:Stmt:=zd (top 61) 4
theorem qvm:FnScope ["self","roads","walkers"] ["self","roads","walkers"] (wg zby):=scA
theorem qvq:zk "do" "House.do" zby ["self","roads","walkers"]:=λ_ _ _ _ _ _ _ h=>bA3 h λ_ _ _=>rfl
abbrev zbz:Stmt:=zd (top 61) 5
theorem qzz:FnScope ["self","name","heights"] ["self","name","heights"] (wg zbz):=scA
theorem qxx:zk "lay" "House.lay" zbz ["self","name","heights"]:=λ_ _ _ _ _ _ _ h=>bA3 h λ_ _ _=>rfl
abbrev zb0:Stmt:=zd (top 61) 6
theorem Ju:FnScope ["self","name","corner","height","heights"] ["self","name","corner","height"] (wg zb0):=scA
theorem Jb:zk "bend" "House.bend" zb0 ["self","name","corner","height"]:=λ_ _ _ _ _ _ _ h=>bA4 h λ_ _ _ _=>rfl
abbrev zb1:Stmt:=zd (top 61) 9
theorem Yd:FnScope ["self","name"] ["self","name"] (wg zb1):=scA
theorem Jx:zk "clear" "House.clear" zb1 ["self","name"]:=λ_ _ _ _ _ _ _ h=>bA2 h λ_ _=>rfl
abbrev zb2:Stmt:=zd (top 61) 10
theorem Yv:FnScope ["self","name","whose","point","road","here"] ["self","name","whose","point"] (wg zb2):=scA
theorem Z2:zk "place" "House.place" zb2 ["self","name","whose","point"]:=λ_ _ _ _ _ _ _ h=>bA4 h λ_ _ _ _=>rfl
abbrev zb3:Stmt:=zd (top 61) 12
theorem qzm:FnScope ["self","name","many","walker","gone"] ["self","name","many"] (wg zb3):=scA
theorem qv3:zk "go" "House.go" zb3 ["self","name","many"]:=λ_ _ _ _ _ _ _ h=>bA3 h λ_ _ _=>rfl
abbrev zb4:Stmt:=zd (top 61) 14
theorem u9:FnScope ["self","roads","walkers"] ["self"] (wg zb4):=scA
theorem ut:zk "take_back" "House.take_back" zb4 ["self"]:=λ_ _ _ _ _ _ _ h=>bA1 h λ_=>rfl
abbrev zb5:Stmt:=zd (top 61) 21
theorem Jr:FnScope ["self","one","other","here","there"] ["self","one","other"] (wg zb5):=scA
theorem qqw:zk "meet" "House.meet" zb5 ["self","one","other"]:=λ_ _ _ _ _ _ _ h=>bA3 h λ_ _ _=>rfl
abbrev zb6:Stmt:=top 68
theorem qzy:FnScope ["word"] ["word"] (wg zb6):=scA
theorem qzv:zu "number_of" zb6 ["word"]:=λ_ _ _ _ _ _ _ h=>bA1 h λ_=>rfl
abbrev zb7:Stmt:=top 69
theorem qkk:FnScope ["house","row","words"] ["house","row"] (wg zb7):=scA
theorem qk1:zu "take_in" zb7 ["house","row"]:=λ_ _ _ _ _ _ _ h=>bA2 h λ_ _=>rfl
abbrev zb8:Stmt:=top 70
theorem qvh:FnScope ["text","house","row"] ["text"] (wg zb8):=scA
theorem qzg:zu "house_of" zb8 ["text"]:=λ_ _ _ _ _ _ _ h=>bA1 h λ_=>rfl
abbrev zb9:Stmt:=top 71
theorem qqb:FnScope ["text","house"] ["text"] (wg zb9):=scA
theorem J3:zu "read_house" zb9 ["text"]:=λ_ _ _ _ _ _ _ h=>bA1 h λ_=>rfl
abbrev zca:Stmt:=top 73
theorem qw2:FnScope ["_law_script","_law_at"] ["_law_script","_law_at"] (wg zca):=scA
theorem qwd:zu "_law_cell" zca ["_law_script","_law_at"]:=λ_ _ _ _ _ _ _ h=>bA2 h λ_ _=>rfl
abbrev zcb:Stmt:=top 74
theorem qwm:FnScope ["_law_script","_law_at","_law_turn","_law_many","_law_cell_here","_law_left","_law_k","_law_low","_law_one","_law_two"] ["_law_script","_law_at","_law_turn","_law_many"] (wg zcb):=scA
theorem qw7:zu "_law_pick" zcb ["_law_script","_law_at","_law_turn","_law_many"]:=λ_ _ _ _ _ _ _ h=>bA4 h λ_ _ _ _=>rfl
abbrev zcc:Stmt:=top 75
theorem qqz:FnScope ["_law_which","_law_road","_law_number"] ["_law_which","_law_road","_law_number"] (wg zcc):=scA
theorem qqv:zu "_law_first" zcc ["_law_which","_law_road","_law_number"]:=λ_ _ _ _ _ _ _ h=>bA3 h λ_ _ _=>rfl
abbrev zcd:Stmt:=top 76
theorem Jz:FnScope ["_law_which","_law_house","_law_number"] ["_law_which","_law_house","_law_number"] (wg zcd):=scA
theorem Yy:zu "_law_second" zcd ["_law_which","_law_house","_law_number"]:=λ_ _ _ _ _ _ _ h=>bA3 h λ_ _ _=>rfl
abbrev zce:Stmt:=top 77
theorem qqx:FnScope ["_law_which","_law_road","_law_house","_law_number","_law_flags_here","e"] ["_law_which","_law_road","_law_house","_law_number"] (wg zce):=scA
theorem Jm:zu "_law_flags" zce ["_law_which","_law_road","_law_house","_law_number"]:=λ_ _ _ _ _ _ _ h=>bA4 h λ_ _ _ _=>rfl
abbrev zcl:Stmt:=top 78
theorem zgn:FnScope ["_law_script","_law_number","_law_road","_law_house","_law_which"] ["_law_script"] (wg zcl):=scA
local macro_rules | `(tactic| walk_at "sq")=>`(tactic| first | assumption | exact SqT.new | exact SqL.new | ((with_reducible refine Same.sqt (Same.upd (by assumption)) ?_);walk_at "sq") | ((with_reducible refine Same.sql (Same.upd (by assumption)) ?_);walk_at "sq"))
local macro_rules | `(tactic| walk_at "at")=>`(tactic| first | rfl | exact Zy (by lia) (by lia))
local macro_rules | `(tactic| walk_at "mul")=>`(tactic| first | assumption | exact IntMulOk.of_left (intBits_le_64 (by lia) (by lia)) | exact IntMulOk.of_right (intBits_le_64 (by lia) (by lia)) | exact Sm.ok (by assumption) (by assumption) (by lia))
local macro_rules | `(tactic| walk_at "pos")=>`(tactic| first | lia | decide +kernel)
local macro_rules | `(tactic| walk_at "div")=>`(tactic| exact⟨by first | lia | decide +kernel,by unfold Sm;decide +kernel⟩)
local macro_rules | `(tactic| walk_at "loc")=>`(tactic| first | exact Or.inl rfl | exact Or.inr rfl)
local macro_rules | `(tactic| walk_at "cap")=>`(tactic| repeat (first | exact trivial | refine⟨rfl,?_⟩))
local macro_rules | `(tactic| walk_at "has")=>`(tactic| repeat (first | exact trivial | (refine⟨λz=>?_,(by lia),?_⟩;(first | exact⟨_,rfl⟩ | cases z))))
local macro_rules | `(tactic| walk_at "cix")=>`(tactic| repeat (first | exact trivial | refine⟨⟨_,_,rfl,rfl,rfl,rfl⟩,?_⟩))
local macro_rules | `(tactic| walk_at "hasK")=>`(tactic| repeat (first | exact trivial | (refine⟨λz=>?_,λz=>?_,?_⟩;(first | exact⟨_,rfl⟩ | cases z);(first | rfl | cases z))))
abbrev mR(K:PySem.W.Frag)(c d:PySem.Addr):=PySem.W.mroIn K c (.ref d)=some false
structure Txt (K:Aa)(mg:Str->Option Ag)(qm:Aj)(qy:Aj)(qx:Aj)(qb:Aj)(qj:Aj)(qc:Aj)(qg:Aj)(qu:Aj)(qp:Aj)(qh:Aj)(qk:Aj)(qr:Aj)(qt:Aj)(qw:Aj)(qd:Aj)(q9:Aj)(q8:Aj)(qf:Aj):Prop where
 len_:mg "len" = none
 abs_:mg "abs" = none
 range_:mg "range" = none
 list_:mg "list" = none
 min_:mg "min" = none
 max_:mg "max" = none
 all_:mg "all" = none
 any_:mg "any" = none
 sorted_:mg "sorted" = none
 enumerate_:mg "enumerate" = none
 dict_:mg "dict" = none
 isinstance_:mg "isinstance" = none
 int_:mg "int" = none
 bool_:mg "bool" = none
 str_:mg "str" = none
 zip_:mg "zip" = none
 sum_:mg "sum" = none
 ValueError_:mg "ValueError" = none
 zfv:mg "RoadError" = some (.ref qm)
 zaz:ExcC K qm
 zfw:mg "BadLine" = some (.ref qy)
 zad:ExcC K qy
 zcm:mg "BadBottom" = some (.ref qx)
 zac:ExcC K qx
 zfx:mg "OffRoad" = some (.ref qb)
 zae:ExcC K qb
 zfy:mg "BadCount" = some (.ref qj)
 zaf:ExcC K qj
 zfz:mg "TooLong" = some (.ref qc)
 zag:ExcC K qc
 zcf:mg "BadRow" = some (.ref qg)
 zaa:ExcC K qg
 zf0:mg "BadName" = some (.ref qu)
 zah:ExcC K qu
 zf1:mg "Taken" = some (.ref qp)
 zai:ExcC K qp
 zf2:mg "NoRoad" = some (.ref qh)
 zaj:ExcC K qh
 zf3:mg "NoWalker" = some (.ref qk)
 zak:ExcC K qk
 zf4:mg "Stood" = some (.ref qr)
 zal:ExcC K qr
 zf5:mg "Apart" = some (.ref qt)
 zam:ExcC K qt
 zf6:mg "NothingDone" = some (.ref qw)
 zan:ExcC K qw
 zcg:mg "BadText" = some (.ref qd)
 zab:ExcC K qd
 cl:Cls K q9
 na:NoAttr K q9 "heights"
 zaq:∃t,mg "WIDEST" = some (.int 24 t)
 zgo:mg "Road" = some (.ref q9)
 clW:Cls K q8
 clH:Cls K qf
 naWw:NoAttr K q8 "whose"
 naWp:NoAttr K q8 "point"
 naWt:NoAttr K q8 "times"
 naHr:NoAttr K qf "roads"
 naHw:NoAttr K qf "walkers"
 naHd:NoAttr K qf "done"
 zgp:mg "Walker" = some (.ref q8)
 zgq:mg "House" = some (.ref qf)
 zch:∃t,mg "LONGEST_TRACE" = some (.int 1000 t)
 zci:∃t,mg "FARTHEST" = some (.int 1000000000000000000000000000000000000000000000000000000000000 t)
 zar:∃t,mg "LONGEST_NAME" = some (.int 12 t)
 zas:∃t,mg "GREATEST_BOTTOM" = some (.int 40 t)
 zat:∃t,mg "LETTERS" = some (.str "abcdefghijklmnopqrstuvwxyz" t)
 zau:∃t,mg "LONGEST_NUMBER" = some (.int 3 t)
 zav:∃t,mg "FIGURES" = some (.str "0123456789" t)
 zao:∃t,mg "LONGEST_ROW" = some (.int 12 t)
 zaw:∃t,mg "MOST_WAYS" = some (.int 1000 t)
 zax:∃t,mg "MOST_STEPS" = some (.int 60 t)
 xi_BadLine:XI K qy qm
 xi_BadBottom:XI K qx qm
 xi_OffRoad:XI K qb qm
 xi_BadCount:XI K qj qm
 xi_TooLong:XI K qc qm
 xi_BadRow:XI K qg qm
 xi_BadName:XI K qu qm
 xi_Taken:XI K qp qm
 xi_NoRoad:XI K qh qm
 xi_NoWalker:XI K qk qm
 xi_Stood:XI K qr qm
 xi_Apart:XI K qt qm
 xi_NothingDone:XI K qw qm
 xi_BadText:XI K qd qm
 ms_BadLine:mR K qy qx/\mR K qy qb/\mR K qy qj/\mR K qy qc/\mR K qy qg/\mR K qy qu/\mR K qy qp/\mR K qy qh/\mR K qy qk/\mR K qy qr/\mR K qy qt/\mR K qy qw/\mR K qy qd
 ms_BadBottom:mR K qx qy/\mR K qx qb/\mR K qx qj/\mR K qx qc/\mR K qx qg/\mR K qx qu/\mR K qx qp/\mR K qx qh/\mR K qx qk/\mR K qx qr/\mR K qx qt/\mR K qx qw/\mR K qx qd
 ms_OffRoad:mR K qb qy/\mR K qb qx/\mR K qb qj/\mR K qb qc/\mR K qb qg/\mR K qb qu/\mR K qb qp/\mR K qb qh/\mR K qb qk/\mR K qb qr/\mR K qb qt/\mR K qb qw/\mR K qb qd
 ms_BadCount:mR K qj qy/\mR K qj qx/\mR K qj qb/\mR K qj qc/\mR K qj qg/\mR K qj qu/\mR K qj qp/\mR K qj qh/\mR K qj qk/\mR K qj qr/\mR K qj qt/\mR K qj qw/\mR K qj qd
 ms_TooLong:mR K qc qy/\mR K qc qx/\mR K qc qb/\mR K qc qj/\mR K qc qg/\mR K qc qu/\mR K qc qp/\mR K qc qh/\mR K qc qk/\mR K qc qr/\mR K qc qt/\mR K qc qw/\mR K qc qd
 ms_BadRow:mR K qg qy/\mR K qg qx/\mR K qg qb/\mR K qg qj/\mR K qg qc/\mR K qg qu/\mR K qg qp/\mR K qg qh/\mR K qg qk/\mR K qg qr/\mR K qg qt/\mR K qg qw/\mR K qg qd
 ms_BadName:mR K qu qy/\mR K qu qx/\mR K qu qb/\mR K qu qj/\mR K qu qc/\mR K qu qg/\mR K qu qp/\mR K qu qh/\mR K qu qk/\mR K qu qr/\mR K qu qt/\mR K qu qw/\mR K qu qd
 ms_Taken:mR K qp qy/\mR K qp qx/\mR K qp qb/\mR K qp qj/\mR K qp qc/\mR K qp qg/\mR K qp qu/\mR K qp qh/\mR K qp qk/\mR K qp qr/\mR K qp qt/\mR K qp qw/\mR K qp qd
 ms_NoRoad:mR K qh qy/\mR K qh qx/\mR K qh qb/\mR K qh qj/\mR K qh qc/\mR K qh qg/\mR K qh qu/\mR K qh qp/\mR K qh qk/\mR K qh qr/\mR K qh qt/\mR K qh qw/\mR K qh qd
 ms_NoWalker:mR K qk qy/\mR K qk qx/\mR K qk qb/\mR K qk qj/\mR K qk qc/\mR K qk qg/\mR K qk qu/\mR K qk qp/\mR K qk qh/\mR K qk qr/\mR K qk qt/\mR K qk qw/\mR K qk qd
 ms_Stood:mR K qr qy/\mR K qr qx/\mR K qr qb/\mR K qr qj/\mR K qr qc/\mR K qr qg/\mR K qr qu/\mR K qr qp/\mR K qr qh/\mR K qr qk/\mR K qr qt/\mR K qr qw/\mR K qr qd
 ms_Apart:mR K qt qy/\mR K qt qx/\mR K qt qb/\mR K qt qj/\mR K qt qc/\mR K qt qg/\mR K qt qu/\mR K qt qp/\mR K qt qh/\mR K qt qk/\mR K qt qr/\mR K qt qw/\mR K qt qd
 ms_NothingDone:mR K qw qy/\mR K qw qx/\mR K qw qb/\mR K qw qj/\mR K qw qc/\mR K qw qg/\mR K qw qu/\mR K qw qp/\mR K qw qh/\mR K qw qk/\mR K qw qr/\mR K qw qt/\mR K qw qd
 ms_BadText:mR K qd qy/\mR K qd qx/\mR K qd qb/\mR K qd qj/\mR K qd qc/\mR K qd qg/\mR K qd qu/\mR K qd qp/\mR K qd qh/\mR K qd qk/\mR K qd qr/\mR K qd qt/\mR K qd qw
abbrev FK(P:Ac)(w:Ah)(K:Aa)(mg:Str->Option Ag)(base:Heap):=FnOk P w K mg base (CXE P w)
section
variable {P:Ac}{w:Ah}{K:Aa}{mg:Str->Option Ag}{base:Heap}{qm:Aj}{qy:Aj}{qx:Aj}{qb:Aj}{qj:Aj}{qc:Aj}{qg:Aj}{qu:Aj}{qp:Aj}{qh:Aj}{qk:Aj}{qr:Aj}{qt:Aj}{qw:Aj}{qd:Aj}{q9:Aj}{q8:Aj}{qf:Aj}
variable {f:Aj}{fd:Ad}(T:Txt K mg qm qy qx qb qj qc qg qu qp qh qk qr qt qw qd q9 q8 qf)
def qw1 (C:Aj):Sp:=λvs H Q E=>∃b:Int,vs=[.int b]/\(1<=b->Q .non H)/\(b<1->E (.ref C) none H)
include T in
theorem wx1 (F:Fun K "check_bottom" "check_bottom" za5 f fd):FK P w K mg base 1 f fd ["bottom"] (qw1 qx):=by
 have J:=W9;refine F.okX J (λvs H Q E h=>by obtain⟨_,rfl,_⟩:=h;rfl) λ_ _ _ _ H vs Q E L h=>?_;obtain⟨b,rfl,h1,h2⟩:=h;refine⟨_,(wy (x9 (w9 uz (pv 0) wc (xq _)) (wy (zj rfl T.zac xg rfl T.zcm (xv xf wx))) xk)),?_⟩;refine exI rfl (xh rfl rfl (exI rfl ?_));refine v3 (λI=>?_) (λI=>?_)
 .exact⟨⋯,h2 I⟩
 .exact h1 ⋯
include T in
theorem wz4 (F:Fun K "_law_cell" "_law_cell" zca f fd):FK P w K mg base 1 f fd ["_law_script","_law_at"] (qjp K):=by
 have U:=qw2;refine F.okX U (λvs H Q E h=>by obtain⟨_,_,_,rfl,_⟩:=h;rfl) λ_ _ _ _ H vs Q E hr h=>?_;obtain⟨a,S,i,rfl,L,Z,k⟩:=h;have J:(S.map V.int).length=S.length:=ah _;refine⟨_,(wu (x9 (w9 uz (pv 1) (w4 xn rfl T.len_ aN (wm (pv 0) wx)) (xq _)) (wy (x6 (vg z7 (pv 0) (pv 1) (λ_ _=>rfl)))) xk)
   (wu (x9 (w9 vz (w4 xn rfl T.len_ aN (wm (pv 0) wx)) wc (xq _)) (wy (x6 (xb z8 (xb z0 wc (pv 1)) wc))) xk)
   (wy (x6 (xb z8 (vg z7 (pv 0) (xb jz (pv 1) (w4 xn rfl T.len_ aN (wm (pv 0) wx))) (λ_ _=>rfl)) (xb z0 wc (pv 1))))))),?_⟩
 refine exI rfl (exI rfl ⟨_,_,rfl,.inl L,xh rfl rfl (exI rfl ?_)⟩);refine v3 (λI=>?_) (λI=>?_)
 .rw[J]at I;refine exI rfl (exI rfl (exX rfl rfl L (Zy Z I) ?_));exact k _ (by rw[qvb,ao I])
 .rw[J]at I;refine exI rfl ⟨_,_,rfl,.inl L,rfl,_,rfl,?_⟩;rw[J];refine ww6 (λO=>?_) (λO=>?_)
  .refine exI rfl (xh rfl rfl ⟨(by walk_at "mul"),xh rfl rfl ?_⟩);exact k _ (by rw[qvb,ak I,ao O])
  .refine exI rfl (exI rfl (exI rfl ⟨_,_,rfl,.inl L,xh rfl rfl ⟨(by rw[J];lia),?_⟩⟩));rw[J];refine exX rfl rfl L (Zy (cr _ O) (bO _ ⋯)) (exI rfl (xh rfl rfl ⟨(by walk_at "mul"),xh rfl rfl ?_⟩));exact k _ (by rw[qvb,ak I,ak O])
include T in
theorem wv5 (F:Fun K "_law_pick" "_law_pick" zcb f fd)(zgr:Cal P w K mg base "_law_cell" 1 (qjp K)):FK P w K mg base 2 f fd ["_law_script","_law_at","_law_turn","_law_many"] (qjh K):=by
 have U:=qwm;refine F.okX U (λvs H Q E h=>by obtain⟨_,_,_,_,_,rfl,_⟩:=h;rfl) λ_ _ _ _ H vs Q E hr h=>?_;obtain⟨a,Z,i,t,m,rfl,hS,h0,t0,t1,m0,k⟩:=h;refine⟨_,(wu (zx (i:=4) (wCA zgr (wm (pv 0) (wm (pv 1) wx))))
   (wu (x9 (w9 wq1 (w4 Z7 rfl T.abs_ Y5 (wm (pv 4) wx)) (xb op_pow wc wc) (xq _)) (wu (zx (i:=5) (w4 Z7 rfl T.abs_ Y5 (wm (pv 4) wx)))
   (wu (Y2 bF rfl (ku rfl T.range_ (wm (pv 2) wx)) (zc (i:=6)) (wy (zx (i:=5) (xb Qc (pv 5) wc))))
   (wu (x9 (w9 uz (pv 4) wc (xq _)) (wy (zx (i:=5) (xb jz (pv 5) wc))) xk)
   (wy (x6 (xb jz (pv 5) (pv 3))))))) xk)
   (wu (zx (i:=7) (xb jz (pv 4) wc))
   (wu (zx (i:=8) (xb jz (xb z8 (xb z8 (xb z0 (pv 7) wc) (xb z0 (pv 2) wc)) wc) wc))
   (wu (zx (i:=9) (xb jz (xb z8 (xb z8 (xb z0 (pv 8) (pv 8)) (xb z0 (pv 7) wc)) (xb z0 (pv 2) wc)) wc))
   (wy (x6 (xb jz (xb jz (xb z8 (xb z8 (xb z0 (pv 9) (pv 9)) (xb z0 (pv 8) wc)) (xb z0 (pv 2) wc)) wc) (pv 3))))))))),?_⟩
 refine exI rfl (exI rfl ?_);refine⟨a,Z,i,rfl,hS,h0,λc hc=>?_⟩;have S:∀v,v=qvw c t%m->Q (.int v) H:=λv O=>by
  refine k v (by rw[O,pickF,hc]) ?_ ?_
  .rw[O];exact cr _ ⋯
  .rw[O];exact bO _ m0
 refine exI rfl (exI rfl (xh rfl rfl ⟨⟨⋯,⋯,⋯⟩,xh rfl rfl (exI rfl ?_)⟩));refine v3 (λL=>?_) (λL=>?_)
 .have I:10 ^ 18<=yb c:=L;refine exI rfl (exI rfl ?_);refine exI rfl ⟨t,rfl,⋯,⋯,qq6 (λj σ H1=>H1=H/\∃z,σ=[some (.ref a),some (.int i),some (.int t),some (.int m),some (.int c),some (.int (divs (yb c) j)),z,none,none,none]) ⟨rfl,_,rfl⟩ ?_ ?_⟩
  .rintro j σ H1 hj ⟨rfl,z,rfl⟩;exact exI rfl (xh rfl rfl ⟨(by walk_at "div"),rfl,_,rfl⟩)
  .rintro σ H1 ⟨rfl,z,rfl⟩;refine exI rfl (xh rfl rfl (exI rfl ?_));refine v3 (λJ=>?_) (λJ=>?_)
   .refine exI rfl (xh rfl rfl ⟨(by walk_at "pos"),exI rfl (exI rfl (xh rfl rfl ⟨(by walk_at "pos"),?_⟩))⟩);exact S _ (by rw[wqr I J])
   .refine exI rfl (exI rfl (xh rfl rfl ⟨(by walk_at "pos"),?_⟩));exact S _ (by rw[qu4 I J])
 .have I:¬ 10 ^ 18<=yb c:=L;have l0:=cr c (show(1000003:Int)≠0 by decide);have l1:=bO c (show(0:Int)<1000003 by decide);refine exI rfl (xh rfl rfl ⟨(by walk_at "pos"),exI rfl (xh rfl rfl ⟨(by walk_at "mul"),exI rfl (xh rfl rfl ⟨(by walk_at "mul"),xh rfl rfl (xh rfl rfl (xh rfl rfl ⟨(by walk_at "pos"),?_⟩))⟩)⟩)⟩);have o0:0<=qxt c t:=cr _ ⋯;have o1:qxt c t<999983:=bO _ ⋯;refine⟨V.int (qxt c t),rfl,V.int (qxt c t),rfl,xh rfl rfl ⟨(by walk_at "mul"),exI rfl (xh rfl rfl ⟨(by walk_at "mul"),xh rfl rfl (exI rfl (xh rfl rfl ⟨(by walk_at "mul"),xh rfl rfl (xh rfl rfl ⟨(by walk_at "pos"),?_⟩)⟩))⟩)⟩⟩;have w0:0<=qvv c t:=cr _ ⋯;have w1:qvv c t<1000033:=bO _ ⋯;refine⟨V.int (qvv c t),rfl,V.int (qvv c t),rfl,xh rfl rfl ⟨(by walk_at "mul"),V.int (qxt c t),rfl,xh rfl rfl ⟨(by walk_at "mul"),xh rfl rfl (exI rfl (xh rfl rfl ⟨(by walk_at "mul"),xh rfl rfl (xh rfl rfl ⟨(by walk_at "pos"),exI rfl (xh rfl rfl ⟨(by walk_at "pos"),?_⟩)⟩)⟩))⟩⟩⟩;exact S _ (by rw[wx8 I])
def Within (n f:Int)(m:Option Int):Prop:=f<=n/\∀b,m=some b->n<=b
def Zk (C:Aj):Sp:=λvs H Q E=>∃(n f:Int) (m:V) (o:Option Int),vs=[.int n,.int f,m]/\(m=.non/\o=none\/∃b,m=.int b/\o=some b)/\(Within n f o->Q .non H)/\(¬ Within n f o->E (.ref C) none H)
include T in
theorem wwr (F:FunD K "check_count" za1 f fd):FK P w K mg base 1 f fd ["number","fewest","most"] (Zk qj):=by
 have I:=Jv;refine F.okX I (λvs H Q E h=>by obtain⟨_,_,_,_,rfl,_⟩:=h;rfl) λ_ _ _ _ H vs Q E S h=>?_;obtain⟨n,U,m,o,rfl,O,k,x⟩:=h;refine⟨_,(wy (x9 (PW.pt (Wr (w9 uz (pv 0) (pv 1) (xq _)) (u8 (PW.pt (qjy (w9 wvs (pv 2) www (xq _)) (qxq (w9 yr (pv 0) (pv 2) (xq _)))))))) (wy (zj rfl T.zaf xg rfl T.zfy (xv xf wx))) xk)),?_⟩;refine exI rfl (exI rfl (xh rfl rfl (exI rfl ?_)));refine v3 (λL=>?_) (λL=>?_)
 .refine uc ?_;exact⟨sz1,x (λz=>by have:=z.1;lia)⟩
 .rcases O with⟨rfl,rfl⟩|⟨b,rfl,rfl⟩
  .refine exI rfl ⟨rfl,_,rfl,?_⟩;refine Y0 ?_;exact k ⟨⋯,λb e=>nomatch e⟩
  .refine exI rfl ⟨rfl,_,rfl,?_⟩;refine uc ?_;refine exI rfl (exI rfl (xh rfl rfl (exI rfl ?_)));refine v3 (λJ=>?_) (λJ=>?_)
   .exact⟨sz1,x (λz=>by have:=z.2 b rfl;lia)⟩
   .exact k ⟨⋯,λZ e=>by cases e;lia⟩
def xu (ns:List Int):Prop:=2<=ns.length/\ns.length<=25/\∀h∈ns,0<=h/\h<=(ns.length:Int)-1
def Yc (K:Aa):Sp:=λvs H Q _=>∃(p:Aj) (ns:List Int),vs=[.ref p]/\SqL K H p (ns.map V.int)/\(xu ns->Q (.bl true) H)/\(¬ xu ns->Q (.bl false) H)
include T in
theorem qkq (F:Fun K "is_line" "is_line" za8 f fd):FK P w K mg base 1 f fd ["heights"] (Yc K):=by
 have sc:=qky;refine F.okX sc (λvs H Q E h=>by obtain⟨_,_,rfl,_⟩:=h;rfl) λ_ _ _ _ H vs Q E hr h=>?_;obtain⟨p,I,rfl,O,k1,J⟩:=h;have an:(I.map V.int).length=I.length:=ah _;obtain⟨tw,Z⟩:=T.zaq;refine⟨_,(wu (zx (i:=1) (xb Y9 (w4 xn rfl T.len_ aN (wm (pv 0) wx)) wc))
   (wu (x9 (PW.pt (Wr (w9 uz (pv 1) wc (xq _)) (u8 (w9 yr (pv 1) (zq (v:=V.int 24) rfl Z ⟨_,rfl⟩) (xq _))))) (wy (x6 qzp)) xk)
   (wy (x6 (pe_and (Qb wq1 (w4 (qqd rfl) rfl T.min_ cX (wm (pv 0) wx)) wc (xq _)) (pe_one (Qb op_le (w4 (Jn rfl) rfl T.max_ PyProof.Rows.boot_max (wm (pv 0) wx)) (pv 1) (xq _)))))))),?_⟩
 refine exI rfl ⟨_,_,rfl,.inl O,xh rfl rfl ?_⟩;refine exI rfl (xh rfl rfl (exI rfl ?_));rw[an];refine v3 (λq1=>?_) (λq1=>?_)
 .refine uc ?_;exact J (λz=>by have:=z.1;lia)
 .refine exI rfl (xh rfl rfl (exI rfl ?_));refine v3 (λq2=>?_) (λq2=>?_)
  .exact J (λz=>by have:=z.2.1;lia)
  .refine exI rfl ⟨p,I,rfl,O,⋯,λm hm a0=>(xh rfl rfl (exI rfl ?_))⟩;refine v3 (λS=>?_) (λS=>?_)
   .refine exI rfl ⟨p,I,rfl,O,⋯,λL ad ap=>(exI rfl (xh rfl rfl ?_))⟩;show Q (.bl (decide (L<=(I.length:Int)-1))) H;by_cases q4:L<=(I.length:Int)-1
    .rw[bv q4];exact k1 ⟨⋯,⋯,λh U=>by have:=a0 h U;have:=ap h U;lia⟩
    .rw[aP q4];exact J (λz=>q4 (z.2.2 L ad).2)
   .exact J (λz=>S (z.2.2 m hm).1)
def RoadAt (C:Aj)(H:Hp)(r:Aj)(ns:List Int):Prop:=∃dx q,H r=some (.ins C dx [("heights",.ref q)])/\H q=some (.lst (ns.map V.int))
variable {C r:Aj}{H H':Hp}
theorem RoadAt.same {ns:List Int}(h:RoadAt C H r ns)(s:Same H H'):RoadAt C H' r ns:=by obtain⟨dx,q,h1,h2⟩:=h;exact⟨dx,q,s _ _ h1,s _ _ h2⟩
variable {q:Aj}
theorem jw:([("heights",V.ref q)]:List (Str×V)).lookup ("heights" : Str)=some (.ref q):=by rw[aC];simp
variable {m:Str}
theorem zf (h:¬ m = "heights"):([("heights",V.ref q)]:List (Str×V)).lookup m=none:=by rw[aC];have:(m==("heights" : Str))=false:=aM.mpr h;rw[this];rfl
def Q2 (K:Aa)(CB C:Aj):Sp:=λvs H Q E=>∃(r dx p:Aj) (ns:List Int),vs=[.ref r,.ref p]/\H r=some (.ins C dx [])/\SqL K H p (ns.map V.int) /\
 (xu ns->∀H' q,H q=none->(∀b o,H b=some o->b≠r->H' b=some o)->H' r=some (.ins C dx [("heights",.ref q)])->H' q=some (.lst (ns.map V.int))->Q .non H')/\(¬ xu ns->E (.ref CB) none H)
include T in
theorem wvm (F:Fun K "__init__" "Road.__init__" za9 f fd)(zgs:Cal P w K mg base "is_line" 1 (Yc K)):FK P w K mg base 2 f fd ["self","heights"] (Q2 K qy q9):=by
 have S:=Wy;refine F.okX S (λvs H Q E h=>by obtain⟨_,_,_,_,rfl,_⟩:=h;rfl) λ_ _ _ _ H vs Q E hr h=>?_;obtain⟨r,dx,p,L,rfl,J,O,k,x⟩:=h;refine⟨_,(wu (x9 (qjz (qjb (wCA zgs (wm (pv 1) wx)))) (wy (zj rfl T.zad xg rfl T.zfw (xv xf wx))) xk)
   (wy (um (pv 0) (y3 Qj rfl T.list_ cR (wm (pv 1) wx)) rfl))),?_⟩
 refine⟨_,rfl,p,L,rfl,O,λU=>(exI rfl ?_),λad=>(exI rfl ?_)⟩
 .refine Y0 ?_;refine exI rfl ⟨_,_,rfl,.inl O,λq I=>?_⟩;have Z:upd H q (.lst (L.map V.int)) r=some (.ins q9 dx []):=by rw[wf (wz J I)];exact J
  refine exI rfl ⟨r,q9,dx,[],rfl,Z,T.cl,T.na,(by show 0<1000;decide),?_⟩;refine k U _ q I (λb o e n=>?_) wj ?_
  .rw[wf n,wf (wz e I)];exact e
  .rw[wf (wz J I).symm,wj]
 .refine uc ?_;exact⟨sz1,x ad⟩
def yz (C:Aj):Sp:=λvs H Q _=>∃(r:Aj) (ns:List Int),vs=[.ref r]/\RoadAt C H r ns/\Q (.int ((ns.length:Int)-1)) H
include T in
theorem wxz (F:Fun K "width" "Road.width" zba f fd):FK P w K mg base 1 f fd ["self"] (yz q9):=by have I:=J9;refine F.okX I (λvs H Q E h=>by obtain⟨_,_,rfl,_⟩:=h;rfl) λ_ _ _ _ H vs Q E L h=>?_;obtain⟨r,J,rfl,⟨dx,q,h1,h2⟩,k⟩:=h;refine⟨_,(wy (x6 (xb Y9 (w4 xn rfl T.len_ aN (w8 (zt (pv 0) rfl) wx)) wc))),?_⟩;refine exI rfl ⟨r,q9,dx,_,_,rfl,h1,T.cl,T.na,jw,q,exI rfl ⟨.inl (SqL.of h2),xh rfl rfl ?_⟩⟩;rw[ah];exact k
def Ww (C:Aj):Sp:=λvs H Q _=>∃(r:Aj) (ns:List Int),vs=[.ref r]/\RoadAt C H r ns/\∀p,H p=none->Q (.ref p) (upd H p (.lst (ns.map V.int)))
include T in
theorem qks (F:Fun K "corners" "Road.corners" zbb f fd):FK P w K mg base 1 f fd ["self"] (Ww q9):=by have I:=Zq;refine F.okX I (λvs H Q E h=>by obtain⟨_,_,rfl,_⟩:=h;rfl) λ_ _ _ _ H vs Q E L h=>?_;obtain⟨r,J,rfl,⟨dx,q,h1,h2⟩,k⟩:=h;refine⟨_,(wy (x6 (y3 Qj rfl T.list_ cR (w8 (zt (pv 0) rfl) wx)))),?_⟩;exact exI rfl ⟨r,q9,dx,_,_,rfl,h1,T.cl,T.na,jw,q,exI rfl ⟨.inl (SqL.of h2),λp np=>k p np⟩⟩
def wqf:Sp:=λvs H Q _=>∃x y:Int,vs=[.int x,.int y]/\0<=x/\0<=y/\Q (.int (Zw x y)) H
theorem wxh {tb:TS}{c:TT}{D:Ends}{x y:Int}(hx:0<=x)(hy:0<=y)(hc:c=qq3 (tOp (rI0 λi j=>.bl (decide (j<i))) (Wx 1) (tC (.int 0))))(hb:tb=tPar 0 1 (k8 (Wx 1) (k8 (tOp (rI (λ_ j=>0<j) λi j=>.int (i%j)) (Wx 0) (Wx 1)) qqq)))
  (hD:D.nx [some (.int (Zw x y)),some (.int 0)] H):qk3 c tb D [some (.int x),some (.int y)] H:=by
 subst hc hb;refine qvu (λσ H1=>H1=H/\∃u v:Int,σ=[some (.int u),some (.int v)]/\0<=u/\0<=v/\Zw u v=Zw x y) (λσ _=>match σ with|[_,some (.int v)]=>v.toNat|_=>0) ⟨rfl,x,y,rfl,hx,hy,rfl⟩ ?_ λσ H Q Q' h ⟨v,e,i,j,e1,e2,k,e3,q⟩=>⟨v,e,i,j,e1,e2,k,e3,h _ _ q⟩;rintro σ H1 ⟨rfl,u,v,rfl,hu,hv,e⟩;refine exI rfl (xh rfl rfl (exI rfl ?_));refine v3 (λq=>?_) (λq=>?_)
 .have h1:=cr u (show v≠0 by lia);have h2:=bO u q;refine exI rfl (exI rfl (exI rfl (xh rfl rfl ⟨q,_,_,rfl,⟨rfl,v,u%v,rfl,hv,h1,?_⟩,?_⟩)))
  .rw[quh hu q,e]
  .show(u%v).toNat<v.toNat;lia
 .have z:v=0:=by lia
  subst z;rw[wqq hu]at e;subst e;exact hD
include T in
theorem zgt (F:Fun K "common_divisor" "common_divisor" za6 f fd):FK P w K mg base 1 f fd ["one","other"] wqf:=by
 have I:=Qz;refine F.okX I (λvs H Q E h=>by obtain⟨_,_,rfl,_⟩:=h;rfl) λ_ _ _ _ H vs Q E O h=>?_;obtain⟨x,y,rfl,L,J,k⟩:=h;refine⟨_,(wu (qvy bF (w9 yr (pv 1) wc (xq _)) (wy (ps_par (i:=0) (j:=1) rfl I.nd rfl rfl ⋯ rfl rfl (wm (pv 1) (k7 (xb jz (pv 0) (pv 1)) wx)) rfl)))
   (wy (x6 (pv 0)))),?_⟩
 exact wxh L J rfl rfl (exI rfl k)
def ptV (p:Int×Int):List V:=[.int p.1,.int p.2]
def y0 (C:Aj):Sp:=λvs H Q E=>∃t b:Int,vs=[.int t,.int b]/\(1<=b->Sm 9000 b/\∀p,H p=none->Q (.ref p) (upd H p (.tup (ptV (xz t b)))))/\(b<1->E (.ref C) none H)
include T in
theorem qu2 (F:Fun K "lowest" "lowest" za7 f fd)(zgu:Cal P w K mg base "check_bottom" 1 (qw1 qx))(zgv:Cal P w K mg base "common_divisor" 1 wqf) :
  FK P w K mg base 2 f fd ["top","bottom"] (y0 qx):=by
 have J:=qux;refine F.okX J (λvs H Q E h=>by obtain⟨_,_,rfl,_⟩:=h;rfl) λ_ _ _ _ H vs Q E O h=>?_;obtain⟨t,b,rfl,k,x⟩:=h;refine⟨_,(wu (xj (wCA zgu (wm (pv 1) wx)))
   (wu (zx (i:=2) (wCA zgv (zm (w4 Z7 rfl T.abs_ Y5 (wm (pv 0) wx)) (wm (pv 1) wx))))
   (wy (x6 (jj (k7 (xb Qc (pv 0) (pv 2)) (k7 (xb Qc (pv 1) (pv 2)) wx))))))),?_⟩
 refine⟨_,rfl,b,rfl,λI=>?_,λI=>x I⟩;obtain⟨L,k⟩:=k I;have S:=jg (t:=t) I;have hs:Sm 9000 (gOf t b):=L.of_le (by have:=gOf_le (t:=t) I;lia);refine exI rfl (exI rfl (exI rfl ⟨yb t,b,rfl,wvq t,⋯,?_⟩));refine exI rfl ⟨V.int (gOf t b),rfl,xh rfl rfl ⟨⟨⋯,hs⟩,exI rfl ⟨V.int (gOf t b),rfl,xh rfl rfl ⟨⟨⋯,hs⟩,sz2,λp n=>?_⟩⟩⟩⟩;exact k p n
variable {hs:List Int}
theorem at_h {k:Int}(h0:0<=k)(h1:k<hs.length):atI (hs.map V.int) k=some (V.int (hAt hs k)):=Zy h0 h1
theorem h_rng (ok:xu hs)(k:Int):0<=hAt hs k/\hAt hs k<=24:=by
 unfold hAt;rw[am];cases e:hs[k.toNat]? with
 |none=>exact⟨⋯,⋯⟩
 |some v =>
  have hm:=ok.2.2 v (bh e);have:=ok.2.1;show 0<=v/\v<=24;lia
def qxk (C CR:Aj):Sp:=λvs H Q E=>∃(r:Aj) (hs:List Int) (k:Int),vs=[.ref r,.int k]/\RoadAt C H r hs/\(0<=k->k<(hs.length:Int)-1->∀p,H p=none->Q (.ref p) (upd H p (.tup [.int (hAt hs k),.int (hAt hs (k+1))]))) /\
 (k<0\/(hs.length:Int)-1<=k->E (.ref CR) none H)
include T in
theorem wvp (F:Fun K "ends" "Road.ends" zbc f fd)(zap:MCal P w K mg base q9 "width" 1 (yz q9)):FK P w K mg base 2 f fd ["self","stretch"] (qxk q9 qg):=by
 have O:=qx7;refine F.okX O (λvs H Q E h=>by obtain⟨_,_,_,rfl,_⟩:=h;rfl) λ_ _ _ _ H vs Q E U h=>?_;obtain⟨r,hs,k,rfl,L,S,x⟩:=h;obtain⟨dx,q,h1,h2⟩:=id L;refine⟨_,(wu (x9 (PW.pt (Wr (w9 uz (pv 1) wc (xq _)) (u8 (w9 wq1 (pv 1) (kd (pv 0) T.cl zap (U.mono ⋯) wv) (xq _))))) (wy (zj rfl T.zaa xg rfl T.zcf (xv xf wx))) xk)
   (wy (x6 (jj (yj (vg z7 (zt (pv 0) rfl) (pv 1) (λ_ _=>rfl)) (yj (vg z7 (zt (pv 0) rfl) (xb z8 (pv 1) wc) (λ_ _=>rfl)) wx)))))),?_⟩
 refine exI rfl (xh rfl rfl (exI rfl ?_));refine v3 (λJ=>?_) (λJ=>?_)
 .refine uc ?_;exact⟨sz1,x (.inl J)⟩
 .refine exI rfl (exI rfl ⟨r,dx,exI rfl ⟨h1,zf (by decide +kernel),r,hs,rfl,L,xh rfl rfl (exI rfl ?_)⟩⟩);refine v3 (λI=>?_) (λI=>?_)
  .exact⟨sz1,x (.inr I)⟩
  .refine exI rfl ⟨r,q9,dx,_,_,rfl,h1,T.cl,T.na,jw,exI rfl (exX rfl rfl (SqL.of h2) (at_h ⋯ ⋯) (exI rfl ⟨r,q9,dx,_,_,rfl,h1,T.cl,T.na,jw,exI rfl (xh rfl rfl (exX rfl rfl (SqL.of h2) (at_h ⋯ ⋯) ⟨sz2,λp np=>?_⟩))⟩))⟩;exact S ⋯ ⋯ p np
def jv (hs:List Int)(t b:Int):Prop:=0<=t/\t<=((hs.length:Int)-1)*b
def Q0 (K:Aa)(C CB CO:Aj):Sp:=λvs H Q E=>∃(r p:Aj) (hs:List Int) (t b:Int),vs=[.ref r,.ref p]/\RoadAt C H r hs/\xu hs/\SqT K H p [.int t,.int b] /\
 (1<=b->Sm 8000 b/\(jv hs t b->∀q H',Same H H'->H' q=some (.tup (ptV (xz t b)))->Q (.ref q) H')/\(¬ jv hs t b->∀H',Same H H'->E (.ref CO) none H'))/\(b<1->E (.ref CB) none H)
include T in
theorem qkr (F:Fun K "on_road" "Road.on_road" zbe f fd)(zap:MCal P w K mg base q9 "width" 1 (yz q9))(za2:Cal P w K mg base "lowest" 2 (y0 qx)) :
  FK P w K mg base 3 f fd ["self","point"] (Q0 K q9 qx qb):=by
 have sc:=Zz;refine F.okX sc (λvs H Q E h=>by obtain⟨_,_,_,_,_,rfl,_⟩:=h;rfl) λ_ _ _ _ H vs Q E hr h=>?_;obtain⟨r,p,hs,t,b,rfl,hR,ad,hp,U,x⟩:=h;obtain⟨dx,q,h1,h2⟩:=id hR;refine⟨_,(wu (Y8 (wCA za2 (yj (vg Jq (pv 1) wc (λ_ _=>rfl)) (yj (vg Jq (pv 1) wc (λ_ _=>rfl)) wx))) (ug rfl (zn (zc (i:=2)) (zn (zc (i:=3)) yk))))
   (wu (x9 (PW.pt (Wr (w9 uz (pv 2) wc (xq _)) (u8 (w9 yr (pv 2) (xb z0 (kd (pv 0) T.cl zap (hr.mono ⋯) wv) (pv 3)) (xq _))))) (wy (zj rfl T.zae xg rfl T.zfx (xv xf wx))) xk)
   (wy (x6 (jj (wm (pv 2) (wm (pv 3) wx))))))),?_⟩
 refine⟨_,rfl,_,_,_,_,rfl,rfl,hp,rfl,_,rfl,_,_,_,_,rfl,rfl,hp,rfl,t,b,rfl,λI=>⟨(U I).1.mono ⋯,λS n1=>?_⟩,λz=>x z⟩;obtain⟨sb,k1,Z⟩:=U I;have J:Same H (upd H S (.tup (ptV (xz t b)))):=Same.upd n1;have hl:=ad.2.1;refine⟨S,exI rfl ⟨SqT.new,rfl,_,_,rfl,_,_,rfl,rfl,?_⟩⟩;refine exI rfl (xh rfl rfl (exI rfl ?_));refine v3 (λO=>?_) (λO=>?_)
 .refine uc ?_;exact⟨sz1,Z (λz=>by have:=(Zf I).mp O;have:=z.1;lia) _ J⟩
 .refine exI rfl (exI rfl ⟨r,dx,exI rfl ⟨J _ _ h1,zf (by decide +kernel),r,hs,rfl,hR.same J,exI rfl (xh rfl rfl ⟨IntMulOk.of_left (intBits_le_64 ⋯ ⋯),xh rfl rfl (exI rfl ?_)⟩)⟩⟩);refine v3 (λL=>?_) (λL=>?_)
  .exact⟨sz1,Z (λz=>by have:=(qkb I).mp L;have:=z.2;lia) _ J⟩
  .refine exI rfl (exI rfl ⟨sz2,λp2 n2=>?_⟩);refine k1 ⟨?_,?_⟩ p2 _ (J.trans (Same.upd n2)) wj
   .rcases cb t 0 with z|z
    .exact absurd ((Zf I).mpr z) O
    .exact z
   .rcases cb (((hs.length:Int)-1)*b) t with z|z
    .exact absurd ((qkb I).mpr z) L
    .exact z
def spAt (K:Aa)(C CB CO:Aj):Sp:=λvs H Q E=>∃(r p:Aj) (hs:List Int) (t b:Int),vs=[.ref r,.ref p]/\RoadAt C H r hs/\xu hs/\SqT K H p [.int t,.int b] /\
 (1<=b->Sm 8000 b/\(jv hs t b->∀q H',Same H H'->H' q=some (.tup (ptV (qv0 hs t b)))->Q (.ref q) H')/\(¬ jv hs t b->∀H',Same H H'->E (.ref CO) none H'))/\(b<1->E (.ref CB) none H)
include T in
theorem zgw (F:Fun K "at" "Road.at" zbf f fd)(zap:MCal P w K mg base q9 "width" 1 (yz q9))(za2:Cal P w K mg base "lowest" 2 (y0 qx))(zcn:MCal P w K mg base q9 "ends" 2 (qxk q9 qg))
  (zco:MCal P w K mg base q9 "on_road" 3 (Q0 K q9 qx qb)):FK P w K mg base 4 f fd ["self","point"] (spAt K q9 qx qb):=by
 have sc:=qkd;refine F.okX sc (λvs H Q E h=>by obtain⟨_,_,_,_,_,rfl,_⟩:=h;rfl) λ_ _ _ _ H vs Q E U h=>?_;obtain⟨r,p,hs,t,b,rfl,O,L,hp,S,x⟩:=h;obtain⟨dx,q,h1,h2⟩:=id O;refine⟨_,(wu (Y8 (xy (pv 0) T.cl zco (U.mono ⋯) wv (wm (pv 1) wx)) (ug rfl (zn (zc (i:=2)) (zn (zc (i:=3)) yk))))
   (wu (zx (i:=4) (w4 (qwc rfl) rfl T.min_ cX (k7 (xb Qc (pv 2) (pv 3)) (k7 (xb Y9 (kd (pv 0) T.cl zap (U.mono ⋯) wv) wc) wx))))
   (wu (Y8 (xy (pv 0) T.cl zcn (U.mono ⋯) wv (wm (pv 4) wx)) (ug rfl (zn (zc (i:=5)) (zn (zc (i:=6)) yk))))
   (wu (zx (i:=7) (xb Y9 (pv 2) (xb z0 (pv 4) (pv 3))))
   (wy (x6 (wCA za2 (k7 (xb z8 (xb z0 (pv 5) (pv 3)) (xb z0 (xb Y9 (pv 6) (pv 5)) (pv 7))) (wm (pv 3) wx))))))))),?_⟩
 refine⟨_,rfl,r,dx,_,rfl,h1,zf (by decide +kernel),_,rfl,r,p,hs,t,b,rfl,O,L,hp,λJ=>⟨(S J).1,λad p1 H1 I f1=>?_,λan H1 I=>(S J).2.2 an H1 I⟩,λz=>x z⟩;obtain⟨sb,k1,k2⟩:=S J;have ap:=L.1;have a1:=L.2.1;have hy:=Zd (t:=t) J;have a0:=qkw (t:=t) J;have hx:0<=(xz t b).1:=by
  rcases cb (xz t b).1 0 with z|z
  .have:=(Zf J).mp z;have:=ad.1;lia
  .exact z
 have hk:=kF_rng (hs:=hs) ap hy hx;have Z:Sm 9000 (xz t b).2:=(sb.of_le ⋯).mono ⋯;refine⟨p1,exI rfl ⟨SqT.of f1,rfl,_,_,rfl,_,_,rfl,rfl,?_⟩⟩;refine exI rfl (exI rfl (xh rfl rfl ⟨⟨⋯,Z⟩,exI rfl ⟨r,dx,exI rfl ⟨I _ _ h1,zf (by decide +kernel),r,hs,rfl,O.same I,xh rfl rfl ⟨_,_,rfl,?_⟩⟩⟩⟩));refine⟨_,rfl,r,dx,_,rfl,I _ _ h1,zf (by decide +kernel),V.int (kF hs (xz t b).1 (xz t b).2),rfl,r,hs,kF hs (xz t b).1 (xz t b).2,rfl,O.same I,λ_ _ p2 n2=>?_,λz=>absurd z ⋯⟩;have g1:=h_rng L (kF hs (xz t b).1 (xz t b).2);have g2:=h_rng L (kF hs (xz t b).1 (xz t b).2+1);refine⟨p2,exI rfl ⟨SqT.new,rfl,_,_,rfl,_,_,rfl,rfl,?_⟩⟩;refine exI rfl ⟨V.int (kF hs (xz t b).1 (xz t b).2),rfl,exI rfl (xh rfl rfl ⟨IntMulOk.of_left (intBits_le_64 ⋯ ⋯),xh rfl rfl ?_⟩)⟩;refine exI rfl (exI rfl (xh rfl rfl ⟨IntMulOk.of_left (intBits_le_64 ⋯ ⋯),exI rfl (exI rfl (xh rfl rfl (exI rfl (xh rfl rfl ⟨IntMulOk.of_left (intBits_le_64 ⋯ ⋯),xh rfl rfl (exI rfl ?_)⟩))))⟩));refine⟨Zg hs (xz t b).1 (xz t b).2,(xz t b).2,rfl,λ_=>⟨Z,λp3 n3=>?_⟩,λz=>absurd z ⋯⟩;have e:xz (Zg hs (xz t b).1 (xz t b).2) (xz t b).2=qv0 hs t b:=qut J;rw[e];exact k1 ad p3 _ (I.trans ((Same.upd n2).trans (Same.upd n3))) wj
variable {x dx:Aj}
theorem qy1 (nx:H x=none)(nd:H dx=none)(h:∀b o,upd (upd H dx (.own x)) x (.ins C dx []) b=some o->b≠x->H' b=some o):Same H H':=λb o e =>
 h b o (by rw[wf (wz e nx),wf (wz e nd)];exact e) (wz e nx)
variable {p:Aj}
theorem Same.upd2 {o:HO}(s:Same H H')(n:H p=none):Same H (L2.upd H' p o):=λb u e=>by rw[wf (wz e n)];exact s b u e
variable {E:XK}
theorem Zj {CB:Aj}{Pp:Hp->Prop}(f:H p=some (.lst (hs.map V.int)))(nx:H x=none)(nd:H dx=none)(k:xu hs->∀H',Same H H'->RoadAt C H' x hs->Pp H')(bad:¬ xu hs->∀H',Same H H'->E (.ref CB) none H') :
  Q2 K CB C [.ref x,.ref p] (upd (upd H dx (.own x)) x (.ins C dx [])) (λr H2=>r=.non/\Pp H2) E:=by
 refine⟨x,dx,p,hs,rfl,wj,SqL.of (by rw[wf (wz f nx),wf (wz f nd)];exact f),λF J q L I r l=>⟨rfl,k F J (qy1 nx nd I) ⟨dx,q,r,l⟩⟩,λz=>bad z _ ?_⟩;exactλb o e=>by rw[wf (wz e nx),wf (wz e nd)];exact e
variable {b:Int}
theorem low_on {t:Int}(hb:1<=b)(hon:jv hs t b):jv hs (xz t b).1 (xz t b).2:=by
 constructor
 .rcases cb (xz t b).1 0 with z|z
  .have:=(Zf hb).mp z;have:=hon.1;lia
  .exact z
 .rcases cb (((hs.length:Int)-1)*(xz t b).2) (xz t b).1 with z|z
  .have:=(qkb hb).mp z;have:=hon.2;lia
  .exact z
def Pt (hs:List Int)(c:Int)(p:Int×Int):Prop:=1<=p.2/\p.2<=c/\gOf p.1 p.2=1/\jv hs p.1 p.2
theorem pt_low {t:Int}(hb:1<=b)(hon:jv hs t b):Pt hs b (xz t b):=⟨Zd hb,qkw hb,ww9 hb,low_on hb hon⟩
theorem wvr {t:Int}(hb:1<=b)(g:gOf t b=1):xz t b=(t,b):=by unfold xz;rw[g,Int.ediv_one,Int.ediv_one]
def minI (a b:Int):Int:=if b<a then b else a
def maxI (a b:Int):Int:=if b>a then b else a
theorem wvw {a:Int}:minI a b<=a/\minI a b<=b/\(minI a b=a\/minI a b=b):=by unfold minI;split <;> lia
theorem wz1 {a:Int}:a<=maxI a b/\b<=maxI a b/\(maxI a b=a\/maxI a b=b):=by unfold maxI;split <;> lia
def loH (hs:List Int)(k:Int):Int:=minI (hAt hs k) (hAt hs (k+1))
def hiH (hs:List Int)(k:Int):Int:=maxI (hAt hs k) (hAt hs (k+1))
def qxv (C CR:Aj):Sp:=λvs H Q E=>∃(r:Aj) (hs:List Int) (k:Int),vs=[.ref r,.int k]/\RoadAt C H r hs/\(0<=k->k<(hs.length:Int)-1->∀p H',Same H H'->H' p=some (.tup [.int (loH hs k),.int (hiH hs k)])->Q (.ref p) H') /\
 (k<0\/(hs.length:Int)-1<=k->E (.ref CR) none H)
include T in
theorem wwg (F:Fun K "reach" "Road.reach" zbd f fd)(zcn:MCal P w K mg base q9 "ends" 2 (qxk q9 qg)):FK P w K mg base 3 f fd ["self","stretch"] (qxv q9 qg):=by
 have J:=qqj;refine F.okX J (λvs H Q E h=>by obtain⟨_,_,_,rfl,_⟩:=h;rfl) λ_ _ _ _ H vs Q E S h=>?_;obtain⟨r,hs,k,rfl,I,O,x⟩:=h;obtain⟨dx,q,h1,h2⟩:=id I;refine⟨_,(wu (Y8 (xy (pv 0) T.cl zcn (S.mono ⋯) wv (wm (pv 1) wx)) (ug rfl (zn (zc (i:=2)) (zn (zc (i:=3)) yk))))
   (wy (x6 (jj (zm (w4 (qwc rfl) rfl T.min_ cX (wm (pv 2) (wm (pv 3) wx))) (zm (w4 (quu rfl) rfl T.max_ PyProof.Rows.boot_max (wm (pv 2) (wm (pv 3) wx))) wx)))))),?_⟩
 refine⟨_,rfl,r,dx,_,rfl,h1,zf (by decide +kernel),V.int k,rfl,r,hs,k,rfl,I,λa b p n=>?_,λz=>x z⟩;refine⟨p,exI rfl ⟨SqT.new,rfl,_,_,rfl,_,_,rfl,rfl,?_⟩⟩;refine exI rfl (exI rfl ⟨_,_,rfl,exI rfl (exI rfl ⟨_,_,rfl,sz2,λp2 L=>?_⟩)⟩);exact O a b p2 _ ((Same.upd n).trans (Same.upd L)) wj
theorem lohi (ok:xu hs)(k:Int):0<=loH hs k/\loH hs k<=hiH hs k/\hiH hs k<=(hs.length:Int)-1:=by
 have g:∀j,0<=hAt hs j/\hAt hs j<=(hs.length:Int)-1:=λj=>by
  unfold hAt;rw[am];have l:=ok.1;cases e:hs[j.toNat]? with
  |none=>exact⟨⋯,by show(0:Int)<=_;lia⟩
  |some v=>exact ok.2.2 v (bh e)
 have a:=g k;have b:=g (k+1);have c:=wvw (a:=hAt hs k) (b:=hAt hs (k+1));have d:=wz1 (a:=hAt hs k) (b:=hAt hs (k+1));unfold loH hiH;lia
def yf (hs:List Int)(k:Int):List Int:=(List.range (hiH hs k-loH hs k).toNat).map λj:Nat=>loH hs k+j
theorem ww7 (hs:List Int)(k:Int):((List.range (hiH hs k-loH hs k).toNat).map λj:Nat=>V.int (loH hs k+j))=(yf hs k).map V.int:=by unfold yf;rw[bw];rfl
def y8 (C CR:Aj):Sp:=λvs H Q E=>∃(r:Aj) (hs:List Int) (k:Int),vs=[.ref r,.int k]/\RoadAt C H r hs/\xu hs/\(0<=k->k<(hs.length:Int)-1->∀p H',H p=none->Same H H'->H' p=some (.lst ((yf hs k).map V.int))->Q (.ref p) H') /\
 (k<0\/(hs.length:Int)-1<=k->E (.ref CR) none H)
include T in
theorem qjr (F:Fun K "covered" "covered" zbg f fd)(zgx:MCal P w K mg base q9 "reach" 3 (qxv q9 qg)):FK P w K mg base 4 f fd ["road","stretch"] (y8 q9 qg):=by
 have S:=qjn;refine F.okX S (λvs H Q E h=>by obtain⟨_,_,_,rfl,_⟩:=h;rfl) λ_ _ _ _ H vs Q E Z h=>?_;obtain⟨r,hs,k,rfl,O,L,U,x⟩:=h;obtain⟨dx,q,h1,h2⟩:=id O;refine⟨_,(wu (Y8 (xy (pv 0) T.cl zgx (Z.mono ⋯) wv (wm (pv 1) wx)) (ug rfl (zn (zc (i:=2)) (zn (zc (i:=3)) yk))))
   (wy (x6 (Jh rfl rfl T.list_ rfl T.range_ (wm (pv 2) (wm (pv 3) wx)))))),?_⟩
 refine⟨_,rfl,r,dx,_,rfl,h1,zf (by decide +kernel),V.int k,rfl,r,hs,k,rfl,O,λa b p H1 J f1=>?_,λz=>x z⟩;have hl:=lohi L k;have ol:=L.2.1;refine⟨p,exI rfl ⟨SqT.of f1,rfl,_,_,rfl,_,_,rfl,rfl,?_⟩⟩;refine⟨_,rfl,_,rfl,_,_,rfl,⟨⋯,⋯,⋯,⋯⟩,⋯,λp2 I=>?_⟩;refine U a b p2 _ ?_ (J.trans (Same.upd I)) (by rw[wj,ww7]);cases e:H p2 with
 |none=>rfl
 |some o=>rw[J _ _ e]at I;cases I
theorem qwv (ok:xu hs)(k:Int):∀v∈yf hs k,0<=v/\v<((hs.length-1:Nat):Int):=λv hv=>by have l:=lohi ok k;have:=ok.1;unfold yf at hv;obtain⟨j,hj,rfl⟩:=aF.mp hv;have:=bd.mp hj;lia
theorem wxw (ok:xu hs)(k:Int):(yf hs k).length<=24:=by have l:=lohi ok k;have:=ok.2.1;unfold yf;rw[ah,aL];lia
def jx (hs:List Int):Nat->List Int:=λi=>yf hs ((0:Int)+i)
def CovAt (H:Hp)(p:Aj)(hs:List Int):Prop:=∃ys,H p=some (.lst ys)/\ys.length=hs.length-1/\∀i v,ys[i]?=some v->∃q,v=.ref q/\H q=some (.lst ((jx hs i).map V.int))
theorem CovAt.same (h:CovAt H p hs)(s:Same H H'):CovAt H' p hs:=by obtain⟨ys,e,l,r⟩:=h;exact⟨ys,s _ _ e,l,λi v z=>let ⟨q,a,b⟩:=r i v z;⟨q,a,s _ _ b⟩⟩
theorem Yq (g:Nat->List V):Stay λi v H=>∃q,v=.ref q/\H q=some (.lst (g i)):=λi v H H' p h nv st=>by obtain⟨q,rfl,e⟩:=h;exact⟨q,rfl,st q _ (λz=>nv (by rw[z])) e⟩
def u5 (C:Aj):Sp:=λvs H Q _=>∃(r:Aj) (hs:List Int),vs=[.ref r]/\RoadAt C H r hs/\xu hs/\∀p H',H p=none->Same H H'->CovAt H' p hs->Q (.ref p) H'
include T in
theorem qx3 (F:Fun K "covers_of" "covers_of" zbh f fd)(zap:MCal P w K mg base q9 "width" 1 (yz q9))(zcp:Cal P w K mg base "covered" 4 (y8 q9 qg)):FK P w K mg base 5 f fd ["road"] (u5 q9):=by have O:=qx5;refine F.okX O (λvs H Q E h=>by obtain⟨_,_,rfl,_⟩:=h;rfl) λ_ _ _ s H vs Q E L h=>?_;obtain⟨r,hs,rfl,J,I,k⟩:=h;obtain⟨dx,q,h1,h2⟩:=id J;have o1:=I.1;have o2:=I.2.1;refine⟨_,(wy (x6 (jc (M:=[0]) rfl rfl (by walk_at "cap") (by walk_at "has") (by walk_at "cix") rfl (by decide +kernel) rfl (show List.Nodup (["stretch","road"]:List Str) by decide +kernel) (ku rfl T.range_ (zm (kd (pv 0) T.cl zap (L.mono ⋯) wv) wx)) (λ_ _ _ _ _=>(xx zcp (L.mono ⋯) rfl wws (wm (pv 1) (wm (pv 0) wx))))))),?_⟩;refine exI rfl ⟨r,dx,exI rfl ⟨h1,zf (by decide +kernel),r,hs,rfl,J,exI rfl ⟨⋯,⋯,yu (λi v H=>∃q,v=.ref q/\H q=some (.lst ((jx hs i).map V.int))) (Yq _) ⋯ (λi H' R hi s' U=>?_) λp ys H' np s' f l Z=>k p H' np s' ⟨ys,f,⋯,λi v e=>(Z i v e).1⟩⟩⟩⟩;refine⟨_,rfl,_,rfl,r,hs,_,rfl,J.same s',I,λ_ _ p2 H2 S s2 f2=>U (.ref p2) H2 s2 ⟨p2,rfl,f2⟩ λb e=>?_,λz=>absurd z ⋯⟩;cases e;exact S
def Ys:Sp:=λvs H Q _=>∃w:Int,vs=[.int w]/\0<=w/\w<=24/\∀(cov:Nat->List Int) p H',H p=none->Same H H'->MatAt H' p w.toNat (yy cov 0)->Q (.ref p) H'
include T in
theorem qjq (F:Fun K "ways_of_no_step" "ways_of_no_step" zbi f fd):FK P w K mg base 1 f fd ["width"] Ys:=by
 have L:=u4;refine F.okX L (λvs H Q E h=>by obtain⟨_,rfl,_⟩:=h;rfl) λ_ _ _ s H vs Q E hr h=>?_;obtain⟨w,rfl,Z,U,k⟩:=h;refine⟨_,(wy (x6 (Yb (M:=[0]) rfl rfl (by walk_at "cap") (by walk_at "hasK") (by walk_at "cix") rfl (by decide +kernel) (by intro _;rfl) (by intro _;rfl) rfl (show List.Nodup (["begin","width"]:List Str) by decide +kernel) (ku rfl T.range_ (wm (pv 0) wx)) (λ_ _ _ _ _=>(jc (M:=[0]) rfl rfl (by walk_at "cap") (by walk_at "has") (by walk_at "cix") rfl (by decide +kernel) rfl (show List.Nodup (["end","begin"]:List Str) by decide +kernel) (ku rfl T.range_ (wm (pv 1) wx)) (λ_ _ _ _ _=>(qv6 (w9 vz (pv 0) (pv 1) (xq _)) wc wc))))))),?_⟩;refine exI rfl ⟨w,rfl,⋯,⋯,yu (λi v H=>∃q,v=.ref q/\H q=some (.lst ((jn w.toNat (yy (λ_=>[]) 0 i)).map V.int))) (Yq _) ⋯ (λi H' R hi s' O=>?_) λp ys H' np s' f l S=>k (λ_=>[]) p H' np s' ⟨ys,f,l,λi v e=>(S i v e).1⟩⟩;refine exI rfl ⟨w,rfl,⋯,⋯,Zt (λj=>V.int (yy (λ_=>[]) 0 i j)) ⋯ (λj H2 R2 hj s2 I=>?_) λq J=>O (.ref q) _ (Same.upd J) ⟨q,rfl,by rw[wj,qz5]⟩ λb e=>by cases e;exact J⟩;refine exI rfl (exI rfl ⟨rfl,_,rfl,ww6 (λe=>?_) (λe=>?_)⟩)
 .have:yy (λ_=>[]) 0 i j=1:=ao ⋯;rw[this]at I;exact I
 .have:yy (λ_=>[]) 0 i j=0:=ak ⋯;rw[this]at I;exact I
def Q4 (hs:List Int):Sp:=λvs H Q _=>∃(c t:Aj) (f:Nat->Nat->Int),vs=[.ref c,.ref t]/\CovAt H c hs/\MatAt H t (hs.length-1) f/\∀p H',H p=none->Same H H'->MatAt H' p (hs.length-1) (λi j=>((jx hs i).map λv=>f v.toNat j).sum)->Q (.ref p) H'
def picks (f:Nat->Nat->Int)(j:Nat):V->V
 |.int z=>.int (f z.toNat j)
 |_=>.non
theorem at_row {n j:Nat}{g:Nat->Int}(h:j<n):atI ((jn n g).map V.int) ((0:Int)+j)=some (V.int (g j)):=by rw[Int.zero_add];refine y7 ?_;rw[aI,Z5 h];rfl
theorem qz4 (ok:xu hs)(F:Fun K "one_step_more" "one_step_more" zbj f fd)(T:Txt K mg qm qy qx qb qj qc qg qu qp qh qk qr qt qw qd q9 q8 qf):FK P w K mg base 1 f fd ["covers","table"] (Q4 hs):=by
 have sc:=Wq;refine F.okX sc (λvs H Q E h=>by obtain⟨_,_,_,rfl,_⟩:=h;rfl) λ_ _ _ s H vs Q E hr h=>?_;obtain⟨c,t,g,rfl,⟨cs,fc,lc,gc⟩,U,k⟩:=h;obtain⟨L,J,lt,gt⟩:=id U;have o1:=ok.1;have o2:=ok.2.1;refine⟨_,(wy (x6 (Yb (M:=[1]) rfl rfl (by walk_at "cap") (by walk_at "hasK") (by walk_at "cix") rfl (by decide +kernel) (by intro _;rfl) (by intro _;rfl) rfl (show List.Nodup (["vias","table"]:List Str) by decide +kernel) (y6 (pv 0)) (λ_ _ _ _ _=>(Yb (M:=[0,1]) rfl rfl (by walk_at "cap") (by walk_at "hasK") (by walk_at "cix") rfl (by decide +kernel) (by intro _;rfl) (by intro _;rfl) rfl (show List.Nodup (["end","vias","table"]:List Str) by decide +kernel) (ku rfl T.range_ (zm (w4 (qqf (K:=K) rfl) rfl T.len_ aN (wm (pv 1) wx)) wx)) (λ_ _ _ _ _=>(w4 (jm (K:=K) rfl rfl) rfl T.sum_ Wc (w8 (jc (M:=[0,2]) rfl rfl (by walk_at "cap") (by walk_at "has") (by walk_at "cix") rfl (by decide +kernel) rfl (show List.Nodup (["via","end","table"]:List Str) by decide +kernel) (wwd (K:=K) rfl (pv 1)) (λ_ _ _ _ _=>(vg (qzf (K:=K) rfl) (vg (qzf (K:=K) rfl) (pv 2) (pv 0) (λ_ _=>rfl)) (pv 1) (λ_ _=>rfl)))) wx)))))))),?_⟩;refine exI rfl ⟨c,rfl,⟨_,SqL.of fc⟩,u6 (K:=K) (a:=c) (xs:=cs) (λi v H=>∃q,v=.ref q/\H q=some (.lst ((jn (hs.length-1) λj=>((jx hs i).map λv=>g v.toNat j).sum).map V.int))) (Yq _) (SqL.of fc) ⋯ (λi x H' R hx s' a0=>?_) λp ys H' np s' f l hG=>k p H' np s' ⟨ys,f,⋯,λi v e=>(hG i v e).1⟩⟩;obtain⟨S,rfl,Z⟩:=gc i x hx;refine exI rfl ⟨t,exI rfl ⟨.inl (SqL.of (s' _ _ J)),exI rfl ⟨⋯,⋯,?_⟩⟩⟩;rw[show((L.length:Int)).toNat=hs.length-1 by lia];refine qz7 (λj=>V.int (((jx hs i).map λv=>g v.toNat j).sum)) (λ_ _ e=>nomatch e) ⋯ (λj H2 R2 hj s2 ap=>?_) λq H2 nq s2 fq=>a0 (.ref q) H2 s2 ⟨q,rfl,by rw[fq,qz5]⟩ λb e=>by cases e;exact nq
 have I:=s'.trans s2;refine exI rfl ⟨S,rfl,⟨_,SqL.of (I _ _ Z)⟩,qy7 (K:=K) (a:=S) (xs:=(jx hs i).map V.int) (picks g j) (SqL.of (I _ _ Z)) (by rw[ah];have:=wxw ok ((0:Int)+i);unfold jx;lia) (λx3 H3 R3 ad s3 an=>?_) λpl nl=>?_⟩
 .obtain⟨z,hz,rfl⟩:=aF.mp ad;have zb:=qwv ok _ z hz;obtain⟨qz,ez,fz⟩:=U.row J (i:=z.toNat) ⋯;have O:=I.trans s3;have a1:atI L z=some (.ref qz):=by have:=y7 ez;rwa [cF zb.1]at this
  exact exI rfl (exI rfl (exX rfl rfl (SqL.of (O _ _ J)) a1 (exI rfl (exX rfl rfl (SqL.of (O _ _ fz)) (at_row hj) an))))
 .have e:((jx hs i).map V.int).map (picks g j)=((jx hs i).map λv=>g v.toNat j).map V.int:=by rw[bw,bw];rfl
  rw[e];exact⟨pl,exI rfl ⟨SqL.new,ap _ (Same.upd nl)⟩⟩
theorem MatAt.upd {n:Nat}{f:Nat->Nat->Int}{ys:List V}{o:HO}{a:Aj}(h:MatAt H p n f)(hn:1<=n)(hq:H q=some (.lst ys))(hp:p≠q)(h0:ys[0]?=some (.ref a)):MatAt (L2.upd H q o) p n f:=by
 obtain⟨zs,e,l,r⟩:=h;refine⟨zs,by rw[wf hp];exact e,l,λi v z=>?_⟩;obtain⟨F,L,b⟩:=r i v z;refine⟨F,L,?_⟩;rw[wf (λJ=>?_)]
 .exact b
 .rw[J,hq]at b;have I:ys=(jn n (f i)).map V.int:=by
   injection b with b
   injection b
  rw[I,aI,Z5 ⋯]at h0;cases h0
def Yt (C:Aj):Sp:=λvs H Q _=>∃(r:Aj) (hs:List Int) (m:Int),vs=[.ref r,.int m]/\RoadAt C H r hs/\xu hs/\0<=m/\m<=60 /\
 ∀p ys H',Same H H'->H' p=some (.lst ys)->ys.length=m.toNat+1->(∀i v,ys[i]?=some v->∃q,v=.ref q/\MatAt H' q (hs.length-1) (yy (jx hs) i))->Q (.ref p) H'
include T in
theorem qj2 (F:Fun K "ways_up_to" "ways_up_to" zbk f fd)(zgy:Cal P w K mg base "covers_of" 5 (u5 q9))(zap:MCal P w K mg base q9 "width" 1 (yz q9))(zgz:Cal P w K mg base "ways_of_no_step" 1 Ys)
  (zg0:∀hs,xu hs->Cal P w K mg base "one_step_more" 1 (Q4 hs)):FK P w K mg base 6 f fd ["road","many"] (Yt q9):=by
 have sc:=Js;refine F.okX sc (λvs H Q E h=>by obtain⟨_,_,_,rfl,_⟩:=h;rfl) λ_ _ _ _ H vs Q E hr h=>?_;obtain⟨r,hs,m,rfl,hR,O,m0,m1,k⟩:=h;obtain⟨dx,q,h1,h2⟩:=id hR;have o1:=O.1;have o2:=O.2.1;have a1:=zg0 hs O;refine⟨_,(wu (zx (i:=2) (wCA zgy (wm (pv 0) wx)))
   (wu (zx (i:=3) (vk (zm (wCA zgz (zm (kd (pv 0) T.cl zap (hr.mono ⋯) wv) wx)) wx)))
   (wu (qvy bF (w9 op_le (w4 xn rfl T.len_ aN (wm (pv 3) wx)) (pv 1) (xq _)) (wy (xj (qj4 eI d7 d8 Q1 (pv 3) (zm (wCA a1 (wm (pv 2) (yj (vg z7 (pv 3) (pe_un wzc wc) (λ_ _=>rfl)) wx))) wx)))))
   (wy (x6 (pv 3)))))),?_⟩
 refine exI rfl ⟨r,hs,rfl,hR,O,λp1 H1 n1 U C1=>?_⟩;refine exI rfl ⟨r,dx,exI rfl ⟨U _ _ h1,zf (by decide +kernel),r,hs,rfl,hR.same U,exI rfl ⟨⋯,⋯,λa5 p2 H2 n2 s2 M2=>?_⟩⟩⟩;rw[show((hs.length:Int)-1).toNat=hs.length-1 by lia]at M2;have a2:MatAt H2 p2 (hs.length-1) (yy (jx hs) 0):=M2;obtain⟨a3,L,_,_⟩:=id M2;refine⟨sz1,λq nq=>?_⟩;have dq:p2≠q:=wz L nq;have sq:Same H2 (upd H2 q (.lst [.ref p2])):=Same.upd nq;refine qvu (λσ H3=>∃(i:Nat) (ys:List V),σ=[some (.ref r),some (.int m),some (.ref p1),some (.ref q)]/\(i:Int)<=m/\Same H2 H3/\H3 q=some (.lst ys)/\ys.length=i+1/\∀j v,ys[j]?=some v->∃I,v=.ref I/\I≠q/\MatAt H3 I (hs.length-1) (yy (jx hs) j))
  (λ_ H3=>match H3 q with|some (.lst ys)=>(m+1).toNat-ys.length|_=>0) ⟨0,[.ref p2],rfl,⋯,sq,wj,rfl,λj v e=>?_⟩ ?_ λσ H Q Q' h ⟨v,e,p',ys,e1,L,v2,e3,i,j,e4,e5,kk,e6,qq⟩=>⟨v,e,p',ys,e1,L,v2,e3,i,j,e4,e5,kk,e6,h _ _ qq⟩
 .rcases j with _|j
  .cases e;exact⟨p2,rfl,dq,a2.same sq⟩
  .cases e
 .rintro σ H3 ⟨i,ys,rfl,hi,s3,f3,l3,g3⟩;have ad:=U.trans (s2.trans s3);refine exI rfl ⟨_,_,rfl,.inl (SqL.of f3),exI rfl (xh rfl rfl (exI rfl ?_))⟩;rw[l3];refine v3 (λq1=>?_) (λq1=>?_)
  .have ei:ys[i]?=some ys[i]:=ai ⋯;obtain⟨Z,a0,a4,Mi⟩:=g3 i _ ei;have ap:atI ys (-1)=some (.ref Z):=by
    have hz:ys≠[]:=λz=>by rw[z]at l3;simp at l3
    have e1:ys=ys.dropLast++[ys.getLast hz]:=(List.dropLast_concat_getLast hz).symm;have L:ys.getLast hz=.ref Z:=by
     rw[List.getLast_eq_getElem];have:ys[i]?=ys[ys.length-1]?:=by rw[l3];rfl
     rw[this,ai ⋯,a0]at ei;exact al ei
    rw[e1,L];exact wxg _ _
   obtain⟨an,e0,_,_⟩:=g3 0 _ (ai (show 0<ys.length by lia));have h0:ys[0]?=some (.ref an):=by rw[ai (show 0<ys.length by lia),e0]
   refine exI rfl ⟨.inl ⟨rfl,_,SqL.of f3⟩,exI rfl (exI rfl (exI rfl (exX rfl rfl (SqL.of f3) ap ⟨p1,Z,yy (jx hs) i,rfl,C1.same (s2.trans s3),Mi,λJ H4 n4 S M4=>?_⟩)))⟩;have f4:=S _ _ f3;have d4:J≠q:=(wz f3 n4).symm;refine⟨_,_,_,rfl,rfl,f4,qy0 ⋯,⟨i+1,ys++[.ref J],rfl,⋯,Same.upd2 (s3.trans S) nq,wj,by rw[aX,l3];rfl,λj v e=>?_⟩,?_⟩
   .rcases cC j ys.length with z|z
    .rw[bC z]at e;obtain⟨I,e',d',M'⟩:=g3 j v e;exact⟨I,e',d',MatAt.upd (M'.same S) ⋯ f4 d' h0⟩
    .rw[bg z]at e;have hj:j=i+1:=by
      rcases cC (j-ys.length) 1 with y|y
      .lia
      .rw[aK (by simpa using y)]at e;cases e
     subst hj;rw[show i+1-ys.length=0 by lia]at e;have:V.ref J=v:=al e;subst this;exact⟨J,rfl,d4,MatAt.upd (f:=yy (jx hs) (i+1)) M4 ⋯ f4 d4 h0⟩
   .show(match upd H4 q (.lst (ys++[.ref J])) q with|some (.lst ys)=>(m+1).toNat-ys.length|_=>0)<(match H3 q with|some (.lst ys)=>(m+1).toNat-ys.length|_=>0);rw[wj,f3];show(m+1).toNat-(ys++[V.ref J]).length<(m+1).toNat-ys.length;rw[aX,List.length_singleton];lia
  .refine exI rfl (k q ys H3 ad f3 ⋯ λj v e=>?_);obtain⟨I,e',_,M'⟩:=g3 j v e;exact⟨I,e',M'⟩
def qkp (hs:List Int):Nat->Int->Int
 |0,_=>1
 |t+1,k=>((yf hs k).map (qkp hs t)).sum
def crS (hs:List Int)(t:Nat):Int:=(jn (hs.length-1) λk=>qkp hs t k).sum
theorem qz6 (n:Nat)(g:Nat->Int):(jn n g).length=n:=by unfold jn;rw[ah,aL]
theorem wkx {x:Int}(h:0<=x):jx hs x.toNat=yf hs x:=by unfold jx;rw[show(0:Int)+(x.toNat:Int)=x by lia]
theorem qyv (ok:xu hs):∀(t:Nat) (k:Int),0<=k->k<(hs.length:Int)-1->qkp hs t k=jh (hs.length-1) (yy (jx hs) t k.toNat)
 |0,k,h0,h1=>by have:=wqc (n:=hs.length-1) (i:=k.toNat) ⋯ λ_=>1;show(1:Int)=_;rw[<-this];refine ur λj _=>?_;rw[Int.mul_one];rfl
 |t+1,k,h0,h1=>by show((yf hs k).map (qkp hs t)).sum=jh (hs.length-1) λj=>((jx hs k.toNat).map λv=>yy (jx hs) t v.toNat j).sum;rw[wkx h0,<-qv5 (hs.length-1) (λ(v:Int) j=>yy (jx hs) t v.toNat j)];congr 1;refine bz λv hv=>?_;have:=qwv ok k v hv;exact qyv ok t v this.1 ⋯
theorem cr_pow (ok:xu hs)(m:Nat):crS hs m=jh (hs.length-1) λi=>jh (hs.length-1) (yy (jx hs) m i):=by show jh (hs.length-1) _=_;refine ur λi hi=>?_;rw[qyv ok m (i:Int) ⋯ ⋯,bR]
def qj8 (c:Nat):Bool:=!(Builtin.Str.occurrences (Str.ofString "abcdefghijklmnopqrstuvwxyz") ⟨#[c]⟩ 0 (Str.ofString "abcdefghijklmnopqrstuvwxyz").length 1).isEmpty
def vt (x:Str):Bool:=decide (1<=x.length/\x.length<=12)&&(List.range x.cps.size).all λi=>qj8 (x.cps.getD i 0)
def Z4:Sp:=λvs H Q _=>∃x:Str,vs=[.str x]/\x.length<=1000/\∀H',Same H H'->Q (.bl (vt x)) H'
include T in
theorem qkm (F:Fun K "is_name" "is_name" zbr f fd):FK P w K mg base 1 f fd ["name"] Z4:=by
 have O:=qk2;refine F.okX O (λvs H Q E h=>by obtain⟨_,rfl,_⟩:=h;rfl) λ_ _ _ _ H vs Q E hr h=>?_;obtain⟨x,rfl,hx,k⟩:=h;obtain⟨tn,L⟩:=T.zar;obtain⟨tl,J⟩:=T.zat;have ad:(1000000:Nat)<sizeLine:=by decide
 refine⟨_,(wu (x9 (PW.pt (Wr (w9 uz (w4 k9 rfl T.len_ aN (wm (pv 0) wx)) wc (xq _)) (u8 (w9 yr (w4 k9 rfl T.len_ aN (wm (pv 0) wx)) (zq (v:=V.int 12) rfl L ⟨_,rfl⟩) (xq _))))) (wy (x6 qzp)) xk)
   (wy (x6 (w4 (uk rfl) rfl T.all_ qz3 (w8 (jc (M:=[]) rfl rfl (by walk_at "cap") (by walk_at "has") (by walk_at "cix") rfl (by decide +kernel) rfl (show List.Nodup (["sign"]:List Str) by decide +kernel) (wwp (pv 0)) (λ_ _ _ _ _=>(Qb qq4 (pv 0) (zq (v:=V.str "abcdefghijklmnopqrstuvwxyz") rfl J ⟨_,rfl⟩) rfl))) wx))))),?_⟩
 refine⟨_,rfl,x,rfl,⋯,_,_,rfl,rfl,_,rfl,?_⟩;have I:∀z:¬ (1<=x.length/\x.length<=12),vt x=false:=λz=>by unfold vt;rw[aP z];rfl
 refine v3 (λU=>?_) (λU=>?_)
 .refine uc ?_;have:=k H (Same.refl _);rw[I ⋯]at this;exact this
 .refine⟨_,rfl,x,rfl,⋯,_,_,rfl,rfl,_,rfl,v3 (λS=>?_) (λS=>?_)⟩
  .have:=k H (Same.refl _);rw[I ⋯]at this;exact this
  .refine exI rfl ⟨x,rfl,qzc (λi=>.bl (qj8 (x.cps.getD i 0))) (by show x.length<=1000000;lia) (λi H' R hi hs Z=>?_) λp np=>?_⟩
   .exact exI rfl (xh rfl rfl Z)
   .have e:vt x=((List.range x.cps.size).map λi=>qj8 (x.cps.getD i 0)).all id:=by unfold vt;rw[bv (show 1<=x.length/\x.length<=12 by lia),List.all_map];rfl
    refine⟨p,(List.range x.cps.size).map λi=>qj8 (x.cps.getD i 0),rfl,?_,?_⟩
    .rw[bw];exact SqL.new
    .rw[<-e];exact k _ (Same.upd np)
def y4 (CN CT:Aj):Sp:=λvs H Q E=>∃(x:Str) (d:Aj) (kvs:List (Key×V)),vs=[.str x,.ref d]/\x.length<=1000/\H d=some (.dK kvs) /\
 (vt x=true->wt kvs (.inr x)=none->∀H',Same H H'->Q .non H')/\(vt x=false->∀H',Same H H'->E (.ref CN) none H')/\(vt x=true->(wt kvs (.inr x)).isSome=true->∀H',Same H H'->E (.ref CT) none H')
include T in
theorem qvt (F:Fun K "check_new_name" "check_new_name" zbs f fd)(zg1:Cal P w K mg base "is_name" 1 Z4):FK P w K mg base 2 f fd ["name","things"] (y4 qu qp):=by
 have J:=Qf;refine F.okX J (λvs H Q E h=>by obtain⟨_,_,_,rfl,_⟩:=h;rfl) λ_ _ _ _ H vs Q E U h=>?_;obtain⟨x,d,kvs,rfl,S,Z,k,O,L⟩:=h;refine⟨_,(wu (x9 (qjz (qjb (wCA zg1 (wm (pv 0) wx)))) (wy (zj rfl T.zah xg rfl T.zf0 (xv xf wx))) xk)
   (wy (x9 (qj1 (pc_din (Ws U) (pv 0) (pv 1))) (wy (zj rfl T.zai xg rfl T.zf1 (xv xf wx))) xk))),?_⟩
 refine exI rfl ⟨x,rfl,S,λH1 I=>(exI rfl ?_)⟩;have dg:DGet H1 d (.str x) (wt kvs (.inr x)):=DGet.k (k:=.inr x) (I _ _ Z);cases hn:vt x with
 |false=>exact uc ⟨sz1,O hn H1 I⟩
 |true =>
  refine Y0 (exI rfl (exI rfl ⟨d,exI rfl ⟨dg,_,rfl,?_⟩⟩));cases hv:wt kvs (.inr x) with
  |none=>exact Y0 (k hn hv H1 I)
  |some v=>exact uc ⟨sz1,L hn (by rw[hv];rfl) H1 I⟩
def qkt:Sp:=λvs H Q _=>∃(t c:Aj) (R cs:List (Key×V)),vs=[.ref t,.ref c]/\t≠c/\H t=some (.dK R)/\Rd H c (.dK cs)/\(cs.map (·.1)).Nodup/\R.length<=1000/\cs.length<=1000/\ExOk R cs /\
 ∀q H',H q=none->H' q=some (.dK (bfK R cs))->H' t=some (.dK (exK R cs))->Rd H' c (.dK cs)->Kb [t,c] H H'->Q (.ref q) H'
include T in
theorem wzs (F:Fun K "exchange" "exchange" zbt f fd):FK P w K mg base 1 f fd ["things","changes"] qkt:=by
 have sc:=qzt;refine F.okX sc (λvs H Q E h=>by obtain⟨_,_,_,_,rfl,_⟩:=h;rfl) λ_ _ _ s H vs Q E hr h=>?_;obtain⟨t,c,R,I,rfl,tc,ht,hc,nd,lR,lc,ok,k⟩:=h;have a7:(1000000:Nat)<sizeLine:=by decide
 refine⟨_,(wu (qz1 (i:=2) (M:=[0]) sc.nd rfl (by walk_at "loc") rfl rfl (by walk_at "cap") (by walk_at "has") (by walk_at "cix") rfl (by decide +kernel) rfl (show List.Nodup (["name","things"]:List Str) by decide +kernel) (pi_dk (pv 1)) (λ_ _ _ _ _=>(pv 0)) (λ_ _ _ _ _=>(wq3 (Ws hr) (pv 1) (pv 0) ⟨rfl,rfl,rfl,rfl⟩)))
   (wu (Y2 bF rfl (pi_di (pv 1)) (ug rfl (zn (zc (i:=3)) (zn (zc (i:=4)) yk))) (wy (x9 (w9 op_isN (pv 4) www (xq _)) (wy (wz8 (pv 0) (pv 3))) (wy (wvx (Ws hr) (pv 0) (pv 3) (pv 4) rfl)))))
   (wy (x6 (pv 2))))),?_⟩
 refine exI rfl ⟨c,I,rfl,hc,λo H1 O=>?_⟩;have Z:H1 t=some (.dK R):=by rw[O.2 t tc];exact ht
 refine wwu (λk=>(wt R k).getD .non) ⋯ nd O.1 (λk H' RR s' hR=>(exI rfl (exI rfl ⟨t,rfl,.inl ⟨R,.inl (s' _ _ Z)⟩,exI rfl ⟨_,DGet.k (k:=k) (s' _ _ Z),hR⟩⟩))) λq L=>?_;have a5:H q=none:=by
  cases e:H q with
  |none=>rfl
  |some ob =>
   by_cases z:q=c
   .rw[z,O.1]at L;cases L
   .rw[O.2 q z,e]at L;cases L
 have s2:Same H1 (upd H1 q (.dK (bfK R I))):=Same.upd L;have fq:upd H1 q (.dK (bfK R I)) q=some (.dK (bfK R I)):=wj;have c2:upd H1 q (.dK (bfK R I)) c=some (.frz o (.dK I)):=s2 _ _ O.1;have t2:upd H1 q (.dK (bfK R I)) t=some (.dK R):=s2 _ _ Z;have tq:t≠q:=wz Z L;have kb:Kb [t,c] H (upd H1 q (.dK (bfK R I))):=λb ob J e=>s2 _ _ (by rw[O.2 b (λz=>J (by simp[z]))];exact e);have a0:(I.map λc=>(c.1,(wt R c.1).getD .non))=bfK R I:=rfl;rw[a0];generalize upd H1 q (.dK (bfK R I))=H2 at fq c2 t2 kb;refine exI rfl ⟨c,I,rfl,.inr ⟨o,c2⟩,λo' H3 ad=>?_⟩;have cq:q≠c:=λz=>by rw[z,c2]at fq;cases fq
 have t3:H3 t=some (.dK R):=by rw[ad.2 t tc];exact t2
 have q3:H3 q=some (.dK (bfK R I)):=by rw[ad.2 q cq];exact fq
 have a6:Kb [t,c] H H3:=λb ob J e=>by rw[ad.2 b (λz=>J (by simp[z]))];exact kb b ob J e
 refine for_di (λi σ H'=>(∃z3 z4,σ=[some (.ref t),some (.ref c),some (.ref q),z3,z4])/\H' c=some (.frz o' (.dK I))/\H' q=some (.dK (bfK R I))/\H' t=some (.dK (exK R (I.take i)))/\Kb [t,c] H H') ⟨⟨_,_,rfl⟩,ad.1,q3,t3,a6⟩ (λi σ H' hi h=>h.2.1) ?_ ?_
 .rintro i cc z σ H' ec nz ⟨⟨z3,z4,rfl⟩,a1,a2,a3,a4⟩;have U:Same H' (upd H' z (.tup [kV cc.1,cc.2])):=Same.upd nz;refine⟨z,exI rfl ⟨SqT.new,rfl,_,_,rfl,_,_,rfl,rfl,?_⟩⟩;have b1:=U _ _ a1;have b2:=U _ _ a2;have b3:=U _ _ a3;have b4:Kb [t,c] H (upd H' z (.tup [kV cc.1,cc.2])):=λb ob J e=>U _ _ (a4 b ob J e);generalize upd H' z (.tup [kV cc.1,cc.2])=H4 at b1 b2 b3 b4;have le:=wz5 R (I.take i);have lt:(I.take i).length<=1000:=by rw[bD];lia
  have et:=wkq R ec;have ap:t≠q:=tq;have an:∀S,ex1 (exK R (I.take i)) cc=S->(∃z3' z4',[some (V.ref t),some (V.ref c),some (V.ref q),some (kV cc.1),some cc.2]=[some (V.ref t),some (V.ref c),some (V.ref q),z3',z4'])/\upd H4 t (.dK S) c=some (.frz o' (.dK I))/\upd H4 t (.dK S) q=some (.dK (bfK R I))/\upd H4 t (.dK S) t=some (.dK (exK R (I.take (i+1))))/\Kb [t,c] H (upd H4 t (.dK S)):=λS e=>by
   refine⟨⟨_,_,rfl⟩,?_,?_,?_,λb ob J e'=>?_⟩
   .rw[wf (ba tc)];exact b1
   .rw[wf (ba ap)];exact b2
   .rw[wj,et,e]
   .rw[wf (λz=>J (by simp[z]))];exact b4 b ob J e'
  refine exI rfl ⟨rfl,_,rfl,v3 (λhn=>?_) (λhn=>?_)⟩
  .exact exI rfl (exI rfl ⟨t,_,cc.1,rfl,b3,rfl,ok i cc ec hn,an _ (by unfold ex1;rw[ao hn])⟩)
  .exact exI rfl (exI rfl (exI rfl ⟨t,exI rfl ⟨DPut.k (k:=cc.1) b3 ⋯,an _ (by unfold ex1;rw[ak hn])⟩⟩))
 .rintro σ H' ⟨⟨z3,z4,rfl⟩,a1,a2,a3,a4⟩;rw[de]at a3;exact exI rfl (k q H' a5 a2 a3 (.inr ⟨o',a1⟩) a4)
def hF (dr dw dd:Aj):List (Str×V):=[("roads",.ref dr),("walkers",.ref dw),("done",.ref dd)]
variable {dr dw dd:Aj}
theorem j7:(hF dr dw dd).lookup ("roads" : Str)=some (.ref dr):=by unfold hF;rw[aC];simp
theorem vq:(hF dr dw dd).lookup ("walkers" : Str)=some (.ref dw):=by unfold hF;rw[aC,show(("walkers" : Str)==("roads" : Str))=false by decide +kernel];dsimp only;rw[aC];simp
theorem qwy:(hF dr dw dd).lookup ("done" : Str)=some (.ref dd):=by unfold hF;rw[aC,show(("done" : Str)==("roads" : Str))=false by decide +kernel];dsimp only;rw[aC,show(("done" : Str)==("walkers" : Str))=false by decide +kernel];dsimp only;rw[aC];simp
theorem xt {dr dw dd:Aj}(h1:autoParam (¬ m = "roads") aU7._auto_1)(h2:autoParam (¬ m = "walkers") aU7._auto_1)(h3:autoParam (¬ m = "done") aU7._auto_1):(hF dr dw dd).lookup m=none:=by unfold hF;rw[aC,aM.mpr h1];dsimp only;rw[aC,aM.mpr h2];dsimp only;rw[aC,aM.mpr h3];rfl
structure Hse (C:Aj)(H:Hp)(x dr dw dd:Aj)(R W:List (Key×V))(D:List V):Prop where
 ob:∃dx,H x=some (.ins C dx (hF dr dw dd))
 r:H dr=some (.dK R)
 w:H dw=some (.dK W)
 d:H dd=some (.lst D)
 ne:dr≠dw
variable {R W:List (Key×V)}{D:List V}
theorem Hse.kb (h:Hse C H x dr dw dd R W D){ch:List Aj}(k:Kb ch H H')(n:x∉ch/\dr∉ch/\dw∉ch/\dd∉ch):Hse C H' x dr dw dd R W D:=by obtain⟨dx,e⟩:=h.ob;exact⟨⟨dx,k _ _ n.1 e⟩,k _ _ n.2.1 h.r,k _ _ n.2.2.1 h.w,k _ _ n.2.2.2 h.d,h.ne⟩
theorem Hse.same (h:Hse C H x dr dw dd R W D)(s:Same H H'):Hse C H' x dr dw dd R W D:=h.kb (ch:=[]) (Kb.of s) ⟨aA,aA,aA,aA⟩
def Qt (C:Aj):Sp:=λvs H Q _=>∃x dx,vs=[.ref x]/\H x=some (.ins C dx [])/\∀H' dr dw dd,H dr=none->H dw=none->H dd=none->Hse C H' x dr dw dd [] [] []->Kb [x] H H'->Q .non H'
include T in
theorem wxp (F:Fun K "__init__" "House.__init__" zbu f fd):FK P w K mg base 1 f fd ["self"] (Qt qf):=by
 have sc:=Qs;refine F.okX sc (λvs H Q E h=>by obtain⟨_,_,rfl,_⟩:=h;rfl) λ_ _ _ _ H vs Q E hr h=>?_;obtain⟨x,dx,rfl,Z,k⟩:=h;refine⟨_,(wu (um (pv 0) Qp rfl)
   (wu (um (pv 0) Qp rfl)
   (wy (um (pv 0) (vk wx) rfl)))),?_⟩
 refineλdr O=>exI rfl ⟨x,qf,dx,[],rfl,(by rw[wf (wz Z O)];exact Z),T.clH,T.naHr,(by show 0<1000;decide),?_⟩;have e1:∀b o,b≠x->H b=some o->upd (upd H dr (.dK [])) x (.ins qf dx (z9 "roads" (.ref dr) [])) b=some o:=λb o I e=>by rw[wf I,wf (wz e O)];exact e
 have L:upd (upd H dr (.dK [])) x (.ins qf dx (z9 "roads" (.ref dr) [])) x=some (.ins qf dx (z9 "roads" (.ref dr) [])):=wj;have r1:upd (upd H dr (.dK [])) x (.ins qf dx (z9 "roads" (.ref dr) [])) dr=some (.dK []):=by rw[wf (wz Z O).symm,wj]
 generalize upd (upd H dr (.dK [])) x (.ins qf dx (z9 "roads" (.ref dr) []))=H1 at e1 L r1;refineλdw J=>exI rfl ⟨x,qf,dx,exI rfl ⟨(by rw[wf (wz L J)];exact L),T.clH,T.naHw,(by show 1<1000;decide),?_⟩⟩;have xr:x≠dr:=wz Z O;have e2:∀b o,b≠x->H1 b=some o->upd (upd H1 dw (.dK [])) x (.ins qf dx (z9 "walkers" (.ref dw) (z9 "roads" (.ref dr) []))) b=some o:=λb o I e=>by rw[wf I,wf (wz e J)];exact e
 have S:upd (upd H1 dw (.dK [])) x (.ins qf dx (z9 "walkers" (.ref dw) (z9 "roads" (.ref dr) []))) x=some (.ins qf dx (z9 "walkers" (.ref dw) (z9 "roads" (.ref dr) []))):=wj;have w2:upd (upd H1 dw (.dK [])) x (.ins qf dx (z9 "walkers" (.ref dw) (z9 "roads" (.ref dr) []))) dw=some (.dK []):=by rw[wf (wz L J).symm,wj]
 have r2:=e2 dr _ xr.symm r1;generalize upd (upd H1 dw (.dK [])) x (.ins qf dx (z9 "walkers" (.ref dw) (z9 "roads" (.ref dr) [])))=H2 at e2 S w2 r2;have xw:x≠dw:=wz L J;refine⟨sz0,λdd U=>(exI rfl ⟨x,qf,dx,exI rfl ⟨(by rw[wf (wz S U)];exact S),T.clH,T.naHd,(by show 2<1000;decide),?_⟩⟩)⟩;have xd:x≠dd:=wz S U;have e3:∀b o,b≠x->H2 b=some o->upd (upd H2 dd (.lst [])) x (.ins qf dx (z9 "done" (.ref dd) (z9 "walkers" (.ref dw) (z9 "roads" (.ref dr) [])))) b=some o:=λb o I e=>by rw[wf I,wf (wz e U)];exact e
 have ad:∀b o,b≠x->H b=some o->H2 b=some o:=λb o I e=>e2 b o I (e1 b o I e);have an:∀b,b≠x->H2 b=none->H b=none:=λb I e=>by
  cases q:H b with
  |none=>rfl
  |some o=>rw[ad b o I q]at e;cases e
 refine k _ dr dw dd O (by
  cases q:H dw with
  |none=>rfl
  |some o=>rw[e1 dw o xw.symm q]at J;cases J) (an dd xd.symm U) ⟨⟨dx,wj⟩,e3 _ _ xr.symm r2,e3 _ _ xw.symm w2,?_,wz r1 J⟩ λb o I e=>e3 b o (λz=>I (by simp[z])) (ad b o (λz=>I (by simp[z])) e)
 rw[wf xd.symm,wj]
def vh (C CN:Aj)(roads:Bool):Sp:=λvs H Q E=>∃(x dr dw dd:Aj) (R W:List (Key×V)) (D:List V) (n:Str),vs=[.ref x,.str n]/\Hse C H x dr dw dd R W D /\
 (∀v,wt (if roads then R else W) (.inr n)=some v->Q v H)/\(wt (if roads then R else W) (.inr n)=none->E (.ref CN) none H)
include T in
theorem Zm (F:Fun K "road_called" "House.road_called" zbv f fd):FK P w K mg base 1 f fd ["self","name"] (vh qf qh true):=by
 have S:=yc;refine F.okX S (λvs H Q E h=>by obtain⟨_,_,_,_,_,_,_,_,rfl,_⟩:=h;rfl) λ_ _ _ _ H vs Q E L h=>?_;obtain⟨x,dr,dw,dd,R,W,D,n,rfl,O,k,kx⟩:=h;obtain⟨dx,J⟩:=O.ob;have I:DGet H dr (.str n) (wt R (.inr n)):=DGet.k (k:=.inr n) O.r;refine⟨_,(wu (x9 (qj1 (qq5 (Ws L) (pv 1) (zt (pv 0) rfl))) (wy (zj rfl T.zaj xg rfl T.zf2 (xv xf wx))) xk)
   (wy (x6 (qx2 (Ws L) (zt (pv 0) rfl) (pv 1) (λ_ _=>rfl))))),?_⟩
 refine exI rfl (exI rfl ⟨x,qf,dx,_,_,rfl,J,T.clH,T.naHr,j7,dr,exI rfl ⟨I,_,rfl,?_⟩⟩);cases e:wt R (.inr n) with
 |none=>exact uc ⟨sz1,kx e⟩
 |some v =>
  rw[e]at I;exact Y0 (exI rfl ⟨x,qf,dx,_,_,rfl,J,T.clH,T.naHr,j7,exI rfl ⟨dr,v,rfl,I,k v e⟩⟩)
include T in
theorem Wf (F:Fun K "walker_called" "House.walker_called" zbw f fd):FK P w K mg base 1 f fd ["self","name"] (vh qf qk false):=by
 have S:=j8;refine F.okX S (λvs H Q E h=>by obtain⟨_,_,_,_,_,_,_,_,rfl,_⟩:=h;rfl) λ_ _ _ _ H vs Q E L h=>?_;obtain⟨x,dr,dw,dd,R,W,D,n,rfl,O,k,kx⟩:=h;obtain⟨dx,J⟩:=O.ob;have I:DGet H dw (.str n) (wt W (.inr n)):=DGet.k (k:=.inr n) O.w;refine⟨_,(wu (x9 (qj1 (qq5 (Ws L) (pv 1) (zt (pv 0) rfl))) (wy (zj rfl T.zak xg rfl T.zf3 (xv xf wx))) xk)
   (wy (x6 (qx2 (Ws L) (zt (pv 0) rfl) (pv 1) (λ_ _=>rfl))))),?_⟩
 refine exI rfl (exI rfl ⟨x,qf,dx,_,_,rfl,J,T.clH,T.naHw,vq,dw,exI rfl ⟨I,_,rfl,?_⟩⟩);cases e:wt W (.inr n) with
 |none=>exact uc ⟨sz1,kx e⟩
 |some v =>
  rw[e]at I;exact Y0 (exI rfl ⟨x,qf,dx,_,_,rfl,J,T.clH,T.naHw,vq,exI rfl ⟨dw,v,rfl,I,k v e⟩⟩)
def spDo (C:Aj):Sp:=λvs H Q _=>∃(x dr dw dd c1 c2:Aj) (R W cs1 cs2:List (Key×V)) (D:List V),vs=[.ref x,.ref c1,.ref c2]/\Hse C H x dr dw dd R W D/\Rd H c1 (.dK cs1)/\Rd H c2 (.dK cs2)/\c1≠c2/\c1≠dr/\c1≠dw/\c2≠dr/\c2≠dw /\
 (cs1.map (·.1)).Nodup/\(cs2.map (·.1)).Nodup/\R.length<=1000/\W.length<=1000/\cs1.length<=1000/\cs2.length<=1000/\D.length<=1000000/\ExOk R cs1/\ExOk W cs2 /\
 ∀H' tp q1 q2,H tp=none->H q1=none->H q2=none->Hse C H' x dr dw dd (exK R cs1) (exK W cs2) (D++[.ref tp])->H' tp=some (.tup [.ref q1,.ref q2])->H' q1=some (.dK (bfK R cs1))->H' q2=some (.dK (bfK W cs2))->q1≠q2->Rd H' c2 (.dK cs2)->Kb [dr,dw,dd,c1,c2] H H'->Q .non H'
include T in
theorem zg2 (F:Fun K "do" "House.do" zby f fd)(zf7:Cal P w K mg base "exchange" 1 qkt):FK P w K mg base 2 f fd ["self","roads","walkers"] (spDo qf):=by
 have sc:=qvm;refine F.okX sc (λvs H Q E h=>by obtain⟨_,_,_,_,_,_,_,_,_,_,_,rfl,_⟩:=h;rfl) λ_ _ _ _ H vs Q E hr h=>?_;obtain⟨x,dr,dw,dd,c1,c2,R,W,dg,ca,D,rfl,J,h1,h2,bf,c7,a6,a9,c6,c4,c3,lR,lW,l1,l2,lD,cs,cq,k⟩:=h;obtain⟨dx,hx⟩:=J.ob;have dl:(1000000:Nat)<sizeLine:=by decide
 have a4:∀ {b o},Rd H b (.dK o)->x≠b:=λ{b o} hb z=>by rcases hb with hb|⟨u,hb⟩ <;> (rw[<-z,hx]at hb;cases hb)
 have a5:∀ {b o},Rd H b (.dK o)->dd≠b:=λ{b o} hb z=>by rcases hb with hb|⟨u,hb⟩ <;> (rw[<-z,J.d]at hb;cases hb)
 have xr:=a4 (.inl J.r);have xw:=a4 (.inl J.w);have x1:=a4 h1;have x2:=a4 h2;have b9:=a5 (.inl J.r);have b8:=a5 (.inl J.w);have d1:=a5 h1;have d2:=a5 h2;refine⟨_,(wy (xj (qj4 eI d7 d8 Q1 (zt (pv 0) rfl) (Zn (jj (zm (wCA zf7 (w8 (zt (pv 0) rfl) (wm (pv 1) wx))) (zm (wCA zf7 (w8 (zt (pv 0) rfl) (wm (pv 2) wx))) wx))) wx)))),?_⟩;refine exI rfl ⟨x,qf,dx,_,_,rfl,hx,T.clH,T.naHd,qwy,.inl ⟨rfl,_,SqL.of J.d⟩,?_⟩;refine exI rfl ⟨x,qf,dx,_,_,rfl,hx,T.clH,T.naHr,j7,exI rfl ⟨dr,c1,R,dg,rfl,ba c7,J.r,h1,c4,lR,l1,cs,λU H1 a0 b5 b2 b7 ap=>?_⟩⟩;have m1:∀b,b≠dr->b≠c1->b∉[dr,c1]:=λb a1 a2 z=>by
  rcases av.mp z with z|z
  .exact a1 z
  .exact a2 (aH.mp z)
 have bk:=ap _ _ (m1 x xr x1) hx;have c9:=ap _ _ (m1 dw (ba J.ne) (ba a6)) J.w;have da:=ap _ _ (m1 dd b9 d1) J.d;have dc:=ap.rd (m1 c2 a9 (ba bf)) h2;refine exI rfl ⟨x,qf,dx,_,_,rfl,bk,T.clH,T.naHw,vq,exI rfl ⟨dw,c2,W,ca,rfl,ba c6,c9,dc,c3,lW,l2,cq,λO H2 ad b3 b1 b6 an=>?_⟩⟩;have m2:∀b,b≠dw->b≠c2->b∉[dw,c2]:=λb a1 a2 z=>by
  rcases av.mp z with z|z
  .exact a1 z
  .exact a2 (aH.mp z)
 have cj:U≠dw:=λz=>by rw[z,J.w]at a0;cases a0
 have co:U≠c2:=λz=>by rcases h2 with h2|⟨u,h2⟩ <;> (rw[z,h2]at a0;cases a0)
 have b4:=an _ _ (m2 U cj co) b5;have cp:U≠O:=wz b5 ad;have c0:H O=none:=by
  cases e:H O with
  |none=>rfl
  |some o =>
   by_cases z:O=dr\/O=c1
   .rcases z with z|z
    .rw[z,b2]at ad;cases ad
    .rcases b7 with g|⟨u,g⟩ <;> (rw[z,g]at ad;cases ad)
   .rw[ap _ _ (m1 O (λy=>z (.inl y)) (λy=>z (.inr y))) e]at ad;cases ad
 refine⟨sz2,λI a3=>?_⟩;have c8:=an _ _ (m2 x xw x2) bk;have bl:=an _ _ (m2 dr J.ne (ba a9)) b2;have b0:=an _ _ (m2 dd b8 d2) da;have a8:∀b o,b∉[dr,dw,dd,c1,c2]->H b=some o->H2 b=some o:=λb o S e=>by simp only[av,aA,cK,not_or]at S;exact an _ _ (m2 b S.2.1 S.2.2.2.2) (ap _ _ (m1 b S.1 S.2.2.2.1) e)
 have ci:∀b,b=dr\/b=dw\/b=dd\/b=c1\/b=c2->H2 b≠none:=λb h z=>by
  rcases h with h|h|h|h|h
  .rw[h,bl]at z;cases z
  .rw[h,b1]at z;cases z
  .rw[h,b0]at z;cases z
  .by_cases y:c1=dw
   .exact a6 y
   .rcases b7 with g|⟨u,g⟩ <;> (rw[h,an _ _ (m2 c1 a6 bf) g]at z;cases z)
  .rcases b6 with g|⟨u,g⟩ <;> (rw[h,g]at z;cases z)
 have ct:H I=none:=by
  cases e:H I with
  |none=>rfl
  |some o =>
   by_cases z:I=dr\/I=dw\/I=dd\/I=c1\/I=c2
   .exact absurd a3 (ci I z)
   .rw[a8 I o (by simp only[av,aA,cK];exact z) e]at a3;cases a3
 have L:Same H2 (upd H2 I (.tup [.ref U,.ref O])):=Same.upd a3;have ft:upd H2 I (.tup [.ref U,.ref O]) I=some (.tup [.ref U,.ref O]):=wj;generalize upd H2 I (.tup [.ref U,.ref O])=H3 at L ft;have a7:=L _ _ b0;refine⟨dd,D,_,rfl,rfl,a7,⋯,?_⟩;have Z:∀b o,b≠dd->H3 b=some o->upd H3 dd (.lst (D++[.ref I])) b=some o:=λb o S e=>by rw[wf S];exact e
 have kq:∀b kv,H3 b=some (.dK kv)->b≠dd:=λb kv e z=>by rw[z,a7]at e;cases e
 have cc:Rd (upd H3 dd (.lst (D++[.ref I]))) c2 (.dK ca):=by
  rcases b6 with e|⟨u,e⟩
  .exact .inl (Z _ _ (ba d2) (L _ _ e))
  .exact .inr ⟨u,Z _ _ (ba d2) (L _ _ e)⟩
 refine k _ I U O ct a0 c0 ⟨⟨dx,Z _ _ (λz=>by rw[z]at hx;rw[J.d]at hx;cases hx) (L _ _ c8)⟩,Z _ _ (ba b9) (L _ _ bl),Z _ _ (ba b8) (L _ _ b1),wj,J.ne⟩ (Z _ _ (λz=>by rw[z,a7]at ft;cases ft) ft) (Z _ _ (kq _ _ (L _ _ b4)) (L _ _ b4)) (Z _ _ (kq _ _ (L _ _ b3)) (L _ _ b3)) cp cc λb o S e=>?_;exact Z _ _ (λz=>S (by simp[z])) (L _ _ (a8 b o S e))
def qqy (D:List V):Prop:=∀v∈D,∃a,v=V.ref a
theorem RoadAt.kb {CH:Aj}(h:RoadAt C H r hs)(ok:xu hs){ch:List Aj}{D:List V}(k:Kb ch H H')(rf:qqy D)(hc:∀b∈ch,(∃kv,Rd H b (.dK kv))\/H b=some (.lst D)):RoadAt C H' r hs:=by
 obtain⟨dx,q,h1,h2⟩:=h;refine⟨dx,q,k _ _ (λz=>?_) h1,k _ _ (λz=>?_) h2⟩
 .rcases hc r z with⟨kv,e|⟨o,e⟩⟩|e <;> (rw[h1]at e;cases e)
 .rcases hc q z with⟨kv,e|⟨o,e⟩⟩|e
  .rw[h2]at e;cases e
  .rw[h2]at e;cases e
  .rw[h2]at e;have e:hs.map V.int=D:=by cases e;rfl
   have l:=ok.1;have m:V.int (hs[0]'⋯)∈hs.map V.int:=aF.mpr ⟨_,db _,rfl⟩;rw[e]at m;obtain⟨a,F⟩:=rf _ m;cases F
variable {H3:Hp}{c1:Aj}
theorem wzj {c2:Aj}{o1 o2 o3:HO}(n1:H c1=none)(s3:Same (upd H c1 o1) H3)(n2:upd H3 c1 o2 c2=none):Same H (upd (upd H3 c1 o2) c2 o3):=λb o e=>by
 have b1:b≠c1:=wz e n1;have e3:H3 b=some o:=s3 _ _ (by rw[wf b1];exact e);have e4:upd H3 c1 o2 b=some o:=by rw[wf b1];exact e3
 rw[wf (wz e4 n2)];exact e4
variable {n:Str}{Q:VK}
theorem wv6 {CR:Aj}(hh:Hse C H x dr dw dd R W D)(n1:H c1=none)(s3:Same (upd H c1 (.dK [])) H3)(R3:RoadAt CR H3 r hs)(okl:xu hs)(rf:qqy D)(lR:R.length<=1000)(lW:W.length<=1000)(lD:D.length<=1000000)
  (k:∀H' tp q1 q2,H tp=none->H q1=none->H q2=none->Hse C H' x dr dw dd (vj R (.inr n) (.ref r)) W (D++[.ref tp])->H' tp=some (.tup [.ref q1,.ref q2])->H' q1=some (.dK [(.inr n,(wt R (.inr n)).getD .non)])->H' q2=some (.dK [])->q1≠q2->RoadAt CR H' r hs->Kb [dr,dw,dd] H H'->Q .non H') :
  ∀c2,upd H3 c1 (.dK [(.inr n,.ref r)]) c2=none->spDo C [.ref x,.ref c1,.ref c2] (upd (upd H3 c1 (.dK [(.inr n,.ref r)])) c2 (.dK [])) Q E:=by
 intro c2 F;have J:Same H (upd (upd H3 c1 (.dK [(.inr n,.ref r)])) c2 (.dK [])):=wzj n1 s3 F;have ad:c1≠c2:=λz=>by rw[<-z,wj]at F;cases F
 have e1:upd (upd H3 c1 (.dK [(.inr n,.ref r)])) c2 (.dK []) c1=some (.dK [(.inr n,.ref r)]):=by rw[wf ad,wj]
 have e2:upd (upd H3 c1 (.dK [(.inr n,.ref r)])) c2 (.dK []) c2=some (.dK []):=wj;have ap:H3 c1=some (.dK []):=s3 _ _ wj;have R4:RoadAt CR (upd (upd H3 c1 (.dK [(.inr n,.ref r)])) c2 (.dK [])) r hs:=by
  obtain⟨dx,q,a1,a2⟩:=R3;have an:∀b o,(∀kv,o≠HO.dK kv)->H3 b=some o->upd (upd H3 c1 (.dK [(.inr n,.ref r)])) c2 (.dK []) b=some o:=λb o I e=>by
   have U:b≠c1:=λz=>by rw[z,ap]at e;cases e;exact I _ rfl
   have e4:upd H3 c1 (.dK [(.inr n,.ref r)]) b=some o:=by rw[wf U];exact e
   rw[wf (wz e4 F)];exact e4
  exact⟨dx,q,an _ _ (λkv z=>by cases z) a1,an _ _ (λkv z=>by cases z) a2⟩
 have Z:H c2=none:=by
  cases q:H c2 with
  |none=>rfl
  |some o =>
   have U:c2≠c1:=ba ad;rw[wf U,s3 _ _ (show upd H c1 (.dK []) c2=some o by rw[wf U];exact q)]at F;cases F
 generalize upd (upd H3 c1 (.dK [(.inr n,.ref r)])) c2 (.dK [])=H4 at J e1 e2 R4;have O:=hh.same J;refine⟨x,dr,dw,dd,c1,c2,R,W,[(.inr n,.ref r)],[],D,rfl,O,.inl e1,.inl e2,ad,(wz hh.r n1).symm,(wz hh.w n1).symm,(wz hh.r Z).symm,(wz hh.w Z).symm,be.mpr ⟨aA,bi⟩,bi,lR,lW,by show 1<=1000;decide,aD _,lD,λi c S hc=>?_,(λi c S hc=>nomatch S),λH' tp q1 q2 a1 a2 a3 a4 a5 a6 a7 a8 _ a9=>?_⟩
 .cases i with
  |zero=>cases S;cases hc
  |succ i=>cases S
 .have I:∀b,H4 b=none->H b=none:=λb e=>zw J e;have rd:RoadAt CR H' r hs:=R4.kb (CH:=C) okl a9 rf λb hb=>by
   simp only[av,aA,cK]at hb;rcases hb with rfl|rfl|rfl|rfl|rfl
   .exact .inl ⟨_,.inl O.r⟩
   .exact .inl ⟨_,.inl O.w⟩
   .exact .inr O.d
   .exact .inl ⟨_,.inl e1⟩
   .exact .inl ⟨_,.inl e2⟩
  refine k H' tp q1 q2 (I _ a1) (I _ a2) (I _ a3) a4 a5 a6 a7 a8 rd λb o L e=>a9 b o (λz=>?_) (J _ _ e);simp only[av,aA,cK]at z L;rcases z with z|z|z|z|z
  .exact L (.inl z)
  .exact L (.inr (.inl z))
  .exact L (.inr (.inr z))
  .rw[z,n1]at e;cases e
  .rw[z,Z]at e;cases e
def RDeed (C CR:Aj)(H H':Hp)(x dr dw dd:Aj)(R W:List (Key×V))(D:List V)(n:Str)(hs:List Int):Prop:=∃r tp q1 q2,H tp=none/\H q1=none/\H q2=none/\Hse C H' x dr dw dd (vj R (.inr n) (.ref r)) W (D++[.ref tp])/\H' tp=some (.tup [.ref q1,.ref q2])/\H' q1=some (.dK [(.inr n,(wt R (.inr n)).getD .non)])/\H' q2=some (.dK [])/\q1≠q2/\RoadAt CR H' r hs/\Kb [dr,dw,dd] H H'
theorem RDeed.pre {CR:Aj}{H0:Hp}(h:RDeed C CR H H' x dr dw dd R W D n hs)(s:Same H0 H):RDeed C CR H0 H' x dr dw dd R W D n hs:=by obtain⟨r,F,J,I,a1,a2,a3,a4,a5,a6,Z,U,S,O⟩:=h;exact⟨r,F,J,I,zw s a1,zw s a2,zw s a3,a4,a5,a6,Z,U,S,λb o L e=>O b o L (s _ _ e)⟩
def qq0 (K:Aa)(C CR CN CT CL:Aj):Sp:=λvs H Q E=>∃(x dr dw dd p:Aj) (R W:List (Key×V)) (D:List V) (n:Str) (hs:List Int),vs=[.ref x,.str n,.ref p]/\Hse C H x dr dw dd R W D/\qqy D/\R.length<=1000/\W.length<=1000/\D.length<=1000000/\n.length<=1000/\H p=some (.lst (hs.map V.int)) /\
 (vt n=true->wt R (.inr n)=none->xu hs->∀H',RDeed C CR H H' x dr dw dd R W D n hs->Q .non H')/\(vt n=false->∀H',Same H H'->E (.ref CN) none H')/\(vt n=true->(wt R (.inr n)).isSome=true->∀H',Same H H'->E (.ref CT) none H')/\(vt n=true->wt R (.inr n)=none->¬ xu hs->∀H',Same H H'->E (.ref CL) none H')
include T in
theorem zg3 (F:Fun K "lay" "House.lay" zbz f fd)(zcq:Cal P w K mg base "check_new_name" 2 (y4 qu qp))(za0:CCal P w K mg base "Road" q9 2 (Q2 K qy q9))(zcr:MCal P w K mg base qf "do" 2 (spDo qf)) :
  FK P w K mg base 4 f fd ["self","name","heights"] (qq0 K qf q9 qu qp qy):=by
 have sc:=qzz;refine F.okX sc (λvs H Q E h=>by obtain⟨_,_,_,_,_,_,_,_,_,_,rfl,_⟩:=h;rfl) λ_ _ _ _ H vs Q E Z h=>?_;obtain⟨x,dr,dw,dd,p,R,W,D,n,hs,rfl,O,rf,lR,lW,lD,ln,hp,k,kn,kt,kl⟩:=h;obtain⟨dx,U⟩:=O.ob;refine⟨_,(wu (xj (wCA zcq (wm (pv 1) (w8 (zt (pv 0) rfl) wx))))
   (wy (xj (xy (pv 0) T.clH zcr (Z.mono ⋯) wv (w8 (qyf (qvg (pv 1) (yd za0 (Z.mono ⋯) rfl wv (wm (pv 2) wx)) qj3) rfl rfl (λz=>nomatch z) ⋯) (w8 Qp wx)))))),?_⟩
 refine⟨_,rfl,_,rfl,x,qf,dx,_,_,rfl,U,T.clH,T.naHr,j7,n,dr,R,rfl,ln,O.r,λa1 a2 H1 I=>?_,kn,kt⟩;have an:=O.same I;refine exI rfl ⟨x,dx,exI rfl ⟨I _ _ U,xt,λc1 L=>(exI rfl (exI rfl (λr d0 nr ad ap=>Zj (H:=upd H1 c1 (.dK [])) (hs:=hs) (by rw[wf (wz (I _ _ hp) L)];exact I _ _ hp) nr ad (λS H3 J R3=>?_) λz H3 J=>kl a1 a2 z H3 (I.trans (λb o e=>J _ _ (by rw[wf (wz e L)];exact e))))))⟩⟩;refine⟨J _ _ wj,[(.inr n,.ref r)],rfl,(show 1<=15 by decide),?_⟩;exact wv6 (E:=E) an L J R3 S rf lR lW lD λH' tp q1 q2 b1 b2 b3 b4 b5 b6 b7 b8 b9 kb=>k a1 a2 S H' (RDeed.pre ⟨r,tp,q1,q2,b1,b2,b3,b4,b5,b6,b7,b8,b9,kb⟩ I)
def wF (n:Str)(p t:Aj):List (Str×V):=[("whose",.str n),("point",.ref p),("times",.ref t)]
variable {t:Aj}
theorem u7:(wF n p t).lookup ("whose" : Str)=some (.str n):=by unfold wF;rw[aC];simp
structure WkAt (C:Aj)(H:Hp)(y:Aj)(n:Str)(p:Aj)(pt:Int×Int)(t:Aj)(tv:List (List Key×V)):Prop where
 ob:∃dx,H y=some (.ins C dx (wF n p t))
 pt:H p=some (.tup [.int pt.1,.int pt.2])
 tm:H t=some (.dT tv)
variable {y:Aj}{tv:List (List Key×V)}
theorem WkAt.kb {pt:Int×Int}(h:WkAt C H y n p pt t tv){ch:List Aj}(k:Kb ch H H')(hc:∀b∈ch,(∃kv,Rd H b (.dK kv))\/∃D,H b=some (.lst D)):WkAt C H' y n p pt t tv:=by
 have F:∀b o,(∀kv,o≠HO.dK kv)->(∀u kv,o≠HO.frz u (.dK kv))->(∀D,o≠HO.lst D)->H b=some o->H' b=some o:=λb o L J I e=>k _ _ (λz=>by
  rcases hc b z with⟨kv,q|⟨u,q⟩⟩|⟨D,q⟩
  .rw[e]at q;cases q;exact L _ rfl
  .rw[e]at q;cases q;exact J _ _ rfl
  .rw[e]at q;cases q;exact I _ rfl) e
 obtain⟨dx,e⟩:=h.ob;exact⟨⟨dx,F _ _ (λ_ z=>by cases z) (λ_ _ z=>by cases z) (λ_ z=>by cases z) e⟩,F _ _ (λ_ z=>by cases z) (λ_ _ z=>by cases z) (λ_ z=>by cases z) h.pt,F _ _ (λ_ z=>by cases z) (λ_ _ z=>by cases z) (λ_ z=>by cases z) h.tm⟩
theorem WkAt.same {pt:Int×Int}(h:WkAt C H y n p pt t tv)(s:Same H H'):WkAt C H' y n p pt t tv:=h.kb (ch:=[]) (Kb.of s) λb z=>nomatch z
def TmOk (tv:List (List Key×V)):Prop:=tv≠[]/\(tv.map (·.1)).Nodup/\∀q∈tv,∃a b c:Int,q=([.inl a,.inl b],.int c)/\0<=a/\a<=960/\1<=b/\b<=40
theorem TmOk.one {a:Int}(a0:0<=a)(a1:a<=960)(b0:1<=b)(b1:b<=40):TmOk [([.inl a,.inl b],.int 1)]:=⟨λz=>(nomatch z),be.mpr ⟨aA,bi⟩,λq hq=>⟨a,b,1,aH.mp hq,a0,a1,b0,b1⟩⟩
def Zu (C:Aj):Sp:=λvs H Q _=>∃(y dx p t:Aj) (n:Str),vs=[.ref y,.str n,.ref p,.ref t]/\H y=some (.ins C dx [])/\∀H',H' y=some (.ins C dx (wF n p t))->Kb [y] H H'->Q .non H'
include T in
theorem wxu (F:Fun K "__init__" "Walker.__init__" zbp f fd):FK P w K mg base 1 f fd ["self","whose","point","times"] (Zu q8):=by
 have J:=uj;refine F.okX J (λvs H Q E h=>by obtain⟨_,_,_,_,_,rfl,_⟩:=h;rfl) λ_ _ _ _ H vs Q E O h=>?_;obtain⟨y,dx,p,t,n,rfl,L,k⟩:=h;refine⟨_,(wu (um (pv 0) (pv 1) rfl)
   (wu (um (pv 0) (pv 2) rfl)
   (wy (um (pv 0) (pv 3) rfl)))),?_⟩
 refine exI rfl (exI rfl ⟨y,q8,dx,[],rfl,L,T.clW,T.naWw,(by show 0<1000;decide),?_⟩);refine exI rfl (exI rfl ⟨y,q8,dx,exI rfl ⟨wj,T.clW,T.naWp,(by show 1<1000;decide),?_⟩⟩);refine exI rfl (exI rfl ⟨y,q8,dx,exI rfl ⟨wj,T.clW,T.naWt,(by show 2<1000;decide),?_⟩⟩);refine k _ wj λb o I e=>?_;have I:b≠y:=λz=>I (by simp[z]);rw[wf I,wf I,wf I];exact e
theorem qy4 {Pp:Hp->Prop}(ny:H y=none)(nd:H dx=none)(k:∀H',Same H H'->(∃dx,H' y=some (.ins C dx (wF n p t)))->Pp H') :
  Zu C [.ref y,.str n,.ref p,.ref t] (upd (upd H dx (.own y)) y (.ins C dx [])) (λr H2=>r=.non/\Pp H2) E:=by
 refine⟨y,dx,p,t,n,rfl,wj,λH' e I=>⟨rfl,k H' (λb o F=>I b o (λz=>?_) ?_) ⟨dx,e⟩⟩⟩
 .rw[aH.mp z,ny]at F;cases F
 .rw[wf (wz F ny),wf (wz F nd)];exact F
def Wj (C:Aj):Sp:=λvs H Q _=>∃(n:Str) (p:Aj) (pt:Int×Int),vs=[.str n,.ref p]/\H p=some (.tup [.int pt.1,.int pt.2])/\∀H' y t,H y=none->Same H H'->WkAt C H' y n p pt t [([.inl pt.1,.inl pt.2],.int 1)]->Q (.ref y) H'
include T in
theorem qvp (F:Fun K "set_down" "set_down" zbq f fd)(zg4:CCal P w K mg base "Walker" q8 1 (Zu q8)):FK P w K mg base 3 f fd ["whose","point"] (Wj q8):=by
 have sc:=qz9;refine F.okX sc (λvs H Q E h=>by obtain⟨_,_,_,rfl,_⟩:=h;rfl) λ_ _ _ _ H vs Q E U h=>?_;obtain⟨n,p,I,rfl,L,k⟩:=h;refine⟨_,(wy (x6 (yd zg4 (U.mono ⋯) rfl wv (wm (pv 0) (wm (pv 1) (w8 (wqm U.units0 (pv 1) wc) wx)))))),?_⟩;refine exI rfl (exI rfl (λt S=>(exI rfl ⟨p,[.inl I.1,.inl I.2],rfl,(by rw[wf (wz L S)];exact L),wj,?_⟩)));have J:Same H (upd (upd H t (.dT [])) t (.dT [([.inl I.1,.inl I.2],.int 1)])):=by rw[Qn];exact Same.upd S
 have Z:upd (upd H t (.dT [])) t (.dT [([.inl I.1,.inl I.2],.int 1)]) t=some (.dT [([.inl I.1,.inl I.2],.int 1)]):=wj;generalize upd (upd H t (.dT [])) t (.dT [([.inl I.1,.inl I.2],.int 1)])=H1 at J Z;exactλy dx O nd ne=>qy4 O nd λH' s2 e=>k H' y t (zw J O) (J.trans s2) ⟨e,s2 _ _ (J _ _ L),s2 _ _ Z⟩
def HPt (hs:List Int)(pt:Int×Int):Prop:=xu hs/\Pt hs pt.2 pt/\pt.2<=40
theorem HPt.rng {pt:Int×Int}(h:HPt hs pt):0<=pt.1/\pt.1<=960/\1<=pt.2/\pt.2<=40:=by obtain⟨F,⟨h1,_,_,O,h2⟩,L⟩:=h;have I:=F.2.1;have J:=F.1;have:((hs.length:Int)-1)*pt.2<=24*pt.2:=Int.mul_le_mul_of_nonneg_right ⋯ ⋯;lia
variable {CW:Aj}
theorem qu3 {c2:Aj}{whose:Str}{pt:Int×Int}(hh:Hse C H x dr dw dd R W D)(n1:H c1=none)(n2:upd H c1 (.dK []) c2=none)(s3:Same (upd (upd H c1 (.dK [])) c2 (.dK [])) H3)(W3:WkAt CW H3 y whose p pt t tv)(lR:R.length<=1000)(lW:W.length<=1000)(lD:D.length<=1000000)
  (k:∀H' tp q1 q2,H tp=none->H q1=none->H q2=none->Hse C H' x dr dw dd R (vj W (.inr n) (.ref y)) (D++[.ref tp])->H' tp=some (.tup [.ref q1,.ref q2])->H' q1=some (.dK [])->H' q2=some (.dK [(.inr n,(wt W (.inr n)).getD .non)])->q1≠q2->WkAt CW H' y whose p pt t tv->Kb [dr,dw,dd] H H'->Q .non H') :
  spDo C [.ref x,.ref c1,.ref c2] (upd H3 c2 (.dK [(.inr n,.ref y)])) Q E:=by
 have Z:c1≠c2:=λz=>by rw[<-z,wj]at n2;cases n2
 have I:H c2=none:=by rw[<-n2,wf (ba Z)]
 have an:Same H H3:=λb o e=>s3 _ _ (by rw[wf (wz e I),wf (wz e n1)];exact e);have ap:H3 c2=some (.dK []):=s3 _ _ wj;have a0:H3 c1=some (.dK []):=s3 _ _ (by rw[wf Z,wj]);have ad:∀b o,(∀O,o≠HO.dK O)->H3 b=some o->upd H3 c2 (.dK [(.inr n,.ref y)]) b=some o:=λb o F e=>by rw[wf (λz=>by rw[z,ap]at e;cases e;exact F _ rfl)];exact e
 have W4:WkAt CW (upd H3 c2 (.dK [(.inr n,.ref y)])) y whose p pt t tv:=by obtain⟨dx,e⟩:=W3.ob;exact⟨⟨dx,ad _ _ (λO z=>by cases z) e⟩,ad _ _ (λO z=>by cases z) W3.pt,ad _ _ (λO z=>by cases z) W3.tm⟩
 have J:Same H (upd H3 c2 (.dK [(.inr n,.ref y)])):=λb o e=>by rw[wf (wz e I)];exact an _ _ e
 have e1:upd H3 c2 (.dK [(.inr n,.ref y)]) c1=some (.dK []):=by rw[wf Z];exact a0
 have e2:upd H3 c2 (.dK [(.inr n,.ref y)]) c2=some (.dK [(.inr n,.ref y)]):=wj;generalize upd H3 c2 (.dK [(.inr n,.ref y)])=H4 at J e1 e2 W4;have S:=hh.same J;refine⟨x,dr,dw,dd,c1,c2,R,W,[],[(.inr n,.ref y)],D,rfl,S,.inl e1,.inl e2,Z,(wz hh.r n1).symm,(wz hh.w n1).symm,(wz hh.r I).symm,(wz hh.w I).symm,bi,be.mpr ⟨aA,bi⟩,lR,lW,aD _,by show 1<=1000;decide,lD,(λi c U hc=>nomatch U),λi c U hc=>?_,λH' tp q1 q2 a1 a2 a3 a4 a5 a6 a7 a8 _ a9=>?_⟩
 .cases i with
  |zero=>cases U;cases hc
  |succ i=>cases U
 .have F:∀b,H4 b=none->H b=none:=λb e=>zw J e;have wk:WkAt CW H' y whose p pt t tv:=W4.kb a9 λb hb=>by
   simp only[av,aA,cK]at hb;rcases hb with rfl|rfl|rfl|rfl|rfl
   .exact .inl ⟨_,.inl S.r⟩
   .exact .inl ⟨_,.inl S.w⟩
   .exact .inr ⟨_,S.d⟩
   .exact .inl ⟨_,.inl e1⟩
   .exact .inl ⟨_,.inl e2⟩
  refine k H' tp q1 q2 (F _ a1) (F _ a2) (F _ a3) a4 a5 a6 a7 a8 wk λb o L e=>a9 b o (λz=>?_) (J _ _ e);simp only[av,aA,cK]at z L;rcases z with z|z|z|z|z
  .exact L (.inl z)
  .exact L (.inr (.inl z))
  .exact L (.inr (.inr z))
  .rw[z,n1]at e;cases e
  .rw[z,I]at e;cases e
def WDeed (C CW:Aj)(H H':Hp)(x dr dw dd:Aj)(R W:List (Key×V))(D:List V)(n whose:Str)(p:Aj)(pt:Int×Int)(t:Aj)(tv:List (List Key×V)):Prop:=∃y tp q1 q2,H tp=none/\H q1=none/\H q2=none/\Hse C H' x dr dw dd R (vj W (.inr n) (.ref y)) (D++[.ref tp])/\H' tp=some (.tup [.ref q1,.ref q2])/\H' q1=some (.dK [])/\H' q2=some (.dK [(.inr n,(wt W (.inr n)).getD .non)])/\q1≠q2/\WkAt CW H' y whose p pt t tv/\Kb [dr,dw,dd] H H'
theorem WDeed.pre {H0:Hp}{whose:Str}{pt:Int×Int}(h:WDeed C CW H H' x dr dw dd R W D n whose p pt t tv)(s:Same H0 H):WDeed C CW H0 H' x dr dw dd R W D n whose p pt t tv:=by obtain⟨y,F,J,I,a1,a2,a3,a4,a5,a6,Z,U,S,O⟩:=h;exact⟨y,F,J,I,zw s a1,zw s a2,zw s a3,a4,a5,a6,Z,U,S,λb o L e=>O b o L (s _ _ e)⟩
def Qk (K:Aa)(C CR CW CN CT CNR CB CO:Aj):Sp:=λvs H Q E=>∃(x dr dw dd a:Aj) (R W:List (Key×V)) (D:List V) (n whose:Str) (t b:Int),vs=[.ref x,.str n,.str whose,.ref a]/\Hse C H x dr dw dd R W D/\R.length<=1000/\W.length<=1000/\D.length<=1000000/\n.length<=1000/\H a=some (.tup [.int t,.int b]) /\
 (vt n=false->∀H',Same H H'->E (.ref CN) none H')/\(vt n=true->(wt W (.inr n)).isSome=true->∀H',Same H H'->E (.ref CT) none H')/\(vt n=true->wt W (.inr n)=none->(wt R (.inr whose)=none->∀H',Same H H'->E (.ref CNR) none H') /\
  ∀v,wt R (.inr whose)=some v->∃r hs,v=.ref r/\RoadAt CR H r hs/\xu hs/\(b<1->∀H',Same H H'->E (.ref CB) none H')/\(1<=b->Sm 8000 b/\(40<(xz t b).2->∀H',Same H H'->E (.ref CB) none H')/\((xz t b).2<=40 ->
   (¬ jv hs (xz t b).1 (xz t b).2->∀H',Same H H'->E (.ref CO) none H')/\(jv hs (xz t b).1 (xz t b).2->∀H' p t',WDeed C CW H H' x dr dw dd R W D n whose p (xz t b) t' [([.inl (xz t b).1,.inl (xz t b).2],.int 1)]->Q .non H'))))
theorem low1 {t:Int}(h:1<=b):1<=(xz t b).2:=by
 have e:=qvk (t:=t) h;have g:=jg (t:=t) h;show 1<=b/gOf t b;by_cases z:1<=b/gOf t b
 .exact z
 .have:gOf t b*(b/gOf t b)<=0:=Int.mul_nonpos_of_nonneg_of_nonpos ⋯ ⋯;lia
include T in
theorem wxk (F:Fun K "place" "House.place" zb2 f fd)(zcq:Cal P w K mg base "check_new_name" 2 (y4 qu qp))(za3:MCal P w K mg base qf "road_called" 1 (vh qf qh true))(za2:Cal P w K mg base "lowest" 2 (y0 qx))(zco:MCal P w K mg base q9 "on_road" 3 (Q0 K q9 qx qb))(zg5:Cal P w K mg base "set_down" 3 (Wj q8))(zcr:MCal P w K mg base qf "do" 2 (spDo qf)) :
  FK P w K mg base 5 f fd ["self","name","whose","point"] (Qk K qf q9 q8 qu qp qh qx qb):=by
 have sc:=Yv;refine F.okX sc (λvs H Q E h=>by obtain⟨_,_,_,_,_,_,_,_,_,_,_,_,rfl,_⟩:=h;rfl) λ_ _ _ _ H vs Q E hr h=>?_;obtain⟨x,dr,dw,dd,a,R,W,D,n,ad,t,b,rfl,O,lR,lW,lD,ln,ha,kn,kt,k⟩:=h;obtain⟨dx,hx⟩:=O.ob;obtain⟨tg,ap⟩:=T.zas;refine⟨_,(wu (xj (wCA zcq (wm (pv 1) (w8 (zt (pv 0) rfl) wx))))
   (wu (zx (i:=4) (xy (pv 0) T.clH za3 (hr.mono ⋯) wv (wm (pv 2) wx)))
   (wu (zx (i:=5) (wCA za2 (yj (vg Jq (pv 3) wc (λ_ _=>rfl)) (yj (vg Jq (pv 3) wc (λ_ _=>rfl)) wx))))
   (wu (x9 (w9 yr (vg Jq (pv 5) wc (λ_ _=>rfl)) (zq (v:=V.int 40) rfl ap ⟨_,rfl⟩) (xq _)) (wy (zj rfl T.zac xg rfl T.zcm (xv xf wx))) xk)
   (wy (xj (xy (pv 0) T.clH zcr (hr.mono ⋯) wv (w8 Qp (w8 (qyf (qvg (pv 1) (wCA zg5 (wm (pv 2) (zm (xy (pv 4) T.cl zco (hr.mono ⋯) wv (wm (pv 5) wx)) wx))) qj3) rfl rfl (λz=>nomatch z) ⋯) wx))))))))),?_⟩
 dsimp only [Q7];refine c5 λj1 j2 j3 j4 j5 a8 a7 a6 a5 a4=>?_;subst a8;refine⟨_,rfl,_,rfl,x,qf,dx,_,_,rfl,hx,T.clH,T.naHw,vq,n,dw,W,rfl,ln,O.w,λa1 a2 H1 I=>?_,kn,kt⟩;obtain⟨kr,k⟩:=k a1 a2;have a3:=O.same I;subst a7;refine⟨_,rfl,x,dx,_,rfl,I _ _ hx,xt,_,rfl,x,dr,dw,dd,R,W,D,ad,rfl,a3,λv e=>?_,λe=>kr e H1 I⟩;obtain⟨r,hs,rfl,hR,a0,Z,k⟩:=k v e;subst a6;refine⟨_,rfl,_,_,_,_,rfl,rfl,SqT.of (I _ _ ha),rfl,_,rfl,_,_,_,_,rfl,rfl,SqT.of (I _ _ ha),rfl,t,b,rfl,λJ=>?_,λJ=>Z J H1 I⟩;obtain⟨sm,kg,k⟩:=k J;refine⟨sm.mono ⋯,λp np=>?_⟩;have s2:Same H (upd H1 p (.tup (ptV (xz t b)))):=I.trans (Same.upd np);have f2:upd H1 p (.tup (ptV (xz t b))) p=some (.tup [.int (xz t b).1,.int (xz t b).2]):=wj;generalize upd H1 p (.tup (ptV (xz t b)))=H2 at s2 f2;have l1:=low1 (t:=t) J;subst a5;refine exI rfl (exX rfl rfl (SqT.of f2) rfl (xh rfl rfl (exI rfl (v3 (λz=>⟨sz1,kg ⋯ H2 s2⟩) (λz=>?_)))));obtain⟨ko,k⟩:=k ⋯;subst a4;refine exI rfl ⟨x,dx,exI rfl ⟨s2 _ _ hx,xt,λc1 n1=>λc2 n2=>(exI rfl (exI rfl (exI rfl ?_)))⟩⟩;obtain⟨dy,l,h1,h2⟩:=id hR;have an:Same H2 (upd (upd H2 c1 (.dK [])) c2 (.dK [])):=λb o e=>by
  have e4:upd H2 c1 (.dK []) b=some o:=by rw[wf (wz e n1)];exact e
  rw[wf (wz e4 n2)];exact e4
 have S:=s2.trans an;refine⟨r,dy,_,rfl,S _ _ h1,zf (by decide +kernel),_,rfl,r,p,hs,(xz t b).1,(xz t b).2,rfl,hR.same S,a0,SqT.of (an _ _ f2),λ_=>⟨(Sm.small (n:=65) ⋯ ⋯ ⋯).mono ⋯,λU q H3 L fq=>?_,λU H3 L=>ko U H3 (S.trans L)⟩,λz=>absurd z ⋯⟩;have e3:xz (xz t b).1 (xz t b).2=xz t b:=wvr l1 (ww9 J);rw[e3]at fq;refine⟨ad,q,xz t b,rfl,fq,λH4 y t' ny s5 w5=>?_⟩;refine⟨s5 _ _ (L _ _ wj),[(.inr n,.ref y)],rfl,(show 1<=15 by decide),?_⟩;exact qu3 (E:=E) (O.same s2) n1 n2 (L.trans s5) w5 lR lW lD λH' tp q1 q2 J b2 b3 b4 b5 b6 b7 b8 b9 Z=>k U H' q t' (WDeed.pre ⟨y,tp,q1,q2,J,b2,b3,b4,b5,b6,b7,b8,b9,Z⟩ s2)
theorem qv8 {α:Type}(ms:List α)(d:α)(f:α->V)(p:α->Bool):Z0 (λi=>p (ms.getD i d)) (ms.map f) (ms.map f).length=(ms.filter p).map f:=by
 unfold Z0;rw[ah];have e:ms=(List.range ms.length).map λi=>ms.getD i d:=by refine List.ext_getElem (by rw[ah,aL]) λi h1 h2=>?_;rw[eC,List.getElem_range,am,ai h1];rfl
 have F:(ms.filter p).map f=(((List.range ms.length).map λi=>ms.getD i d).filter p).map f:=by rw[<-e]
 rw[F,List.filter_map,bw];refine bz λi hi=>?_;have hi:=bd.mp (cL.mp hi).1;show(ms.map f).getD i .non=f (ms.getD i d);rw[am,am,aI,ai hi];rfl
def WksAt (CW:Aj)(H:Hp)(W:List (Key×V))(ss:List Str)(wh:Str->Str)(ps:Str->Int×Int):Prop:=W.map (·.1)=ss.map Sum.inr/\W.length<64/\∀s∈ss,∃y p t tv,wt W (.inr s)=some (.ref y)/\WkAt CW H y (wh s) p (ps s) t tv
theorem WksAt.same {ss:List Str}{wh:Str->Str}{ps:Str->Int×Int}(h:WksAt CW H W ss wh ps)(s:Same H H'):WksAt CW H' W ss wh ps:=⟨h.1,h.2.1,λn hn=>by
 obtain⟨y,p,t,tv,e,a⟩:=h.2.2 n hn
 exact⟨y,p,t,tv,e,a.same s⟩⟩
def spOn (C CW:Aj):Sp:=λvs H Q _=>∃(x dr dw dd:Aj) (R W:List (Key×V)) (D:List V) (n:Str) (ss:List Str) (wh:Str->Str) (ps:Str->Int×Int),vs=[.ref x,.str n]/\Hse C H x dr dw dd R W D/\WksAt CW H W ss wh ps /\
 ∀(l:Aj) (H':Hp) (ms:List Str),H l=none->Same H H'->ms.Perm ss->ms.Pairwise (λx y=>¬ y.cps.toList<x.cps.toList)->H' l=some (.lst ((ms.filter λs=>decide (V.str (wh s)=V.str n)).map V.str))->Q (.ref l) H'
include T in
theorem qqk (F:Fun K "walkers_on" "House.walkers_on" zbx f fd):FK P w K mg base 1 f fd ["self","whose"] (spOn qf q8):=by
 have sc:=uq;refine F.okX sc (λvs H Q E h=>by obtain⟨_,_,_,_,_,_,_,_,_,_,_,rfl,_⟩:=h;rfl) λ_ _ _ s H vs Q E hr h=>?_;obtain⟨x,dr,dw,dd,R,W,D,n,ss,wh,ps,rfl,hh,L,k⟩:=h;obtain⟨dx,hx⟩:=hh.ob;refine⟨_,(wy (x6 (wqh (M:=[0,1]) rfl rfl (by walk_at "cap") (by walk_at "has") (by walk_at "cix") rfl (by decide +kernel) rfl (show List.Nodup (["name","self","whose"]:List Str) by decide +kernel) (y6 (w4 (Jd rfl) rfl T.sorted_ PyProof.Rows.boot_sorted (w8 (zt (pv 0) rfl) wx))) (λ_ _ _ _ _=>(w9 vz (qj5 (K:=K) rfl (qx2 (Ws hr) (qj5 (K:=K) rfl (pv 1) rfl) (pv 0) (λ_ _=>rfl)) rfl) (pv 2) (xq _))) (λ_ _ _ _ _=>(pv 0))))),?_⟩;refine exI rfl ⟨x,qf,dx,_,_,rfl,hx,T.clH,T.naHw,vq,dw,W,ss,rfl,.inl hh.w,L.1,L.2.1,λl I nl Z ad=>?_⟩;have O:Same H (upd H l (.lst (I.map V.str))):=Same.upd nl;have f1:upd H l (.lst (I.map V.str)) l=some (.lst (I.map V.str)):=wj;have lm:I.length<64:=by have a:=bI List.length L.1;rw[ah,ah]at a;have b:=Z.length_eq;have c:=L.2.1;lia
 generalize upd H l (.lst (I.map V.str))=H1 at O f1;refine⟨l,rfl,⟨_,SqL.of f1⟩,qkv (λi=>decide (V.str (wh (I.getD i ""))=V.str n)) (SqL.of f1) (by rw[ah];lia) (λi v H' RR J s' S=>?_) (λi v H' RR J ci s' S=>(exI rfl (S H' (Same.refl _)))) λp H' np s' fp=>?_⟩
 .rw[aI]at J;cases em:I[i]? with
  |none=>rw[em]at J;cases J
  |some m =>
   rw[em]at J;cases J;have eg:I.getD i "" = m:=by rw[am,em];rfl
   obtain⟨y,p,t,tv,e,a⟩:=L.2.2 m (Z.mem_iff.mp (bh em));obtain⟨dy,hy⟩:=a.ob;have U:=O.trans s';have dg:DGet H' dw (.str m) (wt W (.inr m)):=DGet.k (k:=.inr m) (U _ _ hh.w);rw[e]at dg;rw[eg]at S;exact exI rfl ⟨x,qf,dx,_,_,rfl,U _ _ hx,T.clH,T.naHw,vq,exI rfl ⟨dw,exI rfl ⟨dg,y,q8,dy,_,_,rfl,U _ _ hy,T.clW,T.naWw,u7,exI rfl ⟨rfl,_,rfl,S H' (Same.refl _)⟩⟩⟩⟩
 .rw[qv8 I "" V.str λs=>decide (V.str (wh s)=V.str n)]at fp;exact k p H' I (zw O np) (O.trans s') Z ad fp
def qyu (C:Aj)(H H':Hp)(x dr dw dd:Aj)(R W:List (Key×V))(D:List V)(cs1 cs2:List (Key×V)):Prop:=∃tp q1 q2,H tp=none/\H q1=none/\H q2=none/\Hse C H' x dr dw dd (exK R cs1) (exK W cs2) (D++[.ref tp])/\H' tp=some (.tup [.ref q1,.ref q2])/\H' q1=some (.dK (bfK R cs1))/\H' q2=some (.dK (bfK W cs2))/\q1≠q2/\Kb [dr,dw,dd] H H'
variable {kvs:List (Key×V)}{v u:V}
theorem wxr {k:Key}(h:wt kvs k=some u):(vj kvs k v).map (·.1)=kvs.map (·.1):=by unfold vj;rw[ao (by rw[js,h];rfl),bw];refine bz λkv _=>?_;show(if kv.1=k then(kv.1,v) else kv).1=kv.1;split <;> rfl
variable {ch:List Aj}
theorem Kb.sql (k:Kb ch H H'){a:Aj}{xs:List V}(h:SqL K H a xs)(d:(∀H',SqL K H' a xs)\/a∉ch):SqL K H' a xs:=by
 rcases d with d|d
 .exact d H'
 .rcases h with (e|⟨u,e⟩)|e
  .exact .inl (.inl (k _ _ d e))
  .exact .inl (.inr ⟨u,k _ _ d e⟩)
  .exact .inr e
def Dl (H:Hp)(ch:List Aj):Prop:=∀b∈ch,(∃kv,Rd H b (.dK kv))\/∃D,qqy D/\H b=some (.lst D)
theorem Dl.nil:Dl H []:=λb hb=>nomatch hb
theorem Dl.cons {a:Aj}(h:(∃kv,Rd H a (.dK kv))\/∃D,qqy D/\H a=some (.lst D))(d:Dl H ch):Dl H (a::ch):=λb hb=>by
 rcases av.mp hb with rfl|hb
 .exact h
 .exact d b hb
theorem Hse.dl (h:Hse C H x dr dw dd R W D)(rf:qqy D){ch:List Aj}(d:Dl H ch):Dl H (dr::dw::dd::ch):=.cons (.inl ⟨_,.inl h.r⟩) (.cons (.inl ⟨_,.inl h.w⟩) (.cons (.inr ⟨_,rf,h.d⟩) d))
theorem Dl.other (d:Dl H ch){a:Aj}{o:HO}(e:H a=some o)(n1:∀kv,o≠.dK kv)(n2:∀u kv,o≠.frz u (.dK kv))(n3:∀D,qqy D->o≠.lst D):a∉ch:=λz=>by
 rcases d a z with⟨kv,y|⟨u,y⟩⟩|⟨D,rf,y⟩ <;> (rw[e]at y;injection y with y)
 .exact n1 _ y
 .exact n2 _ _ y
 .exact n3 _ rf y
theorem Dl.tup (d:Dl H ch)(k:Kb ch H H'){a:Aj}{xs:List V}(e:H a=some (.tup xs)):H' a=some (.tup xs):=k _ _ (d.other e (λ_ z=>by cases z) (λ_ _ z=>by cases z) (λ_ _ z=>by cases z)) e
theorem wxv (ok:xu hs){D:List V}(rf:qqy D)(e:HO.lst (hs.map V.int)=HO.lst D):False:=by
 have e:hs.map V.int=D:=by injection e
 have l:=ok.1;have m:V.int (hs[0]'⋯)∈hs.map V.int:=aF.mpr ⟨_,db _,rfl⟩;rw[e]at m;obtain⟨a,F⟩:=rf _ m;cases F
theorem Dl.row (d:Dl H ch)(k:Kb ch H H'){a:Aj}{hs:List Int}(ok:xu hs)(e:H a=some (.lst (hs.map V.int))):H' a=some (.lst (hs.map V.int)):=k _ _ (d.other e (λ_ z=>by cases z) (λ_ _ z=>by cases z) (λ_ rf z=>wxv ok rf z)) e
theorem Dl.road (d:Dl H ch)(k:Kb ch H H'){r:Aj}{hs:List Int}(ok:xu hs)(h:RoadAt C H r hs):RoadAt C H' r hs:=by obtain⟨dx,q,h1,h2⟩:=h;exact⟨dx,q,k _ _ (d.other h1 (λ_ z=>by cases z) (λ_ _ z=>by cases z) (λ_ _ z=>by cases z)) h1,d.row k ok h2⟩
theorem Dl.wk (d:Dl H ch)(k:Kb ch H H'){y:Aj}{n:Str}{p:Aj}{pt:Int×Int}{t:Aj}{tv:List (List Key×V)}(h:WkAt C H y n p pt t tv):WkAt C H' y n p pt t tv:=by obtain⟨dx,e⟩:=h.ob;have F:=h.tm;exact⟨⟨dx,k _ _ (d.other e (λ_ z=>by cases z) (λ_ _ z=>by cases z) (λ_ _ z=>by cases z)) e⟩,d.tup k h.pt,k _ _ (d.other F (λ_ z=>by cases z) (λ_ _ z=>by cases z) (λ_ _ z=>by cases z)) F⟩
theorem qyk {n:Key}:exK W [(n,.ref y)]=vj W n (.ref y):=by show ex1 W (n,.ref y)=_;unfold ex1;rw[ak (λz=>by cases z)]
theorem wx4 {k:Key}:([(k,v)].map (·.1)).Nodup:=be.mpr ⟨aA,bi⟩
def ovr (f:Key->Option V)(cs:List (Key×V)):Key->Option V:=λm=>match wt cs m with|none=>f m|some .non=>none|some v=>some v
theorem Zp {k j:Key}(hj:j≠k):∀kvs:List (Key×V),wt (yp kvs k) j=wt kvs j
 |[]=>rfl
 |p::r=>by
  have ih:=Zp hj r;unfold yp at ih ⊢;by_cases e:p.1=k
  .rw[bE,ak (by simp[e]),ih,x8 (λz=>hj (z.symm.trans e))]
  .rw[bE,ao (by simp[e])];by_cases z:p.1=j
   .rw[zy z,zy z]
   .rw[x8 z,x8 z,ih]
theorem qwx {k:Key}:∀kvs:List (Key×V),wt (yp kvs k) k=none
 |[]=>rfl
 |p::r=>by
  have ih:=qwx (k:=k) r;unfold yp at ih ⊢;by_cases e:p.1=k
  .rw[bE,ak (by simp[e]),ih]
  .rw[bE,ao (by simp[e]),x8 e,ih]
theorem wx2 {k:Key}(h:k∉kvs.map (·.1)):wt kvs k=none:=by unfold wt;rw[List.find?_eq_none.mpr λkv hk=>by simp only[cw];exactλz=>h (aF.mpr ⟨kv,hk,z⟩)];rfl
theorem qyx {k:Key}(h:wt kvs k=some v):(k,v)∈kvs:=by unfold wt at h;obtain⟨J,F,I⟩:=Option.map_eq_some_iff.mp h;have:=List.find?_some F;simp only[cw]at this;have m:=List.mem_of_find?_eq_some F;rw[<-this,<-I];exact m
theorem jy (nd:(kvs.map (·.1)).Nodup){c:Key×V}(h:c∈kvs):wt kvs c.1=some c.2:=by
 induction kvs with
 |nil=>cases h
 |cons p r ih =>
  rw[ay]at nd;obtain⟨a,b⟩:=be.mp nd;rcases av.mp h with rfl|h
  .exact zy rfl
  .rw[x8 (λz=>a (by rw[z];exact aF.mpr ⟨c,h,rfl⟩))];exact ih b h
theorem qyy (R:List (Key×V))(c:Key×V)(m:Key):wt (ex1 R c) m=if m=c.1 then(if c.2=.non then none else some c.2) else wt R m:=by
 unfold ex1;by_cases z:c.2=.non
 .rw[ao z,ao z];by_cases y:m=c.1
  .rw[ao y,y,qwx]
  .rw[ak y,Zp y]
 .rw[ak z,ak z,ww4]
theorem uh:∀(cs:List (Key×V)) (R:List (Key×V)),(cs.map (·.1)).Nodup->∀m,wt (exK R cs) m=ovr (wt R) cs m
 |[],R,_,m=>rfl
 |c::cs,R,nd,m=>by
  rw[ay]at nd;obtain⟨a,b⟩:=be.mp nd;show wt (exK (ex1 R c) cs) m=_;rw[uh cs (ex1 R c) b m];unfold ovr;by_cases z:c.1=m
  .rw[zy z,wx2 (kvs:=cs) (by rw[<-z];exact a)];show wt (ex1 R c) m=_;rw[qyy,ao z.symm];cases c.2 <;> rfl
  .rw[x8 z];cases wt cs m with
   |none =>
    show wt (ex1 R c) m=_;rw[qyy,ak (ba z)]
   |some v=>cases v <;> rfl
theorem qyw (R cs:List (Key×V)):(bfK R cs).map (·.1)=cs.map (·.1):=by unfold bfK;rw[bw];rfl
theorem val_bf (R cs:List (Key×V))(m:Key):wt (bfK R cs) m=(wt cs m).map λ_=>(wt R m).getD .non:=by
 induction cs with
 |nil=>rfl
 |cons c cs ih =>
  show wt ((c.1,(wt R c.1).getD .non)::bfK R cs) m=_;by_cases z:c.1=m
  .rw[zy (p:=(c.1,(wt R c.1).getD .non)) z,zy z,z];rfl
  .rw[x8 (p:=(c.1,(wt R c.1).getD .non)) z,x8 z,ih]
theorem qx6 {cs:List (Key×V)}(nd:(cs.map (·.1)).Nodup)(hv:∀m,wt R m≠some .non)(m:Key):ovr (wt (exK R cs)) (bfK R cs) m=wt R m:=by
 unfold ovr;rw[val_bf];cases e:wt cs m with
 |none =>
  show wt (exK R cs) m=_;rw[uh cs R nd,ovr,e]
 |some v =>
  show(match some ((wt R m).getD .non) with|none=>wt (exK R cs) m|some .non=>none|some v=>some v)=_;have:=hv m;cases e2:wt R m with
  |none=>rfl
  |some u =>
   rw[e2]at this;cases u <;> first | rfl | exact absurd rfl this
def Jp (f:Key->Option V)(cs:List (Key×V)):Prop:=∀c∈cs,c.2=.non->(f c.1).isSome=true
theorem go_bf {cs:List (Key×V)}(nd:(cs.map (·.1)).Nodup)(hv:∀m,wt R m≠some .non)(h:Jp (wt R) cs):Jp (wt (exK R cs)) (bfK R cs):=λc hc hn=>by
 obtain⟨c0,h0,rfl⟩:=aF.mp hc;have hn:(wt R c0.1).getD .non=.non:=hn;show(wt (exK R cs) c0.1).isSome=true;rw[uh cs R nd,ovr,jy nd h0];by_cases z:c0.2=.non
 .have:=h c0 h0 z;obtain⟨v,ev⟩:=cH.mp this;rw[ev]at hn;have hn:v=.non:=hn;rw[hn]at ev;exact absurd ev (hv _)
 .cases e:c0.2 <;> first | rfl | exact absurd e z
theorem nd_ex1 (nd:(R.map (·.1)).Nodup)(c:Key×V):((ex1 R c).map (·.1)).Nodup:=by
 unfold ex1;split
 .unfold yp;exact nd.sublist (List.Sublist.map _ List.filter_sublist)
 .cases e:wt R c.1 with
  |none =>
   rw[qz2 _ e,bo,List.nodup_append];refine⟨nd,be.mpr ⟨aA,bi⟩,λx I y F z=>?_⟩;have F:y=c.1:=aH.mp F;obtain⟨p,J,rfl⟩:=aF.mp I;have:=jy nd J;rw[z,F,e]at this;cases this
  |some v=>rw[wxr e];exact nd
theorem nd_ex (nd:(R.map (·.1)).Nodup):∀cs:List (Key×V),((exK R cs).map (·.1)).Nodup:=λcs=>by
 induction cs generalizing R with
 |nil=>exact nd
 |cons c cs ih=>exact ih (nd_ex1 nd c)
def RefsF (f:Key->Option V):Prop:=∀m v,f m=some v->∃n a,m=.inr n/\v=.ref a
def yh (cs:List (Key×V)):Prop:=∀c∈cs,∃n,c.1=.inr n/\(c.2=.non\/∃a,c.2=.ref a)
theorem RefsF.ovr {f:Key->Option V}(h:RefsF f){cs:List (Key×V)}(hc:yh cs):RefsF (ovr f cs):=λm v e=>by
 unfold My.ovr at e;cases e2:wt cs m with
 |none=>rw[e2]at e;exact h m v e
 |some u =>
  obtain⟨n,e3,e4⟩:=hc _ (qyx e2);have e3:m=.inr n:=e3;rcases e4 with e4|⟨a,e4⟩
  .have e4:u=.non:=e4;rw[e2,e4]at e;cases e
  .have e4:u=.ref a:=e4;rw[e2,e4]at e;cases e;exact⟨n,a,e3,rfl⟩
theorem RefsF.non {f:Key->Option V}(h:RefsF f)(m:Key):f m≠some .non:=λz=>by obtain⟨_,_,_,e⟩:=h m _ z;cases e
theorem RefsF.bf (h:RefsF (wt R)){cs:List (Key×V)}(hc:yh cs):yh (bfK R cs):=λc hc'=>by
 obtain⟨c0,h0,rfl⟩:=aF.mp hc';obtain⟨n,e,_⟩:=hc c0 h0;refine⟨n,e,?_⟩;show(wt R c0.1).getD .non=.non\/_;cases e2:wt R c0.1 with
 |none=>exact .inl rfl
 |some v =>
  obtain⟨_,a,_,e3⟩:=h _ _ e2;exact .inr ⟨a,e3⟩
structure Deed where
 tp:Aj
 q1:Aj
 q2:Aj
 cs1:List (Key×V)
 cs2:List (Key×V)
def DeedAt (H:Hp)(d:Deed):Prop:=H d.tp=some (.tup [.ref d.q1,.ref d.q2])/\Rd H d.q1 (.dK d.cs1)/\Rd H d.q2 (.dK d.cs2)
structure DeedOk (d:Deed):Prop where
 nd1:(d.cs1.map (·.1)).Nodup
 nd2:(d.cs2.map (·.1)).Nodup
 l1:d.cs1.length<=1000
 l2:d.cs2.length<=1000
 r1:yh d.cs1
 r2:yh d.cs2
 ne:d.q1≠d.q2
def qxg (ds:List Deed):List Aj:=ds.flatMap λd=>[d.q1,d.q2]
def jf (ds:List Deed):List V:=ds.reverse.map λd=>V.ref d.tp
theorem wxy (d:Deed)(ds:List Deed):jf (d::ds)=jf ds++[.ref d.tp]:=by unfold jf;rw[List.reverse_cons,bo];rfl
theorem qzq (ds:List Deed):(jf ds).length=ds.length:=by unfold jf;rw[ah,List.length_reverse]
theorem Jj (ds:List Deed):qqy (jf ds):=λv hv=>by obtain⟨d,_,rfl⟩:=aF.mp hv;exact⟨_,rfl⟩
theorem wzz {d:Deed}{ds:List Deed}(h:d∈ds):d.q1∈qxg ds/\d.q2∈qxg ds:=⟨eJ.mpr ⟨d,h,by simp⟩,eJ.mpr ⟨d,h,by simp⟩⟩
def Und:(Key->Option V)->(Key->Option V)->List Deed->Prop
 |_,_,[]=>True
 |f,g,d::ds=>Jp f d.cs1/\Jp g d.cs2/\Und (ovr f d.cs1) (ovr g d.cs2) ds
structure Ho where
 x:Aj
 dr:Aj
 dw:Aj
 dd:Aj
 R:List (Key×V)
 W:List (Key×V)
 ds:List Deed
structure HoAt (C:Aj)(H:Hp)(o:Ho):Prop where
 hs:Hse C H o.x o.dr o.dw o.dd o.R o.W (jf o.ds)
 da:∀d∈o.ds,DeedAt H d/\DeedOk d
 nq:∀q∈qxg o.ds,q≠o.dr/\q≠o.dw
 un:Und (wt o.R) (wt o.W) o.ds
 nR:(o.R.map (·.1)).Nodup
 nW:(o.W.map (·.1)).Nodup
 fR:RefsF (wt o.R)
 fW:RefsF (wt o.W)
variable {o:Ho}
theorem HoAt.dl (h:HoAt C H o):Dl H [o.dr,o.dw,o.dd]:=h.hs.dl (Jj _) .nil
theorem HoAt.frame (h:HoAt C H o){ch:List Aj}(k:Kb ch H H')(dl:Dl H ch)(n:o.x∉ch/\o.dr∉ch/\o.dw∉ch/\o.dd∉ch)(rd:∀q∈ch,q∈qxg o.ds->∀kv,Rd H q (.dK kv)->Rd H' q (.dK kv)):HoAt C H' o:=by
 refine⟨h.hs.kb k n,λd F=>?_,h.nq,h.un,h.nR,h.nW,h.fR,h.fW⟩;obtain⟨⟨a,b,c⟩,e⟩:=h.da d F;obtain⟨J,I⟩:=wzz F;refine⟨⟨dl.tup k a,?_,?_⟩,e⟩
 .by_cases z:d.q1∈ch
  .exact rd _ z J _ b
  .exact k.rd z b
 .by_cases z:d.q2∈ch
  .exact rd _ z I _ c
  .exact k.rd z c
theorem HoAt.same (h:HoAt C H o)(s:Same H H'):HoAt C H' o:=h.frame (ch:=[]) (Kb.of s) Dl.nil ⟨aA,aA,aA,aA⟩ λq z=>nomatch z
def Ho.did (o:Ho)(tp q1 q2:Aj)(cs1 cs2:List (Key×V)):Ho:={ o with R:=exK o.R cs1,W:=exK o.W cs2,ds:=⟨tp,q1,q2,bfK o.R cs1,bfK o.W cs2⟩::o.ds }
theorem qy9 {f f' g g':Key->Option V}(ef:∀m,f m=f' m)(eg:∀m,g m=g' m){ds:List Deed}(h:Und f g ds):Und f' g' ds:=by have a:f=f':=funext ef;have b:g=g':=funext eg;subst a b;exact h
theorem HoAt.did (h:HoAt C H o){cs1 cs2:List (Key×V)}(g:qyu C H H' o.x o.dr o.dw o.dd o.R o.W (jf o.ds) cs1 cs2)(nd1:(cs1.map (·.1)).Nodup)(nd2:(cs2.map (·.1)).Nodup)(l1:cs1.length<=1000)(l2:cs2.length<=1000)(r1:yh cs1)(r2:yh cs2)(g1:Jp (wt o.R) cs1)(g2:Jp (wt o.W) cs2):∃tp q1 q2,H tp=none/\H q1=none/\H q2=none/\HoAt C H' (o.did tp q1 q2 cs1 cs2)/\Kb [o.dr,o.dw,o.dd] H H':=by
 obtain⟨tp,q1,q2,n0,S,O,h1,ft,f1,f2,ne,L⟩:=g;have I:∀q∈qxg o.ds,∃Z,Rd H q (.dK Z):=λq I=>by
  obtain⟨d,J,I⟩:=eJ.mp I;obtain⟨⟨_,a,b⟩,_⟩:=h.da d J;simp only[av,aA,cK]at I;rcases I with rfl|rfl
  .exact⟨_,a⟩
  .exact⟨_,b⟩
 have nin:∀q∈qxg o.ds,q∉[o.dr,o.dw,o.dd]:=λq F z=>by
  obtain⟨Z,e⟩:=I q F;have U:=h.nq q F;simp only[av,aA,cK]at z;rcases z with z|z|z
  .exact U.1 z
  .exact U.2 z
  .rcases e with e|⟨u,e⟩ <;> (rw[z,h.hs.d]at e;cases e)
 refine⟨tp,q1,q2,n0,S,O,⟨by show Hse C H' o.x o.dr o.dw o.dd _ _ (jf (_::o.ds));rw[wxy];exact h1,λd J=>?_,λq F=>?_,?_,nd_ex h.nR _,nd_ex h.nW _,?_,?_⟩,L⟩
 .rcases av.mp J with rfl|J
  .exact⟨⟨ft,.inl f1,.inl f2⟩,⟨by show((bfK o.R cs1).map (·.1)).Nodup;rw[qyw];exact nd1,by show((bfK o.W cs2).map (·.1)).Nodup;rw[qyw];exact nd2,by show(bfK o.R cs1).length<=_;unfold bfK;rw[ah];exact l1,by show(bfK o.W cs2).length<=_;unfold bfK;rw[ah];exact l2,h.fR.bf r1,h.fW.bf r2,ne⟩⟩
  .obtain⟨⟨a,b,c⟩,e⟩:=h.da d J;obtain⟨m1,m2⟩:=wzz J;exact⟨⟨h.dl.tup L a,L.rd (nin _ m1) b,L.rd (nin _ m2) c⟩,e⟩
 .have F:q∈q1::q2::qxg o.ds:=F;rcases av.mp F with rfl|F
  .exact⟨(wz h.hs.r S).symm,(wz h.hs.w S).symm⟩
  .rcases av.mp F with rfl|F
   .exact⟨(wz h.hs.r O).symm,(wz h.hs.w O).symm⟩
   .exact h.nq q F
 .exact⟨go_bf nd1 h.fR.non g1,go_bf nd2 h.fW.non g2,qy9 (λm=>(qx6 nd1 h.fR.non m).symm) (λm=>(qx6 nd2 h.fW.non m).symm) h.un⟩
 .show RefsF (wt (exK o.R cs1));rw[show wt (exK o.R cs1)=ovr (wt o.R) cs1 from funext (uh cs1 o.R nd1)];exact h.fR.ovr r1
 .show RefsF (wt (exK o.W cs2));rw[show wt (exK o.W cs2)=ovr (wt o.W) cs2 from funext (uh cs2 o.W nd2)];exact h.fW.ovr r2
structure Wk where
 wh:Str
 pt:Int×Int
 tv:List (List Key×V)
structure AH where
 rs:Str->Option (List Int)
 ws:Str->Option Wk
def AH.putW (a:AH)(n:Str)(w:Wk):AH:={ a with ws:=λm=>if m=n then some w else a.ws m }
def AH.putR (a:AH)(n:Str)(hs:List Int):AH:={ a with rs:=λm=>if m=n then some hs else a.rs m }
def RRep (CR:Aj)(H:Hp)(o:Option V):Option (List Int)->Prop
 |none=>o=none
 |some hs=>∃r,o=some (.ref r)/\RoadAt CR H r hs
def WRep (CW:Aj)(H:Hp)(o:Option V):Option Wk->Prop
 |none=>o=none
 |some w=>∃y p t,o=some (.ref y)/\WkAt CW H y w.wh p w.pt t w.tv
structure AOk (a:AH):Prop where
 lo:∀n hs,a.rs n=some hs->xu hs
 wo:∀n w,a.ws n=some w->TmOk w.tv/\∃hs,a.rs w.wh=some hs/\HPt hs w.pt
structure Rep (CR CW:Aj)(H:Hp)(f g:Key->Option V)(a:AH):Prop where
 r:∀n,RRep CR H (f (.inr n)) (a.rs n)
 w:∀n,WRep CW H (g (.inr n)) (a.ws n)
 ok:AOk a
variable {a:AH}
theorem Rep.dl {CR:Aj}{f g:Key->Option V}(h:Rep CR CW H f g a){ch:List Aj}(d:Dl H ch)(k:Kb ch H H'):Rep CR CW H' f g a:=by
 refine⟨λn=>?_,λn=>?_,h.ok⟩
 .have:=h.r n;have lo:=h.ok.lo n;cases e:a.rs n with
  |none=>rw[e]at this;exact this
  |some hs =>
   rw[e]at this;obtain⟨r,F,J⟩:=this;exact⟨r,F,d.road k (lo hs e) J⟩
 .have:=h.w n;cases e:a.ws n with
  |none=>rw[e]at this;exact this
  |some w =>
   rw[e]at this;obtain⟨y,p,t,F,I⟩:=this;exact⟨y,p,t,F,d.wk k I⟩
def Hist (CR CW:Aj)(H:Hp):List AH->(Key->Option V)->(Key->Option V)->List Deed->Prop
 |[],_,_,_=>True
 |a::as,f,g,ds=>Rep CR CW H f g a/\((ds=[]/\as=[])\/∃d ds',ds=d::ds'/\Hist CR CW H as (ovr f d.cs1) (ovr g d.cs2) ds')
theorem Hist.dl {CR:Aj}(d:Dl H ch)(k:Kb ch H H'):∀ {as:List AH} {f g:Key->Option V} {ds:List Deed},Hist CR CW H as f g ds->Hist CR CW H' as f g ds
 |[],_,_,_,_=>trivial
 |a::as,f,g,ds,h=>by
  obtain⟨h1,h2⟩:=h;refine⟨h1.dl d k,?_⟩;rcases h2 with h2|⟨d',ds',e,h2⟩
  .exact .inl h2
  .exact .inr ⟨d',ds',e,Hist.dl d k h2⟩
structure VH (C CR CW:Aj)(H:Hp)(o:Ho)(as:List AH):Prop where
 h:HoAt C H o
 t:Hist CR CW H as (wt o.R) (wt o.W) o.ds
variable {as:List AH}
theorem VH.same {CR:Aj}(v:VH C CR CW H o as)(s:Same H H'):VH C CR CW H' o as:=⟨v.h.same s,Hist.dl (ch:=[]) Dl.nil (Kb.of s) v.t⟩
theorem VH.rep {CR:Aj}(v:VH C CR CW H o (a::as)):Rep CR CW H (wt o.R) (wt o.W) a:=v.t.1
structure Nxt (H:Hp)(o o':Ho):Prop where
 x:o'.x=o.x
 dr:o'.dr=o.dr
 dw:o'.dw=o.dw
 dd:o'.dd=o.dd
 ds:∃d,o'.ds=d::o.ds/\H d.q1=none/\H d.q2=none
structure Prv (o o':Ho):Prop where
 x:o'.x=o.x
 dr:o'.dr=o.dr
 dw:o'.dw=o.dw
 dd:o'.dd=o.dd
 ds:∃d,o.ds=d::o'.ds
theorem VH.did {CR:Aj}{a':AH}(v:VH C CR CW H o (a::as)){cs1 cs2:List (Key×V)}(g:qyu C H H' o.x o.dr o.dw o.dd o.R o.W (jf o.ds) cs1 cs2)(nd1:(cs1.map (·.1)).Nodup)(nd2:(cs2.map (·.1)).Nodup)(l1:cs1.length<=1000)(l2:cs2.length<=1000)(r1:yh cs1)(r2:yh cs2)(g1:Jp (wt o.R) cs1)(g2:Jp (wt o.W) cs2)(rp:Kb [o.dr,o.dw,o.dd] H H'->Rep CR CW H' (ovr (wt o.R) cs1) (ovr (wt o.W) cs2) a') :
  ∃o',Nxt H o o'/\VH C CR CW H' o' (a'::a::as)/\Kb [o.dr,o.dw,o.dd] H H':=by
 obtain⟨I,L,J,n0,S,O,h',F⟩:=v.h.did g nd1 nd2 l1 l2 r1 r2 g1 g2;refine⟨o.did I L J cs1 cs2,⟨rfl,rfl,rfl,rfl,⟨⟨I,L,J,bfK o.R cs1,bfK o.W cs2⟩,rfl,S,O⟩⟩,⟨h',?_⟩,F⟩;have Z:wt (exK o.R cs1)=ovr (wt o.R) cs1:=funext (uh cs1 o.R nd1);have U:wt (exK o.W cs2)=ovr (wt o.W) cs2:=funext (uh cs2 o.W nd2);refine⟨by show Rep CR CW H' (wt (exK o.R cs1)) (wt (exK o.W cs2)) a';rw[Z,U];exact rp F,.inr ⟨_,o.ds,rfl,?_⟩⟩;show Hist CR CW H' (a::as) (ovr (wt (exK o.R cs1)) (bfK o.R cs1)) (ovr (wt (exK o.W cs2)) (bfK o.W cs2)) o.ds;rw[show ovr (wt (exK o.R cs1)) (bfK o.R cs1)=wt o.R from funext (qx6 nd1 v.h.fR.non),show ovr (wt (exK o.W cs2)) (bfK o.W cs2)=wt o.W from funext (qx6 nd2 v.h.fW.non)];exact Hist.dl v.h.dl F v.t
structure Nam (NM:List Str)(a:AH):Prop where
 r:∀n,(a.rs n).isSome=true->n∈NM
 w:∀n,(a.ws n).isSome=true->n∈NM
theorem qyq {α:Type}[DecidableEq α]:∀(l m:List α),l.Nodup->(∀x∈l,x∈m)->l.length<=m.length
 |[],_,_,_=>aD _
 |a::l,m,nd,h=>by obtain⟨n1,n2⟩:=be.mp nd;have ha:=h a (bV ..);have:=qyq l (m.erase a) n2 λx hx=>(List.mem_erase_of_ne (λz=>n1 (by rw[<-z];exact hx))).mpr (h x (bc _ hx));rw[List.length_erase_of_mem ha]at this;have:=List.length_pos_of_mem ha;rw[aB];lia
variable {NM:List Str}
theorem wwh (nd:(R.map (·.1)).Nodup)(h:∀k v,wt R k=some v->∃n,k=.inr n/\n∈NM):R.length<=NM.length:=by
 have:=qyq (R.map (·.1)) (NM.map Sum.inr) nd λk I=>by obtain⟨c,J,rfl⟩:=aF.mp I;obtain⟨n,e,F⟩:=h _ _ (jy nd J);rw[e];exact aF.mpr ⟨n,F,rfl⟩
 rwa [ah,ah]at this
theorem VH.lens {CR:Aj}(v:VH C CR CW H o (a::as)){NM:List Str}(nm:Nam NM a):o.R.length<=NM.length/\o.W.length<=NM.length:=by
 refine⟨wwh v.h.nR λk u e=>?_,wwh v.h.nW λk u e=>?_⟩
 .obtain⟨n,_,rfl,_⟩:=v.h.fR k u e;refine⟨n,rfl,nm.r n ?_⟩;have:=v.rep.r n;cases e2:a.rs n with
  |none =>
   rw[e2]at this;have this:wt o.R (.inr n)=none:=this;rw[this]at e;cases e
  |some _=>rfl
 .obtain⟨n,_,rfl,_⟩:=v.h.fW k u e;refine⟨n,rfl,nm.w n ?_⟩;have:=v.rep.w n;cases e2:a.ws n with
  |none =>
   rw[e2]at this;have this:wt o.W (.inr n)=none:=this;rw[this]at e;cases e
  |some _=>rfl
theorem Rep.road {CR:Aj}{f g:Key->Option V}(h:Rep CR CW H f g a){n:Str}{hs:List Int}(e:a.rs n=some hs):∃r,f (.inr n)=some (.ref r)/\RoadAt CR H r hs:=by have:=h.r n;rw[e]at this;exact this
theorem Rep.wk {CR:Aj}{f g:Key->Option V}(h:Rep CR CW H f g a){n:Str}{w:Wk}(e:a.ws n=some w):∃y p t,g (.inr n)=some (.ref y)/\WkAt CW H y w.wh p w.pt t w.tv:=by have:=h.w n;rw[e]at this;exact this
theorem Rep.noR {CR:Aj}{f g:Key->Option V}(h:Rep CR CW H f g a){n:Str}(e:a.rs n=none):f (.inr n)=none:=by have:=h.r n;rw[e]at this;exact this
theorem Rep.noW {CR:Aj}{f g:Key->Option V}(h:Rep CR CW H f g a){n:Str}(e:a.ws n=none):g (.inr n)=none:=by have:=h.w n;rw[e]at this;exact this
theorem qym {f:Key->Option V}{k:Key}(m:Key):ovr f [(k,v)] m=if m=k then(if v=.non then none else some v) else f m:=by
 unfold ovr;by_cases z:k=m
 .rw[zy z,ao z.symm];cases v <;> rfl
 .rw[x8 z,ak (ba z)];rfl
theorem Rep.putW {CR:Aj}{f g:Key->Option V}(h:Rep CR CW H f g a){n:Str}{w:Wk}{y p t:Aj}(wk:WkAt CW H y w.wh p w.pt t w.tv)(tm:TmOk w.tv){hs:List Int}(er:a.rs w.wh=some hs)(hp:HPt hs w.pt):Rep CR CW H (ovr f []) (ovr g [(.inr n,.ref y)]) (a.putW n w):=by
 refine⟨h.r,λm=>?_,h.ok.lo,λm F e=>?_⟩
 .rw[qym];show WRep CW H _ (if m=n then some w else a.ws m);by_cases z:m=n
  .rw[ao z,ao (by rw[z]),ak (λq=>by cases q)];exact⟨y,p,t,rfl,wk⟩
  .rw[ak z,ak (λq=>z (by injection q))];exact h.w m
 .have e:(if m=n then some w else a.ws m)=some F:=e;by_cases z:m=n
  .rw[ao z]at e;cases e;exact⟨tm,hs,er,hp⟩
  .rw[ak z]at e;exact h.ok.wo m F e
theorem qvx:yh [((Sum.inr n:Key),V.ref y)]:=λc hc=>by rw[aH.mp hc];exact⟨n,rfl,.inr ⟨y,rfl⟩⟩
theorem qz8:yh []:=λc hc=>nomatch hc
theorem wwz {f:Key->Option V}:Jp f []:=λc hc=>nomatch hc
theorem wq0 {f:Key->Option V}{k:Key}:Jp f [(k,.ref y)]:=λc hc hn=>by rw[aH.mp hc]at hn;cases hn
theorem WDeed.g {wh:Str}{pt:Int×Int}(h:WDeed C CW H H' x dr dw dd R W D n wh p pt t tv):∃y,qyu C H H' x dr dw dd R W D [] [(.inr n,.ref y)]/\WkAt CW H' y wh p pt t tv:=by obtain⟨y,F,J,I,a1,a2,a3,a4,a5,Z,U,S,O,L⟩:=h;refine⟨y,⟨F,J,I,a1,a2,a3,?_,a5,Z,U,S,L⟩,O⟩;rw[qyk];exact a4
theorem RDeed.g {CR:Aj}(h:RDeed C CR H H' x dr dw dd R W D n hs):∃r,qyu C H H' x dr dw dd R W D [(.inr n,.ref r)] []/\RoadAt CR H' r hs:=by obtain⟨r,F,J,I,a1,a2,a3,a4,a5,Z,U,S,O,L⟩:=h;refine⟨r,⟨F,J,I,a1,a2,a3,?_,a5,Z,U,S,L⟩,O⟩;rw[qyk];exact a4
theorem VH.walk {CR:Aj}(v:VH C CR CW H o (a::as)){n:Str}{w:Wk}{p t:Aj}(g:WDeed C CW H H' o.x o.dr o.dw o.dd o.R o.W (jf o.ds) n w.wh p w.pt t w.tv)(tm:TmOk w.tv){hs:List Int}(er:a.rs w.wh=some hs)(hp:HPt hs w.pt):∃o',Nxt H o o'/\VH C CR CW H' o' (a.putW n w::a::as)/\Kb [o.dr,o.dw,o.dd] H H':=by obtain⟨y,J,F⟩:=g.g;exact v.did J bi wx4 (aD _) (show 1<=1000 by decide) qz8 qvx wwz wq0 λI=>(v.rep.dl v.h.dl I).putW F tm er hp
structure Ap (o p:Ho):Prop where
 rr:o.dr≠p.dr
 rw_:o.dr≠p.dw
 wr:o.dw≠p.dr
 ww:o.dw≠p.dw
 dd:o.dd≠p.dd
 q1:∀q∈qxg o.ds,q≠p.dr/\q≠p.dw
 q2:∀q∈qxg p.ds,q≠o.dr/\q≠o.dw
theorem VH.places {CR CN CT CNR CB CO:Aj}{wh:Str}{pa:Aj}{t:Int}(v:VH C CR CW H o (a::as)){NM:List Str}(nm:Nam NM a)(lN:NM.length<=100)(lD:o.ds.length<=10000)(nn:vt n=true)(ln:n.length<=1000)(en:a.ws n=none)(er:a.rs wh=some hs)(fp:H pa=some (.tup [.int t,.int b]))(b1:1<=b)(sm:Sm 8000 b)(hp:HPt hs (xz t b))
  (k:∀H' o',Nxt H o o'->VH C CR CW H' o' (a.putW n ⟨wh,xz t b,[([.inl (xz t b).1,.inl (xz t b).2],.int 1)]⟩::a::as)->Kb [o.dr,o.dw,o.dd] H H'->Q .non H'):Qk K C CR CW CN CT CNR CB CO [.ref o.x,.str n,.str wh,.ref pa] H Q E:=by
 obtain⟨r,J,U⟩:=v.rep.road er;have O:=v.rep.noW en;have ad:=v.lens nm;refine⟨o.x,o.dr,o.dw,o.dd,pa,o.R,o.W,_,n,wh,t,b,rfl,v.h.hs,⋯,⋯,by rw[qzq];lia,ln,fp,(λz=>by rw[nn]at z;cases z),(λ_ z=>by rw[O]at z;cases z),λ_ _=>⟨(λz=>by rw[J]at z;cases z),λu I=>?_⟩⟩;rw[J]at I;cases I;refine⟨r,hs,rfl,U,hp.1,(λz=>absurd z ⋯),λ_=>⟨sm,(λz=>absurd z (by have:=hp.2.2;lia)),λ_=>⟨(λz=>absurd hp.2.1.2.2.2 z),λ_ H' p t' L=>?_⟩⟩⟩;have F:=hp.rng;obtain⟨o',Z,S,kb⟩:=v.walk (w:=⟨wh,xz t b,[([.inl (xz t b).1,.inl (xz t b).2],.int 1)]⟩) L (TmOk.one F.1 F.2.1 F.2.2.1 F.2.2.2) er hp;exact k H' o' Z S kb
theorem Nam.putW (h:Nam NM a){n:Str}(hn:n∈NM)(w:Wk):Nam NM (a.putW n w):=⟨h.r,λm e=>by
 have e:(if m=n then some w else a.ws m).isSome=true:=e
 by_cases z:m=n
 .rw[z];exact hn
 .rw[ak z]at e
  exact h.w m e⟩
theorem qwq {w:Wk}:(a.putW n w).ws n=some w:=ao rfl
theorem yw {w:Wk}(h:m≠n):(a.putW n w).ws m=a.ws m:=ak h
def qzx (c:Key×V):Str:=match c.1 with | .inr n=>n | .inl _ => ""
theorem wzy (nd:(W.map (·.1)).Nodup)(h:RefsF (wt W)):W.map (·.1)=(W.map qzx).map Sum.inr/\(W.map qzx).Nodup:=by
 have e:W.map (·.1)=(W.map qzx).map Sum.inr:=by rw[bw];refine bz λc F=>?_;obtain⟨n,_,e,_⟩:=h _ _ (jy nd F);show c.1=Sum.inr (qzx c);unfold qzx;rw[e]
 refine⟨e,?_⟩;rw[e]at nd;exact(dX.mp nd).imp λ{x y} hxy z=>hxy (by rw[z])
def AH.nil:AH:=⟨λ_=>none,λ_=>none⟩
theorem VH.nil {CR:Aj}(h:Hse C H x dr dw dd [] [] []):VH C CR CW H ⟨x,dr,dw,dd,[],[],[]⟩ [AH.nil] :=
 ⟨⟨h,(λd hd=>nomatch hd),(λq hq=>nomatch hq),trivial,bi,bi,(λm v e=>nomatch e),(λm v e=>nomatch e)⟩,⟨⟨(λ_=>rfl),(λ_=>rfl),⟨(λ_ _ e=>nomatch e),(λ_ _ e=>nomatch e)⟩⟩,.inl ⟨rfl,rfl⟩⟩⟩
theorem Nam.nil:Nam NM AH.nil:=⟨(λ_ e=>nomatch e),(λ_ e=>nomatch e)⟩
theorem Nam.putR (h:Nam NM a){n:Str}(hn:n∈NM)(hs:List Int):Nam NM (a.putR n hs):=⟨λm e=>by
 have e:(if m=n then some hs else a.rs m).isSome=true:=e
 by_cases z:m=n
 .rw[z];exact hn
 .rw[ak z]at e
  exact h.r m e,h.w⟩
theorem Q5:(a.putR n hs).rs n=some hs:=ao rfl
theorem jk (h:m≠n):(a.putR n hs).rs m=a.rs m:=ak h
theorem Rep.putR {CR:Aj}{f g:Key->Option V}(h:Rep CR CW H f g a){n:Str}{hs:List Int}{r:Aj}(ra:RoadAt CR H r hs)(lo:xu hs)(hw:∀m w,a.ws m=some w->w.wh=n->HPt hs w.pt):Rep CR CW H (ovr f [(.inr n,.ref r)]) (ovr g []) (a.putR n hs):=by
 refine⟨λm=>?_,h.w,λm F e=>?_,λm w e=>?_⟩
 .rw[qym];show RRep CR H _ (if m=n then some hs else a.rs m);by_cases z:m=n
  .rw[ao z,ao (by rw[z]),ak (λq=>by cases q)];exact⟨r,rfl,ra⟩
  .rw[ak z,ak (λq=>z (by injection q))];exact h.r m
 .have e:(if m=n then some hs else a.rs m)=some F:=e;by_cases z:m=n
  .rw[ao z]at e;cases e;exact lo
  .rw[ak z]at e;exact h.ok.lo m F e
 .obtain⟨I,F,L,J⟩:=h.ok.wo m w e;by_cases z:w.wh=n
  .exact⟨I,hs,ao z,hw m w e z⟩
  .exact⟨I,F,(ak z).trans L,J⟩
theorem VH.road {CR:Aj}(v:VH C CR CW H o (a::as)){n:Str}{hs:List Int}(g:RDeed C CR H H' o.x o.dr o.dw o.dd o.R o.W (jf o.ds) n hs)(lo:xu hs)(hw:∀m w,a.ws m=some w->w.wh=n->HPt hs w.pt):∃o',Nxt H o o'/\VH C CR CW H' o' (a.putR n hs::a::as)/\Kb [o.dr,o.dw,o.dd] H H':=by obtain⟨r,J,F⟩:=g.g;exact v.did J wx4 bi (show 1<=1000 by decide) (aD _) qvx qz8 wq0 wwz λI=>(v.rep.dl v.h.dl I).putR F lo hw
theorem VH.lays {CR CN CT CL:Aj}(v:VH C CR CW H o (a::as)){NM:List Str}(nm:Nam NM a)(lN:NM.length<=100)(lD:o.ds.length<=10000)(nn:vt n=true)(ln:n.length<=1000)(en:a.rs n=none)(fp:H p=some (.lst (hs.map V.int)))(lo:xu hs)
  (k:∀H' o',Nxt H o o'->VH C CR CW H' o' (a.putR n hs::a::as)->Kb [o.dr,o.dw,o.dd] H H'->Q .non H'):qq0 K C CR CN CT CL [.ref o.x,.str n,.ref p] H Q E:=by
 have I:=v.rep.noR en;have Z:=v.lens nm;refine⟨o.x,o.dr,o.dw,o.dd,p,o.R,o.W,_,n,hs,rfl,v.h.hs,Jj _,⋯,⋯,by rw[qzq];lia,ln,fp,λ_ _ _ H' L=>?_,(λz=>by rw[nn]at z;cases z),(λ_ z=>by rw[I]at z;cases z),λ_ _ z=>absurd lo z⟩;obtain⟨o',O,J,S⟩:=v.road L lo λm w e U=>by obtain⟨_,ad,F,_⟩:=v.rep.ok.wo m w e;rw[U,en]at F;cases F
 exact k H' o' O J S
theorem wqb (xs:List Int):(xs.map V.int).all Qy=true:=by rw[df];intro v hv;obtain⟨i,_,rfl⟩:=aF.mp hv;rfl
variable {j:Int}
theorem in_cov {k:Int}:inV (.int j) ((yf hs k).map V.int)=decide (loH hs k<=j/\j+1<=hiH hs k):=by
 unfold inV;rw[bQ,List.any_eq_true,cw];constructor
 .rintro⟨v,F,e⟩;obtain⟨i,hi,rfl⟩:=aF.mp F;have e:i=j:=eq_of_beq e;subst e;unfold yf at hi;obtain⟨n,I,rfl⟩:=aF.mp hi;have:=bd.mp I;lia
 .rintro⟨h1,h2⟩;refine⟨.int j,aF.mpr ⟨j,?_,rfl⟩,?_⟩
  .unfold yf;exact aF.mpr ⟨(j-loH hs k).toNat,bd.mpr ⋯,⋯⟩
  .show(j==j)=true;exact eB j
def wx9 (C CN:Aj):Sp:=λvs H Q E=>∃(x dr dw dd:Aj) (R W:List (Key×V)) (D:List V) (n:Str) (m:Int),vs=[.ref x,.str n,.int m]/\Hse C H x dr dw dd R W D/\wt W (.inr n)=none/\E (.ref CN) none H
include T in
theorem zg6 (F:Fun K "go" "House.go" zb3 f fd)(zcj:MCal P w K mg base qf "walker_called" 1 (vh qf qk false)) :
  FK P w K mg base 2 f fd ["self","name","many"] (wx9 qf qk):=by
 have J:=qzm;refine F.okX J (λvs H Q E h=>by obtain⟨_,_,_,_,_,_,_,_,_,rfl,_⟩:=h;rfl) λ_ _ _ _ H vs Q E O h=>?_;obtain⟨x,dr,dw,dd,R,W,D,n,m,rfl,I,S,kx⟩:=h;obtain⟨dx,L⟩:=I.ob;refine⟨_,(wu (zx (i:=3) (xy (pv 0) T.clH zcj (O.mono ⋯) wv (wm (pv 1) wx)))
   kf),?_⟩
 exact exI rfl ⟨x,dx,exI rfl ⟨L,xt,exI rfl ⟨x,dr,dw,dd,R,W,D,n,rfl,I,(λv e=>by have e:wt W (.inr n)=some v:=e;rw[S]at e;cases e),λ_=>kx⟩⟩⟩
def qx9 (C CN:Aj):Sp:=λvs H Q E=>∃(x dr dw dd:Aj) (R W:List (Key×V)) (D:List V) (n:Str) (c h:Int),vs=[.ref x,.str n,.int c,.int h]/\Hse C H x dr dw dd R W D/\wt R (.inr n)=none/\E (.ref CN) none H
include T in
theorem wzw (F:Fun K "bend" "House.bend" zb0 f fd)(za3:MCal P w K mg base qf "road_called" 1 (vh qf qh true))(zg7:MCal P w K mg base q9 "corners" 1 (Ww q9)) :
  FK P w K mg base 2 f fd ["self","name","corner","height"] (qx9 qf qh):=by
 have L:=Ju;refine F.okX L (λvs H Q E h=>by obtain⟨_,_,_,_,_,_,_,_,_,_,rfl,_⟩:=h;rfl) λ_ _ _ _ H vs Q E I h=>?_;obtain⟨x,dr,dw,dd,R,W,D,n,c,h,rfl,J,S,kx⟩:=h;obtain⟨dx,O⟩:=J.ob;refine⟨_,(wu (zx (i:=4) (kd (xy (pv 0) T.clH za3 (I.mono ⋯) wv (wm (pv 1) wx)) T.cl zg7 (I.mono ⋯) wv))
   kf),?_⟩
 exact exI rfl ⟨x,dx,exI rfl ⟨O,xt,exI rfl ⟨x,dr,dw,dd,R,W,D,n,rfl,J,(λv e=>by have e:wt R (.inr n)=some v:=e;rw[S]at e;cases e),λ_=>kx⟩⟩⟩
def Jw (C CW CS:Aj):Sp:=λvs H Q E=>∃(x dr dw dd:Aj) (R W:List (Key×V)) (D:List V) (n:Str) (ss:List Str) (wh:Str->Str) (ps:Str->Int×Int),vs=[.ref x,.str n]/\Hse C H x dr dw dd R W D/\WksAt CW H W ss wh ps/\(wt R (.inr n)).isSome=true/\(∃s∈ss,wh s=n)/\∀H',Same H H'->E (.ref CS) none H'
include T in
theorem qus (F:Fun K "clear" "House.clear" zb1 f fd)(za3:MCal P w K mg base qf "road_called" 1 (vh qf qh true))(zg8:MCal P w K mg base qf "walkers_on" 1 (spOn qf q8)) :
  FK P w K mg base 2 f fd ["self","name"] (Jw qf q8 qr):=by
 have Z:=Yd;refine F.okX Z (λvs H Q E h=>by obtain⟨_,_,_,_,_,_,_,_,_,_,_,rfl,_⟩:=h;rfl) λ_ _ _ s H vs Q E O h=>?_;obtain⟨x,dr,dw,dd,R,W,D,n,U,J,ps,rfl,I,hw,S,es,ks⟩:=h;obtain⟨dx,L⟩:=I.ob;refine⟨_,(wu (xj (xy (pv 0) T.clH za3 (O.mono ⋯) wv (wm (pv 1) wx)))
   (wu (x9 (w9 yr (w4 xn rfl T.len_ aN (zm (xy (pv 0) T.clH zg8 (O.mono ⋯) wv (wm (pv 1) wx)) wx)) wc (xq _)) (wy (zj rfl T.zal xg rfl T.zf4 (xv xf wx))) xk)
   kf)),?_⟩
 refine⟨_,rfl,x,dx,_,rfl,L,xt,_,rfl,x,dr,dw,dd,R,W,D,n,rfl,I,λv e=>?_,λe=>by have e:wt R (.inr n)=none:=e;rw[e]at S;cases S⟩;refine exI rfl ⟨x,dx,exI rfl ⟨L,xt,exI rfl ⟨x,dr,dw,dd,R,W,D,n,U,J,ps,rfl,I,hw,λl H1 ms nl s1 pm _ fl=>?_⟩⟩⟩;refine⟨l,exI rfl ⟨.inl (SqL.of fl),xh rfl rfl (exI rfl (v3 (λz=>⟨sz1,ks H1 s1⟩) (λz=>?_)))⟩⟩;obtain⟨s,hs,e⟩:=es;have hm:s∈ms.filter λs=>decide (V.str (J s)=V.str n):=cL.mpr ⟨pm.mem_iff.mpr hs,bv (by rw[e])⟩;have:=List.length_pos_of_mem hm;rw[ah]at z;lia
def qxm (C CW CA:Aj):Sp:=λvs H Q E=>∃(x dr dw dd:Aj) (R W:List (Key×V)) (D:List V) (n m:Str) (y:Aj) (wh:Str) (p:Aj) (pt:Int×Int) (t:Aj) (tv:List (List Key×V)) (y':Aj) (wh':Str) (p':Aj) (pt':Int×Int) (t':Aj) (tv':List (List Key×V)),vs=[.ref x,.str n,.str m]/\Hse C H x dr dw dd R W D /\
 wt W (.inr n)=some (.ref y)/\WkAt CW H y wh p pt t tv/\wt W (.inr m)=some (.ref y')/\WkAt CW H y' wh' p' pt' t' tv'/\wh≠wh'/\E (.ref CA) none H
include T in
theorem wxt (F:Fun K "meet" "House.meet" zb5 f fd)(zcj:MCal P w K mg base qf "walker_called" 1 (vh qf qk false)) :
  FK P w K mg base 2 f fd ["self","one","other"] (qxm qf q8 qt):=by
 have sc:=Jr;refine F.okX sc (λvs H Q E h=>by obtain⟨_,_,_,_,_,_,_,_,_,_,_,_,_,_,_,_,_,_,_,_,_,rfl,_⟩:=h;rfl) λ_ _ _ _ H vs Q E O h=>?_;obtain⟨x,dr,dw,dd,R,W,D,n,m,y,wh,p,pt,t,tv,Z,a0,p',a2,t',a1,rfl,J,U,hW,S,an,ne,ka⟩:=h;obtain⟨dx,L⟩:=J.ob;obtain⟨dy,hy⟩:=hW.ob;obtain⟨ap,ad⟩:=an.ob;refine⟨_,(wu (zx (i:=3) (xy (pv 0) T.clH zcj (O.mono ⋯) wv (wm (pv 1) wx)))
   (wu (zx (i:=4) (xy (pv 0) T.clH zcj (O.mono ⋯) wv (wm (pv 2) wx)))
   (wu (x9 (w9 op_ne (zt (pv 3) rfl) (zt (pv 4) rfl) (xq _)) (wy (zj rfl T.zam xg rfl T.zf5 (xv xf wx))) xk)
   kf))),?_⟩
 refine⟨_,rfl,x,dx,_,rfl,L,xt,_,rfl,x,dr,dw,dd,R,W,D,n,rfl,J,λv e=>?_,λe=>by have e:wt W (.inr n)=none:=e;rw[U]at e;cases e⟩;have e:wt W (.inr n)=some v:=e;rw[U]at e;cases e;refine⟨_,rfl,x,dx,_,rfl,L,xt,_,rfl,x,dr,dw,dd,R,W,D,m,rfl,J,λv' I=>?_,λe=>by have e:wt W (.inr m)=none:=e;rw[S]at e;cases e⟩;have I:wt W (.inr m)=some v':=I;rw[S]at I;cases I;refine exI rfl ⟨y,q8,dy,_,_,rfl,hy,T.clW,T.naWw,u7,exI rfl ⟨Z,q8,ap,_,_,rfl,ad,T.clW,T.naWw,u7,rfl,_,rfl,?_⟩⟩;exact iteND (λz=>⟨sz1,ka⟩) (λz=>absurd (by injection z) ne)
def qxh (C CN:Aj):Sp:=λvs H Q E=>∃(x dr dw dd:Aj) (R W:List (Key×V)),vs=[.ref x]/\Hse C H x dr dw dd R W []/\E (.ref CN) none H
include T in
theorem wqs (F:Fun K "take_back" "House.take_back" zb4 f fd):FK P w K mg base 1 f fd ["self"] (qxh qf qw):=by
 have J:=u9;refine F.okX J (λvs H Q E h=>by obtain⟨_,_,_,_,_,_,rfl,_⟩:=h;rfl) λ_ _ _ _ H vs Q E O h=>?_;obtain⟨x,dr,dw,dd,R,W,rfl,I,kx⟩:=h;obtain⟨dx,L⟩:=I.ob;refine⟨_,(wu (x9 (w9 vz (w4 xn rfl T.len_ aN (w8 (zt (pv 0) rfl) wx)) wc (xq _)) (wy (zj rfl T.zan xg rfl T.zf6 (xv xf wx))) xk)
   kf),?_⟩
 exact exI rfl ⟨x,qf,dx,_,_,rfl,L,T.clH,T.naHd,qwy,dd,exI rfl ⟨.inl (SqL.of I.d),rfl,_,rfl,ww6 (λz=>⟨sz1,kx⟩) (λz=>absurd rfl z)⟩⟩
def qwr (CC:Aj):Sp:=λvs H Q E=>∃(r:Aj) (m:Int),vs=[.ref r,.int m]/\60<m/\E (.ref CC) none H
include T in
theorem wzu (F:Fun K "ways" "ways" zbl f fd)(zcs:CalD P w K mg base "check_count" 1 (Zk qj)):FK P w K mg base 2 f fd ["road","many"] (qwr qj):=by
 have J:=wvn;refine F.okX J (λvs H Q E h=>by obtain⟨_,_,rfl,_⟩:=h;rfl) λ_ _ _ _ H vs Q E L h=>?_;obtain⟨r,m,rfl,S,kx⟩:=h;obtain⟨O,I⟩:=T.zax;refine⟨_,(wu (xj (Z6 zcs.all (L.mono ⋯) rfl wv (wm (pv 1) (xv wc (wm (zq (v:=V.int 60) rfl I ⟨_,rfl⟩) wx)))))
   kf),?_⟩
 exact exI rfl ⟨m,0,.int 60,some 60,rfl,.inr ⟨60,rfl,rfl⟩,(λwi=>absurd (wi.2 60 rfl) ⋯),λ_=>kx⟩
def qxy (C CT:Aj):Sp:=λvs H Q E=>∃(r:Aj) (hs:List Int) (m:Int),vs=[.ref r,.int m]/\RoadAt C H r hs/\xu hs/\1<=m/\m<=12/\1000<crS hs m.toNat/\∀H',Same H H'->E (.ref CT) none H'
include T in
theorem wq5 (F:Fun K "rows" "rows" zbm f fd)(zcs:CalD P w K mg base "check_count" 1 (Zk qj))(zg9:Cal P w K mg base "ways_up_to" 6 (Yt q9)):FK P w K mg base 7 f fd ["road","many"] (qxy q9 qc):=by
 have sc:=wku;refine F.okX sc (λvs H Q E h=>by obtain⟨_,_,_,rfl,_⟩:=h;rfl) λ_ _ _ _ H vs Q E hr h=>?_;obtain⟨r,hs,m,rfl,L,I,m1,m2,an,kx⟩:=h;obtain⟨tl,Z⟩:=T.zao;obtain⟨tw,U⟩:=T.zaw;have o1:=I.1;have o2:=I.2.1;have ap:(1000000:Nat)<sizeLine:=by decide
 refine⟨_,(wu (xj (Z6 zcs.all (hr.mono ⋯) rfl wv (wm (pv 1) (xv wc (wm (zq (v:=V.int 12) rfl Z ⟨_,rfl⟩) wx)))))
   (wu (zx (i:=2) (wCA zg9 (wm (pv 0) (wm (pv 1) wx))))
   (wu (x9 (w9 yr (w4 (jm (K:=K) rfl rfl) rfl T.sum_ Wc (w8 (jc (M:=[]) rfl rfl (by walk_at "cap") (by walk_at "has") (by walk_at "cix") rfl (by decide +kernel) rfl (show List.Nodup (["counts"]:List Str) by decide +kernel) (y6 (vg z7 (pv 2) (pv 1) (λ_ _=>rfl))) (λ_ _ _ _ _=>(w4 (jm (K:=K) rfl rfl) rfl T.sum_ Wc (wm (pv 0) wx)))) wx)) (zq (v:=V.int 1000) rfl U ⟨_,rfl⟩) (xq _)) (wy (zj rfl T.zag xg rfl T.zfz (xv xf wx))) xk)
   kf))),?_⟩
 refine⟨_,rfl,m,1,.int 12,some 12,rfl,.inr ⟨12,rfl,rfl⟩,λ_=>?_,λhw=>absurd ⟨m1,λz e=>by cases e;exact m2⟩ hw⟩;refine exI rfl (exI rfl ⟨r,hs,m,rfl,L,I,⋯,⋯,λtb J H1 s1 f1 l1 g1=>?_⟩);have e:J[m.toNat]?=some J[m.toNat]:=ai ⋯;obtain⟨q,eq,M⟩:=g1 _ _ e;have ea:atI J m=some (.ref q):=by have:=y7 e;rwa [cF ⋯,eq]at this
 obtain⟨zs,O,lz,rz⟩:=id M;refine exI rfl (exI rfl (exX rfl rfl (SqL.of f1) ea ⟨q,rfl,⟨_,SqL.of O⟩,u6 (K:=K) (λi v _=>v=V.int (jh (hs.length-1) (yy (jx hs) m.toNat i))) (λi v H H' p g _ _=>g) (SqL.of O) ⋯ (λi x H2 R hx s2 L=>?_) λp2 ad H2 n2 s2 S l2 g2=>?_⟩))
 .obtain⟨a,rfl,fa⟩:=rz i x hx;exact exI rfl ⟨a,exI rfl ⟨SqL.of (s2 _ _ fa),L _ _ (Same.refl _) rfl λb e=>nomatch e⟩⟩
 have ey:ad=(jn (hs.length-1) λi=>jh (hs.length-1) (yy (jx hs) m.toNat i)).map V.int:=by
  refine cv λi=>?_;by_cases z:i<hs.length-1
  .rw[aI,Z5 z,ai ⋯,(g2 i _ (ai ⋯)).1];rfl
  .rw[aK ⋯,aK (by rw[ah,qz6];lia)]
 rw[ey]at S;refine⟨p2,exI rfl ⟨SqL.of S,xh rfl rfl (exI rfl ?_)⟩⟩;have ec:(jn (hs.length-1) λi=>jh (hs.length-1) (yy (jx hs) m.toNat i)).sum=crS hs m.toNat:=(cr_pow I _).symm;rw[ec];exact v3 (λz=>⟨sz1,kx _ (s1.trans s2)⟩) (λz=>absurd z ⋯)
def vf (K:Aa)(C CR:Aj):Sp:=λvs H Q E=>∃(r a:Aj) (hs:List Int) (y:Int),vs=[.ref r,.ref a]/\RoadAt C H r hs/\xu hs/\SqT K H a [.int 0,.int y]/\hiH hs 0<=y/\∀H',Same H H'->E (.ref CR) none H'
include T in
theorem qxc (F:Fun K "check_row" "check_row" zbn f fd)(zcp:Cal P w K mg base "covered" 4 (y8 q9 qg)):FK P w K mg base 5 f fd ["road","row"] (vf K q9 qg):=by
 have Z:=qx8;refine F.okX Z (λvs H Q E h=>by obtain⟨_,_,_,_,rfl,_⟩:=h;rfl) λ_ _ _ _ H vs Q E hr h=>?_;obtain⟨r,a,hs,y,rfl,hR,S,I,hy,kx⟩:=h;obtain⟨tm,U⟩:=T.zao;have o1:=S.1;refine⟨_,(wu (x9 (PW.pt (Wr (w9 uz (w4 xn rfl T.len_ aN (wm (pv 1) wx)) wc (xq _)) (u8 (w9 yr (w4 xn rfl T.len_ aN (wm (pv 1) wx)) (zq (v:=V.int 12) rfl U ⟨_,rfl⟩) (xq _))))) (wy (zj rfl T.zaa xg rfl T.zcf (xv xf wx))) xk)
   (wy (Y2 bF rfl (wvu rfl T.zip_ (wm (pv 1) (k7 (pe_rot (xb wzp (Z3 qys (pv 1) (qzk wc) qzw) (Z3 qys (pv 1) qzw (qzk wc)))) wx))) (ug rfl (zn (zc (i:=2)) (zn (zc (i:=3)) yk))) (wy (x9 (w9 qxu (pv 3) (wCA zcp (wm (pv 0) (wm (pv 2) wx))) rfl) (wy (zj rfl T.zaa xg rfl T.zcf (xv xf wx))) xk))))),?_⟩
 refine exI rfl ⟨_,_,rfl,.inr I,xh rfl rfl (exI rfl (v3 (λq1=>by exfalso;simp only[aB,bp]at q1;lia) (λ_=>?_)))⟩;refine exI rfl ⟨_,_,rfl,.inr I,xh rfl rfl (exI rfl (v3 (λq2=>by exfalso;simp only[aB,bp]at q2;lia) (λ_=>?_)))⟩;refine⟨_,rfl,_,rfl,a,_,rfl,rfl,I,by show 1<=2;decide,by show 2<=1000;decide,λb H1 L J=>?_⟩;have J:SqT K H1 b [V.int y,V.int 0]:=J;refine⟨a,b,_,_,rfl,L.sqt I,J,wxs (λi σ H'=>i=0/\Same H1 H'/\∃z2 z3,σ=[some (.ref r),some (.ref a),z2,z3]) ⟨rfl,Same.refl _,_,_,rfl⟩ (λi σ H' h=>⟨h.2.1.sqt (L.sqt I),h.2.1.sqt J⟩) ?_ ?_⟩
 .rintro i x y' q σ H2 ex ey nq ⟨rfl,s2,z2,z3,rfl⟩;cases ex;cases ey;have s3:=Same.upd (o:=.tup [.int 0,.int y]) nq;have O:=L.trans (s2.trans s3);refine⟨q,exI rfl ⟨SqT.new,rfl,_,_,rfl,_,_,rfl,rfl,?_⟩⟩;refine⟨_,rfl,_,rfl,_,rfl,r,hs,0,rfl,hR.same O,S,λu0 u1 p4 H4 n4 s4 f4=>?_,λad=>absurd ad ⋯⟩;refine⟨p4,exI rfl ⟨.inl (SqL.of f4),rfl,wqb _,_,rfl,?_⟩⟩;show if(!inV (.int y) ((yf hs 0).map V.int))=true then _ else _
  rw[in_cov,aP ⋯];refine uc ?_;exact⟨sz1,kx _ (O.trans s4)⟩
 .rintro σ H2 ⟨e,_⟩;exact absurd (show(2:Nat)=0 from e) ⋯
include T in
theorem qzr (F:Fun K "point_of" "point_of" zbo f fd)(zha:Cal P w K mg base "check_row" 5 (vf K q9 qg)):FK P w K mg base 6 f fd ["road","row"] (vf K q9 qg):=by
 have I:=qzd;refine F.okX I (λvs H Q E h=>by obtain⟨_,_,_,_,rfl,_⟩:=h;rfl) λ_ _ _ _ H vs Q E U h=>?_;obtain⟨r,a,hs,y,rfl,S,J,O,L,kx⟩:=h;refine⟨_,(wu (xj (wCA zha (wm (pv 0) (wm (pv 1) wx))))
   kf),?_⟩
 exact exI rfl (exI rfl ⟨r,a,hs,y,rfl,S,J,O,L,kx⟩)
def j0 (i:Int):Str:=Str.ofString (toString i)
def txB (n:Nat):Str:=("road a 0 " : Str)++j0 (2+(n:Int))
def txW (n:Nat):List Str:=["road","a","0",j0 (2+(n:Int))]
theorem qjg:∀n:Nat,n<50->(txB n).length<=12:=by decide +kernel
theorem wvh:∀n:Nat,n<50->Txt.split (txB n) "\n" = [txB n]:=by decide +kernel
theorem wxd:∀n:Nat,n<50->Txt.split (txB n) " " = txW n:=by decide +kernel
theorem tx_ne:∀n:Nat,n<50->txB n ≠ "" := by decide +kernel
def figB (c:Nat):Bool:=!(Builtin.Str.occurrences (Str.ofString "0123456789") ⟨#[c]⟩ 0 (Str.ofString "0123456789").length 1).isEmpty
theorem wvf:∀i:Nat,i<100->1<=(j0 (i:Int)).length/\(j0 (i:Int)).length<=3/\((List.range (j0 (i:Int)).cps.size).all λj=>figB ((j0 (i:Int)).cps.getD j 0))=true:=by decide +kernel
def qwp:Sp:=λvs H Q _=>∃i:Int,vs=[.str (j0 i)]/\0<=i/\i<100/\∀H',Same H H'->Q (.int i) H'
include T in
theorem qx1 (F:Fun K "number_of" "number_of" zb6 f fd):FK P w K mg base 1 f fd ["word"] qwp:=by
 have S:=qzy;refine F.okX S (λvs H Q E h=>by obtain⟨_,rfl,_⟩:=h;rfl) λ_ _ _ _ H vs Q E hr h=>?_;obtain⟨i,rfl,J,i1,k⟩:=h;obtain⟨t1,O⟩:=T.zau;obtain⟨t2,L⟩:=T.zav;obtain⟨Z,U,I⟩:=wvf i.toNat ⋯;rw[cF J]at Z U I;have ad:(1000000:Nat)<sizeLine:=by decide
 refine⟨_,(wu (x9 (PW.pt (Wr (w9 uz (w4 k9 rfl T.len_ aN (wm (pv 0) wx)) wc (xq _)) (Wr (w9 yr (w4 k9 rfl T.len_ aN (wm (pv 0) wx)) (zq (v:=V.int 3) rfl O ⟨_,rfl⟩) (xq _)) (u8 (qjz (qjb (w4 (uk rfl) rfl T.all_ qz3 (w8 (jc (M:=[]) rfl rfl (by walk_at "cap") (by walk_at "has") (by walk_at "cix") rfl (by decide +kernel) rfl (show List.Nodup (["sign"]:List Str) by decide +kernel) (wwp (pv 0)) (λ_ _ _ _ _=>(Qb qq4 (pv 0) (zq (v:=V.str "0123456789") rfl L ⟨_,rfl⟩) rfl))) wx)))))))) (wy (zj rfl T.zab xg rfl T.zcg (xv xf wx))) xk)
   (wy (x6 (y3 qqc rfl T.int_ PyProof.Rows.boot_int (wm (pv 0) wx))))),?_⟩
 refine⟨_,rfl,_,rfl,⋯,_,_,rfl,rfl,_,rfl,v3 (λe=>absurd e ⋯) λ_=>?_⟩;refine⟨_,rfl,_,rfl,⋯,_,_,rfl,rfl,_,rfl,v3 (λe=>absurd e ⋯) λ_=>?_⟩;have e0:(j0 i).cps.size=(j0 i).length:=rfl;refine exI rfl (exI rfl (qzc (λj=>.bl (figB ((j0 i).cps.getD j 0))) ⋯ (λj H' R hj hs hR=>(exI rfl (xh rfl rfl hR))) λp np=>?_));refine⟨p,(List.range (j0 i).cps.size).map λj=>figB ((j0 i).cps.getD j 0),rfl,by rw[bw];exact SqL.new,?_⟩;rw[show((List.range (j0 i).cps.size).map λj=>figB ((j0 i).cps.getD j 0)).all id=true by rw[List.all_map];exact I];refine exI rfl (Y0 ?_);exact⟨_,rfl,_,i,rfl,cY J ⋯,⋯,k _ (Same.upd np)⟩
theorem qv1 {z:Str}{c:Nat}(h:z.length<=1000000):z.length<=sizeLine/\(Builtin.Str.partsBetween z (Builtin.Str.occurrences z ⟨#[c]⟩ 0 z.length (z.length+1)) (⟨#[c]⟩:Str).length).length<=sizeLine:=by
 have F:(1000010:Nat)<sizeLine:=by decide
 refine⟨⋯,?_⟩;rw[PySem.length_partsBetween];have:=PySem.StrLaws.occ_length_le z ⟨#[c]⟩ 0 z.length (z.length+1);lia
theorem cut2 (x y:V)(l:List V):Wu (x::y::l) (some 2) none=l:=by unfold Wu HT.sIx;simp
theorem at0 (x:V)(l:List V):atI (x::l) 0=some x:=y7 (j:=0) rfl
theorem at1 (x y:V)(l:List V):atI (x::y::l) 1=some y:=y7 (j:=1) rfl
theorem nl_eq:("\n" : Str)=⟨#[10]⟩:=by decide +kernel
theorem sp_eq:(" " : Str)=⟨#[32]⟩:=by decide +kernel
theorem wxn (n:Nat):¬ xu [0,2+(n:Int)]:=λh=>by have:=(h.2.2 (2+(n:Int)) (by simp)).2;simp only[aB,bp]at this;lia
def qwt (C CL:Aj):Sp:=λvs H Q E=>∃(x dr dw dd:Aj) (n:Nat),vs=[.ref x,.str (txB n)]/\n<50/\Hse C H x dr dw dd [] [] []/\∀H',Same H H'->E (.ref CL) none H'
include T in
theorem wzx (F:Fun K "take_in" "take_in" zb7 f fd)(zay:MCal P w K mg base qf "lay" 4 (qq0 K qf q9 qu qp qy))(zck:MCal P w K mg base qf "place" 5 (Qk K qf q9 q8 qu qp qh qx qb))(zct:Cal P w K mg base "number_of" 1 qwp) :
  FK P w K mg base 6 f fd ["house","row"] (qwt qf qy):=by
 have sc:=qkk;refine F.okX sc (λvs H Q E h=>by obtain⟨_,_,_,_,_,rfl,_⟩:=h;rfl) λ_ _ _ s H vs Q E S h=>?_;obtain⟨x,dr,dw,dd,n,rfl,Z,hh,ke⟩:=h;have an:(1000000:Nat)<sizeLine:=by decide
 refine⟨_,(wu (zx (i:=2) (qj4 PySem.F.plainAttrs_str PySem.F.slot_str_split PySem.F.type_str_split qzb (pv 1) (xv xf wx)))
   (wy (x9 (PW.pt (qjy (w9 vz (vg z7 (pv 2) wc (λ_ _=>rfl)) xf (xq _)) (qxq (w9 yr (w4 xn rfl T.len_ aN (wm (pv 2) wx)) wc (xq _))))) (wy (xj (xy (pv 0) T.clH zay (S.mono ⋯) wv (yj (vg z7 (pv 2) wc (λ_ _=>rfl)) (w8 (jc (M:=[]) rfl rfl (by walk_at "cap") (by walk_at "has") (by walk_at "cix") rfl (by decide +kernel) rfl (show List.Nodup (["word"]:List Str) by decide +kernel) (y6 (Z3 wv3 (pv 2) (qzk wc) qzw)) (λ_ _ _ _ _=>(xx zct (S.mono ⋯) rfl wws (wm (pv 0) wx)))) wx))))) (wy (x9 (PW.pt (qjy (w9 vz (vg z7 (pv 2) wc (λ_ _=>rfl)) xf (xq _)) (qxq (w9 vz (w4 xn rfl T.len_ aN (wm (pv 2) wx)) wc (xq _))))) (wy (xj (xy (pv 0) T.clH zck (S.mono ⋯) wv (yj (vg z7 (pv 2) wc (λ_ _=>rfl)) (yj (vg z7 (pv 2) wc (λ_ _=>rfl)) (Zn (jj (zm (wCA zct (yj (vg z7 (pv 2) wc (λ_ _=>rfl)) wx)) (zm (wCA zct (yj (vg z7 (pv 2) wc (λ_ _=>rfl)) wx)) wx))) wx)))))) (wy (zj rfl T.zab xg rfl T.zcg (xv xf wx)))))))),?_⟩
 dsimp only [Q7];have a0:=qjg n Z;obtain⟨z1,z2⟩:=qv1 (z:=txB n) (c:=32) ⋯;have es:=wxd n Z;refine⟨_,rfl,rfl,_,_,rfl,rfl,by decide +kernel,z1,by rw[sp_eq];exact z2,by rw[es];exact aQ (show 4<=1000000 by decide) (aZ an),λl nl=>?_⟩;rw[es];have L:Same H (upd H l (.lst ((txW n).map V.str))):=Same.upd nl;have I:upd H l (.lst ((txW n).map V.str)) l=some (.lst [V.str "road",V.str "a",V.str "0",V.str (j0 (2+(n:Int)))]):=wj;generalize upd H l (.lst ((txW n).map V.str))=H1 at L I;have h1:=hh.same L;obtain⟨dx,hx⟩:=h1.ob;refine exI rfl ⟨l,_,_,_,rfl,rfl,SqL.of I,at0 _ _,rfl,_,rfl,v3 (λ_=>?_) λe=>absurd rfl e⟩;refine exI rfl ⟨l,exI rfl ⟨.inl (SqL.of I),xh rfl rfl (exI rfl (v3 (λ_=>?_) λe=>absurd (by simp only[aB,bp];lia) e))⟩⟩;refine exI rfl ⟨x,dx,exI rfl ⟨hx,xt,exI rfl ⟨l,_,_,_,rfl,rfl,SqL.of I,at1 _ _ _,?_⟩⟩⟩;refine exI rfl (exI rfl ⟨l,exI rfl ⟨SqL.of I,λl2 ad=>?_⟩⟩);rw[cut2];refine⟨l2,rfl,⟨_,SqL.of wj⟩,qk7 (λx=>match x with|.str z=>.int ((intText? z).getD 0)|_=>.non) (λx b=>by split <;> exactλz=>nomatch z) (SqL.of wj) (by simp only[aB,bp];lia) (λx H' R O s2 hR=>?_) λp H2 np s2 f2=>?_⟩
 .have hi:∃i:Int,x=V.str (j0 i)/\0<=i/\i<100:=by
   rcases av.mp O with rfl|O
   .exact⟨0,bI V.str (by decide +kernel),⋯,⋯⟩
   .exact⟨2+n,aH.mp O,⋯,⋯⟩
  obtain⟨i,rfl,U,i1⟩:=hi;refine exI rfl ⟨i,rfl,U,i1,λap J=>?_⟩;have:=hR ap J;dsimp only at this;rw[show intText? (j0 i)=some i from cY U ⋯]at this;exact this
 .have em:[V.str "0",V.str (j0 (2+(n:Int)))].map (λx=>match x with | .str z=>V.int ((intText? z).getD 0) | _=>.non)=([0,2+(n:Int)]:List Int).map V.int:=by
   have e0:intText? (Str.ofString "0")=some 0:=by decide +kernel
   have e1:intText? (j0 (2+(n:Int)))=some (2+(n:Int)):=cY ⋯ ⋯;simp only[ay,bj];rw[e0,e1];rfl
  rw[em]at f2;dsimp only [k8,qqq,tC];have J:=(L.trans (Same.upd (o:=.lst [V.str "0",V.str (j0 (2+(n:Int)))]) ad)).trans s2;have h3:=hh.same J;exact⟨x,dr,dw,dd,p,[],[],[],"a",[0,2+(n:Int)],rfl,h3,(λv hv=>nomatch hv),aD _,aD _,aD _,by decide +kernel,f2,(λ_ _ lo=>absurd lo (wxn n)),(λz=>absurd z (by decide +kernel)),(λ_ z=>absurd z ⋯),λ_ _ _ H' s'=>ke H' (J.trans s')⟩
def Yg (CL:Aj):Sp:=λvs H Q E=>∃n:Nat,vs=[.str (txB n)]/\n<50/\∀H',Same H H'->E (.ref CL) none H'
include T in
theorem quw (F:Fun K "house_of" "house_of" zb8 f fd)(za4:CCal P w K mg base "House" qf 1 (Qt qf))(zhb:Cal P w K mg base "take_in" 6 (qwt qf qy)) :
  FK P w K mg base 7 f fd ["text"] (Yg qy):=by
 have sc:=qvh;refine F.okX sc (λvs H Q E h=>by obtain⟨_,rfl,_⟩:=h;rfl) λ_ _ _ s H vs Q E hr h=>?_;obtain⟨n,rfl,J,ke⟩:=h;have a3:(1000000:Nat)<sizeLine:=by decide
 refine⟨_,(wu (zx (i:=1) (Q3 za4 (hr.mono ⋯) rfl wv))
   (wu (Y2 bF rfl (y6 (qv6 (w9 op_ne (pv 0) xf (xq _)) (qj4 PySem.F.plainAttrs_str PySem.F.slot_str_split PySem.F.type_str_split qzb (pv 0) (xv xf wx)) (vk wx))) (zc (i:=2)) (wy (xj (wCA zhb (wm (pv 1) (wm (pv 2) wx))))))
   kf)),?_⟩
 dsimp only [Q7];refineλx d9 U ad a4=>⟨x,d9,rfl,wj,λI a1 ap a2 a7 a6 a5 a0 an=>⟨rfl,?_⟩⟩;have s4:Same H I:=λz o e=>an z o (λy=>by rw[aH.mp y,U]at e;cases e) (by rw[wf (wz e U),wf (wz e ad)];exact e);have a8:=qjg n J;obtain⟨z1,Z⟩:=qv1 (z:=txB n) (c:=10) ⋯;have es:=wvh n J;refine exI rfl ⟨rfl,_,rfl,iteND (λ_=>⟨_,rfl,rfl,_,_,rfl,rfl,by decide +kernel,z1,by rw[nl_eq];exact Z,by rw[es];exact aQ (show 1<=1000000 by decide) (aZ a3),λl n5=>?_⟩) λz=>absurd (V.str.inj z) (tx_ne n J)⟩;rw[es];have O:Same I (upd I l (.lst ([txB n].map V.str))):=Same.upd n5;have S:upd I l (.lst ([txB n].map V.str)) l=some (.lst [V.str (txB n)]):=wj;generalize upd I l (.lst ([txB n].map V.str))=H5 at O S;have h5:=a0.same O;refine⟨l,rfl,⟨_,SqL.of S⟩,wxq (xs:=[V.str (txB n)]) (λi σ L=>i=0/\L=H5/\∃z:Option V,σ=[some (.str (txB n)),some (.ref x),z]) ⟨rfl,rfl,_,rfl⟩ (λi σ L _ h=>by rw[h.2.1];exact SqL.of S) ?_ ?_⟩
 .rintro i y σ L hi ⟨rfl,rfl,z,rfl⟩;cases hi;exact exI rfl (exI rfl ⟨x,a1,ap,a2,n,rfl,J,h5,λH' s'=>ke H' ((s4.trans O).trans s')⟩)
 .rintro σ L ⟨e,_⟩;exact absurd (show(1:Nat)=0 from e) ⋯
def qx0 (CT:Aj):Sp:=λvs H Q E=>∃n:Nat,vs=[.str (txB n)]/\n<50/\∀d H',Same H H'->E (.ref CT) d H'
include T in
theorem wzd (F:Fun K "read_house" "read_house" zb9 f fd)(zhc:Cal P w K mg base "house_of" 7 (Yg qy)) :
  FK P w K mg base 8 f fd ["text"] (qx0 qd):=by
 have I:=qqb;refine F.okX I (λvs H Q E h=>by obtain⟨_,rfl,_⟩:=h;rfl) λ_ _ _ s H vs Q E L h=>?_;obtain⟨n,rfl,O,J⟩:=h;refine⟨_,(wu (wz7 rfl rfl (λ_=>PassesOwnAt.leaving) rfl T.zfv (λpn U E S Z=>(wy (zx (i:=1) (xx zhc (L.mono ⋯) rfl S (wm (pv 0) wx))))) (λe pn W=>(wy (qy3 W T.zab Jk rfl T.zcg (xv xf wx)))))
   kf),?_⟩
 exact exI rfl ⟨n,rfl,O,λH' s'=>⟨rfl,qy,rfl,W0 T.zaz T.xi_BadLine.mr,sz1,λd=>J _ H' s'⟩⟩
variable {A:TS}{σ:St}
theorem weqT {i:Nat}{B:TS}{D:Ends}(e:σ[i]?=some (some (.int j)))(k:A D σ H):tIfS (qq3 (tOp rEq (Wx i) (tC (.int j)))) A B D σ H:=by refine⟨_,e,rfl,_,rfl,?_⟩;rw[bv rfl];exact k
theorem weqF {c:Int}{i:Nat}{A B:TS}{D:Ends}(e:σ[i]?=some (some (.int c)))(k:B D σ H)(n:autoParam (c≠j) aU1._auto_1):tIfS (qq3 (tOp rEq (Wx i) (tC (.int j)))) A B D σ H:=by refine⟨_,e,rfl,_,rfl,?_⟩;rw[show decide (V.int c=V.int j)=false from aP λz=>n (by cases z;rfl)];exact k
theorem wcT {i:Nat}{u:TS}{D:Ends}{H:Hp}(e:σ[i]?=some (some (.int j)))(k:A { D with nx:=λ_ _=>False } σ H):tCut (tIfS (qq3 (tOp rEq (Wx i) (tC (.int j)))) A wwf) u D σ H :=
 ⟨λ_ _=>False,weqT e k,λ_ _ z=>z.elim⟩
theorem wcF {c:Int}{i:Nat}{A u:TS}{D:Ends}(e:σ[i]?=some (some (.int c)))(k:u D σ H)(n:autoParam (c≠j) aU1._auto_1):tCut (tIfS (qq3 (tOp rEq (Wx i) (tC (.int j)))) A wwf) u D σ H :=
 ⟨λσ' H'=>σ'=σ/\H'=H,weqF e ⟨rfl,rfl⟩ n,by rintro _ _ ⟨rfl,rfl⟩;exact k⟩
def cxs (l:List Aj)(w:Int):Aj:=l.getD w.toNat 0
def frB (w:Int):Bool:=decide (w<6)||decide (w=13)
def qxj (l:List Aj)(CR:Aj):Sp:=λvs H Q E=>∃(r:Aj) (w n:Int),vs=[.int w,.ref r,.int n]/\RoadAt CR H r [0,2,0]/\0<=w/\w<14/\0<=n/\n<50/\(frB w=true->∀d H',Same H H'->E (.ref (cxs l w)) d H')/\(frB w=false->∀H',Same H H'->Q .non H')
theorem ju:xu [0,2,0]:=⟨⋯,⋯,⋯⟩
theorem qww:xu [0,4,0,4,0]:=⟨⋯,⋯,⋯⟩
theorem quv {n:Int}(h:0<=n):¬ xu [0,2+n]:=λz=>by have:=(z.2.2 (2+n) (by simp)).2;simp only[aB,bp]at this;lia
variable {z:V}
theorem sz5 {x y:V}:[x,y,z,u,v].length<=sizeLine:=by show 5<=sizeLine;decide
theorem yt:∀(t:Nat) (k:Int),0<=k->k<4->qkp [0,4,0,4,0] t k=4 ^ t
 |0,_,_,_=>rfl
 |t+1,k,h0,h1=>by
  show((yf [0,4,0,4,0] k).map (qkp [0,4,0,4,0] t)).sum=4 ^ (t+1);have e:yf [0,4,0,4,0] k=[0,1,2,3]:=by rcases(by lia:k=0\/k=1\/k=2\/k=3) with rfl|rfl|rfl|rfl <;> decide
  rw[e,ay,ay,ay,ay,bj,yt t 0 ⋯ ⋯,yt t 1 ⋯ ⋯,yt t 2 ⋯ ⋯,yt t 3 ⋯ ⋯,Int.pow_succ];simp only[d6,List.sum_nil];lia
theorem wzr {m:Int}(h:5<=m):1000<crS [0,4,0,4,0] m.toNat:=by obtain⟨k,F⟩:∃k,m.toNat=5+k:=⟨m.toNat-5,⋯⟩;have e:crS [0,4,0,4,0] m.toNat=(List.map (λi:Nat=>qkp [0,4,0,4,0] m.toNat (i:Int)) (List.range 4)).sum:=rfl;rw[e,show List.range 4=[0,1,2,3] from rfl,ay,ay,ay,ay,bj,yt _ _ ⋯ ⋯,yt _ _ ⋯ ⋯,yt _ _ ⋯ ⋯,yt _ _ ⋯ ⋯,F,Int.pow_add];have p:(0:Int)<4 ^ k:=Int.pow_pos ⋯;simp only[d6,List.sum_nil];lia
theorem wkz {i:Int}(h:i.natAbs<100):i.natAbs.log2<1920:=by
 by_cases z:i.natAbs=0
 .rw[z];decide
 .exact(Nat.log2_lt z).mpr (aw (show i.natAbs<2 ^ 7 by lia) (Nat.pow_le_pow_right ⋯ ⋯))
theorem wwk (m:Nat)(h:m<50):(Str.ofString "road a 0 ").length+(Str.ofString (toString (2+(m:Int)))).length<=sizeLine:=by
 have e:(txB m).length=(Str.ofString "road a 0 ").length+(Str.ofString (toString (2+(m:Int)))).length:=by show((Str.ofString "road a 0 ").cps++(Str.ofString (toString (2+(m:Int)))).cps).size=_;rw[Array.size_append];rfl
 rw[<-e];exact aQ (qjg m h) (show 12<=sizeLine by decide)
include T in
theorem wwv (F:Fun K "_law_first" "_law_first" zcc f fd)(za0:CCal P w K mg base "Road" q9 2 (Q2 K qy q9))(zf8:MCal P w K mg base q9 "at" 4 (spAt K q9 qx qb))(zhd:Cal P w K mg base "ways" 2 (qwr qj))(zhe:Cal P w K mg base "rows" 7 (qxy q9 qc))
  (zhf:Cal P w K mg base "point_of" 6 (vf K q9 qg)) (zhg:Cal P w K mg base "read_house" 8 (qx0 qd)) :
  FK P w K mg base 9 f fd ["_law_which","_law_road","_law_number"] (qxj [qy,qx,qb,qj,qc,qg,qu,qp,qh,qk,qr,qt,qw,qd] q9):=by
 have sc:=qqz;refine F.okX sc (λvs H Q E h=>by obtain⟨_,_,_,rfl,_⟩:=h;rfl) λ_ _ _ s H vs Q E L h=>?_;obtain⟨r,w,n,rfl,O,w0,w1,n0,n1,J,kq⟩:=h;obtain⟨dx,q,h1,h2⟩:=id O;refine⟨_,(vd (x9 (w9 vz (pv 0) wc (xq _)) (wy (xj (yd za0 (L.mono ⋯) rfl wv (Y1 (vk (xv wc (k7 (xb z8 wc (pv 2)) wx))) wx)))) xk)
   (vd (x9 (w9 vz (pv 0) wc (xq _)) (wy (xj (xy (pv 1) T.cl zf8 (L.mono ⋯) wv (Zn (jj (wm (pv 2) (pa_cU (pe_un wzc (pv 2)) wx))) wx)))) xk)
   (vd (x9 (w9 vz (pv 0) wc (xq _)) (wy (xj (xy (pv 1) T.cl zf8 (L.mono ⋯) wv (Zn (jj (k7 (xb z8 wc (pv 2)) (xv wc wx))) wx)))) xk)
   (vd (x9 (w9 vz (pv 0) wc (xq _)) (wy (xj (wCA zhd (wm (pv 1) (k7 (xb z8 wc (pv 2)) wx))))) xk)
   (vd (x9 (w9 vz (pv 0) wc (xq _)) (wy (xj (wCA zhe (zm (yd za0 (L.mono ⋯) rfl wv (Y1 (vk (xv wc (xv wc (xv wc (xv wc (xv wc wx)))))) wx)) (k7 (xb z8 wc (xb jz (pv 2) wc)) wx))))) xk)
   (vd (x9 (w9 vz (pv 0) wc (xq _)) (wy (xj (wCA zhf (wm (pv 1) (Zn (jj (xv wc (k7 (xb z8 wc (pv 2)) wx))) wx))))) xk)
   (wy (x9 (w9 vz (pv 0) wc (xq _)) (wy (xj (wCA zhg (k7 (xb qjm xf (y3 qwg rfl T.str_ PyProof.Rows.boot_str (k7 (xb z8 wc (pv 2)) wx))) wx)))) xk)))))))),?_⟩
 rcases(by lia:w=0\/w=1\/w=2\/w=3\/w=4\/w=5\/w=13\/(6<=w/\w<=12)) with rfl|rfl|rfl|rfl|rfl|rfl|rfl|⟨w6,w12⟩
 .exact wcT rfl (exI rfl (xh rfl rfl ⟨sz2,λp np x d0 U Z ad=>Zj (hs:=[0,2+n]) wj U Z (λz=>absurd z (quv n0)) λ_ H3 S=>J rfl none H3 ((Same.upd np).trans S)⟩))
 .refine wcF rfl (wcT rfl ((exI rfl ⟨r,dx,exI rfl ⟨h1,zf (by decide +kernel),exI rfl (exI rfl (exI rfl ⟨sz2,λp np=>?_⟩))⟩⟩)));have I:=Same.upd (o:=.tup [.int n,.int (-n)]) np;exact⟨r,p,[0,2,0],n,-n,rfl,O.same I,ju,SqT.new,(λz=>absurd z ⋯),λ_=>J rfl none _ I⟩
 .refine wcF rfl (wcF rfl (wcT rfl ((exI rfl ⟨r,dx,exI rfl ⟨h1,zf (by decide +kernel),exI rfl (xh rfl rfl ⟨sz2,λp np=>?_⟩)⟩⟩))));have I:=Same.upd (o:=.tup [.int (5+n),.int 2]) np;exact⟨r,p,[0,2,0],5+n,2,rfl,O.same I,ju,SqT.new,(λ_=>⟨Sm.mono (n:=65) (Sm.small ⋯ ⋯ ⋯) ⋯,(λz=>absurd z.2 (by simp only[aB,bp];lia)),λ_ H' s'=>J rfl none H' (I.trans s')⟩),λz=>absurd z ⋯⟩
 .exact wcF rfl (wcF rfl (wcF rfl (wcT rfl ⟨_,rfl,_,rfl,_,_,rfl,rfl,r,61+n,rfl,⋯,J rfl none H (Same.refl _)⟩)))
 .refine wcF rfl (wcF rfl (wcF rfl (wcF rfl (wcT rfl ⟨sz5,λp np x d0 U Z ad=>Zj (hs:=[0,4,0,4,0]) wj U Z (λ_ H3 S R3=>?_) (λz=>absurd qww z)⟩))));exact⟨_,rfl,_,_,rfl,rfl,(show(0:Int)<8 by decide),_,_,rfl,rfl,x,[0,4,0,4,0],5+n%8,rfl,R3,qww,⋯,⋯,wzr ⋯,λH' s'=>J rfl none H' (((Same.upd np).trans S).trans s')⟩
 .refine wcF rfl (wcF rfl (wcF rfl (wcF rfl (wcF rfl (wcT rfl ((exI rfl (exI rfl (xh rfl rfl ⟨sz2,λp np=>?_⟩)))))))));have I:=Same.upd (o:=.tup [.int 0,.int (2+n)]) np;exact⟨r,p,[0,2,0],2+n,rfl,O.same I,ju,SqT.new,by rw[show hiH [0,2,0] 0=2 by decide];lia,λH' s'=>J rfl none H' (I.trans s')⟩
 .refine wcF rfl (wcF rfl (wcF rfl (wcF rfl (wcF rfl (wcF rfl (weqT rfl ?_))))));obtain⟨m,rfl⟩:=Int.eq_ofNat_of_zero_le n0;exact⟨_,rfl,_,_,rfl,rfl,_,rfl,wkz ⋯,_,_,rfl,rfl,wwk m ⋯,m,rfl,⋯,λd H' s'=>J rfl d H' s'⟩
 .refine wcF rfl (wcF rfl (wcF rfl (wcF rfl (wcF rfl (wcF rfl (weqF rfl ?_ ⋯) ⋯) ⋯) ⋯) ⋯) ⋯) ⋯;exact kq (by unfold frB;rw[aP ⋯,aP ⋯];rfl) H (Same.refl _)
structure HK (C CW:Aj)(H:Hp)(x dr dw dd:Aj)(R W:List (Key×V))(D:List V):Prop where
 h:Hse C H x dr dw dd R W D
 rf:qqy D
 lR:R.length<=1000
 lW:W.length<=1000
 lD:D.length<=1000000
 ra:(wt R (.inr "a")).isSome=true
 rc:wt R (.inr "c")=none
 wd:wt W (.inr "d")=none
 wk:∃ss wh ps,WksAt CW H W ss wh ps/\∃s∈ss,wh s = "a"
 wa:∃y p pt t tv,wt W (.inr "a")=some (.ref y)/\WkAt CW H y "a" p pt t tv
 wb:∃y p pt t tv,wt W (.inr "b")=some (.ref y)/\WkAt CW H y "b" p pt t tv
theorem HK.same (h:HK C CW H x dr dw dd R W D)(s:Same H H'):HK C CW H' x dr dw dd R W D:=by
 refine⟨h.h.same s,h.rf,h.lR,h.lW,h.lD,h.ra,h.rc,h.wd,?_,?_,?_⟩
 .obtain⟨J,I,ps,a,b⟩:=h.wk;exact⟨J,I,ps,a.same s,b⟩
 .obtain⟨y,p,F,t,tv,a,b⟩:=h.wa;exact⟨y,p,F,t,tv,a,b.same s⟩
 .obtain⟨y,p,F,t,tv,a,b⟩:=h.wb;exact⟨y,p,F,t,tv,a,b.same s⟩
def Y4 (l:List Aj)(C CW:Aj):Sp:=λvs H Q E=>∃(x dr dw dd:Aj) (R W:List (Key×V)) (D:List V) (w n:Int),vs=[.int w,.ref x,.int n]/\HK C CW H x dr dw dd R W D/\0<=w/\w<14/\0<=n/\n<50/\(frB w=false->∀d H',Same H H'->E (.ref (cxs l w)) d H')/\(frB w=true->∀H',Same H H'->Q .non H')
theorem no_A {z:Str}(h:z = "" \/ z = "A" \/ z = "AA"):vt z=false/\z.length<=1000:=by rcases h with rfl|rfl|rfl <;> decide +kernel
include T in
theorem qu0 (F:Fun K "_law_second" "_law_second" zcd f fd)(za4:CCal P w K mg base "House" qf 1 (Qt qf))(zay:MCal P w K mg base qf "lay" 4 (qq0 K qf q9 qu qp qy))(zhh:MCal P w K mg base qf "bend" 2 (qx9 qf qh))(zhi:MCal P w K mg base qf "go" 2 (wx9 qf qk))
  (zhj:MCal P w K mg base qf "clear" 2 (Jw qf q8 qr)) (zhk:MCal P w K mg base qf "meet" 2 (qxm qf q8 qt)) (zhl:MCal P w K mg base qf "take_back" 1 (qxh qf qw)) :
  FK P w K mg base 5 f fd ["_law_which","_law_house","_law_number"] (Y4 [qy,qx,qb,qj,qc,qg,qu,qp,qh,qk,qr,qt,qw,qd] qf q8):=by
 have sc:=Jz;refine F.okX sc (λvs H Q E h=>by obtain⟨_,_,_,_,_,_,_,_,_,rfl,_⟩:=h;rfl) λ_ _ _ s H vs Q E J h=>?_;obtain⟨x,dr,dw,dd,R,W,D,w,n,rfl,I,w0,w1,n0,n1,L,kq⟩:=h;obtain⟨dx,O⟩:=I.h.ob;refine⟨_,(vd (x9 (w9 vz (pv 0) wc (xq _)) (wy (xj (xy (pv 1) T.clH zay (J.mono ⋯) wv (k7 (xb wzq xf (xb jz (pv 2) wc)) (Y1 (vk (xv wc (xv wc wx))) wx))))) xk)
   (vd (x9 (w9 vz (pv 0) wc (xq _)) (wy (xj (xy (pv 1) T.clH zay (J.mono ⋯) wv (xv xf (Y1 (vk (xv wc (xv wc wx))) wx))))) xk)
   (vd (x9 (w9 vz (pv 0) wc (xq _)) (wy (xj (xy (pv 1) T.clH zhh (J.mono ⋯) wv (xv xf (wm (pv 2) (wm (pv 2) wx)))))) xk)
   (vd (x9 (w9 vz (pv 0) wc (xq _)) (wy (xj (xy (pv 1) T.clH zhi (J.mono ⋯) wv (xv xf (wm (pv 2) wx))))) xk)
   (vd (x9 (w9 vz (pv 0) wc (xq _)) (wy (xj (xy (pv 1) T.clH zhj (J.mono ⋯) wv (xv xf wx)))) xk)
   (vd (x9 (w9 vz (pv 0) wc (xq _)) (wy (xj (xy (pv 1) T.clH zhk (J.mono ⋯) wv (xv xf (xv xf wx))))) xk)
   (wy (x9 (w9 vz (pv 0) wc (xq _)) (wy (xj (kd (Q3 za4 (J.mono ⋯) rfl wv) T.clH zhl (J.mono ⋯) wv))) xk)))))))),?_⟩
 rcases(by lia:w=6\/w=7\/w=8\/w=9\/w=10\/w=11\/w=12\/(w<6\/w=13)) with rfl|rfl|rfl|rfl|rfl|rfl|rfl|wn
 .refine wcT rfl ⟨_,rfl,x,dx,_,rfl,O,xt,_,rfl,_,_,rfl,rfl,(show(0:Int)<3 by decide),_,rfl,rfl,⋯,λz hz=>⟨sz2,λp np=>?_⟩⟩;obtain⟨U,z2⟩:=no_A hz;have S:=Same.upd (o:=.lst [.int 0,.int 1]) np;exact⟨x,dr,dw,dd,p,R,W,D,z,[0,1],rfl,I.h.same S,I.rf,I.lR,I.lW,I.lD,z2,wj,(λy=>by rw[U]at y;cases y),λ_ H' s'=>L rfl none H' (S.trans s'),(λy=>by rw[U]at y;cases y),(λy=>by rw[U]at y;cases y)⟩
 .refine wcF rfl (wcT rfl ((exI rfl ⟨x,dx,exI rfl ⟨O,xt,sz2,λp np=>?_⟩⟩)));have S:=Same.upd (o:=.lst [.int 0,.int 1]) np;have no:∀ {α:Prop},wt R (.inr "a")=none->α:=λe=>by have:=I.ra;rw[e]at this;cases this
  exact⟨x,dr,dw,dd,p,R,W,D,"a",[0,1],rfl,I.h.same S,I.rf,I.lR,I.lW,I.lD,by decide +kernel,wj,(λ_ e=>no e),(λy=>absurd y (by decide +kernel)),λ_ _ H' s'=>L rfl none H' (S.trans s'),λ_ e=>no e⟩
 .exact wcF rfl (wcF rfl (wcT rfl ((exI rfl ⟨x,dx,exI rfl ⟨O,xt,exI rfl (exI rfl ⟨x,dr,dw,dd,R,W,D,"c",n,n,rfl,I.h,I.rc,L rfl none H (Same.refl _)⟩)⟩⟩))))
 .exact wcF rfl (wcF rfl (wcF rfl (wcT rfl ((exI rfl ⟨x,dx,exI rfl ⟨O,xt,exI rfl ⟨x,dr,dw,dd,R,W,D,"d",n,rfl,I.h,I.wd,L rfl none H (Same.refl _)⟩⟩⟩)))))
 .obtain⟨ss,wh,ps,a,b⟩:=I.wk;exact wcF rfl (wcF rfl (wcF rfl (wcF rfl (wcT rfl ((exI rfl ⟨x,dx,exI rfl ⟨O,xt,x,dr,dw,dd,R,W,D,"a",ss,wh,ps,rfl,I.h,a,I.ra,b,λH' s'=>L rfl none H' s'⟩⟩))))))
 .obtain⟨y,p,pt,t,tv,e1,a1⟩:=I.wa;obtain⟨y',p',ap,t',an,e2,a2⟩:=I.wb;exact wcF rfl (wcF rfl (wcF rfl (wcF rfl (wcF rfl (wcT rfl ⟨_,rfl,x,dx,_,rfl,O,xt,x,dr,dw,dd,R,W,D,"a","b",y,"a",p,pt,t,tv,y',"b",p',ap,t',an,rfl,I.h,e1,a1,e2,a2,by decide +kernel,L rfl none H (Same.refl _)⟩)))))
 .refine wcF rfl (wcF rfl (wcF rfl (wcF rfl (wcF rfl (wcF rfl (weqT rfl ?_))))));refineλZ d9 nx a0 a9=>⟨Z,d9,rfl,wj,λH4 a6 a5 a7 bl bk bf ad a3=>⟨rfl,?_⟩⟩;have s4:Same H H4:=λz o e=>a3 z o (λy=>by rw[aH.mp y,nx]at e;cases e) (by rw[wf (wz e nx),wf (wz e a0)];exact e);obtain⟨a8,a4⟩:=ad.ob;exact⟨Z,a8,exI rfl ⟨a4,xt,Z,a6,a5,a7,[],[],rfl,ad,L rfl none H4 s4⟩⟩
 .refine wcF rfl (wcF rfl (wcF rfl (wcF rfl (wcF rfl (wcF rfl (weqF rfl ?_ ⋯) ⋯) ⋯) ⋯) ⋯) ⋯) ⋯;exact kq (by unfold frB;rcases wn with z|z <;> simp[z]) H (Same.refl _)
theorem xc {X:Cx}{e:Aj}{ob:Obj}{Kx:Aa}(hK:X.K=Kx)(hm:(e,ob)∈X.pn)(hc:ob.cls=.ref C)(hv:∃vs,ob.data=.fields vs)(hI:ExcI Kx C) :
  kj X (.builtin "isinstance") (λxs H Q=>∃c b,xs=[.ref e,c]/\PySem.W.kitOne Kx (.ref C) (clV c)=some b/\Q (.bl b) H):=by
 subst hK;exact qw3 hm hc hv hI
theorem kq0 (T:Txt K mg qm qy qx qb qj qc qg qu qp qh qk qr qt qw qd q9 q8 qf){w:Int}(w0:0<=w)(w1:w<14):PySem.W.kitOne K (.ref (cxs [qy,qx,qb,qj,qc,qg,qu,qp,qh,qk,qr,qt,qw,qd] w)) (clV (.ref qy))=some (decide ((0:Int)=w)):=by
 rcases(by lia:w=0\/w=1\/w=2\/w=3\/w=4\/w=5\/w=6\/w=7\/w=8\/w=9\/w=10\/w=11\/w=12\/w=13) with rfl|rfl|rfl|rfl|rfl|rfl|rfl|rfl|rfl|rfl|rfl|rfl|rfl|rfl
 .exact zp
 .exact wq T.zad T.ms_BadBottom.1
 .exact wq T.zad T.ms_OffRoad.1
 .exact wq T.zad T.ms_BadCount.1
 .exact wq T.zad T.ms_TooLong.1
 .exact wq T.zad T.ms_BadRow.1
 .exact wq T.zad T.ms_BadName.1
 .exact wq T.zad T.ms_Taken.1
 .exact wq T.zad T.ms_NoRoad.1
 .exact wq T.zad T.ms_NoWalker.1
 .exact wq T.zad T.ms_Stood.1
 .exact wq T.zad T.ms_Apart.1
 .exact wq T.zad T.ms_NothingDone.1
 .exact wq T.zad T.ms_BadText.1
theorem kq1 (T:Txt K mg qm qy qx qb qj qc qg qu qp qh qk qr qt qw qd q9 q8 qf){w:Int}(w0:0<=w)(w1:w<14):PySem.W.kitOne K (.ref (cxs [qy,qx,qb,qj,qc,qg,qu,qp,qh,qk,qr,qt,qw,qd] w)) (clV (.ref qx))=some (decide ((1:Int)=w)):=by
 rcases(by lia:w=0\/w=1\/w=2\/w=3\/w=4\/w=5\/w=6\/w=7\/w=8\/w=9\/w=10\/w=11\/w=12\/w=13) with rfl|rfl|rfl|rfl|rfl|rfl|rfl|rfl|rfl|rfl|rfl|rfl|rfl|rfl
 .exact wq T.zac T.ms_BadLine.1
 .exact zp
 .exact wq T.zac T.ms_OffRoad.2.1
 .exact wq T.zac T.ms_BadCount.2.1
 .exact wq T.zac T.ms_TooLong.2.1
 .exact wq T.zac T.ms_BadRow.2.1
 .exact wq T.zac T.ms_BadName.2.1
 .exact wq T.zac T.ms_Taken.2.1
 .exact wq T.zac T.ms_NoRoad.2.1
 .exact wq T.zac T.ms_NoWalker.2.1
 .exact wq T.zac T.ms_Stood.2.1
 .exact wq T.zac T.ms_Apart.2.1
 .exact wq T.zac T.ms_NothingDone.2.1
 .exact wq T.zac T.ms_BadText.2.1
theorem kq2 (T:Txt K mg qm qy qx qb qj qc qg qu qp qh qk qr qt qw qd q9 q8 qf){w:Int}(w0:0<=w)(w1:w<14):PySem.W.kitOne K (.ref (cxs [qy,qx,qb,qj,qc,qg,qu,qp,qh,qk,qr,qt,qw,qd] w)) (clV (.ref qb))=some (decide ((2:Int)=w)):=by
 rcases(by lia:w=0\/w=1\/w=2\/w=3\/w=4\/w=5\/w=6\/w=7\/w=8\/w=9\/w=10\/w=11\/w=12\/w=13) with rfl|rfl|rfl|rfl|rfl|rfl|rfl|rfl|rfl|rfl|rfl|rfl|rfl|rfl
 .exact wq T.zae T.ms_BadLine.2.1
 .exact wq T.zae T.ms_BadBottom.2.1
 .exact zp
 .exact wq T.zae T.ms_BadCount.2.2.1
 .exact wq T.zae T.ms_TooLong.2.2.1
 .exact wq T.zae T.ms_BadRow.2.2.1
 .exact wq T.zae T.ms_BadName.2.2.1
 .exact wq T.zae T.ms_Taken.2.2.1
 .exact wq T.zae T.ms_NoRoad.2.2.1
 .exact wq T.zae T.ms_NoWalker.2.2.1
 .exact wq T.zae T.ms_Stood.2.2.1
 .exact wq T.zae T.ms_Apart.2.2.1
 .exact wq T.zae T.ms_NothingDone.2.2.1
 .exact wq T.zae T.ms_BadText.2.2.1
theorem kq3 (T:Txt K mg qm qy qx qb qj qc qg qu qp qh qk qr qt qw qd q9 q8 qf){w:Int}(w0:0<=w)(w1:w<14):PySem.W.kitOne K (.ref (cxs [qy,qx,qb,qj,qc,qg,qu,qp,qh,qk,qr,qt,qw,qd] w)) (clV (.ref qj))=some (decide ((3:Int)=w)):=by
 rcases(by lia:w=0\/w=1\/w=2\/w=3\/w=4\/w=5\/w=6\/w=7\/w=8\/w=9\/w=10\/w=11\/w=12\/w=13) with rfl|rfl|rfl|rfl|rfl|rfl|rfl|rfl|rfl|rfl|rfl|rfl|rfl|rfl
 .exact wq T.zaf T.ms_BadLine.2.2.1
 .exact wq T.zaf T.ms_BadBottom.2.2.1
 .exact wq T.zaf T.ms_OffRoad.2.2.1
 .exact zp
 .exact wq T.zaf T.ms_TooLong.2.2.2.1
 .exact wq T.zaf T.ms_BadRow.2.2.2.1
 .exact wq T.zaf T.ms_BadName.2.2.2.1
 .exact wq T.zaf T.ms_Taken.2.2.2.1
 .exact wq T.zaf T.ms_NoRoad.2.2.2.1
 .exact wq T.zaf T.ms_NoWalker.2.2.2.1
 .exact wq T.zaf T.ms_Stood.2.2.2.1
 .exact wq T.zaf T.ms_Apart.2.2.2.1
 .exact wq T.zaf T.ms_NothingDone.2.2.2.1
 .exact wq T.zaf T.ms_BadText.2.2.2.1
theorem kq4 (T:Txt K mg qm qy qx qb qj qc qg qu qp qh qk qr qt qw qd q9 q8 qf){w:Int}(w0:0<=w)(w1:w<14):PySem.W.kitOne K (.ref (cxs [qy,qx,qb,qj,qc,qg,qu,qp,qh,qk,qr,qt,qw,qd] w)) (clV (.ref qc))=some (decide ((4:Int)=w)):=by
 rcases(by lia:w=0\/w=1\/w=2\/w=3\/w=4\/w=5\/w=6\/w=7\/w=8\/w=9\/w=10\/w=11\/w=12\/w=13) with rfl|rfl|rfl|rfl|rfl|rfl|rfl|rfl|rfl|rfl|rfl|rfl|rfl|rfl
 .exact wq T.zag T.ms_BadLine.2.2.2.1
 .exact wq T.zag T.ms_BadBottom.2.2.2.1
 .exact wq T.zag T.ms_OffRoad.2.2.2.1
 .exact wq T.zag T.ms_BadCount.2.2.2.1
 .exact zp
 .exact wq T.zag T.ms_BadRow.2.2.2.2.1
 .exact wq T.zag T.ms_BadName.2.2.2.2.1
 .exact wq T.zag T.ms_Taken.2.2.2.2.1
 .exact wq T.zag T.ms_NoRoad.2.2.2.2.1
 .exact wq T.zag T.ms_NoWalker.2.2.2.2.1
 .exact wq T.zag T.ms_Stood.2.2.2.2.1
 .exact wq T.zag T.ms_Apart.2.2.2.2.1
 .exact wq T.zag T.ms_NothingDone.2.2.2.2.1
 .exact wq T.zag T.ms_BadText.2.2.2.2.1
theorem kq5 (T:Txt K mg qm qy qx qb qj qc qg qu qp qh qk qr qt qw qd q9 q8 qf){w:Int}(w0:0<=w)(w1:w<14):PySem.W.kitOne K (.ref (cxs [qy,qx,qb,qj,qc,qg,qu,qp,qh,qk,qr,qt,qw,qd] w)) (clV (.ref qg))=some (decide ((5:Int)=w)):=by
 rcases(by lia:w=0\/w=1\/w=2\/w=3\/w=4\/w=5\/w=6\/w=7\/w=8\/w=9\/w=10\/w=11\/w=12\/w=13) with rfl|rfl|rfl|rfl|rfl|rfl|rfl|rfl|rfl|rfl|rfl|rfl|rfl|rfl
 .exact wq T.zaa T.ms_BadLine.2.2.2.2.1
 .exact wq T.zaa T.ms_BadBottom.2.2.2.2.1
 .exact wq T.zaa T.ms_OffRoad.2.2.2.2.1
 .exact wq T.zaa T.ms_BadCount.2.2.2.2.1
 .exact wq T.zaa T.ms_TooLong.2.2.2.2.1
 .exact zp
 .exact wq T.zaa T.ms_BadName.2.2.2.2.2.1
 .exact wq T.zaa T.ms_Taken.2.2.2.2.2.1
 .exact wq T.zaa T.ms_NoRoad.2.2.2.2.2.1
 .exact wq T.zaa T.ms_NoWalker.2.2.2.2.2.1
 .exact wq T.zaa T.ms_Stood.2.2.2.2.2.1
 .exact wq T.zaa T.ms_Apart.2.2.2.2.2.1
 .exact wq T.zaa T.ms_NothingDone.2.2.2.2.2.1
 .exact wq T.zaa T.ms_BadText.2.2.2.2.2.1
theorem kq6 (T:Txt K mg qm qy qx qb qj qc qg qu qp qh qk qr qt qw qd q9 q8 qf){w:Int}(w0:0<=w)(w1:w<14):PySem.W.kitOne K (.ref (cxs [qy,qx,qb,qj,qc,qg,qu,qp,qh,qk,qr,qt,qw,qd] w)) (clV (.ref qu))=some (decide ((6:Int)=w)):=by
 rcases(by lia:w=0\/w=1\/w=2\/w=3\/w=4\/w=5\/w=6\/w=7\/w=8\/w=9\/w=10\/w=11\/w=12\/w=13) with rfl|rfl|rfl|rfl|rfl|rfl|rfl|rfl|rfl|rfl|rfl|rfl|rfl|rfl
 .exact wq T.zah T.ms_BadLine.2.2.2.2.2.1
 .exact wq T.zah T.ms_BadBottom.2.2.2.2.2.1
 .exact wq T.zah T.ms_OffRoad.2.2.2.2.2.1
 .exact wq T.zah T.ms_BadCount.2.2.2.2.2.1
 .exact wq T.zah T.ms_TooLong.2.2.2.2.2.1
 .exact wq T.zah T.ms_BadRow.2.2.2.2.2.1
 .exact zp
 .exact wq T.zah T.ms_Taken.2.2.2.2.2.2.1
 .exact wq T.zah T.ms_NoRoad.2.2.2.2.2.2.1
 .exact wq T.zah T.ms_NoWalker.2.2.2.2.2.2.1
 .exact wq T.zah T.ms_Stood.2.2.2.2.2.2.1
 .exact wq T.zah T.ms_Apart.2.2.2.2.2.2.1
 .exact wq T.zah T.ms_NothingDone.2.2.2.2.2.2.1
 .exact wq T.zah T.ms_BadText.2.2.2.2.2.2.1
theorem kq7 (T:Txt K mg qm qy qx qb qj qc qg qu qp qh qk qr qt qw qd q9 q8 qf){w:Int}(w0:0<=w)(w1:w<14):PySem.W.kitOne K (.ref (cxs [qy,qx,qb,qj,qc,qg,qu,qp,qh,qk,qr,qt,qw,qd] w)) (clV (.ref qp))=some (decide ((7:Int)=w)):=by
 rcases(by lia:w=0\/w=1\/w=2\/w=3\/w=4\/w=5\/w=6\/w=7\/w=8\/w=9\/w=10\/w=11\/w=12\/w=13) with rfl|rfl|rfl|rfl|rfl|rfl|rfl|rfl|rfl|rfl|rfl|rfl|rfl|rfl
 .exact wq T.zai T.ms_BadLine.2.2.2.2.2.2.1
 .exact wq T.zai T.ms_BadBottom.2.2.2.2.2.2.1
 .exact wq T.zai T.ms_OffRoad.2.2.2.2.2.2.1
 .exact wq T.zai T.ms_BadCount.2.2.2.2.2.2.1
 .exact wq T.zai T.ms_TooLong.2.2.2.2.2.2.1
 .exact wq T.zai T.ms_BadRow.2.2.2.2.2.2.1
 .exact wq T.zai T.ms_BadName.2.2.2.2.2.2.1
 .exact zp
 .exact wq T.zai T.ms_NoRoad.2.2.2.2.2.2.2.1
 .exact wq T.zai T.ms_NoWalker.2.2.2.2.2.2.2.1
 .exact wq T.zai T.ms_Stood.2.2.2.2.2.2.2.1
 .exact wq T.zai T.ms_Apart.2.2.2.2.2.2.2.1
 .exact wq T.zai T.ms_NothingDone.2.2.2.2.2.2.2.1
 .exact wq T.zai T.ms_BadText.2.2.2.2.2.2.2.1
theorem kq8 (T:Txt K mg qm qy qx qb qj qc qg qu qp qh qk qr qt qw qd q9 q8 qf){w:Int}(w0:0<=w)(w1:w<14):PySem.W.kitOne K (.ref (cxs [qy,qx,qb,qj,qc,qg,qu,qp,qh,qk,qr,qt,qw,qd] w)) (clV (.ref qh))=some (decide ((8:Int)=w)):=by
 rcases(by lia:w=0\/w=1\/w=2\/w=3\/w=4\/w=5\/w=6\/w=7\/w=8\/w=9\/w=10\/w=11\/w=12\/w=13) with rfl|rfl|rfl|rfl|rfl|rfl|rfl|rfl|rfl|rfl|rfl|rfl|rfl|rfl
 .exact wq T.zaj T.ms_BadLine.2.2.2.2.2.2.2.1
 .exact wq T.zaj T.ms_BadBottom.2.2.2.2.2.2.2.1
 .exact wq T.zaj T.ms_OffRoad.2.2.2.2.2.2.2.1
 .exact wq T.zaj T.ms_BadCount.2.2.2.2.2.2.2.1
 .exact wq T.zaj T.ms_TooLong.2.2.2.2.2.2.2.1
 .exact wq T.zaj T.ms_BadRow.2.2.2.2.2.2.2.1
 .exact wq T.zaj T.ms_BadName.2.2.2.2.2.2.2.1
 .exact wq T.zaj T.ms_Taken.2.2.2.2.2.2.2.1
 .exact zp
 .exact wq T.zaj T.ms_NoWalker.2.2.2.2.2.2.2.2.1
 .exact wq T.zaj T.ms_Stood.2.2.2.2.2.2.2.2.1
 .exact wq T.zaj T.ms_Apart.2.2.2.2.2.2.2.2.1
 .exact wq T.zaj T.ms_NothingDone.2.2.2.2.2.2.2.2.1
 .exact wq T.zaj T.ms_BadText.2.2.2.2.2.2.2.2.1
theorem kq9 (T:Txt K mg qm qy qx qb qj qc qg qu qp qh qk qr qt qw qd q9 q8 qf){w:Int}(w0:0<=w)(w1:w<14):PySem.W.kitOne K (.ref (cxs [qy,qx,qb,qj,qc,qg,qu,qp,qh,qk,qr,qt,qw,qd] w)) (clV (.ref qk))=some (decide ((9:Int)=w)):=by
 rcases(by lia:w=0\/w=1\/w=2\/w=3\/w=4\/w=5\/w=6\/w=7\/w=8\/w=9\/w=10\/w=11\/w=12\/w=13) with rfl|rfl|rfl|rfl|rfl|rfl|rfl|rfl|rfl|rfl|rfl|rfl|rfl|rfl
 .exact wq T.zak T.ms_BadLine.2.2.2.2.2.2.2.2.1
 .exact wq T.zak T.ms_BadBottom.2.2.2.2.2.2.2.2.1
 .exact wq T.zak T.ms_OffRoad.2.2.2.2.2.2.2.2.1
 .exact wq T.zak T.ms_BadCount.2.2.2.2.2.2.2.2.1
 .exact wq T.zak T.ms_TooLong.2.2.2.2.2.2.2.2.1
 .exact wq T.zak T.ms_BadRow.2.2.2.2.2.2.2.2.1
 .exact wq T.zak T.ms_BadName.2.2.2.2.2.2.2.2.1
 .exact wq T.zak T.ms_Taken.2.2.2.2.2.2.2.2.1
 .exact wq T.zak T.ms_NoRoad.2.2.2.2.2.2.2.2.1
 .exact zp
 .exact wq T.zak T.ms_Stood.2.2.2.2.2.2.2.2.2.1
 .exact wq T.zak T.ms_Apart.2.2.2.2.2.2.2.2.2.1
 .exact wq T.zak T.ms_NothingDone.2.2.2.2.2.2.2.2.2.1
 .exact wq T.zak T.ms_BadText.2.2.2.2.2.2.2.2.2.1
theorem kq10 (T:Txt K mg qm qy qx qb qj qc qg qu qp qh qk qr qt qw qd q9 q8 qf){w:Int}(w0:0<=w)(w1:w<14):PySem.W.kitOne K (.ref (cxs [qy,qx,qb,qj,qc,qg,qu,qp,qh,qk,qr,qt,qw,qd] w)) (clV (.ref qr))=some (decide ((10:Int)=w)):=by
 rcases(by lia:w=0\/w=1\/w=2\/w=3\/w=4\/w=5\/w=6\/w=7\/w=8\/w=9\/w=10\/w=11\/w=12\/w=13) with rfl|rfl|rfl|rfl|rfl|rfl|rfl|rfl|rfl|rfl|rfl|rfl|rfl|rfl
 .exact wq T.zal T.ms_BadLine.2.2.2.2.2.2.2.2.2.1
 .exact wq T.zal T.ms_BadBottom.2.2.2.2.2.2.2.2.2.1
 .exact wq T.zal T.ms_OffRoad.2.2.2.2.2.2.2.2.2.1
 .exact wq T.zal T.ms_BadCount.2.2.2.2.2.2.2.2.2.1
 .exact wq T.zal T.ms_TooLong.2.2.2.2.2.2.2.2.2.1
 .exact wq T.zal T.ms_BadRow.2.2.2.2.2.2.2.2.2.1
 .exact wq T.zal T.ms_BadName.2.2.2.2.2.2.2.2.2.1
 .exact wq T.zal T.ms_Taken.2.2.2.2.2.2.2.2.2.1
 .exact wq T.zal T.ms_NoRoad.2.2.2.2.2.2.2.2.2.1
 .exact wq T.zal T.ms_NoWalker.2.2.2.2.2.2.2.2.2.1
 .exact zp
 .exact wq T.zal T.ms_Apart.2.2.2.2.2.2.2.2.2.2.1
 .exact wq T.zal T.ms_NothingDone.2.2.2.2.2.2.2.2.2.2.1
 .exact wq T.zal T.ms_BadText.2.2.2.2.2.2.2.2.2.2.1
theorem kq11 (T:Txt K mg qm qy qx qb qj qc qg qu qp qh qk qr qt qw qd q9 q8 qf){w:Int}(w0:0<=w)(w1:w<14):PySem.W.kitOne K (.ref (cxs [qy,qx,qb,qj,qc,qg,qu,qp,qh,qk,qr,qt,qw,qd] w)) (clV (.ref qt))=some (decide ((11:Int)=w)):=by
 rcases(by lia:w=0\/w=1\/w=2\/w=3\/w=4\/w=5\/w=6\/w=7\/w=8\/w=9\/w=10\/w=11\/w=12\/w=13) with rfl|rfl|rfl|rfl|rfl|rfl|rfl|rfl|rfl|rfl|rfl|rfl|rfl|rfl
 .exact wq T.zam T.ms_BadLine.2.2.2.2.2.2.2.2.2.2.1
 .exact wq T.zam T.ms_BadBottom.2.2.2.2.2.2.2.2.2.2.1
 .exact wq T.zam T.ms_OffRoad.2.2.2.2.2.2.2.2.2.2.1
 .exact wq T.zam T.ms_BadCount.2.2.2.2.2.2.2.2.2.2.1
 .exact wq T.zam T.ms_TooLong.2.2.2.2.2.2.2.2.2.2.1
 .exact wq T.zam T.ms_BadRow.2.2.2.2.2.2.2.2.2.2.1
 .exact wq T.zam T.ms_BadName.2.2.2.2.2.2.2.2.2.2.1
 .exact wq T.zam T.ms_Taken.2.2.2.2.2.2.2.2.2.2.1
 .exact wq T.zam T.ms_NoRoad.2.2.2.2.2.2.2.2.2.2.1
 .exact wq T.zam T.ms_NoWalker.2.2.2.2.2.2.2.2.2.2.1
 .exact wq T.zam T.ms_Stood.2.2.2.2.2.2.2.2.2.2.1
 .exact zp
 .exact wq T.zam T.ms_NothingDone.2.2.2.2.2.2.2.2.2.2.2.1
 .exact wq T.zam T.ms_BadText.2.2.2.2.2.2.2.2.2.2.2.1
theorem kq12 (T:Txt K mg qm qy qx qb qj qc qg qu qp qh qk qr qt qw qd q9 q8 qf){w:Int}(w0:0<=w)(w1:w<14):PySem.W.kitOne K (.ref (cxs [qy,qx,qb,qj,qc,qg,qu,qp,qh,qk,qr,qt,qw,qd] w)) (clV (.ref qw))=some (decide ((12:Int)=w)):=by
 rcases(by lia:w=0\/w=1\/w=2\/w=3\/w=4\/w=5\/w=6\/w=7\/w=8\/w=9\/w=10\/w=11\/w=12\/w=13) with rfl|rfl|rfl|rfl|rfl|rfl|rfl|rfl|rfl|rfl|rfl|rfl|rfl|rfl
 .exact wq T.zan T.ms_BadLine.2.2.2.2.2.2.2.2.2.2.2.1
 .exact wq T.zan T.ms_BadBottom.2.2.2.2.2.2.2.2.2.2.2.1
 .exact wq T.zan T.ms_OffRoad.2.2.2.2.2.2.2.2.2.2.2.1
 .exact wq T.zan T.ms_BadCount.2.2.2.2.2.2.2.2.2.2.2.1
 .exact wq T.zan T.ms_TooLong.2.2.2.2.2.2.2.2.2.2.2.1
 .exact wq T.zan T.ms_BadRow.2.2.2.2.2.2.2.2.2.2.2.1
 .exact wq T.zan T.ms_BadName.2.2.2.2.2.2.2.2.2.2.2.1
 .exact wq T.zan T.ms_Taken.2.2.2.2.2.2.2.2.2.2.2.1
 .exact wq T.zan T.ms_NoRoad.2.2.2.2.2.2.2.2.2.2.2.1
 .exact wq T.zan T.ms_NoWalker.2.2.2.2.2.2.2.2.2.2.2.1
 .exact wq T.zan T.ms_Stood.2.2.2.2.2.2.2.2.2.2.2.1
 .exact wq T.zan T.ms_Apart.2.2.2.2.2.2.2.2.2.2.2.1
 .exact zp
 .exact wq T.zan T.ms_BadText.2.2.2.2.2.2.2.2.2.2.2.2
theorem kq13 (T:Txt K mg qm qy qx qb qj qc qg qu qp qh qk qr qt qw qd q9 q8 qf){w:Int}(w0:0<=w)(w1:w<14):PySem.W.kitOne K (.ref (cxs [qy,qx,qb,qj,qc,qg,qu,qp,qh,qk,qr,qt,qw,qd] w)) (clV (.ref qd))=some (decide ((13:Int)=w)):=by
 rcases(by lia:w=0\/w=1\/w=2\/w=3\/w=4\/w=5\/w=6\/w=7\/w=8\/w=9\/w=10\/w=11\/w=12\/w=13) with rfl|rfl|rfl|rfl|rfl|rfl|rfl|rfl|rfl|rfl|rfl|rfl|rfl|rfl
 .exact wq T.zab T.ms_BadLine.2.2.2.2.2.2.2.2.2.2.2.2
 .exact wq T.zab T.ms_BadBottom.2.2.2.2.2.2.2.2.2.2.2.2
 .exact wq T.zab T.ms_OffRoad.2.2.2.2.2.2.2.2.2.2.2.2
 .exact wq T.zab T.ms_BadCount.2.2.2.2.2.2.2.2.2.2.2.2
 .exact wq T.zab T.ms_TooLong.2.2.2.2.2.2.2.2.2.2.2.2
 .exact wq T.zab T.ms_BadRow.2.2.2.2.2.2.2.2.2.2.2.2
 .exact wq T.zab T.ms_BadName.2.2.2.2.2.2.2.2.2.2.2.2
 .exact wq T.zab T.ms_Taken.2.2.2.2.2.2.2.2.2.2.2.2
 .exact wq T.zab T.ms_NoRoad.2.2.2.2.2.2.2.2.2.2.2.2
 .exact wq T.zab T.ms_NoWalker.2.2.2.2.2.2.2.2.2.2.2.2
 .exact wq T.zab T.ms_Stood.2.2.2.2.2.2.2.2.2.2.2.2
 .exact wq T.zab T.ms_Apart.2.2.2.2.2.2.2.2.2.2.2.2
 .exact wq T.zab T.ms_NothingDone.2.2.2.2.2.2.2.2.2.2.2.2
 .exact zp
theorem kqI (T:Txt K mg qm qy qx qb qj qc qg qu qp qh qk qr qt qw qd q9 q8 qf){w:Int}(w0:0<=w)(w1:w<14):XI K (cxs [qy,qx,qb,qj,qc,qg,qu,qp,qh,qk,qr,qt,qw,qd] w) qm:=by
 rcases(by lia:w=0\/w=1\/w=2\/w=3\/w=4\/w=5\/w=6\/w=7\/w=8\/w=9\/w=10\/w=11\/w=12\/w=13) with rfl|rfl|rfl|rfl|rfl|rfl|rfl|rfl|rfl|rfl|rfl|rfl|rfl|rfl
 .exact T.xi_BadLine
 .exact T.xi_BadBottom
 .exact T.xi_OffRoad
 .exact T.xi_BadCount
 .exact T.xi_TooLong
 .exact T.xi_BadRow
 .exact T.xi_BadName
 .exact T.xi_Taken
 .exact T.xi_NoRoad
 .exact T.xi_NoWalker
 .exact T.xi_Stood
 .exact T.xi_Apart
 .exact T.xi_NothingDone
 .exact T.xi_BadText
def flV (w:Int):List V:=(List.range 14).map (λk:Nat=>V.bl (decide ((k:Int)=w)))++[V.bl true]
def qw5 (C CR CW:Aj):Sp:=λvs H Q _=>∃(r x dr dw dd:Aj) (R W:List (Key×V)) (D:List V) (w n:Int),vs=[.int w,.ref r,.ref x,.int n]/\RoadAt CR H r [0,2,0]/\HK C CW H x dr dw dd R W D/\0<=w/\w<14/\0<=n/\n<50/\∀q H',H q=none->Same H H'->H' q=some (.lst (flV w))->Q (.ref q) H'
theorem sz3 {x y:V}:[x,y,z].length<=sizeLine:=by show 3<=sizeLine;decide
theorem sz4 {x y:V}:[x,y,z,u].length<=sizeLine:=by show 4<=sizeLine;decide
include T in
theorem wzv (F:Fun K "_law_flags" "_law_flags" zce f fd)(zhm:Cal P w K mg base "_law_first" 9 (qxj [qy,qx,qb,qj,qc,qg,qu,qp,qh,qk,qr,qt,qw,qd] q9))(zhn:Cal P w K mg base "_law_second" 5 (Y4 [qy,qx,qb,qj,qc,qg,qu,qp,qh,qk,qr,qt,qw,qd] qf q8)) :
  FK P w K mg base 10 f fd ["_law_which","_law_road","_law_house","_law_number"] (qw5 qf q9 q8):=by
 have sc:=qqx;refine F.okX sc (λvs H Q E h=>by obtain⟨_,_,_,_,_,_,_,_,_,_,rfl,_⟩:=h;rfl) λ_ _ _ _ H vs Q E hr h=>?_;obtain⟨r,x,dr,dw,dd,R,W,D,w,n,rfl,hR,hk,w0,w1,n0,n1,k⟩:=h;have big:(1000:Nat)<=sizeLine:=by decide
 refine⟨_,(wu (zx (i:=4) (vk wx))
   (wu (qur (i:=5) (G:=λC=>ExcI K C) rfl rfl sc.nd rfl rfl rfl T.zfv (λpn xe E hE hO=>(wu (xj (xx zhm (hr.mono ⋯) rfl hE (wm (pv 0) (wm (pv 1) (wm (pv 3) wx)))))
   (wy (xj (xx zhn (hr.mono ⋯) rfl hE (wm (pv 0) (wm (pv 2) (wm (pv 3) wx)))))))) (λe ob C pn hm hc hv hG=>(wu (zx (i:=4) (vk (zm (w4 (xc (Kx:=K) rfl hm hc hv hG) rfl T.isinstance_ ax (w8 (pv 5) (w8 (zq (v:=V.ref qy) rfl T.zfw rfl) wx))) (zm (w4 (xc (Kx:=K) rfl hm hc hv hG) rfl T.isinstance_ ax (w8 (pv 5) (w8 (zq (v:=V.ref qx) rfl T.zcm rfl) wx))) (zm (w4 (xc (Kx:=K) rfl hm hc hv hG) rfl T.isinstance_ ax (w8 (pv 5) (w8 (zq (v:=V.ref qb) rfl T.zfx rfl) wx))) (zm (w4 (xc (Kx:=K) rfl hm hc hv hG) rfl T.isinstance_ ax (w8 (pv 5) (w8 (zq (v:=V.ref qj) rfl T.zfy rfl) wx))) wx))))))
   (wu (qk4 (i:=4) sc.nd rfl (Or.inl rfl) (vk (zm (w4 (xc (Kx:=K) rfl hm hc hv hG) rfl T.isinstance_ ax (w8 (pv 5) (w8 (zq (v:=V.ref qc) rfl T.zfz rfl) wx))) (zm (w4 (xc (Kx:=K) rfl hm hc hv hG) rfl T.isinstance_ ax (w8 (pv 5) (w8 (zq (v:=V.ref qg) rfl T.zcf rfl) wx))) (zm (w4 (xc (Kx:=K) rfl hm hc hv hG) rfl T.isinstance_ ax (w8 (pv 5) (w8 (zq (v:=V.ref qu) rfl T.zf0 rfl) wx))) (zm (w4 (xc (Kx:=K) rfl hm hc hv hG) rfl T.isinstance_ ax (w8 (pv 5) (w8 (zq (v:=V.ref qp) rfl T.zf1 rfl) wx))) wx))))) qk8)
   (wu (qk4 (i:=4) sc.nd rfl (Or.inl rfl) (vk (zm (w4 (xc (Kx:=K) rfl hm hc hv hG) rfl T.isinstance_ ax (w8 (pv 5) (w8 (zq (v:=V.ref qh) rfl T.zf2 rfl) wx))) (zm (w4 (xc (Kx:=K) rfl hm hc hv hG) rfl T.isinstance_ ax (w8 (pv 5) (w8 (zq (v:=V.ref qk) rfl T.zf3 rfl) wx))) (zm (w4 (xc (Kx:=K) rfl hm hc hv hG) rfl T.isinstance_ ax (w8 (pv 5) (w8 (zq (v:=V.ref qr) rfl T.zf4 rfl) wx))) (zm (w4 (xc (Kx:=K) rfl hm hc hv hG) rfl T.isinstance_ ax (w8 (pv 5) (w8 (zq (v:=V.ref qt) rfl T.zf5 rfl) wx))) wx))))) qk8)
   (wy (qk4 (i:=4) sc.nd rfl (Or.inl rfl) (vk (zm (w4 (xc (Kx:=K) rfl hm hc hv hG) rfl T.isinstance_ ax (w8 (pv 5) (w8 (zq (v:=V.ref qw) rfl T.zf6 rfl) wx))) (zm (w4 (xc (Kx:=K) rfl hm hc hv hG) rfl T.isinstance_ ax (w8 (pv 5) (w8 (zq (v:=V.ref qd) rfl T.zcg rfl) wx))) (zm (w4 (xc (Kx:=K) rfl hm hc hv hG) rfl T.isinstance_ ax (wm (pv 5) (wm (wz3 (v:=V.ty "ValueError") rfl T.ValueError_ W5 rfl) wx))) wx)))) qk8)))))))
   (wy (x6 (pv 4))))),?_⟩
 refine⟨sz0,λp0 np0=>?_⟩;have s0:Same H (upd H p0 (.lst [])):=Same.upd np0;generalize upd H p0 (.lst [])=H0 at s0;refine exI rfl (exI rfl (exI rfl ⟨r,w,n,rfl,hR.same s0,w0,w1,n0,n1,(λ_ d H1 s1=>?_),λfb H1 s1=>(exI rfl (exI rfl (exI rfl ⟨x,dr,dw,dd,R,W,D,w,n,rfl,hk.same (s0.trans s1),w0,w1,n0,n1,(λ_ d H2 s2=>?_),λtb=>by rw[fb]at tb;cases tb⟩)))⟩))
 case' refine_1=>obtain⟨Hc,Sc,rfl⟩:∃Hc,Same H0 Hc/\Hc=H1:=⟨H1,s1,rfl⟩
 case' refine_2=>obtain⟨Hc,Sc,rfl⟩:∃Hc,Same H0 Hc/\Hc=H2:=⟨H2,s1.trans s2,rfl⟩
 case' refine_2=>clear s2
 all_goals
  clear s1;refine exI rfl ⟨W0 T.zaz (kqI T w0 w1).mr,(kqI T w0 w1).i,λe ne=>?_⟩;refine exI rfl ⟨_,_,rfl,kq0 T w0 w1,exI rfl ⟨_,_,rfl,kq1 T w0 w1,exI rfl ⟨_,_,rfl,kq2 T w0 w1,exI rfl ⟨_,_,rfl,kq3 T w0 w1,sz4,λp1 np1=>?_⟩⟩⟩⟩;have s1:Same Hc (upd Hc p1 (.lst [V.bl (decide ((0:Int)=w)),V.bl (decide ((1:Int)=w)),V.bl (decide ((2:Int)=w)),V.bl (decide ((3:Int)=w))])):=Same.upd np1;have f1:upd Hc p1 (.lst [V.bl (decide ((0:Int)=w)),V.bl (decide ((1:Int)=w)),V.bl (decide ((2:Int)=w)),V.bl (decide ((3:Int)=w))]) p1=some (.lst [V.bl (decide ((0:Int)=w)),V.bl (decide ((1:Int)=w)),V.bl (decide ((2:Int)=w)),V.bl (decide ((3:Int)=w))]):=wj;generalize upd Hc p1 (.lst [V.bl (decide ((0:Int)=w)),V.bl (decide ((1:Int)=w)),V.bl (decide ((2:Int)=w)),V.bl (decide ((3:Int)=w))])=Ha at s1 f1 ⊢;refine exI rfl (exI rfl ⟨_,_,rfl,kq4 T w0 w1,exI rfl ⟨_,_,rfl,kq5 T w0 w1,exI rfl ⟨_,_,rfl,kq6 T w0 w1,exI rfl ⟨_,_,rfl,kq7 T w0 w1,sz4,λq1 nq1=>?_⟩⟩⟩⟩);refine⟨p1,q1,[V.bl (decide ((0:Int)=w)),V.bl (decide ((1:Int)=w)),V.bl (decide ((2:Int)=w)),V.bl (decide ((3:Int)=w))],[V.bl (decide ((4:Int)=w)),V.bl (decide ((5:Int)=w)),V.bl (decide ((6:Int)=w)),V.bl (decide ((7:Int)=w))],rfl,rfl,(Same.upd nq1) _ _ f1,wj,aQ (show 8<=1000 by decide) big,?_⟩;have s2:Same Hc (upd (upd Ha q1 (.lst [V.bl (decide ((4:Int)=w)),V.bl (decide ((5:Int)=w)),V.bl (decide ((6:Int)=w)),V.bl (decide ((7:Int)=w))])) p1 (.lst ([V.bl (decide ((0:Int)=w)),V.bl (decide ((1:Int)=w)),V.bl (decide ((2:Int)=w)),V.bl (decide ((3:Int)=w))]++[V.bl (decide ((4:Int)=w)),V.bl (decide ((5:Int)=w)),V.bl (decide ((6:Int)=w)),V.bl (decide ((7:Int)=w))]))):=Same.upd2 (s1.trans (Same.upd nq1)) np1;have f2:upd (upd Ha q1 (.lst [V.bl (decide ((4:Int)=w)),V.bl (decide ((5:Int)=w)),V.bl (decide ((6:Int)=w)),V.bl (decide ((7:Int)=w))])) p1 (.lst ([V.bl (decide ((0:Int)=w)),V.bl (decide ((1:Int)=w)),V.bl (decide ((2:Int)=w)),V.bl (decide ((3:Int)=w))]++[V.bl (decide ((4:Int)=w)),V.bl (decide ((5:Int)=w)),V.bl (decide ((6:Int)=w)),V.bl (decide ((7:Int)=w))])) p1=some (.lst ([V.bl (decide ((0:Int)=w)),V.bl (decide ((1:Int)=w)),V.bl (decide ((2:Int)=w)),V.bl (decide ((3:Int)=w))]++[V.bl (decide ((4:Int)=w)),V.bl (decide ((5:Int)=w)),V.bl (decide ((6:Int)=w)),V.bl (decide ((7:Int)=w))])):=wj;generalize upd (upd Ha q1 (.lst [V.bl (decide ((4:Int)=w)),V.bl (decide ((5:Int)=w)),V.bl (decide ((6:Int)=w)),V.bl (decide ((7:Int)=w))])) p1 (.lst ([V.bl (decide ((0:Int)=w)),V.bl (decide ((1:Int)=w)),V.bl (decide ((2:Int)=w)),V.bl (decide ((3:Int)=w))]++[V.bl (decide ((4:Int)=w)),V.bl (decide ((5:Int)=w)),V.bl (decide ((6:Int)=w)),V.bl (decide ((7:Int)=w))]))=Hb at s2 f2 ⊢;refine exI rfl (exI rfl ⟨_,_,rfl,kq8 T w0 w1,exI rfl ⟨_,_,rfl,kq9 T w0 w1,exI rfl ⟨_,_,rfl,kq10 T w0 w1,exI rfl ⟨_,_,rfl,kq11 T w0 w1,sz4,λq2 nq2=>?_⟩⟩⟩⟩);refine⟨p1,q2,([V.bl (decide ((0:Int)=w)),V.bl (decide ((1:Int)=w)),V.bl (decide ((2:Int)=w)),V.bl (decide ((3:Int)=w))]++[V.bl (decide ((4:Int)=w)),V.bl (decide ((5:Int)=w)),V.bl (decide ((6:Int)=w)),V.bl (decide ((7:Int)=w))]),[V.bl (decide ((8:Int)=w)),V.bl (decide ((9:Int)=w)),V.bl (decide ((10:Int)=w)),V.bl (decide ((11:Int)=w))],rfl,rfl,(Same.upd nq2) _ _ f2,wj,aQ (show 12<=1000 by decide) big,?_⟩;have s3:Same Hc (upd (upd Hb q2 (.lst [V.bl (decide ((8:Int)=w)),V.bl (decide ((9:Int)=w)),V.bl (decide ((10:Int)=w)),V.bl (decide ((11:Int)=w))])) p1 (.lst (([V.bl (decide ((0:Int)=w)),V.bl (decide ((1:Int)=w)),V.bl (decide ((2:Int)=w)),V.bl (decide ((3:Int)=w))]++[V.bl (decide ((4:Int)=w)),V.bl (decide ((5:Int)=w)),V.bl (decide ((6:Int)=w)),V.bl (decide ((7:Int)=w))])++[V.bl (decide ((8:Int)=w)),V.bl (decide ((9:Int)=w)),V.bl (decide ((10:Int)=w)),V.bl (decide ((11:Int)=w))]))):=Same.upd2 (s2.trans (Same.upd nq2)) np1;have f3:upd (upd Hb q2 (.lst [V.bl (decide ((8:Int)=w)),V.bl (decide ((9:Int)=w)),V.bl (decide ((10:Int)=w)),V.bl (decide ((11:Int)=w))])) p1 (.lst (([V.bl (decide ((0:Int)=w)),V.bl (decide ((1:Int)=w)),V.bl (decide ((2:Int)=w)),V.bl (decide ((3:Int)=w))]++[V.bl (decide ((4:Int)=w)),V.bl (decide ((5:Int)=w)),V.bl (decide ((6:Int)=w)),V.bl (decide ((7:Int)=w))])++[V.bl (decide ((8:Int)=w)),V.bl (decide ((9:Int)=w)),V.bl (decide ((10:Int)=w)),V.bl (decide ((11:Int)=w))])) p1=some (.lst (([V.bl (decide ((0:Int)=w)),V.bl (decide ((1:Int)=w)),V.bl (decide ((2:Int)=w)),V.bl (decide ((3:Int)=w))]++[V.bl (decide ((4:Int)=w)),V.bl (decide ((5:Int)=w)),V.bl (decide ((6:Int)=w)),V.bl (decide ((7:Int)=w))])++[V.bl (decide ((8:Int)=w)),V.bl (decide ((9:Int)=w)),V.bl (decide ((10:Int)=w)),V.bl (decide ((11:Int)=w))])):=wj;generalize upd (upd Hb q2 (.lst [V.bl (decide ((8:Int)=w)),V.bl (decide ((9:Int)=w)),V.bl (decide ((10:Int)=w)),V.bl (decide ((11:Int)=w))])) p1 (.lst (([V.bl (decide ((0:Int)=w)),V.bl (decide ((1:Int)=w)),V.bl (decide ((2:Int)=w)),V.bl (decide ((3:Int)=w))]++[V.bl (decide ((4:Int)=w)),V.bl (decide ((5:Int)=w)),V.bl (decide ((6:Int)=w)),V.bl (decide ((7:Int)=w))])++[V.bl (decide ((8:Int)=w)),V.bl (decide ((9:Int)=w)),V.bl (decide ((10:Int)=w)),V.bl (decide ((11:Int)=w))]))=Hd at s3 f3 ⊢;refine exI rfl (exI rfl ⟨_,_,rfl,kq12 T w0 w1,exI rfl ⟨_,_,rfl,kq13 T w0 w1,exI rfl ⟨_,_,rfl,wvd (kqI T w0 w1).mv,sz3,λq3 nq3=>?_⟩⟩⟩);refine⟨p1,q3,(([V.bl (decide ((0:Int)=w)),V.bl (decide ((1:Int)=w)),V.bl (decide ((2:Int)=w)),V.bl (decide ((3:Int)=w))]++[V.bl (decide ((4:Int)=w)),V.bl (decide ((5:Int)=w)),V.bl (decide ((6:Int)=w)),V.bl (decide ((7:Int)=w))])++[V.bl (decide ((8:Int)=w)),V.bl (decide ((9:Int)=w)),V.bl (decide ((10:Int)=w)),V.bl (decide ((11:Int)=w))]),[V.bl (decide ((12:Int)=w)),V.bl (decide ((13:Int)=w)),V.bl true],rfl,rfl,(Same.upd nq3) _ _ f3,wj,aQ (show 15<=1000 by decide) big,?_⟩;have s4:Same Hc (upd (upd Hd q3 (.lst [V.bl (decide ((12:Int)=w)),V.bl (decide ((13:Int)=w)),V.bl true])) p1 (.lst ((([V.bl (decide ((0:Int)=w)),V.bl (decide ((1:Int)=w)),V.bl (decide ((2:Int)=w)),V.bl (decide ((3:Int)=w))]++[V.bl (decide ((4:Int)=w)),V.bl (decide ((5:Int)=w)),V.bl (decide ((6:Int)=w)),V.bl (decide ((7:Int)=w))])++[V.bl (decide ((8:Int)=w)),V.bl (decide ((9:Int)=w)),V.bl (decide ((10:Int)=w)),V.bl (decide ((11:Int)=w))])++[V.bl (decide ((12:Int)=w)),V.bl (decide ((13:Int)=w)),V.bl true]))):=Same.upd2 (s3.trans (Same.upd nq3)) np1;have f4:upd (upd Hd q3 (.lst [V.bl (decide ((12:Int)=w)),V.bl (decide ((13:Int)=w)),V.bl true])) p1 (.lst ((([V.bl (decide ((0:Int)=w)),V.bl (decide ((1:Int)=w)),V.bl (decide ((2:Int)=w)),V.bl (decide ((3:Int)=w))]++[V.bl (decide ((4:Int)=w)),V.bl (decide ((5:Int)=w)),V.bl (decide ((6:Int)=w)),V.bl (decide ((7:Int)=w))])++[V.bl (decide ((8:Int)=w)),V.bl (decide ((9:Int)=w)),V.bl (decide ((10:Int)=w)),V.bl (decide ((11:Int)=w))])++[V.bl (decide ((12:Int)=w)),V.bl (decide ((13:Int)=w)),V.bl true])) p1=some (.lst ((([V.bl (decide ((0:Int)=w)),V.bl (decide ((1:Int)=w)),V.bl (decide ((2:Int)=w)),V.bl (decide ((3:Int)=w))]++[V.bl (decide ((4:Int)=w)),V.bl (decide ((5:Int)=w)),V.bl (decide ((6:Int)=w)),V.bl (decide ((7:Int)=w))])++[V.bl (decide ((8:Int)=w)),V.bl (decide ((9:Int)=w)),V.bl (decide ((10:Int)=w)),V.bl (decide ((11:Int)=w))])++[V.bl (decide ((12:Int)=w)),V.bl (decide ((13:Int)=w)),V.bl true])):=wj;generalize upd (upd Hd q3 (.lst [V.bl (decide ((12:Int)=w)),V.bl (decide ((13:Int)=w)),V.bl true])) p1 (.lst ((([V.bl (decide ((0:Int)=w)),V.bl (decide ((1:Int)=w)),V.bl (decide ((2:Int)=w)),V.bl (decide ((3:Int)=w))]++[V.bl (decide ((4:Int)=w)),V.bl (decide ((5:Int)=w)),V.bl (decide ((6:Int)=w)),V.bl (decide ((7:Int)=w))])++[V.bl (decide ((8:Int)=w)),V.bl (decide ((9:Int)=w)),V.bl (decide ((10:Int)=w)),V.bl (decide ((11:Int)=w))])++[V.bl (decide ((12:Int)=w)),V.bl (decide ((13:Int)=w)),V.bl true]))=He at s4 f4 ⊢;exact exI rfl (k p1 He (zw (s0.trans Sc) np1) ((s0.trans Sc).trans s4) f4)
def qv7 (K:Aa):Sp:=λvs H Q _=>∃(a:Aj) (ns:List Int),vs=[.ref a]/\SqL K H a (ns.map V.int)/\ns.length<=63/\∀H',Q (.bl true) H'
theorem sql_ob {a:Aj}{xs:List V}(h:SqL K H a xs):(∀H',SqL K H' a xs)\/∃u,H a=some u/\(∀kv,u≠.dK kv)/\∀v kv,u≠.frz v (.dK kv):=by
 rcases h with (e|⟨v,e⟩)|e
 .exact .inr ⟨_,e,(λ_ z=>by cases z),(λ_ _ z=>by cases z)⟩
 .exact .inr ⟨_,e,(λ_ z=>by cases z),(λ_ _ z=>by cases z)⟩
 .exact .inl λ_=>.inr e
theorem VH.wks {CR:Aj}(v:VH C CR CW H o (a::as)){NM:List Str}(nm:Nam NM a)(lN:NM.length<60):WksAt CW H o.W (o.W.map qzx) (λn=>match a.ws n with | some w=>w.wh | none => "") (λn=>match a.ws n with | some w=>w.pt | none=>(0,0))/\∀n,n∈o.W.map qzx↔∃w,a.ws n=some w:=by
 have ad:=v.lens nm;obtain⟨J,Z⟩:=wzy v.h.nW v.h.fW;have I:∀n,n∈o.W.map qzx↔∃w,a.ws n=some w:=λn=>by
  have:n∈o.W.map qzx↔(Sum.inr n:Key)∈o.W.map (·.1):=by
   rw[J];exact⟨λh=>aF.mpr ⟨n,h,rfl⟩,λh=>by
    obtain⟨O,h',e⟩:=aF.mp h
    have e:O=n:=by injection e
    rw[<-e];exact h'⟩
  rw[this];constructor
  .intro h;obtain⟨c,U,e⟩:=aF.mp h;have:=jy v.h.nW U;rw[e]at this;cases e2:a.ws n with
   |none=>rw[v.rep.noW e2]at this;cases this
   |some w=>exact⟨w,rfl⟩
  .rintro⟨w,e⟩;obtain⟨y,p,t,F,_⟩:=v.rep.wk e;exact aF.mpr ⟨_,qyx F,rfl⟩
 refine⟨⟨J,⋯,λn S=>?_⟩,I⟩;obtain⟨w,e⟩:=(I n).mp S;obtain⟨y,p,t,F,L⟩:=v.rep.wk e;simp only[e];exact⟨y,p,t,_,F,L⟩
theorem wwc {t:Int}(lo:xu hs)(b1:1<=b)(b2:b<=40)(on:jv hs t b):HPt hs (xz t b):=by have h:=pt_low b1 on;have l:=qkw (t:=t) b1;exact⟨lo,⟨h.1,Int.le_refl _,h.2.2⟩,⋯⟩
def AHB (p q:Int×Int)(u v:List (List Key×V)):AH:=(((AH.nil.putR "a" [1,0]).putR "b" [0,1]).putW "a" ⟨"a",p,u⟩).putW "b" ⟨"b",q,v⟩
theorem HK.of {CR:Aj}{p q:Int×Int}{u v:List (List Key×V)}(h:VH C CR CW H o (AHB p q u v::as))(nm:Nam ["a","b"] (AHB p q u v))(ld:o.ds.length<=100):HK C CW H o.x o.dr o.dw o.dd o.R o.W (jf o.ds):=by
 have ad:=h.lens nm;have l2:(["a","b"]:List Str).length=2:=rfl;have U:(AHB p q u v).rs "a" = some [1,0]:=show((AH.nil.putR "a" [1,0]).putR "b" [0,1]).rs "a" = some [1,0] from (jk (by decide +kernel)).trans Q5
 have S:(AHB p q u v).rs "c" = none:=show((AH.nil.putR "a" [1,0]).putR "b" [0,1]).rs "c" = none from (jk (by decide +kernel)).trans ((jk (by decide +kernel)).trans rfl)
 have O:(AHB p q u v).ws "d" = none:=(yw (by decide +kernel)).trans ((yw (by decide +kernel)).trans rfl);have F:(AHB p q u v).ws "a" = some ⟨"a",p,u⟩:=(yw (by decide +kernel)).trans qwq;have J:(AHB p q u v).ws "b" = some ⟨"b",q,v⟩:=qwq;obtain⟨r,L,_⟩:=h.rep.road U;obtain⟨W1,Z⟩:=h.wks nm ⋯;refine⟨h.h.hs,Jj _,⋯,⋯,by rw[qzq];lia,by rw[L];rfl,h.rep.noR S,h.rep.noW O,⟨_,_,_,W1,"a",(Z "a").mpr ⟨_,F⟩,by simp only[F]⟩,?_,?_⟩
 .obtain⟨y,I,tt,e,k⟩:=h.rep.wk F;exact⟨y,I,p,tt,u,e,k⟩
 .obtain⟨y,I,tt,e,k⟩:=h.rep.wk J;exact⟨y,I,q,tt,v,e,k⟩
theorem wwq:∀(xs:List Bool),RDs K H (xs.map .bool) (xs.map V.bl)
 |[]=>by rw[bj,bj,RDs]
 |x::xs=>by rw[ay,ay,RDs];exact⟨_,_,rfl,by rw[RD],wwq xs⟩
theorem qyg:∀(xs:List Bool),PyData.canLayAll0 (xs.map .bool)=true
 |[]=>rfl
 |x::xs=>by rw[ay,PyData.canLayAll0,qyg xs];rfl
theorem qj6:∀(xs:List Bool),PyData.depthAll (xs.map .bool)<=1
 |[]=>by rw[bj,PyData.depthAll];lia
 |x::xs=>by have:=qj6 xs;rw[ay,PyData.depthAll];simp only[PyData.depth];lia
theorem qyc:∀(xs:List Bool),PyData.eqvAll (xs.map .bool) (xs.map .bool)=true
 |[]=>by rw[bj,PyData.eqvAll]
 |x::xs=>by rw[ay,PyData.eqvAll,qyc xs,PyData.eqv];cases x <;> rfl
def flB (w:Int):List Bool:=(List.range 14).map (λk:Nat=>decide ((k:Int)=w))++[true]
theorem fl_eq (w:Int):flV w=(flB w).map V.bl:=by unfold flV flB;rw[bo,bw];rfl
theorem rd_fl {w:Int}(f:SqL K H p (flV w)):RD K H (.list ((flB w).map .bool)) (.ref p):=by rw[RD];rw[fl_eq]at f;exact⟨p,exI rfl ⟨f,wwq _⟩⟩
theorem wq8 (w:Int):(PyData.list ((flB w).map .bool)).canLay0=true:=by rw[PyData.canLay0];exact qyg _
theorem dep_fl (w:Int):min (PyData.list ((flB w).map .bool)).depth (PyData.list ((flB w).map .bool)).depth<=60:=by have h1:=qj6 (flB w);simp only[PyData.depth];lia
theorem dec_fl (w:Int):PyData.eqv (.list ((flB w).map .bool)) (.list ((flB w).map .bool))=true:=by rw[PyData.eqv];exact qyc _
include T in
theorem zho (F:Fun K "law" "law" zcl f fd)(zf9:Cal P w K mg base "_law_pick" 2 (qjh K))(za0:CCal P w K mg base "Road" q9 2 (Q2 K qy q9))(za4:CCal P w K mg base "House" qf 1 (Qt qf))(zay:MCal P w K mg base qf "lay" 4 (qq0 K qf q9 qu qp qy))
  (zck:MCal P w K mg base qf "place" 5 (Qk K qf q9 q8 qu qp qh qx qb)) (zhp:Cal P w K mg base "_law_flags" 10 (qw5 qf q9 q8)):FK P w K mg base 11 f fd ["_law_script"] (qv7 K):=by
 have sc:=zgn;refine F.okX sc (λvs H Q E h=>by obtain⟨_,_,rfl,_⟩:=h;rfl) λ_ _ _ _ H vs Q E O h=>?_;obtain⟨a,ns,rfl,hS,hl,k⟩:=h;have ej:(1000000:Nat)<sizeLine:=by decide
 refine⟨_,(wu (zx (i:=1) (wCA zf9 (wm (pv 0) (xv wc (xv wc (xv wc wx))))))
   (wu (zx (i:=2) (yd za0 (O.mono ⋯) rfl wv (Y1 (vk (xv wc (xv wc (xv wc wx)))) wx)))
   (wu (zx (i:=3) (Q3 za4 (O.mono ⋯) rfl wv))
   (wu (xj (xy (pv 3) T.clH zay (O.mono ⋯) wv (xv xf (Y1 (vk (xv wc (xv wc wx))) wx))))
   (wu (xj (xy (pv 3) T.clH zay (O.mono ⋯) wv (xv xf (Y1 (vk (xv wc (xv wc wx))) wx))))
   (wu (xj (xy (pv 3) T.clH zck (O.mono ⋯) wv (xv xf (xv xf (Zn (jj (xv wc (xv wc wx))) wx)))))
   (wu (xj (xy (pv 3) T.clH zck (O.mono ⋯) wv (xv xf (xv xf (Zn (jj (xv wc (k7 (xb z8 wc (wCA zf9 (wm (pv 0) (xv wc (xv wc (xv wc wx)))))) wx))) wx)))))
   (wu (Y2 bF rfl (ku rfl T.range_ (xv wc wx)) (zc (i:=4)) (wy (x9 (w9 (op_neD O.units) (wCA zhp (wm (pv 4) (wm (pv 2) (wm (pv 3) (wm (pv 1) wx))))) (xb op_cat (jc (M:=[4]) rfl rfl (by walk_at "cap") (by walk_at "has") (by walk_at "cix") rfl (by decide +kernel) rfl (show List.Nodup (["_law_k","_law_which"]:List Str) by decide +kernel) (ku rfl T.range_ (xv wc wx)) (λ_ _ _ _ _=>(Qb vz (pv 0) (pv 1) (xq _)))) (vk (xv qzp wx))) (xq _)) (wy (x6 qzp)) xk)))
   (wy (x6 qzp)))))))))),?_⟩
 refine exI rfl ⟨a,ns,_,_,_,rfl,hS,⋯,⋯,⋯,⋯,λn _ n0 n1=>?_⟩;refine⟨sz3,λp1 c7=>λr d0 nr da ef=>Zj (hs:=[0,2,0]) wj nr da (λ_ H1 s1 R1=>?_) λz=>absurd ju z⟩;have S1:=(Same.upd (o:=.lst [.int 0,.int 2,.int 0]) c7).trans s1;refineλx d9 nx a5 c9=>⟨x,d9,rfl,wj,λH4 dr dw dd b2 b1 b0 cc b7=>⟨rfl,?_⟩⟩;have s4:Same H1 H4:=λz o e=>b7 z o (λy=>by rw[aH.mp y,nx]at e;cases e) (by rw[wf (wz e nx),wf (wz e a5)];exact e);have v4:VH qf q9 q8 H4 ⟨x,dr,dw,dd,[],[],[]⟩ [AH.nil]:=VH.nil cc;have R4:=R1.same s4;have cj:=(S1.trans s4).sql hS;have a0:∀ {b},upd (upd H1 d9 (HO.own x)) x (HO.ins qf d9 []) b=none->H1 b=none:=λ{b} m=>by
  cases e:H1 b with
  |none=>rfl
  |some o=>rw[wf (wz e nx),wf (wz e a5),e]at m;cases m
 have fr:=a0 b2;have fw:=a0 b1;have co:=a0 b0;have dy:(∀H',SqL K H' a (ns.map V.int))\/a∉[dr,dw,dd]:=(sql_ob (S1.sql hS)).imp id λ⟨u,e,_⟩ z=>by
  simp only[av,aA,cK]at z;rcases z with z|z|z <;> rw[z]at e
  .rw[fr]at e;cases e
  .rw[fw]at e;cases e
  .rw[co]at e;cases e
 clear a0 b7 cc b2 b1 b0 nx a5 c9 fr fw co;have an:∀ {I Hb:Hp} {o:Ho} {as:List AH},o.dr=dr->o.dw=dw->o.dd=dd->VH qf q9 q8 I o as->Kb [o.dr,o.dw,o.dd] I Hb->RoadAt q9 I r [0,2,0]->SqL K I a (ns.map V.int)->RoadAt q9 Hb r [0,2,0]/\SqL K Hb a (ns.map V.int):=λe1 e2 e3 v kb R S=>⟨v.h.dl.road kb ju R,Kb.sql kb S (by rw[e1,e2,e3];exact dy)⟩;have bk:Nam ["a","b"] AH.nil:=Nam.nil;have l2:(["a","b"]:List Str).length=2:=rfl;have ma:("a" : Str)∈(["a","b"]:List Str):=.head _;have mb:("b" : Str)∈(["a","b"]:List Str):=.tail _ (.head _);have a6:xu [1,0]:=⟨⋯,⋯,⋯⟩;have a7:xu [0,1]:=⟨⋯,⋯,⋯⟩;obtain⟨ed,dq⟩:=v4.h.hs.ob;refine exI rfl ⟨x,ed,exI rfl ⟨dq,xt,sz2,λp5 n5=>?_⟩⟩;have J:Same H4 (upd H4 p5 (.lst [.int 1,.int 0])):=Same.upd n5;have f5:upd H4 p5 (.lst [.int 1,.int 0]) p5=some (.lst (([1,0]:List Int).map V.int)):=wj;generalize upd H4 p5 (.lst [.int 1,.int 0])=H5 at J f5 ⊢;have v5:=v4.same J;dsimp only [k8,qqq,tC];refine v5.lays bk ⋯ (aD _) (by decide +kernel) (by decide +kernel) rfl f5 a6 λH6 o6 ad v6 b6=>?_;obtain⟨R6,S6⟩:=an rfl rfl rfl v5 b6 (R4.same J) (J.sql cj);have c2:=ad.dr;have c0:=ad.dw;have ct:=ad.dd;have a3:o6.x=x:=ad.x;have dp:o6.ds.length=1:=by obtain⟨d,e,_⟩:=ad.ds;rw[e];rfl
 have bf:=bk.putR ma [1,0];clear b6 f5 J v5 n5 ad v4 R4 cj;obtain⟨ec,ca⟩:=v6.h.hs.ob;rw[a3]at ca;refine exI rfl ⟨x,ec,exI rfl ⟨ca,xt,sz2,λp7 n7=>?_⟩⟩;have s7:Same H6 (upd H6 p7 (.lst [.int 0,.int 1])):=Same.upd n7;have f7:upd H6 p7 (.lst [.int 0,.int 1]) p7=some (.lst (([0,1]:List Int).map V.int)):=wj;generalize upd H6 p7 (.lst [.int 0,.int 1])=H7 at s7 f7 ⊢;have v7:=v6.same s7;dsimp only [k8,qqq,tC];rw[<-a3];refine v7.lays bf ⋯ ⋯ (by decide +kernel) (by decide +kernel) ((jk (by decide +kernel)).trans rfl) f7 a7 λH8 o8 Z v8 b5=>?_;rw[a3];obtain⟨R8,S8⟩:=an c2 c0 ct v7 b5 (R6.same s7) (s7.sql S6);have cs:=Z.dr.trans c2;have cq:=Z.dw.trans c0;have cp:=Z.dd.trans ct;have a2:o8.x=x:=Z.x.trans a3;have dg:o8.ds.length=2:=by obtain⟨d,e,_⟩:=Z.ds;rw[e,aB,dp]
 have a9:=bf.putR mb [0,1];clear b5 f7 s7 v7 n7 Z v6 R6 S6;obtain⟨eb,b9⟩:=v8.h.hs.ob;rw[a2]at b9;refine exI rfl ⟨x,eb,exI rfl ⟨b9,xt,sz2,λp9 n9=>?_⟩⟩;have s9:Same H8 (upd H8 p9 (.tup [.int 0,.int 1])):=Same.upd n9;have f9:upd H8 p9 (.tup [.int 0,.int 1]) p9=some (.tup [.int 0,.int 1]):=wj;generalize upd H8 p9 (.tup [.int 0,.int 1])=H9 at s9 f9 ⊢;have v9:=v8.same s9;dsimp only [k8,qqq,tC];rw[<-a2];refine v9.places a9 ⋯ ⋯ (by decide +kernel) (by decide +kernel) rfl ((jk (by decide +kernel)).trans Q5) f9 ⋯ ((Sm.small (n:=65) ⋯ ⋯ ⋯).mono ⋯) (wwc a6 ⋯ ⋯ ⟨⋯,⋯⟩) λI oa U va b4=>?_;rw[a2];obtain⟨Ra,Sa⟩:=an cs cq cp v9 b4 (R8.same s9) (s9.sql S8);have d5:=U.dr.trans cs;have d4:=U.dw.trans cq;have d3:=U.dd.trans cp;have a1:oa.x=x:=U.x.trans a2;have dc:oa.ds.length=3:=by obtain⟨d,e,_⟩:=U.ds;rw[e,aB,dg]
 have a8:=a9.putW ma ⟨"a",xz 0 1,[([.inl (xz 0 1).1,.inl (xz 0 1).2],.int 1)]⟩;clear b4 f9 s9 v9 n9 U v8 R8 S8;obtain⟨ea,b8⟩:=va.h.hs.ob;rw[a1]at b8;refine exI rfl ⟨x,ea,exI rfl ⟨b8,xt,exI rfl ⟨a,ns,_,_,_,rfl,Sa,⋯,⋯,⋯,⋯,λm _ m0 m1=>?_⟩⟩⟩;refine xh rfl rfl ⟨sz2,λpb nb=>?_⟩;have sb:Same I (upd I pb (.tup [.int 1,.int (1+m)])):=Same.upd nb;have fb:upd I pb (.tup [.int 1,.int (1+m)]) pb=some (.tup [.int 1,.int (1+m)]):=wj;generalize upd I pb (.tup [.int 1,.int (1+m)])=Hb at sb fb ⊢;have vb:=va.same sb;dsimp only [k8,qqq,tC];rw[<-a1];refine vb.places a8 ⋯ ⋯ (by decide +kernel) (by decide +kernel) ((yw (by decide +kernel)).trans rfl) (show((AH.nil.putR "a" [1,0]).putR "b" [0,1]).rs "b" = some [0,1] from Q5) fb ⋯ ((Sm.small (n:=65) ⋯ ⋯ ⋯).mono ⋯) (wwc a7 ⋯ ⋯ ⟨⋯,by simp only[aB,bp];lia⟩) λHc L a4 vc b3=>?_;rw[a1];obtain⟨Rc,Sc⟩:=an d5 d4 d3 vb b3 (Ra.same sb) (sb.sql Sa);have d2:L.x=x:=a4.x.trans a1;have eg:L.ds.length=4:=by obtain⟨d,e,_⟩:=a4.ds;rw[e,aB,dc]
 have c8:=a8.putW mb ⟨"b",xz 1 (1+m),[([.inl (xz 1 (1+m)).1,.inl (xz 1 (1+m)).2],.int 1)]⟩;have ci:=HK.of vc c8 ⋯;rw[d2]at ci;clear b3 fb sb vb nb a4 va Ra Sa an;refine⟨14,rfl,⋯,⋯,qq6 (λi σ H'=>Same Hc H'/\∃z,σ=[some (.ref a),some (.int n),some (.ref r),some (.ref x),z]) ⟨Same.refl _,_,rfl⟩ ?_ ?_⟩
 .rintro i σ H1' hi ⟨s1',z,rfl⟩;have hi:i<14:=hi;refine⟨_,rfl,_,rfl,_,rfl,_,rfl,r,x,L.dr,L.dw,L.dd,L.R,L.W,jf L.ds,(0:Int)+i,n,rfl,Rc.same s1',ci.same s1',⋯,⋯,⋯,⋯,λq H2 nq s2 f2=>?_⟩;refine⟨14,rfl,⋯,⋯,Zt (λj:Nat=>V.bl (decide ((j:Int)=(0:Int)+i))) ⋯ (λj H' R hj ei hR=>(exI rfl (exI rfl ⟨rfl,?_⟩))) λp3 c6=>?_⟩
  .have e:decide (V.int ((0:Int)+j)=V.int ((0:Int)+i))=decide ((j:Int)=(0:Int)+i):=decide_eq_decide.mpr ⟨λz=>by injection z with z;lia,λz=>by rw[<-z,Int.zero_add]⟩;show R (V.bl (decide (V.int ((0:Int)+j)=V.int ((0:Int)+i)))) H';rw[e];exact hR
  rw[show Int.toNat 14=14 from rfl];have s3:=Same.upd (o:=.lst ((List.range 14).map λj:Nat=>V.bl (decide ((j:Int)=(0:Int)+i)))) c6;have f3:upd H2 p3 (.lst ((List.range 14).map λj:Nat=>V.bl (decide ((j:Int)=(0:Int)+i)))) p3=some (.lst ((List.range 14).map λj:Nat=>V.bl (decide ((j:Int)=(0:Int)+i)))):=wj;generalize upd H2 p3 (.lst ((List.range 14).map λj:Nat=>V.bl (decide ((j:Int)=(0:Int)+i))))=H3 at s3 f3 ⊢;refine⟨sz1,λp4 c4=>?_⟩;have ap:=Same.upd (o:=.lst [.bl true]) c4;have f4:upd H3 p4 (.lst [.bl true]) p4=some (.lst [.bl true]):=wj;generalize upd H3 p4 (.lst [.bl true])=H4' at ap f4 ⊢;refine⟨p3,p4,_,_,rfl,rfl,ap _ _ f3,f4,by rw[ah,aL];show 14+1<=sizeLine;decide,λp5 c3=>?_⟩;have J:=Same.upd (o:=.lst (flV ((0:Int)+i))) c3;have d1:=J _ _ ((s3.trans ap) _ _ f2);refine⟨_,_,rd_fl (w:=(0:Int)+i) (SqL.of d1),rd_fl (w:=(0:Int)+i) (SqL.of wj),wq8 _,wq8 _,dep_fl _,_,rfl,?_⟩;show if(!PyData.eqv _ _)=true then _ else _
  rw[dec_fl];refine Y0 ?_;exact⟨s1'.trans (s2.trans (s3.trans (ap.trans J))),_,rfl⟩
 .rintro σ H1' ⟨s1',z,rfl⟩;exact k _
end
section
theorem all_mk {l:PySem.W.OpenLaw}{w:Ah}{K:Aa}{h:Heap}{mg:Str->Option Ag}{fa:Aj}{qm:Aj}{qy:Aj}{qx:Aj}{qb:Aj}{qj:Aj}{qc:Aj}{qg:Aj}{qu:Aj}{qp:Aj}{qh:Aj}{qk:Aj}{qr:Aj}{qt:Aj}{qw:Aj}{qd:Aj}{q9:Aj}{q8:Aj}{qf:Aj}{zga:Tok}{zgb:Tok}{zgc:Tok}{zgd:Tok}{zge:Tok}{zgf:Tok}{zgg:Tok}{zgh:Tok}{zgi:Tok}{zgj:Tok}{zgk:Tok}(X:K.In h)(G:h.Ns mainGlobals mg)(hfa:mg "law" = some (.ref fa))
  (zcu:DefIn K "_law_cell" zca)
  (zcv:DefIn K "_law_pick" zcb)
  (zcw:DefIn K "check_bottom" za5)
  (zcx:DefIn K "common_divisor" za6)
  (zcy:DefIn K "lowest" za7)
  (zcz:DefInD K "check_count" za1)
  (zc0:DefIn K "is_line" za8)
  (zc1:DefIn K "covered" zbg)
  (zc2:DefIn K "covers_of" zbh)
  (zc3:DefIn K "ways_of_no_step" zbi)
  (zc4:DefIn K "one_step_more" zbj)
  (zc5:DefIn K "ways_up_to" zbk)
  (zc6:DefIn K "ways" zbl)
  (zc7:DefIn K "rows" zbm)
  (zc8:DefIn K "check_row" zbn)
  (zc9:DefIn K "point_of" zbo)
  (zda:DefIn K "set_down" zbq)
  (zdb:DefIn K "is_name" zbr)
  (zdc:DefIn K "check_new_name" zbs)
  (zdd:DefIn K "exchange" zbt)
  (zde:DefIn K "number_of" zb6)
  (zdf:DefIn K "take_in" zb7)
  (zdg:DefIn K "house_of" zb8)
  (zdh:DefIn K "read_house" zb9)
  (zdi:DefIn K "_law_first" zcc)
  (zdj:DefIn K "_law_second" zcd)
  (zdk:DefIn K "_law_flags" zce)
  (zdl:DefIn K "law" zcl)
  (zdm:PySem.W.nsIn K mainGlobals "RoadError" = some (some (.ref qm)))
  (zaz:PySem.W.excIn K qm [.type "ValueError",.type "Exception",.type "BaseException",.type "object"] "ValueError.__new__" = true)
  (zdn:PySem.W.nsIn K mainGlobals "BadLine" = some (some (.ref qy)))
  (zad:PySem.W.excIn K qy [.type "ValueError",.type "Exception",.type "BaseException",.type "object"] "ValueError.__new__" = true)
  (zdo:PySem.W.nsIn K mainGlobals "BadBottom" = some (some (.ref qx)))
  (zac:PySem.W.excIn K qx [.type "ValueError",.type "Exception",.type "BaseException",.type "object"] "ValueError.__new__" = true)
  (zdp:PySem.W.nsIn K mainGlobals "OffRoad" = some (some (.ref qb)))
  (zae:PySem.W.excIn K qb [.type "ValueError",.type "Exception",.type "BaseException",.type "object"] "ValueError.__new__" = true)
  (zdq:PySem.W.nsIn K mainGlobals "BadCount" = some (some (.ref qj)))
  (zaf:PySem.W.excIn K qj [.type "ValueError",.type "Exception",.type "BaseException",.type "object"] "ValueError.__new__" = true)
  (zdr:PySem.W.nsIn K mainGlobals "TooLong" = some (some (.ref qc)))
  (zag:PySem.W.excIn K qc [.type "ValueError",.type "Exception",.type "BaseException",.type "object"] "ValueError.__new__" = true)
  (zds:PySem.W.nsIn K mainGlobals "BadRow" = some (some (.ref qg)))
  (zaa:PySem.W.excIn K qg [.type "ValueError",.type "Exception",.type "BaseException",.type "object"] "ValueError.__new__" = true)
  (zdt:PySem.W.nsIn K mainGlobals "BadName" = some (some (.ref qu)))
  (zah:PySem.W.excIn K qu [.type "ValueError",.type "Exception",.type "BaseException",.type "object"] "ValueError.__new__" = true)
  (zdu:PySem.W.nsIn K mainGlobals "Taken" = some (some (.ref qp)))
  (zai:PySem.W.excIn K qp [.type "ValueError",.type "Exception",.type "BaseException",.type "object"] "ValueError.__new__" = true)
  (zdv:PySem.W.nsIn K mainGlobals "NoRoad" = some (some (.ref qh)))
  (zaj:PySem.W.excIn K qh [.type "ValueError",.type "Exception",.type "BaseException",.type "object"] "ValueError.__new__" = true)
  (zdw:PySem.W.nsIn K mainGlobals "NoWalker" = some (some (.ref qk)))
  (zak:PySem.W.excIn K qk [.type "ValueError",.type "Exception",.type "BaseException",.type "object"] "ValueError.__new__" = true)
  (zdx:PySem.W.nsIn K mainGlobals "Stood" = some (some (.ref qr)))
  (zal:PySem.W.excIn K qr [.type "ValueError",.type "Exception",.type "BaseException",.type "object"] "ValueError.__new__" = true)
  (zdy:PySem.W.nsIn K mainGlobals "Apart" = some (some (.ref qt)))
  (zam:PySem.W.excIn K qt [.type "ValueError",.type "Exception",.type "BaseException",.type "object"] "ValueError.__new__" = true)
  (zdz:PySem.W.nsIn K mainGlobals "NothingDone" = some (some (.ref qw)))
  (zan:PySem.W.excIn K qw [.type "ValueError",.type "Exception",.type "BaseException",.type "object"] "ValueError.__new__" = true)
  (zd0:PySem.W.nsIn K mainGlobals "BadText" = some (some (.ref qd)))
  (zab:PySem.W.excIn K qd [.type "ValueError",.type "Exception",.type "BaseException",.type "object"] "ValueError.__new__" = true)
  (zd1:PySem.W.nsIn K mainGlobals "Road" = some (some (.ref q9)))
  (zd2:PySem.W.plainGet K q9 Str.empty=true)
  (zd3:PySem.W.hasDictIn K q9=true)
  (zd4:PySem.W.plainOver K q9=true)
  (zd5:PySem.W.findIn K (.ref q9) "__setattr__" = some (some (.builtin "object.__setattr__")))
  (zd6:PySem.W.makesIn K q9=true)
  (zd7:PySem.W.keepIn K (.ref q9)=true)
  (zd8:MethIn K q9 "__init__" "Road.__init__" za9)
  (zd9:MethIn K q9 "width" "Road.width" zba)
  (zea:MethIn K q9 "ends" "Road.ends" zbc)
  (zeb:MethIn K q9 "corners" "Road.corners" zbb)
  (zec:MethIn K q9 "on_road" "Road.on_road" zbe)
  (zed:MethIn K q9 "at" "Road.at" zbf)
  (zee:MethIn K q9 "reach" "Road.reach" zbd)
  (zef:PySem.W.nsIn K mainGlobals "Walker" = some (some (.ref q8)))
  (zeg:PySem.W.plainGet K q8 Str.empty=true)
  (zeh:PySem.W.hasDictIn K q8=true)
  (zei:PySem.W.plainOver K q8=true)
  (zej:PySem.W.findIn K (.ref q8) "__setattr__" = some (some (.builtin "object.__setattr__")))
  (zek:PySem.W.makesIn K q8=true)
  (zel:PySem.W.keepIn K (.ref q8)=true)
  (zem:MethIn K q8 "__init__" "Walker.__init__" zbp)
  (zen:PySem.W.nsIn K mainGlobals "House" = some (some (.ref qf)))
  (zeo:PySem.W.plainGet K qf Str.empty=true)
  (zep:PySem.W.hasDictIn K qf=true)
  (zeq:PySem.W.plainOver K qf=true)
  (zer:PySem.W.findIn K (.ref qf) "__setattr__" = some (some (.builtin "object.__setattr__")))
  (zes:PySem.W.makesIn K qf=true)
  (zet:PySem.W.keepIn K (.ref qf)=true)
  (zeu:MethIn K qf "__init__" "House.__init__" zbu)
  (zev:MethIn K qf "road_called" "House.road_called" zbv)
  (zew:MethIn K qf "walker_called" "House.walker_called" zbw)
  (zex:MethIn K qf "do" "House.do" zby)
  (zey:MethIn K qf "lay" "House.lay" zbz)
  (zez:MethIn K qf "place" "House.place" zb2)
  (ze0:MethIn K qf "walkers_on" "House.walkers_on" zbx)
  (ze1:MethIn K qf "bend" "House.bend" zb0)
  (ze2:MethIn K qf "go" "House.go" zb3)
  (ze3:MethIn K qf "clear" "House.clear" zb1)
  (ze4:MethIn K qf "meet" "House.meet" zb5)
  (ze5:MethIn K qf "take_back" "House.take_back" zb4)
  (ze6:PySem.W.findIn K (.ref q9) "heights" = some none)
  (ze7:PySem.W.findIn K (.ref q8) "whose" = some none)
  (ze8:PySem.W.findIn K (.ref q8) "point" = some none)
  (ze9:PySem.W.findIn K (.ref q8) "times" = some none)
  (zfa:PySem.W.findIn K (.ref qf) "roads" = some none)
  (zfb:PySem.W.findIn K (.ref qf) "walkers" = some none)
  (zfc:PySem.W.findIn K (.ref qf) "done" = some none)
  (zaq:PySem.W.nsIn K mainGlobals "WIDEST" = some (some (.int 24 zga)))
  (zch:PySem.W.nsIn K mainGlobals "LONGEST_TRACE" = some (some (.int 1000 zgb)))
  (zci:PySem.W.nsIn K mainGlobals "FARTHEST" = some (some (.int 1000000000000000000000000000000000000000000000000000000000000 zgc)))
  (zar:PySem.W.nsIn K mainGlobals "LONGEST_NAME" = some (some (.int 12 zgd)))
  (zas:PySem.W.nsIn K mainGlobals "GREATEST_BOTTOM" = some (some (.int 40 zge)))
  (zat:PySem.W.nsIn K mainGlobals "LETTERS" = some (some (.str "abcdefghijklmnopqrstuvwxyz" zgf)))
  (zau:PySem.W.nsIn K mainGlobals "LONGEST_NUMBER" = some (some (.int 3 zgg)))
  (zav:PySem.W.nsIn K mainGlobals "FIGURES" = some (some (.str "0123456789" zgh)))
  (zao:PySem.W.nsIn K mainGlobals "LONGEST_ROW" = some (some (.int 12 zgi)))
  (zaw:PySem.W.nsIn K mainGlobals "MOST_WAYS" = some (some (.int 1000 zgj)))
  (zax:PySem.W.nsIn K mainGlobals "MOST_STEPS" = some (some (.int 60 zgk)))
  (xi_BadLine:L2.XI K qy qm)
  (xi_BadBottom:L2.XI K qx qm)
  (xi_OffRoad:L2.XI K qb qm)
  (xi_BadCount:L2.XI K qj qm)
  (xi_TooLong:L2.XI K qc qm)
  (xi_BadRow:L2.XI K qg qm)
  (xi_BadName:L2.XI K qu qm)
  (xi_Taken:L2.XI K qp qm)
  (xi_NoRoad:L2.XI K qh qm)
  (xi_NoWalker:L2.XI K qk qm)
  (xi_Stood:L2.XI K qr qm)
  (xi_Apart:L2.XI K qt qm)
  (xi_NothingDone:L2.XI K qw qm)
  (xi_BadText:L2.XI K qd qm)
  (ms_BadLine:mR K qy qx/\mR K qy qb/\mR K qy qj/\mR K qy qc/\mR K qy qg/\mR K qy qu/\mR K qy qp/\mR K qy qh/\mR K qy qk/\mR K qy qr/\mR K qy qt/\mR K qy qw/\mR K qy qd)
  (ms_BadBottom:mR K qx qy/\mR K qx qb/\mR K qx qj/\mR K qx qc/\mR K qx qg/\mR K qx qu/\mR K qx qp/\mR K qx qh/\mR K qx qk/\mR K qx qr/\mR K qx qt/\mR K qx qw/\mR K qx qd)
  (ms_OffRoad:mR K qb qy/\mR K qb qx/\mR K qb qj/\mR K qb qc/\mR K qb qg/\mR K qb qu/\mR K qb qp/\mR K qb qh/\mR K qb qk/\mR K qb qr/\mR K qb qt/\mR K qb qw/\mR K qb qd)
  (ms_BadCount:mR K qj qy/\mR K qj qx/\mR K qj qb/\mR K qj qc/\mR K qj qg/\mR K qj qu/\mR K qj qp/\mR K qj qh/\mR K qj qk/\mR K qj qr/\mR K qj qt/\mR K qj qw/\mR K qj qd)
  (ms_TooLong:mR K qc qy/\mR K qc qx/\mR K qc qb/\mR K qc qj/\mR K qc qg/\mR K qc qu/\mR K qc qp/\mR K qc qh/\mR K qc qk/\mR K qc qr/\mR K qc qt/\mR K qc qw/\mR K qc qd)
  (ms_BadRow:mR K qg qy/\mR K qg qx/\mR K qg qb/\mR K qg qj/\mR K qg qc/\mR K qg qu/\mR K qg qp/\mR K qg qh/\mR K qg qk/\mR K qg qr/\mR K qg qt/\mR K qg qw/\mR K qg qd)
  (ms_BadName:mR K qu qy/\mR K qu qx/\mR K qu qb/\mR K qu qj/\mR K qu qc/\mR K qu qg/\mR K qu qp/\mR K qu qh/\mR K qu qk/\mR K qu qr/\mR K qu qt/\mR K qu qw/\mR K qu qd)
  (ms_Taken:mR K qp qy/\mR K qp qx/\mR K qp qb/\mR K qp qj/\mR K qp qc/\mR K qp qg/\mR K qp qu/\mR K qp qh/\mR K qp qk/\mR K qp qr/\mR K qp qt/\mR K qp qw/\mR K qp qd)
  (ms_NoRoad:mR K qh qy/\mR K qh qx/\mR K qh qb/\mR K qh qj/\mR K qh qc/\mR K qh qg/\mR K qh qu/\mR K qh qp/\mR K qh qk/\mR K qh qr/\mR K qh qt/\mR K qh qw/\mR K qh qd)
  (ms_NoWalker:mR K qk qy/\mR K qk qx/\mR K qk qb/\mR K qk qj/\mR K qk qc/\mR K qk qg/\mR K qk qu/\mR K qk qp/\mR K qk qh/\mR K qk qr/\mR K qk qt/\mR K qk qw/\mR K qk qd)
  (ms_Stood:mR K qr qy/\mR K qr qx/\mR K qr qb/\mR K qr qj/\mR K qr qc/\mR K qr qg/\mR K qr qu/\mR K qr qp/\mR K qr qh/\mR K qr qk/\mR K qr qt/\mR K qr qw/\mR K qr qd)
  (ms_Apart:mR K qt qy/\mR K qt qx/\mR K qt qb/\mR K qt qj/\mR K qt qc/\mR K qt qg/\mR K qt qu/\mR K qt qp/\mR K qt qh/\mR K qt qk/\mR K qt qr/\mR K qt qw/\mR K qt qd)
  (ms_NothingDone:mR K qw qy/\mR K qw qx/\mR K qw qb/\mR K qw qj/\mR K qw qc/\mR K qw qg/\mR K qw qu/\mR K qw qp/\mR K qw qh/\mR K qw qk/\mR K qw qr/\mR K qw qt/\mR K qw qd)
  (ms_BadText:mR K qd qy/\mR K qd qx/\mR K qd qb/\mR K qd qj/\mR K qd qc/\mR K qd qg/\mR K qd qu/\mR K qd qp/\mR K qd qh/\mR K qd qk/\mR K qd qr/\mR K qd qt/\mR K qd qw)
  (zfd:PySem.W.nsIn K mainGlobals "len" = some none)
  (zfe:PySem.W.nsIn K mainGlobals "abs" = some none)
  (zff:PySem.W.nsIn K mainGlobals "range" = some none)
  (zfg:PySem.W.nsIn K mainGlobals "list" = some none)
  (zfh:PySem.W.nsIn K mainGlobals "min" = some none)
  (zfi:PySem.W.nsIn K mainGlobals "max" = some none)
  (zfj:PySem.W.nsIn K mainGlobals "all" = some none)
  (zfk:PySem.W.nsIn K mainGlobals "any" = some none)
  (zfl:PySem.W.nsIn K mainGlobals "sorted" = some none)
  (zfm:PySem.W.nsIn K mainGlobals "enumerate" = some none)
  (zfn:PySem.W.nsIn K mainGlobals "dict" = some none)
  (zfo:PySem.W.nsIn K mainGlobals "isinstance" = some none)
  (zfp:PySem.W.nsIn K mainGlobals "int" = some none)
  (zfq:PySem.W.nsIn K mainGlobals "bool" = some none)
  (zfr:PySem.W.nsIn K mainGlobals "str" = some none)
  (zfs:PySem.W.nsIn K mainGlobals "zip" = some none)
  (zft:PySem.W.nsIn K mainGlobals "sum" = some none)
  (zfu:PySem.W.nsIn K mainGlobals "ValueError" = some none) :
  ∃fd:Ad,(∀(s:Ab) (v:Ag),BindsTo s fd ⟨[v],[]⟩ [("_law_script",v)])/\∀base:Heap,K.In base->base.Ns mainGlobals mg->FnOk l.prog w K mg base (CXE l.prog w) 11 fa fd ["_law_script"] (qv7 K):=by
 have T:Txt K mg qm qy qx qb qj qc qg qu qp qh qk qr qt qw qd q9 q8 qf:=⟨aE X G zfd,aE X G zfe,aE X G zff,aE X G zfg,aE X G zfh,aE X G zfi,aE X G zfj,aE X G zfk,aE X G zfl,aE X G zfm,aE X G zfn,aE X G zfo,aE X G zfp,aE X G zfq,aE X G zfr,aE X G zfs,aE X G zft,aE X G zfu,az X G zdm,⟨zaz⟩,az X G zdn,⟨zad⟩,az X G zdo,⟨zac⟩,az X G zdp,⟨zae⟩,az X G zdq,⟨zaf⟩,az X G zdr,⟨zag⟩,az X G zds,⟨zaa⟩,az X G zdt,⟨zah⟩,az X G zdu,⟨zai⟩,az X G zdv,⟨zaj⟩,az X G zdw,⟨zak⟩,az X G zdx,⟨zal⟩,az X G zdy,⟨zam⟩,az X G zdz,⟨zan⟩,az X G zd0,⟨zab⟩,⟨zd2,zd3,zd4,zd5⟩,ze6,⟨zga,az X G zaq⟩,az X G zd1,⟨zeg,zeh,zei,zej⟩,⟨zeo,zep,zeq,zer⟩,ze7,ze8,ze9,zfa,zfb,zfc,az X G zef,az X G zen,⟨zgb,az X G zch⟩,⟨zgc,az X G zci⟩,⟨zgd,az X G zar⟩,⟨zge,az X G zas⟩,⟨zgf,az X G zat⟩,⟨zgg,az X G zau⟩,⟨zgh,az X G zav⟩,⟨zgi,az X G zao⟩,⟨zgj,az X G zaw⟩,⟨zgk,az X G zax⟩,xi_BadLine,xi_BadBottom,xi_OffRoad,xi_BadCount,xi_TooLong,xi_BadRow,xi_BadName,xi_Taken,xi_NoRoad,xi_NoWalker,xi_Stood,xi_Apart,xi_NothingDone,xi_BadText,ms_BadLine,ms_BadBottom,ms_OffRoad,ms_BadCount,ms_TooLong,ms_BadRow,ms_BadName,ms_Taken,ms_NoRoad,ms_NoWalker,ms_Stood,ms_Apart,ms_NothingDone,ms_BadText⟩;obtain⟨f,fd,a,F⟩:=zdl.ex;have e:=hfa.symm.trans (az X G a);cases e;refine⟨fd,λs v=>?_,λbase kb nb=>?_⟩
 .obtain⟨oc,od,kV,dg,pm,an,cdv,ct,da,rfl,lk,dc⟩:=F.ex;exact .of_eq rfl
 .have c1:Cal l.prog w K mg base "_law_cell" 1 (qjp K):=zcu.cal X G qwd λf fd F=>wz4 T F;have c2:Cal l.prog w K mg base "_law_pick" 2 (qjh K):=zcv.cal X G qw7 λf fd F=>wv5 T F c1;have c3:Cal l.prog w K mg base "check_bottom" 1 (qw1 qx):=zcw.cal X G Zx λf fd F=>wx1 T F;have c4:Cal l.prog w K mg base "common_divisor" 1 wqf:=zcx.cal X G Qh λf fd F=>zgt T F;have c5:Cal l.prog w K mg base "lowest" 2 (y0 qx):=zcy.cal X G qu1 λf fd F=>qu2 T F c3 c4;have U:CalD l.prog w K mg base "check_count" 1 (Zk qj):=zcz.cal X G Yu Yw λf fd F=>wwr T F;have c7:Cal l.prog w K mg base "is_line" 1 (Yc K):=zc0.cal X G qjv λf fd F=>qkq T F;have J:CCal l.prog w K mg base "Road" q9 2 (Q2 K qy q9):=zd8.ccal T.zgo zd6 zd7 Wg λf fd F=>wvm T F c7;have I:MCal l.prog w K mg base q9 "width" 1 (yz q9):=zd9.cal qqg λf fd F=>wxz T F;have a3:MCal l.prog w K mg base q9 "ends" 2 (qxk q9 qg):=zea.cal qxn λf fd F=>wvp T F I;have c0:MCal l.prog w K mg base q9 "corners" 1 (Ww q9):=zeb.cal W6 λf fd F=>qks T F;have a2:MCal l.prog w K mg base q9 "on_road" 3 (Q0 K q9 qx qb):=zec.cal Zv λf fd F=>qkr T F I c5;have cs:MCal l.prog w K mg base q9 "at" 4 (spAt K q9 qx qb):=zed.cal qjj λf fd F=>zgw T F I c5 a3 a2;have cq:MCal l.prog w K mg base q9 "reach" 3 (qxv q9 qg):=zee.cal qqh λf fd F=>wwg T F a3;have a1:Cal l.prog w K mg base "covered" 4 (y8 q9 qg):=zc1.cal X G qkf λf fd F=>qjr T F cq;have cp:Cal l.prog w K mg base "covers_of" 5 (u5 q9):=zc2.cal X G qw0 λf fd F=>qx3 T F I a1;have co:Cal l.prog w K mg base "ways_of_no_step" 1 Ys:=zc3.cal X G uu λf fd F=>qjq T F;have cj:∀hs,xu hs->Cal l.prog w K mg base "one_step_more" 1 (Q4 hs):=λhs ok=>zc4.cal X G Q9 λf fd F=>qz4 ok F T;have ci:Cal l.prog w K mg base "ways_up_to" 6 (Yt q9):=zc5.cal X G qqu λf fd F=>qj2 T F cp I co cj;have cc:Cal l.prog w K mg base "ways" 2 (qwr qj):=zc6.cal X G wv7 λf fd F=>wzu T F U;have ca:Cal l.prog w K mg base "rows" 7 (qxy q9 qc):=zc7.cal X G wv1 λf fd F=>wq5 T F U ci;have b9:Cal l.prog w K mg base "check_row" 5 (vf K q9 qg):=zc8.cal X G qxr λf fd F=>qxc T F a1;have b8:Cal l.prog w K mg base "point_of" 6 (vf K q9 qg):=zc9.cal X G qvj λf fd F=>qzr T F b9;have b7:CCal l.prog w K mg base "Walker" q8 1 (Zu q8):=zem.ccal T.zgp zek zel Qq λf fd F=>wxu T F;have b6:Cal l.prog w K mg base "set_down" 3 (Wj q8):=zda.cal X G qvr λf fd F=>qvp T F b7;have b5:Cal l.prog w K mg base "is_name" 1 Z4:=zdb.cal X G qj0 λf fd F=>qkm T F;have a0:Cal l.prog w K mg base "check_new_name" 2 (y4 qu qp):=zdc.cal X G Qx λf fd F=>qvt T F b5;have b4:Cal l.prog w K mg base "exchange" 1 qkt:=zdd.cal X G qvn λf fd F=>wzs T F;have S:CCal l.prog w K mg base "House" qf 1 (Qt qf):=zeu.ccal T.zgq zes zet Qv λf fd F=>wxp T F;have O:MCal l.prog w K mg base qf "road_called" 1 (vh qf qh true):=zev.cal yg λf fd F=>Zm T F;have ap:MCal l.prog w K mg base qf "walker_called" 1 (vh qf qk false):=zew.cal j9 λf fd F=>Wf T F;have ad:MCal l.prog w K mg base qf "do" 2 (spDo qf):=zex.cal qvq λf fd F=>zg2 T F b4;have L:MCal l.prog w K mg base qf "lay" 4 (qq0 K qf q9 qu qp qy):=zey.cal qxx λf fd F=>zg3 T F a0 J ad;have Z:MCal l.prog w K mg base qf "place" 5 (Qk K qf q9 q8 qu qp qh qx qb):=zez.cal Z2 λf fd F=>wxk T F a0 O c5 a2 b6 ad;have b3:MCal l.prog w K mg base qf "walkers_on" 1 (spOn qf q8):=ze0.cal uw λf fd F=>qqk T F;have b2:MCal l.prog w K mg base qf "bend" 2 (qx9 qf qh):=ze1.cal Jb λf fd F=>wzw T F O c0;have b1:MCal l.prog w K mg base qf "go" 2 (wx9 qf qk):=ze2.cal qv3 λf fd F=>zg6 T F ap;have b0:MCal l.prog w K mg base qf "clear" 2 (Jw qf q8 qr):=ze3.cal Jx λf fd F=>qus T F O b3;have bl:MCal l.prog w K mg base qf "meet" 2 (qxm qf q8 qt):=ze4.cal qqw λf fd F=>wxt T F ap;have bk:MCal l.prog w K mg base qf "take_back" 1 (qxh qf qw):=ze5.cal ut λf fd F=>wqs T F;have bf:Cal l.prog w K mg base "number_of" 1 qwp:=zde.cal X G qzv λf fd F=>qx1 T F;have a9:Cal l.prog w K mg base "take_in" 6 (qwt qf qy):=zdf.cal X G qk1 λf fd F=>wzx T F L Z bf;have a8:Cal l.prog w K mg base "house_of" 7 (Yg qy):=zdg.cal X G qzg λf fd F=>quw T F S a9;have a7:Cal l.prog w K mg base "read_house" 8 (qx0 qd):=zdh.cal X G J3 λf fd F=>wzd T F a8;have a6:Cal l.prog w K mg base "_law_first" 9 (qxj [qy,qx,qb,qj,qc,qg,qu,qp,qh,qk,qr,qt,qw,qd] q9):=zdi.cal X G qqv λf fd F=>wwv T F J cs cc ca b8 a7;have a5:Cal l.prog w K mg base "_law_second" 5 (Y4 [qy,qx,qb,qj,qc,qg,qu,qp,qh,qk,qr,qt,qw,qd] qf q8):=zdj.cal X G Yy λf fd F=>qu0 T F S L b2 b1 b0 bl bk;have a4:Cal l.prog w K mg base "_law_flags" 10 (qw5 qf q9 q8):=zdk.cal X G Jm λf fd F=>wzv T F a6 a5;exact zho T F c2 J S L Z a4
theorem walk {l:PySem.W.OpenLaw}{q:Ac}{loose:List Str}{XP:(Str->Option Ag)->Heap->Prop}{YP:Ah->Heap->Prop}{d:DefRec}{K:Params->Aa}(hn:l.most=some 63)(hdf:d.params.defaults=[])
  (hY:∀(w:Ah) (h:Heap),YP w h->(K w.params).In h)
  (F:∀(w:Ah) (mg:Str->Option Ag) (fa:Aj) (h:Heap),(K w.params).In h->h.Ns mainGlobals mg->mg d.name=some (.ref fa) ->
   ∃fd:Ad,(∀(s:Ab) (u:Ag),BindsTo s fd ⟨[u],[]⟩ [("_law_script",u)])/\∀base:Heap,(K w.params).In base->base.Ns mainGlobals mg->FnOk l.prog w (K w.params) mg base (CXE l.prog w) 11 fa fd ["_law_script"] (qv7 (K w.params))) :
  PySem.W.WalkO q loose XP YP l.row.toRowW d [] (λf vs=>PySem.call f vs) :=
 L2.wz9 (n:=63) (k:=11) (x := "_law_script") (CX:=λw=>CXE l.prog w) (sp:=λw=>qv7 (K w.params)) hn ⋯ hdf ⟨rfl,⋯,⋯⟩ hY F (λ_ _ a ns hl _ hS=>⟨a,ns,rfl,hS,hl,λ_=>rfl⟩) λ_ _ _ _ _ z=>CXE.no z
end
end My
open PySem PySem.W PyProof.Rows
local macro_rules | `(tactic| walk_at "def")=>`(tactic| (refine' L2.def_mk ?a ?l ?c ?k;(case a=>k_is);(case l=>k_is);(case c=>k_is);(case k=>k_is)))
local macro_rules | `(tactic| walk_at "defD")=>`(tactic| (refine' L2.wz6 ?a ?l ?c ?k ?t;(case a=>k_is);(case l=>k_is);(case c=>k_is);(case k=>k_is);(case t=>k_is)))
local macro_rules | `(tactic| walk_at "meth")=>`(tactic| (refine' L2.wvt ?a ?i ?l ?c ?k;(case a=>k_is);(case i=>k_is);(case l=>k_is);(case c=>k_is);(case k=>k_is)))
section
open Lean
local macro_rules|`(universe $x*)=>do let mut r:=#[];for i in x do {let s:=i.getId.toString;let n:=((s.drop 1).toString.splitOn "_").map String.toNat!;for j in [n.head!:n.getLast!+1] do {r:=r.push (<-`(command|theorem $(mkIdent (.str `PySem.W.Fast s!"tw{(Name.str `PySem.Challenge.cw_crookroad_k58_refusals_apart_holds ((match s.front with|'h'=>"heap_"|'t'=>"tree_"|'v'=>"view_"|'s'=>"sts_"|'e'=>"env_"|_=>"o_")++toString j)).hash}")):ident:True:=trivial))}};return mkNullNode r
universe h39 h46 h904 t47 t70 t85 t100 t115 t130 t145 t160 t175 t190 t205 t220 t235 t250 t265 t308 t380 t450 t494 t543 t550 t732 t815 t896 t903 v39 o43_815 o819_903 s49 s71 s86 s101 s116 s131 s146 s161 s176 s191 s206 s221 s236 s251 s266 s309 s381 s451 s495 s544 s551 s819 s897 e41
end
theorem PySem.W.Fast.tw15704215954844690588:True:=trivial
theorem PySem.W.Fast.tw1275076459213231129:True:=trivial
set_option maxRecDepth 100000 in
set_option maxHeartbeats 0 in
theorem PySem.Challenge.cw_crookroad_k58_refusals_apart_holds : PySem.Challenge.rw_crookroad_k58_refusals_apart.Holds := by
 w_on;o_law;k_head;(case hw=>w_witness2)
 k_fill
 refine My.walk (l:=PySem.Challenge.rw_crookroad_k58_refusals_apart) rfl rfl (fun w h Y=>PySem.W.kIn_of Y) ?F
 case F =>
  intro w mg fa h KX G hmg
  refine' My.all_mk KX G hmg ?zcu ?zcv ?zcw ?zcx ?zcy ?zcz ?zc0 ?zc1 ?zc2 ?zc3 ?zc4 ?zc5 ?zc6 ?zc7 ?zc8 ?zc9 ?zda ?zdb ?zdc ?zdd ?zde ?zdf ?zdg ?zdh ?zdi ?zdj ?zdk ?zdl ?zdm ?zaz ?zdn ?zad ?zdo ?zac ?zdp ?zae ?zdq ?zaf ?zdr ?zag ?zds ?zaa ?zdt ?zah ?zdu ?zai ?zdv ?zaj ?zdw ?zak ?zdx ?zal ?zdy ?zam ?zdz ?zan ?zd0 ?zab ?zd1 ?zd2 ?zd3 ?zd4 ?zd5 ?zd6 ?zd7 ?zd8 ?zd9 ?zea ?zeb ?zec ?zed ?zee ?zef ?zeg ?zeh ?zei ?zej ?zek ?zel ?zem ?zen ?zeo ?zep ?zeq ?zer ?zes ?zet ?zeu ?zev ?zew ?zex ?zey ?zez ?ze0 ?ze1 ?ze2 ?ze3 ?ze4 ?ze5 ?ze6 ?ze7 ?ze8 ?ze9 ?zfa ?zfb ?zfc ?zaq ?zch ?zci ?zar ?zas ?zat ?zau ?zav ?zao ?zaw ?zax ?xi_BadLine ?xi_BadBottom ?xi_OffRoad ?xi_BadCount ?xi_TooLong ?xi_BadRow ?xi_BadName ?xi_Taken ?xi_NoRoad ?xi_NoWalker ?xi_Stood ?xi_Apart ?xi_NothingDone ?xi_BadText ?ms_BadLine ?ms_BadBottom ?ms_OffRoad ?ms_BadCount ?ms_TooLong ?ms_BadRow ?ms_BadName ?ms_Taken ?ms_NoRoad ?ms_NoWalker ?ms_Stood ?ms_Apart ?ms_NothingDone ?ms_BadText ?zfd ?zfe ?zff ?zfg ?zfh ?zfi ?zfj ?zfk ?zfl ?zfm ?zfn ?zfo ?zfp ?zfq ?zfr ?zfs ?zft ?zfu
  (case zcu=>walk_at "def")
  (case zcv=>walk_at "def")
  (case zcw=>walk_at "def")
  (case zcx=>walk_at "def")
  (case zcy=>walk_at "def")
  (case zcz=>walk_at "defD")
  (case zc0=>walk_at "def")
  (case zc1=>walk_at "def")
  (case zc2=>walk_at "def")
  (case zc3=>walk_at "def")
  (case zc4=>walk_at "def")
  (case zc5=>walk_at "def")
  (case zc6=>walk_at "def")
  (case zc7=>walk_at "def")
  (case zc8=>walk_at "def")
  (case zc9=>walk_at "def")
  (case zda=>walk_at "def")
  (case zdb=>walk_at "def")
  (case zdc=>walk_at "def")
  (case zdd=>walk_at "def")
  (case zde=>walk_at "def")
  (case zdf=>walk_at "def")
  (case zdg=>walk_at "def")
  (case zdh=>walk_at "def")
  (case zdi=>walk_at "def")
  (case zdj=>walk_at "def")
  (case zdk=>walk_at "def")
  (case zdl=>walk_at "def")
  (case zdm=>k_is)
  (case zaz=>k_exc)
  (case zdn=>k_is)
  (case zad=>k_exc)
  (case zdo=>k_is)
  (case zac=>k_exc)
  (case zdp=>k_is)
  (case zae=>k_exc)
  (case zdq=>k_is)
  (case zaf=>k_exc)
  (case zdr=>k_is)
  (case zag=>k_exc)
  (case zds=>k_is)
  (case zaa=>k_exc)
  (case zdt=>k_is)
  (case zah=>k_exc)
  (case zdu=>k_is)
  (case zai=>k_exc)
  (case zdv=>k_is)
  (case zaj=>k_exc)
  (case zdw=>k_is)
  (case zak=>k_exc)
  (case zdx=>k_is)
  (case zal=>k_exc)
  (case zdy=>k_is)
  (case zam=>k_exc)
  (case zdz=>k_is)
  (case zan=>k_exc)
  (case zd0=>k_is)
  (case zab=>k_exc)
  (case zd1=>k_is)
  (case zd2=>k_is)
  (case zd3=>k_is)
  (case zd4=>k_is)
  (case zd5=>k_is)
  (case zd6=>k_is)
  (case zd7=>k_is)
  (case zd8=>walk_at "meth")
  (case zd9=>walk_at "meth")
  (case zea=>walk_at "meth")
  (case zeb=>walk_at "meth")
  (case zec=>walk_at "meth")
  (case zed=>walk_at "meth")
  (case zee=>walk_at "meth")
  (case zef=>k_is)
  (case zeg=>k_is)
  (case zeh=>k_is)
  (case zei=>k_is)
  (case zej=>k_is)
  (case zek=>k_is)
  (case zel=>k_is)
  (case zem=>walk_at "meth")
  (case zen=>k_is)
  (case zeo=>k_is)
  (case zep=>k_is)
  (case zeq=>k_is)
  (case zer=>k_is)
  (case zes=>k_is)
  (case zet=>k_is)
  (case zeu=>walk_at "meth")
  (case zev=>walk_at "meth")
  (case zew=>walk_at "meth")
  (case zex=>walk_at "meth")
  (case zey=>walk_at "meth")
  (case zez=>walk_at "meth")
  (case ze0=>walk_at "meth")
  (case ze1=>walk_at "meth")
  (case ze2=>walk_at "meth")
  (case ze3=>walk_at "meth")
  (case ze4=>walk_at "meth")
  (case ze5=>walk_at "meth")
  (case ze6=>k_is)
  (case ze7=>k_is)
  (case ze8=>k_is)
  (case ze9=>k_is)
  (case zfa=>k_is)
  (case zfb=>k_is)
  (case zfc=>k_is)
  (case zaq=>k_is)
  (case zch=>k_is)
  (case zci=>k_is)
  (case zar=>k_is)
  (case zas=>k_is)
  (case zat=>k_is)
  (case zau=>k_is)
  (case zav=>k_is)
  (case zao=>k_is)
  (case zaw=>k_is)
  (case zax=>k_is)
  (case xi_BadLine=>refine⟨?_,?_,?_,?_,?_,?_,?_⟩<;>(first|(unfold My.mR;k_is)|k_is))
  (case xi_BadBottom=>refine⟨?_,?_,?_,?_,?_,?_,?_⟩<;>(first|(unfold My.mR;k_is)|k_is))
  (case xi_OffRoad=>refine⟨?_,?_,?_,?_,?_,?_,?_⟩<;>(first|(unfold My.mR;k_is)|k_is))
  (case xi_BadCount=>refine⟨?_,?_,?_,?_,?_,?_,?_⟩<;>(first|(unfold My.mR;k_is)|k_is))
  (case xi_TooLong=>refine⟨?_,?_,?_,?_,?_,?_,?_⟩<;>(first|(unfold My.mR;k_is)|k_is))
  (case xi_BadRow=>refine⟨?_,?_,?_,?_,?_,?_,?_⟩<;>(first|(unfold My.mR;k_is)|k_is))
  (case xi_BadName=>refine⟨?_,?_,?_,?_,?_,?_,?_⟩<;>(first|(unfold My.mR;k_is)|k_is))
  (case xi_Taken=>refine⟨?_,?_,?_,?_,?_,?_,?_⟩<;>(first|(unfold My.mR;k_is)|k_is))
  (case xi_NoRoad=>refine⟨?_,?_,?_,?_,?_,?_,?_⟩<;>(first|(unfold My.mR;k_is)|k_is))
  (case xi_NoWalker=>refine⟨?_,?_,?_,?_,?_,?_,?_⟩<;>(first|(unfold My.mR;k_is)|k_is))
  (case xi_Stood=>refine⟨?_,?_,?_,?_,?_,?_,?_⟩<;>(first|(unfold My.mR;k_is)|k_is))
  (case xi_Apart=>refine⟨?_,?_,?_,?_,?_,?_,?_⟩<;>(first|(unfold My.mR;k_is)|k_is))
  (case xi_NothingDone=>refine⟨?_,?_,?_,?_,?_,?_,?_⟩<;>(first|(unfold My.mR;k_is)|k_is))
  (case xi_BadText=>refine⟨?_,?_,?_,?_,?_,?_,?_⟩<;>(first|(unfold My.mR;k_is)|k_is))
  (case ms_BadLine=>refine⟨?_,?_,?_,?_,?_,?_,?_,?_,?_,?_,?_,?_,?_⟩<;>(first|(unfold My.mR;k_is)|k_is))
  (case ms_BadBottom=>refine⟨?_,?_,?_,?_,?_,?_,?_,?_,?_,?_,?_,?_,?_⟩<;>(first|(unfold My.mR;k_is)|k_is))
  (case ms_OffRoad=>refine⟨?_,?_,?_,?_,?_,?_,?_,?_,?_,?_,?_,?_,?_⟩<;>(first|(unfold My.mR;k_is)|k_is))
  (case ms_BadCount=>refine⟨?_,?_,?_,?_,?_,?_,?_,?_,?_,?_,?_,?_,?_⟩<;>(first|(unfold My.mR;k_is)|k_is))
  (case ms_TooLong=>refine⟨?_,?_,?_,?_,?_,?_,?_,?_,?_,?_,?_,?_,?_⟩<;>(first|(unfold My.mR;k_is)|k_is))
  (case ms_BadRow=>refine⟨?_,?_,?_,?_,?_,?_,?_,?_,?_,?_,?_,?_,?_⟩<;>(first|(unfold My.mR;k_is)|k_is))
  (case ms_BadName=>refine⟨?_,?_,?_,?_,?_,?_,?_,?_,?_,?_,?_,?_,?_⟩<;>(first|(unfold My.mR;k_is)|k_is))
  (case ms_Taken=>refine⟨?_,?_,?_,?_,?_,?_,?_,?_,?_,?_,?_,?_,?_⟩<;>(first|(unfold My.mR;k_is)|k_is))
  (case ms_NoRoad=>refine⟨?_,?_,?_,?_,?_,?_,?_,?_,?_,?_,?_,?_,?_⟩<;>(first|(unfold My.mR;k_is)|k_is))
  (case ms_NoWalker=>refine⟨?_,?_,?_,?_,?_,?_,?_,?_,?_,?_,?_,?_,?_⟩<;>(first|(unfold My.mR;k_is)|k_is))
  (case ms_Stood=>refine⟨?_,?_,?_,?_,?_,?_,?_,?_,?_,?_,?_,?_,?_⟩<;>(first|(unfold My.mR;k_is)|k_is))
  (case ms_Apart=>refine⟨?_,?_,?_,?_,?_,?_,?_,?_,?_,?_,?_,?_,?_⟩<;>(first|(unfold My.mR;k_is)|k_is))
  (case ms_NothingDone=>refine⟨?_,?_,?_,?_,?_,?_,?_,?_,?_,?_,?_,?_,?_⟩<;>(first|(unfold My.mR;k_is)|k_is))
  (case ms_BadText=>refine⟨?_,?_,?_,?_,?_,?_,?_,?_,?_,?_,?_,?_,?_⟩<;>(first|(unfold My.mR;k_is)|k_is))
  (case zfd=>k_is)
  (case zfe=>k_is)
  (case zff=>k_is)
  (case zfg=>k_is)
  (case zfh=>k_is)
  (case zfi=>k_is)
  (case zfj=>k_is)
  (case zfk=>k_is)
  (case zfl=>k_is)
  (case zfm=>k_is)
  (case zfn=>k_is)
  (case zfo=>k_is)
  (case zfp=>k_is)
  (case zfq=>k_is)
  (case zfr=>k_is)
  (case zfs=>k_is)
  (case zft=>k_is)
  (case zfu=>k_is)
