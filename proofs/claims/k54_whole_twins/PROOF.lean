import PyProof.Rows.All
import Wide.All
import OpenK.AllK
import Wide.FinOn
import Lean
import PyProof.EqAt
import PyProof.EqKinds
import PyProof.TupleCall
import PyProof.NeData
import KE.IntBitsLaws
import KE.KDictList
import KE.KRevIter
import PyProof.DictIter
import PyProof.DictItems
import PyProof.DictWalks
import PyProof.StrLoop
import KE.KPairComp
import PyProof.StrWalks
import KE.KSortKey
import KE.KDictOf
import PyProof.Rows.TupDisplay
import PyProof.DictCompW
import PyProof.DictUpdate
import PyProof.DictValues
import PyProof.StrLawsIn
import PySem.Challenge.RW_crookroad_k54_whole_twins
set_option maxHeartbeats 0
set_option Elab.async false
set_option linter.all false
set_option maxRecDepth 100000
local macro_rules|`(tactic|lia)=>`(tactic|first|lia +splitIte|omega)
local macro_rules|`(⋯)=>`(by first|decide|lia)
local macro_rules|`(tactic|walk_at "iv")=>`(tactic|first|exact .inl rfl|exact .inr rfl|assumption)
local macro_rules|`(tactic|walk_at "vs")=>`(tactic|first|exact Or.inl rfl|exact Or.inr (Or.inl rfl)|exact Or.inr (Or.inr rfl))
def aa:=@List.length_map
def ac:=@PySem.wpAny_bind
def ae:=@List.mem_cons
def af:=@List.not_mem_nil
def ag:=@PySem.Heap.get?_push_of_some
def ai:=@if_neg
def aj:=@List.getElem?_eq_getElem
def ak:=@if_pos
def al:=@Nat.le_refl
def am:=@PySem.Heap.lt_size
def ao:=@PySem.wpAny_pure
def aq:=@List.mem_singleton
def ar:=@List.getD_eq_getElem?_getD
def au:=@List.mem_cons_of_mem
def av:=@Option.some.inj
def aw:=@PySem.Heap.get?_push_size
def ax:=@List.mem_map
def ay:=@List.mem_cons_self
def az:=@Nat.ne_of_lt
def aA:=@List.mem_append_right
def aB:=@PySem.boot_len
def aC:=@List.map_cons
def aD:=@Nat.zero_le
def aE:=@List.getElem?_map
def aF:=@List.size_toArray
def aG:=@or_false
def aH:=@Nat.lt_of_lt_of_le
def aI:=@Bool.false_ne_true
def aJ:=@Int.mul_le_mul_of_nonneg_right
def aK:=@List.lookup_cons
def aL:=@List.mem_of_getElem?
def aM:=@List.length_range
def aN:=@List.getElem?_eq_some_iff
def aO:=@List.length_cons
def aP:=@List.length_append
def aQ:=@Nat.lt_irrefl
def aR:=@PyProof.Rows.boot_isinstance
def aS:=@List.nodup_nil
def aT:=@PySem.W.mg_of
def aU:=@beq_eq_false_iff_ne
def aV:=@Ne.symm
def aW:=@List.mem_range
def aX:=@decide_eq_true
def aY:=@List.nodup_cons
def aZ:=@PyProof.Rows.boot_list
def ba:=@PySem.wpAny_mono
def bd:=@PySem.W.mg_none_of
def be:=@PySem.PassesOwn.leaving
def bg:=@List.map_append
def bh:=@Option.isSome_iff_exists
def bi:=@List.mem_append
def bj:=@Nat.lt_trans
def bn:=@decide_eq_false
def bq:=@Array.length_toList
def br:=@List.getElem?_eq_none
def bu:=@PySem.Paired.length
def bv:=@List.getElem?_append_right
def bw:=@PySem.F.plainAttrs_list
def bx:=@List.getElem_of_mem
def bz:=@List.mem_filter
def bA:=@Bool.and_eq_true
def bB:=@PySem.Calls.callWith_builtin
def bC:=@congrArg
def bD:=@Nat.le_trans
def bE:=@List.length_take
def bF:=@List.getElem?_append_left
def bG:=@List.length_filter_le
def bH:=@Nat.le_of_lt
def bI:=@List.map_nil
def bJ:=@List.pairwise_map
def bK:=@List.map_map
def bL:=@PySem.F.plainAttrs_dict
def bM:=@PySem.W.kia_one
def bN:=@Int.emod_nonneg
def bO:=@List.getElem_mem
def bP:=@List.all_eq_true
def bQ:=@List.filter_cons
def bR:=@PyProof.Rows.boot_dict
def bS:=@Int.mul_le_mul_of_nonneg_left
def bT:=@of_decide_eq_true
def bU:=@Nat.le_of_ble_eq_true
def bV:=@PySem.F.slot_list_append
def bW:=@PySem.F.type_list_append
def bX:=@PyProof.Rows.boot_sorted
def bY:=@PySem.F.slot_dict_keyiterator_next
def bZ:=@Int.emod_lt_of_pos
def ca:=@List.mem_flatMap
def cb:=@List.range_succ
def ce:=@Array.getElem?_eq_getElem
def cf:=@Classical.byContradiction
def ck:=@Array.getElem?_toList
def cm:=@PySem.F.slot_dict_get
def cn:=@PySem.wpAny_holding
def cu:=@PySem.call_meetsIn
def cv:=@List.Pairwise.imp_of_mem
def cw:=@List.mem_append_left
def cx:=@PySem.Calls.evalArgs_plain
def cy:=@PySem.wpAny_typeNameOfWhole_keyiter
def cz:=@PySem.wpAny_truthy_bool
def cA:=@PySem.wpAny_newObj_type
def cB:=@PySem.wpAny_dictEntries
def cC:=@List.length_eq_zero_iff
def cD:=@PyProof.Rows.boot_tuple
def cE:=@Option.map_some
def cF:=@List.map_congr_left
def cG:=@Array.getElem?_eq_none
def cH:=@PySem.Calls.spliced_cons
def cI:=@PySem.F.excBase_ValueError
def cJ:=@PySem.tupleKind_room_in1
def cK:=@Bool.false_eq_true
def cL:=@List.filter_append
def cM:=@List.append_ne_nil_of_right_ne_nil
def cN:=@PySem.wpAny_passesOwn
def cO:=@Bool.eq_iff_iff
def cP:=@List.append_nil
def cQ:=@List.length_set
def cR:=@Int.lt_or_le
def cS:=@PySem.wpAny_standAt
def cT:=@PySem.wpAny_typeNameOf_keyiter
def cU:=@PySem.mem_of_lookup
def cV:=@List.getElem?_range
def cW:=@PySem.wpAny_Call_method0_late
def cX:=@List.take_length
def cY:=@PySem.wpAny_getItem_str_slice
def cZ:=@PySem.wpAny_Call_Name_kw
def de:=@PySem.F.entry_dict_get
def df:=@Int.mul_ediv_mul_of_pos_left
def dh:=@List.find?_cons
def di:=@PyProof.Rows.callWith_type1
def dj:=@PySem.Calls.spliced_nil
def dm:=@Int.mul_nonneg
def dn:=@Array.size_map
def dq:=@Nat.mod_lt
def du:=@List.getElem_inj
def dv:=@PySem.wpAny_call_entry
def dz:=@List.any_eq_true
def dA:=@PySem.Calls.call_function_entry
def dB:=@List.filterMap_cons
def dC:=@PySem.evalArgs_none
def dD:=@Int.toNat_of_nonneg
def dE:=@PySem.Heap.SameBut.update
def dF:=@PySem.wpAny_comprehension_free
def dG:=@PySem.wpAny_execs_nil
def dH:=@beq_iff_eq
def dI:=@Nat.lt_of_le_of_lt
def dJ:=@List.pairwise_cons
def dL:=@List.find?_eq_none
def dM:=@PySem.wpAny_callSpecial?_slot
def dN:=@PySem.wpAny_assign_Name
def dO:=@PySem.Heap.size_push
def dP:=@if_false
def dQ:=@PySem.codeAny_mono
def dR:=@Int.toNat_natCast
def dS:=@Option.isSome_map
def dU:=@Option.map_eq_some_iff
def dW:=@PySem.wpAny_Call_method
def dX:=@List.length_pos_of_mem
def dY:=@List.pairwise_lt_range
def dZ:=@decide_eq_true_eq
def d3:=@List.getElem_take
def d6:=@List.take_add_one
def d7:=@PySem.Heap.get?_update_self
def d8:=@PySem.exec_Assign_Name_used
def ee:=@PySem.F.slot_list_pop
def eh:=@PySem.F.type_list_pop
def eA:=@PySem.F.args_dict_keyiterator_next_1
def eB:=@List.getElem_map
def eC:=@Int.mul_ediv_cancel'
def eE:=@PySem.wpAny_newFunctionEnv
def eF:=@PySem.lookup_relabel_local
def eG:=@PySem.F.entry_dict_keyiterator_next
def eI:=@List.eq_nil_of_length_eq_zero
def eJ:=@Nat.div_lt_of_lt_mul
def eK:=@Int.lt_ediv_add_one_mul_self
def eM:=@Nat.not_lt_zero
def eN:=@PySem.post_val_or_str
def eO:=@PySem.W.plainGet_of
def eP:=@PySem.Heap.get?_update_ne
def eQ:=@Nat.ne_of_gt
def eS:=@Array.getD_eq_getD_getElem?
def eT:=@Int.mul_lt_mul_of_pos_right
def eV:=@PyProof.Rows.assignInOrder_cons
def eX:=@List.mem_filterMap
def eY:=@PySem.W.callWith_K
def eZ:=@Int.mul_lt_mul_of_pos_left
def e7:=@Array.getElem?_eq_some_iff
def e9:=@PySem.F.slot_dict_delitem
def ff:=@List.mem_of_find?_eq_some
def fg:=@Int.mul_neg_of_neg_of_pos
def fh:=@PySem.wpAny_pyIter_list
def fi:=@PySem.Heap.SameBut.refl
def fj:=@List.length_erase
def fk:=@List.ext_getElem?
def fo:=@List.nodup_append
def fu:=@PySem.wpAny_newList
def fw:=@PySem.F.slot_dict_update
def fx:=@PySem.F.slot_dict_values
def fy:=@List.length_erase_of_mem
def fA:=@PySem.wpAny_execs_cons
def fB:=@Int.natCast_dvd_natCast
def fC:=@PySem.F.slot_dict_clear
def fD:=@PySem.F.args_dict_get_2
def fE:=@PySem.F.args_dict_get_3
def fF:=@PySem.F.slot_dict_items
def fG:=@List.pairwise_singleton
def fH:=@List.cons_ne_nil
def fI:=@decide_eq_false_iff_not
def fJ:=@if_true
def fK:=@Int.mul_comm
def fL:=@Nat.lt_or_ge
def fM:=@List.of_mem_zip
def fN:=@Int.natCast_mul
def fO:=@Int.ediv_nonneg
def fP:=@Int.ediv_mul_le
def fQ:=@List.length_nil
def fS:=@PySem.wpAny_specialOf
def fT:=@PySem.wpAny_dictEpoch
def fV:=@Int.le_refl
def fY:=@List.any_cons
def ga:=@List.map_take
section
open PySem PySem.Spec PyProof.Rows
abbrev Aa:=PySem.W.Frag
abbrev Ab:=PySem.Shared
abbrev Ac:=PySem.Program
abbrev Ad:=PySem.FuncData
abbrev Ae:=Around
abbrev Af:=SortSt
abbrev Ag:=Value
abbrev Ah:=World
abbrev Ai:=Keyed
abbrev Aj:=Addr
end
namespace L2
theorem gI {α:Sort _}{A K:α→Prop}{v:α}(e:A v)(h:K v):∃x,A x∧K x:=⟨v,e,h⟩
theorem xu {α β:Sort _}{A:α→Prop}{B:β→Prop}{K:α→β→Prop}{u:α}{v:β}(a:A u)(b:B v)(h:K u v):∃x y,A x∧B y∧K x y:=⟨u,v,a,b,h⟩
theorem gX {α β γ δ:Sort _}{A:α→Prop}{B:γ→Prop}{C:α→β→Prop}{D:β→γ→δ→Prop}{K:δ→Prop}{p:α}{xs:β}{i:γ}{v:δ}(a:A p)(b:B i)(c:C p xs)(d:D xs i v)(h:K v):∃p xs i v,A p∧B i∧C p xs∧D xs i v∧K v:=⟨p,xs,i,v,a,b,c,d,h⟩
end L2
namespace L2
open PySem PySem.Spec PyProof.Rows
abbrev Key:=Sum Int Str
def qxr:Key→Ag→Bool
 |.inl k,v=>Value.isInt k v
 |.inr x,v=>Value.isStrOf x v
def keyH (w:Ah):Key→Int
 |.inl k=>hashInt k
 |.inr x=>hashStr w x
theorem v6:∀ {k:Key} {v:Ag},qxr k v=true→(∃i t,k=Sum.inl i∧v=Value.int i t)∨(∃x t,k=Sum.inr x∧v=Value.str x t)
 |.inl i,v,h=>by
  obtain ⟨t,e⟩:=Value.isInt_shape (k:=i) (v:=v) h
  exact .inl ⟨i,t,rfl,e⟩
 |.inr x,v,h=>by
  obtain ⟨t,e⟩:=Value.isStrOf_shape (x:=x) (v:=v) h
  exact .inr ⟨x,t,rfl,e⟩
theorem wv2 (i:Int)(t:Tok):qxr (.inl i) (.int i t)=true:=by simp [qxr,Value.isInt]
theorem wv7 (x:Str)(t:Tok):qxr (.inr x) (.str x t)=true:=by simp [qxr,Value.isStrOf]
theorem key_ll (a b:Int):decide ((Sum.inl a:Key)=Sum.inl b)=(a==b):=by
 by_cases e:a=b
 ·subst e;simp
 ·have h:¬ (Sum.inl a:Key)=Sum.inl b:=λq=>e (Sum.inl.inj q)
  rw [bn h]
  exact (aU.mpr e).symm
theorem key_rr (a b:Str):decide ((Sum.inr a:Key)=Sum.inr b)=decide (a=b):=by
 by_cases e:a=b
 ·subst e;simp
 ·have h:¬ (Sum.inr a:Key)=Sum.inr b:=λq=>e (Sum.inr.inj q)
  rw [bn h,bn e]
theorem key_lr (a:Int)(b:Str):decide ((Sum.inl a:Key)=Sum.inr b)=false:=bn (λq=>nomatch q)
theorem key_rl (a:Str)(b:Int):decide ((Sum.inr a:Key)=Sum.inl b)=false:=bn (λq=>nomatch q)
def zv (prog:Ac)(w:Ah):PySem.KeyKind prog w Key where
 is:=qxr
 hash:=keyH w
 inj:=λv a b ha hb=>by
  rcases v6 ha with ⟨i,t,rfl,rfl⟩|⟨x,t,rfl,rfl⟩
  ·rcases v6 hb with ⟨j,u,rfl,e⟩|⟨y,u,rfl,e⟩
   ·injection e with e1 _;rw [e1]
   ·exact nomatch e
  ·rcases v6 hb with ⟨j,u,rfl,e⟩|⟨y,u,rfl,e⟩
   ·exact nomatch e
   ·injection e with e1 _;rw [e1]
 byValue:=λk v h=>by
  rcases v6 h with ⟨i,t,rfl,rfl⟩|⟨x,t,rfl,rfl⟩ <;> rfl
 pyHash:=λhv h=>by
  rcases v6 hv with ⟨i,t,rfl,rfl⟩|⟨x,t,rfl,rfl⟩
  ·exact wpAny_pyHash_int h
  ·exact wpAny_pyHash_str h
 eqBool:=λhu hv h=>by
  rcases v6 hu with ⟨i,t,rfl,rfl⟩|⟨x,t,rfl,rfl⟩
  ·rcases v6 hv with ⟨j,u,rfl,rfl⟩|⟨y,u,rfl,rfl⟩
   ·rw [key_ll] at h;exact wpAny_eqBool_int h
   ·rw [key_lr] at h;exact SeqAt.EqAt.int_str i t y u _ _ _ _ h
  ·rcases v6 hv with ⟨j,u,rfl,rfl⟩|⟨y,u,rfl,rfl⟩
   ·rw [key_rl] at h;exact SeqAt.EqAt.str_int x t j u _ _ _ _ h
   ·rw [key_rr] at h;exact wpAny_eqBool_str h
 «strs»:=λk x t v h=>by
  rcases v6 h with ⟨i,u,rfl,e⟩|⟨y,u,rfl,e⟩
  ·exact nomatch e
  ·injection e with e1 _
   subst e1
   cases v <;> rfl
theorem qur (prog:Ac)(w:Ah)(i:Int)(t:Tok):(zv prog w).is (.inl i) (.int i t)=true:=wv2 i t
theorem quk (prog:Ac)(w:Ah)(x:Str)(t:Tok):(zv prog w).is (.inr x) (.str x t)=true:=wv7 x t
inductive V where
 |non|bl (b:Bool)|int (i:Int)|str (x:Str)|byt (b:Array UInt8)|flt (b:UInt64)|ref (a:Aj)|ty (n:String)
 deriving DecidableEq
def RelV:V→Ag→Prop
 |.non,u=>u=Value.none
 |.bl b,u=>u=Value.bool b
 |.int i,u=>∃t,u=Value.int i t
 |.str x,u=>∃t,u=Value.str x t
 |.byt b,u=>∃t,u=Value.bytes b t
 |.flt b,u=>∃t,u=Value.float b t
 |.ref a,u=>u=Value.ref a
 |.ty n,u=>u=Value.type n
abbrev Vals:List V→List Ag→Prop:=Paired RelV
theorem Vals.length {xs:List V}{us:List Ag}(r:Vals xs us):xs.length=us.length:=bu r
theorem Vals.get:∀ {xs:List V} {us:List Ag} {i:Nat} {x:V},Vals xs us→xs[i]?=some x→∃u,us[i]?=some u∧RelV x u
 |_,_,_,_,.nil,e=>by simp at e
 |_,_,0,_,.cons r _,e=>by simp at e;subst e;exact ⟨_,rfl,r⟩
 |_,_,i+1,x,.cons _ t,e=>by
  obtain ⟨u,h1,h2⟩:=Vals.get (i:=i) (x:=x) t (by simpa using e)
  exact ⟨u,by simpa using h1,h2⟩
theorem Vals.set {x:V}{u:Ag}(r:RelV x u):∀ {xs:List V} {us:List Ag} (i:Nat),Vals xs us→Vals (xs.set i x) (us.set i u)
 |_,_,_,.nil=>.nil
 |_,_,0,.cons _ t=>.cons r t
 |_,_,i+1,.cons q t=>.cons q (Vals.set r i t)
theorem Vals.append:∀ {xs ys:List V} {us ws:List Ag},Vals xs us→Vals ys ws→Vals (xs++ys) (us++ws)
 |_,_,_,_,.nil,s=>s
 |_,_,_,_,.cons r t,s=>.cons r (Vals.append t s)
theorem Vals.take:∀ {xs:List V} {us:List Ag} (n:Nat),Vals xs us→Vals (xs.take n) (us.take n)
 |_,_,0,_=>.nil
 |_,_,_+1,.nil=>.nil
 |_,_,n+1,.cons r t=>.cons r (Vals.take n t)
theorem Vals.drop:∀ {xs:List V} {us:List Ag} (n:Nat),Vals xs us→Vals (xs.drop n) (us.drop n)
 |_,_,0,r=>r
 |_,_,_+1,.nil=>.nil
 |_,_,n+1,.cons _ t=>Vals.drop n t
def RelO:Option V→Option Ag→Prop
 |some v,some u=>RelV v u
 |none,none=>True
 |_,_=>False
def KV {κ:Type}:List (κ×V)→List (κ×Ag)→Prop:=Paired λ(p:κ×V) (q:κ×Ag)=>p.1=q.1∧RelV p.2 q.2
def kV:Key→V
 |.inl i=>.int i
 |.inr x=>.str x
inductive HO where
 |lst (xs:List V)
 |tup (xs:List V)
 |dK (kvs:List (Key×V))|dT (kvs:List (List Key×V))
 |set (S:Int→Bool) (n:Nat)
 |ins (C dx:Aj) (fs:List (Str×V))
 |own (x:Aj)
 |xd (fs:List (Str×V))
 |met (f x:Aj)
 |rng (lo hi:Int)
 |frz (o:Obj) (u:HO)
 |tbl (ps:Array Ag)
 |ext (φ:Heap→Prop)
abbrev Hp:=Aj→Option HO
def upd (H:Hp)(a:Aj)(o:HO):Hp:=λb=>if b=a then some o else H b
theorem qc {H:Hp}{a:Aj}{o:HO}:upd H a o a=some o:=by unfold upd;rw [ak rfl]
theorem wf {H:Hp}{a b:Aj}{o:HO}(h:b≠a):upd H a o b=H b:=by unfold upd;rw [ai h]
theorem yz {H:Hp}{a:Aj}{o u:HO}:upd (upd H a o) a u=upd H a u:=by
 funext b;unfold upd;split <;> rfl
theorem ne_of {H:Hp}{a b:Aj}{o u:HO}(h:H a=some o)(h':H b=some u)(d:o≠u):a≠b:=by
 intro e;subst e;rw [h] at h';exact d (av h')
theorem qh {H:Hp}{a b:Aj}{o:HO}(h:H a=some o)(h':H b=none):a≠b:=by
 intro e;subst e;rw [h] at h';cases h'
section
variable (P:Ac)(w:Ah)
def ObjOk (H:Hp)(h:Heap)(a:Aj):HO→Prop
 |.lst xs=>xs.length≤sizeLine∧∃(its:List Ag) (n:Nat),Vals xs its∧h.get? a=some { cls:=.type "list",data:=.seq its.toArray n }
 |.tup xs=>xs.length≤sizeLine∧∃its:List Ag,Vals xs its∧IsTup h a its.toArray
 |.dK kvs=>kvs.length≤sizeLine∧(a==sysModules)=false∧∃vs,KV kvs vs∧h.DictOf (zv P w) a vs
 |.dT kvs=>kvs.length≤sizeLine∧(a==sysModules)=false∧∃xs:List (List Key×Aj×Ag),
   Paired (λ(p:List Key×V) (q:List Key×Aj×Ag)=>p.1=q.1∧H q.2.1=some (.tup (p.1.map kV))∧RelV p.2 q.2.2) kvs xs ∧
   ∃o es ep,h.get? a=some o∧o.ExactDict∧o.data=.dict es ep∧es.toList=xs.map (entryOfKey (tupleKind (zv P w)))∧(xs.map (·.1)).Nodup
 |.set S n=>h.SetOf (intKind P w) a S n
 |.ins C dx fs=>H dx=some (.own a)∧fs.length≤1000∧dx≠a∧h.get? a=some (W.instObj C dx) ∧
   ∃mA,h.Ns1 dx mA∧(∀f,RelO (fs.lookup f) (mA f))∧PySem.Within mA (fs.map (·.1))
 |.own _=>∃o,h.get? a=some o
 |.xd fs=>∃mA,h.Ns1 a mA∧∀f,RelO (fs.lookup f) (mA f)
 |.rng lo hi=>∃t u v,h.get? a=some { cls:=.type "range",data:=.fields #[.int lo t,.int hi u,.int 1 v] }
 |.frz o u=>h.get? a=some o∧ObjOk H h a u
 |.tbl ps=>h.get? a=some { cls:=.none,data:=.fields ps }
 |.met f x=>h.get? a=some (W.methodObj (.ref f) (.ref x))
 |.ext φ=>φ h∧(∃o,h.get? a=some o)∧∀h1 h2:Heap,φ h1→(∀o,h1.get? a=some o→h2.get? a=some o)→φ h2
def HOk (H:Hp)(h:Heap):Prop:=∀a o,H a=some o→ObjOk P w H h a o
end
section
variable {P:Ac}{w:Ah}{H H':Hp}{h h':Heap}{a:Aj}{o:HO}
theorem ObjOk.lt (x:ObjOk P w H h a o):a<h.objs.size:=by
 cases o with
 |lst xs=>obtain ⟨_,_,_,_,e⟩:=x;exact am e
 |tup xs=>obtain ⟨_,_,_,p⟩:=x;exact p.lt
 |dK kvs=>obtain ⟨_,_,_,_,o,_,_,e,_⟩:=x;exact am e
 |dT kvs=>obtain ⟨_,_,_,_,o,_,_,e,_⟩:=x;exact am e
 |set S n=>obtain ⟨o,_,_,_,e,_⟩:=x;exact am e
 |ins C dx fs=>obtain ⟨_,_,_,e,_⟩:=x;exact am e
 |own y=>obtain ⟨_,e⟩:=x;exact am e
 |xd fs=>obtain ⟨_,⟨_,_,_,e,_⟩,_⟩:=x;exact am e
 |rng lo hi=>obtain ⟨_,_,_,e⟩:=x;exact am e
 |frz ob u=>obtain ⟨e,_⟩:=x;exact am e
 |tbl ps=>exact am (show h.get? a=some _ from x)
 |met f y=>exact am (show h.get? a=some _ from x)
 |ext φ=>obtain ⟨_,⟨_,e⟩,_⟩:=x;exact am e
theorem Paired.mapP {α β:Type}{F G:α→β→Prop}:∀ {l₁:List α} {l₂:List β},Paired F l₁ l₂→(∀a b,F a b→G a b)→Paired G l₁ l₂
 |_,_,.nil,_=>.nil
 |_,_,.cons r t,f=>.cons (f _ _ r) (Paired.mapP t f)
theorem ObjOk.stay (x:ObjOk P w H h a o)(k:∀b u,(b=a∨H b=some (.own a))→h.get? b=some u→h'.get? b=some u)
  (ho:∀b,H b=some (.own a)→H' b=some (.own a)) (ht:∀b xs,H b=some (.tup xs)→H' b=some (.tup xs)):ObjOk P w H' h' a o:=by
 induction o with
 |lst xs=>obtain ⟨z,its,n,r,e⟩:=x;exact ⟨z,its,n,r,k _ _ (.inl rfl) e⟩
 |tup xs=>obtain ⟨z,its,r,ob,e,c⟩:=x;exact ⟨z,its,r,ob,k _ _ (.inl rfl) e,c⟩
 |dK kvs=>obtain ⟨z,y,vs,r,ob,es,ep,e,c⟩:=x;exact ⟨z,y,vs,r,ob,es,ep,k _ _ (.inl rfl) e,c⟩
 |dT kvs =>
  obtain ⟨z,y,xs,r,ob,es,ep,e,c⟩:=x
  exact ⟨z,y,xs,Paired.mapP r λp q z=>⟨z.1,ht _ _ z.2.1,z.2.2⟩,ob,es,ep,k _ _ (.inl rfl) e,c⟩
 |set S n=>obtain ⟨ob,es,ep,t,e,c⟩:=x;exact ⟨ob,es,ep,t,k _ _ (.inl rfl) e,c⟩
 |ins C dx fs =>
  obtain ⟨d,z,ne,e,mA,⟨od,es,ep,e2,c⟩,r⟩:=x
  exact ⟨ho _ d,z,ne,k _ _ (.inl rfl) e,mA,⟨od,es,ep,k _ _ (.inr d) e2,c⟩,r⟩
 |own y=>obtain ⟨ob,e⟩:=x;exact ⟨ob,k _ _ (.inl rfl) e⟩
 |xd fs=>obtain ⟨mA,⟨od,es,ep,e,c⟩,r⟩:=x;exact ⟨mA,⟨od,es,ep,k _ _ (.inl rfl) e,c⟩,r⟩
 |rng lo hi=>obtain ⟨t,u,v,e⟩:=x;exact ⟨t,u,v,k _ _ (.inl rfl) e⟩
 |frz ob u ih=>obtain ⟨e,q⟩:=x;exact ⟨k _ _ (.inl rfl) e,ih q⟩
 |tbl ps =>
  have e:h.get? a=some { cls:=.none,data:=.fields ps }:=x
  show h'.get? a=some { cls:=.none,data:=.fields ps }
  exact k a _ (.inl rfl) e
 |met f y =>
  have e:h.get? a=some (W.methodObj (.ref f) (.ref y)):=x
  show h'.get? a=some (W.methodObj (.ref f) (.ref y))
  exact k a _ (.inl rfl) e
 |ext φ=>obtain ⟨p,⟨o,e⟩,st⟩:=x;exact ⟨st _ _ p λo q=>k _ _ (.inl rfl) q,⟨o,k _ _ (.inl rfl) e⟩,st⟩
theorem HOk.lt (x:HOk P w H h)(e:H a=some o):a<h.objs.size:=(x a o e).lt
theorem HOk.fresh (x:HOk P w H h)(e:h.objs.size≤a):H a=none:=by
 cases q:H a with
 |none=>rfl
 |some u=>exact absurd (aH (x.lt q) e) (aQ _)
theorem HOk.kept (x:HOk P w H h)(k:∀b u,h.get? b=some u→h'.get? b=some u):HOk P w H h':=λa o e =>
 (x a o e).stay (λb u _ q=>k b u q) (λ_ q=>q) λ_ _ q=>q
theorem HOk.laid (x:HOk P w H h)(k:∀b u,h.get? b=some u→h'.get? b=some u)(hp:h.objs.size≤a)(new:ObjOk P w (upd H a o) h' a o):HOk P w (upd H a o) h':=λb u e=>by
 have hn:=x.fresh hp
 by_cases hb:b=a
 ·subst hb;rw [qc] at e;cases e;exact new
 ·rw [wf hb] at e
  exact (x b u e).stay (λc v _ q=>k c v q) (λc q=>by rw [wf (qh q hn)];exact q) λc xs q=>by rw [wf (qh q hn)];exact q
end
def Rd (H:Hp)(a:Aj)(u:HO):Prop:=H a=some u∨∃o,H a=some (.frz o u)
theorem Rd.ok {P:Ac}{w:Ah}{H:Hp}{h:Heap}{a:Aj}{u:HO}(r:Rd H a u)(x:HOk P w H h):ObjOk P w H h a u:=by
 rcases r with r|⟨o,r⟩
 ·exact x a u r
 ·obtain ⟨_,q⟩:=x a _ r
  exact q
def Mut:Option HO→Prop
 |some (.lst _)=>True
 |some (.dK _)=>True
 |some (.dT _)=>True
 |some (.set _ _)=>True
 |some (.ins _ _ _)=>True
 |some (.ext _)=>True
 |_=>False
section
variable {P:Ac}{w:Ah}{H:Hp}{h h':Heap}{x e:Aj}{o':HO}
theorem HOk.write (ok:HOk P w H h)(mu:Mut (H x))(he:e=x∨H e=some (.own x))(k:∀b u,b≠e→h.get? b=some u→h'.get? b=some u)(heo:∃u,h'.get? e=some u)
  (new:ObjOk P w (upd H x o') h' x o'):HOk P w (upd H x o') h':=λb u q=>by
 have nown:∀c y,H c=some (.own y)→c≠x:=λc y r z=>by subst z;rw [r] at mu;exact mu
 have ntup:∀c xs,H c=some (.tup xs)→c≠x:=λc xs r z=>by subst z;rw [r] at mu;exact mu
 by_cases hb:b=x
 ·subst hb;rw [qc] at q;cases q;exact new
 ·rw [wf hb] at q
  by_cases hbe:b=e
  ·have q':H b=some (.own x):=by
    rcases he with z|z
    ·exact absurd (hbe.trans z) hb
    ·rw [hbe];exact z
   rw [q] at q';cases q'
   obtain ⟨v,hv⟩:=heo
   exact ⟨v,by rw [hbe];exact hv⟩
  ·refine (ok b u q).stay (λc v hc r=>k c v ?_ r) (λc r=>by rw [wf (nown c b r)];exact r) λc xs r=>by rw [wf (ntup c xs r)];exact r
   rcases hc with rfl|hc
   ·exact hbe
   ·rintro rfl
    rcases he with z|z
    ·exact nown c b hc z
    ·rw [hc] at z;cases z;exact hb rfl
end
structure Un (fs ex:List Aj)(H H':Hp)(h h':Heap):Prop where
 keep:∀b o,h.get? b=some o→H b=none→b∉fs→b∉ex→h'.get? b=some o
 slot:∀b o,h.get? b=some o→H b=none→b∈fs→b∉ex→∃sl,h'.get? b=some { o with slots:=sl }
 free:∀b o,h.get? b=some o→H b=none→b∉ex→H' b=none
 there:∀b o,h.get? b=some o→b∉ex→∃o',h'.get? b=some o'
 tups:∀b xs,H b=some (.tup xs)→H' b=some (.tup xs)
 frzs:∀b o u,H b=some (.frz o u)→H' b=some (.frz o u)
 tbls:∀b ps,H b=some (.tbl ps)→∃more,H' b=some (.tbl (ps++more))
section
variable {fs fs' ex ex':List Aj}{H H1 H2:Hp}{h h1 h2 h':Heap}{a x e:Aj}{o:HO}
theorem Un.any (u:Un fs ex H H1 h h1){b:Aj}{ob:Obj}(q:h.get? b=some ob)(n:H b=none)(hx:b∉ex):∃sl,h1.get? b=some { ob with slots:=sl }:=by
 by_cases hb:b∈fs
 ·exact u.slot b ob q n hb hx
 ·exact ⟨ob.slots,u.keep b ob q n hb hx⟩
theorem Un.kept (k:∀b u,h.get? b=some u→h'.get? b=some u):Un fs ex H H h h' :=
 ⟨λb ob q _ _ _=>k b ob q,λb ob q _ _ _=>⟨ob.slots,k b ob q⟩,λ_ _ _ n _=>n,λb ob q _=>⟨ob,k b ob q⟩,λ_ _ q=>q,λ_ _ _ q=>q,λ_ ps q=>⟨#[],by rw [q];simp⟩⟩
theorem Un.refl:Un fs ex H H h h:=Un.kept λ_ _ q=>q
theorem Un.laid (k:∀b u,h.get? b=some u→h'.get? b=some u)(hp:h.objs.size≤a)(hn:H a=none):Un fs ex H (upd H a o) h h' where
 keep:=λb u q _ _ _=>k b u q
 slot:=λb u q _ _ _=>⟨u.slots,k b u q⟩
 free:=λb u q n _=>by rw [wf (az (aH (am q) hp))];exact n
 there:=λb u q _=>⟨u,k b u q⟩
 tups:=λb xs q=>by rw [wf (qh q hn)];exact q
 frzs:=λb u xs q=>by rw [wf (qh q hn)];exact q
 tbls:=λb ps q=>⟨#[],by rw [wf (qh q hn),q];simp⟩
theorem Un.write (mu:Mut (H x))(he:e=x∨H e=some (.own x))(k:∀b u,b≠e→h.get? b=some u→h'.get? b=some u)(heo:∃u,h'.get? e=some u):Un fs ex H (upd H x o) h h':=by
 have hx:∀b,H b=none→b≠x:=λb n z=>by subst z;rw [n] at mu;exact mu
 have hb:∀b,H b=none→b≠e:=λb n z=>by
  subst z
  rcases he with r|r
  ·exact hx b n r
  ·rw [n] at r;cases r
 have hm:∀b u,H b=some u→¬ Mut (some u)→b≠x:=λb u q nm z=>by subst z;rw [q] at mu;exact nm mu
 refine ⟨λb u q n _ _=>k b u (hb b n) q,λb u q n _ _=>⟨u.slots,k b u (hb b n) q⟩,λb u q n _=>by rw [wf (hx b n)];exact n,λb u q _=>?_,
  λb xs q=>by rw [wf (hm b _ q λz=>z)];exact q,λb u xs q=>by rw [wf (hm b _ q λz=>z)];exact q,λb ps q=>⟨#[],by rw [wf (hm b _ q λz=>z),q];simp⟩⟩
 by_cases hbe:b=e
 ·subst hbe;exact heo
 ·exact ⟨u,k b u hbe q⟩
end
def trk (h:Heap)(H:Hp):List Aj:=(List.range h.objs.size).filter λa=>(H a).isSome
def qjb (h:Heap)(H:Hp):Heap:=W.hideAll h (trk h H)
theorem wkp (h:Heap)(H:Hp):(qjb h H).objs.size=h.objs.size:=W.hideAll_size _ _
theorem wjs {h:Heap}{H:Hp}{b:Aj}{o:Obj}(e:h.get? b=some o)(n:H b=none):(qjb h H).get? b=some o :=
 W.hideAll_get _ e λhm=>by
  have q:(H b).isSome=true:=(bz.mp hm).2
  rw [n] at q;simp at q
theorem xq4 {h:Heap}{H:Hp}{b:Aj}{o:Obj}(e:(qjb h H).get? b=some o):h.get? b=some o∧H b=none:=by
 have e':h.get? b=some o:=W.of_hideAll (trk h H) e
 refine ⟨e',?_⟩
 cases q:H b with
 |none=>rfl
 |some x =>
  have hm:b∈trk h H:=bz.mpr ⟨aW.mpr (am e'),by simp [q]⟩
  have z:(qjb h H).get? b=none:=W.hideAll_none (trk h H) hm
  rw [z] at e;cases e
def xxk (g h:Heap)(L:Aj):List (Aj×Obj):=(List.range h.objs.size).filterMap λa=>if a=L∨(g.get? a).isSome=true then none else (h.get? a).map λo=>(a,o)
def rest (g h:Heap)(L d:Aj):List (Aj×Obj):=(xxk g h L).filter λp=>decide (p.1≠d)
structure Mod (K:Aa)(mg:Str→Option Ag)(base:Heap):Prop where
 kin:K.In base
 glob:base.Ns mainGlobals mg
 blt:∃mb,base.Ns builtinsNs mb∧∀x:Str,x ≠ "__name__" → mb x=bootBuiltins x
 nolimit:base.NoLimit
structure Cx where
 prog:Ac
 w:Ah
 K:Aa
 mg:Str→Option Ag
 base:Heap
 A:Ae
 N:List Str
 s₀:Ab
 H₀:Hp
 env:Env
 outer:List Env
 stack:List Env
 ex:List Aj
 fn:Str→Bool
 calm:Bool
 pn:List (Aj×Obj)
 xe:Ag→Ab→Prop
def frs (l:List Env):List Aj:=l.filterMap (·.frame)
abbrev Cx.fs (X:Cx):List Aj:=frs X.outer
def Vis (sc:Scope)(x:Str):Prop:=sc.names.lookup x=some .local∨sc.names.lookup x=some .cell∨sc.names.lookup x=some .free
def Loc (sc:Scope)(x:Str):Prop:=sc.names.lookup x=some .local∨sc.names.lookup x=some .cell
def Look (env:Env)(h:Heap)(m:Str→Option Ag)(x:Str)(u:Ag):Prop :=
 (env.kindOf x=some .local∧m x=some u)∨((env.kindOf x=some .cell∨env.kindOf x=some .free)∧∃c,env.cells.lookup x=some c∧h.IsCell c (some u))
structure Cx.Ok (X:Cx):Prop where
 mod:Mod X.K X.mg X.base
 kind:X.env.scope.kind=.function
 glob:X.env.globals=mainGlobals
 blt:X.env.builtins=builtinsNs
 above:X.s₀.heap.objs.size≤X.env.locals
 inj:∀x y c,X.env.cells.lookup x=some c→X.env.cells.lookup y=some c→x=y
 has:∀x,(X.env.kindOf x=some .cell∨X.env.kindOf x=some .free)→∃c,X.env.cells.lookup x=some c
 cab:∀x c,X.fn x=true→X.env.cells.lookup x=some c→X.s₀.heap.objs.size≤c
 hd:X.calm=true→X.A.handled=none
 frames:X.A.frames=some X.stack
 stk:X.stack=X.outer∨(X.stack=X.env::X.outer∧X.env.frame=some X.env.locals)
 exf:∀b∈X.ex,b≠X.env.locals∧∀x c,X.env.cells.lookup x=some c→c≠b
 bs:∀b o,X.base.get? b=some o→X.s₀.heap.get? b=some o∧X.H₀ b=none
 bsz:X.base.objs.size≤X.s₀.heap.objs.size
 noex:∀b o,X.base.get? b=some o→b∉X.ex
 exfs:∀b∈X.ex,b∉X.fs
 funs:X.s₀.heap.FunFrames X.base X.outer
 frf:∀b∈X.fs,X.H₀ b=none
structure Inv (X:Cx)(pins:List (Aj×Obj))(σ:List (Option V))(H:Hp)(s:Ab):Prop where
 ok:X.Ok
 os:s.os=X.s₀.os
 bare:AllBare s.gens
 base:Un X.fs X.ex X.H₀ H X.s₀.heap s.heap
 loc:∃m,s.heap.Ns X.env.locals m∧∀(i:Nat) (x:Str) (v:V),X.N[i]?=some x→σ[i]?=some (some v)→Vis X.env.scope x→∃u,RelV v u∧Look X.env s.heap m x u
 cell:∀x c,X.env.cells.lookup x=some c→∃v,s.heap.IsCell c v
 free:H X.env.locals=none
 freeC:∀x c,X.env.cells.lookup x=some c→H c=none
 pin:∀p∈X.pn++pins,s.heap.get? p.1=some p.2∧H p.1=none∧p.1≠X.env.locals∧p.1∉X.fs∧∀v,p.2.data≠.cell v
 hok:HOk X.prog X.w H s.heap
 len:σ.length=X.N.length
section
variable {X:Cx}{pins:List (Aj×Obj)}{σ:List (Option V)}{H H':Hp}{s:Ab}{h':Heap}
theorem Cx.Ok.nofr (ok:X.Ok){b:Aj}{o:Obj}(e:X.base.get? b=some o):b∉X.fs:=λhb=>by
 have:=(ok.funs.mem hb).1
 rw [e] at this;cases this
theorem Inv.bs (I:Inv X pins σ H s):∀b o,X.base.get? b=some o→s.heap.get? b=some o∧H b=none:=λb o e =>
 ⟨I.base.keep b o (I.ok.bs b o e).1 (I.ok.bs b o e).2 (I.ok.nofr e) (I.ok.noex b o e),I.base.free b o (I.ok.bs b o e).1 (I.ok.bs b o e).2 (I.ok.noex b o e)⟩
theorem Inv.bk (I:Inv X pins σ H s):∀b o,X.base.get? b=some o→s.heap.get? b=some o:=λb o e=>(I.bs b o e).1
theorem Inv.mod (I:Inv X pins σ H s):Mod X.K X.mg X.base:=I.ok.mod
theorem Inv.kIn (I:Inv X pins σ H s):X.K.In s.heap:=I.ok.mod.kin.keeps I.bk
theorem Inv.lt (I:Inv X pins σ H s):X.env.locals<s.heap.objs.size:=let ⟨_,hn,_⟩:=I.loc;hn.lt
theorem Inv.sz (I:Inv X pins σ H s):X.s₀.heap.objs.size≤s.heap.objs.size:=bD I.ok.above (bH I.lt)
theorem Inv.nofs (I:Inv X pins σ H s){a:Aj}(h:s.heap.objs.size≤a):a∉X.fs:=λhb=>by
 obtain ⟨_,o,ho,_⟩:=I.ok.funs.mem hb
 exact absurd (aH (am ho) (bD I.sz h)) (aQ _)
theorem Inv.cne (I:Inv X pins σ H s):∀x c,X.env.cells.lookup x=some c→c≠X.env.locals:=λx c e z=>by
 obtain ⟨v,o,ho,hd⟩:=I.cell x c e
 obtain ⟨m,⟨o',es,ep,ho',hd',_⟩,_⟩:=I.loc
 rw [z,ho'] at ho;cases ho;rw [hd'] at hd;cases hd
theorem Inv.funs (I:Inv X pins σ H s):s.heap.FunFrames X.base X.outer:=by
 have all:∀(l:List Env),(∀b∈frs l,b∈X.fs)→X.s₀.heap.FunFrames X.base l→s.heap.FunFrames X.base l:=by
  intro l
  induction l with
  |nil=>intro _ _;trivial
  |cons env r ih =>
   intro hs hl
   obtain ⟨hk,⟨L,o,hf,hn,ho,hd⟩,hr⟩:=hl
   have hL:L∈X.fs:=hs L (by unfold frs;rw [dB,hf];exact ay)
   obtain ⟨sl,e⟩:=I.base.slot L o ho (I.ok.frf L hL) hL λz=>I.ok.exfs L z hL
   exact ⟨hk,⟨L,_,hf,hn,e,hd⟩,ih (λb hb=>hs b (by unfold frs;rw [dB,hf];exact au _ hb)) hr⟩
 exact all X.outer (λ_ hb=>hb) I.ok.funs
theorem Inv.stack (I:Inv X pins σ H s):s.heap.FunFrames X.base X.stack:=by
 rcases I.ok.stk with e|⟨e,hf⟩
 ·rw [e];exact I.funs
 ·rw [e]
  obtain ⟨m,hn,_⟩:=I.loc
  refine .cons (by rw [I.ok.kind];decide) hf hn ?_ I.funs
  exact Heap.get?_none_of_le (bD I.ok.bsz I.ok.above)
theorem Inv.stkSub (I:Inv X pins σ H s):∀b∈frs X.stack,b∈X.env.locals::X.fs:=λb hb=>by
 rcases I.ok.stk with e|⟨e,hf⟩
 ·rw [e] at hb;exact au _ hb
 ·rw [e] at hb
  unfold frs at hb
  rw [dB,hf] at hb
  exact hb
theorem Inv.stkFree (I:Inv X pins σ H s):∀b∈frs X.stack,H b=none:=λb hb=>by
 rcases ae.mp (I.stkSub b hb) with e|hb
 ·rw [e];exact I.free
 ·obtain ⟨_,o,ho,_⟩:=I.ok.funs.mem hb
  exact I.base.free b o ho (I.ok.frf b hb) λz=>I.ok.exfs b z hb
theorem Inv.step {g':Array GenState}{t':Nat}{d':Drawn}{ch:List Aj}(I:Inv X pins σ H s)
  (hch:∀b∈ch,(b∈X.ex∨X.s₀.heap.objs.size≤b)∧b≠X.env.locals∧(∀x c,X.env.cells.lookup x=some c→c≠b)∧∀p∈X.pn++pins,p.1≠b)
  (keep:∀b o,b≠X.env.locals→b∉X.fs→b∉ch→s.heap.get? b=some o→H b=none→h'.get? b=some o)
  (slot:∀b o,b≠X.env.locals→b∈X.fs→b∉ch→s.heap.get? b=some o→H b=none→∃sl,h'.get? b=some { o with slots:=sl }) (free:∀b o,b∉ch→s.heap.get? b=some o→H b=none→H' b=none)
  (there:∀b o,b∉ch→s.heap.get? b=some o→∃o',h'.get? b=some o')
  (tups:∀b xs,H b=some (.tup xs)→H' b=some (.tup xs)) (frzs:∀b o u,H b=some (.frz o u)→H' b=some (.frz o u)) (tbls:∀b ps,H b=some (.tbl ps)→∃more,H' b=some (.tbl (ps++more)))
  (ns:∀m,s.heap.Ns X.env.locals m→h'.Ns X.env.locals m) (hok:HOk X.prog X.w H' h') (hg:AllBare g') :
  Inv X pins σ H' { s with heap:=h',gens:=g',drawn:=d',toks:=t' }:=by
 have neL:∀b o,X.s₀.heap.get? b=some o→b≠X.env.locals:=λb o e=>az (aH (am e) I.ok.above)
 have neC:∀b o,X.s₀.heap.get? b=some o→b∉X.ex→b∉ch:=λb o e hx hb=>by
  rcases (hch b hb).1 with z|z
  ·exact hx z
  ·exact absurd (aH (am e) z) (aQ _)
 have cellK:∀x c,X.env.cells.lookup x=some c→∀v,s.heap.IsCell c v→h'.IsCell c v:=λx c e v ⟨o,ho,hd⟩=>by
  have nch:c∉ch:=λz=>(hch c z).2.2.1 x c e rfl
  by_cases hc:c∈X.fs
  ·obtain ⟨sl,q⟩:=slot c o (I.cne x c e) hc nch ho (I.freeC x c e)
   exact ⟨_,q,hd⟩
  ·exact ⟨o,keep c o (I.cne x c e) hc nch ho (I.freeC x c e),hd⟩
 refine ⟨I.ok,I.os,hg,⟨λb o e n hb hx=>?_,λb o e n hb hx=>?_,λb o e n hx=>?_,λb o e hx=>?_,λb xs e=>tups b xs (I.base.tups b xs e),λb o xs e=>frzs b o xs (I.base.frzs b o xs e),λb ps e=>?_⟩,?_,λx c e=>?_,?_,λx c e=>?_,λp hp=>?_,hok,I.len⟩
 ·exact keep b o (neL b o e) hb (neC b o e hx) (I.base.keep b o e n hb hx) (I.base.free b o e n hx)
 ·obtain ⟨sl,e1⟩:=I.base.slot b o e n hb hx
  obtain ⟨sl',e2⟩:=slot b _ (neL b o e) hb (neC b o e hx) e1 (I.base.free b o e n hx)
  exact ⟨sl',e2⟩
 ·obtain ⟨o',e1⟩:=I.base.there b o e hx
  exact free b o' (neC b o e hx) e1 (I.base.free b o e n hx)
 ·obtain ⟨o',e1⟩:=I.base.there b o e hx
  exact there b o' (neC b o e hx) e1
 ·obtain ⟨m1,e1⟩:=I.base.tbls b ps e
  obtain ⟨m2,e2⟩:=tbls b _ e1
  exact ⟨m1++m2,by rw [e2,Array.append_assoc]⟩
 ·obtain ⟨m,hn,hl⟩:=I.loc
  refine ⟨m,ns m hn,λi x v e1 e2 e3=>?_⟩
  obtain ⟨u,r,l⟩:=hl i x v e1 e2 e3
  refine ⟨u,r,?_⟩
  rcases l with l|⟨k,c,e,z⟩
  ·exact .inl l
  ·exact .inr ⟨k,c,e,cellK x c e _ z⟩
 ·obtain ⟨v,z⟩:=I.cell x c e
  exact ⟨v,cellK x c e v z⟩
 ·obtain ⟨m,⟨o,_,_,ho,_⟩,_⟩:=I.loc
  exact free _ o (λz=>(hch _ z).2.1 rfl) ho I.free
 ·obtain ⟨v,o,ho,hd⟩:=I.cell x c e
  exact free c o (λz=>(hch c z).2.2.1 x c e rfl) ho (I.freeC x c e)
 ·obtain ⟨e,n,ne,nf,d⟩:=I.pin p hp
  have nch:p.1∉ch:=λz=>(hch p.1 z).2.2.2 p hp rfl
  exact ⟨keep p.1 p.2 ne nf nch e n,free p.1 p.2 nch e n,ne,nf,d⟩
theorem Inv.un {t':Nat}(I:Inv X pins σ H s)(u:Un X.fs [] H H' s.heap h')(hok:HOk X.prog X.w H' h'):Inv X pins σ H' { s with heap:=h',toks:=t' }:=by
 obtain ⟨m,⟨o,es,ep,ho,r⟩,_⟩:=id I.loc
 obtain ⟨sl,hL⟩:=u.any ho I.free (by simp)
 exact I.step (g':=s.gens) (d':=s.drawn) (ch:=[]) (λ_ z=>nomatch z) (λb o _ hb _ e n=>u.keep b o e n hb (by simp)) (λb o _ hb _ e n=>u.slot b o e n hb (by simp)) (λb o _ e n=>u.free b o e n (by simp)) (λb o _ e=>u.there b o e (by simp)) u.tups u.frzs u.tbls (λm' hm=>by
  obtain ⟨o',es',ep',ho',r'⟩:=hm
  rw [ho] at ho';cases ho'
  exact ⟨_,es',ep',hL,r'⟩) hok I.bare
theorem Inv.call {g':Array GenState}{t':Nat}{d':Drawn}{ch:List Aj}(I:Inv X pins σ H s)(u:Un (frs X.stack) ch H H' s.heap h')(hok:HOk X.prog X.w H' h')(hg:AllBare g')
  (hch:∀b∈ch,(b∈X.ex∨X.s₀.heap.objs.size≤b)∧b≠X.env.locals∧(∀x c,X.env.cells.lookup x=some c→c≠b)∧∀p∈X.pn++pins,p.1≠b) :
  Inv X pins σ H' { s with heap:=h',gens:=g',drawn:=d',toks:=t' }:=by
 obtain ⟨m,⟨o,es,ep,ho,r⟩,_⟩:=id I.loc
 obtain ⟨sl,hL⟩:=u.any ho I.free λz=>(hch _ z).2.1 rfl
 exact I.step (ch:=ch) hch (λb o hL hb hc e n=>u.keep b o e n (λz=>(ae.mp (I.stkSub b z)).elim hL hb) hc) (λb o _ _ hc e n=>u.any e n hc) (λb o hc e n=>u.free b o e n hc) (λb o hc e=>u.there b o e hc) u.tups u.frzs u.tbls (λm' hm=>by
  obtain ⟨o',es',ep',ho',r'⟩:=hm
  rw [ho] at ho';cases ho'
  exact ⟨_,es',ep',hL,r'⟩) hok hg
theorem Inv.turned {t':Nat}{it:Aj}(I:Inv X pins σ H s)(k:∀b o,b≠it→s.heap.get? b=some o→h'.get? b=some o)(hn:H it=none)(hL:it≠X.env.locals)
  (h1:it∈X.ex∨X.s₀.heap.objs.size≤it) (h2:∀x c,X.env.cells.lookup x=some c→c≠it) (h3:∀p∈X.pn++pins,p.1≠it):Inv X pins σ H { s with heap:=h',toks:=t' }:=by
 have nit:∀b u,H b=some u→b≠it:=λb u e z=>by rw [z,hn] at e;cases e
 refine I.step (g':=s.gens) (d':=s.drawn) (ch:=[it]) (λb hb=>?_) (λb o _ _ hc e _=>k b o (λz=>hc (by simp [z])) e) (λb o _ _ hc e _=>⟨o.slots,k b o (λz=>hc (by simp [z])) e⟩) (λ_ _ _ _ n=>n)
  (λb o hc e=>⟨o,k b o (λz=>hc (by simp [z])) e⟩) (λ_ _ e=>e) (λ_ _ _ e=>e) (λb ps e=>⟨#[],by rw [e];simp⟩) (λm hm=>?_) (λb u e=>?_) I.bare
 ·have e:b=it:=by simpa using hb
  subst e
  exact ⟨h1,hL,h2,h3⟩
 ·obtain ⟨o,es,ep,ho,r⟩:=hm
  exact ⟨o,es,ep,k _ o (aV hL) ho,r⟩
 ·refine (I.hok b u e).stay (λc v hc q=>k c v ?_ q) (λ_ q=>q) λ_ _ q=>q
  rcases hc with z|z
  ·rw [z];exact nit b u e
  ·exact nit c _ z
theorem Inv.tok (I:Inv X pins σ H s)(t:Nat):Inv X pins σ H { s with toks:=t }:=I.un (h':=s.heap) (t':=t) Un.refl I.hok
theorem Inv.kept {t':Nat}(I:Inv X pins σ H s)(k:∀b u,s.heap.get? b=some u→h'.get? b=some u):Inv X pins σ H { s with heap:=h',toks:=t' }:=I.un (Un.kept k) (I.hok.kept k)
theorem Inv.laid {a:Aj}{o:HO}{t':Nat}(I:Inv X pins σ H s)(k:∀b u,s.heap.get? b=some u→h'.get? b=some u)(hp:s.heap.objs.size≤a)(new:ObjOk X.prog X.w (upd H a o) h' a o) :
  Inv X pins σ (upd H a o) { s with heap:=h',toks:=t' }:=I.un (Un.laid k hp (I.hok.fresh hp)) (I.hok.laid k hp new)
theorem Inv.write {x e:Aj}{o:HO}{t':Nat}(I:Inv X pins σ H s)(mu:Mut (H x))(he:e=x∨H e=some (.own x))(k:∀b u,b≠e→s.heap.get? b=some u→h'.get? b=some u)(heo:∃u,h'.get? e=some u)
  (new:ObjOk X.prog X.w (upd H x o) h' x o):Inv X pins σ (upd H x o) { s with heap:=h',toks:=t' }:=I.un (Un.write mu he k heo) (I.hok.write mu he k heo new)
theorem Inv.weak {σ':List (Option V)}(I:Inv X pins σ H s)(hl:σ'.length=σ.length)(w:∀(i:Nat) v,σ'[i]?=some (some v)→σ[i]?=some (some v)):Inv X pins σ' H s :=
 ⟨I.ok,I.os,I.bare,I.base,let ⟨m,hn,hl'⟩:=I.loc;⟨m,hn,λi x v e1 e2 e3=>hl' i x v e1 (w i v e2) e3⟩,I.cell,I.free,I.freeC,I.pin,I.hok,hl.trans I.len⟩
theorem Inv.pins_of {pins':List (Aj×Obj)}(I:Inv X pins σ H s)(h:∀p∈pins',s.heap.get? p.1=some p.2∧H p.1=none∧p.1≠X.env.locals∧p.1∉X.fs∧∀v,p.2.data≠.cell v):Inv X pins' σ H s :=
 ⟨I.ok,I.os,I.bare,I.base,I.loc,I.cell,I.free,I.freeC,λp hp=>(bi.mp hp).elim (λz=>I.pin p (cw _ z)) (h p),I.hok,I.len⟩
theorem qu1 {N:List Str}(hN:N.Nodup){i j:Nat}{x:Str}(a:N[i]?=some x)(b:N[j]?=some x):i=j:=by
 obtain ⟨h1,e1⟩:=aN.mp a
 obtain ⟨h2,e2⟩:=aN.mp b
 exact (du hN).mp (e1.trans e2.symm)
theorem _root_.aU0 (h:True:=by walk_at "iv"):True:=h
theorem wkm {M:Model}{A:Ae}{E:Ag→Ab→Prop}{i:Nat}{x:Str}{v:V}{u:Ag}{Q:Unit→Ab→Prop}(I:Inv X pins σ H s)(hN:X.N.Nodup)(hi:X.N[i]?=some x)(hx:Loc X.env.scope x)(r:RelV v u)
  (h:∀s',Inv X pins (σ.set i (some v)) H s'→(∃a,Heap.SameBut a s.heap s'.heap∧(a=X.env.locals∨X.env.cells.lookup x=some a))→Q () s') (hf:autoParam (X.fn x=true∨X.env.scope.names.lookup x=some .local) aU0._auto_1):wpAny M A (storeName X.env x u) Q E s:=by
 obtain ⟨m,hn,hl⟩:=id I.loc
 have hcls:(X.env.scope.kind==.class||(X.env.scope.kind==.module&&X.env.locals != X.env.globals))=false:=by rw [I.ok.kind];rfl
 have hiσ:i<σ.length:=by rw [I.len];exact (aN.mp hi).1
 have cne:=I.cne
 have tracked:∀ {a:Aj} {h':Heap},(∃o,s.heap.get? a=some o∧H a=none)→Heap.SameBut a s.heap h'→HOk X.prog X.w H h':=λ{a h'} ha hs b ob e=>by
  obtain ⟨_,_,hfree⟩:=ha
  refine (I.hok b ob e).stay (λc w' hc q=>(hs.2 c ?_).trans q) (λ_ q=>q) λ_ _ q=>q
  rintro rfl
  rcases hc with rfl|hc
  ·rw [hfree] at e;cases e
  ·rw [hfree] at hc;cases hc
 rcases hx with hk|hk
 ·refine wpAny_storeName_local hk hn (λh' hn' hs=>?_) hcls
  obtain ⟨oL,_,_,hoL,_⟩:=id hn
  refine h _ ⟨I.ok,I.os,I.bare,⟨λb o e n hb hx=>?_,λb o e n hb hx=>?_,I.base.free,λb o e hx=>?_,I.base.tups,I.base.frzs,I.base.tbls⟩,⟨_,hn',λj y v' e1 e2 e3=>?_⟩,λy c e=>?_,I.free,I.freeC,λp hp=>?_,tracked ⟨oL,hoL,I.free⟩ hs,by simpa using I.len⟩ ⟨_,hs,.inl rfl⟩
  ·exact (hs.2 b (az (aH (am e) I.ok.above))).trans (I.base.keep b o e n hb hx)
  ·obtain ⟨sl,e1⟩:=I.base.slot b o e n hb hx
   exact ⟨sl,(hs.2 b (az (aH (am e) I.ok.above))).trans e1⟩
  ·obtain ⟨o',e1⟩:=I.base.there b o e hx
   exact ⟨o',(hs.2 b (az (aH (am e) I.ok.above))).trans e1⟩
  ·by_cases hj:j=i
   ·subst hj
    rw [hi] at e1;cases e1
    rw [List.getElem?_set_self hiσ] at e2
    cases e2
    exact ⟨u,r,.inl ⟨hk,by simp⟩⟩
   ·rw [List.getElem?_set_ne (aV hj)] at e2
    obtain ⟨u',r',q⟩:=hl j y v' e1 e2 e3
    refine ⟨u',r',?_⟩
    rcases q with ⟨k,e⟩|⟨k,c,e,z⟩
    ·refine .inl ⟨k,?_⟩
     have:y≠x:=λe=>hj (qu1 hN e1 (e▸hi))
     simp [this,e]
    ·exact .inr ⟨k,c,e,z.sameBut hs (cne y c e)⟩
  ·obtain ⟨w',z⟩:=I.cell y c e
   exact ⟨w',z.sameBut hs (cne y c e)⟩
  ·obtain ⟨e,n,ne,nf,d⟩:=I.pin p hp
   exact ⟨(hs.2 p.1 ne).trans e,n,ne,nf,d⟩
 ·have hfn:X.fn x=true:=by
   rcases hf with z|z
   ·exact z
   ·rw [z] at hk;cases hk
  obtain ⟨c,hc⟩:=I.ok.has x (.inl hk)
  obtain ⟨w',z⟩:=I.cell x c hc
  refine wpAny_storeName_cell I.ok.kind hk hc z (λh' hc' hs=>?_)
  obtain ⟨oc,hoc,hocd⟩:=id z
  refine h { s with heap:=h' } ⟨I.ok,I.os,I.bare,⟨λb o e n hb hx=>?_,λb o e n hb hx=>?_,I.base.free,λb o e hx=>?_,I.base.tups,I.base.frzs,I.base.tbls⟩,⟨m,hn.sameBut hs (aV (cne x c hc)),λj y v' e1 e2 e3=>?_⟩,λy c' e=>?_,I.free,I.freeC,λp hp=>?_,tracked ⟨oc,hoc,I.freeC x c hc⟩ hs,by simpa using I.len⟩ ⟨c,hs,.inr hc⟩
  ·exact (hs.2 b (az (aH (am e) (I.ok.cab x c hfn hc)))).trans (I.base.keep b o e n hb hx)
  ·obtain ⟨sl,e1⟩:=I.base.slot b o e n hb hx
   exact ⟨sl,(hs.2 b (az (aH (am e) (I.ok.cab x c hfn hc)))).trans e1⟩
  ·obtain ⟨o',e1⟩:=I.base.there b o e hx
   exact ⟨o',(hs.2 b (az (aH (am e) (I.ok.cab x c hfn hc)))).trans e1⟩
  ·by_cases hj:j=i
   ·subst hj
    rw [hi] at e1;cases e1
    rw [List.getElem?_set_self hiσ] at e2
    cases e2
    exact ⟨u,r,.inr ⟨.inl hk,c,hc,hc'⟩⟩
   ·rw [List.getElem?_set_ne (aV hj)] at e2
    obtain ⟨u',r',q⟩:=hl j y v' e1 e2 e3
    refine ⟨u',r',?_⟩
    rcases q with q|⟨k,c',e,z'⟩
    ·exact .inl q
    ·refine .inr ⟨k,c',e,z'.sameBut hs ?_⟩
     rintro rfl
     exact hj (qu1 hN e1 (I.ok.inj _ _ _ e hc▸hi))
  ·by_cases hcc:c'=c
   ·subst hcc;exact ⟨_,hc'⟩
   ·obtain ⟨w2,z2⟩:=I.cell y c' e
    exact ⟨w2,z2.sameBut hs hcc⟩
  ·obtain ⟨e,n,ne,nf,d⟩:=I.pin p hp
   refine ⟨(hs.2 p.1 ?_).trans e,n,ne,nf,d⟩
   intro q
   rw [q,hoc] at e
   have q':oc=p.2:=av e
   exact d w' (by rw [←q'];exact hocd)
theorem ud {M:Model}{A:Ae}{E:Ag→Ab→Prop}{i:Nat}{x:Str}{v:V}{u:Ag}{Q:Unit→Ab→Prop}(I:Inv X pins σ H s)(hN:X.N.Nodup)(hi:X.N[i]?=some x)(hx:Loc X.env.scope x)(r:RelV v u)
  (h:∀s',Inv X pins (σ.set i (some v)) H s'→Q () s') (hf:autoParam (X.fn x=true∨X.env.scope.names.lookup x=some .local) aU0._auto_1):wpAny M A (storeName X.env x u) Q E s :=
 wkm I hN hi hx r (λs' I' _=>h s' I') hf
theorem Inv.call' {s':Ab}{ch:List Aj}(I:Inv X pins σ H s)(ho:s'.os=s.os)(u:Un (frs X.stack) ch H H' s.heap s'.heap)(hok:HOk X.prog X.w H' s'.heap)(hg:AllBare s'.gens)
  (hch:∀b∈ch,(b∈X.ex∨X.s₀.heap.objs.size≤b)∧b≠X.env.locals∧(∀x c,X.env.cells.lookup x=some c→c≠b)∧∀p∈X.pn++pins,p.1≠b):Inv X pins σ H' s':=by
 obtain ⟨h',g',d',t',o'⟩:=s'
 have e:o'=s.os:=ho
 subst e
 exact I.call (g':=g') (t':=t') (d':=d') u hok hg hch
end
abbrev XK:=Ag→Option Aj→Hp→Prop
abbrev St:=List (Option V)
abbrev VK:=V→Hp→Prop
abbrev TE:=St→Hp→VK→Prop
abbrev TT:=St→Hp→(Bool→Hp→Prop)→Prop
abbrev TA:=St→Hp→(List V→Hp→Prop)→Prop
structure Ends where
 nx:St→Hp→Prop
 rt:VK
 bk:St→Hp→Prop:=λ_ _=>False
 ct:St→Hp→Prop:=λ_ _=>False
abbrev TS:=Ends→St→Hp→Prop
def EP (X:Cx)(pins:List (Aj×Obj))(σ:St)(Q:VK)(u:Ag)(s':Ab):Prop:=∃v H',Inv X pins σ H' s'∧RelV v u∧Q v H'
def TP (X:Cx)(pins:List (Aj×Obj))(σ:St)(Q:Bool→Hp→Prop)(b:Bool)(s':Ab):Prop:=∃H',Inv X pins σ H' s'∧Q b H'
def AP (X:Cx)(pins:List (Aj×Obj))(σ:St)(Q:List V→Hp→Prop)(us:List Ag)(s':Ab):Prop:=∃vs H',Inv X pins σ H' s'∧Vals vs us∧Q vs H'
def SP (X:Cx)(pins:List (Aj×Obj))(D:Ends)(f:Flow)(s':Ab):Prop :=
 match f with
 |.next=>∃σ' H',Inv X pins σ' H' s'∧D.nx σ' H'
 |.brk=>∃σ' H',Inv X pins σ' H' s'∧D.bk σ' H'
 |.cont=>∃σ' H',Inv X pins σ' H' s'∧D.ct σ' H'
 |.ret u=>∃v σ' H',Inv X pins σ' H' s'∧RelV v u∧D.rt v H'
def PE (X:Cx)(e:Expr)(t:TE):Prop :=
 ∀(pins:List (Aj×Obj)) (s:Ab) (σ:St) (H:Hp) (Q:VK),Inv X pins σ H s→t σ H Q→wpAny (model X.prog X.w) X.A (eval e X.env) (EP X pins σ Q) X.xe s
def PT (X:Cx)(e:Expr)(t:TT):Prop :=
 ∀(pins:List (Aj×Obj)) (s:Ab) (σ:St) (H:Hp) (Q:Bool→Hp→Prop),Inv X pins σ H s→t σ H Q→wpAny (model X.prog X.w) X.A (isTrue e X.env (eval e X.env)) (TP X pins σ Q) X.xe s
def PW (X:Cx)(e:Expr)(t:TT):Prop :=
 ∀(whole:Sem Ag) (pins:List (Aj×Obj)) (s:Ab) (σ:St) (H:Hp) (Q:Bool→Hp→Prop),Inv X pins σ H s→t σ H Q→wpAny (model X.prog X.w) X.A (isTrue e X.env whole) (TP X pins σ Q) X.xe s
theorem PW.pt {X:Cx}{e:Expr}{t:TT}(h:PW X e t):PT X e t:=h _
def PA (X:Cx)(es:List Expr)(t:TA):Prop :=
 ∀(pos:Pos) (pins:List (Aj×Obj)) (s:Ab) (σ:St) (H:Hp) (Q:List V→Hp→Prop),Inv X pins σ H s→t σ H Q→wpAny (model X.prog X.w) X.A (spliced (backTo pos (starEach es X.env))) (AP X pins σ Q) X.xe s
def PS (X:Cx)(st:Stmt)(t:TS):Prop :=
 ∀(pins:List (Aj×Obj)) (s:Ab) (σ:St) (H:Hp) (D:Ends),Inv X pins σ H s→t D σ H→wpAny (model X.prog X.w) X.A (exec st X.env) (SP X pins D) X.xe s
def PSs (X:Cx)(st:List Stmt)(t:TS):Prop :=
 ∀(pins:List (Aj×Obj)) (s:Ab) (σ:St) (H:Hp) (D:Ends),Inv X pins σ H s→t D σ H→wpAny (model X.prog X.w) X.A (execs st X.env) (SP X pins D) X.xe s
theorem thn {α:Type}{t:Sem α}{Q Q':α→Ab→Prop}{M:Model}{A:Ae}{E:Ag→Ab→Prop}{s:Ab}(h:wpAny M A t Q E s)(hQ:∀a s,Q a s→Q' a s):wpAny M A t Q' E s:=ba h hQ λ_ _ x=>x
section
variable {X:Cx}
def tVar (i:Nat):TE:=λσ H Q=>∃v,σ[i]?=some (some v)∧Q v H
def tC (v:V):TE:=λ_ H Q=>Q v H
theorem _root_.aU1 (h:True:=by decide):True:=h
theorem pe_var {i:Nat}{x:Str}{pos:Pos}(hN:X.N[i]?=some x)(hv:Vis X.env.scope x)(hd:autoParam ((x==("__debug__" : Str))=false) aU1._auto_1)(hcd:autoParam ((x==("__classdict__" : Str))=false) aU1._auto_1):PE X (.Name x pos) (tVar i):=by
 intro pins s σ H Q I h
 obtain ⟨v,e,h⟩:=h
 obtain ⟨m,hn,hl⟩:=I.loc
 obtain ⟨u,r,l⟩:=hl i x v hN e hv
 have fin:EP X pins σ Q u s:=⟨v,H,I,r,h⟩
 rcases l with ⟨hk,hm⟩|⟨hk,c,hc,hcell⟩
 ·exact wpAny_Name (wpAny_loadName_local I.ok.kind hk hn hm fin) hd
 ·rcases hk with hk|hk
  ·exact wpAny_Name (wpAny_loadName_cell I.ok.kind hk hc hcell fin) hd
  ·exact wpAny_Name (wpAny_loadName_free I.ok.kind hk hc hcell fin hcd) hd
theorem qk {i j pos}:PE X (.Constant (.int i) j pos) (tC (.int i)):=λ_ _ _ H _ I h=>wpAny_Constant_int ⟨.int i,H,I.tok _,⟨_,rfl⟩,h⟩
theorem j9 {b j pos}:PE X (.Constant (.bool b) j pos) (tC (.bl b)):=λ_ _ _ H _ I h=>Constant_bool ⟨.bl b,H,I,rfl,h⟩
theorem jv {j pos}:PE X (.Constant .none j pos) (tC .non):=λ_ _ _ H _ I h=>Constant_none ⟨.non,H,I,rfl,h⟩
theorem x6 {x j pos}:PE X (.Constant (.str x) j pos) (tC (.str x)):=λ_ _ _ H _ I h=>Calls.Constant_str ⟨.str x,H,I.tok _,⟨_,rfl⟩,h⟩
def Gl (X:Cx)(x:Str):Prop:=X.env.kindOf x=some .globalImplicit
theorem Qp {E:Ag→Ab→Prop}{pins:List (Aj×Obj)}{s:Ab}{σ:St}{H:Hp}{x:Str}{u:Ag}{pos:Pos}{Q:Ag→Ab→Prop}(I:Inv X pins σ H s)(hg:Gl X x)(hm:X.mg x=some u)(h:Q u s)
  (hd:autoParam ((x==("__debug__" : Str))=false) aU1._auto_1):wpAny (model X.prog X.w) X.A (eval (.Name x pos) X.env) Q E s :=
 Calls.Name_function_global I.ok.kind hg (Calls.loadGlobal_global (by rw [I.ok.glob];exact I.mod.glob.keeps I.bk) hm h) hd
theorem _root_.aU2 (h:True:= by decide):True:=h
theorem qwk {E:Ag→Ab→Prop}{pins:List (Aj×Obj)}{s:Ab}{σ:St}{H:Hp}{x:Str}{u:Ag}{pos:Pos}{Q:Ag→Ab→Prop}(I:Inv X pins σ H s)(hg:Gl X x)(hm:X.mg x=none)(hv:bootBuiltins x=some u)(h:Q u s)
  (hn:autoParam (x ≠ "__name__") aU2._auto_1) (hd:autoParam ((x==("__debug__" : Str))=false) aU1._auto_1):wpAny (model X.prog X.w) X.A (eval (.Name x pos) X.env) Q E s:=by
 obtain ⟨mb,h1,h2⟩:=I.mod.blt
 exact Calls.Name_function_global I.ok.kind hg (Calls.loadGlobal_builtin (by rw [I.ok.glob];exact I.mod.glob.keeps I.bk) hm (by rw [I.ok.blt];exact h1.keeps I.bk) ((h2 x hn).trans hv) h) hd
theorem u6 {x:Str}{v:V}{u:Ag}{pos:Pos}(hg:Gl X x)(hm:X.mg x=some u)(r:RelV v u)(hd:autoParam ((x==("__debug__" : Str))=false) aU1._auto_1):PE X (.Name x pos) (tC v) :=
 λ_ _ _ H _ I h=>Qp I hg hm ⟨v,H,I,r,h⟩ hd
theorem yg {x:Str}{v:V}{u:Ag}{pos:Pos}(hg:Gl X x)(hm:X.mg x=none)(hv:bootBuiltins x=some u)(r:RelV v u)(hn:autoParam (x ≠ "__name__") aU2._auto_1)(hd:autoParam ((x==("__debug__" : Str))=false) aU1._auto_1):PE X (.Name x pos) (tC v) :=
 λ_ _ _ H _ I h=>qwk I hg hm hv ⟨v,H,I,r,h⟩ hn hd
variable {a b:Expr}{ta tb:TE}{pos:Pos}
def PC (X:Cx)(op:CmpOp)(a b:Expr)(t:TE):Prop :=
 ∀(pins:List (Aj×Obj)) (s:Ab) (σ:St) (H:Hp) (Q:VK),Inv X pins σ H s→t σ H Q →
  wpAny (model X.prog X.w) X.A (eval a X.env) (λv s₁=>wpAny (model X.prog X.w) X.A (eval b X.env) (λu s₂=>wpAny (model X.prog X.w) X.A (compareOp op v u) (EP X pins σ Q) X.xe s₂) X.xe s₁) X.xe s
def tB (t:TE):TT:=λσ H Q=>t σ H λx H1=>∃c,x=.bl c∧Q c H1
theorem Qx {op:CmpOp}{t:TE}(h:PC X op a b t)(h1:behindInMarks op b=false:=by first | exact nobehind _ ⋯ ⋯ | rfl):PT X (.Compare a [op] [b] pos) (tB t):=by
 intro pins s σ H Q I hw
 refine wpAny_isTrue_Compare1 (thn (h pins s σ H _ I hw) λv s1 h1=>thn h1 λu s2 h2=>thn h2 λc s3 ⟨x,H1,I1,r1,q1⟩=>?_) h1
 obtain ⟨d,rfl,q⟩:=q1
 cases r1
 exact cz ⟨H1,I1,q⟩
theorem _root_.aU3 (h:True:=by intro _;rfl):True:=h
theorem vm {e:Expr}{t:TE}(h:PE X e t)(he:autoParam (∀whole,isTrue e X.env whole=(do let v ←whole;standAt e.pos;holding [v] (truthy v))) aU3._auto_1):PT X e (tB t):=by
 intro pins s σ H Q I hw
 refine isTrue_plain (thn (h pins s σ H _ I hw) λv s1 ⟨x,H1,I1,r1,q1⟩=>?_) (he _)
 obtain ⟨d,rfl,q⟩:=q1
 cases r1
 exact cz ⟨H1,I1,q⟩
variable {tA tB':TT}{rest:List Expr}
def tAnd (t u:TT):TT:=λσ H Q=>t σ H λc H1=>if c=true then u σ H1 Q else Q false H1
def tOr (t u:TT):TT:=λσ H Q=>t σ H λc H1=>if c=true then Q true H1 else u σ H1 Q
def tNot (t:TT):TT:=λσ H Q=>t σ H λc H1=>Q (!c) H1
theorem Yk (ha:PT X a tA):PW X (.BoolOp .And [a] pos) tA:=by
 intro wh pins s σ H Q I h
 refine isTrue_and (thn (ha pins s σ H Q I h) λc s1 e=>?_)
 cases c with
 |true=>exact isTrue_and_nil e
 |false=>exact e
theorem k7 (ha:PT X a tA):PW X (.BoolOp .Or [a] pos) tA:=by
 intro wh pins s σ H Q I h
 refine isTrue_or (thn (ha pins s σ H Q I h) λc s1 e=>?_)
 cases c with
 |false=>exact isTrue_or_nil e
 |true=>exact e
theorem qxd (ha:PT X a tA)(hb:PW X (.BoolOp .And (b::rest) pos) tB'):PW X (.BoolOp .And (a::b::rest) pos) (tAnd tA tB'):=by
 intro wh pins s σ H Q I h
 refine isTrue_and (thn (ha pins s σ H _ I h) λc s1 ⟨H1,I1,q1⟩=>?_)
 cases c with
 |true=>exact hb wh pins s1 σ H1 Q I1 q1
 |false=>exact ⟨H1,I1,q1⟩
theorem jm (ha:PT X a tA)(hb:PW X (.BoolOp .Or (b::rest) pos) tB'):PW X (.BoolOp .Or (a::b::rest) pos) (tOr tA tB'):=by
 intro wh pins s σ H Q I h
 refine isTrue_or (thn (ha pins s σ H _ I h) λc s1 ⟨H1,I1,q1⟩=>?_)
 cases c with
 |true=>exact ⟨H1,I1,q1⟩
 |false=>exact hb wh pins s1 σ H1 Q I1 q1
theorem jz (ha:PT X a tA):PT X (.UnaryOp .Not a pos) (tNot tA):=by
 intro pins s σ H Q I h
 exact isTrue_not (ha pins s σ H (λc H1=>Q (!c) H1) I h)
def tAndV (ta tb:TE):TE:=λσ H Q=>ta σ H λx H1=>∃c,x=.bl c∧if c=true then tb σ H1 Q else Q (.bl false) H1
def tNotV (ta:TE):TE:=λσ H Q=>ta σ H λx H1=>∃c,x=.bl c∧Q (.bl (!c)) H1
theorem Zp {op}{t:TE}(h:PE X a t):PE X (.BoolOp op [a] pos) t:=λpins s σ H Q I hw=>BoolOp_one (h pins s σ H Q I hw)
theorem Qr (ha:PE X a ta)(hb:PE X (.BoolOp .And (b::rest) pos) tb):PE X (.BoolOp .And (a::b::rest) pos) (tAndV ta tb):=by
 intro pins s σ H Q I h
 refine BoolOp_and (thn (ha pins s σ H _ I h) λv s1 ⟨x,H1,I1,r1,q1⟩=>?_)
 obtain ⟨c,rfl,q1⟩:=q1
 cases r1
 refine cz ?_
 cases c with
 |true=>exact hb pins s1 σ H1 Q I1 q1
 |false=>exact ⟨.bl false,H1,I1,rfl,q1⟩
theorem pe_not (ha:PE X a ta):PE X (.UnaryOp .Not a pos) (tNotV ta):=by
 intro pins s σ H Q I h
 refine UnaryOp_ (thn (ha pins s σ H _ I h) λv s1 ⟨x,H1,I1,r1,q1⟩=>?_)
 obtain ⟨c,rfl,q1⟩:=q1
 cases r1
 exact not_of (cz ⟨.bl (!c),H1,I1,rfl,q1⟩)
def tIf (t:TT)(ta tb:TE):TE:=λσ H Q=>t σ H λc H1=>if c=true then ta σ H1 Q else tb σ H1 Q
theorem wqu {c:Expr}(hc:PT X c tA)(ha:PE X a ta)(hb:PE X b tb):PE X (.IfExp c a b pos) (tIf tA ta tb):=by
 intro pins s σ H Q I h
 refine wpAny_IfExp (thn (hc pins s σ H _ I h) λd s1 ⟨H1,I1,q1⟩=>?_)
 cases d with
 |true=>exact ha pins s1 σ H1 Q I1 q1
 |false=>exact hb pins s1 σ H1 Q I1 q1
end
def SqL (K:Aa)(H:Hp)(a:Aj)(xs:List V):Prop :=
 Rd H a (.lst xs) ∨
  ∃(o:Obj) (its:Array Ag) (n:Nat),K.lookup a=some o∧o.cls=.type "list" ∧ o.dict=none∧o.data=.seq its n∧its.size≤sizeLine∧Vals xs its.toList
def SqT (K:Aa)(H:Hp)(a:Aj)(xs:List V):Prop :=
 Rd H a (.tup xs) ∨
  ∃(o:Obj) (its:Array Ag) (n:Nat),K.lookup a=some o∧o.cls=.type "tuple" ∧ o.data=.seq its n∧its.size≤sizeLine∧Vals xs its.toList
def absV:Ag→Option V
 |.none=>some .non
 |.bool b=>some (.bl b)
 |.int i _=>some (.int i)
 |.str x _=>some (.str x)
 |.bytes b _=>some (.byt b)
 |.float b _=>some (.flt b)
 |.ref a=>some (.ref a)
 |.type n=>some (.ty n)
 |_=>none
theorem RelV.abs {x:V}{u:Ag}(r:RelV x u):absV u=some x:=by
 cases x with
 |non=>cases r;rfl
 |bl _=>cases r;rfl
 |int _=>obtain ⟨t,rfl⟩:=r;rfl
 |str _=>obtain ⟨t,rfl⟩:=r;rfl
 |byt _=>obtain ⟨t,rfl⟩:=r;rfl
 |flt _=>obtain ⟨t,rfl⟩:=r;rfl
 |ref _=>cases r;rfl
 |ty _=>cases r;rfl
theorem RelV.inj {x y:V}{u:Ag}(r:RelV x u)(q:RelV y u):x=y:=av (r.abs.symm.trans q.abs)
theorem Vals.inj:∀ {xs ys:List V} {us:List Ag},Vals xs us→Vals ys us→xs=ys
 |_,_,_,.nil,.nil=>rfl
 |_,_,_,.cons r t,.cons r' t'=>by rw [r.inj r',Vals.inj t t']
section
variable {X:Cx}{pins:List (Aj×Obj)}{σ:St}{H:Hp}{s:Ab}{a:Aj}{xs ys:List V}
theorem SqL.of {K:Aa}(h:H a=some (.lst xs)):SqL K H a xs:=.inl (.inl h)
theorem SqT.of {K:Aa}(h:H a=some (.tup xs)):SqT K H a xs:=.inl (.inl h)
theorem Inv.list (I:Inv X pins σ H s)(h:SqL X.K H a xs):∃its:List Ag,Vals xs its∧PlainL s.heap a its.toArray∧xs.length≤sizeLine:=by
 rcases h with h|⟨o,its,n,hk,hc,hd,hs,hz,r⟩
 ·obtain ⟨z,its,n,r,e⟩:=h.ok I.hok
  exact ⟨its,r,⟨_,n,e,rfl,rfl,rfl⟩,z⟩
 ·refine ⟨its.toList,r,⟨o,n,I.kIn a o hk,hc,hd,by simpa using hs⟩,?_⟩
  have e:=r.length
  simp only [bq] at e
  lia
theorem Inv.tuple (I:Inv X pins σ H s)(h:SqT X.K H a xs):∃its:List Ag,Vals xs its∧IsTup s.heap a its.toArray∧xs.length≤sizeLine:=by
 rcases h with h|⟨o,its,n,hk,hc,hs,hz,r⟩
 ·obtain ⟨z,its,r,p⟩:=h.ok I.hok
  exact ⟨its,r,p,z⟩
 ·refine ⟨its.toList,r,⟨o,I.kIn a o hk,hc,n,by simpa using hs⟩,?_⟩
  have e:=r.length
  simp only [bq] at e
  lia
theorem Inv.list_inj (I:Inv X pins σ H s)(h:SqL X.K H a xs)(h':SqL X.K H a ys):xs=ys:=by
 obtain ⟨its,r,⟨o,n,e,_,_,d⟩,_⟩:=I.list h
 obtain ⟨its',r',⟨o',n',e',_,_,d'⟩,_⟩:=I.list h'
 rw [e] at e';cases e'
 rw [d] at d'
 injection d' with d1 _
 have:its=its':=by simpa using bC Array.toList d1
 subst this
 exact r.inj r'
end
abbrev Cx.wish (X:Cx)(E:Ag→Ab→Prop):Cx:={ X with xe:=E }
section
variable {X:Cx}{pins:List (Aj×Obj)}{σ:St}{H:Hp}{s:Ab}{E:Ag→Ab→Prop}
end
section
variable {X:Cx}{st:Stmt}{rest:List Stmt}{t u:TS}{e:Expr}{te:TE}{pos:Pos}
def tNext:TS:=λD σ H=>D.nx σ H
def tSeq (t u:TS):TS:=λD σ H=>t { D with nx:=u D } σ H
theorem wt:PSs X [] tNext:=λ_ _ σ H _ I h=>dG ⟨σ,H,I,h⟩
theorem qu (h1:PS X st t)(h2:PSs X rest u):PSs X (st::rest) (tSeq t u):=by
 intro pins s σ H D I h
 refine fA (thn (h1 pins s σ H { D with nx:=u D } I h) λf s1 q=>?_)
 cases f with
 |next =>
  obtain ⟨σ',H',I',q⟩:=q
  exact h2 pins s1 σ' H' D I' q
 |ret v=>exact q
 |brk=>exact q
 |cont=>exact q
theorem qm (h1:PS X st t):PSs X [st] t:=by
 intro pins s σ H D I h
 refine fA (thn (h1 pins s σ H D I h) λf s1 q=>?_)
 cases f with
 |next=>exact dG q
 |ret v=>exact q
 |brk=>exact q
 |cont=>exact q
theorem Inv.quiet {pins:List (Aj×Obj)}{σ:St}{H:Hp}{s:Ab}(I:Inv X pins σ H s):interactive X.env=false:=by simp [interactive,I.ok.kind]
def tDrop (te:TE):TS:=λD σ H=>te σ H λ_ H1=>D.nx σ H1
theorem _root_.aU4 (h:True:=by rfl):True:=h
theorem zy (he:PE X e te)(hs:autoParam (swapsWith e none pos.line X.env=pure false) aU4._auto_1):PS X (.Expr e pos) (tDrop te):=by
 intro pins s σ H D I h
 exact wpAny_Expr_any (thn (he pins s σ H _ I h) λv s1 ⟨x,H1,I1,r1,q1⟩=>⟨σ,H1,I1,q1⟩) I.quiet hs
def tRet (te:TE):TS:=λD σ H=>te σ H D.rt
theorem wn (he:PE X e te):PS X (.Return (some e) pos) (tRet te):=by
 intro pins s σ H D I h
 exact wpAny_Return_some (thn (he pins s σ H _ I h) λv s1 ⟨x,H1,I1,r1,q1⟩=>⟨x,σ,H1,I1,r1,q1⟩)
def tIfS (c:TT)(t u:TS):TS:=λD σ H=>c σ H λb H1=>if b=true then t D σ H1 else u D σ H1
theorem xh {c:Expr}{a b:List Stmt}{tc:TT}(hc:PT X c tc)(ha:PSs X a t)(hb:PSs X b u):PS X (.If c a b pos) (tIfS tc t u):=by
 intro pins s σ H D I h
 refine wpAny_If (thn (hc pins s σ H _ I h) λd s1 ⟨H1,I1,q1⟩=>?_)
 cases d with
 |true=>exact ha pins s1 σ H1 D I1 q1
 |false=>exact hb pins s1 σ H1 D I1 q1
end
abbrev TG:=V→St→Hp→(St→Hp→Prop)→Prop
abbrev TGs:=List V→St→Hp→(St→Hp→Prop)→Prop
def PG (X:Cx)(target:Expr)(t:TG):Prop :=
 ∀(pins:List (Aj×Obj)) (s:Ab) (σ:St) (H:Hp) (v:V) (u:Ag) (Q:St→Hp→Prop),Inv X pins σ H s→RelV v u→t v σ H Q →
  wpAny (model X.prog X.w) X.A (assign target X.env u) (λ_ s'=>∃σ' H',Inv X pins σ' H' s'∧Q σ' H') X.xe s
def PGs (X:Cx)(ts:List Expr)(t:TGs):Prop :=
 ∀(pins:List (Aj×Obj)) (s:Ab) (σ:St) (H:Hp) (vs:List V) (us:List Ag) (Q:St→Hp→Prop),Inv X pins σ H s→Vals vs us→t vs σ H Q →
  wpAny (model X.prog X.w) X.A (assignInOrder ((assignEach ts X.env).map (·.2)) us) (λ_ s'=>∃σ' H',Inv X pins σ' H' s'∧Q σ' H') X.xe s
abbrev TSet:=V→V→V→Hp→(Hp→Prop)→Prop
def PSet (X:Cx)(t:TSet):Prop :=
 ∀(pins:List (Aj×Obj)) (s:Ab) (σ:St) (H:Hp) (o i v:V) (ov iv u:Ag) (Q:Hp→Prop),Inv X pins σ H s→RelV o ov→RelV i iv→RelV v u→t o i v H Q →
  wpAny (model X.prog X.w) X.A (setItem ov iv u) (λ_ s'=>∃H',Inv X pins σ H' s'∧Q H') X.xe s
section
variable {X:Cx}{pos:Pos}
def wqz (i:Nat):TG:=λv σ H Q=>Q (σ.set i (some v)) H
theorem _root_.aU5 (h:True:=by walk_at "loc"):True:=h
theorem _root_.aU6 (h:True:=by exact FnScope.nd (by assumption)):True:=h
theorem xp {i:Nat}{x:Str}(hN:autoParam (X.N.Nodup) aU6._auto_1)(hi:autoParam (X.N[i]?=some x) aU4._auto_1)(hx:autoParam (Loc X.env.scope x) aU5._auto_1)(hf:autoParam (X.fn x=true∨X.env.scope.names.lookup x=some .local) aU0._auto_1):PG X (.Name x pos) (wqz i):=by
 intro pins s σ H v u Q I r h
 exact dN (ud I hN hi hx r (λs' I'=>⟨_,H,I',h⟩) hf)
def gNil:TGs:=λvs σ H Q=>vs=[]∧Q σ H
def gCons (t:TG)(u:TGs):TGs:=λvs σ H Q=>∃v r,vs=v::r∧t v σ H λσ' H'=>u r σ' H' Q
theorem vc:PGs X [] gNil:=by
 intro pins s σ H vs us Q I r h
 obtain ⟨e,h⟩:=h
 subst e
 cases r
 exact assignInOrder_nil ⟨σ,H,I,h⟩
theorem x4 {e:Expr}{es:List Expr}{t:TG}{u:TGs}(h1:PG X e t)(h2:PGs X es u)
  (hs:autoParam ((assignEach (e::es) X.env).map (·.2)=assign e X.env::(assignEach es X.env).map (·.2)) aU4._auto_1):PGs X (e::es) (gCons t u):=by
 intro pins s σ H vs us Q I r h
 obtain ⟨v,vr,e1,h⟩:=h
 subst e1
 cases r with
 |cons r rr =>
  rw [hs]
  refine eV (thn (h1 pins s σ H _ _ _ I r h) λ_ s1 ⟨σ1,H1,I1,q1⟩=>?_)
  exact h2 pins s1 σ1 H1 _ _ Q I1 rr q1
def gTup (K:Aa)(n:Nat)(t:TGs):TG:=λv σ H Q=>∃a xs,v=.ref a∧SqT K H a xs∧xs.length=n∧t xs σ H Q
theorem jy {es:List Expr}{k:Nat}{t:TGs}{n:Nat}(hc:X.calm=true)(h:PGs X es t)
  (hn:autoParam ((assignEach es X.env).length=n) aU4._auto_1) (hst:autoParam ((assignEach es X.env).findIdx? (·.1)=none) aU4._auto_1):PG X (.Tuple es k pos) (gTup X.K n t):=by
 intro pins s σ H v u Q I r hw
 obtain ⟨a,xs,e1,hq,hl,hw⟩:=hw
 subst e1
 cases r
 obtain ⟨its,rv,ht,hz⟩:=I.tuple hq
 refine assign_Tuple_tuple (I.ok.hd hc) ht (by simp [hn,←hl,rv.length]) hst λh' hx=>?_
 have I1:Inv X pins σ H { s with heap:=h' }:=I.kept (t':=s.toks) λb o e=>hx b o (az (am e)) e
 exact h pins _ σ H xs _ Q I1 (by simpa using rv) hw
def gSub (to ti:TE)(t:TSet):TG:=λv σ H Q=>to σ H λo H1=>ti σ H1 λi H2=>t o i v H2 λH3=>Q σ H3
theorem wxg {o i:Expr}{to ti:TE}{t:TSet}(ho:PE X o to)(hi:PE X i ti)(hs:PSet X t)
  (ha:autoParam (∀v,assign (.Subscript o i pos) X.env v=(do
   let ov ←holding [v] (eval o X.env)
   let iv ←holding [v,ov] (eval i X.env)
   standAt pos
   holding [v,ov,iv] (setItem ov iv v)
   release [v,ov,iv] [])) aU3._auto_1):PG X (.Subscript o i pos) (gSub to ti t):=by
 intro pins s σ H v u Q I r h
 rw [ha]
 refine ac (cn (thn (ho pins s σ H _ I h) λov s1 ⟨x,H1,I1,r1,q1⟩=>?_))
 refine ac (cn (thn (hi pins s1 σ H1 _ I1 q1) λiv s2 ⟨y,H2,I2,r2,q2⟩=>?_))
 refine ac (cS (ac (cn (thn (hs pins s2 σ H2 x y v ov iv u _ I2 r1 r2 r q2) λ_ s3 ⟨H3,I3,q3⟩=>?_))))
 exact wpAny_release ⟨σ,H3,I3,q3⟩
def tAsg (te:TE)(g:TG):TS:=λD σ H=>te σ H λx H1=>g x σ H1 D.nx
theorem jn {tg e:Expr}{te:TE}{g:TG}(he:PE X e te)(hg:PG X tg g)(hs:autoParam (swapsWithSole [tg] e pos.line X.env=pure false) aU4._auto_1)(hw:autoParam (swappedStores [tg] e X.env=pure none) aU4._auto_1)
  (h1:autoParam ((assignEach [tg] X.env).map (·.2)=[assign tg X.env]) aU4._auto_1):PS X (.Assign [tg] e pos) (tAsg te g):=by
 intro pins s σ H D I h
 refine wpAny_Assign_stores (thn (he pins s σ H _ I h) λv s1 ⟨x,H1,I1,r1,q1⟩=>?_) hs hw
 rw [h1]
 exact thn (hg pins s1 σ H1 x v _ I1 r1 q1) λ_ s2 q=>q
theorem xj {i:Nat}{x:Str}{e:Expr}{te:TE}{pos':Pos}(he:PE X e te)(hN:autoParam (X.N.Nodup) aU6._auto_1)(hi:autoParam (X.N[i]?=some x) aU4._auto_1)(hx:autoParam (Loc X.env.scope x) aU5._auto_1)(hs:autoParam (swapsWith e (some (.Name x pos')) pos.line X.env=pure false) aU4._auto_1)(hf:autoParam (X.fn x=true∨X.env.scope.names.lookup x=some .local) aU0._auto_1) :
  PS X (.Assign [.Name x pos'] e pos) (tAsg te (wqz i)):=by
 intro pins s σ H D I h
 refine wpAny_Assign_Name (thn (he pins s σ H _ I h) λv s1 ⟨y,H1,I1,r1,q1⟩=>?_) hs
 exact ud I1 hN hi hx r1 (λs2 I2=>⟨_,H1,I2,q1⟩) hf
def tPar (i j:Nat)(ta:TA):TS:=λD σ H=>ta σ H λvs H1=>∃v w,vs=[v,w]∧D.nx ((σ.set i (some v)).set j (some w)) H1
theorem xqj {i j:Nat}{x y:Str}{a b:Expr}{ta:TA}{px py pt:Pos}{kt k2 pt2}(hc:X.calm=true)(hN:X.N.Nodup)(hi:X.N[i]?=some x)(hj:X.N[j]?=some y)(hij:i≠j)
  (hx:X.env.scope.names.lookup x=some .local) (hy:X.env.scope.names.lookup y=some .local) (ha:PA X [a,b] ta)
  (hw:swappedStores [.Tuple [.Name x px,.Name y py] kt pt] (.Tuple [a,b] k2 pt2) X.env=pure (some [x,y]))
  (hs:autoParam (swapsWithSole [.Tuple [.Name x px,.Name y py] kt pt] (.Tuple [a,b] k2 pt2) pos.line X.env=pure false) aU4._auto_1) :
  PS X (.Assign [.Tuple [.Name x px,.Name y py] kt pt] (.Tuple [a,b] k2 pt2) pos) (tPar i j ta):=by
 intro pins s σ H D I h
 rw [exec_Assign_arm]
 refine ac (cS ?_)
 rw [hs]
 refine ac (ao ?_)
 rw [ai ⋯]
 refine ac (Tuple_ (thn (ha _ pins s σ H _ I h) λus s1 ⟨vs,H1,I1,r1,q1⟩=>?_))
 obtain ⟨v,w,e1,q1⟩:=q1
 subst e1
 obtain ⟨u1,u2,rfl,rv,rw'⟩:∃u1 u2,us=[u1,u2]∧RelV v u1∧RelV w u2:=by
  cases r1 with
  |cons p q =>
   cases q with
   |cons p' q' =>
    cases q'
    exact ⟨_,_,rfl,p,p'⟩
 refine cA ?_ (by show 2≤sizeLine;decide)
 have I2:Inv X pins σ H1 { s1 with heap:=s1.heap.push { cls:=.type "tuple",data:=.seq [u1,u2].toArray } }:=I1.kept (t':=s1.toks) λb o e=>ag _ e
 rw [hw]
 refine ac (ao ?_)
 show wpAny (model X.prog X.w) X.A (do rule "assign.swapped-stores";let items ←unpackItems (.ref s1.heap.objs.size) 2 none;assignInOrder [λv=>bindName X.env y v,λv=>bindName X.env x v] items.reverse;pure Flow.next) _ _ _
 refine ac (wpAny_rule (ac (unpackItems_tuple (items:=#[u1,u2]) (I.ok.hd hc) (IsTup.new s1.heap _) λh' hx'=>?_)))
 have I3:=I2.kept (h':=h') (t':=s1.toks) λb o e=>hx' b o (az (am e)) e
 show wpAny _ _ (assignInOrder [λv=>bindName X.env y v,λv=>bindName X.env x v] [u2,u1] >>= λ_=>pure Flow.next) _ _ _
 refine ac (eV (wpAny_bindName (ud I3 hN hj (.inl hy) rw' (λs2 I4=>?_) (.inr hy))))
 refine eV (wpAny_bindName (ud I4 hN hi (.inl hx) rv (λs3 I5=>assignInOrder_nil (ao ?_)) (.inr hx)))
 rw [List.set_comm _ _ (aV hij)] at I5
 exact ⟨_,H1,I5,q1⟩
end
section
variable {X:Cx}{pos:Pos}
def ww4 (c:TT)(tb:TS):TS:=λD σ H=>∃W:Nat→St→Hp→Prop,(∃m,W m σ H)∧∀m σ H,W m σ H →
 c σ H λb H1=>if b=true then ∃N:St→Hp→Prop,(∀σ' H',N σ' H'→∃m',m'<m∧W m' σ' H')∧tb { D with nx:=N,ct:=N,bk:=D.nx } σ H1 else D.nx σ H1
theorem Ym {c:Expr}{body:List Stmt}{tc:TT}{tb:TS}(hp:PassesOwn (model X.prog X.w) X.A X.env X.xe)(hc:PT X c tc)(hb:PSs X body tb):PS X (.While c body [] pos) (ww4 tc tb):=by
 intro pins s σ H D I h
 obtain ⟨W,⟨m0,w0⟩,turn⟩:=h
 refine wpAny_While (codeAny_whileLoop (λn s'=>∃σ' H',Inv X pins σ' H' s'∧W n σ' H') ?_ m0 ⟨σ,H,I,w0⟩)
 rintro n s1 ⟨σ1,H1,I1,w1⟩
 refine cN hp (thn (hc pins s1 σ1 H1 _ I1 (turn n σ1 H1 w1)) λb s2 ⟨H2,I2,q2⟩=>?_)
 cases b with
 |true =>
  obtain ⟨N,hN,q2⟩:=q2
  rw [ak rfl]
  refine cN hp (thn (hb pins s2 σ1 H2 _ I2 q2) λf s3 q3=>?_)
  cases f with
  |next =>
   obtain ⟨σ3,H3,I3,n3⟩:=q3
   obtain ⟨m',hm,w3⟩:=hN σ3 H3 n3
   exact ⟨m',hm,σ3,H3,I3,w3⟩
  |cont =>
   obtain ⟨σ3,H3,I3,n3⟩:=q3
   obtain ⟨m',hm,w3⟩:=hN σ3 H3 n3
   exact ⟨m',hm,σ3,H3,I3,w3⟩
  |brk=>exact q3
  |ret v=>exact q3
 |false =>
  rw [ai aI]
  exact dG ⟨σ1,H2,I2,q2⟩
end
structure It where
 go:Nat→Hp→Prop
 yld:Nat→Hp→V→Hp→Prop
 stop:Nat→Hp→Prop
def uq (X:Cx)(pins:List (Aj×Obj))(H:Hp)(b:Aj):Prop :=
 H b=none∧b≠X.env.locals∧b∉X.fs∧(b∈X.ex∨X.s₀.heap.objs.size≤b)∧(∀x c,X.env.cells.lookup x=some c→c≠b)∧∀p∈X.pn++pins,p.1≠b
theorem Inv.fpOk {X:Cx}{pins:List (Aj×Obj)}{σ:St}{H H':Hp}{s:Ab}{b:Aj}(I:Inv X pins σ H s)(hb:s.heap.objs.size≤b)(hn:H' b=none):uq X pins H' b:=by
 refine ⟨hn,eQ (aH I.lt hb),I.nofs hb,.inr (bD I.sz hb),λx c e z=>?_,λp hp z=>?_⟩
 ·obtain ⟨v,q⟩:=I.cell x c e
  exact absurd (aH q.lt (by rw [z];exact hb)) (aQ _)
 ·exact absurd (aH (am (I.pin p hp).1) (by rw [z];exact hb)) (aQ _)
structure Turn (P:Ac)(w:Ah)(K:Aa)(tg:Expr)(J:It)(fp:List Aj)(it:Aj)(tn:Nat→Heap→Prop):Prop where
 mem:it∈fp
 obj:∀i h,tn i h→∀b∈fp,∃o,h.get? b=some o∧∀v,o.data≠.cell v
 keep:∀i h h',tn i h→(∀b∈fp,∀o,h.get? b=some o→h'.get? b=some o)→tn i h'
 item:∀(X:Cx),X.prog=P→X.w=w→X.K=K→X.calm=true→∀(i:Nat) (pins:List (Aj×Obj)) (s:Ab) (σ:St) (H:Hp) (E:Ag→Ab→Prop),Inv X pins σ H s→(∀b∈fp,uq X pins H b)→tn i s.heap→J.go i H →
  wpAny (model P w) X.A (pyNext (.ref it)) (λr s1=>∃u,r=some u ∧
   wpAny (model P w) X.A (letOwnedTupleGo tg (.ref it) u) (λ_ s2=>∃x H',Inv X pins σ H' s2∧RelV x u∧J.yld i H x H'∧tn (i+1) s2.heap∧∀b∈fp,H' b=none) E s1) E s
 done:∀(X:Cx),X.prog=P→X.w=w→X.K=K→X.calm=true→∀(i:Nat) (pins:List (Aj×Obj)) (s:Ab) (σ:St) (H:Hp) (E:Ag→Ab→Prop),Inv X pins σ H s→(∀b∈fp,uq X pins H b)→tn i s.heap→J.stop i H →
  wpAny (model P w) X.A (pyNext (.ref it)) (λr s1=>r=none∧Inv X pins σ H s1) E s
 self:∀(A:Ae) (i:Nat) (s:Ab) (Q:Ag→Ab→Prop) (E:Ag→Ab→Prop),tn i s.heap→Q (.ref it) s→wpAny (model P w) A (pyIter (.ref it)) Q E s
abbrev TI:=St→Hp→(It→Hp→Prop)→Prop
def PIE (X:Cx)(pins:List (Aj×Obj))(σ:St)(tg:Expr)(R:It→Hp→Prop)(itv:Ag)(s2:Ab):Prop :=
 ∃(it:Aj) (fp:List Aj) (tn:Nat→Heap→Prop) (J:It) (H':Hp),itv=.ref it∧Inv X pins σ H' s2∧Turn X.prog X.w X.K tg J fp it tn∧tn 0 s2.heap∧(∀b∈fp,uq X pins H' b)∧R J H'
def PI (X:Cx)(tg iter:Expr)(wi:TI):Prop :=
 ∀(pins:List (Aj×Obj)) (s:Ab) (σ:St) (H:Hp) (R:It→Hp→Prop),Inv X pins σ H s→wi σ H R →
  wpAny (model X.prog X.w) X.A (eval iter X.env) (λv s1=>wpAny (model X.prog X.w) X.A (pyIter v) (PIE X pins σ tg R) X.xe s1) X.xe s
theorem qv0 {M:Model}{A:Ae}{E:Ag→Ab→Prop}{s:Ab}{tg:Expr}{it:Aj}{u:Ag}{o:Obj}{n:String}{vs:Array Ag}{Q:Unit→Ab→Prop}(ho:s.heap.get? it=some o)(hc:o.cls=.type n)(hd:o.data=.fields vs)
  (hn:["enumerate","zip","dict_itemiterator","dict_reverseitemiterator","odict_iterator","itertools.zip_longest","itertools.pairwise"].contains n=false) (hQ:Q () s):wpAny M A (letOwnedTupleGo tg (.ref it) u) Q E s:=by
 unfold letOwnedTupleGo
 cases tg <;> first
  |exact ao hQ
  |(cases u <;> first
    |exact ao hQ
    |(refine ac (wpAny_load ho ?_)
      rw [hc,hd]
      show wpAny M A (if (["enumerate","zip","dict_itemiterator","dict_reverseitemiterator","odict_iterator","itertools.zip_longest","itertools.pairwise"].contains n&&vs[0]?==some (rawInt _))=true then _ else _) Q E s
      rw [ai (by intro h;rw [hn,Bool.false_and] at h;cases h)]
      exact ao hQ))
def Itl (K:Aa)(a:Aj):It :=
 ⟨λi H=>∃xs x,SqL K H a xs∧xs[i]?=some x,λi H x H'=>H'=H∧∀xs,SqL K H a xs→xs[i]?=some x,λi H=>∃xs,SqL K H a xs∧xs.length≤i⟩
def Itr (lo:Int)(n:Nat):It:=⟨λi _=>i<n,λi H x H'=>H'=H∧x=.int (lo+i),λi _=>n≤i⟩
theorem wvf {P:Ac}{w:Ah}{K:Aa}{tg:Expr}(a it:Aj):Turn P w K tg (Itl K a) [it] it (λi h=>h.IsListIter it a i) where
 mem:=by simp
 obj:=λi h st b hb=>by
  have e:b=it:=by simpa using hb
  subst e
  obtain ⟨o,e,c,d⟩:=st
  exact ⟨o,e,λv z=>by rw [d] at z;cases z⟩
 keep:=λi h h' st k=>st.at λo e=>k it (by simp) o e
 item:=by
  intro X hP hw hK hc i pins s σ H E I hf st hg
  subst hP hw hK
  obtain ⟨xs,x,hq,hx⟩:=hg
  obtain ⟨its,rv,p,hz⟩:=I.list hq
  obtain ⟨u,hu,ru⟩:=rv.get hx
  obtain ⟨f0,f1,f2,f3,f4,f5⟩:=hf it (by simp)
  refine wpAny_pyNext_list_item st p.isList (x:=u) (by simpa using hu) λh' st' sb=>?_
  have I1:Inv X pins σ H { s with heap:=h' }:=I.turned (t':=s.toks) (λb o hb e=>(sb.2 b hb).trans e) f0 f1 f3 f4 f5
  obtain ⟨o,e,c,d⟩:=id st'
  exact ⟨u,rfl,qv0 (s:={ s with heap:=h' }) e c d ⋯ ⟨x,H,I1,ru,⟨rfl,λys hy=>by rw [I.list_inj hy hq];exact hx⟩,st',λb hb=>(hf b hb).1⟩⟩
 done:=by
  intro X hP hw hK hc i pins s σ H E I hf st hg
  subst hP hw hK
  obtain ⟨xs,hq,hx⟩:=hg
  obtain ⟨its,rv,p,hz⟩:=I.list hq
  obtain ⟨f0,f1,f2,f3,f4,f5⟩:=hf it (by simp)
  have hl:=rv.length
  exact wpAny_pyNext_list_end (I.ok.hd hc) st p.isList (by simp;lia) λh' eb=>⟨rfl,I.turned (t':=s.toks) (λb o hb e=>eb b o hb e) f0 f1 f3 f4 f5⟩
 self:=λ_ _ _ _ _ st h=>wpAny_pyIter_listiter st h
theorem ww8 {P:Ac}{w:Ah}{K:Aa}{tg:Expr}(it:Aj)(lo:Int)(n:Nat):Turn P w K tg (Itr lo n) [it] it (λi h=>IsRangeIter h it (lo+(i:Nat)*1) ((n:Int)-(i:Nat)) 1) where
 mem:=by simp
 obj:=λi h st b hb=>by
  have e:b=it:=by simpa using hb
  subst e
  exact ⟨_,st,λv z=>by
   have z':Data.fields _=Data.cell v:=z
   cases z'⟩
 keep:=λi h h' st k=>k it (by simp) _ st
 item:=by
  intro X hP hw hK hc i pins s σ H E I hf st hg
  subst hP hw hK
  obtain ⟨f0,f1,f2,f3,f4,f5⟩:=hf it (by simp)
  have W:=Walks.range (prog:=X.prog) (w:=X.w) (I.ok.hd hc) it lo 1 n
  refine W.item i s _ _ hg st λv h' tk hv st' kk=>?_
  obtain ⟨t,rfl⟩:=hv
  have I1:Inv X pins σ H { s with heap:=h',toks:=tk }:=I.turned (λb o hb e=>kk b o (by simpa using hb) e) f0 f1 f3 f4 f5
  refine ⟨_,rfl,qv0 (s:={ s with heap:=h',toks:=tk }) (n := "range_iterator") st' rfl rfl ⋯ ⟨.int (lo+i),H,I1,⟨t,?_⟩,⟨rfl,rfl⟩,st',λb hb=>(hf b hb).1⟩⟩
  rw [Int.mul_one]
 done:=by
  intro X hP hw hK hc i pins s σ H E I hf st hg
  subst hP hw hK
  obtain ⟨f0,f1,f2,f3,f4,f5⟩:=hf it (by simp)
  exact wpAny_pyNext_range_end (I.ok.hd hc) st (by have:n≤i:=hg;lia) λh' eb=>⟨rfl,I.turned (t':=s.toks) (λb o hb e=>eb b o hb e) f0 f1 f3 f4 f5⟩
 self:=λ_ _ _ _ _ st h=>wpAny_pyIter_rangeiter st h
section
variable {X:Cx}{tg:Expr}
def iList (K:Aa)(tl:TE):TI:=λσ H R=>tl σ H λx H1=>∃a,x=.ref a∧(∃xs,SqL K H1 a xs)∧R (Itl K a) H1
theorem ur {l:Expr}{tl:TE}(hl:PE X l tl):PI X tg l (iList X.K tl):=by
 intro pins s σ H R I h
 refine thn (hl pins s σ H _ I h) λv s1 ⟨x,H1,I1,r1,q1⟩=>?_
 obtain ⟨a,e,⟨xs,hq⟩,q⟩:=q1
 subst e
 cases r1
 obtain ⟨its,rv,p,hz⟩:=I1.list hq
 refine fh p.isList ?_
 refine ⟨s1.heap.objs.size,[s1.heap.objs.size],_,_,H1,rfl,I1.kept (t':=s1.toks) λb o e=>ag _ e,wvf a _,⟨_,aw _ rfl,rfl,rfl⟩,λb hb=>?_,q⟩
 have e:b=s1.heap.objs.size:=by simpa using hb
 subst e
 exact I1.fpOk (al _) (I1.hok.fresh (al _))
theorem xqh {pins:List (Aj×Obj)}{σ:St}{H:Hp}{s:Ab}{R:It→Hp→Prop}{E:Ag→Ab→Prop}{lo hi:Int}{t u v:Tok}{tk:Nat}(I:Inv X pins σ H s)(h1:-(2 ^ 62)≤lo)(h2:lo<2 ^ 62)(h3:-(2 ^ 62)≤hi)(h4:hi<2 ^ 62)
  (q:R (Itr lo (hi-lo).toNat) H):wpAny (model X.prog X.w) X.A (pyIter (.ref s.heap.objs.size)) (PIE X pins σ tg R) E { s with heap:=s.heap.push { cls:=.type "range",data:=.fields #[.int lo t,.int hi u,.int 1 v] },toks:=tk }:=by
 refine wpAny_pyIter_range (IsRange.new ..) (small_one h1 h2 h3 h4) ?_
 have I1:Inv X pins σ H { s with heap:=s.heap.push { cls:=.type "range",data:=.fields #[.int lo t,.int hi u,.int 1 v] },toks:=tk }:=I.kept λb o e=>ag _ e
 refine ⟨(s.heap.push { cls:=.type "range",data:=.fields #[.int lo t,.int hi u,.int 1 v] }).objs.size,[(s.heap.push { cls:=.type "range",data:=.fields #[.int lo t,.int hi u,.int 1 v] }).objs.size],_,_,H,rfl,
  I1.kept (t':=tk) λb o e=>ag _ e,ww8 _ lo (hi-lo).toNat,?_,λb hb=>?_,q⟩
 ·have e1:lo+((0:Nat):Int)*1=lo:=by simp
  have e2:(((hi-lo).toNat:Nat):Int)-((0:Nat):Int)=Builtin.Range.rangeSize lo hi 1:=by rw [rangeSize_one];split <;> lia
  show IsRangeIter _ _ (lo+((0:Nat):Int)*1) ((((hi-lo).toNat:Nat):Int)-((0:Nat):Int)) 1
  rw [e1,e2]
  exact aw _ rfl
 ·have e:b=(s.heap.push { cls:=.type "range",data:=.fields #[.int lo t,.int hi u,.int 1 v] }).objs.size:=by simpa using hb
  subst e
  exact I1.fpOk (al _) (I1.hok.fresh (al _))
def iRng1 (ta:TA):TI:=λσ H R=>ta σ H λvs H1=>∃j:Int,vs=[.int j]∧-(2 ^ 62)≤j∧j<2 ^ 62∧R (Itr 0 j.toNat) H1
theorem uy {a:Expr}{ta:TA}{p pos:Pos}(hg:Gl X "range")(hm:X.mg "range" = none)(ha:PA X [a] ta)(hs:autoParam (starEach [a] X.env=[(false,eval a X.env)]) aU4._auto_1):PI X tg (.Call (.Name "range" p) [a] [] pos) (iRng1 ta):=by
 intro pins s σ H R I h
 refine Call_ (qwk I hg hm boot_range (di (thn (ha pos pins s σ H _ I h) λus s1 ⟨vs,H1,I1,r1,q1⟩=>?_) hs rfl))
 obtain ⟨j,e,q1,q2,q⟩:=q1
 subst e
 cases r1 with
 |cons r rr =>
  cases rr
  obtain ⟨t,rfl⟩:=r
  exact call_range_1 (xqh I1 ⋯ ⋯ q1 q2 (by simpa using q))
def tFor (wi:TI)(g:TG)(tb:TS):TS:=λD σ H=>wi σ H λJ H1=>∃W:Nat→Nat→St→Hp→Prop,(∃m,W 0 m σ H1)∧∀i m σ H,W i m σ H →
 (J.stop i H∧D.nx σ H)∨(J.go i H∧∃N:St→Hp→Prop,(∀σ' H',N σ' H'→∃m',m'<m∧W (i+1) m' σ' H')∧∀x H',J.yld i H x H'→g x σ H' λσ2 H2=>tb { D with nx:=N,ct:=N,bk:=D.nx } σ2 H2)
def qj9 (fp:List Aj)(h:Heap):List (Aj×Obj):=fp.filterMap λb=>(h.get? b).map λo=>(b,o)
theorem yd {fp:List Aj}{h:Heap}{b:Aj}{o:Obj}(hb:b∈fp)(e:h.get? b=some o):(b,o)∈qj9 fp h:=eX.mpr ⟨b,hb,by rw [e];rfl⟩
theorem wvp {fp:List Aj}{h:Heap}{p:Aj×Obj}(hp:p∈qj9 fp h):p.1∈fp∧h.get? p.1=some p.2:=by
 obtain ⟨b,hb,e⟩:=eX.mp hp
 cases q:h.get? b with
 |none=>rw [q] at e;cases e
 |some o =>
  rw [q] at e
  have e':(b,o)=p:=av e
  subst e'
  exact ⟨hb,q⟩
theorem Inv.pinned {pins:List (Aj×Obj)}{σ:St}{H:Hp}{s:Ab}{fp:List Aj}(I:Inv X pins σ H s)(hf:∀b∈fp,uq X pins H b)(ho:∀b∈fp,∃o,s.heap.get? b=some o∧∀v,o.data≠.cell v):Inv X (pins++qj9 fp s.heap) σ H s :=
 I.pins_of λp hp=>(bi.mp hp).elim (λz=>I.pin p (aA _ z)) λz=>by
  obtain ⟨hb,e⟩:=wvp z
  obtain ⟨f0,f1,f2,_⟩:=hf p.1 hb
  obtain ⟨o,e',d⟩:=ho p.1 hb
  rw [e] at e';cases e'
  exact ⟨e,f0,f1,f2,d⟩
theorem Inv.unpinned {pins pl:List (Aj×Obj)}{σ:St}{H:Hp}{s:Ab}(I:Inv X (pins++pl) σ H s):Inv X pins σ H s:=I.pins_of λp hp=>I.pin p (aA _ (cw _ hp))
theorem yb {iter:Expr}{body:List Stmt}{wi:TI}{g:TG}{tb:TS}{pos:Pos}(hp:PassesOwn (model X.prog X.w) X.A X.env X.xe)(hc:X.calm=true)(hi:PI X tg iter wi)(hg:PG X tg g)(hb:PSs X body tb)
  (hs:autoParam (∀x,foldedSetIterable iter X.env x=pure x) aU3._auto_1):PS X (.For tg iter body [] pos) (tFor wi g tb):=by
 intro pins s σ H D I h
 refine wpAny_For (thn (hi pins s σ H _ I h) λv s1 h1=>thn h1 λitv s2 h2=>?_) hs
 obtain ⟨it,fp,tn,J,H2,e,I2,T,st2,f2,W,⟨m0,w0⟩,turn⟩:=h2
 subst e
 have stat:∀ {H':Hp},(∀b∈fp,H' b=none)→∀b∈fp,uq X pins H' b:=λhn b hb=>⟨hn b hb,(f2 b hb).2⟩
 refine codeAny_forLoop_any (λn s'=>∃i σ' H',Inv X pins σ' H' s'∧tn i s'.heap∧(∀b∈fp,H' b=none)∧W i n σ' H') ?_ m0 ⟨0,σ,H2,I2,st2,λb hb=>(f2 b hb).1,w0⟩
 rintro n s3 ⟨i,σ3,H3,I3,st3,fr3,w3⟩
 rcases turn i n σ3 H3 w3 with ⟨stop,qn⟩|⟨go,N,hN,step⟩
 ·refine cN hp (thn (T.done X rfl rfl rfl hc i pins s3 σ3 H3 X.xe I3 (stat fr3) st3 stop) λr s4 ⟨hr,I4⟩=>?_)
  subst hr
  exact dG ⟨σ3,H3,I4,qn⟩
 ·refine cN hp (thn (T.item X rfl rfl rfl hc i pins s3 σ3 H3 X.xe I3 (stat fr3) st3 go) λr s4 ⟨u,hr,h4⟩=>?_)
  subst hr
  refine cN hp (thn h4 λ_ s5 ⟨x,H5,I5,r5,y5,st5,fr5⟩=>?_)
  have I5':=I5.pinned (stat fr5) (T.obj _ _ st5)
  refine cN hp (thn (hg _ s5 σ3 H5 x u _ I5' r5 (step x H5 y5)) λ_ s6 ⟨σ6,H6,I6,q6⟩=>?_)
  refine cN hp (thn (hb _ s6 σ6 H6 _ I6 q6) λf s7 q7=>?_)
  have again:∀ {σ7:St} {H7:Hp},Inv X (pins++qj9 fp s5.heap) σ7 H7 s7→N σ7 H7→∃m,m<n∧∃i σ' H',Inv X pins σ' H' s7∧tn i s7.heap∧(∀b∈fp,H' b=none)∧W i m σ' H':=λ{σ7 H7} I7 n7=>by
   obtain ⟨m',hm,w7⟩:=hN σ7 H7 n7
   refine ⟨m',hm,i+1,σ7,H7,I7.unpinned,T.keep _ _ _ st5 λb hb o e=>(I7.pin (b,o) (aA _ (aA _ (yd hb e)))).1,λb hb=>?_,w7⟩
   obtain ⟨o,e,d⟩:=T.obj _ _ st5 b hb
   exact (I7.pin (b,o) (aA _ (aA _ (yd hb e)))).2.1
  cases f with
  |next=>obtain ⟨σ7,H7,I7,n7⟩:=q7;exact again I7 n7
  |cont=>obtain ⟨σ7,H7,I7,n7⟩:=q7;exact again I7 n7
  |brk=>obtain ⟨σ7,H7,I7,q7⟩:=q7;exact ⟨σ7,H7,I7.unpinned,q7⟩
  |ret v=>obtain ⟨x7,σ7,H7,I7,r7,q7⟩:=q7;exact ⟨x7,σ7,H7,I7.unpinned,r7,q7⟩
end
theorem wqx {K:Aa}{a:Aj}{xs:List V}{g:TG}{tb:TS}{D:Ends}{σ:St}{H:Hp}(Pv:Nat→St→Hp→Prop)(h0:Pv 0 σ H)(hl:∀i σ H,i≤xs.length→Pv i σ H→SqL K H a xs)
  (hs:∀i x σ H,xs[i]?=some x→Pv i σ H→g x σ H λσ2 H2=>tb { D with nx:=Pv (i+1),ct:=Pv (i+1),bk:=D.nx } σ2 H2) (hd:∀σ H,Pv xs.length σ H→D.nx σ H) :
  ∃W:Nat→Nat→St→Hp→Prop,(∃m,W 0 m σ H)∧∀i m σ H,W i m σ H →
   ((Itl K a).stop i H∧D.nx σ H)∨((Itl K a).go i H∧∃N:St→Hp→Prop,(∀σ' H',N σ' H'→∃m',m'<m∧W (i+1) m' σ' H')∧∀x H',(Itl K a).yld i H x H'→g x σ H' λσ2 H2=>tb { D with nx:=N,ct:=N,bk:=D.nx } σ2 H2):=by
 refine ⟨λi m σ H=>m=xs.length-i∧i≤xs.length∧Pv i σ H,⟨xs.length,by simp,aD _,h0⟩,?_⟩
 rintro i m σ H ⟨rfl,hi,p⟩
 have q:=hl i σ H hi p
 by_cases hlt:i<xs.length
 ·refine .inr ⟨⟨xs,xs[i],q,by simp [hlt]⟩,Pv (i+1),λσ' H' p'=>⟨xs.length-(i+1),⋯,rfl,hlt,p'⟩,λx H' y=>?_⟩
  obtain ⟨e,y⟩:=y
  subst e
  exact hs i x σ _ (y xs q) p
 ·have e:i=xs.length:=by lia
  subst e
  exact .inl ⟨⟨xs,q,al _⟩,hd σ H p⟩
theorem Ws {lo:Int}{n:Nat}{g:TG}{tb:TS}{D:Ends}{σ:St}{H:Hp}(Pv:Nat→St→Hp→Prop)(h0:Pv 0 σ H)
  (hs:∀i σ H,i<n→Pv i σ H→g (.int (lo+i)) σ H λσ2 H2=>tb { D with nx:=Pv (i+1),ct:=Pv (i+1),bk:=D.nx } σ2 H2) (hd:∀σ H,Pv n σ H→D.nx σ H) :
  ∃W:Nat→Nat→St→Hp→Prop,(∃m,W 0 m σ H)∧∀i m σ H,W i m σ H →
   ((Itr lo n).stop i H∧D.nx σ H)∨((Itr lo n).go i H∧∃N:St→Hp→Prop,(∀σ' H',N σ' H'→∃m',m'<m∧W (i+1) m' σ' H')∧∀x H',(Itr lo n).yld i H x H'→g x σ H' λσ2 H2=>tb { D with nx:=N,ct:=N,bk:=D.nx } σ2 H2):=by
 refine ⟨λi m σ H=>m=n-i∧i≤n∧Pv i σ H,⟨n,by simp,aD _,h0⟩,?_⟩
 rintro i m σ H ⟨rfl,hi,p⟩
 by_cases hlt:i<n
 ·refine .inr ⟨hlt,Pv (i+1),λσ' H' p'=>⟨n-(i+1),⋯,rfl,hlt,p'⟩,λx H' y=>?_⟩
  obtain ⟨e,y⟩:=y
  subst e y
  exact hs i σ _ hlt p
 ·have e:i=n:=by lia
  subst e
  exact .inl ⟨al _,hd σ H p⟩
theorem qwu {c:TT}{tb:TS}{D:Ends}{σ:St}{H:Hp}(Pv:St→Hp→Prop)(μ:St→Hp→Nat)(h0:Pv σ H)
  (hs:∀σ H,Pv σ H→c σ H λb H1=>if b=true then tb { D with nx:=λσ' H'=>Pv σ' H'∧μ σ' H'<μ σ H,ct:=λσ' H'=>Pv σ' H'∧μ σ' H'<μ σ H,bk:=D.nx } σ H1 else D.nx σ H1)
  (mono:∀σ H Q Q',(∀b H1,Q b H1→Q' b H1)→c σ H Q→c σ H Q'):ww4 c tb D σ H:=by
 refine ⟨λm σ H=>m=μ σ H∧Pv σ H,⟨_,rfl,h0⟩,?_⟩
 rintro m σ H ⟨rfl,p⟩
 refine mono σ H _ _ (λb H1 q=>?_) (hs σ H p)
 cases b with
 |true=>exact ⟨_,λσ' H' ⟨p',l⟩=>⟨_,l,rfl,p'⟩,q⟩
 |false=>exact q
abbrev R2:=V→V→Hp→VK→Prop
def OpR (X:Cx)(f:Ag→Ag→Sem Ag)(r:R2):Prop :=
 ∀(pins:List (Aj×Obj)) (s:Ab) (σ:St) (H:Hp) (x y:V) (v u:Ag) (Q:VK),Inv X pins σ H s→RelV x v→RelV y u→r x y H Q →
  wpAny (model X.prog X.w) X.A (f v u) (EP X pins σ Q) X.xe s
def UnR (X:Cx)(f:Ag→Sem Ag)(r:V→Hp→VK→Prop):Prop :=
 ∀(pins:List (Aj×Obj)) (s:Ab) (σ:St) (H:Hp) (x:V) (v:Ag) (Q:VK),Inv X pins σ H s→RelV x v→r x H Q →
  wpAny (model X.prog X.w) X.A (f v) (EP X pins σ Q) X.xe s
def j4 (X:Cx)(f:Ag)(r:List V→Hp→VK→Prop):Prop :=
 ∀(pins:List (Aj×Obj)) (s:Ab) (σ:St) (H:Hp) (xs:List V) (us:List Ag) (Q:VK),Inv X pins σ H s→Vals xs us→r xs H Q →
  wpAny (model X.prog X.w) X.A (call f us) (EP X pins σ Q) X.xe s
def tOp (r:R2)(ta tb:TE):TE:=λσ H Q=>ta σ H λx H1=>tb σ H1 λy H2=>r x y H2 Q
def tUn (r:V→Hp→VK→Prop)(ta:TE):TE:=λσ H Q=>ta σ H λx H1=>r x H1 Q
def rI (C:Int→Int→Prop)(g:Int→Int→V):R2:=λx y H Q=>∃i j,x=.int i∧y=.int j∧C i j∧Q (g i j) H
def rI0 (g:Int→Int→V):R2:=λx y H Q=>∃i j,x=.int i∧y=.int j∧Q (g i j) H
def rU (g:Int→V):V→Hp→VK→Prop:=λx H Q=>∃i,x=.int i∧Q (g i) H
section
variable {X:Cx}{a b c:Expr}{ta tb tc:TE}{pos:Pos}
theorem binT (ha:PE X a ta)(hb:PE X b tb){pins:List (Aj×Obj)}{s:Ab}{σ:St}{H:Hp}{R:V→V→Hp→Prop}(I:Inv X pins σ H s)
  (h:ta σ H λx H1=>tb σ H1 λy H2=>R x y H2) {Q:Ag→Ab→Prop} {f:Ag→Ag→Sem Ag}
  (hf:∀v u s2 x y H2,Inv X pins σ H2 s2→RelV x v→RelV y u→R x y H2→wpAny (model X.prog X.w) X.A (f v u) Q X.xe s2) :
  wpAny (model X.prog X.w) X.A (eval a X.env) (λv s₁=>wpAny (model X.prog X.w) X.A (eval b X.env) (λu s₂=>wpAny (model X.prog X.w) X.A (f v u) Q X.xe s₂) X.xe s₁) X.xe s:=by
 refine thn (ha pins s σ H _ I h) λv s1 ⟨x,H1,I1,r1,q1⟩=>?_
 refine thn (hb pins s1 σ H1 _ I1 q1) λu s2 ⟨y,H2,I2,r2,q2⟩=>?_
 exact hf v u s2 x y H2 I2 r1 r2 q2
theorem xk {op:Operator}{r:R2}(ho:OpR X (binaryOp op) r)(ha:PE X a ta)(hb:PE X b tb):PE X (.BinOp a op b pos) (tOp r ta tb):=by
 intro pins s σ H Q I h
 exact wpAny_BinOp (binT ha hb I h λv u s2 x y H2 I2 rx ry q=>ho pins s2 σ H2 x y v u Q I2 rx ry q)
theorem qu5 {op:UnaryOp}{r:V→Hp→VK→Prop}(ho:UnR X (unaryOp op) r)(ha:PE X a ta):PE X (.UnaryOp op a pos) (tUn r ta):=by
 intro pins s σ H Q I h
 exact UnaryOp_ (thn (ha pins s σ H _ I h) λv s1 ⟨x,H1,I1,r1,q1⟩=>ho pins s1 σ H1 x v Q I1 r1 q1)
theorem opI {f:Ag→Ag→Sem Ag}{C:Int→Int→Prop}{g:Int→Int→Int}
  (rule:∀(i j:Int) (t u:Tok) (s:Ab) (Q:Ag→Ab→Prop) (E:Ag→Ab→Prop),C i j→Q (.int (g i j) s.toks) { s with toks:=s.toks+1 }→wpAny (model X.prog X.w) X.A (f (.int i t) (.int j u)) Q E s) :
  OpR X f (rI C λi j=>.int (g i j)):=by
 intro pins s σ H x y v u Q I rx ry h
 obtain ⟨i,j,rfl,rfl,hc,q⟩:=h
 obtain ⟨t,rfl⟩:=rx
 obtain ⟨t',rfl⟩:=ry
 exact rule i j t t' s _ _ hc ⟨.int (g i j),H,I.tok _,⟨_,rfl⟩,q⟩
theorem opI0 {f:Ag→Ag→Sem Ag}{g:Int→Int→Int}
  (rule:∀(i j:Int) (t u:Tok) (s:Ab) (Q:Ag→Ab→Prop) (E:Ag→Ab→Prop),Q (.int (g i j) s.toks) { s with toks:=s.toks+1 }→wpAny (model X.prog X.w) X.A (f (.int i t) (.int j u)) Q E s) :
  OpR X f (rI0 λi j=>.int (g i j)):=by
 intro pins s σ H x y v u Q I rx ry h
 obtain ⟨i,j,rfl,rfl,q⟩:=h
 obtain ⟨t,rfl⟩:=rx
 obtain ⟨t',rfl⟩:=ry
 exact rule i j t t' s _ _ ⟨.int (g i j),H,I.tok _,⟨_,rfl⟩,q⟩
theorem opB0 {f:Ag→Ag→Sem Ag}{g:Int→Int→Bool}
  (rule:∀(i j:Int) (t u:Tok) (s:Ab) (Q:Ag→Ab→Prop) (E:Ag→Ab→Prop),Q (.bool (g i j)) s→wpAny (model X.prog X.w) X.A (f (.int i t) (.int j u)) Q E s) :
  OpR X f (rI0 λi j=>.bl (g i j)):=by
 intro pins s σ H x y v u Q I rx ry h
 obtain ⟨i,j,rfl,rfl,q⟩:=h
 obtain ⟨t,rfl⟩:=rx
 obtain ⟨t',rfl⟩:=ry
 exact rule i j t t' s _ _ ⟨.bl (g i j),H,I,rfl,q⟩
def CPow (i j:Int):Prop:=0≤j∧j≤1000000∧i.natAbs<2 ^ 64
theorem zu:OpR X (binaryOp .Add) (rI0 λi j=>.int (i+j)):=opI0 λ_ _ _ _ _ _ _ q=>add_int q
theorem k6:OpR X (binaryOp .Sub) (rI0 λi j=>.int (i-j)):=opI0 λ_ _ _ _ _ _ _ q=>sub_int q
theorem j5:OpR X (binaryOp .Mod) (rI (λ_ j=>0<j) λi j=>.int (i%j)):=opI λi j _ _ _ _ _ hc q=>by
 have h1:(0:Int)<j:=hc
 exact mod_int' ⋯ (by rw [Int.fmod_eq_emod_of_nonneg i ⋯];exact q)
theorem qx2:OpR X (binaryOp .Pow) (rI CPow λi j=>.int (i ^ j.toNat)):=opI λ_ _ _ _ _ _ _ hc q=>pow_int_small hc.1 hc.2.1 hc.2.2 q
theorem unI {f:Ag→Sem Ag}{g:Int→Int}
  (rule:∀(i:Int) (t:Tok) (s:Ab) (Q:Ag→Ab→Prop) (E:Ag→Ab→Prop),Q (.int (g i) s.toks) { s with toks:=s.toks+1 }→wpAny (model X.prog X.w) X.A (f (.int i t)) Q E s) :
  UnR X f (rU λi=>.int (g i)):=by
 intro pins s σ H x v Q I rx h
 obtain ⟨i,rfl,q⟩:=h
 obtain ⟨t,rfl⟩:=rx
 exact rule i t s _ _ ⟨.int (g i),H,I.tok _,⟨_,rfl⟩,q⟩
theorem qx4:UnR X (unaryOp .USub) (rU λi=>.int (-i)):=unI λ_ _ _ _ _ q=>neg_int q
end
def scal:V→V→Bool
 |.non,.non=>true|.non,.int _=>true|.int _,.non=>true|.non,.bl _=>true|.bl _,.non=>true|.non,.str _=>true|.str _,.non=>true
 |.int _,.int _=>true|.bl _,.bl _=>true|.str _,.str _=>true|.byt _,.byt _=>true
 |.int _,.str _=>true|.str _,.int _=>true|.bl _,.str _=>true|.str _,.bl _=>true
 |_,_=>false
def rEq:R2:=λx y H Q=>scal x y=true∧Q (.bl (decide (x=y))) H
def rNe:R2:=λx y H Q=>scal x y=true∧Q (.bl (!decide (x=y))) H
theorem wx7 {i j:Int}:decide (V.int i=V.int j)=(i==j):=by
 rw [cO]
 simp
theorem wjg {i j:Bool}:decide (V.bl i=V.bl j)=(i==j):=by
 rw [cO]
 simp
theorem wx9 {i j:Str}:decide (V.str i=V.str j)=(i==j):=by
 rw [cO]
 simp
theorem wz9 {i j:Array UInt8}:decide (V.byt i=V.byt j)=(i.toList==j.toList):=by
 rw [cO]
 cases i
 cases j
 simp
section
variable {X:Cx}{a b c:Expr}{ta tb tc:TE}{pos:Pos}
theorem zg {pins:List (Aj×Obj)}{σ:St}{H:Hp}{s:Ab}{Q:VK}{k k':Bool}(I:Inv X pins σ H s)(q:Q (.bl k) H)(e:k=k'):EP X pins σ Q (.bool k') s:=by
 subst e
 exact ⟨.bl k,H,I,rfl,q⟩
theorem zf:OpR X (compareOp .Eq) rEq:=by
 intro pins s σ H x y v u Q I rx ry h
 obtain ⟨hs,q⟩:=h
 cases x with
 |non =>
  cases rx
  cases y with
  |non=>cases ry;exact PySem.EqNone.eq_none_none (zg I q (by simp))
  |bl j=>cases ry;exact PySem.EqNone.eq_none_bool (zg I q (by simp))
  |int j=>obtain ⟨t',rfl⟩:=ry;exact PySem.EqNone.eq_none_int (zg I q (by simp))
  |str j=>obtain ⟨t',rfl⟩:=ry;exact PySem.EqNone.eq_none_str (zg I q (by simp))
  |_=>exact absurd (show false=true from hs) aI
 |bl i =>
  cases rx
  cases y with
  |non=>cases ry;exact PySem.EqNone.eq_bool_none (zg I q (by simp))
  |bl j=>cases ry;exact eq_bool (zg I q wjg)
  |str j=>obtain ⟨t',rfl⟩:=ry;exact PySem.EqMixed.eq_bool_str (zg I q (by simp))
  |_=>exact absurd (show false=true from hs) aI
 |int i =>
  obtain ⟨t,rfl⟩:=rx
  cases y with
  |non=>cases ry;exact PySem.EqNone.eq_int_none (zg I q (by simp))
  |int j=>obtain ⟨t',rfl⟩:=ry;exact eq_int (zg I q wx7)
  |str j=>obtain ⟨t',rfl⟩:=ry;exact PySem.EqMixed.eq_int_str (zg I q (by simp))
  |_=>exact absurd (show false=true from hs) aI
 |str i =>
  obtain ⟨t,rfl⟩:=rx
  cases y with
  |non=>cases ry;exact PySem.EqNone.eq_str_none (zg I q (by simp))
  |bl j=>cases ry;exact PySem.EqMixed.eq_str_bool (zg I q (by simp))
  |int j=>obtain ⟨t',rfl⟩:=ry;exact PySem.EqMixed.eq_str_int (zg I q (by simp))
  |str j=>obtain ⟨t',rfl⟩:=ry;exact eq_str (zg I q wx9)
  |_=>exact absurd (show false=true from hs) aI
 |byt i =>
  obtain ⟨t,rfl⟩:=rx
  cases y with
  |byt j=>obtain ⟨t',rfl⟩:=ry;exact W.eq_bytes (zg I q wz9)
  |_=>exact absurd (show false=true from hs) aI
 |_=>cases y <;> exact absurd (show false=true from hs) aI
theorem Zw:OpR X (compareOp .NotEq) rNe:=by
 intro pins s σ H x y v u Q I rx ry h
 obtain ⟨hs,q⟩:=h
 cases x with
 |non =>
  cases rx
  cases y with
  |non=>cases ry;exact PySem.EqNone.ne_none_none (zg I q (by simp))
  |bl j=>cases ry;exact PySem.EqNone.ne_none_bool (zg I q (by simp))
  |int j=>obtain ⟨t',rfl⟩:=ry;exact PySem.EqNone.ne_none_int (zg I q (by simp))
  |str j=>obtain ⟨t',rfl⟩:=ry;exact PySem.EqNone.ne_none_str (zg I q (by simp))
  |_=>exact absurd (show false=true from hs) aI
 |bl i =>
  cases rx
  cases y with
  |non=>cases ry;exact PySem.EqNone.ne_bool_none (zg I q (by simp))
  |bl j=>cases ry;exact ne_bool (zg I q (bC not wjg))
  |str j=>obtain ⟨t',rfl⟩:=ry;exact PySem.EqMixed.ne_bool_str (zg I q (by simp))
  |_=>exact absurd (show false=true from hs) aI
 |int i =>
  obtain ⟨t,rfl⟩:=rx
  cases y with
  |non=>cases ry;exact PySem.EqNone.ne_int_none (zg I q (by simp))
  |int j=>obtain ⟨t',rfl⟩:=ry;exact ne_int (zg I q (bC not wx7))
  |str j=>obtain ⟨t',rfl⟩:=ry;exact PySem.EqMixed.ne_int_str (zg I q (by simp))
  |_=>exact absurd (show false=true from hs) aI
 |str i =>
  obtain ⟨t,rfl⟩:=rx
  cases y with
  |non=>cases ry;exact PySem.EqNone.ne_str_none (zg I q (by simp))
  |bl j=>cases ry;exact PySem.EqMixed.ne_str_bool (zg I q (by simp))
  |int j=>obtain ⟨t',rfl⟩:=ry;exact PySem.EqMixed.ne_str_int (zg I q (by simp))
  |str j=>obtain ⟨t',rfl⟩:=ry;exact ne_str (zg I q (bC not wx9))
  |_=>exact absurd (show false=true from hs) aI
 |byt i =>
  obtain ⟨t,rfl⟩:=rx
  cases y with
  |byt j=>obtain ⟨t',rfl⟩:=ry;exact W.ne_bytes (zg I q (bC not wz9))
  |_=>exact absurd (show false=true from hs) aI
 |_=>cases y <;> exact absurd (show false=true from hs) aI
theorem j3:OpR X (compareOp .Lt) (rI0 λi j=>.bl (decide (i<j))):=opB0 λ_ _ _ _ _ _ _ q=>lt_int q
theorem qy3:OpR X (compareOp .LtE) (rI0 λi j=>.bl (decide (i≤j))):=opB0 λ_ _ _ _ _ _ _ q=>le_int q
theorem y4:OpR X (compareOp .Gt) (rI0 λi j=>.bl (decide (j<i))):=opB0 λ_ _ _ _ _ _ _ q=>gt_int q
theorem wqj:OpR X (compareOp .GtE) (rI0 λi j=>.bl (decide (j≤i))):=opB0 λ_ _ _ _ _ _ _ q=>ge_int q
theorem wk0:OpR X (compareOp .In) (λx y H Q=>∃i j,x=.str i∧y=.str j∧Q (.bl (!(Builtin.Str.occurrences j i 0 j.length 1).isEmpty)) H):=by
 intro pins s σ H x y v u Q I rx ry h
 obtain ⟨i,j,rfl,rfl,q⟩:=h
 obtain ⟨t,rfl⟩:=rx
 obtain ⟨t',rfl⟩:=ry
 exact in_str (zg I q rfl)
theorem wwz:OpR X (compareOp .Is) (λx y H Q=>y=.non∧Q (.bl (decide (x=.non))) H):=by
 intro pins s σ H x y v u Q I rx ry h
 obtain ⟨rfl,q⟩:=h
 cases ry
 refine is_none_gen (zg I q ?_)
 cases x <;> first
  |(cases rx;rfl)
  |(obtain ⟨t,rfl⟩:=rx;rfl)
theorem xw8:OpR X (compareOp .IsNot) (λx y H Q=>y=.non∧Q (.bl (!decide (x=.non))) H):=by
 intro pins s σ H x y v u Q I rx ry h
 obtain ⟨rfl,q⟩:=h
 cases ry
 refine isnot_none_gen (zg I q ?_)
 cases x <;> first
  |(cases rx;rfl)
  |(obtain ⟨t,rfl⟩:=rx;rfl)
theorem qjp:OpR X (compareOp .NotIn) (λx y H Q=>∃i j,x=.str i∧y=.str j∧Q (.bl (!(!(Builtin.Str.occurrences j i 0 j.length 1).isEmpty))) H):=by
 intro pins s σ H x y v u Q I rx ry h
 obtain ⟨i,j,rfl,rfl,q⟩:=h
 obtain ⟨t,rfl⟩:=rx
 obtain ⟨t',rfl⟩:=ry
 exact notIn_str (zg I q rfl)
theorem w6 (b:Expr){op:CmpOp}(h:autoParam (op≠.In) aU1._auto_1)(h2:autoParam (op≠.NotIn) aU1._auto_1):behindInMarks op b=false:=by
 have e1:(op==CmpOp.In)=false:=by cases op <;> first | rfl | exact absurd rfl h
 have e2:(op==CmpOp.NotIn)=false:=by cases op <;> first | rfl | exact absurd rfl h2
 cases b <;> simp [behindInMarks,e1,e2]
theorem jg {op:CmpOp}{r:R2}(ho:OpR X (compareOp op) r)(ha:PE X a ta)(hb:PE X b tb)(hm:behindInMarks op b=false):PE X (.Compare a [op] [b] pos) (tOp r ta tb):=by
 intro pins s σ H Q I h
 exact wpAny_Compare1 (binT ha hb I h λv u s2 x y H2 I2 rx ry q=>ho pins s2 σ H2 x y v u Q I2 rx ry q) hm
def tTest (t:TE):TT:=λσ H Q=>t σ H λx H'=>∃k,x=.bl k∧Q k H'
theorem wm {op:CmpOp}{r:R2}(ho:OpR X (compareOp op) r)(ha:PE X a ta)(hb:PE X b tb)(hm:behindInMarks op b=false):PT X (.Compare a [op] [b] pos) (tTest (tOp r ta tb)):=by
 intro pins s σ H Q I h
 refine wpAny_isTrue_Compare1 (thn (ha pins s σ H _ I h) λv s1 ⟨x,H1,I1,r1,q1⟩=>thn (hb pins s1 σ H1 _ I1 q1) λu s2 ⟨y,H2,I2,r2,q2⟩ =>
  thn (ho pins s2 σ H2 x y v u _ I2 r1 r2 q2) λc s3 ⟨z,H3,I3,r3,k,e,q3⟩=>?_) hm
 subst e
 cases r3
 exact cz ⟨H3,I3,q3⟩
theorem Zg:(sizeLine:Nat)<2 ^ 63:=by rw [sizeLine_eq];decide
theorem Q4:OpR X (binaryOp .Add) (λx y H Q=>∃i j,x=.str i∧y=.str j∧i.length+j.length≤sizeLine∧Q (.str (i++j)) H):=by
 intro pins s σ H x y v u Q I rx ry h
 obtain ⟨i,j,rfl,rfl,hz,q⟩:=h
 obtain ⟨t,rfl⟩:=rx
 obtain ⟨t',rfl⟩:=ry
 exact add_str (λt' tk=>⟨.str (i++j),H,I.tok _,⟨_,rfl⟩,q⟩) hz
theorem uh {x:V}{us:List Ag}(r:Vals [x] us):∃u,us=[u]∧RelV x u:=by
 cases r with
 |cons r1 r2=>cases r2;exact ⟨_,rfl,r1⟩
theorem wus {x y:V}{us:List Ag}(r:Vals [x,y] us):∃u w',us=[u,w']∧RelV x u∧RelV y w':=by
 cases r with
 |cons r1 r2 =>
  cases r2 with
  |cons r3 r4=>cases r4;exact ⟨_,_,rfl,r1,r3⟩
theorem Wg:j4 X (.builtin "abs") (λxs H Q=>∃i,xs=[.int i]∧Q (.int (if i<0 then -i else i)) H):=by
 intro pins s σ H xs us Q I r h
 obtain ⟨i,rfl,q⟩:=h
 obtain ⟨u,rfl,t,rfl⟩:=uh r
 exact call_abs_int λu tk=>⟨.int (if i<0 then -i else i),H,I.tok _,⟨_,rfl⟩,q⟩
theorem wvt (hc:X.calm=true):j4 X (.builtin "max") (λxs H Q=>∃i j,xs=[.int i,.int j]∧Q (.int (if j>i then j else i)) H):=by
 intro pins s σ H xs us Q I r h
 obtain ⟨i,j,rfl,q⟩:=h
 obtain ⟨u,w',rfl,⟨t,rfl⟩,⟨t',rfl⟩⟩:=wus r
 refine max_two_ints (I.ok.hd hc) λh' tk k=>⟨_,H,I.kept k,?_,q⟩
 by_cases hj:j>i
 ·rw [ak hj,ak hj];exact ⟨_,rfl⟩
 ·rw [ai hj,ai hj];exact ⟨_,rfl⟩
theorem wkk (hc:X.calm=true):j4 X (.builtin "min") (λxs H Q=>∃i j,xs=[.int i,.int j]∧Q (.int (if j<i then j else i)) H):=by
 intro pins s σ H xs us Q I r h
 obtain ⟨i,j,rfl,q⟩:=h
 obtain ⟨u,w',rfl,⟨t,rfl⟩,⟨t',rfl⟩⟩:=wus r
 refine min_two_ints (I.ok.hd hc) λh' tk k=>⟨_,H,I.kept k,?_,q⟩
 by_cases hj:j<i
 ·rw [ak hj,ak hj];exact ⟨_,rfl⟩
 ·rw [ai hj,ai hj];exact ⟨_,rfl⟩
end
structure ObjM (h:Heap)(x dx C:Aj)(mA:Str→Option Ag):Prop where
 obj:h.get? x=some (W.instObj C dx)
 ns:h.Ns1 dx mA
 ne:dx≠x
theorem wkw {h:Heap}{dx:Aj}{mA:Str→Option Ag}(n:h.Ns1 dx mA):∃od,h.get? dx=some od∧∀name,W.lookIn name od=some (mA name):=by
 obtain ⟨o,es,ep,ho,hd,hk,_,hm⟩:=n
 refine ⟨o,ho,λname=>?_⟩
 have e:=hm name
 unfold nsFind findBy at e
 rw [←Array.find?_toList] at e
 unfold W.lookIn
 rw [hd]
 dsimp only
 split
 ·rename_i y q
  rw [q] at e
  exact bC some e
 ·rename_i q
  rw [q] at e
  have a:es.toList.any (·.refKey)=false:=by
   rw [List.any_eq_false]
   intro y hy
   obtain ⟨z,t,hkey⟩:=hk y (Array.mem_toList_iff.mp hy)
   simp [DictEntry.refKey,hkey]
  have a':¬ es.toList.any (·.refKey)=true:=by rw [a];exact aI
  rw [ai a']
  exact bC some e
theorem ObjM.look {h:Heap}{x dx C:Aj}{mA:Str→Option Ag}(I:ObjM h x dx C mA):∃od,W.InstAt h x (W.instObj C dx) C (some od)∧∀name,W.lookIn name od=some (mA name) :=
 let ⟨od,ho,hl⟩:=wkw I.ns
 ⟨od,⟨I.obj,rfl,rfl,ho⟩,hl⟩
section
variable {prog:Ac}{w:Ah}{A:Ae}{E:Ag→Ab→Prop}{s:Ab}{K:Aa}{x dx C f:Aj}{mA:Str→Option Ag}{name:Str}{v:Ag}
theorem xq0 {expr:Bool}{Q:Ag→Ab→Prop}(X:K.In s.heap)(I:ObjM s.heap x dx C mA)(hg:W.plainGet K C name=true)(hh:W.hasDictIn K C=true)
  (ha:W.findIn K (.ref C) name=some none) (hv:mA name=some v) (hv':W.handedIn v=true) (h:Q v { s with toks:=s.toks+1 }) :
  wpAny (model prog w) A (getAttr (.ref x) name expr) Q E s:=by
 obtain ⟨od,J,hl⟩:=I.look
 exact W.get_value X J (eO hg).1 (W.findObj_own hh ha rfl (by rw [hl,hv])) hv' h
theorem xqw {pl:Sem Bool}{Q:Ag×List Ag→Ab→Prop}(X:K.In s.heap)(I:ObjM s.heap x dx C mA)(hg:W.plainGet K C name=true)
  (hf:W.findIn K (.ref C) name=some (some (.ref f))) (ht:W.isFn K (.ref f)=true) (hv:mA name=none) (h:Q (.ref f,[.ref x]) s) :
  wpAny (model prog w) A (getMethod (.ref x) name pl) Q E s:=by
 obtain ⟨od,J,hl⟩:=I.look
 exact W.method_fn X J (eO hg).1 (eO hg).2 hf (dH.mp ht) (by show (W.lookIn name od).map (·.isSome)=some false;rw [hl,hv];rfl) h
theorem qyf {ns:List Str}{Q:Unit→Ab→Prop}(X:K.In s.heap)(I:ObjM s.heap x dx C mA)
  (hs:W.findIn K (.ref C) "__setattr__" = some (some (.builtin "object.__setattr__"))) (hp:W.plainOver K C=true) (ht:W.takerIn K C name=some none) (hh:W.hasDictIn K C=true)
  (hw:PySem.Within mA ns) (hsz:ns.length≤sizeLine)
  (h:∀h',ObjM h' x dx C (λy=>if y=name then some v else mA y)→Heap.SameBut dx s.heap h'→Q () { s with heap:=h',toks:=s.toks+2 }) :
  wpAny (model prog w) A (setAttr (.ref x) name v) Q E s:=by
 obtain ⟨od,J,hl⟩:=I.look
 refine W.set_plain X J hs (W.osa_open (s:={ s with toks:=s.toks+1 }) (r:=none) X J hp ht λb=>?_)
 obtain ⟨cd,hc,hd'⟩:=W.any_some hh
 have hx:s.heap.get? x=some ⟨.ref C,some dx,.plain,#[]⟩:=I.obj
 refine ac (ao (ac (ac (wpAny_loadPart hx (ac (W.Looks.here (s:={ s with toks:=s.toks+1 }) (W.looks_clsIn X hc) ?_))))))
 rw [hd']
 refine ao (a:=some dx) (ac (ao (ac ?_)))
 refine wpAny_nsSet1 (s:={ s with toks:=s.toks+1 }) I.ns λh' hn2 hs2=>?_
 obtain ⟨oD,esD,epD,hoD,hdD,hcD⟩:=hn2.count (PySem.Within.cons name v hw)
 refine ac (wpAny_lookBehind hoD (by rw [hdD];exact pastItsLine_dict (bD hcD (by rw [aO];lia))) ?_)
 exact ao (h _ ⟨(hs2.2 _ (aV I.ne)).trans I.obj,hn2,I.ne⟩ hs2)
theorem wjc {R:Result→Ab→Prop}{vs:List Ag}{kw:List (Str×Ag)}(X:K.In s.heap)(hm:W.makesIn K C=true)
  (hi:W.findIn K (.ref C) "__init__" = some (some (.ref f))) (hf:W.typeIn K (.ref f)=some (.type "function"))
  (h:codeAny (model prog w) (A.under (.builtin "type.__call__" ⟨.ref C::vs,kw⟩)) (.call (.ref f) ⟨.ref (s.heap.objs.size+1)::vs,kw⟩) (W.InitBack (s.heap.objs.size+1) R)
   { s with heap:=(s.heap.push W.emptyDict).push (W.instObj C s.heap.objs.size) }) :
  codeAny (model prog w) A (.call (.ref C) ⟨vs,kw⟩) R s:=by
 obtain ⟨hh,g,d,t,os⟩:=s
 exact W.make_core (W.makes_of X hm) (W.looks_findIn X hi) (λself=>W.bind_fn X self hf) (.inl rfl) h
end
def ju (f:Str)(v:V):List (Str×V)→List (Str×V)
 |[]=>[(f,v)]
 |(g,x)::r=>if g=f then (g,v)::r else (g,x)::ju f v r
theorem Jj (f g:Str)(v:V):∀fs:List (Str×V),(ju f v fs).lookup g=if g=f then some v else fs.lookup g
 |[]=>by
  show List.lookup g [(f,v)]=_
  by_cases h:g=f
  ·have hb:(g==f)=true:=dH.mpr h
   simp only [List.lookup,hb,ak h]
  ·have hb:(g==f)=false:=aU.mpr h
   simp only [List.lookup,hb,ai h]
 |(k,x)::r=>by
  have ih:=Jj f g v r
  rw [show ju f v ((k,x)::r)=(if k=f then (k,v)::r else (k,x)::ju f v r) from rfl]
  by_cases hk:k=f
  ·rw [ak hk]
   by_cases h:g=k
   ·have hb:(g==k)=true:=dH.mpr h
    simp only [List.lookup,hb,ak (h.trans hk)]
   ·have hb:(g==k)=false:=aU.mpr h
    simp only [List.lookup,hb,ai (λe:g=f=>h (e.trans hk.symm))]
  ·rw [ai hk]
   by_cases h:g=k
   ·have hb:(g==k)=true:=dH.mpr h
    simp only [List.lookup,hb,ai (λe:g=f=>hk (h.symm.trans e))]
   ·have hb:(g==k)=false:=aU.mpr h
    simp only [List.lookup,hb]
    exact ih
theorem Y9 (f:Str)(v:V):∀fs:List (Str×V),f∈(ju f v fs).map (·.1)∧∀g,g∈fs.map (·.1)→g∈(ju f v fs).map (·.1)
 |[]=>⟨by simp [ju],λg h=>by simp at h⟩
 |(k,x)::r=>by
  obtain ⟨i1,i2⟩:=Y9 f v r
  rw [show ju f v ((k,x)::r)=(if k=f then (k,v)::r else (k,x)::ju f v r) from rfl]
  by_cases hk:k=f
  ·rw [ak hk]
   subst hk
   exact ⟨by simp,λg h=>by simpa using h⟩
  ·rw [ai hk]
   refine ⟨?_,λg h=>?_⟩
   ·rw [aC]
    exact au _ i1
   ·rw [aC] at h ⊢
    rcases ae.mp h with e|e
    ·exact ae.mpr (.inl e)
    ·exact au _ (i2 g e)
theorem Jy (f:Str)(v:V):∀fs:List (Str×V),(ju f v fs).length≤fs.length+1
 |[]=>by simp [ju]
 |(k,x)::r=>by
  have ih:=Jy f v r
  rw [show ju f v ((k,x)::r)=(if k=f then (k,v)::r else (k,x)::ju f v r) from rfl]
  by_cases hk:k=f
  ·rw [ak hk,aO,aO];lia
  ·rw [ai hk,aO,aO];lia
theorem RelO.some_of {v:V}{o:Option Ag}(r:RelO (some v) o):∃u,o=some u∧RelV v u:=by
 cases o with
 |none=>exact (show False from r).elim
 |some u=>exact ⟨u,rfl,r⟩
theorem RelO.none_of {o:Option Ag}(r:RelO none o):o=none:=by
 cases o with
 |none=>rfl
 |some u=>exact (show False from r).elim
theorem wvu {v:V}{u:Ag}(r:RelV v u):W.handedIn u=true:=by
 cases v with
 |non=>cases (show u=Value.none from r);rfl
 |bl b=>cases (show u=Value.bool b from r);rfl
 |int i=>obtain ⟨t,e⟩:=(show ∃t,u=Value.int i t from r);cases e;rfl
 |str x=>obtain ⟨t,e⟩:=(show ∃t,u=Value.str x t from r);cases e;rfl
 |byt b=>obtain ⟨t,e⟩:=(show ∃t,u=Value.bytes b t from r);cases e;rfl
 |flt b=>obtain ⟨t,e⟩:=(show ∃t,u=Value.float b t from r);cases e;rfl
 |ref a=>cases (show u=Value.ref a from r);rfl
 |ty n=>cases (show u=Value.type n from r);rfl
section
variable {P:Ac}{w:Ah}{H H':Hp}{h h':Heap}{a C dx:Aj}{fs fs':List (Str×V)}
theorem qq1 (hok:HOk P w H h)(e:H a=some (.ins C dx fs)):∃mA,ObjM h a dx C mA∧(∀f,RelO (fs.lookup f) (mA f))∧PySem.Within mA (fs.map (·.1))∧fs.length≤1000∧H dx=some (.own a):=by
 obtain ⟨d,z,ne,ob,mA,n,r,q⟩:=(show ObjOk P w H h a (.ins C dx fs) from hok a _ e)
 exact ⟨mA,⟨ob,n,ne⟩,r,q,z,d⟩
end
structure Cls (K:Aa)(C:Aj):Prop where
 pg:W.plainGet K C Str.empty=true
 hd:W.hasDictIn K C=true
 po:W.plainOver K C=true
 sa:W.findIn K (.ref C) "__setattr__" = some (some (.builtin "object.__setattr__"))
theorem Cls.get {K:Aa}{C:Aj}(c:Cls K C)(f:Str):W.plainGet K C f=true:=c.pg
def NoAttr (K:Aa)(C:Aj)(f:Str):Prop:=W.findIn K (.ref C) f=some none
theorem NoAttr.taker {K:Aa}{C:Aj}{f:Str}(n:NoAttr K C f):W.takerIn K C f=some none:=by
 unfold W.takerIn
 rw [show W.findIn K (.ref C) f=some none from n]
 rfl
structure Con (K:Aa)(C:Aj)(f:Str)(v:V)(u:Ag):Prop where
 at_:W.findIn K (.ref C) f=some (some u)
 rel:RelV v u
 get:W.specialIn K u "__get__" = some none
 cp:W.copiedNames.contains f=false
structure Meth (K:Aa)(C:Aj)(m:Str)(f:Aj):Prop where
 at_:W.findIn K (.ref C) m=some (some (.ref f))
 fn:W.isFn K (.ref f)=true
 kp:W.keepIn K (.ref f)=true
section
variable {X:Cx}{pins:List (Aj×Obj)}{σ:St}{H:Hp}{s:Ab}{a C dx:Aj}{fs:List (Str×V)}{f:Str}{v:V}{A:Ae}{E:Ag→Ab→Prop}
theorem wws {b:Bool}{Q:Ag→Ab→Prop}(I:Inv X pins σ H s)(e:H a=some (.ins C dx fs))(c:Cls X.K C)(n:NoAttr X.K C f)(l:fs.lookup f=some v)
  (h:∀u s',Inv X pins σ H s'→RelV v u→Q u s'):wpAny (model X.prog X.w) A (getAttr (.ref a) f b) Q E s:=by
 obtain ⟨mA,O,r,_,_,_⟩:=qq1 I.hok e
 obtain ⟨u,hu,ru⟩:=RelO.some_of (v:=v) (o:=mA f) (by rw [←l];exact r f)
 exact xq0 I.kIn O (c.get f) c.hd n hu (wvu ru) (h u _ (I.tok _) ru)
theorem qxt {m:Str}{g:Aj}{pl:Sem Bool}{Q:Ag×List Ag→Ab→Prop}(I:Inv X pins σ H s)(e:H a=some (.ins C dx fs))(c:Cls X.K C)(k:Meth X.K C m g)(l:fs.lookup m=none)
  (h:Q (.ref g,[.ref a]) s):wpAny (model X.prog X.w) A (getMethod (.ref a) m pl) Q E s:=by
 obtain ⟨mA,O,r,_,_,_⟩:=qq1 I.hok e
 have hn:mA m=none:=RelO.none_of (by rw [←l];exact r m)
 exact xqw I.kIn O (c.get m) k.at_ k.fn hn h
theorem wxm {y:V}{u:Ag}{Q:Unit→Ab→Prop}(I:Inv X pins σ H s)(e:H a=some (.ins C dx fs))(c:Cls X.K C)(n:NoAttr X.K C f)(hl:fs.length<1000)(ry:RelV y u)
  (h:∀s',Inv X pins σ (upd H a (.ins C dx (ju f y fs))) s'→Q () s'):wpAny (model X.prog X.w) A (setAttr (.ref a) f u) Q E s:=by
 obtain ⟨mA,O,r,wi,_,ho⟩:=qq1 I.hok e
 have hz:(fs.map (·.1)).length≤sizeLine:=by rw [aa,sizeLine_eq];lia
 refine qyf I.kIn O c.sa c.po n.taker c.hd wi hz λh' O' sb=>h _ ?_
 have hd:∃o,h'.get? dx=some o:=let ⟨o,_,_,e',_⟩:=O'.ns;⟨o,e'⟩
 refine I.write (x:=a) (e:=dx) (by rw [e];exact True.intro) (.inr ho) (λb q hb z=>(sb.2 b hb).trans z) hd ?_
 refine ⟨by rw [wf O.ne];exact ho,?_,O.ne,O'.obj,_,O'.ns,λg=>?_,λg hg=>?_⟩
 ·have:=Jy f y fs;lia
 ·show RelO ((ju f y fs).lookup g) (if g=f then some u else mA g)
  rw [Jj]
  by_cases q:g=f
  ·rw [ak q,ak q];exact ry
  ·rw [ai q,ai q];exact r g
 ·by_cases q:g=f
  ·rw [q];exact (Y9 f y fs).1
  ·refine (Y9 f y fs).2 g (wi g λz=>hg ?_)
   show (if g=f then some u else mA g)=none
   rw [ai q];exact z
theorem Inv.made (I:Inv X pins σ H s):Inv X pins σ (upd (upd H s.heap.objs.size (.own (s.heap.objs.size+1))) (s.heap.objs.size+1) (.ins C s.heap.objs.size []))
  { s with heap:=(s.heap.push W.emptyDict).push (W.instObj C s.heap.objs.size) }:=by
 have e1:(s.heap.push W.emptyDict).get? s.heap.objs.size=some W.emptyDict:=aw s.heap rfl
 have e2:((s.heap.push W.emptyDict).push (W.instObj C s.heap.objs.size)).get? (s.heap.objs.size+1)=some (W.instObj C s.heap.objs.size):=by
  have:=aw (s.heap.push W.emptyDict) (o:=W.instObj C s.heap.objs.size) rfl
  rwa [dO] at this
 have e3:(s.heap.push W.emptyDict).Ns s.heap.objs.size (λ_=>none):=⟨W.emptyDict,#[],_,e1,rfl,(λe he=>absurd he (by simp)),λ_=>rfl⟩
 have I1:=I.laid (a:=s.heap.objs.size) (o:=.own (s.heap.objs.size+1)) (h':=s.heap.push W.emptyDict) (t':=s.toks) (λb u q=>ag _ q) (al _) ⟨_,e1⟩
 refine I1.laid (a:=s.heap.objs.size+1) (o:=.ins C s.heap.objs.size []) (t':=s.toks) (λb u q=>ag _ q) (Nat.le_of_eq (dO _ _)) ?_
 have ne:s.heap.objs.size≠s.heap.objs.size+1:=az (Nat.lt_succ_self _)
 refine ⟨by rw [wf ne,qc],aD _,ne,e2,λ_=>none,(Heap.Ns1.of_empty e3).at λo q=>ag _ q,λ_=>True.intro,λy hy=>absurd rfl hy⟩
theorem xwx {prog:Ac}{w:Ah}{env:Env}{e:Expr}{f:Str}{pos:Pos}{s:Ab}{Q:Ag→Ab→Prop}(hb:attributeBase e f env (eval e env)=eval e env)
  (h:wpAny (model prog w) A (eval e env) (λo s₁=>wpAny (model prog w) A (getAttr o f true) Q E s₁) E s):wpAny (model prog w) A (eval (.Attribute e f pos) env) Q E s :=
 Attribute_any_ h (by rw [arm_eval_Attribute,hb])
end
def tFld (K:Aa)(ta:TE)(f:Str):TE:=λσ H Q=>ta σ H λx H1=>∃a C dx fs v,x=.ref a∧H1 a=some (.ins C dx fs)∧Cls K C∧NoAttr K C f∧fs.lookup f=some v∧Q v H1
def sFld (K:Aa)(ta tv:TE)(f:Str):TS:=λD σ H=>tv σ H λy H1=>ta σ H1 λx H2=>∃a C dx fs,x=.ref a∧H2 a=some (.ins C dx fs)∧Cls K C∧NoAttr K C f∧fs.length<1000 ∧
 D.nx σ (upd H2 a (.ins C dx (ju f y fs)))
section
variable {X:Cx}{o e value:Expr}{f:Str}{pos pos' tpos:Pos}{ta tv:TE}
theorem zh (he:PE X e ta)(hb:attributeBase e f X.env (eval e X.env)=eval e X.env):PE X (.Attribute e f pos) (tFld X.K ta f):=by
 intro pins s σ H Q I h
 refine xwx hb (thn (he pins s σ H _ I h) λu s1 ⟨x,H1,I1,rx,a,C,dx,fs,v,ex,ea,c,n,l,q⟩=>?_)
 subst ex
 obtain rfl:u=Value.ref a:=rx
 exact wws I1 ea c n l λu' s2 I2 ru=>⟨v,H1,I2,ru,q⟩
theorem Qq (ha:PE X o ta)(hv:PE X value tv)(hs:swapsWith value (some (.Attribute o f pos')) pos.line X.env=pure false):PS X (.Assign [.Attribute o f pos'] value pos) (sFld X.K ta tv f):=by
 intro pins s σ H D I h
 refine plainObj_wpAny_Assign_Attribute (thn (hv pins s σ H _ I h) λu s1 ⟨y,H1,I1,ry,q⟩=>thn (ha pins s1 σ H1 _ I1 q) λov s2 ⟨x,H2,I2,rx,a,C,dx,fs,ex,ea,c,n,l,q2⟩=>?_) hs
 subst ex
 obtain rfl:ov=Value.ref a:=rx
 exact wxm I2 ea c n l ry λs3 I3=>⟨σ,_,I3,q2⟩
end
section
variable {X:Cx}{pins:List (Aj×Obj)}{σ:St}{H:Hp}{s:Ab}{A:Ae}{E:Ag→Ab→Prop}{Q:Ag→Ab→Prop}{c:Ag}{b:Bool}
inductive TyOf (K:Aa) (H:Hp):V→Ag→Prop where
 |non:TyOf K H .non (.type "NoneType")
 |bl (x:Bool):TyOf K H (.bl x) (.type "bool")
 |int (i:Int):TyOf K H (.int i) (.type "int")
 |str (x:Str):TyOf K H (.str x) (.type "str")
 |flt (x:UInt64):TyOf K H (.flt x) (.type "float")
 |lst {a:Aj} {xs:List V} (e:H a=some (.lst xs)):TyOf K H (.ref a) (.type "list")
 |frz {a:Aj} {o:Obj} {xs:List V} (e:H a=some (.frz o (.lst xs))):TyOf K H (.ref a) (.type "list")
 |tup {a:Aj} {xs:List V} (e:H a=some (.tup xs)):TyOf K H (.ref a) (.type "tuple")
 |dK {a:Aj} {kvs:List (Key×V)} (e:H a=some (.dK kvs)):TyOf K H (.ref a) (.type "dict")
 |dT {a:Aj} {kvs:List (List Key×V)} (e:H a=some (.dT kvs)):TyOf K H (.ref a) (.type "dict")
 |ins {a C dx:Aj} {fs:List (Str×V)} (e:H a=some (.ins C dx fs)) (cl:Cls K C) (ha:W.findIn K (.ref C) "__class__" = some (some (.builtin "object.__class__")))
   (hn:W.specialIn K (.builtin "object.__class__") "__get__" = some (some (.builtin "getset_descriptor.__get__"))) (htk:W.takesIn K (.builtin "object.__class__")=some true)
   (hm:W.mroIn K C (.type "object")=some true):TyOf K H (.ref a) (.ref C)
theorem qvp {x:V}{u t:Ag}(I:Inv X pins σ H s)(rx:RelV x u)(ty:TyOf X.K H x t)(e:W.kitOne X.K t c=some b)(h:∀tk,Q (.bool b) { s with toks:=tk }) :
  wpAny (model X.prog X.w) A (call (.builtin "isinstance") [u,c]) Q E s:=by
 cases ty with
 |non=>cases (show u=Value.none from rx);exact bM W.kitx_none I.kIn True.intro e (λz=>nomatch z) h
 |bl y=>cases (show u=Value.bool y from rx);exact bM W.kitx_bool I.kIn True.intro e (λz=>nomatch z) h
 |int i=>obtain ⟨t,q⟩:=(show ∃t,u=Value.int i t from rx);cases q;exact bM W.kitx_int I.kIn True.intro e (λz=>nomatch z) h
 |str y=>obtain ⟨t,q⟩:=(show ∃t,u=Value.str y t from rx);cases q;exact bM W.kitx_str I.kIn True.intro e (λz=>nomatch z) h
 |flt y=>obtain ⟨t,q⟩:=(show ∃t,u=Value.float y t from rx);cases q;exact bM W.kitx_float I.kIn True.intro e (λz=>nomatch z) h
 |@lst a xs ea =>
  cases (show u=Value.ref a from rx)
  obtain ⟨_,_,n,_,h1⟩:=(show ObjOk X.prog X.w H s.heap a (.lst xs) from I.hok a _ ea)
  exact bM W.kitx_list I.kIn ⟨_,h1,rfl⟩ e (λz=>nomatch z) h
 |@frz a ob xs ea =>
  cases (show u=Value.ref a from rx)
  obtain ⟨_,_,_,n,_,h1⟩:=(show ObjOk X.prog X.w H s.heap a (.frz ob (.lst xs)) from I.hok a _ ea)
  exact bM W.kitx_list I.kIn ⟨_,h1,rfl⟩ e (λz=>nomatch z) h
 |@tup a xs ea =>
  cases (show u=Value.ref a from rx)
  obtain ⟨_,_,_,p⟩:=(show ObjOk X.prog X.w H s.heap a (.tup xs) from I.hok a _ ea)
  obtain ⟨o,h1,h2,_⟩:=p
  exact bM W.kitx_tuple I.kIn ⟨o,h1,h2⟩ e (λz=>nomatch z) h
 |@dK a kvs ea =>
  cases (show u=Value.ref a from rx)
  obtain ⟨_,_,vs,_,p⟩:=(show ObjOk X.prog X.w H s.heap a (.dK kvs) from I.hok a _ ea)
  obtain ⟨o,es,ep,h1,h2,_⟩:=p
  exact bM W.kitx_dict I.kIn ⟨o,h1,h2.1⟩ e (λz=>nomatch z) h
 |@dT a kvs ea =>
  cases (show u=Value.ref a from rx)
  obtain ⟨_,_,xs,_,o,es,ep,h1,h2,_⟩:=(show ObjOk X.prog X.w H s.heap a (.dT kvs) from I.hok a _ ea)
  exact bM W.kitx_dict I.kIn ⟨o,h1,h2.1⟩ e (λz=>nomatch z) h
 |@ins a C dx fs ea cl ha hn htk hm =>
  cases (show u=Value.ref a from rx)
  obtain ⟨mA,O,_⟩:=qq1 I.hok ea
  obtain ⟨od,J,_⟩:=O.look
  exact bM (W.kitx_own (cl.get _) cl.hd ha hn htk hm) I.kIn J e (λz=>nomatch z) h
end
structure Room (k:Nat)(A:Ae):Prop where
 hd:A.handled=none
 dp:A.depth+3*k+5<recursionLimit
 un:A.units+16*k+200<cLine
theorem Room.mono {j k:Nat}{A:Ae}(r:Room k A)(h:j≤k):Room j A:=⟨r.hd,by have:=r.dp;lia,by have:=r.un;lia⟩
theorem Room.deeper {k:Nat}{A:Ae}(r:Room (k+1) A)(env:Env):Room k (A.deeper env) :=
 ⟨r.hd,by have:=r.dp;show A.depth+1+3*k+5<_;lia,by have:=r.un;show A.units+3+16*k+200<_;lia⟩
theorem wxy {A:Ae}{C:Aj}{us:List Ag}{kw:List (Str×Ag)}:(A.under (.builtin "type.__call__" ⟨.ref C::us,kw⟩)).depth=A.depth+1:=by
 first | rfl | simp [Around.under,Code.weight,Code.isCreation,Code.isGuard,Code.isCaller,Code.frames,Code.isFrame,guardIds]
theorem wq6 {A:Ae}{C:Aj}{us:List Ag}{kw:List (Str×Ag)}:(A.under (.builtin "type.__call__" ⟨.ref C::us,kw⟩)).units=A.units+1:=by
 first | rfl | simp [Around.under,Code.cUnits,Code.frames,Code.isFrame]
theorem Room.make {k:Nat}{A:Ae}(r:Room (k+1) A)(C:Aj)(us:List Ag)(kw:List (Str×Ag)):Room k (A.under (.builtin "type.__call__" ⟨.ref C::us,kw⟩)) :=
 ⟨r.hd,by have:=r.dp;rw [wxy];lia,by have:=r.un;rw [wq6];lia⟩
theorem Room.depth {k:Nat}{A:Ae}(r:Room k A):A.depth<recursionLimit:=by have:=r.dp;lia
theorem Room.units {k:Nat}{A:Ae}(r:Room k A):A.units+64<cLine:=by have:=r.un;lia
theorem Room.units0 {k:Nat}{A:Ae}(r:Room k A):A.units<cLine:=by have:=r.un;lia
def Qc:TA:=λ_ H Q=>Q [] H
def j6 (ta:TE)(tr:TA):TA:=λσ H Q=>ta σ H λx H1=>tr σ H1 λxs H2=>Q (x::xs) H2
section
variable {X:Cx}{e:Expr}{es:List Expr}{te:TE}{t:TA}{pos:Pos}
theorem qz:PA X [] Qc:=λ_ _ _ _ H Q I h=>dj ⟨[],H,I,.nil,h⟩
theorem xm (ha:PE X e te)(hr:PA X es t)(hs:autoParam (starEach (e::es) X.env=(false,eval e X.env)::starEach es X.env) aU4._auto_1):PA X (e::es) (j6 te t):=by
 intro pos pins s σ H Q I h
 rw [hs]
 show wpAny _ _ (spliced ((false,eval e X.env)::backTo pos (starEach es X.env))) _ _ s
 refine cH (thn (ha pins s σ H _ I h) λu s1 ⟨x,H1,I1,r1,q1⟩=>?_)
 exact thn (hr pos pins s1 σ H1 _ I1 q1) λus s2 ⟨xs,H2,I2,r2,q2⟩=>⟨x::xs,H2,I2,.cons r1 r2,q2⟩
def tTup (t:TA):TE:=λσ H Q=>t σ H λxs H1=>xs.length≤sizeLine∧∀p,H1 p=none→Q (.ref p) (upd H1 p (.tup xs))
def tLst (t:TA):TE:=λσ H Q=>t σ H λxs H1=>xs.length≤sizeLine∧∀p,H1 p=none→Q (.ref p) (upd H1 p (.lst xs))
theorem zx {x1}(h:PA X es t):PE X (.Tuple es x1 pos) (tTup t):=by
 intro pins s σ H Q I hq
 refine wpAny_Tuple_spliced (thn (h pos pins s σ H _ I hq) λus s1 ⟨xs,H1,I1,r,z,q⟩=>⟨by rw [←r.length];exact z,?_⟩)
 have hf:H1 s1.heap.objs.size=none:=I1.hok.fresh (al _)
 refine ⟨.ref s1.heap.objs.size,upd H1 s1.heap.objs.size (.tup xs),I1.laid (t':=s1.toks) (λb u e=>ag _ e) (al _) ?_,rfl,q _ hf⟩
 exact ⟨z,us,r,⟨_,aw _ rfl,rfl,_,rfl⟩⟩
theorem yk (h:PA X es t):PE X (.List es pos) (tLst t):=by
 intro pins s σ H Q I hq
 refine wpAny_List_spliced (thn (h pos pins s σ H _ I hq) λus s1 ⟨xs,H1,I1,r,z,q⟩=>⟨by rw [←r.length];exact z,?_⟩)
 have hf:H1 s1.heap.objs.size=none:=I1.hok.fresh (al _)
 refine ⟨.ref s1.heap.objs.size,upd H1 s1.heap.objs.size (.lst xs),I1.laid (t':=s1.toks) (λb u e=>ag _ e) (al _) ?_,rfl,q _ hf⟩
 exact ⟨z,us,0,r,aw _ rfl⟩
end
abbrev Sp:=List V→Hp→VK→XK→Prop
abbrev CXT:=List Env→Hp→Ab→XK→Ag→Ab→Prop
structure Env0 (P:Ac)(w:Ah)(K:Aa)(mg:Str→Option Ag)(base:Heap)(A:Ae)(outer:List Env)(s:Ab)(H:Hp):Prop where
 frames:A.frames=some outer
 mod:Mod K mg base
 bs:∀b o,base.get? b=some o→s.heap.get? b=some o∧H b=none
 bsz:base.objs.size≤s.heap.objs.size
 funs:s.heap.FunFrames base outer
 frf:∀b∈frs outer,H b=none
 hok:HOk P w H s.heap
 bare:AllBare s.gens
def CE (outer:List Env)(P:Ac)(w:Ah)(H:Hp)(s:Ab)(Q:VK)(u:Ag)(s':Ab):Prop :=
 ∃v H',s'.os=s.os∧AllBare s'.gens∧Un (frs outer) [] H H' s.heap s'.heap∧HOk P w H' s'.heap∧RelV v u∧Q v H'
def CR (CX:CXT)(outer:List Env)(P:Ac)(w:Ah)(H:Hp)(s:Ab)(Q:VK)(E:XK)(r:Result)(s':Ab):Prop :=
 match r with
 |.ok (.ret u)=>CE outer P w H s Q u s'
 |.ok _=>False
 |.error e=>CX outer H s E e s'
structure FnOk (P:Ac)(w:Ah)(K:Aa)(mg:Str→Option Ag)(base:Heap)(CX:CXT)(k:Nat)(f:Aj)(fd:Ad)(ps:List Str)(sp:Sp):Prop where
 len:∀vs H Q E,sp vs H Q E→vs.length=ps.length
 run:∀(A:Ae) (outer:List Env) (s:Ab) (H:Hp) (args:Args) (us:List Ag) (vs:List V) (Q:VK) (E:XK),Room k A→Env0 P w K mg base A outer s H→BindsTo s fd args (ps.zip us)→Vals vs us→sp vs H Q E →
  codeAny (model P w) A (.call (.ref f) args) (CR CX outer P w H s Q E) s
theorem FnOk.imp {P:Ac}{w:Ah}{K:Aa}{mg:Str→Option Ag}{base:Heap}{CX:CXT}{k:Nat}{f:Aj}{fd:Ad}{ps:List Str}{sp sp':Sp}(F:FnOk P w K mg base CX k f fd ps sp)
  (h:∀vs H Q E,sp' vs H Q E→sp vs H Q E):FnOk P w K mg base CX k f fd ps sp' :=
 ⟨λvs H Q E q=>F.len vs H Q E (h _ _ _ _ q),λA outer s H args us vs Q E hr he hb hv hs=>F.run A outer s H args us vs Q E hr he hb hv (h _ _ _ _ hs)⟩
theorem Env0.make {P:Ac}{w:Ah}{K:Aa}{mg:Str→Option Ag}{base:Heap}{A:Ae}{outer:List Env}{s:Ab}{H:Hp}(e:Env0 P w K mg base A outer s H)(C:Aj)(us:List Ag)(kw:List (Str×Ag)) :
  Env0 P w K mg base (A.under (.builtin "type.__call__" ⟨.ref C::us,kw⟩)) outer s H:=⟨by first | exact e.frames | (simpa [Around.under,Code.envs,Code.isFrame,pushEnvs] using e.frames),e.mod,e.bs,e.bsz,e.funs,e.frf,e.hok,e.bare⟩
section
variable {X:Cx}{pins:List (Aj×Obj)}{σ:St}{H:Hp}{s s':Ab}
theorem Inv.env0 (I:Inv X pins σ H s):Env0 X.prog X.w X.K X.mg X.base X.A X.stack s H :=
 ⟨I.ok.frames,I.ok.mod,I.bs,bD I.ok.bsz I.sz,I.stack,I.stkFree,I.hok,I.bare⟩
theorem Inv.after {Q:VK}{u:Ag}(I:Inv X pins σ H s)(h:CE X.stack X.prog X.w H s Q u s'):EP X pins σ Q u s':=by
 obtain ⟨v,H',os,bare,un,hok,r,q⟩:=h
 obtain ⟨hh,g,d,t,os'⟩:=s'
 obtain rfl:os'=s.os:=os
 exact ⟨v,H',I.call (h':=hh) (g':=g) (d':=d) (t':=t) (ch:=[]) un hok bare (λb z=>absurd z (by simp)),r,q⟩
end
def Binds (K:Aa)(fd:Ad)(ps:List Str)(ds:List Ag):Prop :=
 ∀(s:Ab) (us:List Ag),K.In s.heap→(us++ds).length=ps.length→BindsTo s fd ⟨us,[]⟩ (ps.zip (us++ds))
theorem Binds.all {K:Aa}{fd:Ad}{ps:List Str}(h:∀us:List Ag,us.length=ps.length→bindArgs fd ⟨us,[]⟩=pure (ps.zip us)):Binds K fd ps []:=λs us _ hl=>by
 rw [cP] at hl ⊢
 exact .of_eq (h us hl)
section
variable {X:Cx}{CX:CXT}{k:Nat}{f C:Aj}{fd:Ad}{ps:List Str}{sp:Sp}{dvs:List V}{ds:List Ag}{E:XK}{x m:Str}{p pos apos:Pos}{e o:Expr}{es:List Expr}{ta:TE}{t:TA}
structure Mk (K:Aa)(C f:Aj):Prop where
 makes:W.makesIn K C=true
 init:W.findIn K (.ref C) "__init__" = some (some (.ref f))
 fn:W.isFn K (.ref f)=true
 kp:W.keepIn K (.ref C)=true
end
section
variable {X:Cx}{CX:CXT}{k:Nat}{f C:Aj}{fd:Ad}{ps ks:List Str}{sp:Sp}{E:XK}{x m:Str}{p pos apos kpos:Pos}{e o:Expr}{es:List Expr}{kws:List Keyword}{te ta:TE}{t tk:TA}{nm:Option Str}
structure KBinds (K:Aa)(fd:Ad)(ps ks:List Str)(g:List Ag→List Ag→List Ag)(gV:List V→List V→List V):Prop where
 to:∀(s:Ab) (us ws:List Ag),K.In s.heap→(g us ws).length=ps.length→BindsTo s fd ⟨us,ks.zip ws⟩ (ps.zip (g us ws))
 rel:∀ {vs:List V} {us:List Ag} {zs:List V} {ws:List Ag},Vals vs us→Vals zs ws→Vals (gV vs zs) (g us ws)
variable {g:List Ag→List Ag→List Ag}{gV:List V→List V→List V}
end
structure FnScope (N P:List Str)(sc:Scope):Prop where
 kind:sc.kind=.function
 co:sc.isCoroutine=false
 gen:sc.isGenerator=false
 nd:N.Nodup
 pre:N.take P.length=P
 par:∀x∈P,sc.names.lookup x=some .local∨sc.names.lookup x=some .cell
 nofree:∀y∈sc.names,y.2≠.free
theorem qkf {kindOf:Str→Option NameKind}{x:Str}:∀ {binds:List (Str×Ag)} {m:Str→Option Ag},(∀v,(x,v)∉binds)→bindL kindOf binds m x=m x
 |[],_,_=>rfl
 |(n,v)::r,m,h=>by
  unfold bindL
  rw [qkf λw hw=>h w (au _ hw)]
  split
  ·have:x≠n:=by rintro rfl;exact h v ay
   simp [this]
  ·rfl
theorem qv2 {kindOf:Str→Option NameKind}{x:Str}:∀ {binds:List (Str×Ag)} {m:Str→Option Ag},(∀v,(x,v)∉binds)→bindC kindOf binds m x=m x
 |[],_,_=>rfl
 |(n,v)::r,m,h=>by
  unfold bindC
  rw [qv2 λw hw=>h w (au _ hw)]
  split
  ·rfl
  ·have:x≠n:=by rintro rfl;exact h v ay
   simp [this]
theorem qkk {kindOf:Str→Option NameKind}{x:Str}{v:Ag}:∀ {P:List Str} {vs:List Ag} {i:Nat} {m:Str→Option Ag},P.Nodup→P[i]?=some x→vs[i]?=some v→kindOf x=some .local →
  bindL kindOf (P.zip vs) m x=some v
 |[],_,_,_,_,h,_,_=>by simp at h
 |_::_,[],_,_,_,_,h,_=>by simp at h
 |p::P,w::vs,0,m,nd,h1,h2,hk=>by
  simp at h1 h2;subst h1;subst h2
  show bindL kindOf ((p,w)::P.zip vs) m p=_
  unfold bindL
  rw [qkf λv hv=>(aY.mp nd).1 (fM hv).1,ak hk]
  simp
 |p::P,w::vs,i+1,m,nd,h1,h2,hk=>by
  show bindL kindOf ((p,w)::P.zip vs) m x=_
  unfold bindL
  exact qkk (i:=i) (aY.mp nd).2 (by simpa using h1) (by simpa using h2) hk
theorem qvg {kindOf:Str→Option NameKind}{x:Str}{v:Ag}:∀ {P:List Str} {vs:List Ag} {i:Nat} {m:Str→Option Ag},P.Nodup→P[i]?=some x→vs[i]?=some v→kindOf x≠some .local →
  bindC kindOf (P.zip vs) m x=some v
 |[],_,_,_,_,h,_,_=>by simp at h
 |_::_,[],_,_,_,_,h,_=>by simp at h
 |p::P,w::vs,0,m,nd,h1,h2,hk=>by
  simp at h1 h2;subst h1;subst h2
  show bindC kindOf ((p,w)::P.zip vs) m p=_
  unfold bindC
  rw [qv2 λv hv=>(aY.mp nd).1 (fM hv).1,ai hk]
  simp
 |p::P,w::vs,i+1,m,nd,h1,h2,hk=>by
  show bindC kindOf ((p,w)::P.zip vs) m x=_
  unfold bindC
  exact qvg (i:=i) (aY.mp nd).2 (by simpa using h1) (by simpa using h2) hk
def Yx (N:List Str)(vs:List V):St:=vs.map some++List.replicate (N.length-vs.length) none
def ug (CX:CXT)(P:Ac)(w:Ah)(K:Aa)(mg:Str→Option Ag)(base:Heap)(N:List Str)(qual:Str)(scope:Scope)(f:Aj)(cd:Ag)(A:Ae)(outer:List Env)(s:Ab)(H:Hp)(E:XK):Cx where
 prog:=P
 w:=w
 K:=K
 mg:=mg
 base:=base
 A:=A.deeper (envOfC qual scope s.heap.objs.size f cd)
 N:=N
 s₀:=s
 H₀:=H
 env:=envOfC qual scope s.heap.objs.size f cd
 outer:=outer
 stack:=envOfC qual scope s.heap.objs.size f cd::outer
 ex:=[]
 calm:=true
 fn:=λ_=>true
 pn:=[]
 xe:=λe s'=>wpAny (model P w) (A.deeper (envOfC qual scope s.heap.objs.size f cd)) (leaving (envOfC qual scope s.heap.objs.size f cd) e) (λ_ s''=>CX outer H s E e s'') (λe' s''=>CX outer H s E e' s'') s'
theorem quw {sc:Scope}{n:Nat}{x:Str}(h:sc.names.lookup x=some .cell):∃c,(cellsFrom n sc.names []).lookup x=some c:=by
 have q:=W.cellsFrom_some sc.names n [] (.inl h)
 exact bh.mp q
theorem wvs {CX:CXT}{P:Ac}{w:Ah}{K:Aa}{mg:Str→Option Ag}{base:Heap}{N ps:List Str}{qual:Str}{scope:Scope}{f:Aj}{cd:Ag}{A:Ae}{outer:List Env}{s s1:Ab}{H:Hp}{E:XK}{us:List Ag}{vs:List V}
  (S:FnScope N ps scope) (hd:A.handled=none) (e0:Env0 P w K mg base A outer s H) (hl:vs.length=ps.length) (r:Vals vs us)
  (x:InCallC s s.heap.objs.size (bindL (envOfC qual scope s.heap.objs.size f cd).kindOf (ps.zip us) λ_=>none) (cellsFrom (s.heap.objs.size+1) scope.names []) (bindC (envOfC qual scope s.heap.objs.size f cd).kindOf (ps.zip us) λ_=>none) s1) :
  Inv (ug CX P w K mg base N qual scope f cd A outer s H E) [] (Yx N vs) H s1:=by
 have hpl:ps.length≤N.length:=by have:=bC List.length S.pre;rw [bE] at this;lia
 obtain ⟨h1,tk,rfl,hk⟩:=x.done
 have noA:∀b:Aj,b∉(ug CX P w K mg base N qual scope f cd A outer s H E).ex:=λb z=>absurd (show b∈([]:List Aj) from z) (by simp)
 refine ⟨⟨e0.mod,S.kind,rfl,rfl,al _,λy z c h1 h2=>?_,λy hy=>?_,λy c _ h=>?_,λ_=>hd,Around.frames_deeper e0.frames,.inr ⟨rfl,rfl⟩,λb z=>absurd z (noA b),e0.bs,e0.bsz,λb _ _=>noA b,λb z=>absurd z (noA b),e0.funs,e0.frf⟩,
  rfl,e0.bare,Un.kept hk,⟨_,x.toInCall.ns,λi y v h1 h2 h3=>?_⟩,λy c h=>⟨_,x.cell y c h⟩,e0.hok.fresh (al _),λy c h=>?_,λp hp=>absurd (show p∈([]:List (Aj×Obj)) from hp) (by simp),e0.hok.kept hk,?_⟩
 ·exact name_of_addr x.apart (cU h1) (cU h2)
 ·have hy:scope.names.lookup y=some .cell∨scope.names.lookup y=some .free:=hy
  rcases hy with hy|hy
  ·exact quw hy
  ·exact absurd rfl (S.nofree _ (cU hy))
 ·exact bH (x.above y c (cU h))
 ·have hi:i<vs.length:=by
   unfold Yx at h2
   by_cases hi:i<vs.length
   ·exact hi
   ·rw [bv (by simpa using hi)] at h2
    rw [List.getElem?_replicate] at h2
    split at h2 <;> cases h2
  have ha:vs[i]?=some v:=by
   unfold Yx at h2
   rw [bF (by simpa using hi),aE] at h2
   cases e:vs[i]? with
   |none=>rw [e] at h2;cases h2
   |some a=>rw [e] at h2;cases h2;rfl
  obtain ⟨u,hu,rv⟩:=r.get ha
  have hp:ps[i]?=some y:=by
   rw [←S.pre,List.getElem?_take_of_lt ⋯];exact h1
  have ndP:ps.Nodup:=by rw [←S.pre];exact S.nd.sublist (List.take_sublist _ _)
  refine ⟨u,rv,?_⟩
  rcases S.par y (aL hp) with k|k
  ·exact .inl ⟨k,qkk ndP hp hu k⟩
  ·obtain ⟨c,e⟩:=quw (n:=s.heap.objs.size+1) k
   refine .inr ⟨.inl k,c,e,?_⟩
   have q:=x.cell y c e
   rw [qvg ndP hp hu (by show scope.names.lookup y≠_;rw [k];decide)] at q
   exact q
 ·exact e0.hok.fresh (bH (x.above y c (cU h)))
 ·unfold Yx
  show _=N.length
  rw [aP,aa,List.length_replicate]
  lia
theorem fn_of {CX:CXT}{P:Ac}{w:Ah}{K:Aa}{mg:Str→Option Ag}{base:Heap}{k:Nat}{f:Aj}{name qual:Str}{params:Arguments}{body:List Stmt}{scope:Scope}{dV kV doc pm cdv ct oc:Ag}{an od:Option Aj}
  {osl:Array (Option Ag)} {N ps:List Str} {sp:Sp} (lk:K.lookup f=some ⟨oc,od,.func (W.fnOf name qual params body scope dV kV doc pm an cdv ct),osl⟩) (hcd:W.codeIn K cdv qual=true) (S:FnScope N ps scope)
  (len:∀vs H Q E,sp vs H Q E→vs.length=ps.length)
  (hbody:∀(A:Ae) (outer:List Env) (s:Ab) (H:Hp) (vs:List V) (Q:VK) (E:XK),Room k (A.deeper (envOfC qual scope s.heap.objs.size f cdv))→sp vs H Q E →
   ∃t,PSs (ug CX P w K mg base N qual scope f cdv A outer s H E) body t∧t { nx:=λ_ H'=>Q .non H',rt:=Q } (Yx N vs) H) :
  FnOk P w K mg base CX (k+1) f (W.fnOf name qual params body scope dV kV doc pm an cdv ct) ps sp:=by
 refine ⟨len,λA outer s H args us vs Q E hr e0 hb r hsp=>?_⟩
 have hl:=len _ _ _ _ hsp
 have KX:K.In s.heap:=e0.mod.kin.keeps λb o e=>(e0.bs b o e).1
 have lim:s.heap.NoLimit:=e0.mod.nolimit.keeps λb o e=>(e0.bs b o e).1
 have hkind:∀y∈ps.zip us,scope.names.lookup y.1=some .local∨(scope.names.lookup y.1=some .cell∧((cellsFrom (s.heap.objs.size+1) scope.names []).lookup y.1).isSome=true):=λ⟨n,v⟩ hy=>by
  rcases S.par n (fM hy).1 with q|q
  ·exact .inl q
  ·exact .inr ⟨q,W.cellsFrom_some _ _ _ (.inl q)⟩
 refine codeAny_call_function hr.depth (KX _ _ lk) rfl S.co S.gen rfl (W.codeRec_of KX hcd) (hb _ _ _ _ ?_)
 refine wpAny_newFunctionEnv_cells S.kind hkind λenv he s1 x=>?_
 subst he
 refine ⟨lim.keeps x.toInCall.keep,codeAny_func ?_⟩
 obtain ⟨t,ht,hq⟩:=hbody A outer s H vs Q E (hr.deeper _) hsp
 have I:Inv (ug CX P w K mg base N qual scope f cdv A outer s H E) [] (Yx N vs) H s1:=wvs S hr.hd e0 hl r x
 refine ba (ht [] s1 (Yx N vs) H _ I hq) (λfl s' hs=>?_) λe s' hs=>hs
 have fin:∀ {σ':St} {H':Hp} {v:V} {u:Ag},Inv (ug CX P w K mg base N qual scope f cdv A outer s H E) [] σ' H' s'→RelV v u→Q v H'→CE outer P w H s Q u s' :=
  λ{σ' H' v u} J rv q=>⟨v,H',J.os,J.bare,J.base,J.hok,rv,q⟩
 cases fl with
 |ret u =>
  obtain ⟨v,σ',H',J,rv,q⟩:=hs
  exact fin J rv q
 |next =>
  obtain ⟨σ',H',J,q⟩:=hs
  exact fin (v:=V.non) (u:=Value.none) J rfl q
 |brk =>
  obtain ⟨_,_,_,q⟩:=hs
  exact False.elim q
 |cont =>
  obtain ⟨_,_,_,q⟩:=hs
  exact False.elim q
section
variable {X:Cx}{x:Str}{p pos:Pos}{e:Expr}{es:List Expr}{t:TA}{id T:String}{r:List V→Hp→VK→Prop}
def tCB (r:List V→Hp→VK→Prop)(t:TA):TE:=λσ H Q=>t σ H λvs H1=>r vs H1 Q
theorem xz (hc:j4 X (.builtin id) r)(hg:Gl X x)(hm:X.mg x=none)(hv:bootBuiltins x=some (.builtin id))(ha:PA X (e::es) t)(hn:autoParam (x ≠ "__name__") aU2._auto_1)(hdb:autoParam ((x==("__debug__" : Str))=false) aU1._auto_1)
  (he:autoParam (starEach (e::es) X.env=(false,eval e X.env)::starEach es X.env) aU4._auto_1) (hpl:autoParam ((backTo pos (starEach es X.env)).any (·.1)=false) aU4._auto_1):PE X (.Call (.Name x p) (e::es) [] pos) (tCB r t):=by
 intro pins s σ H Q I h
 refine cZ (qwk I hg hm hv ?_ hn hdb)
 exact PyProof.Rows.callWith_builtin1 (thn (ha pos pins s σ H _ I h) λus s1 ⟨vs,H1,I1,r1,q1⟩=>hc pins s1 σ H1 vs us Q I1 r1 q1) he hpl
theorem zn (hc:j4 X (.type T) r)(hg:Gl X x)(hm:X.mg x=none)(hv:bootBuiltins x=some (.type T))(ha:PA X (e::es) t)(hn:autoParam (x ≠ "__name__") aU2._auto_1)(hdb:autoParam ((x==("__debug__" : Str))=false) aU1._auto_1)
  (he:autoParam (starEach (e::es) X.env=(false,eval e X.env)::starEach es X.env) aU4._auto_1) (hpl:autoParam ((backTo pos (starEach es X.env)).any (·.1)=false) aU4._auto_1):PE X (.Call (.Name x p) (e::es) [] pos) (tCB r t):=by
 intro pins s σ H Q I h
 refine cZ (qwk I hg hm hv ?_ hn hdb)
 exact di (thn (ha pos pins s σ H _ I h) λus s1 ⟨vs,H1,I1,r1,q1⟩=>hc pins s1 σ H1 vs us Q I1 r1 q1) he hpl
end
end L2
namespace HT
open PySem PyProof.Rows
section
open PySem.SeqAt
open PySem.AutoSeq1 (wpAny_loadPart')
open PySem.MeetsSeq PySem.MeetsSeq2 PySem.MeetsSeq3
end
section
variable {prog:Ac}{w:Ah}{A:Ae}{E:Ag→Ab→Prop}{s:Ab}
def sIx (n d:Nat):Option Int→Nat
 |none=>d
 |some v=>if v<0 then (v+(n:Int)).toNat else min v.toNat n
theorem sIx_none (n d:Nat):sIx n d none=d:=rfl
end
end HT
namespace L2
open PySem PySem.Spec PyProof.Rows
abbrev TO:=St→Hp→(Option Int→Hp→Prop)→Prop
def PO (X:Cx)(e:Option Expr)(t:TO):Prop :=
 ∀(pins:List (Aj×Obj)) (s:Ab) (σ:St) (H:Hp) (Q:Option Int→Hp→Prop),Inv X pins σ H s→t σ H Q →
  wpAny (model X.prog X.w) X.A (evalPart e X.env) (λu s'=>∃o H',Inv X pins σ H' s'∧IsPart u o∧Q o H') X.xe s
def xwz:TO:=λ_ H Q=>Q none H
def tPart (t:TE):TO:=λσ H Q=>t σ H λx H1=>∃i,x=.int i∧Q (some i) H1
theorem wwg {ns:List Int}:∀ {us:List Ag},Vals (ns.map V.int) us→IntsAre us ns:=by
 induction ns with
 |nil=>intro us r;rw [bI] at r;cases r;exact .nil
 |cons n ns ih =>
  intro us r
  rw [aC] at r
  cases r with
  |cons r1 r2 =>
   obtain ⟨t,e⟩:=r1
   subst e
   exact .cons n t (ih r2)
section
variable {X:Cx}{e:Expr}{te:TE}{lo hi:Option Expr}{tl th:TO}{pos p2:Pos}
theorem qkh:PO X none xwz:=by
 intro pins s σ H Q I h
 rw [evalPart_none]
 exact ao ⟨none,H,I,.none,h⟩
theorem qjw (h:PE X e te):PO X (some e) (tPart te):=by
 intro pins s σ H Q I hw
 rw [evalPart_some]
 refine thn (h pins s σ H _ I hw) λu s1 ⟨x,H1,I1,r1,q1⟩=>?_
 obtain ⟨i,rfl,q⟩:=q1
 obtain ⟨t,rfl⟩:=r1
 exact ⟨some i,H1,I1,.int i t,q⟩
def SlR (X:Cx)(r:V→Option Int→Option Int→Hp→VK→Prop):Prop :=
 ∀(pins:List (Aj×Obj)) (s:Ab) (σ:St) (H:Hp) (x:V) (v vl vu:Ag) (lo hi:Option Int) (sl:Aj) (Q:VK),Inv X pins σ H s→RelV x v→s.heap.IsSliceOf sl vl vu .none→IsPart vl lo→IsPart vu hi→r x lo hi H Q →
  ∃T id,typeLookup (.type T) "__getitem__" = pure (some (.builtin id))∧s.TypeIs v T∧wpAny (model X.prog X.w) X.A (getItem v (.ref sl)) (EP X pins σ Q) X.xe s
def tSl (r:V→Option Int→Option Int→Hp→VK→Prop)(te:TE)(tl th:TO):TE:=λσ H Q=>te σ H λx H1=>tl σ H1 λl H2=>th σ H2 λu H3=>r x l u H3 Q
theorem qzq {r:V→Option Int→Option Int→Hp→VK→Prop}(hr:SlR X r)(he:PE X e te)(hl:PO X lo tl)(hu:PO X hi th):PE X (.Subscript e (.Slice lo hi none p2) pos) (tSl r te tl th):=by
 intro pins s σ H Q I h
 refine Subscript_ (thn (he pins s σ H _ I h) λv s1 ⟨x,H1,I1,r1,q1⟩=>?_)
 refine wpAny_Slice (thn (hl pins s1 σ H1 _ I1 q1) λvl s2 ⟨l,H2,I2,pl,q2⟩=>thn (hu pins s2 σ H2 _ I2 q2) λvu s3 ⟨u,H3,I3,pu,q3⟩=>?_)
 rw [evalPart_none]
 refine ao ?_
 have I4:Inv X pins σ H3 { s3 with heap:=s3.heap.push { cls:=.type "slice",data:=.fields #[vl,vu,.none] } }:=I3.kept (t':=s3.toks) λb ob q=>ag _ q
 obtain ⟨T,id,hT,ht,hg⟩:=hr pins { s3 with heap:=s3.heap.push { cls:=.type "slice",data:=.fields #[vl,vu,.none] } } σ H3 x v vl vu l u s3.heap.objs.size Q I4 r1 (Heap.IsSliceOf.new ..) pl pu q3
 show wpAny (model X.prog X.w) X.A (subscriptTail e (.Slice lo hi none p2) v (.ref s3.heap.objs.size)) (EP X pins σ Q) X.xe { s3 with heap:=s3.heap.push { cls:=.type "slice",data:=.fields #[vl,vu,.none] } }
 exact tail_any (ops:=[.ref s3.heap.objs.size,v]) ht hT hg (by with_unfolding_all rfl)
def qj5 (xs:List V)(lo hi:Option Int):List V:=(xs.drop (HT.sIx xs.length 0 lo)).take (HT.sIx xs.length xs.length hi-HT.sIx xs.length 0 lo)
theorem qy6 (xs:List V)(lo hi:Option Int):(qj5 xs lo hi).length≤xs.length:=by
 unfold qj5
 rw [bE,List.length_drop]
 lia
end
def ixN (n:Nat)(i:Int):Option Nat:=if 0≤i then (if i<n then some i.toNat else none) else if -(n:Int)≤i then some (i+n).toNat else none
def atI {α:Type}(xs:List α)(i:Int):Option α:=(ixN xs.length i).bind λj=>xs[j]?
theorem wzd {n:Nat}{i:Int}{j:Nat}(h:ixN n i=some j):seqIndex? i n=some j∧j<n∧-(n:Int)≤i∧i<n:=by
 unfold ixN at h
 by_cases h0:0≤i
 ·rw [ak h0] at h
  by_cases h1:i<n
  ·rw [ak h1] at h
   have e:i.toNat=j:=av h
   exact ⟨by rw [seqIndex_of h0 h1,e],⋯,⋯,h1⟩
  ·rw [ai h1] at h;cases h
 ·rw [ai h0] at h
  by_cases h1:-(n:Int)≤i
  ·rw [ak h1] at h
   have e:(i+n).toNat=j:=av h
   exact ⟨by rw [seqIndex_neg ⋯ h1,e],⋯,h1,⋯⟩
  ·rw [ai h1] at h;cases h
theorem qj1 {α:Type}{xs:List α}{i:Int}{v:α}(h:atI xs i=some v):∃j,seqIndex? i xs.length=some j∧xs[j]?=some v∧j<xs.length∧-(xs.length:Int)≤i∧i<xs.length:=by
 unfold atI at h
 cases e:ixN xs.length i with
 |none=>rw [e] at h;cases h
 |some j =>
  rw [e] at h
  obtain ⟨h1,h2,h3,h4⟩:=wzd e
  exact ⟨j,h1,h,h2,h3,h4⟩
theorem qqv {α:Type}{xs:List α}{j:Nat}{v:α}(h:xs[j]?=some v):atI xs (j:Int)=some v:=by
 have hj:j<xs.length:=(aN.mp h).1
 have e:ixN xs.length (j:Int)=some j:=by
  unfold ixN
  rw [ak ⋯,ak ⋯];simp
 unfold atI;rw [e];exact h
def xxd (b:Expr):Prop:=∀o i,subscripted b false o i=operate [o,i] (getItem o i)
def IxR (X:Cx)(r:R2):Prop :=
 ∀(value slice:Expr) (pins:List (Aj×Obj)) (s:Ab) (σ:St) (H:Hp) (x y:V) (v u:Ag) (Q:VK),Inv X pins σ H s→RelV x v→RelV y u→r x y H Q →
  subscripted slice false v u=operate [v,u] (getItem v u)→wpAny (model X.prog X.w) X.A (subscriptTail value slice v u) (EP X pins σ Q) X.xe s
def MtR (X:Cx)(id:String)(r:V→List V→Hp→VK→Prop):Prop :=
 ∀(pins:List (Aj×Obj)) (s:Ab) (σ:St) (H:Hp) (x:V) (xs:List V) (v:Ag) (us:List Ag) (Q:VK),Inv X pins σ H s→RelV x v→Vals xs us→r x xs H Q →
  wpAny (model X.prog X.w) X.A (call (.builtin id) (v::us)) (EP X pins σ Q) X.xe s
section
variable {X:Cx}{a b:Expr}{ta tb:TE}{pos:Pos}
theorem xq {r:R2}(hr:IxR X r)(ha:PE X a ta)(hb:PE X b tb)(hs:xxd b):PE X (.Subscript a b pos) (tOp r ta tb):=by
 intro pins s σ H Q I h
 exact Subscript_ (binT ha hb I h λv u s2 x y H2 I2 rx ry q=>hr a b pins s2 σ H2 x y v u Q I2 rx ry q (hs _ _))
def rIxL (K:Aa):R2:=λx y H Q=>∃p xs i v,x=.ref p∧y=.int i∧SqL K H p xs∧atI xs i=some v∧Q v H
def rIxT (K:Aa):R2:=λx y H Q=>∃p xs i v,x=.ref p∧y=.int i∧SqT K H p xs∧atI xs i=some v∧Q v H
def rIxS:R2:=λx y H Q=>∃z i c,x=.str z∧y=.int i∧z.length≤sizeLine∧atI z.cps.toList i=some c∧Q (.str ⟨#[c]⟩) H
theorem zk:IxR X (rIxL X.K):=by
 intro value slice pins s σ H x y v u Q I rx ry h hs
 obtain ⟨p,xs,i,z,rfl,rfl,hq,he,q⟩:=h
 cases rx
 obtain ⟨t,rfl⟩:=ry
 obtain ⟨its,r,pl,hz⟩:=I.list hq
 obtain ⟨j,h1,h2,h3,h4,h5⟩:=qj1 he
 obtain ⟨w,ew,rw'⟩:=r.get h2
 have hl:=r.length
 have hn:=Zg
 have fin:EP X pins σ Q w s:=⟨z,H,I,rw',q⟩
 by_cases h0:0≤i
 ·have hj:i.toNat=j:=by
   rw [seqIndex_of h0 h5] at h1
   exact av h1
  exact item_listR pl.isList h0 ⋯ (by rw [hj];simpa using ew) fin hs
 ·have hj:(i+(its.toArray.size:Int)).toNat=j:=by
   rw [seqIndex_neg ⋯ h4] at h1
   rw [aF,←hl]
   exact av h1
  exact subscriptTail_builtinR (x:=w) pl.isList.typeIs slot_list_getitem.lookup
   (wpAny_getItem_list_neg (Q:=λr s'=>r=w∧EP X pins σ Q r s') pl.isList ⋯ (by rw [aF] <;> lia) ⋯ (by rw [hj];simpa using ew) ⟨rfl,fin⟩) hs
theorem xv:IxR X (rIxT X.K):=by
 intro value slice pins s σ H x y v u Q I rx ry h hs
 obtain ⟨p,xs,i,z,rfl,rfl,hq,he,q⟩:=h
 cases rx
 obtain ⟨t,rfl⟩:=ry
 obtain ⟨its,r,pl,hz⟩:=I.tuple hq
 obtain ⟨j,h1,h2,h3,h4,h5⟩:=qj1 he
 obtain ⟨w,ew,rw'⟩:=r.get h2
 have hl:=r.length
 have hn:=Zg
 have fin:EP X pins σ Q w s:=⟨z,H,I,rw',q⟩
 exact subscriptTail_builtinR (x:=w) pl.typeIs slot_tuple_getitem.lookup
  (getItem_tuple (j:=j) (Q:=λr s'=>r=w∧EP X pins σ Q r s') pl ⋯ ⋯ (by rw [aF,←hl];exact h1) (by simpa using ew) ⟨rfl,fin⟩) hs
theorem ix_str:IxR X rIxS:=by
 intro value slice pins s σ H x y v u Q I rx ry h hs
 obtain ⟨z,i,c,rfl,rfl,hz,he,q⟩:=h
 obtain ⟨t,rfl⟩:=rx
 obtain ⟨t',rfl⟩:=ry
 obtain ⟨j,h1,h2,h3,h4,h5⟩:=qj1 he
 have hl:z.cps.toList.length=z.length:=by simp [Str.length]
 rw [hl] at h1 h4 h5
 have hn:=Zg
 exact tail_any (typeIs_str s z t) slot_str_getitem.lookup (getItem_str (c:=c) (by
  have e1:decide (i < -(2 ^ 63:Int))=false:=bn ⋯
  have e2:decide (i≥2 ^ 63)=false:=bn ⋯
  rw [e1,e2,Bool.or_false]) (by rw [h1];simpa using h2) ⟨.str ⟨#[c]⟩,H,I.tok _,⟨_,rfl⟩,q⟩) hs
theorem wxr (its:List Ag)(n j:Nat)(u:Ag):Obj.mapSeq (·.setIfInBounds j u) { cls:=.type "list",data:=.seq its.toArray n }={ cls:=.type "list",data:=.seq (its.set j u).toArray n }:=by
 simp [Obj.mapSeq]
theorem Inv.lst {pins:List (Aj×Obj)}{σ:St}{H:Hp}{s:Ab}{p:Aj}{xs:List V}(I:Inv X pins σ H s)(h:H p=some (.lst xs)) :
  ∃(its:List Ag) (n:Nat),Vals xs its∧s.heap.get? p=some { cls:=.type "list",data:=.seq its.toArray n }∧xs.length≤sizeLine:=by
 obtain ⟨z,its,n,r,e⟩:=I.hok p _ h
 exact ⟨its,n,r,e,z⟩
theorem Inv.lstUpd {pins:List (Aj×Obj)}{σ:St}{H:Hp}{s:Ab}{p:Aj}{xs ys:List V}{its its':List Ag}{n n':Nat}{f:Obj→Obj}(I:Inv X pins σ H s)(h:H p=some (.lst xs))
  (ho:s.heap.get? p=some { cls:=.type "list",data:=.seq its.toArray n }) (hf:f { cls:=.type "list",data:=.seq its.toArray n }={ cls:=.type "list",data:=.seq its'.toArray n' }) (r:Vals ys its') (hz:ys.length≤sizeLine) (t:Nat) :
  Inv X pins σ (upd H p (.lst ys)) { s with heap:=s.heap.update p f,toks:=t }:=by
 have e:(s.heap.update p f).get? p=some { cls:=.type "list",data:=.seq its'.toArray n' }:=by
  rw [d7 f ho (by rw [hf] <;> rfl),hf]
 refine I.write (x:=p) (e:=p) (by rw [h];trivial) (.inl rfl) (λb u hb q=>(Heap.get?_update_other _ _ (aV hb)).trans q) ⟨_,e⟩ ?_
 exact ⟨hz,its',n',r,e⟩
def rSetL:V→V→V→Hp→(Hp→Prop)→Prop:=λo i v H Q=>∃p xs k j,o=.ref p∧i=.int k∧H p=some (.lst xs)∧ixN xs.length k=some j∧Q (upd H p (.lst (xs.set j v)))
theorem qzj:PSet X rSetL:=by
 intro pins s σ H o i v ov iv u Q I ro ri rv h
 obtain ⟨p,xs,k,j,rfl,rfl,hp,hj,q⟩:=h
 cases ro
 obtain ⟨t,rfl⟩:=ri
 obtain ⟨its,n,r,ho,hz⟩:=I.lst hp
 obtain ⟨h1,h2,h3,h4⟩:=wzd hj
 have hl:=r.length
 have hn:=Zg
 have I':Inv X pins σ (upd H p (.lst (xs.set j v))) { s with heap:=s.heap.update p (Obj.mapSeq (·.setIfInBounds j u)) } :=
  I.lstUpd hp ho (wxr its n j u) (r.set rv j) (by rw [cQ];exact hz) s.toks
 by_cases h0:0≤k
 ·have hk:k.toNat=j:=by
   rw [seqIndex_of h0 h4] at h1
   exact av h1
  exact W.ki_setAt ho h0 ⋯ (by rw [aF,←hl];exact h4) (by rw [hk];exact ⟨_,I',q⟩)
 ·have hk:(k+(its.toArray.size:Int)).toNat=j:=by
   rw [seqIndex_neg ⋯ h3] at h1
   rw [aF,←hl]
   exact av h1
  exact W.ki_setBack ho ⋯ (by rw [aF,←hl];exact h3) ⋯ (by rw [hk];exact ⟨_,I',q⟩)
theorem qyg (lo hi:Option Int)(n:Nat):(sliceBounds lo hi none n).1=((HT.sIx n 0 lo:Nat):Int)∧(sliceBounds lo hi none n).2.1=((HT.sIx n n hi:Nat):Int)∧(sliceBounds lo hi none n).2.2=1:=by
 refine ⟨?_,?_,rfl⟩
 ·cases lo with
  |none=>simp [sliceBounds,HT.sIx]
  |some i =>
   simp only [sliceBounds,HT.sIx,Option.getD_none,show (1:Int)>0 by decide,fJ]
   by_cases h:i<0
   ·simp only [h,fJ] <;> lia
   ·simp only [h,dP] <;> lia
 ·cases hi with
  |none=>simp [sliceBounds,HT.sIx]
  |some i =>
   simp only [sliceBounds,HT.sIx,Option.getD_none,show (1:Int)>0 by decide,fJ]
   by_cases h:i<0
   ·simp only [h,fJ] <;> lia
   ·simp only [h,dP] <;> lia
theorem qvx (its:List Ag)(lo hi:Option Int):slicePick its.toArray lo hi none=((its.drop (HT.sIx its.length 0 lo)).take (HT.sIx its.length its.length hi-HT.sIx its.length 0 lo)).toArray:=by
 obtain ⟨h1,h2,h3⟩:=qyg lo hi its.toArray.size
 unfold slicePick
 rw [h1,h2,h3]
 simp only [sliceRange_one,pick_run,aF] <;> rfl
def rSlL (K:Aa):V→Option Int→Option Int→Hp→VK→Prop:=λx lo hi H Q=>∃a xs,x=.ref a∧SqL K H a xs∧∀p,H p=none→Q (.ref p) (upd H p (.lst (qj5 xs lo hi)))
theorem xwt:SlR X (rSlL X.K):=by
 intro pins s σ H x v vl vu lo hi sl Q I rx hs pl pu h
 obtain ⟨a,xs,rfl,hx,q⟩:=h
 cases rx
 obtain ⟨its,r,ht,hz⟩:=I.list hx
 have hlen:=r.length
 refine ⟨"list",_,slot_list_getitem.lookup,ht.isList.typeIs,?_⟩
 refine wpAny_getItem_list_slice ht.isList hs pl pu .none (by simp) ?_ (by rw [aF] <;> lia)
 rw [qvx,←hlen]
 refine ⟨.ref s.heap.objs.size,_,I.laid (t':=s.toks) (o:=.lst (qj5 xs lo hi)) (λb ob q=>ag _ q) (al _) ?_,rfl,q _ (I.hok.fresh (al _))⟩
 exact ⟨bD (qy6 xs lo hi) hz,_,0,(r.drop (HT.sIx xs.length 0 lo)).take (HT.sIx xs.length xs.length hi-HT.sIx xs.length 0 lo),aw _ rfl⟩
theorem xf:j4 X (.builtin "len") (λxs H Q=>∃p ys,xs=[.ref p]∧(SqL X.K H p ys∨SqT X.K H p ys)∧Q (.int ys.length) H):=by
 intro pins s σ H xs us Q I r h
 obtain ⟨p,ys,rfl,hq,q⟩:=h
 obtain ⟨u,rfl,rx⟩:=uh r
 cases rx
 have hn:=Zg
 rcases hq with hq|hq
 ·obtain ⟨its,r',pl,hz⟩:=I.list hq
  have hlen:=r'.length
  exact Calls.call_len_list pl.isList (by simp only [aF] <;> lia) ⟨.int ys.length,H,I.tok _,⟨s.toks+1,by rw [aF,hlen]⟩,q⟩
 ·obtain ⟨its,r',pl,hz⟩:=I.tuple hq
  have hlen:=r'.length
  exact len_tuple pl (by simp only [aF] <;> lia) ⟨.int ys.length,H,I.tok _,⟨s.toks+1,by rw [aF,hlen]⟩,q⟩
theorem uw:j4 X (.builtin "len") (λxs H Q=>∃z,xs=[.str z]∧z.length≤sizeLine∧Q (.int z.length) H):=by
 intro pins s σ H xs us Q I r h
 obtain ⟨z,rfl,hz,q⟩:=h
 obtain ⟨u,rfl,t,rfl⟩:=uh r
 have hn:=Zg
 exact len_str ⋯ ⟨.int z.length,H,I.tok _,⟨_,rfl⟩,q⟩
theorem jd:j4 X (.type "list") (λxs H Q=>∃p ys,xs=[.ref p]∧(SqL X.K H p ys∨SqT X.K H p ys)∧∀l,H l=none→Q (.ref l) (upd H l (.lst ys))):=by
 intro pins s σ H xs us Q I r h
 obtain ⟨p,ys,rfl,hq,q⟩:=h
 obtain ⟨u,rfl,rx⟩:=uh r
 cases rx
 have fin:∀(its:List Ag),Vals ys its→ys.length≤sizeLine→∀(h':Heap) (c':Nat),(∀b o',s.heap.get? b=some o'→h'.get? b=some o') →
   h'.get? s.heap.objs.size=some { cls:=.type "list",dict:=none,data:=.seq its.toArray c',slots:=#[] }→EP X pins σ Q (.ref s.heap.objs.size) { s with heap:=h' }:=λits r' hz h' c' kp e =>
  ⟨.ref s.heap.objs.size,_,I.laid (t':=s.toks) kp (al _) (show ObjOk X.prog X.w _ h' _ (.lst ys) from ⟨hz,its,c',r',e⟩),rfl,q _ (I.hok.fresh (al _))⟩
 rcases hq with hq|hq
 ·obtain ⟨its,r',pl,hz⟩:=I.list hq
  have hlen:=r'.length
  obtain ⟨o,ho,hc,n,hd⟩:=pl.isList
  exact call_list_seq p (.inl rfl) ho hc hd (λh' c' kp e=>fin its r' hz h' c' kp e) (by simp only [aF] <;> lia)
 ·obtain ⟨its,r',pl,hz⟩:=I.tuple hq
  have hlen:=r'.length
  obtain ⟨o,ho,hc,n,hd⟩:=pl
  exact call_list_seq p (.inr rfl) ho hc hd (λh' c' kp e=>fin its r' hz h' c' kp e) (by simp only [aF] <;> lia)
def tyV (K:Aa)(T:String)(x:V)(H:Hp):Prop:=match x with
 |.str _=>T = "str"
 |.int _=>T = "int"
 |.ref p=>(T = "list" ∧ ∃xs,SqL K H p xs)∨(T = "tuple" ∧ ∃o,K.lookup p=some o∧o.cls=.type "tuple" ∧ o.dict=none) ∨
   (T = "dict" ∧ ((∃kvs,H p=some (.dK kvs))∨∃kvs,H p=some (.dT kvs)))∨(T = "set" ∧ ∃S n,H p=some (.set S n))
 |_=>False
theorem wyr {pins:List (Aj×Obj)}{σ:St}{H:Hp}{s:Ab}{T:String}{x:V}{v:Ag}(I:Inv X pins σ H s)(r:RelV x v)(ty:tyV X.K T x H) :
  s.TypeIs v T∧∀a,v=.ref a→∃ob,s.heap.get? a=some ob∧ob.dict=none:=by
 cases x with
 |str z =>
  obtain ⟨t,rfl⟩:=r
  cases (show T = "str" from ty)
  exact ⟨typeIs_str s z t,λ_ e=>nomatch e⟩
 |int i =>
  obtain ⟨t,rfl⟩:=r
  cases (show T = "int" from ty)
  exact ⟨typeIs_int s i t,λ_ e=>nomatch e⟩
 |ref p =>
  cases r
  rcases ty with ⟨rfl,xs,hq⟩|⟨rfl,o,hk,hc,hd⟩|⟨rfl,hk⟩|⟨rfl,S,n,hk⟩
  ·obtain ⟨its,_,pl,_⟩:=I.list hq
   refine ⟨pl.isList.typeIs,λa e=>?_⟩
   cases e
   obtain ⟨o,n,e,c,hd,_⟩:=pl
   exact ⟨o,e,hd⟩
  ·refine ⟨⟨o,I.kIn p o hk,hc⟩,λa e=>?_⟩
   cases e
   exact ⟨o,I.kIn _ o hk,hd⟩
  ·have z:∃o,s.heap.get? p=some o∧o.ExactDict:=by
    rcases hk with ⟨kvs,hk⟩|⟨kvs,hk⟩
    ·obtain ⟨_,_,_,_,o,_,_,e,ex,_⟩:=I.hok p _ hk
     exact ⟨o,e,ex⟩
    ·obtain ⟨_,_,_,_,o,_,_,e,ex,_⟩:=I.hok p _ hk
     exact ⟨o,e,ex⟩
   obtain ⟨o,e,ex⟩:=z
   refine ⟨⟨o,e,ex.1⟩,λa e2=>?_⟩
   cases e2
   exact ⟨o,e,ex.2.1⟩
  ·obtain ⟨o,_,_,_,e,ex,_⟩:=I.hok p _ hk
   refine ⟨⟨o,e,ex.1⟩,λa e2=>?_⟩
   cases e2
   exact ⟨o,e,ex.2.1⟩
 |_=>exact False.elim ty
def tBM0 (K:Aa)(T:String)(r:V→List V→Hp→VK→Prop)(to:TE):TE:=λσ H Q=>to σ H λx H1=>tyV K T x H1∧r x [] H1 Q
def tBM (K:Aa)(T:String)(r:V→List V→Hp→VK→Prop)(to:TE)(t:TA):TE:=λσ H Q=>to σ H λx H1=>tyV K T x H1∧t σ H1 λxs H2=>r x xs H2 Q
variable {o e:Expr}{es:List Expr}{to:TE}{t:TA}{name:Str}{apos cpos:Pos}{T id:String}{r:V→List V→Hp→VK→Prop}
theorem ww2 (pa:PlainAttrs T)(slot:Slot T name id)(hty:typeOf (.builtin id)=pure (.type "method_descriptor"))(hm:MtR X id r)(ho:PE X o to)
  (hbase:autoParam (attributeBase o name X.env (eval o X.env)=eval o X.env) aU4._auto_1) (hline:autoParam ((apos.endLine==cpos.line)=true) aU4._auto_1):PE X (.Call (.Attribute o name apos) [] [] cpos) (tBM0 X.K T r to):=by
 intro pins s σ H Q I h
 refine cW hbase hline (thn (ho pins s σ H _ I h) λv s1 ⟨x,H1,I1,r1,ty,q1⟩=>?_)
 obtain ⟨h1,h2⟩:=wyr I1 r1 ty
 exact ⟨T,id,pa,slot,hty,h1,h2,bB rfl (dC (hm pins s1 σ H1 x [] v [] Q I1 r1 .nil q1))⟩
theorem qvd (pa:PlainAttrs T)(slot:Slot T name id)(hty:typeOf (.builtin id)=pure (.type "method_descriptor"))(hm:MtR X id r)(ho:PE X o to)(ha:PA X (e::es) t)
  (hbase:autoParam (attributeBase o name X.env (eval o X.env)=eval o X.env) aU4._auto_1)
  (hfew:autoParam (((backTo cpos (starEach (e::es) X.env)).all (λx=>!x.1)&&(backToKw cpos (keywordEach [] X.env)).all (λx=>x.1.isSome)
   && decide ((e::es).length+([]:List Keyword).length+(if ([]:List Keyword).isEmpty then 0 else 1)<30))=true) aU4._auto_1)
  (hline:autoParam ((apos.endLine==cpos.line)=true) aU4._auto_1) (hs:autoParam (starEach (e::es) X.env=(false,eval e X.env)::starEach es X.env) aU4._auto_1) (hplain:autoParam ((backTo cpos (starEach es X.env)).any (·.1)=false) aU4._auto_1) :
  PE X (.Call (.Attribute o name apos) (e::es) [] cpos) (tBM X.K T r to t):=by
 intro pins s σ H Q I h
 refine wpAny_Call_method_late hbase hfew hline rfl (thn (ho pins s σ H _ I h) λv s1 ⟨x,H1,I1,r1,ty,q1⟩=>?_)
 obtain ⟨h1,h2⟩:=wyr I1 r1 ty
 refine ⟨T,id,pa,slot,hty,h1,h2,?_⟩
 have hA:=ha cpos pins s1 σ H1 _ I1 q1
 rw [hs] at hA ⊢
 refine bB (by show (false||(backTo cpos (starEach es X.env)).any (·.1))=false;rw [hplain] <;> rfl) (cx ?_)
 exact thn hA λus s2 ⟨vs,H2,I2,r2,q2⟩=>hm pins s2 σ H2 x vs v us Q I2 r1 r2 q2
end
def MtM (X:Cx)(id:String)(r:V→List V→Hp→VK→Prop):Prop :=
 ∀(pins:List (Aj×Obj)) (s:Ab) (σ:St) (H:Hp) (x:V) (xs:List V) (v:Ag) (us:List Ag) (Q:VK),Inv X pins σ H s→RelV x v→Vals xs us→r x xs H Q →
  wpAny (model X.prog X.w) X.A (call (.builtin id) (v::us)) (EP X pins σ Q) X.xe s
theorem Vals.one:∀ {x:V} {us:List Ag},Vals [x] us→∃u,us=[u]∧RelV x u
 |_,_,.cons r .nil=>⟨_,rfl,r⟩
theorem Vals.zero:∀ {us:List Ag},Vals [] us→us=[]
 |_,.nil=>rfl
theorem Vals.dropLast {xs:List V}{us:List Ag}(h:Vals xs us):Vals xs.dropLast us.dropLast:=by
 induction h with
 |nil=>exact .nil
 |cons r t ih =>
  cases t with
  |nil=>exact .nil
  |cons q t'=>exact .cons r ih
theorem wxn {α:Type}(l:List α):l.eraseIdx (l.length-1)=l.dropLast:=by
 induction l with
 |nil=>rfl
 |cons a r ih =>
  cases r with
  |nil=>rfl
  |cons b r =>
   have e:(a::b::r).length-1=((b::r).length-1)+1:=by
    have h1:(a::b::r).length=r.length+2:=rfl
    have h2:(b::r).length=r.length+1:=rfl
    lia
   rw [e,List.eraseIdx_cons_succ,ih]
   all_goals rfl
section
variable {X:Cx}{pins:List (Aj×Obj)}{σ:St}{H:Hp}{s:Ab}{l b:Aj}{xs ys zs:List V}
theorem Inv.lset {its its':List Ag}{n:Nat}{f:Array Ag→Array Ag}{t':Nat}(I:Inv X pins σ H s)(hH:H l=some (.lst xs))
  (e:s.heap.get? l=some { cls:=.type "list",data:=.seq its.toArray n }) (hf:f its.toArray=its'.toArray) (hv:Vals ys its') (hz:ys.length≤sizeLine) :
  Inv X pins σ (upd H l (.lst ys)) { s with heap:=s.heap.update l (Obj.mapSeq f),toks:=t' }:=by
 have q:=PySem.IsL.update e f
 rw [hf] at q
 refine I.write (x:=l) (e:=l) (by rw [hH];exact trivial) (.inl rfl) (λb' u hb hu=>(Heap.get?_update_other s.heap (Obj.mapSeq f) (aV hb)).trans hu) ⟨_,q⟩ ?_
 exact ⟨hz,its',_,hv,q⟩
theorem Inv.lnew {its:List Ag}{t':Nat}(I:Inv X pins σ H s)(hv:Vals ys its)(hz:ys.length≤sizeLine) :
  Inv X pins σ (upd H s.heap.objs.size (.lst ys)) { s with heap:=s.heap.push { cls:=.type "list",data:=.seq its.toArray },toks:=t' } :=
 I.laid (λ_ _ q=>ag _ q) (al _) ⟨hz,its,0,hv,aw _ rfl⟩
theorem Inv.fresh (I:Inv X pins σ H s):H s.heap.objs.size=none:=I.hok.fresh (al _)
theorem Inv.lstM (I:Inv X pins σ H s)(hH:H l=some (.lst xs)):xs.length≤sizeLine∧∃(its:List Ag) (n:Nat),Vals xs its∧xs.length=its.length∧s.heap.get? l=some { cls:=.type "list",data:=.seq its.toArray n }:=by
 obtain ⟨z,its,n,r,e⟩:=I.hok l _ hH
 exact ⟨z,its,n,r,r.length,e⟩
end
section
variable {X:Cx}
def xqt:V→List V→Hp→VK→Prop:=λx vs H Q=>∃l xs y,x=.ref l∧vs=[y]∧H l=some (.lst xs)∧xs.length<sizeLine∧Q .non (upd H l (.lst (xs++[y])))
theorem yq:MtM X "list.append" xqt:=by
 intro pins s σ H x vs v us Q I rx rv h
 obtain ⟨l,xs,y,rfl,rfl,hH,hz,q⟩:=h
 cases rx
 obtain ⟨u,rfl,ru⟩:=rv.one
 obtain ⟨z,its,n,r,hl,e⟩:=I.lstM hH
 refine call_meets F.slot_list_append ⟨_,e,rfl⟩ F.entry_list_append (F.args_list_append_2 _ _) (PySem.list_append l its.toArray n u (by rw [aF];lia)) ⟨e,?_⟩
 refine ⟨.non,_,I.lset (its':=its++[u]) hH e (by simp) (r.append (.cons ru .nil)) ?_,rfl,q⟩
 rw [aP,List.length_singleton]
 lia
def rPop:V→List V→Hp→VK→Prop:=λx vs H Q=>∃l xs y,x=.ref l∧vs=[]∧H l=some (.lst xs)∧xs[xs.length-1]?=some y∧Q y (upd H l (.lst xs.dropLast))
theorem wwm:MtM X "list.pop" rPop:=by
 intro pins s σ H x vs v us Q I rx rv h
 obtain ⟨l,xs,y,rfl,rfl,hH,hy,q⟩:=h
 cases rx
 have hus:=rv.zero
 subst hus
 obtain ⟨z,its,n,r,hl,e⟩:=I.lstM hH
 obtain ⟨u,hu,ru⟩:=r.get hy
 have hy':its.toArray[its.toArray.size-1]?=some u:=by
  show its.toArray[its.length-1]?=some u
  rw [←ck,←hl]
  exact hu
 refine call_meets F.slot_list_pop ⟨_,e,rfl⟩ F.entry_list_pop (F.args_list_pop_1 _) (MeetsSeq.list_pop_last l its.toArray n u hy' (by rw [aF];lia)) ⟨e,?_⟩
 refine ⟨y,_,I.lset (its':=its.dropLast) hH e ?_ r.dropLast ?_,ru,q⟩
 ·show its.toArray.eraseIdxIfInBounds (its.toArray.size-1)=its.dropLast.toArray
  rw [aF,List.eraseIdxIfInBounds_toArray,wxn]
 ·rw [List.length_dropLast]
  lia
def rCat:R2:=λx y H Q=>∃l b xs zs,x=.ref l∧y=.ref b∧H l=some (.lst xs)∧H b=some (.lst zs)∧xs.length+zs.length≤sizeLine∧∀p,H p=none→Q (.ref p) (upd H p (.lst (xs++zs)))
theorem op_cat:OpR X (binaryOp .Add) rCat:=by
 intro pins s σ H x y v u Q I rx ry h
 obtain ⟨l,b,xs,zs,rfl,rfl,hH,hB,hz,q⟩:=h
 cases rx
 cases ry
 obtain ⟨z,its,n,r,hl,e⟩:=I.lstM hH
 obtain ⟨z2,its2,n2,r2,hl2,e2⟩:=I.lstM hB
 refine PySem.P.add_list e e2 ?_ (by rw [aF,aF];lia)
 have ea:its.toArray++its2.toArray=(its++its2).toArray:=by simp
 rw [ea]
 exact ⟨.ref _,_,I.lnew (t':=s.toks) (r.append r2) (by rw [aP];lia),rfl,q _ I.fresh⟩
end
section
variable {prog:Ac}{w:Ah}{A:Ae}{E:Ag→Ab→Prop}{s:Ab}
end
section
variable {X:Cx}
end
end L2
namespace Att
open PySem PySem.W PySem.Calls PyProof.Rows
theorem Jh {P:Params}{h:Heap}:∀(ns:List Int) (vs:List Ag),WellAll P h vs (ns.map WData.int)→IntsAre vs ns:=by
 intro ns
 induction ns with
 |nil =>
  intro vs w
  rw [bI] at w
  cases w
  exact .nil
 |cons n ns ih =>
  intro vs w
  rw [aC] at w
  cases w with
  |cons a b =>
   cases a
   exact .cons _ _ (ih _ b)
theorem wvg {l:OpenLaw}{n:Nat}(hn:l.most=some n){P:Params}{h:Heap}{args:List WData}{vals:List Ag}
  (hpre:l.row.toRowW.claim.pre args=true) (hwl:WellAll P h vals args) :
  ∃a vs ns,vals=[Value.ref a]∧args=[WData.list (ns.map WData.int)]∧h.get? a=some { cls:=.type "list",data:=.seq vs.toArray }∧IntsAre vs ns∧ns.length≤n:=by
 have hsh:WShape.hasAll [] args [.list .int]=true:=(pre_splitW hpre).1
 have hc:l.pre.holds [] { args:=args }=true:=(pre_splitW hpre).2
 obtain ⟨d,r,rfl,h1,h2⟩:=hasAllW_cons hsh
 obtain rfl:=hasAllW_nil h2
 obtain ⟨xs,rfl,h3⟩:=hasW_list h1
 obtain ⟨ns,rfl⟩:=items_int h3
 have hlen:ns.length≤n:=by
  unfold OpenLaw.pre at hc
  have h4:(WTm.not (.lt (.lit (.int (n:Int))) (.len (.arg 0)))).holds [] { args:=[.list (ns.map .int)] }=true:=by
   have h4:=(holds_andW hc).1
   rw [hn] at h4
   exact h4
  have h5:=condW_of h4 (w_not (w_lt w_lit (w_len_list (w_arg rfl))))
  rw [aa] at h5
  refine Nat.le_of_not_lt λq=>?_
  have q':(n:Int)<((ns.length:Nat):Int):=by lia
  first
   |(rw [aX q'] at h5;exact absurd h5 ⋯)
   |(simp at h5;lia)
 cases hwl with
 |cons w1 w2 =>
  cases w2
  cases w1 with
  |list ho hall=>exact ⟨_,_,ns,rfl,rfl,ho,Jh ns _ hall,hlen⟩
theorem wvd (l:OpenLaw)(args:List WData):l.row.toRowW.claim.post args (.bool true) args=true :=
 postW_of (r:=l.row.toRowW) (X:=(true==true))
  (show WShape.has [] (.bool true) .bool=true by first | rfl | decide | simp [WShape.has,WShape.arms,WShape.armsAll])
  (show (WTm.eq .res (.lit (.bool true))).value [] { args:=args,res:=some (.bool true),after:=args }=some (.bool (true==true)) from w_eq_bool (w_res rfl) w_lit) rfl
theorem attach_call {l:OpenLaw}{n:Nat}{q:Ac}{loose:List Str}{XP:(Str→Option Ag)→Heap→Prop}{YP:Ah→Heap→Prop}{d:DefRec}
  (hn:l.most=some n) (hdf:d.params.defaults=[])
  (call:∀(w:Ah) (s₀ s₁:Ab) (mg mb:Str→Option Ag) (fa:Aj) (o:Obj) (pm cd doc:Ag) (a:Aj) (vs:List Ag) (ns:List Int),
   Ground q loose [] XP w s₀ mg mb s₁.heap→YP w s₁.heap →
   s₁.heap.get? fa=some o→o.data=.func (docDef d.name d.params d.body d.scope pm cd doc)→s₁.heap.CodeRec cd d.name→mg d.name=some (.ref fa) →
   s₁.heap.get? a=some { cls:=.type "list",data:=.seq vs.toArray }→IntsAre vs ns→ns.length≤n→s₁.gens=#[] →
   codeAny (model l.prog w) callerA (.call (.ref fa) ⟨[.ref a],[]⟩) (λr s'=>r=.ok (.ret (.bool true))∧OldK s₁.heap s'.heap∧s'.os=s₁.os∧AllBare s'.gens) s₁) :
  WalkO q loose XP YP l.row.toRowW d [] (λf vs=>PySem.call f vs):=by
 intro w s₀ s₁ mg mb G Y fa o pm cd doc dV kV ho hd hcd hD hmg hg args vals as hpre hlay hrd hwl hlo
 obtain rfl:dV=.none:=Dflts.none hD hdf
 obtain rfl:kV=.none:=Dflts.noKw hD
 obtain ⟨a,vs,ns,rfl,rfl,hobj,hints,hlen⟩:=wvg hn hpre hwl
 refine enter_call (dQ (call w s₀ s₁ mg mb fa o pm cd doc a vs ns G Y ho (fd_plain hd) hcd hmg hobj hints hlen hg) λr s' hq=>?_)
 obtain ⟨rfl,h2,h3,h4⟩:=hq
 exact ⟨.inl ⟨.bool true,.bool true,[],rfl,λ_=>rfl,.bool true,wvd l _,λ_=>⟨List.Pairwise.nil,λ_ hm=>(nomatch hm)⟩⟩,h2,h3,h4⟩
section
variable {prog:Ac}{w:Ah}{A:Ae}{E:Ag→Ab→Prop}{s:Ab}{K:Frag}
end
end Att
namespace L2
open PySem PySem.Spec PyProof.Rows
theorem qv8:∀ {vs:List Ag} {ns:List Int},IntsAre vs ns→Vals (ns.map V.int) vs
 |_,_,.nil=>.nil
 |_,_,.cons n t h=>.cons ⟨t,rfl⟩ (qv8 h)
def Only (H:Hp):Prop:=∀b,H b=none∨∃o xs,H b=some (.frz o (.lst xs))
theorem wj0 {P:Ac}{w:Ah}{K:Aa}{mg mb:Str→Option Ag}{CX:CXT}{k:Nat}{fa a:Aj}{fd:Ad}{x:Str}{sp:Sp}{s₁:Ab}{vs:List Ag}{ns:List Int}
  (KX:K.In s₁.heap) (hns:s₁.heap.Ns mainGlobals mg) (hb:s₁.heap.Ns builtinsNs mb) (hbb:∀x:Str,x ≠ "__name__" → mb x=bootBuiltins x) (hlim:s₁.heap.NoLimit) (hg:s₁.gens=#[])
  (ha:s₁.heap.get? a=some { cls:=.type "list",data:=.seq vs.toArray }) (hi:IntsAre vs ns) (hl:ns.length≤sizeLine) (hr:Room k callerA)
  (F:∀base:Heap,K.In base→base.Ns mainGlobals mg→FnOk P w K mg base CX k fa fd [x] sp) (hbind:∀(s:Ab) (u:Ag),BindsTo s fd ⟨[u],[]⟩ [(x,u)])
  (hsp:∀H:Hp,Only H→SqL K H a (ns.map V.int)→sp [.ref a] H (λv _=>v=.bl true) λ_ _ _=>False)
  (hCX:∀H e s',CX [] H s₁ (λ_ _ _=>False) e s'→False) :
  codeAny (model P w) callerA (.call (.ref fa) ⟨[.ref a],[]⟩) (λr s'=>r=.ok (.ret (.bool true))∧OldK s₁.heap s'.heap∧s'.os=s₁.os∧AllBare s'.gens) s₁:=by
 have rv:=qv8 hi
 have lenV:=hi.length
 have core:∀H:Hp,Only H→SqL K H a (ns.map V.int)→HOk P w H s₁.heap→(∀b,H b≠none→b=a)→(H a≠none→K.lookup a=none) →
   codeAny (model P w) callerA (.call (.ref fa) ⟨[.ref a],[]⟩) (λr s'=>r=.ok (.ret (.bool true))∧OldK s₁.heap s'.heap∧s'.os=s₁.os∧AllBare s'.gens) s₁:=by
  intro H hO hS hok hA hK
  have base_of:∀ {b:Aj} {o:Obj},s₁.heap.get? b=some o→H b=none→(qjb s₁.heap H).get? b=some o:=λe n=>wjs e n
  have noA:∀ {b:Aj} {o:Obj} {es:Array DictEntry} {ep:Nat},s₁.heap.get? b=some o→o.data=.dict es ep→H b=none:=λ{b o es ep} e d=>by
   cases q:H b with
   |none=>rfl
   |some u =>
    have e':b=a:=hA b (by rw [q];simp)
    subst e'
    rw [ha] at e;cases e
    have d':Data.seq vs.toArray _=Data.dict es ep:=d
    cases d'
  have nsK:∀ {b:Aj} {m:Str→Option Ag},s₁.heap.Ns b m→(qjb s₁.heap H).Ns b m:=λ{b m} ⟨o,es,ep,e,d,r⟩=>⟨o,es,ep,base_of e (noA e d),d,r⟩
  have hKb:K.In (qjb s₁.heap H):=λb o e=>base_of (KX b o e) (by
   cases q:H b with
   |none=>rfl
   |some u =>
    have e':b=a:=hA b (by rw [q];simp)
    subst e'
    rw [hK (by rw [q];simp)] at e;cases e)
  have hM:Mod K mg (qjb s₁.heap H):=⟨hKb,nsK hns,⟨mb,nsK hb,hbb⟩,let ⟨mc,h1,h2⟩:=hlim;⟨mc,nsK h1,h2⟩⟩
  have e0:Env0 P w K mg (qjb s₁.heap H) callerA [] s₁ H:=⟨rfl,hM,λb o e=>xq4 e,Nat.le_of_eq (wkp _ _),trivial,λb hb=>absurd (show b∈([]:List Aj) from hb) (by simp),hok,.of_eq hg⟩
  refine dQ ((F _ hKb (nsK hns)).run callerA [] s₁ H ⟨[.ref a],[]⟩ [.ref a] [.ref a] _ _ hr e0 (hbind s₁ (.ref a)) (.cons rfl .nil) (hsp H hO hS)) λr s' h=>?_
  cases r with
  |error e=>exact (hCX H e s' h).elim
  |ok fl =>
   cases fl with
   |next=>exact False.elim h
   |brk=>exact False.elim h
   |cont=>exact False.elim h
   |ret u =>
    obtain ⟨v,H',os,bare,un,hok',r',q⟩:=h
    have q':v=.bl true:=q
    subst q'
    obtain rfl:u=Value.bool true:=r'
    refine ⟨rfl,OldK.of_keep λb o e=>?_,os,bare⟩
    cases q:H b with
    |none=>exact un.keep b o e q (by intro z;exact absurd (show b∈([]:List Aj) from z) (by simp)) (by simp)
    |some u =>
     rcases hO b with z|⟨ob,xs,z⟩
     ·rw [q] at z;cases z
     ·have z2:=un.frzs b ob _ z
      obtain ⟨e1,_⟩:=hok b _ z
      obtain ⟨e2,_⟩:=hok' b _ z2
      rw [e] at e1;cases e1
      exact e2
 cases hk:K.lookup a with
 |some o =>
  have e:=KX a o hk
  rw [ha] at e
  cases e
  refine core (λ_=>none) (λ_=>.inl rfl) (.inr ⟨_,vs.toArray,_,hk,rfl,rfl,rfl,by rw [aF,lenV];exact hl,by simpa using rv⟩) (λb u z=>by have z':(none:Option HO)=some u:=z;cases z') (λb z=>absurd rfl z) λz=>absurd rfl z
 |none =>
  refine core (λb=>if b=a then some (.frz { cls:=.type "list",data:=.seq vs.toArray } (.lst (ns.map V.int))) else none) (λb=>?_) (.inl (.inr ⟨{ cls:=.type "list",data:=.seq vs.toArray },ak rfl⟩)) (λb u z=>?_) (λb z=>?_) λ_=>hk
  ·by_cases hb:b=a
   ·exact .inr ⟨_,_,ak hb⟩
   ·exact .inl (ai hb)
  ·by_cases hb:b=a
   ·have z':=(ak hb).symm.trans z
    cases z'
    subst hb
    exact ⟨ha,by rw [aa];exact hl,vs,_,rv,ha⟩
   ·have z':=(ai hb).symm.trans z
    cases z'
  ·by_cases hb:b=a
   ·exact hb
   ·exact absurd (ai hb) z
theorem xwy {l:W.OpenLaw}{n k:Nat}{q:Ac}{loose:List Str}{XP:(Str→Option Ag)→Heap→Prop}{YP:Ah→Heap→Prop}{d:DefRec}{K:Params→Aa}{CX:Ah→CXT}{sp:Ah→Sp}{x:Str}
  (hn:l.most=some n) (hn2:n≤sizeLine) (hdf:d.params.defaults=[]) (hr:Room k callerA)
  (hY:∀(w:Ah) (h:Heap),YP w h→(K w.params).In h)
  (F:∀(w:Ah) (mg:Str→Option Ag) (fa:Aj) (h:Heap),(K w.params).In h→h.Ns mainGlobals mg→mg d.name=some (.ref fa) →
   ∃fd:Ad,(∀(s:Ab) (u:Ag),BindsTo s fd ⟨[u],[]⟩ [(x,u)]) ∧
    ∀base:Heap,(K w.params).In base→base.Ns mainGlobals mg→FnOk l.prog w (K w.params) mg base (CX w) k fa fd [x] (sp w))
  (hsp:∀(w:Ah) (H:Hp) (a:Aj) (ns:List Int),ns.length≤n→Only H→SqL (K w.params) H a (ns.map V.int)→sp w [.ref a] H (λv _=>v=.bl true) λ_ _ _=>False)
  (hCX:∀(w:Ah) (H:Hp) (s:Ab) (e:Ag) (s':Ab),CX w [] H s (λ_ _ _=>False) e s'→False) :
  W.WalkO q loose XP YP l.row.toRowW d [] (λf vs=>PySem.call f vs):=by
 refine Att.attach_call hn hdf λw s₀ s₁ mg mb fa o pm cd doc a vs ns G Y ho hd hcd hmg hobj hints hlen hg=>?_
 have KX:=hY w _ Y
 obtain ⟨fd,hb,hF⟩:=F w mg fa _ KX G.T.g hmg
 exact wj0 KX G.T.g G.T.b G.T.builtins G.T.nolimit hg hobj hints (bD hlen hn2) hr hF hb (λH hO hS=>hsp w H a ns hlen hO hS) λH e s'=>hCX w H s₁ e s'
def zd (s:Stmt)(j:Nat):Stmt:=match s with
 |.ClassDef _ _ _ body _ _ _ _ _ _ _=>body.getD j (.Pass ⟨0,0,0,0⟩)
 |_=>.Pass ⟨0,0,0,0⟩
def yx (s:Stmt):Arguments:=match s with
 |.FunctionDef _ a _ _ _ _ _ _ _ _=>a
 |_=>{ posonlyargs:=[],args:=[],vararg:=none,kwonlyargs:=[],kw_defaults:=[],kwarg:=none,defaults:=[] }
def jc (s:Stmt):List Stmt:=match s with
 |.FunctionDef _ _ b _ _ _ _ _ _ _=>b
 |_=>[]
def wg (s:Stmt):Scope:=match s with
 |.FunctionDef _ _ _ _ _ _ sc _ _ _=>sc
 |_=>{ kind:=.function,names:=[],isGenerator:=false,isCoroutine:=false }
abbrev E0:XK:=λ_ _ _=>False
structure Fun (K:Aa)(x qual:Str)(st:Stmt)(f:Aj)(fd:Ad):Prop where
 ex:∃(oc:Ag) (od:Option Aj) (kV doc pm:Ag) (an:Option Aj) (cdv ct:Ag) (osl:Array (Option Ag)),
  fd=W.fnOf x qual (yx st) (jc st) (wg st) .none kV doc pm an cdv ct∧K.lookup f=some ⟨oc,od,.func fd,osl⟩∧W.codeIn K cdv qual=true
 kp:W.keepIn K (.ref f)=true
section
variable {P:Ac}{w:Ah}{K:Aa}{mg:Str→Option Ag}{base:Heap}
theorem Fun.binds {x qual:Str}{st:Stmt}{f:Aj}{fd:Ad}{ps:List Str}(F:Fun K x qual st f fd)
  (h:∀(kV doc pm:Ag) (an:Option Aj) (cdv ct:Ag) (us:List Ag),us.length=ps.length→bindArgs (W.fnOf x qual (yx st) (jc st) (wg st) .none kV doc pm an cdv ct) ⟨us,[]⟩=pure (ps.zip us)):Binds K fd ps []:=by
 obtain ⟨oc,od,kV,doc,pm,an,cdv,ct,osl,rfl,lk,hcd⟩:=F.ex
 exact .all (h kV doc pm an cdv ct)
theorem wyf {x qual:Str}{st:Stmt}{f:Aj}{oc:Ag}{od an:Option Aj}{osl:Array (Option Ag)}{kV doc pm cdv ct:Ag}(l:K.lookup f=some ⟨oc,od,.func (W.fnOf x qual (yx st) (jc st) (wg st) .none kV doc pm an cdv ct),osl⟩)
  (c:W.codeIn K cdv qual=true) (k:W.keepIn K (.ref f)=true):Fun K x qual st f (W.fnOf x qual (yx st) (jc st) (wg st) .none kV doc pm an cdv ct):=⟨⟨oc,od,kV,doc,pm,an,cdv,ct,osl,rfl,l,c⟩,k⟩
end
theorem vj {A:Ae}{k:Nat}(hr:Room k A):A.units+1<cLine:=dI (Nat.add_le_add_left (by decide:1≤64) _) hr.units
theorem wkx {n:Nat}(h:n≤1000):n<sizeLine:=dI h ⋯
section
variable {X:Cx}
theorem pv (i:Nat){x:Str}{pos:Pos}(hN:autoParam (X.N[i]?=some x) aU4._auto_1)(hv:Vis X.env.scope x:=by walk_at "vs")(hd:autoParam ((x==("__debug__" : Str))=false) aU1._auto_1)
  (hcd:autoParam ((x==("__classdict__" : Str))=false) aU1._auto_1):PE X (.Name x pos) (tVar i):=pe_var hN hv hd hcd
end
theorem vg {A B:Prop}(h:B):if false=true then A else B:=by
 rw [ai aI]
 exact h
theorem jj {A B:Prop}(h:A):if true=true then A else B:=by
 rw [ak rfl]
 exact h
def Same (H H':Hp):Prop:=∀b o,H b=some o→H' b=some o
theorem Same.refl (H:Hp):Same H H:=λ_ _ h=>h
theorem Same.trans {H H1 H2:Hp}(a:Same H H1)(b:Same H1 H2):Same H H2:=λc o h=>b c o (a c o h)
theorem Same.seq {K:Aa}{H H':Hp}{a:Aj}{xs:List V}(e:Same H H')(h:SqL K H a xs):SqL K H' a xs:=by
 rcases h with (h|⟨o,h⟩)|h
 ·exact .inl (.inl (e _ _ h))
 ·exact .inl (.inr ⟨o,e _ _ h⟩)
 ·exact .inr h
theorem nin {b:Aj}:b∉([]:List Aj):=λz=>nomatch z
theorem qyc {K:Aa}{h:Heap}{C:Aj}{bmB:List Ag}{newId:String}(X:K.In h)(q:W.excIn K C bmB newId=true) :
  ∃tl N a1 a2 a3 a4 a5 a6 a7 a8 a9 b0 b1 b2 b3 b5 mN,h.get? C=some (excClassObj a1 a2 C N a3 tl a4 a5 a6 a7 a8 a9 b0 b1 b2 b3 b5 newId) ∧
   h.Ns N mN∧mN "__init__" = none∧OwnTail h bmB tl:=by
 unfold W.excIn at q
 split at q
 ·next dd cd sl ho =>
  split at q
  ·next C1 tl x0 x1 x2 x3 nn x5 hm hs =>
   rw [bA,bA,bA,bA,bA] at q
   obtain ⟨⟨⟨⟨⟨p1,p2⟩,p3⟩,p4⟩,p5⟩,p6⟩:=q
   have p1':=eq_of_beq p1
   have p2':=eq_of_beq p2
   have p6':=eq_of_beq p6
   have p3':cd.hasDel=false:=by simpa using p3
   subst p1' p2'
   obtain ⟨f1,f2,f3,f4,f5,f6,f7,f8,f9,f10,f11⟩:=cd
   have hm':f3=Value.ref C1::tl:=hm
   have p3'':f11=false:=p3'
   subst hm' p3''
   have hsl:sl=#[x0,x1,x2,x3,some (.builtin nn),x5]:=by
    cases sl with
    |mk l =>
     have:l=[x0,x1,x2,x3,some (.builtin nn),x5]:=hs
     rw [this]
   subst hsl
   have nsok:=W.isNs_of_in X p5
   exact ⟨tl,f4,f1,f5,f2,f6,f7,f8,f9,f10,dd,x0,x1,x2,x3,x5,_,X _ _ ho,.of_isNs nsok,W.nsMap_none_of_in X p5 p6',W.tail_of_in X p4⟩
  ·exact absurd q ⋯
 ·exact absurd q ⋯
def CXE (P:Ac)(w:Ah):CXT:=λouter H s E e s' =>
 ∃(a C:Aj) (a0:Ag) (B:Heap) (H':Hp),e=.ref a∧s'.os=s.os∧AllBare s'.gens∧Un (frs outer) [] H H' s.heap s'.heap∧HOk P w H' B ∧
  Heap.FlyingW B outer a (.ref C) a0 s'.heap∧(∀b o,s.heap.get? b=some o→b∉frs outer→∃o',B.get? b=some o'∧(H b=none→o'=o))∧E (.ref C) none H'
theorem CXE.no {P:Ac}{w:Ah}{outer:List Env}{H:Hp}{s s':Ab}{e:Ag}(h:CXE P w outer H s E0 e s'):False:=by
 obtain ⟨_,_,_,_,_,_,_,_,_,_,_,_,q⟩:=h
 exact q
def y6 (X:Cx)(E:St→XK):Prop:=∀(pins:List (Aj×Obj)) (σ:St) (H:Hp) (s:Ab) (e:Ag) (s':Ab),Inv X pins σ H s→CXE X.prog X.w X.stack H s (E σ) e s'→X.xe e s'
theorem qjd {X:Cx}:y6 X (λ_=>E0):=λ_ _ _ _ _ _ _ h=>h.no.elim
def wjq (X:Cx)(E:St→XK):Prop:=∀(pins:List (Aj×Obj)) (σ:St) (H:Hp) (s:Ab) (h':Heap) (e C:Aj) (vs:List Ag),Inv X pins σ H s→Heap.MadeExcOf s.heap h' e (.ref C) vs→E σ (.ref C) none H→X.xe (.ref e) { s with heap:=h' }
theorem wqp {env:Env}{L:Aj}{outer:List Env}(h:env.frame=some L):frs (env::outer)=L::frs outer:=by
 unfold frs
 rw [dB,h]
section
variable {P:Ac}{w:Ah}{K:Aa}{mg:Str→Option Ag}{base:Heap}{N:List Str}{qual:Str}{scope:Scope}{f:Aj}{cdv:Ag}{A:Ae}{outer:List Env}{s0:Ab}{H0:Hp}{E:XK}
theorem qf:y6 (ug (CXE P w) P w K mg base N qual scope f cdv A outer s0 H0 E) (λ_=>E):=by
 intro pins σ H s e s' I hx
 obtain ⟨a,C,a0,B,H',rfl,hos,hba,un,hokB,hfl,old,q⟩:=hx
 have ub:=I.base
 have hL:∀b o,s0.heap.get? b=some o→b≠s0.heap.objs.size:=λb o e z=>aQ _ (z▸am e)
 have hfs:frs (envOfC qual scope s0.heap.objs.size f cdv::outer)=s0.heap.objs.size::frs outer:=wqp rfl
 have hmem:∀b o,s0.heap.get? b=some o→b∉frs outer→b∉frs (envOfC qual scope s0.heap.objs.size f cdv::outer):=λb o e n=>by
  rw [hfs]
  intro z
  rcases ae.mp z with z|z
  ·exact hL b o e z
  ·exact n z
 have hold:∀b o,s0.heap.get? b=some o→b∉frs outer→∃o',B.get? b=some o'∧(H0 b=none→o'=o):=λb o e n=>by
  obtain ⟨o1,e1⟩:=ub.there b o e nin
  obtain ⟨o2,e2,e3⟩:=old b o1 e1 (hmem b o e n)
  refine ⟨o2,e2,λz=>?_⟩
  have e4:=ub.keep b o e z n nin
  have e5:=ub.free b o e z nin
  rw [e1] at e4
  rw [e3 e5]
  exact av e4
 refine wpAny_leaves_onW I.ok.frames rfl hfl λh' hf' hup=>?_
 have toH:∀b,b∈frs outer→∀o,s0.heap.get? b=some o→H0 b=none→∃sl,h'.get? b=some { o with slots:=sl }:=λb hb o e n=>by
  obtain ⟨sl,e1⟩:=ub.slot b o e n hb nin
  obtain ⟨sl2,e2⟩:=un.slot b _ e1 (ub.free b o e n nin) (by show b∈frs (envOfC qual scope s0.heap.objs.size f cdv::outer);rw [hfs];exact .tail _ hb) nin
  obtain ⟨_,o3,e3,nf⟩:=hfl.2.2.1.mem (b:=b) (by show b∈frs (envOfC qual scope s0.heap.objs.size f cdv::outer);rw [hfs];exact .tail _ hb)
  obtain ⟨sl4,e4⟩:=hup b o3 e3 nf
  rw [e2] at e3
  have e5:=av e3
  exact ⟨sl4,by rw [e4,←e5]⟩
 refine ⟨a,C,a0,B,H',rfl,hos.trans I.os,hba,⟨λb o e n nb _=>?_,λb o e n hb _=>toH b hb o e n,λb o e n _=>?_,λb o e _=>?_,λb xs e=>un.tups b xs (ub.tups b xs e),λb o u e=>un.frzs b o u (ub.frzs b o u e),λb ps e=>?_⟩,hokB,hf',hold,q⟩
 ·obtain ⟨o',e1,e2⟩:=hold b o e nb
  rw [e2 n] at e1
  exact hf'.1 b o e1
 ·obtain ⟨o1,e1⟩:=ub.there b o e nin
  exact un.free b o1 e1 (ub.free b o e n nin) nin
 ·by_cases hb:b∈frs outer
  ·obtain ⟨o1,e1⟩:=ub.there b o e nin
   obtain ⟨o2,e2⟩:=un.there b o1 e1 nin
   obtain ⟨_,o3,e3,nf⟩:=hfl.2.2.1.mem (b:=b) (by show b∈frs (envOfC qual scope s0.heap.objs.size f cdv::outer);rw [hfs];exact .tail _ hb)
   obtain ⟨sl4,e4⟩:=hup b o3 e3 nf
   exact ⟨_,e4⟩
  ·obtain ⟨o',e1,_⟩:=hold b o e hb
   exact ⟨o',hf'.1 b o' e1⟩
 ·obtain ⟨m1,e1⟩:=ub.tbls b ps e
  obtain ⟨m2,e2⟩:=un.tbls b _ e1
  exact ⟨m1++m2,by rw [e2,Array.append_assoc]⟩
theorem zr:wjq (ug (CXE P w) P w K mg base N qual scope f cdv A outer s0 H0 E) (λ_=>E):=by
 intro pins σ H s h' e C vs I hx q
 have ub:=I.base
 have hfs:frs (envOfC qual scope s0.heap.objs.size f cdv::outer)=s0.heap.objs.size::frs outer:=wqp rfl
 have hmem:∀b o,s0.heap.get? b=some o→b∉frs outer→b∉frs (envOfC qual scope s0.heap.objs.size f cdv::outer):=λb o e n=>by
  rw [hfs]
  intro z
  rcases ae.mp z with z|z
  ·exact aQ _ (z▸am e)
  ·exact n z
 have hfree:∀b∈frs (envOfC qual scope s0.heap.objs.size f cdv::outer),H b=none:=I.stkFree
 have hB:∀b o,s.heap.get? b=some o→b∉frs (envOfC qual scope s0.heap.objs.size f cdv::outer)→(W.hideAll s.heap (frs (envOfC qual scope s0.heap.objs.size f cdv::outer))).get? b=some o:=λb o e n=>W.hideAll_get _ e n
 have hokB:HOk P w H (W.hideAll s.heap (frs (envOfC qual scope s0.heap.objs.size f cdv::outer))):=λb u hb=>by
  refine (I.hok b u hb).stay (λc v hc ec=>hB c v ec λhm=>?_) (λ_ z=>z) (λ_ _ z=>z)
  have hn:=hfree c hm
  rcases hc with rfl|hc
  ·rw [hn] at hb;cases hb
  ·rw [hn] at hc;cases hc
 have hold:∀b o,s0.heap.get? b=some o→b∉frs outer→∃o',(W.hideAll s.heap (frs (envOfC qual scope s0.heap.objs.size f cdv::outer))).get? b=some o'∧(H0 b=none→o'=o):=λb o e n=>by
  obtain ⟨o1,e1⟩:=ub.there b o e nin
  refine ⟨o1,hB b o1 e1 (hmem b o e n),λz=>?_⟩
  have e4:=ub.keep b o e z n nin
  rw [e1] at e4
  exact av e4
 have hst:s.heap.FunFrames base (envOfC qual scope s0.heap.objs.size f cdv::outer):=I.stack
 have hff:=W.funFrames_hide (as:=frs (envOfC qual scope s0.heap.objs.size f cdv::outer)) hst (λenv he b hb=>eX.mpr ⟨env,he,hb⟩)
 refine wpAny_leaves_madeW (base:=W.hideAll s.heap (frs (envOfC qual scope s0.heap.objs.size f cdv::outer))) (h:=s.heap) I.ok.frames rfl (λb o e=>W.of_hideAll _ e) hff hx λh'' t hf' _ _ hup=>?_
 have toF:∀b,b∈frs outer→∃o,s.heap.get? b=some o∧∃sl,h''.get? b=some { o with slots:=sl }:=λb hb=>by
  obtain ⟨_,o3,e3,nf⟩:=hst.mem (b:=b) (by show b∈frs (envOfC qual scope s0.heap.objs.size f cdv::outer);rw [hfs];exact .tail _ hb)
  exact ⟨o3,e3,hup b o3 (hx.keeps b o3 e3) nf⟩
 refine ⟨e,C,.ref t,_,H,rfl,I.os,I.bare,⟨λb o e1 n nb _=>?_,λb o e1 n hb _=>?_,λb o e1 n _=>ub.free b o e1 n nin,λb o e1 _=>?_,ub.tups,ub.frzs,ub.tbls⟩,hokB,hf',hold,q⟩
 ·obtain ⟨o',e2,e3⟩:=hold b o e1 nb
  rw [e3 n] at e2
  exact hf'.1 b o e2
 ·obtain ⟨sl,e2⟩:=ub.slot b o e1 n hb nin
  obtain ⟨o3,e3,sl3,e4⟩:=toF b hb
  rw [e2] at e3
  have e5:=av e3
  exact ⟨sl3,by rw [e4,←e5]⟩
 ·by_cases hb:b∈frs outer
  ·obtain ⟨o3,e3,sl3,e4⟩:=toF b hb
   exact ⟨_,e4⟩
  ·obtain ⟨o',e2,_⟩:=hold b o e1 hb
   exact ⟨o',hf'.1 b o' e2⟩
end
section
variable {P:Ac}{w:Ah}{K:Aa}{mg:Str→Option Ag}{base:Heap}
end
def wwj (sp:Sp)(E:St→XK)(t:TA):TE:=λσ H Q=>t σ H λvs H1=>sp vs H1 Q (E σ)
def qxz (C:Aj)(m:Str)(sp:Sp)(E:St→XK)(ta:TE)(t:TA):TE:=λσ H Q=>ta σ H λx H1=>∃a dx fs,x=.ref a∧H1 a=some (.ins C dx fs)∧fs.lookup m=none ∧
 t σ H1 λvs H2=>sp (x::vs) H2 Q (E σ)
def wwf (C:Aj)(sp:Sp)(E:St→XK)(t:TA):TE:=λσ H Q=>t σ H λvs H1=>∀x dx,H1 x=none→H1 dx=none→dx≠x →
 sp (.ref x::vs) (upd (upd H1 dx (.own x)) x (.ins C dx [])) (λv H2=>v=.non∧Q (.ref x) H2) (E σ)
section
variable {X:Cx}{k:Nat}{f C:Aj}{fd:Ad}{ps:List Str}{sp:Sp}{E:St→XK}{x m:Str}{p pos apos:Pos}{e o:Expr}{es:List Expr}{ta:TE}{t:TA}
theorem qjf {pins:List (Aj×Obj)}{σ:St}{H:Hp}{s:Ab}{Q:VK}{us:List Ag}{vs:List V}(F:FnOk X.prog X.w X.K X.mg X.base (CXE X.prog X.w) k f fd ps sp)(hr:Room k X.A)(hb:Binds X.K fd ps [])(hx:y6 X E)
  (I:Inv X pins σ H s) (r:Vals vs us) (h:sp vs H Q (E σ)):wpAny (model X.prog X.w) X.A (call (.ref f) us) (EP X pins σ Q) X.xe s:=by
 have hl:(us++[]).length=ps.length:=by rw [cP,←r.length];exact F.len _ _ _ _ h
 have hb':=hb s us I.kIn hl
 rw [cP] at hb'
 refine wpAny_call (dQ (F.run X.A X.stack s H ⟨us,[]⟩ us vs Q (E σ) hr I.env0 hb' r h) λr s' hq=>?_)
 cases r with
 |error e=>exact hx pins σ H s e s' I hq
 |ok fl =>
  cases fl with
  |ret u=>exact I.after hq
  |next=>exact False.elim hq
  |brk=>exact False.elim hq
  |cont=>exact False.elim hq
theorem wu0 (F:FnOk X.prog X.w X.K X.mg X.base (CXE X.prog X.w) k f fd ps sp)(hr:Room k X.A)(hg:Gl X x)(hm:X.mg x=some (.ref f))(hk:W.keepIn X.K (.ref f)=true)(hb:Binds X.K fd ps [])(hx:y6 X E)
  (ha:PA X (e::es) t) (hdb:autoParam ((x==("__debug__" : Str))=false) aU1._auto_1) (he:autoParam (starEach (e::es) X.env=(false,eval e X.env)::starEach es X.env) aU4._auto_1) (hpl:autoParam ((backTo pos (starEach es X.env)).any (·.1)=false) aU4._auto_1) :
  PE X (.Call (.Name x p) (e::es) [] pos) (wwj sp E t):=by
 intro pins s σ H Q I h
 refine cZ (Qp I hg hm ?_ hdb)
 refine eY (h₀:=X.base) I.ok.mod.kin hk (thn (ha pos pins s σ H _ I h) λus s1 ⟨vs,H1,I1,r,q⟩=>⟨I1.kIn,?_⟩) he hpl
 exact qjf F hr hb hx I1 r q
theorem wuu {pl:Sem Bool}(he:PE X o ta)(c:Cls X.K C)(hm:Meth X.K C m f)(F:FnOk X.prog X.w X.K X.mg X.base (CXE X.prog X.w) k f fd ps sp)(hr:Room k X.A)(hb:Binds X.K fd ps [])(hx:y6 X E)(ha:PA X (e::es) t)
  (hst:autoParam (starEach (e::es) X.env=(false,eval e X.env)::starEach es X.env) aU4._auto_1) (hpl:autoParam ((backTo pos (starEach es X.env)).any (·.1)=false) aU4._auto_1)
  (ht:autoParam (eval (.Call (.Attribute o m apos) (e::es) [] pos) X.env=(do
   let ov ←eval o X.env
   standAt apos.atName
   let (f,first) ←holding [ov] (getMethod ov m pl)
   callWith pos f first (backTo pos (starEach (e::es) X.env)) (backToKw pos (keywordEach [] X.env)))) aU4._auto_1) :
  PE X (.Call (.Attribute o m apos) (e::es) [] pos) (qxz C m sp E ta t):=by
 intro pins s σ H Q I h
 refine W.methodCall_KW (pl:=pl) (thn (he pins s σ H _ I h) λu s1 ⟨x,H1,I1,rx,a,dx,fs,ex,ea,l,q⟩=>?_) ht
 subst ex
 obtain rfl:u=Value.ref a:=rx
 refine qxt I1 ea c hm l ?_
 refine eY (first:=[.ref a]) (h₀:=X.base) I.ok.mod.kin hm.kp (thn (ha pos pins s1 σ H1 _ I1 q) λus s2 ⟨vs,H2,I2,r,q2⟩=>⟨I2.kIn,?_⟩) hst hpl
 exact qjf (us:=.ref a::us) (vs:=.ref a::vs) F hr hb hx I2 (.cons rfl r) q2
theorem wkr {pl:Sem Bool}(he:PE X o ta)(c:Cls X.K C)(hm:Meth X.K C m f)(F:FnOk X.prog X.w X.K X.mg X.base (CXE X.prog X.w) k f fd ps sp)(hr:Room k X.A)(hb:Binds X.K fd ps [])(hx:y6 X E)
  (ht:autoParam (eval (.Call (.Attribute o m apos) [] [] pos) X.env=(do
   let ov ←eval o X.env
   standAt apos.atName
   let (f,first) ←holding [ov] (getMethod ov m pl)
   callWith pos f first (backTo pos (starEach [] X.env)) (backToKw pos (keywordEach [] X.env)))) aU4._auto_1) :
  PE X (.Call (.Attribute o m apos) [] [] pos) (qxz C m sp E ta Qc):=by
 intro pins s σ H Q I h
 refine W.methodCall_KW (pl:=pl) (thn (he pins s σ H _ I h) λu s1 ⟨x,H1,I1,rx,a,dx,fs,ex,ea,l,q⟩=>?_) ht
 subst ex
 obtain rfl:u=Value.ref a:=rx
 refine qxt I1 ea c hm l ?_
 exact W.callWith_K0 (first:=[.ref a]) I1.kIn hm.kp (qjf (us:=[.ref a]) (vs:=[.ref a]) F hr hb hx I1 (.cons rfl .nil) q)
theorem qv5 {pins:List (Aj×Obj)}{σ:St}{H:Hp}{s:Ab}{Q:VK}{us:List Ag}{vs:List V}(M:Mk X.K C f)(F:FnOk X.prog X.w X.K X.mg X.base (CXE X.prog X.w) k f fd ps sp)(hr:Room (k+1) X.A)(hb:Binds X.K fd ps [])
  (hx:y6 X E) (I:Inv X pins σ H s) (r:Vals vs us)
  (h:∀x dx,H x=none→H dx=none→dx≠x→sp (.ref x::vs) (upd (upd H dx (.own x)) x (.ins C dx [])) (λv H2=>v=.non∧Q (.ref x) H2) (E σ)) :
  wpAny (model X.prog X.w) X.A (call (.ref C) us) (EP X pins σ Q) X.xe s:=by
 have hq:=h (s.heap.objs.size+1) s.heap.objs.size (I.hok.fresh (Nat.le_succ _)) (I.hok.fresh (al _)) (az (Nat.lt_succ_self _))
 have I2:=Inv.made (C:=C) I
 have r2:Vals (V.ref (s.heap.objs.size+1)::vs) (Value.ref (s.heap.objs.size+1)::us):=.cons rfl r
 have hl:((Value.ref (s.heap.objs.size+1)::us)++[]).length=ps.length:=by
  rw [cP,←r2.length]
  exact F.len _ _ _ _ hq
 have hb':=hb _ (Value.ref (s.heap.objs.size+1)::us) I2.kIn hl
 rw [cP] at hb'
 refine wpAny_call (wjc (f:=f) I.kIn M.makes M.init (dH.mp M.fn) (dQ (F.run _ X.stack _ _ ⟨Value.ref (s.heap.objs.size+1)::us,[]⟩ (Value.ref (s.heap.objs.size+1)::us) _ _ (E σ) (hr.make C us [])
  (I2.env0.make C us []) hb' r2 hq) λr s' hq'=>?_))
 cases r with
 |error e=>exact hx pins σ _ _ e s' I2 hq'
 |ok fl =>
  cases fl with
  |ret u =>
   obtain ⟨v,H',I3,rv,ev,q3⟩:=I2.after hq'
   subst ev
   exact ⟨rv,⟨V.ref (s.heap.objs.size+1),H',I3,rfl,q3⟩⟩
  |next=>exact False.elim hq'
  |brk=>exact False.elim hq'
  |cont=>exact False.elim hq'
theorem wjj (M:Mk X.K C f)(F:FnOk X.prog X.w X.K X.mg X.base (CXE X.prog X.w) k f fd ps sp)(hr:Room (k+1) X.A)(hg:Gl X x)(hm:X.mg x=some (.ref C))(hb:Binds X.K fd ps [])(hx:y6 X E)
  (ha:PA X (e::es) t) (hdb:autoParam ((x==("__debug__" : Str))=false) aU1._auto_1) (he:autoParam (starEach (e::es) X.env=(false,eval e X.env)::starEach es X.env) aU4._auto_1) (hpl:autoParam ((backTo pos (starEach es X.env)).any (·.1)=false) aU4._auto_1) :
  PE X (.Call (.Name x p) (e::es) [] pos) (wwf C sp E t):=by
 intro pins s σ H Q I h
 refine cZ (Qp I hg hm ?_ hdb)
 refine eY (h₀:=X.base) I.ok.mod.kin M.kp (thn (ha pos pins s σ H _ I h) λus s1 ⟨vs,H1,I1,r,q⟩=>⟨I1.kIn,?_⟩) he hpl
 exact qv5 M F hr hb hx I1 r q
end
structure ExcC (K:Aa)(C:Aj):Prop where
 q:W.excIn K C [.type "ValueError",.type "Exception",.type "BaseException",.type "object"] "ValueError.__new__" = true
def tRaise (C:Aj)(E:St→XK)(t:TA):TS:=λD σ H=>t σ H λvs H1=>vs.length≤sizeLine∧E σ (.ref C) none H1
section
variable {X:Cx}{C:Aj}{E:St→XK}{x:Str}{np cpos pos:Pos}{e:Expr}{es:List Expr}{t:TA}
theorem kh (hc:X.calm=true)(c:ExcC X.K C)(hR:wjq X E)(hg:Gl X x)(hm:X.mg x=some (.ref C))(ha:PA X (e::es) t)(hdb:autoParam ((x==("__debug__" : Str))=false) aU1._auto_1)
  (he:autoParam (starEach (e::es) X.env=(false,eval e X.env)::starEach es X.env) aU4._auto_1) (hpl:autoParam ((backTo cpos (starEach es X.env)).any (·.1)=false) aU4._auto_1) :
  PS X (.Raise (some (.Call (.Name x np) (e::es) [] cpos)) none pos) (tRaise C E t):=by
 intro pins s σ H D I h
 obtain ⟨tl,N,a1,a2,a3,a4,a5,a6,a7,a8,a9,b0,b1,b2,b3,b5,mN,hC,hN,hni,T⟩:=qyc I.ok.mod.kin c.q
 refine wpAny_Raise_call_subT (C:=C) (nm:=a1) (q:=a2) (N:=N) (bs:=a3) (bm:=tl) (hdct:=a4) (sn:=a5) (sub:=a6) (ab:=a7) (col:=a8) (dd:=a9) (k0:=b0) (k1:=b1) (k2:=b2) (k3:=b3) (k5:=b5)
  cI (mN:=mN) (T.hasType cI.hasBase) (I.ok.hd hc) (by rw [he];show (false||(backTo cpos (starEach es X.env)).any (·.1))=false;rw [hpl];rfl) hni (Qp I hg hm ⟨rfl,?_⟩ hdb)
 have hw:=ha cpos pins s σ H _ I h
 rw [he] at hw ⊢
 refine cx (ba hw (λus s1 ⟨vs,H1,I1,r,hl,q⟩=>⟨rfl,by rw [←r.length];exact hl,I1.bk _ _ hC,hN.keeps I1.bk,T.keeps I1.bk,λh' e hx=>hR pins σ H1 s1 h' e C us I1 hx q⟩) λ_ _ z=>z)
end
abbrev Cx.handling (X:Cx)(e:Aj):Cx:={ X with A:=X.A.mark (some (.ref e)),calm:=false,xe:=λ_ _=>False }
abbrev Cx.trying (X:Cx)(pn:List (Aj×Obj))(xe:Ag→Ab→Prop):Cx:={ X with pn:=pn,xe:=xe }
section
variable {X:Cx}{pins:List (Aj×Obj)}{σ:St}{H H':Hp}{s s':Ab}{e:Aj}
theorem Cx.Ok.handling (o:X.Ok)(e:Aj):(X.handling e).Ok :=
 ⟨o.mod,o.kind,o.glob,o.blt,o.above,o.inj,o.has,o.cab,λz=>(aI z).elim,o.frames,o.stk,o.exf,o.bs,o.bsz,o.noex,o.exfs,o.funs,o.frf⟩
theorem Cx.Ok.trying (o:X.Ok)(pn:List (Aj×Obj))(xe:Ag→Ab→Prop):(X.trying pn xe).Ok :=
 ⟨o.mod,o.kind,o.glob,o.blt,o.above,o.inj,o.has,o.cab,o.hd,o.frames,o.stk,o.exf,o.bs,o.bsz,o.noex,o.exfs,o.funs,o.frf⟩
theorem Inv.handling (I:Inv X pins σ H s)(e:Aj):Inv (X.handling e) pins σ H s:=⟨I.ok.handling e,I.os,I.bare,I.base,I.loc,I.cell,I.free,I.freeC,I.pin,I.hok,I.len⟩
theorem Inv.unhandling (o:X.Ok)(I:Inv (X.handling e) pins σ H s):Inv X pins σ H s:=⟨o,I.os,I.bare,I.base,I.loc,I.cell,I.free,I.freeC,I.pin,I.hok,I.len⟩
theorem Inv.trying (I:Inv X pins σ H s)(xe:Ag→Ab→Prop):Inv (X.trying (X.pn++pins) xe) [] σ H s :=
 ⟨I.ok.trying _ _,I.os,I.bare,I.base,I.loc,I.cell,I.free,I.freeC,λp hp=>I.pin p ((bi.mp hp).elim (λz=>z) λz=>nomatch z),I.hok,I.len⟩
theorem Inv.untrying {pins':List (Aj×Obj)}{xe:Ag→Ab→Prop}(o:X.Ok)(I:Inv (X.trying (X.pn++pins) xe) pins' σ H s):Inv X pins σ H s :=
 ⟨o,I.os,I.bare,I.base,I.loc,I.cell,I.free,I.freeC,λp hp=>I.pin p (cw _ hp),I.hok,I.len⟩
theorem SP.untrying {pins':List (Aj×Obj)}{xe:Ag→Ab→Prop}{D:Ends}{f:Flow}(o:X.Ok)(h:SP (X.trying (X.pn++pins) xe) pins' D f s'):SP X pins D f s':=by
 cases f with
 |next=>obtain ⟨a,b,c,d⟩:=h;exact ⟨a,b,c.untrying o,d⟩
 |brk=>obtain ⟨a,b,c,d⟩:=h;exact ⟨a,b,c.untrying o,d⟩
 |cont=>obtain ⟨a,b,c,d⟩:=h;exact ⟨a,b,c.untrying o,d⟩
 |ret u=>obtain ⟨v,a,b,c,d⟩:=h;exact ⟨v,a,b,c.untrying o,d⟩
theorem SP.unhandling {D:Ends}{f:Flow}(o:X.Ok)(h:SP (X.handling e) pins D f s'):SP X pins D f s':=by
 cases f with
 |next=>obtain ⟨a,b,c,d⟩:=h;exact ⟨a,b,c.unhandling o,d⟩
 |brk=>obtain ⟨a,b,c,d⟩:=h;exact ⟨a,b,c.unhandling o,d⟩
 |cont=>obtain ⟨a,b,c,d⟩:=h;exact ⟨a,b,c.unhandling o,d⟩
 |ret u=>obtain ⟨v,a,b,c,d⟩:=h;exact ⟨v,a,b,c.unhandling o,d⟩
def xqg (K:Aa)(C D:Aj):Prop:=∀ {M:Model} {A:Ae} {E:Ag→Ab→Prop} {h:Heap} {g:Array GenState} {d:Drawn} {t:Nat} {os:OsState} {e:Aj} {oe:Obj} {Q:Bool→Ab→Prop},
 K.In h→h.get? e=some oe→oe.cls=.ref C→Q true ⟨h,g,d,t,os⟩→wpAny M A (excMatches (.ref e) (.ref D)) Q E ⟨h,g,d,t,os⟩
theorem ku {K:Aa}{C:Aj}(c:ExcC K C):xqg K C C:=by
 intro M A E h g d t os e oe Q X he hc q
 obtain ⟨tl,N,a1,a2,a3,a4,a5,a6,a7,a8,a9,b0,b1,b2,b3,b5,mN,hC,hN,hni,T⟩:=qyc X c.q
 exact wpAny_excMatches_sub_self hC he hc (T.hasType cI.hasBase) q
end
section
variable {X:Cx}{x:Str}{D0:Aj}{np hpos pos:Pos}{b₀:Stmt}{body suite:List Stmt}{tb:(St→XK)→TS}{th:TS}
end
def Sm (n:Nat)(i:Int):Prop:=i.natAbs<2 ^ n
theorem Sm.bits {n:Nat}{i:Int}(h:Sm n i):Builtin.Int.intBits i≤n:=PyProof.Rows.intBits_le h
theorem Sm.mono {n m:Nat}{i:Int}(h:Sm n i)(hm:n≤m):Sm m i:=aH h (Nat.pow_le_pow_right ⋯ hm)
theorem Sm.of_le {n:Nat}{i j:Int}(h:Sm n j)(e:i.natAbs≤j.natAbs):Sm n i:=dI e h
theorem Sm.ok {n m:Nat}{i j:Int}(h:Sm n i)(h':Sm m j)(e:n+m≤134217728):IntMulOk i j:=IntMulOk.of_le h.bits h'.bits e
theorem Sm.log {n:Nat}{i:Int}(h:Sm n i)(hn:n≤9000):i.natAbs.log2<9000:=by
 by_cases h0:i.natAbs=0
 ·rw [h0]
  decide
 ·exact aH ((Nat.log2_lt h0).mpr h) hn
theorem Sm.noPl {n:Nat}{i j:Int}(h:Sm n j)(hn:n≤9000):Builtin.divisionGoesByPylong i j=false:=PyProof.noPylong_of_log2 (h.log hn)
section
variable {X:Cx}
theorem zm:OpR X (binaryOp .Mult) (rI IntMulOk λi j=>.int (i*j)):=opI λ_ _ _ _ _ _ _ hc q=>mul_int q hc
theorem yp:OpR X (binaryOp .FloorDiv) (rI (λ_ j=>0<j∧Sm 9000 j) λi j=>.int (i/j)):=opI λi j _ _ _ _ _ hc q =>
 floordiv_int ⋯ (by rw [Int.fdiv_eq_ediv_of_nonneg i (Int.le_of_lt hc.1)];exact q) (.inl (hc.2.noPl (al _)))
theorem v5:j4 X (.builtin "isinstance") (λxs H Q=>∃x T t b,xs=[x,.ty T]∧TyOf X.K H x t∧W.kitOne X.K t (.type T)=some b∧Q (.bl b) H):=by
 intro pins s σ H xs us Q I r h
 obtain ⟨x,T,t,b,rfl,ty,e,q⟩:=h
 obtain ⟨u,u',rfl,r1,r2⟩:=wus r
 cases r2
 exact qvp I r1 ty e λtk=>⟨.bl b,H,I.tok tk,rfl,q⟩
end
mutual
def RD (K:Aa)(H:Hp):PyData→V→Prop
 |.none,v=>v=.non
 |.bool b,v=>v=.bl b
 |.int i,v=>v=.int i
 |.str x,v=>v=.str x
 |.list ds,v=>∃a xs,v=.ref a∧SqL K H a xs∧RDs K H ds xs
 |.tuple ds,v=>∃a xs,v=.ref a∧SqT K H a xs∧RDs K H ds xs
 |.dict _,_=>False
def RDs (K:Aa)(H:Hp):List PyData→List V→Prop
 |[],xs=>xs=[]
 |d::ds,xs=>∃y ys,xs=y::ys∧RD K H d y∧RDs K H ds ys
end
section
variable {X:Cx}{pins:List (Aj×Obj)}{σ:St}{H:Hp}{s:Ab}
mutual
theorem Wh (I:Inv X pins σ H s):∀(d:PyData) (v:V) (u:Ag),RD X.K H d v→RelV v u→∃as,Reads s.heap u d as
 |.none,v,u,h,r=>by
  rw [RD] at h;subst h
  cases (show u=Value.none from r)
  exact ⟨_,.none⟩
 |.bool b,v,u,h,r=>by
  rw [RD] at h;subst h
  cases (show u=Value.bool b from r)
  exact ⟨_,.bool b⟩
 |.int i,v,u,h,r=>by
  rw [RD] at h;subst h
  obtain ⟨t,rfl⟩:=(show ∃t,u=Value.int i t from r)
  exact ⟨_,.int i t⟩
 |.str x,v,u,h,r=>by
  rw [RD] at h;subst h
  obtain ⟨t,rfl⟩:=(show ∃t,u=Value.str x t from r)
  exact ⟨_,.str x t⟩
 |.list ds,v,u,h,r=>by
  rw [RD] at h
  obtain ⟨a,xs,rfl,hs,hd⟩:=h
  cases (show u=Value.ref a from r)
  obtain ⟨its,rv,⟨o,n,e1,e2,_,e3⟩,_⟩:=I.list hs
  obtain ⟨as,ha⟩:=Y3 I ds xs its hd rv
  exact ⟨_,.list e1 e2 e3 (by simpa using ha)⟩
 |.tuple ds,v,u,h,r=>by
  rw [RD] at h
  obtain ⟨a,xs,rfl,hs,hd⟩:=h
  cases (show u=Value.ref a from r)
  obtain ⟨its,rv,⟨o,e1,e2,n,e3⟩,_⟩:=I.tuple hs
  obtain ⟨as,ha⟩:=Y3 I ds xs its hd rv
  exact ⟨_,.tuple e1 e2 e3 (by simpa using ha)⟩
 |.dict _,_,_,h,_=>by
  rw [RD] at h
  exact h.elim
theorem Y3 (I:Inv X pins σ H s):∀(ds:List PyData) (vs:List V) (us:List Ag),RDs X.K H ds vs→Vals vs us→∃as,ReadsAll s.heap us ds as
 |[],vs,us,h,r=>by
  rw [RDs] at h;subst h
  cases r
  exact ⟨_,.nil⟩
 |d::ds,vs,us,h,r=>by
  rw [RDs] at h
  obtain ⟨y,ys,rfl,h1,h2⟩:=h
  cases r with
  |cons r1 r2 =>
   obtain ⟨as,a1⟩:=Wh I d y _ h1 r1
   obtain ⟨bs,a2⟩:=Y3 I ds ys _ h2 r2
   exact ⟨_,.cons a1 a2⟩
end
def rEqD (K:Aa)(neg:Bool):R2:=λx y H Q=>∃d e,RD K H d x∧RD K H e y∧d.canLay0=true∧e.canLay0=true∧min d.depth e.depth≤60∧Q (.bl (if neg then !PyData.eqv d e else PyData.eqv d e)) H
theorem wx0 (hu:X.A.units+64<cLine):OpR X (compareOp .Eq) (rEqD X.K false):=by
 intro pins s σ H x y v u Q I rx ry h
 obtain ⟨d,e,h1,h2,c1,c2,dp,q⟩:=h
 obtain ⟨as,a1⟩:=Wh I d x v h1 rx
 obtain ⟨bs,a2⟩:=Wh I e y u h2 ry
 exact PySem.SeqAt.compareEq_reads a1 a2 c1 c2 ⋯ ⟨.bl _,H,I,rfl,q⟩
theorem wu9 (hu:X.A.units+64<cLine):OpR X (compareOp .NotEq) (rEqD X.K true):=by
 intro pins s σ H x y v u Q I rx ry h
 obtain ⟨d,e,h1,h2,c1,c2,dp,q⟩:=h
 obtain ⟨as,a1⟩:=Wh I d x v h1 rx
 obtain ⟨bs,a2⟩:=Wh I e y u h2 ry
 exact PySem.SeqAt.compareNe_reads a1 a2 c1 c2 ⋯ ⟨.bl _,H,I,rfl,q⟩
end
def ptD (p:Int×Int):PyData:=.tuple [.int p.1,.int p.2]
theorem qzw:∀(xs ys:List Int),PyData.eqvAll (xs.map .int) (ys.map .int)=decide (xs=ys)
 |[],[]=>rfl
 |[],_::_=>rfl
 |_::_,[]=>rfl
 |x::xs,y::ys=>by
  rw [aC,aC,PyData.eqvAll,qzw xs ys,PyData.eqv]
  by_cases h:x=y
  ·subst h;simp
  ·simp [h]
theorem xqm (p q:Int×Int):PyData.eqv (ptD p) (ptD q)=decide (p=q):=by
 obtain ⟨a,b⟩:=p
 obtain ⟨c,d⟩:=q
 unfold ptD
 rw [PyData.eqv]
 have:=qzw [a,b] [c,d]
 rw [aC,aC,bI,aC,aC,bI] at this
 rw [this]
 simp
theorem qut:∀(xs:List Int),PyData.canLayAll0 (xs.map .int)=true
 |[]=>rfl
 |x::xs=>by rw [aC,PyData.canLayAll0,qut xs];rfl
theorem wqn:∀(xs:List Int),PyData.depthAll (xs.map .int)≤1
 |[]=>by simp [PyData.depthAll]
 |x::xs=>by
  have:=wqn xs
  simp only [aC,PyData.depthAll,PyData.depth]
  lia
theorem wzj {K:Aa}{H:Hp}:∀(xs:List Int),RDs K H (xs.map .int) (xs.map V.int)
 |[]=>by rw [bI,bI,RDs]
 |x::xs=>by
  rw [aC,aC,RDs]
  exact ⟨_,_,rfl,by rw [RD],wzj xs⟩
end L2
namespace L2
open PySem PySem.Spec PyProof.Rows
section
variable {P:Ac}{w:Ah}{K:Aa}{mg:Str→Option Ag}{base:Heap}
theorem Fun.okX {x qual:Str}{st:Stmt}{f:Aj}{fd:Ad}{N ps:List Str}{k:Nat}{sp:Sp}(F:Fun K x qual st f fd)(S:FnScope N ps (wg st))(len:∀vs H Q E,sp vs H Q E→vs.length=ps.length)
  (body:∀(cdv:Ag) (A:Ae) (outer:List Env) (s:Ab) (H:Hp) (vs:List V) (Q:VK) (E:XK),Room k (A.deeper (envOfC qual (wg st) s.heap.objs.size f cdv))→sp vs H Q E →
   ∃t,PSs (ug (CXE P w) P w K mg base N qual (wg st) f cdv A outer s H E) (jc st) t∧t { nx:=λ_ H'=>Q .non H',rt:=Q } (Yx N vs) H):FnOk P w K mg base (CXE P w) (k+1) f fd ps sp:=by
 obtain ⟨oc,od,kV,doc,pm,an,cdv,ct,osl,rfl,lk,hcd⟩:=F.ex
 exact fn_of lk hcd S len λA outer s H vs Q E hr hsp=>body cdv A outer s H vs Q E hr hsp
structure DefIn (K:Aa)(x:Str)(st:Stmt):Prop where
 ex:∃f fd,W.nsIn K mainGlobals x=some (some (.ref f))∧Fun K x x st f fd
theorem def_mk {x:Str}{st:Stmt}{f:Aj}{oc:Ag}{od an:Option Aj}{osl:Array (Option Ag)}{kV doc pm cdv ct:Ag}(a:W.nsIn K mainGlobals x=some (some (.ref f)))
  (l:K.lookup f=some ⟨oc,od,.func (W.fnOf x x (yx st) (jc st) (wg st) .none kV doc pm an cdv ct),osl⟩) (c:W.codeIn K cdv x=true) (k:W.keepIn K (.ref f)=true):DefIn K x st:=⟨_,_,a,wyf l c k⟩
def zj (x:Str)(st:Stmt)(ps:List Str):Prop:=∀(kV doc pm:Ag) (an:Option Aj) (cdv ct:Ag) (us:List Ag),us.length=ps.length→bindArgs (W.fnOf x x (yx st) (jc st) (wg st) .none kV doc pm an cdv ct) ⟨us,[]⟩=pure (ps.zip us)
theorem bA1 {f}{ps:List Str}{u:List Ag}(h:u.length=1)(k:∀a,bindArgs f ⟨[a],[]⟩=pure (ps.zip [a])):bindArgs f ⟨u,[]⟩=pure (ps.zip u):=match u,h with|[a],_=>k a
theorem bA2 {f}{ps:List Str}{u:List Ag}(h:u.length=2)(k:∀a b,bindArgs f ⟨[a,b],[]⟩=pure (ps.zip [a,b])):bindArgs f ⟨u,[]⟩=pure (ps.zip u):=match u,h with|[a,b],_=>k a b
theorem bA3 {f}{ps:List Str}{u:List Ag}(h:u.length=3)(k:∀a b c,bindArgs f ⟨[a,b,c],[]⟩=pure (ps.zip [a,b,c])):bindArgs f ⟨u,[]⟩=pure (ps.zip u):=match u,h with|[a,b,c],_=>k a b c
theorem bA4 {f}{ps:List Str}{u:List Ag}(h:u.length=4)(k:∀a b c d,bindArgs f ⟨[a,b,c,d],[]⟩=pure (ps.zip [a,b,c,d])):bindArgs f ⟨u,[]⟩=pure (ps.zip u):=match u,h with|[a,b,c,d],_=>k a b c d
structure Cal (P:Ac)(w:Ah)(K:Aa)(mg:Str→Option Ag)(base:Heap)(x:Str)(k:Nat)(sp:Sp):Prop where
 ex:∃f fd ps,mg x=some (.ref f)∧FnOk P w K mg base (CXE P w) k f fd ps sp∧W.keepIn K (.ref f)=true∧Binds K fd ps []
theorem DefIn.cal {x:Str}{st:Stmt}{ps:List Str}{k:Nat}{sp:Sp}{h:Heap}(d:DefIn K x st)(KX:K.In h)(G:h.Ns mainGlobals mg)(b:zj x st ps)(ok:∀f fd,Fun K x x st f fd→FnOk P w K mg base (CXE P w) k f fd ps sp):Cal P w K mg base x k sp:=by
 obtain ⟨f,fd,a,F⟩:=d.ex
 exact ⟨f,fd,ps,aT KX G a,ok f fd F,F.kp,F.binds b⟩
end
section
variable {X:Cx}{x:Str}{k:Nat}{sp:Sp}{E:St→XK}{p pos:Pos}{e:Expr}{es:List Expr}{t:TA}
theorem qxw (c:Cal X.prog X.w X.K X.mg X.base x k sp)(hr:Room k X.A)(hg:Gl X x)(hx:y6 X E)
  (ha:PA X (e::es) t) (hdb:autoParam ((x==("__debug__" : Str))=false) aU1._auto_1) (he:autoParam (starEach (e::es) X.env=(false,eval e X.env)::starEach es X.env) aU4._auto_1) (hpl:autoParam ((backTo pos (starEach es X.env)).any (·.1)=false) aU4._auto_1) :
  PE X (.Call (.Name x p) (e::es) [] pos) (wwj sp E t):=by
 obtain ⟨f,fd,ps,hm,F,kp,b⟩:=c.ex
 exact wu0 F hr hg hm kp b hx ha hdb he hpl
end
def tCut (t u:TS):TS:=λD σ H=>∃R:St→Hp→Prop,t { D with nx:=R } σ H∧∀σ' H',R σ' H'→u D σ' H'
theorem jb {X:Cx}{st:Stmt}{rest:List Stmt}{t u:TS}(h1:PS X st t)(h2:PSs X rest u):PSs X (st::rest) (tCut t u):=by
 intro pins s σ H D I ⟨R,h,hR⟩
 refine fA (thn (h1 pins s σ H { D with nx:=R } I h) λf s1 q=>?_)
 cases f with
 |next =>
  obtain ⟨σ1,H1,I1,q1⟩:=q
  exact h2 pins s1 σ1 H1 D I1 (hR σ1 H1 q1)
 |brk=>exact q
 |cont=>exact q
 |ret u=>exact q
theorem zp {c A B:Prop}[Decidable c](h1:c→A)(h2:¬ c→B):if decide c=true then A else B:=by
 by_cases h:c
 ·rw [aX h]
  exact jj (h1 h)
 ·rw [bn h]
  exact vg (h2 h)
theorem qku {c A B:Prop}[Decidable c](h1:¬ c→A)(h2:c→B):if (!decide c)=true then A else B:=by
 by_cases h:c
 ·rw [aX h]
  exact vg (h2 h)
 ·rw [bn h]
  exact jj (h1 h)
theorem deqI {i j:Int}:decide (V.int i=V.int j)=decide (i=j):=by
 by_cases h:i=j
 ·subst h;simp
 ·simp [h]
theorem xn {i j:Int}{A B:Prop}(h1:i=j→A)(h2:i≠j→B):if decide (V.int i=V.int j)=true then A else B:=by
 rw [deqI]
 exact zp h1 h2
theorem xN {i j:Int}{A B:Prop}(k:B)(h:autoParam (i≠j) aU1._auto_1):if decide (V.int i=V.int j)=true then A else B:=xn (λz=>absurd z h) (λ_=>k)
theorem qw9 {i j:Int}{A B:Prop}(h1:i≠j→A)(h2:i=j→B):if (!decide (V.int i=V.int j))=true then A else B:=by
 rw [deqI]
 exact qku h1 h2
theorem Same.upd {H:Hp}{p:Aj}{o:HO}(n:H p=none):Same H (upd H p o):=λb u e=>by
 rw [wf (qh e n)]
 exact e
theorem Same.sql {K:Aa}{H H':Hp}{a:Aj}{xs:List V}(h:Same H H')(s:SqL K H a xs):SqL K H' a xs:=h.seq s
theorem SqT.new {K:Aa}{H:Hp}{p:Aj}{xs:List V}:SqT K (upd H p (.tup xs)) p xs:=SqT.of qc
theorem SqL.new {K:Aa}{H:Hp}{p:Aj}{xs:List V}:SqL K (upd H p (.lst xs)) p xs:=SqL.of qc
theorem Wu:bootBuiltins "abs" = some (.builtin "abs"):=by decide +kernel
theorem qud:bootBuiltins "all" = some (.builtin "all"):=by decide +kernel
theorem Z6 {ns:List Int}{i:Int}(h0:0≤i)(h1:i<ns.length):atI (ns.map V.int) i=some (V.int (ns.getD i.toNat 0)):=by
 have hl:i.toNat<ns.length:=by lia
 have e:(ns.map V.int)[i.toNat]?=some (V.int (ns.getD i.toNat 0)):=by
  rw [aE,ar,aj hl]
  rfl
 have:=qqv e
 rwa [dD h0] at this
def wq2 (ns:List Int)(i:Int):Int:=if i<ns.length then ns.getD i.toNat 0 else if (ns.length:Int)=0 then 7*i+3 else ns.getD (i%ns.length).toNat 0+1009*i
def divs (c:Int):Nat→Int
 |0=>c
 |n+1=>divs c n/1000
def qk7 (K:Aa):Sp:=λvs H Q _=>∃(a:Aj) (ns:List Int) (i:Int),vs=[.ref a,.int i]∧SqL K H a (ns.map V.int)∧0≤i∧∀r,r=wq2 ns i→Q (.int r) H
def Qn (c:Int):Int:=if c<0 then -c else c
def qk0 (c t:Int):Int:=(c%1000003*48271+t*7919+101)%999983
def qu6 (c t:Int):Int:=(qk0 c t*qk0 c t+c%1000003*31+t*104729)%1000033
def qux (c t:Int):Int:=if 10 ^ 18≤Qn c then (if c<0 then divs (Qn c) t.toNat%1000 else divs (Qn c) t.toNat) else (qu6 c t*qu6 c t+qk0 c t*17+t*30011)%999979
def Jc (ns:List Int)(i t m:Int):Int:=qux (wq2 ns i) t%m
theorem wuz {c t:Int}(h:10 ^ 18≤Qn c)(n:c<0):qux c t=divs (Qn c) t.toNat%1000:=by rw [qux,ak h,ak n]
theorem wv8 {c t:Int}(h:10 ^ 18≤Qn c)(n:¬ c<0):qux c t=divs (Qn c) t.toNat:=by rw [qux,ak h,ai n]
theorem wu6 {c t:Int}(h:¬ 10 ^ 18≤Qn c):qux c t=(qu6 c t*qu6 c t+qk0 c t*17+t*30011)%999979:=by rw [qux,ai h]
def Wy (K:Aa):Sp:=λvs H Q _=>∃(a:Aj) (ns:List Int) (i t m:Int),vs=[.ref a,.int i,.int t,.int m]∧SqL K H a (ns.map V.int)∧0≤i∧0≤t∧t<1000000∧0<m ∧
 ∀r,r=Jc ns i t m→0≤r→r<m→Q (.int r) H
theorem Sm.small {n:Nat}{i:Int}(h1:-(2 ^ 64)≤i)(h2:i≤2 ^ 64)(hn:65≤n):Sm n i:=by
 refine Sm.mono (n:=65) ?_ hn
 unfold Sm
 lia
def wzt (K:Aa):Sp:=λvs H Q _=>∃(a:Aj) (ns:List Int),vs=[.ref a]∧SqL K H a (ns.map V.int)∧ns.length≤63∧∀H',Q (.bl true) H'
theorem sz1 {x:V}:[x].length≤sizeLine:=by show 1≤sizeLine;decide
theorem sz2 {x y:V}:[x,y].length≤sizeLine:=by show 2≤sizeLine;decide
theorem sz0:([]:List V).length≤sizeLine:=by show 0≤sizeLine;decide
end L2
namespace L2
open PySem
def Y0 (x y:Int):Int:=((Nat.gcd x.toNat y.toNat:Nat):Int)
theorem wkq {x:Int}(h:0≤x):Y0 x 0=x:=by
 unfold Y0
 have:(0:Int).toNat=0:=rfl
 rw [this,Nat.gcd_zero_right]
 lia
theorem wvk {x y:Int}(hx:0≤x)(hy:0<y):Y0 y (x%y)=Y0 x y:=by
 unfold Y0
 have e:(x%y).toNat=x.toNat%y.toNat:=by
  have h1:x=(x.toNat:Int):=by lia
  have h2:y=(y.toNat:Int):=by lia
  have h3:x%y=((x.toNat%y.toNat:Nat):Int):=by
   conv=>lhs;rw [h1,h2]
   exact (Int.natCast_emod _ _).symm
  rw [h3]
  exact dR _
 rw [e,Nat.gcd_comm y.toNat,←Nat.gcd_rec,Nat.gcd_comm]
theorem wz3 (t:Int):Qn t=(t.natAbs:Int):=by
 unfold Qn
 split <;> lia
theorem qj8 (t:Int):0≤Qn t:=by
 rw [wz3]
 lia
theorem yj (t b:Int):Y0 (Qn t) b=((Nat.gcd t.natAbs b.toNat:Nat):Int):=by
 unfold Y0
 rw [wz3,dR]
def gOf (t b:Int):Int:=Y0 (Qn t) b
def xg (t b:Int):Int×Int:=(t/gOf t b,b/gOf t b)
theorem uz {t b:Int}(h:1≤b):1≤gOf t b:=by
 unfold gOf
 rw [yj]
 have:0<Nat.gcd t.natAbs b.toNat:=Nat.gcd_pos_of_pos_right _ ⋯
 lia
theorem wud {t b:Int}(h:1≤b):gOf t b≤b:=by
 unfold gOf
 rw [yj]
 have:Nat.gcd t.natAbs b.toNat≤b.toNat:=Nat.gcd_le_right _ ⋯
 lia
theorem wv5 {t b:Int}(h:1≤b):gOf t b∣b:=by
 unfold gOf
 rw [yj]
 have h1:((Nat.gcd t.natAbs b.toNat:Nat):Int)∣(b.toNat:Int):=fB.mpr (Nat.gcd_dvd_right _ _)
 have h2:(b.toNat:Int)=b:=by lia
 rwa [h2] at h1
theorem wkv {t b:Int}:gOf t b∣t:=by
 unfold gOf
 rw [yj]
 have h1:((Nat.gcd t.natAbs b.toNat:Nat):Int)∣(t.natAbs:Int):=fB.mpr (Nat.gcd_dvd_left _ _)
 exact Int.dvd_natAbs.mp h1
theorem quy {t b:Int}:gOf t b*(t/gOf t b)=t:=eC wkv
theorem qxm {t b:Int}(h:1≤b):gOf t b*(b/gOf t b)=b:=eC (wv5 h)
theorem qvc {t b:Int}(h:1≤b):(xg t b).1*b=t*(xg t b).2:=by
 unfold xg
 dsimp only
 have h1:=quy (t:=t) (b:=b)
 have h2:=qxm (t:=t) (b:=b) h
 conv=>lhs;rw [←h2]
 conv=>rhs;rw [←h1]
 rw [h1,h2]
 have e1:t/gOf t b*b=t/gOf t b*(gOf t b*(b/gOf t b)):=by rw [h2]
 have e2:t*(b/gOf t b)=gOf t b*(t/gOf t b)*(b/gOf t b):=by rw [h1]
 rw [e1,e2,←Int.mul_assoc,fK (t/gOf t b)]
theorem Wt {t b:Int}(h:1≤b):1≤(xg t b).2:=by
 show 1≤b/gOf t b
 have h2:=qxm (t:=t) (b:=b) h
 have h3:=uz (t:=t) h
 have:0<b/gOf t b:=by
  rcases cR 0 (b/gOf t b) with z|z
  ·exact z
  ·have:=bS z (show 0≤gOf t b by lia)
   rw [h2,Int.mul_zero] at this
   lia
 lia
theorem xqy {t b:Int}(h:1≤b):(xg t b).2≤b:=Int.ediv_le_self _ ⋯
theorem wuh {t b:Int}(h:1≤b):gOf (xg t b).1 (xg t b).2=1:=by
 have h3:=uz (t:=t) h
 have hb:=Wt (t:=t) h
 obtain ⟨g,hg⟩:∃g:Nat,gOf t b=(g:Int):=⟨_,by unfold gOf;exact yj t b⟩
 have g1:0<g:=by lia
 have hgg:g=Nat.gcd t.natAbs b.toNat:=by
  have:(g:Int)=((Nat.gcd t.natAbs b.toNat:Nat):Int):=by rw [←hg];unfold gOf;exact yj t b
  lia
 have et:g*(xg t b).1.natAbs=t.natAbs:=by
  have:=quy (t:=t) (b:=b)
  have e:=bC Int.natAbs this
  rw [Int.natAbs_mul,hg] at e
  simpa [xg,hg] using e
 have eb:g*(xg t b).2.toNat=b.toNat:=by
  have:=qxm (t:=t) (b:=b) h
  rw [hg] at this
  have q:(xg t b).2=b/(g:Int):=by unfold xg;rw [hg]
  have q2:b/(g:Int)=((b/(g:Int)).toNat:Int):=by rw [←q];lia
  rw [q]
  rw [q2] at this
  have:((g*(b/(g:Int)).toNat:Nat):Int)=b:=by rw [fN];exact this
  lia
 unfold gOf
 rw [yj]
 have key:g*Nat.gcd (xg t b).1.natAbs (xg t b).2.toNat=g*1:=by
  rw [←Nat.gcd_mul_left,et,eb,←hgg,Nat.mul_one]
 have:=Nat.eq_of_mul_eq_mul_left g1 key
 rw [this]
 rfl
theorem xwj {t b c:Int}(h:1≤b)(hc:1≤c):gOf (t*c) (b*c)=gOf t b*c:=by
 unfold gOf
 rw [yj,yj]
 have e1:(t*c).natAbs=t.natAbs*c.toNat:=by
  rw [Int.natAbs_mul]
  have:c.natAbs=c.toNat:=by lia
  rw [this]
 have e2:(b*c).toNat=b.toNat*c.toNat:=by
  have hb:b=(b.toNat:Int):=by lia
  have hc':c=(c.toNat:Int):=by lia
  have:b*c=((b.toNat*c.toNat:Nat):Int):=by
   rw [fN,←hb,←hc']
  lia
 rw [e1,e2,Nat.gcd_mul_right,fN]
 have:(c.toNat:Int)=c:=by lia
 rw [this]
theorem xw5 {t b c:Int}(h:1≤b)(hc:1≤c):xg (t*c) (b*c)=xg t b:=by
 unfold xg
 rw [xwj h hc]
 have hg:=uz (t:=t) h
 rw [df _ _ (show 0<c by lia),df _ _ (show 0<c by lia)]
end L2
namespace L2
open PySem PySem.Spec PyProof.Rows
def CapAll (env:Env):List (Str×Aj)→Prop
 |[]=>True
 |(y,c)::r=>env.cells.lookup y=some c∧CapAll env r
theorem CapAll.look {env:Env}:∀ {cl:List (Str×Aj)},CapAll env cl→∀ {y:Str} {c:Aj},cl.lookup y=some c→env.cells.lookup y=some c
 |[],_,_,_,e=>by cases e
 |(z,d)::r,h,y,c,e=>by
  rw [aK] at e
  cases hb:y==z with
  |true =>
   rw [hb] at e
   rw [eq_of_beq hb]
   exact h.1.trans e
  |false =>
   rw [hb] at e
   exact CapAll.look h.2 e
def HasAll (cl:List (Str×Aj)):List (Str×NameKind)→Prop
 |[]=>True
 |(n,k)::r=>(k=.free→∃c,cl.lookup n=some c)∧k≠.cell∧HasAll cl r
theorem HasAll.nocell {cl:List (Str×Aj)}:∀ {ns:List (Str×NameKind)},HasAll cl ns→∀y∈ns,y.2≠.cell
 |(n,k)::r,h,y,hy=>by
  rcases ae.mp hy with rfl|hy
  ·exact h.2.1
  ·exact HasAll.nocell h.2.2 y hy
theorem HasAll.has {cl:List (Str×Aj)}{env:Env}:∀ {ns:List (Str×NameKind)},HasAll cl ns→∀ {x:Str} {q:NameKind},q=.cell∨q=.free →
  (ns.map λ(n,k)=>if (k==NameKind.free&&env.scope.kind==.function&&env.kindOf n==some .cell) then (n,NameKind.cell) else (n,k)).lookup x=some q→∃c,cl.lookup x=some c
 |[],_,_,_,_,e=>by cases e
 |(n,k)::r,h,x,q,hq,e=>by
  have ih:=HasAll.has (env:=env) h.2.2 (x:=x) hq
  rw [aC] at e
  by_cases hc:(k==NameKind.free&&env.scope.kind==.function&&env.kindOf n==some .cell)=true
  ·have e':=e
   dsimp only at e'
   rw [ak hc,aK] at e'
   cases hb:x==n with
   |true =>
    rw [bA,bA] at hc
    obtain ⟨c,hcc⟩:=h.1 (eq_of_beq hc.1.1)
    exact ⟨c,by rw [eq_of_beq hb];exact hcc⟩
   |false =>
    rw [hb] at e'
    exact ih e'
  ·have e':=e
   dsimp only at e'
   rw [ai hc,aK] at e'
   cases hb:x==n with
   |true =>
    rw [hb] at e'
    have ek:k=q:=av e'
    rcases hq with rfl|rfl
    ·exact absurd ek h.2.1
    ·obtain ⟨c,hcc⟩:=h.1 ek
     exact ⟨c,by rw [eq_of_beq hb];exact hcc⟩
   |false =>
    rw [hb] at e'
    exact ih e'
def CapIx (X:Cx)(scope:Scope)(cl:List (Str×Aj)):List Nat→Prop
 |[]=>True
 |j::r=>(∃y c,X.N[j]?=some y∧X.env.scope.names.lookup y=some .cell∧(relabel scope X.env).names.lookup y=some .cell∧cl.lookup y=some c)∧CapIx X scope cl r
theorem CapIx.get {X:Cx}{scope:Scope}{cl:List (Str×Aj)}:∀ {M:List Nat},CapIx X scope cl M→∀ {k j:Nat},M[k]?=some j →
  ∃y c,X.N[j]?=some y∧X.env.scope.names.lookup y=some .cell∧(relabel scope X.env).names.lookup y=some .cell∧cl.lookup y=some c
 |[],_,k,j,e=>by cases e
 |i::r,h,0,j,e=>by
  cases e
  exact h.1
 |i::r,h,k+1,j,e=>CapIx.get h.2 (k:=k) e
def Yp (X:Cx)(x:Str)(M:List Nat):List Str:=x::M.map λj=>X.N.getD j Str.empty
def jk (M:List Nat)(σ:St)(o:Option V):St:=o::M.map λj=>(σ[j]?).join
abbrev k8 (X:Cx)(scope:Scope)(cl:List (Str×Aj))(x:Str)(M:List Nat)(C:Aj)(s2:Ab)(H2:Hp)(fp:List Aj)(pn:List (Aj×Obj)):Cx :=
 { X with N:=Yp X x M,s₀:=s2,H₀:=H2,env:=compEnvC scope cl C X.env,outer:=X.stack,ex:=fp,fn:=λ_=>false,pn:=pn,xe:=λ_ _=>False }
section
variable {X:Cx}{pins:List (Aj×Obj)}{σ:St}{H:Hp}{s2:Ab}{scope:Scope}{cl:List (Str×Aj)}{x:Str}{M:List Nat}{fp:List Aj}{C:Aj}{h1:Heap}{tk:Nat}
theorem Inv.compG {oo:HO}{xs:List Str}(I:Inv X pins σ H s2)(hc:CapAll X.env cl)(hh:HasAll cl scope.names)(hm:CapIx X scope cl M)(hk:scope.kind=.function)(hC:s2.heap.objs.size<C)
  (keep:∀b o,s2.heap.get? b=some o→h1.get? b=some o) (hn:h1.Ns C λ_=>none) (hD:ObjOk X.prog X.w (upd H s2.heap.objs.size oo) h1 s2.heap.objs.size oo)
  (hfp:∀b∈fp,uq X pins H b) (hob:∀b∈fp,∃o,s2.heap.get? b=some o) :
  Inv { X with N:=xs++M.map λj=>X.N.getD j Str.empty,s₀:=s2,H₀:=H,env:=compEnvC scope cl C X.env,outer:=X.stack,ex:=fp,fn:=λ_=>false,pn:=X.pn++pins,xe:=λ_ _=>False } [] ((xs.map λ_=>none)++M.map λj=>(σ[j]?).join) (upd H s2.heap.objs.size oo) { s2 with heap:=h1,toks:=tk }:=by
 have hfr:=I.hok.fresh (a:=s2.heap.objs.size) (al _)
 have o:=I.ok
 have hcc:∀y c,cl.lookup y=some c→X.env.cells.lookup y=some c:=λy c e=>hc.look e
 have hlt:∀b∈fp,b<s2.heap.objs.size:=λb hb=>by
  obtain ⟨ob,e⟩:=hob b hb
  exact am e
 have hstk:∀b∈fp,b∉frs X.stack:=λb hb z=>by
  rcases ae.mp (I.stkSub b z) with z|z
  ·exact (hfp b hb).2.1 z
  ·exact (hfp b hb).2.2.1 z
 have hCn:H C=none:=I.hok.fresh (bH hC)
 refine ⟨⟨o.mod,hk,o.glob,o.blt,bH hC,λy z c e1 e2=>o.inj y z c (hcc y c e1) (hcc z c e2),λy hy=>?_,λy c z=>(aI z).elim,o.hd,o.frames,.inl rfl,λb hb=>⟨az (bj (hlt b hb) hC),λy c e=>(hfp b hb).2.2.2.2.1 y c (hcc y c e)⟩,
  λb ob e=>I.bs b ob e,bD o.bsz I.sz,λb ob e z=>?_,hstk,I.stack,I.stkFree⟩,rfl,I.bare,?_,?_,λy c e=>?_,?_,λy c e=>?_,λp hp=>?_,?_,?_⟩
 ·rcases hy with hy|hy
  ·exact hh.has (.inl rfl) hy
  ·exact hh.has (.inr rfl) hy
 ·obtain ⟨e1,e2⟩:=I.bs b ob e
  exact (hfp b z).2.2.2.1.elim (λq=>o.noex b ob e q) λq=>by
   have:=o.bs b ob e
   exact aQ _ (aH (am this.1) q)
 ·exact (Un.laid (fs:=frs X.stack) (ex:=fp) (o:=oo) keep (al _) hfr)
 ·refine ⟨_,hn,λi z v e1 e2 e3=>?_⟩
  rcases fL i xs.length with hi|hi
  ·have e2:((xs.map λ_=>(none:Option V))++M.map λj=>(σ[j]?).join)[i]?=some (some v):=e2
   rw [bF (by rw [aa];exact hi),aE,aj hi] at e2
   cases e2
  have e1':(xs++M.map λj=>X.N.getD j Str.empty)[i]?=some z:=e1
  have e2':((xs.map λ_=>(none:Option V))++M.map λj=>(σ[j]?).join)[i]?=some (some v):=e2
  rw [bv hi] at e1'
  rw [bv (by rw [aa];exact hi),aa] at e2'
  generalize i-xs.length=k at e1' e2'
  rw [aE] at e1' e2'
  cases hj:M[k]? with
  |none=>rw [hj] at e1';cases e1'
  |some j =>
   rw [hj] at e1' e2'
   obtain ⟨y,c,f1,f2,f3,f4⟩:=hm.get hj
   have ez:X.N.getD j Str.empty=z:=av e1'
   rw [ar,f1] at ez
   have ez':y=z:=ez
   subst ez'
   have ev:(σ[j]?).join=some v:=av e2'
   have ev':σ[j]?=some (some v):=by
    cases hs:σ[j]? with
    |none=>rw [hs] at ev;cases ev
    |some w' =>
     rw [hs] at ev
     have:w'=some v:=ev
     rw [this]
   obtain ⟨m,hns,hl⟩:=I.loc
   obtain ⟨u,r,l⟩:=hl j y v f1 ev' (.inr (.inl f2))
   refine ⟨u,r,.inr ⟨.inl f3,c,f4,?_⟩⟩
   rcases l with ⟨lk,_⟩|⟨_,c',lc,li⟩
   ·have:X.env.scope.names.lookup y=some .local:=lk
    rw [f2] at this
    cases this
   ·rw [hcc y c f4] at lc
    have:=av lc
    subst this
    exact li.keeps keep
 ·obtain ⟨v,hv⟩:=I.cell y c (hcc y c e)
  exact ⟨v,hv.keeps keep⟩
 ·show upd H s2.heap.objs.size oo C=none
  rw [wf (eQ hC)]
  exact hCn
 ·show upd H s2.heap.objs.size oo c=none
  obtain ⟨v,ob,e1,e2⟩:=I.cell y c (hcc y c e)
  rw [wf (az (am e1))]
  exact I.freeC y c (hcc y c e)
 ·have hp':p∈X.pn++pins:=(bi.mp hp).elim (λz=>z) λz=>nomatch z
  obtain ⟨e1,e2,e3,e4,e5⟩:=I.pin p hp'
  refine ⟨keep _ _ e1,?_,az (bj (am e1) hC),λz=>?_,e5⟩
  ·rw [wf (az (am e1))]
   exact e2
  ·rcases ae.mp (I.stkSub p.1 z) with z|z
   ·exact e3 z
   ·exact e4 z
 ·exact I.hok.laid keep (al _) hD
 ·show ((xs.map λ_=>(none:Option V))++M.map λj=>(σ[j]?).join).length=(xs++M.map λj=>X.N.getD j Str.empty).length
  simp only [aP,aa]
theorem Inv.comp (I:Inv X pins σ H s2)(hc:CapAll X.env cl)(hh:HasAll cl scope.names)(hm:CapIx X scope cl M)(hk:scope.kind=.function)(hC:s2.heap.objs.size<C)
  (keep:∀b o,s2.heap.get? b=some o→h1.get? b=some o) (hn:h1.Ns C λ_=>none) (hD:h1.get? s2.heap.objs.size=some { cls:=.type "list",data:=.seq #[] 0 })
  (hfp:∀b∈fp,uq X pins H b) (hob:∀b∈fp,∃o,s2.heap.get? b=some o) :
  Inv (k8 X scope cl x M C s2 H fp (X.pn++pins)) [] (jk M σ none) (upd H s2.heap.objs.size (.lst [])) { s2 with heap:=h1,toks:=tk }:=I.compG (xs:=[x]) hc hh hm hk hC keep hn ⟨aD _,[],0,.nil,hD⟩ hfp hob
theorem Inv.uncomp {pins':List (Aj×Obj)}{σ':St}{H':Hp}{s':Ab}{h':Heap}(I:Inv X pins σ H s2)(hC:s2.heap.objs.size≤C)(hfp:∀b∈fp,uq X pins H b)
  (J:Inv (k8 X scope cl x M C s2 H fp (X.pn++pins)) pins' σ' H' s') (hs:Heap.SameBut C s'.heap h'):Inv X pins σ H' { s' with heap:=h' }:=by
 have hb:=J.base
 have nC:∀b o,s2.heap.get? b=some o→b≠C:=λb o e=>az (aH (am e) hC)
 have st:∀b o,b≠C→s'.heap.get? b=some o→h'.get? b=some o:=λb o n e=>(hs.2 b n).trans e
 refine I.call' (s':={ s' with heap:=h' }) (ch:=fp) J.os ⟨λb o e n nb nx=>st b o (nC b o e) (hb.keep b o e n nb nx),λb o e n hb' nx=>?_,hb.free,λb o e nx=>?_,hb.tups,hb.frzs,hb.tbls⟩ ?_ J.bare λb hbf=>?_
 ·obtain ⟨sl,e1⟩:=hb.slot b o e n hb' nx
  exact ⟨sl,st b _ (nC b o e) e1⟩
 ·obtain ⟨o',e1⟩:=hb.there b o e nx
  exact ⟨o',st b _ (nC b o e) e1⟩
 ·intro b u hu
  have fr:H' C=none:=J.free
  refine (J.hok b u hu).stay (λc v hc e=>st c v ?_ e) (λ_ z=>z) λ_ _ z=>z
  rcases hc with rfl|hc
  ·intro z;rw [z,fr] at hu;cases hu
  ·intro z;rw [z,fr] at hc;cases hc
 ·obtain ⟨q1,q2,q3,q4,q5,q6⟩:=hfp b hbf
  exact ⟨q4,q2,q5,q6⟩
end
def wqb (J:It)(M:List Nat)(te:TE)(σ:St)(H1:Hp)(Q:VK):Prop:=∀p,H1 p=none→∃W:Nat→Nat→List V→Hp→Prop,(∃m,W 0 m [] (upd H1 p (.lst []))) ∧
 ∀i m ys H2,W i m ys H2→H2 p=some (.lst ys)∧ys.length<sizeLine∧((J.stop i H2∧Q (.ref p) H2)∨(J.go i H2∧∀v H3,J.yld i H2 v H3 →
  te (jk M σ (some v)) H3 λy H4=>H4 p=some (.lst ys)∧∃m',m'<m∧W (i+1) m' (ys++[y]) (upd H4 p (.lst (ys++[y])))))
def tComp (M:List Nat)(wi:TI)(te:TE):TE:=λσ H Q=>wi σ H λJ H1=>wqb J M te σ H1 Q
theorem Yt {Y:Cx}{tg e:Expr}{k:Nat}{acc:Ag}{it:Aj}{fp:List Aj}{tn:Nat→Heap→Prop}{J:It}{ps:Pos}{REST:Sem PySem.Fin}{post:Result→Ab→Prop}{gg:TG}{pins:List (Aj×Obj)}{σ:St}{V:Nat→Nat→Hp→Prop}{Qd:Hp→Prop}{s0:Ab}{H0:Hp}{n0:Nat}
  (T:Turn Y.prog Y.w Y.K tg J fp it tn) (hc:Y.calm=true) (hx:∀v s,Y.xe v s→False)
  (hturn:compTurn e k (.ref it) acc Y.env=(standAt ps >>= λ_=>pyNext (.ref it) >>= λr=>match r with|none=>pure (.done .next)|some v=>letOwnedTupleGo tg (.ref it) v >>= λ_=>assign tg Y.env v >>= λ_=>REST))
  (hun:Y.A.under (.compLoop e k (.ref it) acc Y.env)=Y.A) (hden:(model Y.prog Y.w).den (.compLoop e k (.ref it) acc Y.env)=((compTurn e k (.ref it) acc Y.env).onRaise λz=>do noteFrame z Y.env;theTreesLotGoes z))
  (hg:PG Y tg gg) (fok:∀H2:Hp,(∀b∈fp,H2 b=none)→∀b∈fp,uq Y pins H2 b)
  (hV:∀i n H2,V i n H2→(J.stop i H2∧Qd H2)∨(J.go i H2∧∀v H3,J.yld i H2 v H3→∃Z:St→Hp→Prop,gg v σ H3 Z∧∀σ4 H4,Z σ4 H4→(σ.length=σ4.length∧∀(k:Nat) z,σ[k]?=some (some z)→σ4[k]?=some (some z))∧∀pins' s',Inv Y pins' σ4 H4 s' →
   wpAny (model Y.prog Y.w) Y.A REST (λr s5=>r=Fin.again (.compLoop e k (.ref it) acc Y.env)∧∃H5,Inv Y pins' σ4 H5 s5∧∃n',n'<n∧V (i+1) n' H5) Y.xe s'))
  (fin:∀H2 s4,Inv Y pins σ H2 s4→Qd H2→post (.ok .next) s4) (I:Inv Y pins σ H0 s0) (v0:V 0 n0 H0) (t0:tn 0 s0.heap) (nf:∀b∈fp,H0 b=none) :
  codeAny (model Y.prog Y.w) Y.A (.compLoop e k (.ref it) acc Y.env) post s0:=by
 refine codeAny_loop rfl (λn s3=>∃i H2,V i n H2∧Inv Y pins σ H2 s3∧tn i s3.heap∧∀b∈fp,H2 b=none) (λn s3 hI=>?_) n0 ⟨0,H0,v0,I,t0,nf⟩
 obtain ⟨i,H2,w,J2,t,nf2⟩:=hI
 rw [hun,hden]
 refine wpAny_noted ?_
 rw [hturn]
 refine ac (cS (ac ?_))
 rcases hV i n H2 w with ⟨hst,hq⟩|⟨hgo,hy⟩
 ·refine ba (T.done Y rfl rfl rfl hc i pins s3 _ H2 (λ_ _=>False) J2 (fok H2 nf2) t hst) (λr s4 hr=>?_) λ_ _ z=>z.elim
  obtain ⟨rfl,J4⟩:=hr
  exact ao (fin H2 s4 J4 hq)
 ·refine ba (T.item Y rfl rfl rfl hc i pins s3 _ H2 (λ_ _=>False) J2 (fok H2 nf2) t hgo) (λr s4 hr=>?_) λ_ _ z=>z.elim
  obtain ⟨u,rfl,hw⟩:=hr
  refine ac (ba hw (λ_ s5 hr5=>?_) λ_ _ z=>z.elim)
  obtain ⟨v,H3,J5,rv,yl,t5,nf⟩:=hr5
  obtain ⟨Z,hz,hZ⟩:=hy v H3 yl
  refine ac (ba (hg _ s5 _ H3 v u _ (J5.pinned (fok H3 nf) (T.obj _ _ t5)) rv hz) (λ_ s6 hr6=>?_) λv s z=>(hx v s z).elim)
  obtain ⟨σ6,H6,J6,z6⟩:=hr6
  obtain ⟨⟨hl,hw6⟩,hR⟩:=hZ σ6 H6 z6
  refine ba (hR _ s6 J6) (λr s7 hr7=>?_) λv s z=>(hx v s z).elim
  obtain ⟨rfl,H7,J7,n',hn',v7⟩:=hr7
  refine ⟨rfl,n',hn',i+1,H7,v7,(J7.unpinned (pins:=pins)).weak hl hw6,?_,?_⟩
  ·exact T.keep _ _ _ t5 λb hb o e=>(J7.pin (b,o) (aA _ (aA _ (yd hb e)))).1
  ·intro b hb
   obtain ⟨o,e,_⟩:=T.obj _ _ t5 b hb
   exact (J7.pin (b,o) (aA _ (aA _ (yd hb e)))).2.1
section
variable {Y:Cx}{elt cd:Expr}{te:TE}{tt:TT}{c:Code}{p:Aj}{σ:St}{H:Hp}{pins:List (Aj×Obj)}{s:Ab}
def appS (elt:Expr)(acc:Ag)(env:Env)(c:Code):Sem PySem.Fin:=(eval elt env >>= λx=>call (.builtin "list.append") [acc,x] >>= λ_=>pure ()) >>= λ_=>again c
theorem wqg {ys:List V}{N:List V→Hp→Prop}(hx:∀v s,Y.xe v s→False)(he:PE Y elt te)(J:Inv Y pins σ H s)(hz:ys.length<sizeLine)(h:te σ H λy H4=>H4 p=some (.lst ys)∧N (ys++[y]) (upd H4 p (.lst (ys++[y])))) :
  wpAny (model Y.prog Y.w) Y.A (appS elt (.ref p) Y.env c) (λr s5=>r=Fin.again c∧∃H5,Inv Y pins σ H5 s5∧∃zs,N zs H5) Y.xe s:=by
 refine ac (ac (ba (he _ s _ H _ J h) (λyv s7 hr7=>?_) λ_ _ z=>z))
 obtain ⟨y,H4,J7,ry,hp4,n4⟩:=hr7
 refine ac (ba (yq (X:=Y) _ s7 _ H4 (.ref p) [y] (.ref p) [yv] (λ_ H8=>H8=upd H4 p (.lst (ys++[y]))) J7 rfl (.cons ry .nil) ⟨_,ys,y,rfl,rfl,hp4,hz,rfl⟩) (λ_ s8 hr8=>?_) λ_ _ z=>z)
 obtain ⟨_,H8,J8,_,rfl⟩:=hr8
 exact ao (ao ⟨rfl,_,J8,_,n4⟩)
def tstS (cd:Expr)(env:Env)(a b:Sem PySem.Fin):Sem PySem.Fin:=(forIn [cd] true λc r=>if r=true then do let ok ←isTrue c env (eval c env);pure (ForInStep.yield ok) else pure (ForInStep.yield r)) >>= λok=>if ok=true then a else b
theorem wu5 {a b:Sem PySem.Fin}{F:Hp→Prop}{G:Hp→Prop}{R:PySem.Fin→Ab→Prop}(ht:PT Y cd tt)(J:Inv Y pins σ H s)(h:tt σ H λok H4=>if ok=true then F H4 else G H4)
  (ha:∀s' H4,Inv Y pins σ H4 s'→F H4→wpAny (model Y.prog Y.w) Y.A a R Y.xe s') (hb:∀s' H4,Inv Y pins σ H4 s'→G H4→wpAny (model Y.prog Y.w) Y.A b R Y.xe s') :
  wpAny (model Y.prog Y.w) Y.A (tstS cd Y.env a b) R Y.xe s:=by
 refine ac (wpAny_tests_one (ba (ht _ s _ H _ J h) (λok s6 hr6=>?_) λ_ _ z=>z))
 obtain ⟨H6,J6,hok⟩:=hr6
 cases ok with
 |false=>exact hb s6 H6 J6 hok
 |true=>exact ha s6 H6 J6 hok
end
section
variable {X:Cx}{elt iter cd:Expr}{x:Str}{px pos:Pos}{scope:Scope}{cl:List (Str×Aj)}{M:List Nat}{wi:TI}{te:TE}{tt:TT}{pins:List (Aj×Obj)}{σ:St}
theorem qym {N:List Str}{C:Aj}{s2:Ab}{H1:Hp}{fp:List Aj}(hcap:CapAll X.env cl)(I2:Inv X pins σ H1 s2)(hlt:s2.heap.objs.size<C)(hfp:∀b∈fp,uq X pins H1 b)(hbl:∀b∈fp,b<s2.heap.objs.size)(H2:Hp)(hn:∀b∈fp,H2 b=none) :
  ∀b∈fp,uq { X with N:=N,s₀:=s2,H₀:=H1,env:=compEnvC scope cl C X.env,outer:=X.stack,ex:=fp,fn:=λ_=>false,pn:=X.pn++pins,xe:=λ_ _=>False } [] H2 b:=λb hb=>by
 obtain ⟨q1,q2,q3,q4,q5,q6⟩:=hfp b hb
 refine ⟨hn b hb,az (bj (hbl b hb) hlt),λz=>?_,.inl hb,λy c e=>q5 y c (hcap.look e),λp hp=>q6 p ((bi.mp hp).elim (λz=>z) λz=>nomatch z)⟩
 rcases ae.mp (I2.stkSub b z) with z|z
 ·exact q2 z
 ·exact q3 z
theorem qvm {tg:Expr}{ifs:List Expr}{rest:List Comprehension}(hclos:closureFor scope X.env=pure cl)(hhas:HasAll cl scope.names)(hk:scope.kind=.function)
  (hnames:∀y∈scope.names,y.2=.local→scope.names.lookup y.1=some .local) (hi:PI X tg iter wi) (hs:∀z,foldedSetIterable iter X.env z=pure z)
  {use:Option (Ag→Sem Unit)} {QQ:Ag→Ab→Prop} {s:Ab} {H:Hp} {ps:Pos} {R:It→Hp→Prop} (I:Inv X pins σ H s) (h:wi σ H R)
  (go:∀(it:Aj) (fp:List Aj) (tn:Nat→Heap→Prop) (J:It) (H1:Hp) (s2:Ab) (C:Aj) (h3:Heap) (tk:Nat),Inv X pins σ H1 s2→Turn X.prog X.w X.K tg J fp it tn→tn 0 h3→(∀b∈fp,uq X pins H1 b)→(∀b∈fp,b<s2.heap.objs.size)→(∀b∈fp,∃o,s2.heap.get? b=some o)→R J H1→s2.heap.objs.size<C →
   (∀b o,s2.heap.get? b=some o→h3.get? b=some o)→(h3.Ns C λ_=>none)→h3.get? s2.heap.objs.size=some { cls:=.type "list",data:=.seq #[] 0 } →
   codeAny (model X.prog X.w) X.A (.compLoop (.ListComp elt (⟨tg,iter,ifs,0⟩::rest) scope pos) 0 (.ref it) (.ref s2.heap.objs.size) (compEnvC scope cl C X.env)) (compPost (model X.prog X.w) X.A X.xe use QQ (.ref s2.heap.objs.size) C) { s2 with heap:=h3,toks:=tk }) :
  wpAny (model X.prog X.w) X.A (comprehension (.ListComp elt (⟨tg,iter,ifs,0⟩::rest) scope pos) scope X.env ps (newList []) false (eval iter X.env) use) QQ X.xe s:=by
 refine dF (use:=use) rfl hs hclos hk hnames ?_
 refine thn (hi pins s σ H _ I h) λv s1 h1=>thn h1 λitv s2 h2=>?_
 obtain ⟨it,fp,tn,J,H1,rfl,I2,T,t0,hfp,hR⟩:=h2
 refine cA ?_
 refine eE hhas.nocell (by intro y hy;cases hy) (λh3 hns hsb=>?_) hk
 dsimp only at hns hsb ⊢
 generalize hH2:s2.heap.push { cls:=.type "list",dict:=none,data:=.seq ([]:List Ag).toArray }=G2 at hns hsb ⊢
 have hC:G2.objs.size=s2.heap.objs.size+1:=by rw [←hH2,dO]
 have hlt:s2.heap.objs.size<G2.objs.size:=by lia
 have keep:∀b o,s2.heap.get? b=some o→h3.get? b=some o:=λb o e=>by
  rw [hsb.2 b (az (bj (am e) hlt))]
  exact ag _ (hH2▸ag _ e)
 have hD:h3.get? s2.heap.objs.size=some { cls:=.type "list",data:=.seq #[] 0 }:=by
  rw [hsb.2 _ (az hlt)]
  exact ag _ (hH2▸aw _ rfl)
 have t3:=T.keep 0 _ _ t0 λb _ o e=>keep b o e
 have loop:=λtk=>go it fp tn J H1 s2 G2.objs.size h3 tk I2 T t3 hfp (λb hb=>let ⟨o,e,_⟩:=T.obj 0 _ t0 b hb;am e) (λb hb=>let ⟨o,e,_⟩:=T.obj 0 _ t0 b hb;⟨o,e⟩) hR hlt keep hns hD
 exact codeAny_compStart_list (loop _) (T.self _ 0 _ _ _ t3 (loop _))
theorem Zn (M:List Nat)(σ:St)(v:V):(jk M σ none).length=(jk M σ (some v)).length∧∀(k:Nat) z,(jk M σ none)[k]?=some (some z)→(jk M σ (some v))[k]?=some (some z):=⟨rfl,λk z ez=>by
 cases k with
 |zero=>cases ez
 |succ k=>exact ez⟩
end
section
variable {X:Cx}{elt iter:Expr}{x:Str}{px pos:Pos}{scope:Scope}{cl:List (Str×Aj)}{M:List Nat}{wi:TI}{te:TE}
theorem qun (hc:X.calm=true)(hclos:closureFor scope X.env=pure cl)(hcap:CapAll X.env cl)(hhas:HasAll cl scope.names)(hix:CapIx X scope cl M)(hk:scope.kind=.function)
  (hnames:∀y∈scope.names,y.2=.local→scope.names.lookup y.1=some .local) (hx:scope.names.lookup x=some .local) (hnd:(Yp X x M).Nodup) (hi:PI X (.Name x px) iter wi)
  (he:∀C s2 H2 fp pn,PE (k8 X scope cl x M C s2 H2 fp pn) elt te) (hs:∀z,foldedSetIterable iter X.env z=pure z)
  {use:Option (Ag→Sem Unit)} {QQ:Ag→Ab→Prop} {pins:List (Aj×Obj)} {s:Ab} {σ:St} {H:Hp} {Q:VK} {ps:Pos} (I:Inv X pins σ H s) (h:wi σ H λJ H1=>wqb J M te σ H1 Q)
  (fin:∀(C:Aj) (s2 s4:Ab) (H1 H2:Hp) (fp:List Aj),Inv X pins σ H1 s2→s2.heap.objs.size<C→(∀b∈fp,uq X pins H1 b)→Inv (k8 X scope cl x M C s2 H1 fp (X.pn++pins)) [] (jk M σ none) H2 s4→Q (.ref s2.heap.objs.size) H2 →
   compPost (model X.prog X.w) X.A X.xe use QQ (.ref s2.heap.objs.size) C (.ok .next) s4) :
  wpAny (model X.prog X.w) X.A (comprehension (.ListComp elt [⟨.Name x px,iter,[],0⟩] scope pos) scope X.env ps (newList []) false (eval iter X.env) use) QQ X.xe s:=by
 refine qvm hclos hhas hk hnames hi hs I h λit fp tn J H1 s2 C h3 tk I2 T t3 hfp hbl hob hR hlt keep hns hD=>?_
 obtain ⟨W,⟨m0,w0⟩,hW⟩:=hR s2.heap.objs.size (I2.hok.fresh (al _))
 have hxl:(relabel scope X.env).names.lookup x=some .local:=eF hx
 refine Yt (Y:=k8 X scope cl x M C s2 H1 fp (X.pn++pins)) (V:=λi n H2=>∃ys,W i n ys H2) (Qd:=Q (.ref s2.heap.objs.size)) (REST:=appS elt (.ref s2.heap.objs.size) (compEnvC scope cl C X.env) _) T hc (λ_ _ z=>z) (compTurn_list1 ..) rfl rfl (xp (i:=0) hnd rfl (.inl hxl) (.inr hxl)) (qym hcap I2 hlt hfp hbl) (λi n H2 ⟨ys,w⟩=>?_) (λH2 s4 J4 q=>fin C s2 s4 H1 H2 fp I2 hlt hfp J4 q) (I2.comp hcap hhas hix hk hlt keep hns hD hfp hob) ⟨[],w0⟩ t3 λb hb=>by rw [wf (az (hbl b hb))];exact (hfp b hb).1
 obtain ⟨hp,hz,hcase⟩:=hW i n ys H2 w
 refine hcase.imp id λ⟨hgo,hy⟩=>⟨hgo,λv H3 yl=>⟨λσ4 H4=>σ4=jk M σ (some v)∧H3=H4,⟨rfl,rfl⟩,λ_ _ e=>?_⟩⟩
 obtain ⟨rfl,rfl⟩:=e
 refine ⟨Zn M σ v,λpins' s' J=>?_⟩
 refine ba (wqg (N:=λzs H5=>∃m',m'<n∧W (i+1) m' zs H5) (λ_ _ z=>z) (he _ _ _ _ _) J hz (hy v H3 yl)) (λr s5 ⟨e,H5,J5,zs,m',hm,w'⟩=>⟨e,H5,J5,m',hm,zs,w'⟩) λ_ _ z=>z
theorem qk6 (hc:X.calm=true)(hclos:closureFor scope X.env=pure cl)(hcap:CapAll X.env cl)(hhas:HasAll cl scope.names)(hix:CapIx X scope cl M)(hk:scope.kind=.function)
  (hnames:∀y∈scope.names,y.2=.local→scope.names.lookup y.1=some .local) (hx:scope.names.lookup x=some .local) (hnd:(Yp X x M).Nodup) (hi:PI X (.Name x px) iter wi)
  (he:∀C s2 H2 fp pn,PE (k8 X scope cl x M C s2 H2 fp pn) elt te) (hs:autoParam (∀z,foldedSetIterable iter X.env z=pure z) aU3._auto_1) :
  PE X (.ListComp elt [⟨.Name x px,iter,[],0⟩] scope pos) (tComp M wi te):=by
 intro pins s σ H Q I h
 rw [eval_ListComp]
 refine qun hc hclos hcap hhas hix hk hnames hx hnd hi he hs (use:=none) I h λC s2 s4 H1 H2 fp I2 hlt hfp J4 hq=>?_
 obtain ⟨m,hn,_⟩:=J4.loc
 exact ⟨m,hn,λh' hs'=>⟨.ref s2.heap.objs.size,H2,I2.uncomp (bH hlt) hfp J4 hs',rfl,hq⟩⟩
theorem Inv.but {pins:List (Aj×Obj)}{σ:St}{H:Hp}{s:Ab}{h':Heap}{C:Aj}(I:Inv X pins σ H s)(hn:H C=none)(h1:X.s₀.heap.objs.size≤C)(h2:C≠X.env.locals)(h3:∀y c,X.env.cells.lookup y=some c→c≠C)(h4:∀p∈X.pn++pins,p.1≠C)
  (hs:Heap.SameBut C s.heap h'):Inv X pins σ H { s with heap:=h' }:=by
 have st:∀b o,b≠C→s.heap.get? b=some o→h'.get? b=some o:=λb o n e=>(hs.2 b n).trans e
 have nc:∀b,b∉[C]→b≠C:=λb z e=>z (by rw [e];exact .head _)
 refine I.call' (s':={ s with heap:=h' }) (ch:=[C]) rfl ⟨λb o e n _ nx=>st b o (nc b nx) e,λb o e n _ nx=>⟨o.slots,st b o (nc b nx) e⟩,λb o e n _=>n,λb o e nx=>⟨o,st b o (nc b nx) e⟩,λ_ _ e=>e,λ_ _ _ e=>e,λb ps e=>⟨#[],by rw [e];simp⟩⟩ ?_ I.bare λb hb=>?_
 ·intro b u hu
  refine (I.hok b u hu).stay (λc v hc e=>st c v ?_ e) (λ_ z=>z) λ_ _ z=>z
  rcases hc with rfl|hc
  ·intro z;rw [z,hn] at hu;cases hu
  ·intro z;rw [z,hn] at hc;cases hc
 ·rw [aq.mp hb]
  exact ⟨.inr h1,h2,h3,h4⟩
theorem wwh {i:Nat}{y:Str}{py spos:Pos}(hN:X.N.Nodup)(hyi:X.N[i]?=some y)(hyl:Loc X.env.scope y)(hc:X.calm=true)(hclos:closureFor scope X.env=pure cl)(hcap:CapAll X.env cl)(hhas:HasAll cl scope.names)(hix:CapIx X scope cl M)(hk:scope.kind=.function)
  (hnames:∀y∈scope.names,y.2=.local→scope.names.lookup y.1=some .local) (hx:scope.names.lookup x=some .local) (hnd:(Yp X x M).Nodup) (hi:PI X (.Name x px) iter wi)
  (he:∀C s2 H2 fp pn,PE (k8 X scope cl x M C s2 H2 fp pn) elt te) (hs:autoParam (∀z,foldedSetIterable iter X.env z=pure z) aU3._auto_1)
  (hsw:autoParam (swapsWith (.ListComp elt [⟨.Name x px,iter,[],0⟩] scope pos) (some (.Name y py)) spos.line X.env=pure true) aU4._auto_1) (hyf:autoParam (X.fn y=true∨X.env.scope.names.lookup y=some .local) aU0._auto_1) :
  PS X (.Assign [.Name y py] (.ListComp elt [⟨.Name x px,iter,[],0⟩] scope pos) spos) (tAsg (tComp M wi te) (wqz i)):=by
 intro pins s σ H D I h
 rw [d8 _ _ _ _ hsw]
 refine ac (cS (ac ?_))
 refine ac (ba (qun hc hclos hcap hhas hix hk hnames hx hnd hi he hs (use:=some (assign (.Name y py) X.env)) (QQ:=λ_ s'=>SP X pins D .next s') I h λC s2 s4 H1 H2 fp I2 hlt hfp J4 hq=>?_) (λ_ s' hq=>ao (ao hq)) λ_ _ e=>e)
 have I4:Inv X pins σ H2 s4:=I2.uncomp (h':=s4.heap) (bH hlt) hfp J4 (fi _ _)
 have hCn:H2 C=none:=J4.free
 obtain ⟨mC,hnC,_⟩:=J4.loc
 obtain ⟨oC,esC,epC,hoC,hdC⟩:=id hnC
 have hCl:C≠X.env.locals:=λz=>aQ _ (bj hlt (z▸I2.lt))
 have hCs:X.s₀.heap.objs.size≤C:=bD I2.sz (bH hlt)
 have hCc:∀y c,X.env.cells.lookup y=some c→c≠C:=λy c e z=>by
  obtain ⟨v,o,e1,_⟩:=I2.cell y c e
  exact aQ _ (bj hlt (z▸am e1))
 have hCp:∀p∈X.pn++pins,p.1≠C:=λp hp z=>aQ _ (bj hlt (z▸am (I2.pin p hp).1))
 have hCf:C∉frs X.stack:=λz=>by
  rcases ae.mp (I2.stkSub C z) with q|q
  ·exact hCl q
  ·obtain ⟨_,o,e1,_⟩:=I2.funs.mem (b:=C) q
   exact aQ _ (bj hlt (am e1))
 have hCx:C∉X.fs:=λz=>by
  obtain ⟨_,o,e1,_⟩:=I2.funs.mem (b:=C) z
  exact aQ _ (bj hlt (am e1))
 have I4p:Inv X (pins++[(C,oC)]) σ H2 s4:=⟨I4.ok,I4.os,I4.bare,I4.base,I4.loc,I4.cell,I4.free,I4.freeC,λp hp=>by
  rcases bi.mp hp with q|q
  ·exact I4.pin p (cw _ q)
  ·rcases bi.mp q with q|q
   ·exact I4.pin p (aA _ q)
   ·rw [aq.mp q]
    exact ⟨hoC,hCn,hCl,hCx,λv z=>by rw [hdC.1] at z;cases z⟩,I4.hok,I4.len⟩
 show wpAny _ _ (assign (.Name y py) X.env (.ref s2.heap.objs.size)) _ _ _
 refine dN (ud I4p hN hyi hyl (show RelV (.ref s2.heap.objs.size) (.ref s2.heap.objs.size) from rfl) (λs5 I5=>?_) hyf)
 have hC5:=(I5.pin (C,oC) (aA _ (aA _ (.head _)))).1
 exact ⟨mC,⟨oC,esC,epC,hC5,hdC⟩,λh' hs'=>⟨_,H2,I5.unpinned.but hCn hCs hCl hCc hCp hs',hq⟩⟩
end
theorem wxj {M:List Nat}{lo:Int}{n:Nat}{te:TE}{σ:St}{H:Hp}{Q:VK}(f:Nat→V)(hn:n≤1000000)(he:∀(i:Nat) (H':Hp) (R:VK),i<n→Same H H'→R (f i) H'→te (jk M σ (some (.int (lo+i)))) H' R)
  (k:∀p,H p=none→Q (.ref p) (upd H p (.lst ((List.range n).map f)))):wqb (Itr lo n) M te σ H Q:=by
 intro p np
 refine ⟨λi m ys H2=>i≤n∧m=n-i∧ys=(List.range i).map f∧H2=upd H p (.lst ys),⟨n,aD _,rfl,rfl,rfl⟩,?_⟩
 rintro i m ys H2 ⟨hi,rfl,rfl,rfl⟩
 refine ⟨qc,?_,?_⟩
 ·rw [aa,aM]
  have:(1000000:Nat)<sizeLine:=by decide
  lia
 ·by_cases hlt:i<n
  ·refine .inr ⟨hlt,?_⟩
   rintro v H3 ⟨rfl,rfl⟩
   refine he i (upd H p (.lst ((List.range i).map f))) _ hlt (Same.upd np) ⟨qc,n-(i+1),⋯,⋯,rfl,?_,?_⟩
   ·rw [cb,bg]
    rfl
   ·rw [yz]
  ·have:i=n:=by lia
   subst this
   exact .inl ⟨al _,k p np⟩
theorem qkw {K:Aa}{M:List Nat}{a:Aj}{xs:List V}{te:TE}{σ:St}{H:Hp}{Q:VK}(f:V→V)(hS:SqL K H a xs)(hn:xs.length≤1000000)(he:∀(x:V) (H':Hp) (R:VK),x∈xs→Same H H'→R (f x) H'→te (jk M σ (some x)) H' R)
  (k:∀p,H p=none→Q (.ref p) (upd H p (.lst (xs.map f)))):wqb (Itl K a) M te σ H Q:=by
 intro p np
 refine ⟨λi m ys H2=>i≤xs.length∧m=xs.length-i∧ys=(xs.take i).map f∧H2=upd H p (.lst ys),⟨xs.length,aD _,rfl,rfl,rfl⟩,?_⟩
 rintro i m ys H2 ⟨hi,rfl,rfl,rfl⟩
 have hS':SqL K (upd H p (.lst ((xs.take i).map f))) a xs:=Same.sql (Same.upd np) hS
 refine ⟨qc,?_,?_⟩
 ·rw [aa,bE]
  have:(1000000:Nat)<sizeLine:=by decide
  lia
 ·by_cases hlt:i<xs.length
  ·have hx:xs[i]?=some xs[i]:=aj hlt
   refine .inr ⟨⟨xs,_,hS',hx⟩,?_⟩
   rintro v H3 ⟨rfl,hv⟩
   have e:=hv xs hS'
   rw [hx] at e
   have e':=av e
   subst e'
   refine he _ _ _ (bO hlt) (Same.upd np) ⟨qc,xs.length-(i+1),⋯,⋯,rfl,?_,?_⟩
   ·rw [List.take_succ,hx,bg]
    rfl
   ·rw [yz]
  ·have hi':i=xs.length:=by lia
   subst hi'
   refine .inl ⟨⟨xs,hS',al _⟩,?_⟩
   rw [cX]
   exact k p np
end L2
namespace L2
open PySem PySem.Spec PyProof.Rows
section
variable {X:Cx}
theorem qv3 {pins:List (Aj×Obj)}{σ:St}{H:Hp}{s:Ab}{p:Aj}{ns:List Int}(I:Inv X pins σ H s)(hS:SqL X.K H p (ns.map V.int)) :
  ∃ts:Array (Int×Tok),s.heap.IsList p (intItems ts)∧ns=ts.toList.map (·.1):=by
 obtain ⟨its,rv,⟨o,n,e1,e2,e3,e4⟩,hz⟩:=I.list hS
 have hi:=wwg rv
 obtain ⟨ts,ht⟩:=hi.allInts.items
 refine ⟨ts,⟨o,e1,e2,n,by rw [←ht];exact e4⟩,?_⟩
 have a1:=hi.numsOf
 have a2:=nums_intItems (xs:=ts)
 rw [←ht] at a2
 exact a1.symm.trans a2
theorem qz7 (hc:X.calm=true):j4 X (.builtin "min") (λxs H Q=>∃(p:Aj) (ns:List Int),xs=[.ref p]∧SqL X.K H p (ns.map V.int)∧0<ns.length∧∀m,m∈ns→(∀a∈ns,m≤a)→Q (.int m) H):=by
 intro pins s σ H xs us Q I r h
 obtain ⟨p,ns,rfl,hS,hne,q⟩:=h
 obtain ⟨u,rfl,ru⟩:=uh r
 cases (show u=Value.ref p from ru)
 obtain ⟨ts,hl,he⟩:=qv3 I hS
 have hsz:ts.size=ns.length:=by rw [he,aa,bq]
 refine min_intList (I.ok.hd hc) hl ⋯ λv h' tk hv hk=>?_
 obtain ⟨t,rfl⟩:=intItems_at hv
 obtain ⟨b1,b2⟩:=argBest_lt (numAt ts) (ts.size-1)
 refine ⟨.int _,H,I.kept hk,⟨t,rfl⟩,q _ ?_ λa ha=>?_⟩
 ·rw [he,numAt_eq]
  refine getD_mem ?_
  rw [←he,←hsz]
  lia
 ·rw [he] at ha
  obtain ⟨j,hj,rfl⟩:=mem_getD ha
  rw [←he,←hsz] at hj
  rw [←numAt_eq]
  exact b2 j ⋯
theorem qvy (hc:X.calm=true):j4 X (.builtin "max") (λxs H Q=>∃(p:Aj) (ns:List Int),xs=[.ref p]∧SqL X.K H p (ns.map V.int)∧0<ns.length∧∀m,m∈ns→(∀a∈ns,a≤m)→Q (.int m) H):=by
 intro pins s σ H xs us Q I r h
 obtain ⟨p,ns,rfl,hS,hne,q⟩:=h
 obtain ⟨u,rfl,ru⟩:=uh r
 cases (show u=Value.ref p from ru)
 obtain ⟨ts,hl,he⟩:=qv3 I hS
 have hsz:ts.size=ns.length:=by rw [he,aa,bq]
 refine max_intList (I.ok.hd hc) hl ⋯ λv h' tk hv hk=>?_
 obtain ⟨t,rfl⟩:=intItems_at hv
 obtain ⟨b1,b2⟩:=argBest_gt (numAt ts) (ts.size-1)
 refine ⟨.int _,H,I.kept hk,⟨t,rfl⟩,q _ ?_ λa ha=>?_⟩
 ·rw [he,numAt_eq]
  refine getD_mem ?_
  rw [←he,←hsz]
  lia
 ·rw [he] at ha
  obtain ⟨j,hj,rfl⟩:=mem_getD ha
  rw [←he,←hsz] at hj
  rw [←numAt_eq]
  exact b2 j ⋯
theorem qxs:∀ {bs:List Bool} {its:List Ag},Vals (bs.map V.bl) its→its=bs.map Value.bool
 |[],_,.nil=>rfl
 |b::bs,_,.cons r t=>by
  have e:_=Value.bool b:=r
  rw [aC,←qxs t,e]
theorem wkn (bs:List Bool):(List.range bs.length).all (λi=>bs.getD i true)=bs.all id:=by
 rw [cO,bP,bP]
 constructor
 ·intro h b hb
  obtain ⟨i,hi,rfl⟩:=bx hb
  have:=h i (aW.mpr hi)
  rw [ar,aj hi] at this
  exact this
 ·intro h i hi
  have hi':=aW.mp hi
  rw [ar,aj hi']
  exact h _ (bO hi')
theorem Zx (hc:X.calm=true):j4 X (.builtin "all") (λxs H Q=>∃(p:Aj) (bs:List Bool),xs=[.ref p]∧SqL X.K H p (bs.map V.bl)∧Q (.bl (bs.all id)) H):=by
 intro pins s σ H xs us Q I r h
 obtain ⟨p,bs,rfl,hS,q⟩:=h
 obtain ⟨u,rfl,ru⟩:=uh r
 cases (show u=Value.ref p from ru)
 obtain ⟨its,rv,⟨o,n,e1,e2,e3,e4⟩,hz⟩:=I.list hS
 have hits:=qxs rv
 have hl:s.heap.IsList p its.toArray:=⟨o,e1,e2,n,e4⟩
 have hlt:p<s.heap.objs.size:=am e1
 refine call_all_walk (fh hl ?_)
 refine ⟨s.heap.objs.size,_,_,_,_,_,λi=>bs.getD i true,rfl,Walks.list (A:=X.A.in1) (I.ok.hd hc) _ p (az hlt) its.toArray,⟨⟨_,aw _ rfl,rfl,rfl⟩,hl.push _⟩,λi v s' Q' E' hP hQ=>?_,λh' tk hk=>?_⟩
 ·have hv:its[i]?=some v:=by simpa using hP
  rw [hits,aE] at hv
  cases hb:bs[i]? with
  |none=>rw [hb] at hv;cases hv
  |some b =>
   rw [hb] at hv
   have ev:Value.bool b=v:=av hv
   subst ev
   refine cz ?_
   have e2:bs.getD i true=b:=by rw [ar,hb];rfl
   have hQ':Q' (bs.getD i true) s':=hQ
   rw [e2] at hQ'
   exact hQ'
 ·have hlen:its.toArray.size=bs.length:=by rw [hits];simp
  rw [hlen,wkn]
  refine ⟨.bl _,H,I.kept λb ob e=>hk b ob (λhm=>?_) (ag _ e),rfl,q⟩
  have z:b=s.heap.objs.size:=by simpa using hm
  exact aQ _ (z▸am e)
end
structure MCal (P:Ac)(w:Ah)(K:Aa)(mg:Str→Option Ag)(base:Heap)(C:Aj)(m:Str)(k:Nat)(sp:Sp):Prop where
 ex:∃f fd ps,Meth K C m f∧FnOk P w K mg base (CXE P w) k f fd ps sp∧Binds K fd ps []
structure CCal (P:Ac)(w:Ah)(K:Aa)(mg:Str→Option Ag)(base:Heap)(x:Str)(C:Aj)(k:Nat)(sp:Sp):Prop where
 ex:∃f fd ps,mg x=some (.ref C)∧Mk K C f∧FnOk P w K mg base (CXE P w) k f fd ps sp∧Binds K fd ps []
structure MethIn (K:Aa)(C:Aj)(m qual:Str)(st:Stmt):Prop where
 ex:∃f fd,W.findIn K (.ref C) m=some (some (.ref f))∧W.isFn K (.ref f)=true∧Fun K m qual st f fd
theorem xwk {K:Aa}{C:Aj}{m qual:Str}{st:Stmt}{f:Aj}{oc:Ag}{od an:Option Aj}{osl:Array (Option Ag)}{kV doc pm cdv ct:Ag}(a:W.findIn K (.ref C) m=some (some (.ref f)))(i:W.isFn K (.ref f)=true)
  (l:K.lookup f=some ⟨oc,od,.func (W.fnOf m qual (yx st) (jc st) (wg st) .none kV doc pm an cdv ct),osl⟩) (c:W.codeIn K cdv qual=true) (k:W.keepIn K (.ref f)=true):MethIn K C m qual st:=⟨_,_,a,i,wyf l c k⟩
def zc (x qual:Str)(st:Stmt)(ps:List Str):Prop:=∀(kV doc pm:Ag) (an:Option Aj) (cdv ct:Ag) (us:List Ag),us.length=ps.length→bindArgs (W.fnOf x qual (yx st) (jc st) (wg st) .none kV doc pm an cdv ct) ⟨us,[]⟩=pure (ps.zip us)
section
variable {P:Ac}{w:Ah}{K:Aa}{mg:Str→Option Ag}{base:Heap}{C:Aj}
theorem MethIn.cal {m qual:Str}{st:Stmt}{ps:List Str}{k:Nat}{sp:Sp}(d:MethIn K C m qual st)(b:zc m qual st ps)(ok:∀f fd,Fun K m qual st f fd→FnOk P w K mg base (CXE P w) k f fd ps sp):MCal P w K mg base C m k sp:=by
 obtain ⟨f,fd,a,i,F⟩:=d.ex
 exact ⟨f,fd,ps,⟨a,i,F.kp⟩,ok f fd F,F.binds b⟩
theorem MethIn.ccal {x qual:Str}{st:Stmt}{ps:List Str}{k:Nat}{sp:Sp}(d:MethIn K C "__init__" qual st)(hm:mg x=some (.ref C))(mk:W.makesIn K C=true)(kc:W.keepIn K (.ref C)=true)(b:zc "__init__" qual st ps)
  (ok:∀f fd,Fun K "__init__" qual st f fd→FnOk P w K mg base (CXE P w) k f fd ps sp):CCal P w K mg base x C k sp:=by
 obtain ⟨f,fd,a,i,F⟩:=d.ex
 exact ⟨f,fd,ps,hm,⟨mk,a,i,kc⟩,ok f fd F,F.binds b⟩
end
section
variable {X:Cx}{C:Aj}{x m:Str}{k:Nat}{sp:Sp}{E:St→XK}{p pos apos:Pos}{e o:Expr}{es:List Expr}{ta:TE}{t:TA}
theorem Qm (c:CCal X.prog X.w X.K X.mg X.base x C k sp)(hr:Room (k+1) X.A)(hg:Gl X x)(hx:y6 X E)
  (ha:PA X (e::es) t) (hdb:autoParam ((x==("__debug__" : Str))=false) aU1._auto_1) (he:autoParam (starEach (e::es) X.env=(false,eval e X.env)::starEach es X.env) aU4._auto_1) (hpl:autoParam ((backTo pos (starEach es X.env)).any (·.1)=false) aU4._auto_1) :
  PE X (.Call (.Name x p) (e::es) [] pos) (wwf C sp E t):=by
 obtain ⟨f,fd,ps,hm,M,F,b⟩:=c.ex
 exact wjj M F hr hg hm b hx ha hdb he hpl
theorem wjx {pl:Sem Bool}(he:PE X o ta)(cl:Cls X.K C)(c:MCal X.prog X.w X.K X.mg X.base C m k sp)(hr:Room k X.A)(hx:y6 X E)(ha:PA X (e::es) t)
  (hst:autoParam (starEach (e::es) X.env=(false,eval e X.env)::starEach es X.env) aU4._auto_1) (hpl:autoParam ((backTo pos (starEach es X.env)).any (·.1)=false) aU4._auto_1)
  (ht:autoParam (eval (.Call (.Attribute o m apos) (e::es) [] pos) X.env=(do
   let ov ←eval o X.env
   standAt apos.atName
   let (f,first) ←holding [ov] (getMethod ov m pl)
   callWith pos f first (backTo pos (starEach (e::es) X.env)) (backToKw pos (keywordEach [] X.env)))) aU4._auto_1) :
  PE X (.Call (.Attribute o m apos) (e::es) [] pos) (qxz C m sp E ta t):=by
 obtain ⟨f,fd,ps,hm,F,b⟩:=c.ex
 exact wuu he cl hm F hr b hx ha hst hpl ht
theorem kj {pl:Sem Bool}(he:PE X o ta)(cl:Cls X.K C)(c:MCal X.prog X.w X.K X.mg X.base C m k sp)(hr:Room k X.A)(hx:y6 X E)
  (ht:autoParam (eval (.Call (.Attribute o m apos) [] [] pos) X.env=(do
   let ov ←eval o X.env
   standAt apos.atName
   let (f,first) ←holding [ov] (getMethod ov m pl)
   callWith pos f first (backTo pos (starEach [] X.env)) (backToKw pos (keywordEach [] X.env)))) aU4._auto_1) :
  PE X (.Call (.Attribute o m apos) [] [] pos) (qxz C m sp E ta Qc):=by
 obtain ⟨f,fd,ps,hm,F,b⟩:=c.ex
 exact wkr he cl hm F hr b hx ht
end
end L2
namespace L2
open PySem
def hAt (hs:List Int)(k:Int):Int:=hs.getD k.toNat 0
def kF (hs:List Int)(t b:Int):Int:=if (hs.length:Int)-1-1<t/b then (hs.length:Int)-1-1 else t/b
def yr (hs:List Int)(t b:Int):Int:=hAt hs (kF hs t b)*b+(hAt hs (kF hs t b+1)-hAt hs (kF hs t b))*(t-kF hs t b*b)
theorem wy6 {hs:List Int}{t b:Int}(hl:2≤hs.length)(hb:1≤b)(h0:0≤t):0≤kF hs t b∧kF hs t b<(hs.length:Int)-1:=by
 have h:=fO h0 (show (0:Int)≤b by lia)
 unfold kF
 split <;> lia
theorem wk9 {hs:List Int}{t b c:Int}(hc:1≤c):kF hs (t*c) (b*c)=kF hs t b:=by
 unfold kF
 rw [df _ _ (show 0<c by lia)]
theorem qy2 {hs:List Int}{t b c:Int}(hc:1≤c):yr hs (t*c) (b*c)=yr hs t b*c:=by
 unfold yr
 rw [wk9 hc]
 generalize hAt hs (kF hs t b)=u
 generalize hAt hs (kF hs t b+1)=v
 generalize kF hs t b=k
 grind
theorem div_in {k t b:Int}(hb:1≤b)(h1:k*b≤t)(h2:t<(k+1)*b):t/b=k:=by
 have a1:k≤t/b:=(Int.le_ediv_iff_mul_le ⋯).mpr h1
 have a2:t/b<k+1:=(Int.ediv_lt_iff_lt_mul ⋯).mpr h2
 lia
theorem quv {hs:List Int}{k t b:Int}(hk:0≤k)(hk2:k<(hs.length:Int)-1)(hb:1≤b)(h1:k*b≤t)(h2:t≤(k+1)*b) :
  yr hs t b=hAt hs k*b+(hAt hs (k+1)-hAt hs k)*(t-k*b):=by
 by_cases hlt:t<(k+1)*b
 ·have e:=div_in hb h1 hlt
  have ek:kF hs t b=k:=by
   unfold kF
   rw [e]
   split <;> lia
  unfold yr
  rw [ek]
 ·have et:t=(k+1)*b:=by lia
  have e:t/b=k+1:=by
   rw [et]
   exact Int.mul_ediv_cancel _ ⋯
  by_cases hn:(hs.length:Int)-1-1<k+1
  ·have ek:kF hs t b=k:=by
    unfold kF
    rw [e,ak hn]
    lia
   unfold yr
   rw [ek]
  ·have ek:kF hs t b=k+1:=by
    unfold kF
    rw [e,ai hn]
   unfold yr
   rw [ek,et]
   generalize hAt hs k=u
   generalize hAt hs (k+1)=v
   generalize hAt hs (k+1+1)=z
   grind
def Wj (hs:List Int)(t b:Int):Int×Int:=xg (yr hs t b) b
theorem qvr {hs:List Int}{t b:Int}(hb:1≤b):Wj hs (xg t b).1 (xg t b).2=Wj hs t b:=by
 unfold Wj
 have hg:=uz (t:=t) hb
 have e1:(xg t b).1*gOf t b=t:=by rw [fK];exact quy
 have e2:(xg t b).2*gOf t b=b:=by rw [fK];exact qxm hb
 have h:=qy2 (hs:=hs) (t:=(xg t b).1) (b:=(xg t b).2) hg
 rw [e1,e2] at h
 rw [h]
 conv=>rhs;rw [←e2]
 rw [e2]
 have:=xw5 (t:=yr hs (xg t b).1 (xg t b).2) (b:=(xg t b).2) (Wt hb) hg
 rw [e2] at this
 exact this.symm
theorem qqy {t b:Int}(hb:1≤b):(xg t b).1<0↔t<0:=by
 have hg:=uz (t:=t) hb
 have e1:gOf t b*(xg t b).1=t:=quy
 constructor
 ·intro h
  have:=eZ h (show 0<gOf t b by lia)
  rw [e1,Int.mul_zero] at this
  exact this
 ·intro h
  rcases cR (xg t b).1 0 with z|z
  ·exact z
  ·have:=bS z (show 0≤gOf t b by lia)
   rw [e1,Int.mul_zero] at this
   lia
theorem wxs {t b n:Int}(hb:1≤b):n*(xg t b).2<(xg t b).1↔n*b<t:=by
 have hg:=uz (t:=t) hb
 have e1:gOf t b*(xg t b).1=t:=quy
 have e2:gOf t b*(xg t b).2=b:=qxm hb
 have e3:gOf t b*(n*(xg t b).2)=n*b:=by
  generalize gOf t b=g at *
  generalize (xg t b).2=y at *
  grind
 constructor
 ·intro h
  have:=eZ h (show 0<gOf t b by lia)
  rw [e1,e3] at this
  exact this
 ·intro h
  rcases cR (n*(xg t b).2) (xg t b).1 with z|z
  ·exact z
  ·have:=bS z (show 0≤gOf t b by lia)
   rw [e1,e3] at this
   lia
theorem qv1 {N b:Int}(hb:1≤b):b%(xg N b).2=0∧(xg N b).1*(b/(xg N b).2)=N:=by
 have hy:=Wt (t:=N) hb
 have cr:=qvc (t:=N) hb
 have hd:(xg N b).2∣b:=⟨gOf N b,by rw [fK];exact (qxm hb).symm⟩
 refine ⟨Int.emod_eq_zero_of_dvd hd,?_⟩
 have e:=eC hd
 generalize b/(xg N b).2=q at *
 generalize (xg N b).1=x at *
 generalize (xg N b).2=y at *
 have:y*(x*q-N)=0:=by grind
 rcases Int.mul_eq_zero.mp this with h|h <;> lia
def wvv (hs:List Int)(t b:Int):Int:=if t/b*b=t then hAt hs (t/b)*b else hAt hs (t/b)*b+(hAt hs (t/b+1)-hAt hs (t/b))*(t-t/b*b)
theorem wk5 {hs:List Int}{t b:Int}(hl:2≤hs.length)(hb:1≤b)(h0:0≤t)(h1:t≤((hs.length:Int)-1)*b):wvv hs t b=yr hs t b:=by
 have k0:=fO h0 (show (0:Int)≤b by lia)
 have k1:t/b*b≤t:=fP t ⋯
 have k2:t<(t/b+1)*b:=by
  have:=eK t (show 0<b by lia)
  exact this
 unfold wvv
 by_cases hlt:t/b<(hs.length:Int)-1
 ·rw [quv k0 hlt hb k1 (Int.le_of_lt k2)]
  split
  ·next e=>rw [e];simp
  ·rfl
 ·have ge:(hs.length:Int)-1≤t/b:=by lia
  have m1:=aJ ge (show 0≤b by lia)
  have et:t/b*b=t:=by lia
  have ek:t/b=(hs.length:Int)-1:=by
   have:t/b*b=((hs.length:Int)-1)*b:=by lia
   exact Int.eq_of_mul_eq_mul_right ⋯ this
  rw [ak et]
  have et2:t=((hs.length:Int)-1)*b:=by rw [←ek];exact et.symm
  rw [quv (k:=(hs.length:Int)-1-1) ⋯ ⋯ hb (by rw [et2];exact aJ ⋯ ⋯) (by rw [et2];exact aJ ⋯ ⋯),ek]
  have e5:(hs.length:Int)-1-1+1=(hs.length:Int)-1:=by lia
  rw [e5,et2]
  generalize hAt hs ((hs.length:Int)-1)=u
  generalize hAt hs ((hs.length:Int)-1-1)=v
  generalize (hs.length:Int)-1=n
  grind
theorem wjk {u v b d:Int}(hb:0≤d)(hd:d≤b):(if v<u then v else u)*b≤u*b+(v-u)*d∧u*b+(v-u)*d≤(if v>u then v else u)*b:=by
 by_cases h:v<u
 ·rw [ak h,ai ⋯]
  have a1:=bS hd (show 0≤u-v by lia)
  have a2:=dm (show 0≤u-v by lia) hb
  constructor <;> grind
 ·rw [ai h]
  have a1:=bS hd (show 0≤v-u by lia)
  have a2:=dm (show 0≤v-u by lia) hb
  by_cases h2:v>u
  ·rw [ak h2]
   constructor <;> grind
  ·rw [ai h2]
   have:v=u:=by lia
   subst this
   constructor <;> grind
end L2
namespace L2
open PySem PySem.Spec PyProof.Rows
def qyh (J:It)(M:List Nat)(tt:TT)(te:TE)(σ:St)(H1:Hp)(Q:VK):Prop:=∀p,H1 p=none→∃W:Nat→Nat→List V→Hp→Prop,(∃m,W 0 m [] (upd H1 p (.lst []))) ∧
 ∀i m ys H2,W i m ys H2→H2 p=some (.lst ys)∧ys.length<sizeLine∧((J.stop i H2∧Q (.ref p) H2)∨(J.go i H2∧∀v H3,J.yld i H2 v H3 →
  tt (jk M σ (some v)) H3 λb H4=>if b=true then te (jk M σ (some v)) H4 (λy H5=>H5 p=some (.lst ys)∧∃m',m'<m∧W (i+1) m' (ys++[y]) (upd H5 p (.lst (ys++[y])))) else H4 p=some (.lst ys)∧∃m',m'<m∧W (i+1) m' ys H4))
def wyt (M:List Nat)(wi:TI)(tt:TT)(te:TE):TE:=λσ H Q=>wi σ H λJ H1=>qyh J M tt te σ H1 Q
section
variable {X:Cx}{elt iter cd:Expr}{x:Str}{px pos:Pos}{scope:Scope}{cl:List (Str×Aj)}{M:List Nat}{wi:TI}{tt:TT}{te:TE}
theorem qkq (hc:X.calm=true)(hclos:closureFor scope X.env=pure cl)(hcap:CapAll X.env cl)(hhas:HasAll cl scope.names)(hix:CapIx X scope cl M)(hk:scope.kind=.function)
  (hnames:∀y∈scope.names,y.2=.local→scope.names.lookup y.1=some .local) (hx:scope.names.lookup x=some .local) (hnd:(Yp X x M).Nodup) (hi:PI X (.Name x px) iter wi)
  (ht:∀C s2 H2 fp pn,PT (k8 X scope cl x M C s2 H2 fp pn) cd tt) (he:∀C s2 H2 fp pn,PE (k8 X scope cl x M C s2 H2 fp pn) elt te) (hs:∀z,foldedSetIterable iter X.env z=pure z)
  {use:Option (Ag→Sem Unit)} {QQ:Ag→Ab→Prop} {pins:List (Aj×Obj)} {s:Ab} {σ:St} {H:Hp} {Q:VK} {ps:Pos} (I:Inv X pins σ H s) (h:wi σ H λJ H1=>qyh J M tt te σ H1 Q)
  (fin:∀(C:Aj) (s2 s4:Ab) (H1 H2:Hp) (fp:List Aj),Inv X pins σ H1 s2→s2.heap.objs.size<C→(∀b∈fp,uq X pins H1 b)→Inv (k8 X scope cl x M C s2 H1 fp (X.pn++pins)) [] (jk M σ none) H2 s4→Q (.ref s2.heap.objs.size) H2 →
   compPost (model X.prog X.w) X.A X.xe use QQ (.ref s2.heap.objs.size) C (.ok .next) s4) :
  wpAny (model X.prog X.w) X.A (comprehension (.ListComp elt [⟨.Name x px,iter,[cd],0⟩] scope pos) scope X.env ps (newList []) false (eval iter X.env) use) QQ X.xe s:=by
 refine qvm hclos hhas hk hnames hi hs I h λit fp tn J H1 s2 C h3 tk I2 T t3 hfp hbl hob hR hlt keep hns hD=>?_
 obtain ⟨W,⟨m0,w0⟩,hW⟩:=hR s2.heap.objs.size (I2.hok.fresh (al _))
 have hxl:(relabel scope X.env).names.lookup x=some .local:=eF hx
 refine Yt (Y:=k8 X scope cl x M C s2 H1 fp (X.pn++pins)) (V:=λi n H2=>∃ys,W i n ys H2) (Qd:=Q (.ref s2.heap.objs.size)) (REST:=tstS cd (compEnvC scope cl C X.env) (appS elt (.ref s2.heap.objs.size) (compEnvC scope cl C X.env) _) (again _)) T hc (λ_ _ z=>z) (compTurn_list ..) rfl rfl (xp (i:=0) hnd rfl (.inl hxl) (.inr hxl)) (qym hcap I2 hlt hfp hbl) (λi n H2 ⟨ys,w⟩=>?_) (λH2 s4 J4 q=>fin C s2 s4 H1 H2 fp I2 hlt hfp J4 q) (I2.comp hcap hhas hix hk hlt keep hns hD hfp hob) ⟨[],w0⟩ t3 λb hb=>by rw [wf (az (hbl b hb))];exact (hfp b hb).1
 obtain ⟨hp,hz,hcase⟩:=hW i n ys H2 w
 refine hcase.imp id λ⟨hgo,hy⟩=>⟨hgo,λv H3 yl=>⟨λσ4 H4=>σ4=jk M σ (some v)∧H3=H4,⟨rfl,rfl⟩,λ_ _ e=>?_⟩⟩
 obtain ⟨rfl,rfl⟩:=e
 refine ⟨Zn M σ v,λpins' s' J=>?_⟩
 exact wu5 (ht _ _ _ _ _) J (hy v H3 yl) (λs6 H6 J6 h6=>ba (wqg (N:=λzs H5=>∃m',m'<n∧W (i+1) m' zs H5) (λ_ _ z=>z) (he _ _ _ _ _) J6 hz h6) (λr s5 ⟨e,H5,J5,zs,m',hm,w'⟩=>⟨e,H5,J5,m',hm,zs,w'⟩) λ_ _ z=>z)
  λs6 H6 J6 ⟨_,m',hm,w'⟩=>ao ⟨rfl,H6,J6,m',hm,ys,w'⟩
theorem wu8 (hc:X.calm=true)(hclos:closureFor scope X.env=pure cl)(hcap:CapAll X.env cl)(hhas:HasAll cl scope.names)(hix:CapIx X scope cl M)(hk:scope.kind=.function)
  (hnames:∀y∈scope.names,y.2=.local→scope.names.lookup y.1=some .local) (hx:scope.names.lookup x=some .local) (hnd:(Yp X x M).Nodup) (hi:PI X (.Name x px) iter wi)
  (ht:∀C s2 H2 fp pn,PT (k8 X scope cl x M C s2 H2 fp pn) cd tt) (he:∀C s2 H2 fp pn,PE (k8 X scope cl x M C s2 H2 fp pn) elt te) (hs:autoParam (∀z,foldedSetIterable iter X.env z=pure z) aU3._auto_1) :
  PE X (.ListComp elt [⟨.Name x px,iter,[cd],0⟩] scope pos) (wyt M wi tt te):=by
 intro pins s σ H Q I h
 rw [eval_ListComp]
 refine qkq hc hclos hcap hhas hix hk hnames hx hnd hi ht he hs (use:=none) I h λC s2 s4 H1 H2 fp I2 hlt hfp J4 hq=>?_
 obtain ⟨m,hn,_⟩:=J4.loc
 exact ⟨m,hn,λh' hs'=>⟨.ref s2.heap.objs.size,H2,I2.uncomp (bH hlt) hfp J4 hs',rfl,hq⟩⟩
theorem Jb {i:Nat}{y:Str}{py spos:Pos}(hN:X.N.Nodup)(hyi:X.N[i]?=some y)(hyl:Loc X.env.scope y)(hc:X.calm=true)(hclos:closureFor scope X.env=pure cl)(hcap:CapAll X.env cl)(hhas:HasAll cl scope.names)(hix:CapIx X scope cl M)(hk:scope.kind=.function)
  (hnames:∀y∈scope.names,y.2=.local→scope.names.lookup y.1=some .local) (hx:scope.names.lookup x=some .local) (hnd:(Yp X x M).Nodup) (hi:PI X (.Name x px) iter wi)
  (ht:∀C s2 H2 fp pn,PT (k8 X scope cl x M C s2 H2 fp pn) cd tt) (he:∀C s2 H2 fp pn,PE (k8 X scope cl x M C s2 H2 fp pn) elt te) (hs:autoParam (∀z,foldedSetIterable iter X.env z=pure z) aU3._auto_1)
  (hsw:autoParam (swapsWith (.ListComp elt [⟨.Name x px,iter,[cd],0⟩] scope pos) (some (.Name y py)) spos.line X.env=pure true) aU4._auto_1) (hyf:autoParam (X.fn y=true∨X.env.scope.names.lookup y=some .local) aU0._auto_1) :
  PS X (.Assign [.Name y py] (.ListComp elt [⟨.Name x px,iter,[cd],0⟩] scope pos) spos) (tAsg (wyt M wi tt te) (wqz i)):=by
 intro pins s σ H D I h
 rw [d8 _ _ _ _ hsw]
 refine ac (cS (ac ?_))
 refine ac (ba (qkq hc hclos hcap hhas hix hk hnames hx hnd hi ht he hs (use:=some (assign (.Name y py) X.env)) (QQ:=λ_ s'=>SP X pins D .next s') I h λC s2 s4 H1 H2 fp I2 hlt hfp J4 hq=>?_) (λ_ s' hq=>ao (ao hq)) λ_ _ e=>e)
 have I4:Inv X pins σ H2 s4:=I2.uncomp (h':=s4.heap) (bH hlt) hfp J4 (fi _ _)
 have hCn:H2 C=none:=J4.free
 obtain ⟨mC,hnC,_⟩:=J4.loc
 obtain ⟨oC,esC,epC,hoC,hdC⟩:=id hnC
 have hCl:C≠X.env.locals:=λz=>aQ _ (bj hlt (z▸I2.lt))
 have hCs:X.s₀.heap.objs.size≤C:=bD I2.sz (bH hlt)
 have hCc:∀y c,X.env.cells.lookup y=some c→c≠C:=λy c e z=>by
  obtain ⟨v,o,e1,_⟩:=I2.cell y c e
  exact aQ _ (bj hlt (z▸am e1))
 have hCp:∀p∈X.pn++pins,p.1≠C:=λp hp z=>aQ _ (bj hlt (z▸am (I2.pin p hp).1))
 have hCf:C∉frs X.stack:=λz=>by
  rcases ae.mp (I2.stkSub C z) with q|q
  ·exact hCl q
  ·obtain ⟨_,o,e1,_⟩:=I2.funs.mem (b:=C) q
   exact aQ _ (bj hlt (am e1))
 have hCx:C∉X.fs:=λz=>by
  obtain ⟨_,o,e1,_⟩:=I2.funs.mem (b:=C) z
  exact aQ _ (bj hlt (am e1))
 have I4p:Inv X (pins++[(C,oC)]) σ H2 s4:=⟨I4.ok,I4.os,I4.bare,I4.base,I4.loc,I4.cell,I4.free,I4.freeC,λp hp=>by
  rcases bi.mp hp with q|q
  ·exact I4.pin p (cw _ q)
  ·rcases bi.mp q with q|q
   ·exact I4.pin p (aA _ q)
   ·rw [aq.mp q]
    exact ⟨hoC,hCn,hCl,hCx,λv z=>by rw [hdC.1] at z;cases z⟩,I4.hok,I4.len⟩
 show wpAny _ _ (assign (.Name y py) X.env (.ref s2.heap.objs.size)) _ _ _
 refine dN (ud I4p hN hyi hyl (show RelV (.ref s2.heap.objs.size) (.ref s2.heap.objs.size) from rfl) (λs5 I5=>?_) hyf)
 have hC5:=(I5.pin (C,oC) (aA _ (aA _ (.head _)))).1
 exact ⟨mC,⟨oC,esC,epC,hC5,hdC⟩,λh' hs'=>⟨_,H2,I5.unpinned.but hCn hCs hCl hCc hCp hs',hq⟩⟩
end
end L2
namespace L2
open PySem PySem.Spec PyProof.Rows
structure FunD (K:Aa)(x:Str)(st:Stmt)(f:Aj)(fd:Ad):Prop where
 ex:∃(oc:Ag) (od:Option Aj) (T:Aj) (kV doc pm:Ag) (an:Option Aj) (cdv ct:Ag) (osl:Array (Option Ag)),
  fd=W.fnOf x x (yx st) (jc st) (wg st) (.ref T) kV doc pm an cdv ct∧K.lookup f=some ⟨oc,od,.func fd,osl⟩∧W.codeIn K cdv x=true∧∃o n,K.lookup T=some o∧o.data=.seq #[.none] n
 kp:W.keepIn K (.ref f)=true
structure DefInD (K:Aa)(x:Str)(st:Stmt):Prop where
 ex:∃f fd,W.nsIn K mainGlobals x=some (some (.ref f))∧FunD K x st f fd
section
variable {P:Ac}{w:Ah}{K:Aa}{mg:Str→Option Ag}{base:Heap}
theorem xwc {x:Str}{st:Stmt}{f T:Aj}{oc:Ag}{od an:Option Aj}{osl:Array (Option Ag)}{kV doc pm cdv ct:Ag}(a:W.nsIn K mainGlobals x=some (some (.ref f)))
  (l:K.lookup f=some ⟨oc,od,.func (W.fnOf x x (yx st) (jc st) (wg st) (.ref T) kV doc pm an cdv ct),osl⟩) (c:W.codeIn K cdv x=true) (k:W.keepIn K (.ref f)=true) {tc:Ag} {td:Option Aj} {tn:Nat} {ts:Array (Option Ag)} (t:K.lookup T=some ⟨tc,td,.seq #[.none] tn,ts⟩):DefInD K x st:=⟨_,_,a,⟨oc,od,T,kV,doc,pm,an,cdv,ct,osl,rfl,l,c,_,_,t,rfl⟩,k⟩
theorem FunD.okX {x:Str}{st:Stmt}{f:Aj}{fd:Ad}{N ps:List Str}{k:Nat}{sp:Sp}(F:FunD K x st f fd)(S:FnScope N ps (wg st))(len:∀vs H Q E,sp vs H Q E→vs.length=ps.length)
  (body:∀(cdv:Ag) (A:Ae) (outer:List Env) (s:Ab) (H:Hp) (vs:List V) (Q:VK) (E:XK),Room k (A.deeper (envOfC x (wg st) s.heap.objs.size f cdv))→sp vs H Q E →
   ∃t,PSs (ug (CXE P w) P w K mg base N x (wg st) f cdv A outer s H E) (jc st) t∧t { nx:=λ_ H'=>Q .non H',rt:=Q } (Yx N vs) H):FnOk P w K mg base (CXE P w) (k+1) f fd ps sp:=by
 obtain ⟨oc,od,T,kV,doc,pm,an,cdv,ct,osl,rfl,lk,hcd,_⟩:=F.ex
 exact fn_of lk hcd S len λA outer s H vs Q E hr hsp=>body cdv A outer s H vs Q E hr hsp
def Z3 (x:Str)(st:Stmt)(ps:List Str)(ds:List Ag):Prop:=∀(T:Aj) (kV doc pm:Ag) (an:Option Aj) (cdv ct:Ag) (us:List Ag),(us++ds).length=ps.length →
 ∃kk,bindArgs (W.fnOf x x (yx st) (jc st) (wg st) (.ref T) kV doc pm an cdv ct) ⟨us,[]⟩=seqItems? (.ref T) >>= kk∧kk (some #[.none])=pure (ps.zip (us++ds))
structure CalD (P:Ac)(w:Ah)(K:Aa)(mg:Str→Option Ag)(base:Heap)(x:Str)(k:Nat)(sp:Sp):Prop where
 ex:∃f fd ps,mg x=some (.ref f)∧FnOk P w K mg base (CXE P w) k f fd ps sp∧W.keepIn K (.ref f)=true∧Binds K fd ps []∧Binds K fd ps [.none]
theorem FunD.binds {x:Str}{st:Stmt}{f:Aj}{fd:Ad}{ps:List Str}{ds:List Ag}(F:FunD K x st f fd)(b:Z3 x st ps ds):Binds K fd ps ds:=by
 obtain ⟨oc,od,T,kV,doc,pm,an,cdv,ct,osl,rfl,lk,hcd,o,n,e1,e2⟩:=F.ex
 intro s us X hl
 obtain ⟨kk,h1,h2⟩:=b T kV doc pm an cdv ct us hl
 exact W.binds_K X rfl e1 e2 h1 h2
theorem DefInD.cal {x:Str}{st:Stmt}{ps:List Str}{k:Nat}{sp:Sp}{h:Heap}(d:DefInD K x st)(KX:K.In h)(G:h.Ns mainGlobals mg)(b:Z3 x st ps [])(b':Z3 x st ps [.none])(ok:∀f fd,FunD K x st f fd→FnOk P w K mg base (CXE P w) k f fd ps sp):CalD P w K mg base x k sp:=by
 obtain ⟨f,fd,a,F⟩:=d.ex
 exact ⟨f,fd,ps,aT KX G a,ok f fd F,F.kp,F.binds b,F.binds b'⟩
theorem CalD.all {x:Str}{k:Nat}{sp:Sp}(c:CalD P w K mg base x k sp):Cal P w K mg base x k sp:=by
 obtain ⟨f,fd,ps,h1,h2,h3,h4,_⟩:=c.ex
 exact ⟨f,fd,ps,h1,h2,h3,h4⟩
end
section
variable {X:Cx}{x:Str}{k:Nat}{sp:Sp}{E:St→XK}{p pos:Pos}{e:Expr}{es:List Expr}{t:TA}
end
end L2
namespace L2
open PySem PySem.Spec PyProof.Rows
section
variable {κ:Type}[DecidableEq κ]
def wp (kvs:List (κ×V))(k:κ):Option V:=(kvs.find? λkv=>decide (kv.1=k)).map (·.2)
def km (kvs:List (κ×V))(k:κ)(v:V):List (κ×V) :=
 if (kvs.any λkv=>decide (kv.1=k))=true then kvs.map (λkv=>if kv.1=k then (kv.1,v) else kv) else kvs++[(k,v)]
def y3 (kvs:List (κ×V))(k:κ):List (κ×V):=kvs.filter λkv=>decide (kv.1≠k)
theorem vw {p:κ×V}{r:List (κ×V)}{k:κ}(e:p.1=k):wp (p::r) k=some p.2:=by simp [wp,dh,e]
theorem zt {p:κ×V}{r:List (κ×V)}{k:κ}(e:¬ p.1=k):wp (p::r) k=wp r k:=by simp [wp,dh,e]
theorem Qh (k:κ):∀kvs:List (κ×V),(kvs.any λkv=>decide (kv.1=k))=(wp kvs k).isSome
 |[]=>rfl
 |p::r=>by
  rw [fY]
  by_cases e:p.1=k
  ·simp only [vw e,aX e,Bool.true_or,Option.isSome_some]
  ·rw [zt e,bn e,Bool.false_or];exact Qh k r
theorem qub (k j:κ)(y:V):∀kvs:List (κ×V),wp (kvs.map λkv=>if kv.1=k then (kv.1,y) else kv) j=(wp kvs j).map λx=>if j=k then y else x
 |[]=>rfl
 |p::r=>by
  have ih:=qub k j y r
  rw [aC]
  by_cases h:p.1=k
  ·rw [ak h]
   by_cases e:p.1=j
   ·rw [vw (p:=(p.1,y)) e,vw e,cE,ak (e.symm.trans h)]
   ·rw [zt (p:=(p.1,y)) e,zt e,ih]
  ·rw [ai h]
   by_cases e:p.1=j
   ·rw [vw (p:=p) e,vw e,cE,ai (λz=>h (e.trans z))]
   ·rw [zt (p:=p) e,zt e,ih]
theorem Y4 (k j:κ)(y:V):∀kvs:List (κ×V),wp kvs k=none→wp (kvs++[(k,y)]) j=if j=k then some y else wp kvs j
 |[],_=>by
  by_cases e:k=j
  ·rw [ak e.symm];exact vw (p:=(k,y)) e
  ·rw [ai (λz=>e z.symm)];exact zt (p:=(k,y)) e
 |p::r,hn=>by
  rw [List.cons_append]
  have hk:¬ p.1=k:=λz=>by rw [vw z] at hn;cases hn
  rw [zt hk] at hn
  have ih:=Y4 k j y r hn
  by_cases e:p.1=j
  ·rw [vw e,vw e,ai (λz=>hk (e.trans z))]
  ·rw [zt e,zt e,ih]
theorem Qk (kvs:List (κ×V))(k j:κ)(y:V):wp (km kvs k y) j=if j=k then some y else wp kvs j:=by
 unfold km
 by_cases a:(kvs.any λkv=>decide (kv.1=k))=true
 ·rw [ak a,qub]
  rw [Qh] at a
  by_cases e:j=k
  ·obtain ⟨x,hx⟩:=bh.mp a
   rw [ak e,e,hx,cE,ak rfl]
  ·rw [ai e]
   cases wp kvs j with
   |none=>rfl
   |some x=>rw [cE,ai e]
 ·rw [ai a]
  refine Y4 k j y kvs ?_
  rw [Qh] at a
  cases q:wp kvs k with
  |none=>rfl
  |some x=>rw [q] at a;exact (a rfl).elim
theorem yn (kvs:List (κ×V))(k:κ)(v:V):(km kvs k v).length≤kvs.length+1:=by
 unfold km
 split
 ·rw [aa];lia
 ·rw [aP,aO,fQ];lia
theorem Qf {kvs:List (κ×V)}{k:κ}(v:V)(h:wp kvs k=none):km kvs k v=kvs++[(k,v)]:=by
 unfold km
 rw [Qh,h]
 exact ai ⋯
theorem RelO.isSome_eq {o:Option V}{u:Option Ag}(r:RelO o u):o.isSome=u.isSome:=by
 cases o with
 |none=>cases u with
  |none=>rfl
  |some _=>exact (show False from r).elim
 |some _=>cases u with
  |none=>exact (show False from r).elim
  |some _=>rfl
theorem RelO.getD {o:Option V}{u:Option Ag}{d:V}{d':Ag}(r:RelO o u)(rd:RelV d d'):RelV (o.getD d) (u.getD d'):=by
 cases o with
 |none=>cases u with
  |none=>exact rd
  |some _=>exact (show False from r).elim
 |some _=>cases u with
  |none=>exact (show False from r).elim
  |some _=>exact r
theorem KV.val {kvs:List (κ×V)}{vs:List (κ×Ag)}(r:KV kvs vs)(k:κ):RelO (wp kvs k) (valueAt vs k):=by
 unfold KV at r
 induction r with
 |nil=>exact True.intro
 |@cons p q ps qs h t ih =>
  obtain ⟨h1,h2⟩:=h
  by_cases e:p.1=k
  ·have e':q.1=k:=h1.symm.trans e
   have b:valueAt (q::qs) k=some q.2:=by simp [valueAt,dh,e']
   rw [vw e,b];exact h2
  ·have e':¬ q.1=k:=λz=>e (h1.trans z)
   have b:valueAt (q::qs) k=valueAt qs k:=by simp [valueAt,dh,e']
   rw [zt e,b];exact ih
theorem KV.any {kvs:List (κ×V)}{vs:List (κ×Ag)}(r:KV kvs vs)(k:κ):(kvs.any λkv=>decide (kv.1=k))=vs.any λkv=>decide (kv.1=k):=by
 unfold KV at r
 induction r with
 |nil=>rfl
 |cons h t ih=>rw [fY,fY,ih,h.1]
theorem KV.repl {kvs:List (κ×V)}{vs:List (κ×Ag)}(r:KV kvs vs)(k:κ){y:V}{u:Ag}(ry:RelV y u) :
  KV (kvs.map λkv=>if kv.1=k then (kv.1,y) else kv) (vs.map λkv=>if kv.1=k then (kv.1,u) else kv):=by
 unfold KV at r ⊢
 induction r with
 |nil=>exact .nil
 |@cons p q ps qs h t ih =>
  rw [aC,aC]
  refine .cons ?_ ih
  obtain ⟨h1,h2⟩:=h
  by_cases e:p.1=k
  ·rw [ak e,ak (h1.symm.trans e)];exact ⟨h1,ry⟩
  ·rw [ai e,ai (λz=>e (h1.trans z))];exact ⟨h1,h2⟩
theorem KV.put {kvs:List (κ×V)}{vs:List (κ×Ag)}(r:KV kvs vs)(k:κ){y:V}{u:Ag}(ry:RelV y u):KV (km kvs k y) (stored vs k u):=by
 unfold km stored
 rw [r.any k]
 by_cases e:(vs.any λkv=>decide (kv.1=k))=true
 ·rw [ak e,ak e];exact r.repl k ry
 ·rw [ai e,ai e];exact Paired.snoc r ⟨rfl,ry⟩
theorem KV.drop {kvs:List (κ×V)}{vs:List (κ×Ag)}(r:KV kvs vs)(k:κ):KV (y3 kvs k) (without vs k):=by
 unfold KV at r ⊢
 unfold y3 without
 induction r with
 |nil=>exact .nil
 |@cons p q ps qs h t ih =>
  obtain ⟨h1,h2⟩:=h
  rw [bQ,bQ]
  by_cases e:p.1=k
  ·have a:¬ decide (p.1≠k)=true:=by simp [e]
   have b:¬ decide (q.1≠k)=true:=by simp [h1.symm.trans e]
   rw [ai a,ai b];exact ih
  ·have e':¬ q.1=k:=λz=>e (h1.trans z)
   have a:decide (p.1≠k)=true:=by simp [e]
   have b:decide (q.1≠k)=true:=by simp [e']
   rw [ak a,ak b];exact .cons ⟨h1,h2⟩ ih
theorem KV.length {kvs:List (κ×V)}{vs:List (κ×Ag)}(r:KV kvs vs):kvs.length=vs.length:=bu r
theorem qwh (kvs:List (κ×V))(k:κ):(y3 kvs k).length≤kvs.length:=bG _ _
end
theorem Wn {P:Ac}{w:Ah}{k:Key}{u:Ag}(r:RelV (kV k) u):(zv P w).is k u=true:=by
 cases k with
 |inl i=>obtain ⟨t,e⟩:=(show ∃t,u=Value.int i t from r);subst e;exact qur P w i t
 |inr x=>obtain ⟨t,e⟩:=(show ∃t,u=Value.str x t from r);subst e;exact quk P w x t
theorem qkj {P:Ac}{w:Ah}:∀ {ks:List Key} {us:List Ag},Vals (ks.map kV) us→ItemsAre (zv P w) ks us
 |[],_,r=>by rw [bI] at r;cases r;exact .nil
 |k::ks,_,r=>by
  rw [aC] at r
  cases r with
  |cons h t=>exact .cons (Wn h) (qkj t)
abbrev KT (H:Hp):List (List Key×V)→List (List Key×Aj×Ag)→Prop:=Paired λp q=>p.1=q.1∧H q.2.1=some (.tup (p.1.map kV))∧RelV p.2 q.2.2
theorem KT.val {H:Hp}{kvs:List (List Key×V)}{xs:List (List Key×Aj×Ag)}(r:KT H kvs xs)(k:List Key):RelO (wp kvs k) ((atKey xs k).map (·.2)):=by
 induction r with
 |nil=>exact True.intro
 |@cons p q ps qs h t ih =>
  obtain ⟨h1,_,h2⟩:=h
  by_cases e:p.1=k
  ·have e':q.1=k:=h1.symm.trans e
   have b:atKey (q::qs) k=some q.2:=by simp [atKey,dh,e']
   rw [vw e,b];exact h2
  ·have e':¬ q.1=k:=λz=>e (h1.trans z)
   have b:atKey (q::qs) k=atKey qs k:=by simp [atKey,dh,e']
   rw [zt e,b];exact ih
theorem KT.repl {H:Hp}{kvs:List (List Key×V)}{xs:List (List Key×Aj×Ag)}(r:KT H kvs xs)(k:List Key){y:V}{u:Ag}(ry:RelV y u) :
  KT H (kvs.map λkv=>if kv.1=k then (kv.1,y) else kv) (xs.map (putAt k u)):=by
 induction r with
 |nil=>exact .nil
 |@cons p q ps qs h t ih =>
  rw [aC,aC]
  refine .cons ?_ ih
  obtain ⟨h1,h2,h3⟩:=h
  unfold putAt
  by_cases e:p.1=k
  ·rw [ak e,ak (h1.symm.trans e)];exact ⟨h1,h2,ry⟩
  ·rw [ai e,ai (λz=>e (h1.trans z))];exact ⟨h1,h2,h3⟩
theorem KT.put {H:Hp}{kvs:List (List Key×V)}{xs:List (List Key×Aj×Ag)}(r:KT H kvs xs)(k:List Key){b:Aj}{y:V}{u:Ag}(hb:H b=some (.tup (k.map kV)))(ry:RelV y u) :
  KT H (km kvs k y) (storedH xs k b u):=by
 have e:(kvs.any λkv=>decide (kv.1=k))=(atKey xs k).isSome:=by
  rw [Qh,(r.val k).isSome_eq,dS]
 unfold km storedH
 rw [e]
 by_cases q:(atKey xs k).isSome=true
 ·rw [ak q,ak q];exact r.repl k ry
 ·rw [ai q,ai q];exact Paired.snoc r ⟨rfl,hb,ry⟩
theorem KT.keeps {H H':Hp}{kvs:List (List Key×V)}{xs:List (List Key×Aj×Ag)}(r:KT H kvs xs)(ht:∀b ys,H b=some (.tup ys)→H' b=some (.tup ys)):KT H' kvs xs :=
 Paired.mapP r λ_ _ z=>⟨z.1,ht _ _ z.2.1,z.2.2⟩
section
variable {P:Ac}{w:Ah}{H:Hp}{h:Heap}{a:Aj}
theorem rd_of {u:HO}(ok:HOk P w H h)(e:Rd H a u):ObjOk P w H h a u:=e.ok ok
theorem Q7 {kvs:List (Key×V)}(ok:HOk P w H h)(e:Rd H a (.dK kvs)):kvs.length≤sizeLine∧(a==sysModules)=false∧∃vs,KV kvs vs∧h.DictOf (zv P w) a vs :=
 show ObjOk P w H h a (.dK kvs) from rd_of ok e
theorem Yb {kvs:List (Key×V)}(ok:HOk P w H h)(e:H a=some (.dK kvs)):kvs.length≤sizeLine∧(a==sysModules)=false∧∃vs,KV kvs vs∧h.DictOf (zv P w) a vs:=Q7 ok (.inl e)
theorem Q9 {ks:List Key}(ok:HOk P w H h)(e:H a=some (.tup (ks.map kV))):(tupleKind (zv P w)).is h ks a:=by
 obtain ⟨_,its,r,o,h1,h2,n,h3⟩:=(show ObjOk P w H h a (.tup (ks.map kV)) from ok a _ e)
 exact ⟨o,its.toArray,n,h1,h2,h3,by simpa using qkj r⟩
theorem Yv {kvs:List (List Key×V)}(ok:HOk P w H h)(e:Rd H a (.dT kvs)):kvs.length≤sizeLine∧(a==sysModules)=false ∧
  ∃xs,KT H kvs xs∧h.DictOfH (tupleKind (zv P w)) a xs:=by
 obtain ⟨z,y,xs,r,o,es,ep,h1,h2,h3,h4,h5⟩:=(show ObjOk P w H h a (.dT kvs) from rd_of ok e)
 refine ⟨z,y,xs,r,o,es,ep,h1,h2,h3,h4,λx hx=>?_,h5⟩
 have all:∀ {l:List (List Key×V)} {m:List (List Key×Aj×Ag)},KT H l m→∀x∈m,(tupleKind (zv P w)).is h x.1 x.2.1:=by
  intro l m q
  induction q with
  |nil=>intro x hx;exact nomatch hx
  |@cons p q ps qs hq t ih =>
   intro x hx
   rcases ae.mp hx with e|hx
   ·subst e
    exact Q9 ok (by rw [←hq.1];exact hq.2.1)
   ·exact ih x hx
 exact all r x hx
theorem dt_of {kvs:List (List Key×V)}(ok:HOk P w H h)(e:H a=some (.dT kvs)):kvs.length≤sizeLine∧(a==sysModules)=false ∧
  ∃xs,KT H kvs xs∧h.DictOfH (tupleKind (zv P w)) a xs:=Yv ok (.inl e)
end
def DGet (H:Hp)(a:Aj)(y:V)(r:Option V):Prop :=
 (∃kvs k,Rd H a (.dK kvs)∧y=kV k∧r=wp kvs k)∨∃kvs k b,Rd H a (.dT kvs)∧y=.ref b∧H b=some (.tup (k.map kV))∧r=wp kvs k
def DPut (H:Hp)(a:Aj)(y v:V)(H':Hp):Prop :=
 (∃kvs k,H a=some (.dK kvs)∧y=kV k∧kvs.length<sizeLine∧H'=upd H a (.dK (km kvs k v))) ∨
 ∃kvs k b,H a=some (.dT kvs)∧y=.ref b∧H b=some (.tup (k.map kV))∧kvs.length<sizeLine∧H'=upd H a (.dT (km kvs k v))
theorem DGet.k {H:Hp}{a:Aj}{kvs:List (Key×V)}{k:Key}(e:H a=some (.dK kvs)):DGet H a (kV k) (wp kvs k):=.inl ⟨kvs,k,.inl e,rfl,rfl⟩
theorem DGet.t {H:Hp}{a b:Aj}{kvs:List (List Key×V)}{k:List Key}(e:H a=some (.dT kvs))(eb:H b=some (.tup (k.map kV))):DGet H a (.ref b) (wp kvs k):=.inr ⟨kvs,k,b,.inl e,rfl,eb,rfl⟩
theorem DPut.k {H:Hp}{a:Aj}{kvs:List (Key×V)}{k:Key}{v:V}(e:H a=some (.dK kvs))(hl:kvs.length<sizeLine):DPut H a (kV k) v (upd H a (.dK (km kvs k v))):=.inl ⟨kvs,k,e,rfl,hl,rfl⟩
theorem DPut.t {H:Hp}{a b:Aj}{kvs:List (List Key×V)}{k:List Key}{v:V}(e:H a=some (.dT kvs))(eb:H b=some (.tup (k.map kV)))(hl:kvs.length<sizeLine) :
  DPut H a (.ref b) v (upd H a (.dT (km kvs k v))):=.inr ⟨kvs,k,b,e,rfl,eb,hl,rfl⟩
section
variable {X:Cx}{pins:List (Aj×Obj)}{σ:St}{H:Hp}{s:Ab}{a:Aj}{y v:V}{u r:Ag}{o:Option V}{A:Ae}{E:Ag→Ab→Prop}
theorem Inv.big (I:Inv X pins σ H s):sysModules<s.heap.objs.size:=by
 have h:mainGlobals<s.heap.objs.size:=(I.mod.glob.keeps I.bk).lt
 exact bj ⋯ h
theorem wvr {Q:Ag→Ab→Prop}(hu:A.units+1<cLine)(I:Inv X pins σ H s)(g:DGet H a y (some v))(ry:RelV y u)(h:∀w' s',Inv X pins σ H s'→RelV v w'→Q w' s') :
  wpAny (model X.prog X.w) A (getItem (.ref a) u) Q E s:=by
 rcases g with ⟨kvs,k,e,ey,l⟩|⟨kvs,k,b,e,ey,eb,l⟩
 ·subst ey
  obtain ⟨z,hd,vs,rel,dd⟩:=Q7 I.hok e
  obtain ⟨w',hw,rw'⟩:=RelO.some_of (v:=v) (o:=valueAt vs k) (by rw [l];exact rel.val k)
  exact wpAny_getItem_of (Wn ry) dd.mapOf hw (h w' _ (I.tok _) rw')
 ·subst ey
  cases (show u=Value.ref b from ry)
  obtain ⟨z,hd,xs,rel,dd⟩:=Yv I.hok e
  obtain ⟨w',hw,rw'⟩:=RelO.some_of (v:=v) (o:=(atKey xs k).map (·.2)) (by rw [l];exact rel.val k)
  obtain ⟨p,hp,hp2⟩:=dU.mp hw
  refine wpAny_getItem_heap (cJ hu) (Q9 I.hok eb) dd hp ?_
  rw [hp2]
  exact h w' _ (I.tok _) rw'
theorem zhw {Q:Ag→Ab→Prop}(hu:A.units+1<cLine)(I:Inv X pins σ H s)(g:DGet H a y o)(ry:RelV y u)(h:∀s',Inv X pins σ H s'→Q (.bool o.isSome) s') :
  wpAny (model X.prog X.w) A (compareOp .In u (.ref a)) Q E s:=by
 rcases g with ⟨kvs,k,e,ey,l⟩|⟨kvs,k,b,e,ey,eb,l⟩
 ·subst ey
  obtain ⟨z,hd,vs,rel,dd⟩:=Q7 I.hok e
  refine wpAny_in_of (Wn ry) hd dd.mapOf ?_
  rw [← (rel.val k).isSome_eq,←l]
  exact h _ (I.tok _)
 ·subst ey
  cases (show u=Value.ref b from ry)
  obtain ⟨z,hd,xs,rel,dd⟩:=Yv I.hok e
  refine wpAny_in_heap (cJ hu) (Q9 I.hok eb) hd dd ?_
  have q:=(rel.val k).isSome_eq
  rw [dS] at q
  rw [←q,←l]
  exact h _ (I.tok _)
theorem xw7 {Q:Ag→Ab→Prop}(hu:A.units+1<cLine)(I:Inv X pins σ H s)(g:DGet H a y o)(ry:RelV y u)(h:∀s',Inv X pins σ H s'→Q (.bool (!o.isSome)) s') :
  wpAny (model X.prog X.w) A (compareOp .NotIn u (.ref a)) Q E s:=by
 rcases g with ⟨kvs,k,e,ey,l⟩|⟨kvs,k,b,e,ey,eb,l⟩
 ·subst ey
  obtain ⟨z,hd,vs,rel,dd⟩:=Q7 I.hok e
  refine wpAny_notIn_of (Wn ry) hd dd.mapOf ?_
  rw [← (rel.val k).isSome_eq,←l]
  exact h _ (I.tok _)
 ·subst ey
  cases (show u=Value.ref b from ry)
  obtain ⟨z,hd,xs,rel,dd⟩:=Yv I.hok e
  refine wpAny_notIn_heap (cJ hu) (Q9 I.hok eb) hd dd ?_
  have q:=(rel.val k).isSome_eq
  rw [dS] at q
  rw [←q,←l]
  exact h _ (I.tok _)
theorem y9 {h':Heap}{t':Nat}{ob:HO}(I:Inv X pins σ H s)(mu:Mut (H a))(hs:Heap.SameBut a s.heap h')(he:∃q,h'.get? a=some q)(new:ObjOk X.prog X.w (upd H a ob) h' a ob) :
  Inv X pins σ (upd H a ob) { s with heap:=h',toks:=t' } :=
 I.write (x:=a) (e:=a) mu (.inl rfl) (λb q hb z=>(hs.2 b hb).trans z) he new
theorem Q6 {P:Ac}{w:Ah}{H':Hp}{h':Heap}{kvs:List (Key×V)}{vs:List (Key×Ag)}(z:kvs.length≤sizeLine)(hd:(a==sysModules)=false)(rel:KV kvs vs)(dd:h'.DictOf (zv P w) a vs) :
  ObjOk P w H' h' a (.dK kvs):=⟨z,hd,vs,rel,dd⟩
theorem wvy {H':Hp}{Q:Unit→Ab→Prop}(hu:A.units+1<cLine)(I:Inv X pins σ H s)(g:DPut H a y v H')(ry:RelV y u)(rv:RelV v r)(h:∀s',Inv X pins σ H' s'→Q () s') :
  wpAny (model X.prog X.w) A (setItem (.ref a) u r) Q E s:=by
 rcases g with ⟨kvs,k,e,ey,l,eH⟩|⟨kvs,k,b,e,ey,eb,l,eH⟩
 ·subst ey eH
  obtain ⟨z,hd,vs,rel,dd⟩:=Yb I.hok e
  have hz:vs.length≤sizeLine:=by rw [←rel.length];exact z
  have hl:(km kvs k v).length≤sizeLine:=by have:=yn kvs k v;lia
  refine wpAny_setItem_pairs (hsz:=hz) (Wn ry) dd λh' dd' hs=>h _ ?_
  have he:∃q,h'.get? a=some q:=let ⟨q,_,_,hq,_⟩:=dd';⟨q,hq⟩
  exact y9 I (by rw [e];exact True.intro) hs he (Q6 hl hd (rel.put k rv) dd')
 ·subst ey eH
  cases (show u=Value.ref b from ry)
  obtain ⟨z,hd,xs,rel,dd⟩:=dt_of I.hok e
  have hz:xs.length≤sizeLine:=by rw [←bu rel];exact z
  have hl:(km kvs k v).length≤sizeLine:=by have:=yn kvs k v;lia
  refine wpAny_setItem_heap (hsz:=hz) (cJ hu) (Q9 I.hok eb) dd λh' dd' hs=>h _ ?_
  obtain ⟨q,es,ep,hq,h2,h3,h4,_,h5⟩:=dd'
  refine y9 I (by rw [e];exact True.intro) hs ⟨q,hq⟩ ⟨hl,hd,_,(rel.put k eb rv).keeps λc ys ec=>?_,q,es,ep,hq,h2,h3,h4,h5⟩
  rw [wf (ne_of ec e (λz=>nomatch z))]
  exact ec
end
section
variable {X:Cx}{pins:List (Aj×Obj)}{σ:St}{H:Hp}{s:Ab}{a:Aj}{kvs:List (Key×V)}{k:Key}{u:Ag}{A:Ae}{E:Ag→Ab→Prop}
theorem wky {Q:Unit→Ab→Prop}(I:Inv X pins σ H s)(e:H a=some (.dK kvs))(ry:RelV (kV k) u)(l:(wp kvs k).isSome=true)(h:∀s',Inv X pins σ (upd H a (.dK (y3 kvs k))) s'→Q () s') :
  wpAny (model X.prog X.w) A (delItem (.ref a) u) Q E s:=by
 obtain ⟨z,hd,vs,rel,dd⟩:=Yb I.hok e
 refine wpAny_delItem_slot dd.typeIs ⋯ e9
  (cu e9 dd.typeIs PySem.F.entry_dict_delitem (PySem.F.args_dict_delitem_2 _ _) (meets_dict_delitem_pairs (zv X.prog X.w) a (Wn ry)) ⟨vs,dd,by rw [←rel.length];exact z,by rw [← (rel.val k).isSome_eq];exact l,λh' dd' hs=>h _ ?_⟩)
 have he:∃q,h'.get? a=some q:=let ⟨q,_,_,hq,_⟩:=dd';⟨q,hq⟩
 exact y9 I (by rw [e];exact True.intro) hs he (Q6 (bD (qwh kvs k) z) hd (rel.drop k) dd')
theorem zhx {v:V}{more:List Ag}{Q:Ag→Ab→Prop}(I:Inv X pins σ H s)(e:H a=some (.dK kvs))(ry:RelV (kV k) u)(l:wp kvs k=some v)(hm:more=[]∨∃x,more=[x])
  (h:∀w' s',Inv X pins σ (upd H a (.dK (y3 kvs k))) s'→RelV v w'→Q w' s'):wpAny (model X.prog X.w) A (call (.builtin "dict.pop") (.ref a::u::more)) Q E s:=by
 obtain ⟨z,hd,vs,rel,dd⟩:=Yb I.hok e
 obtain ⟨w',hw,rw'⟩:=RelO.some_of (v:=v) (o:=valueAt vs k) (by rw [←l];exact rel.val k)
 have hp:(keyPart u).isSome=true:=by
  cases k with
  |inl i=>obtain ⟨t,q⟩:=(show ∃t,u=Value.int i t from ry);subst q;rfl
  |inr x=>obtain ⟨t,q⟩:=(show ∃t,u=Value.str x t from ry);subst q;rfl
 have ha:argsOk "dict.pop" ⟨.ref a::u::more,[]⟩:=by
  rcases hm with q|⟨x,q⟩
  ·subst q;exact PySem.F.args_dict_pop_2 _ _
  ·subst q;exact PySem.F.args_dict_pop_3 _ _ _
 refine cu PySem.F.slot_dict_pop dd.typeIs PySem.F.entry_dict_pop ha (meets_dict_pop_there (zv X.prog X.w) a (Wn ry) more hm hp)
  ⟨vs,w',dd,by rw [←rel.length];exact z,hw,λh' dd' hs=>h w' _ ?_ rw'⟩
 have he:∃q,h'.get? a=some q:=let ⟨q,_,_,hq,_⟩:=dd';⟨q,hq⟩
 exact y9 I (by rw [e];exact True.intro) hs he (Q6 (bD (qwh kvs k) z) hd (rel.drop k) dd')
theorem xxm {Q:Ag→Ab→Prop}(I:Inv X pins σ H s)(e:H a=some (.dK kvs))(h:∀s',Inv X pins σ (upd H a (.dK [])) s'→Q .none s'):wpAny (model X.prog X.w) A (call (.builtin "dict.clear") [.ref a]) Q E s:=by
 obtain ⟨z,hd,vs,rel,dd⟩:=Yb I.hok e
 refine cu fC dd.typeIs PySem.F.entry_dict_clear (PySem.F.args_dict_clear_1 _) (meets_dict_clear (zv X.prog X.w) a) ⟨vs,dd,by rw [←rel.length];exact z,λh' dd' hs=>h _ ?_⟩
 have he:∃q,h'.get? a=some q:=let ⟨q,_,_,hq,_⟩:=dd';⟨q,hq⟩
 exact y9 (t':=s.toks) I (by rw [e];exact True.intro) hs he (Q6 (aD _) hd .nil dd')
end
def NoSl (i:Expr):Prop:=∀ov iv,subscripted i false ov iv=operate [ov,iv] (getItem ov iv)
theorem xwv {prog:Ac}{w:Ah}{A:Ae}{E:Ag→Ab→Prop}{s:Ab}{env:Env}{value slice:Expr}{pos:Pos}{T id:String}{Q:Ag→Ab→Prop}
  (hl:typeLookup (.type T) "__getitem__" = pure (some (.builtin id))) (hs:NoSl slice)
  (h:wpAny (model prog w) A (eval value env) (λo s₁=>wpAny (model prog w) A (eval slice env) (λi s₂=>s₂.TypeIs o T∧wpAny (model prog w) A (getItem o i) Q E s₂) E s₁) E s) :
  wpAny (model prog w) A (eval (.Subscript value slice pos) env) Q E s:=by
 refine Subscript_ (ba h (λo s₁ h₁=>ba h₁ (λi s₂ h₂=>?_) λ_ _ x=>x) λ_ _ x=>x)
 obtain ⟨hT,h₂⟩:=h₂
 unfold subscriptTail
 refine ac ?_
 rw [getitemInPython_of_ne hT.not_modules]
 refine ac (fS hT hl ?_)
 have fin:wpAny (model prog w) A (subscripted slice false o i) (λr s₃=>wpAny (model prog w) A (letTemporaryGo value o r >>= λ_=>pure r) Q E s₃) E s₂:=by
  rw [hs o i]
  exact wpAny_operating (ba h₂ (λr s₃ h₃=>ac (wpAny_letTemporaryGo (ao h₃))) λ_ _ x=>x)
 first
  |exact ao (ac fin)
  |exact ac (ao (ac fin))
  |exact ac fin
theorem qy4 {X:Cx}{pins:List (Aj×Obj)}{σ:St}{H:Hp}{s:Ab}{a:Aj}{y:V}{o:Option V}(I:Inv X pins σ H s)(g:DGet H a y o):s.TypeIs (.ref a) "dict" := by
 rcases g with ⟨kvs,k,e,_,_⟩|⟨kvs,k,b,e,_,_,_⟩
 ·obtain ⟨_,_,vs,_,dd⟩:=Q7 I.hok e
  exact dd.typeIs
 ·obtain ⟨_,_,xs,_,dd⟩:=Yv I.hok e
  exact dd.typeIs
def tDGet (td ty:TE):TE:=λσ H Q=>td σ H λx H1=>ty σ H1 λy H2=>∃a v,x=.ref a∧DGet H2 a y (some v)∧Q v H2
def tDIn (ty td:TE):TE:=λσ H Q=>ty σ H λy H1=>td σ H1 λx H2=>∃a o,x=.ref a∧DGet H2 a y o∧Q (.bl o.isSome) H2
def xws (ty td:TE):TE:=λσ H Q=>ty σ H λy H1=>td σ H1 λx H2=>∃a o,x=.ref a∧DGet H2 a y o∧Q (.bl (!o.isSome)) H2
def sDPut (td ty tv:TE):TS:=λD σ H=>tv σ H λv H1=>td σ H1 λx H2=>ty σ H2 λy H3=>∃a H4,x=.ref a∧DPut H3 a y v H4∧D.nx σ H4
def sDDel (td ty:TE):TS:=λD σ H=>td σ H λx H1=>ty σ H1 λy H2=>∃a kvs k,x=.ref a∧H2 a=some (.dK kvs)∧y=kV k∧(wp kvs k).isSome=true∧D.nx σ (upd H2 a (.dK (y3 kvs k)))
section
variable {X:Cx}{o i e value:Expr}{pos pos' tpos:Pos}{td ty tv:TE}
theorem jf (hu:X.A.units+1<cLine)(ho:PE X o td)(hi:PE X i ty)(hs:NoSl i):PE X (.Subscript o i pos) (tDGet td ty):=by
 intro pins s σ H Q I h
 refine xwv PySem.F.slot_dict_getitem.lookup hs (thn (ho pins s σ H _ I h) λu s1 ⟨x,H1,I1,rx,q1⟩=>thn (hi pins s1 σ H1 _ I1 q1) λiv s2 ⟨y,H2,I2,ry,a,v,ex,g,q2⟩=>?_)
 subst ex
 obtain rfl:u=Value.ref a:=rx
 exact ⟨qy4 I2 g,wvr hu I2 g ry λw' s3 I3 rw'=>⟨v,H2,I3,rw',q2⟩⟩
theorem wyk (hu:X.A.units+1<cLine)(hi:PE X i ty)(ho:PE X o td):PC X .In i o (tDIn ty td):=by
 intro pins s σ H Q I h
 refine thn (hi pins s σ H _ I h) λiv s1 ⟨y,H1,I1,ry,q1⟩=>thn (ho pins s1 σ H1 _ I1 q1) λu s2 ⟨x,H2,I2,rx,a,ov,ex,g,q2⟩=>?_
 subst ex
 obtain rfl:u=Value.ref a:=rx
 exact zhw hu I2 g ry λs3 I3=>⟨.bl ov.isSome,H2,I3,rfl,q2⟩
theorem yw (hu:X.A.units+1<cLine)(hi:PE X i ty)(ho:PE X o td):PC X .NotIn i o (xws ty td):=by
 intro pins s σ H Q I h
 refine thn (hi pins s σ H _ I h) λiv s1 ⟨y,H1,I1,ry,q1⟩=>thn (ho pins s1 σ H1 _ I1 q1) λu s2 ⟨x,H2,I2,rx,a,ov,ex,g,q2⟩=>?_
 subst ex
 obtain rfl:u=Value.ref a:=rx
 exact xw7 hu I2 g ry λs3 I3=>⟨.bl (!ov.isSome),H2,I3,rfl,q2⟩
theorem u7 (hu:X.A.units+1<cLine)(ho:PE X o td)(hi:PE X i ty)(hv:PE X value tv)(hs:swapsWith value (some (.Subscript o i pos')) pos.line X.env=pure false) :
  PS X (.Assign [.Subscript o i pos'] value pos) (sDPut td ty tv):=by
 intro pins s σ H D I h
 refine wpAny_Assign_Subscript (thn (hv pins s σ H _ I h) λr s1 ⟨v,H1,I1,rv,q1⟩=>thn (ho pins s1 σ H1 _ I1 q1) λu s2 ⟨x,H2,I2,rx,q2⟩=>thn (hi pins s2 σ H2 _ I2 q2) λiv s3 ⟨y,H3,I3,ry,a,H4,ex,g,q3⟩=>?_) hs
 subst ex
 obtain rfl:u=Value.ref a:=rx
 exact wvy hu I3 g ry rv λs4 I4=>⟨σ,H4,I4,q3⟩
theorem xwm (ho:PE X o td)(hi:PE X i ty):PS X (.Delete [.Subscript o i tpos] pos) (sDDel td ty):=by
 intro pins s σ H D I h
 refine wpAny_Delete (wpAny_deleteEach_cons (wpAny_delete_Subscript (thn (ho pins s σ H _ I h) λu s1 ⟨x,H1,I1,rx,q1⟩=>thn (hi pins s1 σ H1 _ I1 q1) λiv s2 ⟨y,H2,I2,ry,a,kvs,k,ex,e,ey,l,q2⟩=>?_)))
 subst ex ey
 obtain rfl:u=Value.ref a:=rx
 exact wky I2 e ry l λs3 I3=>wpAny_deleteEach_nil ⟨σ,_,I3,q2⟩
end
theorem wqh {P:Ac}{w:Ah}{H:Hp}(h:Heap)(hb:sysModules<h.objs.size):ObjOk P w H (h.push { cls:=.type "dict",data:=.dict #[] }) h.objs.size (.dK []) :=
 ⟨aD _,aU.mpr (aV (az hb)),[],.nil,Heap.DictOf.new h⟩
theorem qu7 {P:Ac}{w:Ah}{H:Hp}(h:Heap)(hb:sysModules<h.objs.size):ObjOk P w H (h.push { cls:=.type "dict",data:=.dict #[] }) h.objs.size (.dT []) :=
 ⟨aD _,aU.mpr (aV (az hb)),[],.nil,_,#[],0,aw _ rfl,⟨rfl,rfl,rfl⟩,rfl,rfl,aS⟩
def tDNewK:TE:=λ_ H Q=>∀p,H p=none→Q (.ref p) (upd H p (.dK []))
def tDNewT:TE:=λ_ H Q=>∀p,H p=none→Q (.ref p) (upd H p (.dT []))
section
variable {X:Cx}{pos:Pos}
theorem jw:PE X (.Dict [] [] pos) tDNewK:=λpins s σ H Q I h =>
 wpAny_Dict_empty ⟨.ref s.heap.objs.size,_,I.laid (a:=s.heap.objs.size) (o:=.dK []) (t':=s.toks) (λ_ _ q=>ag _ q) (al _) (wqh s.heap I.big),rfl,h _ (I.hok.fresh (al _))⟩
theorem wuf:PE X (.Dict [] [] pos) tDNewT:=λpins s σ H Q I h =>
 wpAny_Dict_empty ⟨.ref s.heap.objs.size,_,I.laid (a:=s.heap.objs.size) (o:=.dT []) (t':=s.toks) (λ_ _ q=>ag _ q) (al _) (qu7 s.heap I.big),rfl,h _ (I.hok.fresh (al _))⟩
end
end L2
namespace L2
open PySem PySem.Spec PyProof.Rows
def wxk:List (TE×TE)→St→Hp→(List (V×V)→Hp→Prop)→Prop
 |[],_,H,Q=>Q [] H
 |(tk,tv)::r,σ,H,Q=>tk σ H λx H1=>tv σ H1 λy H2=>wxk r σ H2 λps H3=>Q ((x,y)::ps) H3
abbrev VV:List (V×V)→List (Ag×Ag)→Prop:=Paired λp q=>RelV p.1 q.1∧RelV p.2 q.2
def PPs (X:Cx)(pos:Pos)(keys:List (Option Expr))(values:List Expr)(trs:List (TE×TE)):Prop :=
 ∀(pins:List (Aj×Obj)) (s:Ab) (σ:St) (H:Hp) (Q:List (V×V)→Hp→Prop),Inv X pins σ H s→wxk trs σ H Q →
  wpAny (model X.prog X.w) X.A (evalPairs (pairTrees keys values X.env pos)) (λvs s'=>∃ps H',Inv X pins σ H' s'∧VV ps vs∧Q ps H') X.xe s
theorem u8 {X:Cx}{pos:Pos}:PPs X pos [] [] []:=λpins s σ H Q I h=>pairTrees_nil_walk ⟨[],H,I,.nil,h⟩
theorem yt {X:Cx}{pos:Pos}{k v:Expr}{ks:List (Option Expr)}{vs:List Expr}{tk tv:TE}{trs:List (TE×TE)}(hk:PE X k tk)(hv:PE X v tv)(hr:PPs X pos ks vs trs) :
  PPs X pos (some k::ks) (v::vs) ((tk,tv)::trs):=λpins s σ H Q I h =>
 pairTrees_cons_walk (thn (hk pins s σ H _ I h) λu s1 ⟨x,H1,I1,rx,q1⟩=>thn (hv pins s1 σ H1 _ I1 q1) λw2 s2 ⟨y,H2,I2,ry,q2⟩ =>
  thn (hr pins s2 σ H2 _ I2 q2) λws s3 ⟨ps,H3,I3,rel,q3⟩=>⟨(x,y)::ps,H3,I3,.cons ⟨rx,ry⟩ rel,q3⟩)
def yc (kvs more:List (Key×V)):List (Key×V):=more.foldl (λacc kv=>km acc kv.1 kv.2) kvs
theorem KV.merge:∀ {more:List (Key×V)} {rs:List (Key×Ag)} {kvs:List (Key×V)} {vs:List (Key×Ag)},KV more rs→KV kvs vs→KV (yc kvs more) (merged vs rs):=by
 intro more rs kvs vs r
 unfold KV at r
 induction r generalizing kvs vs with
 |nil=>intro q;exact q
 |@cons p q ps qs h t ih =>
  intro r0
  have e:KV (km kvs p.1 p.2) (stored vs q.1 q.2):=by
   have:=r0.put p.1 h.2
   rw [←h.1];exact this
  exact ih e
theorem Qw:∀(more kvs:List (Key×V)),(yc kvs more).length≤kvs.length+more.length
 |[],kvs=>by show kvs.length≤kvs.length+0;lia
 |p::r,kvs=>by
  have h1:=Qw r (km kvs p.1 p.2)
  have h2:=yn kvs p.1 p.2
  show (yc (km kvs p.1 p.2) r).length≤_
  rw [aO];lia
theorem qx6 {P:Ac}{w:Ah}:∀ {kvs:List (Key×V)} {ws:List (Ag×Ag)},VV (kvs.map λkv=>(kV kv.1,kv.2)) ws→∃rs,Carries (zv P w) ws rs∧KV kvs rs
 |[],_,r=>by rw [bI] at r;cases r;exact ⟨[],True.intro,.nil⟩
 |p::kvs,_,r=>by
  rw [aC] at r
  cases r with
  |@cons a b as bs h t =>
   obtain ⟨rs,c,q⟩:=qx6 (P:=P) (w:=w) t
   obtain ⟨b1,b2⟩:=b
   exact ⟨(p.1,b2)::rs,⟨Wn h.1,rfl,c⟩,.cons ⟨rfl,h.2⟩ q⟩
def tDisp (trs:List (TE×TE)):TE:=λσ H Q=>∀p,H p=none→wxk trs σ (upd H p (.dK [])) λps H2=>H2 p=some (.dK [])∧∃kvs:List (Key×V),ps=kvs.map (λkv=>(kV kv.1,kv.2))∧kvs.length≤15∧Q (.ref p) (upd H2 p (.dK (yc [] kvs)))
theorem ut {X:Cx}{pos:Pos}{keys:List (Option Expr)}{values:List Expr}{trs:List (TE×TE)}(h:PPs X pos keys values trs)(hall:keys.all (·.isSome)=true)(hl:keys.length=values.length)(h0:keys≠[])
  (h15:keys.length≤15):PE X (.Dict keys values pos) (tDisp trs):=by
 intro pins s σ H Q I q
 have hn:=I.hok.fresh (al s.heap.objs.size)
 have I1:=I.laid (a:=s.heap.objs.size) (o:=.dK []) (h':=s.heap.push { cls:=.type "dict",data:=.dict #[] }) (t':=s.toks) (λ_ _ q=>ag _ q) (al _) (wqh s.heap I.big)
 refine wpAny_Dict_walk (knd:=zv X.prog X.w) hall hl h0 h15 (thn (h pins _ σ _ _ I1 (q _ hn)) λws s2 ⟨ps,H2,I2,rel,e,kvs,ep,lk,q2⟩=>?_)
 subst ep
 obtain ⟨rs,c,rk⟩:=qx6 (P:=X.prog) (w:=X.w) rel
 obtain ⟨z,hd,vs0,r0,dd⟩:=Yb I2.hok e
 cases r0
 refine ⟨rs,c,dd,λh' dd' hs=>⟨.ref s.heap.objs.size,_,?_,rfl,q2⟩⟩
 have hz:(yc [] kvs).length≤sizeLine:=by
  have h1:=Qw kvs []
  rw [fQ] at h1
  rw [sizeLine_eq];lia
 have he:∃q,h'.get? s.heap.objs.size=some q:=let ⟨q,_,_,hq,_⟩:=dd';⟨q,hq⟩
 exact y9 I2 (by rw [e];exact True.intro) hs he (Q6 hz hd (rk.merge .nil) dd')
structure M1 (X:Cx)(o:Expr)(m:Str)(apos:Pos)(e:Expr)(cpos:Pos):Prop where
 base:attributeBase o m X.env (eval o X.env)=eval o X.env
 few:((backTo cpos (starEach [e] X.env)).all (λx=>!x.1)&&(backToKw cpos (keywordEach [] X.env)).all (λx=>x.1.isSome)
  && decide (([e]:List Expr).length+([]:List Keyword).length+(if ([]:List Keyword).isEmpty then 0 else 1)<30))=true
 line:(apos.endLine==cpos.line)=true
 trees:backTo cpos (starEach [e] X.env)=[(false,eval e X.env)]
structure M2 (X:Cx)(o:Expr)(m:Str)(apos:Pos)(e f:Expr)(cpos:Pos):Prop where
 base:attributeBase o m X.env (eval o X.env)=eval o X.env
 few:((backTo cpos (starEach [e,f] X.env)).all (λx=>!x.1)&&(backToKw cpos (keywordEach [] X.env)).all (λx=>x.1.isSome)
  && decide (([e,f]:List Expr).length+([]:List Keyword).length+(if ([]:List Keyword).isEmpty then 0 else 1)<30))=true
 line:(apos.endLine==cpos.line)=true
 trees:backTo cpos (starEach [e,f] X.env)=[(false,eval e X.env),(false,eval f X.env)]
def IsD (H:Hp)(a:Aj):Prop:=(∃kvs,Rd H a (.dK kvs))∨∃kvs,Rd H a (.dT kvs)
theorem Zc {X:Cx}{pins:List (Aj×Obj)}{σ:St}{H:Hp}{s:Ab}{a:Aj}(I:Inv X pins σ H s)(d:IsD H a) :
  s.TypeIs (.ref a) "dict" ∧ (∀b,Value.ref a=.ref b→∃ob,s.heap.get? b=some ob∧ob.dict=none)∧(a==sysModules)=false:=by
 rcases d with ⟨kvs,e⟩|⟨kvs,e⟩
 ·obtain ⟨_,hd,vs,_,dd⟩:=Q7 I.hok e
  refine ⟨dd.typeIs,λb q=>?_,hd⟩
  cases q
  obtain ⟨ob,_,_,h1,h2,_⟩:=dd
  exact ⟨ob,h1,h2.2.1⟩
 ·obtain ⟨_,hd,xs,_,dd⟩:=Yv I.hok e
  refine ⟨dd.typeIs,λb q=>?_,hd⟩
  cases q
  obtain ⟨ob,_,_,h1,h2,_⟩:=dd
  exact ⟨ob,h1,h2.2.1⟩
section
variable {X:Cx}{pins:List (Aj×Obj)}{σ:St}{H:Hp}{s:Ab}{a:Aj}{y d:V}{u r:Ag}{o:Option V}{A:Ae}{E:Ag→Ab→Prop}
theorem zhy {Q:Ag→Ab→Prop}(hu:A.units+1<cLine)(I:Inv X pins σ H s)(g:DGet H a y o)(ry:RelV y u)(h:∀w' s',Inv X pins σ H s'→RelV (o.getD .non) w'→Q w' s') :
  wpAny (model X.prog X.w) A (call (.builtin "dict.get") [.ref a,u]) Q E s:=by
 rcases g with ⟨kvs,k,e,ey,l⟩|⟨kvs,k,b,e,ey,eb,l⟩
 ·subst ey
  obtain ⟨z,hd,vs,rel,dd⟩:=Q7 I.hok e
  refine cu cm dd.typeIs de (fD _ _) (meets_dict_get (zv X.prog X.w) a (Wn ry) hd) ⟨_,dd.mapOf,h _ _ (I.tok _) ?_⟩
  rw [l]
  exact (rel.val k).getD rfl
 ·subst ey
  cases (show u=Value.ref b from ry)
  obtain ⟨z,hd,xs,rel,dd⟩:=Yv I.hok e
  refine cu cm dd.typeIs de (fD _ _) (meetsH_dict_get (tupleKind (zv X.prog X.w)) a b hd) ⟨cJ hu,k,xs,Q9 I.hok eb,dd,h _ _ (I.tok _) ?_⟩
  rw [l]
  exact (rel.val k).getD rfl
theorem zhz {Q:Ag→Ab→Prop}(hu:A.units+1<cLine)(I:Inv X pins σ H s)(g:DGet H a y o)(ry:RelV y u)(rd:RelV d r)(h:∀w' s',Inv X pins σ H s'→RelV (o.getD d) w'→Q w' s') :
  wpAny (model X.prog X.w) A (call (.builtin "dict.get") [.ref a,u,r]) Q E s:=by
 rcases g with ⟨kvs,k,e,ey,l⟩|⟨kvs,k,b,e,ey,eb,l⟩
 ·subst ey
  obtain ⟨z,hd,vs,rel,dd⟩:=Q7 I.hok e
  refine cu cm dd.typeIs de (fE _ _ _) (meets_dict_get_default (zv X.prog X.w) a (Wn ry) hd r) ⟨_,dd.mapOf,h _ _ (I.tok _) ?_⟩
  rw [l]
  exact (rel.val k).getD rd
 ·subst ey
  cases (show u=Value.ref b from ry)
  obtain ⟨z,hd,xs,rel,dd⟩:=Yv I.hok e
  refine cu cm dd.typeIs de (fE _ _ _) (meetsH_dict_get_default (tupleKind (zv X.prog X.w)) a b hd r) ⟨cJ hu,k,xs,Q9 I.hok eb,dd,h _ _ (I.tok _) ?_⟩
  rw [l]
  exact (rel.val k).getD rd
end
def tDGet1 (td ty:TE):TE:=λσ H Q=>td σ H λx H1=>∃a,x=.ref a∧IsD H1 a∧ty σ H1 λy H2=>∃o,DGet H2 a y o∧Q (o.getD .non) H2
def tDGet2 (td ty tx:TE):TE:=λσ H Q=>td σ H λx H1=>∃a,x=.ref a∧IsD H1 a∧ty σ H1 λy H2=>tx σ H2 λz H3=>∃o,DGet H3 a y o∧Q (o.getD z) H3
def tDPop1 (td ty:TE):TE:=λσ H Q=>td σ H λx H1=>∃a,x=.ref a∧IsD H1 a∧ty σ H1 λy H2=>∃kvs k v,H2 a=some (.dK kvs)∧y=kV k∧wp kvs k=some v∧Q v (upd H2 a (.dK (y3 kvs k)))
section
variable {X:Cx}{o e f:Expr}{apos cpos:Pos}{td ty tx:TE}
theorem wj2 (hu:X.A.units+1<cLine)(ho:PE X o td)(he:PE X e ty)(m:M1 X o "get" apos e cpos):PE X (.Call (.Attribute o "get" apos) [e] [] cpos) (tDGet1 td ty):=by
 intro pins s σ H Q I h
 refine dW m.base m.few m.line bL cm PySem.F.type_dict_get (thn (ho pins s σ H _ I h) λu s1 ⟨x,H1,I1,rx,a,ex,d,q1⟩=>?_)
 subst ex
 obtain rfl:u=Value.ref a:=rx
 obtain ⟨t1,t2,_⟩:=Zc I1 d
 refine ⟨t1,t2,?_⟩
 rw [m.trees]
 refine bB rfl (cx (cH (thn (he pins s1 σ H1 _ I1 q1) λiv s2 ⟨y,H2,I2,ry,ov,g,q2⟩=>dj ?_)))
 exact zhy hu I2 g ry λw' s3 I3 rw'=>⟨_,H2,I3,rw',q2⟩
theorem wug (hu:X.A.units+1<cLine)(ho:PE X o td)(he:PE X e ty)(hf:PE X f tx)(m:M2 X o "get" apos e f cpos):PE X (.Call (.Attribute o "get" apos) [e,f] [] cpos) (tDGet2 td ty tx):=by
 intro pins s σ H Q I h
 refine dW m.base m.few m.line bL cm PySem.F.type_dict_get (thn (ho pins s σ H _ I h) λu s1 ⟨x,H1,I1,rx,a,ex,d,q1⟩=>?_)
 subst ex
 obtain rfl:u=Value.ref a:=rx
 obtain ⟨t1,t2,_⟩:=Zc I1 d
 refine ⟨t1,t2,?_⟩
 rw [m.trees]
 refine bB rfl (cx (cH (thn (he pins s1 σ H1 _ I1 q1) λiv s2 ⟨y,H2,I2,ry,q2⟩ =>
  cH (thn (hf pins s2 σ H2 _ I2 q2) λfv s3 ⟨z,H3,I3,rz,ov,g,q3⟩=>dj ?_))))
 exact zhz hu I3 g ry rz λw' s4 I4 rw'=>⟨_,H3,I4,rw',q3⟩
theorem wqv (ho:PE X o td)(he:PE X e ty)(m:M1 X o "pop" apos e cpos):PE X (.Call (.Attribute o "pop" apos) [e] [] cpos) (tDPop1 td ty):=by
 intro pins s σ H Q I h
 refine dW m.base m.few m.line bL PySem.F.slot_dict_pop PySem.F.type_dict_pop (thn (ho pins s σ H _ I h) λu s1 ⟨x,H1,I1,rx,a,ex,d,q1⟩=>?_)
 subst ex
 obtain rfl:u=Value.ref a:=rx
 obtain ⟨t1,t2,_⟩:=Zc I1 d
 refine ⟨t1,t2,?_⟩
 rw [m.trees]
 refine bB rfl (cx (cH (thn (he pins s1 σ H1 _ I1 q1) λiv s2 ⟨y,H2,I2,ry,kvs,k,v,ea,ey,l,q2⟩=>dj ?_)))
 subst ey
 exact zhx I2 ea ry l (.inl rfl) λw' s3 I3 rw'=>⟨v,_,I3,rw',q2⟩
end
section
variable {X:Cx}{pins:List (Aj×Obj)}{σ:St}{H:Hp}{s:Ab}{a:Aj}{kvs:List (Key×V)}{A:Ae}{E:Ag→Ab→Prop}
theorem wyx {Q:Ag→Ab→Prop}(I:Inv X pins σ H s)(e:Rd H a (.dK kvs))(h:∀p s',H p=none→Inv X pins σ (upd H p (.dK kvs)) s'→Q (.ref p) s'):wpAny (model X.prog X.w) A (call (.type "dict") [.ref a]) Q E s:=by
 obtain ⟨z,hd,vs,rel,dd⟩:=Q7 I.hok e
 refine kt_call_dict hd dd (by rw [←rel.length];exact z) λh' dd' hs=>?_
 refine h _ _ (I.hok.fresh (al _)) (I.laid (a:=s.heap.objs.size) (o:=.dK kvs) (t':=s.toks) (λb q hq=>?_) (al _) (Q6 z (aU.mpr (aV (az I.big))) rel dd'))
 exact (hs.2 b (az (am hq))).trans (ag _ hq)
end
section
variable {X:Cx}{pins:List (Aj×Obj)}{σ:St}{H:Hp}{s:Ab}{a:Aj}{y:V}{u:Ag}{A:Ae}{E:Ag→Ab→Prop}
end
end L2
namespace L2
open PySem PySem.Spec PyProof.Rows PySem.W
def RawD (h:Heap)(d:Aj)(es:Array DictEntry)(ep:Nat):Prop:=∃o,h.get? d=some o∧o.ExactDict∧o.data=.dict es ep
section
variable {prog:Ac}{w:Ah}{A:Ae}{E:Ag→Ab→Prop}{s:Ab}{d:Aj}{es:Array DictEntry}{ep:Nat}
theorem RawD.ty {s:Ab}(x:RawD s.heap d es ep):s.TypeIs (.ref d) "dict" := let ⟨o,ho,hc,_⟩:=x;⟨o,ho,hc.1⟩
theorem RawD.lt {h:Heap}(x:RawD h d es ep):d<h.objs.size:=let ⟨_,ho,_⟩:=x;am ho
theorem RawD.at {h h':Heap}(x:RawD h d es ep)(k:∀o,h.get? d=some o→h'.get? d=some o):RawD h' d es ep:=let ⟨o,ho,r⟩:=x;⟨o,k o ho,r⟩
theorem xqc {Q:Ag→Ab→Prop}(hd:(d==sysModules)=false)(hm:RawD s.heap d es ep)
  (hQ:Q (.ref s.heap.objs.size) { s with heap:=s.heap.push { cls:=.type "dict_keyiterator",data:=.fields #[.ref d,.int 0 0,.int es.size 0,.int ep 0] } }):wpAny (model prog w) A (pyIter (.ref d)) Q E s:=by
 obtain ⟨o,ho,hc,hdat⟩:=id hm
 (refine wpAny_pyIter_slot hm.ty F.slot_dict_iter (dv F.slot_dict_iter hm.ty F.entry_dict_iter ?_ (F.args_dict_iter_1 _)) ;unfold Builtin.«dict.__iter__» ;refine ac ?_ ;unfold Builtin.Dict.dictSlotNone ;refine ac (wpAny_notOrdered_dict hm.ty ?_))
 (show wpAny _ _ (pure (Value.ref d)) _ _ s ;refine ao ?_ ;show wpAny _ _ (Builtin.Dict.showsAll d >>= _) _ _ s ;unfold Builtin.Dict.showsAll ;rw [ai (by rw [hd];exact aI)])
 (refine ac (ao ?_) ;refine ac (cB ho hdat ?_) ;refine ac (fT ho hdat ?_))
 refine ac (cA (ao ⟨_,rfl,"dict_keyiterator",_,⟨_,aw _ rfl,rfl⟩,bY.lookup,?_⟩)) ;simpa [rawInt] using hQ
theorem wuy {it:Aj}{i:Nat}{e:DictEntry}{Q:Option Ag→Ab→Prop}(hit:s.heap.IsKeyIter it d i es.size ep)(hm:RawD s.heap d es ep)(hx:es[i]?=some e)
  (hQ:∀h',h'.IsKeyIter it d (i+1) es.size ep→Heap.SameBut it s.heap h'→Q (some e.key) { s with heap:=h' }):wpAny (model prog w) A (pyNext (.ref it)) Q E s:=by
 obtain ⟨o,ho,hc,hd⟩:=id hit ;obtain ⟨od,hod,hcd,hdd⟩:=id hm
 (unfold pyNext ;refine ac (wpAny_attempt (dM (name:=Str.ofString "__next__") hit.typeIs bY (dv bY hit.typeIs eG ?_ (eA _)))) ;refine ac (ao ?_) ;refine ac ?_ ;refine ac ?_)
 ((first | refine ac (cy hit.typeIs (ao ?_)) | refine ac (cT hit.typeIs (ao ?_))) ;refine ac (wpAny_fieldsOf ho hd ?_) ;simp only [show Builtin.Dict_items.ownsTuple "dict_keyiterator" = false by decide,cK,dP] ;show wpAny _ _ (if (Value.ref d==Value.none)=true then _ else _) _ _ s ;rw [ai (show ¬ ((Value.ref d==Value.none)=true) from aI)] ;refine ac (ao ?_) ;refine ac (cB hod hdd ?_) ;rw [ai (by simp)] ;refine ac (ao ?_) ;refine ac (fT hod hdd ?_) ;rw [ai (by simp)] ;refine ao ?_)
 have hlt:i<es.size:=(e7.mp hx).1 ;have he:es[i]=e:=(e7.mp hx).2
 (simp only [show ¬ ((i:Int)<0) from by lia,dP,dR,ce hlt] ;refine ac ?_ ;(first | refine ac (cy hit.typeIs (ao ?_)) | refine ac (cT hit.typeIs (ao ?_))) ;refine ac (wpAny_isOneOf_keyiter hit.typeIs ?_) ;show wpAny _ _ (setField (.ref it) 1 (rawInt ((i:Int)+1)) >>= _) _ _ s ;refine ac (wpAny_setField ho hd (by simp) ?_))
 have hit':(s.heap.update it (Obj.mapFields (·.setIfInBounds 1 (rawInt ((i:Int)+1))))).IsKeyIter it d (i+1) es.size ep:=⟨_,d7 _ ho (Obj.isFreed_of_fields (Obj.data_mapFields hd _)),(Obj.cls_mapFields ..).trans hc,by rw [Obj.data_mapFields hd];simp [rawInt]⟩
 (refine ac (cn ?_) ;refine ac (wpAny_isOneOf_keyiter (s:={ s with heap:=s.heap.update it (Obj.mapFields (·.setIfInBounds 1 (rawInt ((i:Int)+1)))) }) hit'.typeIs ?_) ;show wpAny _ _ (pure es[i].key) _ _ _ ;rw [he])
 exact ao (ao ⟨_,rfl,ao (hQ _ hit' (dE ..))⟩)
theorem xxg {it:Aj}{i:Nat}{Q:Option Ag→Ab→Prop}(hh:A.handled=none)(hit:s.heap.IsKeyIter it d i es.size ep)(hm:RawD s.heap d es ep)(hx:es.size≤i)(hQ:∀h',Heap.ExtBut it s.heap h'→Q none { s with heap:=h' }):wpAny (model prog w) A (pyNext (.ref it)) Q E s:=by
 obtain ⟨o,ho,hc,hd⟩:=id hit ;obtain ⟨od,hod,hcd,hdd⟩:=id hm
 (unfold pyNext ;refine ac (wpAny_attempt (dM (name:=Str.ofString "__next__") hit.typeIs bY (dv bY hit.typeIs eG ?_ (eA _)))) ;refine ac (ao ?_) ;refine ac ?_ ;refine ac ?_)
 ((first | refine ac (cy hit.typeIs (ao ?_)) | refine ac (cT hit.typeIs (ao ?_))) ;refine ac (wpAny_fieldsOf ho hd ?_) ;simp only [show Builtin.Dict_items.ownsTuple "dict_keyiterator" = false by decide,cK,dP] ;show wpAny _ _ (if (Value.ref d==Value.none)=true then _ else _) _ _ s ;rw [ai (show ¬ ((Value.ref d==Value.none)=true) from aI)] ;refine ac (ao ?_) ;refine ac (cB hod hdd ?_) ;rw [ai (by simp)] ;refine ac (ao ?_) ;refine ac (fT hod hdd ?_) ;rw [ai (by simp)] ;refine ao ?_)
 (simp only [show ¬ ((i:Int)<0) from by lia,dP,dR,cG hx] ;refine ac ?_ ;(first | refine ac (cy hit.typeIs (ao ?_)) | refine ac (cT hit.typeIs (ao ?_))) ;show wpAny _ _ (setField (.ref it) 0 .none >>= _) _ _ s ;refine ac (wpAny_setField ho hd (by simp) ?_) ;show wpAny _ _ (newExc (.type "StopIteration") [] >>= _) _ _ _ ;refine ac ?_ ;simp only [newExc,newTuple])
 (refine ac (cA ?_ (by size_fits)) ;refine ac (m:=firstArgMember _ _) (wpAny_of_eq (a:=Value.none) (by first | rfl | (simp only [firstArgMember];rfl)) ?_) ;refine cA ?_ (by size_fits) ;simp only [raiseNew] ;refine ac (wpAny_handled ?_) ;rw [show A.in1.handled=none from hh] ;refine ac (ao (wpAny_throw ?_)))
 refine ac (wpAny_isInstance (T := "StopIteration") (b:=true) ⟨_,aw _ rfl,rfl⟩ isSubtype_stop (ao (hQ _ (((dE ..).extBut.push _).push _))))
theorem wvm (hh:A.handled=none)(I:Aj)(hne:d≠I):Walks prog w A I [I,d] [I] es.size (λi v=>∃e,es[i]?=some e∧v=e.key) (λi h=>h.IsKeyIter I d i es.size ep∧RawD h d es ep) where
 sub:=λb hb=>by simp at hb;simp [hb]
 frame:=λ_ _ _ st hk=>⟨st.1.at λo e=>hk I (by simp) o e,st.2.at λo e=>hk d (by simp) o e⟩
 item:=λi s Q E hi st hQ=>wuy st.1 st.2 (ce hi) λh' it' sb=>hQ _ h' s.toks ⟨_,ce hi,rfl⟩ ⟨it',st.2.at λo e=>sb.extBut d o hne e⟩ λb o hb e=>sb.extBut b o (λh=>hb (by simp [h])) e
 done:=λs Q E st hQ=>xxg hh st.1 st.2 (al _) λh' eb=>hQ h' s.toks λb o hb e=>eb b o (λh=>hb (by simp [h])) e
 self:=λ_ _ _ _ st hQ=>wpAny_pyIter_keyiter st.1 hQ
theorem xxb (lo:(d==sysModules)=false):KdlSrc prog w "dict" d d es.size (λi v=>∃e,es[i]?=some e∧v=e.key) (λh=>RawD h d es ep) where
 type:=λ_ hm=>hm.ty
 there:=λ_ hm=>⟨hm.lt,hm.lt⟩
 keep:=λ_ _ hm hk=>hm.at λo e=>hk d (.inl rfl) o e
 notList:=by decide
 notTuple:=by decide
 hint:=λ_ _ _ _ hm hq=>kdl_hint_dict hm.ty hq
 iter:=λ_ _ hh hm=>⟨_,_,(λ_ _ hq=>xqc lo hm hq),wvm hh _ (az hm.lt),⟨⟨_,aw _ rfl,rfl,rfl⟩,hm.at λo e=>ag _ e⟩⟩
theorem qvz (hd:(d==sysModules)=false):MeetsIn prog w (Builtin.«dict.__len__» ⟨[.ref d],[]⟩) (λ_ R s=>∃es ep,RawD s.heap d es ep∧R (.ok (.ret (.int es.size s.toks))) { s with toks:=s.toks+1 }) :=
 .of_wp λA R s ⟨es,ep,hm,h⟩=>by
  obtain ⟨o,ho,hc,hdat⟩:=hm
  (show wpAny _ _ (dictSize d >>= _) _ _ s ;unfold dictSize ;refine ac (ac (cB ho hdat (ao ?_))) ;show wpAny _ _ (Builtin.Dict.pendingCount d >>= _) _ _ s ;refine ac (wpAny_pendingCount_other hd ?_) ;refine wpAny_ret_mkInt ?_ ;rw [Nat.add_zero] ;exact h)
theorem xx3 {Q:Ag→Ab→Prop}(hd:(d==sysModules)=false)(hm:RawD s.heap d es ep)(hfit:(es.size:Int)<2 ^ 63)(h:Q (.int es.size (s.toks+1)) { s with toks:=s.toks+1+1 }):wpAny (model prog w) A (call (.builtin "len") [.ref d]) Q E s:=by
 refine dA kind_len plain_len entry_len (args_len1 _) ?_ ;unfold Builtin.«len» ;refine ac (m:=oneArg "len" _) (ao ?_)
 refine ac (m:=callSpecial? (.ref d) (Str.ofString "__len__")) (dM (name:=Str.ofString "__len__") hm.ty F.slot_dict_len (cu F.slot_dict_len hm.ty F.entry_dict_len (F.args_dict_len_1 _) (qvz hd) ⟨es,ep,hm,?_⟩))
 (show wpAny _ _ _ _ _ { s with toks:=s.toks+1 } ;refine ac (cn (ao ?_)) ;refine ac (wpAny_letGo ?_) ;show wpAny _ _ (if ((es.size:Nat):Int)<0 then _ else _) _ _ _ ;rw [ai ⋯] ;show wpAny _ _ (if ((es.size:Nat):Int)≥2 ^ 63 then _ else _) _ _ _ ;rw [ai ⋯])
 exact ac (wpAny_mkInt (ao ⟨_,rfl,h⟩))
end
section
variable {X:Cx}
theorem xqx {P:Ac}{w:Ah}{H:Hp}{h:Heap}{a:Aj}{kvs:List (List Key×V)}(ok:HOk P w H h)(e:H a=some (.dT kvs)) :
  kvs.length≤sizeLine∧(a==sysModules)=false∧∃(xs:List (List Key×Aj×Ag)) (es:Array DictEntry) (ep:Nat),KT H kvs xs∧RawD h a es ep∧es.toList=xs.map (entryOfKey (tupleKind (zv P w))):=by
 obtain ⟨z,y,xs,r,o,es,ep,h1,h2,h3,h4,h5⟩:=(show ObjOk P w H h a (.dT kvs) from ok a _ e)
 exact ⟨z,y,xs,es,ep,r,⟨o,h1,h2,h3⟩,h4⟩
theorem qvf:j4 X (.builtin "len") (λxs H Q=>∃a kvs,xs=[V.ref a]∧H a=some (.dT kvs)∧Q (.int kvs.length) H):=by
 intro pins s σ H xs us Q I r h
 obtain ⟨a,kvs,rfl,e,q⟩:=h
 obtain ⟨u,rfl,rx⟩:=uh r
 cases rx
 obtain ⟨z,hd,ys,es,ep,rel,raw,hes⟩:=xqx I.hok e
 have hl:es.size=kvs.length:=by rw [←bq,hes,aa,bu rel]
 have hn:=Zg
 exact xx3 hd raw (by rw [hl];lia) ⟨.int kvs.length,H,I.tok _,⟨_,by rw [hl]⟩,q⟩
def wy2 (H:Hp)(kvs:List (List Key×V))(vs:List V):Prop:=Paired (λv (p:List Key×V)=>∃b,v=V.ref b∧H b=some (.tup (p.1.map kV))) vs kvs
theorem wwv (hc:X.calm=true):j4 X (.type "list") (λxs H Q=>∃a kvs,xs=[V.ref a]∧H a=some (.dT kvs)∧∀p vs,H p=none→wy2 H kvs vs→Q (.ref p) (upd H p (.lst vs))):=by
 intro pins s σ H xs us Q I r h
 obtain ⟨a,kvs,rfl,e,q⟩:=h
 obtain ⟨u,rfl,rx⟩:=uh r
 cases rx
 obtain ⟨z,hd,ys,es,ep,rel,raw,hes⟩:=xqx I.hok e
 have hl:es.size=kvs.length:=by rw [←bq,hes,aa,bu rel]
 refine kdl_call (xxb hd) (I.ok.hd hc) raw (by rw [hl];exact z) λh' tk acc' c' hk hD hacc=>?_
 have key:∀(l:List Ag) (kvs':List (List Key×V)) (ys':List (List Key×Aj×Ag)),KT H kvs' ys'→l.length=kvs'.length→(∀(j:Nat) v,l[j]?=some v→∃y,ys'[j]?=some y∧v=.ref y.2.1)→∃vs,Vals vs l∧wy2 H kvs' vs:=by
  intro l kvs' ys' rr
  induction rr generalizing l with
  |nil =>
   intro hl' _
   cases l with
   |nil=>exact ⟨[],.nil,.nil⟩
   |cons _ _=>simp at hl'
  |@cons p y ps yss hp t ih =>
   intro hl' hj
   cases l with
   |nil=>simp at hl'
   |cons v l =>
    obtain ⟨y',ey,rfl⟩:=hj 0 v rfl
    cases ey
    obtain ⟨vs,v1,v2⟩:=ih l (by simpa using hl') λj u hu=>by
     obtain ⟨y2,e2,e3⟩:=hj (j+1) u (by simpa using hu)
     exact ⟨y2,by simpa using e2,e3⟩
    exact ⟨.ref y.2.1::vs,.cons rfl v1,.cons ⟨_,rfl,hp.2.1⟩ v2⟩
 obtain ⟨vs,v1,v2⟩:=key acc'.toList kvs ys rel (by rw [bq,hacc.1,hl]) λj v ev=>by
  obtain ⟨en,e1,rfl⟩:=hacc.2 j v (by rw [←ck];exact ev)
  rw [←ck,hes,aE] at e1
  cases hy:ys[j]? with
  |none=>rw [hy] at e1;cases e1
  |some y =>
   rw [hy] at e1
   have e2:=av e1
   exact ⟨y,rfl,by rw [←e2];rfl⟩
 have hv:vs.length≤sizeLine:=by rw [v1.length,bq,hacc.1,hl];exact z
 exact ⟨.ref _,_,I.laid (t':=tk) hk (al _) (show ObjOk X.prog X.w _ h' _ (.lst vs) from ⟨hv,acc'.toList,c',v1,by simpa using hD⟩),rfl,q _ _ (I.hok.fresh (al _)) v2⟩
end
end L2
namespace L2
open PySem PySem.Spec PyProof.Rows
section
variable {X:Cx}{K:Aa}
theorem qvq (hK:X.K=K):j4 X (.builtin "len") (λxs H Q=>∃p ys,xs=[.ref p]∧(SqL K H p ys∨SqT K H p ys)∧Q (.int ys.length) H):=by
 subst hK
 exact xf
end
end L2
namespace L2
open PySem PySem.Spec PyProof.Rows
section
variable {X:Cx}{tg:Expr}
theorem qyx:j4 X (.builtin "isinstance") (λxs H Q=>∃x c,xs=[x,.ref c]∧TyOf X.K H x (.ref c)∧Q (.bl true) H):=by
 intro pins s σ H xs us Q I r h
 obtain ⟨x,c,rfl,ty,q⟩:=h
 cases r with
 |cons r1 rr =>
  cases rr with
  |cons r2 rr =>
   cases rr
   cases r2
   exact qvp I r1 ty (b:=true) (by unfold W.kitOne;rw [ak (by simp)]) λtk=>⟨.bl true,H,I.tok tk,rfl,q⟩
end
end L2
namespace L2
open PySem
def IsO (K:Aa)(C:Aj):Prop:=W.findIn K (.ref C) "__class__" = some (some (.builtin "object.__class__")) ∧
 W.specialIn K (.builtin "object.__class__") "__get__" = some (some (.builtin "getset_descriptor.__get__"))∧W.takesIn K (.builtin "object.__class__")=some true∧W.mroIn K C (.type "object")=some true
end L2
namespace L2
open PySem PySem.Spec PyProof.Rows
end L2
namespace L2
open PySem PySem.Spec PyProof.Rows
def compN2 (X:Cx)(x y:Str)(M:List Nat):List Str:=x::y::M.map λj=>X.N.getD j Str.empty
def Wp (M:List Nat)(σ:St)(o o':Option V):St:=o::o'::M.map λj=>(σ[j]?).join
abbrev j0 (X:Cx)(scope:Scope)(cl:List (Str×Aj))(x y:Str)(M:List Nat)(C:Aj)(s2:Ab)(H2:Hp)(fp:List Aj)(pn:List (Aj×Obj)):Cx :=
 { X with N:=compN2 X x y M,s₀:=s2,H₀:=H2,env:=compEnvC scope cl C X.env,outer:=X.stack,ex:=fp,fn:=λ_=>false,pn:=pn,xe:=λ_ _=>False }
section
variable {X:Cx}{pins:List (Aj×Obj)}{σ:St}{H:Hp}{s2:Ab}{scope:Scope}{cl:List (Str×Aj)}{x y:Str}{M:List Nat}{fp:List Aj}{C:Aj}{h1:Heap}{tk:Nat}
theorem Inv.comp2 (I:Inv X pins σ H s2)(hc:CapAll X.env cl)(hh:HasAll cl scope.names)(hm:CapIx X scope cl M)(hk:scope.kind=.function)(hC:s2.heap.objs.size<C)
  (keep:∀b o,s2.heap.get? b=some o→h1.get? b=some o) (hn:h1.Ns C λ_=>none) (hD:h1.get? s2.heap.objs.size=some { cls:=.type "list",data:=.seq #[] 0 })
  (hfp:∀b∈fp,uq X pins H b) (hob:∀b∈fp,∃o,s2.heap.get? b=some o) :
  Inv (j0 X scope cl x y M C s2 H fp (X.pn++pins)) [] (Wp M σ none none) (upd H s2.heap.objs.size (.lst [])) { s2 with heap:=h1,toks:=tk }:=I.compG (xs:=[x,y]) hc hh hm hk hC keep hn ⟨aD _,[],0,.nil,hD⟩ hfp hob
theorem Inv.uncomp2 {pins':List (Aj×Obj)}{σ':St}{H':Hp}{s':Ab}{h':Heap}(I:Inv X pins σ H s2)(hC:s2.heap.objs.size≤C)(hfp:∀b∈fp,uq X pins H b)
  (J:Inv (j0 X scope cl x y M C s2 H fp (X.pn++pins)) pins' σ' H' s') (hs:Heap.SameBut C s'.heap h'):Inv X pins σ H' { s' with heap:=h' }:=by
 have hb:=J.base
 have nC:∀b o,s2.heap.get? b=some o→b≠C:=λb o e=>az (aH (am e) hC)
 have st:∀b o,b≠C→s'.heap.get? b=some o→h'.get? b=some o:=λb o n e=>(hs.2 b n).trans e
 refine I.call' (s':={ s' with heap:=h' }) (ch:=fp) J.os ⟨λb o e n nb nx=>st b o (nC b o e) (hb.keep b o e n nb nx),λb o e n hb' nx=>?_,hb.free,λb o e nx=>?_,hb.tups,hb.frzs,hb.tbls⟩ ?_ J.bare λb hbf=>?_
 ·obtain ⟨sl,e1⟩:=hb.slot b o e n hb' nx
  exact ⟨sl,st b _ (nC b o e) e1⟩
 ·obtain ⟨o',e1⟩:=hb.there b o e nx
  exact ⟨o',st b _ (nC b o e) e1⟩
 ·intro b u hu
  have fr:H' C=none:=J.free
  refine (J.hok b u hu).stay (λc v hc e=>st c v ?_ e) (λ_ z=>z) λ_ _ z=>z
  rcases hc with rfl|hc
  ·intro z;rw [z,fr] at hu;cases hu
  ·intro z;rw [z,fr] at hc;cases hc
 ·obtain ⟨q1,q2,q3,q4,q5,q6⟩:=hfp b hbf
  exact ⟨q4,q2,q5,q6⟩
end
section
variable {X:Cx}{elt iter iter2:Expr}{x y:Str}{px py pos:Pos}{scope:Scope}{cl:List (Str×Aj)}{M:List Nat}{wi wi2:TI}{te:TE}
end
section
variable {X:Cx}{elt iter iter2:Expr}{x y2:Str}{px py2 pos:Pos}{scope:Scope}{cl:List (Str×Aj)}{M:List Nat}{wi wi2:TI}{te:TE}
end
end L2
namespace L2
open PySem PySem.Spec PyProof.Rows
theorem xq8 {X:Cx}{K:Aa}(hK:X.K=K):IxR X (rIxT K):=by
 subst hK
 exact xv
end L2
namespace L2
open PySem PySem.Spec PyProof.Rows
section
variable {X:Cx}{pins:List (Aj×Obj)}{σ:St}{H:Hp}{s:Ab}{h':Heap}{ch:List Aj}
theorem Inv.turnedL {tk:Nat}(I:Inv X pins σ H s)(hk:∀b u,b∉ch→s.heap.get? b=some u→h'.get? b=some u)(hf:∀b∈ch,uq X pins H b):Inv X pins σ H { s with heap:=h',toks:=tk }:=by
 refine I.call' (s':={ s with heap:=h',toks:=tk }) (ch:=ch) rfl ⟨λb o e n _ nx=>hk b o nx e,λb o e n _ nx=>⟨o.slots,hk b o nx e⟩,λb o e n _=>n,λb o e nx=>⟨o,hk b o nx e⟩,λ_ _ e=>e,λ_ _ _ e=>e,λb ps e=>⟨#[],by rw [e];simp⟩⟩ ?_ I.bare λb hb=>?_
 ·intro b u hu
  refine (I.hok b u hu).stay (λc v hc e=>hk c v (λz=>?_) e) (λ_ z=>z) λ_ _ z=>z
  have:=(hf c z).1
  rcases hc with rfl|hc
  ·rw [this] at hu;cases hu
  ·rw [this] at hc;cases hc
 ·obtain ⟨q1,q2,q3,q4,q5,q6⟩:=hf b hb
  exact ⟨q4,q2,q5,q6⟩
theorem Inv.turnedT {tk:Nat}{o:HO}{ob:Obj}(I:Inv X pins σ H s)(hk:∀b u,b∉ch→s.heap.get? b=some u→h'.get? b=some u)(hn:h'.get? s.heap.objs.size=some ob)(hf:∀b∈ch,uq X pins H b)(hc:∀b∈ch,b≠s.heap.objs.size)
  (ok:ObjOk X.prog X.w (upd H s.heap.objs.size o) (s.heap.push ob) s.heap.objs.size o) (fr:ob.isFreed=false):Inv X pins σ (upd H s.heap.objs.size o) { s with heap:=h',toks:=tk }:=by
 have I1:Inv X pins σ (upd H s.heap.objs.size o) { s with heap:=s.heap.push ob,toks:=tk }:=I.laid (t':=tk) (λb u e=>ag _ e) (al _) ok
 refine Inv.turnedL (s:={ s with heap:=s.heap.push ob,toks:=tk }) (ch:=ch) I1 (λb u nb e=>?_) λb hb=>?_
 ·rcases Heap.get?_push_cases e with ⟨rfl,rfl⟩|e
  ·exact hn
  ·exact hk b u nb e
 ·obtain ⟨q1,q⟩:=hf b hb
  exact ⟨by rw [wf (hc b hb)];exact q1,q⟩
theorem wx3 {x y:V}{u v:Ag}(I:Inv X pins σ H s)(rx:RelV x u)(ry:RelV y v):ObjOk X.prog X.w (upd H s.heap.objs.size (.tup [x,y])) (s.heap.push { cls:=.type "tuple",data:=.seq #[u,v] }) s.heap.objs.size (.tup [x,y]):=by
 refine ⟨by show 2≤sizeLine;decide,[u,v],.cons rx (.cons ry .nil),?_⟩
 exact ⟨_,aw _ rfl,rfl,_,rfl⟩
end
section
variable {X:Cx}
end
def ItE (K:Aa)(a:Aj)(xs:List V):It :=
 ⟨λi H=>SqL K H a xs∧i<xs.length,λi H v H'=>∃q x,H q=none∧v=.ref q∧xs[i]?=some x∧H'=upd H q (.tup [.int (i:Nat),x]),λi H=>SqL K H a xs∧xs.length≤i⟩
theorem wkz {P:Ac}{w:Ah}{K:Aa}{es:List Expr}{k:Nat}{pos:Pos}(a z it:Aj)(xs:List V)(ap:z≠it):Turn P w K (.Tuple es k pos) (ItE K a xs) [z,it] z
  (λi h=>i≤xs.length∧(∃old,IsEnum h z it (i:Nat) old)∧h.IsListIter it a i) where
 mem:=by simp
 obj:=λi h st c hc=>by
  obtain ⟨_,⟨old,h1⟩,⟨o4,h4,c4,d4⟩⟩:=st
  have hc':c=z∨c=it:=by simpa using hc
  rcases hc' with rfl|rfl
  ·exact ⟨_,h1,λv z=>by cases z⟩
  ·exact ⟨_,h4,λv z=>by rw [d4] at z;cases z⟩
 keep:=λi h h' st k=>by
  obtain ⟨l,⟨old,h1⟩,h4⟩:=st
  exact ⟨l,⟨old,k z (by simp) _ h1⟩,h4.at λo e=>k it (by simp) o e⟩
 item:=by
  intro X hP hw hK hc i pins s σ H E I hf st hg
  subst hP hw hK
  obtain ⟨hq1,l1⟩:=hg
  obtain ⟨its,rv,p,hz⟩:=I.list hq1
  have e1:xs[i]?=some xs[i]:=aj l1
  obtain ⟨u,hu,ru⟩:=rv.get e1
  obtain ⟨_,⟨old,h1⟩,h4⟩:=st
  refine wpAny_pyNext_enum_item h1 h4 p.isList (x:=u) (by simpa using hu) ap λh' g1 g2 g3 g4 g5=>?_
  refine ⟨_,rfl,wpAny_letOwnedTupleGo_enum (s:={ s with heap:=h',toks:=s.toks+1 }) g1 λh'' f1 f2=>?_⟩
  have hsz:∀c,c∈[z,it]→c≠s.heap.objs.size:=λc hc e=>by
   have hc':c=z∨c=it:=by simpa using hc
   have hlt:c<s.heap.objs.size:=by
    rcases hc' with rfl|rfl
    ·exact am h1
    ·obtain ⟨o,e,_⟩:=h4;exact am e
   exact aQ _ (e▸hlt)
  have keepz:∀c o,c≠z→h'.get? c=some o→h''.get? c=some o:=λc o nc e=>(f2.2 c nc).trans e
  have keep:∀c o,c∉[z,it]→s.heap.get? c=some o→h''.get? c=some o:=λc o nc e=>by
   simp only [ae,af,aG,not_or] at nc
   exact keepz c o nc.1 (g5 c o nc.1 nc.2 e)
  have new:h''.get? s.heap.objs.size=some { cls:=.type "tuple",data:=.seq #[.int (i:Nat) s.toks,u] }:=keepz _ _ (aV (hsz z (by simp))) g3
  refine ⟨.ref s.heap.objs.size,_,Inv.turnedT (s:=s) (ch:=[z,it]) (tk:=s.toks+1) I keep new hf hsz (wx3 I (show RelV (.int (i:Nat)) (.int (i:Nat) s.toks) from ⟨_,rfl⟩) ru) rfl,rfl,⟨_,_,I.hok.fresh (al _),rfl,e1,rfl⟩,⟨⋯,⟨u,?_⟩,g2.at λo e=>keepz _ _ (aV ap) e⟩,λc hc=>?_⟩
  ·rw [show (((i+1:Nat):Nat):Int)=(i:Int)+1 by lia]
   exact f1
  ·rw [wf (hsz c hc)]
   exact (hf c hc).1
 done:=by
  intro X hP hw hK hc i pins s σ H E I hf st hg
  subst hP hw hK
  obtain ⟨hq1,le⟩:=hg
  obtain ⟨its,rv,p,hz⟩:=I.list hq1
  have hl:=rv.length
  obtain ⟨_,⟨old,h1⟩,h4⟩:=st
  refine wpAny_pyNext_enum_end (I.ok.hd hc) h1 h4 p.isList (cG (by rw [aF];lia)) λh' g=>⟨rfl,Inv.turnedL (ch:=[z,it]) (tk:=s.toks) I (λc o nc e=>?_) hf⟩
  simp only [ae,af,aG,not_or] at nc
  exact g c o nc.2 e
 self:=λ_ _ _ _ _ st h=>let ⟨_,⟨_,e⟩,_⟩:=st;wpAny_pyIter_enum e h
section
variable {X:Cx}
def iEnum (K:Aa)(ta:TA):TI:=λσ H R=>ta σ H λvs H1=>∃a xs,vs=[.ref a]∧SqL K H1 a xs∧R (ItE K a xs) H1
theorem xx7 {a:Expr}{ta:TA}{p pos:Pos}{es:List Expr}{k:Nat}{tpos:Pos}(hg:Gl X "enumerate")(hm:X.mg "enumerate" = none)(ha:PA X [a] ta)(hv:autoParam (bootBuiltins "enumerate" = some (.type "enumerate")) aU4._auto_1)
  (hs:autoParam (starEach [a] X.env=[(false,eval a X.env)]) aU4._auto_1):PI X (.Tuple es k tpos) (.Call (.Name "enumerate" p) [a] [] pos) (iEnum X.K ta):=by
 intro pins s σ H R I h
 refine Call_ (qwk I hg hm hv (di (thn (ha pos pins s σ H _ I h) λus s1 ⟨vs,H1,I1,r1,q1⟩=>?_) hs rfl))
 obtain ⟨a,xs,e,hq1,q⟩:=q1
 subst e
 cases r1 with
 |cons r rr =>
   cases rr
   cases r
   obtain ⟨its,rv,p,hz⟩:=I1.list hq1
   refine call_enumerate_list p.isList λh' g1 g4 g6 g7=>?_
   refine wpAny_pyIter_enum g1 ?_
   have I2:Inv X pins σ H1 { s1 with heap:=h' }:=I1.kept (t':=s1.toks) g7
   refine ⟨s1.heap.objs.size+1,[s1.heap.objs.size+1,s1.heap.objs.size],_,_,H1,rfl,I2,wkz a _ _ xs (Nat.succ_ne_self _),⟨aD _,⟨_,g1⟩,g4⟩,λc hc=>?_,q⟩
   have hc':s1.heap.objs.size≤c:=by
    have:c=s1.heap.objs.size+1∨c=s1.heap.objs.size:=by simpa using hc
    rcases this with e | e <;> (rw [e];first | exact al _ | exact Nat.le_add_right _ _)
   exact I1.fpOk hc' (I1.hok.fresh hc')
end
def wwt (J:It)(M:List Nat)(gg:TG)(te:TE)(σ:St)(H1:Hp)(Q:VK):Prop:=∀p,H1 p=none→∃W:Nat→Nat→List V→Hp→Prop,(∃m,W 0 m [] (upd H1 p (.lst []))) ∧
 ∀i m ys H2,W i m ys H2→H2 p=some (.lst ys)∧ys.length<sizeLine∧((J.stop i H2∧Q (.ref p) H2)∨(J.go i H2∧∀v H3,J.yld i H2 v H3 →
  gg v (Wp M σ none none) H3 λσ4 H4=>(∃a b,σ4=Wp M σ (some a) (some b))∧te σ4 H4 λy H5=>H5 p=some (.lst ys)∧∃m',m'<m∧W (i+1) m' (ys++[y]) (upd H5 p (.lst (ys++[y])))))
def tCompP (M:List Nat)(wi:TI)(gg:TG)(te:TE):TE:=λσ H Q=>wi σ H λJ H1=>wwt J M gg te σ H1 Q
section
variable {X:Cx}{elt iter tg:Expr}{x y2:Str}{pos:Pos}{scope:Scope}{cl:List (Str×Aj)}{M:List Nat}{wi:TI}{gg:TG}{te:TE}
theorem wvj (hc:X.calm=true)(hclos:closureFor scope X.env=pure cl)(hcap:CapAll X.env cl)(hhas:HasAll cl scope.names)(hix:CapIx X scope cl M)(hk:scope.kind=.function)
  (hnames:∀y∈scope.names,y.2=.local→scope.names.lookup y.1=some .local) (hg:∀C s2 H2 fp pn,PG (j0 X scope cl x y2 M C s2 H2 fp pn) tg gg) (hi:PI X tg iter wi)
  (he:∀C s2 H2 fp pn,PE (j0 X scope cl x y2 M C s2 H2 fp pn) elt te) (hs:∀z,foldedSetIterable iter X.env z=pure z)
  {use:Option (Ag→Sem Unit)} {QQ:Ag→Ab→Prop} {pins:List (Aj×Obj)} {s:Ab} {σ:St} {H:Hp} {Q:VK} {ps:Pos} (I:Inv X pins σ H s) (h:wi σ H λJ H1=>wwt J M gg te σ H1 Q)
  (fin:∀(C:Aj) (s2 s4:Ab) (H1 H2:Hp) (fp:List Aj),Inv X pins σ H1 s2→s2.heap.objs.size<C→(∀b∈fp,uq X pins H1 b)→Inv (j0 X scope cl x y2 M C s2 H1 fp (X.pn++pins)) [] (Wp M σ none none) H2 s4→Q (.ref s2.heap.objs.size) H2 →
   compPost (model X.prog X.w) X.A X.xe use QQ (.ref s2.heap.objs.size) C (.ok .next) s4) :
  wpAny (model X.prog X.w) X.A (comprehension (.ListComp elt [⟨tg,iter,[],0⟩] scope pos) scope X.env ps (newList []) false (eval iter X.env) use) QQ X.xe s:=by
 refine dF (use:=use) rfl hs hclos hk hnames ?_
 refine thn (hi pins s σ H _ I h) λv s1 h1=>thn h1 λitv s2 h2=>?_
 obtain ⟨it,fp,tn,J,H1,rfl,I2,T,t0,hfp,hR⟩:=h2
 have hob:∀b∈fp,∃o,s2.heap.get? b=some o∧∀v,o.data≠.cell v:=T.obj 0 _ t0
 obtain ⟨W,⟨m0,w0⟩,hW⟩:=hR s2.heap.objs.size (I2.hok.fresh (al _))
 refine cA ?_
 refine eE hhas.nocell (by intro y hy;cases hy) (λh3 hns hsb=>?_) hk
 dsimp only at hns hsb ⊢
 generalize hH2:s2.heap.push { cls:=.type "list",dict:=none,data:=.seq ([]:List Ag).toArray }=G2 at hns hsb ⊢
 have hC:G2.objs.size=s2.heap.objs.size+1:=by rw [←hH2,dO]
 have hlt:s2.heap.objs.size<G2.objs.size:=by lia
 have keep:∀b o,s2.heap.get? b=some o→h3.get? b=some o:=λb o e=>by
  have hb:b≠G2.objs.size:=az (bj (am e) hlt)
  rw [hsb.2 b hb]
  exact ag _ (hH2▸ag _ e)
 have hD:h3.get? s2.heap.objs.size=some { cls:=.type "list",data:=.seq #[] 0 }:=by
  rw [hsb.2 _ (az hlt)]
  exact ag _ (hH2▸aw _ rfl)
 have hns':h3.Ns G2.objs.size λ_=>none:=hns
 have J0:∀tk,Inv (j0 X scope cl x y2 M G2.objs.size s2 H1 fp (X.pn++pins)) [] (Wp M σ none none) (upd H1 s2.heap.objs.size (.lst [])) { s2 with heap:=h3,toks:=tk }:=λtk =>
  I2.comp2 hcap hhas hix hk hlt keep hns' hD hfp λb hb=>let ⟨o,e,_⟩:=hob b hb;⟨o,e⟩
 have hbl:∀b∈fp,b<s2.heap.objs.size:=λb hb=>let ⟨o,e,_⟩:=hob b hb;am e
 have fok:∀(H2:Hp),(∀b∈fp,H2 b=none)→∀b∈fp,uq (j0 X scope cl x y2 M G2.objs.size s2 H1 fp (X.pn++pins)) [] H2 b:=λH2 hn b hb=>by
  obtain ⟨q1,q2,q3,q4,q5,q6⟩:=hfp b hb
  refine ⟨hn b hb,az (bj (hbl b hb) hlt),λz=>?_,.inl hb,λy c e=>q5 y c (hcap.look e),λp hp=>q6 p ((bi.mp hp).elim (λz=>z) λz=>nomatch z)⟩
  rcases ae.mp (I2.stkSub b z) with z|z
  ·exact q2 z
  ·exact q3 z
 have loop:∀tk,codeAny (model X.prog X.w) X.A (.compLoop (.ListComp elt [⟨tg,iter,[],0⟩] scope pos) 0 (.ref it) (.ref s2.heap.objs.size) (compEnvC scope cl G2.objs.size X.env))
   (compPost (model X.prog X.w) X.A X.xe use QQ (.ref s2.heap.objs.size) G2.objs.size) { s2 with heap:=h3,toks:=tk }:=λtk=>by
  refine codeAny_loop rfl (λn s3=>∃i ys H2,W i n ys H2∧Inv (j0 X scope cl x y2 M G2.objs.size s2 H1 fp (X.pn++pins)) [] (Wp M σ none none) H2 s3∧tn i s3.heap∧∀b∈fp,H2 b=none) (λn s3 hI=>?_) m0
   ⟨0,[],_,w0,J0 tk,T.keep 0 _ _ t0 λb _ o e=>keep b o e,λb hb=>by rw [wf (az (hbl b hb))];exact (hfp b hb).1⟩
  obtain ⟨i,ys,H2,w,J2,t,nf2⟩:=hI
  show wpAny _ _ ((compTurn (.ListComp elt [⟨tg,iter,[],0⟩] scope pos) 0 (.ref it) (.ref s2.heap.objs.size) (compEnvC scope cl G2.objs.size X.env)).onRaise λz=>do noteFrame z (compEnvC scope cl G2.objs.size X.env);theTreesLotGoes z) _ _ s3
  refine wpAny_noted ?_
  rw [compTurn_list1]
  refine ac (cS (ac ?_))
  obtain ⟨hp,hz,hcase⟩:=hW i n ys H2 w
  rcases hcase with ⟨hst,hq⟩|⟨hgo,hy⟩
  ·refine ba (T.done (j0 X scope cl x y2 M G2.objs.size s2 H1 fp (X.pn++pins)) rfl rfl rfl hc i [] s3 _ H2 (λ_ _=>False) J2 (fok H2 nf2) t hst) (λr s4 hr=>?_) λ_ _ z=>z.elim
   obtain ⟨rfl,J4⟩:=hr
   refine ao ?_
   exact fin G2.objs.size s2 s4 H1 H2 fp I2 hlt hfp J4 hq
  ·refine ba (T.item (j0 X scope cl x y2 M G2.objs.size s2 H1 fp (X.pn++pins)) rfl rfl rfl hc i [] s3 _ H2 (λ_ _=>False) J2 (fok H2 nf2) t hgo) (λr s4 hr=>?_) λ_ _ z=>z.elim
   obtain ⟨u,rfl,hw⟩:=hr
   refine ac (ba hw (λ_ s5 hr5=>?_) λ_ _ z=>z.elim)
   obtain ⟨v,H3,J5,rv,yl,t5,nf⟩:=hr5
   have J5p:=J5.pinned (fok H3 nf) (T.obj _ _ t5)
   refine ac (ba (hg G2.objs.size s2 H1 fp (X.pn++pins) _ s5 _ H3 v u _ J5p rv (hy v H3 yl)) (λ_ s6 hr6=>?_) λ_ _ z=>z.elim)
   obtain ⟨σ6,H6,J6,⟨a6,b6,rfl⟩,hte⟩:=hr6
   refine ac (ac (ba (he _ _ _ _ _ _ s6 _ H6 _ J6 hte) (λyv s7 hr7=>?_) λ_ _ z=>z.elim))
   obtain ⟨y,H4,J7,ry,hp4,m',hm',w'⟩:=hr7
   refine ac (ba (yq (X:=j0 X scope cl x y2 M G2.objs.size s2 H1 fp (X.pn++pins)) _ s7 _ H4 (.ref s2.heap.objs.size) [y] (.ref s2.heap.objs.size) [yv] (λ_ H8=>H8=upd H4 s2.heap.objs.size (.lst (ys++[y]))) J7 rfl (.cons ry .nil) ⟨_,ys,y,rfl,rfl,hp4,hz,rfl⟩) (λ_ s8 hr8=>?_) λ_ _ z=>z.elim)
   obtain ⟨_,H8,J8,_,rfl⟩:=hr8
   refine ao (ao ⟨rfl,m',hm',i+1,ys++[y],_,w',?_,?_,?_⟩)
   ·refine (J8.unpinned (pins:=[])).weak rfl λk z ez=>?_
    match k,ez with
    |0,ez=>cases ez
    |1,ez=>cases ez
    |k+2,ez=>exact ez
   ·exact T.keep _ _ _ t5 λb hb o e=>(J8.pin (b,o) (aA _ (aA _ (yd hb e)))).1
   ·intro b hb
    obtain ⟨o,e,_⟩:=T.obj _ _ t5 b hb
    exact (J8.pin (b,o) (aA _ (aA _ (yd hb e)))).2.1
 exact codeAny_compStart_list (loop _) (T.self _ 0 _ _ _ (T.keep 0 _ _ t0 λb _ o e=>keep b o e) (loop _))
theorem wjw (hc:X.calm=true)(hclos:closureFor scope X.env=pure cl)(hcap:CapAll X.env cl)(hhas:HasAll cl scope.names)(hix:CapIx X scope cl M)(hk:scope.kind=.function)
  (hnames:∀y∈scope.names,y.2=.local→scope.names.lookup y.1=some .local) (hg:∀C s2 H2 fp pn,PG (j0 X scope cl x y2 M C s2 H2 fp pn) tg gg) (hi:PI X tg iter wi)
  (he:∀C s2 H2 fp pn,PE (j0 X scope cl x y2 M C s2 H2 fp pn) elt te) (hs:autoParam (∀z,foldedSetIterable iter X.env z=pure z) aU3._auto_1) :
  PE X (.ListComp elt [⟨tg,iter,[],0⟩] scope pos) (tCompP M wi gg te):=by
 intro pins s σ H Q I h
 rw [eval_ListComp]
 refine wvj hc hclos hcap hhas hix hk hnames hg hi he hs (use:=none) I h λC s2 s4 H1 H2 fp I2 hlt hfp J4 hq=>?_
 obtain ⟨m,hn,_⟩:=J4.loc
 exact ⟨m,hn,λh' hs'=>⟨.ref s2.heap.objs.size,H2,I2.uncomp2 (bH hlt) hfp J4 hs',rfl,hq⟩⟩
end
theorem xxt {X:Cx}{K:Aa}{pos:Pos}{es:List Expr}{k:Nat}{t:TGs}{n:Nat}(hK:X.K=K)(hc:X.calm=true)(h:PGs X es t)(h1:autoParam ((assignEach es X.env).length=n) aU4._auto_1)(h2:autoParam (List.findIdx? (λx=>x.fst) (assignEach es X.env)=none) aU4._auto_1):PG X (.Tuple es k pos) (gTup K n t):=by
 subst hK
 exact jy hc h h1 h2
end L2
namespace L2
open PySem PySem.Spec PyProof.Rows PySem.W
def Fz (H:Hp)(d:Aj)(o:Obj)(kvs:List (Key×V))(H':Hp):Prop:=H' d=some (.frz o (.dK kvs))∧∀b,b≠d→H' b=H b
section
variable {X:Cx}{pins:List (Aj×Obj)}{σ:St}{H:Hp}{s:Ab}{d:Aj}{kvs:List (Key×V)}
theorem Inv.freeze {o:Obj}(I:Inv X pins σ H s)(e:H d=some (.dK kvs))(ho:s.heap.get? d=some o):Inv X pins σ (upd H d (.frz o (.dK kvs))) s:=by
 obtain ⟨z,hd,vs,rel,dd⟩:=Yb I.hok e
 exact Inv.write (t':=s.toks) (h':=s.heap) I (by rw [e];exact trivial) (.inl rfl) (λ_ _ _ e=>e) ⟨o,ho⟩ ⟨ho,Q6 z hd rel dd⟩
theorem Q1 {o:Obj}(I:Inv X pins σ H s)(e:H d=some (.frz o (.dK kvs))):kvs.length≤sizeLine∧(d==sysModules)=false∧s.heap.get? d=some o∧∃vs es ep,KV kvs vs∧o.data=.dict es ep∧s.heap.DictAt (zv X.prog X.w) d vs ep:=by
 obtain ⟨ho,z,hd,vs,rel,dd⟩:=(show ObjOk X.prog X.w H s.heap d (.frz o (.dK kvs)) from I.hok d _ e)
 obtain ⟨o',es,ep,h1,h2,h3,h4⟩:=id dd
 have:o'=o:=av (h1.symm.trans ho)
 subst this
 exact ⟨z,hd,ho,vs,es,ep,rel,h3,o',es,h1,h2,h3,h4⟩
theorem Inv.freezeRd (I:Inv X pins σ H s)(e:Rd H d (.dK kvs)):∃o H',Fz H d o kvs H'∧Inv X pins σ H' s:=by
 rcases e with e|⟨o,e⟩
 ·obtain ⟨z,hd,vs,rel,o,es,ep,ho,r⟩:=Yb I.hok e
  exact ⟨o,_,⟨qc,λb nb=>wf nb⟩,I.freeze e ho⟩
 ·exact ⟨o,H,⟨e,λ_ _=>rfl⟩,I⟩
theorem wzr {P:Ac}{w:Ah}{k:Key}{u:Ag}(h:(zv P w).is k u=true):RelV (kV k) u:=by
 rcases v6 (show qxr k u=true from h) with ⟨i,t,rfl,rfl⟩|⟨x,t,rfl,rfl⟩
 ·exact ⟨t,rfl⟩
 ·exact ⟨t,rfl⟩
end
def ItD (d:Aj)(o:Obj)(kvs:List (Key×V)):It :=
 ⟨λi H=>H d=some (.frz o (.dK kvs))∧i<kvs.length,λi H v H'=>H'=H∧∃p,kvs[i]?=some p∧v=kV p.1,λi H=>H d=some (.frz o (.dK kvs))∧kvs.length≤i⟩
theorem qwc {kvs:List (Key×V)}{vs:List (Key×Ag)}(r:KV kvs vs){i:Nat}{p:Key×V}(e:kvs[i]?=some p):∃q,vs[i]?=some (p.1,q)∧RelV p.2 q:=by
 induction r generalizing i with
 |nil=>cases e
 |cons h t ih =>
  cases i with
  |zero =>
   cases e
   obtain ⟨h1,h2⟩:=h
   rename_i b _ _
   exact ⟨b.2,by show some b=some (_,b.2);rw [h1],h2⟩
  |succ i=>exact ih e
theorem xwh {P:Ac}{w:Ah}{K:Aa}{tg:Expr}{d it:Aj}{o:Obj}{kvs:List (Key×V)}{ep:Nat}(hep:∃es,o.data=.dict es ep):Turn P w K tg (ItD d o kvs) [it] it (λi h=>h.IsKeyIter it d i kvs.length ep) where
 mem:=by simp
 obj:=λi h st b hb=>by
  have e:b=it:=by simpa using hb
  subst e
  obtain ⟨ob,e,c,dd⟩:=st
  exact ⟨ob,e,λv z=>by rw [dd] at z;cases z⟩
 keep:=λi h h' st k=>st.at λob e=>k it (by simp) ob e
 item:=by
  intro X hP hw hK hc i pins s σ H E I hf st hg
  subst hP hw hK
  obtain ⟨hq,hi⟩:=hg
  obtain ⟨z,hd,ho,vs,es,ep',rel,h3,dd⟩:=Q1 I hq
  obtain ⟨es2,h4⟩:=hep
  have:ep'=ep:=by rw [h3] at h4;cases h4;rfl
  subst this
  have e1:kvs[i]?=some kvs[i]:=aj hi
  obtain ⟨q,eq,rq⟩:=qwc rel e1
  have hl:vs.length=kvs.length:=(bu rel).symm
  obtain ⟨f0,f1,f2,f3,f4,f5⟩:=hf it (by simp)
  refine wpAny_pyNext_dict_item (by rw [hl];exact st) dd eq λkey h' hk st' sb=>?_
  have I1:Inv X pins σ H { s with heap:=h' }:=I.turned (t':=s.toks) (λb o hb e=>(sb.2 b hb).trans e) f0 f1 f3 f4 f5
  rw [hl] at st'
  obtain ⟨ob,e,c,d'⟩:=id st'
  exact ⟨key,rfl,qv0 (s:={ s with heap:=h' }) e c d' ⋯ ⟨_,H,I1,wzr hk,⟨rfl,_,e1,rfl⟩,st',λb hb=>(hf b hb).1⟩⟩
 done:=by
  intro X hP hw hK hc i pins s σ H E I hf st hg
  subst hP hw hK
  obtain ⟨hq,hi⟩:=hg
  obtain ⟨z,hd,ho,vs,es,ep',rel,h3,dd⟩:=Q1 I hq
  obtain ⟨es2,h4⟩:=hep
  have:ep'=ep:=by rw [h3] at h4;cases h4;rfl
  subst this
  have hl:vs.length=kvs.length:=(bu rel).symm
  obtain ⟨f0,f1,f2,f3,f4,f5⟩:=hf it (by simp)
  exact wpAny_pyNext_dict_end (I.ok.hd hc) (by rw [hl];exact st) dd (br ⋯) λh' eb=>⟨rfl,I.turned (t':=s.toks) (λb o hb e=>eb b o hb e) f0 f1 f3 f4 f5⟩
 self:=λ_ _ _ _ _ st h=>wpAny_pyIter_keyiter st h
def ItDI (d:Aj)(o:Obj)(kvs:List (Key×V)):It :=
 ⟨λi H=>H d=some (.frz o (.dK kvs))∧i<kvs.length,λi H v H'=>∃q p,H q=none∧v=.ref q∧kvs[i]?=some p∧H'=upd H q (.tup [kV p.1,p.2]),λi H=>H d=some (.frz o (.dK kvs))∧kvs.length≤i⟩
theorem xww {P:Ac}{w:Ah}{K:Aa}{xs:List Expr}{k:Nat}{pos:Pos}{d it:Aj}{o:Obj}{kvs:List (Key×V)}{ep:Nat}(hep:∃es,o.data=.dict es ep):Turn P w K (.Tuple xs k pos) (ItDI d o kvs) [it] it (λi h=>∃ok ov,IsItemIter h it d i kvs.length ep ok ov) where
 mem:=by simp
 obj:=λi h st b hb=>by
  have e:b=it:=by simpa using hb
  subst e
  obtain ⟨ok,ov,e⟩:=st
  exact ⟨_,e,λv z=>by cases z⟩
 keep:=λi h h' st k=>by
  obtain ⟨ok,ov,e⟩:=st
  exact ⟨ok,ov,k it (by simp) _ e⟩
 item:=by
  intro X hP hw hK hc i pins s σ H E I hf st hg
  subst hP hw hK
  obtain ⟨hq,hi⟩:=hg
  obtain ⟨z,hd,ho,vs,es,ep',rel,h3,dd⟩:=Q1 I hq
  obtain ⟨es2,h4⟩:=hep
  have:ep'=ep:=by rw [h3] at h4;cases h4;rfl
  subst this
  have e1:kvs[i]?=some kvs[i]:=aj hi
  obtain ⟨q,eq,rq⟩:=qwc rel e1
  have hl:vs.length=kvs.length:=(bu rel).symm
  obtain ⟨ok,ov,st⟩:=st
  refine wpAny_pyNext_items_item (by rw [hl];exact st) dd eq λkey h' hk g1 g2 g3 g4=>?_
  refine ⟨_,rfl,wpAny_letOwnedTupleGo_items (s:={ s with heap:=h' }) g1 λh'' j1 j2=>?_⟩
  have ne:it≠s.heap.objs.size:=az (am st)
  have new:h''.get? s.heap.objs.size=some { cls:=.type "tuple",data:=.seq #[key,q] }:=(j2.2 _ (aV ne)).trans g2
  refine ⟨.ref s.heap.objs.size,_,Inv.turnedT (s:=s) (ch:=[it]) (tk:=s.toks) I (λb u nb e=>?_) new hf (λb hb=>?_) (wx3 I (wzr hk) rq) rfl,rfl,⟨_,_,I.hok.fresh (al _),rfl,e1,rfl⟩,⟨_,_,by rw [←hl];exact j1⟩,λb hb=>?_⟩
  ·have nb:b≠it:=by simpa using nb
   exact (j2.2 b nb).trans (g4 b u nb e)
  ·have e:b=it:=by simpa using hb
   rw [e];exact ne
  ·have e:b=it:=by simpa using hb
   rw [e,wf ne];exact (hf it (by simp)).1
 done:=by
  intro X hP hw hK hc i pins s σ H E I hf st hg
  subst hP hw hK
  obtain ⟨hq,hi⟩:=hg
  obtain ⟨z,hd,ho,vs,es,ep',rel,h3,dd⟩:=Q1 I hq
  obtain ⟨es2,h4⟩:=hep
  have:ep'=ep:=by rw [h3] at h4;cases h4;rfl
  subst this
  have hl:vs.length=kvs.length:=(bu rel).symm
  obtain ⟨f0,f1,f2,f3,f4,f5⟩:=hf it (by simp)
  obtain ⟨ok,ov,st⟩:=st
  exact wpAny_pyNext_items_end (I.ok.hd hc) (by rw [hl];exact st) dd (br ⋯) λh' eb=>⟨rfl,I.turned (t':=s.toks) (λb o hb e=>eb b o hb e) f0 f1 f3 f4 f5⟩
 self:=λ_ _ _ _ _ st h=>by
  obtain ⟨ok,ov,e⟩:=st
  exact kcp_self e h
section
variable {X:Cx}{tg l:Expr}{tl:TE}
def iDk (tl:TE):TI:=λσ H R=>tl σ H λx H1=>∃d kvs,x=.ref d∧Rd H1 d (.dK kvs)∧∀o H2,Fz H1 d o kvs H2→R (ItD d o kvs) H2
theorem wj9 (hl:PE X l tl):PI X tg l (iDk tl):=by
 intro pins s σ H R I h
 refine thn (hl pins s σ H _ I h) λv s1 ⟨x,H1,I1,r1,q1⟩=>?_
 obtain ⟨d,kvs,e,rd,q⟩:=q1
 subst e
 cases r1
 obtain ⟨o,H2,fz,I2⟩:=I1.freezeRd rd
 obtain ⟨z,hd,ho,vs,es,ep,rel,h3,dd⟩:=Q1 I2 fz.1
 have hl:vs.length=kvs.length:=(bu rel).symm
 refine wpAny_pyIter_dict hd dd ?_
 refine ⟨s1.heap.objs.size,[s1.heap.objs.size],_,_,H2,rfl,I2.kept (t':=s1.toks) λb o e=>ag _ e,xwh ⟨es,h3⟩,⟨_,aw _ rfl,rfl,by rw [hl];rfl⟩,λb hb=>?_,q o H2 fz⟩
 have e:b=s1.heap.objs.size:=by simpa using hb
 subst e
 exact I2.fpOk (al _) (I2.hok.fresh (al _))
def iDi (tl:TE):TI:=λσ H R=>tl σ H λx H1=>∃d kvs,x=.ref d∧Rd H1 d (.dK kvs)∧∀o H2,Fz H1 d o kvs H2→R (ItDI d o kvs) H2
theorem pi_di {apos cpos tpos:Pos}{xs:List Expr}{k:Nat}(hl:PE X l tl)(hbase:autoParam (attributeBase l "items" X.env (eval l X.env)=eval l X.env) aU4._auto_1)(hline:autoParam ((apos.endLine==cpos.line)=true) aU4._auto_1) :
  PI X (.Tuple xs k tpos) (.Call (.Attribute l "items" apos) [] [] cpos) (iDi tl):=by
 intro pins s σ H R I h
 refine cW hbase hline (thn (hl pins s σ H _ I h) λv s1 ⟨x,H1,I1,r1,q1⟩=>?_)
 obtain ⟨d,kvs,e,rd,q⟩:=q1
 subst e
 cases r1
 obtain ⟨o,H2,fz,I2⟩:=I1.freezeRd rd
 obtain ⟨t1,t2,_⟩:=Zc I1 (.inl ⟨kvs,rd⟩)
 obtain ⟨z,hd,ho,vs,es,ep,rel,h3,dd⟩:=Q1 I2 fz.1
 have hl:vs.length=kvs.length:=(bu rel).symm
 refine ⟨"dict","dict.items",bL,fF,PySem.F.type_dict_items,t1,t2,bB rfl (dC ?_)⟩
 refine cu fF t1 PySem.F.entry_dict_items (PySem.F.args_dict_items_1 _) (meets_dict_items (zv X.prog X.w) d hd) ⟨⟨vs,dd.dictOf⟩,?_⟩
 have I3:Inv X pins σ H2 { s1 with heap:=s1.heap.push { cls:=.type "dict_items",data:=.fields #[.ref d] } }:=I2.kept (t':=s1.toks) λb o e=>ag _ e
 refine wpAny_pyIter_items (s:={ s1 with heap:=s1.heap.push { cls:=.type "dict_items",data:=.fields #[.ref d] } }) ⟨_,aw _ rfl,rfl,rfl⟩ (dd.push _) ?_
 refine ⟨_,[_],_,_,H2,rfl,I3.kept (t':=s1.toks) λb o e=>ag _ e,xww ⟨es,h3⟩,⟨.none,.none,?_⟩,λb hb=>?_,q o H2 fz⟩
 ·rw [hl]
  exact aw _ rfl
 ·have e:=aq.mp hb
  subst e
  exact I3.fpOk (al _) (I3.hok.fresh (al _))
def ItS (x:Str):It:=⟨λi _=>i<x.cps.size,λi H v H'=>H'=H∧v=.str ⟨#[x.cps.getD i 0]⟩,λi _=>x.cps.size≤i⟩
theorem wk1 {P:Ac}{w:Ah}{K:Aa}{it:Aj}{x:Str}{t:Tok}:Turn P w K tg (ItS x) [it] it (λi h=>h.IsStrIter it "str_ascii_iterator" x t i) where
 mem:=by simp
 obj:=λi h st b hb=>by
  have e:b=it:=by simpa using hb
  subst e
  obtain ⟨ob,e,c,dd⟩:=st
  exact ⟨ob,e,λv z=>by rw [dd] at z;cases z⟩
 keep:=λi h h' st k=>by
  obtain ⟨ob,e,r⟩:=st
  exact ⟨ob,k it (by simp) ob e,r⟩
 item:=by
  intro X hP hw hK hc i pins s σ H E I hf st hg
  subst hP hw hK
  have hg:i<x.cps.size:=hg
  obtain ⟨f0,f1,f2,f3,f4,f5⟩:=hf it (by simp)
  refine wpAny_pyNext_ascii_item st (c:=x.cps.getD i 0) (by rw [eS,ce hg];rfl) λh' st' sb=>?_
  have I1:Inv X pins σ H { s with heap:=h',toks:=s.toks+1 }:=I.turned (t':=s.toks+1) (λb o hb e=>(sb.2 b hb).trans e) f0 f1 f3 f4 f5
  obtain ⟨ob,e,c,d'⟩:=id st'
  exact ⟨_,rfl,qv0 (s:={ s with heap:=h',toks:=s.toks+1 }) e c d' ⋯ ⟨.str ⟨#[x.cps.getD i 0]⟩,H,I1,⟨_,rfl⟩,⟨rfl,rfl⟩,st',λb hb=>(hf b hb).1⟩⟩
 done:=by
  intro X hP hw hK hc i pins s σ H E I hf st hg
  subst hP hw hK
  obtain ⟨f0,f1,f2,f3,f4,f5⟩:=hf it (by simp)
  exact wpAny_pyNext_ascii_end (I.ok.hd hc) st (cG hg) λh' eb=>⟨rfl,I.turned (t':=s.toks) (λb o hb e=>eb b o hb e) f0 f1 f3 f4 f5⟩
 self:=λ_ _ _ _ _ st h=>wpAny_pyIter_striter_ascii st h
theorem wvc {P:Ac}{w:Ah}{K:Aa}{it:Aj}{x:Str}{t:Tok}:Turn P w K tg (ItS x) [it] it (λi h=>h.IsStrIter it "str_iterator" x t i) where
 mem:=by simp
 obj:=λi h st b hb=>by
  have e:b=it:=by simpa using hb
  subst e
  obtain ⟨ob,e,c,dd⟩:=st
  exact ⟨ob,e,λv z=>by rw [dd] at z;cases z⟩
 keep:=λi h h' st k=>by
  obtain ⟨ob,e,r⟩:=st
  exact ⟨ob,k it (by simp) ob e,r⟩
 item:=by
  intro X hP hw hK hc i pins s σ H E I hf st hg
  subst hP hw hK
  have hg:i<x.cps.size:=hg
  obtain ⟨f0,f1,f2,f3,f4,f5⟩:=hf it (by simp)
  refine wpAny_pyNext_wide_item st (c:=x.cps.getD i 0) (by rw [eS,ce hg];rfl) λh' st' sb=>?_
  have I1:Inv X pins σ H { s with heap:=h',toks:=s.toks+1 }:=I.turned (t':=s.toks+1) (λb o hb e=>(sb.2 b hb).trans e) f0 f1 f3 f4 f5
  obtain ⟨ob,e,c,d'⟩:=id st'
  exact ⟨_,rfl,qv0 (s:={ s with heap:=h',toks:=s.toks+1 }) e c d' ⋯ ⟨.str ⟨#[x.cps.getD i 0]⟩,H,I1,⟨_,rfl⟩,⟨rfl,rfl⟩,st',λb hb=>(hf b hb).1⟩⟩
 done:=by
  intro X hP hw hK hc i pins s σ H E I hf st hg
  subst hP hw hK
  obtain ⟨f0,f1,f2,f3,f4,f5⟩:=hf it (by simp)
  exact wpAny_pyNext_wide_end (I.ok.hd hc) st (cG hg) λh' eb=>⟨rfl,I.turned (t':=s.toks) (λb o hb e=>eb b o hb e) f0 f1 f3 f4 f5⟩
 self:=λ_ _ _ _ _ st h=>wpAny_pyIter_striter_wide st h
def iStr (tl:TE):TI:=λσ H R=>tl σ H λv H1=>∃x,v=.str x∧R (ItS x) H1
theorem wup (hl:PE X l tl):PI X tg l (iStr tl):=by
 intro pins s σ H R I h
 refine thn (hl pins s σ H _ I h) λv s1 ⟨v',H1,I1,r1,x,e,q⟩=>?_
 subst e
 obtain ⟨t,rfl⟩:=(show ∃t,v=Value.str x t from r1)
 cases ha:x.cps.all (·<128)
 ·refine wpAny_pyIter_wide ha ⟨s1.heap.objs.size,[s1.heap.objs.size],_,_,H1,rfl,I1.kept (t':=s1.toks) λb o e=>ag _ e,wvc (t:=t),⟨_,aw _ rfl,rfl,rfl⟩,λb hb=>?_,q⟩
  have e:=aq.mp hb
  subst e
  exact I1.fpOk (al _) (I1.hok.fresh (al _))
 ·refine wpAny_pyIter_ascii ha ⟨s1.heap.objs.size,[s1.heap.objs.size],_,_,H1,rfl,I1.kept (t':=s1.toks) λb o e=>ag _ e,wk1 (t:=t),⟨_,aw _ rfl,rfl,rfl⟩,λb hb=>?_,q⟩
  have e:=aq.mp hb
  subst e
  exact I1.fpOk (al _) (I1.hok.fresh (al _))
end
end L2
namespace L2
open PySem
def advN (t:SetTable):Nat→SetTable.Probe→SetTable.Probe
 |0,p=>p
 |n+1,p=>advN t n (t.advance p)
def rs (mask:Nat)(q:Nat×Nat):SetTable.Probe:={ j:=q.1,more:=SetTable.runEnd mask q.1-q.1,i:=q.1,perturb:=q.2,dummy:=none }
theorem qk9:∀(l l':List Nat),l.Nodup→(∀a∈l,a∈l')→l.length≤l'.length
 |[],_,_,_=>aD _
 |a::l,l',hn,hs=>by
  have hn':=aY.mp hn
  have ha:=hs a (.head _)
  have:=qk9 l (l'.erase a) hn'.2 λb hb=>(List.mem_erase_of_ne (λz=>by subst z;exact hn'.1 hb)).mpr (hs b (.tail _ hb))
  rw [fj,ak ha] at this
  have hp:0<l'.length:=dX ha
  rw [aO]
  lia
inductive MetOk (t:SetTable) (p:SetTable.Probe) (N:Nat):SetTable.Met→Prop
 |empty (j:Nat):MetOk t p N (.empty j none)
 |cand (m i:Nat) (hm:m<N) (hs:t.slot (advN t m p).j=.live i):MetOk t p N (.candidate (advN t m p).j i (advN t (m+1) p))
def liveL (mask:Nat)(owner:Array (Option Nat)):List (Nat×Nat):=(List.range (mask+1)).filterMap λj=>(owner.getD j none).map (j,·)
structure OwnI (mask:Nat)(owner:Array (Option Nat))(k:Nat):Prop where
 size:owner.size=mask+1
 len:(liveL mask owner).length=k
 low:∀j v:Nat,owner[j]?=some (some v)→v<k
end L2
namespace L2
open PySem PySem.Spec PyProof.Rows
def Rows (q:Aj)(B:Hp)(L:List (List V))(ys:List V)(H:Hp):Prop:=Paired (λv xs=>∃a,v=.ref a∧a≠q∧B a=none∧H a=some (.lst xs)) ys L
theorem xy {H H':Hp}(s:Same H H'){a:Aj}(n:H' a=none):H a=none:=by
 cases e:H a with
 |none=>rfl
 |some o=>rw [s _ _ e] at n;cases n
def Zq (c:Nat→Bool)(xs:List V)(n:Nat):List V:=((List.range n).filter c).map λi=>xs.getD i .non
theorem qzz {K:Aa}{M:List Nat}{a:Aj}{xs:List V}{tt:TT}{te:TE}{σ:St}{H:Hp}{Q:VK}(c:Nat→Bool)(hS:SqL K H a xs)(hn:xs.length≤1000000)
  (ht:∀(i:Nat) (x:V) (H':Hp) (R:Bool→Hp→Prop),xs[i]?=some x→Same H H'→(∀H'',Same H' H''→R (c i) H'')→tt (jk M σ (some x)) H' R)
  (he:∀(i:Nat) (x:V) (H':Hp) (R:VK),xs[i]?=some x→c i=true→Same H H'→(∀H'',Same H' H''→R x H'')→te (jk M σ (some x)) H' R)
  (k:∀p H',H p=none→Same H H'→H' p=some (.lst (Zq c xs xs.length))→Q (.ref p) H'):qyh (Itl K a) M tt te σ H Q:=by
 intro p np
 refine ⟨λi m ys H2=>i≤xs.length∧m=xs.length-i∧ys=Zq c xs i∧Same H H2∧H2 p=some (.lst ys),⟨xs.length,aD _,rfl,rfl,Same.upd np,qc⟩,?_⟩
 rintro i m ys H2 ⟨hi,rfl,rfl,sm,hp⟩
 refine ⟨hp,?_,?_⟩
 ·unfold Zq
  rw [aa]
  have:=bG c (List.range i)
  rw [aM] at this
  have:(1000000:Nat)<sizeLine:=by decide
  lia
 ·by_cases hlt:i<xs.length
  ·have hx:xs[i]?=some xs[i]:=aj hlt
   refine .inr ⟨⟨xs,_,sm.sql hS,hx⟩,?_⟩
   rintro v H3 ⟨rfl,hv⟩
   have e:=av (hx.symm.trans (hv xs (sm.sql hS)))
   subst e
   refine ht i _ _ _ hx sm λH4 s4=>?_
   have hp4:=s4 _ _ hp
   have hg:xs.getD i .non=xs[i]:=by rw [ar,hx];rfl
   cases hc:c i with
   |true =>
    refine jj ?_
    refine he i _ _ _ hx hc (sm.trans s4) λH5 s5=>⟨s5 _ _ hp4,xs.length-(i+1),⋯,⋯,rfl,?_,λb o e=>?_,qc⟩
    ·unfold Zq
     rw [cb,cL,bg]
     simp only [bQ,hc,fJ,List.filter_nil,aC,bI,hg]
    ·rw [wf (qh e np)]
     exact s5 _ _ (s4 _ _ (sm _ _ e))
   |false =>
    refine vg ?_
    refine ⟨hp4,xs.length-(i+1),⋯,⋯,rfl,?_,sm.trans s4,hp4⟩
    unfold Zq
    rw [cb,cL,bg]
    simp only [bQ,hc,cK,dP,List.filter_nil,bI,cP]
  ·have:i=xs.length:=by lia
   subst this
   exact .inl ⟨⟨xs,sm.sql hS,al _⟩,k p H2 np sm hp⟩
end L2
namespace L2
open PySem PySem.Spec PyProof.Rows
def Bef (a:Array Ai)(p q:Nat):Prop:=K a p<K a q∨(K a p=K a q∧p<q)
structure From (a xs:Array Ai)(k:Nat)(ix:Nat→Nat):Prop where
 at_:∀i,xs[i]?=a[ix i]?
 rest:∀i,k≤i→ix i=i
 low:∀i,i<k→ix i<k
theorem From.key {a xs:Array Ai}{k:Nat}{ix:Nat→Nat}(f:From a xs k ix)(i:Nat):K xs i=K a (ix i):=K_congr (f.at_ i)
theorem From.more {a xs:Array Ai}{k:Nat}{ix:Nat→Nat}(f:From a xs k ix):From a xs (k+1) ix :=
 ⟨f.at_,λi h=>f.rest i ⋯,λi h=>by
  by_cases e:i<k
  ·have:=f.low i e;lia
  ·have:=f.rest i ⋯;lia⟩
theorem From.mirror {a xs:Array Ai}{k b:Nat}{ix:Nat→Nat}(f:From a xs k ix)(hk:k≤xs.size):From a (mirror xs b k ((k-b)/2)) k (λi=>if b≤i∧i<k then ix (b+k-1-i) else ix i):=by
 refine ⟨λi=>?_,λi h=>?_,λi h=>?_⟩
 ·rw [getElem?_mirror_all hk]
  by_cases c:b≤i∧i<k
  ·simp only [ak c]
   exact f.at_ _
  ·simp only [ai c]
   exact f.at_ _
 ·simp only [ai (show ¬ (b≤i∧i<k) by lia)]
  exact f.rest i h
 ·by_cases c:b≤i∧i<k
  ·simp only [ak c]
   exact f.low _ ⋯
  ·simp only [ai c]
   exact f.low i h
def Up (a xs:Array Ai)(k:Nat):Prop:=∃ix,From a xs k ix∧∀i j,i<j→j<k→Bef a (ix i) (ix j)
def Dr (a xs:Array Ai)(k:Nat):Prop:=∃ix,From a xs k ix∧∀i j,i<j→j<k→Bef a (ix j) (ix i)
def Dn (a xs:Array Ai)(k e:Nat):Prop:=e+1≤k∧∃ix,From a xs k ix∧(∀i j,i<j→j<k-(e+1)→Bef a (ix j) (ix i))∧(∀i j,i<k-(e+1)→k-(e+1)≤j→j<k→K a (ix j)<K a (ix i)) ∧
 ∀i j,k-(e+1)≤i→i<j→j<k→K a (ix i)=K a (ix j)∧ix i<ix j
section
variable {a xs:Array Ai}{k e:Nat}
theorem Up.le (h:Up a xs k){i j:Nat}(hij:i≤j)(hj:j<k):K xs i≤K xs j:=by
 obtain ⟨ix,f,o⟩:=h
 rw [f.key,f.key]
 by_cases c:i=j
 ·subst c;exact fV _
 ·rcases o i j ⋯ hj with h|h <;> lia
theorem Up.grow (h:Up a xs k)(hk:1≤k)(hn:¬ K xs k<K xs (k-1)):Up a xs (k+1):=by
 obtain ⟨ix,f,o⟩:=h
 rw [f.key,f.key,f.rest k (al _)] at hn
 refine ⟨ix,f.more,λi j hij hj=>?_⟩
 by_cases c:j<k
 ·exact o i j hij c
 ·obtain rfl:j=k:=by lia
  have hl:=f.low i hij
  rw [f.rest j (al _)]
  unfold Bef
  by_cases c2:i=j-1
  ·subst c2;lia
  ·rcases o i (j-1) ⋯ ⋯ with h|h <;> lia
theorem Dr.up (h:Dr a xs k)(hk:k≤xs.size):Up a (mirror xs 0 k ((k-0)/2)) k:=by
 obtain ⟨ix,f,o⟩:=h
 refine ⟨_,f.mirror hk,λi j hij hj=>?_⟩
 simp only [ak (show 0≤i∧i<k by lia),ak (show 0≤j∧j<k by lia)]
 exact o _ _ ⋯ ⋯
theorem Dn.flat (h:Dn a xs k 0):Dr a xs k:=by
 obtain ⟨h0,ix,f,o1,o2,o3⟩:=h
 refine ⟨ix,f,λi j hij hj=>?_⟩
 by_cases c:j<k-(0+1)
 ·exact o1 i j hij c
 ·exact .inl (o2 i j ⋯ ⋯ hj)
theorem Dn.turn (h:Dn a xs k e)(hk:k≤xs.size):Dr a (mirror xs (k-(e+1)) k ((k-(k-(e+1)))/2)) k:=by
 obtain ⟨h0,ix,f,o1,o2,o3⟩:=h
 refine ⟨_,f.mirror hk,λi j hij hj=>?_⟩
 by_cases c1:k-(e+1)≤i
 ·simp only [ak (show k-(e+1)≤i∧i<k by lia),ak (show k-(e+1)≤j∧j<k by lia)]
  exact .inr (o3 _ _ ⋯ ⋯ ⋯)
 ·simp only [ai (show ¬ (k-(e+1)≤i∧i<k) by lia)]
  by_cases c2:k-(e+1)≤j
  ·simp only [ak (show k-(e+1)≤j∧j<k by lia)]
   exact .inl (o2 _ _ ⋯ ⋯ ⋯)
  ·simp only [ai (show ¬ (k-(e+1)≤j∧j<k) by lia)]
   exact o1 i j hij ⋯
theorem Dr.grow (h:Dr a xs k)(hk:1≤k)(hn:K xs k<K xs (k-1)):Dn a xs (k+1) 0:=by
 obtain ⟨ix,f,o⟩:=h
 rw [f.key,f.key,f.rest k (al _)] at hn
 refine ⟨⋯,ix,f.more,λi j hij hj=>o i j hij ⋯,λi j hi h1 h2=>?_,λi j h1 h2 h3=>by lia⟩
 obtain rfl:j=k:=by lia
 rw [f.rest j (al _)]
 by_cases c:i=j-1
 ·subst c;exact hn
 ·rcases o i (j-1) ⋯ ⋯ with h|h <;> lia
theorem Dn.grow (h:Dn a xs k e)(h1:¬ K xs k<K xs (k-1))(h2:¬ K xs (k-1)<K xs k):Dn a xs (k+1) (e+1):=by
 obtain ⟨h0,ix,f,o1,o2,o3⟩:=h
 rw [f.key,f.key,f.rest k (al _)] at h1 h2
 have hk1:k+1-(e+1+1)=k-(e+1):=by lia
 refine ⟨⋯,ix,f.more,?_,?_,?_⟩
 ·rw [hk1];exact o1
 ·rw [hk1]
  intro i j hi hj1 hj2
  by_cases c:j<k
  ·exact o2 i j hi hj1 c
  ·obtain rfl:j=k:=by lia
   rw [f.rest j (al _)]
   have:=o2 i (j-1) hi ⋯ ⋯
   lia
 ·rw [hk1]
  intro i j hi hij hj
  by_cases c:j<k
  ·exact o3 i j hi hij c
  ·obtain rfl:j=k:=by lia
   rw [f.rest j (al _)]
   refine ⟨?_,f.low i hij⟩
   by_cases c2:i=j-1
   ·subst c2;lia
   ·have:=(o3 i (j-1) hi ⋯ ⋯).1
    lia
theorem Up.even (h:Up a xs k)(hk:1≤k)(hz:k≤xs.size)(hr:¬ K xs 0<K xs (k-1)):Dr a (mirror xs 0 k ((k-0)/2)) k:=by
 have hle:=@Up.le a xs k h
 obtain ⟨ix,f,o⟩:=h
 have hall:∀i,i<k→K a (ix i)=K a (ix 0):=λi hi=>by
  have e1:=hle (i:=0) (j:=i) ⋯ hi
  have e2:=hle (i:=i) (j:=k-1) ⋯ ⋯
  rw [f.key,f.key] at e1 e2 hr
  lia
 refine ⟨_,f.mirror hz,λi j hij hj=>?_⟩
 simp only [ak (show 0≤i∧i<k by lia),ak (show 0≤j∧j<k by lia)]
 have e1:=hall (0+k-1-i) ⋯
 have e2:=hall (0+k-1-j) ⋯
 rcases o (0+k-1-j) (0+k-1-i) ⋯ ⋯ with h|h
 ·exact .inl h
 ·exact .inr h
theorem Up.put (h:Up a xs k)(hk:k<xs.size){l:Nat}(hl:l≤k)(h1:∀i,i<l→K xs i≤K xs k)(h2:∀i,l≤i→i<k→K xs k<K xs i):Up a (bubble xs k (k-l)) (k+1):=by
 obtain ⟨ix,f,o⟩:=h
 have hkk:k-(k-l)=l:=by lia
 have hr:=f.rest k (al _)
 refine ⟨λi=>if i=l then k else if l<i∧i≤k then ix (i-1) else ix i,⟨λi=>?_,λi hi=>?_,λi hi=>?_⟩,λi j hij hj=>?_⟩
 ·rw [getElem?_bubble hk _ ⋯,hkk]
  by_cases c:i=l
  ·simp only [ak c]
   rw [f.at_,hr]
  ·simp only [ai c]
   by_cases c2:l<i∧i≤k
   ·simp only [ak c2]
    exact f.at_ _
   ·simp only [ai c2]
    exact f.at_ _
 ·simp only [ai (show ¬ i=l by lia),ai (show ¬ (l<i∧i≤k) by lia)]
  exact f.rest i ⋯
 ·by_cases c:i=l
  ·simp only [ak c];lia
  ·simp only [ai c]
   by_cases c2:l<i∧i≤k
   ·simp only [ak c2]
    have:=f.low (i-1) ⋯
    lia
   ·simp only [ai c2]
    have:=f.low i ⋯
    lia
 ·have key:∀i,i<k→(i<l→K a (ix i)≤K a k)∧(l≤i→K a k<K a (ix i)):=λi hi=>by
   refine ⟨λc=>?_,λc=>?_⟩
   ·have:=h1 i c
    rw [f.key,f.key,hr] at this
    exact this
   ·have:=h2 i c hi
    rw [f.key,f.key,hr] at this
    exact this
  by_cases ci:i=l
  ·simp only [ak ci,ai (show ¬ j=l by lia),ak (show l<j∧j≤k by lia)]
   exact .inl ((key (j-1) ⋯).2 ⋯)
  ·by_cases cj:j=l
   ·simp only [ai ci,ak cj,ai (show ¬ (l<i∧i≤k) by lia)]
    have a1:=(key i ⋯).1 ⋯
    have a2:=f.low i ⋯
    unfold Bef
    lia
   ·simp only [ai ci,ai cj]
    by_cases c3:l<i
    ·simp only [ak (show l<i∧i≤k by lia),ak (show l<j∧j≤k by lia)]
     exact o _ _ ⋯ ⋯
    ·simp only [ai (show ¬ (l<i∧i≤k) by lia)]
     by_cases c4:l<j
     ·simp only [ak (show l<j∧j≤k by lia)]
      exact o _ _ ⋯ ⋯
     ·simp only [ai (show ¬ (l<j∧j≤k) by lia)]
      exact o _ _ hij ⋯
end
section
variable {prog:Ac}{w:Ah}{A:Ae}{E:Ag→Ab→Prop}{s:Ab}{a₀:Array Ai}
end
end L2
namespace L2
open PySem PySem.Spec PyProof.Rows
theorem qkz:∀(n:Nat) (l:List Nat),l.Nodup→(∀x∈l,x<n)→l.length≤n
 |0,l,_,h=>by
  cases l with
  |nil=>exact al _
  |cons x l=>exact absurd (h x (ay ..)) (eM _)
 |n+1,l,hn,h=>by
  have a1:=qkz n (l.erase n) (hn.erase n) λx hx=>by
   have hm:=List.mem_of_mem_erase hx
   have:=h x hm
   by_cases e:x=n
   ·subst e
    exact absurd hx (hn.not_mem_erase)
   ·lia
  have a2:l.length≤(l.erase n).length+1:=by
   rw [fj]
   split <;> lia
  lia
theorem qkb:∀(n:Nat) (l:List Nat),l.Nodup→(∀x∈l,x<n)→l.length=n→l.Perm (List.range n)
 |0,l,_,_,e=>by rw [cC.mp e];exact List.Perm.refl _
 |n+1,l,hn,h,e=>by
  have hm:n∈l:=by
   apply cf
   intro c
   have:=qkz n l hn λx hx=>by
    have:=h x hx
    by_cases e:x=n
    ·subst e;exact absurd hx c
    ·lia
   lia
  have a1:=qkb n (l.erase n) (hn.erase n) (λx hx=>by
   have:=h x (List.mem_of_mem_erase hx)
   by_cases e:x=n
   ·subst e;exact absurd hx hn.not_mem_erase
   ·lia) (by rw [fj,ak (by simpa using hm)];lia)
  rw [cb]
  exact (List.perm_cons_erase hm).trans ((a1.cons n).trans (List.perm_append_comm (l₁:=[n])))
theorem Up.places {a xs:Array Ai}(h:Up a xs a.size)(hz:xs.size=a.size):∃il:List Nat,il.Perm (List.range a.size)∧il.Pairwise (Bef a)∧xs.toList=il.map λi=>a.getD i (.none,.none):=by
 obtain ⟨ix,f,o⟩:=h
 have pw:((List.range a.size).map ix).Pairwise (Bef a):=by
  rw [bJ]
  refine cv (R:=(·<·)) (λ{i j} hi hj hij=>?_) dY
  exact o i j hij (aW.mp hj)
 refine ⟨(List.range a.size).map ix,qkb _ _ ?_ ?_ (by rw [aa,aM]),pw,?_⟩
 ·refine pw.imp λ{i j} h e=>?_
  subst e
  unfold Bef at h
  lia
 ·intro x hx
  obtain ⟨i,hi,rfl⟩:=ax.mp hx
  exact f.low i (aW.mp hi)
 ·refine fk λi=>?_
  rw [bK,aE,ck,f.at_]
  by_cases c:i<a.size
  ·rw [cV c]
   have:=f.low i c
   simp [Array.getD,this]
  ·rw [f.rest i ⋯,cG ⋯,br (by rw [aM];lia)]
   rfl
end L2
namespace L2
open PySem PySem.Spec PySem.W PyProof.Rows
section
variable {n:Nat}{im:Nat→Ai}{kz:Nat→Int}{ask:Nat→Nat→(Bool→Ab→Prop)→Ab→Prop}{s:Ab}
def Gd (n:Nat)(p:Array Nat):Prop:=p.Perm (List.toArray (List.range n))
theorem Gd.size {p:Array Nat}(h:Gd n p):p.size=n:=by
 have:=Array.Perm.size_eq h
 simpa using this
theorem Gd.lt {p:Array Nat}(h:Gd n p){i:Nat}(hi:i<n):p.getD i 0<n:=by
 have hs:=h.size
 have m:p[i]'⋯∈p:=Array.getElem_mem _
 have:=(Array.Perm.mem_iff h).mp m
 have e:p.getD i 0=p[i]'⋯:=by simp [Array.getD,hs,hi]
 rw [e]
 simpa using this
theorem Gd.rev {p:Array Nat}(h:Gd n p)(i j:Nat):Gd n (kas_rev p i j):=(mirror_perm _ _ _ _).trans h
theorem Gd.bub {p:Array Nat}(h:Gd n p)(i j:Nat):Gd n (bubble p i j):=(bubble_perm _ _ _).trans h
def ixA (n:Nat)(im:Nat→Ai):Array Ai:=(List.toArray (List.range n)).map im
theorem qwq (p:Array Nat)(i j:Nat):(kas_rev p i j).map im=mirror (p.map im) i j ((j-i)/2):=by
 unfold kas_rev mirror
 exact (kas_swaps_map im _ _ _ p).symm
theorem xxy (p:Array Nat)(i j:Nat):(bubble p i j).map im=bubble (p.map im) i j:=by
 unfold bubble
 exact (kas_swaps_map im _ _ _ p).symm
def KyI (im:Nat→Ai)(kz:Nat→Int):Prop:=∀(p:Array Nat) i,i<p.size→K (p.map im) i=kz (p.getD i 0)
def qx1 (n:Nat)(kz:Nat→Int)(ask:Nat→Nat→(Bool→Ab→Prop)→Ab→Prop)(s:Ab):Prop:=∀i j C,i<n→j<n→C (decide (kz i<kz j)) s→ask i j C s
theorem qwg {p:Array Nat}{i j:Nat}{C:Bool→Ab→Prop}(ha:qx1 n kz ask s)(hk:KyI im kz)(g:Gd n p)(hi:i<n)(hj:j<n)
  (h1:K (p.map im) i<K (p.map im) j→C true s) (h2:¬ K (p.map im) i<K (p.map im) j→C false s):ask (p.getD i 0) (p.getD j 0) C s:=by
 refine ha _ _ _ (g.lt hi) (g.lt hj) ?_
 rw [hk p i (by rw [g.size];exact hi),hk p j (by rw [g.size];exact hj)] at h1 h2
 by_cases c:kz (p.getD i 0)<kz (p.getD j 0)
 ·simp only [c,decide_true];exact h1 c
 ·simp only [c,decide_false];exact h2 c
theorem ww0 {p:Array Nat}{e:Nat}{Q:Nat→Ab→Prop}(ha:qx1 n kz ask s)(hk:KyI im kz)(g:Gd n p)(he:e≤n):∀(f b:Nat),1≤b→b+f=e→Up (ixA n im) (p.map im) b →
  (∀m,b≤m→m≤e→Up (ixA n im) (p.map im) m→(m=e∨K (p.map im) m<K (p.map im) (m-1))→Q m s)→(kas_asc p f b).kasWp ask Q s
 |0,b,_,hb,u,h=>h b (al _) ⋯ u (.inl ⋯)
 |f+1,b,h1,hb,u,h=>by
  refine qwg ha hk g ⋯ ⋯ (λc=>?_) λc=>?_
  ·exact h b (al _) ⋯ u (.inr c)
  ·exact ww0 ha hk g he f (b+1) ⋯ ⋯ (u.grow h1 c) λm a1 a2 a3 a4=>h m ⋯ a2 a3 a4
theorem wz6 {p:Array Nat}{k e:Nat}{Q:Nat×Array Nat→Ab→Prop}(ha:qx1 n kz ask s)(hk:KyI im kz)(g:Gd n p)(he:e≤n)(h1:1≤k)(hke:k≤e)(d:Dr (ixA n im) (p.map im) k)
  (h:∀m q,Gd n q→1≤m→m≤e→Up (ixA n im) (q.map im) m→Q (m,q) s):(kas_tail3 k e p).kasWp ask Q s:=by
 unfold kas_tail3
 rw [KasT.kasWp_bind]
 refine ww0 ha hk (g.rev 0 k) he (e-k) k h1 ⋯ ?_ λm a1 a2 a3 _=>h m _ (g.rev 0 k) ⋯ a2 a3
 rw [qwq]
 exact d.up (by rw [dn,g.size];lia)
theorem qq2 {e:Nat}{Q:Array Nat×Nat×Nat→Ab→Prop}(ha:qx1 n kz ask s)(hk:KyI im kz)(he:e≤n):∀(f:Nat) (p:Array Nat) (x q:Nat),Gd n p→x+f=e→Dn (ixA n im) (p.map im) x q →
  (∀m r p',Gd n p'→x≤m→m≤e→Dn (ixA n im) (p'.map im) m r→Q (p',m,r) s)→(kas_desc f p x q).kasWp ask Q s
 |0,p,x,q,g,hx,d,h=>h x q p g (al _) ⋯ d
 |f+1,p,x,q,g,hx,d,h=>by
  have hx1:1≤x:=by have:=d.1;lia
  have hz:x≤(p.map im).size:=by rw [dn,g.size];lia
  refine qwg ha hk g ⋯ ⋯ (λc=>?_) λc=>?_
  ·show KasT.kasWp ask (if q>0 then kas_desc f (kas_rev p (x-(q+1)) x) (x+1) 0 else kas_desc f p (x+1) 0) Q s
   by_cases c2:q>0
   ·rw [ak c2]
    refine qq2 ha hk he f _ (x+1) 0 (g.rev _ _) ⋯ ?_ λm r p' a1 a2 a3 a4=>h m r p' a1 ⋯ a3 a4
    rw [qwq]
    refine (d.turn hz).grow hx1 ?_
    rw [K_mirror hz,K_mirror hz,ai ⋯,ak (by have:=d.1;lia)]
    obtain ⟨hq,ix,f',_,_,o3⟩:=id d
    by_cases c3:x-(q+1)+x-1-(x-1)=x-1
    ·rw [c3];exact c
    ·have:=(o3 (x-(q+1)+x-1-(x-1)) (x-1) ⋯ ⋯ ⋯).1
     rw [←f'.key,←f'.key] at this
     lia
   ·rw [ai c2]
    obtain rfl:q=0:=by lia
    exact qq2 ha hk he f p (x+1) 0 g ⋯ (d.flat.grow hx1 c) λm r p' a1 a2 a3 a4=>h m r p' a1 ⋯ a3 a4
  ·refine qwg ha hk g ⋯ ⋯ (λc2=>?_) λc2=>?_
   ·exact h x q p g (al _) ⋯ d
   ·exact qq2 ha hk he f p (x+1) (q+1) g ⋯ (d.grow c c2) λm r p' a1 a2 a3 a4=>h m r p' a1 ⋯ a3 a4
theorem wx6 {p:Array Nat}{k e:Nat}{Q:Nat×Array Nat→Ab→Prop}(ha:qx1 n kz ask s)(hk:KyI im kz)(g:Gd n p)(he:e≤n)(hke:k+1≤e)(d:Dn (ixA n im) (p.map im) (k+1) 0)
  (h:∀m q,Gd n q→1≤m→m≤e→Up (ixA n im) (q.map im) m→Q (m,q) s):(kas_descPart k e p).kasWp ask Q s:=by
 unfold kas_descPart
 rw [KasT.kasWp_bind]
 refine qq2 ha hk he (e-(k+1)) p (k+1) 0 g ⋯ d λm r p' g' a1 a2 d'=>?_
 have hz:m≤(p'.map im).size:=by rw [dn,g'.size];lia
 dsimp only
 by_cases c:r>0
 ·rw [ak c]
  refine wz6 ha hk (g'.rev _ _) he ⋯ a2 ?_ h
  rw [qwq]
  exact d'.turn hz
 ·rw [ai c]
  obtain rfl:r=0:=by lia
  exact wz6 ha hk g' he ⋯ a2 d'.flat h
theorem xqv {e:Nat}{Q:Nat×Array Nat→Ab→Prop}(ha:qx1 n kz ask s)(hk:KyI im kz)(he:e≤n)(h1:1≤e)
  (h:∀m q,Gd n q→1≤m→m≤e→Up (ixA n im) (q.map im) m→Q (m,q) s):(kas_count e (List.toArray (List.range n))).kasWp ask Q s:=by
 have g:Gd n (List.toArray (List.range n)):=Array.Perm.refl _
 have u1:Up (ixA n im) ((List.toArray (List.range n)).map im) 1:=⟨id,⟨λi=>rfl,λi _=>rfl,λi z=>z⟩,λi j a b=>by lia⟩
 unfold kas_count
 rw [KasT.kasWp_bind]
 refine ww0 ha hk g he (e-1) 1 (al _) ⋯ u1 λm m1 m2 u hor=>?_
 have hz:m≤((List.toArray (List.range n)).map im).size:=by rw [dn,g.size];lia
 by_cases c:m=e
 ·rw [ak (dH.mpr c)]
  exact h m _ g m1 m2 u
 ·have hlt:=hor.resolve_left c
  rw [ai (λz=>c (dH.mp z))]
  by_cases c2:m>1
  ·rw [ak c2]
   refine qwg ha hk g ⋯ ⋯ (λc3=>?_) λc3=>?_
   ·exact h m _ g m1 m2 u
   ·refine wx6 ha hk (g.rev 0 m) he ⋯ ?_ h
    rw [qwq]
    refine (u.even m1 hz c3).grow m1 ?_
    rw [K_mirror hz,K_mirror hz,ai ⋯,ak ⋯]
    have e1:=u.le (i:=0) (j:=0+m-1-(m-1)) ⋯ ⋯
    have e2:=u.le (i:=0+m-1-(m-1)) (j:=m-1) ⋯ ⋯
    lia
  ·rw [ai c2]
   obtain rfl:m=1:=by lia
   obtain ⟨ix,f,o⟩:=u
   exact wx6 ha hk g he ⋯ (Dr.grow ⟨ix,f,λi j a b=>by lia⟩ ⋯ hlt) h
theorem qws {p:Array Nat}{k:Nat}{Q:Nat→Ab→Prop}(ha:qx1 n kz ask s)(hk:KyI im kz)(g:Gd n p)(hkn:k<n)(u:Up (ixA n im) (p.map im) k)
  (h:∀l,l≤k→(∀i,i<l→K (p.map im) i≤K (p.map im) k)→(∀i,l≤i→i<k→K (p.map im) k<K (p.map im) i)→Q l s):∀(f l r:Nat),l≤r→r≤k→r-l≤f→(∀i,i<l→K (p.map im) i≤K (p.map im) k)→(∀i,r≤i→i<k→K (p.map im) k<K (p.map im) i) →
  (kas_place p k f l r).kasWp ask Q s
 |0,l,r,a1,a2,a3,a4,a5=>by
  obtain rfl:l=r:=by lia
  exact h l a2 a4 a5
 |f+1,l,r,a1,a2,a3,a4,a5=>by
  unfold kas_place
  by_cases c1:l≥r
  ·rw [ak c1]
   obtain rfl:l=r:=by lia
   exact h l a2 a4 a5
  ·rw [ai c1]
   refine qwg ha hk g ⋯ ⋯ (λc2=>?_) λc2=>?_
   ·exact qws ha hk g hkn u h f l ((l+r)/2) ⋯ ⋯ ⋯ a4 λi z1 z2=>by have:=u.le z1 z2;lia
   ·exact qws ha hk g hkn u h f ((l+r)/2+1) r ⋯ ⋯ ⋯ (λi z=>by have:=u.le (i:=i) (j:=(l+r)/2) ⋯ ⋯;lia) a5
theorem wjb {Q:Array Nat→Ab→Prop}(ha:qx1 n kz ask s)(hk:KyI im kz)(h:∀q,Gd n q→Up (ixA n im) (q.map im) n→Q q s):∀(f:Nat) (p:Array Nat) (k:Nat),Gd n p→1≤k→k+f=n→Up (ixA n im) (p.map im) k →
  (kas_bin f p k).kasWp ask Q s
 |0,p,k,g,_,e,u=>by
  obtain rfl:k=n:=by lia
  exact h p g u
 |f+1,p,k,g,k1,e,u=>by
  unfold kas_bin
  rw [KasT.kasWp_bind]
  refine qws ha hk g ⋯ u (λl a2 a4 a5=>?_) k 0 k (aD _) (al _) ⋯ (λi z=>by lia) λi z1 z2=>by lia
  refine wjb ha hk h f _ (k+1) (g.bub _ _) ⋯ ⋯ ?_
  rw [xxy]
  exact u.put (by rw [dn,g.size];lia) a2 a4 a5
theorem xw4 {Q:Array Nat→Ab→Prop}(ha:qx1 n kz ask s)(hk:KyI im kz)(h1:1≤n)(h:∀q,Gd n q→Up (ixA n im) (q.map im) n→Q q s):(kas_sort n).kasWp ask Q s:=by
 unfold kas_sort
 rw [KasT.kasWp_bind]
 refine xqv ha hk (al _) h1 λm q g m1 m2 u=>?_
 dsimp only
 have em:max m 1=m:=by lia
 by_cases c:m<n
 ·rw [ak c,em]
  exact wjb ha hk h (n-m) q m g m1 ⋯ u
 ·rw [ai c]
  obtain rfl:m=n:=by lia
  exact h q g u
def imI (kz:Nat→Int)(t:Tok)(i:Nat):Ai:=(.int (kz i) t,.int (i:Int) t)
theorem imI_ky (kz:Nat→Int)(t:Tok):KyI (imI kz t) kz:=λp i hi=>by
 unfold K
 simp [hi,imI,numOf,Array.getD]
theorem tr_out {t:Tok}{Q:Array Nat→Ab→Prop}(ha:qx1 n kz ask s)(h1:1≤n)
  (h:∀il:List Nat,il.Perm (List.range n)→il.Pairwise (λi j=>kz i<kz j∨(kz i=kz j∧i<j))→Q il.toArray s):(kas_sort n).kasWp ask Q s:=by
 refine xw4 ha (imI_ky kz t) h1 λq g u=>?_
 have hz:(ixA n (imI kz t)).size=n:=by simp [ixA]
 have hzq:(q.map (imI kz t)).size=(ixA n (imI kz t)).size:=by rw [hz,dn,g.size]
 obtain ⟨il,p,o,e⟩:=Up.places (by rw [hz];exact u) hzq
 rw [hz] at p
 have hin:∀i∈il,i<n:=λi hi=>aW.mp (p.mem_iff.mp hi)
 have at_:∀i,i<n→(ixA n (imI kz t)).getD i (.none,.none)=imI kz t i:=λi hi=>by
  simp [ixA,Array.getD,hi]
 have ky:∀i,i<n→K (ixA n (imI kz t)) i=kz i:=λi hi=>by
  unfold K
  simp [ixA,hi,imI,numOf]
 have e2:q.toList.map (imI kz t)=il.map (imI kz t):=by
  rw [←Array.toList_map,e]
  exact cF λi hi=>at_ i (hin i hi)
 have inj:∀i j,imI kz t i=imI kz t j→i=j:=λi j e=>by
  simp only [imI,Prod.mk.injEq,Value.int.injEq] at e
  lia
 have e3:q.toList=il:=(List.map_inj_right (λi j e=>inj i j e)).mp e2
 have e4:q=il.toArray:=by rw [←e3]
 rw [e4]
 exact h il p (o.imp_of_mem λ{i j} hi hj hb=>by
  unfold Bef at hb
  rw [ky i (hin i hi),ky j (hin j hj)] at hb
  exact hb)
end
end L2
namespace L2
open PySem PySem.Spec PySem.Calls PySem.W PyProof.Rows
section
variable {prog:Ac}{w:Ah}{A:Ae}{E:Ag→Ab→Prop}{s:Ab}
theorem Zk {h:Heap}{a:Aj}{vs:List Ag}{k:Nat}(ho:h.get? a=some (seqObj "list" vs.toArray k))(out:Array Ag):∃e,(sortedHeap h a vs out).get? a=some (seqObj "list" out e):=by
 obtain ⟨e1,ho1⟩:∃e1,(h.update a (Obj.mapSeq λ_=>(#[]:Array Ag))).get? a=some (seqObj "list" #[] e1):=⟨_,get?_update_seq ho λ_=>#[]⟩
 exact ⟨_,get?_update_seq (ag _ (ag _ ho1)) λ_=>out⟩
theorem Wz {h:Heap}{a b:Aj}{vs:List Ag}{o:Obj}(e:h.get? b=some o)(hb:b≠a)(out:Array Ag):(sortedHeap h a vs out).get? b=some o:=by
 unfold sortedHeap
 rw [eP _ _ _ _ hb]
 refine ag _ (ag _ ?_)
 rw [eP _ _ _ _ hb]
 exact e
end
section
variable {X:Cx}
end
end L2
namespace L2
open PySem PySem.Spec PySem.Calls PySem.W PyProof.Rows
def kzS (ss:List Str)(x:Str):Int:=((ss.filter λy=>decide (y.cps.toList<x.cps.toList)).length:Nat)
theorem wjy {ss:List Str}{x y:Str}(h:¬ y.cps.toList<x.cps.toList):kzS ss x≤kzS ss y:=by
 unfold kzS
 have:(ss.filter λz=>decide (z.cps.toList<x.cps.toList)).length≤(ss.filter λz=>decide (z.cps.toList<y.cps.toList)).length:=by
  refine (List.Sublist.length_le ?_)
  have e:(ss.filter λz=>decide (z.cps.toList<x.cps.toList))=(ss.filter λz=>decide (z.cps.toList<y.cps.toList)).filter λz=>decide (z.cps.toList<x.cps.toList):=by
   rw [List.filter_filter]
   refine List.filter_congr λz _=>?_
   by_cases c:z.cps.toList<x.cps.toList
   ·have:z.cps.toList<y.cps.toList:=by
     apply cf
     intro n
     exact absurd c (List.not_lt.mpr (List.le_trans (List.not_lt.mp h) (List.not_lt.mp n)))
    simp [c,this]
   ·simp [c]
  rw [e]
  exact List.filter_sublist
 lia
theorem wuv {ss:List Str}{x y:Str}(hx:x∈ss)(h:x.cps.toList<y.cps.toList):kzS ss x<kzS ss y:=by
 unfold kzS
 have sub:(ss.filter λz=>decide (z.cps.toList<x.cps.toList)).length<(ss.filter λz=>decide (z.cps.toList<y.cps.toList)).length:=by
  have e:(ss.filter λz=>decide (z.cps.toList<x.cps.toList))=(ss.filter λz=>decide (z.cps.toList<y.cps.toList)).filter λz=>decide (z.cps.toList<x.cps.toList):=by
   rw [List.filter_filter]
   refine List.filter_congr λz _=>?_
   by_cases c:z.cps.toList<x.cps.toList
   ·have:z.cps.toList<y.cps.toList:=List.lt_trans c h
    simp [c,this]
   ·simp [c]
  rw [e]
  have mem:x∈ss.filter λz=>decide (z.cps.toList<y.cps.toList):=bz.mpr ⟨hx,aX h⟩
  refine Nat.lt_of_le_of_ne (bG _ _) λz=>?_
  have:=(List.length_filter_eq_length_iff).mp z x mem
  exact List.lt_irrefl _ (bT this)
 lia
theorem xwn {ss:List Str}{x y:Str}(hx:x∈ss):kzS ss x<kzS ss y↔x.cps.toList<y.cps.toList:=by
 constructor
 ·intro h
  apply cf
  intro n
  have:=wjy (ss:=ss) n
  lia
 ·exact wuv hx
section
variable {prog:Ac}{w:Ah}{A:Ae}{E:Ag→Ab→Prop}{s:Ab}
def StrsR (vs:List Ag)(ss:List Str):Prop:=Paired (λv x=>∃t,v=Value.str x t) vs ss
theorem StrsR.at {vs:List Ag}{ss:List Str}(h:StrsR vs ss):∀ {i:Nat},i<ss.length→∃x t,ss[i]?=some x∧vs.getD i Value.none=Value.str x t:=by
 induction h with
 |nil=>intro i hi;exact absurd hi (eM _)
 |@cons a b l m hd tl ih =>
  intro i hi
  cases i with
  |zero=>obtain ⟨t,rfl⟩:=hd;exact ⟨b,t,rfl,rfl⟩
  |succ i=>exact ih (i:=i) (by simpa using hi)
theorem StrsR.mem {vs:List Ag}{ss:List Str}(h:StrsR vs ss):∀v∈vs,∃x t,v=Value.str x t:=by
 induction h with
 |nil=>intro v hv;cases hv
 |@cons a b l m hd tl ih =>
  intro v hv
  rcases ae.mp hv with rfl|hv
  ·obtain ⟨t,e⟩:=hd;exact ⟨b,t,e⟩
  ·exact ih v hv
theorem qzk {a:Aj}{vs:List Ag}{k:Nat}{ss:List Str}{P:PySem.Fin→Ab→Prop}(ho:s.heap.get? a=some (seqObj "list" vs.toArray k))(h64:vs.length<64)(t:StrsR vs ss)
  (h:∀il:List Nat,il.Perm (List.range vs.length)→il.Pairwise (λi j=>¬ (ss.getD j Str.empty).cps.toList<(ss.getD i Str.empty).cps.toList)→P (.done (.ret .none)) { s with heap:=sortedHeap s.heap a vs (il.map λi=>vs.getD i Value.none).toArray }) :
  wpAny (model prog w) A (Builtin.«list.sort» ⟨[.ref a],[]⟩) P E s:=by
 have hkl:vs.length=ss.length:=bu t
 have ha:a<s.heap.objs.size:=am ho
 obtain ⟨e1,ho1⟩:∃e1,(s.heap.update a (Obj.mapSeq λ_=>(#[]:Array Ag))).get? a=some (seqObj "list" #[] e1):=⟨_,get?_update_seq ho λ_=>#[]⟩
 have sz:(1000001:Nat)<sizeLine:=by decide
 rw [list_sort_plain]
 refine ac (listItems_at ho rfl ?_)
 refine ac (listUpdate_at ho rfl ?_ (by rw [aF];lia) (aD _))
 refine ac (seqEpoch_at ho1 rfl ?_)
 refine ac (wpAny_newTuple ?_ (by show vs.length≤_;lia))
 refine ac (fu ?_ (aD _))
 refine cn ?_
 show wpAny (model prog w) A _ P E { s with heap:=((s.heap.update a (Obj.mapSeq λ_=>(#[]:Array Ag))).push (seqObj "tuple" vs.toArray 0)).push (seqObj "list" #[] 0) }
 have ho6:(((s.heap.update a (Obj.mapSeq λ_=>(#[]:Array Ag))).push (seqObj "tuple" vs.toArray 0)).push (seqObj "list" #[] 0)).get? a=some (seqObj "list" #[] e1):=ag _ (ag _ ho1)
 have fin:∀(h':Heap) (il:List Nat),h'=((s.heap.update a (Obj.mapSeq λ_=>(#[]:Array Ag))).push (seqObj "tuple" vs.toArray 0)).push (seqObj "list" #[] 0)→il.Perm (List.range vs.length)→il.Pairwise (λi j=>¬ (ss.getD j Str.empty).cps.toList<(ss.getD i Str.empty).cps.toList)→P (.done (.ret .none)) { s with heap:=h'.update a (Obj.mapSeq λ_=>(il.map λi=>vs.getD i Value.none).toArray) }:=λh' il e a1 a2=>by
  subst e
  exact h il a1 a2
 generalize ((s.heap.update a (Obj.mapSeq λ_=>(#[]:Array Ag))).push (seqObj "tuple" vs.toArray 0)).push (seqObj "list" #[] 0)=h6' at ho6 fin ⊢
 have fin:=λil=>fin h6' il rfl
 dsimp only
 by_cases h2:vs.toArray.size<2
 ·rw [ak h2,ak h2]
  refine ac (ao ?_)
  rw [StateT.run_pure]
  refine ac (ao ?_)
  dsimp only
  have h2':vs.length<2:=by simpa using h2
  have e:(arrOf (SortSt.mk' general' (vs.toArray.zip vs.toArray) #[] 7 none)).map (·.2)=((List.range vs.length).map λi=>vs.getD i Value.none).toArray:=by
   show (vs.toArray.zip vs.toArray).map (·.2)=_
   match vs,h2' with
   |[],_=>simp
   |[v],_=>simp
   |_::_::_,h2=>simp at h2;lia
  rw [e]
  refine ac (seqEpoch_at ho6 rfl ?_)
  refine ac (listUpdate_at ho6 rfl ?_ (aD _) (by rw [aF,aa,aM];lia))
  simp only [bne_self_eq_false,cK,dP]
  refine ao (fin (List.range vs.length) (.refl _) ?_)
  rcases (by lia:vs.length=0∨vs.length=1) with z|z
  ·rw [z];exact .nil
  ·rw [z];exact fG _ _
 ·rw [ai h2,ai h2]
  have hv2:2≤vs.length:=by simpa using h2
  refine ac (kas_kind (T:=.type "str") hv2 (λv hv=>?_) rfl rfl ?_)
  ·obtain ⟨x,tk,rfl⟩:=t.mem v hv
   exact Looks.of_pure rfl
  let kz:Nat→Int:=λi=>kzS ss (ss.getD i Str.empty)
  have gd:∀ {i x},ss[i]?=some x→ss.getD i Str.empty=x:=λe=>by rw [ar,e];rfl
  have ask:qx1 vs.length kz (kas_ask prog w A oneType' vs) { s with heap:=h6' }:=λi j C hi hj hC=>by
   obtain ⟨x,tx,ex,vx⟩:=t.at (i:=i) ⋯
   obtain ⟨y,ty,ey,vy⟩:=t.at (i:=j) ⋯
   unfold kas_ask
   rw [vx,vy]
   refine kas_lt_str ?_
   have e:decide (kz i<kz j)=decide (x.cps.toList<y.cps.toList):=by
    rw [cO,dZ,dZ]
    show kzS ss (ss.getD i Str.empty)<kzS ss (ss.getD j Str.empty)↔_
    rw [gd ex,gd ey]
    exact xwn (aL ex)
   rw [←e]
   exact hC
  have tree:(kas_sort vs.length).kasWp (kas_cmp prog w A oneType' (pairsOf vs)) (λp s'=>s'={ s with heap:=h6' }∧p.toList.Perm (List.range vs.length)∧p.toList.Pairwise (λi j=>¬ (ss.getD j Str.empty).cps.toList<(ss.getD i Str.empty).cps.toList)) { s with heap:=h6' }:=by
   rw [←kas_ask_eq]
   refine tr_out (t:=0) ask ⋯ λil pm up=>⟨rfl,pm,up.imp_of_mem λ{i j} hi hj hb n=>?_⟩
   have hj:=aW.mp (pm.mem_iff.mp hj)
   obtain ⟨y,ty,ey,vy⟩:=t.at (i:=j) ⋯
   have:kz j<kz i:=by
    show kzS ss (ss.getD j Str.empty)<kzS ss (ss.getD i Str.empty)
    rw [gd ey] at n ⊢
    exact wuv (aL ey) n
   lia
  have est:SortSt.mk' oneType' (vs.toArray.zip vs.toArray) #[] 7 none=kas_st oneType' (pairsOf vs) (List.toArray (List.range vs.length)):=by
   have e:=kas_range (pairsOf vs)
   rw [pairsOf_size] at e
   show SortSt.mk' oneType' (pairsOf vs) #[] 7 none=SortSt.mk' oneType' ((List.toArray (List.range vs.length)).map (kas_item (pairsOf vs))) #[] 7 none
   rw [e]
  have run:=kas_runs (E:=E) (Q:=λ_ st' s'=>∃p:Array Nat,p.size=vs.length∧arrOf st'=p.map (kas_item (pairsOf vs))∧failedOf st'=none∧s'={ s with heap:=h6' }∧p.toList.Perm (List.range vs.length)∧p.toList.Pairwise (λi j=>¬ (ss.getD j Str.empty).cps.toList<(ss.getD i Str.empty).cps.toList))
   hv2 h64 (λp' st' s' a1 a2 a3 a4=>⟨p',a1,a2,a3,a4⟩) tree
  rw [←est] at run
  refine ac (ba run ?_ λ_ _ e=>e)
  rintro ⟨⟨⟩,st'⟩ s' ⟨p,hp,har,hf,rfl,pm,up⟩
  dsimp only
  have hout:(arrOf st').map (·.2)=List.toArray (p.toList.map λi=>vs.getD i Value.none):=by
   apply Array.toList_inj.mp
   rw [har,Array.map_map,Array.toList_map]
   exact cF λi _=>by show (kas_item (pairsOf vs) i).2=_;rw [kas_item_eq]
  rw [hout]
  refine ac (seqEpoch_at ho6 rfl ?_)
  refine ac (listUpdate_at ho6 rfl ?_ (aD _) (by rw [aF,aa,bq];lia))
  rw [hf]
  simp only [bne_self_eq_false,cK,dP]
  exact ao (fin p.toList pm up)
theorem qjr {d:Aj}{vs:List (Key×Ag)}{ep:Nat}{Q:List Ag→Ab→Prop}(hh:A.handled=none)(lo:(d==sysModules)=false)(dd:s.heap.DictAt (zv prog w) d vs ep)(hn:vs.length≤sizeLine)
  (h:∀h' tk (qs:List Ag),(∀b o,s.heap.get? b=some o→h'.get? b=some o)→qs.length=vs.length→(∀(i:Nat) v,qs[i]?=some v→∃k x,vs[i]?=some (k,x)∧(zv prog w).is k v=true)→s.heap.objs.size≤h'.objs.size→Q qs { s with heap:=h',toks:=tk }):wpAny (model prog w) A (collect (.ref d)) Q E s:=by
 have hS:d<s.heap.objs.size:=dd.lt_size
 have R:(s.heap.push (seqObj "list" #[] 0)).DictAt (zv prog w) d vs ep:=dd.push _
 have run:codeAny (model prog w) A (.builtin "proto.collect" ⟨[.ref d],[]⟩) (λr s'=>r=.ok (.ret (.ref s.heap.objs.size))∧∃h' tk acc' c',s'={ s with heap:=h',toks:=tk }∧(∀b o,b≠s.heap.objs.size→(s.heap.push (seqObj "list" #[] 0)).get? b=some o→h'.get? b=some o) ∧
   h'.get? s.heap.objs.size=some { cls:=.type "list",dict:=none,data:=.seq acc' c',slots:=#[] }∧ItemsOf (λi v=>∃k x,vs[i]?=some (k,x)∧(zv prog w).is k v=true) acc' vs.length) s:=by
  refine codeAny_builtin entry_proto_collect' ?_
  show wpAny _ _ (do again (.builtin "list.__iadd__" ⟨[←newList [],.ref d],[]⟩)) _ _ s
  (refine ac (fu (ao ⟨Code.quiet_builtin _ (by decide +kernel),codeAny_builtin entry_list_iadd' ?_⟩)) ;rw [Around.under_plainId (show plainId "list.__iadd__" = true by decide +kernel) _])
  show wpAny _ _ (Builtin.List.listExtendWith (.ref s.heap.objs.size) (.ref d) (.ref s.heap.objs.size)) _ _ _
  exact kdl_extend (s:={ s with heap:=s.heap.push (seqObj "list" #[] 0) }) (R:=λr s'=>r=.ok (.ret (.ref s.heap.objs.size))∧∃h' tk acc' c',s'={ s with heap:=h',toks:=tk }∧(∀b o,b≠s.heap.objs.size→(s.heap.push (seqObj "list" #[] 0)).get? b=some o→h'.get? b=some o) ∧
   h'.get? s.heap.objs.size=some { cls:=.type "list",dict:=none,data:=.seq acc' c',slots:=#[] }∧ItemsOf (λi v=>∃k x,vs[i]?=some (k,x)∧(zv prog w).is k v=true) acc' vs.length) (kdl_dict lo) (by simpa using hh) R s.heap.objs.size (eQ hS) (eQ hS) (.ref s.heap.objs.size) 0 (aw _ rfl) (λh' tk acc' c' hk hS' hacc=>⟨rfl,h',tk,acc',c',rfl,hk,hS',hacc⟩) hn
 unfold collect
 refine ac (wpAny_runValue (dQ run λr s' hr=>?_))
 obtain ⟨rfl,h',tk,acc',c',rfl,hk,hS',hacc⟩:=hr
 dsimp only
 refine ac (wpAny_load hS' ?_)
 refine ao ?_
 refine h h' tk _ (λb o e=>hk b o (az (am e)) (ag _ e)) (by rw [bq];exact hacc.1) (λi v e=>hacc.2 i v (by rw [←ck];exact e)) ?_
 exact bH (am hS')
end
section
variable {X:Cx}
theorem u9 (hc:X.calm=true):j4 X (.builtin "sorted") (λxs H Q=>∃(d:Aj) (kvs:List (Key×V)) (ss:List Str),xs=[.ref d]∧Rd H d (.dK kvs)∧kvs.map (·.1)=ss.map Sum.inr∧kvs.length<64 ∧
  ∀(l:Aj) (ms:List Str),H l=none→ms.Perm ss→ms.Pairwise (λx y=>¬ y.cps.toList<x.cps.toList)→Q (.ref l) (upd H l (.lst (ms.map V.str)))):=by
 intro pins s σ H xs us Q I r h
 obtain ⟨d,kvs,ss,rfl,hd,hk,hn,q⟩:=h
 obtain ⟨u,rfl,ru⟩:=uh r
 cases (show u=Value.ref d from ru)
 have sz:(100001:Nat)<sizeLine:=by decide
 obtain ⟨z,lo,vs,rel,dd⟩:=Q7 I.hok hd
 obtain ⟨ep,dd⟩:=dd.dictAt
 have hl:vs.length=kvs.length:=(bu rel).symm
 have hls:kvs.length=ss.length:=by have:=bC List.length hk;simpa using this
 refine dA kind_sorted plain_sorted entry_sorted (args_sorted1 _) ?_
 unfold Builtin.«sorted»
 refine ac (m:=checkCount "sorted" 1 1 _) (ao ?_)
 refine ac (qjr (by simpa using I.ok.hd hc) lo dd ⋯ λh' tk qs hk' hlq hq hz=>?_)
 refine ac (fu ?_ ⋯)
 have hoL:(h'.push (seqObj "list" qs.toArray 0)).get? h'.objs.size=some (seqObj "list" qs.toArray 0):=aw _ rfl
 have tS:StrsR qs ss:=by
  have key:∀(qs:List Ag) (ss:List Str),qs.length=ss.length→(∀(i:Nat) v,qs[i]?=some v→∃x t,ss[i]?=some x∧v=Value.str x t)→StrsR qs ss:=by
   intro qs
   induction qs with
   |nil =>
    intro ss e _
    cases ss with
    |nil=>exact .nil
    |cons _ _=>simp at e
   |cons v qs ih =>
    intro ss e hh
    cases ss with
    |nil=>simp at e
    |cons x ss =>
     obtain ⟨x',t,e1,e2⟩:=hh 0 v rfl
     cases e1
     exact .cons ⟨t,e2⟩ (ih ss (by simpa using e) λi v ev=>hh (i+1) v ev)
  refine key qs ss ⋯ λi v ev=>?_
  obtain ⟨k,x,e1,e2⟩:=hq i v ev
  have hi:=(aN.mp e1).1
  have ek:kvs[i]?=some kvs[i]:=aj ⋯
  obtain ⟨qv,e3,_⟩:=qwc rel ek
  rw [e1] at e3
  have e4:=bC (λl=>l[i]?) hk
  simp only [aE,ek,cE] at e4
  have hs:ss[i]?=some ss[i]:=aj ⋯
  rw [hs,cE] at e4
  have e5:=av e4
  have e6:k=kvs[i].1:=bC Prod.fst (av e3)
  rw [e6,e5] at e2
  obtain ⟨t,rfl⟩:=(show ∃t,v=Value.str ss[i] t from wzr e2)
  exact ⟨ss[i],t,hs,rfl⟩
 refine ac (cn (dv slot_list_sort ⟨_,hoL,rfl⟩ entry_list_sort ?_ (args_list_sort _)))
 refine qzk (s:={ s with heap:=h'.push (seqObj "list" qs.toArray 0),toks:=tk }) hoL ⋯ tS λil pm up=>⟨_,rfl,ao ⟨_,rfl,?_⟩⟩
 obtain ⟨e,he⟩:=Zk hoL (il.map λi=>qs.getD i Value.none).toArray
 have nl:H h'.objs.size=none:=I.hok.fresh hz
 have hin:∀i∈il,i<ss.length:=λi hi=>by have:=aW.mp (pm.mem_iff.mp hi);lia
 have vals:∀(il:List Nat),(∀i∈il,i<ss.length)→Vals ((il.map λi=>ss.getD i Str.empty).map V.str) (il.map λi=>qs.getD i Value.none):=by
  intro il
  induction il with
  |nil=>intro _;exact .nil
  |cons i il ih =>
   intro hh
   obtain ⟨x,t,e1,e2⟩:=tS.at (hh i (.head _))
   refine .cons ?_ (ih λj hj=>hh j (.tail _ hj))
   show RelV (V.str (ss.getD i Str.empty)) (qs.getD i Value.none)
   rw [e2,ar,e1]
   exact ⟨t,rfl⟩
 have pms:(il.map λi=>ss.getD i Str.empty).Perm ss:=by
  have h1:=pm.map λi=>ss.getD i Str.empty
  have h2:((List.range qs.length).map λi=>ss.getD i Str.empty)=ss:=by
   refine fk λi=>?_
   rw [aE]
   by_cases c:i<ss.length
   ·rw [cV ⋯,aj c]
    show some (ss.getD i Str.empty)=_
    rw [ar,aj c]
    rfl
   ·rw [br (by rw [aM];lia),br ⋯]
    rfl
  rw [h2] at h1
  exact h1
 refine ⟨.ref _,_,I.laid (t':=tk) (λb u hb=>Wz (ag _ (hk' b u hb)) (az (aH (am hb) hz)) _) hz (show ObjOk X.prog X.w _ _ _ (.lst ((il.map λi=>ss.getD i Str.empty).map V.str)) from ⟨?_,_,e,vals il hin,he⟩),rfl,q _ _ nl pms (bJ.mpr up)⟩
 rw [aa,pms.length_eq]
 lia
end
end L2
namespace L2
open PySem PySem.Spec PySem.Calls PyProof.Rows PySem.W
section
variable {prog:Ac}{w:Ah}{A:Ae}{E:Ag→Ab→Prop}{s:Ab}{K:Type}[DecidableEq K]{knd:KeyKind prog w K}
theorem qw7 {α:Type}{f:α→Int}:∀ {l:List α} (x:Int),(l.map f).Nodup→(l.filter λe=>f e==x).length≤1
 |[],_,_=>aD _
 |a::l,x,h=>by
  rw [aC,aY] at h
  have ih:=qw7 (l:=l) x h.2
  by_cases c:(f a==x)=true
  ·rw [bQ,ak c]
   have:l.filter (λe=>f e==x)=[]:=List.filter_eq_nil_iff.mpr λe he hx=>h.1 (ax.mpr ⟨e,he,by rw [eq_of_beq hx,eq_of_beq c]⟩)
   rw [this]
   exact al _
  ·rw [bQ,ai c]
   exact ih
theorem wqf {id:String}{d:Aj}{o:Obj}{es:Array DictEntry}{ep:Nat}{xs:List (List K×Aj×Ag)}{Q:Array DictEntry→Ab→Prop}(ho:s.heap.get? d=some o)(hd:o.data=.dict es ep)
  (he:es.toList=xs.map (entryOfKey (tupleKind knd))) (his:∀x∈xs,(tupleKind knd).is s.heap x.1 x.2.1) (hh:(xs.map λx=>(tupleKind knd).hash x.1).Nodup) (h:Q es s) :
  wpAny (model prog w) A (Builtin.Dict.entriesForEmpty id d) Q E s:=by
 unfold Builtin.Dict.entriesForEmpty
 refine ac (cB ho hd ?_)
 refine ac (ba (Q:=λ_ s'=>s'=s) ?_ (λ_ s' e=>by subst e;exact ao h) λ_ _ e=>e)
 rw [←Array.forIn_toList]
 refine wpAny_forIn_list _ (λrest _ s'=>s'=s∧∀e∈rest,e∈es.toList) _ ?_ (λ_ _ e=>e.1) _ _ ⟨rfl,λ_ h=>h⟩
 rintro e rest b s' ⟨rfl,hr⟩
 obtain ⟨x,hx,ex⟩:=ax.mp (he▸hr e (.head _))
 have hi:=his x hx
 have tl:s'.TypeIs (.ref x.2.1) "tuple" := by
  obtain ⟨o',its,n,h1,h2,_⟩:=hi
  exact ⟨o',h1,h2⟩
 have ek:e.key=.ref x.2.1:=by rw [←ex];rfl
 have hsz:¬ (es.filter (·.hash==e.hash)).size>1:=by
  have h1:=qw7 (f:=λe:DictEntry=>e.hash) (l:=es.toList) e.hash (by rw [he,bK];exact hh)
  have h2:(es.filter (·.hash==e.hash)).size=(es.toList.filter (·.hash==e.hash)).length:=by rw [←bq,Array.toList_filter]
  lia
 have tailok:∀e∈rest,e∈es.toList:=λe h=>hr e (.tail _ h)
 unfold Builtin.Dict.quietEq
 rw [ek]
 dsimp only
 refine ac (ac (fS tl PySem.F.slot_tuple_eq.lookup (ao ?_)))
 rw [ai hsz]
 show wpAny _ _ (if (!(_:Bool))=true then _ else _) _ _ _
 split
 ·exact ao ⟨rfl,tailok⟩
 ·exact ao ⟨rfl,tailok⟩
theorem xqs {o:Aj}{xs:List (List K×Aj×Ag)}{Q:Ag→Ab→Prop}(hoS:(o==sysModules)=false)(ho:s.heap.DictOfH (tupleKind knd) o xs)(hsz:xs.length≤sizeLine)(h0:xs≠[])(hh:(xs.map λx=>(tupleKind knd).hash x.1).Nodup)
  (h:∀h',h'.DictOfH (tupleKind knd) s.heap.objs.size xs→Heap.SameBut s.heap.objs.size (s.heap.push { cls:=.type "dict",data:=.dict #[] }) h'→Q (.ref s.heap.objs.size) { s with heap:=h' }) :
  wpAny (model prog w) A (call (.type "dict") [.ref o]) Q E s:=by
 refine callType_codes (Q₁:=λobj s₁=>obj=.ref s.heap.objs.size∧s₁={ s with heap:=s.heap.push { cls:=.type "dict",data:=.dict #[] } }) PySem.F.kt_called_dict (PySem.F.kt_typeCall_dict_1 _) PySem.F.entry_dict_init (kt_code_dict_new _ ⟨rfl,rfl⟩) ?_
 rintro obj s₁ ⟨rfl,rfl⟩
 obtain ⟨oo,es,ep,hoo,hc,hd,he,his,hn⟩:=ho
 have hlt:o<s.heap.objs.size:=am hoo
 have hnew:(s.heap.push { cls:=.type "dict",data:=.dict #[] }).get? s.heap.objs.size=some { cls:=.type "dict",data:=.dict #[] }:=aw _ rfl
 have tn:Shared.TypeIs { s with heap:=s.heap.push { cls:=.type "dict",data:=.dict #[] } } (.ref s.heap.objs.size) "dict" := ⟨_,hnew,rfl⟩
 have hoo':(s.heap.push { cls:=.type "dict",data:=.dict #[] }).get? o=some oo:=ag _ hoo
 have to:Shared.TypeIs { s with heap:=s.heap.push { cls:=.type "dict",data:=.dict #[] } } (.ref o) "dict" := ⟨_,hoo',hc.1⟩
 have hdo:s.heap.objs.size≠o:=eQ hlt
 refine ⟨tn,PySem.F.args_dict_init_2 _ _,?_⟩
 unfold Builtin.«dict.__init__»
 refine ac ?_
 unfold Builtin.Dict.selfAndRest
 refine ac (wpAny_notOrdered_dict tn ?_)
 show wpAny _ _ (pure (s.heap.objs.size,[Value.ref o])) _ _ _
 refine ao ?_
 show wpAny _ _ (Builtin.Dict.updateFrom "dict.__init__" s.heap.objs.size (.ref o) [] .none) _ _ _
 unfold Builtin.Dict.updateFrom
 refine ac (wpAny_typeOf to ?_)
 rw [ai ⋯]
 refine ac ?_
 unfold Builtin.Dict.merge
 refine ac ?_
 unfold Builtin.Dict.readDirectly
 refine ac (wpAny_isInstance to isSubtype_dict_dict ?_)
 simp only [Bool.not_true,cK,dP]
 refine ac (fS to PySem.F.slot_dict_iter.lookup (ao ?_))
 simp only [beq_self_eq_true,fJ]
 refine ac (ao ?_)
 unfold Builtin.Dict.mergeDict
 rw [ai (by simpa using hdo)]
 unfold Builtin.Dict.showsAll
 rw [ai (by rw [hoS];exact aI)]
 refine ac (ao ?_)
 refine ac (cB hoo' hd ?_)
 have hne:es.toList≠[]:=by rw [he];intro z;exact h0 (List.map_eq_nil_iff.mp z)
 have hall:(es.all λe=>(keyPart e.key).isSome)=false:=by
  obtain ⟨x,ys,rfl⟩:∃x ys,xs=x::ys:=by
   cases xs with
   |nil=>exact absurd rfl h0
   |cons x ys=>exact ⟨x,ys,rfl⟩
  rw [←Array.all_toList,he]
  rfl
 have his':∀x∈xs,(tupleKind knd).is (s.heap.push { cls:=.type "dict",data:=.dict #[] }) x.1 x.2.1:=λx hx=>by
  obtain ⟨o',its,n,h1,r⟩:=his x hx
  exact ⟨o',its,n,ag _ h1,r⟩
 dsimp only
 rw [hall,Bool.and_false]
 simp only [Bool.not_false,fJ]
 refine ac (cB hnew rfl ?_)
 rw [ak (show (#[]:Array DictEntry).isEmpty=true from rfl)]
 refine ac (wqf (knd:=knd) hoo' hd he his' hh ?_)
 have hem:es.isEmpty=false:=by
  rw [←Array.isEmpty_toList]
  cases hz:es.toList with
  |nil=>exact absurd hz hne
  |cons _ _=>rfl
 rw [hem]
 simp only [Bool.not_false,fJ]
 have hsize:es.size=xs.length:=by rw [←bq,he,aa]
 refine ac (wpAny_updateDictKeysTo hnew rfl (ao ?_) (by show es.size≤_;lia))
 show wpAny _ _ (Builtin.Dict.addKeywords s.heap.objs.size [] >>= _) _ _ _
 refine ac (ao (ao ⟨rfl,h _ ⟨_,es,1,d7 _ hnew (Obj.isFreed_of_dict (Obj.data_mapDictKeys rfl _)),⟨rfl,rfl,rfl⟩,rfl,he,λx hx=>?_,hn⟩ (dE ..)⟩))
 exact (tupleKind knd).keeps (his' x hx) hnew rfl (dE ..)
end
section
variable {X:Cx}
theorem yf:j4 X (.type "dict") (λxs H Q=>∃a kvs,xs=[V.ref a]∧Rd H a (.dK kvs)∧∀p,H p=none→Q (.ref p) (upd H p (.dK kvs))):=by
 intro pins s σ H xs us Q I r h
 obtain ⟨a,kvs,rfl,e,q⟩:=h
 obtain ⟨u,rfl,rx⟩:=uh r
 cases rx
 exact wyx I e λp s' np I'=>⟨.ref p,_,I',rfl,q p np⟩
def Zz (P:Ac)(w:Ah)(k:List Key):Int:=(tupleKind (zv P w)).hash k
theorem wxp:j4 X (.type "dict") (λxs H Q=>∃a kvs,xs=[V.ref a]∧H a=some (.dT kvs)∧kvs≠[]∧(kvs.map λp=>Zz X.prog X.w p.1).Nodup∧∀p,H p=none→Q (.ref p) (upd H p (.dT kvs))):=by
 intro pins s σ H xs us Q I r h
 obtain ⟨a,kvs,rfl,e,h0,hh,q⟩:=h
 obtain ⟨u,rfl,rx⟩:=uh r
 cases rx
 obtain ⟨z,hd,xs,rel,dd⟩:=Yv I.hok (.inl e)
 have hl:xs.length=kvs.length:=(bu rel).symm
 have hm:∀ {kvs:List (List Key×V)} {xs:List (List Key×Aj×Ag)},KT H kvs xs→xs.map (λx=>(tupleKind (zv X.prog X.w)).hash x.1)=kvs.map λp=>Zz X.prog X.w p.1:=by
  intro kvs xs r
  induction r with
  |nil=>rfl
  |cons h t ih=>rw [aC,aC,ih,h.1];rfl
 refine xqs hd dd (by rw [hl];exact z) (λz=>h0 (eI (by rw [←hl,z];rfl))) (by rw [hm rel];exact hh) λh' dd' hs=>?_
 obtain ⟨o',es,ep,h1,h2,h3,h4,h5,h6⟩:=dd'
 refine ⟨.ref _,_,I.laid (a:=s.heap.objs.size) (o:=.dT kvs) (t':=s.toks) (λb q hq=>?_) (al _) ⟨z,aU.mpr (aV (az I.big)),xs,rel.keeps λc ys ec=>?_,o',es,ep,h1,h2,h3,h4,h6⟩,rfl,q _ (I.hok.fresh (al _))⟩
 ·exact (hs.2 b (az (am hq))).trans (ag _ hq)
 ·rw [wf (qh ec (I.hok.fresh (al _)))]
  exact ec
def tDispT (tk tv:TE):TE:=λσ H Q=>∀p,H p=none→tk σ (upd H p (.dT [])) λx H1=>tv σ H1 λv H2=>∃b ks,x=.ref b∧H2 b=some (.tup (ks.map kV))∧H2 p=some (.dT [])∧Q (.ref p) (upd H2 p (.dT [(ks,v)]))
theorem wun {k v:Expr}{pos:Pos}{tk tv:TE}(hu:X.A.units<cLine)(hk:PE X k tk)(hv:PE X v tv):PE X (.Dict [some k] [v] pos) (tDispT tk tv):=by
 intro pins s σ H Q I q
 have hn:=I.hok.fresh (al s.heap.objs.size)
 have I1:=I.laid (a:=s.heap.objs.size) (o:=.dT []) (h':=s.heap.push { cls:=.type "dict",data:=.dict #[] }) (t':=s.toks) (λ_ _ q=>ag _ q) (al _) (qu7 s.heap I.big)
 refine wpAny_Dict_any rfl rfl (λz=>by cases z) (show 1≤15 by decide) ?_
 refine pairTrees_cons_walk (thn (hk pins _ σ _ _ I1 (q _ hn)) λu s1 ⟨x,H1,I2,rx,q1⟩=>thn (hv pins s1 σ H1 _ I2 q1) λw2 s2 ⟨y,H2,I3,ry,b,ks,ex,eb,ep,q2⟩=>pairTrees_nil_walk ?_)
 subst ex
 cases (show u=Value.ref b from rx)
 obtain ⟨z,hd,xs,rel,dd⟩:=dt_of I3.hok ep
 cases rel
 unfold storeAll
 rw [List.forIn_cons]
 refine ac (ac (wpAny_dictSet_heap (knd:=tupleKind (zv X.prog X.w)) (hsz:=aD _) hu (Q9 I3.hok eb) dd λh' dd' hs=>ao ?_))
 refine ao ?_
 obtain ⟨o',es,ep',h1,h2,h3,h4,_,h6⟩:=dd'
 refine ⟨.ref _,_,y9 I3 (by rw [ep];exact True.intro) hs ⟨o',h1⟩ (show ObjOk X.prog X.w (upd H2 s.heap.objs.size (.dT [(ks,y)])) h' s.heap.objs.size (.dT [(ks,y)]) from ⟨by show 1≤sizeLine;decide,hd,[(ks,b,w2)],.cons ⟨rfl,?_,ry⟩ .nil,o',es,ep',h1,h2,h3,h4,h6⟩),rfl,q2⟩
 rw [wf (ne_of eb ep (λz=>nomatch z))]
 exact eb
theorem W1 {K:Aa}(hK:X.K=K){e:Expr}{f:Str}{pos:Pos}{ta:TE}(he:PE X e ta)(hb:attributeBase e f X.env (eval e X.env)=eval e X.env):PE X (.Attribute e f pos) (tFld K ta f):=by
 subst hK
 exact zh he hb
end
end L2
namespace L2
open PySem
namespace Hs
def rot (a:Nat):Nat:=(a*2 ^ 31)%18446744073709551616+a/2 ^ 33
def lane (a x:Nat):Nat:=(rot ((a+x*14029467366897019727)%18446744073709551616)*11400714785074694791)%18446744073709551616
def dOf (x:Nat):Nat:=(lane 2870177450012600261 x*839798700976720815)%18446744073709551616
noncomputable def byD:List Nat:=[732,925,295,798,488,178,681,694,887,760,450,140,643,849,722,412,915,102,605,928,811,684,374,877,64,567,257,130,13,956,646,336,839,26,529,219,92,918,608,298,801,491,181,54,247,570,260,763,453,326,143,16,209,532,222,725,415,288,171,494,687,377,880,250,443,133,959,649,339,842,405,95,921,611,804,677,367,57,560,883,573,766,639,456,329,19,522,212,845,911,728,601,291,794,484,174,807,873,690,563,253,756,446,136,9,525,215,718,408,98,924,487,177,680,370,60,886,449,952,139,642,332,835,205,22,88,914,101,604,294,797,50,876,566,256,759,322,12,838,528,218,721,411,284,167,800,490,683,556,373,246,439,129,762,452,955,645,518,335,208,401,91,724,917,607,480,170,363,53,686,879,569,442,132,635,325,15,648,841,404,94,597,287,803,869,56,559,249,752,765,958,831,18,521,211,714,920,793,483,173,676,366,882,755,445,948,135,638,328,201,84,717,407,910,97,600,290,163,46,679,369,872,562,252,125,318,8,641,331,834,524,397,214,87,280,603,293,796,486,359,49,242,565,758,448,951,11,514,204,720,410,913,476,166,682,875,748,438,128,631,321,954,644,837,710,527,400,90,593,283,916,799,672,362,865,52,555,245,878,944,761,634,324,827,14,517,207,596,286,789,479,169,42,558,248,751,441,131,4,957,520,210,713,403,906,93,159,172,675,365,868,55,121,947,637,327,830,393,83,276,909,599,289,792,482,355,45,238,871,561,754,627,444,317,7,510,200,833,523,716,589,406,279,472,162,795,678,551,241,434,124,757,950,640,513,203,706,396,86,719,912,475,165,668,358,48,874,940,127,630,320,823,10,836,902,89,592,282,785,38,864,554,244,747,437,0,953,826,516,206,709,399,272,155,788,478,168,671,361,234,51,117,750,440,943,633,323,196,389,79,712,402,905,595,468,285,158,351,41,674,364,867,557,430,120,313,3,829,519,82,585,275,791,481,44,547,237,753,946,819,636,509,199,702,392,715,908,781,598,471,161,664,354,870,743,433,936,123,626,316,6,949,832,705,395,898,85,588,278,34,667,357,860,47,550,240,113,629,319,822,512,202,75,281,784,474,164,37,230,243,746,436,939,126,192,708,398,901,591,464,154,347,670,360,863,553,426,116,309,942,632,825,698,515,388,78,581,271,904,594,787,660,477,350,40,543,233,866,749,622,312,2,505,195,828,711,584,274,777,467,157,673,236,739,429,119,945,198,701,391,894,81,907,790,160,663,353,856,43,546,109,935,625,315,818,5,508,71,897,587,277,780,470,343,33,226,859,549,239,742,432,305,122,188,821,511,704,394,267,460,150,783,473,666,539,356,229,422,112,435,938,628,191,384,74,900,590,153,656,346,36,862,552,745,115,618,308,501,824,890,707,580,270,773,463,786,852,669,542,232,735,425,941,814,504,194,697,387,77,903,776,466,156,659,349,39,105,738,428,931,118,621,311,184,1,67,390,893,80,583,273,146,29,352,855,545,235,108,301,314,817,507,197,700,70,263,779,469,662,535,225,418,741,431,934,624,497,187,380,703,896,769,586,459,149,652,342,32,665,858,731,548,421,111,614,304,937,820,693,383,73,576,266,899,782,345,848,35,538,228,744,307,810,500,190,63,269,772,462,152,655,25,861,734,424,927,114,617,180,696,386,889,76,579,142,658,348,851,541,414,231,104,297,930,620,310,813,503,376,193,66,259,892,582,775,465,338,28,531,221,854,544,737,610,427,300,493,183,506,699,262,455,145,661,224,727,417,107,933,623,816,689,379,69,572,895,778,651,341,844,31,534,857,923,740,613,303,806,496,186,59,885,575,265,768,458,148,21,847,537,227,730,420,110,176,809,499,189,692,382,255,72,138,461,151,654,344,217,100,423,926,616,306,179,372,62,385,888,578,268,771,334,24,850,540,733,606,296,489,812,502,695,568,258,451,141,774,840,657,530,220,723,413,103,736,929,802,619,492,182,685,375,65,891,764,454,144,647,337,27,853,416,919,106,609,299,815,378,881,68,571,261,134,17,340,843,30,533,223,726,932,805,495,185,688,251,767,457,960,147,650,213,96,729,419,922,612,485,302,175,368,58,691,381,884,574,447,264,137,330,20,653,846,536,409,99,602,292,615,808,498,371,61,564,254,577,770,333,23,526,216]
def apart:List Nat→Bool
 |[]=>true
 |[_]=>true
 |x::y::l=>Nat.ble (dOf x+40) (dOf y)&&apart (y::l)
theorem qkd:apart byD=true:=by decide +kernel
theorem byD_lt:(byD.all λx=>Nat.blt x 961)=true:=by decide +kernel
theorem xq7:byD.length=961:=by decide +kernel
theorem qwz:(byD.all λx=>Nat.ble 40 (dOf x)&&Nat.ble (dOf x+40) 18446744073709551616&&!(Nat.ble (dOf x) 15746002411462551884&&Nat.ble 15746002411462551884 (dOf x+40)))=true:=by decide +kernel
theorem qwf:∀ {l:List Nat},apart l=true→l.Pairwise λx y=>dOf x+40≤dOf y
 |[],_=>.nil
 |[_],_=>fG _ _
 |x::y::l,h=>by
  have h:(Nat.ble (dOf x+40) (dOf y)&&apart (y::l))=true:=h
  rw [bA] at h
  have ih:=qwf h.2
  have a:=bU h.1
  refine dJ.mpr ⟨λz hz=>?_,ih⟩
  rcases ae.mp hz with rfl|hz
  ·exact a
  ·have:=(dJ.mp ih).1 z hz
   lia
theorem pw_two {l:List Nat}(h:l.Pairwise λx y=>dOf x+40≤dOf y):∀x∈l,∀y∈l,x≠y→dOf x+40≤dOf y∨dOf y+40≤dOf x:=by
 induction h with
 |nil=>intro x hx;cases hx
 |@cons b l a t ih =>
  intro x hx y hy ne
  rcases ae.mp hx with hx|hx
  ·rcases ae.mp hy with hy|hy
   ·exact absurd (hx.trans hy.symm) ne
   ·rw [hx];exact .inl (a y hy)
  ·rcases ae.mp hy with hy|hy
   ·rw [hy];exact .inr (a x hx)
   ·exact ih x hx y hy ne
theorem qxx {x:Nat}(h:x<961):x∈byD:=by
 apply cf
 intro n
 have nd:byD.Nodup:=(qwf qkd).imp λ{a b} q e=>by rw [e] at q;lia
 have:=L2.qk9 (x::byD) (List.range 961) (aY.mpr ⟨n,nd⟩) λv hv=>by
  rcases ae.mp hv with rfl|hv
  ·exact aW.mpr h
  ·exact aW.mpr (Nat.blt_eq.mp (bP.mp byD_lt v hv))
 rw [aO,xq7,aM] at this
 lia
theorem wxd (a:Nat):rot a=(a%8589934592)*2147483648+a/8589934592:=by
 unfold rot
 rw [show (18446744073709551616:Nat)=8589934592*2147483648 from rfl,show (2:Nat) ^ 31=2147483648 from rfl,Nat.mul_mod_mul_right]
theorem xq9 {a b:Nat}(ha:a<18446744073709551616)(hb:b<18446744073709551616)(h:rot a=rot b):a=b:=by
 rw [wxd,wxd] at h
 have a1:a/8589934592<2147483648:=eJ ha
 have b1:b/8589934592<2147483648:=eJ hb
 have a2:=Nat.div_add_mod a 8589934592
 have b2:=Nat.div_add_mod b 8589934592
 generalize a/8589934592=q at *
 generalize b/8589934592=q' at *
 generalize a%8589934592=r at *
 generalize b%8589934592=r' at *
 lia
theorem wuw {a:Nat}(ha:a<18446744073709551616):rot a<18446744073709551616:=by
 rw [wxd]
 have a1:a/8589934592<2147483648:=eJ ha
 have a2:=dq a (show 0<8589934592 by decide)
 lia
theorem quj {a:Nat}(ha:a<18446744073709551616):((a*11400714785074694791)%18446744073709551616*614540362697595703)%18446744073709551616=a:=by
 have h:(a*11400714785074694791*614540362697595703)%18446744073709551616=a:=by
  rw [Nat.mul_assoc,show 11400714785074694791*614540362697595703=1+18446744073709551616*379806830464837242 from rfl,Nat.mul_add,Nat.mul_one,show a*(18446744073709551616*379806830464837242)=18446744073709551616*(a*379806830464837242) by rw [Nat.mul_left_comm],Nat.add_mul_mod_self_left]
  exact Nat.mod_eq_of_lt ha
 rw [Nat.mul_mod,Nat.mod_mod,←Nat.mul_mod]
 exact h
theorem xxs {a b:Nat}(ha:a<18446744073709551616)(hb:b<18446744073709551616)(h:(a*11400714785074694791)%18446744073709551616=(b*11400714785074694791)%18446744073709551616):a=b:=by
 rw [←quj ha,←quj hb,h]
theorem wzs {u x:Nat}:((u+x*14029467366897019727)%18446744073709551616*839798700976720815)%18446744073709551616=((u*839798700976720815)%18446744073709551616+x)%18446744073709551616:=by lia
theorem wq0 {u v x y:Nat}(h:lane u x=lane v y):(u+x*14029467366897019727)%18446744073709551616=(v+y*14029467366897019727)%18446744073709551616:=by
 unfold lane at h
 have a:=dq (u+x*14029467366897019727) (show 0<18446744073709551616 by decide)
 have b:=dq (v+y*14029467366897019727) (show 0<18446744073709551616 by decide)
 exact xq9 a b (xxs (wuw a) (wuw b) h)
theorem two_inj {x y x' y':Nat}(hx:x<961)(hx':x'<961)(hy:y≤40)(hy':y'≤40)(y1:1≤y)(y1':1≤y')(h:lane (lane 2870177450012600261 x) y=lane (lane 2870177450012600261 x') y'):x=x'∧y=y':=by
 have e:=wq0 h
 have e1:=wzs (u:=lane 2870177450012600261 x) (x:=y)
 have e2:=wzs (u:=lane 2870177450012600261 x') (x:=y')
 have d1:dOf x=(lane 2870177450012600261 x*839798700976720815)%18446744073709551616:=by unfold dOf;rfl
 have d2:dOf x'=(lane 2870177450012600261 x'*839798700976720815)%18446744073709551616:=by unfold dOf;rfl
 rw [e,e2,←d1,←d2] at e1
 clear e e2 h d1 d2
 have q:=bP.mp qwz x (qxx hx)
 have q':=bP.mp qwz x' (qxx hx')
 rw [bA,bA] at q q'
 have q1:=bU q.1.1
 have q2:=bU q.1.2
 have q1':=bU q'.1.1
 have q2':=bU q'.1.2
 by_cases ne:x=x'
 ·subst ne
  exact ⟨rfl,⋯⟩
 ·have:=pw_two (qwf qkd) x (qxx hx) x' (qxx hx') ne
  lia
theorem not_end {x y:Nat}(hx:x<961)(y1:1≤y)(hy:y≤40):(lane (lane 2870177450012600261 x) y+2870177450013471924)%18446744073709551616≠18446744073709551615:=by
 intro h
 have l1:lane (lane 2870177450012600261 x) y<18446744073709551616:=dq _ ⋯
 have l2:lane (lane 2870177450012600261 x) y=lane 9148689060682678900 0:=by
  have:lane 9148689060682678900 0=15576566623696079691:=by decide +kernel
  rw [this]
  lia
 have e:=wq0 l2
 have e1:=wzs (u:=lane 2870177450012600261 x) (x:=y)
 have e2:=wzs (u:=9148689060682678900) (x:=0)
 have d1:dOf x=(lane 2870177450012600261 x*839798700976720815)%18446744073709551616:=by unfold dOf;rfl
 rw [e,e2,←d1,show (9148689060682678900*839798700976720815)%18446744073709551616=15746002411462551884 by decide +kernel] at e1
 clear e e2 h d1 l1 l2
 have q:=bP.mp qwz x (qxx hx)
 rw [bA,bA] at q
 have q1:=bU q.1.1
 have q2:=bU q.1.2
 have q3:=q.2
 have a:Nat.ble (dOf x) 15746002411462551884=true:=Nat.ble_eq_true_of_le ⋯
 have b:Nat.ble 15746002411462551884 (dOf x+40)=true:=Nat.ble_eq_true_of_le ⋯
 rw [a,b] at q3
 cases q3
end Hs
def thG (M P1 P2 P5 C:Nat)(hashes:List Int):Int:=(λacc:Nat=>if acc==M-1 then 1546275796 else if acc<2 ^ 63 then (acc:Int) else (acc:Int)-M) ((hashes.foldl (λacc h=>((((acc+(h%(M:Int)).toNat*P2)%M)*2 ^ 31)%M+((acc+(h%(M:Int)).toNat*P2)%M)/2 ^ 33)*P1%M) P5+(hashes.length ^^^ (P5 ^^^ C)))%M)
theorem th_eq (hs:List Int):Builtin.Tuple.tupleHashOf hs=thG (2 ^ 64) 11400714785074694791 14029467366897019727 2870177450012600261 3527539 hs:=rfl
def laM (M P1 P2 a x:Nat):Nat:=(((a+x*P2)%M)*2 ^ 31%M+((a+x*P2)%M)/2 ^ 33)*P1%M
def finM (M:Nat)(acc:Nat):Int:=if acc==M-1 then (1546275796:Int) else if acc<2 ^ 63 then (acc:Int) else (acc:Int)-M
theorem xx1 (M P1 P2 P5 C:Nat)(a b:Int):thG M P1 P2 P5 C [a,b]=finM M ((laM M P1 P2 (laM M P1 P2 P5 (a%(M:Int)).toNat) (b%(M:Int)).toNat+([a,b].length ^^^ (P5 ^^^ C)))%M):=by
 unfold thG laM finM
 rw [List.foldl_cons,List.foldl_cons,List.foldl_nil]
theorem p64:(2:Nat) ^ 64=18446744073709551616:=rfl
theorem wjn (a x:Nat):laM (2 ^ 64) 11400714785074694791 14029467366897019727 a x=Hs.lane a x:=by
 unfold laM Hs.lane Hs.rot
 rw [p64]
theorem xc:(0+1+1 ^^^ (2870177450012600261 ^^^ 3527539):Nat)=2870177450013471924:=by decide +kernel
theorem xx4 {u:Nat}(ne:u≠18446744073709551615)(lu:u<18446744073709551616):reduceHash (finM (2 ^ 64) u)=if u<9223372036854775808 then (u:Int) else (u:Int)-18446744073709551616:=by
 unfold finM
 rw [p64,ai (by simpa using ne),show (2:Nat) ^ 63=9223372036854775808 from rfl]
 unfold reduceHash
 by_cases c:u<9223372036854775808
 ·rw [ak c,ak (by simp;lia),ai (by simp),ak c]
 ·rw [ai c,ak (by simp;lia),ai (by simp;lia),ai c]
  lia
theorem hashI:∀x:Int,0≤x→x≤960→hashInt x=x:=λx h1 h2=>by
 have r:rawHash x=x:=by
  unfold rawHash
  dsimp only
  have e:((x.natAbs:Int)%((2 ^ 61-1:Nat):Int))=x:=by
   rw [show (2 ^ 61-1:Nat)=2305843009213693951 from rfl]
   lia
  rw [e,ai (show ¬ x<0 by lia),ai (by simp;lia)]
 unfold hashInt
 rw [r,ai (by simp;lia)]
theorem wqs {P:Ac}{w:Ah}{a b:Int}(a0:0≤a)(a1:a≤960)(b0:1≤b)(b1:b≤40):Zz P w [.inl a,.inl b] =
  if (Hs.lane (Hs.lane 2870177450012600261 a.toNat) b.toNat+2870177450013471924)%18446744073709551616<9223372036854775808 then (((Hs.lane (Hs.lane 2870177450012600261 a.toNat) b.toNat+2870177450013471924)%18446744073709551616:Nat):Int) else (((Hs.lane (Hs.lane 2870177450012600261 a.toNat) b.toNat+2870177450013471924)%18446744073709551616:Nat):Int)-18446744073709551616:=by
 have ne:=Hs.not_end (x:=a.toNat) (y:=b.toNat) ⋯ ⋯ ⋯
 have e0:Zz P w [.inl a,.inl b]=reduceHash (Builtin.Tuple.tupleHashOf [hashInt a,hashInt b]):=by
  unfold Zz
  rfl
 have ea:(a%((2 ^ 64:Nat):Int)).toNat=a.toNat:=by rw [p64];lia
 have eb:(b%((2 ^ 64:Nat):Int)).toNat=b.toNat:=by rw [p64];lia
 rw [e0,hashI a a0 a1,hashI b ⋯ ⋯,th_eq,xx1,ea,eb,wjn,wjn,aO,aO,fQ,xc]
 have lu:=dq (Hs.lane (Hs.lane 2870177450012600261 a.toNat) b.toNat+2870177450013471924) (show 0<18446744073709551616 by decide)
 rw [show (Hs.lane (Hs.lane 2870177450012600261 a.toNat) b.toNat+2870177450013471924)%2 ^ 64=(Hs.lane (Hs.lane 2870177450012600261 a.toNat) b.toNat+2870177450013471924)%18446744073709551616 by rw [p64]]
 exact xx4 ne lu
theorem wym {P:Ac}{w:Ah}{a b a' b':Int}(a0:0≤a)(a1:a≤960)(b0:1≤b)(b1:b≤40)(a0':0≤a')(a1':a'≤960)(b0':1≤b')(b1':b'≤40)
  (h:Zz P w [.inl a,.inl b]=Zz P w [.inl a',.inl b']):a=a'∧b=b':=by
 rw [wqs a0 a1 b0 b1,wqs a0' a1' b0' b1'] at h
 have l1:Hs.lane (Hs.lane 2870177450012600261 a.toNat) b.toNat<18446744073709551616:=dq _ ⋯
 have l2:Hs.lane (Hs.lane 2870177450012600261 a'.toNat) b'.toNat<18446744073709551616:=dq _ ⋯
 have e:Hs.lane (Hs.lane 2870177450012600261 a.toNat) b.toNat=Hs.lane (Hs.lane 2870177450012600261 a'.toNat) b'.toNat:=by
  generalize Hs.lane (Hs.lane 2870177450012600261 a.toNat) b.toNat=u at *
  generalize Hs.lane (Hs.lane 2870177450012600261 a'.toNat) b'.toNat=v at *
  split at h <;> split at h <;> lia
 have:=Hs.two_inj (x:=a.toNat) (x':=a'.toNat) (y:=b.toNat) (y':=b'.toNat) ⋯ ⋯ ⋯ ⋯ ⋯ ⋯ e
 lia
end L2
namespace L2
open PySem PySem.Spec PySem.Calls PyProof.Rows
section
variable {Y:Cx}{kx vx:Expr}{tk te:TE}{c:Code}{p:Aj}{σ:St}{H:Hp}{pins:List (Aj×Obj)}{s:Ab}
def dctS (kx vx:Expr)(D:Aj)(env:Env)(c:Code):Sem PySem.Fin:=(eval kx env >>= λkv=>holding [kv] (eval vx env) >>= λvv=>standAt { kx.pos with endLine:=vx.pos.endLine,endCol:=vx.pos.endCol } >>= λ_=>holding [kv,vv] (dictSet D kv vv)) >>= λ_=>again c
theorem wu3 (kx vx target iter:Expr)(scope:Scope)(pos:Pos)(it:Ag)(D:Aj)(env:Env) :
  compTurn (.DictComp kx vx [⟨target,iter,[],0⟩] scope pos) 0 it (.ref D) env=(standAt iter.pos >>= λ_=>pyNext it >>= λr=>match r with|none=>pure (.done .next)|some v=>letOwnedTupleGo target it v >>= λ_=>assign target env v >>= λ_=>dctS kx vx D env (.compLoop (.DictComp kx vx [⟨target,iter,[],0⟩] scope pos) 0 it (.ref D) env)):=by rfl
theorem wyu {ys:List (Key×V)}{N:List (Key×V)→Hp→Prop}(hk:PE Y kx tk)(hv:PE Y vx te)(J:Inv Y pins σ H s)(hz:ys.length<sizeLine)
  (h:tk σ H λy H4=>te σ H4 λz H5=>∃k,y=kV k∧H5 p=some (.dK ys)∧N (km ys k z) (upd H5 p (.dK (km ys k z)))) :
  wpAny (model Y.prog Y.w) Y.A (dctS kx vx p Y.env c) (λr s5=>r=Fin.again c∧∃H5,Inv Y pins σ H5 s5∧∃zs,N zs H5) Y.xe s:=by
 refine ac (ac (ba (hk _ s _ H _ J h) (λkv s6 hr6=>?_) λ_ _ z=>z))
 obtain ⟨y,H4,J6,ry,h4⟩:=hr6
 refine ac (cn (ba (hv _ s6 _ H4 _ J6 h4) (λvv s7 hr7=>?_) λ_ _ z=>z))
 obtain ⟨z,H5,J7,rz,k,rfl,e5,n5⟩:=hr7
 refine ac (cS (cn ?_))
 obtain ⟨zz,hd,vs,rel,dd⟩:=Yb J7.hok e5
 have hl:(km ys k z).length≤sizeLine:=by have:=yn ys k z;lia
 refine wpAny_dictSet_pairs (hsz:=by rw [←rel.length];exact zz) (Wn ry) dd λh' dd' hs=>ao ⟨rfl,_,?_,_,n5⟩
 have he:∃q,h'.get? p=some q:=let ⟨q,_,_,hq,_⟩:=dd';⟨q,hq⟩
 exact y9 J7 (by rw [e5];exact True.intro) hs he (Q6 hl hd (rel.put k rz) dd')
end
section
variable {X:Cx}{pins:List (Aj×Obj)}{σ:St}{H:Hp}{s2:Ab}{scope:Scope}{cl:List (Str×Aj)}{x:Str}{M:List Nat}{fp:List Aj}{C:Aj}{h1:Heap}{tk:Nat}
theorem Inv.compD (I:Inv X pins σ H s2)(hc:CapAll X.env cl)(hh:HasAll cl scope.names)(hm:CapIx X scope cl M)(hk:scope.kind=.function)(hC:s2.heap.objs.size<C)
  (keep:∀b o,s2.heap.get? b=some o→h1.get? b=some o) (hn:h1.Ns C λ_=>none) (hD:h1.get? s2.heap.objs.size=some { cls:=.type "dict",data:=.dict #[] })
  (hfp:∀b∈fp,uq X pins H b) (hob:∀b∈fp,∃o,s2.heap.get? b=some o) :
  Inv (k8 X scope cl x M C s2 H fp (X.pn++pins)) [] (jk M σ none) (upd H s2.heap.objs.size (.dK [])) { s2 with heap:=h1,toks:=tk } :=
 I.compG (xs:=[x]) hc hh hm hk hC keep hn ⟨aD _,aU.mpr (aV (az I.big)),[],.nil,by
  obtain ⟨o,es,ep,ho,r⟩:=Heap.DictOf.new (knd:=zv X.prog X.w) s2.heap
  have:o={ cls:=.type "dict",data:=.dict #[] }:=av (ho.symm.trans (aw _ rfl))
  exact ⟨o,es,ep,by rw [this];exact hD,r⟩⟩ hfp hob
end
def qyw (J:It)(M:List Nat)(tk te:TE)(σ:St)(H1:Hp)(Q:VK):Prop:=∀p,H1 p=none→∃W:Nat→Nat→List (Key×V)→Hp→Prop,(∃m,W 0 m [] (upd H1 p (.dK []))) ∧
 ∀i m ys H2,W i m ys H2→H2 p=some (.dK ys)∧ys.length<sizeLine∧((J.stop i H2∧Q (.ref p) H2)∨(J.go i H2∧∀v H3,J.yld i H2 v H3 →
  tk (jk M σ (some v)) H3 λy H4=>te (jk M σ (some v)) H4 λz H5=>∃k,y=kV k∧H5 p=some (.dK ys)∧∃m',m'<m∧W (i+1) m' (km ys k z) (upd H5 p (.dK (km ys k z)))))
def tDComp (M:List Nat)(wi:TI)(tk te:TE):TE:=λσ H Q=>wi σ H λJ H1=>qyw J M tk te σ H1 Q
section
variable {X:Cx}{kx vx iter:Expr}{x:Str}{px pos:Pos}{scope:Scope}{cl:List (Str×Aj)}{M:List Nat}{wi:TI}{tk te:TE}{pins:List (Aj×Obj)}{σ:St}
theorem wxw {tg:Expr}(hclos:closureFor scope X.env=pure cl)(hhas:HasAll cl scope.names)(hk:scope.kind=.function)
  (hnames:∀y∈scope.names,y.2=.local→scope.names.lookup y.1=some .local) (hi:PI X tg iter wi) (hs:∀z,foldedSetIterable iter X.env z=pure z)
  {use:Option (Ag→Sem Unit)} {QQ:Ag→Ab→Prop} {s:Ab} {H:Hp} {ps:Pos} {R:It→Hp→Prop} (I:Inv X pins σ H s) (h:wi σ H R)
  (go:∀(it:Aj) (fp:List Aj) (tn:Nat→Heap→Prop) (J:It) (H1:Hp) (s2:Ab) (C:Aj) (h3:Heap) (tn2:Nat),Inv X pins σ H1 s2→Turn X.prog X.w X.K tg J fp it tn→tn 0 h3→(∀b∈fp,uq X pins H1 b)→(∀b∈fp,b<s2.heap.objs.size)→(∀b∈fp,∃o,s2.heap.get? b=some o)→R J H1→s2.heap.objs.size<C →
   (∀b o,s2.heap.get? b=some o→h3.get? b=some o)→(h3.Ns C λ_=>none)→h3.get? s2.heap.objs.size=some { cls:=.type "dict",data:=.dict #[] } →
   codeAny (model X.prog X.w) X.A (.compLoop (.DictComp kx vx [⟨tg,iter,[],0⟩] scope pos) 0 (.ref it) (.ref s2.heap.objs.size) (compEnvC scope cl C X.env)) (compPost (model X.prog X.w) X.A X.xe use QQ (.ref s2.heap.objs.size) C) { s2 with heap:=h3,toks:=tn2 }) :
  wpAny (model X.prog X.w) X.A (comprehension (.DictComp kx vx [⟨tg,iter,[],0⟩] scope pos) scope X.env ps newDict false (eval iter X.env) use) QQ X.xe s:=by
 refine dF (use:=use) rfl hs hclos hk hnames ?_
 refine thn (hi pins s σ H _ I h) λv s1 h1=>thn h1 λitv s2 h2=>?_
 obtain ⟨it,fp,tn,J,H1,rfl,I2,T,t0,hfp,hR⟩:=h2
 refine cA ?_
 refine eE hhas.nocell (by intro y hy;cases hy) (λh3 hns hsb=>?_) hk
 dsimp only at hns hsb ⊢
 generalize hH2:s2.heap.push { cls:=.type "dict",dict:=none,data:=.dict #[] }=G2 at hns hsb ⊢
 have hC:G2.objs.size=s2.heap.objs.size+1:=by rw [←hH2,dO]
 have hlt:s2.heap.objs.size<G2.objs.size:=by lia
 have keep:∀b o,s2.heap.get? b=some o→h3.get? b=some o:=λb o e=>by
  rw [hsb.2 b (az (bj (am e) hlt))]
  exact ag _ (hH2▸ag _ e)
 have hD:h3.get? s2.heap.objs.size=some { cls:=.type "dict",data:=.dict #[] }:=by
  rw [hsb.2 _ (az hlt)]
  exact ag _ (hH2▸aw _ rfl)
 have t3:=T.keep 0 _ _ t0 λb _ o e=>keep b o e
 have loop:=λtn2=>go it fp tn J H1 s2 G2.objs.size h3 tn2 I2 T t3 hfp (λb hb=>let ⟨o,e,_⟩:=T.obj 0 _ t0 b hb;am e) (λb hb=>let ⟨o,e,_⟩:=T.obj 0 _ t0 b hb;⟨o,e⟩) hR hlt keep hns hD
 exact codeAny_compStart_dict (loop _) (T.self _ 0 _ _ _ t3 (loop _))
end
section
variable {X:Cx}{kx vx iter:Expr}{x:Str}{px pos:Pos}{scope:Scope}{cl:List (Str×Aj)}{M:List Nat}{wi:TI}{tk te:TE}
theorem wkg (hc:X.calm=true)(hclos:closureFor scope X.env=pure cl)(hcap:CapAll X.env cl)(hhas:HasAll cl scope.names)(hix:CapIx X scope cl M)(hk:scope.kind=.function)
  (hnames:∀y∈scope.names,y.2=.local→scope.names.lookup y.1=some .local) (hx:scope.names.lookup x=some .local) (hnd:(Yp X x M).Nodup) (hi:PI X (.Name x px) iter wi)
  (hkx:∀C s2 H2 fp pn,PE (k8 X scope cl x M C s2 H2 fp pn) kx tk) (he:∀C s2 H2 fp pn,PE (k8 X scope cl x M C s2 H2 fp pn) vx te) (hs:∀z,foldedSetIterable iter X.env z=pure z)
  {use:Option (Ag→Sem Unit)} {QQ:Ag→Ab→Prop} {pins:List (Aj×Obj)} {s:Ab} {σ:St} {H:Hp} {Q:VK} {ps:Pos} (I:Inv X pins σ H s) (h:wi σ H λJ H1=>qyw J M tk te σ H1 Q)
  (fin:∀(C:Aj) (s2 s4:Ab) (H1 H2:Hp) (fp:List Aj),Inv X pins σ H1 s2→s2.heap.objs.size<C→(∀b∈fp,uq X pins H1 b)→Inv (k8 X scope cl x M C s2 H1 fp (X.pn++pins)) [] (jk M σ none) H2 s4→Q (.ref s2.heap.objs.size) H2 →
   compPost (model X.prog X.w) X.A X.xe use QQ (.ref s2.heap.objs.size) C (.ok .next) s4) :
  wpAny (model X.prog X.w) X.A (comprehension (.DictComp kx vx [⟨.Name x px,iter,[],0⟩] scope pos) scope X.env ps newDict false (eval iter X.env) use) QQ X.xe s:=by
 refine wxw hclos hhas hk hnames hi hs I h λit fp tn J H1 s2 C h3 tn2 I2 T t3 hfp hbl hob hR hlt keep hns hD=>?_
 obtain ⟨W,⟨m0,w0⟩,hW⟩:=hR s2.heap.objs.size (I2.hok.fresh (al _))
 have hxl:(relabel scope X.env).names.lookup x=some .local:=eF hx
 refine Yt (Y:=k8 X scope cl x M C s2 H1 fp (X.pn++pins)) (V:=λi n H2=>∃ys,W i n ys H2) (Qd:=Q (.ref s2.heap.objs.size)) (REST:=dctS kx vx s2.heap.objs.size (compEnvC scope cl C X.env) _) T hc (λ_ _ z=>z) (wu3 ..) rfl rfl (xp (i:=0) hnd rfl (.inl hxl) (.inr hxl)) (qym hcap I2 hlt hfp hbl) (λi n H2 ⟨ys,w⟩=>?_) (λH2 s4 J4 q=>fin C s2 s4 H1 H2 fp I2 hlt hfp J4 q) (I2.compD hcap hhas hix hk hlt keep hns hD hfp hob) ⟨[],w0⟩ t3 λb hb=>by rw [wf (az (hbl b hb))];exact (hfp b hb).1
 obtain ⟨hp,hz,hcase⟩:=hW i n ys H2 w
 refine hcase.imp id λ⟨hgo,hy⟩=>⟨hgo,λv H3 yl=>⟨λσ4 H4=>σ4=jk M σ (some v)∧H3=H4,⟨rfl,rfl⟩,λ_ _ e=>?_⟩⟩
 obtain ⟨rfl,rfl⟩:=e
 refine ⟨Zn M σ v,λpins' s' J=>?_⟩
 refine ba (wyu (N:=λzs H5=>∃m',m'<n∧W (i+1) m' zs H5) (hkx _ _ _ _ _) (he _ _ _ _ _) J hz (hy v H3 yl)) (λr s5 ⟨e,H5,J5,zs,m',hm,w'⟩=>⟨e,H5,J5,m',hm,zs,w'⟩) λ_ _ z=>z
theorem Jk {i:Nat}{y:Str}{py spos:Pos}(hN:X.N.Nodup)(hyi:X.N[i]?=some y)(hyl:Loc X.env.scope y)(hc:X.calm=true)(hclos:closureFor scope X.env=pure cl)(hcap:CapAll X.env cl)(hhas:HasAll cl scope.names)(hix:CapIx X scope cl M)(hk:scope.kind=.function)
  (hnames:∀y∈scope.names,y.2=.local→scope.names.lookup y.1=some .local) (hx:scope.names.lookup x=some .local) (hnd:(Yp X x M).Nodup) (hi:PI X (.Name x px) iter wi)
  (hkx:∀C s2 H2 fp pn,PE (k8 X scope cl x M C s2 H2 fp pn) kx tk) (he:∀C s2 H2 fp pn,PE (k8 X scope cl x M C s2 H2 fp pn) vx te) (hs:autoParam (∀z,foldedSetIterable iter X.env z=pure z) aU3._auto_1)
  (hsw:autoParam (swapsWith (.DictComp kx vx [⟨.Name x px,iter,[],0⟩] scope pos) (some (.Name y py)) spos.line X.env=pure true) aU4._auto_1) (hyf:autoParam (X.fn y=true∨X.env.scope.names.lookup y=some .local) aU0._auto_1) :
  PS X (.Assign [.Name y py] (.DictComp kx vx [⟨.Name x px,iter,[],0⟩] scope pos) spos) (tAsg (tDComp M wi tk te) (wqz i)):=by
 intro pins s σ H D I h
 rw [d8 _ _ _ _ hsw]
 refine ac (cS (ac ?_))
 refine ac (ba (wkg hc hclos hcap hhas hix hk hnames hx hnd hi hkx he hs (use:=some (assign (.Name y py) X.env)) (QQ:=λ_ s'=>SP X pins D .next s') I h λC s2 s4 H1 H2 fp I2 hlt hfp J4 hq=>?_) (λ_ s' hq=>ao (ao hq)) λ_ _ e=>e)
 have I4:Inv X pins σ H2 s4:=I2.uncomp (h':=s4.heap) (bH hlt) hfp J4 (fi _ _)
 have hCn:H2 C=none:=J4.free
 obtain ⟨mC,hnC,_⟩:=J4.loc
 obtain ⟨oC,esC,epC,hoC,hdC⟩:=id hnC
 have hCl:C≠X.env.locals:=λz=>aQ _ (bj hlt (z▸I2.lt))
 have hCs:X.s₀.heap.objs.size≤C:=bD I2.sz (bH hlt)
 have hCc:∀y c,X.env.cells.lookup y=some c→c≠C:=λy c e z=>by
  obtain ⟨v,o,e1,_⟩:=I2.cell y c e
  exact aQ _ (bj hlt (z▸am e1))
 have hCp:∀p∈X.pn++pins,p.1≠C:=λp hp z=>aQ _ (bj hlt (z▸am (I2.pin p hp).1))
 have hCf:C∉frs X.stack:=λz=>by
  rcases ae.mp (I2.stkSub C z) with q|q
  ·exact hCl q
  ·obtain ⟨_,o,e1,_⟩:=I2.funs.mem (b:=C) q
   exact aQ _ (bj hlt (am e1))
 have hCx:C∉X.fs:=λz=>by
  obtain ⟨_,o,e1,_⟩:=I2.funs.mem (b:=C) z
  exact aQ _ (bj hlt (am e1))
 have I4p:Inv X (pins++[(C,oC)]) σ H2 s4:=⟨I4.ok,I4.os,I4.bare,I4.base,I4.loc,I4.cell,I4.free,I4.freeC,λp hp=>by
  rcases bi.mp hp with q|q
  ·exact I4.pin p (cw _ q)
  ·rcases bi.mp q with q|q
   ·exact I4.pin p (aA _ q)
   ·rw [aq.mp q]
    exact ⟨hoC,hCn,hCl,hCx,λv z=>by rw [hdC.1] at z;cases z⟩,I4.hok,I4.len⟩
 show wpAny _ _ (assign (.Name y py) X.env (.ref s2.heap.objs.size)) _ _ _
 refine dN (ud I4p hN hyi hyl (show RelV (.ref s2.heap.objs.size) (.ref s2.heap.objs.size) from rfl) (λs5 I5=>?_) hyf)
 have hC5:=(I5.pin (C,oC) (aA _ (aA _ (.head _)))).1
 exact ⟨mC,⟨oC,esC,epC,hC5,hdC⟩,λh' hs'=>⟨_,H2,I5.unpinned.but hCn hCs hCl hCc hCp hs',hq⟩⟩
end
end L2
namespace L2
open PySem PySem.Spec PyProof.Rows
def MissR (K:Aa)(C D:Aj):Prop:=∀ {M:Model} {A:Ae} {E:Ag→Ab→Prop} {h:Heap} {g:Array GenState} {d:Drawn} {t:Nat} {os:OsState} {e:Aj} {oe:Obj} {Q:Bool→Ab→Prop},
 K.In h→h.get? e=some oe→oe.cls=.ref C→Q false ⟨h,g,d,t,os⟩→wpAny M A (excMatches (.ref e) (.ref D)) Q E ⟨h,g,d,t,os⟩
theorem w9 {K:Aa}{C D:Aj}(d:ExcC K D)(hm:W.mroIn K C (.ref D)=some false):MissR K C D:=by
 intro M A E h g dr t os e oe Q X he hc q
 obtain ⟨tl,N,a1,a2,a3,a4,a5,a6,a7,a8,a9,b0,b1,b2,b3,b5,mN,hC,hN,hni,T⟩:=qyc X d.q
 have hbase:=T.hasType cI.hasBase
 have hcB:(Value.ref D::tl).contains (.type "BaseException")=true:=by rw [List.contains_cons,hbase,Bool.or_true]
 have L:W.Looks M h (isSubtype (.ref C) (.ref D)) false:=W.looks_mroIn X hm
 have f:=tc_notTuple
 unfold excMatches
 repeat (first | (with_reducible refine wpAny_loadPart_at he ?_;rw [hc]) | with_reducible refine wpAny_loadPart_at hC ?_ | (with_reducible refine wpAny_isSubtype_exc hC ?_;rw [hcB]) | with_reducible refine L.at ?_ | wp_step)
 exact q
section
variable {X:Cx}{pins:List (Aj×Obj)}{σ:St}{H H':Hp}{s s':Ab}{e:Aj}
end
section
variable {X:Cx}{x x1:Str}{D0 D1:Aj}{np hpos np1 hpos1 pos:Pos}{b₀ b₁:Stmt}{body suite suite1:List Stmt}{tb:(St→XK)→TS}{th th1:TS}
end
end L2
namespace L2
open PySem PySem.Spec PyProof.Rows
inductive PHs (X:Cx):List ExceptHandler→List (Aj×TS)→Prop
 |nil:PHs X [] []
 |cons {x:Str} {D0:Aj} {np hpos:Pos} {b₀:Stmt} {suite:List Stmt} {th:TS} {hs:List ExceptHandler} {trs:List (Aj×TS)} (hg:Gl X x) (hm:X.mg x=some (.ref D0)) (hh:∀e,PSs (X.handling e) (b₀::suite) th) (r:PHs X hs trs) (hdb:(x==("__debug__" : Str))=false) :
  PHs X (.ExceptHandler (some (.Name x np)) none (b₀::suite) hpos::hs) ((D0,th)::trs)
def CatL (K:Aa)(C:Aj)(D:Ends)(σ:St)(H:Hp):List (Aj×TS)→Prop
 |[]=>False
 |p::t=>(xqg K C p.1∧p.2 D σ H)∨(MissR K C p.1∧CatL K C D σ H t)
section
variable {X:Cx}{pins:List (Aj×Obj)}{σ:St}{H H':Hp}{s s':Ab}{e:Aj}
theorem landN {E:XK}{ev:Ag}{hs:List ExceptHandler}{trs:List (Aj×TS)}{D:Ends}(I:Inv X pins σ H s)(hst:X.stack=X.env::X.outer)(hfr:X.env.frame=some X.env.locals)
  (hx:CXE X.prog X.w X.stack H s E ev s') (hE:∀c d H',E c d H'→∃C,c=.ref C∧CatL X.K C D σ H' trs) (hP:PHs X hs trs) :
  wpAny (model X.prog X.w) X.A (noteFrame ev X.env) (λ_ s2=>wpAny (model X.prog X.w) X.A (setFlight ev none) (λ_ s3 =>
   wpAny (model X.prog X.w) X.A (handleBy ev X.env hs) (SP X pins D) X.xe s3) X.xe s2) X.xe s':=by
 obtain ⟨a,C,a0,B,H',rfl,hos,hba,un,hokB,hfl,old,q⟩:=hx
 obtain ⟨C1,e1,hcase⟩:=hE _ _ _ q
 cases e1
 have mk:∀(h6:Heap),Heap.FlyingW B X.stack a (.ref C) a0 h6→s'.heap.UpToSlots h6→Inv X pins σ H' { s' with heap:=h6 }:=λh6 fl up=>by
  refine I.call' (s':={ s' with heap:=h6 }) (ch:=[]) hos ⟨λb o e n nb _=>?_,λb o e n hb _=>?_,λb o e n _=>un.free b o e n nin,λb o e _=>?_,un.tups,un.frzs,un.tbls⟩ (hokB.kept fl.1) hba (λb z=>nomatch z)
  ·obtain ⟨o',e1,e2⟩:=old b o e nb
   rw [e2 n] at e1
   exact fl.1 b o e1
  ·obtain ⟨sl,e2⟩:=un.slot b o e n hb nin
   obtain ⟨_,o3,e3,nf⟩:=hfl.2.2.1.mem (b:=b) hb
   obtain ⟨sl4,e4⟩:=up b o3 e3 nf
   rw [e2] at e3
   have e5:=av e3
   exact ⟨sl4,by show h6.get? b=_;rw [e4,←e5]⟩
  ·by_cases hb:b∈frs X.stack
   ·obtain ⟨_,o3,e3,nf⟩:=hfl.2.2.1.mem (b:=b) hb
    obtain ⟨sl4,e4⟩:=up b o3 e3 nf
    exact ⟨_,e4⟩
   ·obtain ⟨o',e1,_⟩:=old b o e hb
    exact ⟨o',fl.1 b o' e1⟩
 have hfrm:X.A.frames=some (X.env::X.outer):=by rw [←hst];exact I.ok.frames
 have hfl':Heap.FlyingW B (X.env::X.outer) a (.ref C) a0 s'.heap:=by rw [←hst];exact hfl
 refine wpAny_looks_onW hfrm hfr hfl' λh4 held4 up4=>?_
 refine wpAny_landsW held4 λh5 fl5 up5=>?_
 have I5:=mk h5 (by rw [hst];exact fl5) (up4.trans up5)
 have I5h:=I5.handling a
 obtain ⟨ob,hob,hobc⟩:=fl5.there
 obtain ⟨hp,gg,dd,tk,os⟩:=s'
 clear hE
 induction hP with
 |nil=>exact hcase.elim
 |@cons x D0 np hpos b₀ suite th hs trs hg hm hh r hdb ih =>
  rcases hcase with ⟨hcat,hth⟩|⟨hmiss,hcase⟩
  ·refine wpAny_handleBy_cons (codeAny_handlers_test (Qp (X:=X.handling a) I5h hg hm ?_ hdb)) (by intro z;cases z)
   refine hcat (h:=h5) I5.kIn hob hobc ?_
   refine codeAny_handlers_suite ?_
   refine lands_againW fl5 λh6 fl6 up6=>?_
   have I6:=(mk h6 (by rw [hst];exact fl6) ((up4.trans up5).trans up6)).handling a
   exact ba (hh a pins _ σ H' D I6 hth) (λf s2 h2=>h2.unhandling I.ok) λ_ _ z=>z.elim
  ·refine wpAny_handleBy_cons (codeAny_handlers_test (Qp (X:=X.handling a) I5h hg hm ?_ hdb)) (by intro z;cases z)
   refine hmiss (h:=h5) I5.kIn hob hobc ?_
   exact ih hcase
end
def tTryN (K:Aa)(trs:List (Aj×TS))(tb:(St→XK)→TS):TS:=λD σ H=>tb (λσ' c _ H'=>∃C,c=.ref C∧CatL K C D σ' H' trs) D σ H
section
variable {X:Cx}{pos:Pos}{body:List Stmt}{tb:(St→XK)→TS}{h1:ExceptHandler}{hs1:List ExceptHandler}{trs:List (Aj×TS)}
theorem xx8 (hst:X.stack=X.env::X.outer)(hfr:X.env.frame=some X.env.locals)
  (hb:∀(pn:List (Aj×Obj)) (xe:Ag→Ab→Prop) (E:St→XK),y6 (X.trying pn xe) E→PassesOwn (model X.prog X.w) X.A X.env xe→PSs (X.trying pn xe) body (tb E)) (hP:PHs X (h1::hs1) trs) :
  PS X (.Try body (h1::hs1) [] [] pos) (tTryN X.K trs tb):=by
 intro pins s σ H D I h
 refine wpAny_Try_except ?_
 refine ba (hb (X.pn++pins) (λe s₁=>wpAny (model X.prog X.w) X.A (noteFrame e X.env) (λ_ s₂=>wpAny (model X.prog X.w) X.A (setFlight e none) (λ_ s₃ =>
   wpAny (model X.prog X.w) X.A (handleBy e X.env (h1::hs1)) (SP X pins D) X.xe s₃) X.xe s₂) X.xe s₁) _ ?_ PassesOwn.looking [] s σ H D (I.trying _) h) (λf s1 hf=>?_) λ_ _ z=>z
 ·intro pins' σ' H1 s1 e s1' I1 hx
  exact landN (X:=X) (I1.untrying I.ok) hst hfr hx (λc d H' q=>q) hP
 ·have h2:=hf.untrying I.ok
  cases f with
  |next=>exact dG h2
  |brk=>exact h2
  |cont=>exact h2
  |ret u=>exact h2
end
end L2
namespace L2
open PySem PySem.Spec PyProof.Rows
theorem wv9 (bs:List Bool):(List.range bs.length).any (λi=>bs.getD i false)=bs.any id:=by
 rw [cO,dz,dz]
 constructor
 ·rintro ⟨i,hi,h⟩
  have hi':=aW.mp hi
  rw [ar,aj hi'] at h
  exact ⟨bs[i],bO hi',h⟩
 ·rintro ⟨b,hb,h⟩
  obtain ⟨i,hi,rfl⟩:=bx hb
  refine ⟨i,aW.mpr hi,?_⟩
  rw [ar,aj hi]
  exact h
section
variable {X:Cx}{K:Aa}
theorem qzs (hc:X.calm=true)(hK:X.K=K):j4 X (.builtin "any") (λxs H Q=>∃(p:Aj) (bs:List Bool),xs=[.ref p]∧SqL K H p (bs.map V.bl)∧Q (.bl (bs.any id)) H):=by
 subst hK
 intro pins s σ H xs us Q I r h
 obtain ⟨p,bs,rfl,hS,q⟩:=h
 obtain ⟨u,rfl,ru⟩:=uh r
 cases (show u=Value.ref p from ru)
 obtain ⟨its,rv,⟨o,n,e1,e2,e3,e4⟩,hz⟩:=I.list hS
 have hits:=qxs rv
 have hl:s.heap.IsList p its.toArray:=⟨o,e1,e2,n,e4⟩
 have hlt:p<s.heap.objs.size:=am e1
 refine call_any_walk (fh hl ?_)
 refine ⟨s.heap.objs.size,_,_,_,_,_,λi=>bs.getD i false,rfl,Walks.list (A:=X.A.in1) (I.ok.hd hc) _ p (az hlt) its.toArray,⟨⟨_,aw _ rfl,rfl,rfl⟩,hl.push _⟩,λi v s' Q' E' hP hQ=>?_,λh' tk hk=>?_⟩
 ·have hv:its[i]?=some v:=by simpa using hP
  rw [hits,aE] at hv
  cases hb:bs[i]? with
  |none=>rw [hb] at hv;cases hv
  |some b =>
   rw [hb] at hv
   have ev:Value.bool b=v:=av hv
   subst ev
   refine cz ?_
   have e2:bs.getD i false=b:=by rw [ar,hb];rfl
   have hQ':Q' (bs.getD i false) s':=hQ
   rw [e2] at hQ'
   exact hQ'
 ·have hlen:its.toArray.size=bs.length:=by rw [hits];simp
  rw [hlen,wv9]
  refine ⟨.bl _,H,I.kept λb ob e=>hk b ob (λhm=>?_) (ag _ e),rfl,q⟩
  have z:b=s.heap.objs.size:=by simpa using hm
  exact aQ _ (z▸am e)
end
end L2
namespace L2
open PySem
theorem wuk {M:List Nat}{x:Str}{te:TE}{σ:St}{H:Hp}{Q:VK}(f:Nat→V)(hn:x.cps.size≤1000000)(he:∀(i:Nat) (H':Hp) (R:VK),i<x.cps.size→Same H H'→R (f i) H'→te (jk M σ (some (.str ⟨#[x.cps.getD i 0]⟩))) H' R)
  (k:∀p,H p=none→Q (.ref p) (upd H p (.lst ((List.range x.cps.size).map f)))):wqb (ItS x) M te σ H Q:=by
 intro p np
 refine ⟨λi m ys H2=>i≤x.cps.size∧m=x.cps.size-i∧ys=(List.range i).map f∧H2=upd H p (.lst ys),⟨x.cps.size,aD _,rfl,rfl,rfl⟩,?_⟩
 rintro i m ys H2 ⟨hi,rfl,rfl,rfl⟩
 refine ⟨qc,?_,?_⟩
 ·rw [aa,aM]
  have:(1000000:Nat)<sizeLine:=by decide
  lia
 ·by_cases hlt:i<x.cps.size
  ·refine .inr ⟨hlt,?_⟩
   rintro v H3 ⟨rfl,rfl⟩
   refine he i (upd H p (.lst ((List.range i).map f))) _ hlt (Same.upd np) ⟨qc,x.cps.size-(i+1),⋯,⋯,rfl,?_,?_⟩
   ·rw [cb,bg]
    rfl
   ·rw [yz]
  ·refine .inl ⟨by show x.cps.size≤i;lia,?_⟩
   have:i=x.cps.size:=by lia
   subst this
   exact k p np
theorem xqn {M:List Nat}{d:Aj}{o:Obj}{cs:List (Key×V)}{tk te:TE}{σ:St}{H:Hp}{Q:VK}(f:Key→V)(hz:cs.length≤1000000)(nd:(cs.map (·.1)).Nodup)(hd:H d=some (.frz o (.dK cs)))
  (he:∀(k:Key) (H':Hp) (R:V→V→Hp→Prop),Same H H'→R (kV k) (f k) H'→tk (jk M σ (some (kV k))) H' λy H4=>te (jk M σ (some (kV k))) H4 λz H5=>R y z H5)
  (k:∀p,H p=none→Q (.ref p) (upd H p (.dK (cs.map λc=>(c.1,f c.1))))):qyw (ItD d o cs) M tk te σ H Q:=by
 intro p np
 have big:(1000000:Nat)<sizeLine:=by decide
 refine ⟨λi m ys H2=>i≤cs.length∧m=cs.length-i∧ys=(cs.take i).map (λc=>(c.1,f c.1))∧H2=upd H p (.dK ys),⟨cs.length,aD _,rfl,rfl,rfl⟩,?_⟩
 rintro i m ys H2 ⟨hi,rfl,rfl,rfl⟩
 have dp:d≠p:=qh hd np
 refine ⟨qc,by rw [aa,bE];lia,?_⟩
 by_cases hlt:i<cs.length
 ·refine .inr ⟨⟨by rw [wf dp];exact hd,hlt⟩,?_⟩
  rintro v H3 ⟨rfl,c,ec,rfl⟩
  refine he c.1 _ _ (Same.upd np) ⟨c.1,rfl,qc,cs.length-(i+1),⋯,⋯,rfl,?_,?_⟩
  ·have hn:wp ((cs.take i).map λc=>(c.1,f c.1)) c.1=none:=by
    unfold wp
    rw [dL.mpr]
    ·rfl
    ·intro x hx
     obtain ⟨y,hy,rfl⟩:=ax.mp hx
     have hy2:y.1∈(cs.map (·.1)).take i:=by rw [←ga];exact ax.mpr ⟨y,hy,rfl⟩
     intro z
     have z:y.1=c.1:=by simpa using z
     obtain ⟨j,hj,ej⟩:=bx hy2
     rw [bE,aa] at hj
     rw [d3] at ej
     have e2:(cs.map (·.1))[i]'(by rw [aa];exact hlt)=c.1:=by
      rw [eB]
      rw [aj hlt] at ec
      rw [av ec]
     have:=(du nd).mp (ej.trans (z.trans e2.symm))
     lia
   rw [Qf _ hn,d6,bg,ec]
   rfl
  ·rw [yz]
 ·refine .inl ⟨⟨by rw [wf dp];exact hd,⋯⟩,?_⟩
  have:i=cs.length:=by lia
  subst this
  rw [cX]
  exact k p np
theorem for_di {d:Aj}{o:Obj}{cs:List (Key×V)}{g:TG}{tb:TS}{D:Ends}{σ:St}{H:Hp}(Pv:Nat→St→Hp→Prop)(h0:Pv 0 σ H)(hl:∀i σ H,i≤cs.length→Pv i σ H→H d=some (.frz o (.dK cs)))
  (hs:∀i c q σ H,cs[i]?=some c→H q=none→Pv i σ H→g (.ref q) σ (upd H q (.tup [kV c.1,c.2])) λσ2 H2=>tb { D with nx:=Pv (i+1),ct:=Pv (i+1),bk:=D.nx } σ2 H2) (hd:∀σ H,Pv cs.length σ H→D.nx σ H) :
  ∃W:Nat→Nat→St→Hp→Prop,(∃m,W 0 m σ H)∧∀i m σ H,W i m σ H →
   ((ItDI d o cs).stop i H∧D.nx σ H)∨((ItDI d o cs).go i H∧∃N:St→Hp→Prop,(∀σ' H',N σ' H'→∃m',m'<m∧W (i+1) m' σ' H')∧∀x H',(ItDI d o cs).yld i H x H'→g x σ H' λσ2 H2=>tb { D with nx:=N,ct:=N,bk:=D.nx } σ2 H2):=by
 refine ⟨λi m σ H=>m=cs.length-i∧i≤cs.length∧Pv i σ H,⟨cs.length,by simp,aD _,h0⟩,?_⟩
 rintro i m σ H ⟨rfl,hi,p⟩
 have q:=hl i σ H hi p
 by_cases hlt:i<cs.length
 ·refine .inr ⟨⟨q,hlt⟩,Pv (i+1),λσ' H' p'=>⟨cs.length-(i+1),⋯,rfl,hlt,p'⟩,?_⟩
  rintro x H' ⟨z,c,nz,rfl,ec,rfl⟩
  exact hs i c z σ H ec nz p
 ·have e:i=cs.length:=by lia
  subst e
  exact .inl ⟨⟨q,al _⟩,hd σ H p⟩
def ex1 (R:List (Key×V))(c:Key×V):List (Key×V):=if c.2=.non then y3 R c.1 else km R c.1 c.2
def exK (R cs:List (Key×V)):List (Key×V):=cs.foldl ex1 R
def bfK (R cs:List (Key×V)):List (Key×V):=cs.map λc=>(c.1,(wp R c.1).getD .non)
def wqm (R cs:List (Key×V)):Prop:=∀(i:Nat) c,cs[i]?=some c→c.2=.non→(wp (exK R (cs.take i)) c.1).isSome=true
theorem xwg (R:List (Key×V)){cs:List (Key×V)}{i:Nat}{c:Key×V}(h:cs[i]?=some c):exK R (cs.take (i+1))=ex1 (exK R (cs.take i)) c:=by
 unfold exK
 rw [d6,h,List.foldl_append]
 rfl
theorem xxu (R:List (Key×V))(c:Key×V):(ex1 R c).length≤R.length+1:=by
 unfold ex1
 split
 ·have:=qwh R c.1
  lia
 ·exact yn R c.1 c.2
theorem xx6 (R cs:List (Key×V)):(exK R cs).length≤R.length+cs.length:=by
 induction cs generalizing R with
 |nil=>exact al _
 |cons c cs ih =>
  have h1:=ih (ex1 R c)
  have h2:=xxu R c
  show (exK (ex1 R c) cs).length≤_
  rw [aO]
  lia
def Kb (ch:List Aj)(H H':Hp):Prop:=∀b o,b∉ch→H b=some o→H' b=some o
section
variable {X:Cx}{C:Aj}{x:Str}{k:Nat}{sp:Sp}{E:St→XK}{p pos:Pos}
theorem qv4 (c:CCal X.prog X.w X.K X.mg X.base x C k sp)(hr:Room (k+1) X.A)(hg:Gl X x)(hx:y6 X E)(hdb:autoParam ((x==("__debug__" : Str))=false) aU1._auto_1) :
  PE X (.Call (.Name x p) [] [] pos) (wwf C sp E Qc):=by
 obtain ⟨f,fd,ps,hm,M,F,b⟩:=c.ex
 intro pins s σ H Q I h
 refine cZ (Qp I hg hm ?_ hdb)
 exact W.callWith_K0 I.kIn M.kp (qv5 (us:=[]) M F hr b hx I .nil h)
end
theorem Kb.rd {ch:List Aj}{H H':Hp}(k:Kb ch H H'){d:Aj}{kvs:List (Key×V)}(n:d∉ch)(h:Rd H d (.dK kvs)):Rd H' d (.dK kvs):=by
 rcases h with h|⟨o,h⟩
 ·exact .inl (k _ _ n h)
 ·exact .inr ⟨o,k _ _ n h⟩
theorem Kb.trans {ch:List Aj}{H H' H'':Hp}(a:Kb ch H H')(b:Kb ch H' H''):Kb ch H H'':=λc o n e=>b c o n (a c o n e)
theorem Kb.of {ch:List Aj}{H H':Hp}(s:Same H H'):Kb ch H H':=λc o _ e=>s c o e
theorem Kb.mono {ch ch':List Aj}{H H':Hp}(a:Kb ch H H')(h:∀b∈ch,b∈ch'):Kb ch' H H':=λc o n e=>a c o (λz=>n (h c z)) e
theorem for_en {K:Aa}{a:Aj}{xs:List V}{g:TG}{tb:TS}{D:Ends}{σ:St}{H:Hp}(Pv:Nat→St→Hp→Prop)(h0:Pv 0 σ H)(hl:∀i σ H,i≤xs.length→Pv i σ H→SqL K H a xs)
  (hs:∀i x q σ H,xs[i]?=some x→H q=none→Pv i σ H→g (.ref q) σ (upd H q (.tup [.int (i:Nat),x])) λσ2 H2=>tb { D with nx:=Pv (i+1),ct:=Pv (i+1),bk:=D.nx } σ2 H2) (hd:∀σ H,Pv xs.length σ H→D.nx σ H) :
  ∃W:Nat→Nat→St→Hp→Prop,(∃m,W 0 m σ H)∧∀i m σ H,W i m σ H →
   ((ItE K a xs).stop i H∧D.nx σ H)∨((ItE K a xs).go i H∧∃N:St→Hp→Prop,(∀σ' H',N σ' H'→∃m',m'<m∧W (i+1) m' σ' H')∧∀x H',(ItE K a xs).yld i H x H'→g x σ H' λσ2 H2=>tb { D with nx:=N,ct:=N,bk:=D.nx } σ2 H2):=by
 refine ⟨λi m σ H=>m=xs.length-i∧i≤xs.length∧Pv i σ H,⟨xs.length,by simp,aD _,h0⟩,?_⟩
 rintro i m σ H ⟨rfl,hi,p⟩
 have q:=hl i σ H hi p
 by_cases hlt:i<xs.length
 ·refine .inr ⟨⟨q,hlt⟩,Pv (i+1),λσ' H' p'=>⟨xs.length-(i+1),⋯,rfl,hlt,p'⟩,?_⟩
  rintro x H' ⟨z,c,nz,rfl,ec,rfl⟩
  exact hs i c z σ H ec nz p
 ·have e:i=xs.length:=by lia
  subst e
  exact .inl ⟨⟨q,al _⟩,hd σ H p⟩
end L2
namespace L2
open PySem PySem.Spec PyProof.Rows PySem.W
section
variable {X:Cx}{o e:Expr}{apos cpos:Pos}{td ty:TE}
def xwf (td:TE):TE:=λσ H Q=>td σ H λx H1=>∃a kvs,x=.ref a∧H1 a=some (.dK kvs)∧Q .non (upd H1 a (.dK []))
theorem wvh (ho:PE X o td)(hbase:autoParam (attributeBase o "clear" X.env (eval o X.env)=eval o X.env) aU4._auto_1)(hline:autoParam ((apos.endLine==cpos.line)=true) aU4._auto_1):PE X (.Call (.Attribute o "clear" apos) [] [] cpos) (xwf td):=by
 intro pins s σ H Q I h
 refine cW hbase hline (thn (ho pins s σ H _ I h) λv s1 ⟨x,H1,I1,r1,a,kvs,ex,ea,q1⟩=>?_)
 subst ex
 obtain rfl:v=Value.ref a:=r1
 obtain ⟨t1,t2,_⟩:=Zc I1 (.inl ⟨kvs,.inl ea⟩)
 exact ⟨"dict","dict.clear",bL,fC,PySem.F.type_dict_clear,t1,t2,bB rfl (dC (xxm I1 ea λs' I'=>⟨.non,_,I',rfl,q1⟩))⟩
def tDUpd (td ty:TE):TE:=λσ H Q=>td σ H λx H1=>∃a,x=.ref a∧IsD H1 a∧ty σ H1 λy H2=>∃b kvs more,y=.ref b∧a≠b∧H2 a=some (.dK kvs)∧Rd H2 b (.dK more)∧kvs.length+more.length≤sizeLine∧Q .non (upd H2 a (.dK (yc kvs more)))
theorem xw9 (ho:PE X o td)(he:PE X e ty)(m:M1 X o "update" apos e cpos):PE X (.Call (.Attribute o "update" apos) [e] [] cpos) (tDUpd td ty):=by
 intro pins s σ H Q I h
 refine dW m.base m.few m.line bL fw PySem.F.type_dict_update (thn (ho pins s σ H _ I h) λu s1 ⟨x,H1,I1,rx,a,ex,d,q1⟩=>?_)
 subst ex
 obtain rfl:u=Value.ref a:=rx
 obtain ⟨t1,t2,_⟩:=Zc I1 d
 refine ⟨t1,t2,?_⟩
 rw [m.trees]
 refine bB rfl (cx (cH (thn (he pins s1 σ H1 _ I1 q1) λiv s2 ⟨y,H2,I2,ry,b,kvs,more,ey,ne,ea,eb,sz,q2⟩=>dj ?_)))
 subst ey
 obtain rfl:iv=Value.ref b:=ry
 obtain ⟨z,hd,vs,rel,dd⟩:=Yb I2.hok ea
 obtain ⟨z2,hd2,vs2,rel2,dd2⟩:=Q7 I2.hok eb
 refine cu fw dd.typeIs PySem.F.entry_dict_update (PySem.F.args_dict_update_2 _ _) (meets_dict_update (zv X.prog X.w) a b ne hd2)
  ⟨vs,vs2,dd,dd2,(by rw [←rel.length,←rel2.length];exact sz),λh' dd' _ hs=>?_⟩
 have hq:∃q,h'.get? a=some q:=let ⟨q,_,_,hq,_⟩:=dd';⟨q,hq⟩
 exact ⟨.non,_,y9 (t':=s2.toks) I2 (by rw [ea];exact True.intro) hs hq (Q6 (by have:=Qw more kvs;lia) hd (KV.merge rel2 rel) dd'),rfl,q2⟩
end
def ItDV (d:Aj)(o:Obj)(kvs:List (Key×V)):It :=
 ⟨λi H=>H d=some (.frz o (.dK kvs))∧i<kvs.length,λi H v H'=>H'=H∧∃p,kvs[i]?=some p∧v=p.2,λi H=>H d=some (.frz o (.dK kvs))∧kvs.length≤i⟩
theorem xxz {P:Ac}{w:Ah}{K:Aa}{tg:Expr}{d it:Aj}{o:Obj}{kvs:List (Key×V)}{ep:Nat}(hep:∃es,o.data=.dict es ep):Turn P w K tg (ItDV d o kvs) [it] it (λi h=>h.IsValIter it d i kvs.length ep) where
 mem:=by simp
 obj:=λi h st b hb=>by
  have e:b=it:=by simpa using hb
  subst e
  obtain ⟨ob,e,c,dd⟩:=st
  exact ⟨ob,e,λv z=>by rw [dd] at z;cases z⟩
 keep:=λi h h' st k=>let ⟨ob,e,r⟩:=st;⟨ob,k it (by simp) ob e,r⟩
 item:=by
  intro X hP hw hK hc i pins s σ H E I hf st hg
  subst hP hw hK
  obtain ⟨hq,hi⟩:=hg
  obtain ⟨z,hd,ho,vs,es,ep',rel,h3,dd⟩:=Q1 I hq
  obtain ⟨es2,h4⟩:=hep
  have:ep'=ep:=by rw [h3] at h4;cases h4;rfl
  subst this
  have e1:kvs[i]?=some kvs[i]:=aj hi
  obtain ⟨q,eq,rq⟩:=qwc rel e1
  have hl:vs.length=kvs.length:=(bu rel).symm
  obtain ⟨f0,f1,f2,f3,f4,f5⟩:=hf it (by simp)
  refine wpAny_pyNext_values_item (by rw [hl];exact st) dd eq λh' st' sb=>?_
  have I1:Inv X pins σ H { s with heap:=h' }:=I.turned (t':=s.toks) (λb o hb e=>(sb.2 b hb).trans e) f0 f1 f3 f4 f5
  rw [hl] at st'
  obtain ⟨ob,e,c,d'⟩:=id st'
  exact ⟨q,rfl,qv0 (s:={ s with heap:=h' }) e c d' ⋯ ⟨_,H,I1,rq,⟨rfl,_,e1,rfl⟩,st',λb hb=>(hf b hb).1⟩⟩
 done:=by
  intro X hP hw hK hc i pins s σ H E I hf st hg
  subst hP hw hK
  obtain ⟨hq,hi⟩:=hg
  obtain ⟨z,hd,ho,vs,es,ep',rel,h3,dd⟩:=Q1 I hq
  obtain ⟨es2,h4⟩:=hep
  have:ep'=ep:=by rw [h3] at h4;cases h4;rfl
  subst this
  have hl:vs.length=kvs.length:=(bu rel).symm
  obtain ⟨f0,f1,f2,f3,f4,f5⟩:=hf it (by simp)
  exact wpAny_pyNext_values_end (I.ok.hd hc) (by rw [hl];exact st) dd (br ⋯) λh' eb=>⟨rfl,I.turned (t':=s.toks) (λb o hb e=>eb b o hb e) f0 f1 f3 f4 f5⟩
 self:=λ_ _ _ _ _ st h=>wpAny_pyIter_valiter st h
section
variable {X:Cx}{tg l:Expr}{tl:TE}
def iDv (tl:TE):TI:=λσ H R=>tl σ H λx H1=>∃d kvs,x=.ref d∧Rd H1 d (.dK kvs)∧∀o H2,Fz H1 d o kvs H2→R (ItDV d o kvs) H2
theorem pi_dv {apos cpos:Pos}(hl:PE X l tl)(hbase:autoParam (attributeBase l "values" X.env (eval l X.env)=eval l X.env) aU4._auto_1)(hline:autoParam ((apos.endLine==cpos.line)=true) aU4._auto_1) :
  PI X tg (.Call (.Attribute l "values" apos) [] [] cpos) (iDv tl):=by
 intro pins s σ H R I h
 refine cW hbase hline (thn (hl pins s σ H _ I h) λv s1 ⟨x,H1,I1,r1,q1⟩=>?_)
 obtain ⟨d,kvs,e,rd,q⟩:=q1
 subst e
 cases r1
 obtain ⟨o,H2,fz,I2⟩:=I1.freezeRd rd
 obtain ⟨t1,t2,_⟩:=Zc I1 (.inl ⟨kvs,rd⟩)
 obtain ⟨z,hd,ho,vs,es,ep,rel,h3,dd⟩:=Q1 I2 fz.1
 have hl:vs.length=kvs.length:=(bu rel).symm
 refine ⟨"dict","dict.values",bL,fx,PySem.F.type_dict_values,t1,t2,bB rfl (dC ?_)⟩
 refine cu fx t1 PySem.F.entry_dict_values (PySem.F.args_dict_values_1 _) (meets_dict_values (zv X.prog X.w) d hd) ⟨⟨vs,dd.dictOf⟩,?_⟩
 have I3:Inv X pins σ H2 { s1 with heap:=s1.heap.push { cls:=.type "dict_values",data:=.fields #[.ref d] } }:=I2.kept (t':=s1.toks) λb o e=>ag _ e
 refine wpAny_pyIter_values (s:={ s1 with heap:=s1.heap.push { cls:=.type "dict_values",data:=.fields #[.ref d] } }) ⟨_,aw _ rfl,rfl,rfl⟩ (dd.push _) ?_
 refine ⟨_,[_],_,_,H2,rfl,I3.kept (t':=s1.toks) λb o e=>ag _ e,xxz ⟨es,h3⟩,⟨_,aw _ rfl,rfl,by rw [hl];rfl⟩,λb hb=>?_,q o H2 fz⟩
 have e:=aq.mp hb
 subst e
 exact I3.fpOk (al _) (I3.hok.fresh (al _))
end
theorem for_dk {d:Aj}{o:Obj}{cs:List (Key×V)}{g:TG}{tb:TS}{D:Ends}{σ:St}{H:Hp}(Pv:Nat→St→Hp→Prop)(h0:Pv 0 σ H)(hl:∀i σ H,i≤cs.length→Pv i σ H→H d=some (.frz o (.dK cs)))
  (hs:∀i c σ H,cs[i]?=some c→Pv i σ H→g (kV c.1) σ H λσ2 H2=>tb { D with nx:=Pv (i+1),ct:=Pv (i+1),bk:=D.nx } σ2 H2) (hd:∀σ H,Pv cs.length σ H→D.nx σ H) :
  ∃W:Nat→Nat→St→Hp→Prop,(∃m,W 0 m σ H)∧∀i m σ H,W i m σ H →
   ((ItD d o cs).stop i H∧D.nx σ H)∨((ItD d o cs).go i H∧∃N:St→Hp→Prop,(∀σ' H',N σ' H'→∃m',m'<m∧W (i+1) m' σ' H')∧∀x H',(ItD d o cs).yld i H x H'→g x σ H' λσ2 H2=>tb { D with nx:=N,ct:=N,bk:=D.nx } σ2 H2):=by
 refine ⟨λi m σ H=>m=cs.length-i∧i≤cs.length∧Pv i σ H,⟨cs.length,by simp,aD _,h0⟩,?_⟩
 rintro i m σ H ⟨rfl,hi,p⟩
 have q:=hl i σ H hi p
 by_cases hlt:i<cs.length
 ·refine .inr ⟨⟨q,hlt⟩,Pv (i+1),λσ' H' p'=>⟨cs.length-(i+1),⋯,rfl,hlt,p'⟩,?_⟩
  rintro x H' ⟨rfl,c,ec,rfl⟩
  exact hs i c σ _ ec p
 ·have e:i=cs.length:=by lia
  subst e
  exact .inl ⟨⟨q,al _⟩,hd σ H p⟩
theorem for_dv {d:Aj}{o:Obj}{cs:List (Key×V)}{g:TG}{tb:TS}{D:Ends}{σ:St}{H:Hp}(Pv:Nat→St→Hp→Prop)(h0:Pv 0 σ H)(hl:∀i σ H,i≤cs.length→Pv i σ H→H d=some (.frz o (.dK cs)))
  (hs:∀i c σ H,cs[i]?=some c→Pv i σ H→g c.2 σ H λσ2 H2=>tb { D with nx:=Pv (i+1),ct:=Pv (i+1),bk:=D.nx } σ2 H2) (hd:∀σ H,Pv cs.length σ H→D.nx σ H) :
  ∃W:Nat→Nat→St→Hp→Prop,(∃m,W 0 m σ H)∧∀i m σ H,W i m σ H →
   ((ItDV d o cs).stop i H∧D.nx σ H)∨((ItDV d o cs).go i H∧∃N:St→Hp→Prop,(∀σ' H',N σ' H'→∃m',m'<m∧W (i+1) m' σ' H')∧∀x H',(ItDV d o cs).yld i H x H'→g x σ H' λσ2 H2=>tb { D with nx:=N,ct:=N,bk:=D.nx } σ2 H2):=by
 refine ⟨λi m σ H=>m=cs.length-i∧i≤cs.length∧Pv i σ H,⟨cs.length,by simp,aD _,h0⟩,?_⟩
 rintro i m σ H ⟨rfl,hi,p⟩
 have q:=hl i σ H hi p
 by_cases hlt:i<cs.length
 ·refine .inr ⟨⟨q,hlt⟩,Pv (i+1),λσ' H' p'=>⟨cs.length-(i+1),⋯,rfl,hlt,p'⟩,?_⟩
  rintro x H' ⟨rfl,c,ec,rfl⟩
  exact hs i c σ _ ec p
 ·have e:i=cs.length:=by lia
  subst e
  exact .inl ⟨⟨q,al _⟩,hd σ H p⟩
def thw (ds:List Aj)(H:Hp):Hp:=λb=>if b∈ds then (match H b with|some (.frz _ u)=>some u|x=>x) else H b
theorem qq8 {ds:List Aj}{H:Hp}{b:Aj}(h:b∉ds):thw ds H b=H b:=ai h
theorem qqk {ds:List Aj}{H:Hp}{b:Aj}{o:Obj}{u:HO}(h:b∈ds)(e:H b=some (.frz o u)):thw ds H b=some u:=by
 unfold thw
 rw [ak h,e]
theorem wwk (ds:List Aj)(H:Hp)(b:Aj):thw ds H b=H b∨(b∈ds∧∃o u,H b=some (.frz o u)∧thw ds H b=some u):=by
 by_cases h:b∈ds
 ·by_cases z:∃o u,H b=some (.frz o u)
  ·obtain ⟨o,u,e⟩:=z
   exact .inr ⟨h,o,u,e,qqk h e⟩
  ·left
   unfold thw
   rw [ak h]
   cases e:H b with
   |none=>rfl
   |some w=>cases w <;> first | rfl | exact absurd ⟨_,_,e⟩ z
 ·exact .inl (qq8 h)
theorem Yu {ds:List Aj}{H:Hp}{b:Aj}{o:HO}(e:H b=some o)(h:∀p u,o≠.frz p u):thw ds H b=some o:=by
 rcases wwk ds H b with z|⟨_,p,u,z,_⟩
 ·rw [z];exact e
 ·rw [e] at z
  exact absurd (av z) (h _ _)
theorem thw_ok {P:Ac}{w:Ah}{ds:List Aj}{H:Hp}{h:Heap}(x:HOk P w H h):HOk P w (thw ds H) h:=λa o e=>by
 have st:∀o,ObjOk P w H h a o→ObjOk P w (thw ds H) h a o:=λo y=>y.stay (λ_ _ _ q=>q) (λb q=>Yu q λ_ _ z=>by cases z) λb xs q=>Yu q λ_ _ z=>by cases z
 rcases wwk ds H a with z|⟨_,p,u,z,z2⟩
 ·rw [z] at e
  exact st o (x a o e)
 ·rw [z2] at e
  have e:=av e
  rw [←e]
  obtain ⟨_,y⟩:=(show ObjOk P w H h a (.frz p u) from x a _ z)
  exact st u y
theorem FnOk.thaw {P:Ac}{w:Ah}{K:Aa}{mg:Str→Option Ag}{base:Heap}{CX:CXT}{k:Nat}{f:Aj}{fd:Ad}{ps:List Str}{sp:Sp}(F:FnOk P w K mg base CX k f fd ps sp) :
  FnOk P w K mg base CX k f fd ps (λvs H Q E=>sp vs H (λv H'=>∃ds,(∀d∈ds,∀o u,H d≠some (.frz o u))∧Q v (thw ds H')) E):=by
 refine ⟨λvs H Q E q=>F.len vs H _ E q,λA outer s H args us vs Q E hr he hb hv hs=>dQ (F.run A outer s H args us vs _ E hr he hb hv hs) λr s' h=>?_⟩
 cases r with
 |error e=>exact h
 |ok fl =>
  cases fl with
  |ret u =>
   obtain ⟨v,H',os,bare,un,hok,rv,ds,nf,q⟩:=h
   refine ⟨v,thw ds H',os,bare,⟨un.keep,un.slot,λb o e n hx=>?_,un.there,λb xs e=>Yu (un.tups b xs e) (λ_ _ z=>by cases z),λb o w' e=>?_,λb p e=>?_⟩,thw_ok hok,rv,q⟩
   ·have n':=un.free b o e n hx
    rcases wwk ds H' b with z|⟨_,p,u,z,_⟩
    ·rw [z];exact n'
    ·rw [n'] at z;cases z
   ·have e':=un.frzs b o w' e
    rw [qq8 (λz=>nf b z o w' e)]
    exact e'
   ·obtain ⟨more,e'⟩:=un.tbls b p e
    exact ⟨more,Yu e' λ_ _ z=>by cases z⟩
  |next=>exact h
  |brk=>exact h
  |cont=>exact h
end L2
namespace L2
open PySem PySem.Spec PyProof.Rows PySem.W
section
variable {X:Cx}
theorem xw0:∀(qs:List Ag) (ss:List Str),qs.length=ss.length→(∀(i:Nat) v,qs[i]?=some v→∃x t,ss[i]?=some x∧v=Value.str x t)→StrsR qs ss:=by
 intro qs
 induction qs with
 |nil =>
  intro ss e _
  cases ss with
  |nil=>exact .nil
  |cons _ _=>simp at e
 |cons v qs ih =>
  intro ss e hh
  cases ss with
  |nil=>simp at e
  |cons x ss =>
   obtain ⟨x',t,e1,e2⟩:=hh 0 v rfl
   cases e1
   exact .cons ⟨t,e2⟩ (ih ss (by simpa using e) λi v ev=>hh (i+1) v ev)
theorem qv9:∀ {qs:List Ag} {ss:List Str},StrsR qs ss→Vals (ss.map V.str) qs
 |_,_,.nil=>.nil
 |_,_,.cons h t=>.cons h (qv9 t)
theorem qkx:∀ {ss:List Str} {qs:List Ag},Vals (ss.map V.str) qs→StrsR qs ss
 |[],_,h=>by cases h;exact .nil
 |s::ss,_,h=>by
  cases h with
  |cons h t=>exact .cons h (qkx t)
theorem Zr (hc:X.calm=true):j4 X (.type "list") (λxs H Q=>∃(a:Aj) (kvs:List (Key×V)) (ss:List Str),xs=[V.ref a]∧Rd H a (.dK kvs)∧kvs.map (·.1)=ss.map Sum.inr∧∀p,H p=none→Q (.ref p) (upd H p (.lst (ss.map V.str)))):=by
 intro pins s σ H xs us Q I r h
 obtain ⟨a,kvs,ss,rfl,e,hk,q⟩:=h
 obtain ⟨u,rfl,rx⟩:=uh r
 cases (show u=Value.ref a from rx)
 obtain ⟨z,lo,vs,rel,dd⟩:=Q7 I.hok e
 obtain ⟨ep,dd⟩:=dd.dictAt
 have hl:vs.length=kvs.length:=(bu rel).symm
 have hls:kvs.length=ss.length:=by have:=bC List.length hk;simpa using this
 refine kdl_call (kdl_dict lo) (I.ok.hd hc) dd (by rw [hl];exact z) λh' tk acc' c' hk' hD hacc=>?_
 have tS:StrsR acc'.toList ss:=xw0 _ _ (by rw [bq,hacc.1,hl,hls]) λi v ev=>by
  obtain ⟨k,x,e1,e2⟩:=hacc.2 i v (by rw [←ck];exact ev)
  have hi:=(aN.mp e1).1
  have ek:kvs[i]?=some kvs[i]:=aj ⋯
  obtain ⟨qv,e3,_⟩:=qwc rel ek
  rw [e1] at e3
  have e4:=bC (λl=>l[i]?) hk
  simp only [aE,ek,cE] at e4
  have hs:ss[i]?=some ss[i]:=aj ⋯
  rw [hs,cE] at e4
  have e5:=av e4
  have e6:k=kvs[i].1:=bC Prod.fst (av e3)
  rw [e6,e5] at e2
  obtain ⟨t,rfl⟩:=(show ∃t,v=Value.str ss[i] t from wzr e2)
  exact ⟨ss[i],t,hs,rfl⟩
 exact ⟨.ref _,_,I.laid (t':=tk) hk' (al _) (show ObjOk X.prog X.w _ h' _ (.lst (ss.map V.str)) from ⟨by rw [aa,←hls];exact z,acc'.toList,c',qv9 tS,by simpa using hD⟩),rfl,q _ (I.hok.fresh (al _))⟩
theorem Qz:j4 X (.builtin "sorted") (λxs H Q=>∃(a:Aj) (ss:List Str),xs=[.ref a]∧SqL X.K H a (ss.map V.str)∧ss.length<64 ∧
  ∀(l:Aj) (ms:List Str),H l=none→ms.Perm ss→ms.Pairwise (λx y=>¬ y.cps.toList<x.cps.toList)→Q (.ref l) (upd H l (.lst (ms.map V.str)))):=by
 intro pins s σ H xs us Q I r h
 obtain ⟨a,ss,rfl,hS,hn,q⟩:=h
 obtain ⟨u,rfl,ru⟩:=uh r
 cases (show u=Value.ref a from ru)
 have sz:(100001:Nat)<sizeLine:=by decide
 obtain ⟨qs,rv,pl,hz'⟩:=I.list hS
 have hil:s.heap.IsList a qs.toArray:=pl.isList
 have tS:=qkx rv
 have hls:qs.length=ss.length:=by rw [←rv.length,aa]
 refine dA kind_sorted plain_sorted entry_sorted (args_sorted1 _) ?_
 unfold Builtin.«sorted»
 refine ac (m:=checkCount "sorted" 1 1 _) (ao ?_)
 refine ac (collect_list hil ?_ ⋯)
 refine ac (fu ?_ ⋯)
 have hk':∀b o,s.heap.get? b=some o→((s.heap.push (seqObj "list" #[] 0)).update s.heap.objs.size (Obj.mapSeq (·++qs.toArray))).get? b=some o:=λb o q=>by
  have hlt:b<s.heap.objs.size:=am q
  rw [eP _ _ _ _ (az hlt),Heap.get?_push_ne _ _ _ (az hlt)]
  exact q
 have hz:s.heap.objs.size≤((s.heap.push (seqObj "list" #[] 0)).update s.heap.objs.size (Obj.mapSeq (·++qs.toArray))).objs.size:=by rw [Heap.size_update,size_push'];lia
 generalize ((s.heap.push (seqObj "list" #[] 0)).update s.heap.objs.size (Obj.mapSeq (·++qs.toArray)))=h' at hk' hz
 obtain ⟨tk,etk⟩:∃tk,tk=s.toks:=⟨_,rfl⟩
 have hoL:(h'.push (seqObj "list" qs.toArray 0)).get? h'.objs.size=some (seqObj "list" qs.toArray 0):=aw _ rfl
 refine ac (cn (dv slot_list_sort ⟨_,hoL,rfl⟩ entry_list_sort ?_ (args_list_sort _)))
 refine qzk (s:={ s with heap:=h'.push (seqObj "list" qs.toArray 0) }) hoL ⋯ tS λil pm up=>⟨_,rfl,ao ⟨_,rfl,?_⟩⟩
 obtain ⟨e,he⟩:=Zk hoL (il.map λi=>qs.getD i Value.none).toArray
 have nl:H h'.objs.size=none:=I.hok.fresh hz
 have hin:∀i∈il,i<ss.length:=λi hi=>by have:=aW.mp (pm.mem_iff.mp hi);lia
 have vals:∀(il:List Nat),(∀i∈il,i<ss.length)→Vals ((il.map λi=>ss.getD i Str.empty).map V.str) (il.map λi=>qs.getD i Value.none):=by
  intro il
  induction il with
  |nil=>intro _;exact .nil
  |cons i il ih =>
   intro hh
   obtain ⟨x,t,e1,e2⟩:=tS.at (hh i (.head _))
   refine .cons ?_ (ih λj hj=>hh j (.tail _ hj))
   show RelV (V.str (ss.getD i Str.empty)) (qs.getD i Value.none)
   rw [e2,ar,e1]
   exact ⟨t,rfl⟩
 have pms:(il.map λi=>ss.getD i Str.empty).Perm ss:=by
  have h1:=pm.map λi=>ss.getD i Str.empty
  have h2:((List.range qs.length).map λi=>ss.getD i Str.empty)=ss:=by
   refine fk λi=>?_
   rw [aE]
   by_cases c:i<ss.length
   ·rw [cV ⋯,aj c]
    show some (ss.getD i Str.empty)=_
    rw [ar,aj c]
    rfl
   ·rw [br (by rw [aM];lia),br ⋯]
    rfl
  rw [h2] at h1
  exact h1
 refine ⟨.ref _,_,I.laid (t':=s.toks) (λb u hb=>Wz (ag _ (hk' b u hb)) (az (aH (am hb) hz)) _) hz (show ObjOk X.prog X.w _ _ _ (.lst ((il.map λi=>ss.getD i Str.empty).map V.str)) from ⟨?_,_,e,vals il hin,he⟩),rfl,q _ _ nl pms (bJ.mpr up)⟩
 rw [aa,pms.length_eq]
 lia
end
theorem wk3 {M:List Nat}{x:Str}{tt:TT}{te:TE}{σ:St}{H:Hp}{Q:VK}(c:Nat→Bool)(hn:x.cps.size≤1000000)
  (ht:∀(i:Nat) (H':Hp) (R:Bool→Hp→Prop),i<x.cps.size→Same H H'→R (c i) H'→tt (jk M σ (some (.str ⟨#[x.cps.getD i 0]⟩))) H' R)
  (he:∀(i:Nat) (H':Hp) (R:VK),i<x.cps.size→c i=true→Same H H'→R (.str ⟨#[x.cps.getD i 0]⟩) H'→te (jk M σ (some (.str ⟨#[x.cps.getD i 0]⟩))) H' R)
  (k:∀p ys,H p=none→ys.length=((List.range x.cps.size).filter c).length→Q (.ref p) (upd H p (.lst ys))):qyh (ItS x) M tt te σ H Q:=by
 intro p np
 refine ⟨λi m ys H2=>i≤x.cps.size∧m=x.cps.size-i∧ys.length=((List.range i).filter c).length∧H2=upd H p (.lst ys),⟨x.cps.size,aD _,rfl,rfl,rfl⟩,?_⟩
 rintro i m ys H2 ⟨hi,rfl,el,rfl⟩
 refine ⟨qc,?_,?_⟩
 ·have:=bG c (List.range i)
  rw [aM] at this
  have:(1000000:Nat)<sizeLine:=by decide
  lia
 ·by_cases hlt:i<x.cps.size
  ·refine .inr ⟨hlt,?_⟩
   rintro v H3 ⟨rfl,rfl⟩
   refine ht i (upd H p (.lst ys)) _ hlt (Same.upd np) ?_
   cases hc:c i with
   |true =>
    refine jj (he i _ _ hlt hc (Same.upd np) ⟨qc,x.cps.size-(i+1),⋯,⋯,rfl,?_,?_⟩)
    ·rw [cb,cL,aP,aP,el]
     simp [hc]
    ·rw [yz]
   |false =>
    refine vg ⟨qc,x.cps.size-(i+1),⋯,⋯,rfl,?_,rfl⟩
    rw [cb,cL,aP,el]
    simp [hc]
  ·refine .inl ⟨by show x.cps.size≤i;lia,?_⟩
   have:i=x.cps.size:=by lia
   subst this
   exact k p ys np el
end L2
namespace L2
open PySem
theorem xxh {x:Str}{c n:Nat}(hx:∀d∈x.cps,d<n)(h:(Builtin.Str.occurrences x ⟨#[c]⟩ 0 x.length 1).isEmpty=false):c<n:=by
 by_cases z:c<n
 ·exact z
 ·exfalso
  have no:∀i,Builtin.Str.subAt x ⟨#[c]⟩ i=false:=λi=>by
   cases e:Builtin.Str.subAt x ⟨#[c]⟩ i with
   |false=>rfl
   |true =>
    exfalso
    have m:c∈(⟨#[c]⟩:Str).cps:=by simp
    rw [←dH.mp e] at m
    obtain ⟨k,hk,ek⟩:=Array.mem_extract_iff_getElem.mp m
    exact z (by rw [←ek];exact hx _ (Array.getElem_mem _))
  have key:∀(l:List Nat) (k:Nat),(forIn (m:=Id) l ((#[]:Array Nat),k) (StrLaws.occBody x ⟨#[c]⟩ x.length 1)).run.fst=#[]:=by
   intro l
   induction l with
   |nil=>exact λ_=>rfl
   |cons j r ih =>
    intro k
    rw [List.forIn_cons]
    have nj:¬ ((((#[]:Array Nat).size<1∧k≤j)∧j+(⟨#[c]⟩:Str).length≤x.length)∧Builtin.Str.subAt x ⟨#[c]⟩ j=true):=λq=>by have:=q.2;rw [no j] at this;cases this
    have eb:StrLaws.occBody x ⟨#[c]⟩ x.length 1 j ((#[]:Array Nat),k)=pure (.yield ((#[]:Array Nat),k)):=by
     unfold StrLaws.occBody
     exact ai nj
    rw [eb]
    exact ih k
  rw [StrLaws.occ_eq,key] at h
  cases h
end L2
namespace L2
open PySem PySem.Spec PyProof.Rows
theorem qxc {lo:Int}{n:Nat}{g:TG}{tb:TS}{D:Ends}{σ:St}{H:Hp}(Pv:Nat→St→Hp→Prop)(h0:Pv 0 σ H)
  (hs:∀B R i σ H,i<n→Pv i σ H→g (.int (lo+i)) σ H λσ2 H2=>tb ⟨Pv (i+1),R,B,Pv (i+1)⟩ σ2 H2) (hd:∀σ H,Pv n σ H→D.nx σ H) :
  ∃W:Nat→Nat→St→Hp→Prop,(∃m,W 0 m σ H)∧∀i m σ H,W i m σ H →
   ((Itr lo n).stop i H∧D.nx σ H)∨((Itr lo n).go i H∧∃N:St→Hp→Prop,(∀σ' H',N σ' H'→∃m',m'<m∧W (i+1) m' σ' H')∧∀x H',(Itr lo n).yld i H x H'→g x σ H' λσ2 H2=>tb { D with nx:=N,ct:=N,bk:=D.nx } σ2 H2):=Ws Pv h0 (hs _ _) hd
theorem qvn {K:Aa}{a:Aj}{xs:List V}{g:TG}{tb:TS}{D:Ends}{σ:St}{H:Hp}(Pv:Nat→St→Hp→Prop)(h0:Pv 0 σ H)(hl:∀i σ H,i≤xs.length→Pv i σ H→SqL K H a xs)
  (hs:∀B R i x σ H,xs[i]?=some x→Pv i σ H→g x σ H λσ2 H2=>tb ⟨Pv (i+1),R,B,Pv (i+1)⟩ σ2 H2) (hd:∀σ H,Pv xs.length σ H→D.nx σ H) :
  ∃W:Nat→Nat→St→Hp→Prop,(∃m,W 0 m σ H)∧∀i m σ H,W i m σ H →
   ((Itl K a).stop i H∧D.nx σ H)∨((Itl K a).go i H∧∃N:St→Hp→Prop,(∀σ' H',N σ' H'→∃m',m'<m∧W (i+1) m' σ' H')∧∀x H',(Itl K a).yld i H x H'→g x σ H' λσ2 H2=>tb { D with nx:=N,ct:=N,bk:=D.nx } σ2 H2):=wqx Pv h0 hl (hs _ _) hd
theorem wzy {d:Aj}{o:Obj}{cs:List (Key×V)}{g:TG}{tb:TS}{D:Ends}{σ:St}{H:Hp}(Pv:Nat→St→Hp→Prop)(h0:Pv 0 σ H)(hl:∀i σ H,i≤cs.length→Pv i σ H→H d=some (.frz o (.dK cs)))
  (hs:∀B R i c σ H,cs[i]?=some c→Pv i σ H→g (kV c.1) σ H λσ2 H2=>tb ⟨Pv (i+1),R,B,Pv (i+1)⟩ σ2 H2) (hd:∀σ H,Pv cs.length σ H→D.nx σ H) :
  ∃W:Nat→Nat→St→Hp→Prop,(∃m,W 0 m σ H)∧∀i m σ H,W i m σ H →
   ((ItD d o cs).stop i H∧D.nx σ H)∨((ItD d o cs).go i H∧∃N:St→Hp→Prop,(∀σ' H',N σ' H'→∃m',m'<m∧W (i+1) m' σ' H')∧∀x H',(ItD d o cs).yld i H x H'→g x σ H' λσ2 H2=>tb { D with nx:=N,ct:=N,bk:=D.nx } σ2 H2):=for_dk Pv h0 hl (hs _ _) hd
end L2
namespace L2
open PySem PySem.Spec PyProof.Rows
theorem ht_gen {o:Expr}{m:Str}{apos pos:Pos}{e:Expr}{es:List Expr}{env:Env}(hb:attributeBase o m env (eval o env)=eval o env)(hf:methodCallForm ((e::es).length+0) (backTo pos (starEach (e::es) env)) (backToKw pos (keywordEach [] env))=true)(hp:methodCallPos true o env apos pos=pure pos) :
  eval (.Call (.Attribute o m apos) (e::es) [] pos) env=(do
   let ov ←eval o env
   standAt apos.atName
   let (f,first) ←holding [ov] (getMethod ov m (do return (←importBound o env).getD true))
   callWith pos f first (backTo pos (starEach (e::es) env)) (backToKw pos (keywordEach [] env))):=by
 rw [arm_eval_Call,hb]
 unfold methodCall
 rw [show (e::es).length+([]:List Keyword).length=(e::es).length+0 from rfl,hf,hp]
 rfl
section
variable {X:Cx}{C:Aj}{x m:Str}{k:Nat}{sp:Sp}{E:St→XK}{p pos apos:Pos}{e o:Expr}{es:List Expr}{ta te:TE}{t:TA}
theorem xb {v j p'}(ha:PE X (.Constant v j p') te)(hr:PA X es t):PA X (.Constant v j p'::es) (j6 te t):=xm ha hr rfl
theorem wz {v p'}(ha:PE X (.Name v p') te)(hr:PA X es t):PA X (.Name v p'::es) (j6 te t):=xm ha hr rfl
theorem pa_cL {v p'}(ha:PE X (.List v p') te)(hr:PA X es t):PA X (.List v p'::es) (j6 te t):=xm ha hr rfl
theorem qky {v j p'}(ha:PE X (.Tuple v j p') te)(hr:PA X es t):PA X (.Tuple v j p'::es) (j6 te t):=xm ha hr rfl
theorem vd {a b c p'}(ha:PE X (.Call a b c p') te)(hr:PA X es t):PA X (.Call a b c p'::es) (j6 te t):=xm ha hr rfl
theorem vk {a b c p'}(ha:PE X (.BinOp a b c p') te)(hr:PA X es t):PA X (.BinOp a b c p'::es) (j6 te t):=xm ha hr rfl
theorem xqq {a b p'}(ha:PE X (.UnaryOp a b p') te)(hr:PA X es t):PA X (.UnaryOp a b p'::es) (j6 te t):=xm ha hr rfl
theorem zq {a b p'}(ha:PE X (.Subscript a b p') te)(hr:PA X es t):PA X (.Subscript a b p'::es) (j6 te t):=xm ha hr rfl
def qk8:List Expr→Bool
 |[]=>true
 |.Starred _ _::_=>false
 |_::r=>qk8 r
theorem Jz {env:Env}:∀ {es:List Expr},qk8 es=true→starEach es env=es.map λe=>(false,eval e env)
 |[],_=>rfl
 |e::r,h=>by
  cases e
  case Starred=>cases h
  all_goals exact bC _ (Jz (es:=r) h)
theorem Y8 {pos:Pos}:∀ {l:List (Bool×Sem Ag)},(∀q∈l,q.1=false)→(backTo pos l).all (!·.1)=true∧(backTo pos l).any (·.1)=false:=by
 intro l h
 have key:∀q∈backTo pos l,q.1=false:=by
  intro q hq
  unfold backTo at hq
  obtain ⟨q',hq',rfl⟩:=ax.mp hq
  exact h q' hq'
 exact ⟨bP.mpr λq hq=>by rw [key q hq];rfl,List.any_eq_false.mpr λq hq=>by rw [key q hq];decide⟩
theorem x8 (he:PE X o ta)(cl:Cls X.K C)(c:MCal X.prog X.w X.K X.mg X.base C m k sp)(hr:Room k X.A)(hx:y6 X E)(ha:PA X (e::es) t)(hn:autoParam (qk8 (e::es)=true) aU4._auto_1)(hl:autoParam ((e::es).length+0<30) aU1._auto_1)
  (hb:autoParam (∀z,attributeBase o m X.env z=z) aU3._auto_1) (hp:autoParam (methodCallPos true o X.env apos pos=pure pos) aU4._auto_1):PE X (.Call (.Attribute o m apos) (e::es) [] pos) (qxz C m sp E ta t):=by
 have h1:starEach (e::es) X.env=(false,eval e X.env)::starEach es X.env:=by
  cases e
  case Starred=>cases hn
  all_goals rfl
 have h2:∀q∈starEach (e::es) X.env,q.1=false:=λq hq=>by
  rw [Jz hn] at hq
  obtain ⟨z,_,rfl⟩:=ax.mp hq
  rfl
 refine wjx he cl c hr hx ha h1 (Y8 λq hq=>h2 q (by rw [h1];exact au _ hq)).2 (ht_gen (hb _) ?_ hp)
 unfold methodCallForm
 rw [(Y8 (pos:=pos) h2).1]
 exact aX hl
theorem wc (c:Cal X.prog X.w X.K X.mg X.base x k sp)(hr:Room k X.A)(hg:Gl X x)(hx:y6 X E)(ha:PA X (e::es) t)(hn:autoParam (qk8 (e::es)=true) aU4._auto_1)(hdb:autoParam ((x==("__debug__" : Str))=false) aU1._auto_1):PE X (.Call (.Name x p) (e::es) [] pos) (wwj sp E t):=by
 have h1:starEach (e::es) X.env=(false,eval e X.env)::starEach es X.env:=by
  cases e
  case Starred=>cases hn
  all_goals rfl
 have h2:∀q∈starEach (e::es) X.env,q.1=false:=λq hq=>by
  rw [Jz hn] at hq
  obtain ⟨z,_,rfl⟩:=ax.mp hq
  rfl
 exact qxw c hr hg hx ha hdb h1 (Y8 λq hq=>h2 q (by rw [h1];exact au _ hq)).2
theorem wCA (c:Cal X.prog X.w X.K X.mg X.base x k sp)(ha:PA X (e::es) t)(hr:Room k X.A:=by exact Room.mono (by assumption) ⋯)(hg:autoParam (Gl X x) aU4._auto_1)(hx:y6 X E:=by exact qf)(hn:autoParam (qk8 (e::es)=true) aU4._auto_1)(hdb:autoParam ((x==("__debug__" : Str))=false) aU1._auto_1):PE X (.Call (.Name x p) (e::es) [] pos) (wwj sp E t):=wc c hr hg hx ha hn hdb
end
end L2
namespace L2
open PySem PySem.Spec PyProof.Rows
def rSlS:V→Option Int→Option Int→Hp→VK→Prop:=λx lo hi H Q=>∃z,x=.str z∧z.length≤sizeLine∧Q (.str (Txt.slice z lo hi)) H
theorem wyp {X:Cx}:SlR X rSlS:=by
 intro pins s σ H x v vl vu lo hi sl Q I rx hs pl pu h
 obtain ⟨z,rfl,hz,q⟩:=h
 obtain ⟨t,rfl⟩:=rx
 have fin:∀t' k,EP X pins σ Q (.str (Txt.slice z lo hi) t') { s with toks:=k }:=λt' k=>⟨.str (Txt.slice z lo hi),H,I.tok _,⟨_,rfl⟩,q⟩
 have le:=bD (Txt.slice_le z lo hi) hz
 obtain ⟨o,ho,hc,hd⟩:=hs
 refine ⟨"str",_,F.slot_str_getitem.lookup,typeIs_str _ _ _,?_⟩
 cases pl with
 |none =>
  cases pu with
  |none=>exact cY (l:=none) (u:=none) (st:=none) ⟨o,ho,hc,hd⟩ rfl (eN ⟨le,fin⟩)
  |int j uj=>exact cY (l:=none) (u:=some (j,uj)) (st:=none) ⟨o,ho,hc,hd⟩ rfl (eN ⟨le,fin⟩)
 |int i ui =>
  cases pu with
  |none=>exact cY (l:=some (i,ui)) (u:=none) (st:=none) ⟨o,ho,hc,hd⟩ rfl (eN ⟨le,fin⟩)
  |int j uj=>exact cY (l:=some (i,ui)) (u:=some (j,uj)) (st:=none) ⟨o,ho,hc,hd⟩ rfl (eN ⟨le,fin⟩)
end L2
namespace My
open PySem L2
def top (i:Nat):Stmt:=PySem.Challenge.pw_crookroad_k54_whole_twins.main.body.getD i (.Pass ⟨0,0,0,0⟩)
abbrev zay:Stmt:=top 16
theorem _root_.aU7 (h:True:=by decide +kernel):True:=h
theorem scA{N P:List Str}{c:Scope}(a:autoParam (c.kind=.function) aU4._auto_1)(b:autoParam (c.isCoroutine=false) aU4._auto_1)(d:autoParam (c.isGenerator=false) aU4._auto_1)(e:autoParam (N.Nodup) aU7._auto_1)(f:autoParam (N.take P.length=P) aU4._auto_1)(g:autoParam (∀x∈P,c.names.lookup x=some .local∨c.names.lookup x=some .cell) aU7._auto_1)(h:autoParam (∀y∈c.names,y.2≠.free) aU7._auto_1):FnScope N P c:=⟨a,b,d,e,f,g,h⟩
theorem qwb:FnScope ["number","fewest","most"] ["number","fewest","most"] (wg zay):=scA
theorem qw8:Z3 "check_count" zay ["number","fewest","most"] []:=λ_ _ _ _ _ _ _ u h=>match u,h with|[_,_,_],_=>gI rfl rfl
theorem qx5:Z3 "check_count" zay ["number","fewest","most"] [.none]:=λ_ _ _ _ _ _ _ us hl=>by
 have h2:us.length=2:=by simpa using hl
 match us,h2 with
 |[_,_],_=>exact gI rfl rfl
abbrev za7:Stmt:=top 18
theorem qqz:FnScope ["bottom"] ["bottom"] (wg za7):=scA
theorem qqx:zj "check_bottom" za7 ["bottom"]:=λ_ _ _ _ _ _ _ h=>bA1 h λ_=>rfl
abbrev za8:Stmt:=top 19
theorem Yd:FnScope ["one","other"] ["one","other"] (wg za8):=scA
theorem Z8:zj "common_divisor" za8 ["one","other"]:=λ_ _ _ _ _ _ _ h=>bA2 h λ_ _=>rfl
abbrev za9:Stmt:=top 20
theorem wvn:FnScope ["top","bottom","divisor"] ["top","bottom"] (wg za9):=scA
theorem wkc:zj "lowest" za9 ["top","bottom"]:=λ_ _ _ _ _ _ _ h=>bA2 h λ_ _=>rfl
abbrev zba:Stmt:=top 21
theorem xxw:FnScope ["one","other"] ["one","other"] (wg zba):=scA
theorem xxc:zj "less" zba ["one","other"]:=λ_ _ _ _ _ _ _ h=>bA2 h λ_ _=>rfl
abbrev zbb:Stmt:=top 25
theorem wjm:FnScope ["road","start","places","here"] ["road","start"] (wg zbb):=scA
theorem wyn:zj "trace" zbb ["road","start"]:=λ_ _ _ _ _ _ _ h=>bA2 h λ_ _=>rfl
abbrev zbc:Stmt:=top 26
theorem xxq:FnScope ["points","turn","many"] ["points","turn","many"] (wg zbc):=scA
theorem xq3:zj "spot" zbc ["points","turn","many"]:=λ_ _ _ _ _ _ _ h=>bA3 h λ_ _ _=>rfl
abbrev zbd:Stmt:=top 27
theorem wku:FnScope ["place","turn","size","many","times"] ["place","turn","size","many"] (wg zbd):=scA
theorem wkd:zj "led_to" zbd ["place","turn","size","many"]:=λ_ _ _ _ _ _ _ h=>bA4 h λ_ _ _ _=>rfl
abbrev zbe:Stmt:=top 30
theorem wwp:FnScope ["heights","width"] ["heights"] (wg zbe):=scA
theorem wwr:zj "is_line" zbe ["heights"]:=λ_ _ _ _ _ _ _ h=>bA1 h λ_=>rfl
abbrev zbf:Stmt:=zd (top 31) 0
theorem Y7:FnScope ["self","heights"] ["self","heights"] (wg zbf):=scA
theorem Jx:zc "__init__" "Road.__init__" zbf ["self","heights"]:=λ_ _ _ _ _ _ _ h=>bA2 h λ_ _=>rfl
abbrev zbg:Stmt:=zd (top 31) 1
theorem qvv:FnScope ["self"] ["self"] (wg zbg):=scA
theorem qzf:zc "width" "Road.width" zbg ["self"]:=λ_ _ _ _ _ _ _ h=>bA1 h λ_=>rfl
abbrev zbh:Stmt:=zd (top 31) 2
theorem J1:FnScope ["self"] ["self"] (wg zbh):=scA
theorem Jf:zc "corners" "Road.corners" zbh ["self"]:=λ_ _ _ _ _ _ _ h=>bA1 h λ_=>rfl
abbrev zbi:Stmt:=zd (top 31) 3
theorem qjj:FnScope ["self","stretch"] ["self","stretch"] (wg zbi):=scA
theorem qj7:zc "ends" "Road.ends" zbi ["self","stretch"]:=λ_ _ _ _ _ _ _ h=>bA2 h λ_ _=>rfl
abbrev zbj:Stmt:=zd (top 31) 6
theorem Jm:FnScope ["self","point","top","bottom"] ["self","point"] (wg zbj):=scA
theorem qqw:zc "on_road" "Road.on_road" zbj ["self","point"]:=λ_ _ _ _ _ _ _ h=>bA2 h λ_ _=>rfl
abbrev zbk:Stmt:=zd (top 31) 7
theorem wxb:FnScope ["self","point","top","bottom","stretch","left","right","beyond"] ["self","point"] (wg zbk):=scA
theorem ww3:zc "at" "Road.at" zbk ["self","point"]:=λ_ _ _ _ _ _ _ h=>bA2 h λ_ _=>rfl
abbrev zbl:Stmt:=zd (top 33) 0
theorem Zd:FnScope ["self","whose","point","times"] ["self","whose","point","times"] (wg zbl):=scA
theorem Zh:zc "__init__" "Walker.__init__" zbl ["self","whose","point","times"]:=λ_ _ _ _ _ _ _ h=>bA4 h λ_ _ _ _=>rfl
abbrev zbm:Stmt:=zd (top 33) 1
theorem qxu:FnScope ["self","road","many","points","turn","times","place","point","led"] ["self","road","many"] (wg zbm):=scA
theorem qxj:zc "gone" "Walker.gone" zbm ["self","road","many"]:=λ_ _ _ _ _ _ _ h=>bA3 h λ_ _ _=>rfl
abbrev zbn:Stmt:=top 34
theorem wqd:FnScope ["whose","point"] ["whose","point"] (wg zbn):=scA
theorem wqw:zj "set_down" zbn ["whose","point"]:=λ_ _ _ _ _ _ _ h=>bA2 h λ_ _=>rfl
abbrev zbo:Stmt:=top 39
theorem wxt:FnScope ["name"] ["name"] (wg zbo):=scA
theorem wwy:zj "is_name" zbo ["name"]:=λ_ _ _ _ _ _ _ h=>bA1 h λ_=>rfl
abbrev zbp:Stmt:=top 40
theorem Yj:FnScope ["name","things"] ["name","things"] (wg zbp):=scA
theorem Yh:zj "check_new_name" zbp ["name","things"]:=λ_ _ _ _ _ _ _ h=>bA2 h λ_ _=>rfl
abbrev zbq:Stmt:=top 41
theorem wq4:FnScope ["things","changes","before","name","thing"] ["things","changes"] (wg zbq):=scA
theorem quq:zj "exchange" zbq ["things","changes"]:=λ_ _ _ _ _ _ _ h=>bA2 h λ_ _=>rfl
abbrev zbr:Stmt:=zd (top 42) 0
theorem Z1:FnScope ["self"] ["self"] (wg zbr):=scA
theorem Z2:zc "__init__" "House.__init__" zbr ["self"]:=λ_ _ _ _ _ _ _ h=>bA1 h λ_=>rfl
abbrev zbs:Stmt:=zd (top 42) 1
theorem Q8:FnScope ["self","name"] ["self","name"] (wg zbs):=scA
theorem Wb:zc "road_called" "House.road_called" zbs ["self","name"]:=λ_ _ _ _ _ _ _ h=>bA2 h λ_ _=>rfl
abbrev zbt:Stmt:=zd (top 42) 2
theorem Qs:FnScope ["self","name"] ["self","name"] (wg zbt):=scA
theorem Q3:zc "walker_called" "House.walker_called" zbt ["self","name"]:=λ_ _ _ _ _ _ _ h=>bA2 h λ_ _=>rfl
abbrev zbu:Stmt:=zd (top 42) 3
theorem W7:FnScope ["self","whose"] ["self","whose"] (wg zbu):=scA
theorem W6:zc "walkers_on" "House.walkers_on" zbu ["self","whose"]:=λ_ _ _ _ _ _ _ h=>bA2 h λ_ _=>rfl
abbrev zbv:Stmt:=zd (top 42) 4
theorem qy9:FnScope ["self","roads","walkers"] ["self","roads","walkers"] (wg zbv):=scA
theorem qum:zc "do" "House.do" zbv ["self","roads","walkers"]:=λ_ _ _ _ _ _ _ h=>bA3 h λ_ _ _=>rfl
abbrev zbw:Stmt:=zd (top 42) 5
theorem qkt:FnScope ["self","name","heights"] ["self","name","heights"] (wg zbw):=scA
theorem qkg:zc "lay" "House.lay" zbw ["self","name","heights"]:=λ_ _ _ _ _ _ _ h=>bA3 h λ_ _ _=>rfl
abbrev zbx:Stmt:=zd (top 42) 6
theorem qzr:FnScope ["self","name","corner","height","heights"] ["self","name","corner","height"] (wg zbx):=scA
theorem qvw:zc "bend" "House.bend" zbx ["self","name","corner","height"]:=λ_ _ _ _ _ _ _ h=>bA4 h λ_ _ _ _=>rfl
abbrev zby:Stmt:=zd (top 42) 7
theorem qzu:FnScope ["self","name","height","heights"] ["self","name","height"] (wg zby):=scA
theorem qzx:zc "widen" "House.widen" zby ["self","name","height"]:=λ_ _ _ _ _ _ _ h=>bA3 h λ_ _ _=>rfl
abbrev zbz:Stmt:=zd (top 42) 8
theorem qqq:FnScope ["self","name","left","end"] ["self","name"] (wg zbz):=scA
theorem Jd:zc "narrow" "House.narrow" zbz ["self","name"]:=λ_ _ _ _ _ _ _ h=>bA2 h λ_ _=>rfl
abbrev zb0:Stmt:=zd (top 42) 9
theorem qxf:FnScope ["self","name"] ["self","name"] (wg zb0):=scA
theorem qxk:zc "clear" "House.clear" zb0 ["self","name"]:=λ_ _ _ _ _ _ _ h=>bA2 h λ_ _=>rfl
abbrev zb1:Stmt:=zd (top 42) 10
theorem qwd:FnScope ["self","name","whose","point","road","here"] ["self","name","whose","point"] (wg zb1):=scA
theorem qwr:zc "place" "House.place" zb1 ["self","name","whose","point"]:=λ_ _ _ _ _ _ _ h=>bA4 h λ_ _ _ _=>rfl
abbrev zb2:Stmt:=zd (top 42) 11
theorem qx8:FnScope ["self","name"] ["self","name"] (wg zb2):=scA
theorem qx3:zc "leave" "House.leave" zb2 ["self","name"]:=λ_ _ _ _ _ _ _ h=>bA2 h λ_ _=>rfl
abbrev zb3:Stmt:=zd (top 42) 12
theorem quu:FnScope ["self","name","many","walker","gone"] ["self","name","many"] (wg zb3):=scA
theorem qu2:zc "go" "House.go" zb3 ["self","name","many"]:=λ_ _ _ _ _ _ _ h=>bA3 h λ_ _ _=>rfl
abbrev zb4:Stmt:=zd (top 42) 13
theorem Z4:FnScope ["self","whose","many","road","gone"] ["self","whose","many"] (wg zb4):=scA
theorem Yg:zc "together" "House.together" zb4 ["self","whose","many"]:=λ_ _ _ _ _ _ _ h=>bA3 h λ_ _ _=>rfl
abbrev zb5:Stmt:=zd (top 42) 14
theorem Zu:FnScope ["self","roads","walkers"] ["self"] (wg zb5):=scA
theorem Zm:zc "take_back" "House.take_back" zb5 ["self"]:=λ_ _ _ _ _ _ _ h=>bA1 h λ_=>rfl
abbrev zb6:Stmt:=zd (top 42) 16
theorem qzb:FnScope ["self"] ["self"] (wg zb6):=scA
theorem qwj:zc "deeds" "House.deeds" zb6 ["self"]:=λ_ _ _ _ _ _ _ h=>bA1 h λ_=>rfl
abbrev zb7:Stmt:=zd (top 42) 17
theorem qwp:FnScope ["self"] ["self"] (wg zb7):=scA
theorem qw3:zc "names" "House.names" zb7 ["self"]:=λ_ _ _ _ _ _ _ h=>bA1 h λ_=>rfl
abbrev zb8:Stmt:=zd (top 42) 18
theorem W8:FnScope ["self","name"] ["self","name"] (wg zb8):=scA
theorem W9:zc "corners_of" "House.corners_of" zb8 ["self","name"]:=λ_ _ _ _ _ _ _ h=>bA2 h λ_ _=>rfl
abbrev zb9:Stmt:=zd (top 42) 19
theorem qzv:FnScope ["self","name","walker"] ["self","name"] (wg zb9):=scA
theorem qxq:zc "where" "House.where" zb9 ["self","name"]:=λ_ _ _ _ _ _ _ h=>bA2 h λ_ _=>rfl
abbrev zca:Stmt:=zd (top 42) 23
theorem qz5:FnScope ["self","other"] ["self"] (wg zca):=scA
theorem qzn:zc "twin" "House.twin" zca ["self"]:=λ_ _ _ _ _ _ _ h=>bA1 h λ_=>rfl
abbrev zcb:Stmt:=top 44
theorem qk1:FnScope ["_law_script","_law_at"] ["_law_script","_law_at"] (wg zcb):=scA
theorem qkr:zj "_law_cell" zcb ["_law_script","_law_at"]:=λ_ _ _ _ _ _ _ h=>bA2 h λ_ _=>rfl
abbrev zcc:Stmt:=top 45
theorem qjq:FnScope ["_law_script","_law_at","_law_turn","_law_many","_law_cell_here","_law_left","_law_k","_law_low_here","_law_one","_law_two"] ["_law_script","_law_at","_law_turn","_law_many"] (wg zcc):=scA
theorem qyb:zj "_law_pick" zcc ["_law_script","_law_at","_law_turn","_law_many"]:=λ_ _ _ _ _ _ _ h=>bA4 h λ_ _ _ _=>rfl
abbrev zcd:Stmt:=top 46
theorem qz0:FnScope ["_law_script","_law_at","_law_letters","_law_size","_law_place","_law_shift","_law_made","_law_j","_law_name","_law_k","_law_sign"] ["_law_script","_law_at"] (wg zcd):=scA
theorem qz9:zj "_law_names" zcd ["_law_script","_law_at"]:=λ_ _ _ _ _ _ _ h=>bA2 h λ_ _=>rfl
abbrev zce:Stmt:=top 47
theorem qjg:FnScope ["_law_script","_law_at","_law_wide","_law_row"] ["_law_script","_law_at"] (wg zce):=scA
theorem qyz:zj "_law_line" zce ["_law_script","_law_at"]:=λ_ _ _ _ _ _ _ h=>bA2 h λ_ _=>rfl
abbrev zcf:Stmt:=top 48
theorem qvj:FnScope ["_law_script","_law_at","_law_way"] ["_law_script","_law_at"] (wg zcf):=scA
theorem qzg:zj "_law_steps" zcf ["_law_script","_law_at"]:=λ_ _ _ _ _ _ _ h=>bA2 h λ_ _=>rfl
abbrev zcg:Stmt:=top 49
theorem qvk:FnScope ["_law_script","_law_at","_law_turn","_law_names_here","_law_name"] ["_law_script","_law_at","_law_turn","_law_names_here"] (wg zcg):=scA
theorem qz8:zj "_law_named" zcg ["_law_script","_law_at","_law_turn","_law_names_here"]:=λ_ _ _ _ _ _ _ h=>bA4 h λ_ _ _ _=>rfl
abbrev zax:Stmt:=top 50
theorem qj4:FnScope ["_law_script","_law_at","_law_names_here","_law_menu","_law_kind","_law_name","_law_bottom","_law_top"] ["_law_script","_law_at","_law_names_here"] (wg zax):=scA
theorem qyt:zj "_law_deed" zax ["_law_script","_law_at","_law_names_here"]:=λ_ _ _ _ _ _ _ h=>bA3 h λ_ _ _=>rfl
abbrev zch:Stmt:=top 51
theorem Yf:FnScope ["_law_name","_law_bad"] ["_law_name"] (wg zch):=scA
theorem Yc:zj "_law_good_name" zch ["_law_name"]:=λ_ _ _ _ _ _ _ h=>bA1 h λ_=>rfl
abbrev zci:Stmt:=top 52
theorem Ys:FnScope ["_law_row","_law_bad"] ["_law_row"] (wg zci):=scA
theorem Z7:zj "_law_good_line" zci ["_law_row"]:=λ_ _ _ _ _ _ _ h=>bA1 h λ_=>rfl
abbrev zcj:Stmt:=top 53
theorem qwy:FnScope ["_law_one","_law_other"] ["_law_one","_law_other"] (wg zcj):=scA
theorem qw4:zj "_law_common" zcj ["_law_one","_law_other"]:=λ_ _ _ _ _ _ _ h=>bA2 h λ_ _=>rfl
abbrev zck:Stmt:=top 54
theorem qus:FnScope ["_law_top","_law_bottom","_law_by"] ["_law_top","_law_bottom"] (wg zck):=scA
theorem qy5:zj "_law_low" zck ["_law_top","_law_bottom"]:=λ_ _ _ _ _ _ _ h=>bA2 h λ_ _=>rfl
abbrev zcl:Stmt:=top 55
theorem qj6:FnScope ["_law_heights","_law_top","_law_bottom","_law_k"] ["_law_heights","_law_top","_law_bottom"] (wg zcl):=scA
theorem qjy:zj "_law_step" zcl ["_law_heights","_law_top","_law_bottom"]:=λ_ _ _ _ _ _ _ h=>bA3 h λ_ _ _=>rfl
abbrev zcm:Stmt:=top 56
theorem qz3:FnScope ["_law_heights","_law_top","_law_bottom","_law_seen","_law_tops"] ["_law_heights","_law_top","_law_bottom"] (wg zcm):=scA
theorem qz4:zj "_law_trace" zcm ["_law_heights","_law_top","_law_bottom"]:=λ_ _ _ _ _ _ _ h=>bA3 h λ_ _ _=>rfl
abbrev zcn:Stmt:=top 57
theorem qzm:FnScope ["_law_tops","_law_start","_law_many"] ["_law_tops","_law_start","_law_many"] (wg zcn):=scA
theorem qz1:zj "_law_after" zcn ["_law_tops","_law_start","_law_many"]:=λ_ _ _ _ _ _ _ h=>bA3 h λ_ _ _=>rfl
abbrev zco:Stmt:=top 58
theorem Yq:FnScope ["_law_name","_law_known"] ["_law_name","_law_known"] (wg zco):=scA
theorem Yy:zj "_law_named_new" zco ["_law_name","_law_known"]:=λ_ _ _ _ _ _ _ h=>bA2 h λ_ _=>rfl
abbrev zcp:Stmt:=top 59
theorem Jt:FnScope ["_law_roads","_law_deed_here","_law_row"] ["_law_roads","_law_deed_here"] (wg zcp):=scA
theorem Jp:zj "_law_changed" zcp ["_law_roads","_law_deed_here"]:=λ_ _ _ _ _ _ _ h=>bA2 h λ_ _=>rfl
abbrev zaz:Stmt:=top 60
theorem qw6:FnScope ["_law_walkers","_law_name","_law_wide","_law_whose","_law_top","_law_bottom"] ["_law_walkers","_law_name","_law_wide"] (wg zaz):=scA
theorem qw1:zj "_law_beyond" zaz ["_law_walkers","_law_name","_law_wide"]:=λ_ _ _ _ _ _ _ h=>bA3 h λ_ _ _=>rfl
abbrev zcq:Stmt:=top 61
theorem Zf:FnScope ["_law_roads","_law_walkers","_law_deed_here","_law_word","_law_row"] ["_law_roads","_law_walkers","_law_deed_here"] (wg zcq):=scA
theorem Zy:zj "_law_roads_done" zcq ["_law_roads","_law_walkers","_law_deed_here"]:=λ_ _ _ _ _ _ _ h=>bA3 h λ_ _ _=>rfl
abbrev zcr:Stmt:=top 62
theorem qy0:FnScope ["_law_roads","_law_walkers","_law_deed_here","_law_top","_law_bottom"] ["_law_roads","_law_walkers","_law_deed_here"] (wg zcr):=scA
theorem qy8:zj "_law_set" zcr ["_law_roads","_law_walkers","_law_deed_here"]:=λ_ _ _ _ _ _ _ h=>bA3 h λ_ _ _=>rfl
abbrev zcs:Stmt:=top 63
theorem qys:FnScope ["_law_roads","_law_walkers","_law_name","_law_many","_law_whose","_law_top","_law_bottom","_law_tops","_law_start"] ["_law_roads","_law_walkers","_law_name","_law_many"] (wg zcs):=scA
theorem qkp:zj "_law_gone" zcs ["_law_roads","_law_walkers","_law_name","_law_many"]:=λ_ _ _ _ _ _ _ h=>bA4 h λ_ _ _ _=>rfl
abbrev zct:Stmt:=top 64
theorem Wf:FnScope ["_law_roads","_law_walkers","_law_deed_here","_law_told_here","_law_name"] ["_law_roads","_law_walkers","_law_deed_here"] (wg zct):=scA
theorem Wx:zj "_law_walkers_done" zct ["_law_roads","_law_walkers","_law_deed_here"]:=λ_ _ _ _ _ _ _ h=>bA3 h λ_ _ _=>rfl
abbrev zcu:Stmt:=top 65
theorem qyv:FnScope ["_law_past","_law_roads","_law_walkers","_law_deed_here","_law_kept","_law_elder","_law_those","_law_kept_now","_law_before","_law_word","_law_told_here"] ["_law_past","_law_roads","_law_walkers","_law_deed_here"] (wg zcu):=scA
theorem qks:zj "_law_done" zcu ["_law_past","_law_roads","_law_walkers","_law_deed_here"]:=λ_ _ _ _ _ _ _ h=>bA4 h λ_ _ _ _=>rfl
abbrev zcv:Stmt:=top 66
theorem qu4:FnScope ["_law_house","_law_deed_here"] ["_law_house","_law_deed_here"] (wg zcv):=scA
theorem wqc:zj "_law_run" zcv ["_law_house","_law_deed_here"]:=λ_ _ _ _ _ _ _ h=>bA2 h λ_ _=>rfl
abbrev zcw:Stmt:=top 67
theorem qk2:FnScope ["_law_house","_law_deed_here","_law_word","_law_told_here"] ["_law_house","_law_deed_here"] (wg zcw):=scA
theorem qkn:zj "_law_told" zcw ["_law_house","_law_deed_here"]:=λ_ _ _ _ _ _ _ h=>bA2 h λ_ _=>rfl
abbrev zcx:Stmt:=top 68
theorem qzh:FnScope ["_law_found"] ["_law_found"] (wg zcx):=scA
theorem qzd:zj "_law_whole" zcx ["_law_found"]:=λ_ _ _ _ _ _ _ h=>bA1 h λ_=>rfl
abbrev zcy:Stmt:=top 69
theorem qzc:FnScope ["_law_found"] ["_law_found"] (wg zcy):=scA
theorem qzp:zj "_law_point" zcy ["_law_found"]:=λ_ _ _ _ _ _ _ h=>bA1 h λ_=>rfl
abbrev zcz:Stmt:=top 70
theorem Js:FnScope ["_law_found"] ["_law_found"] (wg zcz):=scA
theorem Jg:zj "_law_numbers" zcz ["_law_found"]:=λ_ _ _ _ _ _ _ h=>bA1 h λ_=>rfl
abbrev zc0:Stmt:=top 71
theorem Wv:FnScope ["_law_found","_law_due"] ["_law_found","_law_due"] (wg zc0):=scA
theorem Wd:zj "_law_walker_alike" zc0 ["_law_found","_law_due"]:=λ_ _ _ _ _ _ _ h=>bA2 h λ_ _=>rfl
abbrev za0:Stmt:=top 72
theorem qzt:FnScope ["_law_house","_law_roads","_law_walkers","_law_past","_law_names_here","_law_name"] ["_law_house","_law_roads","_law_walkers","_law_past"] (wg za0):=scA
theorem qz6:zj "_law_alike" za0 ["_law_house","_law_roads","_law_walkers","_law_past"]:=λ_ _ _ _ _ _ _ h=>bA4 h λ_ _ _ _=>rfl
abbrev zc1:Stmt:=top 73
theorem qxg:FnScope ["_law_found","_law_due","_law_pair"] ["_law_found","_law_due"] (wg zc1):=scA
theorem qx7:zj "_law_answer" zc1 ["_law_found","_law_due"]:=λ_ _ _ _ _ _ _ h=>bA2 h λ_ _=>rfl
abbrev zc9:Stmt:=top 74
theorem zh0:FnScope ["_law_script","_law_names_here","_law_house","_law_first","_law_k","_law_deed_here","_law_due","_law_other","_law_second","_law_word","_law_told_here"] ["_law_script"] (wg zc9):=scA
local macro_rules | `(tactic| walk_at "sq")=>`(tactic| first | assumption | exact SqT.new | exact SqL.new | ((with_reducible refine Same.sqt (Same.upd (by assumption)) ?_);walk_at "sq") | ((with_reducible refine Same.sql (Same.upd (by assumption)) ?_);walk_at "sq"))
local macro_rules | `(tactic| walk_at "at")=>`(tactic| first | rfl | exact Z6 (by lia) (by lia))
local macro_rules | `(tactic| walk_at "mul")=>`(tactic| first | assumption | exact IntMulOk.of_left (intBits_le_64 (by lia) (by lia)) | exact IntMulOk.of_right (intBits_le_64 (by lia) (by lia)) | exact Sm.ok (by assumption) (by assumption) (by lia))
local macro_rules | `(tactic| walk_at "pos")=>`(tactic| first | lia | decide +kernel)
local macro_rules | `(tactic| walk_at "div")=>`(tactic| exact ⟨by first | lia | decide +kernel,by unfold Sm;decide +kernel⟩)
local macro_rules | `(tactic| walk_at "loc")=>`(tactic| first | exact Or.inl rfl | exact Or.inr rfl)
local macro_rules | `(tactic| walk_at "cap")=>`(tactic| repeat (first | exact trivial | refine ⟨rfl,?_⟩))
local macro_rules | `(tactic| walk_at "has")=>`(tactic| repeat (first | exact trivial | (refine ⟨λz=>?_,(by lia),?_⟩;(first | exact ⟨_,rfl⟩ | cases z))))
local macro_rules | `(tactic| walk_at "cix")=>`(tactic| repeat (first | exact trivial | refine ⟨⟨_,_,rfl,rfl,rfl,rfl⟩,?_⟩))
local macro_rules | `(tactic| walk_at "hasK")=>`(tactic| repeat (first | exact trivial | (refine ⟨λz=>?_,λz=>?_,?_⟩;(first | exact ⟨_,rfl⟩ | cases z);(first | rfl | cases z))))
abbrev mR(K:PySem.W.Frag)(c d:PySem.Addr):=PySem.W.mroIn K c (.ref d)=some false
structure Txt (K:Aa)(mg:Str→Option Ag)(qp:Aj)(qg:Aj)(qx:Aj)(q8:Aj)(qb:Aj)(wv:Aj)(wu:Aj)(qr:Aj)(wj:Aj)(q9:Aj)(qj:Aj)(wy:Aj)(qw:Aj)(wq:Aj)(qy:Aj)(qq:Aj):Prop where
 tuple_:mg "tuple" = none
 len_:mg "len" = none
 abs_:mg "abs" = none
 range_:mg "range" = none
 list_:mg "list" = none
 min_:mg "min" = none
 max_:mg "max" = none
 all_:mg "all" = none
 any_:mg "any" = none
 sorted_:mg "sorted" = none
 enumerate_:mg "enumerate" = none
 dict_:mg "dict" = none
 isinstance_:mg "isinstance" = none
 int_:mg "int" = none
 bool_:mg "bool" = none
 str_:mg "str" = none
 zjg:mg "RoadError" = some (.ref qp)
 zc2:ExcC K qp
 zda:mg "BadLine" = some (.ref qg)
 zad:ExcC K qg
 zdb:mg "BadBottom" = some (.ref qx)
 zaj:ExcC K qx
 zhc:mg "OffRoad" = some (.ref q8)
 zal:ExcC K q8
 zhd:mg "BadCount" = some (.ref qb)
 zam:ExcC K qb
 zh1:mg "TooLong" = some (.ref wv)
 za1:ExcC K wv
 zh2:mg "BadRow" = some (.ref wu)
 za2:ExcC K wu
 zhe:mg "BadName" = some (.ref qr)
 zac:ExcC K qr
 zhf:mg "Taken" = some (.ref wj)
 zae:ExcC K wj
 zhg:mg "NoRoad" = some (.ref q9)
 zaf:ExcC K q9
 zhh:mg "NoWalker" = some (.ref qj)
 zah:ExcC K qj
 zdc:mg "Stood" = some (.ref wy)
 zai:ExcC K wy
 zhi:mg "NothingDone" = some (.ref qw)
 zao:ExcC K qw
 cl:Cls K wq
 na:NoAttr K wq "heights"
 zap:∃t,mg "WIDEST" = some (.int 24 t)
 zh3:mg "Road" = some (.ref wq)
 clW:Cls K qy
 clH:Cls K qq
 naWw:NoAttr K qy "whose"
 naWp:NoAttr K qy "point"
 naWt:NoAttr K qy "times"
 naHr:NoAttr K qq "roads"
 naHw:NoAttr K qq "walkers"
 naHd:NoAttr K qq "done"
 zh4:mg "Walker" = some (.ref qy)
 zhj:mg "House" = some (.ref qq)
 zaq:∃t,mg "LONGEST_TRACE" = some (.int 1000 t)
 zak:∃t,mg "FARTHEST" = some (.int 1000000000000000000000000000000000000000000000000000000000000 t)
 zar:∃t,mg "LONGEST_NAME" = some (.int 12 t)
 zas:∃t,mg "GREATEST_BOTTOM" = some (.int 40 t)
 zat:∃t,mg "LETTERS" = some (.str "abcdefghijklmnopqrstuvwxyz" t)
 ms:mR K wj qr∧mR K qg qr∧mR K qg wj∧mR K q9 qr∧mR K q9 wj∧mR K q9 qg∧mR K qj qr∧mR K qj wj∧mR K qj qg∧mR K qj q9∧mR K wy qr∧mR K wy wj∧mR K wy qg∧mR K wy q9∧mR K wy qj∧mR K qx qr∧mR K qx wj∧mR K qx qg∧mR K qx q9∧mR K qx qj∧mR K qx wy∧mR K q8 qr∧mR K q8 wj∧mR K q8 qg∧mR K q8 q9∧mR K q8 qj∧mR K q8 wy∧mR K q8 qx∧mR K qb qr∧mR K qb wj∧mR K qb qg∧mR K qb q9∧mR K qb qj∧mR K qb wy∧mR K qb qx∧mR K qb q8∧mR K qw qr∧mR K qw wj∧mR K qw qg∧mR K qw q9∧mR K qw qj∧mR K qw wy∧mR K qw qx∧mR K qw q8∧mR K qw qb
 io:IsO K qq
abbrev FK(P:Ac)(w:Ah)(K:Aa)(mg:Str→Option Ag)(base:Heap):=FnOk P w K mg base (CXE P w)
section
variable {P:Ac}{w:Ah}{K:Aa}{mg:Str→Option Ag}{base:Heap}{qp:Aj}{qg:Aj}{qx:Aj}{q8:Aj}{qb:Aj}{wv:Aj}{wu:Aj}{qr:Aj}{wj:Aj}{q9:Aj}{qj:Aj}{wy:Aj}{qw:Aj}{wq:Aj}{qy:Aj}{qq:Aj}
variable {f:Aj}{fd:Ad}(T:Txt K mg qp qg qx q8 qb wv wu qr wj q9 qj wy qw wq qy qq)
def qq6 (C:Aj):Sp:=λvs H Q E=>∃b:Int,vs=[.int b]∧(1≤b→Q .non H)∧(b<1→E (.ref C) none H)
include T in
theorem wj1 (F:Fun K "check_bottom" "check_bottom" za7 f fd):FK P w K mg base 1 f fd ["bottom"] (qq6 qx):=by
 have sc:=qqz
 refine F.okX sc (λvs H Q E h=>by obtain ⟨_,rfl,_⟩:=h;rfl) λ_ _ _ _ H vs Q E hr h=>?_
 obtain ⟨b,rfl,h1,h2⟩:=h
 refine ⟨_,(qm (xh (wm j3 (pv 0) qk (w6 _)) (qm (kh rfl T.zaj zr rfl T.zdb (xb x6 qz))) wt)),?_⟩
 refine gI rfl (xu rfl rfl (gI rfl ?_))
 refine zp (λq1=>?_) (λq1=>?_)
 ·exact ⟨⋯,h2 q1⟩
 ·exact h1 ⋯
include T in
theorem xxx (F:Fun K "_law_cell" "_law_cell" zcb f fd):FK P w K mg base 1 f fd ["_law_script","_law_at"] (qk7 K):=by
 have sc:=qk1
 refine F.okX sc (λvs H Q E h=>by obtain ⟨_,_,_,rfl,_⟩:=h;rfl) λ_ _ _ _ H vs Q E hr h=>?_
 obtain ⟨a,ns,i,rfl,hS,h0,k⟩:=h
 have hlen:(ns.map V.int).length=ns.length:=aa _
 refine ⟨_,(qu (xh (wm j3 (pv 1) (xz xf rfl T.len_ aB (wz (pv 0) qz)) (w6 _)) (qm (wn (xq zk (pv 0) (pv 1) (λ_ _=>rfl)))) wt)
   (qu (xh (wm zf (xz xf rfl T.len_ aB (wz (pv 0) qz)) qk (w6 _)) (qm (wn (xk zu (xk zm qk (pv 1)) qk))) wt)
   (qm (wn (xk zu (xq zk (pv 0) (xk j5 (pv 1) (xz xf rfl T.len_ aB (wz (pv 0) qz))) (λ_ _=>rfl)) (xk zm qk (pv 1))))))),?_⟩
 refine gI rfl (gI rfl ⟨_,_,rfl,.inl hS,xu rfl rfl (gI rfl ?_)⟩)
 refine zp (λq1=>?_) (λq1=>?_)
 ·rw [hlen] at q1
  refine gI rfl (gI rfl (gX rfl rfl hS (Z6 h0 q1) ?_))
  exact k _ (by rw [wq2,ak q1])
 ·rw [hlen] at q1
  refine gI rfl ⟨_,_,rfl,.inl hS,rfl,_,rfl,?_⟩
  rw [hlen]
  refine xn (λq2=>?_) (λq2=>?_)
  ·refine gI rfl (xu rfl rfl ⟨(by walk_at "mul"),xu rfl rfl ?_⟩)
   exact k _ (by rw [wq2,ai q1,ak q2])
  ·refine gI rfl (gI rfl (gI rfl ⟨_,_,rfl,.inl hS,xu rfl rfl ⟨(by rw [hlen];lia),?_⟩⟩))
   rw [hlen]
   refine gX rfl rfl hS (Z6 (bN _ q2) (bZ _ ⋯)) (gI rfl (xu rfl rfl ⟨(by walk_at "mul"),xu rfl rfl ?_⟩))
   exact k _ (by rw [wq2,ai q1,ai q2])
include T in
theorem xxj (F:Fun K "_law_pick" "_law_pick" zcc f fd)(zdd:Cal P w K mg base "_law_cell" 1 (qk7 K)):FK P w K mg base 2 f fd ["_law_script","_law_at","_law_turn","_law_many"] (Wy K):=by
 have sc:=qjq
 refine F.okX sc (λvs H Q E h=>by obtain ⟨_,_,_,_,_,rfl,_⟩:=h;rfl) λ_ _ _ _ H vs Q E hr h=>?_
 obtain ⟨a,ns,i,t,m,rfl,hS,h0,t0,t1,m0,k⟩:=h
 refine ⟨_,(qu (xj (i:=4) (wCA zdd (wz (pv 0) (wz (pv 1) qz))))
   (qu (xh (wm wqj (xz Wg rfl T.abs_ Wu (wz (pv 4) qz)) (xk qx2 qk qk) (w6 _)) (qu (xj (i:=5) (xz Wg rfl T.abs_ Wu (wz (pv 4) qz)))
   (qu (yb be rfl (uy rfl T.range_ (wz (pv 2) qz)) (xp (i:=6)) (qm (xj (i:=5) (xk yp (pv 5) qk))))
   (qu (xh (wm j3 (pv 4) qk (w6 _)) (qm (xj (i:=5) (xk j5 (pv 5) qk))) wt)
   (qm (wn (xk j5 (pv 5) (pv 3))))))) wt)
   (qu (xj (i:=7) (xk j5 (pv 4) qk))
   (qu (xj (i:=8) (xk j5 (xk zu (xk zu (xk zm (pv 7) qk) (xk zm (pv 2) qk)) qk) qk))
   (qu (xj (i:=9) (xk j5 (xk zu (xk zu (xk zm (pv 8) (pv 8)) (xk zm (pv 7) qk)) (xk zm (pv 2) qk)) qk))
   (qm (wn (xk j5 (xk j5 (xk zu (xk zu (xk zm (pv 9) (pv 9)) (xk zm (pv 8) qk)) (xk zm (pv 2) qk)) qk) (pv 3))))))))),?_⟩
 refine gI rfl (gI rfl ?_)
 refine ⟨a,ns,i,rfl,hS,h0,λc hc=>?_⟩
 have fin:∀v,v=qux c t%m→Q (.int v) H:=λv hv=>by
  refine k v (by rw [hv,Jc,hc]) ?_ ?_
  ·rw [hv];exact bN _ ⋯
  ·rw [hv];exact bZ _ m0
 refine gI rfl (gI rfl (xu rfl rfl ⟨⟨⋯,⋯,⋯⟩,xu rfl rfl (gI rfl ?_)⟩))
 refine zp (λq1=>?_) (λq1=>?_)
 ·have q1':10 ^ 18≤Qn c:=q1
  refine gI rfl (gI rfl ?_)
  refine gI rfl ⟨t,rfl,⋯,⋯,Ws (λj σ H1=>H1=H∧∃z,σ=[some (.ref a),some (.int i),some (.int t),some (.int m),some (.int c),some (.int (divs (Qn c) j)),z,none,none,none]) ⟨rfl,_,rfl⟩ ?_ ?_⟩
  ·rintro j σ H1 hj ⟨rfl,z,rfl⟩
   exact gI rfl (xu rfl rfl ⟨(by walk_at "div"),rfl,_,rfl⟩)
  ·rintro σ H1 ⟨rfl,z,rfl⟩
   refine gI rfl (xu rfl rfl (gI rfl ?_))
   refine zp (λq2=>?_) (λq2=>?_)
   ·refine gI rfl (xu rfl rfl ⟨(by walk_at "pos"),gI rfl (gI rfl (xu rfl rfl ⟨(by walk_at "pos"),?_⟩))⟩)
    exact fin _ (by rw [wuz q1' q2])
   ·refine gI rfl (gI rfl (xu rfl rfl ⟨(by walk_at "pos"),?_⟩))
    exact fin _ (by rw [wv8 q1' q2])
 ·have q1':¬ 10 ^ 18≤Qn c:=q1
  have l0:=bN c (show (1000003:Int)≠0 by decide)
  have l1:=bZ c (show (0:Int)<1000003 by decide)
  refine gI rfl (xu rfl rfl ⟨(by walk_at "pos"),gI rfl (xu rfl rfl ⟨(by walk_at "mul"),gI rfl (xu rfl rfl ⟨(by walk_at "mul"),xu rfl rfl (xu rfl rfl (xu rfl rfl ⟨(by walk_at "pos"),?_⟩))⟩)⟩)⟩)
  have o0:0≤qk0 c t:=bN _ ⋯
  have o1:qk0 c t<999983:=bZ _ ⋯
  refine ⟨V.int (qk0 c t),rfl,V.int (qk0 c t),rfl,xu rfl rfl ⟨(by walk_at "mul"),gI rfl (xu rfl rfl ⟨(by walk_at "mul"),xu rfl rfl (gI rfl (xu rfl rfl ⟨(by walk_at "mul"),xu rfl rfl (xu rfl rfl ⟨(by walk_at "pos"),?_⟩)⟩))⟩)⟩⟩
  have w0:0≤qu6 c t:=bN _ ⋯
  have w1:qu6 c t<1000033:=bZ _ ⋯
  refine ⟨V.int (qu6 c t),rfl,V.int (qu6 c t),rfl,xu rfl rfl ⟨(by walk_at "mul"),V.int (qk0 c t),rfl,xu rfl rfl ⟨(by walk_at "mul"),xu rfl rfl (gI rfl (xu rfl rfl ⟨(by walk_at "mul"),xu rfl rfl (xu rfl rfl ⟨(by walk_at "pos"),gI rfl (xu rfl rfl ⟨(by walk_at "pos"),?_⟩)⟩)⟩))⟩⟩⟩
  exact fin _ (by rw [wu6 q1'])
def Within (n f:Int)(m:Option Int):Prop:=f≤n∧∀b,m=some b→n≤b
def qq4 (C:Aj):Sp:=λvs H Q E=>∃(n f:Int) (m:V) (o:Option Int),vs=[.int n,.int f,m]∧(m=.non∧o=none∨∃b,m=.int b∧o=some b)∧(Within n f o→Q .non H)∧(¬ Within n f o→E (.ref C) none H)
include T in
theorem wyw (F:FunD K "check_count" zay f fd):FK P w K mg base 1 f fd ["number","fewest","most"] (qq4 qb):=by
 have sc:=qwb
 refine F.okX sc (λvs H Q E h=>by obtain ⟨_,_,_,_,rfl,_⟩:=h;rfl) λ_ _ _ _ H vs Q E hr h=>?_
 obtain ⟨n,fe,m,o,rfl,hm,k,x⟩:=h
 refine ⟨_,(qm (xh (PW.pt (jm (wm j3 (pv 0) (pv 1) (w6 _)) (k7 (PW.pt (qxd (wm xw8 (pv 2) jv (w6 _)) (Yk (wm y4 (pv 0) (pv 2) (w6 _)))))))) (qm (kh rfl T.zam zr rfl T.zhd (xb x6 qz))) wt)),?_⟩
 refine gI rfl (gI rfl (xu rfl rfl (gI rfl ?_)))
 refine zp (λq1=>?_) (λq1=>?_)
 ·refine jj ?_
  exact ⟨sz1,x (λz=>by have:=z.1;lia)⟩
 ·rcases hm with ⟨rfl,rfl⟩|⟨b,rfl,rfl⟩
  ·refine gI rfl ⟨rfl,_,rfl,?_⟩
   refine vg ?_
   exact k ⟨⋯,λb e=>nomatch e⟩
  ·refine gI rfl ⟨rfl,_,rfl,?_⟩
   refine jj ?_
   refine gI rfl (gI rfl (xu rfl rfl (gI rfl ?_)))
   refine zp (λq2=>?_) (λq2=>?_)
   ·exact ⟨sz1,x (λz=>by have:=z.2 b rfl;lia)⟩
   ·exact k ⟨⋯,λb' e=>by cases e;lia⟩
def xt (ns:List Int):Prop:=2≤ns.length∧ns.length≤25∧∀h∈ns,0≤h∧h≤(ns.length:Int)-1
def qzy (K:Aa):Sp:=λvs H Q _=>∃(p:Aj) (ns:List Int),vs=[.ref p]∧SqL K H p (ns.map V.int)∧(xt ns→Q (.bl true) H)∧(¬ xt ns→Q (.bl false) H)
include T in
theorem wxu (F:Fun K "is_line" "is_line" zbe f fd):FK P w K mg base 1 f fd ["heights"] (qzy K):=by
 have sc:=wwp
 refine F.okX sc (λvs H Q E h=>by obtain ⟨_,_,rfl,_⟩:=h;rfl) λ_ _ _ _ H vs Q E hr h=>?_
 obtain ⟨p,ns,rfl,hS,k1,k2⟩:=h
 have hlen:(ns.map V.int).length=ns.length:=aa _
 obtain ⟨tw,zap⟩:=T.zap
 refine ⟨_,(qu (xj (i:=1) (xk k6 (xz xf rfl T.len_ aB (wz (pv 0) qz)) qk))
   (qu (xh (PW.pt (jm (wm j3 (pv 1) qk (w6 _)) (k7 (wm y4 (pv 1) (u6 (v:=V.int 24) rfl zap ⟨_,rfl⟩) (w6 _))))) (qm (wn j9)) wt)
   (qm (wn (Qr (jg wqj (xz (qz7 rfl) rfl T.min_ PyProof.Rows.boot_min (wz (pv 0) qz)) qk (w6 _)) (Zp (jg qy3 (xz (qvy rfl) rfl T.max_ PyProof.Rows.boot_max (wz (pv 0) qz)) (pv 1) (w6 _)))))))),?_⟩
 refine gI rfl ⟨_,_,rfl,.inl hS,xu rfl rfl ?_⟩
 refine gI rfl (xu rfl rfl (gI rfl ?_))
 rw [hlen]
 refine zp (λq1=>?_) (λq1=>?_)
 ·refine jj ?_
  exact k2 (λz=>by have:=z.1;lia)
 ·refine gI rfl (xu rfl rfl (gI rfl ?_))
  refine zp (λq2=>?_) (λq2=>?_)
  ·exact k2 (λz=>by have:=z.2.1;lia)
  ·refine gI rfl ⟨p,ns,rfl,hS,⋯,λm hm hle=>(xu rfl rfl (gI rfl ?_))⟩
   refine zp (λq3=>?_) (λq3=>?_)
   ·refine gI rfl ⟨p,ns,rfl,hS,⋯,λm2 hm2 hle2=>(gI rfl (xu rfl rfl ?_))⟩
    show Q (.bl (decide (m2≤(ns.length:Int)-1))) H
    by_cases q4:m2≤(ns.length:Int)-1
    ·rw [aX q4]
     exact k1 ⟨⋯,⋯,λh hh=>by have:=hle h hh;have:=hle2 h hh;lia⟩
    ·rw [bn q4]
     exact k2 (λz=>q4 (z.2.2 m2 hm2).2)
   ·exact k2 (λz=>q3 (z.2.2 m hm).1)
def RoadAt (C:Aj)(H:Hp)(r:Aj)(ns:List Int):Prop:=∃dx q,H r=some (.ins C dx [("heights",.ref q)])∧H q=some (.lst (ns.map V.int))
variable {C r:Aj}{H H':Hp}{ns:List Int}
theorem RoadAt.same (h:RoadAt C H r ns)(s:Same H H'):RoadAt C H' r ns:=by
 obtain ⟨dx,q,h1,h2⟩:=h
 exact ⟨dx,q,s _ _ h1,s _ _ h2⟩
variable {q:Aj}
theorem ux:([("heights",V.ref q)]:List (Str×V)).lookup ("heights" : Str)=some (.ref q):=by
 rw [aK]
 simp
theorem vf {m:Str}(h:¬ m = "heights"):([("heights",V.ref q)]:List (Str×V)).lookup m=none:=by
 rw [aK]
 have:(m==("heights" : Str))=false:=aU.mpr h
 rw [this]
 rfl
def Zj (K:Aa)(CB C:Aj):Sp:=λvs H Q E=>∃(r dx p:Aj) (ns:List Int),vs=[.ref r,.ref p]∧H r=some (.ins C dx [])∧SqL K H p (ns.map V.int) ∧
 (xt ns→∀H' q,H q=none→(∀b o,H b=some o→b≠r→H' b=some o)→H' r=some (.ins C dx [("heights",.ref q)])→H' q=some (.lst (ns.map V.int))→Q .non H')∧(¬ xt ns→E (.ref CB) none H)
include T in
theorem xxp (F:Fun K "__init__" "Road.__init__" zbf f fd)(zh5:Cal P w K mg base "is_line" 1 (qzy K)):FK P w K mg base 2 f fd ["self","heights"] (Zj K qg wq):=by
 have sc:=Y7
 refine F.okX sc (λvs H Q E h=>by obtain ⟨_,_,_,_,rfl,_⟩:=h;rfl) λ_ _ _ _ H vs Q E hr h=>?_
 obtain ⟨r,dx,p,ns,rfl,hr0,hS,k,x⟩:=h
 refine ⟨_,(qu (xh (jz (vm (wCA zh5 (wz (pv 1) qz)))) (qm (kh rfl T.zad zr rfl T.zda (xb x6 qz))) wt)
   (qm (Qq (pv 0) (zn jd rfl T.list_ aZ (wz (pv 1) qz)) rfl))),?_⟩
 refine ⟨_,rfl,p,ns,rfl,hS,λok=>(gI rfl ?_),λbad=>(gI rfl ?_)⟩
 ·refine vg ?_
  refine gI rfl ⟨_,_,rfl,.inl hS,λq nq=>?_⟩
  have hr1:upd H q (.lst (ns.map V.int)) r=some (.ins wq dx []):=by rw [wf (qh hr0 nq)];exact hr0
  refine gI rfl ⟨r,wq,dx,[],rfl,hr1,T.cl,T.na,(by show 0<1000;decide),?_⟩
  refine k ok _ q nq (λb o e n=>?_) qc ?_
  ·rw [wf n,wf (qh e nq)]
   exact e
  ·rw [wf (qh hr0 nq).symm,qc]
 ·refine jj ?_
  exact ⟨sz1,x bad⟩
def W5 (C:Aj):Sp:=λvs H Q _=>∃(r:Aj) (ns:List Int),vs=[.ref r]∧RoadAt C H r ns∧Q (.int ((ns.length:Int)-1)) H
include T in
theorem wu7 (F:Fun K "width" "Road.width" zbg f fd):FK P w K mg base 1 f fd ["self"] (W5 wq):=by
 have sc:=qvv
 refine F.okX sc (λvs H Q E h=>by obtain ⟨_,_,rfl,_⟩:=h;rfl) λ_ _ _ _ H vs Q E hr h=>?_
 obtain ⟨r,ns,rfl,⟨dx,q,h1,h2⟩,k⟩:=h
 refine ⟨_,(qm (wn (xk k6 (xz xf rfl T.len_ aB (xm (zh (pv 0) rfl) qz)) qk))),?_⟩
 refine gI rfl ⟨r,wq,dx,_,_,rfl,h1,T.cl,T.na,ux,q,gI rfl ⟨.inl (SqL.of h2),xu rfl rfl ?_⟩⟩
 rw [aa]
 exact k
def uk (C:Aj):Sp:=λvs H Q _=>∃(r:Aj) (ns:List Int),vs=[.ref r]∧RoadAt C H r ns∧∀p,H p=none→Q (.ref p) (upd H p (.lst (ns.map V.int)))
include T in
theorem wwb (F:Fun K "corners" "Road.corners" zbh f fd):FK P w K mg base 1 f fd ["self"] (uk wq):=by
 have sc:=J1
 refine F.okX sc (λvs H Q E h=>by obtain ⟨_,_,rfl,_⟩:=h;rfl) λ_ _ _ _ H vs Q E hr h=>?_
 obtain ⟨r,ns,rfl,⟨dx,q,h1,h2⟩,k⟩:=h
 refine ⟨_,(qm (wn (zn jd rfl T.list_ aZ (xm (zh (pv 0) rfl) qz)))),?_⟩
 exact gI rfl ⟨r,wq,dx,_,_,rfl,h1,T.cl,T.na,ux,q,gI rfl ⟨.inl (SqL.of h2),λp np=>k p np⟩⟩
def qxn:Sp:=λvs H Q _=>∃x y:Int,vs=[.int x,.int y]∧0≤x∧0≤y∧Q (.int (Y0 x y)) H
theorem qu3 {tb:TS}{c:TT}{D:Ends}{x y:Int}(hx:0≤x)(hy:0≤y)(hc:c=tTest (tOp (rI0 λi j=>.bl (decide (j<i))) (tVar 1) (tC (.int 0))))(hb:tb=tPar 0 1 (j6 (tVar 1) (j6 (tOp (rI (λ_ j=>0<j) λi j=>.int (i%j)) (tVar 0) (tVar 1)) Qc)))
  (hD:D.nx [some (.int (Y0 x y)),some (.int 0)] H):ww4 c tb D [some (.int x),some (.int y)] H:=by
 subst hc hb
 refine qwu (λσ H1=>H1=H∧∃u v:Int,σ=[some (.int u),some (.int v)]∧0≤u∧0≤v∧Y0 u v=Y0 x y) (λσ _=>match σ with|[_,some (.int v)]=>v.toNat|_=>0) ⟨rfl,x,y,rfl,hx,hy,rfl⟩ ?_ λσ H Q Q' h ⟨v,e,i,j,e1,e2,k,e3,q⟩=>⟨v,e,i,j,e1,e2,k,e3,h _ _ q⟩
 rintro σ H1 ⟨rfl,u,v,rfl,hu,hv,e⟩
 refine gI rfl (xu rfl rfl (gI rfl ?_))
 refine zp (λq=>?_) (λq=>?_)
 ·have h1:=bN u (show v≠0 by lia)
  have h2:=bZ u q
  refine gI rfl (gI rfl (gI rfl (xu rfl rfl ⟨q,_,_,rfl,⟨rfl,v,u%v,rfl,hv,h1,?_⟩,?_⟩)))
  ·rw [wvk hu q,e]
  ·show (u%v).toNat<v.toNat
   lia
 ·have z:v=0:=by lia
  subst z
  rw [wkq hu] at e
  subst e
  exact hD
include T in
theorem zh6 (F:Fun K "common_divisor" "common_divisor" za8 f fd):FK P w K mg base 1 f fd ["one","other"] qxn:=by
 have sc:=Yd
 refine F.okX sc (λvs H Q E h=>by obtain ⟨_,_,rfl,_⟩:=h;rfl) λ_ _ _ _ H vs Q E hr h=>?_
 obtain ⟨x,y,rfl,hx,hy,k⟩:=h
 refine ⟨_,(qu (Ym be (wm y4 (pv 1) qk (w6 _)) (qm (xqj (i:=0) (j:=1) rfl sc.nd rfl rfl ⋯ rfl rfl (wz (pv 1) (vk (xk j5 (pv 0) (pv 1)) qz)) rfl)))
   (qm (wn (pv 0)))),?_⟩
 exact qu3 hx hy rfl rfl (gI rfl k)
include T in
theorem wv0 (F:Fun K "_law_common" "_law_common" zcj f fd):FK P w K mg base 1 f fd ["_law_one","_law_other"] qxn:=by
 have sc:=qwy
 refine F.okX sc (λvs H Q E h=>by obtain ⟨_,_,rfl,_⟩:=h;rfl) λ_ _ _ _ H vs Q E hr h=>?_
 obtain ⟨x,y,rfl,hx,hy,k⟩:=h
 refine ⟨_,(qu (Ym be (wm y4 (pv 1) qk (w6 _)) (qm (xqj (i:=0) (j:=1) rfl sc.nd rfl rfl ⋯ rfl rfl (wz (pv 1) (vk (xk j5 (pv 0) (pv 1)) qz)) rfl)))
   (qm (wn (pv 0)))),?_⟩
 exact qu3 hx hy rfl rfl (gI rfl k)
def ptV (p:Int×Int):List V:=[.int p.1,.int p.2]
def Wm (C:Aj):Sp:=λvs H Q E=>∃t b:Int,vs=[.int t,.int b]∧(1≤b→Sm 9000 b∧∀p,H p=none→Q (.ref p) (upd H p (.tup (ptV (xg t b)))))∧(b<1→E (.ref C) none H)
include T in
theorem wv1 (F:Fun K "lowest" "lowest" za9 f fd)(zc3:Cal P w K mg base "check_bottom" 1 (qq6 qx))(zh7:Cal P w K mg base "common_divisor" 1 qxn) :
  FK P w K mg base 2 f fd ["top","bottom"] (Wm qx):=by
 have sc:=wvn
 refine F.okX sc (λvs H Q E h=>by obtain ⟨_,_,rfl,_⟩:=h;rfl) λ_ _ _ _ H vs Q E hr h=>?_
 obtain ⟨t,b,rfl,k,x⟩:=h
 refine ⟨_,(qu (zy (wCA zc3 (wz (pv 1) qz)))
   (qu (xj (i:=2) (wCA zh7 (vd (xz Wg rfl T.abs_ Wu (wz (pv 0) qz)) (wz (pv 1) qz))))
   (qm (wn (zx (vk (xk yp (pv 0) (pv 2)) (vk (xk yp (pv 1) (pv 2)) qz))))))),?_⟩
 refine ⟨_,rfl,b,rfl,λg1=>?_,λg1=>x g1⟩
 obtain ⟨sb,k⟩:=k g1
 have hg:=uz (t:=t) g1
 have hs:Sm 9000 (gOf t b):=sb.of_le (by have:=wud (t:=t) g1;lia)
 refine gI rfl (gI rfl (gI rfl ⟨Qn t,b,rfl,qj8 t,⋯,?_⟩))
 refine gI rfl ⟨V.int (gOf t b),rfl,xu rfl rfl ⟨⟨⋯,hs⟩,gI rfl ⟨V.int (gOf t b),rfl,xu rfl rfl ⟨⟨⋯,hs⟩,sz2,λp n=>?_⟩⟩⟩⟩
 exact k p n
def wzu:Sp:=λvs H Q _=>∃t b:Int,vs=[.int t,.int b]∧1≤b∧Sm 9000 b∧∀p,H p=none→Q (.ref p) (upd H p (.tup (ptV (xg t b))))
include T in
theorem zh8 (F:Fun K "_law_low" "_law_low" zck f fd)(zde:Cal P w K mg base "_law_common" 1 qxn):FK P w K mg base 2 f fd ["_law_top","_law_bottom"] wzu:=by
 have sc:=qus
 refine F.okX sc (λvs H Q E h=>by obtain ⟨_,_,rfl,_⟩:=h;rfl) λ_ _ _ _ H vs Q E hr h=>?_
 obtain ⟨t,b,rfl,g1,sb,k⟩:=h
 have hg:=uz (t:=t) g1
 have hs:Sm 9000 (gOf t b):=sb.of_le (by have:=wud (t:=t) g1;lia)
 refine ⟨_,(qu (xj (i:=2) (wCA zde (vd (xz Wg rfl T.abs_ Wu (wz (pv 0) qz)) (wz (pv 1) qz))))
   (qm (wn (zx (vk (xk yp (pv 0) (pv 2)) (vk (xk yp (pv 1) (pv 2)) qz)))))),?_⟩
 refine gI rfl (gI rfl (gI rfl ⟨Qn t,b,rfl,qj8 t,⋯,?_⟩))
 refine gI rfl ⟨V.int (gOf t b),rfl,xu rfl rfl ⟨⟨⋯,hs⟩,gI rfl ⟨V.int (gOf t b),rfl,xu rfl rfl ⟨⟨⋯,hs⟩,sz2,λp n=>?_⟩⟩⟩⟩
 exact k p n
variable {hs:List Int}
theorem at_h {k:Int}(h0:0≤k)(h1:k<hs.length):atI (hs.map V.int) k=some (V.int (hAt hs k)):=Z6 h0 h1
theorem wzp (ok:xt hs)(k:Int):0≤hAt hs k∧hAt hs k≤24:=by
 unfold hAt
 rw [ar]
 cases e:hs[k.toNat]? with
 |none=>exact ⟨⋯,⋯⟩
 |some v =>
  have hm:=ok.2.2 v (aL e)
  have:=ok.2.1
  show 0≤v∧v≤24
  lia
def wwn (C CR:Aj):Sp:=λvs H Q E=>∃(r:Aj) (hs:List Int) (k:Int),vs=[.ref r,.int k]∧RoadAt C H r hs∧(0≤k→k<(hs.length:Int)-1→∀p,H p=none→Q (.ref p) (upd H p (.tup [.int (hAt hs k),.int (hAt hs (k+1))]))) ∧
 (k<0∨(hs.length:Int)-1≤k→E (.ref CR) none H)
include T in
theorem xxr (F:Fun K "ends" "Road.ends" zbi f fd)(zau:MCal P w K mg base wq "width" 1 (W5 wq)):FK P w K mg base 2 f fd ["self","stretch"] (wwn wq wu):=by
 have sc:=qjj
 refine F.okX sc (λvs H Q E h=>by obtain ⟨_,_,_,rfl,_⟩:=h;rfl) λ_ _ _ _ H vs Q E hr h=>?_
 obtain ⟨r,hs,k,rfl,hR,kq,x⟩:=h
 obtain ⟨dx,q,h1,h2⟩:=id hR
 refine ⟨_,(qu (xh (PW.pt (jm (wm j3 (pv 1) qk (w6 _)) (k7 (wm wqj (pv 1) (kj (pv 0) T.cl zau (hr.mono ⋯) qf) (w6 _))))) (qm (kh rfl T.za2 zr rfl T.zh2 (xb x6 qz))) wt)
   (qm (wn (zx (zq (xq zk (zh (pv 0) rfl) (pv 1) (λ_ _=>rfl)) (zq (xq zk (zh (pv 0) rfl) (xk zu (pv 1) qk) (λ_ _=>rfl)) qz)))))),?_⟩
 refine gI rfl (xu rfl rfl (gI rfl ?_))
 refine zp (λq1=>?_) (λq1=>?_)
 ·refine jj ?_
  exact ⟨sz1,x (.inl q1)⟩
 ·refine gI rfl (gI rfl ⟨r,dx,gI rfl ⟨h1,vf (by decide +kernel),r,hs,rfl,hR,xu rfl rfl (gI rfl ?_)⟩⟩)
  refine zp (λq2=>?_) (λq2=>?_)
  ·exact ⟨sz1,x (.inr q2)⟩
  ·refine gI rfl ⟨r,wq,dx,_,_,rfl,h1,T.cl,T.na,ux,gI rfl (gX rfl rfl (SqL.of h2) (at_h ⋯ ⋯) (gI rfl ⟨r,wq,dx,_,_,rfl,h1,T.cl,T.na,ux,gI rfl (xu rfl rfl (gX rfl rfl (SqL.of h2) (at_h ⋯ ⋯) ⟨sz2,λp np=>?_⟩))⟩))⟩
   exact kq ⋯ ⋯ p np
def vt (hs:List Int)(t b:Int):Prop:=0≤t∧t≤((hs.length:Int)-1)*b
def Yz (K:Aa)(C CB CO:Aj):Sp:=λvs H Q E=>∃(r p:Aj) (hs:List Int) (t b:Int),vs=[.ref r,.ref p]∧RoadAt C H r hs∧xt hs∧SqT K H p [.int t,.int b] ∧
 (1≤b→Sm 8000 b∧(vt hs t b→∀q H',Same H H'→H' q=some (.tup (ptV (xg t b)))→Q (.ref q) H')∧(¬ vt hs t b→∀H',Same H H'→E (.ref CO) none H'))∧(b<1→E (.ref CB) none H)
include T in
theorem wx2 (F:Fun K "on_road" "Road.on_road" zbj f fd)(zau:MCal P w K mg base wq "width" 1 (W5 wq))(za3:Cal P w K mg base "lowest" 2 (Wm qx)) :
  FK P w K mg base 3 f fd ["self","point"] (Yz K wq qx q8):=by
 have sc:=Jm
 refine F.okX sc (λvs H Q E h=>by obtain ⟨_,_,_,_,_,rfl,_⟩:=h;rfl) λ_ _ _ _ H vs Q E hr h=>?_
 obtain ⟨r,p,hs,t,b,rfl,hR,hok,hp,kq,x⟩:=h
 obtain ⟨dx,q,h1,h2⟩:=id hR
 refine ⟨_,(qu (jn (wCA za3 (zq (xq xv (pv 1) qk (λ_ _=>rfl)) (zq (xq xv (pv 1) qk (λ_ _=>rfl)) qz))) (jy rfl (x4 (xp (i:=2)) (x4 (xp (i:=3)) vc))))
   (qu (xh (PW.pt (jm (wm j3 (pv 2) qk (w6 _)) (k7 (wm y4 (pv 2) (xk zm (kj (pv 0) T.cl zau (hr.mono ⋯) qf) (pv 3)) (w6 _))))) (qm (kh rfl T.zal zr rfl T.zhc (xb x6 qz))) wt)
   (qm (wn (zx (wz (pv 2) (wz (pv 3) qz))))))),?_⟩
 refine ⟨_,rfl,_,_,_,_,rfl,rfl,hp,rfl,_,rfl,_,_,_,_,rfl,rfl,hp,rfl,t,b,rfl,λhb=>⟨(kq hb).1.mono ⋯,λp1 n1=>?_⟩,λz=>x z⟩
 obtain ⟨sb,k1,k2⟩:=kq hb
 have s1:Same H (upd H p1 (.tup (ptV (xg t b)))):=Same.upd n1
 have hl:=hok.2.1
 refine ⟨p1,gI rfl ⟨SqT.new,rfl,_,_,rfl,_,_,rfl,rfl,?_⟩⟩
 refine gI rfl (xu rfl rfl (gI rfl ?_))
 refine zp (λq1=>?_) (λq1=>?_)
 ·refine jj ?_
  exact ⟨sz1,k2 (λz=>by have:=(qqy hb).mp q1;have:=z.1;lia) _ s1⟩
 ·refine gI rfl (gI rfl ⟨r,dx,gI rfl ⟨s1 _ _ h1,vf (by decide +kernel),r,hs,rfl,hR.same s1,gI rfl (xu rfl rfl ⟨IntMulOk.of_left (intBits_le_64 ⋯ ⋯),xu rfl rfl (gI rfl ?_)⟩)⟩⟩)
  refine zp (λq2=>?_) (λq2=>?_)
  ·exact ⟨sz1,k2 (λz=>by have:=(wxs hb).mp q2;have:=z.2;lia) _ s1⟩
  ·refine gI rfl (gI rfl ⟨sz2,λp2 n2=>?_⟩)
   refine k1 ⟨?_,?_⟩ p2 _ (s1.trans (Same.upd n2)) qc
   ·rcases cR t 0 with z|z
    ·exact absurd ((qqy hb).mpr z) q1
    ·exact z
   ·rcases cR (((hs.length:Int)-1)*b) t with z|z
    ·exact absurd ((wxs hb).mpr z) q2
    ·exact z
def spAt (K:Aa)(C CB CO:Aj):Sp:=λvs H Q E=>∃(r p:Aj) (hs:List Int) (t b:Int),vs=[.ref r,.ref p]∧RoadAt C H r hs∧xt hs∧SqT K H p [.int t,.int b] ∧
 (1≤b→Sm 8000 b∧(vt hs t b→∀q H',Same H H'→H' q=some (.tup (ptV (Wj hs t b)))→Q (.ref q) H')∧(¬ vt hs t b→∀H',Same H H'→E (.ref CO) none H'))∧(b<1→E (.ref CB) none H)
include T in
theorem zh9 (F:Fun K "at" "Road.at" zbk f fd)(zau:MCal P w K mg base wq "width" 1 (W5 wq))(za3:Cal P w K mg base "lowest" 2 (Wm qx))(zia:MCal P w K mg base wq "ends" 2 (wwn wq wu))
  (zdf:MCal P w K mg base wq "on_road" 3 (Yz K wq qx q8)):FK P w K mg base 4 f fd ["self","point"] (spAt K wq qx q8):=by
 have sc:=wxb
 refine F.okX sc (λvs H Q E h=>by obtain ⟨_,_,_,_,_,rfl,_⟩:=h;rfl) λ_ _ _ _ H vs Q E hr h=>?_
 obtain ⟨r,p,hs,t,b,rfl,hR,hok,hp,kq,x⟩:=h
 obtain ⟨dx,q,h1,h2⟩:=id hR
 refine ⟨_,(qu (jn (x8 (pv 0) T.cl zdf (hr.mono ⋯) qf (wz (pv 1) qz)) (jy rfl (x4 (xp (i:=2)) (x4 (xp (i:=3)) vc))))
   (qu (xj (i:=4) (xz (wkk rfl) rfl T.min_ PyProof.Rows.boot_min (vk (xk yp (pv 2) (pv 3)) (vk (xk k6 (kj (pv 0) T.cl zau (hr.mono ⋯) qf) qk) qz))))
   (qu (jn (x8 (pv 0) T.cl zia (hr.mono ⋯) qf (wz (pv 4) qz)) (jy rfl (x4 (xp (i:=5)) (x4 (xp (i:=6)) vc))))
   (qu (xj (i:=7) (xk k6 (pv 2) (xk zm (pv 4) (pv 3))))
   (qm (wn (wCA za3 (vk (xk zu (xk zm (pv 5) (pv 3)) (xk zm (xk k6 (pv 6) (pv 5)) (pv 7))) (wz (pv 3) qz))))))))),?_⟩
 refine ⟨_,rfl,r,dx,_,rfl,h1,vf (by decide +kernel),_,rfl,r,p,hs,t,b,rfl,hR,hok,hp,λhb=>⟨(kq hb).1,λhon p1 H1 s1 f1=>?_,λhoff H1 s1=>(kq hb).2.2 hoff H1 s1⟩,λz=>x z⟩
 obtain ⟨sb,k1,k2⟩:=kq hb
 have hl1:=hok.1
 have hl2:=hok.2.1
 have hy:=Wt (t:=t) hb
 have hyb:=xqy (t:=t) hb
 have hx:0≤(xg t b).1:=by
  rcases cR (xg t b).1 0 with z|z
  ·have:=(qqy hb).mp z
   have:=hon.1
   lia
  ·exact z
 have hk:=wy6 (hs:=hs) hl1 hy hx
 have sy:Sm 9000 (xg t b).2:=(sb.of_le ⋯).mono ⋯
 refine ⟨p1,gI rfl ⟨SqT.of f1,rfl,_,_,rfl,_,_,rfl,rfl,?_⟩⟩
 refine gI rfl (gI rfl (xu rfl rfl ⟨⟨⋯,sy⟩,gI rfl ⟨r,dx,gI rfl ⟨s1 _ _ h1,vf (by decide +kernel),r,hs,rfl,hR.same s1,xu rfl rfl ⟨_,_,rfl,?_⟩⟩⟩⟩))
 refine ⟨_,rfl,r,dx,_,rfl,s1 _ _ h1,vf (by decide +kernel),V.int (kF hs (xg t b).1 (xg t b).2),rfl,r,hs,kF hs (xg t b).1 (xg t b).2,rfl,hR.same s1,λ_ _ p2 n2=>?_,λz=>absurd z ⋯⟩
 have g1:=wzp hok (kF hs (xg t b).1 (xg t b).2)
 have g2:=wzp hok (kF hs (xg t b).1 (xg t b).2+1)
 refine ⟨p2,gI rfl ⟨SqT.new,rfl,_,_,rfl,_,_,rfl,rfl,?_⟩⟩
 refine gI rfl ⟨V.int (kF hs (xg t b).1 (xg t b).2),rfl,gI rfl (xu rfl rfl ⟨IntMulOk.of_left (intBits_le_64 ⋯ ⋯),xu rfl rfl ?_⟩)⟩
 refine gI rfl (gI rfl (xu rfl rfl ⟨IntMulOk.of_left (intBits_le_64 ⋯ ⋯),gI rfl (gI rfl (xu rfl rfl (gI rfl (xu rfl rfl ⟨IntMulOk.of_left (intBits_le_64 ⋯ ⋯),xu rfl rfl (gI rfl ?_)⟩))))⟩))
 refine ⟨yr hs (xg t b).1 (xg t b).2,(xg t b).2,rfl,λ_=>⟨sy,λp3 n3=>?_⟩,λz=>absurd z ⋯⟩
 have e:xg (yr hs (xg t b).1 (xg t b).2) (xg t b).2=Wj hs t b:=qvr hb
 rw [e]
 exact k1 hon p3 _ (s1.trans ((Same.upd n2).trans (Same.upd n3))) qc
variable {dx:Aj}
theorem wkf {x:Aj}(nx:H x=none)(nd:H dx=none)(h:∀b o,upd (upd H dx (.own x)) x (.ins C dx []) b=some o→b≠x→H' b=some o):Same H H':=λb o e =>
 h b o (by rw [wf (qh e nx),wf (qh e nd)];exact e) (qh e nx)
variable {p:Aj}
theorem Same.upd2 {o:HO}(s:Same H H')(n:H p=none):Same H (L2.upd H' p o):=λb u e=>by
 rw [wf (qh e n)]
 exact s b u e
theorem wjp {q:Int×Int}(h:SqT K H p [.int q.1,.int q.2]):RD K H (ptD q) (.ref p):=by
 unfold ptD
 rw [RD]
 exact ⟨p,gI rfl ⟨h,by rw [RDs];exact ⟨_,_,rfl,by rw [RD],by rw [RDs];exact ⟨_,_,rfl,by rw [RD],by rw [RDs]⟩⟩⟩⟩
theorem dep_pt {p q:Int×Int}:min (ptD p).depth (ptD q).depth≤60:=by simp [ptD,PyData.depth,PyData.depthAll]
variable {E:XK}
theorem qqf {CB:Aj}{x:Aj}{Pp:Hp→Prop}(f:H p=some (.lst (hs.map V.int)))(nx:H x=none)(nd:H dx=none)(k:xt hs→∀H',Same H H'→RoadAt C H' x hs→Pp H')(bad:¬ xt hs→∀H',Same H H'→E (.ref CB) none H') :
  Zj K CB C [.ref x,.ref p] (upd (upd H dx (.own x)) x (.ins C dx [])) (λr H2=>r=.non∧Pp H2) E:=by
 refine ⟨x,dx,p,hs,rfl,qc,SqL.of (by rw [wf (qh f nx),wf (qh f nd)];exact f),λok H4 q nq kp r l=>⟨rfl,k ok H4 (wkf nx nd kp) ⟨dx,q,r,l⟩⟩,λz=>bad z _ ?_⟩
 exact λb o e=>by rw [wf (qh e nx),wf (qh e nd)];exact e
theorem wu2 (ok:xt hs)(k:Int):0≤hAt hs k∧hAt hs k≤(hs.length:Int)-1:=by
 unfold hAt
 rw [ar]
 have:=ok.1
 cases e:hs[k.toNat]? with
 |none=>exact ⟨⋯,by show (0:Int)≤_;lia⟩
 |some v=>exact ok.2.2 v (aL e)
theorem wz0 {t b:Int}(hok:xt hs)(hb:1≤b)(hon:vt hs t b):vt hs (yr hs t b) b:=by
 have hl1:=hok.1
 have hk:=wy6 (hs:=hs) hl1 hb hon.1
 have g1:=wu2 hok (kF hs t b)
 have g2:=wu2 hok (kF hs t b+1)
 have e1:0≤t-kF hs t b*b∧t-kF hs t b*b≤b:=by
  have h1:t/b*b≤t:=fP t ⋯
  have h2:=eK t (show 0<b by lia)
  unfold kF
  split
  ·next z =>
   have h3:=aJ (show (hs.length:Int)-1-1≤t/b by lia) (show 0≤b by lia)
   have h4:=hon.2
   constructor
   ·lia
   ·have:((hs.length:Int)-1)*b=((hs.length:Int)-1-1)*b+b:=by grind
    lia
  ·have:(t/b+1)*b=t/b*b+b:=by grind
   constructor <;> lia
 have r:=wjk (u:=hAt hs (kF hs t b)) (v:=hAt hs (kF hs t b+1)) e1.1 e1.2
 refine ⟨Int.le_trans ?_ r.1,Int.le_trans r.2 ?_⟩
 ·refine dm ?_ ⋯
  split <;> lia
 ·refine aJ ?_ ⋯
  split <;> lia
theorem low_on {t b:Int}(hb:1≤b)(hon:vt hs t b):vt hs (xg t b).1 (xg t b).2:=by
 constructor
 ·rcases cR (xg t b).1 0 with z|z
  ·have:=(qqy hb).mp z
   have:=hon.1
   lia
  ·exact z
 ·rcases cR (((hs.length:Int)-1)*(xg t b).2) (xg t b).1 with z|z
  ·have:=(wxs hb).mp z
   have:=hon.2
   lia
  ·exact z
def itP (hs:List Int)(p:Int×Int):Nat→Int×Int
 |0=>p
 |n+1=>Wj hs (itP hs p n).1 (itP hs p n).2
def Pt (hs:List Int)(c:Int)(p:Int×Int):Prop:=1≤p.2∧p.2≤c∧gOf p.1 p.2=1∧vt hs p.1 p.2
theorem wwx {t b:Int}(hb:1≤b)(hon:vt hs t b):Pt hs b (xg t b):=⟨Wt hb,xqy hb,wuh hb,low_on hb hon⟩
variable {c:Int}
theorem xwb {p:Int×Int}(hok:xt hs)(h:Pt hs c p):Pt hs c (Wj hs p.1 p.2):=by
 have a:=wwx h.1 (wz0 hok h.1 h.2.2.2)
 exact ⟨a.1,Int.le_trans a.2.1 h.2.1,a.2.2.1,a.2.2.2⟩
theorem xqk {p:Int×Int}(hok:xt hs)(h:Pt hs c p):∀n,Pt hs c (itP hs p n)
 |0=>h
 |n+1=>xwb hok (xqk hok h n)
def trT (hs:List Int)(t b:Int):Nat→Int
 |0=>t
 |n+1=>yr hs (trT hs t b n) b
theorem Y2 {t b:Int}(hok:xt hs)(hb:1≤b)(hon:vt hs t b):∀n,vt hs (trT hs t b n) b
 |0=>hon
 |n+1=>wz0 hok hb (Y2 hok hb hon n)
theorem qyu {t b:Int}(hb:1≤b):∀n,xg (trT hs t b n) b=itP hs (xg t b) n
 |0=>rfl
 |n+1=>by
  show Wj hs (trT hs t b n) b=Wj hs (itP hs (xg t b) n).1 (itP hs (xg t b) n).2
  rw [←qyu hb n,qvr hb]
def ptsL (hs:List Int)(p:Int×Int)(n:Nat):List (Int×Int):=(List.range n).map (itP hs p)
theorem quf (hs:List Int)(p:Int×Int)(n:Nat):(ptsL hs p n).length=n:=by
 unfold ptsL
 rw [aa,aM]
def PtR (H:Hp)(v:V)(p:Int×Int):Prop:=∃a,v=.ref a∧H a=some (.tup [.int p.1,.int p.2])
variable {v:V}
theorem PtR.same {p:Int×Int}(h:PtR H v p)(s:Same H H'):PtR H' v p:=by
 obtain ⟨a,e,f⟩:=h
 exact ⟨a,e,s _ _ f⟩
variable {α β:Type}
theorem wq3 {F G:α→β→Prop}(h:∀a b,F a b→G a b):∀ {l:List α} {m:List β},Paired F l m→Paired G l m
 |_,_,.nil=>.nil
 |_,_,.cons a t=>.cons (h _ _ a) (wq3 h t)
theorem qkc {F:α→β→Prop}:∀ {l:List α} {m:List β} {i:Nat} {b:β},Paired F l m→m[i]?=some b→∃a,l[i]?=some a∧F a b
 |_,_,0,_,.cons a _,e=>by cases e;exact gI rfl a
 |_,_,i+1,_,.cons _ t,e=>qkc (i:=i) t e
def PtsAt (H:Hp)(q:Aj)(ps:List (Int×Int)):Prop:=∃vs,H q=some (.lst vs)∧Paired (PtR H) vs ps
theorem PtsAt.same {ps:List (Int×Int)}(h:PtsAt H q ps)(s:Same H H'):PtsAt H' q ps:=by
 obtain ⟨vs,f,r⟩:=h
 exact ⟨vs,s _ _ f,wq3 (λ_ _ z=>z.same s) r⟩
def Dist {α:Type}(f:Nat→α)(n:Nat):Prop:=∀i j,i<j→j<n→f i≠f j
variable {m:Nat}
theorem Dist.mono {α:Type}{f:Nat→α}{n:Nat}(h:Dist f n)(le:m≤n):Dist f m:=λi j a b=>h i j a ⋯
theorem Dist.succ {α:Type}{f:Nat→α}{n:Nat}(h:Dist f n)(h':∀j,j<n→f j≠f n):Dist f (n+1):=λi j a b=>by
 rcases (by lia:j<n∨j=n) with z|z
 ·exact h i j a z
 ·subst z
  exact h' i a
theorem shift {α:Type}{f:Nat→α}(st:∀i j,f i=f j→f (i+1)=f (j+1)){n u:Nat}(e:f n=f u):∀k,f (n+k)=f (u+k)
 |0=>e
 |k+1=>st _ _ (shift st e k)
theorem per {α:Type}{f:Nat→α}(st:∀i j,f i=f j→f (i+1)=f (j+1)){n u:Nat}(hu:u<n)(e:f n=f u)(m:Nat):u≤m→f m=f (u+(m-u)%(n-u)):=by
 induction m using Nat.strongRecOn with
 |_ m ih =>
  intro hm
  rcases fL m n with z|z
  ·rw [Nat.mod_eq_of_lt ⋯]
   congr 1
   lia
  ·have h1:=shift st e (m-n)
   rw [show n+(m-n)=m by lia] at h1
   have h2:=ih (u+(m-n)) ⋯ ⋯
   rw [h1,h2,show u+(m-n)-u=m-u-(n-u) by lia,←Nat.mod_eq_sub_mod ⋯]
variable {u:Nat}
theorem wzb {m:Int}{n:Nat}(h:(u:Int)≤m)(hu:u<n):(u:Int)+(m-u)%((n:Int)-u)=((u+(m.toNat-u)%(n-u):Nat):Int):=by
 have e1:m-(u:Int)=((m.toNat-u:Nat):Int):=by lia
 have e2:(n:Int)-(u:Int)=((n-u:Nat):Int):=by lia
 rw [e1,e2]
 push_cast
 rfl
theorem pig (N:Nat):∀l:List Nat,l.Nodup→(∀x∈l,x<N)→l.length≤N:=by
 induction N with
 |zero =>
  intro l _ h
  cases l with
  |nil=>exact al _
  |cons a r=>exact absurd (h a (.head _)) ⋯
 |succ N ih =>
  intro l nd h
  by_cases m:N∈l
  ·have h1:=ih (l.erase N) (nd.erase N) λx hx=>by
    have a:=(nd.mem_erase_iff.mp hx)
    have b:=h x a.2
    lia
   rw [fy m] at h1
   lia
  ·have:=ih l nd λx hx=>by
    have b:=h x hx
    have:x≠N:=λz=>m (z▸hx)
    lia
   lia
theorem pigI {f:Nat→Int}{n:Nat}{B:Int}(h:Dist f n)(b:∀i,0≤f i∧f i≤B):(n:Int)≤B+1:=by
 have h1:=pig (B+1).toNat ((List.range n).map λi=>(f i).toNat) (by
  rw [List.nodup_iff_pairwise_ne,bJ]
  refine cv ?_ (dY (n:=n))
  intro i j hi hj hij e
  have:=b i
  have:=b j
  exact h i j hij (aW.mp hj) ⋯) λx hx=>by
   obtain ⟨i,_,rfl⟩:=ax.mp hx
   have:=b i
   lia
 rw [aa,aM] at h1
 have:=b 0
 lia
theorem it_st {p:Int×Int}:∀i j,itP hs p i=itP hs p j→itP hs p (i+1)=itP hs p (j+1):=λi j e=>by
 show Wj hs (itP hs p i).1 (itP hs p i).2=Wj hs (itP hs p j).1 (itP hs p j).2
 rw [e]
theorem qju {t b:Int}(hb:1≤b)(g:gOf t b=1):xg t b=(t,b):=by
 unfold xg
 rw [g,Int.ediv_one,Int.ediv_one]
theorem it_tr {p:Int×Int}(h:Pt hs c p)(n:Nat):itP hs p n=xg (trT hs p.1 p.2 n) p.2:=by
 rw [qyu h.1,qju h.1 h.2.2.1]
theorem xq5 {x y b:Int}(hb:1≤b)(e:xg x b=xg y b):x=y:=by
 have h1:=(qv1 (N:=x) hb).2
 have h2:=(qv1 (N:=y) hb).2
 rw [e] at h1
 lia
theorem it_eq {p:Int×Int}(h:Pt hs c p)(i j:Nat):itP hs p i=itP hs p j↔trT hs p.1 p.2 i=trT hs p.1 p.2 j:=by
 rw [it_tr h,it_tr h]
 exact ⟨λe=>xq5 h.1 e,λe=>by rw [e]⟩
def Q0 (p:Int×Int):List Key:=[.inl p.1,.inl p.2]
theorem qy7 {p q:Int×Int}(e:Q0 p=Q0 q):p=q:=by
 unfold Q0 at e
 simp only [List.cons.injEq,Sum.inl.injEq,and_true] at e
 exact Prod.ext e.1 e.2
def yu {κ:Type}(k:Nat→κ)(n:Nat):List (κ×V):=(List.range n).map λi=>(k i,V.int i)
variable {κ:Type}
theorem Jq (k:Nat→κ)(n:Nat):yu k (n+1)=yu k n++[(k n,V.int n)]:=by
 unfold yu
 rw [cb,bg]
 rfl
theorem yh (k:Nat→κ)(n:Nat):(yu k n).length=n:=by
 unfold yu
 rw [aa,aM]
theorem Y1 [DecidableEq κ]{k:Nat→κ}{q:κ}{n:Nat}(h:∀j,j<n→k j≠q):wp (yu k n) q=none:=by
 unfold wp yu
 rw [dL.mpr]
 ·rfl
 ·intro x hx
  obtain ⟨i,hi,rfl⟩:=ax.mp hx
  simpa using h i (aW.mp hi)
theorem Y6 [DecidableEq κ]{k:Nat→κ}{j:Nat}:∀ {n:Nat},Dist k n→j<n→wp (yu k n) (k j)=some (.int j)
 |0,_,h=>absurd h ⋯
 |n+1,d,h=>by
  rw [Jq,Y4 _ _ _ _ (Y1 λi hi=>d i n hi ⋯)]
  rcases (by lia:j<n∨j=n) with z|z
  ·rw [ai (d j n z ⋯),Y6 (d.mono ⋯) z]
  ·subst z
   rw [ak rfl]
theorem wz8 {γ δ:Type}{F:α→β→Prop}{G:α→γ→Prop}(g:δ→β)(f:δ→γ)(h:∀a x,F a (g x)→G a (f x)):∀ {l:List δ} {vs:List α},Paired F vs (l.map g)→Paired G vs (l.map f)
 |[],_,.nil=>.nil
 |_::_,_,.cons a t=>.cons (h _ _ a) (wz8 g f h t)
def Wr:Sp:=λvs H Q _=>∃i:Int,vs=[.int i]∧Q (.bl true) H
include T in
theorem xqp (F:Fun K "_law_whole" "_law_whole" zcx f fd):FK P w K mg base 1 f fd ["_law_found"] Wr:=by
 have sc:=qzh
 refine F.okX sc (λvs H Q E h=>by obtain ⟨_,rfl,_⟩:=h;rfl) λ_ _ _ _ H vs Q E hr h=>?_
 obtain ⟨i,rfl,k⟩:=h
 refine ⟨_,(qm (wn (Qr (xz v5 rfl T.isinstance_ aR (wz (pv 0) (wz (yg (v:=V.ty "int") rfl T.int_ PyProof.Rows.boot_int rfl) qz))) (Zp (pe_not (xz v5 rfl T.isinstance_ aR (wz (pv 0) (wz (yg (v:=V.ty "bool") rfl T.bool_ PyProof.Rows.boot_bool rfl) qz)))))))),?_⟩
 refine gI rfl ⟨_,_,_,_,rfl,TyOf.int i,rfl,_,rfl,?_⟩
 refine jj ?_
 refine gI rfl ⟨_,_,_,_,rfl,TyOf.int i,rfl,_,rfl,?_⟩
 exact k
def qqm (K:Aa):Sp:=λvs H Q _=>∃p x y,vs=[.ref p]∧H p=some (.tup [.int x,.int y])∧1≤y∧gOf x y=1∧Q (.bl true) H
include T in
theorem wjz (F:Fun K "_law_point" "_law_point" zcy f fd)(zan:Cal P w K mg base "_law_whole" 1 Wr)(zde:Cal P w K mg base "_law_common" 1 qxn) :
  FK P w K mg base 2 f fd ["_law_found"] (qqm K):=by
 have sc:=qzc
 refine F.okX sc (λvs H Q E h=>by obtain ⟨_,_,_,rfl,_⟩:=h;rfl) λ_ _ _ _ H vs Q E hr h=>?_
 obtain ⟨p,x,y,rfl,hp,y1,hg,k⟩:=h
 have hq:SqT K H p [.int x,.int y]:=SqT.of hp
 refine ⟨_,(qu (xh (PW.pt (jm (jz (vm (xz v5 rfl T.isinstance_ aR (wz (pv 0) (wz (yg (v:=V.ty "tuple") rfl T.tuple_ cD rfl) qz))))) (k7 (wm Zw (xz xf rfl T.len_ aB (wz (pv 0) qz)) qk (w6 _))))) (qm (wn j9)) wt)
   (qu (xh (PW.pt (jm (jz (vm (wCA zan (zq (xq xv (pv 0) qk (λ_ _=>rfl)) qz)))) (jm (jz (vm (wCA zan (zq (xq xv (pv 0) qk (λ_ _=>rfl)) qz)))) (k7 (wm j3 (xq xv (pv 0) qk (λ_ _=>rfl)) qk (w6 _)))))) (qm (wn j9)) wt)
   (qm (wn (jg zf (wCA zde (vd (xz Wg rfl T.abs_ Wu (zq (xq xv (pv 0) qk (λ_ _=>rfl)) qz)) (zq (xq xv (pv 0) qk (λ_ _=>rfl)) qz))) qk (w6 _)))))),?_⟩
 refine gI rfl ⟨_,_,_,_,rfl,TyOf.tup hp,rfl,_,rfl,?_⟩
 refine vg ?_
 refine gI rfl ⟨_,_,rfl,.inr hq,rfl,_,rfl,?_⟩
 refine vg ?_
 refine gI rfl (gX rfl rfl hq rfl ⟨x,rfl,_,rfl,?_⟩)
 refine vg ?_
 refine gI rfl (gX rfl rfl hq rfl ⟨y,rfl,_,rfl,?_⟩)
 refine vg ?_
 refine gI rfl (gX rfl rfl hq rfl (xu rfl rfl (gI rfl ?_)))
 refine zp (λq2=>absurd q2 ⋯) (λq2=>?_)
 refine gI rfl (gX rfl rfl hq rfl (gI rfl (gI rfl (gX rfl rfl hq rfl ⟨Qn x,y,rfl,qj8 x,⋯,rfl,?_⟩))))
 have e:Y0 (Qn x) y=1:=hg
 rw [e]
 exact k
def qjv (C CT:Aj):Sp:=λvs H Q E=>∃(r a:Aj) (hs:List Int) (p:Int×Int) (c:Int),vs=[.ref r,.ref a]∧RoadAt C H r hs∧xt hs∧H a=some (.tup [.int p.1,.int p.2])∧Pt hs c p∧Sm 8000 c ∧
 (∀n u q l H',n≤1000→Dist (itP hs p) n→u<n→itP hs p n=itP hs p u→Same H H'→H l=none→H' q=some (.tup [.ref l,.int ((u:Nat):Int)])→PtsAt H' l (ptsL hs p n)→Q (.ref q) H')∧(Dist (itP hs p) 1001→∀H',Same H H'→E (.ref CT) none H')
include T in
theorem wub (F:Fun K "trace" "trace" zbb f fd)(zib:MCal P w K mg base wq "at" 4 (spAt K wq qx q8)):FK P w K mg base 5 f fd ["road","start"] (qjv wq wv):=by
 have sc:=wjm
 refine F.okX sc (λvs H Q E h=>by obtain ⟨_,_,_,_,_,rfl,_⟩:=h;rfl) λ_ _ _ _ H vs Q E hr h=>?_
 obtain ⟨r,a,hs,p,c,rfl,hR,hok,ha,hP,sc8,k,x⟩:=h
 obtain ⟨dx,q0,h1,h2⟩:=id hR
 obtain ⟨tm,zaq⟩:=T.zaq
 refine ⟨_,(qu (xj (i:=2) wuf)
   (qu (xj (i:=3) (pv 1))
   (qu (Ym be (Qx (yw (vj hr) (pv 3) (pv 2))) (qu (xh (wm zf (xz qvf rfl T.len_ aB (wz (pv 2) qz)) (u6 (v:=V.int 1000) rfl zaq ⟨_,rfl⟩) (w6 _)) (qm (kh rfl T.za1 zr rfl T.zh1 (xb x6 qz))) wt)
   (qu (u7 (vj hr) (pv 2) (pv 3) (xz qvf rfl T.len_ aB (wz (pv 2) qz)) rfl)
   (qm (xj (i:=3) (x8 (pv 0) T.cl zib (hr.mono ⋯) qf (wz (pv 3) qz)))))))
   (qm (wn (zx (vd (zn (wwv rfl) rfl T.list_ aZ (wz (pv 2) qz)) (zq (jf (vj hr) (pv 2) (pv 3) (λ_ _=>rfl)) qz)))))))),?_⟩
 refine λD nD=>gI rfl ?_
 refine qwu (λσ H2=>∃(i:Nat) (b:Aj),σ=[some (.ref r),some (.ref a),some (.ref D),some (.ref b)]∧i≤1000∧Dist (itP hs p) i∧Same H H2∧H2 D=some (.dT (yu (λj=>Q0 (itP hs p j)) i))∧H2 b=some (.tup [.int (itP hs p i).1,.int (itP hs p i).2]))
  (λ_ H2=>match H2 D with|some (.dT kvs)=>1001-kvs.length|_=>0) ⟨0,a,rfl,⋯,λi j _ z=>absurd z ⋯,Same.upd nD,qc,by rw [wf (qh ha nD)];exact ha⟩ ?_ λσ H Q Q' h ⟨v,e,v2,e2,a',o,e3,g,kk,e4,q⟩=>⟨v,e,v2,e2,a',o,e3,g,kk,e4,h _ _ q⟩
 rintro σ H2 ⟨i,b,rfl,hi,hd,s2,f2,fb⟩
 have hd':Dist (λj=>Q0 (itP hs p j)) i:=λu v uv vi e=>hd u v uv vi (qy7 e)
 have fb':H2 b=some (.tup ((Q0 (itP hs p i)).map kV)):=fb
 by_cases hj:∃j,j<i∧itP hs p j=itP hs p i
 ·obtain ⟨j,ji,je⟩:=hj
  have hv:wp (yu (λj=>Q0 (itP hs p j)) i) (Q0 (itP hs p i))=some (.int j):=by
   rw [←je]
   exact Y6 hd' ji
  have dg:DGet H2 D (.ref b) (some (.int j)):=by
   have:=DGet.t f2 fb'
   rwa [hv] at this
  refine gI rfl (gI rfl ⟨D,gI rfl ⟨dg,_,rfl,?_⟩⟩)
  refine vg ?_
  refine gI rfl ⟨D,gI rfl ⟨f2,λl vs nl kat=>?_⟩⟩
  have s3:=Same.upd (o:=.lst vs) nl
  have dg3:DGet (upd H2 l (.lst vs)) D (.ref b) (some (.int j)):=by
   have:=DGet.t (s3 _ _ f2) (s3 _ _ fb')
   rwa [hv] at this
  refine gI rfl (gI rfl ⟨D,gI rfl ⟨dg3,sz2,λq nq=>?_⟩⟩)
  have s4:=s3.trans (Same.upd (o:=.tup [.ref l,.int j]) nq)
  have nl0:H l=none:=by
   cases e:H l with
   |none=>rfl
   |some o=>rw [s2 _ _ e] at nl;cases nl
  refine k i j q l _ hi hd ji je.symm (s2.trans s4) nl0 qc ⟨vs,Same.upd nq _ _ qc,?_⟩
  refine wz8 (l:=List.range i) (λj=>(Q0 (itP hs p j),V.int j)) (itP hs p) (λv j hv=>?_) kat
  obtain ⟨b',rfl,fb2⟩:=hv
  exact ⟨b',rfl,s4 _ _ fb2⟩
 ·have hn:∀j,j<i→itP hs p j≠itP hs p i:=λj a b=>hj ⟨j,a,b⟩
  have hv:wp (yu (λj=>Q0 (itP hs p j)) i) (Q0 (itP hs p i))=none:=Y1 λj a b=>hn j a (qy7 b)
  have dg:DGet H2 D (.ref b) none:=by
   have:=DGet.t f2 fb'
   rwa [hv] at this
  have hd1:=hd.succ hn
  refine gI rfl (gI rfl ⟨D,gI rfl ⟨dg,_,rfl,?_⟩⟩)
  refine jj ?_
  refine gI rfl ⟨D,gI rfl ⟨f2,rfl,_,rfl,?_⟩⟩
  rw [yh]
  refine xn (λq1=>?_) (λq1=>?_)
  ·have:i=1000:=by lia
   subst this
   exact ⟨sz1,x hd1 _ s2⟩
  ·refine gI rfl ⟨D,gI rfl ⟨f2,gI rfl (gI rfl ⟨D,gI rfl ⟨DPut.t f2 fb' (wkx (by rw [yh];lia)),?_⟩⟩)⟩⟩
   rw [Qf _ hv,yh,←Jq (λj=>Q0 (itP hs p j)) i]
   have s3:Same H (upd H2 D (.dT (yu (λj=>Q0 (itP hs p j)) (i+1)))):=Same.upd2 s2 nD
   have db:b≠D:=λz=>by rw [z,f2] at fb;cases fb
   have fb3:upd H2 D (.dT (yu (λj=>Q0 (itP hs p j)) (i+1))) b=some (.tup [.int (itP hs p i).1,.int (itP hs p i).2]):=by rw [wf db];exact fb
   have f3:upd H2 D (.dT (yu (λj=>Q0 (itP hs p j)) (i+1))) D=some (.dT (yu (λj=>Q0 (itP hs p j)) (i+1))):=qc
   generalize upd H2 D (.dT (yu (λj=>Q0 (itP hs p j)) (i+1)))=H3 at s3 fb3 f3
   have Pn:=xqk hok hP i
   refine ⟨_,rfl,r,dx,_,rfl,s3 _ _ h1,vf (by decide +kernel),_,rfl,r,b,hs,(itP hs p i).1,(itP hs p i).2,rfl,hR.same s3,hok,SqT.of fb3,λ_=>⟨(sc8.of_le (by have:=Pn.2.1;have:=Pn.1;lia)),λ_ p4 H4 s4 f4=>?_,λz=>absurd Pn.2.2.2 z⟩,λz=>absurd Pn.1 ⋯⟩
   refine ⟨⟨i+1,p4,rfl,⋯,hd1,s3.trans s4,s4 _ _ f3,f4⟩,?_⟩
   show (match H4 D with|some (.dT kvs)=>1001-kvs.length|_=>0)<(match H2 D with|some (.dT kvs)=>1001-kvs.length|_=>0)
   rw [s4 _ _ f3,f2]
   show 1001-(yu (λj=>Q0 (itP hs p j)) (i+1)).length<1001-(yu (λj=>Q0 (itP hs p j)) i).length
   rw [yh,yh]
   lia
def TrAt (H:Hp)(l:Aj)(hs:List Int)(p:Int×Int)(n u:Nat):Prop:=n≤1000∧Dist (itP hs p) n∧u<n∧itP hs p n=itP hs p u∧PtsAt H l (ptsL hs p n)
def wwq:Sp:=λvs H Q _=>∃(l:Aj) (hs:List Int) (p:Int×Int) (n u:Nat) (m:Int),vs=[.ref l,.int u,.int m]∧TrAt H l hs p n u∧0≤m∧∀a,H a=some (.tup [.int (itP hs p m.toNat).1,.int (itP hs p m.toNat).2])→Q (.ref a) H
variable {i:Nat}
theorem ww6 {p:Int×Int}{n:Nat}{vs:List V}(h:Paired (PtR H) vs (ptsL hs p n))(hi:i<n):∃a,vs[i]?=some (.ref a)∧H a=some (.tup [.int (itP hs p i).1,.int (itP hs p i).2]):=by
 obtain ⟨v,ev,⟨a,rfl,fa⟩⟩:=qkc (i:=i) (b:=itP hs p i) h (by
  unfold ptsL
  rw [aE,cV hi]
  rfl)
 exact ⟨a,ev,fa⟩
include T in
theorem xw2 (F:Fun K "spot" "spot" zbc f fd):FK P w K mg base 1 f fd ["points","turn","many"] wwq:=by
 have sc:=xxq
 refine F.okX sc (λvs H Q E h=>by obtain ⟨_,_,_,_,_,_,rfl,_⟩:=h;rfl) λ_ _ _ _ H vs Q E hr h=>?_
 obtain ⟨l,hs,p,n,u,m,rfl,⟨n1,hd,hu,e,vs,fl,pr⟩,m0,k⟩:=h
 have hlen:vs.length=n:=by rw [pr.length,quf]
 refine ⟨_,(qu (xh (wm j3 (pv 2) (pv 1) (w6 _)) (qm (wn (xq zk (pv 0) (pv 2) (λ_ _=>rfl)))) wt)
   (qm (wn (xq zk (pv 0) (xk zu (pv 1) (xk j5 (xk k6 (pv 2) (pv 1)) (xk k6 (xz xf rfl T.len_ aB (wz (pv 0) qz)) (pv 1)))) (λ_ _=>rfl))))),?_⟩
 refine gI rfl (gI rfl (xu rfl rfl (gI rfl ?_)))
 refine zp (λq1=>?_) (λq1=>?_)
 ·obtain ⟨a,ea,fa⟩:=ww6 (i:=m.toNat) pr ⋯
  refine gI rfl (gI rfl (gX rfl rfl (SqL.of fl) ?_ (k a fa)))
  have:=qqv ea
  rwa [dD m0] at this
 ·have hm:(u:Int)≤m:=by lia
  have lt:=dq (m.toNat-u) (show 0<n-u by lia)
  obtain ⟨a,ea,fa⟩:=ww6 (i:=u+(m.toNat-u)%(n-u)) pr ⋯
  rw [←per it_st hu e m.toNat ⋯] at fa
  refine gI rfl (gI rfl (gI rfl (gI rfl (xu rfl rfl (gI rfl ⟨_,_,rfl,.inl (SqL.of fl),gI rfl (xu rfl rfl (xu rfl rfl ⟨?_,xu rfl rfl (gX rfl rfl (SqL.of fl) ?_ (k a fa))⟩))⟩)))))
  ·rw [hlen]
   show (0:Int)<(n:Int)-u
   lia
  ·rw [hlen,wzb hm hu]
   exact qqv ea
def wq7 (K:Aa):Sp:=λvs H Q _=>∃(p:Aj) (hs:List Int) (t b:Int),vs=[.ref p,.int t,.int b]∧SqL K H p (hs.map V.int)∧xt hs∧1≤b∧Sm 4000 b∧vt hs t b∧Q (.int (yr hs t b)) H
include T in
theorem xxn (F:Fun K "_law_step" "_law_step" zcl f fd):FK P w K mg base 1 f fd ["_law_heights","_law_top","_law_bottom"] (wq7 K):=by
 have sc:=qj6
 refine F.okX sc (λvs H Q E h=>by obtain ⟨_,_,_,_,rfl,_⟩:=h;rfl) λ_ _ _ _ H vs Q E hr h=>?_
 obtain ⟨p,hs,t,b,rfl,hS,hok,hb,sb,hon,k⟩:=h
 rw [←wk5 hok.1 hb hon.1 hon.2] at k
 have hl:=hok.2.1
 have k0:=fO hon.1 (show (0:Int)≤b by lia)
 have k1:t/b≤(hs.length:Int)-1:=by
  have:=Int.ediv_le_ediv (show 0<b by lia) hon.2
  rwa [Int.mul_ediv_cancel _ (show b≠0 by lia)] at this
 have g1:=wzp hok (t/b)
 have g2:=wzp hok (t/b+1)
 refine ⟨_,(qu (xj (i:=3) (xk yp (pv 1) (pv 2)))
   (qu (xh (wm zf (xk zm (pv 3) (pv 2)) (pv 1) (w6 _)) (qm (wn (xk zm (xq zk (pv 0) (pv 3) (λ_ _=>rfl)) (pv 2)))) wt)
   (qm (wn (xk zu (xk zm (xq zk (pv 0) (pv 3) (λ_ _=>rfl)) (pv 2)) (xk zm (xk k6 (xq zk (pv 0) (xk zu (pv 3) qk) (λ_ _=>rfl)) (xq zk (pv 0) (pv 3) (λ_ _=>rfl))) (xk k6 (pv 1) (xk zm (pv 3) (pv 2))))))))),?_⟩
 refine gI rfl (gI rfl (xu rfl rfl ⟨⟨⋯,sb.mono ⋯⟩,gI rfl (gI rfl (xu rfl rfl ⟨IntMulOk.of_left (intBits_le_64 ⋯ ⋯),gI rfl ⟨rfl,_,rfl,?_⟩⟩))⟩))
 refine xn (λq1=>?_) (λq1=>?_)
 ·refine gI rfl (gI rfl (gX rfl rfl hS (at_h k0 ⋯) (gI rfl (xu rfl rfl ⟨IntMulOk.of_left (intBits_le_64 ⋯ ⋯),?_⟩))))
  rw [wvv,ak q1] at k
  exact k
 ·have k2:t/b<(hs.length:Int)-1:=by
   rcases cR (t/b) ((hs.length:Int)-1) with z|z
   ·exact z
   ·have e:t/b=(hs.length:Int)-1:=by lia
    have h1:t/b*b≤t:=fP t ⋯
    have h2:=hon.2
    rw [←e] at h2
    exact absurd ⋯ q1
  refine gI rfl (gI rfl (gX rfl rfl hS (at_h k0 ⋯) (gI rfl (xu rfl rfl ⟨IntMulOk.of_left (intBits_le_64 ⋯ ⋯),gI rfl (gI rfl (xu rfl rfl (gX rfl rfl hS (at_h ⋯ ⋯) (gI rfl (gI rfl (gX rfl rfl hS (at_h k0 ⋯) (xu rfl rfl (gI rfl (gI rfl (gI rfl (xu rfl rfl ⟨IntMulOk.of_left (intBits_le_64 ⋯ ⋯),xu rfl rfl (xu rfl rfl ⟨IntMulOk.of_left (intBits_le_64 ⋯ ⋯),xu rfl rfl ?_⟩)⟩)))))))))))⟩))))
  rw [wvv,ai q1] at k
  exact k
variable {kvs:List (Key×V)}
theorem qwn {D:Aj}{i:Int}{o:Option V}(f:H D=some (.dK kvs))(e:wp kvs (.inl i)=o):DGet H D (.int i) o:=by
 have:=DGet.k (k:=.inl i) f
 rwa [e] at this
def qxb (K:Aa):Sp:=λvs H Q _=>∃(p:Aj) (hs:List Int) (t b:Int),vs=[.ref p,.int t,.int b]∧SqL K H p (hs.map V.int)∧xt hs∧1≤b∧b≤10000∧vt hs t b ∧
 (∀n u q l H',Dist (trT hs t b) n→u<n→trT hs t b n=trT hs t b u→n≤300000→Same H H'→H l=none→H' q=some (.tup [.ref l,.int ((u:Nat):Int)])→H' l=some (.lst (((List.range n).map (trT hs t b)).map V.int))→Q (.ref q) H')
theorem qvb {n:Nat}(h:n≤1000000):n<sizeLine:=dI h ⋯
include T in
theorem wv6 (F:Fun K "_law_trace" "_law_trace" zcm f fd)(zic:Cal P w K mg base "_law_step" 1 (wq7 K)):FK P w K mg base 2 f fd ["_law_heights","_law_top","_law_bottom"] (qxb K):=by
 have sc:=qz3
 refine F.okX sc (λvs H Q E h=>by obtain ⟨_,_,_,_,rfl,_⟩:=h;rfl) λ_ _ _ _ H vs Q E hr h=>?_
 obtain ⟨p,hs,t,b,rfl,hS,hok,hb,hb2,hon,k⟩:=h
 have hl:=hok.2.1
 have sb:Sm 4000 b:=(Sm.small (n:=65) ⋯ ⋯ ⋯).mono ⋯
 have bnd:∀n,Dist (trT hs t b) n→n≤250000:=λn d=>by
  have h1:=pigI d λi=>Y2 hok hb hon i
  have h2:=Int.mul_le_mul (show (hs.length:Int)-1≤24 by lia) hb2 ⋯ ⋯
  lia
 refine ⟨_,(qu (xj (i:=3) jw)
   (qu (xj (i:=4) (yk qz))
   (qu (Ym be (Qx (yw (vj hr) (pv 1) (pv 3))) (qu (u7 (vj hr) (pv 3) (pv 1) (xz xf rfl T.len_ aB (wz (pv 4) qz)) rfl)
   (qu (zy (qvd bw bV bW yq (pv 4) (wz (pv 1) qz)))
   (qm (xj (i:=1) (wCA zic (wz (pv 0) (wz (pv 1) (wz (pv 2) qz)))))))))
   (qm (wn (zx (wz (pv 4) (zq (jf (vj hr) (pv 3) (pv 1) (λ_ _=>rfl)) qz)))))))),?_⟩
 refine λD nD=>⟨sz0,λl nl=>?_⟩
 have dDl:D≠l:=qh (show upd H D (.dK []) D=some (.dK []) from qc) nl
 have nl0:H l=none:=by
  cases e:H l with
  |none=>rfl
  |some o=>rw [Same.upd nD _ _ e] at nl;cases nl
 refine qwu (λσ H2=>∃(i:Nat),σ=[some (.ref p),some (.int (trT hs t b i)),some (.int b),some (.ref D),some (.ref l)]∧Dist (trT hs t b) i∧Same H H2∧H2 D=some (.dK (yu (λj=>Sum.inl (trT hs t b j)) i))∧H2 l=some (.lst (((List.range i).map (trT hs t b)).map V.int)))
  (λ_ H2=>match H2 D with|some (.dK kvs)=>250001-kvs.length|_=>0) ⟨0,rfl,λi j _ z=>absurd z ⋯,(Same.upd nD).trans (Same.upd nl),by rw [wf dDl,qc];rfl,qc⟩ ?_ λσ H Q Q' h ⟨v,e,v2,e2,a',o,e3,g,kk,e4,q⟩=>⟨v,e,v2,e2,a',o,e3,g,kk,e4,h _ _ q⟩
 rintro σ H2 ⟨i,rfl,hd,s2,f2,fl⟩
 have hd':Dist (λj=>(Sum.inl (trT hs t b j):Key)) i:=λu v uv vi e=>hd u v uv vi (Sum.inl.inj e)
 have hbi:=bnd i hd
 have hlen:(((List.range i).map (trT hs t b)).map V.int).length=i:=by rw [aa,aa,aM]
 by_cases hj:∃j,j<i∧trT hs t b j=trT hs t b i
 ·obtain ⟨j,ji,je⟩:=hj
  have hv:wp (yu (λj=>(Sum.inl (trT hs t b j):Key)) i) (.inl (trT hs t b i))=some (.int j):=by
   rw [←je]
   exact Y6 hd' ji
  refine gI rfl (gI rfl ⟨D,gI rfl ⟨qwn f2 hv,_,rfl,?_⟩⟩)
  refine vg ?_
  refine gI rfl (gI rfl (gI rfl ⟨D,gI rfl ⟨qwn f2 hv,sz2,λq nq=>?_⟩⟩))
  have s3:=Same.upd (o:=.tup [.ref l,.int j]) nq
  exact k i j q l _ hd ji je.symm ⋯ (s2.trans s3) nl0 qc (s3 _ _ fl)
 ·have hn:∀j,j<i→trT hs t b j≠trT hs t b i:=λj a b=>hj ⟨j,a,b⟩
  have hv:wp (yu (λj=>(Sum.inl (trT hs t b j):Key)) i) (.inl (trT hs t b i))=none:=Y1 λj a b=>hn j a (Sum.inl.inj b)
  have hd1:=hd.succ hn
  have hb1:=bnd (i+1) hd1
  refine gI rfl (gI rfl ⟨D,gI rfl ⟨qwn f2 hv,_,rfl,?_⟩⟩)
  refine jj ?_
  refine gI rfl ⟨_,_,rfl,.inl (SqL.of fl),gI rfl (gI rfl ⟨D,gI rfl ⟨DPut.k (k:=.inl (trT hs t b i)) f2 (qvb (by rw [yh];lia)),?_⟩⟩)⟩
  rw [Qf _ hv,hlen,←Jq (λj=>(Sum.inl (trT hs t b j):Key)) i]
  have s3:Same H (upd H2 D (.dK (yu (λj=>(Sum.inl (trT hs t b j):Key)) (i+1)))):=Same.upd2 s2 nD
  have fl3:upd H2 D (.dK (yu (λj=>(Sum.inl (trT hs t b j):Key)) (i+1))) l=some (.lst (((List.range i).map (trT hs t b)).map V.int)):=by rw [wf dDl.symm];exact fl
  have f3:upd H2 D (.dK (yu (λj=>(Sum.inl (trT hs t b j):Key)) (i+1))) D=some (.dK (yu (λj=>(Sum.inl (trT hs t b j):Key)) (i+1))):=qc
  generalize upd H2 D (.dK (yu (λj=>(Sum.inl (trT hs t b j):Key)) (i+1)))=H3 at s3 fl3 f3
  refine gI rfl ⟨.inl ⟨rfl,_,SqL.of fl3⟩,gI rfl ⟨_,_,_,rfl,rfl,fl3,qvb (by rw [hlen];lia),?_⟩⟩
  have s4:Same H (upd H3 l (.lst (((List.range i).map (trT hs t b)).map V.int++[V.int (trT hs t b i)]))):=Same.upd2 s3 nl0
  refine gI rfl (gI rfl (gI rfl ⟨p,hs,trT hs t b i,b,rfl,s4.sql hS,hok,hb,sb,Y2 hok hb hon i,⟨i+1,rfl,hd1,s4,by rw [wf dDl];exact f3,?_⟩,?_⟩))
  ·rw [qc,cb,bg,bg]
   rfl
  ·show (match upd H3 l (.lst (((List.range i).map (trT hs t b)).map V.int++[V.int (trT hs t b i)])) D with|some (.dK kvs)=>250001-kvs.length|_=>0)<(match H2 D with|some (.dK kvs)=>250001-kvs.length|_=>0)
   rw [wf dDl,f3,f2]
   show 250001-(yu (λj=>(Sum.inl (trT hs t b j):Key)) (i+1)).length<250001-(yu (λj=>(Sum.inl (trT hs t b j):Key)) i).length
   rw [yh,yh]
   lia
def qyq (K:Aa):Sp:=λvs H Q _=>∃(l:Aj) (g:Nat→Int) (n u:Nat) (m:Int),vs=[.ref l,.int u,.int m]∧H l=some (.lst (((List.range n).map g).map V.int))∧u<n∧g n=g u∧(∀i j,g i=g j→g (i+1)=g (j+1))∧0≤m∧Q (.int (g m.toNat)) H
theorem wzx {g:Nat→Int}{n:Nat}(h:i<n):atI (((List.range n).map g).map V.int) ((i:Nat):Int)=some (V.int (g i)):=by
 refine qqv ?_
 rw [aE,aE,cV h]
 rfl
include T in
theorem wuj (F:Fun K "_law_after" "_law_after" zcn f fd):FK P w K mg base 1 f fd ["_law_tops","_law_start","_law_many"] (qyq K):=by
 have sc:=qzm
 refine F.okX sc (λvs H Q E h=>by obtain ⟨_,_,_,_,_,rfl,_⟩:=h;rfl) λ_ _ _ _ H vs Q E hr h=>?_
 obtain ⟨l,g,n,u,m,rfl,fl,hu,e,st,m0,k⟩:=h
 have hlen:(((List.range n).map g).map V.int).length=n:=by rw [aa,aa,aM]
 refine ⟨_,(qu (xh (wm j3 (pv 2) (xz xf rfl T.len_ aB (wz (pv 0) qz)) (w6 _)) (qm (wn (xq zk (pv 0) (pv 2) (λ_ _=>rfl)))) wt)
   (qm (wn (xq zk (pv 0) (xk zu (pv 1) (xk j5 (xk k6 (pv 2) (pv 1)) (xk k6 (xz xf rfl T.len_ aB (wz (pv 0) qz)) (pv 1)))) (λ_ _=>rfl))))),?_⟩
 refine gI rfl (gI rfl ⟨_,_,rfl,.inl (SqL.of fl),xu rfl rfl (gI rfl ?_)⟩)
 rw [hlen]
 refine zp (λq1=>?_) (λq1=>?_)
 ·have ea:=wzx (g:=g) (n:=n) (i:=m.toNat) ⋯
  rw [dD m0] at ea
  exact gI rfl (gI rfl (gX rfl rfl (SqL.of fl) ea k))
 ·have hm:(u:Int)≤m:=by lia
  have lt:=dq (m.toNat-u) (show 0<n-u by lia)
  have ea:=wzx (g:=g) (n:=n) (i:=u+(m.toNat-u)%(n-u)) ⋯
  rw [←per st hu e m.toNat ⋯] at ea
  refine gI rfl (gI rfl (gI rfl (gI rfl (xu rfl rfl (gI rfl ⟨_,_,rfl,.inl (SqL.of fl),gI rfl (xu rfl rfl (xu rfl rfl ⟨?_,xu rfl rfl (gX rfl rfl (SqL.of fl) ?_ k)⟩))⟩)))))
  ·rw [hlen]
   show (0:Int)<(n:Int)-u
   lia
  ·rw [hlen,wzb hm hu]
   exact ea
def Ju (c:Nat):Bool:=!(Builtin.Str.occurrences (Str.ofString "abcdefghijklmnopqrstuvwxyz") ⟨#[c]⟩ 0 (Str.ofString "abcdefghijklmnopqrstuvwxyz").length 1).isEmpty
def vb (x:Str):Bool:=decide (1≤x.length∧x.length≤12)&&(List.range x.cps.size).all λi=>Ju (x.cps.getD i 0)
def qwv:Sp:=λvs H Q _=>∃x:Str,vs=[.str x]∧x.length≤1000∧∀H',Same H H'→Q (.bl (vb x)) H'
include T in
theorem wwd (F:Fun K "is_name" "is_name" zbo f fd):FK P w K mg base 1 f fd ["name"] qwv:=by
 have sc:=wxt
 refine F.okX sc (λvs H Q E h=>by obtain ⟨_,rfl,_⟩:=h;rfl) λ_ _ _ _ H vs Q E hr h=>?_
 obtain ⟨x,rfl,hx,k⟩:=h
 obtain ⟨tn,zar⟩:=T.zar
 obtain ⟨tl,zat⟩:=T.zat
 have big:(1000000:Nat)<sizeLine:=by decide
 refine ⟨_,(qu (xh (PW.pt (jm (wm j3 (xz uw rfl T.len_ aB (wz (pv 0) qz)) qk (w6 _)) (k7 (wm y4 (xz uw rfl T.len_ aB (wz (pv 0) qz)) (u6 (v:=V.int 12) rfl zar ⟨_,rfl⟩) (w6 _))))) (qm (wn j9)) wt)
   (qm (wn (xz (Zx rfl) rfl T.all_ qud (xm (qk6 (M:=[]) rfl rfl (by walk_at "cap") (by walk_at "has") (by walk_at "cix") rfl (by decide +kernel) rfl (show List.Nodup (["sign"]:List Str) by decide +kernel) (wup (pv 0)) (λ_ _ _ _ _=>(jg wk0 (pv 0) (u6 (v:=V.str "abcdefghijklmnopqrstuvwxyz") rfl zat ⟨_,rfl⟩) rfl))) qz))))),?_⟩
 refine ⟨_,rfl,x,rfl,⋯,_,_,rfl,rfl,_,rfl,?_⟩
 have no:∀z:¬ (1≤x.length∧x.length≤12),vb x=false:=λz=>by unfold vb;rw [bn z];rfl
 refine zp (λq1=>?_) (λq1=>?_)
 ·refine jj ?_
  have:=k H (Same.refl _)
  rw [no ⋯] at this
  exact this
 ·refine ⟨_,rfl,x,rfl,⋯,_,_,rfl,rfl,_,rfl,zp (λq2=>?_) (λq2=>?_)⟩
  ·have:=k H (Same.refl _)
   rw [no ⋯] at this
   exact this
  ·refine gI rfl ⟨x,rfl,wuk (λi=>.bl (Ju (x.cps.getD i 0))) (by show x.length≤1000000;lia) (λi H' R hi hs hR=>?_) λp np=>?_⟩
   ·exact gI rfl (xu rfl rfl hR)
   ·have e:vb x=((List.range x.cps.size).map λi=>Ju (x.cps.getD i 0)).all id:=by
     unfold vb
     rw [aX (show 1≤x.length∧x.length≤12 by lia),List.all_map]
     rfl
    refine ⟨p,(List.range x.cps.size).map λi=>Ju (x.cps.getD i 0),rfl,?_,?_⟩
    ·rw [bK]
     exact SqL.new
    ·rw [←e]
     exact k _ (Same.upd np)
def W0 (CN CT:Aj):Sp:=λvs H Q E=>∃(x:Str) (d:Aj) (kvs:List (Key×V)),vs=[.str x,.ref d]∧x.length≤1000∧H d=some (.dK kvs) ∧
 (vb x=true→wp kvs (.inr x)=none→∀H',Same H H'→Q .non H')∧(vb x=false→∀H',Same H H'→E (.ref CN) none H')∧(vb x=true→(wp kvs (.inr x)).isSome=true→∀H',Same H H'→E (.ref CT) none H')
include T in
theorem wq5 (F:Fun K "check_new_name" "check_new_name" zbp f fd)(zid:Cal P w K mg base "is_name" 1 qwv):FK P w K mg base 2 f fd ["name","things"] (W0 qr wj):=by
 have sc:=Yj
 refine F.okX sc (λvs H Q E h=>by obtain ⟨_,_,_,rfl,_⟩:=h;rfl) λ_ _ _ _ H vs Q E hr h=>?_
 obtain ⟨x,d,kvs,rfl,hx,hd,k,kn,kt⟩:=h
 refine ⟨_,(qu (xh (jz (vm (wCA zid (wz (pv 0) qz)))) (qm (kh rfl T.zac zr rfl T.zhe (xb x6 qz))) wt)
   (qm (xh (Qx (wyk (vj hr) (pv 0) (pv 1))) (qm (kh rfl T.zae zr rfl T.zhf (xb x6 qz))) wt))),?_⟩
 refine gI rfl ⟨x,rfl,hx,λH1 s1=>(gI rfl ?_)⟩
 have dg:DGet H1 d (.str x) (wp kvs (.inr x)):=DGet.k (k:=.inr x) (s1 _ _ hd)
 cases hn:vb x with
 |false=>exact jj ⟨sz1,kn hn H1 s1⟩
 |true =>
  refine vg (gI rfl (gI rfl ⟨d,gI rfl ⟨dg,_,rfl,?_⟩⟩))
  cases hv:wp kvs (.inr x) with
  |none=>exact vg (k hn hv H1 s1)
  |some v=>exact jj ⟨sz1,kt hn (by rw [hv];rfl) H1 s1⟩
def qkm:Sp:=λvs H Q _=>∃(t c:Aj) (R cs:List (Key×V)),vs=[.ref t,.ref c]∧t≠c∧H t=some (.dK R)∧Rd H c (.dK cs)∧(cs.map (·.1)).Nodup∧R.length≤1000∧cs.length≤1000∧wqm R cs ∧
 ∀q H',H q=none→H' q=some (.dK (bfK R cs))→H' t=some (.dK (exK R cs))→Rd H' c (.dK cs)→Kb [t,c] H H'→Q (.ref q) H'
include T in
theorem xw6 (F:Fun K "exchange" "exchange" zbq f fd):FK P w K mg base 1 f fd ["things","changes"] qkm:=by
 have sc:=wq4
 refine F.okX sc (λvs H Q E h=>by obtain ⟨_,_,_,_,rfl,_⟩:=h;rfl) λ_ _ _ s H vs Q E hr h=>?_
 obtain ⟨t,c,R,cs,rfl,tc,ht,hc,nd,lR,lc,ok,k⟩:=h
 have big:(1000000:Nat)<sizeLine:=by decide
 refine ⟨_,(qu (Jk (i:=2) (M:=[0]) sc.nd rfl (by walk_at "loc") rfl rfl (by walk_at "cap") (by walk_at "has") (by walk_at "cix") rfl (by decide +kernel) rfl (show List.Nodup (["name","things"]:List Str) by decide +kernel) (wj9 (pv 1)) (λ_ _ _ _ _=>(pv 0)) (λ_ _ _ _ _=>(wj2 (vj hr) (pv 1) (pv 0) ⟨rfl,rfl,rfl,rfl⟩)))
   (qu (yb be rfl (pi_di (pv 1)) (jy rfl (x4 (xp (i:=3)) (x4 (xp (i:=4)) vc))) (qm (xh (wm wwz (pv 4) jv (w6 _)) (qm (xwm (pv 0) (pv 3))) (qm (u7 (vj hr) (pv 0) (pv 3) (pv 4) rfl)))))
   (qm (wn (pv 2))))),?_⟩
 refine gI rfl ⟨c,cs,rfl,hc,λo H1 fz=>?_⟩
 have ht1:H1 t=some (.dK R):=by rw [fz.2 t tc];exact ht
 refine xqn (λk=>(wp R k).getD .non) ⋯ nd fz.1 (λk H' RR s' hR=>(gI rfl (gI rfl ⟨t,rfl,.inl ⟨R,.inl (s' _ _ ht1)⟩,gI rfl ⟨_,DGet.k (k:=k) (s' _ _ ht1),hR⟩⟩))) λq nq=>?_
 have nq0:H q=none:=by
  cases e:H q with
  |none=>rfl
  |some ob =>
   by_cases z:q=c
   ·rw [z,fz.1] at nq;cases nq
   ·rw [fz.2 q z,e] at nq;cases nq
 have s2:Same H1 (upd H1 q (.dK (bfK R cs))):=Same.upd nq
 have fq:upd H1 q (.dK (bfK R cs)) q=some (.dK (bfK R cs)):=qc
 have c2:upd H1 q (.dK (bfK R cs)) c=some (.frz o (.dK cs)):=s2 _ _ fz.1
 have t2:upd H1 q (.dK (bfK R cs)) t=some (.dK R):=s2 _ _ ht1
 have tq:t≠q:=qh ht1 nq
 have kb:Kb [t,c] H (upd H1 q (.dK (bfK R cs))):=λb ob nb e=>s2 _ _ (by rw [fz.2 b (λz=>nb (by simp [z]))];exact e)
 have sel:(cs.map λc=>(c.1,(wp R c.1).getD .non))=bfK R cs:=rfl
 rw [sel]
 generalize upd H1 q (.dK (bfK R cs))=H2 at fq c2 t2 kb
 refine gI rfl ⟨c,cs,rfl,.inr ⟨o,c2⟩,λo' H3 fz3=>?_⟩
 have cq:q≠c:=λz=>by rw [z,c2] at fq;cases fq
 have t3:H3 t=some (.dK R):=by rw [fz3.2 t tc];exact t2
 have q3:H3 q=some (.dK (bfK R cs)):=by rw [fz3.2 q cq];exact fq
 have kb3:Kb [t,c] H H3:=λb ob nb e=>by rw [fz3.2 b (λz=>nb (by simp [z]))];exact kb b ob nb e
 refine for_di (λi σ H'=>(∃z3 z4,σ=[some (.ref t),some (.ref c),some (.ref q),z3,z4])∧H' c=some (.frz o' (.dK cs))∧H' q=some (.dK (bfK R cs))∧H' t=some (.dK (exK R (cs.take i)))∧Kb [t,c] H H') ⟨⟨_,_,rfl⟩,fz3.1,q3,t3,kb3⟩ (λi σ H' hi h=>h.2.1) ?_ ?_
 ·rintro i cc z σ H' ec nz ⟨⟨z3,z4,rfl⟩,a1,a2,a3,a4⟩
  have s4:Same H' (upd H' z (.tup [kV cc.1,cc.2])):=Same.upd nz
  refine ⟨z,gI rfl ⟨SqT.new,rfl,_,_,rfl,_,_,rfl,rfl,?_⟩⟩
  have b1:=s4 _ _ a1
  have b2:=s4 _ _ a2
  have b3:=s4 _ _ a3
  have b4:Kb [t,c] H (upd H' z (.tup [kV cc.1,cc.2])):=λb ob nb e=>s4 _ _ (a4 b ob nb e)
  generalize upd H' z (.tup [kV cc.1,cc.2])=H4 at b1 b2 b3 b4
  have le:=xx6 R (cs.take i)
  have lt:(cs.take i).length≤1000:=by rw [bE];lia
  have et:=xwg R ec
  have tq':t≠q:=tq
  have step:∀R',ex1 (exK R (cs.take i)) cc=R'→(∃z3' z4',[some (V.ref t),some (V.ref c),some (V.ref q),some (kV cc.1),some cc.2]=[some (V.ref t),some (V.ref c),some (V.ref q),z3',z4'])∧upd H4 t (.dK R') c=some (.frz o' (.dK cs))∧upd H4 t (.dK R') q=some (.dK (bfK R cs))∧upd H4 t (.dK R') t=some (.dK (exK R (cs.take (i+1))))∧Kb [t,c] H (upd H4 t (.dK R')):=λR' e=>by
   refine ⟨⟨_,_,rfl⟩,?_,?_,?_,λb ob nb e'=>?_⟩
   ·rw [wf (aV tc)];exact b1
   ·rw [wf (aV tq')];exact b2
   ·rw [qc,et,e]
   ·rw [wf (λz=>nb (by simp [z]))];exact b4 b ob nb e'
  refine gI rfl ⟨rfl,_,rfl,zp (λhn=>?_) (λhn=>?_)⟩
  ·exact gI rfl (gI rfl ⟨t,_,cc.1,rfl,b3,rfl,ok i cc ec hn,step _ (by unfold ex1;rw [ak hn])⟩)
  ·exact gI rfl (gI rfl (gI rfl ⟨t,gI rfl ⟨DPut.k (k:=cc.1) b3 ⋯,step _ (by unfold ex1;rw [ai hn])⟩⟩))
 ·rintro σ H' ⟨⟨z3,z4,rfl⟩,a1,a2,a3,a4⟩
  rw [cX] at a3
  exact gI rfl (k q H' nq0 a2 a3 (.inr ⟨o',a1⟩) a4)
def hF (dr dw dd:Aj):List (Str×V):=[("roads",.ref dr),("walkers",.ref dw),("done",.ref dd)]
variable {dr dw dd:Aj}
theorem jr:(hF dr dw dd).lookup ("roads" : Str)=some (.ref dr):=by unfold hF;rw [aK];simp
theorem vq:(hF dr dw dd).lookup ("walkers" : Str)=some (.ref dw):=by
 unfold hF
 rw [aK,show (("walkers" : Str)==("roads" : Str))=false by decide +kernel]
 dsimp only
 rw [aK]
 simp
theorem Qb:(hF dr dw dd).lookup ("done" : Str)=some (.ref dd):=by
 unfold hF
 rw [aK,show (("done" : Str)==("roads" : Str))=false by decide +kernel]
 dsimp only
 rw [aK,show (("done" : Str)==("walkers" : Str))=false by decide +kernel]
 dsimp only
 rw [aK]
 simp
theorem x9 {dr dw dd:Aj}{m:Str}(h1:autoParam (¬ m = "roads") aU7._auto_1)(h2:autoParam (¬ m = "walkers") aU7._auto_1)(h3:autoParam (¬ m = "done") aU7._auto_1):(hF dr dw dd).lookup m=none:=by
 unfold hF
 rw [aK,aU.mpr h1]
 dsimp only
 rw [aK,aU.mpr h2]
 dsimp only
 rw [aK,aU.mpr h3]
 rfl
structure Hse (C:Aj)(H:Hp)(x dr dw dd:Aj)(R W:List (Key×V))(D:List V):Prop where
 ob:∃dx,H x=some (.ins C dx (hF dr dw dd))
 r:H dr=some (.dK R)
 w:H dw=some (.dK W)
 d:H dd=some (.lst D)
 ne:dr≠dw
variable {R W:List (Key×V)}{D:List V}
theorem Hse.kb {x:Aj}(h:Hse C H x dr dw dd R W D){ch:List Aj}(k:Kb ch H H')(n:x∉ch∧dr∉ch∧dw∉ch∧dd∉ch):Hse C H' x dr dw dd R W D:=by
 obtain ⟨dx,e⟩:=h.ob
 exact ⟨⟨dx,k _ _ n.1 e⟩,k _ _ n.2.1 h.r,k _ _ n.2.2.1 h.w,k _ _ n.2.2.2 h.d,h.ne⟩
theorem Hse.same {x:Aj}(h:Hse C H x dr dw dd R W D)(s:Same H H'):Hse C H' x dr dw dd R W D:=h.kb (ch:=[]) (Kb.of s) ⟨af,af,af,af⟩
def qqb (C:Aj):Sp:=λvs H Q _=>∃x dx,vs=[.ref x]∧H x=some (.ins C dx [])∧∀H' dr dw dd,H dr=none→H dw=none→H dd=none→Hse C H' x dr dw dd [] [] []→Kb [x] H H'→Q .non H'
include T in
theorem wyz (F:Fun K "__init__" "House.__init__" zbr f fd):FK P w K mg base 1 f fd ["self"] (qqb qq):=by
 have sc:=Z1
 refine F.okX sc (λvs H Q E h=>by obtain ⟨_,_,rfl,_⟩:=h;rfl) λ_ _ _ _ H vs Q E hr h=>?_
 obtain ⟨x,dx,rfl,hx,k⟩:=h
 refine ⟨_,(qu (Qq (pv 0) jw rfl)
   (qu (Qq (pv 0) jw rfl)
   (qm (Qq (pv 0) (yk qz) rfl)))),?_⟩
 refine λdr n1=>gI rfl ⟨x,qq,dx,[],rfl,(by rw [wf (qh hx n1)];exact hx),T.clH,T.naHr,(by show 0<1000;decide),?_⟩
 have e1:∀b o,b≠x→H b=some o→upd (upd H dr (.dK [])) x (.ins qq dx (ju "roads" (.ref dr) [])) b=some o:=λb o nb e=>by rw [wf nb,wf (qh e n1)];exact e
 have x1:upd (upd H dr (.dK [])) x (.ins qq dx (ju "roads" (.ref dr) [])) x=some (.ins qq dx (ju "roads" (.ref dr) [])):=qc
 have r1:upd (upd H dr (.dK [])) x (.ins qq dx (ju "roads" (.ref dr) [])) dr=some (.dK []):=by rw [wf (qh hx n1).symm,qc]
 generalize upd (upd H dr (.dK [])) x (.ins qq dx (ju "roads" (.ref dr) []))=H1 at e1 x1 r1
 refine λdw n2=>gI rfl ⟨x,qq,dx,gI rfl ⟨(by rw [wf (qh x1 n2)];exact x1),T.clH,T.naHw,(by show 1<1000;decide),?_⟩⟩
 have xr:x≠dr:=qh hx n1
 have e2:∀b o,b≠x→H1 b=some o→upd (upd H1 dw (.dK [])) x (.ins qq dx (ju "walkers" (.ref dw) (ju "roads" (.ref dr) []))) b=some o:=λb o nb e=>by rw [wf nb,wf (qh e n2)];exact e
 have x2:upd (upd H1 dw (.dK [])) x (.ins qq dx (ju "walkers" (.ref dw) (ju "roads" (.ref dr) []))) x=some (.ins qq dx (ju "walkers" (.ref dw) (ju "roads" (.ref dr) []))):=qc
 have w2:upd (upd H1 dw (.dK [])) x (.ins qq dx (ju "walkers" (.ref dw) (ju "roads" (.ref dr) []))) dw=some (.dK []):=by rw [wf (qh x1 n2).symm,qc]
 have r2:=e2 dr _ xr.symm r1
 generalize upd (upd H1 dw (.dK [])) x (.ins qq dx (ju "walkers" (.ref dw) (ju "roads" (.ref dr) [])))=H2 at e2 x2 w2 r2
 have xw:x≠dw:=qh x1 n2
 refine ⟨sz0,λdd n3=>(gI rfl ⟨x,qq,dx,gI rfl ⟨(by rw [wf (qh x2 n3)];exact x2),T.clH,T.naHd,(by show 2<1000;decide),?_⟩⟩)⟩
 have xd:x≠dd:=qh x2 n3
 have e3:∀b o,b≠x→H2 b=some o→upd (upd H2 dd (.lst [])) x (.ins qq dx (ju "done" (.ref dd) (ju "walkers" (.ref dw) (ju "roads" (.ref dr) [])))) b=some o:=λb o nb e=>by rw [wf nb,wf (qh e n3)];exact e
 have old:∀b o,b≠x→H b=some o→H2 b=some o:=λb o nb e=>e2 b o nb (e1 b o nb e)
 have non:∀b,b≠x→H2 b=none→H b=none:=λb nb e=>by
  cases q:H b with
  |none=>rfl
  |some o=>rw [old b o nb q] at e;cases e
 refine k _ dr dw dd n1 (by
  cases q:H dw with
  |none=>rfl
  |some o=>rw [e1 dw o xw.symm q] at n2;cases n2) (non dd xd.symm n3) ⟨⟨dx,qc⟩,e3 _ _ xr.symm r2,e3 _ _ xw.symm w2,?_,qh r1 n2⟩ λb o nb e=>e3 b o (λz=>nb (by simp [z])) (old b o (λz=>nb (by simp [z])) e)
 rw [wf xd.symm,qc]
def jq (C CN:Aj)(roads:Bool):Sp:=λvs H Q E=>∃(x dr dw dd:Aj) (R W:List (Key×V)) (D:List V) (n:Str),vs=[.ref x,.str n]∧Hse C H x dr dw dd R W D ∧
 (∀v,wp (if roads then R else W) (.inr n)=some v→Q v H)∧(wp (if roads then R else W) (.inr n)=none→E (.ref CN) none H)
include T in
theorem qxh (F:Fun K "road_called" "House.road_called" zbs f fd):FK P w K mg base 1 f fd ["self","name"] (jq qq q9 true):=by
 have sc:=Q8
 refine F.okX sc (λvs H Q E h=>by obtain ⟨_,_,_,_,_,_,_,_,rfl,_⟩:=h;rfl) λ_ _ _ _ H vs Q E hr h=>?_
 obtain ⟨x,dr,dw,dd,R,W,D,n,rfl,hh,k,kx⟩:=h
 obtain ⟨dx,hx⟩:=hh.ob
 have dg:DGet H dr (.str n) (wp R (.inr n)):=DGet.k (k:=.inr n) hh.r
 refine ⟨_,(qu (xh (Qx (yw (vj hr) (pv 1) (zh (pv 0) rfl))) (qm (kh rfl T.zaf zr rfl T.zhg (xb x6 qz))) wt)
   (qm (wn (jf (vj hr) (zh (pv 0) rfl) (pv 1) (λ_ _=>rfl))))),?_⟩
 refine gI rfl (gI rfl ⟨x,qq,dx,_,_,rfl,hx,T.clH,T.naHr,jr,dr,gI rfl ⟨dg,_,rfl,?_⟩⟩)
 cases e:wp R (.inr n) with
 |none=>exact jj ⟨sz1,kx e⟩
 |some v =>
  rw [e] at dg
  exact vg (gI rfl ⟨x,qq,dx,_,_,rfl,hx,T.clH,T.naHr,jr,gI rfl ⟨dr,v,rfl,dg,k v e⟩⟩)
include T in
theorem Jw (F:Fun K "walker_called" "House.walker_called" zbt f fd):FK P w K mg base 1 f fd ["self","name"] (jq qq qj false):=by
 have sc:=Qs
 refine F.okX sc (λvs H Q E h=>by obtain ⟨_,_,_,_,_,_,_,_,rfl,_⟩:=h;rfl) λ_ _ _ _ H vs Q E hr h=>?_
 obtain ⟨x,dr,dw,dd,R,W,D,n,rfl,hh,k,kx⟩:=h
 obtain ⟨dx,hx⟩:=hh.ob
 have dg:DGet H dw (.str n) (wp W (.inr n)):=DGet.k (k:=.inr n) hh.w
 refine ⟨_,(qu (xh (Qx (yw (vj hr) (pv 1) (zh (pv 0) rfl))) (qm (kh rfl T.zah zr rfl T.zhh (xb x6 qz))) wt)
   (qm (wn (jf (vj hr) (zh (pv 0) rfl) (pv 1) (λ_ _=>rfl))))),?_⟩
 refine gI rfl (gI rfl ⟨x,qq,dx,_,_,rfl,hx,T.clH,T.naHw,vq,dw,gI rfl ⟨dg,_,rfl,?_⟩⟩)
 cases e:wp W (.inr n) with
 |none=>exact jj ⟨sz1,kx e⟩
 |some v =>
  rw [e] at dg
  exact vg (gI rfl ⟨x,qq,dx,_,_,rfl,hx,T.clH,T.naHw,vq,gI rfl ⟨dw,v,rfl,dg,k v e⟩⟩)
def Z5 (C:Aj):Sp:=λvs H Q _=>∃(x dr dw dd c1 c2:Aj) (R W cs1 cs2:List (Key×V)) (D:List V),vs=[.ref x,.ref c1,.ref c2]∧Hse C H x dr dw dd R W D∧Rd H c1 (.dK cs1)∧Rd H c2 (.dK cs2)∧c1≠c2∧c1≠dr∧c1≠dw∧c2≠dr∧c2≠dw ∧
 (cs1.map (·.1)).Nodup∧(cs2.map (·.1)).Nodup∧R.length≤1000∧W.length≤1000∧cs1.length≤1000∧cs2.length≤1000∧D.length≤1000000∧wqm R cs1∧wqm W cs2 ∧
 ∀H' tp q1 q2,H tp=none→H q1=none→H q2=none→Hse C H' x dr dw dd (exK R cs1) (exK W cs2) (D++[.ref tp])→H' tp=some (.tup [.ref q1,.ref q2])→H' q1=some (.dK (bfK R cs1))→H' q2=some (.dK (bfK W cs2))→q1≠q2→Rd H' c2 (.dK cs2)→Kb [dr,dw,dd,c1,c2] H H'→Q .non H'
include T in
theorem zie (F:Fun K "do" "House.do" zbv f fd)(za4:Cal P w K mg base "exchange" 1 qkm):FK P w K mg base 2 f fd ["self","roads","walkers"] (Z5 qq):=by
 have sc:=qy9
 refine F.okX sc (λvs H Q E h=>by obtain ⟨_,_,_,_,_,_,_,_,_,_,_,rfl,_⟩:=h;rfl) λ_ _ _ _ H vs Q E hr h=>?_
 obtain ⟨x,dr,dw,dd,c1,c2,R,W,cs1,cs2,D,rfl,hh,h1,h2,n12,n1r,n1w,n2r,n2w,nd1,nd2,lR,lW,l1,l2,lD,ok1,ok2,k⟩:=h
 obtain ⟨dx,hx⟩:=hh.ob
 have big:(1000000:Nat)<sizeLine:=by decide
 have isI:∀ {b o},Rd H b (.dK o)→x≠b:=λ{b o} hb z=>by
  rcases hb with hb|⟨u,hb⟩ <;> (rw [←z,hx] at hb;cases hb)
 have isD:∀ {b o},Rd H b (.dK o)→dd≠b:=λ{b o} hb z=>by
  rcases hb with hb|⟨u,hb⟩ <;> (rw [←z,hh.d] at hb;cases hb)
 have xr:=isI (.inl hh.r)
 have xw:=isI (.inl hh.w)
 have x1:=isI h1
 have x2:=isI h2
 have dr':=isD (.inl hh.r)
 have dw':=isD (.inl hh.w)
 have d1:=isD h1
 have d2:=isD h2
 refine ⟨_,(qm (zy (qvd bw bV bW yq (zh (pv 0) rfl) (qky (zx (vd (wCA za4 (xm (zh (pv 0) rfl) (wz (pv 1) qz))) (vd (wCA za4 (xm (zh (pv 0) rfl) (wz (pv 2) qz))) qz))) qz)))),?_⟩
 refine gI rfl ⟨x,qq,dx,_,_,rfl,hx,T.clH,T.naHd,Qb,.inl ⟨rfl,_,SqL.of hh.d⟩,?_⟩
 refine gI rfl ⟨x,qq,dx,_,_,rfl,hx,T.clH,T.naHr,jr,gI rfl ⟨dr,c1,R,cs1,rfl,aV n1r,hh.r,h1,nd1,lR,l1,ok1,λq1 H1 nq1 fq1 fr1 fc1 kb1=>?_⟩⟩
 have m1:∀b,b≠dr→b≠c1→b∉[dr,c1]:=λb a1 a2 z=>by
  rcases ae.mp z with z|z
  ·exact a1 z
  ·exact a2 (aq.mp z)
 have hx1:=kb1 _ _ (m1 x xr x1) hx
 have hw1:=kb1 _ _ (m1 dw (aV hh.ne) (aV n1w)) hh.w
 have hd1:=kb1 _ _ (m1 dd dr' d1) hh.d
 have hc2:=kb1.rd (m1 c2 n2r (aV n12)) h2
 refine gI rfl ⟨x,qq,dx,_,_,rfl,hx1,T.clH,T.naHw,vq,gI rfl ⟨dw,c2,W,cs2,rfl,aV n2w,hw1,hc2,nd2,lW,l2,ok2,λq2 H2 nq2 fq2 fw2 fc2 kb2=>?_⟩⟩
 have m2:∀b,b≠dw→b≠c2→b∉[dw,c2]:=λb a1 a2 z=>by
  rcases ae.mp z with z|z
  ·exact a1 z
  ·exact a2 (aq.mp z)
 have q1w:q1≠dw:=λz=>by rw [z,hh.w] at nq1;cases nq1
 have q1c:q1≠c2:=λz=>by rcases h2 with h2|⟨u,h2⟩ <;> (rw [z,h2] at nq1;cases nq1)
 have fq1':=kb2 _ _ (m2 q1 q1w q1c) fq1
 have q12:q1≠q2:=qh fq1 nq2
 have nq2':H q2=none:=by
  cases e:H q2 with
  |none=>rfl
  |some o =>
   by_cases z:q2=dr∨q2=c1
   ·rcases z with z|z
    ·rw [z,fr1] at nq2;cases nq2
    ·rcases fc1 with g|⟨u,g⟩ <;> (rw [z,g] at nq2;cases nq2)
   ·rw [kb1 _ _ (m1 q2 (λy=>z (.inl y)) (λy=>z (.inr y))) e] at nq2;cases nq2
 refine ⟨sz2,λtp ntp=>?_⟩
 have hx2:=kb2 _ _ (m2 x xw x2) hx1
 have hr2:=kb2 _ _ (m2 dr hh.ne (aV n2r)) fr1
 have hd2:=kb2 _ _ (m2 dd dw' d2) hd1
 have old:∀b o,b∉[dr,dw,dd,c1,c2]→H b=some o→H2 b=some o:=λb o nb e=>by
  simp only [ae,af,aG,not_or] at nb
  exact kb2 _ _ (m2 b nb.2.1 nb.2.2.2.2) (kb1 _ _ (m1 b nb.1 nb.2.2.2.1) e)
 have rd2:∀b,b=dr∨b=dw∨b=dd∨b=c1∨b=c2→H2 b≠none:=λb h z=>by
  rcases h with h|h|h|h|h
  ·rw [h,hr2] at z;cases z
  ·rw [h,fw2] at z;cases z
  ·rw [h,hd2] at z;cases z
  ·by_cases y:c1=dw
   ·exact n1w y
   ·rcases fc1 with g|⟨u,g⟩ <;> (rw [h,kb2 _ _ (m2 c1 n1w n12) g] at z;cases z)
  ·rcases fc2 with g|⟨u,g⟩ <;> (rw [h,g] at z;cases z)
 have ntp0:H tp=none:=by
  cases e:H tp with
  |none=>rfl
  |some o =>
   by_cases z:tp=dr∨tp=dw∨tp=dd∨tp=c1∨tp=c2
   ·exact absurd ntp (rd2 tp z)
   ·rw [old tp o (by simp only [ae,af,aG];exact z) e] at ntp;cases ntp
 have s3:Same H2 (upd H2 tp (.tup [.ref q1,.ref q2])):=Same.upd ntp
 have ft:upd H2 tp (.tup [.ref q1,.ref q2]) tp=some (.tup [.ref q1,.ref q2]):=qc
 generalize upd H2 tp (.tup [.ref q1,.ref q2])=H3 at s3 ft
 have hd3:=s3 _ _ hd2
 refine ⟨dd,D,_,rfl,rfl,hd3,⋯,?_⟩
 have ne3:∀b o,b≠dd→H3 b=some o→upd H3 dd (.lst (D++[.ref tp])) b=some o:=λb o nb e=>by rw [wf nb];exact e
 have kq:∀b kv,H3 b=some (.dK kv)→b≠dd:=λb kv e z=>by rw [z,hd3] at e;cases e
 have rd3:Rd (upd H3 dd (.lst (D++[.ref tp]))) c2 (.dK cs2):=by
  rcases fc2 with e|⟨u,e⟩
  ·exact .inl (ne3 _ _ (aV d2) (s3 _ _ e))
  ·exact .inr ⟨u,ne3 _ _ (aV d2) (s3 _ _ e)⟩
 refine k _ tp q1 q2 ntp0 nq1 nq2' ⟨⟨dx,ne3 _ _ (λz=>by rw [z] at hx;rw [hh.d] at hx;cases hx) (s3 _ _ hx2)⟩,ne3 _ _ (aV dr') (s3 _ _ hr2),ne3 _ _ (aV dw') (s3 _ _ fw2),qc,hh.ne⟩ (ne3 _ _ (λz=>by rw [z,hd3] at ft;cases ft) ft) (ne3 _ _ (kq _ _ (s3 _ _ fq1')) (s3 _ _ fq1')) (ne3 _ _ (kq _ _ (s3 _ _ fq2)) (s3 _ _ fq2)) q12 rd3 λb o nb e=>?_
 exact ne3 _ _ (λz=>nb (by simp [z])) (s3 _ _ (old b o nb e))
def qqj (C:Aj):Sp:=λvs H Q _=>∃(x dr dw dd:Aj) (R W:List (Key×V)) (D:List V),vs=[.ref x]∧Hse C H x dr dw dd R W D∧Q (.int D.length) H
include T in
theorem wk6 (F:Fun K "deeds" "House.deeds" zb6 f fd):FK P w K mg base 1 f fd ["self"] (qqj qq):=by
 have sc:=qzb
 refine F.okX sc (λvs H Q E h=>by obtain ⟨_,_,_,_,_,_,_,rfl,_⟩:=h;rfl) λ_ _ _ _ H vs Q E hr h=>?_
 obtain ⟨x,dr,dw,dd,R,W,D,rfl,hh,k⟩:=h
 obtain ⟨dx,hx⟩:=hh.ob
 refine ⟨_,(qm (wn (xz xf rfl T.len_ aB (xm (zh (pv 0) rfl) qz)))),?_⟩
 exact gI rfl ⟨x,qq,dx,_,_,rfl,hx,T.clH,T.naHd,Qb,dd,gI rfl ⟨.inl (SqL.of hh.d),k⟩⟩
def Zt (D:List V):Prop:=∀v∈D,∃a,v=V.ref a
theorem RoadAt.kb {CH:Aj}(h:RoadAt C H r hs)(ok:xt hs){ch:List Aj}{D:List V}(k:Kb ch H H')(rf:Zt D)(hc:∀b∈ch,(∃kv,Rd H b (.dK kv))∨H b=some (.lst D)):RoadAt C H' r hs:=by
 obtain ⟨dx,q,h1,h2⟩:=h
 refine ⟨dx,q,k _ _ (λz=>?_) h1,k _ _ (λz=>?_) h2⟩
 ·rcases hc r z with ⟨kv,e|⟨o,e⟩⟩|e <;> (rw [h1] at e;cases e)
 ·rcases hc q z with ⟨kv,e|⟨o,e⟩⟩|e
  ·rw [h2] at e;cases e
  ·rw [h2] at e;cases e
  ·rw [h2] at e
   have e:hs.map V.int=D:=by cases e;rfl
   have l:=ok.1
   have m:V.int (hs[0]'⋯)∈hs.map V.int:=ax.mpr ⟨_,bO _,rfl⟩
   rw [e] at m
   obtain ⟨a,ea⟩:=rf _ m
   cases ea
variable {H3:Hp}{c1 c2:Aj}
theorem wy8 {o1 o2 o3:HO}(n1:H c1=none)(s3:Same (upd H c1 o1) H3)(n2:upd H3 c1 o2 c2=none):Same H (upd (upd H3 c1 o2) c2 o3):=λb o e=>by
 have b1:b≠c1:=qh e n1
 have e3:H3 b=some o:=s3 _ _ (by rw [wf b1];exact e)
 have e4:upd H3 c1 o2 b=some o:=by rw [wf b1];exact e3
 rw [wf (qh e4 n2)]
 exact e4
variable {n:Str}{Q:VK}
theorem qq9 {CR:Aj}{x:Aj}(hh:Hse C H x dr dw dd R W D)(n1:H c1=none)(s3:Same (upd H c1 (.dK [])) H3)(R3:RoadAt CR H3 r hs)(okl:xt hs)(rf:Zt D)(lR:R.length≤1000)(lW:W.length≤1000)(lD:D.length≤1000000)
  (k:∀H' tp q1 q2,H tp=none→H q1=none→H q2=none→Hse C H' x dr dw dd (km R (.inr n) (.ref r)) W (D++[.ref tp])→H' tp=some (.tup [.ref q1,.ref q2])→H' q1=some (.dK [(.inr n,(wp R (.inr n)).getD .non)])→H' q2=some (.dK [])→q1≠q2→RoadAt CR H' r hs→Kb [dr,dw,dd] H H'→Q .non H') :
  ∀c2,upd H3 c1 (.dK [(.inr n,.ref r)]) c2=none→Z5 C [.ref x,.ref c1,.ref c2] (upd (upd H3 c1 (.dK [(.inr n,.ref r)])) c2 (.dK [])) Q E:=by
 intro c2 n2
 have s4:Same H (upd (upd H3 c1 (.dK [(.inr n,.ref r)])) c2 (.dK [])):=wy8 n1 s3 n2
 have c12:c1≠c2:=λz=>by rw [←z,qc] at n2;cases n2
 have e1:upd (upd H3 c1 (.dK [(.inr n,.ref r)])) c2 (.dK []) c1=some (.dK [(.inr n,.ref r)]):=by rw [wf c12,qc]
 have e2:upd (upd H3 c1 (.dK [(.inr n,.ref r)])) c2 (.dK []) c2=some (.dK []):=qc
 have h31:H3 c1=some (.dK []):=s3 _ _ qc
 have R4:RoadAt CR (upd (upd H3 c1 (.dK [(.inr n,.ref r)])) c2 (.dK [])) r hs:=by
  obtain ⟨dx,q,a1,a2⟩:=R3
  have keep:∀b o,(∀kv,o≠HO.dK kv)→H3 b=some o→upd (upd H3 c1 (.dK [(.inr n,.ref r)])) c2 (.dK []) b=some o:=λb o no e=>by
   have b1:b≠c1:=λz=>by rw [z,h31] at e;cases e;exact no _ rfl
   have e4:upd H3 c1 (.dK [(.inr n,.ref r)]) b=some o:=by rw [wf b1];exact e
   rw [wf (qh e4 n2)]
   exact e4
  exact ⟨dx,q,keep _ _ (λkv z=>by cases z) a1,keep _ _ (λkv z=>by cases z) a2⟩
 have n20:H c2=none:=by
  cases q:H c2 with
  |none=>rfl
  |some o =>
   have b1:c2≠c1:=aV c12
   rw [wf b1,s3 _ _ (show upd H c1 (.dK []) c2=some o by rw [wf b1];exact q)] at n2
   cases n2
 generalize upd (upd H3 c1 (.dK [(.inr n,.ref r)])) c2 (.dK [])=H4 at s4 e1 e2 R4
 have hh4:=hh.same s4
 refine ⟨x,dr,dw,dd,c1,c2,R,W,[(.inr n,.ref r)],[],D,rfl,hh4,.inl e1,.inl e2,c12,(qh hh.r n1).symm,(qh hh.w n1).symm,(qh hh.r n20).symm,(qh hh.w n20).symm,aY.mpr ⟨af,aS⟩,aS,lR,lW,by show 1≤1000;decide,aD _,lD,λi c ec hc=>?_,(λi c ec hc=>nomatch ec),λH' tp q1 q2 a1 a2 a3 a4 a5 a6 a7 a8 _ a9=>?_⟩
 ·cases i with
  |zero=>cases ec;cases hc
  |succ i=>cases ec
 ·have no:∀b,H4 b=none→H b=none:=λb e=>xy s4 e
  have rd:RoadAt CR H' r hs:=R4.kb (CH:=C) okl a9 rf λb hb=>by
   simp only [ae,af,aG] at hb
   rcases hb with rfl|rfl|rfl|rfl|rfl
   ·exact .inl ⟨_,.inl hh4.r⟩
   ·exact .inl ⟨_,.inl hh4.w⟩
   ·exact .inr hh4.d
   ·exact .inl ⟨_,.inl e1⟩
   ·exact .inl ⟨_,.inl e2⟩
  refine k H' tp q1 q2 (no _ a1) (no _ a2) (no _ a3) a4 a5 a6 a7 a8 rd λb o nb e=>a9 b o (λz=>?_) (s4 _ _ e)
  simp only [ae,af,aG] at z nb
  rcases z with z|z|z|z|z
  ·exact nb (.inl z)
  ·exact nb (.inr (.inl z))
  ·exact nb (.inr (.inr z))
  ·rw [z,n1] at e;cases e
  ·rw [z,n20] at e;cases e
def RDeed (C CR:Aj)(H H':Hp)(x dr dw dd:Aj)(R W:List (Key×V))(D:List V)(n:Str)(hs:List Int):Prop:=∃r tp q1 q2,H tp=none∧H q1=none∧H q2=none∧Hse C H' x dr dw dd (km R (.inr n) (.ref r)) W (D++[.ref tp])∧H' tp=some (.tup [.ref q1,.ref q2])∧H' q1=some (.dK [(.inr n,(wp R (.inr n)).getD .non)])∧H' q2=some (.dK [])∧q1≠q2∧RoadAt CR H' r hs∧Kb [dr,dw,dd] H H'
theorem RDeed.pre {CR:Aj}{H0:Hp}{x:Aj}(h:RDeed C CR H H' x dr dw dd R W D n hs)(s:Same H0 H):RDeed C CR H0 H' x dr dw dd R W D n hs:=by
 obtain ⟨r,tp,q1,q2,a1,a2,a3,a4,a5,a6,a7,a8,a9,b1⟩:=h
 exact ⟨r,tp,q1,q2,xy s a1,xy s a2,xy s a3,a4,a5,a6,a7,a8,a9,λb o nb e=>b1 b o nb (s _ _ e)⟩
def wz5 (K:Aa)(C CR CN CT CL:Aj):Sp:=λvs H Q E=>∃(x dr dw dd p:Aj) (R W:List (Key×V)) (D:List V) (n:Str) (hs:List Int),vs=[.ref x,.str n,.ref p]∧Hse C H x dr dw dd R W D∧Zt D∧R.length≤1000∧W.length≤1000∧D.length≤1000000∧n.length≤1000∧H p=some (.lst (hs.map V.int)) ∧
 (vb n=true→wp R (.inr n)=none→xt hs→∀H',RDeed C CR H H' x dr dw dd R W D n hs→Q .non H')∧(vb n=false→∀H',Same H H'→E (.ref CN) none H')∧(vb n=true→(wp R (.inr n)).isSome=true→∀H',Same H H'→E (.ref CT) none H')∧(vb n=true→wp R (.inr n)=none→¬ xt hs→∀H',Same H H'→E (.ref CL) none H')
include T in
theorem zif (F:Fun K "lay" "House.lay" zbw f fd)(zdg:Cal P w K mg base "check_new_name" 2 (W0 qr wj))(zav:CCal P w K mg base "Road" wq 2 (Zj K qg wq))(zab:MCal P w K mg base qq "do" 2 (Z5 qq)) :
  FK P w K mg base 4 f fd ["self","name","heights"] (wz5 K qq wq qr wj qg):=by
 have sc:=qkt
 refine F.okX sc (λvs H Q E h=>by obtain ⟨_,_,_,_,_,_,_,_,_,_,rfl,_⟩:=h;rfl) λ_ _ _ _ H vs Q E hr h=>?_
 obtain ⟨x,dr,dw,dd,p,R,W,D,n,hs,rfl,hh,rf,lR,lW,lD,ln,hp,k,kn,kt,kl⟩:=h
 obtain ⟨dx,hx⟩:=hh.ob
 refine ⟨_,(qu (zy (wCA zdg (wz (pv 1) (xm (zh (pv 0) rfl) qz))))
   (qm (zy (x8 (pv 0) T.clH zab (hr.mono ⋯) qf (xm (ut (yt (pv 1) (Qm zav (hr.mono ⋯) rfl qf (wz (pv 2) qz)) u8) rfl rfl (λz=>nomatch z) ⋯) (xm jw qz)))))),?_⟩
 refine ⟨_,rfl,_,rfl,x,qq,dx,_,_,rfl,hx,T.clH,T.naHr,jr,n,dr,R,rfl,ln,hh.r,λa1 a2 H1 s1=>?_,kn,kt⟩
 have hh1:=hh.same s1
 refine gI rfl ⟨x,dx,gI rfl ⟨s1 _ _ hx,x9,λc1 n1=>(gI rfl (gI rfl (λr d0 nr nd0 ne0=>qqf (H:=upd H1 c1 (.dK [])) (hs:=hs) (by rw [wf (qh (s1 _ _ hp) n1)];exact s1 _ _ hp) nr nd0 (λokl H3 s3 R3=>?_) λz H3 s3=>kl a1 a2 z H3 (s1.trans (λb o e=>s3 _ _ (by rw [wf (qh e n1)];exact e))))))⟩⟩
 refine ⟨s3 _ _ qc,[(.inr n,.ref r)],rfl,(show 1≤15 by decide),?_⟩
 exact qq9 (E:=E) hh1 n1 s3 R3 okl rf lR lW lD λH' tp q1 q2 b1 b2 b3 b4 b5 b6 b7 b8 b9 kb=>k a1 a2 okl H' (RDeed.pre ⟨r,tp,q1,q2,b1,b2,b3,b4,b5,b6,b7,b8,b9,kb⟩ s1)
def um (C CR CN:Aj):Sp:=λvs H Q E=>∃(x dr dw dd:Aj) (R W:List (Key×V)) (D:List V) (n:Str),vs=[.ref x,.str n]∧Hse C H x dr dw dd R W D ∧
 (∀v,wp R (.inr n)=some v→∃r hs,v=.ref r∧RoadAt CR H r hs∧∀p,H p=none→Q (.ref p) (upd H p (.lst (hs.map V.int))))∧(wp R (.inr n)=none→E (.ref CN) none H)
include T in
theorem qz2 (F:Fun K "corners_of" "House.corners_of" zb8 f fd)(zag:MCal P w K mg base qq "road_called" 1 (jq qq q9 true))(zaw:MCal P w K mg base wq "corners" 1 (uk wq)) :
  FK P w K mg base 2 f fd ["self","name"] (um qq wq q9):=by
 have sc:=W8
 refine F.okX sc (λvs H Q E h=>by obtain ⟨_,_,_,_,_,_,_,_,rfl,_⟩:=h;rfl) λ_ _ _ _ H vs Q E hr h=>?_
 obtain ⟨x,dr,dw,dd,R,W,D,n,rfl,hh,k,kx⟩:=h
 obtain ⟨dx,hx⟩:=hh.ob
 refine ⟨_,(qm (wn (kj (x8 (pv 0) T.clH zag (hr.mono ⋯) qf (wz (pv 1) qz)) T.cl zaw (hr.mono ⋯) qf))),?_⟩
 refine ⟨_,rfl,x,dx,_,rfl,hx,x9,_,rfl,x,dr,dw,dd,R,W,D,n,rfl,hh,λv e=>?_,kx⟩
 obtain ⟨r,hs,rfl,hR,q⟩:=k v e
 obtain ⟨dy,l,h1,h2⟩:=id hR
 exact ⟨r,dy,gI rfl ⟨h1,vf (by decide +kernel),r,hs,rfl,hR,q⟩⟩
def qwt (C CN:Aj):Sp:=λvs H Q E=>∃(x dr dw dd:Aj) (R W:List (Key×V)) (D:List V),vs=[.ref x]∧Hse C H x dr dw dd R W D∧R.length≤1000∧W.length≤1000∧(D=[]→E (.ref CN) none H) ∧
 (∀D' v,D=D'++[v]→∃tp c1 c2 cs1 cs2,v=.ref tp∧H tp=some (.tup [.ref c1,.ref c2])∧Rd H c1 (.dK cs1)∧Rd H c2 (.dK cs2)∧c1≠c2∧c1≠dr∧c1≠dw∧c2≠dr∧c2≠dw∧(cs1.map (·.1)).Nodup∧(cs2.map (·.1)).Nodup∧cs1.length≤1000∧cs2.length≤1000∧wqm R cs1∧wqm W cs2 ∧
  ∀H',Hse C H' x dr dw dd (exK R cs1) (exK W cs2) D'→Rd H' c1 (.dK cs1)→Rd H' c2 (.dK cs2)→Kb [dr,dw,dd,c1,c2] H H'→Q .non H')
include T in
theorem xq2 (F:Fun K "take_back" "House.take_back" zb5 f fd)(za4:Cal P w K mg base "exchange" 1 qkm):FK P w K mg base 2 f fd ["self"] (qwt qq qw):=by
 have sc:=Zu
 refine F.okX sc (λvs H Q E h=>by obtain ⟨_,_,_,_,_,_,_,rfl,_⟩:=h;rfl) λ_ _ _ _ H vs Q E hr h=>?_
 obtain ⟨x,dr,dw,dd,R,W,D,rfl,hh,lR,lW,kx,k⟩:=h
 obtain ⟨dx,hx⟩:=hh.ob
 refine ⟨_,(qu (xh (wm zf (xz xf rfl T.len_ aB (xm (zh (pv 0) rfl) qz)) qk (w6 _)) (qm (kh rfl T.zao zr rfl T.zhi (xb x6 qz))) wt)
   (qu (jn (ww2 bw ee eh wwm (zh (pv 0) rfl)) (jy rfl (x4 (xp (i:=1)) (x4 (xp (i:=2)) vc))))
   (qu (zy (wCA za4 (xm (zh (pv 0) rfl) (wz (pv 1) qz))))
   (qm (zy (wCA za4 (xm (zh (pv 0) rfl) (wz (pv 2) qz)))))))),?_⟩
 refine gI rfl ⟨x,qq,dx,_,_,rfl,hx,T.clH,T.naHd,Qb,dd,gI rfl ⟨.inl (SqL.of hh.d),rfl,_,rfl,xn (λz=>?_) (λz=>?_)⟩⟩
 ·exact ⟨sz1,kx (eI ⋯)⟩
 ·have ne:D≠[]:=λy=>z (by rw [y];rfl)
  have eD:D=D.dropLast++[D.getLast ne]:=(List.dropLast_concat_getLast ne).symm
  obtain ⟨tp,c1,c2,cs1,cs2,ev,ht,h1,h2,n12,n1r,n1w,n2r,n2w,nd1,nd2,l1,l2,ok1,ok2,k⟩:=k _ _ eD
  have eL:D[D.length-1]?=some (.ref tp):=by rw [←List.getLast?_eq_getElem?,List.getLast?_eq_getLast ne,ev]
  refine gI rfl ⟨x,qq,dx,_,_,rfl,hx,T.clH,T.naHd,Qb,.inl ⟨rfl,_,SqL.of hh.d⟩,dd,D,gI rfl ⟨rfl,hh.d,eL,?_⟩⟩
  have k0:∀b o,b≠dd→H b=some o→upd H dd (.lst D.dropLast) b=some o:=λb o nb e=>by rw [wf nb];exact e
  have d0:upd H dd (.lst D.dropLast) dd=some (.lst D.dropLast):=qc
  have kd:∀b kv,Rd H b (.dK kv)→b≠dd:=λb kv hb y=>by rcases hb with hb|⟨o,hb⟩ <;> (rw [y,hh.d] at hb;cases hb)
  have kx':x≠dd:=λy=>by rw [y,hh.d] at hx;cases hx
  have kt:tp≠dd:=λy=>by rw [y,hh.d] at ht;cases ht
  have rd0:∀b kv,Rd H b (.dK kv)→Rd (upd H dd (.lst D.dropLast)) b (.dK kv):=λb kv hb=>by
   have nb:=kd b kv hb
   rcases hb with hb|⟨o,hb⟩
   ·exact .inl (k0 _ _ nb hb)
   ·exact .inr ⟨o,k0 _ _ nb hb⟩
  have r0:=k0 _ _ (kd _ _ (.inl hh.r)) hh.r
  have w0:=k0 _ _ (kd _ _ (.inl hh.w)) hh.w
  have x0:=k0 _ _ kx' hx
  have t0:=k0 _ _ kt ht
  have h10:=rd0 _ _ h1
  have h20:=rd0 _ _ h2
  have kb0:Kb [dd] H (upd H dd (.lst D.dropLast)):=λb o nb e=>k0 b o (λy=>nb (by simp [y])) e
  have dd1:=kd _ _ h1
  have dd2:=kd _ _ h2
  have ddr:=kd _ _ (.inl hh.r)
  have ddw:=kd _ _ (.inl hh.w)
  generalize upd H dd (.lst D.dropLast)=H0 at d0 r0 w0 x0 t0 h10 h20 kb0
  refine ⟨tp,gI rfl ⟨SqT.of t0,rfl,_,_,rfl,_,_,rfl,rfl,?_⟩⟩
  have isI:∀ {b o},Rd H0 b (.dK o)→x≠b:=λ{b o} hb y=>by rcases hb with hb|⟨u,hb⟩ <;> (rw [←y,x0] at hb;cases hb)
  have xr:=isI (.inl r0)
  have xw:=isI (.inl w0)
  have x1:=isI h10
  have x2:=isI h20
  have m1:∀b,b≠dr→b≠c1→b∉[dr,c1]:=λb a1 a2 y=>by
   rcases ae.mp y with y|y
   ·exact a1 y
   ·exact a2 (aq.mp y)
  have m2:∀b,b≠dw→b≠c2→b∉[dw,c2]:=λb a1 a2 y=>by
   rcases ae.mp y with y|y
   ·exact a1 y
   ·exact a2 (aq.mp y)
  refine gI rfl ⟨x,qq,dx,_,_,rfl,x0,T.clH,T.naHr,jr,gI rfl ⟨dr,c1,R,cs1,rfl,aV n1r,r0,h10,nd1,lR,l1,ok1,λq1 H1 nq1 fq1 fr1 fc1 kb1=>?_⟩⟩
  have hx1:=kb1 _ _ (m1 x xr x1) x0
  have hw1:=kb1 _ _ (m1 dw (aV hh.ne) (aV n1w)) w0
  have hd1:=kb1 _ _ (m1 dd (aV ddr) (aV dd1)) d0
  have hc2:=kb1.rd (m1 c2 n2r (aV n12)) h20
  refine gI rfl ⟨x,qq,dx,_,_,rfl,hx1,T.clH,T.naHw,vq,gI rfl ⟨dw,c2,W,cs2,rfl,aV n2w,hw1,hc2,nd2,lW,l2,ok2,λq2 H2 nq2 fq2 fw2 fc2 kb2=>?_⟩⟩
  refine k H2 ⟨⟨dx,kb2 _ _ (m2 x xw x2) hx1⟩,kb2 _ _ (m2 dr hh.ne (aV n2r)) fr1,fw2,kb2 _ _ (m2 dd (aV ddw) (aV dd2)) hd1,hh.ne⟩ (kb2.rd (m2 c1 n1w n12) fc1) fc2 λb o nb e=>?_
  simp only [ae,af,aG,not_or] at nb
  exact kb2 _ _ (m2 b nb.2.1 nb.2.2.2.2) (kb1 _ _ (m1 b nb.1 nb.2.2.2.1) (kb0 b o (by simpa using nb.2.2.1) e))
theorem qyf (hs:List Int)(j:Nat)(h:Int):(hs.map V.int).set j (.int h)=(hs.set j h).map V.int:=by rw [List.map_set]
theorem ix_of {n:Nat}(h0:0≤c)(h1:c<n):ixN n c=some c.toNat:=by
 unfold ixN
 rw [ak h0,ak h1]
def qyj (C CR CN CL:Aj):Sp:=λvs H Q E=>∃(x dr dw dd:Aj) (R W:List (Key×V)) (D:List V) (n:Str) (c h:Int),vs=[.ref x,.str n,.int c,.int h]∧Hse C H x dr dw dd R W D∧Zt D∧R.length≤1000∧W.length≤1000∧D.length≤1000000∧(wp R (.inr n)=none→E (.ref CN) none H) ∧
 (∀v,wp R (.inr n)=some v→∃r hs,v=.ref r∧RoadAt CR H r hs∧xt hs∧(¬ (0≤c∧c<(hs.length:Int))→∀H',Same H H'→E (.ref CL) none H')∧(0≤c→c<(hs.length:Int)→(xt (hs.set c.toNat h)→∀H',RDeed C CR H H' x dr dw dd R W D n (hs.set c.toNat h)→Q .non H')∧(¬ xt (hs.set c.toNat h)→∀H',Same H H'→E (.ref CL) none H')))
include T in
theorem xq6 (F:Fun K "bend" "House.bend" zbx f fd)(zag:MCal P w K mg base qq "road_called" 1 (jq qq q9 true))(zaw:MCal P w K mg base wq "corners" 1 (uk wq))(zav:CCal P w K mg base "Road" wq 2 (Zj K qg wq))(zab:MCal P w K mg base qq "do" 2 (Z5 qq)) :
  FK P w K mg base 4 f fd ["self","name","corner","height"] (qyj qq wq q9 qg):=by
 have sc:=qzr
 refine F.okX sc (λvs H Q E h=>by obtain ⟨_,_,_,_,_,_,_,_,_,_,rfl,_⟩:=h;rfl) λ_ _ _ _ H vs Q E hr h=>?_
 obtain ⟨x,dr,dw,dd,R,W,D,n,c,h,rfl,hh,rf,lR,lW,lD,kx,k⟩:=h
 obtain ⟨dx,hx⟩:=hh.ob
 refine ⟨_,(qu (xj (i:=4) (kj (x8 (pv 0) T.clH zag (hr.mono ⋯) qf (wz (pv 1) qz)) T.cl zaw (hr.mono ⋯) qf))
   (qu (xh (PW.pt (jm (wm j3 (pv 2) qk (w6 _)) (k7 (wm wqj (pv 2) (xz xf rfl T.len_ aB (wz (pv 4) qz)) (w6 _))))) (qm (kh rfl T.zad zr rfl T.zda (xb x6 qz))) wt)
   (qu (jn (pv 3) (wxg (pv 4) (pv 2) qzj))
   (qm (zy (x8 (pv 0) T.clH zab (hr.mono ⋯) qf (xm (ut (yt (pv 1) (Qm zav (hr.mono ⋯) rfl qf (wz (pv 4) qz)) u8) rfl rfl (λz=>nomatch z) ⋯) (xm jw qz)))))))),?_⟩
 refine ⟨_,rfl,x,dx,_,rfl,hx,x9,_,rfl,x,dr,dw,dd,R,W,D,n,rfl,hh,λv e=>?_,kx⟩
 obtain ⟨r0,hs,rfl,hR,okl,kb,k⟩:=k v e
 obtain ⟨dy,l,h1,h2⟩:=id hR
 refine ⟨r0,dy,gI rfl ⟨h1,vf (by decide +kernel),r0,hs,rfl,hR,λp np=>?_⟩⟩
 have s1:Same H (upd H p (.lst (hs.map V.int))):=Same.upd np
 have f1:upd H p (.lst (hs.map V.int)) p=some (.lst (hs.map V.int)):=qc
 have lm:(hs.map V.int).length=hs.length:=aa _
 refine gI rfl (xu rfl rfl (gI rfl (zp (λz=>jj ⟨sz1,kb ⋯ _ s1⟩) (λz=>?_))))
 refine gI rfl (gI rfl ⟨_,_,rfl,.inl (SqL.of f1),xu rfl rfl (gI rfl ?_)⟩)
 rw [lm]
 refine zp (λy=>⟨sz1,kb ⋯ _ s1⟩) (λy=>?_)
 obtain ⟨kg,kl⟩:=k ⋯ ⋯
 refine gI rfl (gI rfl (gI rfl ⟨p,_,c,c.toNat,rfl,rfl,f1,ix_of ⋯ (by rw [lm];lia),?_⟩))
 rw [qyf]
 have s2:Same H (upd (upd H p (.lst (hs.map V.int))) p (.lst ((hs.set c.toNat h).map V.int))):=by
  rw [yz]
  exact Same.upd np
 have f2:upd (upd H p (.lst (hs.map V.int))) p (.lst ((hs.set c.toNat h).map V.int)) p=some (.lst ((hs.set c.toNat h).map V.int)):=qc
 generalize upd (upd H p (.lst (hs.map V.int))) p (.lst ((hs.set c.toNat h).map V.int))=H2 at s2 f2
 refine gI rfl ⟨x,dx,gI rfl ⟨s2 _ _ hx,x9,λc1 n1=>(gI rfl (gI rfl (λr d0 nr nd0 ne0=>qqf (H:=upd H2 c1 (.dK [])) (hs:=hs.set c.toNat h) (by rw [wf (qh f2 n1)];exact f2) nr nd0 (λokl' H3 s3 R3=>?_) λz H3 s3=>kl z H3 (s2.trans (λb o e=>s3 _ _ (by rw [wf (qh e n1)];exact e))))))⟩⟩
 refine ⟨s3 _ _ qc,[(.inr n,.ref r)],rfl,(show 1≤15 by decide),?_⟩
 exact qq9 (E:=E) (hh.same s2) n1 s3 R3 okl' rf lR lW lD λH' tp q1 q2 b1 b2 b3 b4 b5 b6 b7 b8 b9 kb=>kg okl' H' (RDeed.pre ⟨r,tp,q1,q2,b1,b2,b3,b4,b5,b6,b7,b8,b9,kb⟩ s2)
def qqc (C CR CN CL:Aj):Sp:=λvs H Q E=>∃(x dr dw dd:Aj) (R W:List (Key×V)) (D:List V) (n:Str) (h:Int),vs=[.ref x,.str n,.int h]∧Hse C H x dr dw dd R W D∧Zt D∧R.length≤1000∧W.length≤1000∧D.length≤1000000∧(wp R (.inr n)=none→E (.ref CN) none H) ∧
 (∀v,wp R (.inr n)=some v→∃r hs,v=.ref r∧RoadAt CR H r hs∧xt hs∧(xt (hs++[h])→∀H',RDeed C CR H H' x dr dw dd R W D n (hs++[h])→Q .non H')∧(¬ xt (hs++[h])→∀H',Same H H'→E (.ref CL) none H'))
include T in
theorem xqz (F:Fun K "widen" "House.widen" zby f fd)(zag:MCal P w K mg base qq "road_called" 1 (jq qq q9 true))(zaw:MCal P w K mg base wq "corners" 1 (uk wq))(zav:CCal P w K mg base "Road" wq 2 (Zj K qg wq))(zab:MCal P w K mg base qq "do" 2 (Z5 qq)) :
  FK P w K mg base 4 f fd ["self","name","height"] (qqc qq wq q9 qg):=by
 have sc:=qzu
 refine F.okX sc (λvs H Q E h=>by obtain ⟨_,_,_,_,_,_,_,_,_,rfl,_⟩:=h;rfl) λ_ _ _ _ H vs Q E hr h=>?_
 obtain ⟨x,dr,dw,dd,R,W,D,n,h,rfl,hh,rf,lR,lW,lD,kx,k⟩:=h
 obtain ⟨dx,hx⟩:=hh.ob
 have big:(1000000:Nat)<sizeLine:=by decide
 refine ⟨_,(qu (xj (i:=3) (kj (x8 (pv 0) T.clH zag (hr.mono ⋯) qf (wz (pv 1) qz)) T.cl zaw (hr.mono ⋯) qf))
   (qm (zy (x8 (pv 0) T.clH zab (hr.mono ⋯) qf (xm (ut (yt (pv 1) (Qm zav (hr.mono ⋯) rfl qf (vk (xk op_cat (pv 3) (yk (wz (pv 2) qz))) qz)) u8) rfl rfl (λz=>nomatch z) ⋯) (xm jw qz)))))),?_⟩
 refine ⟨_,rfl,x,dx,_,rfl,hx,x9,_,rfl,x,dr,dw,dd,R,W,D,n,rfl,hh,λv e=>?_,kx⟩
 obtain ⟨r0,hs,rfl,hR,okl,kg,kl⟩:=k v e
 obtain ⟨dy,l,h1,h2⟩:=id hR
 have ol:=okl.2.1
 refine ⟨r0,dy,gI rfl ⟨h1,vf (by decide +kernel),r0,hs,rfl,hR,λp np=>?_⟩⟩
 have s1:Same H (upd H p (.lst (hs.map V.int))):=Same.upd np
 have f1:upd H p (.lst (hs.map V.int)) p=some (.lst (hs.map V.int)):=qc
 generalize upd H p (.lst (hs.map V.int))=H1 at s1 f1
 refine gI rfl ⟨x,dx,gI rfl ⟨s1 _ _ hx,x9,λc1 n1=>(gI rfl (gI rfl (gI rfl ⟨sz1,λp2 n2=>?_⟩)))⟩⟩
 have sa:Same (upd H1 c1 (.dK [])) (upd (upd H1 c1 (.dK [])) p2 (.lst [.int h])):=Same.upd n2
 have fa:=sa _ _ (show upd H1 c1 (.dK []) p=some (.lst (hs.map V.int)) by rw [wf (qh f1 n1)];exact f1)
 refine ⟨p,p2,_,_,rfl,rfl,fa,qc,by rw [aa];show hs.length+1≤_;lia,λp3 n3=>?_⟩
 have sb:=sa.trans (Same.upd (o:=.lst (hs.map V.int++[.int h])) n3)
 have fb:upd (upd (upd H1 c1 (.dK [])) p2 (.lst [.int h])) p3 (.lst (hs.map V.int++[.int h])) p3=some (.lst ((hs++[h]).map V.int)):=by rw [qc,bg];rfl
 generalize upd (upd (upd H1 c1 (.dK [])) p2 (.lst [.int h])) p3 (.lst (hs.map V.int++[.int h]))=H2 at sb fb
 have s12:Same H1 H2:=λb o e=>sb _ _ (by rw [wf (qh e n1)];exact e)
 refine λr d0 nr nd0 ne0=>qqf (H:=H2) (hs:=hs++[h]) fb nr nd0 (λokl' H3 s3 R3=>?_) λz H3 s3=>kl z H3 ((s1.trans s12).trans s3)
 refine ⟨s3 _ _ (sb _ _ qc),[(.inr n,.ref r)],rfl,(show 1≤15 by decide),?_⟩
 exact qq9 (E:=E) (hh.same s1) n1 (sb.trans s3) R3 okl' rf lR lW lD λH' tp q1 q2 b1 b2 b3 b4 b5 b6 b7 b8 b9 kb=>kg okl' H' (RDeed.pre ⟨r,tp,q1,q2,b1,b2,b3,b4,b5,b6,b7,b8,b9,kb⟩ s1)
def wF (n:Str)(p t:Aj):List (Str×V):=[("whose",.str n),("point",.ref p),("times",.ref t)]
theorem Q5 {t:Aj}:(wF n p t).lookup ("whose" : Str)=some (.str n):=by unfold wF;rw [aK];simp
theorem uc {t:Aj}:(wF n p t).lookup ("point" : Str)=some (.ref p):=by
 unfold wF
 rw [aK,show (("point" : Str)==("whose" : Str))=false by decide +kernel]
 dsimp only
 rw [aK]
 simp
theorem wxx {t:Aj}:(wF n p t).lookup ("times" : Str)=some (.ref t):=by
 unfold wF
 rw [aK,show (("times" : Str)==("whose" : Str))=false by decide +kernel]
 dsimp only
 rw [aK,show (("times" : Str)==("point" : Str))=false by decide +kernel]
 dsimp only
 rw [aK]
 simp
theorem quc {t:Aj}{m:Str}(h1:¬ m = "whose")(h2:¬ m = "point")(h3:¬ m = "times"):(wF n p t).lookup m=none:=by
 unfold wF
 rw [aK,aU.mpr h1]
 dsimp only
 rw [aK,aU.mpr h2]
 dsimp only
 rw [aK,aU.mpr h3]
 rfl
structure WkAt (C:Aj)(H:Hp)(y:Aj)(n:Str)(p:Aj)(pt:Int×Int)(t:Aj)(tv:List (List Key×V)):Prop where
 ob:∃dx,H y=some (.ins C dx (wF n p t))
 pt:H p=some (.tup [.int pt.1,.int pt.2])
 tm:H t=some (.dT tv)
variable {y:Aj}{tv:List (List Key×V)}
theorem WkAt.kb {pt:Int×Int}{t:Aj}(h:WkAt C H y n p pt t tv){ch:List Aj}(k:Kb ch H H')(hc:∀b∈ch,(∃kv,Rd H b (.dK kv))∨∃D,H b=some (.lst D)):WkAt C H' y n p pt t tv:=by
 have no:∀b o,(∀kv,o≠HO.dK kv)→(∀u kv,o≠HO.frz u (.dK kv))→(∀D,o≠HO.lst D)→H b=some o→H' b=some o:=λb o a1 a2 a3 e=>k _ _ (λz=>by
  rcases hc b z with ⟨kv,q|⟨u,q⟩⟩|⟨D,q⟩
  ·rw [e] at q;cases q;exact a1 _ rfl
  ·rw [e] at q;cases q;exact a2 _ _ rfl
  ·rw [e] at q;cases q;exact a3 _ rfl) e
 obtain ⟨dx,e⟩:=h.ob
 exact ⟨⟨dx,no _ _ (λ_ z=>by cases z) (λ_ _ z=>by cases z) (λ_ z=>by cases z) e⟩,no _ _ (λ_ z=>by cases z) (λ_ _ z=>by cases z) (λ_ z=>by cases z) h.pt,no _ _ (λ_ z=>by cases z) (λ_ _ z=>by cases z) (λ_ z=>by cases z) h.tm⟩
theorem WkAt.same {pt:Int×Int}{t:Aj}(h:WkAt C H y n p pt t tv)(s:Same H H'):WkAt C H' y n p pt t tv:=h.kb (ch:=[]) (Kb.of s) λb z=>nomatch z
def TmOk (tv:List (List Key×V)):Prop:=tv≠[]∧(tv.map (·.1)).Nodup∧∀q∈tv,∃a b c:Int,q=([.inl a,.inl b],.int c)∧0≤a∧a≤960∧1≤b∧b≤40
theorem TmOk.hash (h:TmOk tv):(tv.map λp=>Zz P w p.1).Nodup:=by
 obtain ⟨_,nd,all⟩:=h
 have e:(tv.map λp=>Zz P w p.1)=(tv.map (·.1)).map (Zz P w):=by rw [bK];rfl
 rw [e]
 refine bJ.mpr (cv (λ{x y} hx hy hne z=>hne ?_) nd)
 obtain ⟨p,hp,rfl⟩:=ax.mp hx
 obtain ⟨q,hq,rfl⟩:=ax.mp hy
 obtain ⟨a,b,c,rfl,a0,a1,b0,b1⟩:=all p hp
 obtain ⟨a',b',c',rfl,a0',a1',b0',b1'⟩:=all q hq
 obtain ⟨e1,e2⟩:=wym a0 a1 b0 b1 a0' a1' b0' b1' z
 show ([.inl a,.inl b]:List Key)=[.inl a',.inl b']
 rw [e1,e2]
theorem TmOk.len (h:TmOk tv):tv.length≤40000:=by
 obtain ⟨_,nd,all⟩:=h
 let g:List Key→Nat:=λk=>match k with|[.inl a,.inl b]=>a.toNat*41+b.toNat|_=>0
 have m:∀x∈tv.map (·.1),∃a b:Int,x=[.inl a,.inl b]∧0≤a∧a≤960∧1≤b∧b≤40:=λx hx=>by
  obtain ⟨p,hp,rfl⟩:=ax.mp hx
  obtain ⟨a,b,c,rfl,r⟩:=all p hp
  exact ⟨a,b,rfl,r⟩
 have nd2:((tv.map (·.1)).map g).Nodup:=by
  refine bJ.mpr (cv (λ{x y} hx hy hne z=>hne ?_) nd)
  obtain ⟨a,b,rfl,a0,a1,b0,b1⟩:=m x hx
  obtain ⟨a',b',rfl,a0',a1',b0',b1'⟩:=m y hy
  have z:a.toNat*41+b.toNat=a'.toNat*41+b'.toNat:=z
  have e1:a=a':=by lia
  have e2:b=b':=by lia
  rw [e1,e2]
 have:=L2.qk9 ((tv.map (·.1)).map g) (List.range 39401) nd2 λv hv=>?_
 ·rw [aa,aa,aM] at this
  lia
 ·obtain ⟨x,hx,rfl⟩:=ax.mp hv
  obtain ⟨a,b,rfl,a0,a1,b0,b1⟩:=m x hx
  refine aW.mpr ?_
  show a.toNat*41+b.toNat<39401
  lia
theorem TmOk.one {a b:Int}(a0:0≤a)(a1:a≤960)(b0:1≤b)(b1:b≤40):TmOk [([.inl a,.inl b],.int 1)]:=⟨λz=>(nomatch z),aY.mpr ⟨af,aS⟩,λq hq=>⟨a,b,1,aq.mp hq,a0,a1,b0,b1⟩⟩
theorem TmOk.put (h:TmOk tv){a b c:Int}(a0:0≤a)(a1:a≤960)(b0:1≤b)(b1:b≤40):TmOk (km tv [.inl a,.inl b] (.int c)):=by
 obtain ⟨ne,nd,all⟩:=h
 unfold km
 split
 ·refine ⟨λz=>ne (List.map_eq_nil_iff.mp z),?_,λq hq=>?_⟩
  ·have:(tv.map λkv=>if kv.1=[Sum.inl a,Sum.inl b] then (kv.1,V.int c) else kv).map (·.1)=tv.map (·.1):=by
    rw [bK]
    refine cF λx _=>?_
    show (if x.1=[Sum.inl a,Sum.inl b] then (x.1,V.int c) else x).1=x.1
    split <;> rfl
   rw [this]
   exact nd
  ·obtain ⟨x,hx,rfl⟩:=ax.mp hq
   obtain ⟨a',b',c',rfl,r⟩:=all x hx
   show ∃a_1 b_1 c_1:Int,(if ([Sum.inl a',Sum.inl b']:List Key)=[Sum.inl a,Sum.inl b] then (([Sum.inl a',Sum.inl b']:List Key),V.int c) else ([Sum.inl a',Sum.inl b'],V.int c'))=([.inl a_1,.inl b_1],.int c_1)∧_
   split
   ·exact ⟨a',b',c,rfl,r⟩
   ·exact ⟨a',b',c',rfl,r⟩
 ·rename_i hn
  refine ⟨cM _ (fH _ _),?_,λq hq=>?_⟩
  ·rw [bg,fo]
   refine ⟨nd,aY.mpr ⟨af,aS⟩,λx hx y hy z=>hn ?_⟩
   obtain ⟨p,hp,rfl⟩:=ax.mp hx
   have hy:y=[Sum.inl a,Sum.inl b]:=aq.mp hy
   exact dz.mpr ⟨p,hp,aX (z.trans hy)⟩
  ·rcases bi.mp hq with hq|hq
   ·exact all q hq
   ·exact ⟨a,b,c,aq.mp hq,a0,a1,b0,b1⟩
def stN (n u m f:Nat):Nat:=if m<f then 0 else (if f<u then 1 else (m-f)/(n-u)+1)-(if f=0 then 1 else 0)
theorem wk8 {m:Int}{t L:Nat}(h:(t:Int)≤m):(m-t)/(L:Int)=(((m.toNat-t)/L:Nat):Int):=by
 rw [show m-(t:Int)=((m.toNat-t:Nat):Int) by lia]
 push_cast
 rfl
def wju:Sp:=λvs H Q _=>∃(f u n:Nat) (m:Int),vs=[.int f,.int u,.int n,.int m]∧f<n∧u<n∧n≤1000∧0≤m∧Q (.int (stN n u m.toNat f)) H
include T in
theorem zig (F:Fun K "led_to" "led_to" zbd f fd):FK P w K mg base 1 f fd ["place","turn","size","many"] wju:=by
 have sc:=wku
 refine F.okX sc (λvs H Q E h=>by obtain ⟨_,_,_,_,rfl,_⟩:=h;rfl) λ_ _ _ _ H vs Q E hr h=>?_
 obtain ⟨f,u,n,m,rfl,hf,u1,n1,m0,k⟩:=h
 refine ⟨_,(qu (xh (wm y4 (pv 0) (pv 3) (w6 _)) (qm (wn qk)) wt)
   (qu (xj (i:=4) (wqu (wm j3 (pv 0) (pv 1) (w6 _)) qk (xk zu (xk yp (xk k6 (pv 3) (pv 0)) (xk k6 (pv 2) (pv 1))) qk)))
   (qm (wn (wqu (wm zf (pv 0) qk (w6 _)) (xk k6 (pv 4) qk) (pv 4)))))),?_⟩
 refine gI rfl (gI rfl (xu rfl rfl (gI rfl (zp (λz=>?_) (λz=>?_)))))
 ·unfold stN at k
  rw [ak ⋯] at k
  exact k
 ·have fm:(f:Int)≤m:=by lia
  have res:∀x:Int,x=(if f<u then 1 else (((m.toNat-f)/(n-u):Nat):Int)+1)-(if f=0 then 1 else 0)→Q (.int x) H:=λx hx=>by
   have e:x=(stN n u m.toNat f:Nat):=by
    unfold stN
    rw [ai ⋯,hx]
    generalize (m.toNat-f)/(n-u)=D
    by_cases y1:f<u <;> by_cases y2:f=0
    ·simp only [ak y1,ak y2];lia
    ·simp only [ak y1,ai y2];lia
    ·simp only [ai y1,ak y2];lia
    ·simp only [ai y1,ai y2];lia
   rw [e]
   exact k
  refine gI rfl (gI rfl (xu rfl rfl (gI rfl (zp (λy1=>?_) (λy1=>?_)))))
  ·refine gI rfl ⟨rfl,_,rfl,xn (λy2=>?_) (λy2=>?_)⟩
   ·refine gI rfl (xu rfl rfl (res _ ?_))
    rw [ak ⋯,ak ⋯]
   ·refine gI rfl (res _ ?_)
    rw [ak ⋯,ai ⋯]
    rfl
  ·refine gI rfl (gI rfl (xu rfl rfl (gI rfl (gI rfl (xu rfl rfl ?_)))))
   refine xu rfl rfl ⟨⟨⋯,(Sm.small (n:=65) ⋯ ⋯ ⋯).mono ⋯⟩,xu rfl rfl ?_⟩
   have ev:(m-(f:Int))/((n:Int)-u)=(((m.toNat-f)/(n-u):Nat):Int):=by
    rw [←wk8 fm,show ((n-u:Nat):Int)=(n:Int)-u by lia]
   rw [ev]
   refine gI rfl ⟨rfl,_,rfl,xn (λy2=>?_) (λy2=>?_)⟩
   ·refine gI rfl (xu rfl rfl (res _ ?_))
    rw [ai ⋯,ak ⋯]
   ·refine gI rfl (res _ ?_)
    rw [ai ⋯,ai ⋯]
    lia
def Yr (C:Aj):Sp:=λvs H Q _=>∃(y dx p t:Aj) (n:Str),vs=[.ref y,.str n,.ref p,.ref t]∧H y=some (.ins C dx [])∧∀H',H' y=some (.ins C dx (wF n p t))→Kb [y] H H'→Q .non H'
include T in
theorem wj8 (F:Fun K "__init__" "Walker.__init__" zbl f fd):FK P w K mg base 1 f fd ["self","whose","point","times"] (Yr qy):=by
 have sc:=Zd
 refine F.okX sc (λvs H Q E h=>by obtain ⟨_,_,_,_,_,rfl,_⟩:=h;rfl) λ_ _ _ _ H vs Q E hr h=>?_
 obtain ⟨y,dx,p,t,n,rfl,hy,k⟩:=h
 refine ⟨_,(qu (Qq (pv 0) (pv 1) rfl)
   (qu (Qq (pv 0) (pv 2) rfl)
   (qm (Qq (pv 0) (pv 3) rfl)))),?_⟩
 refine gI rfl (gI rfl ⟨y,qy,dx,[],rfl,hy,T.clW,T.naWw,(by show 0<1000;decide),?_⟩)
 refine gI rfl (gI rfl ⟨y,qy,dx,gI rfl ⟨qc,T.clW,T.naWp,(by show 1<1000;decide),?_⟩⟩)
 refine gI rfl (gI rfl ⟨y,qy,dx,gI rfl ⟨qc,T.clW,T.naWt,(by show 2<1000;decide),?_⟩⟩)
 refine k _ qc λb o nb e=>?_
 have nb:b≠y:=λz=>nb (by simp [z])
 rw [wf nb,wf nb,wf nb]
 exact e
theorem qkv {t:Aj}{Pp:Hp→Prop}(ny:H y=none)(nd:H dx=none)(k:∀H',Same H H'→(∃dx,H' y=some (.ins C dx (wF n p t)))→Pp H') :
  Yr C [.ref y,.str n,.ref p,.ref t] (upd (upd H dx (.own y)) y (.ins C dx [])) (λr H2=>r=.non∧Pp H2) E:=by
 refine ⟨y,dx,p,t,n,rfl,qc,λH' e kb=>⟨rfl,k H' (λb o eb=>kb b o (λz=>?_) ?_) ⟨dx,e⟩⟩⟩
 ·rw [aq.mp z,ny] at eb;cases eb
 ·rw [wf (qh eb ny),wf (qh eb nd)]
  exact eb
def Jv (C:Aj):Sp:=λvs H Q _=>∃(n:Str) (p:Aj) (pt:Int×Int),vs=[.str n,.ref p]∧H p=some (.tup [.int pt.1,.int pt.2])∧∀H' y t,H y=none→Same H H'→WkAt C H' y n p pt t [([.inl pt.1,.inl pt.2],.int 1)]→Q (.ref y) H'
include T in
theorem qu9 (F:Fun K "set_down" "set_down" zbn f fd)(zdh:CCal P w K mg base "Walker" qy 1 (Yr qy)):FK P w K mg base 3 f fd ["whose","point"] (Jv qy):=by
 have sc:=wqd
 refine F.okX sc (λvs H Q E h=>by obtain ⟨_,_,_,rfl,_⟩:=h;rfl) λ_ _ _ _ H vs Q E hr h=>?_
 obtain ⟨n,p,pt,rfl,hp,k⟩:=h
 refine ⟨_,(qm (wn (Qm zdh (hr.mono ⋯) rfl qf (wz (pv 0) (wz (pv 1) (xm (wun hr.units0 (pv 1) qk) qz)))))),?_⟩
 refine gI rfl (gI rfl (λt nt=>(gI rfl ⟨p,[.inl pt.1,.inl pt.2],rfl,(by rw [wf (qh hp nt)];exact hp),qc,?_⟩)))
 have s1:Same H (upd (upd H t (.dT [])) t (.dT [([.inl pt.1,.inl pt.2],.int 1)])):=by
  rw [yz]
  exact Same.upd nt
 have f1:upd (upd H t (.dT [])) t (.dT [([.inl pt.1,.inl pt.2],.int 1)]) t=some (.dT [([.inl pt.1,.inl pt.2],.int 1)]):=qc
 generalize upd (upd H t (.dT [])) t (.dT [([.inl pt.1,.inl pt.2],.int 1)])=H1 at s1 f1
 exact λy dx ny nd ne=>qkv ny nd λH' s2 e=>k H' y t (xy s1 ny) (s1.trans s2) ⟨e,s2 _ _ (s1 _ _ hp),s2 _ _ f1⟩
def HPt (hs:List Int)(pt:Int×Int):Prop:=xt hs∧Pt hs pt.2 pt∧pt.2≤40
theorem HPt.rng {pt:Int×Int}(h:HPt hs pt):0≤pt.1∧pt.1≤960∧1≤pt.2∧pt.2≤40:=by
 obtain ⟨ok,⟨h1,_,_,h0,h2⟩,h3⟩:=h
 have ol:=ok.2.1
 have o1:=ok.1
 have:((hs.length:Int)-1)*pt.2≤24*pt.2:=aJ ⋯ ⋯
 lia
theorem HPt.it {pt:Int×Int}(h:HPt hs pt)(n:Nat):HPt hs (itP hs pt n):=by
 have a:=xqk h.1 h.2.1 n
 have:=h.2.2
 have:=a.2.1
 exact ⟨h.1,⟨a.1,fV _,a.2.2.1,a.2.2.2⟩,⋯⟩
theorem HPt.short {pt:Int×Int}(h:HPt hs pt):¬ Dist (itP hs pt) 1001:=λd=>by
 have r:=h.rng
 obtain ⟨ok,hp,h3⟩:=h
 have ol:=ok.2.1
 have o1:=ok.1
 have inj:∀i j,trT hs pt.1 pt.2 i=trT hs pt.1 pt.2 j→itP hs pt i=itP hs pt j:=λi j e=>(it_eq hp i j).mpr e
 have nd:((List.range 1001).map λi=>(trT hs pt.1 pt.2 i).toNat).Nodup:=by
  refine bJ.mpr (cv (λ{i j} hi hj hij z=>?_) (dY (n:=1001)))
  have a:=Y2 ok hp.1 hp.2.2.2 i
  have b:=Y2 ok hp.1 hp.2.2.2 j
  have a0:=a.1
  have b0:=b.1
  exact d i j hij (aW.mp hj) (inj i j ⋯)
 have:=L2.qk9 _ (List.range 961) nd λv hv=>by
  obtain ⟨i,_,rfl⟩:=ax.mp hv
  have a:=Y2 ok hp.1 hp.2.2.2 i
  have a0:=a.1
  have a1:=a.2
  have:((hs.length:Int)-1)*pt.2≤24*pt.2:=aJ ⋯ ⋯
  exact aW.mpr ⋯
 rw [aa,aM,aM] at this
 lia
def qjt (tv:List (List Key×V))(q:Int×Int):Int:=match (wp tv [.inl q.1,.inl q.2]).getD (.int 0) with|.int c=>c|_=>0
def HitI (hs:List Int)(pt:Int×Int)(n u m i:Nat)(tv tv':List (List Key×V)):Prop:=(∀f,f<i→qjt tv' (itP hs pt f)=qjt tv (itP hs pt f)+stN n u m f)∧∀q,(∀f,f<i→itP hs pt f≠q)→qjt tv' q=qjt tv q
def qug (hs:List Int)(pt:Int×Int)(m:Nat)(tv tv':List (List Key×V)):Prop:=∃n u,n≤1000∧Dist (itP hs pt) n∧u<n∧itP hs pt n=itP hs pt u∧HitI hs pt n u m n tv tv'
theorem wz2 {q q':Int×Int}:qjt (km tv [.inl q.1,.inl q.2] (.int c)) q'=if q=q' then c else qjt tv q':=by
 unfold qjt
 by_cases h:q=q'
 ·subst h
  rw [ak rfl,Qk,ak rfl]
  rfl
 ·rw [ai h,Qk,ai]
  intro z
  apply h
  injection z with z1 z2
  injection z2 with z2 _
  injection z1 with z1
  injection z2 with z2
  exact Prod.ext z1.symm z2.symm
theorem HitI.next {pt:Int×Int}{n:Nat}{tv':List (List Key×V)}(h:HitI hs pt n u m i tv tv')(d:Dist (itP hs pt) n)(hi:i<n)(e:stN n u m i=0):HitI hs pt n u m (i+1) tv tv':=by
 have ne:∀f,f<i→itP hs pt f≠itP hs pt i:=λf hf=>d f i hf hi
 refine ⟨λf hf=>?_,λq hq=>h.2 q λf hf=>hq f ⋯⟩
 by_cases z:f=i
 ·subst z
  rw [h.2 _ ne,e]
  lia
 ·exact h.1 f ⋯
theorem HitI.put {pt:Int×Int}{n:Nat}{tv':List (List Key×V)}(h:HitI hs pt n u m i tv tv')(d:Dist (itP hs pt) n)(hi:i<n)(ec:(wp tv' [.inl (itP hs pt i).1,.inl (itP hs pt i).2]).getD (.int 0)=.int c):HitI hs pt n u m (i+1) tv (km tv' [.inl (itP hs pt i).1,.inl (itP hs pt i).2] (.int (c+stN n u m i))):=by
 have ne:∀f,f<i→itP hs pt f≠itP hs pt i:=λf hf=>d f i hf hi
 have e0:qjt tv' (itP hs pt i)=c:=by unfold qjt;rw [ec]
 have e1:=h.2 _ ne
 refine ⟨λf hf=>?_,λq hq=>?_⟩
 ·rw [wz2]
  by_cases z:f=i
  ·subst z
   rw [ak rfl,←e1,e0]
  ·rw [ai (λy=>ne f ⋯ y.symm)]
   exact h.1 f ⋯
 ·rw [wz2,ai (hq i ⋯)]
  exact h.2 q λf hf=>hq f ⋯
def qjk (C CR:Aj):Sp:=λvs H Q _=>∃(y r p t:Aj) (n:Str) (hs:List Int) (pt:Int×Int) (tv:List (List Key×V)) (m:Int),vs=[.ref y,.ref r,.int m]∧WkAt C H y n p pt t tv∧TmOk tv∧RoadAt CR H r hs∧HPt hs pt∧0≤m ∧
 ∀H' y' p' t' tv',H y'=none→Same H H'→WkAt C H' y' n p' (itP hs pt m.toNat) t' tv'→TmOk tv'→qug hs pt m.toNat tv tv'→Q (.ref y') H'
include T in
theorem xw1 (F:Fun K "gone" "Walker.gone" zbm f fd)(zih:Cal P w K mg base "trace" 5 (qjv wq wv))(zii:Cal P w K mg base "led_to" 1 wju)(zij:Cal P w K mg base "spot" 1 wwq)(zdh:CCal P w K mg base "Walker" qy 1 (Yr qy)) :
  FK P w K mg base 6 f fd ["self","road","many"] (qjk qy wq):=by
 have sc:=qxu
 refine F.okX sc (λvs H Q E h=>by obtain ⟨_,_,_,_,_,_,_,_,_,rfl,_⟩:=h;rfl) λ_ _ _ _ H vs Q E hr h=>?_
 obtain ⟨y,r,p,t,n,hs,pt,tv,m,rfl,hW,hT,hR,hP,m0,k⟩:=h
 obtain ⟨dy,hy⟩:=hW.ob
 have rg:=hP.rng
 have big:(1000000:Nat)<sizeLine:=by decide
 refine ⟨_,(qu (jn (wCA zih (wz (pv 1) (xm (zh (pv 0) rfl) qz))) (jy rfl (x4 (xp (i:=3)) (x4 (xp (i:=4)) vc))))
   (qu (xj (i:=5) (zn wxp rfl T.dict_ bR (xm (zh (pv 0) rfl) qz)))
   (qu (yb be rfl (xx7 rfl T.enumerate_ (wz (pv 3) qz)) (jy rfl (x4 (xp (i:=6)) (x4 (xp (i:=7)) vc))) (qu (xj (i:=8) (wCA zii (wz (pv 6) (wz (pv 4) (vd (xz xf rfl T.len_ aB (wz (pv 3) qz)) (wz (pv 2) qz))))))
   (qm (xh (wm y4 (pv 8) qk (w6 _)) (qm (u7 (vj hr) (pv 5) (pv 7) (xk zu (wug (vj hr) (pv 5) (pv 7) qk ⟨rfl,rfl,rfl,rfl⟩) (pv 8)) rfl)) wt))))
   (qm (wn (Qm zdh (hr.mono ⋯) rfl qf (xm (zh (pv 0) rfl) (vd (wCA zij (wz (pv 3) (wz (pv 4) (wz (pv 2) qz)))) (wz (pv 5) qz))))))))),?_⟩
 dsimp only [ug]
 refine ⟨_,rfl,_,rfl,y,qy,dy,_,_,rfl,hy,T.clW,T.naWp,uc,r,p,hs,pt,pt.2,rfl,hR,hP.1,hW.pt,hP.2.1,(Sm.small (n:=65) ⋯ ⋯ ⋯).mono ⋯,λnn u q l H1 n1 d1 u1 e1 s1 nl fq pa=>?_,λd=>absurd d hP.short⟩
 refine ⟨q,gI rfl ⟨SqT.of fq,rfl,_,_,rfl,_,_,rfl,rfl,?_⟩⟩
 obtain ⟨ys,fl,pr⟩:=id pa
 have hl:ys.length=nn:=by rw [pr.length,quf]
 have y1:=s1 _ _ hy
 refine gI rfl ⟨y,qy,dy,_,_,rfl,y1,T.clW,T.naWt,wxx,t,tv,rfl,s1 _ _ hW.tm,hT.1,hT.hash,λt2 nt2=>?_⟩
 have s2:Same H1 (upd H1 t2 (.dT tv)):=Same.upd nt2
 have f2:upd H1 t2 (.dT tv) t2=some (.dT tv):=qc
 have nt20:H t2=none:=xy s1 nt2
 have tl:t2≠l:=(qh fl nt2).symm
 generalize hH2:upd H1 t2 (.dT tv)=H2 at s2 f2
 refine gI rfl ⟨l,ys,rfl,SqL.of (s2 _ _ fl),?_⟩
 refine for_en (λi σ H'=>(∃z6 z7 z8,σ=[some (.ref y),some (.ref r),some (.int m),some (.ref l),some (.int ((u:Nat):Int)),some (.ref t2),z6,z7,z8])∧(∃tv',H' t2=some (.dT tv')∧TmOk tv'∧HitI hs pt nn u m.toNat i tv tv')∧Kb [t2] H1 H') ⟨⟨_,_,_,rfl⟩,⟨tv,f2,hT,(λf z=>absurd z (eM _)),λ_ _=>rfl⟩,Kb.of s2⟩ (λi σ H' hi h=>SqL.of (h.2.2 _ _ (by simpa using tl.symm) fl)) ?_ ?_
 ·rintro i v z σ H' ev nz ⟨⟨z6,z7,z8,rfl⟩,⟨tv',ft,hT',hit⟩,kb⟩
  have hi:i<nn:=by rw [←hl];exact (aN.mp ev).1
  obtain ⟨a,ea,fa⟩:=ww6 (i:=i) pr hi
  rw [ev] at ea
  cases ea
  have sz:Same H' (upd H' z (.tup [.int ((i:Nat):Int),.ref a])):=Same.upd nz
  refine ⟨z,gI rfl ⟨SqT.new,rfl,_,_,rfl,_,_,rfl,rfl,?_⟩⟩
  have ft3:=sz _ _ ft
  have kb3:Kb [t2] H1 (upd H' z (.tup [.int ((i:Nat):Int),.ref a])):=kb.trans (Kb.of sz)
  generalize upd H' z (.tup [.int ((i:Nat):Int),.ref a])=H3 at ft3 kb3
  have at2:a≠t2:=qh fa nt2
  have fl3:=kb3 _ _ (by simpa using tl.symm) fl
  have fa3:H3 a=some (.tup (([.inl (itP hs pt i).1,.inl (itP hs pt i).2]:List Key).map kV)):=kb3 _ _ (by simpa using at2) fa
  have rgi:=(hP.it i).rng
  refine gI rfl (gI rfl (gI rfl ⟨_,_,rfl,.inl (SqL.of fl3),gI rfl ⟨i,u,nn,m,?_,hi,u1,n1,m0,gI rfl (xu rfl rfl (gI rfl (zp (λg=>?_) (λg=>?_))))⟩⟩))
  ·rw [hl]
  ·have dg:=DGet.t ft3 fa3
   have key:∃c:Int,(wp tv' [.inl (itP hs pt i).1,.inl (itP hs pt i).2]).getD (.int 0)=.int c:=by
    cases e:wp tv' [.inl (itP hs pt i).1,.inl (itP hs pt i).2] with
    |none=>exact ⟨0,rfl⟩
    |some v =>
     have hm:∃kv∈tv',kv.2=v:=by
      unfold wp at e
      cases hf:tv'.find? λkv=>decide (kv.1=[Sum.inl (itP hs pt i).1,Sum.inl (itP hs pt i).2]) with
      |none=>rw [hf] at e;cases e
      |some kv =>
       rw [hf] at e
       exact ⟨kv,ff hf,av e⟩
     obtain ⟨kv,hk,rfl⟩:=hm
     obtain ⟨a',b',c',rfl,_⟩:=hT'.2.2 kv hk
     exact ⟨c',rfl⟩
   obtain ⟨c,ec⟩:=key
   refine gI rfl ⟨t2,rfl,.inr ⟨_,.inl ft3⟩,gI rfl ⟨_,dg,_,rfl,?_⟩⟩
   rw [ec]
   refine xu rfl rfl (gI rfl (gI rfl ⟨t2,gI rfl ⟨DPut.t ft3 fa3 (by have:=hT'.len;lia),⟨_,_,_,rfl⟩,⟨_,qc,hT'.put rgi.1 rgi.2.1 rgi.2.2.1 rgi.2.2.2,hit.put d1 hi ec⟩,λb o nb e=>?_⟩⟩))
   rw [wf (by simpa using nb)]
   exact kb3 b o nb e
  ·exact ⟨⟨_,_,_,rfl⟩,⟨tv',ft3,hT',hit.next d1 hi ⋯⟩,kb3⟩
 ·rintro σ H' ⟨⟨z6,z7,z8,rfl⟩,⟨tv',ft,hT',hit⟩,kb⟩
  rw [hl] at hit
  have keep:∀b o,H1 b=some o→H' b=some o:=λb o e=>kb b o (by simpa using qh e nt2) e
  refine gI rfl ⟨y,qy,dy,_,_,rfl,keep _ _ y1,T.clW,T.naWw,Q5,gI rfl (gI rfl (gI rfl ⟨l,hs,pt,nn,u,m,rfl,⟨n1,d1,u1,e1,pa.same keep⟩,m0,λa fa=>(gI rfl (λy' dx' ny' nd' ne'=>qkv ny' nd' λH4 s4 e4=>?_))⟩))⟩
  have sk:Same H H':=s1.trans keep
  exact k H4 y' a t2 tv' (xy sk ny') (sk.trans s4) ⟨e4,s4 _ _ fa,s4 _ _ ft⟩ hT' ⟨nn,u,n1,d1,u1,e1,hit⟩
def wxc (K:Aa)(C:Aj):Sp:=λvs H Q E=>∃p q t b t' b',vs=[.ref p,.ref q]∧SqT K H p [.int t,.int b]∧SqT K H q [.int t',.int b']∧IntMulOk t b'∧IntMulOk t' b ∧
 (1≤b→1≤b'→Q (.bl (decide (t*b'<t'*b))) H)∧(b<1∨b'<1→E (.ref C) none H)
include T in
theorem xxf (F:Fun K "less" "less" zba f fd)(zc3:Cal P w K mg base "check_bottom" 1 (qq6 qx)):FK P w K mg base 2 f fd ["one","other"] (wxc K qx):=by
 have sc:=xxw
 refine F.okX sc (λvs H Q E h=>by obtain ⟨_,_,_,_,_,_,rfl,_⟩:=h;rfl) λ_ _ _ _ H vs Q E hr h=>?_
 obtain ⟨p,q,t,b,t',b',rfl,hp,hq,m1,m2,k,x⟩:=h
 refine ⟨_,(qu (zy (wCA zc3 (zq (xq xv (pv 0) qk (λ_ _=>rfl)) qz)))
   (qu (zy (wCA zc3 (zq (xq xv (pv 1) qk (λ_ _=>rfl)) qz)))
   (qm (wn (jg j3 (xk zm (xq xv (pv 0) qk (λ_ _=>rfl)) (xq xv (pv 1) qk (λ_ _=>rfl))) (xk zm (xq xv (pv 1) qk (λ_ _=>rfl)) (xq xv (pv 0) qk (λ_ _=>rfl))) (w6 _)))))),?_⟩
 refine ⟨_,rfl,_,_,_,_,rfl,rfl,hp,rfl,b,rfl,λg1=>?_,λg1=>x (.inl g1)⟩
 refine ⟨_,rfl,_,_,_,_,rfl,rfl,hq,rfl,b',rfl,λg2=>?_,λg2=>x (.inr g2)⟩
 refine gI rfl (gX rfl rfl hp rfl (gI rfl (gX rfl rfl hq rfl (xu rfl rfl ⟨m1,gI rfl (gX rfl rfl hq rfl (gI rfl (gX rfl rfl hp rfl (xu rfl rfl ⟨m2,xu rfl rfl ?_⟩))))⟩))))
 exact k g1 g2
variable {CW:Aj}{whose:Str}
theorem qvh {x:Aj}{t:Aj}{pt:Int×Int}(hh:Hse C H x dr dw dd R W D)(n1:H c1=none)(n2:upd H c1 (.dK []) c2=none)(s3:Same (upd (upd H c1 (.dK [])) c2 (.dK [])) H3)(W3:WkAt CW H3 y whose p pt t tv)(lR:R.length≤1000)(lW:W.length≤1000)(lD:D.length≤1000000)
  (k:∀H' tp q1 q2,H tp=none→H q1=none→H q2=none→Hse C H' x dr dw dd R (km W (.inr n) (.ref y)) (D++[.ref tp])→H' tp=some (.tup [.ref q1,.ref q2])→H' q1=some (.dK [])→H' q2=some (.dK [(.inr n,(wp W (.inr n)).getD .non)])→q1≠q2→WkAt CW H' y whose p pt t tv→Kb [dr,dw,dd] H H'→Q .non H') :
  Z5 C [.ref x,.ref c1,.ref c2] (upd H3 c2 (.dK [(.inr n,.ref y)])) Q E:=by
 have c12:c1≠c2:=λz=>by rw [←z,qc] at n2;cases n2
 have n20:H c2=none:=by rw [←n2,wf (aV c12)]
 have s03:Same H H3:=λb o e=>s3 _ _ (by rw [wf (qh e n20),wf (qh e n1)];exact e)
 have h32:H3 c2=some (.dK []):=s3 _ _ qc
 have h31:H3 c1=some (.dK []):=s3 _ _ (by rw [wf c12,qc])
 have keep:∀b o,(∀kv,o≠HO.dK kv)→H3 b=some o→upd H3 c2 (.dK [(.inr n,.ref y)]) b=some o:=λb o no e=>by
  rw [wf (λz=>by rw [z,h32] at e;cases e;exact no _ rfl)]
  exact e
 have W4:WkAt CW (upd H3 c2 (.dK [(.inr n,.ref y)])) y whose p pt t tv:=by
  obtain ⟨dx,e⟩:=W3.ob
  exact ⟨⟨dx,keep _ _ (λkv z=>by cases z) e⟩,keep _ _ (λkv z=>by cases z) W3.pt,keep _ _ (λkv z=>by cases z) W3.tm⟩
 have s4:Same H (upd H3 c2 (.dK [(.inr n,.ref y)])):=λb o e=>by rw [wf (qh e n20)];exact s03 _ _ e
 have e1:upd H3 c2 (.dK [(.inr n,.ref y)]) c1=some (.dK []):=by rw [wf c12];exact h31
 have e2:upd H3 c2 (.dK [(.inr n,.ref y)]) c2=some (.dK [(.inr n,.ref y)]):=qc
 generalize upd H3 c2 (.dK [(.inr n,.ref y)])=H4 at s4 e1 e2 W4
 have hh4:=hh.same s4
 refine ⟨x,dr,dw,dd,c1,c2,R,W,[],[(.inr n,.ref y)],D,rfl,hh4,.inl e1,.inl e2,c12,(qh hh.r n1).symm,(qh hh.w n1).symm,(qh hh.r n20).symm,(qh hh.w n20).symm,aS,aY.mpr ⟨af,aS⟩,lR,lW,aD _,by show 1≤1000;decide,lD,(λi c ec hc=>nomatch ec),λi c ec hc=>?_,λH' tp q1 q2 a1 a2 a3 a4 a5 a6 a7 a8 _ a9=>?_⟩
 ·cases i with
  |zero=>cases ec;cases hc
  |succ i=>cases ec
 ·have no:∀b,H4 b=none→H b=none:=λb e=>xy s4 e
  have wk:WkAt CW H' y whose p pt t tv:=W4.kb a9 λb hb=>by
   simp only [ae,af,aG] at hb
   rcases hb with rfl|rfl|rfl|rfl|rfl
   ·exact .inl ⟨_,.inl hh4.r⟩
   ·exact .inl ⟨_,.inl hh4.w⟩
   ·exact .inr ⟨_,hh4.d⟩
   ·exact .inl ⟨_,.inl e1⟩
   ·exact .inl ⟨_,.inl e2⟩
  refine k H' tp q1 q2 (no _ a1) (no _ a2) (no _ a3) a4 a5 a6 a7 a8 wk λb o nb e=>a9 b o (λz=>?_) (s4 _ _ e)
  simp only [ae,af,aG] at z nb
  rcases z with z|z|z|z|z
  ·exact nb (.inl z)
  ·exact nb (.inr (.inl z))
  ·exact nb (.inr (.inr z))
  ·rw [z,n1] at e;cases e
  ·rw [z,n20] at e;cases e
def WDeed (C CW:Aj)(H H':Hp)(x dr dw dd:Aj)(R W:List (Key×V))(D:List V)(n whose:Str)(p:Aj)(pt:Int×Int)(t:Aj)(tv:List (List Key×V)):Prop:=∃y tp q1 q2,H tp=none∧H q1=none∧H q2=none∧Hse C H' x dr dw dd R (km W (.inr n) (.ref y)) (D++[.ref tp])∧H' tp=some (.tup [.ref q1,.ref q2])∧H' q1=some (.dK [])∧H' q2=some (.dK [(.inr n,(wp W (.inr n)).getD .non)])∧q1≠q2∧WkAt CW H' y whose p pt t tv∧Kb [dr,dw,dd] H H'
theorem WDeed.pre {H0:Hp}{x:Aj}{pt:Int×Int}{t:Aj}(h:WDeed C CW H H' x dr dw dd R W D n whose p pt t tv)(s:Same H0 H):WDeed C CW H0 H' x dr dw dd R W D n whose p pt t tv:=by
 obtain ⟨y,tp,q1,q2,a1,a2,a3,a4,a5,a6,a7,a8,a9,b1⟩:=h
 exact ⟨y,tp,q1,q2,xy s a1,xy s a2,xy s a3,a4,a5,a6,a7,a8,a9,λb o nb e=>b1 b o nb (s _ _ e)⟩
def qqs (C CW CN:Aj):Sp:=λvs H Q E=>∃(x dr dw dd:Aj) (R W:List (Key×V)) (D:List V) (n:Str),vs=[.ref x,.str n]∧Hse C H x dr dw dd R W D∧(wp W (.inr n)=none→E (.ref CN) none H) ∧
 (∀v,wp W (.inr n)=some v→∃y whose p pt t tv,v=.ref y∧WkAt CW H y whose p pt t tv∧∀q,H q=none→Q (.ref q) (upd H q (.tup [.str whose,.ref p])))
include T in
theorem wjv (F:Fun K "where" "House.where" zb9 f fd)(za5:MCal P w K mg base qq "walker_called" 1 (jq qq qj false)) :
  FK P w K mg base 2 f fd ["self","name"] (qqs qq qy qj):=by
 have sc:=qzv
 refine F.okX sc (λvs H Q E h=>by obtain ⟨_,_,_,_,_,_,_,_,rfl,_⟩:=h;rfl) λ_ _ _ _ H vs Q E hr h=>?_
 obtain ⟨x,dr,dw,dd,R,W,D,n,rfl,hh,kx,k⟩:=h
 obtain ⟨dx,hx⟩:=hh.ob
 refine ⟨_,(qu (xj (i:=2) (x8 (pv 0) T.clH za5 (hr.mono ⋯) qf (wz (pv 1) qz)))
   (qm (wn (zx (xm (zh (pv 2) rfl) (xm (zh (pv 2) rfl) qz)))))),?_⟩
 refine ⟨_,rfl,x,dx,_,rfl,hx,x9,_,rfl,x,dr,dw,dd,R,W,D,n,rfl,hh,λv e=>?_,kx⟩
 obtain ⟨y,whose,p,pt,t,tv,rfl,hW,q⟩:=k v e
 obtain ⟨dy,hy⟩:=hW.ob
 exact gI rfl ⟨y,qy,dy,_,_,rfl,hy,T.clW,T.naWw,Q5,gI rfl ⟨y,qy,dy,_,_,rfl,hy,T.clW,T.naWp,uc,sz2,q⟩⟩
def qqg (K:Aa)(C CR CW CN CT CNR CB CO:Aj):Sp:=λvs H Q E=>∃(x dr dw dd a:Aj) (R W:List (Key×V)) (D:List V) (n whose:Str) (t b:Int),vs=[.ref x,.str n,.str whose,.ref a]∧Hse C H x dr dw dd R W D∧R.length≤1000∧W.length≤1000∧D.length≤1000000∧n.length≤1000∧H a=some (.tup [.int t,.int b]) ∧
 (vb n=false→∀H',Same H H'→E (.ref CN) none H')∧(vb n=true→(wp W (.inr n)).isSome=true→∀H',Same H H'→E (.ref CT) none H')∧(vb n=true→wp W (.inr n)=none→(wp R (.inr whose)=none→∀H',Same H H'→E (.ref CNR) none H') ∧
  ∀v,wp R (.inr whose)=some v→∃r hs,v=.ref r∧RoadAt CR H r hs∧xt hs∧(b<1→∀H',Same H H'→E (.ref CB) none H')∧(1≤b→Sm 8000 b∧(40<(xg t b).2→∀H',Same H H'→E (.ref CB) none H')∧((xg t b).2≤40 →
   (¬ vt hs (xg t b).1 (xg t b).2→∀H',Same H H'→E (.ref CO) none H')∧(vt hs (xg t b).1 (xg t b).2→∀H' p t',WDeed C CW H H' x dr dw dd R W D n whose p (xg t b) t' [([.inl (xg t b).1,.inl (xg t b).2],.int 1)]→Q .non H'))))
theorem low1 {t b:Int}(h:1≤b):1≤(xg t b).2:=by
 have e:=qxm (t:=t) h
 have g:=uz (t:=t) h
 show 1≤b/gOf t b
 by_cases z:1≤b/gOf t b
 ·exact z
 ·have:gOf t b*(b/gOf t b)≤0:=Int.mul_nonpos_of_nonneg_of_nonpos ⋯ ⋯
  lia
include T in
theorem wum (F:Fun K "place" "House.place" zb1 f fd)(zdg:Cal P w K mg base "check_new_name" 2 (W0 qr wj))(zag:MCal P w K mg base qq "road_called" 1 (jq qq q9 true))(za3:Cal P w K mg base "lowest" 2 (Wm qx))(zdf:MCal P w K mg base wq "on_road" 3 (Yz K wq qx q8))(zik:Cal P w K mg base "set_down" 3 (Jv qy))(zab:MCal P w K mg base qq "do" 2 (Z5 qq)) :
  FK P w K mg base 5 f fd ["self","name","whose","point"] (qqg K qq wq qy qr wj q9 qx q8):=by
 have sc:=qwd
 refine F.okX sc (λvs H Q E h=>by obtain ⟨_,_,_,_,_,_,_,_,_,_,_,_,rfl,_⟩:=h;rfl) λ_ _ _ _ H vs Q E hr h=>?_
 obtain ⟨x,dr,dw,dd,a,R,W,D,n,whose,t,b,rfl,hh,lR,lW,lD,ln,ha,kn,kt,k⟩:=h
 obtain ⟨dx,hx⟩:=hh.ob
 obtain ⟨tg,zas⟩:=T.zas
 refine ⟨_,(qu (zy (wCA zdg (wz (pv 1) (xm (zh (pv 0) rfl) qz))))
   (qu (xj (i:=4) (x8 (pv 0) T.clH zag (hr.mono ⋯) qf (wz (pv 2) qz)))
   (qu (xj (i:=5) (wCA za3 (zq (xq xv (pv 3) qk (λ_ _=>rfl)) (zq (xq xv (pv 3) qk (λ_ _=>rfl)) qz))))
   (qu (xh (wm y4 (xq xv (pv 5) qk (λ_ _=>rfl)) (u6 (v:=V.int 40) rfl zas ⟨_,rfl⟩) (w6 _)) (qm (kh rfl T.zaj zr rfl T.zdb (xb x6 qz))) wt)
   (qm (zy (x8 (pv 0) T.clH zab (hr.mono ⋯) qf (xm jw (xm (ut (yt (pv 1) (wCA zik (wz (pv 2) (vd (x8 (pv 4) T.cl zdf (hr.mono ⋯) qf (wz (pv 5) qz)) qz))) u8) rfl rfl (λz=>nomatch z) ⋯) qz))))))))),?_⟩
 dsimp only [ug]
 refine ⟨_,rfl,_,rfl,x,qq,dx,_,_,rfl,hx,T.clH,T.naHw,vq,n,dw,W,rfl,ln,hh.w,λa1 a2 H1 s1=>?_,kn,kt⟩
 obtain ⟨kr,k⟩:=k a1 a2
 have hh1:=hh.same s1
 refine ⟨_,rfl,x,dx,_,rfl,s1 _ _ hx,x9,_,rfl,x,dr,dw,dd,R,W,D,whose,rfl,hh1,λv e=>?_,λe=>kr e H1 s1⟩
 obtain ⟨r,hs,rfl,hR,okl,kb,k⟩:=k v e
 refine ⟨_,rfl,_,_,_,_,rfl,rfl,SqT.of (s1 _ _ ha),rfl,_,rfl,_,_,_,_,rfl,rfl,SqT.of (s1 _ _ ha),rfl,t,b,rfl,λb1=>?_,λb1=>kb b1 H1 s1⟩
 obtain ⟨sm,kg,k⟩:=k b1
 refine ⟨sm.mono ⋯,λp np=>?_⟩
 have s2:Same H (upd H1 p (.tup (ptV (xg t b)))):=s1.trans (Same.upd np)
 have f2:upd H1 p (.tup (ptV (xg t b))) p=some (.tup [.int (xg t b).1,.int (xg t b).2]):=qc
 generalize upd H1 p (.tup (ptV (xg t b)))=H2 at s2 f2
 have l1:=low1 (t:=t) b1
 refine gI rfl (gX rfl rfl (SqT.of f2) rfl (xu rfl rfl (gI rfl (zp (λz=>⟨sz1,kg ⋯ H2 s2⟩) (λz=>?_)))))
 obtain ⟨ko,k⟩:=k ⋯
 refine gI rfl ⟨x,dx,gI rfl ⟨s2 _ _ hx,x9,λc1 n1=>λc2 n2=>(gI rfl (gI rfl (gI rfl ?_)))⟩⟩
 obtain ⟨dy,l,h1,h2⟩:=id hR
 have sc2:Same H2 (upd (upd H2 c1 (.dK [])) c2 (.dK [])):=λb o e=>by
  have e4:upd H2 c1 (.dK []) b=some o:=by rw [wf (qh e n1)];exact e
  rw [wf (qh e4 n2)]
  exact e4
 have s3:=s2.trans sc2
 refine ⟨r,dy,_,rfl,s3 _ _ h1,vf (by decide +kernel),_,rfl,r,p,hs,(xg t b).1,(xg t b).2,rfl,hR.same s3,okl,SqT.of (sc2 _ _ f2),λ_=>⟨(Sm.small (n:=65) ⋯ ⋯ ⋯).mono ⋯,λon q H3 s4 fq=>?_,λon H3 s4=>ko on H3 (s3.trans s4)⟩,λz=>absurd z ⋯⟩
 have e3:xg (xg t b).1 (xg t b).2=xg t b:=qju l1 (wuh b1)
 rw [e3] at fq
 refine ⟨whose,q,xg t b,rfl,fq,λH4 y t' ny s5 w5=>?_⟩
 refine ⟨s5 _ _ (s4 _ _ qc),[(.inr n,.ref y)],rfl,(show 1≤15 by decide),?_⟩
 exact qvh (E:=E) (hh.same s2) n1 n2 (s4.trans s5) w5 lR lW lD λH' tp q1 q2 b1 b2 b3 b4 b5 b6 b7 b8 b9 kb=>k on H' q t' (WDeed.pre ⟨y,tp,q1,q2,b1,b2,b3,b4,b5,b6,b7,b8,b9,kb⟩ s2)
def spGo (C CR CW CN CC:Aj):Sp:=λvs H Q E=>∃(x dr dw dd:Aj) (R W:List (Key×V)) (D:List V) (n:Str) (m:Int),vs=[.ref x,.str n,.int m]∧Hse C H x dr dw dd R W D∧R.length≤1000∧W.length≤1000∧D.length≤1000000∧(wp W (.inr n)=none→E (.ref CN) none H) ∧
 (∀v,wp W (.inr n)=some v→∃y whose p pt t tv r hs,v=.ref y∧WkAt CW H y whose p pt t tv∧TmOk tv∧wp R (.inr whose)=some (.ref r)∧RoadAt CR H r hs∧HPt hs pt∧(¬ Within m 0 (some 1000000000000000000000000000000000000000000000000000000000000)→E (.ref CC) none H) ∧
  (Within m 0 (some 1000000000000000000000000000000000000000000000000000000000000)→∀H' p' t' tv',WDeed C CW H H' x dr dw dd R W D n whose p' (itP hs pt m.toNat) t' tv'→TmOk tv'→qug hs pt m.toNat tv tv'→Q (.ref p') H'))
include T in
theorem zil (F:Fun K "go" "House.go" zb3 f fd)(za5:MCal P w K mg base qq "walker_called" 1 (jq qq qj false))(zdi:CalD P w K mg base "check_count" 1 (qq4 qb))(zdj:MCal P w K mg base qy "gone" 6 (qjk qy wq))(zab:MCal P w K mg base qq "do" 2 (Z5 qq)) :
  FK P w K mg base 8 f fd ["self","name","many"] (spGo qq wq qy qj qb):=by
 have sc:=quu
 refine F.okX sc (λvs H Q E h=>by obtain ⟨_,_,_,_,_,_,_,_,_,rfl,_⟩:=h;rfl) λ_ _ _ _ H vs Q E hr h=>?_
 obtain ⟨x,dr,dw,dd,R,W,D,n,m,rfl,hh,lR,lW,lD,kx,k⟩:=h
 obtain ⟨dx,hx⟩:=hh.ob
 obtain ⟨tg,zak⟩:=T.zak
 refine ⟨_,(qu (xj (i:=3) (x8 (pv 0) T.clH za5 (hr.mono ⋯) qf (wz (pv 1) qz)))
   (qu (zy (qxw zdi.all (hr.mono ⋯) rfl qf (wz (pv 2) (xb qk (wz (u6 (v:=V.int 1000000000000000000000000000000000000000000000000000000000000) rfl zak ⟨_,rfl⟩) qz)))))
   (qu (xj (i:=4) (x8 (pv 3) T.clW zdj (hr.mono ⋯) qf (zq (jf (vj hr) (zh (pv 0) rfl) (zh (pv 3) rfl) (λ_ _=>rfl)) (wz (pv 2) qz))))
   (qu (zy (x8 (pv 0) T.clH zab (hr.mono ⋯) qf (xm jw (xm (ut (yt (pv 1) (pv 4) u8) rfl rfl (λz=>nomatch z) ⋯) qz))))
   (qm (wn (zh (pv 4) rfl))))))),?_⟩
 refine ⟨_,rfl,x,dx,_,rfl,hx,x9,_,rfl,x,dr,dw,dd,R,W,D,n,rfl,hh,λv e=>?_,kx⟩
 obtain ⟨y,whose,p,pt,t,tv,r,hs,rfl,hW,hT,er,hR,hP,kc,k⟩:=k v e
 obtain ⟨dy,hy⟩:=hW.ob
 refine ⟨_,rfl,m,0,.int (1000000000000000000000000000000000000000000000000000000000000),some (1000000000000000000000000000000000000000000000000000000000000),rfl,.inr ⟨1000000000000000000000000000000000000000000000000000000000000,rfl,rfl⟩,λwi=>?_,kc⟩
 have dg:DGet H dr (.str whose) (wp R (.inr whose)):=DGet.k (k:=.inr whose) hh.r
 rw [er] at dg
 refine gI rfl ⟨y,dy,gI rfl ⟨hy,quc (by decide +kernel) (by decide +kernel) (by decide +kernel),gI rfl ⟨x,qq,dx,_,_,rfl,hx,T.clH,T.naHr,jr,gI rfl ⟨y,qy,dy,_,_,rfl,hy,T.clW,T.naWw,Q5,dr,gI rfl ⟨dg,gI rfl ⟨y,r,p,t,whose,hs,pt,tv,m,rfl,hW,hT,hR,hP,wi.1,λH1 y' p' t' tv' ny s1 w1 hT' hit=>?_⟩⟩⟩⟩⟩⟩
 refine gI rfl ⟨x,dx,gI rfl ⟨s1 _ _ hx,x9,λc1 n1=>λc2 n2=>(gI rfl (gI rfl ⟨qc,[(.inr n,.ref y')],rfl,(show 1≤15 by decide),?_⟩))⟩⟩
 have sc2:Same H1 (upd (upd H1 c1 (.dK [])) c2 (.dK [])):=λb o e=>by
  have e4:upd H1 c1 (.dK []) b=some o:=by rw [wf (qh e n1)];exact e
  rw [wf (qh e4 n2)]
  exact e4
 have w3:=w1.same sc2
 obtain ⟨H3,hH3⟩:∃H3,H3=upd (upd H1 c1 (.dK [])) c2 (.dK []):=⟨_,rfl⟩
 have s3:Same (upd (upd H1 c1 (.dK [])) c2 (.dK [])) H3:=by rw [hH3];exact Same.refl _
 rw [←hH3] at w3 ⊢
 have e0:yc [] [((Sum.inr n:Key),V.ref y')]=[((Sum.inr n:Key),V.ref y')]:=rfl
 rw [e0]
 dsimp only [Qc]
 refine qvh (n:=n) (E:=E) (hh.same s1) n1 n2 s3 w3 lR lW lD λH' tp q1 q2 b1 b2 b3 b4 b5 b6 b7 b8 b9 kb=>?_
 obtain ⟨dy',hy'⟩:=b9.ob
 exact gI rfl ⟨y',qy,dy',_,_,rfl,hy',T.clW,T.naWp,uc,k wi H' p' t' tv' (WDeed.pre ⟨y',tp,q1,q2,b1,b2,b3,b4,b5,b6,b7,b8,b9,kb⟩ s1) hT' hit⟩
theorem wqq (ms:List α)(d:α)(f:α→V)(p:α→Bool):Zq (λi=>p (ms.getD i d)) (ms.map f) (ms.map f).length=(ms.filter p).map f:=by
 unfold Zq
 rw [aa]
 have e:ms=(List.range ms.length).map λi=>ms.getD i d:=by
  refine List.ext_getElem (by rw [aa,aM]) λi h1 h2=>?_
  rw [eB,List.getElem_range,ar,aj h1]
  rfl
 have e2:(ms.filter p).map f=(((List.range ms.length).map λi=>ms.getD i d).filter p).map f:=by rw [←e]
 rw [e2,List.filter_map,bK]
 refine cF λi hi=>?_
 have hi:=aW.mp (bz.mp hi).1
 show (ms.map f).getD i .non=f (ms.getD i d)
 rw [ar,ar,aE,aj hi]
 rfl
def WksAt (CW:Aj)(H:Hp)(W:List (Key×V))(ss:List Str)(wh:Str→Str)(ps:Str→Int×Int):Prop:=W.map (·.1)=ss.map Sum.inr∧W.length<64∧∀s∈ss,∃y p t tv,wp W (.inr s)=some (.ref y)∧WkAt CW H y (wh s) p (ps s) t tv
variable {ss:List Str}{ps:Str→Int×Int}
theorem WksAt.same {wh:Str→Str}(h:WksAt CW H W ss wh ps)(s:Same H H'):WksAt CW H' W ss wh ps:=⟨h.1,h.2.1,λn hn=>by
 obtain ⟨y,p,t,tv,e,a⟩:=h.2.2 n hn
 exact ⟨y,p,t,tv,e,a.same s⟩⟩
def spOn (C CW:Aj):Sp:=λvs H Q _=>∃(x dr dw dd:Aj) (R W:List (Key×V)) (D:List V) (n:Str) (ss:List Str) (wh:Str→Str) (ps:Str→Int×Int),vs=[.ref x,.str n]∧Hse C H x dr dw dd R W D∧WksAt CW H W ss wh ps ∧
 ∀(l:Aj) (H':Hp) (ms:List Str),H l=none→Same H H'→ms.Perm ss→ms.Pairwise (λx y=>¬ y.cps.toList<x.cps.toList)→H' l=some (.lst ((ms.filter λs=>decide (V.str (wh s)=V.str n)).map V.str))→Q (.ref l) H'
include T in
theorem qvu (F:Fun K "walkers_on" "House.walkers_on" zbu f fd):FK P w K mg base 1 f fd ["self","whose"] (spOn qq qy):=by
 have sc:=W7
 refine F.okX sc (λvs H Q E h=>by obtain ⟨_,_,_,_,_,_,_,_,_,_,_,rfl,_⟩:=h;rfl) λ_ _ _ s H vs Q E hr h=>?_
 obtain ⟨x,dr,dw,dd,R,W,D,n,ss,wh,ps,rfl,hh,hw,k⟩:=h
 obtain ⟨dx,hx⟩:=hh.ob
 refine ⟨_,(qm (wn (wu8 (M:=[0,1]) rfl rfl (by walk_at "cap") (by walk_at "has") (by walk_at "cix") rfl (by decide +kernel) rfl (show List.Nodup (["name","self","whose"]:List Str) by decide +kernel) (ur (xz (u9 rfl) rfl T.sorted_ bX (xm (zh (pv 0) rfl) qz))) (λ_ _ _ _ _=>(wm zf (W1 (K:=K) rfl (jf (vj hr) (W1 (K:=K) rfl (pv 1) rfl) (pv 0) (λ_ _=>rfl)) rfl) (pv 2) (w6 _))) (λ_ _ _ _ _=>(pv 0))))),?_⟩
 refine gI rfl ⟨x,qq,dx,_,_,rfl,hx,T.clH,T.naHw,vq,dw,W,ss,rfl,.inl hh.w,hw.1,hw.2.1,λl ms nl pm srt=>?_⟩
 have s1:Same H (upd H l (.lst (ms.map V.str))):=Same.upd nl
 have f1:upd H l (.lst (ms.map V.str)) l=some (.lst (ms.map V.str)):=qc
 have lm:ms.length<64:=by
  have a:=bC List.length hw.1
  rw [aa,aa] at a
  have b:=pm.length_eq
  have c:=hw.2.1
  lia
 generalize upd H l (.lst (ms.map V.str))=H1 at s1 f1
 refine ⟨l,rfl,⟨_,SqL.of f1⟩,qzz (λi=>decide (V.str (wh (ms.getD i ""))=V.str n)) (SqL.of f1) (by rw [aa];lia) (λi v H' RR ev s' hR=>?_) (λi v H' RR ev ci s' hR=>(gI rfl (hR H' (Same.refl _)))) λp H' np s' fp=>?_⟩
 ·rw [aE] at ev
  cases em:ms[i]? with
  |none=>rw [em] at ev;cases ev
  |some m =>
   rw [em] at ev
   cases ev
   have eg:ms.getD i "" = m:=by rw [ar,em];rfl
   obtain ⟨y,p,t,tv,e,a⟩:=hw.2.2 m (pm.mem_iff.mp (aL em))
   obtain ⟨dy,hy⟩:=a.ob
   have sa:=s1.trans s'
   have dg:DGet H' dw (.str m) (wp W (.inr m)):=DGet.k (k:=.inr m) (sa _ _ hh.w)
   rw [e] at dg
   rw [eg] at hR
   exact gI rfl ⟨x,qq,dx,_,_,rfl,sa _ _ hx,T.clH,T.naHw,vq,gI rfl ⟨dw,gI rfl ⟨dg,y,qy,dy,_,_,rfl,sa _ _ hy,T.clW,T.naWw,Q5,gI rfl ⟨rfl,_,rfl,hR H' (Same.refl _)⟩⟩⟩⟩
 ·rw [wqq ms "" V.str λs=>decide (V.str (wh s)=V.str n)] at fp
  exact k p H' ms (xy s1 np) (s1.trans s') pm srt fp
theorem xqd (hs:List Int):qj5 (hs.map V.int) none (some (-1))=hs.dropLast.map V.int:=by
 unfold qj5
 rw [aa]
 have e:HT.sIx hs.length hs.length (some (-1))=hs.length-1:=by
  show (if (-1:Int)<0 then ((-1:Int)+(hs.length:Int)).toNat else min (-1:Int).toNat hs.length)=hs.length-1
  rw [ak ⋯]
  lia
 rw [e,HT.sIx_none,List.drop_zero,Nat.sub_zero,←ga,←List.dropLast_eq_take]
def Yn (C CR CW CN CL CS:Aj):Sp:=λvs H Q E=>∃(x dr dw dd:Aj) (R W:List (Key×V)) (D:List V) (n:Str) (ss:List Str) (wh:Str→Str) (ps:Str→Int×Int),vs=[.ref x,.str n]∧Hse C H x dr dw dd R W D∧Zt D∧R.length≤1000∧D.length≤1000000∧WksAt CW H W ss wh ps∧(∀s∈ss,0≤(ps s).1∧(ps s).1≤1000000∧1≤(ps s).2∧(ps s).2≤1000000)∧(wp R (.inr n)=none→E (.ref CN) none H) ∧
 (∀v,wp R (.inr n)=some v→∃r hs,v=.ref r∧RoadAt CR H r hs∧(¬ xt hs.dropLast→∀H',Same H H'→E (.ref CL) none H')∧(xt hs.dropLast →
  ((∃s∈ss,wh s=n∧((hs.dropLast.length:Int)-1)*(ps s).2<(ps s).1)→∀H',Same H H'→E (.ref CS) none H')∧((∀s∈ss,wh s=n→¬ ((hs.dropLast.length:Int)-1)*(ps s).2<(ps s).1)→∀H',RDeed C CR H H' x dr dw dd R W D n hs.dropLast→Q .non H')))
include T in
theorem wkb (F:Fun K "narrow" "House.narrow" zbz f fd)(zag:MCal P w K mg base qq "road_called" 1 (jq qq q9 true))(zaw:MCal P w K mg base wq "corners" 1 (uk wq))(zav:CCal P w K mg base "Road" wq 2 (Zj K qg wq))(zau:MCal P w K mg base wq "width" 1 (W5 wq))(za6:MCal P w K mg base qq "walkers_on" 1 (spOn qq qy))(zim:Cal P w K mg base "less" 2 (wxc K qx))(zab:MCal P w K mg base qq "do" 2 (Z5 qq)) :
  FK P w K mg base 4 f fd ["self","name"] (Yn qq wq qy q9 qg wy):=by
 have sc:=qqq
 refine F.okX sc (λvs H Q E h=>by obtain ⟨_,_,_,_,_,_,_,_,_,_,_,rfl,_⟩:=h;rfl) λ_ _ _ s H vs Q E hr h=>?_
 obtain ⟨x,dr,dw,dd,R,W,D,n,ss,wh,ps,rfl,hh,rf,lR,lD,hw,hps,kx,k⟩:=h
 obtain ⟨dx,hx⟩:=hh.ob
 refine ⟨_,(qu (xj (i:=2) (Qm zav (hr.mono ⋯) rfl qf (zq (qzq xwt (kj (x8 (pv 0) T.clH zag (hr.mono ⋯) qf (wz (pv 1) qz)) T.cl zaw (hr.mono ⋯) qf) qkh (qjw (qu5 qx4 qk))) qz)))
   (qu (xj (i:=3) (zx (vd (kj (pv 2) T.cl zau (hr.mono ⋯) qf) (xb qk qz))))
   (qu (xh (vm (xz (qzs (K:=K) rfl rfl) rfl T.any_ PyProof.Rows.boot_any (xm (qk6 (M:=[0,3]) rfl rfl (by walk_at "cap") (by walk_at "has") (by walk_at "cix") rfl (by decide +kernel) rfl (show List.Nodup (["walker","self","end"]:List Str) by decide +kernel) (ur (x8 (pv 0) T.clH za6 (hr.mono ⋯) qf (wz (pv 1) qz))) (λ_ _ _ _ _=>(wc zim (hr.mono ⋯) rfl qjd (wz (pv 2) (xm (W1 (K:=K) rfl (jf (vj hr) (W1 (K:=K) rfl (pv 1) rfl) (pv 0) (λ_ _=>rfl)) rfl) qz))))) qz))) (qm (kh rfl T.zai zr rfl T.zdc (xb x6 qz))) wt)
   (qm (zy (x8 (pv 0) T.clH zab (hr.mono ⋯) qf (xm (ut (yt (pv 1) (pv 2) u8) rfl rfl (λz=>nomatch z) ⋯) (xm jw qz)))))))),?_⟩
 dsimp only [ug]
 refine ⟨_,rfl,x,dx,_,rfl,hx,x9,_,rfl,x,dr,dw,dd,R,W,D,n,rfl,hh,λv e=>?_,kx⟩
 obtain ⟨r0,hs,rfl,hR,kl,k⟩:=k v e
 obtain ⟨dy,l,h1,h2⟩:=id hR
 refine ⟨r0,dy,gI rfl ⟨h1,vf (by decide +kernel),r0,hs,rfl,hR,λp np=>?_⟩⟩
 have s1:Same H (upd H p (.lst (hs.map V.int))):=Same.upd np
 have f1:upd H p (.lst (hs.map V.int)) p=some (.lst (hs.map V.int)):=qc
 generalize upd H p (.lst (hs.map V.int))=H1 at s1 f1
 refine gI rfl (gI rfl ⟨p,gI rfl ⟨SqL.of f1,λp2 n2=>?_⟩⟩)
 have s2:Same H (upd H1 p2 (.lst (qj5 (hs.map V.int) none (some (-1))))):=s1.trans (Same.upd n2)
 have f2:upd H1 p2 (.lst (qj5 (hs.map V.int) none (some (-1)))) p2=some (.lst (hs.dropLast.map V.int)):=by rw [qc,xqd]
 generalize upd H1 p2 (.lst (qj5 (hs.map V.int) none (some (-1))))=H2 at s2 f2
 refine λr d0 nr nd0 ne0=>qqf (H:=H2) (hs:=hs.dropLast) f2 nr nd0 (λokl H3 s3 R3=>?_) λz H3 s3=>kl z H3 (s2.trans s3)
 obtain ⟨ks,kg⟩:=k okl
 have s23:=s2.trans s3
 obtain ⟨dr3,l3,r31,r32⟩:=id R3
 refine gI rfl ⟨r,dr3,gI rfl ⟨r31,vf (by decide +kernel),r,hs.dropLast,rfl,R3,sz2,λe1 ne1=>?_⟩⟩
 have s4:Same H3 (upd H3 e1 (.tup [.int ((hs.dropLast.length:Int)-1),.int 1])):=Same.upd ne1
 have f4:upd H3 e1 (.tup [.int ((hs.dropLast.length:Int)-1),.int 1]) e1=some (.tup [.int ((hs.dropLast.length:Int)-1),.int 1]):=qc
 generalize upd H3 e1 (.tup [.int ((hs.dropLast.length:Int)-1),.int 1])=H4 at s4 f4
 have s24:=s23.trans s4
 refine gI rfl ⟨x,dx,gI rfl ⟨s24 _ _ hx,x9,gI rfl ⟨x,dr,dw,dd,R,W,D,n,ss,wh,ps,rfl,hh.same s24,hw.same s24,λq H5 ms nq s5 pm _ fq=>?_⟩⟩⟩
 have s25:=s24.trans s5
 have ol:=okl.2.1
 have o2:=okl.1
 have lm:ms.length<64:=by
  have a:=bC List.length hw.1
  rw [aa,aa] at a
  have b:=pm.length_eq
  have c:=hw.2.1
  lia
 have lf:=bG (λs=>decide (V.str (wh s)=V.str n)) ms
 let g:Str→Bool:=λs=>decide (((hs.dropLast.length:Int)-1)*(ps s).2<(ps s).1*1)
 let gv:V→V:=λv=>match v with|.str s=>.bl (g s)|_=>.non
 refine ⟨q,rfl,⟨_,SqL.of fq⟩,qkw gv (SqL.of fq) (by rw [aa];lia) (λv H' RR hv s' hR=>?_) λp6 n6=>?_⟩
 ·obtain ⟨m,hm,rfl⟩:=ax.mp hv
  have mm:m∈ss:=pm.mem_iff.mp (bz.mp hm).1
  obtain ⟨y,p,t,tv,e,a⟩:=hw.2.2 m mm
  obtain ⟨b0,b1,b2,b3⟩:=hps m mm
  obtain ⟨dy,hy⟩:=a.ob
  have sa:=s25.trans s'
  have dg:DGet H' dw (.str m) (wp W (.inr m)):=DGet.k (k:=.inr m) (sa _ _ hh.w)
  rw [e] at dg
  have sm:∀z:Int,-(2 ^ 64)≤z→z≤2 ^ 64→Sm 65 z:=λz z1 z2=>Sm.small z1 z2 ⋯
  exact ⟨_,rfl,_,rfl,x,qq,dx,_,_,rfl,sa _ _ hx,T.clH,T.naHw,vq,_,rfl,dw,_,rfl,dg,y,qy,dy,_,_,rfl,sa _ _ hy,T.clW,T.naWp,uc,e1,p,_,_,_,_,rfl,SqT.of (s' _ _ (s5 _ _ f4)),SqT.of (sa _ _ a.pt),(sm _ ⋯ ⋯).ok (sm _ ⋯ ⋯) ⋯,(sm _ ⋯ ⋯).ok (sm 1 ⋯ ⋯) ⋯,λ_ _=>hR,λz=>absurd z ⋯⟩
 ·have s6:Same H5 (upd H5 p6 (.lst ((((ms.filter λs=>decide (V.str (wh s)=V.str n)).map V.str).map gv)))):=Same.upd n6
  have e6:(((ms.filter λs=>decide (V.str (wh s)=V.str n)).map V.str).map gv)=((ms.filter λs=>decide (V.str (wh s)=V.str n)).map g).map V.bl:=by
   rw [bK,bK]
   rfl
  have f6:upd H5 p6 (.lst ((((ms.filter λs=>decide (V.str (wh s)=V.str n)).map V.str).map gv))) p6=some (.lst (((ms.filter λs=>decide (V.str (wh s)=V.str n)).map g).map V.bl)):=by rw [qc,e6]
  generalize upd H5 p6 (.lst ((((ms.filter λs=>decide (V.str (wh s)=V.str n)).map V.str).map gv)))=H6 at s6 f6
  have s26:=s25.trans s6
  refine ⟨p6,(ms.filter λs=>decide (V.str (wh s)=V.str n)).map g,rfl,SqL.of f6,_,rfl,?_⟩
  cases ea:((ms.filter λs=>decide (V.str (wh s)=V.str n)).map g).any id with
  |true =>
   refine jj ⟨sz1,ks ?_ H6 s26⟩
   obtain ⟨b,hb,hb1⟩:=dz.mp ea
   obtain ⟨s,hs',rfl⟩:=ax.mp hb
   obtain ⟨hs1,hs2⟩:=bz.mp hs'
   have hs2:=bT hs2
   have:=bT (show g s=true from hb1)
   exact ⟨s,pm.mem_iff.mp hs1,by cases hs2;rfl,by rw [Int.mul_one] at this;exact this⟩
  |false =>
   refine vg ?_
   refine gI rfl ⟨x,dx,gI rfl ⟨s26 _ _ hx,x9,λc1 n1=>(gI rfl (gI rfl ⟨qc,[(.inr n,.ref r)],rfl,(show 1≤15 by decide),?_⟩))⟩⟩
   have R6:RoadAt wq H6 r hs.dropLast:=R3.same (s4.trans (s5.trans s6))
   have R7:RoadAt wq (upd H6 c1 (.dK [])) r hs.dropLast:=R6.same (Same.upd n1)
   obtain ⟨H7,hH7⟩:∃H7,H7=upd H6 c1 (.dK []):=⟨_,rfl⟩
   have s7:Same (upd H6 c1 (.dK [])) H7:=by rw [hH7];exact Same.refl _
   rw [←hH7] at R7 ⊢
   have e0:yc [] [((Sum.inr n:Key),V.ref r)]=[((Sum.inr n:Key),V.ref r)]:=rfl
   rw [e0]
   have lW:W.length≤1000:=by have:=hw.2.1;lia
   refine qq9 (E:=E) (hh.same s26) n1 s7 R7 okl rf lR lW lD λH' tp q1 q2 b1 b2 b3 b4 b5 b6 b7 b8 b9 kb=>kg (λs hs1 hs2 z=>?_) H' (RDeed.pre ⟨r,tp,q1,q2,b1,b2,b3,b4,b5,b6,b7,b8,b9,kb⟩ s26)
   have:((ms.filter λs=>decide (V.str (wh s)=V.str n)).map g).any id=true:=dz.mpr ⟨g s,ax.mpr ⟨s,bz.mpr ⟨pm.mem_iff.mpr hs1,aX (by rw [hs2])⟩,rfl⟩,aX (by rw [Int.mul_one];exact z)⟩
   rw [ea] at this
   cases this
def qqt (C:Aj):Sp:=λvs H Q _=>∃(x dr dw dd:Aj) (R W:List (Key×V)) (D:List V) (rs ws:List Str),vs=[.ref x]∧Hse C H x dr dw dd R W D∧R.map (·.1)=rs.map Sum.inr∧R.length<64∧W.map (·.1)=ws.map Sum.inr∧W.length<64 ∧
 ∀(q l1 l2:Aj) (ms1 ms2:List Str) (H':Hp),Same H H'→ms1.Perm rs→ms1.Pairwise (λx y=>¬ y.cps.toList<x.cps.toList)→ms2.Perm ws→ms2.Pairwise (λx y=>¬ y.cps.toList<x.cps.toList)→H' l1=some (.lst (ms1.map V.str))→H' l2=some (.lst (ms2.map V.str))→H' q=some (.tup [.ref l1,.ref l2])→Q (.ref q) H'
include T in
theorem wyg (F:Fun K "names" "House.names" zb7 f fd):FK P w K mg base 1 f fd ["self"] (qqt qq):=by
 have sc:=qwp
 refine F.okX sc (λvs H Q E h=>by obtain ⟨_,_,_,_,_,_,_,_,_,rfl,_⟩:=h;rfl) λ_ _ _ _ H vs Q E hr h=>?_
 obtain ⟨x,dr,dw,dd,R,W,D,rs,ws,rfl,hh,eR,lR,eW,lW,k⟩:=h
 obtain ⟨dx,hx⟩:=hh.ob
 refine ⟨_,(qm (wn (zx (vd (xz (u9 rfl) rfl T.sorted_ bX (xm (zh (pv 0) rfl) qz)) (vd (xz (u9 rfl) rfl T.sorted_ bX (xm (zh (pv 0) rfl) qz)) qz))))),?_⟩
 refine gI rfl ⟨x,qq,dx,_,_,rfl,hx,T.clH,T.naHr,jr,dr,R,rs,rfl,.inl hh.r,eR,lR,λl1 ms1 n1 pm1 st1=>?_⟩
 have s1:Same H (upd H l1 (.lst (ms1.map V.str))):=Same.upd n1
 have f1:upd H l1 (.lst (ms1.map V.str)) l1=some (.lst (ms1.map V.str)):=qc
 generalize upd H l1 (.lst (ms1.map V.str))=H1 at s1 f1
 refine gI rfl ⟨x,qq,dx,_,_,rfl,s1 _ _ hx,T.clH,T.naHw,vq,dw,W,ws,rfl,.inl (s1 _ _ hh.w),eW,lW,λl2 ms2 n2 pm2 st2=>?_⟩
 have s2:Same H1 (upd H1 l2 (.lst (ms2.map V.str))):=Same.upd n2
 have f2:upd H1 l2 (.lst (ms2.map V.str)) l2=some (.lst (ms2.map V.str)):=qc
 generalize upd H1 l2 (.lst (ms2.map V.str))=H2 at s2 f2
 refine ⟨sz2,λq nq=>?_⟩
 have s3:Same H2 (upd H2 q (.tup [.ref l1,.ref l2])):=Same.upd nq
 exact k q l1 l2 ms1 ms2 _ (s1.trans (s2.trans s3)) pm1 st1 pm2 st2 (s3 _ _ (s2 _ _ f1)) (s3 _ _ f2) qc
def Zv (C:Aj)(H H':Hp)(x dr dw dd:Aj)(R W:List (Key×V))(D:List V)(cs1 cs2:List (Key×V)):Prop:=∃tp q1 q2,H tp=none∧H q1=none∧H q2=none∧Hse C H' x dr dw dd (exK R cs1) (exK W cs2) (D++[.ref tp])∧H' tp=some (.tup [.ref q1,.ref q2])∧H' q1=some (.dK (bfK R cs1))∧H' q2=some (.dK (bfK W cs2))∧q1≠q2∧Kb [dr,dw,dd] H H'
theorem wwu {H4:Hp}{x:Aj}{cs1 cs2:List (Key×V)}(hh:Hse C H x dr dw dd R W D)(s4:Same H H4)(n1:H c1=none)(n2:H c2=none)(e1:H4 c1=some (.dK cs1))(e2:H4 c2=some (.dK cs2))(c12:c1≠c2)(nd1:(cs1.map (·.1)).Nodup)(nd2:(cs2.map (·.1)).Nodup)(lR:R.length≤1000)(lW:W.length≤1000)(l1:cs1.length≤1000)(l2:cs2.length≤1000)(lD:D.length≤1000000)(ok1:wqm R cs1)(ok2:wqm W cs2)
  (k:∀H',Zv C H H' x dr dw dd R W D cs1 cs2→Kb [dr,dw,dd,c1,c2] H4 H'→Rd H' c2 (.dK cs2)→(∀H5,Kb [c2] H' H5→Zv C H H5 x dr dw dd R W D cs1 cs2)→Q .non H'):Z5 C [.ref x,.ref c1,.ref c2] H4 Q E:=by
 have hh4:=hh.same s4
 refine ⟨x,dr,dw,dd,c1,c2,R,W,cs1,cs2,D,rfl,hh4,.inl e1,.inl e2,c12,(qh hh.r n1).symm,(qh hh.w n1).symm,(qh hh.r n2).symm,(qh hh.w n2).symm,nd1,nd2,lR,lW,l1,l2,lD,ok1,ok2,λH' tp q1 q2 a1 a2 a3 a4 a5 a6 a7 a8 rd a9=>?_⟩
 have no:∀b,H4 b=none→H b=none:=λb e=>xy s4 e
 have kb:Kb [dr,dw,dd] H H':=λb o nb e=>a9 b o (λz=>by
  simp only [ae,af,aG] at z nb
  rcases z with z|z|z|z|z
  ·exact nb (.inl z)
  ·exact nb (.inr (.inl z))
  ·exact nb (.inr (.inr z))
  ·rw [z,n1] at e;cases e
  ·rw [z,n2] at e;cases e) (s4 _ _ e)
 have ne4:∀b,H4 b=none→b∉[c2]:=λb e z=>by rw [aq.mp z,e2] at e;cases e
 have neH:∀b o,H b=some o→b∉[c2]:=λb o e z=>by rw [aq.mp z,n2] at e;cases e
 refine k H' ⟨tp,q1,q2,no _ a1,no _ a2,no _ a3,a4,a5,a6,a7,a8,kb⟩ a9 rd λH5 k5=>?_
 obtain ⟨dx,ex⟩:=hh.ob
 exact ⟨tp,q1,q2,no _ a1,no _ a2,no _ a3,a4.kb k5 ⟨neH _ _ ex,neH _ _ hh.r,neH _ _ hh.w,neH _ _ hh.d⟩,k5 _ _ (ne4 _ a1) a5,k5 _ _ (ne4 _ a2) a6,k5 _ _ (ne4 _ a3) a7,a8,λb o nb e=>k5 _ _ (neH _ _ e) (kb b o nb e)⟩
def qqp (C CN:Aj):Sp:=λvs H Q E=>∃(x dr dw dd:Aj) (R W:List (Key×V)) (D:List V) (n:Str),vs=[.ref x,.str n]∧Hse C H x dr dw dd R W D∧R.length≤1000∧W.length≤1000∧D.length≤1000000∧(wp W (.inr n)=none→E (.ref CN) none H) ∧
 ((wp W (.inr n)).isSome=true→∀H',Zv C H H' x dr dw dd R W D [] [(.inr n,.non)]→Q .non H')
include T in
theorem wjt (F:Fun K "leave" "House.leave" zb2 f fd)(za5:MCal P w K mg base qq "walker_called" 1 (jq qq qj false))(zab:MCal P w K mg base qq "do" 2 (Z5 qq)) :
  FK P w K mg base 3 f fd ["self","name"] (qqp qq qj):=by
 have sc:=qx8
 refine F.okX sc (λvs H Q E h=>by obtain ⟨_,_,_,_,_,_,_,_,rfl,_⟩:=h;rfl) λ_ _ _ _ H vs Q E hr h=>?_
 obtain ⟨x,dr,dw,dd,R,W,D,n,rfl,hh,lR,lW,lD,kx,k⟩:=h
 obtain ⟨dx,hx⟩:=hh.ob
 refine ⟨_,(qu (zy (x8 (pv 0) T.clH za5 (hr.mono ⋯) qf (wz (pv 1) qz)))
   (qm (zy (x8 (pv 0) T.clH zab (hr.mono ⋯) qf (xm jw (xm (ut (yt (pv 1) jv u8) rfl rfl (λz=>nomatch z) ⋯) qz)))))),?_⟩
 refine ⟨_,rfl,x,dx,_,rfl,hx,x9,_,rfl,x,dr,dw,dd,R,W,D,n,rfl,hh,λv e=>?_,kx⟩
 have k:=k (by show (wp W (.inr n)).isSome=true;rw [show wp W (.inr n)=some v from e];rfl)
 refine gI rfl ⟨x,dx,gI rfl ⟨hx,x9,λc1 n1=>λc2 n2=>(gI rfl ⟨qc,[(.inr n,.non)],rfl,(show 1≤15 by decide),?_⟩)⟩⟩
 have c12:c1≠c2:=λz=>by rw [←z,qc] at n2;cases n2
 have n20:H c2=none:=by rw [←n2,wf (aV c12)]
 have e0:yc [] [((Sum.inr n:Key),V.non)]=[((Sum.inr n:Key),V.non)]:=rfl
 rw [e0,yz]
 have s4:Same H (upd (upd H c1 (.dK [])) c2 (.dK [(.inr n,.non)])):=λb o e=>by
  rw [wf (qh e n20),wf (qh e n1)]
  exact e
 have f1:upd (upd H c1 (.dK [])) c2 (.dK [(.inr n,.non)]) c1=some (.dK []):=by rw [wf c12,qc]
 have f2:upd (upd H c1 (.dK [])) c2 (.dK [(.inr n,.non)]) c2=some (.dK [(.inr n,.non)]):=qc
 generalize upd (upd H c1 (.dK [])) c2 (.dK [(.inr n,.non)])=H4 at s4 f1 f2
 dsimp only [Qc]
 refine wwu (E:=E) hh s4 n1 n20 f1 f2 c12 aS (aY.mpr ⟨af,aS⟩) lR lW (aD _) (by show 1≤1000;decide) lD (λi c ec hc=>nomatch ec) (λi c ec hc=>?_) λH' gd _ _ _=>k H' gd
 cases i with
 |zero =>
  cases ec
  show (wp W (.inr n)).isSome=true
  rw [show wp W (.inr n)=some v from e]
  rfl
 |succ i=>cases ec
def KnD (H H':Hp):Prop:=∀b o,(∀kv,o≠HO.dK kv)→H b=some o→H' b=some o
def KnL (H H':Hp):Prop:=∀b o,(∀L,o≠HO.lst L)→H b=some o→H' b=some o
variable {ms:List Str}
theorem wxz {M:List Nat}{a:Aj}{tk te:TE}{σ:St}(G:Str→V→Hp→Prop)(gs:∀s v H H',G s v H→KnD H H'→G s v H')(hS:H a=some (.lst (ms.map V.str)))(hz:ms.length≤1000000)(nd:ms.Nodup)
  (he:∀(s:Str) (H':Hp) (R:V→V→Hp→Prop),s∈ms→Same H H'→(∀v H'',Same H' H''→G s v H''→R (.str s) v H'')→tk (jk M σ (some (.str s))) H' λy H4=>te (jk M σ (some (.str s))) H4 λz H5=>R y z H5)
  (k:∀p kvs H',H p=none→Same H H'→H' p=some (.dK kvs)→kvs.map (·.1)=ms.map Sum.inr→(∀kv∈kvs,∃s,s∈ms∧kv.1=.inr s∧G s kv.2 H')→Q (.ref p) H'):qyw (Itl K a) M tk te σ H Q:=by
 intro p np
 have big:(1000000:Nat)<sizeLine:=by decide
 refine ⟨λi m ys H2=>i≤ms.length∧m=ms.length-i∧ys.map (·.1)=(ms.take i).map Sum.inr∧(∀kv∈ys,∃s,s∈ms∧kv.1=.inr s∧G s kv.2 H2)∧Same H H2∧H2 p=some (.dK ys),⟨ms.length,aD _,rfl,rfl,(λkv z=>nomatch z),Same.upd np,qc⟩,?_⟩
 rintro i m ys H2 ⟨hi,rfl,hk,hG,sm,hp⟩
 have hl:ys.length=i:=by
  have:=bC List.length hk
  rw [aa,aa,bE] at this
  lia
 refine ⟨hp,⋯,?_⟩
 by_cases hlt:i<ms.length
 ·have em:(ms.map V.str)[i]?=some (.str ms[i]):=by rw [aE,aj hlt];rfl
  refine .inr ⟨⟨_,_,SqL.of (sm _ _ hS),em⟩,?_⟩
  rintro v H3 ⟨rfl,hv⟩
  have ev:=hv _ (SqL.of (sm _ _ hS))
  rw [em] at ev
  cases ev
  refine he ms[i] _ _ (bO _) sm λv H4 s4 g4=>⟨.inr ms[i],rfl,s4 _ _ hp,ms.length-(i+1),⋯,⋯,rfl,?_⟩
  have hn:wp ys (.inr ms[i])=none:=by
   unfold wp
   rw [dL.mpr]
   ·rfl
   ·intro x hx z
    have z:x.1=.inr ms[i]:=by simpa using z
    have hx2:x.1∈(ms.take i).map (Sum.inr:Str→Key):=by rw [←hk];exact ax.mpr ⟨x,hx,rfl⟩
    rw [z] at hx2
    obtain ⟨s,hs,es⟩:=ax.mp hx2
    injection es with es
    obtain ⟨j,hj,ej⟩:=bx hs
    rw [bE] at hj
    rw [d3] at ej
    have:=(du nd).mp (ej.trans es)
    lia
  have kn:KnD H4 (upd H4 p (.dK (km ys (.inr ms[i]) v))):=λb ob no e=>by
   rw [wf (λz=>by rw [z,s4 _ _ hp] at e;cases e;exact no _ rfl)]
   exact e
  rw [Qf _ hn] at kn ⊢
  refine ⟨?_,λkv hkv=>?_,?_,qc⟩
  ·rw [bg,hk,d6,aj hlt,bg]
   rfl
  ·rcases bi.mp hkv with hkv|hkv
   ·obtain ⟨s,h1,h2,h3⟩:=hG kv hkv
    exact ⟨s,h1,h2,gs _ _ _ _ (gs _ _ _ _ h3 λb ob _ e=>s4 _ _ e) kn⟩
   ·rw [aq.mp hkv]
    exact ⟨ms[i],bO _,rfl,gs _ _ _ _ g4 kn⟩
  ·intro b ob e
   rw [wf (qh e np)]
   exact s4 _ _ (sm _ _ e)
 ·have:i=ms.length:=by lia
  subst this
  rw [cX] at hk
  exact .inl ⟨⟨_,SqL.of (sm _ _ hS),by rw [aa];exact al _⟩,k p ys H2 np sm hp hk hG⟩
theorem wy1 {M:List Nat}{d:Aj}{o:Obj}{cs:List (Key×V)}{gg:TG}{te:TE}{σ:St}(G:Nat→V→Hp→Prop)(gs:∀i v H H',G i v H→KnL H H'→G i v H')(hz:cs.length≤1000000)(hd:H d=some (.frz o (.dK cs)))
  (he:∀(i:Nat) (c:Key×V) (q:Aj) (H':Hp) (R:VK),cs[i]?=some c→Same H H'→H' q=none→(∀v H'',Same H' H''→G i v H''→R v H'')→gg (.ref q) (Wp M σ none none) (upd H' q (.tup [kV c.1,c.2])) λσ4 H4=>(∃a b,σ4=Wp M σ (some a) (some b))∧te σ4 H4 R)
  (k:∀p ys H',H p=none→Same H H'→H' p=some (.lst ys)→ys.length=cs.length→(∀j v,ys[j]?=some v→G j v H')→Q (.ref p) H'):wwt (ItDI d o cs) M gg te σ H Q:=by
 intro p np
 have big:(1000000:Nat)<sizeLine:=by decide
 refine ⟨λi m ys H2=>i≤cs.length∧m=cs.length-i∧ys.length=i∧Same H H2∧H2 p=some (.lst ys)∧∀j v,ys[j]?=some v→G j v H2,⟨cs.length,aD _,rfl,rfl,Same.upd np,qc,λj v e=>by cases e⟩,?_⟩
 rintro i m ys H2 ⟨hi,rfl,hl,sm,hp,hG⟩
 refine ⟨hp,⋯,?_⟩
 by_cases hlt:i<cs.length
 ·refine .inr ⟨⟨sm _ _ hd,hlt⟩,?_⟩
  rintro v H3 ⟨q,c,nq,rfl,ec,rfl⟩
  refine he i c q H2 _ ec sm nq λv H4 s4 g4=>⟨s4 _ _ hp,cs.length-(i+1),⋯,⋯,rfl,by rw [aP];show ys.length+1=_;lia,?_,qc,λj v' ej=>?_⟩
  ·intro b ob e
   rw [wf (qh e np)]
   exact s4 _ _ (sm _ _ e)
  ·have kn:KnL H4 (upd H4 p (.lst (ys++[v]))):=λb ob no e=>by
    rw [wf (λz=>by rw [z,s4 _ _ hp] at e;cases e;exact no _ rfl)]
    exact e
   rcases fL j ys.length with hj|hj
   ·rw [bF hj] at ej
    exact gs _ _ _ _ (gs _ _ _ _ (hG j v' ej) λb ob _ e=>s4 _ _ e) kn
   ·rw [bv hj] at ej
    have:j-ys.length=0:=by
     rcases Nat.eq_zero_or_pos (j-ys.length) with z|z
     ·exact z
     ·rw [br (by show 1≤_;lia)] at ej;cases ej
    rw [this] at ej
    cases ej
    have:j=i:=by lia
    subst this
    exact gs _ _ _ _ g4 kn
 ·have:i=cs.length:=by lia
  subst this
  exact .inl ⟨⟨sm _ _ hd,al _⟩,k p ys H2 np sm hp hl hG⟩
def WksT (CW:Aj)(H:Hp)(W:List (Key×V))(ss:List Str)(wh:Str→Str)(ps:Str→Int×Int)(tvs:Str→List (List Key×V)):Prop:=W.map (·.1)=ss.map Sum.inr∧W.length<64∧ss.Nodup∧∀s∈ss,TmOk (tvs s)∧∃y p t,wp W (.inr s)=some (.ref y)∧WkAt CW H y (wh s) p (ps s) t (tvs s)
theorem WksT.at {wh:Str→Str}{tvs:Str→List (List Key×V)}(h:WksT CW H W ss wh ps tvs):WksAt CW H W ss wh ps:=⟨h.1,h.2.1,λs hs=>by
 obtain ⟨_,y,p,t,e,a⟩:=h.2.2.2 s hs
 exact ⟨y,p,t,tvs s,e,a⟩⟩
def GoneAt (CW:Aj)(hs:List Int)(m:Nat)(whose:Str)(ps:Str→Int×Int)(tvs:Str→List (List Key×V))(s:Str)(v:V)(H:Hp):Prop:=∃y p t tv,v=.ref y∧WkAt CW H y whose p (itP hs (ps s) m) t tv∧TmOk tv∧qug hs (ps s) m (tvs s) tv
def KnW (H H':Hp):Prop:=∀b o,(∀kv,o≠HO.dK kv)→(∀u kv,o≠HO.frz u (.dK kv))→(∀L,o≠HO.lst L)→H b=some o→H' b=some o
variable {s:Str}
theorem GoneAt.kn {tvs:Str→List (List Key×V)}(h:GoneAt CW hs m whose ps tvs s v H)(k:KnW H H'):GoneAt CW hs m whose ps tvs s v H':=by
 obtain ⟨y,p,t,tv,e,w,a,b⟩:=h
 obtain ⟨dx,ob⟩:=w.ob
 exact ⟨y,p,t,tv,e,⟨⟨dx,k _ _ (λ_ z=>by cases z) (λ_ _ z=>by cases z) (λ_ z=>by cases z) ob⟩,k _ _ (λ_ z=>by cases z) (λ_ _ z=>by cases z) (λ_ z=>by cases z) w.pt,k _ _ (λ_ z=>by cases z) (λ_ _ z=>by cases z) (λ_ z=>by cases z) w.tm⟩,a,b⟩
def quh (C CR CW CN CC:Aj):Sp:=λvs H Q E=>∃(x dr dw dd:Aj) (R W:List (Key×V)) (D:List V) (whose:Str) (m:Int),vs=[.ref x,.str whose,.int m]∧Hse C H x dr dw dd R W D∧R.length≤1000∧D.length≤1000000∧(wp R (.inr whose)=none→E (.ref CN) none H) ∧
 (∀v,wp R (.inr whose)=some v→∃r hs,v=.ref r∧RoadAt CR H r hs∧(¬ Within m 0 (some 1000000000000000000000000000000000000000000000000000000000000)→E (.ref CC) none H) ∧
  (Within m 0 (some 1000000000000000000000000000000000000000000000000000000000000)→∃ss wh ps tvs,WksT CW H W ss wh ps tvs∧(∀s∈ss,wh s=whose→HPt hs (ps s)) ∧
   ∀(H':Hp) (l:Aj) (cs:List (Key×V)) (ms:List Str) (ys:List V),ms.Perm ss→ms.Pairwise (λx y=>¬ y.cps.toList<x.cps.toList)→Zv C H H' x dr dw dd R W D [] cs→cs.map (·.1)=(ms.filter λs=>decide (V.str (wh s)=V.str whose)).map Sum.inr→(∀kv∈cs,∃s,s∈ss∧wh s=whose∧kv.1=.inr s∧GoneAt CW hs m.toNat whose ps tvs s kv.2 H') →
    H l=none→H' l=some (.lst ys)→ys.length=cs.length→(∀(j:Nat) v,ys[j]?=some v→∃kv a y p pt t tv,cs[j]?=some kv∧v=.ref a∧H' a=some (.tup [kV kv.1,.ref p])∧kv.2=.ref y∧WkAt CW H' y whose p pt t tv)→Q (.ref l) H'))
include T in
theorem wqy (F:Fun K "together" "House.together" zb4 f fd)(zag:MCal P w K mg base qq "road_called" 1 (jq qq q9 true))(zdi:CalD P w K mg base "check_count" 1 (qq4 qb))(za6:MCal P w K mg base qq "walkers_on" 1 (spOn qq qy))(zdj:MCal P w K mg base qy "gone" 6 (qjk qy wq))(zab:MCal P w K mg base qq "do" 2 (Z5 qq)) :
  FK P w K mg base 8 f fd ["self","whose","many"] (quh qq wq qy q9 qb):=by
 have sc:=Z4
 refine F.okX sc (λvs H Q E h=>by obtain ⟨_,_,_,_,_,_,_,_,_,rfl,_⟩:=h;rfl) λ_ _ _ s H vs Q E hr h=>?_
 obtain ⟨x,dr,dw,dd,R,W,D,whose,m,rfl,hh,lR,lD,kx,k⟩:=h
 obtain ⟨dx,hx⟩:=hh.ob
 obtain ⟨tg,zak⟩:=T.zak
 refine ⟨_,(qu (xj (i:=3) (x8 (pv 0) T.clH zag (hr.mono ⋯) qf (wz (pv 1) qz)))
   (qu (zy (qxw zdi.all (hr.mono ⋯) rfl qf (wz (pv 2) (xb qk (wz (u6 (v:=V.int 1000000000000000000000000000000000000000000000000000000000000) rfl zak ⟨_,rfl⟩) qz)))))
   (qu (Jk (i:=4) (M:=[0,2,3]) sc.nd rfl (by walk_at "loc") rfl rfl (by walk_at "cap") (by walk_at "has") (by walk_at "cix") rfl (by decide +kernel) rfl (show List.Nodup (["name","self","many","road"]:List Str) by decide +kernel) (ur (x8 (pv 0) T.clH za6 (hr.mono ⋯) qf (wz (pv 1) qz))) (λ_ _ _ _ _=>(pv 0)) (λ_ _ _ _ _=>(x8 (jf (vj hr) (W1 (K:=K) rfl (pv 1) rfl) (pv 0) (λ_ _=>rfl)) T.clW zdj (hr.mono ⋯) qjd (wz (pv 3) (wz (pv 2) qz)))))
   (qu (zy (x8 (pv 0) T.clH zab (hr.mono ⋯) qf (xm jw (wz (pv 4) qz))))
   (qm (wn (wjw (x := "name") (y2 := "walker") (M:=[]) rfl rfl (by walk_at "cap") (by walk_at "has") (by walk_at "cix") rfl (by decide +kernel) (λ_ _ _ _ _=>xxt (K:=K) (n:=2) rfl rfl (x4 (xp (i:=0) (show List.Nodup (["name","walker"]:List Str) by decide +kernel) rfl (by walk_at "loc")) (x4 (xp (i:=1) (show List.Nodup (["name","walker"]:List Str) by decide +kernel) rfl (by walk_at "loc")) vc))) (pi_di (pv 4)) (λ_ _ _ _ _=>(zx (wz (pv 0) (xm (W1 (K:=K) rfl (pv 1) rfl) qz))))))))))),?_⟩
 dsimp only [ug]
 refine ⟨_,rfl,x,dx,_,rfl,hx,x9,_,rfl,x,dr,dw,dd,R,W,D,whose,rfl,hh,λv e=>?_,kx⟩
 obtain ⟨r,hs,rfl,hR,kc,k⟩:=k v e
 refine ⟨_,rfl,m,0,.int (1000000000000000000000000000000000000000000000000000000000000),some (1000000000000000000000000000000000000000000000000000000000000),rfl,.inr ⟨1000000000000000000000000000000000000000000000000000000000000,rfl,rfl⟩,λwi=>?_,kc⟩
 obtain ⟨ss,wh,ps,tvs,hw,hps,k⟩:=k wi
 refine gI rfl ⟨x,dx,gI rfl ⟨hx,x9,gI rfl ⟨x,dr,dw,dd,R,W,D,whose,ss,wh,ps,rfl,hh,hw.at,λl H1 ms nl s1 pm srt fl=>?_⟩⟩⟩
 have nd:ms.Nodup:=pm.nodup_iff.mpr hw.2.2.1
 have ndf:=nd.filter λs=>decide (V.str (wh s)=V.str whose)
 have lm:ms.length<64:=by
  have a:=bC List.length hw.1
  rw [aa,aa] at a
  have b:=pm.length_eq
  have c:=hw.2.1
  lia
 have lf:=bG (λs=>decide (V.str (wh s)=V.str whose)) ms
 refine ⟨l,rfl,⟨_,SqL.of fl⟩,wxz (GoneAt qy hs m.toNat whose ps tvs) (λs v H H' g kn=>g.kn λb o n1 _ _ e=>kn b o n1 e) fl ⋯ ndf (λs H' RR hs' sm kR=>?_) λc2 cs H2 n2 s2 f2 ec hG=>?_⟩
 ·obtain ⟨hm,hq⟩:=bz.mp hs'
  have hq:wh s=whose:=by
   have:=bT hq
   injection this
  have hss:=pm.mem_iff.mp hm
  obtain ⟨tm,y,p,t,ey,wk⟩:=hw.2.2.2 s hss
  rw [hq] at wk
  obtain ⟨dy,hy⟩:=wk.ob
  have sa:=s1.trans sm
  have dg:DGet H' dw (.str s) (wp W (.inr s)):=DGet.k (k:=.inr s) (sa _ _ hh.w)
  rw [ey] at dg
  refine gI rfl (gI rfl ⟨x,qq,dx,_,_,rfl,sa _ _ hx,T.clH,T.naHw,vq,gI rfl ⟨dw,gI rfl ⟨dg,y,dy,gI rfl ⟨sa _ _ hy,quc (by decide +kernel) (by decide +kernel) (by decide +kernel),gI rfl (gI rfl ⟨y,r,p,t,whose,hs,ps s,tvs s,m,rfl,wk.same sa,tm,hR.same sa,hps s hss hq,wi.1,λH'' y' p' t' tv' ny s'' w'' tm' hit=>kR _ _ s'' ⟨y',p',t',tv',rfl,w'',tm',hit⟩⟩)⟩⟩⟩⟩)
 ·have s02:=s1.trans s2
  have n20:H c2=none:=xy s1 n2
  have ndk:(cs.map (·.1)).Nodup:=by
   rw [ec]
   exact bJ.mpr (ndf.imp λ{a b} h z=>h (by injection z))
  have lc:cs.length<64:=by
   have:=bC List.length ec
   rw [aa,aa] at this
   lia
  refine gI rfl ⟨x,dx,gI rfl ⟨s02 _ _ hx,x9,λc1 n1=>(gI rfl ?_)⟩⟩
  have s4:Same H2 (upd H2 c1 (.dK [])):=Same.upd n1
  have f1:upd H2 c1 (.dK []) c1=some (.dK []):=qc
  have c12:c1≠c2:=(qh f2 n1).symm
  have f24:=s4 _ _ f2
  generalize upd H2 c1 (.dK [])=H4 at s4 f1 f24
  dsimp only [Qc]
  have lW:W.length≤1000:=by have:=hw.2.1;lia
  refine wwu (E:=E) hh (s02.trans s4) (xy s02 n1) n20 f1 f24 c12 aS ndk lR lW (aD _) ⋯ lD (λi c ec hc=>nomatch ec) (λi c ec' hc=>?_) λH5 gd kb5 rd5 gp=>?_
  ·obtain ⟨_,_,_,y,_,_,_,ey,_⟩:=hG c (aL ec')
   rw [ey] at hc
   cases hc
  ·refine gI rfl ⟨c2,cs,rfl,rd5,λo H6 fz=>?_⟩
   have kn56:KnW H5 H6:=λb ob m1 m2 _ e=>by
    by_cases z:b=c2
    ·rcases rd5 with g|⟨u,g⟩ <;> (rw [z,g] at e;cases e)
     ·exact absurd rfl (m1 _)
     ·exact absurd rfl (m2 _ _)
    ·rw [fz.2 b z];exact e
   have hd4:=(s02.trans s4) _ _ hh.d
   have kn25:KnW H4 H5:=λb ob m1 m2 m3 e=>kb5 b ob (λz=>by
    simp only [ae,af,aG] at z
    rcases z with z|z|z|z|z
    ·rw [z,(s02.trans s4) _ _ hh.r] at e;cases e;exact m1 _ rfl
    ·rw [z,(s02.trans s4) _ _ hh.w] at e;cases e;exact m1 _ rfl
    ·rw [z,hd4] at e;cases e;exact m3 _ rfl
    ·rw [z,f1] at e;cases e;exact m1 _ rfl
    ·rw [z,f24] at e;cases e;exact m1 _ rfl) e
   have hG6:∀kv∈cs,∃s,s∈ss∧wh s=whose∧kv.1=.inr s∧GoneAt qy hs m.toNat whose ps tvs s kv.2 H6:=λkv hkv=>by
    obtain ⟨s,hs1,hs2,g⟩:=hG kv hkv
    obtain ⟨hm,hq⟩:=bz.mp hs1
    have hq:wh s=whose:=by
     have:=bT hq
     injection this
    exact ⟨s,pm.mem_iff.mp hm,hq,hs2,((g.kn λb o _ _ _ e=>s4 _ _ e).kn kn25).kn kn56⟩
   refine wy1 (λj v H=>∃kv a y p pt t tv,cs[j]?=some kv∧v=.ref a∧H a=some (.tup [kV kv.1,.ref p])∧kv.2=.ref y∧WkAt qy H y whose p pt t tv) (λj v H H' g kn=>?_) ⋯ fz.1 (λi c q H' RR ei sm nq kR=>?_) λl6 ys H7 n6 s7 f7 ly hy=>?_
   ·obtain ⟨kv,a,y,p,pt,t,tv,g1,g2,g3,g4,g5⟩:=g
    obtain ⟨d5,o5⟩:=g5.ob
    exact ⟨kv,a,y,p,pt,t,tv,g1,g2,kn _ _ (λ_ z=>by cases z) g3,g4,⟨⟨d5,kn _ _ (λ_ z=>by cases z) o5⟩,kn _ _ (λ_ z=>by cases z) g5.pt,kn _ _ (λ_ z=>by cases z) g5.tm⟩⟩
   ·obtain ⟨s,_,_,e1,y,p,t,tv,e2,wk,_,_⟩:=hG6 c (aL ei)
    have sq:Same H' (upd H' q (.tup [kV c.1,c.2])):=Same.upd nq
    refine ⟨q,gI rfl ⟨SqT.new,rfl,_,_,rfl,_,_,rfl,rfl,⟨_,_,rfl⟩,?_⟩⟩
    have wk':=wk.same (sm.trans sq)
    obtain ⟨dy,oy⟩:=wk'.ob
    generalize upd H' q (.tup [kV c.1,c.2])=H8 at sq wk' oy
    refine gI rfl (gI rfl ⟨y,qy,dy,_,_,e2,oy,T.clW,T.naWp,uc,sz2,λa na=>?_⟩)
    have sa:=sq.trans (Same.upd (o:=.tup [kV c.1,.ref p]) na)
    exact kR _ _ sa ⟨c,a,y,p,_,t,tv,ei,rfl,qc,e2,wk'.same (Same.upd na)⟩
   ·have kb7:Kb [c2] H5 H7:=λb ob nb e=>s7 _ _ (by rw [fz.2 b (λz=>nb (by simp [z]))];exact e)
    refine k H7 l6 cs ms ys pm srt (gp H7 kb7) ec (λkv hkv=>?_) ?_ f7 ly hy
    ·obtain ⟨s,a1,a2,a3,a4⟩:=hG6 kv hkv
     exact ⟨s,a1,a2,a3,a4.kn λb o _ _ _ e=>s7 _ _ e⟩
    ·cases q:H l6 with
     |none=>rfl
     |some o6 =>
      exfalso
      have nc:l6≠c2:=qh q n20
      obtain ⟨tp,q1,q2,_,_,_,hs5,_,_,_,_,kb⟩:=gd
      rw [fz.2 l6 nc] at n6
      by_cases z:l6∈[dr,dw,dd]
      ·simp only [ae,af,aG] at z
       rcases z with z|z|z
       ·rw [z,hs5.r] at n6;cases n6
       ·rw [z,hs5.w] at n6;cases n6
       ·rw [z,hs5.d] at n6;cases n6
      ·rw [kb _ _ z q] at n6;cases n6
theorem ww1 {a b c:Aj}:ju "roads" (.ref p) (hF a b c)=hF p b c:=by
 unfold hF ju
 simp
theorem qjm {a b c:Aj}:ju "walkers" (.ref p) (hF a b c)=hF a p c:=by
 have e1:¬ (("roads" : Str) = "walkers"):=by decide +kernel
 have e2:¬ (("done" : Str) = "walkers"):=by decide +kernel
 simp [hF,ju,e1,e2]
theorem wkt {a b c:Aj}:ju "done" (.ref p) (hF a b c)=hF a b p:=by
 have e1:¬ (("roads" : Str) = "done"):=by decide +kernel
 have e2:¬ (("walkers" : Str) = "done"):=by decide +kernel
 simp [hF,ju,e1,e2]
def wxh (C:Aj):Sp:=λvs H Q _=>∃(x dr dw dd:Aj) (R W:List (Key×V)) (D:List V),vs=[.ref x]∧Hse C H x dr dw dd R W D∧∀H' x' dr' dw' dd',Same H H'→H x'=none→H dr'=none→H dw'=none→H dd'=none→Hse C H' x' dr' dw' dd' R W D→Q (.ref x') H'
include T in
theorem xwr (F:Fun K "twin" "House.twin" zca f fd)(zdk:CCal P w K mg base "House" qq 1 (qqb qq)):FK P w K mg base 3 f fd ["self"] (wxh qq):=by
 have sc:=qz5
 refine F.okX sc (λvs H Q E h=>by obtain ⟨_,_,_,_,_,_,_,rfl,_⟩:=h;rfl) λ_ _ _ _ H vs Q E hr h=>?_
 obtain ⟨x,dr,dw,dd,R,W,D,rfl,hh,k⟩:=h
 obtain ⟨dx,hx⟩:=hh.ob
 refine ⟨_,(qu (xj (i:=1) (qv4 zdk (hr.mono ⋯) rfl qf))
   (qu (Qq (pv 1) (zn yf rfl T.dict_ bR (xm (zh (pv 0) rfl) qz)) rfl)
   (qu (Qq (pv 1) (zn yf rfl T.dict_ bR (xm (zh (pv 0) rfl) qz)) rfl)
   (qu (Qq (pv 1) (zn jd rfl T.list_ aZ (xm (zh (pv 0) rfl) qz)) rfl)
   (qm (wn (pv 1))))))),?_⟩
 refine λx' d0 nx nd0 ne0=>⟨x',d0,rfl,qc,λH1 a b c m1 m2 m3 hse kb=>⟨rfl,?_⟩⟩
 have s1:Same H H1:=λz o e=>kb z o (λy=>by rw [aq.mp y,nx] at e;cases e) (by rw [wf (qh e nx),wf (qh e nd0)];exact e)
 obtain ⟨d1,h1⟩:=hse.ob
 clear hse kb m1 m2 m3
 refine gI rfl ⟨x,qq,dx,_,_,rfl,s1 _ _ hx,T.clH,T.naHr,jr,dr,R,rfl,.inl (s1 _ _ hh.r),λp1 n1=>(gI rfl ⟨x',qq,d1,gI rfl ⟨(Same.upd n1) _ _ h1,T.clH,T.naHr,(show 3<1000 by decide),?_⟩⟩)⟩
 rw [ww1]
 have x1:x≠x':=qh hx nx
 have step:∀ {H1:Hp} {d1:Aj} {F1 F2:List (Str×V)} {p1:Aj} {o1:HO},Same H H1→H1 x'=some (.ins qq d1 F1)→H1 p1=none→Same H (upd (upd H1 p1 o1) x' (.ins qq d1 F2))∧upd (upd H1 p1 o1) x' (.ins qq d1 F2) x'=some (.ins qq d1 F2)∧upd (upd H1 p1 o1) x' (.ins qq d1 F2) p1=some o1∧(∀b o,b≠x'→H1 b=some o→upd (upd H1 p1 o1) x' (.ins qq d1 F2) b=some o):=λ{H1 d1 F1 F2 p1 o1} s1 h1 n1=>by
  have px:p1≠x':=(qh h1 n1).symm
  refine ⟨λb o e=>?_,qc,by rw [wf px,qc],λb o nb e=>by rw [wf nb,wf (qh e n1)];exact e⟩
  rw [wf (qh e nx),wf (qh (s1 _ _ e) n1)]
  exact s1 _ _ e
 obtain ⟨s2,h2,g2,o2⟩:=step (F2:=hF p1 b c) (o1:=.dK R) s1 h1 n1
 have np1:=xy s1 n1
 generalize upd (upd H1 p1 (.dK R)) x' (.ins qq d1 (hF p1 b c))=H2 at s2 h2 g2 o2
 have p1x:p1≠x':=(qh h1 n1).symm
 refine gI rfl ⟨x,qq,dx,_,_,rfl,s2 _ _ hx,T.clH,T.naHw,vq,dw,W,rfl,.inl (s2 _ _ hh.w),λp2 n2=>(gI rfl ⟨x',qq,d1,gI rfl ⟨(Same.upd n2) _ _ h2,T.clH,T.naHw,(show 3<1000 by decide),?_⟩⟩)⟩
 rw [qjm]
 obtain ⟨s3,h3,g3,o3⟩:=step (F2:=hF p1 p2 c) (o1:=.dK W) s2 h2 n2
 have g23:=o3 _ _ p1x g2
 have np2:=xy s2 n2
 have p2x:p2≠x':=(qh h2 n2).symm
 have p12:p1≠p2:=qh g2 n2
 generalize upd (upd H2 p2 (.dK W)) x' (.ins qq d1 (hF p1 p2 c))=H3 at s3 h3 g3 o3 g23
 refine gI rfl ⟨x,qq,dx,_,_,rfl,s3 _ _ hx,T.clH,T.naHd,Qb,dd,D,rfl,.inl (SqL.of (s3 _ _ hh.d)),λp3 n3=>(gI rfl ⟨x',qq,d1,gI rfl ⟨(Same.upd n3) _ _ h3,T.clH,T.naHd,(show 3<1000 by decide),?_⟩⟩)⟩
 rw [wkt]
 obtain ⟨s4,h4,g4,o4⟩:=step (F2:=hF p1 p2 p3) (o1:=.lst D) s3 h3 n3
 have np3:=xy s3 n3
 refine gI rfl (k _ x' p1 p2 p3 s4 nx np1 np2 np3 ⟨⟨d1,h4⟩,o4 _ _ p1x g23,o4 _ _ p2x g3,g4,p12⟩)
theorem wqk {k:Key}{u:V}(h:wp kvs k=some u):(km kvs k v).map (·.1)=kvs.map (·.1):=by
 unfold km
 rw [ak (by rw [Qh,h];rfl),bK]
 refine cF λkv _=>?_
 show (if kv.1=k then (kv.1,v) else kv).1=kv.1
 split <;> rfl
variable {ch:List Aj}
theorem Kb.sql (k:Kb ch H H'){a:Aj}{xs:List V}(h:SqL K H a xs)(d:(∀H',SqL K H' a xs)∨a∉ch):SqL K H' a xs:=by
 rcases d with d|d
 ·exact d H'
 ·rcases h with (e|⟨u,e⟩)|e
  ·exact .inl (.inl (k _ _ d e))
  ·exact .inl (.inr ⟨u,k _ _ d e⟩)
  ·exact .inr e
def Dl (H:Hp)(ch:List Aj):Prop:=∀b∈ch,(∃kv,Rd H b (.dK kv))∨∃D,Zt D∧H b=some (.lst D)
theorem Dl.nil:Dl H []:=λb hb=>nomatch hb
theorem Dl.cons {a:Aj}(h:(∃kv,Rd H a (.dK kv))∨∃D,Zt D∧H a=some (.lst D))(d:Dl H ch):Dl H (a::ch):=λb hb=>by
 rcases ae.mp hb with rfl|hb
 ·exact h
 ·exact d b hb
theorem Hse.dl {x:Aj}(h:Hse C H x dr dw dd R W D)(rf:Zt D){ch:List Aj}(d:Dl H ch):Dl H (dr::dw::dd::ch):=.cons (.inl ⟨_,.inl h.r⟩) (.cons (.inl ⟨_,.inl h.w⟩) (.cons (.inr ⟨_,rf,h.d⟩) d))
theorem Dl.other (d:Dl H ch){a:Aj}{o:HO}(e:H a=some o)(n1:∀kv,o≠.dK kv)(n2:∀u kv,o≠.frz u (.dK kv))(n3:∀D,Zt D→o≠.lst D):a∉ch:=λz=>by
 rcases d a z with ⟨kv,y|⟨u,y⟩⟩|⟨D,rf,y⟩ <;> (rw [e] at y;injection y with y)
 ·exact n1 _ y
 ·exact n2 _ _ y
 ·exact n3 _ rf y
theorem Dl.tup (d:Dl H ch)(k:Kb ch H H'){a:Aj}{xs:List V}(e:H a=some (.tup xs)):H' a=some (.tup xs):=k _ _ (d.other e (λ_ z=>by cases z) (λ_ _ z=>by cases z) (λ_ _ z=>by cases z)) e
theorem wy5 (ok:xt hs){D:List V}(rf:Zt D)(e:HO.lst (hs.map V.int)=HO.lst D):False:=by
 have e:hs.map V.int=D:=by injection e
 have l:=ok.1
 have m:V.int (hs[0]'⋯)∈hs.map V.int:=ax.mpr ⟨_,bO _,rfl⟩
 rw [e] at m
 obtain ⟨a,ea⟩:=rf _ m
 cases ea
theorem Dl.row (d:Dl H ch)(k:Kb ch H H'){a:Aj}{hs:List Int}(ok:xt hs)(e:H a=some (.lst (hs.map V.int))):H' a=some (.lst (hs.map V.int)):=k _ _ (d.other e (λ_ z=>by cases z) (λ_ _ z=>by cases z) (λ_ rf z=>wy5 ok rf z)) e
theorem Dl.road (d:Dl H ch)(k:Kb ch H H'){r:Aj}{hs:List Int}(ok:xt hs)(h:RoadAt C H r hs):RoadAt C H' r hs:=by
 obtain ⟨dx,q,h1,h2⟩:=h
 exact ⟨dx,q,k _ _ (d.other h1 (λ_ z=>by cases z) (λ_ _ z=>by cases z) (λ_ _ z=>by cases z)) h1,d.row k ok h2⟩
theorem Dl.wk (d:Dl H ch)(k:Kb ch H H'){y:Aj}{n:Str}{p:Aj}{pt:Int×Int}{t:Aj}{tv:List (List Key×V)}(h:WkAt C H y n p pt t tv):WkAt C H' y n p pt t tv:=by
 obtain ⟨dx,e⟩:=h.ob
 have e2:=h.tm
 exact ⟨⟨dx,k _ _ (d.other e (λ_ z=>by cases z) (λ_ _ z=>by cases z) (λ_ _ z=>by cases z)) e⟩,d.tup k h.pt,k _ _ (d.other e2 (λ_ z=>by cases z) (λ_ _ z=>by cases z) (λ_ _ z=>by cases z)) e2⟩
theorem wz7 {n:Key}:exK W [(n,.ref y)]=km W n (.ref y):=by
 show ex1 W (n,.ref y)=_
 unfold ex1
 rw [ai (λz=>by cases z)]
theorem qyk {k:Key}:([(k,v)].map (·.1)).Nodup:=aY.mpr ⟨af,aS⟩
def ovr (f:Key→Option V)(cs:List (Key×V)):Key→Option V:=λm=>match wp cs m with|none=>f m|some .non=>none|some v=>some v
theorem uu {k j:Key}(hj:j≠k):∀kvs:List (Key×V),wp (y3 kvs k) j=wp kvs j
 |[]=>rfl
 |p::r=>by
  have ih:=uu hj r
  unfold y3 at ih ⊢
  by_cases e:p.1=k
  ·rw [bQ,ai (by simp [e]),ih,zt (λz=>hj (z.symm.trans e))]
  ·rw [bQ,ak (by simp [e])]
   by_cases z:p.1=j
   ·rw [vw z,vw z]
   ·rw [zt z,zt z,ih]
theorem Qy {k:Key}:∀kvs:List (Key×V),wp (y3 kvs k) k=none
 |[]=>rfl
 |p::r=>by
  have ih:=Qy (k:=k) r
  unfold y3 at ih ⊢
  by_cases e:p.1=k
  ·rw [bQ,ai (by simp [e]),ih]
  ·rw [bQ,ak (by simp [e]),zt e,ih]
theorem Z0 {k:Key}(h:k∉kvs.map (·.1)):wp kvs k=none:=by
 unfold wp
 rw [dL.mpr λkv hk=>by simp only [dZ];exact λz=>h (ax.mpr ⟨kv,hk,z⟩)]
 rfl
theorem qqn {k:Key}(h:wp kvs k=some v):(k,v)∈kvs:=by
 unfold wp at h
 obtain ⟨kv,e1,e2⟩:=dU.mp h
 have:=List.find?_some e1
 simp only [dZ] at this
 have m:=ff e1
 rw [←this,←e2]
 exact m
theorem jx (nd:(kvs.map (·.1)).Nodup){c:Key×V}(h:c∈kvs):wp kvs c.1=some c.2:=by
 induction kvs with
 |nil=>cases h
 |cons p r ih =>
  rw [aC] at nd
  obtain ⟨a,b⟩:=aY.mp nd
  rcases ae.mp h with rfl|h
  ·exact vw rfl
  ·rw [zt (λz=>a (by rw [z];exact ax.mpr ⟨c,h,rfl⟩))]
   exact ih b h
theorem wzv (R:List (Key×V))(c:Key×V)(m:Key):wp (ex1 R c) m=if m=c.1 then (if c.2=.non then none else some c.2) else wp R m:=by
 unfold ex1
 by_cases z:c.2=.non
 ·rw [ak z,ak z]
  by_cases y:m=c.1
  ·rw [ak y,y,Qy]
  ·rw [ai y,uu y]
 ·rw [ai z,ai z,Qk]
theorem yy:∀(cs:List (Key×V)) (R:List (Key×V)),(cs.map (·.1)).Nodup→∀m,wp (exK R cs) m=ovr (wp R) cs m
 |[],R,_,m=>rfl
 |c::cs,R,nd,m=>by
  rw [aC] at nd
  obtain ⟨a,b⟩:=aY.mp nd
  show wp (exK (ex1 R c) cs) m=_
  rw [yy cs (ex1 R c) b m]
  unfold ovr
  by_cases z:c.1=m
  ·rw [vw z,Z0 (kvs:=cs) (by rw [←z];exact a)]
   show wp (ex1 R c) m=_
   rw [wzv,ak z.symm]
   cases c.2 <;> rfl
  ·rw [zt z]
   cases wp cs m with
   |none =>
    show wp (ex1 R c) m=_
    rw [wzv,ai (aV z)]
   |some v=>cases v <;> rfl
theorem wzn (R cs:List (Key×V)):(bfK R cs).map (·.1)=cs.map (·.1):=by
 unfold bfK
 rw [bK]
 rfl
theorem val_bf (R cs:List (Key×V))(m:Key):wp (bfK R cs) m=(wp cs m).map λ_=>(wp R m).getD .non:=by
 induction cs with
 |nil=>rfl
 |cons c cs ih =>
  show wp ((c.1,(wp R c.1).getD .non)::bfK R cs) m=_
  by_cases z:c.1=m
  ·rw [vw (p:=(c.1,(wp R c.1).getD .non)) z,vw z,z]
   rfl
  ·rw [zt (p:=(c.1,(wp R c.1).getD .non)) z,zt z,ih]
theorem qjc {cs:List (Key×V)}(nd:(cs.map (·.1)).Nodup)(hv:∀m,wp R m≠some .non)(m:Key):ovr (wp (exK R cs)) (bfK R cs) m=wp R m:=by
 unfold ovr
 rw [val_bf]
 cases e:wp cs m with
 |none =>
  show wp (exK R cs) m=_
  rw [yy cs R nd,ovr,e]
 |some v =>
  show (match some ((wp R m).getD .non) with|none=>wp (exK R cs) m|some .non=>none|some v=>some v)=_
  have:=hv m
  cases e2:wp R m with
  |none=>rfl
  |some u =>
   rw [e2] at this
   cases u <;> first | rfl | exact absurd rfl this
def qw0 (f:Key→Option V)(cs:List (Key×V)):Prop:=∀c∈cs,c.2=.non→(f c.1).isSome=true
theorem wzm {cs:List (Key×V)}(nd:(cs.map (·.1)).Nodup)(h:qw0 (wp R) cs):wqm R cs:=λi c ec hc=>by
 have hi:=(aN.mp ec).1
 have sub:((cs.take i).map (·.1)).Nodup:=by
  rw [ga]
  exact nd.sublist (List.take_sublist _ _)
 rw [yy _ _ sub]
 unfold ovr
 rw [Z0 (kvs:=cs.take i) λz=>?_]
 ·exact h c (aL ec) hc
 ·obtain ⟨c',hc',e⟩:=ax.mp z
  obtain ⟨j,hj,ej⟩:=bx hc'
  rw [bE] at hj
  rw [d3] at ej
  have ei:=(aN.mp ec).2
  have:=(du (h₀:=by rw [aa];lia) (h₁:=by rw [aa];lia) nd (i:=j) (j:=i)).mp (by rw [eB,eB,ej,ei];exact e)
  lia
theorem go_bf {cs:List (Key×V)}(nd:(cs.map (·.1)).Nodup)(hv:∀m,wp R m≠some .non)(h:qw0 (wp R) cs):qw0 (wp (exK R cs)) (bfK R cs):=λc hc hn=>by
 obtain ⟨c0,h0,rfl⟩:=ax.mp hc
 have hn:(wp R c0.1).getD .non=.non:=hn
 show (wp (exK R cs) c0.1).isSome=true
 rw [yy cs R nd,ovr,jx nd h0]
 by_cases z:c0.2=.non
 ·have:=h c0 h0 z
  obtain ⟨v,ev⟩:=bh.mp this
  rw [ev] at hn
  have hn:v=.non:=hn
  rw [hn] at ev
  exact absurd ev (hv _)
 ·cases e:c0.2 <;> first | rfl | exact absurd e z
theorem ww9 (nd:(R.map (·.1)).Nodup)(c:Key×V):((ex1 R c).map (·.1)).Nodup:=by
 unfold ex1
 split
 ·unfold y3
  exact nd.sublist (List.Sublist.map _ List.filter_sublist)
 ·cases e:wp R c.1 with
  |none =>
   rw [Qf _ e,bg,fo]
   refine ⟨nd,aY.mpr ⟨af,aS⟩,λx hx y hy z=>?_⟩
   have hy:y=c.1:=aq.mp hy
   obtain ⟨p,hp,rfl⟩:=ax.mp hx
   have:=jx nd hp
   rw [z,hy,e] at this
   cases this
  |some v=>rw [wqk e];exact nd
theorem wvw (nd:(R.map (·.1)).Nodup):∀cs:List (Key×V),((exK R cs).map (·.1)).Nodup:=λcs=>by
 induction cs generalizing R with
 |nil=>exact nd
 |cons c cs ih=>exact ih (ww9 nd c)
def RefsF (f:Key→Option V):Prop:=∀m v,f m=some v→∃n a,m=.inr n∧v=.ref a
def Qu (cs:List (Key×V)):Prop:=∀c∈cs,∃n,c.1=.inr n∧(c.2=.non∨∃a,c.2=.ref a)
theorem RefsF.ovr {f:Key→Option V}(h:RefsF f){cs:List (Key×V)}(hc:Qu cs):RefsF (ovr f cs):=λm v e=>by
 unfold My.ovr at e
 cases e2:wp cs m with
 |none=>rw [e2] at e;exact h m v e
 |some u =>
  obtain ⟨n,e3,e4⟩:=hc _ (qqn e2)
  have e3:m=.inr n:=e3
  rcases e4 with e4|⟨a,e4⟩
  ·have e4:u=.non:=e4
   rw [e2,e4] at e
   cases e
  ·have e4:u=.ref a:=e4
   rw [e2,e4] at e
   cases e
   exact ⟨n,a,e3,rfl⟩
theorem RefsF.non {f:Key→Option V}(h:RefsF f)(m:Key):f m≠some .non:=λz=>by
 obtain ⟨_,_,_,e⟩:=h m _ z
 cases e
theorem RefsF.bf (h:RefsF (wp R)){cs:List (Key×V)}(hc:Qu cs):Qu (bfK R cs):=λc hc'=>by
 obtain ⟨c0,h0,rfl⟩:=ax.mp hc'
 obtain ⟨n,e,_⟩:=hc c0 h0
 refine ⟨n,e,?_⟩
 show (wp R c0.1).getD .non=.non∨_
 cases e2:wp R c0.1 with
 |none=>exact .inl rfl
 |some v =>
  obtain ⟨_,a,_,e3⟩:=h _ _ e2
  exact .inr ⟨a,e3⟩
structure Deed where
 tp:Aj
 q1:Aj
 q2:Aj
 cs1:List (Key×V)
 cs2:List (Key×V)
def DeedAt (H:Hp)(d:Deed):Prop:=H d.tp=some (.tup [.ref d.q1,.ref d.q2])∧Rd H d.q1 (.dK d.cs1)∧Rd H d.q2 (.dK d.cs2)
structure DeedOk (d:Deed):Prop where
 nd1:(d.cs1.map (·.1)).Nodup
 nd2:(d.cs2.map (·.1)).Nodup
 l1:d.cs1.length≤1000
 l2:d.cs2.length≤1000
 r1:Qu d.cs1
 r2:Qu d.cs2
 ne:d.q1≠d.q2
def ym (ds:List Deed):List Aj:=ds.flatMap λd=>[d.q1,d.q2]
def uf (ds:List Deed):List V:=ds.reverse.map λd=>V.ref d.tp
theorem wq1 (d:Deed)(ds:List Deed):uf (d::ds)=uf ds++[.ref d.tp]:=by
 unfold uf
 rw [List.reverse_cons,bg]
 rfl
theorem j7 (ds:List Deed):(uf ds).length=ds.length:=by
 unfold uf
 rw [aa,List.length_reverse]
theorem Qv (ds:List Deed):Zt (uf ds):=λv hv=>by
 obtain ⟨d,_,rfl⟩:=ax.mp hv
 exact ⟨_,rfl⟩
variable {ds:List Deed}
theorem qwm {d:Deed}(h:d∈ds):d.q1∈ym ds∧d.q2∈ym ds:=⟨ca.mpr ⟨d,h,by simp⟩,ca.mpr ⟨d,h,by simp⟩⟩
def Und:(Key→Option V)→(Key→Option V)→List Deed→Prop
 |_,_,[]=>True
 |f,g,d::ds=>qw0 f d.cs1∧qw0 g d.cs2∧Und (ovr f d.cs1) (ovr g d.cs2) ds
structure Ho where
 x:Aj
 dr:Aj
 dw:Aj
 dd:Aj
 R:List (Key×V)
 W:List (Key×V)
 ds:List Deed
structure HoAt (C:Aj)(H:Hp)(o:Ho):Prop where
 hs:Hse C H o.x o.dr o.dw o.dd o.R o.W (uf o.ds)
 da:∀d∈o.ds,DeedAt H d∧DeedOk d
 nq:∀q∈ym o.ds,q≠o.dr∧q≠o.dw
 un:Und (wp o.R) (wp o.W) o.ds
 nR:(o.R.map (·.1)).Nodup
 nW:(o.W.map (·.1)).Nodup
 fR:RefsF (wp o.R)
 fW:RefsF (wp o.W)
variable {o:Ho}
theorem HoAt.dl (h:HoAt C H o):Dl H [o.dr,o.dw,o.dd]:=h.hs.dl (Qv _) .nil
theorem HoAt.frame (h:HoAt C H o){ch:List Aj}(k:Kb ch H H')(dl:Dl H ch)(n:o.x∉ch∧o.dr∉ch∧o.dw∉ch∧o.dd∉ch)(rd:∀q∈ch,q∈ym o.ds→∀kv,Rd H q (.dK kv)→Rd H' q (.dK kv)):HoAt C H' o:=by
 refine ⟨h.hs.kb k n,λd hd=>?_,h.nq,h.un,h.nR,h.nW,h.fR,h.fW⟩
 obtain ⟨⟨a,b,c⟩,e⟩:=h.da d hd
 obtain ⟨m1,m2⟩:=qwm hd
 refine ⟨⟨dl.tup k a,?_,?_⟩,e⟩
 ·by_cases z:d.q1∈ch
  ·exact rd _ z m1 _ b
  ·exact k.rd z b
 ·by_cases z:d.q2∈ch
  ·exact rd _ z m2 _ c
  ·exact k.rd z c
theorem HoAt.same (h:HoAt C H o)(s:Same H H'):HoAt C H' o:=h.frame (ch:=[]) (Kb.of s) Dl.nil ⟨af,af,af,af⟩ λq z=>nomatch z
def Ho.did (o:Ho)(tp q1 q2:Aj)(cs1 cs2:List (Key×V)):Ho:={ o with R:=exK o.R cs1,W:=exK o.W cs2,ds:=⟨tp,q1,q2,bfK o.R cs1,bfK o.W cs2⟩::o.ds }
theorem qvs {f f' g g':Key→Option V}(ef:∀m,f m=f' m)(eg:∀m,g m=g' m){ds:List Deed}(h:Und f g ds):Und f' g' ds:=by
 have a:f=f':=funext ef
 have b:g=g':=funext eg
 subst a b
 exact h
theorem HoAt.did (h:HoAt C H o){cs1 cs2:List (Key×V)}(g:Zv C H H' o.x o.dr o.dw o.dd o.R o.W (uf o.ds) cs1 cs2)(nd1:(cs1.map (·.1)).Nodup)(nd2:(cs2.map (·.1)).Nodup)(l1:cs1.length≤1000)(l2:cs2.length≤1000)(r1:Qu cs1)(r2:Qu cs2)(g1:qw0 (wp o.R) cs1)(g2:qw0 (wp o.W) cs2):∃tp q1 q2,H tp=none∧H q1=none∧H q2=none∧HoAt C H' (o.did tp q1 q2 cs1 cs2)∧Kb [o.dr,o.dw,o.dd] H H':=by
 obtain ⟨tp,q1,q2,n0,n1,n2,h1,ft,f1,f2,ne,kb⟩:=g
 have hq:∀q∈ym o.ds,∃kv,Rd H q (.dK kv):=λq hq=>by
  obtain ⟨d,hd,hq⟩:=ca.mp hq
  obtain ⟨⟨_,a,b⟩,_⟩:=h.da d hd
  simp only [ae,af,aG] at hq
  rcases hq with rfl|rfl
  ·exact ⟨_,a⟩
  ·exact ⟨_,b⟩
 have nin:∀q∈ym o.ds,q∉[o.dr,o.dw,o.dd]:=λq hm z=>by
  obtain ⟨kv,e⟩:=hq q hm
  have nq:=h.nq q hm
  simp only [ae,af,aG] at z
  rcases z with z|z|z
  ·exact nq.1 z
  ·exact nq.2 z
  ·rcases e with e|⟨u,e⟩ <;> (rw [z,h.hs.d] at e;cases e)
 refine ⟨tp,q1,q2,n0,n1,n2,⟨by show Hse C H' o.x o.dr o.dw o.dd _ _ (uf (_::o.ds));rw [wq1];exact h1,λd hd=>?_,λq hm=>?_,?_,wvw h.nR _,wvw h.nW _,?_,?_⟩,kb⟩
 ·rcases ae.mp hd with rfl|hd
  ·exact ⟨⟨ft,.inl f1,.inl f2⟩,⟨by show ((bfK o.R cs1).map (·.1)).Nodup;rw [wzn];exact nd1,by show ((bfK o.W cs2).map (·.1)).Nodup;rw [wzn];exact nd2,by show (bfK o.R cs1).length≤_;unfold bfK;rw [aa];exact l1,by show (bfK o.W cs2).length≤_;unfold bfK;rw [aa];exact l2,h.fR.bf r1,h.fW.bf r2,ne⟩⟩
  ·obtain ⟨⟨a,b,c⟩,e⟩:=h.da d hd
   obtain ⟨m1,m2⟩:=qwm hd
   exact ⟨⟨h.dl.tup kb a,kb.rd (nin _ m1) b,kb.rd (nin _ m2) c⟩,e⟩
 ·have hm:q∈q1::q2::ym o.ds:=hm
  rcases ae.mp hm with rfl|hm
  ·exact ⟨(qh h.hs.r n1).symm,(qh h.hs.w n1).symm⟩
  ·rcases ae.mp hm with rfl|hm
   ·exact ⟨(qh h.hs.r n2).symm,(qh h.hs.w n2).symm⟩
   ·exact h.nq q hm
 ·exact ⟨go_bf nd1 h.fR.non g1,go_bf nd2 h.fW.non g2,qvs (λm=>(qjc nd1 h.fR.non m).symm) (λm=>(qjc nd2 h.fW.non m).symm) h.un⟩
 ·show RefsF (wp (exK o.R cs1))
  rw [show wp (exK o.R cs1)=ovr (wp o.R) cs1 from funext (yy cs1 o.R nd1)]
  exact h.fR.ovr r1
 ·show RefsF (wp (exK o.W cs2))
  rw [show wp (exK o.W cs2)=ovr (wp o.W) cs2 from funext (yy cs2 o.W nd2)]
  exact h.fW.ovr r2
def Ho.undo (o:Ho)(d:Deed)(ds:List Deed):Ho:={ o with R:=exK o.R d.cs1,W:=exK o.W d.cs2,ds:=ds }
theorem wk7 {kv kv':List (Key×V)}(h:Rd H q (.dK kv))(h':Rd H q (.dK kv')):kv=kv':=by
 rcases h with h|⟨u,h⟩ <;> rcases h' with h'|⟨u',h'⟩ <;> (rw [h] at h';cases h') <;> rfl
variable {CN:Aj}
theorem HoAt.take {d:Deed}(h:HoAt C H o)(ed:o.ds=d::ds)(lR:o.R.length≤1000)(lW:o.W.length≤1000)
  (k:∀H',HoAt C H' (o.undo d ds)→Kb [o.dr,o.dw,o.dd,d.q1,d.q2] H H'→Dl H [o.dr,o.dw,o.dd,d.q1,d.q2]→(∀q kv,q∉[o.dr,o.dw,o.dd]→Rd H q (.dK kv)→Rd H' q (.dK kv))→Q .non H'):qwt C CN [.ref o.x] H Q E:=by
 have hh:=h.hs
 rw [ed,wq1] at hh
 have hd:d∈o.ds:=by rw [ed];exact ay ..
 obtain ⟨⟨dt,d1,d2⟩,dk⟩:=h.da d hd
 have m:=qwm hd
 have un:=h.un
 rw [ed] at un
 obtain ⟨u1,u2,u3⟩:=un
 refine ⟨o.x,o.dr,o.dw,o.dd,o.R,o.W,gI rfl ⟨hh,lR,lW,(λz=>absurd z (cM _ (fH _ _))),λD' v e=>?_⟩⟩
 obtain ⟨e1,e2⟩:=List.append_inj' e rfl
 cases e2
 have nq1:=h.nq _ m.1
 have nq2:=h.nq _ m.2
 refine ⟨d.tp,d.q1,d.q2,d.cs1,d.cs2,rfl,dt,d1,d2,dk.ne,nq1.1,nq1.2,nq2.1,nq2.2,dk.nd1,dk.nd2,dk.l1,dk.l2,wzm dk.nd1 u1,wzm dk.nd2 u2,λH' hs' r1 r2 kb=>?_⟩
 rw [←e1] at hs'
 have dl:Dl H [o.dr,o.dw,o.dd,d.q1,d.q2]:=h.hs.dl (Qv _) (.cons (.inl ⟨_,d1⟩) (.cons (.inl ⟨_,d2⟩) .nil))
 have rdk:∀q kv,q∉[o.dr,o.dw,o.dd]→Rd H q (.dK kv)→Rd H' q (.dK kv):=λq kv nq e=>by
  by_cases z1:q=d.q1
  ·subst z1;rw [wk7 e d1];exact r1
  ·by_cases z2:q=d.q2
   ·subst z2;rw [wk7 e d2];exact r2
   ·refine kb.rd (λz=>?_) e
    simp only [ae,af,aG] at z nq
    rcases z with z|z|z|z|z
    ·exact nq (.inl z)
    ·exact nq (.inr (.inl z))
    ·exact nq (.inr (.inr z))
    ·exact z1 z
    ·exact z2 z
 have nin:∀q∈ym o.ds,(∃kv,Rd H q (.dK kv))→q∉[o.dr,o.dw,o.dd]:=λq hm ⟨kv,e⟩ z=>by
  have nq:=h.nq q hm
  simp only [ae,af,aG] at z
  rcases z with z|z|z
  ·exact nq.1 z
  ·exact nq.2 z
  ·rcases e with e|⟨u,e⟩ <;> (rw [z,h.hs.d] at e;cases e)
 have sub:∀q∈ym ds,q∈ym o.ds:=λq hq=>by rw [ed];exact au _ (au _ hq)
 refine k H' ⟨hs',λd' hd'=>?_,λq hq=>h.nq q (sub q hq),?_,wvw h.nR _,wvw h.nW _,?_,?_⟩ kb dl rdk
 ·have hd'':d'∈o.ds:=by rw [ed];exact au _ hd'
  obtain ⟨⟨a,b,c⟩,e⟩:=h.da d' hd''
  obtain ⟨m1,m2⟩:=qwm hd''
  exact ⟨⟨dl.tup kb a,rdk _ _ (nin _ m1 ⟨_,b⟩) b,rdk _ _ (nin _ m2 ⟨_,c⟩) c⟩,e⟩
 ·exact qvs (λm=>(yy d.cs1 o.R dk.nd1 m).symm) (λm=>(yy d.cs2 o.W dk.nd2 m).symm) u3
 ·show RefsF (wp (exK o.R d.cs1))
  rw [show wp (exK o.R d.cs1)=ovr (wp o.R) d.cs1 from funext (yy _ _ dk.nd1)]
  exact h.fR.ovr dk.r1
 ·show RefsF (wp (exK o.W d.cs2))
  rw [show wp (exK o.W d.cs2)=ovr (wp o.W) d.cs2 from funext (yy _ _ dk.nd2)]
  exact h.fW.ovr dk.r2
structure Wk where
 wh:Str
 pt:Int×Int
 tv:List (List Key×V)
structure AH where
 rs:Str→Option (List Int)
 ws:Str→Option Wk
def AH.putW (a:AH)(n:Str)(w:Wk):AH:={ a with ws:=λm=>if m=n then some w else a.ws m }
def AH.delW (a:AH)(n:Str):AH:={ a with ws:=λm=>if m=n then none else a.ws m }
def AH.putR (a:AH)(n:Str)(hs:List Int):AH:={ a with rs:=λm=>if m=n then some hs else a.rs m }
def RRep (CR:Aj)(H:Hp)(o:Option V):Option (List Int)→Prop
 |none=>o=none
 |some hs=>∃r,o=some (.ref r)∧RoadAt CR H r hs
def WRep (CW:Aj)(H:Hp)(o:Option V):Option Wk→Prop
 |none=>o=none
 |some w=>∃y p t,o=some (.ref y)∧WkAt CW H y w.wh p w.pt t w.tv
structure AOk (a:AH):Prop where
 lo:∀n hs,a.rs n=some hs→xt hs
 wo:∀n w,a.ws n=some w→TmOk w.tv∧∃hs,a.rs w.wh=some hs∧HPt hs w.pt
structure Rep (CR CW:Aj)(H:Hp)(f g:Key→Option V)(a:AH):Prop where
 r:∀n,RRep CR H (f (.inr n)) (a.rs n)
 w:∀n,WRep CW H (g (.inr n)) (a.ws n)
 ok:AOk a
variable {a:AH}
theorem Rep.dl {CR:Aj}{f g:Key→Option V}(h:Rep CR CW H f g a){ch:List Aj}(d:Dl H ch)(k:Kb ch H H'):Rep CR CW H' f g a:=by
 refine ⟨λn=>?_,λn=>?_,h.ok⟩
 ·have:=h.r n
  have lo:=h.ok.lo n
  cases e:a.rs n with
  |none=>rw [e] at this;exact this
  |some hs =>
   rw [e] at this
   obtain ⟨r,e1,ra⟩:=this
   exact ⟨r,e1,d.road k (lo hs e) ra⟩
 ·have:=h.w n
  cases e:a.ws n with
  |none=>rw [e] at this;exact this
  |some w =>
   rw [e] at this
   obtain ⟨y,p,t,e1,wk⟩:=this
   exact ⟨y,p,t,e1,d.wk k wk⟩
def Hist (CR CW:Aj)(H:Hp):List AH→(Key→Option V)→(Key→Option V)→List Deed→Prop
 |[],_,_,_=>True
 |a::as,f,g,ds=>Rep CR CW H f g a∧((ds=[]∧as=[])∨∃d ds',ds=d::ds'∧Hist CR CW H as (ovr f d.cs1) (ovr g d.cs2) ds')
theorem Hist.dl {CR:Aj}(d:Dl H ch)(k:Kb ch H H'):∀ {as:List AH} {f g:Key→Option V} {ds:List Deed},Hist CR CW H as f g ds→Hist CR CW H' as f g ds
 |[],_,_,_,_=>trivial
 |a::as,f,g,ds,h=>by
  obtain ⟨h1,h2⟩:=h
  refine ⟨h1.dl d k,?_⟩
  rcases h2 with h2|⟨d',ds',e,h2⟩
  ·exact .inl h2
  ·exact .inr ⟨d',ds',e,Hist.dl d k h2⟩
structure VH (C CR CW:Aj)(H:Hp)(o:Ho)(as:List AH):Prop where
 h:HoAt C H o
 t:Hist CR CW H as (wp o.R) (wp o.W) o.ds
variable {as:List AH}
theorem VH.same {CR:Aj}(v:VH C CR CW H o as)(s:Same H H'):VH C CR CW H' o as:=⟨v.h.same s,Hist.dl (ch:=[]) Dl.nil (Kb.of s) v.t⟩
theorem VH.rep {CR:Aj}(v:VH C CR CW H o (a::as)):Rep CR CW H (wp o.R) (wp o.W) a:=v.t.1
structure Nxt (H:Hp)(o o':Ho):Prop where
 x:o'.x=o.x
 dr:o'.dr=o.dr
 dw:o'.dw=o.dw
 dd:o'.dd=o.dd
 ds:∃d,o'.ds=d::o.ds∧H d.q1=none∧H d.q2=none
structure Prv (o o':Ho):Prop where
 x:o'.x=o.x
 dr:o'.dr=o.dr
 dw:o'.dw=o.dw
 dd:o'.dd=o.dd
 ds:∃d,o.ds=d::o'.ds
theorem VH.did {CR:Aj}{a':AH}(v:VH C CR CW H o (a::as)){cs1 cs2:List (Key×V)}(g:Zv C H H' o.x o.dr o.dw o.dd o.R o.W (uf o.ds) cs1 cs2)(nd1:(cs1.map (·.1)).Nodup)(nd2:(cs2.map (·.1)).Nodup)(l1:cs1.length≤1000)(l2:cs2.length≤1000)(r1:Qu cs1)(r2:Qu cs2)(g1:qw0 (wp o.R) cs1)(g2:qw0 (wp o.W) cs2)(rp:Kb [o.dr,o.dw,o.dd] H H'→Rep CR CW H' (ovr (wp o.R) cs1) (ovr (wp o.W) cs2) a') :
  ∃o',Nxt H o o'∧VH C CR CW H' o' (a'::a::as)∧Kb [o.dr,o.dw,o.dd] H H':=by
 obtain ⟨tp,q1,q2,n0,n1,n2,h',kb⟩:=v.h.did g nd1 nd2 l1 l2 r1 r2 g1 g2
 refine ⟨o.did tp q1 q2 cs1 cs2,⟨rfl,rfl,rfl,rfl,⟨⟨tp,q1,q2,bfK o.R cs1,bfK o.W cs2⟩,rfl,n1,n2⟩⟩,⟨h',?_⟩,kb⟩
 have e1:wp (exK o.R cs1)=ovr (wp o.R) cs1:=funext (yy cs1 o.R nd1)
 have e2:wp (exK o.W cs2)=ovr (wp o.W) cs2:=funext (yy cs2 o.W nd2)
 refine ⟨by show Rep CR CW H' (wp (exK o.R cs1)) (wp (exK o.W cs2)) a';rw [e1,e2];exact rp kb,.inr ⟨_,o.ds,rfl,?_⟩⟩
 show Hist CR CW H' (a::as) (ovr (wp (exK o.R cs1)) (bfK o.R cs1)) (ovr (wp (exK o.W cs2)) (bfK o.W cs2)) o.ds
 rw [show ovr (wp (exK o.R cs1)) (bfK o.R cs1)=wp o.R from funext (qjc nd1 v.h.fR.non),show ovr (wp (exK o.W cs2)) (bfK o.W cs2)=wp o.W from funext (qjc nd2 v.h.fW.non)]
 exact Hist.dl v.h.dl kb v.t
structure Nam (NM:List Str)(a:AH):Prop where
 r:∀n,(a.rs n).isSome=true→n∈NM
 w:∀n,(a.ws n).isSome=true→n∈NM
theorem qq7 [DecidableEq α]:∀(l m:List α),l.Nodup→(∀x∈l,x∈m)→l.length≤m.length
 |[],_,_,_=>aD _
 |a::l,m,nd,h=>by
  obtain ⟨n1,n2⟩:=aY.mp nd
  have ha:=h a (ay ..)
  have:=qq7 l (m.erase a) n2 λx hx=>(List.mem_erase_of_ne (λz=>n1 (by rw [←z];exact hx))).mpr (h x (au _ hx))
  rw [fy ha] at this
  have:=dX ha
  rw [aO]
  lia
variable {NM:List Str}
theorem qk4 (nd:(R.map (·.1)).Nodup)(h:∀k v,wp R k=some v→∃n,k=.inr n∧n∈NM):R.length≤NM.length:=by
 have:=qq7 (R.map (·.1)) (NM.map Sum.inr) nd λk hk=>by
  obtain ⟨c,hc,rfl⟩:=ax.mp hk
  obtain ⟨n,e,hn⟩:=h _ _ (jx nd hc)
  rw [e]
  exact ax.mpr ⟨n,hn,rfl⟩
 rwa [aa,aa] at this
theorem VH.lens {CR:Aj}(v:VH C CR CW H o (a::as)){NM:List Str}(nm:Nam NM a):o.R.length≤NM.length∧o.W.length≤NM.length:=by
 refine ⟨qk4 v.h.nR λk u e=>?_,qk4 v.h.nW λk u e=>?_⟩
 ·obtain ⟨n,_,rfl,_⟩:=v.h.fR k u e
  refine ⟨n,rfl,nm.r n ?_⟩
  have:=v.rep.r n
  cases e2:a.rs n with
  |none =>
   rw [e2] at this
   have this:wp o.R (.inr n)=none:=this
   rw [this] at e;cases e
  |some _=>rfl
 ·obtain ⟨n,_,rfl,_⟩:=v.h.fW k u e
  refine ⟨n,rfl,nm.w n ?_⟩
  have:=v.rep.w n
  cases e2:a.ws n with
  |none =>
   rw [e2] at this
   have this:wp o.W (.inr n)=none:=this
   rw [this] at e;cases e
  |some _=>rfl
theorem Rep.road {CR:Aj}{f g:Key→Option V}(h:Rep CR CW H f g a){n:Str}{hs:List Int}(e:a.rs n=some hs):∃r,f (.inr n)=some (.ref r)∧RoadAt CR H r hs:=by
 have:=h.r n
 rw [e] at this
 exact this
theorem Rep.wk {CR:Aj}{f g:Key→Option V}(h:Rep CR CW H f g a){n:Str}{w:Wk}(e:a.ws n=some w):∃y p t,g (.inr n)=some (.ref y)∧WkAt CW H y w.wh p w.pt t w.tv:=by
 have:=h.w n
 rw [e] at this
 exact this
theorem Rep.noR {CR:Aj}{f g:Key→Option V}(h:Rep CR CW H f g a){n:Str}(e:a.rs n=none):f (.inr n)=none:=by
 have:=h.r n
 rw [e] at this
 exact this
theorem Rep.noW {CR:Aj}{f g:Key→Option V}(h:Rep CR CW H f g a){n:Str}(e:a.ws n=none):g (.inr n)=none:=by
 have:=h.w n
 rw [e] at this
 exact this
theorem qqu {f:Key→Option V}{k:Key}(m:Key):ovr f [(k,v)] m=if m=k then (if v=.non then none else some v) else f m:=by
 unfold ovr
 by_cases z:k=m
 ·rw [vw z,ak z.symm]
  cases v <;> rfl
 ·rw [zt z,ai (aV z)]
  rfl
theorem Rep.putW {CR:Aj}{f g:Key→Option V}(h:Rep CR CW H f g a){n:Str}{w:Wk}{y p t:Aj}(wk:WkAt CW H y w.wh p w.pt t w.tv)(tm:TmOk w.tv){hs:List Int}(er:a.rs w.wh=some hs)(hp:HPt hs w.pt):Rep CR CW H (ovr f []) (ovr g [(.inr n,.ref y)]) (a.putW n w):=by
 refine ⟨h.r,λm=>?_,h.ok.lo,λm w' e=>?_⟩
 ·rw [qqu]
  show WRep CW H _ (if m=n then some w else a.ws m)
  by_cases z:m=n
  ·rw [ak z,ak (by rw [z]),ai (λq=>by cases q)]
   exact ⟨y,p,t,rfl,wk⟩
  ·rw [ai z,ai (λq=>z (by injection q))]
   exact h.w m
 ·have e:(if m=n then some w else a.ws m)=some w':=e
  by_cases z:m=n
  ·rw [ak z] at e
   cases e
   exact ⟨tm,hs,er,hp⟩
  ·rw [ai z] at e
   exact h.ok.wo m w' e
theorem Rep.delW {CR:Aj}{f g:Key→Option V}(h:Rep CR CW H f g a)(n:Str):Rep CR CW H (ovr f []) (ovr g [(.inr n,.non)]) (a.delW n):=by
 refine ⟨h.r,λm=>?_,h.ok.lo,λm w' e=>?_⟩
 ·rw [qqu]
  show WRep CW H _ (if m=n then none else a.ws m)
  by_cases z:m=n
  ·rw [ak z,ak (by rw [z]),ak rfl]
   rfl
  ·rw [ai z,ai (λq=>z (by injection q))]
   exact h.w m
 ·have e:(if m=n then none else a.ws m)=some w':=e
  by_cases z:m=n
  ·rw [ak z] at e;cases e
  ·rw [ai z] at e
   exact h.ok.wo m w' e
theorem qup:Qu [((Sum.inr n:Key),V.ref y)]:=λc hc=>by
 rw [aq.mp hc]
 exact ⟨n,rfl,.inr ⟨y,rfl⟩⟩
theorem quz:Qu [((Sum.inr n:Key),V.non)]:=λc hc=>by
 rw [aq.mp hc]
 exact ⟨n,rfl,.inl rfl⟩
theorem Wc:Qu []:=λc hc=>nomatch hc
theorem qxv {f:Key→Option V}:qw0 f []:=λc hc=>nomatch hc
theorem wu4 {f:Key→Option V}{k:Key}:qw0 f [(k,.ref y)]:=λc hc hn=>by
 rw [aq.mp hc] at hn
 cases hn
variable {wh:Str}
theorem WDeed.g {x:Aj}{pt:Int×Int}{t:Aj}(h:WDeed C CW H H' x dr dw dd R W D n wh p pt t tv):∃y,Zv C H H' x dr dw dd R W D [] [(.inr n,.ref y)]∧WkAt CW H' y wh p pt t tv:=by
 obtain ⟨y,tp,q1,q2,a1,a2,a3,a4,a5,a6,a7,a8,a9,b1⟩:=h
 refine ⟨y,⟨tp,q1,q2,a1,a2,a3,?_,a5,a6,a7,a8,b1⟩,a9⟩
 rw [wz7]
 exact a4
theorem RDeed.g {CR:Aj}{x:Aj}(h:RDeed C CR H H' x dr dw dd R W D n hs):∃r,Zv C H H' x dr dw dd R W D [(.inr n,.ref r)] []∧RoadAt CR H' r hs:=by
 obtain ⟨r,tp,q1,q2,a1,a2,a3,a4,a5,a6,a7,a8,a9,b1⟩:=h
 refine ⟨r,⟨tp,q1,q2,a1,a2,a3,?_,a5,a6,a7,a8,b1⟩,a9⟩
 rw [wz7]
 exact a4
theorem VH.walk {CR:Aj}(v:VH C CR CW H o (a::as)){n:Str}{w:Wk}{p t:Aj}(g:WDeed C CW H H' o.x o.dr o.dw o.dd o.R o.W (uf o.ds) n w.wh p w.pt t w.tv)(tm:TmOk w.tv){hs:List Int}(er:a.rs w.wh=some hs)(hp:HPt hs w.pt):∃o',Nxt H o o'∧VH C CR CW H' o' (a.putW n w::a::as)∧Kb [o.dr,o.dw,o.dd] H H':=by
 obtain ⟨y,gd,wk⟩:=g.g
 exact v.did gd aS qyk (aD _) (show 1≤1000 by decide) Wc qup qxv wu4 λkb=>(v.rep.dl v.h.dl kb).putW wk tm er hp
theorem VH.leave {CR:Aj}(v:VH C CR CW H o (a::as)){n:Str}{w:Wk}(e:a.ws n=some w)(g:Zv C H H' o.x o.dr o.dw o.dd o.R o.W (uf o.ds) [] [(.inr n,.non)]):∃o',Nxt H o o'∧VH C CR CW H' o' (a.delW n::a::as)∧Kb [o.dr,o.dw,o.dd] H H':=by
 obtain ⟨y,p,t,ey,_⟩:=v.rep.wk e
 exact v.did g aS qyk (aD _) (show 1≤1000 by decide) Wc quz qxv (λc hc _=>by rw [aq.mp hc,ey];rfl) λkb=>(v.rep.dl v.h.dl kb).delW n
theorem VH.take {CR:Aj}{b:AH}(v:VH C CR CW H o (a::b::as))(lR:o.R.length≤1000)(lW:o.W.length≤1000)
  (k:∀H' o' d,Prv o o'→o.ds=d::o'.ds→VH C CR CW H' o' (b::as)→Kb [o.dr,o.dw,o.dd,d.q1,d.q2] H H'→Dl H [o.dr,o.dw,o.dd,d.q1,d.q2]→(∀q kv,q∉[o.dr,o.dw,o.dd]→Rd H q (.dK kv)→Rd H' q (.dK kv))→Q .non H'):qwt C CN [.ref o.x] H Q E:=by
 obtain ⟨h1,h2⟩:=v.t
 rcases h2 with ⟨_,h2⟩|⟨d,ds,ed,h2⟩
 ·cases h2
 have hd:d∈o.ds:=by rw [ed];exact ay ..
 obtain ⟨_,dk⟩:=v.h.da d hd
 refine v.h.take ed lR lW λH' h' kb dl rdk=>k H' (o.undo d ds) d ⟨rfl,rfl,rfl,rfl,⟨d,ed⟩⟩ ed ⟨h',?_⟩ kb dl rdk
 show Hist CR CW H' (b::as) (wp (exK o.R d.cs1)) (wp (exK o.W d.cs2)) ds
 rw [show wp (exK o.R d.cs1)=ovr (wp o.R) d.cs1 from funext (yy _ _ dk.nd1),show wp (exK o.W d.cs2)=ovr (wp o.W) d.cs2 from funext (yy _ _ dk.nd2)]
 exact Hist.dl dl kb h2
structure Ap (o p:Ho):Prop where
 rr:o.dr≠p.dr
 rw_:o.dr≠p.dw
 wr:o.dw≠p.dr
 ww:o.dw≠p.dw
 dd:o.dd≠p.dd
 q1:∀q∈ym o.ds,q≠p.dr∧q≠p.dw
 q2:∀q∈ym p.ds,q≠o.dr∧q≠o.dw
theorem Ap.symm {p:Ho}(h:Ap o p):Ap p o:=⟨h.rr.symm,h.wr.symm,h.rw_.symm,h.ww.symm,h.dd.symm,h.q2,h.q1⟩
theorem Ap.x {o p:Ho}(hp:HoAt C H p){ch:List Aj}(dl:Dl H ch):p.x∉ch:=by
 obtain ⟨dx,e⟩:=hp.hs.ob
 exact dl.other e (λ_ z=>by cases z) (λ_ _ z=>by cases z) (λ_ _ z=>by cases z)
theorem Ap.stay {CR:Aj}{p:Ho}(h:Ap o p)(ho:HoAt C H o)(vp:VH C CR CW H p as)(kb:Kb [o.dr,o.dw,o.dd] H H'):VH C CR CW H' p as:=by
 have dl:=ho.dl
 refine ⟨vp.h.frame kb dl ⟨Ap.x (o:=o) vp.h dl,λz=>?_,λz=>?_,λz=>?_⟩ λq hq hm kv e=>?_,Hist.dl dl kb vp.t⟩
 ·simp only [ae,af,aG] at z
  rcases z with z|z|z
  ·exact h.rr z.symm
  ·exact h.wr z.symm
  ·have:=vp.h.hs.r;rw [z,ho.hs.d] at this;cases this
 ·simp only [ae,af,aG] at z
  rcases z with z|z|z
  ·exact h.rw_ z.symm
  ·exact h.ww z.symm
  ·have:=vp.h.hs.w;rw [z,ho.hs.d] at this;cases this
 ·simp only [ae,af,aG] at z
  rcases z with z|z|z
  ·have:=vp.h.hs.d;rw [z,ho.hs.r] at this;cases this
  ·have:=vp.h.hs.d;rw [z,ho.hs.w] at this;cases this
  ·exact h.dd z.symm
 ·simp only [ae,af,aG] at hq
  rcases hq with z|z|z
  ·exact absurd z (h.q2 q hm).1
  ·exact absurd z (h.q2 q hm).2
  ·rcases e with e|⟨u,e⟩ <;> (rw [z,ho.hs.d] at e;cases e)
variable {o':Ho}
theorem Ap.nxt {p:Ho}(h:Ap o p)(hp:HoAt C H p)(n:Nxt H o o'):Ap o' p:=by
 obtain ⟨d,e,n1,n2⟩:=n.ds
 refine ⟨by rw [n.dr];exact h.rr,by rw [n.dr];exact h.rw_,by rw [n.dw];exact h.wr,by rw [n.dw];exact h.ww,by rw [n.dd];exact h.dd,λq hq=>?_,λq hq=>by rw [n.dr,n.dw];exact h.q2 q hq⟩
 rw [e] at hq
 have hq:q∈d.q1::d.q2::ym o.ds:=hq
 rcases ae.mp hq with rfl|hq
 ·exact ⟨(qh hp.hs.r n1).symm,(qh hp.hs.w n1).symm⟩
 ·rcases ae.mp hq with rfl|hq
  ·exact ⟨(qh hp.hs.r n2).symm,(qh hp.hs.w n2).symm⟩
  ·exact h.q1 q hq
theorem Ap.prv {p:Ho}(h:Ap o p)(n:Prv o o'):Ap o' p:=by
 obtain ⟨d,e⟩:=n.ds
 refine ⟨by rw [n.dr];exact h.rr,by rw [n.dr];exact h.rw_,by rw [n.dw];exact h.wr,by rw [n.dw];exact h.ww,by rw [n.dd];exact h.dd,λq hq=>h.q1 q ?_,λq hq=>by rw [n.dr,n.dw];exact h.q2 q hq⟩
 rw [e]
 exact au _ (au _ hq)
theorem Ap.back {CR:Aj}{p:Ho}{d:Deed}(h:Ap o p)(ho:HoAt C H o)(ed:o.ds=d::ds)(vp:VH C CR CW H p as)(kb:Kb [o.dr,o.dw,o.dd,d.q1,d.q2] H H')(dl:Dl H [o.dr,o.dw,o.dd,d.q1,d.q2])(rdk:∀q kv,q∉[o.dr,o.dw,o.dd]→Rd H q (.dK kv)→Rd H' q (.dK kv)):VH C CR CW H' p as:=by
 have hd:d∈o.ds:=by rw [ed];exact ay ..
 have m:=qwm hd
 have a1:=h.q1 _ m.1
 have a2:=h.q1 _ m.2
 obtain ⟨⟨_,r1,r2⟩,_⟩:=ho.da d hd
 refine ⟨vp.h.frame kb dl ⟨Ap.x (o:=o) vp.h dl,λz=>?_,λz=>?_,λz=>?_⟩ λq hq hm kv e=>rdk q kv (λz=>?_) e,Hist.dl dl kb vp.t⟩
 ·simp only [ae,af,aG] at z
  rcases z with z|z|z|z|z
  ·exact h.rr z.symm
  ·exact h.wr z.symm
  ·have:=vp.h.hs.r;rw [z,ho.hs.d] at this;cases this
  ·exact a1.1 z.symm
  ·exact a2.1 z.symm
 ·simp only [ae,af,aG] at z
  rcases z with z|z|z|z|z
  ·exact h.rw_ z.symm
  ·exact h.ww z.symm
  ·have:=vp.h.hs.w;rw [z,ho.hs.d] at this;cases this
  ·exact a1.2 z.symm
  ·exact a2.2 z.symm
 ·simp only [ae,af,aG] at z
  rcases z with z|z|z|z|z
  ·have:=vp.h.hs.d;rw [z,ho.hs.r] at this;cases this
  ·have:=vp.h.hs.d;rw [z,ho.hs.w] at this;cases this
  ·exact h.dd z.symm
  ·rcases r1 with r1|⟨u,r1⟩ <;> (have:=vp.h.hs.d;rw [z,r1] at this;cases this)
  ·rcases r2 with r2|⟨u,r2⟩ <;> (have:=vp.h.hs.d;rw [z,r2] at this;cases this)
 ·simp only [ae,af,aG] at z
  rcases z with z|z|z
  ·exact absurd z (h.q2 q hm).1
  ·exact absurd z (h.q2 q hm).2
  ·rcases e with e|⟨u,e⟩ <;> (rw [z,ho.hs.d] at e;cases e)
theorem VH.twin {CR:Aj}(v:VH C CR CW H o as){x' dr' dw' dd':Aj}(s:Same H H')(n1:H x'=none)(n2:H dr'=none)(n3:H dw'=none)(n4:H dd'=none)(h':Hse C H' x' dr' dw' dd' o.R o.W (uf o.ds)):VH C CR CW H' ⟨x',dr',dw',dd',o.R,o.W,o.ds⟩ as∧Ap o ⟨x',dr',dw',dd',o.R,o.W,o.ds⟩:=by
 have vs:=v.same s
 have hq:∀q∈ym o.ds,∃kv,Rd H q (.dK kv):=λq hq=>by
  obtain ⟨d,hd,hq⟩:=ca.mp hq
  obtain ⟨⟨_,a,b⟩,_⟩:=v.h.da d hd
  simp only [ae,af,aG] at hq
  rcases hq with rfl|rfl
  ·exact ⟨_,a⟩
  ·exact ⟨_,b⟩
 have nn:∀q∈ym o.ds,q≠dr'∧q≠dw':=λq hm=>by
  obtain ⟨kv,e|⟨u,e⟩⟩:=hq q hm <;> exact ⟨qh e n2,qh e n3⟩
 exact ⟨⟨⟨h',vs.h.da,nn,vs.h.un,vs.h.nR,vs.h.nW,vs.h.fR,vs.h.fW⟩,vs.t⟩,⟨qh v.h.hs.r n2,qh v.h.hs.r n3,qh v.h.hs.w n2,qh v.h.hs.w n3,qh v.h.hs.d n4,nn,v.h.nq⟩⟩
def jh (c:Key×V):Str:=match c.1 with | .inr n=>n | .inl _ => ""
theorem y0 (nd:(W.map (·.1)).Nodup)(h:RefsF (wp W)):W.map (·.1)=(W.map jh).map Sum.inr∧(W.map jh).Nodup:=by
 have e:W.map (·.1)=(W.map jh).map Sum.inr:=by
  rw [bK]
  refine cF λc hc=>?_
  obtain ⟨n,_,e,_⟩:=h _ _ (jx nd hc)
  show c.1=Sum.inr (jh c)
  unfold jh
  rw [e]
 refine ⟨e,?_⟩
 rw [e] at nd
 exact (bJ.mp nd).imp λ{x y} hxy z=>hxy (by rw [z])
noncomputable def AH.tog (a:AH) (whose:Str) (hs:List Int) (m:Nat) (tv:Str→List (List Key×V)):AH:={ a with ws:=λn=>match a.ws n with|none=>none|some w=>if w.wh=whose then some ⟨whose,itP hs w.pt m,tv n⟩ else some w }
theorem VH.togs {CR CC:Aj}{m:Int}(v:VH C CR CW H o (a::as)){NM:List Str}(nm:Nam NM a)(lN:NM.length<60)(lD:o.ds.length≤10000)(er:a.rs whose=some hs)(wi:Within m 0 (some 1000000000000000000000000000000000000000000000000000000000000))
  (k:∀l H' o' tv,Nxt H o o'→VH C CR CW H' o' (a.tog whose hs m.toNat tv::a::as)→(∀n w,a.ws n=some w→w.wh=whose→TmOk (tv n)∧qug hs w.pt m.toNat w.tv (tv n))→Kb [o.dr,o.dw,o.dd] H H'→H l=none→(∃(ms:List Str) (ys:List V),ms.Nodup∧(∀n,n∈ms↔∃w,a.ws n=some w∧w.wh=whose)∧ms.Pairwise (λx y=>¬ y.cps.toList<x.cps.toList)∧H' l=some (.lst ys)∧ys.length=ms.length∧∀(j:Nat) n,ms[j]?=some n→∃q p w,a.ws n=some w∧ys[j]?=some (.ref q)∧H' q=some (.tup [.str n,.ref p])∧H' p=some (.tup [.int (itP hs w.pt m.toNat).1,.int (itP hs w.pt m.toNat).2]))→Q (.ref l) H'):quh C CR CW CN CC [.ref o.x,.str whose,.int m] H Q E:=by
 obtain ⟨r,err,ra⟩:=v.rep.road er
 have lens:=v.lens nm
 refine ⟨o.x,o.dr,o.dw,o.dd,o.R,o.W,_,whose,m,rfl,v.h.hs,⋯,by rw [j7];lia,(λz=>by rw [err] at z;cases z),λu eu=>?_⟩
 rw [err] at eu
 cases eu
 refine ⟨r,hs,rfl,ra,(λz=>absurd wi z),λ_=>?_⟩
 obtain ⟨ek,ndk⟩:=y0 v.h.nW v.h.fW
 have inW:∀n,n∈o.W.map jh↔∃w,a.ws n=some w:=λn=>by
  have:n∈o.W.map jh↔(Sum.inr n:Key)∈o.W.map (·.1):=by
   rw [ek]
   exact ⟨λh=>ax.mpr ⟨n,h,rfl⟩,λh=>by
    obtain ⟨n',h',e⟩:=ax.mp h
    have e:n'=n:=by injection e
    rw [←e];exact h'⟩
  rw [this]
  constructor
  ·intro h
   obtain ⟨c,hc,e⟩:=ax.mp h
   have:=jx v.h.nW hc
   rw [e] at this
   cases e2:a.ws n with
   |none=>rw [v.rep.noW e2] at this;cases this
   |some w=>exact ⟨w,rfl⟩
  ·rintro ⟨w,e⟩
   obtain ⟨y,p,t,ey,_⟩:=v.rep.wk e
   exact ax.mpr ⟨_,qqn ey,rfl⟩
 refine ⟨o.W.map jh,λn=>match a.ws n with | some w=>w.wh | none => "",λn=>match a.ws n with | some w=>w.pt | none=>(0,0),λn=>match a.ws n with | some w=>w.tv | none=>[],⟨ek,⋯,ndk,λn hn=>?_⟩,λn hn hw=>?_,λH' l cs ms ys pm srt g ec hG nl fl ly hy=>?_⟩
 ·obtain ⟨w,e⟩:=(inW n).mp hn
  obtain ⟨y,p,t,ey,wk⟩:=v.rep.wk e
  simp only [e]
  exact ⟨(v.rep.ok.wo n w e).1,y,p,t,ey,wk⟩
 ·obtain ⟨w,e⟩:=(inW n).mp hn
  simp only [e] at hw ⊢
  obtain ⟨_,hs',er',hp⟩:=v.rep.ok.wo n w e
  rw [hw,er] at er'
  cases er'
  exact hp
 ·have hms:∀n,n∈(ms.filter λs=>decide (V.str (match a.ws s with | some w=>w.wh | none => "")=V.str whose))↔∃w,a.ws n=some w∧w.wh=whose:=λn=>by
   rw [bz,pm.mem_iff,inW]
   constructor
   ·rintro ⟨⟨w,e⟩,h⟩
    simp only [e] at h
    have h:=bT h
    exact ⟨w,e,by injection h⟩
   ·rintro ⟨w,e,h⟩
    refine ⟨⟨w,e⟩,?_⟩
    simp [e,h]
  have ndm:ms.Nodup:=pm.nodup_iff.mpr ndk
  have ndf:=ndm.filter λs=>decide (V.str (match a.ws s with | some w=>w.wh | none => "")=V.str whose)
  have srf:=srt.filter λs=>decide (V.str (match a.ws s with | some w=>w.wh | none => "")=V.str whose)
  generalize (ms.filter λs=>decide (V.str (match a.ws s with | some w=>w.wh | none => "")=V.str whose))=mf at ec hms ndf srf
  have ndc:(cs.map (·.1)).Nodup:=by
   rw [ec]
   exact bJ.mpr (ndf.imp λ{x y} h z=>h (by injection z))
  have lcs:cs.length=mf.length:=by
   have:=bC List.length ec
   rwa [aa,aa] at this
  have lmf:mf.length≤o.W.length:=by
   have:=qq7 mf (o.W.map jh) ndf λn hn=>(inW n).mpr (by obtain ⟨w,e,_⟩:=(hms n).mp hn;exact ⟨w,e⟩)
   rwa [aa] at this
  have gone:∀n w,a.ws n=some w→w.wh=whose→∃y p t tv,wp cs (.inr n)=some (.ref y)∧WkAt CW H' y whose p (itP hs w.pt m.toNat) t tv∧TmOk tv∧qug hs w.pt m.toNat w.tv tv:=λn w e h=>by
   have hk:(Sum.inr n:Key)∈cs.map (·.1):=by
    rw [ec]
    exact ax.mpr ⟨n,(hms n).mpr ⟨w,e,h⟩,rfl⟩
   obtain ⟨c,hc,ekc⟩:=ax.mp hk
   have ev:=jx ndc hc
   obtain ⟨s,_,_,es,y,p,t,tv,ey,wk,tm,hit⟩:=hG c hc
   have:s=n:=by rw [es] at ekc;injection ekc
   subst this
   simp only [e] at wk hit
   rw [es,ey] at ev
   exact ⟨y,p,t,tv,ev,wk,tm,hit⟩
  have nogo:∀n,(∀w,a.ws n=some w→w.wh≠whose)→wp cs (.inr n)=none:=λn h=>Z0 λz=>by
   rw [ec] at z
   obtain ⟨n',hn',e⟩:=ax.mp z
   have e:n'=n:=by injection e
   rw [e] at hn'
   obtain ⟨w,ew,hw⟩:=(hms n).mp hn'
   exact h w ew hw
  obtain ⟨tv,htv⟩:∃tv:Str→List (List Key×V),∀n w,a.ws n=some w→w.wh=whose→∃y p t,wp cs (.inr n)=some (.ref y)∧WkAt CW H' y whose p (itP hs w.pt m.toNat) t (tv n)∧TmOk (tv n)∧qug hs w.pt m.toNat w.tv (tv n):=by
   refine ⟨λn=>Classical.epsilon λtv=>∃w y p t,a.ws n=some w∧wp cs (.inr n)=some (.ref y)∧WkAt CW H' y whose p (itP hs w.pt m.toNat) t tv∧TmOk tv∧qug hs w.pt m.toNat w.tv tv,λn w e h=>?_⟩
   have ex:∃tv,∃w y p t,a.ws n=some w∧wp cs (.inr n)=some (.ref y)∧WkAt CW H' y whose p (itP hs w.pt m.toNat) t tv∧TmOk tv∧qug hs w.pt m.toNat w.tv tv:=by
    obtain ⟨y,p,t,tv,r⟩:=gone n w e h
    exact ⟨tv,w,y,p,t,e,r⟩
   obtain ⟨w',y,p,t,e',r⟩:=Classical.epsilon_spec ex
   rw [e] at e'
   cases e'
   exact ⟨y,p,t,r⟩
  have rc:Qu cs:=λc hc=>by
   obtain ⟨s,_,_,es,y,_,_,_,ey,_⟩:=hG c hc
   exact ⟨s,es,.inr ⟨y,ey⟩⟩
  obtain ⟨o',nx,v',kb⟩:=v.did (a':=a.tog whose hs m.toNat tv) g aS ndc (aD _) ⋯ Wc rc qxv (λc hc hn=>by
   obtain ⟨s,_,_,es,y,_,_,_,ey,_⟩:=hG c hc
   rw [ey] at hn;cases hn) λkb=>by
   have rp:=v.rep.dl v.h.dl kb
   refine ⟨rp.r,λn=>?_,rp.ok.lo,λn w' e'=>?_⟩
   ·show WRep CW H' (ovr (wp o.W) cs (.inr n)) (match a.ws n with|none=>none|some w=>if w.wh=whose then some ⟨whose,itP hs w.pt m.toNat,tv n⟩ else some w)
    have rw_:=rp.w n
    cases e:a.ws n with
    |none =>
     rw [e] at rw_
     unfold ovr
     rw [nogo n (λw ew=>by rw [e] at ew;cases ew)]
     exact rw_
    |some w =>
     rw [e] at rw_
     show WRep CW H' (ovr (wp o.W) cs (.inr n)) (if w.wh=whose then some ⟨whose,itP hs w.pt m.toNat,tv n⟩ else some w)
     by_cases h:w.wh=whose
     ·rw [ak h]
      obtain ⟨y,p,t,ev,wk,_⟩:=htv n w e h
      unfold ovr
      rw [ev]
      exact ⟨y,p,t,rfl,wk⟩
     ·rw [ai h]
      unfold ovr
      rw [nogo n (λw' ew=>by rw [e] at ew;cases ew;exact h)]
      exact rw_
   ·have e':(match a.ws n with|none=>none|some w=>if w.wh=whose then some ⟨whose,itP hs w.pt m.toNat,tv n⟩ else some w)=some w':=e'
    cases e:a.ws n with
    |none=>rw [e] at e';cases e'
    |some w =>
     rw [e] at e'
     have e':(if w.wh=whose then some ⟨whose,itP hs w.pt m.toNat,tv n⟩ else some w)=some w':=e'
     by_cases h:w.wh=whose
     ·rw [ak h] at e'
      cases e'
      obtain ⟨_,_,_,_,_,tm,_⟩:=htv n w e h
      obtain ⟨_,hs',er',hp⟩:=rp.ok.wo n w e
      rw [h,er] at er'
      cases er'
      exact ⟨tm,hs,er,hp.it _⟩
     ·rw [ai h] at e'
      have e':w=w':=by injection e'
      rw [←e']
      exact rp.ok.wo n w e
  refine k l H' o' tv nx v' (λn w e h=>by obtain ⟨_,_,_,_,_,r⟩:=htv n w e h;exact r) kb nl ⟨mf,ys,ndf,hms,srf,fl,⋯,λj n en=>?_⟩
  have hj:j<mf.length:=(aN.mp en).1
  have ej:ys[j]?=some (ys[j]'⋯):=aj ⋯
  obtain ⟨kv,q,y,p,pt,t,tv',ekv,eq,fq,ey,wk⟩:=hy j _ ej
  have hkv:=aL ekv
  obtain ⟨s,_,hws,es,y2,p2,t2,tv2,ey2,wk2,_⟩:=hG kv hkv
  have:s=n:=by
   have e1:(cs.map (·.1))[j]?=some kv.1:=by rw [aE,ekv];rfl
   rw [ec,aE,en] at e1
   have e1:(Sum.inr n:Key)=kv.1:=by injection e1
   rw [es] at e1
   injection e1 with e1
   exact e1.symm
  subst this
  obtain ⟨w,ew,hw⟩:=(hms s).mp (aL en)
  simp only [ew] at wk2
  rw [ey] at ey2
  cases ey2
  have ep:p2=p:=by
   obtain ⟨dx,ob⟩:=wk.ob
   obtain ⟨dx2,ob2⟩:=wk2.ob
   rw [ob] at ob2
   injection ob2 with ob2
   injection ob2 with _ _ ob2
   unfold wF at ob2
   simp at ob2
   exact ob2.1.symm
  subst ep
  rw [es] at fq
  exact ⟨q,p2,w,ew,by rw [ej,eq],fq,wk2.pt⟩
def AH.nil:AH:=⟨λ_=>none,λ_=>none⟩
theorem VH.nil {CR:Aj}{x:Aj}(h:Hse C H x dr dw dd [] [] []):VH C CR CW H ⟨x,dr,dw,dd,[],[],[]⟩ [AH.nil] :=
 ⟨⟨h,(λd hd=>nomatch hd),(λq hq=>nomatch hq),trivial,aS,aS,(λm v e=>nomatch e),(λm v e=>nomatch e)⟩,⟨⟨(λ_=>rfl),(λ_=>rfl),⟨(λ_ _ e=>nomatch e),(λ_ _ e=>nomatch e)⟩⟩,.inl ⟨rfl,rfl⟩⟩⟩
theorem Rep.putR {CR:Aj}{f g:Key→Option V}(h:Rep CR CW H f g a){n:Str}{hs:List Int}{r:Aj}(ra:RoadAt CR H r hs)(lo:xt hs)(hw:∀m w,a.ws m=some w→w.wh=n→HPt hs w.pt):Rep CR CW H (ovr f [(.inr n,.ref r)]) (ovr g []) (a.putR n hs):=by
 refine ⟨λm=>?_,h.w,λm hs' e=>?_,λm w e=>?_⟩
 ·rw [qqu]
  show RRep CR H _ (if m=n then some hs else a.rs m)
  by_cases z:m=n
  ·rw [ak z,ak (by rw [z]),ai (λq=>by cases q)]
   exact ⟨r,rfl,ra⟩
  ·rw [ai z,ai (λq=>z (by injection q))]
   exact h.r m
 ·have e:(if m=n then some hs else a.rs m)=some hs':=e
  by_cases z:m=n
  ·rw [ak z] at e
   cases e
   exact lo
  ·rw [ai z] at e
   exact h.ok.lo m hs' e
 ·obtain ⟨tm,hs',er,hp⟩:=h.ok.wo m w e
  by_cases z:w.wh=n
  ·exact ⟨tm,hs,ak z,hw m w e z⟩
  ·exact ⟨tm,hs',(ai z).trans er,hp⟩
theorem VH.road {CR:Aj}(v:VH C CR CW H o (a::as)){n:Str}{hs:List Int}(g:RDeed C CR H H' o.x o.dr o.dw o.dd o.R o.W (uf o.ds) n hs)(lo:xt hs)(hw:∀m w,a.ws m=some w→w.wh=n→HPt hs w.pt):∃o',Nxt H o o'∧VH C CR CW H' o' (a.putR n hs::a::as)∧Kb [o.dr,o.dw,o.dd] H H':=by
 obtain ⟨r,gd,ra⟩:=g.g
 exact v.did gd qyk aS (show 1≤1000 by decide) (aD _) qup Wc wu4 qxv λkb=>(v.rep.dl v.h.dl kb).putR ra lo hw
theorem wzg:∀ms:List Str,RDs K H (ms.map .str) (ms.map V.str)
 |[]=>by rw [bI,bI,RDs]
 |m::ms=>by
  rw [aC,aC,RDs]
  exact ⟨_,_,rfl,by rw [RD],wzg ms⟩
theorem wzw {l:Aj}(h:H l=some (.lst (ms.map V.str))):RD K H (.list (ms.map .str)) (.ref l):=by
 rw [RD]
 exact ⟨l,gI rfl ⟨SqL.of h,wzg ms⟩⟩
theorem qw5:∀ms:List Str,PyData.eqvAll (ms.map .str) (ms.map .str)=true
 |[]=>by rw [bI,PyData.eqvAll]
 |m::ms=>by
  rw [aC,PyData.eqvAll,qw5 ms,PyData.eqv]
  simp
def qjn (ms ns:List Str):PyData:=.tuple [.list (ms.map .str),.list (ns.map .str)]
theorem wz4 {l1 l2:Aj}{ns:List Str}(h:H q=some (.tup [.ref l1,.ref l2]))(h1:H l1=some (.lst (ms.map V.str)))(h2:H l2=some (.lst (ns.map V.str))):RD K H (qjn ms ns) (.ref q):=by
 unfold qjn
 rw [RD]
 refine ⟨q,gI rfl ⟨SqT.of h,?_⟩⟩
 rw [RDs]
 refine ⟨_,_,rfl,wzw h1,?_⟩
 rw [RDs]
 exact ⟨_,_,rfl,wzw h2,by rw [RDs]⟩
theorem wy0 (ms ns:List Str):PyData.eqv (qjn ms ns) (qjn ms ns)=true:=by
 unfold qjn
 rw [PyData.eqv,PyData.eqvAll,PyData.eqvAll,PyData.eqvAll,PyData.eqv,PyData.eqv,qw5,qw5]
 rfl
theorem qx9:∀ {ms:List Str},(∀m∈ms,PyData.strOk m=true)→PyData.canLayAll0 (ms.map .str)=true
 |[],_=>by simp [PyData.canLayAll0]
 |m::ms,h=>by
  have a:=h m (ay ..)
  have b:=qx9 λx hx=>h x (au _ hx)
  simp [PyData.canLayAll0,PyData.canLay0,a,b]
theorem wqt {ns:List Str}(h1:∀m∈ms,PyData.strOk m=true)(h2:∀m∈ns,PyData.strOk m=true):(qjn ms ns).canLay0=true:=by
 simp [qjn,PyData.canLay0,PyData.canLayAll0,qx9 h1,qx9 h2]
theorem qw2:∀ms:List Str,PyData.depthAll (ms.map .str)≤1
 |[]=>by simp [PyData.depthAll]
 |m::ms=>by
  have:=qw2 ms
  simp only [aC,PyData.depthAll,PyData.depth]
  lia
theorem wjr (ms ns:List Str)(d:PyData):min (qjn ms ns).depth d.depth≤60:=by
 have a:=qw2 ms
 have b:=qw2 ns
 simp only [qjn,PyData.depth,PyData.depthAll]
 lia
theorem Yw:∀ {l m:List Str},l.Nodup→m.Nodup→(∀x,x∈l↔x∈m)→l.Pairwise (λx y=>¬ y.cps.toList<x.cps.toList)→m.Pairwise (λx y=>¬ y.cps.toList<x.cps.toList)→l=m
 |[],[],_,_,_,_,_=>rfl
 |[],y::m,_,_,h,_,_=>absurd ((h y).mpr (ay ..)) af
 |x::l,[],_,_,h,_,_=>absurd ((h x).mp (ay ..)) af
 |x::l,y::m,n1,n2,h,p1,p2=>by
  obtain ⟨a1,m1⟩:=aY.mp n1
  obtain ⟨a2,m2⟩:=aY.mp n2
  obtain ⟨b1,q1⟩:=dJ.mp p1
  obtain ⟨b2,q2⟩:=dJ.mp p2
  have exy:x=y:=by
   rcases ae.mp ((h x).mp (ay ..)) with z|z
   ·exact z
   ·rcases ae.mp ((h y).mpr (ay ..)) with w|w
    ·exact w.symm
    ·have e:=List.le_antisymm (as:=x.cps.toList) (bs:=y.cps.toList) (b1 y w) (b2 x z)
     cases x;cases y
     simpa using e
  subst exy
  have:l=m:=Yw m1 m2 (λz=>by
   have hz:=h z
   simp only [ae] at hz
   constructor
   ·intro hl
    rcases hz.mp (.inr hl) with w|w
    ·exact absurd (w▸hl) a1
    ·exact w
   ·intro hm
    rcases hz.mpr (.inr hm) with w|w
    ·exact absurd (w▸hm) a2
    ·exact w) q1 q2
  rw [this]
theorem Qj (nd:(W.map (·.1)).Nodup)(h:RefsF (wp W))(n:Str):n∈W.map jh↔(wp W (.inr n)).isSome=true:=by
 have ek:=(y0 nd h).1
 have:n∈W.map jh↔(Sum.inr n:Key)∈W.map (·.1):=by
  rw [ek]
  exact ⟨λh=>ax.mpr ⟨n,h,rfl⟩,λh=>by
   obtain ⟨n',h',e⟩:=ax.mp h
   have e:n'=n:=by injection e
   rw [←e];exact h'⟩
 rw [this]
 constructor
 ·intro h
  obtain ⟨c,hc,e⟩:=ax.mp h
  have:=jx nd hc
  rw [e] at this
  rw [this];rfl
 ·intro h
  obtain ⟨u,eu⟩:=bh.mp h
  exact ax.mpr ⟨_,qqn eu,rfl⟩
structure BA where
 rs:Str→Option (List Int)
 ws:Str→Option (Str×(Int×Int))
def AH.bk (a:AH):BA:=⟨a.rs,λn=>(a.ws n).map λw=>(w.wh,w.pt)⟩
inductive Dd
 |lay (n:Str) (hs:List Int)
 |bend (n:Str) (c h:Int)
 |widen (n:Str) (h:Int)
 |narrow (n:Str)
 |clear (n:Str)
 |place (n wh:Str) (t b:Int)
 |leave (n:Str)
 |go (n:Str) (m:Int)
 |tog (n:Str) (m:Int)
 |back (n:Str)
inductive Ans
 |non
 |pt (p:Int×Int)
 |lst (l:List (Str×(Int×Int)))
def BA.putR (b:BA)(n:Str)(hs:List Int):BA:={ b with rs:=λm=>if m=n then some hs else b.rs m }
def BA.delR (b:BA)(n:Str):BA:={ b with rs:=λm=>if m=n then none else b.rs m }
def BA.putW (b:BA)(n:Str)(w:Str×(Int×Int)):BA:={ b with ws:=λm=>if m=n then some w else b.ws m }
def BA.delW (b:BA)(n:Str):BA:={ b with ws:=λm=>if m=n then none else b.ws m }
def BA.tog (b:BA)(wh:Str)(hs:List Int)(m:Nat):BA:={ b with ws:=λn=>match b.ws n with|none=>none|some w=>if w.1=wh then some (wh,itP hs w.2 m) else some w }
def OnL (b:BA)(wh:Str)(ms:List Str):Prop:=ms.Nodup∧(∀n,n∈ms↔∃pt,b.ws n=some (wh,pt))∧ms.Pairwise (λx y=>¬ y.cps.toList<x.cps.toList)
noncomputable def onL (b:BA) (wh:Str):List Str:=Classical.epsilon (OnL b wh)
variable {b:BA}
theorem wyc (h:OnL b wh ms):onL b wh=ms:=by
 have g:OnL b wh (onL b wh):=Classical.epsilon_spec ⟨ms,h⟩
 exact Yw g.1 h.1 (λn=>(g.2.1 n).trans (h.2.1 n).symm) g.2.2 h.2.2
noncomputable def qyd (b:BA) (wh:Str) (hs:List Int) (m:Nat):List (Str×(Int×Int)):=(onL b wh).map λn=>(n,itP hs ((b.ws n).getD ("",(0,0))).2 m)
def FARI:Int:=1000000000000000000000000000000000000000000000000000000000000
def Bey (b:BA)(n:Str)(wd:Int):Prop:=∃s pt,b.ws s=some (n,pt)∧wd*pt.2<pt.1
open Classical in
noncomputable def xx (b:BA):Dd→Str×Ans×BA
 |.lay n hs=>if vb n=false then ("name",.non,b) else if (b.rs n).isSome=true then ("taken",.non,b) else if xt hs then ("",.non,b.putR n hs) else ("line",.non,b)
 |.bend n c h=>match b.rs n with
  |none=>("road",.non,b)
  |some hs=>if 0≤c∧c<(hs.length:Int)∧xt (hs.set c.toNat h) then ("",.non,b.putR n (hs.set c.toNat h)) else ("line",.non,b)
 |.widen n h=>match b.rs n with
  |none=>("road",.non,b)
  |some hs=>if xt (hs++[h]) then ("",.non,b.putR n (hs++[h])) else ("line",.non,b)
 |.narrow n=>match b.rs n with
  |none=>("road",.non,b)
  |some hs=>if xt hs.dropLast then (if Bey b n ((hs.dropLast.length:Int)-1) then ("stood",.non,b) else ("",.non,b.putR n hs.dropLast)) else ("line",.non,b)
 |.clear n=>match b.rs n with
  |none=>("road",.non,b)
  |some _=>if Bey b n (-1) then ("stood",.non,b) else ("",.non,b.delR n)
 |.place n wh t p=>if vb n=false then ("name",.non,b) else if (b.ws n).isSome=true then ("taken",.non,b) else match b.rs wh with
  |none=>("road",.non,b)
  |some hs=>if p<1∨40<(xg t p).2 then ("bottom",.non,b) else if vt hs t p then ("",.non,b.putW n (wh,xg t p)) else ("off",.non,b)
 |.leave n=>match b.ws n with
  |none=>("walker",.non,b)
  |some _=>("",.non,b.delW n)
 |.go n m=>match b.ws n with
  |none=>("walker",.non,b)
  |some w=>if 0≤m∧m≤FARI then ("",.pt (itP ((b.rs w.1).getD []) w.2 m.toNat),b.putW n (w.1,itP ((b.rs w.1).getD []) w.2 m.toNat)) else ("count",.non,b)
 |.tog n m=>match b.rs n with
  |none=>("road",.non,b)
  |some hs=>if 0≤m∧m≤FARI then ("",.lst (qyd b n hs m.toNat),b.tog n hs m.toNat) else ("count",.non,b)
 |.back _=>("",.non,b)
structure BOk (NM:List Str)(b:BA):Prop where
 lo:∀n hs,b.rs n=some hs→xt hs∧vb n=true∧n∈NM
 wo:∀n w,b.ws n=some w→vb n=true∧n∈NM∧∃hs,b.rs w.1=some hs∧HPt hs w.2
theorem BOk.mono {NM':List Str}(h:BOk NM b)(s:∀n∈NM,n∈NM'):BOk NM' b:=⟨λn hs e=>let ⟨a,c,d⟩:=h.lo n hs e;⟨a,c,s _ d⟩,λn w e=>let ⟨a,c,d⟩:=h.wo n w e;⟨a,s _ c,d⟩⟩
theorem BOk.nil:BOk NM AH.nil.bk:=⟨(λn hs e=>nomatch e),(λn w e=>nomatch e)⟩
theorem BOk.putR (h:BOk NM b){n:Str}{hs:List Int}(lo:xt hs)(nn:vb n=true)(hn:n∈NM)(hw:∀m w,b.ws m=some w→w.1=n→HPt hs w.2):BOk NM (b.putR n hs):=by
 refine ⟨λm ks e=>?_,λm w e=>?_⟩
 ·have e:(if m=n then some hs else b.rs m)=some ks:=e
  by_cases z:m=n
  ·rw [ak z] at e;cases e;rw [z];exact ⟨lo,nn,hn⟩
  ·rw [ai z] at e;exact h.lo m ks e
 ·obtain ⟨a,c,ks,er,hp⟩:=h.wo m w e
  refine ⟨a,c,?_⟩
  by_cases z:w.1=n
  ·exact ⟨hs,ak z,hw m w e z⟩
  ·exact ⟨ks,(ai z).trans er,hp⟩
theorem BOk.delR (h:BOk NM b){n:Str}(hw:∀m w,b.ws m=some w→w.1≠n):BOk NM (b.delR n):=by
 refine ⟨λm ks e=>?_,λm w e=>?_⟩
 ·have e:(if m=n then none else b.rs m)=some ks:=e
  by_cases z:m=n
  ·rw [ak z] at e;cases e
  ·rw [ai z] at e;exact h.lo m ks e
 ·obtain ⟨a,c,ks,er,hp⟩:=h.wo m w e
  exact ⟨a,c,ks,(ai (hw m w e)).trans er,hp⟩
theorem BOk.putW (h:BOk NM b){n:Str}{w:Str×(Int×Int)}(nn:vb n=true)(hn:n∈NM){hs:List Int}(er:b.rs w.1=some hs)(hp:HPt hs w.2):BOk NM (b.putW n w):=by
 refine ⟨h.lo,λm w' e=>?_⟩
 have e:(if m=n then some w else b.ws m)=some w':=e
 by_cases z:m=n
 ·rw [ak z] at e;cases e;rw [z];exact ⟨nn,hn,hs,er,hp⟩
 ·rw [ai z] at e;exact h.wo m w' e
theorem BOk.delW (h:BOk NM b)(n:Str):BOk NM (b.delW n):=by
 refine ⟨h.lo,λm w' e=>?_⟩
 have e:(if m=n then none else b.ws m)=some w':=e
 by_cases z:m=n
 ·rw [ak z] at e;cases e
 ·rw [ai z] at e;exact h.wo m w' e
theorem BOk.tog (h:BOk NM b){wh:Str}{hs:List Int}(er:b.rs wh=some hs)(m:Nat):BOk NM (b.tog wh hs m):=by
 refine ⟨h.lo,λn w' e=>?_⟩
 have e:(match b.ws n with|none=>none|some w=>if w.1=wh then some (wh,itP hs w.2 m) else some w)=some w':=e
 cases ew:b.ws n with
 |none=>rw [ew] at e;cases e
 |some w =>
  rw [ew] at e
  have e:(if w.1=wh then some (wh,itP hs w.2 m) else some w)=some w':=e
  obtain ⟨a,c,ks,er',hp⟩:=h.wo n w ew
  by_cases z:w.1=wh
  ·rw [ak z] at e;cases e
   rw [z,er] at er';cases er'
   exact ⟨a,c,hs,er,hp.it m⟩
  ·rw [ai z] at e;cases e
   exact ⟨a,c,ks,er',hp⟩
theorem AOk.bk (h:BOk NM a.bk):Nam NM a:=⟨λn e=>by
 cases er:a.rs n with
 |none=>rw [er] at e;cases e
 |some hs=>exact (h.lo n hs er).2.2,λn e=>by
 cases ew:a.ws n with
 |none=>rw [ew] at e;cases e
 |some w=>exact (h.wo n (w.wh,w.pt) (by show (a.ws n).map _=_;rw [ew];rfl)).2.1⟩
theorem wux {t b:Int}(hb:1≤b):vt hs (xg t b).1 (xg t b).2↔vt hs t b:=by
 have c:=qvc (t:=t) hb
 have l1:1≤(xg t b).2:=Wt hb
 unfold vt
 generalize (xg t b).1=p at c
 generalize (xg t b).2=q at c l1
 constructor
 ·rintro ⟨h0,h1⟩
  refine ⟨?_,?_⟩
  ·by_cases z:0≤t
   ·exact z
   ·exfalso
    have a:=dm h0 (show 0≤b by lia)
    have b':=fg (show t<0 by lia) (show 0<q by lia)
    first | (rw [c] at a;lia) | (rw [←c] at a;lia) | grind
  ·by_cases z:t≤((hs.length:Int)-1)*b
   ·exact z
   ·exfalso
    have a:=aJ h1 (show 0≤b by lia)
    have b':=eT (show ((hs.length:Int)-1)*b<t by lia) (show 0<q by lia)
    grind
 ·rintro ⟨h0,h1⟩
  refine ⟨?_,?_⟩
  ·by_cases z:0≤p
   ·exact z
   ·exfalso
    have a:=dm h0 (show 0≤q by lia)
    have b':=fg (show p<0 by lia) (show 0<b by lia)
    grind
  ·by_cases z:p≤((hs.length:Int)-1)*q
   ·exact z
   ·exfalso
    have a:=aJ h1 (show 0≤q by lia)
    have b':=eT (show ((hs.length:Int)-1)*q<p by lia) (show 0<b by lia)
    grind
def Dd.nm:Dd→Str
 |.lay n _=>n
 |.bend n _ _=>n
 |.widen n _=>n
 |.narrow n=>n
 |.clear n=>n
 |.place n _ _ _=>n
 |.leave n=>n
 |.go n _=>n
 |.tog n _=>n
 |.back n=>n
theorem wz1 {t p:Int}(lo:xt hs)(hp:1≤p)(l:(xg t p).2≤40)(on:vt hs t p):HPt hs (xg t p):=⟨lo,⟨(wwx hp on).1,fV _,(wwx hp on).2.2⟩,l⟩
theorem Y5 {pt:Int×Int}(h:HPt hs pt):0≤pt.1∧pt.1≤((hs.length:Int)-1)*pt.2:=⟨h.2.1.2.2.2.1,h.2.1.2.2.2.2⟩
theorem Qg {ks:List Int}{pt:Int×Int}(h:HPt hs pt)(lo:xt ks)(l:pt.1≤((ks.length:Int)-1)*pt.2):HPt ks pt:=⟨lo,⟨h.2.1.1,h.2.1.2.1,h.2.1.2.2.1,h.2.1.2.2.2.1,l⟩,h.2.2⟩
theorem xq1 (h:BOk NM b){d:Dd}(hn:d.nm∈NM){w:Str}{ans:Ans}{b':BA}(e:xx b d=(w,ans,b')):BOk NM b':=by
 cases d with
 |lay n hs =>
  simp only [xx] at e
  split at e
  ·cases e;exact h
  ·rename_i nn
   split at e
   ·cases e;exact h
   ·rename_i nt
    split at e
    ·rename_i lo
     cases e
     refine h.putR lo (by simpa using nn) hn λm v ev hv=>?_
     obtain ⟨_,_,ks,er,_⟩:=h.wo m v ev
     rw [hv] at er
     rw [er] at nt
     exact absurd rfl nt
    ·cases e;exact h
 |bend n c x =>
  simp only [xx] at e
  cases er:b.rs n with
  |none=>rw [er] at e;cases e;exact h
  |some hs =>
   rw [er] at e
   dsimp only at e
   split at e
   ·rename_i hc
    cases e
    refine h.putR hc.2.2 (h.lo n hs er).2.1 hn λm v ev hv=>?_
    obtain ⟨_,_,ks,er',hp⟩:=h.wo m v ev
    rw [hv,er] at er'
    cases er'
    exact Qg hp hc.2.2 (by rw [cQ];exact (Y5 hp).2)
   ·cases e;exact h
 |widen n x =>
  simp only [xx] at e
  cases er:b.rs n with
  |none=>rw [er] at e;cases e;exact h
  |some hs =>
   rw [er] at e
   dsimp only at e
   split at e
   ·rename_i hc
    cases e
    refine h.putR hc (h.lo n hs er).2.1 hn λm v ev hv=>?_
    obtain ⟨_,_,ks,er',hp⟩:=h.wo m v ev
    rw [hv,er] at er'
    cases er'
    refine Qg hp hc ?_
    have:=Y5 hp
    have q1:=hp.2.1.1
    rw [aP]
    push_cast
    have:((hs.length:Int)-1)*v.2.2≤((hs.length:Int)+(([x]:List Int).length:Int)-1)*v.2.2:=aJ (by show (hs.length:Int)-1≤(hs.length:Int)+1-1;lia) ⋯
    lia
   ·cases e;exact h
 |narrow n =>
  simp only [xx] at e
  cases er:b.rs n with
  |none=>rw [er] at e;cases e;exact h
  |some hs =>
   rw [er] at e
   dsimp only at e
   split at e
   ·rename_i lo
    split at e
    ·cases e;exact h
    ·rename_i nb
     cases e
     refine h.putR lo (h.lo n hs er).2.1 hn λm v ev hv=>?_
     obtain ⟨_,_,ks,er',hp⟩:=h.wo m v ev
     refine Qg hp lo ?_
     by_cases z:v.2.1≤((hs.dropLast.length:Int)-1)*v.2.2
     ·exact z
     ·exact absurd ⟨m,v.2,by rw [ev,←hv],⋯⟩ nb
   ·cases e;exact h
 |clear n =>
  simp only [xx] at e
  cases er:b.rs n with
  |none=>rw [er] at e;cases e;exact h
  |some hs =>
   rw [er] at e
   dsimp only at e
   split at e
   ·cases e;exact h
   ·rename_i nb
    cases e
    refine h.delR λm v ev hv=>nb ⟨m,v.2,by rw [ev,←hv],?_⟩
    obtain ⟨_,_,ks,er',hp⟩:=h.wo m v ev
    have a:=(Y5 hp).1
    have c:=hp.2.1.1
    lia
 |place n wh t p =>
  simp only [xx] at e
  split at e
  ·cases e;exact h
  ·rename_i nn
   split at e
   ·cases e;exact h
   ·cases er:b.rs wh with
    |none=>rw [er] at e;cases e;exact h
    |some hs =>
     rw [er] at e
     dsimp only at e
     split at e
     ·cases e;exact h
     ·rename_i nb
      split at e
      ·rename_i on
       cases e
       exact h.putW (w:=(wh,xg t p)) (by simpa using nn) hn er (wz1 (h.lo wh hs er).1 ⋯ ⋯ on)
      ·cases e;exact h
 |leave n =>
  simp only [xx] at e
  cases er:b.ws n with
  |none=>rw [er] at e;cases e;exact h
  |some v=>rw [er] at e;cases e;exact h.delW n
 |go n m =>
  simp only [xx] at e
  cases er:b.ws n with
  |none=>rw [er] at e;cases e;exact h
  |some v =>
   rw [er] at e
   dsimp only at e
   split at e
   ·cases e
    obtain ⟨a,c,hs,er',hp⟩:=h.wo n v er
    rw [er']
    exact h.putW (w:=(v.1,itP hs v.2 m.toNat)) a hn er' (hp.it _)
   ·cases e;exact h
 |tog n m =>
  simp only [xx] at e
  cases er:b.rs n with
  |none=>rw [er] at e;cases e;exact h
  |some hs =>
   rw [er] at e
   dsimp only at e
   split at e
   ·cases e
    exact h.tog er _
   ·cases e;exact h
 |back n =>
  simp only [xx] at e
  cases e
  exact h
def DdAt (H:Hp)(a:Aj):Dd→Prop
 |.lay n hs=>∃p,H a=some (.tup [.int 0,.str n,.ref p])∧H p=some (.lst (hs.map V.int))∧2≤hs.length∧hs.length≤25∧n.length≤100
 |.bend n c h=>H a=some (.tup [.int 1,.str n,.int c,.int h])
 |.widen n h=>H a=some (.tup [.int 2,.str n,.int h])
 |.narrow n=>H a=some (.tup [.int 3,.str n])
 |.clear n=>H a=some (.tup [.int 4,.str n])
 |.place n wh t p=>∃q,H a=some (.tup [.int 5,.str n,.str wh,.ref q])∧H q=some (.tup [.int t,.int p])∧n.length≤100∧(-1000000≤t∧t≤1000000)∧(-1000000≤p∧p≤1000000)
 |.leave n=>H a=some (.tup [.int 6,.str n])
 |.go n m=>H a=some (.tup [.int 7,.str n,.int m])
 |.tog n m=>H a=some (.tup [.int 8,.str n,.int m])
 |.back n=>H a=some (.tup [.int 9,.str n])
variable {d:Dd}
theorem DdAt.kb {a:Aj}(h:DdAt H a d){ch:List Aj}(dl:Dl H ch)(k:Kb ch H H'):DdAt H' a d:=by
 cases d with
 |lay n hs =>
  obtain ⟨p,h1,h2,h3,h4⟩:=h
  refine ⟨p,dl.tup k h1,k _ _ (dl.other h2 (λ_ z=>by cases z) (λ_ _ z=>by cases z) λD rf z=>?_) h2,h3,h4⟩
  have z:hs.map V.int=D:=by injection z
  have m:V.int (hs[0]'⋯)∈hs.map V.int:=ax.mpr ⟨_,bO _,rfl⟩
  rw [z] at m
  obtain ⟨x,e⟩:=rf _ m
  cases e
 |place n wh t p =>
  obtain ⟨q,h1,h2,h3⟩:=h
  exact ⟨q,dl.tup k h1,dl.tup k h2,h3⟩
 |_=>exact dl.tup k h
theorem DdAt.same {a:Aj}(h:DdAt H a d)(s:Same H H'):DdAt H' a d:=h.kb (ch:=[]) Dl.nil (Kb.of s)
def PtG (p:Int×Int):Prop:=1≤p.2∧p.2≤40∧gOf p.1 p.2=1∧0≤p.1∧p.1≤960
theorem HPt.g {p:Int×Int}(h:HPt hs p):PtG p:=⟨h.2.1.1,h.2.2,h.2.1.2.2.1,h.rng.1,h.rng.2.1⟩
def AnsAt (H:Hp)(v:V):Ans→Prop
 |.non=>v=.non
 |.pt p=>∃a,v=.ref a∧H a=some (.tup [.int p.1,.int p.2])∧PtG p
 |.lst l=>∃a ys,v=.ref a∧H a=some (.lst ys)∧ys.length=l.length∧l.length≤1000∧∀(j:Nat) x,l[j]?=some x→∃q r,ys[j]?=some (.ref q)∧H q=some (.tup [.str x.1,.ref r])∧H r=some (.tup [.int x.2.1,.int x.2.2])∧PtG x.2∧vb x.1=true
def qqh (C CW CN CS:Aj):Sp:=λvs H Q E=>∃(x dr dw dd:Aj) (R W:List (Key×V)) (D:List V) (n:Str) (ss:List Str) (wh:Str→Str) (ps:Str→Int×Int),vs=[.ref x,.str n]∧Hse C H x dr dw dd R W D∧R.length≤1000∧D.length≤1000000∧WksAt CW H W ss wh ps∧(wp R (.inr n)=none→E (.ref CN) none H) ∧
 ((wp R (.inr n)).isSome=true→((∃s∈ss,wh s=n)→∀H',Same H H'→E (.ref CS) none H')∧((∀s∈ss,wh s≠n)→∀H',Zv C H H' x dr dw dd R W D [(.inr n,.non)] []→Q .non H'))
include T in
theorem wj4 (F:Fun K "clear" "House.clear" zb0 f fd)(zag:MCal P w K mg base qq "road_called" 1 (jq qq q9 true))(za6:MCal P w K mg base qq "walkers_on" 1 (spOn qq qy))(zab:MCal P w K mg base qq "do" 2 (Z5 qq)) :
  FK P w K mg base 3 f fd ["self","name"] (qqh qq qy q9 wy):=by
 have sc:=qxf
 refine F.okX sc (λvs H Q E h=>by obtain ⟨_,_,_,_,_,_,_,_,_,_,_,rfl,_⟩:=h;rfl) λ_ _ _ s H vs Q E hr h=>?_
 obtain ⟨x,dr,dw,dd,R,W,D,n,ss,wh,ps,rfl,hh,lR,lD,hw,kx,k⟩:=h
 obtain ⟨dx,hx⟩:=hh.ob
 refine ⟨_,(qu (zy (x8 (pv 0) T.clH zag (hr.mono ⋯) qf (wz (pv 1) qz)))
   (qu (xh (wm y4 (xz xf rfl T.len_ aB (vd (x8 (pv 0) T.clH za6 (hr.mono ⋯) qf (wz (pv 1) qz)) qz)) qk (w6 _)) (qm (kh rfl T.zai zr rfl T.zdc (xb x6 qz))) wt)
   (qm (zy (x8 (pv 0) T.clH zab (hr.mono ⋯) qf (xm (ut (yt (pv 1) jv u8) rfl rfl (λz=>nomatch z) ⋯) (xm jw qz))))))),?_⟩
 refine ⟨_,rfl,x,dx,_,rfl,hx,x9,_,rfl,x,dr,dw,dd,R,W,D,n,rfl,hh,λv e=>?_,kx⟩
 have e:wp R (.inr n)=some v:=e
 obtain ⟨ks,kg⟩:=k (by rw [e];rfl)
 refine gI rfl ⟨x,dx,gI rfl ⟨hx,x9,gI rfl ⟨x,dr,dw,dd,R,W,D,n,ss,wh,ps,rfl,hh,hw,λl H1 ms nl s1 pm _ fl=>?_⟩⟩⟩
 refine ⟨l,gI rfl ⟨.inl (SqL.of fl),xu rfl rfl (gI rfl (zp (λz=>?_) (λz=>?_)))⟩⟩
 ·refine ⟨sz1,ks ?_ H1 s1⟩
  cases ef:ms.filter λs=>decide (V.str (wh s)=V.str n) with
  |nil=>rw [ef] at z;exact absurd z ⋯
  |cons s r =>
   have hs:s∈ms.filter λs=>decide (V.str (wh s)=V.str n):=by rw [ef];exact ay ..
   obtain ⟨h1,h2⟩:=bz.mp hs
   have h2:=bT h2
   exact ⟨s,pm.mem_iff.mp h1,by cases h2;rfl⟩
 ·have hx1:=s1 _ _ hx
  refine gI rfl ⟨x,dx,gI rfl ⟨hx1,x9,λc1 n1=>(gI rfl ⟨qc,[(.inr n,.non)],rfl,(show 1≤15 by decide),λc2 n2=>?_⟩)⟩⟩
  have e0:yc [] [((Sum.inr n:Key),V.non)]=[((Sum.inr n:Key),V.non)]:=rfl
  rw [e0,yz] at n2 ⊢
  have c12:c1≠c2:=λz=>by rw [←z,qc] at n2;cases n2
  have n20:H1 c2=none:=by rw [←n2,wf (aV c12)]
  have s4:Same H1 (upd (upd H1 c1 (.dK [(.inr n,.non)])) c2 (.dK [])):=λb o e=>by
   rw [wf (qh e n20),wf (qh e n1)]
   exact e
  have f1:upd (upd H1 c1 (.dK [(.inr n,.non)])) c2 (.dK []) c1=some (.dK [(.inr n,.non)]):=by rw [wf c12,qc]
  have f2:upd (upd H1 c1 (.dK [(.inr n,.non)])) c2 (.dK []) c2=some (.dK []):=qc
  generalize upd (upd H1 c1 (.dK [(.inr n,.non)])) c2 (.dK [])=H4 at s4 f1 f2
  dsimp only [Qc]
  have lW:W.length≤1000:=by have:=hw.2.1;lia
  refine wwu (E:=E) hh (s1.trans s4) (xy s1 n1) (xy s1 n20) f1 f2 c12 (aY.mpr ⟨af,aS⟩) aS lR lW (by show 1≤1000;decide) (aD _) lD (λi c ec hc=>?_) (λi c ec hc=>nomatch ec) λH' gd _ _ _=>kg (λs hs1 hs2=>z ?_) H' gd
  ·cases i with
   |zero =>
    cases ec
    show (wp R (.inr n)).isSome=true
    rw [e]
    rfl
   |succ i=>cases ec
  ·have hm:s∈ms.filter λs=>decide (V.str (wh s)=V.str n):=bz.mpr ⟨pm.mem_iff.mpr hs1,aX (by rw [hs2])⟩
   have:=dX hm
   show (0:Int)<_
   rw [aa]
   lia
theorem Rep.rsome {CR:Aj}{f g:Key→Option V}(h:Rep CR CW H f g a)(n:Str):(f (.inr n)).isSome=(a.rs n).isSome:=by
 cases e:a.rs n with
 |none=>rw [h.noR e];rfl
 |some hs=>obtain ⟨r,e1,_⟩:=h.road e;rw [e1];rfl
theorem Rep.wsome {CR:Aj}{f g:Key→Option V}(h:Rep CR CW H f g a)(n:Str):(g (.inr n)).isSome=(a.ws n).isSome:=by
 cases e:a.ws n with
 |none=>rw [h.noW e];rfl
 |some hs=>obtain ⟨y,p,t,e1,_⟩:=h.wk e;rw [e1];rfl
theorem Qt {CR:Aj}{f g:Key→Option V}(h:Rep CR CW H f g a){n:Str}(e:f (.inr n)=none):a.rs n=none:=by
 have:=h.rsome n
 rw [e] at this
 cases e2:a.rs n with
 |none=>rfl
 |some _=>rw [e2] at this;cases this
theorem qq3 {CR:Aj}{f g:Key→Option V}(h:Rep CR CW H f g a){n:Str}{v:V}(e:f (.inr n)=some v):∃r hs,v=.ref r∧a.rs n=some hs∧RoadAt CR H r hs:=by
 cases e2:a.rs n with
 |none=>rw [h.noR e2] at e;cases e
 |some hs =>
  obtain ⟨r,e1,ra⟩:=h.road e2
  rw [e] at e1
  cases e1
  exact ⟨r,hs,rfl,rfl,ra⟩
theorem qqd {CR:Aj}{f g:Key→Option V}(h:Rep CR CW H f g a){n:Str}(e:g (.inr n)=none):a.ws n=none:=by
 have:=h.wsome n
 rw [e] at this
 cases e2:a.ws n with
 |none=>rfl
 |some _=>rw [e2] at this;cases this
theorem xxv {CR:Aj}{f g:Key→Option V}(h:Rep CR CW H f g a){n:Str}{v:V}(e:g (.inr n)=some v):∃y p t w,v=.ref y∧a.ws n=some w∧WkAt CW H y w.wh p w.pt t w.tv:=by
 cases e2:a.ws n with
 |none=>rw [h.noW e2] at e;cases e
 |some w =>
  obtain ⟨y,p,t,e1,wk⟩:=h.wk e2
  rw [e] at e1
  cases e1
  exact ⟨y,p,t,w,rfl,rfl,wk⟩
def whF (a:AH)(n:Str):Str:=match a.ws n with | some w=>w.wh | none => ""
def ptF (a:AH)(n:Str):Int×Int:=match a.ws n with|some w=>w.pt|none=>(0,0)
theorem VH.wks {CR:Aj}(v:VH C CR CW H o (a::as))(l:o.W.length<64):WksAt CW H o.W (o.W.map jh) (whF a) (ptF a)∧∀n,n∈o.W.map jh↔∃w,a.ws n=some w:=by
 obtain ⟨ek,ndk⟩:=y0 v.h.nW v.h.fW
 have inW:∀n,n∈o.W.map jh↔∃w,a.ws n=some w:=λn=>by
  rw [Qj v.h.nW v.h.fW n,v.rep.wsome n]
  cases a.ws n with
  |none=>simp
  |some w=>simp
 refine ⟨⟨ek,l,λn hn=>?_⟩,inW⟩
 obtain ⟨w,e⟩:=(inW n).mp hn
 obtain ⟨y,p,t,ey,wk⟩:=v.rep.wk e
 unfold whF ptF
 rw [e]
 exact ⟨y,p,t,w.tv,ey,wk⟩
theorem qxp {w:Wk}(e:a.ws n=some w):a.bk.ws n=some (w.wh,w.pt):=by
 show (a.ws n).map _=_
 rw [e];rfl
theorem bk_wn (e:a.ws n=none):a.bk.ws n=none:=by
 show (a.ws n).map _=_
 rw [e];rfl
theorem xqr {v:Str×(Int×Int)}(e:a.bk.ws n=some v):∃w,a.ws n=some w∧v=(w.wh,w.pt):=by
 have e:(a.ws n).map (λw=>(w.wh,w.pt))=some v:=e
 cases ew:a.ws n with
 |none=>rw [ew] at e;cases e
 |some w=>rw [ew] at e;cases e;exact ⟨w,rfl,rfl⟩
theorem wx8 {w:Wk}:(a.putW n w).bk=a.bk.putW n (w.wh,w.pt):=by
 show BA.mk a.rs (λm=>(if m=n then some w else a.ws m).map λw=>(w.wh,w.pt))=BA.mk a.rs λm=>if m=n then some (w.wh,w.pt) else (a.ws m).map λw=>(w.wh,w.pt)
 congr 1
 funext m
 by_cases z:m=n
 ·rw [ak z,ak z];rfl
 ·rw [ai z,ai z]
theorem xwd:(a.delW n).bk=a.bk.delW n:=by
 show BA.mk a.rs (λm=>(if m=n then none else a.ws m).map λw=>(w.wh,w.pt))=BA.mk a.rs λm=>if m=n then none else (a.ws m).map λw=>(w.wh,w.pt)
 congr 1
 funext m
 by_cases z:m=n
 ·rw [ak z,ak z];rfl
 ·rw [ai z,ai z]
theorem bk_tog {tv:Str→List (List Key×V)}:(a.tog wh hs m tv).bk=a.bk.tog wh hs m:=by
 show BA.mk a.rs (λn=>(match a.ws n with|none=>none|some w=>if w.wh=wh then some (Wk.mk wh (itP hs w.pt m) (tv n)) else some w).map λw:Wk=>(w.wh,w.pt))=BA.mk a.rs λn=>match (a.ws n).map (λw=>(w.wh,w.pt)) with|none=>none|some w=>if w.1=wh then some (wh,itP hs w.2 m) else some w
 congr 1
 funext n
 cases a.ws n with
 |none=>rfl
 |some w =>
  show (if w.wh=wh then some (Wk.mk wh (itP hs w.pt m) (tv n)) else some w).map _=if w.wh=wh then some (wh,itP hs w.pt m) else some (w.wh,w.pt)
  by_cases z:w.wh=wh
  ·rw [ak z,ak z];rfl
  ·rw [ai z,ai z];rfl
def AH.delR (a:AH)(n:Str):AH:={ a with rs:=λm=>if m=n then none else a.rs m }
theorem Rep.delR {CR:Aj}{f g:Key→Option V}(h:Rep CR CW H f g a){n:Str}(hw:∀m w,a.ws m=some w→w.wh≠n):Rep CR CW H (ovr f [(.inr n,.non)]) (ovr g []) (a.delR n):=by
 refine ⟨λm=>?_,h.w,λm hs' e=>?_,λm w e=>?_⟩
 ·rw [qqu]
  show RRep CR H _ (if m=n then none else a.rs m)
  by_cases z:m=n
  ·rw [ak z,ak (by rw [z]),ak rfl]
   rfl
  ·rw [ai z,ai (λq=>z (by injection q))]
   exact h.r m
 ·have e:(if m=n then none else a.rs m)=some hs':=e
  by_cases z:m=n
  ·rw [ak z] at e;cases e
  ·rw [ai z] at e
   exact h.ok.lo m hs' e
 ·obtain ⟨tm,hs',er,hp⟩:=h.ok.wo m w e
  exact ⟨tm,hs',(ai (hw m w e)).trans er,hp⟩
structure RunK (C CR CW:Aj)(WC:List (Str×Aj))(H:Hp)(o:Ho)(a:AH)(as:List AH)(d:Dd)(Q:VK)(E:XK):Prop where
 q:∀(v:V) (H':Hp) (o':Ho) (a':AH) (ans:Ans),xx a.bk d=(("" : Str),ans,a'.bk)→Nxt H o o'→VH C CR CW H' o' (a'::a::as)→Kb [o.dr,o.dw,o.dd] H H'→AnsAt H' v ans→Q v H'
 e:∀(H':Hp) (wd:Str) (X:Aj),Same H H'→(wd,X)∈WC→xx a.bk d=(wd,.non,a.bk)→E (.ref X) none H'
section
variable {C CR CW CN CT CL CS CNR CNW CB CO CC:Aj}{WC:List (Str×Aj)}{H:Hp}{o:Ho}{a:AH}{as:List AH}{Q:VK}{E:XK}{NM:List Str}
theorem VH.aLay (v:VH C CR CW H o (a::as))(nm:Nam NM a)(lN:NM.length≤100)(lD:o.ds.length≤10000)(ln:n.length≤100)(fp:H p=some (.lst (hs.map V.int)))(rk:RunK C CR CW WC H o a as (.lay n hs) Q E)(w1:(("name" : Str),CN)∈WC)(w2:(("taken" : Str),CT)∈WC)(w3:(("line" : Str),CL)∈WC):wz5 K C CR CN CT CL [.ref o.x,.str n,.ref p] H Q E:=by
 have lens:=v.lens nm
 refine ⟨o.x,o.dr,o.dw,o.dd,p,o.R,o.W,_,n,hs,rfl,v.h.hs,Qv _,⋯,⋯,by rw [j7];lia,⋯,fp,λnn vn lo H' rd=>?_,λnn H' s=>?_,λnn vs H' s=>?_,λnn vn lo H' s=>?_⟩
 ·have en:=Qt v.rep vn
  obtain ⟨o',nx,v',kb⟩:=v.road rd lo λm w e hw=>by
   obtain ⟨_,hs',er,_⟩:=v.rep.ok.wo m w e
   rw [hw,en] at er
   cases er
  refine rk.q _ H' o' _ .non ?_ nx v' kb rfl
  simp only [xx]
  rw [ai (by rw [nn];decide),ai (by show ¬ (a.rs n).isSome=true;rw [en];decide),ak lo]
  rfl
 ·refine rk.e H' _ _ s w1 ?_
  simp only [xx]
  rw [ak nn]
 ·refine rk.e H' _ _ s w2 ?_
  simp only [xx]
  rw [ai (by rw [nn];decide),ak (by show (a.rs n).isSome=true;rw [←v.rep.rsome n];exact vs)]
 ·refine rk.e H' _ _ s w3 ?_
  simp only [xx]
  rw [ai (by rw [nn];decide),ai (by show ¬ (a.rs n).isSome=true;rw [Qt v.rep vn];decide),ai lo]
theorem VH.aBend {x:Int}(v:VH C CR CW H o (a::as))(nm:Nam NM a)(lN:NM.length≤100)(lD:o.ds.length≤10000)(rk:RunK C CR CW WC H o a as (.bend n c x) Q E)(w1:(("road" : Str),CNR)∈WC)(w2:(("line" : Str),CL)∈WC):qyj C CR CNR CL [.ref o.x,.str n,.int c,.int x] H Q E:=by
 have lens:=v.lens nm
 refine ⟨o.x,o.dr,o.dw,o.dd,o.R,o.W,_,n,c,x,rfl,v.h.hs,Qv _,⋯,⋯,by rw [j7];lia,λvn=>?_,λu eu=>?_⟩
 ·refine rk.e H _ _ (Same.refl _) w1 ?_
  simp only [xx]
  rw [show a.bk.rs n=none from Qt v.rep vn]
 ·obtain ⟨r,hs,rfl,er,ra⟩:=qq3 v.rep eu
  have lo:=v.rep.ok.lo n hs er
  have er':a.bk.rs n=some hs:=er
  have no:∀H',Same H H'→¬ (0≤c∧c<(hs.length:Int)∧xt (hs.set c.toNat x))→E (.ref CL) none H':=λH' s z=>rk.e H' _ _ s w2 (by
   simp only [xx]
   rw [er']
   dsimp only
   rw [ai z])
  refine ⟨r,hs,rfl,ra,lo,λz H' s=>no H' s λq=>z ⟨q.1,q.2.1⟩,λc0 c1=>⟨λlo' H' rd=>?_,λz H' s=>no H' s λq=>z q.2.2⟩⟩
  obtain ⟨o',nx,v',kb⟩:=v.road rd lo' λm w e hw=>by
   obtain ⟨_,hs',er2,hp⟩:=v.rep.ok.wo m w e
   rw [hw,er] at er2
   cases er2
   exact Qg hp lo' (by rw [cQ];exact (Y5 hp).2)
  refine rk.q _ H' o' _ .non ?_ nx v' kb rfl
  simp only [xx]
  rw [er']
  dsimp only
  rw [ak ⟨c0,c1,lo'⟩]
  rfl
theorem VH.aWiden {x:Int}(v:VH C CR CW H o (a::as))(nm:Nam NM a)(lN:NM.length≤100)(lD:o.ds.length≤10000)(rk:RunK C CR CW WC H o a as (.widen n x) Q E)(w1:(("road" : Str),CNR)∈WC)(w2:(("line" : Str),CL)∈WC):qqc C CR CNR CL [.ref o.x,.str n,.int x] H Q E:=by
 have lens:=v.lens nm
 refine ⟨o.x,o.dr,o.dw,o.dd,o.R,o.W,_,n,x,rfl,v.h.hs,Qv _,⋯,⋯,by rw [j7];lia,λvn=>?_,λu eu=>?_⟩
 ·refine rk.e H _ _ (Same.refl _) w1 ?_
  simp only [xx]
  rw [show a.bk.rs n=none from Qt v.rep vn]
 ·obtain ⟨r,hs,rfl,er,ra⟩:=qq3 v.rep eu
  have lo:=v.rep.ok.lo n hs er
  have er':a.bk.rs n=some hs:=er
  refine ⟨r,hs,rfl,ra,lo,λlo' H' rd=>?_,λz H' s=>rk.e H' _ _ s w2 ?_⟩
  ·obtain ⟨o',nx,v',kb⟩:=v.road rd lo' λm w e hw=>by
    obtain ⟨_,hs',er2,hp⟩:=v.rep.ok.wo m w e
    rw [hw,er] at er2
    cases er2
    refine Qg hp lo' ?_
    have:=(Y5 hp).2
    have q1:=hp.2.1.1
    rw [aP]
    push_cast
    have:((hs.length:Int)-1)*w.pt.2≤((hs.length:Int)+(([x]:List Int).length:Int)-1)*w.pt.2:=aJ (by show (hs.length:Int)-1≤(hs.length:Int)+1-1;lia) ⋯
    lia
   refine rk.q _ H' o' _ .non ?_ nx v' kb rfl
   simp only [xx]
   rw [er']
   dsimp only
   rw [ak lo']
   rfl
  ·simp only [xx]
   rw [er']
   dsimp only
   rw [ai z]
theorem bey_of {wd:Int}:Bey a.bk n wd↔∃s w,a.ws s=some w∧w.wh=n∧wd*w.pt.2<w.pt.1:=by
 constructor
 ·rintro ⟨s,pt,e,l⟩
  obtain ⟨w,ew,e2⟩:=xqr e
  cases e2
  exact ⟨s,w,ew,rfl,l⟩
 ·rintro ⟨s,w,e,rfl,l⟩
  exact ⟨s,w.pt,qxp e,l⟩
theorem VH.aNarrow (v:VH C CR CW H o (a::as))(nm:Nam NM a)(lN:NM.length<60)(lD:o.ds.length≤10000)(rk:RunK C CR CW WC H o a as (.narrow n) Q E)(w1:(("road" : Str),CNR)∈WC)(w2:(("line" : Str),CL)∈WC)(w3:(("stood" : Str),CS)∈WC):Yn C CR CW CNR CL CS [.ref o.x,.str n] H Q E:=by
 have lens:=v.lens nm
 obtain ⟨wk,inW⟩:=v.wks ⋯
 refine ⟨o.x,o.dr,o.dw,o.dd,o.R,o.W,_,n,_,_,_,rfl,v.h.hs,Qv _,⋯,by rw [j7];lia,wk,λs hs=>?_,λvn=>?_,λu eu=>?_⟩
 ·obtain ⟨w,e⟩:=(inW s).mp hs
  unfold ptF
  rw [e]
  obtain ⟨_,ks,_,hp⟩:=v.rep.ok.wo s w e
  have:=hp.rng
  exact ⟨this.1,by show w.pt.1≤_;lia,this.2.2.1,by show w.pt.2≤_;lia⟩
 ·refine rk.e H _ _ (Same.refl _) w1 ?_
  simp only [xx]
  rw [show a.bk.rs n=none from Qt v.rep vn]
 ·obtain ⟨r,hs,rfl,er,ra⟩:=qq3 v.rep eu
  have er':a.bk.rs n=some hs:=er
  refine ⟨r,hs,rfl,ra,λz H' s=>rk.e H' _ _ s w2 ?_,λlo'=>⟨λ⟨s,h1,h2,h3⟩ H' s'=>rk.e H' _ _ s' w3 ?_,λhall H' rd=>?_⟩⟩
  ·simp only [xx]
   rw [er']
   dsimp only
   rw [ai z]
  ·simp only [xx]
   rw [er']
   dsimp only
   obtain ⟨w,e⟩:=(inW s).mp h1
   unfold whF at h2
   unfold ptF at h3
   rw [e] at h2 h3
   rw [ak lo',ak (bey_of.mpr ⟨s,w,e,h2,h3⟩)]
  ·have nb:∀m w,a.ws m=some w→w.wh=n→¬ ((hs.dropLast.length:Int)-1)*w.pt.2<w.pt.1:=λm w e hw=>by
    have:=hall m ((inW m).mpr ⟨w,e⟩)
    unfold whF ptF at this
    rw [e] at this
    exact this hw
   obtain ⟨o',nx,v',kb⟩:=v.road rd lo' λm w e hw=>by
    obtain ⟨_,hs',er2,hp⟩:=v.rep.ok.wo m w e
    exact Qg hp lo' (by have:=nb m w e hw;lia)
   refine rk.q _ H' o' _ .non ?_ nx v' kb rfl
   simp only [xx]
   rw [er']
   dsimp only
   rw [ak lo',ai (λz=>by obtain ⟨s,w,e,hw,l⟩:=bey_of.mp z;exact nb s w e hw l)]
   rfl
theorem VH.aClear (v:VH C CR CW H o (a::as))(nm:Nam NM a)(lN:NM.length<60)(lD:o.ds.length≤10000)(rk:RunK C CR CW WC H o a as (.clear n) Q E)(w1:(("road" : Str),CNR)∈WC)(w3:(("stood" : Str),CS)∈WC):qqh C CW CNR CS [.ref o.x,.str n] H Q E:=by
 have lens:=v.lens nm
 obtain ⟨wk,inW⟩:=v.wks ⋯
 refine ⟨o.x,o.dr,o.dw,o.dd,o.R,o.W,_,n,_,_,_,rfl,v.h.hs,⋯,by rw [j7];lia,wk,λvn=>?_,λvs=>?_⟩
 ·refine rk.e H _ _ (Same.refl _) w1 ?_
  simp only [xx]
  rw [show a.bk.rs n=none from Qt v.rep vn]
 ·rw [v.rep.rsome n] at vs
  obtain ⟨hs,er⟩:=bh.mp vs
  have er':a.bk.rs n=some hs:=er
  refine ⟨λ⟨s,h1,h2⟩ H' s'=>rk.e H' _ _ s' w3 ?_,λhall H' gd=>?_⟩
  ·simp only [xx]
   rw [er']
   dsimp only
   obtain ⟨w,e⟩:=(inW s).mp h1
   unfold whF at h2
   rw [e] at h2
   obtain ⟨_,ks,_,hp⟩:=v.rep.ok.wo s w e
   have:=hp.rng
   rw [ak (bey_of.mpr ⟨s,w,e,h2,⋯⟩)]
  ·have nb:∀m w,a.ws m=some w→w.wh≠n:=λm w e hw=>by
    have:=hall m ((inW m).mpr ⟨w,e⟩)
    unfold whF at this
    rw [e] at this
    exact this hw
   obtain ⟨r,er2,_⟩:=v.rep.road er
   obtain ⟨o',nx,v',kb⟩:=v.did gd qyk aS (show 1≤1000 by decide) (aD _) quz Wc (λc hc _=>by rw [aq.mp hc,er2];rfl) qxv λkb=>(v.rep.dl v.h.dl kb).delR nb
   refine rk.q _ H' o' _ .non ?_ nx v' kb rfl
   simp only [xx]
   rw [er']
   dsimp only
   rw [ai (λz=>by obtain ⟨s,w,e,hw,l⟩:=bey_of.mp z;exact nb s w e hw)]
   rfl
open Classical in
theorem VH.aPlace {t p:Int}(v:VH C CR CW H o (a::as))(nm:Nam NM a)(lN:NM.length≤100)(lD:o.ds.length≤10000)(ln:n.length≤100)(fq:H q=some (.tup [.int t,.int p]))(sm:-1000000≤p∧p≤1000000)(rk:RunK C CR CW WC H o a as (.place n wh t p) Q E)(w1:(("name" : Str),CN)∈WC)(w2:(("taken" : Str),CT)∈WC)(w3:(("road" : Str),CNR)∈WC)(w4:(("bottom" : Str),CB)∈WC)(w5:(("off" : Str),CO)∈WC):qqg K C CR CW CN CT CNR CB CO [.ref o.x,.str n,.str wh,.ref q] H Q E:=by
 have lens:=v.lens nm
 have wsn:∀m,(a.bk.ws m).isSome=(a.ws m).isSome:=λm=>by show ((a.ws m).map _).isSome=_;cases a.ws m <;> rfl
 refine ⟨o.x,o.dr,o.dw,o.dd,q,o.R,o.W,_,n,wh,t,p,rfl,v.h.hs,⋯,⋯,by rw [j7];lia,⋯,fq,λnn H' s=>?_,λnn vs H' s=>?_,λnn vn=>⟨λrn H' s=>?_,λu eu=>?_⟩⟩
 ·refine rk.e H' _ _ s w1 ?_
  simp only [xx]
  rw [ak nn]
 ·refine rk.e H' _ _ s w2 ?_
  simp only [xx]
  rw [ai (by rw [nn];decide),ak (by rw [wsn,←v.rep.wsome n];exact vs)]
 ·refine rk.e H' _ _ s w3 ?_
  simp only [xx]
  rw [ai (by rw [nn];decide),ai (by rw [wsn,qqd v.rep vn];decide),show a.bk.rs wh=none from Qt v.rep rn]
 ·obtain ⟨r,hs,rfl,er,ra⟩:=qq3 v.rep eu
  have lo:=v.rep.ok.lo wh hs er
  have er':a.bk.rs wh=some hs:=er
  have go:∀x,(if p<1∨40<(xg t p).2 then (("bottom" : Str),Ans.non,a.bk) else if vt hs t p then (("" : Str),Ans.non,a.bk.putW n (wh,xg t p)) else (("off" : Str),Ans.non,a.bk))=x→xx a.bk (.place n wh t p)=x:=λx e=>by
   rw [←e]
   simp only [xx]
   rw [ai (by rw [nn];decide),ai (by rw [wsn,qqd v.rep vn];decide),er']
  refine ⟨r,hs,rfl,ra,lo,λz H' s=>rk.e H' _ _ s w4 (go _ (ak (.inl z))),λz=>⟨(Sm.small (n:=65) ⋯ ⋯ ⋯).mono ⋯,λy H' s=>rk.e H' _ _ s w4 (go _ (ak (.inr y))),λy=>⟨λon H' s=>rk.e H' _ _ s w5 (go _ ?_),λon H' pa t' wd=>?_⟩⟩⟩
  ·rw [ai ⋯,ai (λon'=>on ((wux z).mpr on'))]
  ·have on':=(wux z).mp on
   have hp:=wz1 lo z y on'
   have rg:=hp.rng
   obtain ⟨o',nx,v',kb⟩:=v.walk (w:=⟨wh,xg t p,[([.inl (xg t p).1,.inl (xg t p).2],.int 1)]⟩) wd (TmOk.one rg.1 rg.2.1 rg.2.2.1 rg.2.2.2) er hp
   refine rk.q _ H' o' _ .non (go _ ?_) nx v' kb rfl
   rw [ai ⋯,ak on',wx8]
theorem VH.aLeave (v:VH C CR CW H o (a::as))(nm:Nam NM a)(lN:NM.length≤100)(lD:o.ds.length≤10000)(rk:RunK C CR CW WC H o a as (.leave n) Q E)(w1:(("walker" : Str),CNW)∈WC):qqp C CNW [.ref o.x,.str n] H Q E:=by
 have lens:=v.lens nm
 refine ⟨o.x,o.dr,o.dw,o.dd,o.R,o.W,_,n,rfl,v.h.hs,⋯,⋯,by rw [j7];lia,λvn=>rk.e H _ _ (Same.refl _) w1 ?_,λvs H' gd=>?_⟩
 ·simp only [xx]
  rw [bk_wn (qqd v.rep vn)]
 ·rw [v.rep.wsome n] at vs
  obtain ⟨w,ew⟩:=bh.mp vs
  obtain ⟨o',nx,v',kb⟩:=v.leave ew gd
  refine rk.q _ H' o' _ .non ?_ nx v' kb rfl
  simp only [xx]
  rw [qxp ew]
  rw [xwd]
theorem VH.aGo {m:Int}(v:VH C CR CW H o (a::as))(nm:Nam NM a)(lN:NM.length≤100)(lD:o.ds.length≤10000)(rk:RunK C CR CW WC H o a as (.go n m) Q E)(w1:(("walker" : Str),CNW)∈WC)(w2:(("count" : Str),CC)∈WC):spGo C CR CW CNW CC [.ref o.x,.str n,.int m] H Q E:=by
 have lens:=v.lens nm
 refine ⟨o.x,o.dr,o.dw,o.dd,o.R,o.W,_,n,m,rfl,v.h.hs,⋯,⋯,by rw [j7];lia,λvn=>rk.e H _ _ (Same.refl _) w1 ?_,λu eu=>?_⟩
 ·simp only [xx]
  rw [bk_wn (qqd v.rep vn)]
 ·obtain ⟨y,p,t,w,rfl,ew,wk⟩:=xxv v.rep eu
  obtain ⟨tm,hs,er,hp⟩:=v.rep.ok.wo n w ew
  obtain ⟨r,er2,ra⟩:=v.rep.road er
  have er':a.bk.rs w.wh=some hs:=er
  refine ⟨y,w.wh,p,w.pt,t,w.tv,r,hs,rfl,wk,tm,er2,ra,hp,λz=>rk.e H _ _ (Same.refl _) w2 ?_,λz H' p' t' tv' wd tm' hit=>?_⟩
  ·simp only [xx]
   rw [qxp ew]
   dsimp only
   rw [ai (λq=>z ⟨q.1,λb e=>by cases e;exact q.2⟩)]
  ·have pt':H' p'=some (.tup [.int (itP hs w.pt m.toNat).1,.int (itP hs w.pt m.toNat).2]):=by
    obtain ⟨y',_,_,_,_,_,_,_,_,_,_,_,wk',_⟩:=wd
    exact wk'.pt
   obtain ⟨o',nx,v',kb⟩:=v.walk (w:=⟨w.wh,itP hs w.pt m.toNat,tv'⟩) wd tm' er (hp.it _)
   refine rk.q _ H' o' _ (.pt (itP hs w.pt m.toNat)) ?_ nx v' kb ⟨p',rfl,pt',(hp.it _).g⟩
   simp only [xx]
   rw [qxp ew]
   dsimp only
   rw [ak ⟨z.1,z.2 _ rfl⟩,er',wx8]
   rfl
theorem VH.aTog {m:Int}(v:VH C CR CW H o (a::as))(nm:Nam NM a)(lN:NM.length<60)(lD:o.ds.length≤10000)(nb:∀s w,a.ws s=some w→vb s=true)(rk:RunK C CR CW WC H o a as (.tog n m) Q E)(w1:(("road" : Str),CNR)∈WC)(w2:(("count" : Str),CC)∈WC):quh C CR CW CNR CC [.ref o.x,.str n,.int m] H Q E:=by
 have lens:=v.lens nm
 by_cases er:∃hs,a.rs n=some hs
 ·obtain ⟨hs,er⟩:=er
  have er':a.bk.rs n=some hs:=er
  obtain ⟨r,er2,ra⟩:=v.rep.road er
  by_cases z:0≤m∧m≤FARI
  ·refine v.togs nm lN lD er ⟨z.1,λb e=>by cases e;exact z.2⟩ λl H' o' tv nx v' _ kb nl ⟨ms,ys,nd,hin,srt,fl,ly,hy⟩=>?_
   have eo:onL a.bk n=ms:=wyc ⟨nd,λs=>by
    rw [hin s]
    constructor
    ·rintro ⟨w,e,rfl⟩
     exact ⟨w.pt,qxp e⟩
    ·rintro ⟨pt,e⟩
     obtain ⟨w,ew,e2⟩:=xqr e
     cases e2
     exact ⟨w,ew,rfl⟩,srt⟩
   refine rk.q _ H' o' _ (.lst (qyd a.bk n hs m.toNat)) ?_ nx v' kb ⟨l,ys,rfl,fl,?_,?_,λj x ex=>?_⟩
   ·simp only [xx]
    rw [er']
    dsimp only
    rw [ak z,bk_tog]
   ·unfold qyd
    rw [eo,aa,ly]
   ·unfold qyd
    rw [eo,aa]
    have:=qq7 ms (o.W.map jh) nd λs hs=>by
     obtain ⟨w,e,_⟩:=(hin s).mp hs
     exact ((v.wks ⋯).2 s).mpr ⟨w,e⟩
    rw [aa] at this
    lia
   ·unfold qyd at ex
    rw [eo,aE] at ex
    cases em:ms[j]? with
    |none=>rw [em] at ex;cases ex
    |some s =>
     rw [em] at ex
     cases ex
     obtain ⟨q,p,w,ew,eq,fq,fp⟩:=hy j s em
     obtain ⟨w',ew',hw'⟩:=(hin s).mp (aL em)
     rw [ew] at ew'
     cases ew'
     obtain ⟨_,ks,er3,hp⟩:=v.rep.ok.wo s w ew
     rw [hw',er] at er3
     cases er3
     have e2:((a.bk.ws s).getD ("",(0,0))).2=w.pt:=by rw [qxp ew];rfl
     dsimp only
     rw [e2]
     exact ⟨q,p,eq,fq,fp,(hp.it _).g,nb s w ew⟩
  ·refine ⟨o.x,o.dr,o.dw,o.dd,o.R,o.W,_,n,m,rfl,v.h.hs,⋯,by rw [j7];lia,(λy=>by rw [er2] at y;cases y),λu eu=>?_⟩
   rw [er2] at eu
   cases eu
   refine ⟨r,hs,rfl,ra,λ_=>rk.e H _ _ (Same.refl _) w2 ?_,λy=>absurd ⟨y.1,y.2 _ rfl⟩ z⟩
   simp only [xx]
   rw [er']
   dsimp only
   rw [ai z]
 ·have en:a.rs n=none:=by
   cases e:a.rs n with
   |none=>rfl
   |some hs=>exact absurd ⟨hs,e⟩ er
  have vn:=v.rep.noR en
  refine ⟨o.x,o.dr,o.dw,o.dd,o.R,o.W,_,n,m,rfl,v.h.hs,⋯,by rw [j7];lia,λ_=>rk.e H _ _ (Same.refl _) w1 ?_,(λu eu=>by rw [vn] at eu;cases eu)⟩
  simp only [xx]
  rw [show a.bk.rs n=none from en]
end
abbrev wcL (c1 c2 c3 c4 c5 c6 c7 c8 c9 c10:Aj):List (Str×Aj):=[("name",c1),("taken",c2),("line",c3),("road",c4),("walker",c5),("stood",c6),("bottom",c7),("off",c8),("count",c9),("nothing",c10)]
variable {H1:Hp}
theorem RunK.pre {CR:Aj}{WC:List (Str×Aj)}(r:RunK C CR CW WC H o a as d Q E)(s:Same H H1):RunK C CR CW WC H1 o a as d Q E :=
 ⟨λv H' o' a' ans e nx vh kb an=>r.q v H' o' a' ans e ⟨nx.x,nx.dr,nx.dw,nx.dd,let ⟨d,e,n1,n2⟩:=nx.ds;⟨d,e,xy s n1,xy s n2⟩⟩ vh ((Kb.of s).trans kb) an,λH' wd X s' hw e=>r.e H' wd X (s.trans s') hw e⟩
def wjf (C CR CW:Aj)(WC:List (Str×Aj)):Sp:=λvs H Q E=>∃(o:Ho) (da:Aj) (a:AH) (as:List AH) (d:Dd) (NM:List Str),vs=[.ref o.x,.ref da]∧VH C CR CW H o (a::as)∧DdAt H da d∧(∀n,d≠.back n)∧BOk NM a.bk∧NM.length<60∧o.ds.length≤1000∧RunK C CR CW WC H o a as d Q E
include T in
theorem zin (F:Fun K "_law_run" "_law_run" zcv f fd)(zio:MCal P w K mg base qq "lay" 4 (wz5 K qq wq qr wj qg))(ziq:MCal P w K mg base qq "bend" 4 (qyj qq wq q9 qg))(zir:MCal P w K mg base qq "widen" 4 (qqc qq wq q9 qg))(zis:MCal P w K mg base qq "narrow" 4 (Yn qq wq qy q9 qg wy))(zit:MCal P w K mg base qq "clear" 3 (qqh qq qy q9 wy))
  (ziu:MCal P w K mg base qq "place" 5 (qqg K qq wq qy qr wj q9 qx q8)) (ziv:MCal P w K mg base qq "leave" 3 (qqp qq qj)) (ziw:MCal P w K mg base qq "go" 8 (spGo qq wq qy qj qb)) (zix:MCal P w K mg base qq "together" 8 (quh qq wq qy q9 qb)) :
  FK P w K mg base 9 f fd ["_law_house","_law_deed_here"] (wjf qq wq qy (wcL qr wj qg q9 qj wy qx q8 qb qw)):=by
 have sc:=qu4
 refine F.okX sc (λvs H Q E h=>by obtain ⟨_,_,_,_,_,_,rfl,_⟩:=h;rfl) λ_ _ _ s H vs Q E hr h=>?_
 obtain ⟨o,da,a,as,d,NM,rfl,v,dd,nb,bo,lN,lD,rk⟩:=h
 have nm:=AOk.bk bo
 obtain ⟨dx,hx⟩:=v.h.hs.ob
 refine ⟨_,(qu (xh (wm zf (xq xv (pv 1) qk (λ_ _=>rfl)) qk (w6 _)) (qm (wn (x8 (pv 0) T.clH zio (hr.mono ⋯) qf (zq (xq xv (pv 1) qk (λ_ _=>rfl)) (vd (zn jd rfl T.list_ aZ (zq (xq xv (pv 1) qk (λ_ _=>rfl)) qz)) qz))))) wt)
   (qu (xh (wm zf (xq xv (pv 1) qk (λ_ _=>rfl)) qk (w6 _)) (qm (wn (x8 (pv 0) T.clH ziq (hr.mono ⋯) qf (zq (xq xv (pv 1) qk (λ_ _=>rfl)) (zq (xq xv (pv 1) qk (λ_ _=>rfl)) (zq (xq xv (pv 1) qk (λ_ _=>rfl)) qz)))))) wt)
   (qu (xh (wm zf (xq xv (pv 1) qk (λ_ _=>rfl)) qk (w6 _)) (qm (wn (x8 (pv 0) T.clH zir (hr.mono ⋯) qf (zq (xq xv (pv 1) qk (λ_ _=>rfl)) (zq (xq xv (pv 1) qk (λ_ _=>rfl)) qz))))) wt)
   (qu (xh (wm zf (xq xv (pv 1) qk (λ_ _=>rfl)) qk (w6 _)) (qm (wn (x8 (pv 0) T.clH zis (hr.mono ⋯) qf (zq (xq xv (pv 1) qk (λ_ _=>rfl)) qz)))) wt)
   (qu (xh (wm zf (xq xv (pv 1) qk (λ_ _=>rfl)) qk (w6 _)) (qm (wn (x8 (pv 0) T.clH zit (hr.mono ⋯) qf (zq (xq xv (pv 1) qk (λ_ _=>rfl)) qz)))) wt)
   (qu (xh (wm zf (xq xv (pv 1) qk (λ_ _=>rfl)) qk (w6 _)) (qm (wn (x8 (pv 0) T.clH ziu (hr.mono ⋯) qf (zq (xq xv (pv 1) qk (λ_ _=>rfl)) (zq (xq xv (pv 1) qk (λ_ _=>rfl)) (zq (xq xv (pv 1) qk (λ_ _=>rfl)) qz)))))) wt)
   (qu (xh (wm zf (xq xv (pv 1) qk (λ_ _=>rfl)) qk (w6 _)) (qm (wn (x8 (pv 0) T.clH ziv (hr.mono ⋯) qf (zq (xq xv (pv 1) qk (λ_ _=>rfl)) qz)))) wt)
   (qu (xh (wm zf (xq xv (pv 1) qk (λ_ _=>rfl)) qk (w6 _)) (qm (wn (x8 (pv 0) T.clH ziw (hr.mono ⋯) qf (zq (xq xv (pv 1) qk (λ_ _=>rfl)) (zq (xq xv (pv 1) qk (λ_ _=>rfl)) qz))))) wt)
   (qm (wn (x8 (pv 0) T.clH zix (hr.mono ⋯) qf (zq (xq xv (pv 1) qk (λ_ _=>rfl)) (zq (xq xv (pv 1) qk (λ_ _=>rfl)) qz))))))))))))),?_⟩
 dsimp only [ug]
 cases d with
 |back n=>exact absurd rfl (nb n)
 |lay n hs =>
  obtain ⟨p,h,hp,l2,l25,ln⟩:=dd
  refine gI rfl (gX rfl rfl (SqT.of h) rfl ⟨rfl,_,rfl,xn (λ_=>?_) (λz=>absurd rfl z)⟩)
  refine gI rfl ⟨o.x,dx,gI rfl ⟨hx,x9,gI rfl (gX rfl rfl (SqT.of h) rfl (gI rfl (gX rfl rfl (SqT.of h) rfl ⟨_,_,rfl,.inl (SqL.of hp),λp' np=>?_⟩)))⟩⟩
  dsimp only [j6,Qc,tC]
  have s1:=Same.upd (H:=H) (o:=.lst (hs.map V.int)) np
  have f1:upd H p' (.lst (hs.map V.int)) p'=some (.lst (hs.map V.int)):=qc
  generalize upd H p' (.lst (hs.map V.int))=H1 at s1 f1
  exact (v.same s1).aLay nm ⋯ ⋯ ln f1 (rk.pre s1) (by simp) (by simp) (by simp)
 |bend n c x =>
  have h:H da=_:=dd
  refine gI rfl (gX rfl rfl (SqT.of h) rfl ⟨rfl,_,rfl,xN ?_⟩)
  refine gI rfl (gX rfl rfl (SqT.of h) rfl ⟨rfl,_,rfl,xn (λ_=>?_) (λz=>absurd rfl z)⟩)
  refine gI rfl ⟨o.x,dx,gI rfl ⟨hx,x9,gI rfl (gX rfl rfl (SqT.of h) rfl (gI rfl (gX rfl rfl (SqT.of h) rfl (gI rfl (gX rfl rfl (SqT.of h) rfl ?_)))))⟩⟩
  dsimp only [j6,Qc,tC]
  exact v.aBend nm ⋯ ⋯ rk (by simp) (by simp)
 |widen n x =>
  have h:H da=_:=dd
  refine gI rfl (gX rfl rfl (SqT.of h) rfl ⟨rfl,_,rfl,xN ?_⟩)
  refine gI rfl (gX rfl rfl (SqT.of h) rfl ⟨rfl,_,rfl,xN ?_⟩)
  refine gI rfl (gX rfl rfl (SqT.of h) rfl ⟨rfl,_,rfl,xn (λ_=>?_) (λz=>absurd rfl z)⟩)
  refine gI rfl ⟨o.x,dx,gI rfl ⟨hx,x9,gI rfl (gX rfl rfl (SqT.of h) rfl (gI rfl (gX rfl rfl (SqT.of h) rfl ?_)))⟩⟩
  dsimp only [j6,Qc,tC]
  exact v.aWiden nm ⋯ ⋯ rk (by simp) (by simp)
 |narrow n =>
  have h:H da=_:=dd
  refine gI rfl (gX rfl rfl (SqT.of h) rfl ⟨rfl,_,rfl,xN ?_⟩)
  refine gI rfl (gX rfl rfl (SqT.of h) rfl ⟨rfl,_,rfl,xN ?_⟩)
  refine gI rfl (gX rfl rfl (SqT.of h) rfl ⟨rfl,_,rfl,xN ?_⟩)
  refine gI rfl (gX rfl rfl (SqT.of h) rfl ⟨rfl,_,rfl,xn (λ_=>?_) (λz=>absurd rfl z)⟩)
  refine gI rfl ⟨o.x,dx,gI rfl ⟨hx,x9,gI rfl (gX rfl rfl (SqT.of h) rfl ?_)⟩⟩
  dsimp only [j6,Qc,tC]
  exact v.aNarrow nm ⋯ ⋯ rk (by simp) (by simp) (by simp)
 |clear n =>
  have h:H da=_:=dd
  refine gI rfl (gX rfl rfl (SqT.of h) rfl ⟨rfl,_,rfl,xN ?_⟩)
  refine gI rfl (gX rfl rfl (SqT.of h) rfl ⟨rfl,_,rfl,xN ?_⟩)
  refine gI rfl (gX rfl rfl (SqT.of h) rfl ⟨rfl,_,rfl,xN ?_⟩)
  refine gI rfl (gX rfl rfl (SqT.of h) rfl ⟨rfl,_,rfl,xN ?_⟩)
  refine gI rfl (gX rfl rfl (SqT.of h) rfl ⟨rfl,_,rfl,xn (λ_=>?_) (λz=>absurd rfl z)⟩)
  refine gI rfl ⟨o.x,dx,gI rfl ⟨hx,x9,gI rfl (gX rfl rfl (SqT.of h) rfl ?_)⟩⟩
  dsimp only [j6,Qc,tC]
  exact v.aClear nm ⋯ ⋯ rk (by simp) (by simp)
 |place n wh t p =>
  obtain ⟨q,h,hq,ln,bt,bp⟩:=dd
  refine gI rfl (gX rfl rfl (SqT.of h) rfl ⟨rfl,_,rfl,xN ?_⟩)
  refine gI rfl (gX rfl rfl (SqT.of h) rfl ⟨rfl,_,rfl,xN ?_⟩)
  refine gI rfl (gX rfl rfl (SqT.of h) rfl ⟨rfl,_,rfl,xN ?_⟩)
  refine gI rfl (gX rfl rfl (SqT.of h) rfl ⟨rfl,_,rfl,xN ?_⟩)
  refine gI rfl (gX rfl rfl (SqT.of h) rfl ⟨rfl,_,rfl,xN ?_⟩)
  refine gI rfl (gX rfl rfl (SqT.of h) rfl ⟨rfl,_,rfl,xn (λ_=>?_) (λz=>absurd rfl z)⟩)
  refine gI rfl ⟨o.x,dx,gI rfl ⟨hx,x9,gI rfl (gX rfl rfl (SqT.of h) rfl (gI rfl (gX rfl rfl (SqT.of h) rfl (gI rfl (gX rfl rfl (SqT.of h) rfl ?_)))))⟩⟩
  dsimp only [j6,Qc,tC]
  exact v.aPlace nm ⋯ ⋯ ln hq bp rk (by simp) (by simp) (by simp) (by simp) (by simp)
 |leave n =>
  have h:H da=_:=dd
  refine gI rfl (gX rfl rfl (SqT.of h) rfl ⟨rfl,_,rfl,xN ?_⟩)
  refine gI rfl (gX rfl rfl (SqT.of h) rfl ⟨rfl,_,rfl,xN ?_⟩)
  refine gI rfl (gX rfl rfl (SqT.of h) rfl ⟨rfl,_,rfl,xN ?_⟩)
  refine gI rfl (gX rfl rfl (SqT.of h) rfl ⟨rfl,_,rfl,xN ?_⟩)
  refine gI rfl (gX rfl rfl (SqT.of h) rfl ⟨rfl,_,rfl,xN ?_⟩)
  refine gI rfl (gX rfl rfl (SqT.of h) rfl ⟨rfl,_,rfl,xN ?_⟩)
  refine gI rfl (gX rfl rfl (SqT.of h) rfl ⟨rfl,_,rfl,xn (λ_=>?_) (λz=>absurd rfl z)⟩)
  refine gI rfl ⟨o.x,dx,gI rfl ⟨hx,x9,gI rfl (gX rfl rfl (SqT.of h) rfl ?_)⟩⟩
  dsimp only [j6,Qc,tC]
  exact v.aLeave nm ⋯ ⋯ rk (by simp)
 |go n m =>
  have h:H da=_:=dd
  refine gI rfl (gX rfl rfl (SqT.of h) rfl ⟨rfl,_,rfl,xN ?_⟩)
  refine gI rfl (gX rfl rfl (SqT.of h) rfl ⟨rfl,_,rfl,xN ?_⟩)
  refine gI rfl (gX rfl rfl (SqT.of h) rfl ⟨rfl,_,rfl,xN ?_⟩)
  refine gI rfl (gX rfl rfl (SqT.of h) rfl ⟨rfl,_,rfl,xN ?_⟩)
  refine gI rfl (gX rfl rfl (SqT.of h) rfl ⟨rfl,_,rfl,xN ?_⟩)
  refine gI rfl (gX rfl rfl (SqT.of h) rfl ⟨rfl,_,rfl,xN ?_⟩)
  refine gI rfl (gX rfl rfl (SqT.of h) rfl ⟨rfl,_,rfl,xN ?_⟩)
  refine gI rfl (gX rfl rfl (SqT.of h) rfl ⟨rfl,_,rfl,xn (λ_=>?_) (λz=>absurd rfl z)⟩)
  refine gI rfl ⟨o.x,dx,gI rfl ⟨hx,x9,gI rfl (gX rfl rfl (SqT.of h) rfl (gI rfl (gX rfl rfl (SqT.of h) rfl ?_)))⟩⟩
  dsimp only [j6,Qc,tC]
  exact v.aGo nm ⋯ ⋯ rk (by simp) (by simp)
 |tog n m =>
  have h:H da=_:=dd
  refine gI rfl (gX rfl rfl (SqT.of h) rfl ⟨rfl,_,rfl,xN ?_⟩)
  refine gI rfl (gX rfl rfl (SqT.of h) rfl ⟨rfl,_,rfl,xN ?_⟩)
  refine gI rfl (gX rfl rfl (SqT.of h) rfl ⟨rfl,_,rfl,xN ?_⟩)
  refine gI rfl (gX rfl rfl (SqT.of h) rfl ⟨rfl,_,rfl,xN ?_⟩)
  refine gI rfl (gX rfl rfl (SqT.of h) rfl ⟨rfl,_,rfl,xN ?_⟩)
  refine gI rfl (gX rfl rfl (SqT.of h) rfl ⟨rfl,_,rfl,xN ?_⟩)
  refine gI rfl (gX rfl rfl (SqT.of h) rfl ⟨rfl,_,rfl,xN ?_⟩)
  refine gI rfl (gX rfl rfl (SqT.of h) rfl ⟨rfl,_,rfl,xN ?_⟩)
  refine gI rfl ⟨o.x,dx,gI rfl ⟨hx,x9,gI rfl (gX rfl rfl (SqT.of h) rfl (gI rfl (gX rfl rfl (SqT.of h) rfl ?_)))⟩⟩
  dsimp only [j6,Qc,tC]
  exact v.aTog nm ⋯ ⋯ (λs w e=>(bo.wo s _ (qxp e)).1) rk (by simp) (by simp)
def Chg (C CR CW:Aj)(H H':Hp)(o o':Ho)(as as':List AH)(d:Dd)(wd:Str)(ans:Ans):Prop :=
 ((∀n,d≠.back n)∧∃a t a',as=a::t∧xx a.bk d=(("" : Str),ans,a'.bk)∧wd = "" ∧ as'=a'::a::t∧Nxt H o o'∧Kb [o.dr,o.dw,o.dd] H H') ∨
 ((∀n,d≠.back n)∧∃a t,as=a::t∧xx a.bk d=(wd,ans,a.bk)∧wd ≠ "" ∧ ans=.non∧as'=as∧o'=o∧Same H H') ∨
 ((∃n,d=.back n)∧ans=.non∧((∃a,as=[a]∧wd = "nothing" ∧ as'=as∧o'=o∧Same H H') ∨
  (∃a b t e,as=a::b::t∧wd = "" ∧ as'=b::t∧Prv o o'∧o.ds=e::o'.ds∧Kb [o.dr,o.dw,o.dd,e.q1,e.q2] H H'∧Dl H [o.dr,o.dw,o.dd,e.q1,e.q2]∧(∀q kv,q∉[o.dr,o.dw,o.dd]→Rd H q (.dK kv)→Rd H' q (.dK kv)))))
def wq8 (C CR CW:Aj):Sp:=λvs H Q _=>∃(o:Ho) (da:Aj) (a:AH) (as:List AH) (d:Dd) (NM:List Str),vs=[.ref o.x,.ref da]∧VH C CR CW H o (a::as)∧DdAt H da d∧BOk NM a.bk∧NM.length<60∧o.ds.length≤1000∧o.ds.length=as.length ∧
 ∀(q:Aj) (v:V) (H1 H':Hp) (o':Ho) (as':List AH) (wd:Str) (ans:Ans),Chg C CR CW H H1 o o' (a::as) as' d wd ans→VH C CR CW H1 o' as'→AnsAt H1 v ans→H1 q=none→H'=upd H1 q (.tup [.str wd,v])→Q (.ref q) H'
include T in
theorem xwp (F:Fun K "_law_told" "_law_told" zcw f fd)(ziy:MCal P w K mg base qq "take_back" 2 (qwt qq qw))(ziz:Cal P w K mg base "_law_run" 9 (wjf qq wq qy (wcL qr wj qg q9 qj wy qx q8 qb qw))) :
  FK P w K mg base 10 f fd ["_law_house","_law_deed_here"] (wq8 qq wq qy):=by
 have sc:=qk2
 refine F.okX sc (λvs H Q E h=>by obtain ⟨_,_,_,_,_,_,rfl,_⟩:=h;rfl) λ_ _ _ s H vs Q E hr h=>?_
 obtain ⟨o,da,a,as,d,NM,rfl,v,dd,bo,lN,lD,lA,k⟩:=h
 have nm:=AOk.bk bo
 have lens:=v.lens nm
 obtain ⟨dx,hx⟩:=v.h.hs.ob
 obtain ⟨m10,m20,m21,m30,m31,m32,m40,m41,m42,m43,m50,m51,m52,m53,m54,m60,m61,m62,m63,m64,m65,m70,m71,m72,m73,m74,m75,m76,m80,m81,m82,m83,m84,m85,m86,m87,m90,m91,m92,m93,m94,m95,m96,m97,m98⟩:=T.ms
 refine ⟨_,(qu (xj (i:=2) x6)
   (qu (xj (i:=3) jv)
   (qu (xx8 rfl rfl (λpn xe E hE hO=>(qm (xh (wm zf (xq (xq8 (K:=K) rfl) (pv 1) qk (λ_ _=>rfl)) qk (w6 _)) (qm (xj (i:=3) (kj (pv 0) T.clH ziy (hr.mono ⋯) hE))) (qm (xj (i:=3) (wc ziz (hr.mono ⋯) rfl hE (wz (pv 0) (wz (pv 1) qz)))))))) (.cons rfl T.zhe (λe=>(qm (xj (i:=2) x6))) (.cons rfl T.zhf (λe=>(qm (xj (i:=2) x6))) (.cons rfl T.zda (λe=>(qm (xj (i:=2) x6))) (.cons rfl T.zhg (λe=>(qm (xj (i:=2) x6))) (.cons rfl T.zhh (λe=>(qm (xj (i:=2) x6))) (.cons rfl T.zdc (λe=>(qm (xj (i:=2) x6))) (.cons rfl T.zdb (λe=>(qm (xj (i:=2) x6))) (.cons rfl T.zhc (λe=>(qm (xj (i:=2) x6))) (.cons rfl T.zhd (λe=>(qm (xj (i:=2) x6))) (.cons rfl T.zhi (λe=>(qm (xj (i:=2) x6))) .nil ⋯) ⋯) ⋯) ⋯) ⋯) ⋯) ⋯) ⋯) ⋯) ⋯))
   (qm (wn (zx (wz (pv 2) (wz (pv 3) qz)))))))),?_⟩
 dsimp only [ug]
 by_cases zb:∃n,d=.back n
 ·obtain ⟨n,rfl⟩:=zb
  have h:H da=some (.tup [.int 9,.str n]):=dd
  refine gI rfl (gX rfl rfl (SqT.of h) rfl ⟨rfl,_,rfl,xn (λ_=>?_) (λz=>absurd rfl z)⟩)
  refine gI rfl ⟨o.x,dx,gI rfl ⟨hx,x9,?_⟩⟩
  cases as with
  |nil =>
   have e0:o.ds=[]:=cC.mp lA
   refine ⟨o.x,o.dr,o.dw,o.dd,o.R,o.W,_,rfl,v.h.hs,⋯,⋯,(λ_=>?_),λD' u e=>?_⟩
   ·refine gI rfl (.inr ⟨w9 T.zac m90,.inr ⟨w9 T.zae m91,.inr ⟨w9 T.zad m92,.inr ⟨w9 T.zaf m93,.inr ⟨w9 T.zah m94,.inr ⟨w9 T.zai m95,.inr ⟨w9 T.zaj m96,.inr ⟨w9 T.zal m97,.inr ⟨w9 T.zam m98,.inl ⟨ku T.zao,_,rfl,?_⟩⟩⟩⟩⟩⟩⟩⟩⟩⟩)
    exact gI rfl ⟨sz2,λq nq=>k q .non H _ o [a] "nothing" .non (.inr (.inr ⟨⟨n,rfl⟩,rfl,.inl ⟨a,rfl,rfl,rfl,rfl,Same.refl _⟩⟩)) v rfl nq rfl⟩
   ·rw [e0] at e
    exact absurd e.symm (cM _ (fH _ _))
  |cons b as =>
   dsimp only [Qc]
   refine v.take ⋯ ⋯ λH' o' e pv ed v' kb dl rdk=>?_
   exact gI rfl (gI rfl ⟨sz2,λq nq=>k q .non H' _ o' _ "" .non (.inr (.inr ⟨⟨n,rfl⟩,rfl,.inr ⟨a,b,as,e,rfl,rfl,rfl,pv,ed,kb,dl,rdk⟩⟩)) v' rfl nq rfl⟩)
 ·have nb:∀n,d≠.back n:=λn e=>zb ⟨n,e⟩
  obtain ⟨kd,xs,h,hk⟩:∃kd xs,H da=some (.tup (.int kd::xs))∧kd≠9:=by
   cases d with
   |lay n hs=>obtain ⟨p,h,_⟩:=dd;exact ⟨_,_,h,⋯⟩
   |place n wh t p=>obtain ⟨q,h,_⟩:=dd;exact ⟨_,_,h,⋯⟩
   |back n=>exact absurd rfl (nb n)
   |_=>exact ⟨_,_,dd,⋯⟩
  have at0:atI (V.int kd::xs) 0=some (.int kd):=by simp [atI,ixN]
  refine gI rfl (gX rfl rfl (SqT.of h) at0 ⟨rfl,_,rfl,xn (λz=>absurd z hk) (λ_=>?_)⟩)
  refine gI rfl (gI rfl ?_)
  dsimp only [j6,Qc,tC]
  refine ⟨o,da,a,as,d,NM,rfl,v,dd,nb,bo,lN,lD,⟨λv' H' o' a' ans e nx vh kb an=>?_,λH' wd X s' hw e=>?_⟩⟩
  ·exact gI rfl (gI rfl ⟨sz2,λq nq=>k q v' H' _ o' _ "" ans (.inl ⟨nb,a,as,a',rfl,e,rfl,rfl,nx,kb⟩) vh an nq rfl⟩)
  ·have fin:∀wd:Str,wd ≠ "" → xx a.bk d=(wd,.non,a.bk)→∀q,H' q=none→Q (.ref q) (upd H' q (.tup [.str wd,.non])):=λwd nw e q nq=>k q .non H' _ o (a::as) wd .non (.inr (.inl ⟨nb,a,as,rfl,e,nw,rfl,rfl,rfl,s'⟩)) (v.same s') rfl nq rfl
   simp only [wcL,ae,af,aG,Prod.mk.injEq] at hw
   rcases hw with ⟨rfl,rfl⟩|⟨rfl,rfl⟩|⟨rfl,rfl⟩|⟨rfl,rfl⟩|⟨rfl,rfl⟩|⟨rfl,rfl⟩|⟨rfl,rfl⟩|⟨rfl,rfl⟩|⟨rfl,rfl⟩|⟨rfl,rfl⟩
   ·exact gI rfl (.inl ⟨ku T.zac,gI rfl (gI rfl ⟨sz2,λq nq=>fin _ ⋯ e q nq⟩)⟩)
   ·exact gI rfl (.inr ⟨w9 T.zac m10,.inl ⟨ku T.zae,gI rfl (gI rfl ⟨sz2,λq nq=>fin _ ⋯ e q nq⟩)⟩⟩)
   ·exact gI rfl (.inr ⟨w9 T.zac m20,.inr ⟨w9 T.zae m21,.inl ⟨ku T.zad,gI rfl (gI rfl ⟨sz2,λq nq=>fin _ ⋯ e q nq⟩)⟩⟩⟩)
   ·exact gI rfl (.inr ⟨w9 T.zac m30,.inr ⟨w9 T.zae m31,.inr ⟨w9 T.zad m32,.inl ⟨ku T.zaf,gI rfl (gI rfl ⟨sz2,λq nq=>fin _ ⋯ e q nq⟩)⟩⟩⟩⟩)
   ·exact gI rfl (.inr ⟨w9 T.zac m40,.inr ⟨w9 T.zae m41,.inr ⟨w9 T.zad m42,.inr ⟨w9 T.zaf m43,.inl ⟨ku T.zah,gI rfl (gI rfl ⟨sz2,λq nq=>fin _ ⋯ e q nq⟩)⟩⟩⟩⟩⟩)
   ·exact gI rfl (.inr ⟨w9 T.zac m50,.inr ⟨w9 T.zae m51,.inr ⟨w9 T.zad m52,.inr ⟨w9 T.zaf m53,.inr ⟨w9 T.zah m54,.inl ⟨ku T.zai,gI rfl (gI rfl ⟨sz2,λq nq=>fin _ ⋯ e q nq⟩)⟩⟩⟩⟩⟩⟩)
   ·exact gI rfl (.inr ⟨w9 T.zac m60,.inr ⟨w9 T.zae m61,.inr ⟨w9 T.zad m62,.inr ⟨w9 T.zaf m63,.inr ⟨w9 T.zah m64,.inr ⟨w9 T.zai m65,.inl ⟨ku T.zaj,gI rfl (gI rfl ⟨sz2,λq nq=>fin _ ⋯ e q nq⟩)⟩⟩⟩⟩⟩⟩⟩)
   ·exact gI rfl (.inr ⟨w9 T.zac m70,.inr ⟨w9 T.zae m71,.inr ⟨w9 T.zad m72,.inr ⟨w9 T.zaf m73,.inr ⟨w9 T.zah m74,.inr ⟨w9 T.zai m75,.inr ⟨w9 T.zaj m76,.inl ⟨ku T.zal,gI rfl (gI rfl ⟨sz2,λq nq=>fin _ ⋯ e q nq⟩)⟩⟩⟩⟩⟩⟩⟩⟩)
   ·exact gI rfl (.inr ⟨w9 T.zac m80,.inr ⟨w9 T.zae m81,.inr ⟨w9 T.zad m82,.inr ⟨w9 T.zaf m83,.inr ⟨w9 T.zah m84,.inr ⟨w9 T.zai m85,.inr ⟨w9 T.zaj m86,.inr ⟨w9 T.zal m87,.inl ⟨ku T.zam,gI rfl (gI rfl ⟨sz2,λq nq=>fin _ ⋯ e q nq⟩)⟩⟩⟩⟩⟩⟩⟩⟩⟩)
   ·exact gI rfl (.inr ⟨w9 T.zac m90,.inr ⟨w9 T.zae m91,.inr ⟨w9 T.zad m92,.inr ⟨w9 T.zaf m93,.inr ⟨w9 T.zah m94,.inr ⟨w9 T.zai m95,.inr ⟨w9 T.zaj m96,.inr ⟨w9 T.zal m97,.inr ⟨w9 T.zam m98,.inl ⟨ku T.zao,gI rfl (gI rfl ⟨sz2,λq nq=>fin _ ⋯ e q nq⟩)⟩⟩⟩⟩⟩⟩⟩⟩⟩⟩)
def y8 (cs:List Nat):Str:=⟨cs.toArray⟩
def Lets (cs:List Nat):Prop:=∀c∈cs,97≤c∧c<123
theorem let_at:∀i:Nat,i<26→atI (("abcdefghijklmnopqrstuvwxyz" : Str)).cps.toList (i:Int)=some (97+i):=by decide +kernel
theorem let_sz:(("abcdefghijklmnopqrstuvwxyz" : Str)).length≤sizeLine:=bD (show _≤1000 by decide +kernel) ⋯
theorem wk4 (cs:List Nat)(c:Nat):y8 cs++(⟨#[c]⟩:Str)=y8 (cs++[c]):=by
 show (⟨cs.toArray++#[c]⟩:Str)=⟨(cs++[c]).toArray⟩
 simp
theorem Wq (cs:List Nat):(y8 cs).length=cs.length:=by
 show cs.toArray.size=_
 simp
theorem ww5 (cs:List Nat){n:Nat}(hn:n≤cs.length):Txt.slice (y8 cs) none (some (n:Int))=y8 (cs.take n):=by
 have e0:Builtin.Str.strSliceIndices none (some (n:Int)) 1 (y8 cs).length=Builtin.Str.strSliceIndices (some ((0:Nat):Int)) (some (n:Int)) 1 (y8 cs).length:=by
  unfold Builtin.Str.strSliceIndices
  simp
  rw [show max (0:Int) (min 0 ((y8 cs).length:Int))=0 by lia]
 have hn':n≤(y8 cs).length:=by rw [Wq];exact hn
 have e1:=StrLaws.sliced_plain (y8 cs) (aD n) hn'
 have e2:=StrLaws.strSliceIndices_plain (aD n) hn'
 have e3:(y8 cs).cps.toList=cs:=by
  show cs.toArray.toList=cs
  simp
 unfold Txt.slice
 rw [e0]
 split
 ·next h =>
  rw [e2] at h
  have:n=cs.length:=by simpa [Wq] using h
  rw [this,cX]
 ·rw [e1,e3,List.drop_zero,Nat.sub_zero]
  rfl
def NmOk (place:Nat)(v:Nat)(cs:List Nat):Prop:=Lets cs∧1≤cs.length∧cs.length≤12∧cs[place]?=some (97+v)
def qx0 (K:Aa):Sp:=λvs H Q _=>∃(a:Aj) (ns:List Int) (i:Int),vs=[.ref a,.int i]∧SqL K H a (ns.map V.int)∧0≤i∧∀(q:Aj) (L:List (List Nat)) (H':Hp),Same H H'→H q=none→H' q=some (.lst (L.map λcs=>V.str (y8 cs)))→L.length=5→(∀cs∈L,Lets cs∧1≤cs.length∧cs.length≤12)→L.Nodup→Q (.ref q) H'
include T in
theorem wkj (F:Fun K "_law_names" "_law_names" zcd f fd)(zaa:Cal P w K mg base "_law_pick" 2 (Wy K)):FK P w K mg base 3 f fd ["_law_script","_law_at"] (qx0 K):=by
 have sc:=qz0
 refine F.okX sc (λvs H Q E h=>by obtain ⟨_,_,_,rfl,_⟩:=h;rfl) λ_ _ _ _ H vs Q E hr h=>?_
 obtain ⟨a,ns,i,rfl,hS,h0,kk⟩:=h
 have big:(1000000:Nat)<sizeLine:=by decide
 have sm:∀z:Int,-(2 ^ 64)≤z→z≤2 ^ 64→Sm 65 z:=λz z1 z2=>Sm.small z1 z2 ⋯
 refine ⟨_,(qu (xj (i:=2) x6)
   (qu (xj (i:=3) (xk zu qk (wCA zaa (wz (pv 0) (wz (pv 1) (xb qk (xb qk qz)))))))
   (qu (xj (i:=4) (wCA zaa (wz (pv 0) (wz (pv 1) (xb qk (wz (pv 3) qz))))))
   (qu (xj (i:=5) (wCA zaa (wz (pv 0) (wz (pv 1) (xb qk (xb qk qz))))))
   (qu (xj (i:=6) (yk qz))
   (qu (yb be rfl (uy rfl T.range_ (xb qk qz)) (xp (i:=7)) (qu (xj (i:=8) x6)
   (qu (yb be rfl (uy rfl T.range_ (wz (pv 3) qz)) (xp (i:=9)) (qu (xj (i:=10) (wCA zaa (wz (pv 0) (wz (pv 1) (vk (xk zu qk (pv 9)) (xb qk qz))))))
   (jb (xh (wm zf (pv 9) (pv 4) (w6 _)) (qm (xj (i:=10) (xk j5 (xk zu (pv 5) (xk zm qk (pv 7))) qk))) wt)
   (qm (xj (i:=8) (xk Q4 (pv 8) (xq ix_str (pv 2) (pv 10) (λ_ _=>rfl))))))))
   (jb (xh (wm zf (wCA zaa (wz (pv 0) (wz (pv 1) (xb qk (xb qk qz))))) qk (w6 _)) (qm (xj (i:=8) (qzq wyp (pv 8) qkh (qjw (xz (wvt rfl) rfl T.max_ PyProof.Rows.boot_max (vk (xk zu (pv 4) qk) (vk (xk k6 (pv 3) (xk j5 (xk zm qk (pv 7)) qk)) qz))))))) wt)
   (qm (zy (qvd bw bV bW yq (pv 6) (wz (pv 8) qz))))))))
   (qm (wn (pv 6))))))))),?_⟩
 dsimp only [ug]
 refine gI rfl (gI rfl ⟨a,ns,_,_,_,rfl,hS,h0,⋯,⋯,⋯,λr0 _ l0 u0=>(xu rfl rfl ?_)⟩)
 refine gI rfl (gI rfl (gI rfl ⟨a,ns,_,_,_,rfl,hS,h0,⋯,⋯,⋯,λpl _ l1 u1=>?_⟩))
 refine gI rfl (gI rfl ⟨a,ns,_,_,_,rfl,hS,h0,⋯,⋯,⋯,λsf _ l2 u2=>?_⟩)
 refine ⟨sz0,λp np=>?_⟩
 refine ⟨_,rfl,⋯,⋯,Ws (n:=(5:Int).toNat) (λj σ H'=>∃(L:List (List Nat)) (z1 z2 z3 z4:Option V),L.length=j∧(∀(t:Nat) cs,L[t]?=some cs→NmOk pl.toNat ((sf+5*t)%26).toNat cs)∧Same H H'∧H' p=some (.lst (L.map λcs=>V.str (y8 cs)))∧σ=[some (.ref a),some (.int i),some (.str "abcdefghijklmnopqrstuvwxyz"),some (.int (1+r0)),some (.int pl),some (.int sf),some (.ref p),z1,z2,z3,z4])
  ⟨[],_,_,_,_,rfl,(λt cs e=>by cases e),Same.upd np,qc,rfl⟩ ?_ ?_⟩
 ·rintro j σ H1 hj ⟨L,z1,z2,z3,z4,lL,hL,s1,f1,rfl⟩
  have hj:j<5:=hj
  have m0:=bN (sf+5*((0:Int)+j)) (show (26:Int)≠0 by decide)
  have m1:=bZ (sf+5*((0:Int)+j)) (show (0:Int)<26 by decide)
  refine ⟨_,rfl,1+r0,rfl,⋯,⋯,Ws (n:=(1+r0).toNat) (λk σ H'=>∃(cs:List Nat) (z3 z4:Option V),cs.length=k∧Lets cs∧(pl.toNat<k→cs[pl.toNat]?=some (97+((sf+5*((0:Int)+j))%26).toNat))∧H'=H1∧σ=[some (.ref a),some (.int i),some (.str "abcdefghijklmnopqrstuvwxyz"),some (.int (1+r0)),some (.int pl),some (.int sf),some (.ref p),some (.int ((0:Int)+j)),some (.str (y8 cs)),z3,z4])
   ⟨[],_,_,rfl,(λc hc=>nomatch hc),(λz=>absurd z ⋯),rfl,rfl⟩ ?_ ?_⟩
  ·rintro k σ H2 hk ⟨cs,z3,z4,lc,hc,hp,rfl,rfl⟩
   refine gI rfl (gI rfl (gI rfl (xu rfl rfl ⟨a,ns,_,_,_,rfl,s1.sql hS,h0,⋯,⋯,⋯,λsg _ g0 g1=>?_⟩)))
   refine ⟨λσ H'=>∃v:Int,0≤v∧v<26∧((0:Int)+k=pl→v=(sf+5*((0:Int)+j))%26)∧H'=H2∧σ=[some (.ref a),some (.int i),some (.str "abcdefghijklmnopqrstuvwxyz"),some (.int (1+r0)),some (.int pl),some (.int sf),some (.ref p),some (.int ((0:Int)+j)),some (.str (y8 cs)),some (.int ((0:Int)+k)),some (.int v)],?_,?_⟩
   ·refine gI rfl (gI rfl ⟨rfl,_,rfl,xn (λe=>?_) (λe=>⟨sg,g0,g1,λz=>absurd z e,rfl,rfl⟩)⟩)
    exact ⟨_,rfl,_,rfl,_,_,rfl,rfl,(sm _ ⋯ ⋯).ok (sm _ ⋯ ⋯) ⋯,_,_,rfl,rfl,_,_,rfl,rfl,(by walk_at "pos"),_,m0,m1,λ_=>rfl,rfl,rfl⟩
   ·rintro σ H3 ⟨v,v0,v1,ve,rfl,rfl⟩
    have ea:=let_at v.toNat ⋯
    rw [dD v0] at ea
    refine gI rfl (gI rfl (gI rfl ⟨_,_,_,rfl,rfl,let_sz,ea,xu rfl rfl ⟨?_,?_⟩⟩))
    ·rw [Wq]
     show cs.length+1≤_
     lia
    ·refine ⟨cs++[97+v.toNat],_,_,by rw [aP,lc];rfl,λc hc'=>?_,λz=>?_,rfl,by rw [←wk4];rfl⟩
     ·rcases bi.mp hc' with q|q
      ·exact hc c q
      ·rw [aq.mp q]
       lia
     ·rcases (by lia:pl.toNat<k∨pl.toNat=k) with q|q
      ·rw [bF ⋯]
       exact hp q
      ·rw [bv ⋯,lc,q,Nat.sub_self,ve ⋯]
       rfl
  ·rintro σ H2 ⟨cs,z3,z4,lc,hc,hp,rfl,rfl⟩
   have lc:cs.length=(1+r0).toNat:=lc
   have hp:=hp ⋯
   refine ⟨λσ H'=>∃(ds:List Nat),NmOk pl.toNat ((sf+5*((0:Int)+j))%26).toNat ds∧H'=H2∧σ=[some (.ref a),some (.int i),some (.str "abcdefghijklmnopqrstuvwxyz"),some (.int (1+r0)),some (.int pl),some (.int sf),some (.ref p),some (.int ((0:Int)+j)),some (.str (y8 ds)),z3,z4],?_,?_⟩
   ·refine gI rfl (gI rfl ⟨a,ns,_,_,_,rfl,s1.sql hS,h0,⋯,⋯,⋯,λr3 _ l3 u3=>?_⟩)
    refine ⟨rfl,_,rfl,xn (λe=>?_) (λe=>⟨cs,⟨hc,⋯,⋯,hp⟩,rfl,rfl⟩)⟩
    have q0:=bN (2*((0:Int)+j)) (show (7:Int)≠0 by decide)
    refine gI rfl (gI rfl (xu rfl rfl (gI rfl (gI rfl (xu rfl rfl ⟨(sm _ ⋯ ⋯).ok (sm _ ⋯ ⋯) ⋯,xu rfl rfl ⟨(by walk_at "pos"),xu rfl rfl ⟨_,_,rfl,_,rfl,?_⟩⟩⟩)))))
    obtain ⟨n,hn,n1,n2⟩:∃n:Nat,(if 1+r0-2*((0:Int)+j)%7>pl+1 then 1+r0-2*((0:Int)+j)%7 else pl+1)=(n:Int)∧pl.toNat<n∧n≤cs.length:=by
     refine ⟨(if 1+r0-2*((0:Int)+j)%7>pl+1 then 1+r0-2*((0:Int)+j)%7 else pl+1).toNat,?_,?_,?_⟩ <;> split <;> lia
    have e8:Txt.slice (y8 cs) none (some (if 1+r0-2*((0:Int)+j)%7>pl+1 then 1+r0-2*((0:Int)+j)%7 else pl+1))=y8 (cs.take n):=by
     rw [hn]
     exact ww5 cs n2
    have lt:(cs.take n).length=n:=by rw [bE];lia
    refine ⟨y8 cs,rfl,by rw [Wq];lia,cs.take n,⟨λc hc'=>hc c (List.mem_of_mem_take hc'),⋯,⋯,?_⟩,rfl,by rw [←e8];rfl⟩
    rw [List.getElem?_take,ak n1]
    exact hp
   ·rintro σ H3 ⟨ds,hd,rfl,rfl⟩
    refine gI rfl ⟨.inl ⟨rfl,_,SqL.of f1⟩,gI rfl ⟨_,_,_,rfl,rfl,f1,?_,?_⟩⟩
    ·rw [aa,lL]
     lia
    ·refine ⟨L++[ds],_,_,_,_,by rw [aP,lL];rfl,λt cs' et=>?_,Same.upd2 s1 np,?_,rfl⟩
     ·rcases fL t L.length with q|q
      ·rw [bF q] at et
       exact hL t cs' et
      ·rw [bv q] at et
       have:t=L.length:=by
        rcases (by lia:t-L.length=0∨1≤t-L.length) with y|y
        ·lia
        ·rw [br (by simpa using y)] at et
         cases et
       subst this
       rw [Nat.sub_self] at et
       cases et
       rw [Int.zero_add] at hd
       rw [lL]
       exact hd
     ·rw [bg]
      exact qc
 ·rintro σ H1 ⟨L,z1,z2,z3,z4,lL,hL,s1,f1,rfl⟩
  have lL:L.length=5:=lL
  refine gI rfl (kk p L H1 s1 np f1 lL (λcs hcs=>?_) ?_)
  ·obtain ⟨t,ht,rfl⟩:=List.mem_iff_getElem.mp hcs
   obtain ⟨q1,q2,q3,_⟩:=hL t _ (aj ht)
   exact ⟨q1,q2,q3⟩
  ·refine List.pairwise_iff_getElem.mpr λx y hx hy hxy e=>?_
   have e1:=(hL x _ (aj hx)).2.2.2
   have e2:=(hL y _ (aj hy)).2.2.2
   rw [e,e2] at e1
   have e3:=av e1
   have a0:=bN (sf+5*(x:Int)) (show (26:Int)≠0 by decide)
   have b0:=bN (sf+5*(y:Int)) (show (26:Int)≠0 by decide)
   have:(sf+5*(x:Int))%26=(sf+5*(y:Int))%26:=by lia
   lia
theorem wu1 {n:Nat}{k:Int}(h0:0≤k)(h1:k<n):ixN n k=some k.toNat:=by
 unfold ixN
 rw [ak h0,ak h1]
variable {z:V}
theorem sz3 {x y:V}:[x,y,z].length≤sizeLine:=by show 3≤sizeLine;decide
def wx1 (K:Aa):Sp:=λvs H Q _=>∃(a:Aj) (ns:List Int) (i:Int),vs=[.ref a,.int i]∧SqL K H a (ns.map V.int)∧0≤i∧∀(p:Aj) (hs:List Int) (H':Hp),Same H H'→H p=none→H' p=some (.lst (hs.map V.int))→2≤hs.length→hs.length≤5→Q (.ref p) H'
include T in
theorem xw3 (F:Fun K "_law_line" "_law_line" zce f fd)(zaa:Cal P w K mg base "_law_pick" 2 (Wy K)):FK P w K mg base 3 f fd ["_law_script","_law_at"] (wx1 K):=by
 have sc:=qjg
 refine F.okX sc (λvs H Q E h=>by obtain ⟨_,_,_,rfl,_⟩:=h;rfl) λ_ _ _ _ H vs Q E hr h=>?_
 obtain ⟨a,ns,i,rfl,hS,h0,k⟩:=h
 refine ⟨_,(qu (xj (i:=2) (xk zu qk (wCA zaa (wz (pv 0) (wz (pv 1) (xb qk (xb qk qz)))))))
   (qu (wwh (i:=3) (M:=[0,1,2]) sc.nd rfl (by walk_at "loc") rfl rfl (by walk_at "cap") (by walk_at "has") (by walk_at "cix") rfl (by decide +kernel) rfl (show List.Nodup (["_law_k","_law_script","_law_at","_law_wide"]:List Str) by decide +kernel) (uy rfl T.range_ (vk (xk zu (pv 2) qk) qz)) (λ_ _ _ _ _=>(wc zaa (hr.mono ⋯) rfl qjd (wz (pv 1) (wz (pv 2) (vk (xk zu qk (pv 0)) (vk (xk zu (pv 3) qk) qz)))))))
   (jb (xh (wm zf (wCA zaa (wz (pv 0) (wz (pv 1) (xb qk (xb qk qz))))) qk (w6 _)) (qm (jn (xq zk (yk (xqq (qu5 qx4 qk) (vk (xk zu (pv 2) qk) qz))) (wCA zaa (wz (pv 0) (wz (pv 1) (xb qk (xb qk qz))))) (λ_ _=>rfl)) (wxg (pv 3) (wCA zaa (wz (pv 0) (wz (pv 1) (xb qk (vk (xk zu (pv 2) qk) qz))))) qzj))) wt)
   (qm (wn (pv 3)))))),?_⟩
 refine gI rfl (gI rfl ⟨a,ns,_,_,_,rfl,hS,h0,⋯,⋯,⋯,λr1 _ l1 u1=>?_⟩)
 refine xu rfl rfl ?_
 have hn2:(1+r1+1).toNat≤1000000:=by lia
 refine gI rfl (xu rfl rfl ⟨1+r1+1,rfl,⋯,⋯,wxj (λj=>V.int (Jc ns i (5+((0:Int)+j)) (1+r1+1))) hn2 (λj H' R hj hs hR=>?_) λp np=>?_⟩)
 ·refine gI rfl (gI rfl (gI rfl (xu rfl rfl (gI rfl (xu rfl rfl ⟨a,ns,_,_,_,rfl,Same.sql hs hS,h0,⋯,⋯,⋯,λr e _ _=>?_⟩)))))
  rw [e]
  exact hR
 ·obtain ⟨hs,ehs⟩:∃hs:List Int,hs=(List.range (1+r1+1).toNat).map λj:Nat=>Jc ns i (5+((0:Int)+j)) (1+r1+1):=⟨_,rfl⟩
  have em:(List.range (1+r1+1).toNat).map (λj:Nat=>V.int (Jc ns i (5+((0:Int)+j)) (1+r1+1)))=hs.map V.int:=by rw [ehs,bK];rfl
  have el:hs.length=(1+r1+1).toNat:=by rw [ehs,aa,aM]
  have s1:Same H (upd H p (.lst ((List.range (1+r1+1).toNat).map λj:Nat=>V.int (Jc ns i (5+((0:Int)+j)) (1+r1+1))))):=Same.upd np
  have f1:upd H p (.lst ((List.range (1+r1+1).toNat).map λj:Nat=>V.int (Jc ns i (5+((0:Int)+j)) (1+r1+1)))) p=some (.lst (hs.map V.int)):=by rw [qc,em]
  generalize upd H p (.lst ((List.range (1+r1+1).toNat).map λj:Nat=>V.int (Jc ns i (5+((0:Int)+j)) (1+r1+1))))=H1 at s1 f1
  clear ehs em
  refine ⟨λσ H'=>∃hs':List Int,σ=[some (.ref a),some (.int i),some (.int (1+r1)),some (.ref p)]∧Same H H'∧H' p=some (.lst (hs'.map V.int))∧2≤hs'.length∧hs'.length≤5,?_,?_⟩
  ·refine gI rfl (gI rfl ⟨a,ns,_,_,_,rfl,s1.sql hS,h0,⋯,⋯,⋯,λr2 _ l2 u2=>?_⟩)
   refine ⟨rfl,_,rfl,xn (λq1=>?_) (λq1=>⟨hs,rfl,s1,f1,⋯,⋯⟩)⟩
   refine ⟨1,rfl,gI rfl (xu rfl rfl ⟨sz2,λq nq=>?_⟩)⟩
   have s2:Same H1 (upd H1 q (.lst [.int (-1),.int (1+r1+1)])):=Same.upd nq
   refine gI rfl (gI rfl ⟨a,ns,_,_,_,rfl,(s1.trans s2).sql hS,h0,⋯,⋯,⋯,λr3 _ l3 u3=>?_⟩)
   obtain ⟨y,ey⟩:∃y:Int,atI [V.int (-1),V.int (1+r1+1)] r3=some (.int y):=by
    rcases (by lia:r3=0∨r3=1) with e|e <;> (subst e;exact ⟨_,rfl⟩)
   refine gX rfl rfl SqL.new ey ?_
   have f2:=s2 _ _ f1
   generalize upd H1 q (.lst [.int (-1),.int (1+r1+1)])=H2 at s2 f2
   refine gI rfl (gI rfl (gI rfl (gI rfl (xu rfl rfl ⟨a,ns,_,_,_,rfl,(s1.trans s2).sql hS,h0,⋯,⋯,⋯,λr4 _ l4 u4=>?_⟩))))
   refine ⟨p,_,_,r4.toNat,rfl,rfl,f2,wu1 l4 (by rw [aa];lia),hs.set r4.toNat y,rfl,λb o e=>?_,?_,by rw [cQ];lia,by rw [cQ];lia⟩
   ·rw [wf (qh e np)]
    exact s2 _ _ (s1 _ _ e)
   ·rw [qc,List.map_set]
  ·rintro σ Hx ⟨hs',rfl,s2,f2,l2,l5⟩
   exact gI rfl (k p hs' Hx s2 np f2 l2 l5)
def qj3 (K:Aa):Sp:=λvs H Q _=>∃(a:Aj) (ns:List Int) (i:Int),vs=[.ref a,.int i]∧SqL K H a (ns.map V.int)∧0≤i∧∀(m:Int) (H':Hp),Same H H'→Q (.int m) H'
include T in
theorem wy9 (F:Fun K "_law_steps" "_law_steps" zcf f fd)(zdd:Cal P w K mg base "_law_cell" 1 (qk7 K))(zaa:Cal P w K mg base "_law_pick" 2 (Wy K)):FK P w K mg base 3 f fd ["_law_script","_law_at"] (qj3 K):=by
 have sc:=qvj
 refine F.okX sc (λvs H Q E h=>by obtain ⟨_,_,_,rfl,_⟩:=h;rfl) λ_ _ _ _ H vs Q E hr h=>?_
 obtain ⟨a,ns,i,rfl,hS,h0,k⟩:=h
 refine ⟨_,(qu (xj (i:=2) (wCA zaa (wz (pv 0) (wz (pv 1) (xb qk (xb qk qz))))))
   (qu (xh (wm j3 (pv 2) qk (w6 _)) (qm (wn (xq zk (yk (xqq (qu5 qx4 qk) (vk (xk qx2 qk qk) (vk (xk zu (xk qx2 qk qk) qk) qz)))) (pv 2) (λ_ _=>rfl)))) wt)
   (qu (xh (wm j3 (pv 2) qk (w6 _)) (qm (wn (xk j5 (wCA zdd (wz (pv 0) (wz (pv 1) qz))) (xk qx2 qk qk)))) wt)
   (qm (wn (wCA zaa (wz (pv 0) (wz (pv 1) (xb qk (xb qk qz)))))))))),?_⟩
 refine gI rfl (gI rfl ⟨a,ns,_,_,_,rfl,hS,h0,⋯,⋯,⋯,λr1 _ l1 u1=>?_⟩)
 have pw:∃i:Int,∀(X:V),True:=⟨0,λ_=>trivial⟩
 refine gI rfl (xu rfl rfl (gI rfl (zp (λz=>?_) (λz=>?_))))
 ·refine gI rfl (xu rfl rfl ⟨⟨⋯,⋯,⋯⟩,xu rfl rfl ⟨⟨⋯,⋯,⋯⟩,xu rfl rfl ⟨sz3,λq nq=>?_⟩⟩⟩)
  have:r1<3:=z
  obtain ⟨y,ey⟩:∃y:Int,atI [V.int (-1),V.int (10 ^ (60:Int).toNat),V.int (10 ^ (60:Int).toNat+1)] r1=some (.int y):=by
   rcases (by lia:r1=0∨r1=1∨r1=2) with e|e|e <;> (subst e;exact ⟨_,rfl⟩)
  exact gI rfl (gX rfl rfl SqL.new ey (k y _ (Same.upd nq)))
 ·refine gI rfl (xu rfl rfl (gI rfl (zp (λz2=>?_) (λz2=>?_))))
  ·refine gI rfl (gI rfl ⟨a,ns,gI rfl ⟨hS,⋯,λc8 _=>?_⟩⟩)
   exact xu rfl rfl ⟨⟨⋯,⋯,⋯⟩,xu rfl rfl ⟨(show (0:Int)<10 ^ (60:Int).toNat by decide +kernel),k _ H (Same.refl _)⟩⟩
  ·exact gI rfl (gI rfl ⟨a,ns,_,_,_,rfl,hS,h0,⋯,⋯,⋯,λr2 _ l2 u2=>k r2 H (Same.refl _)⟩)
def NmsAt (H:Hp)(q:Aj)(ss:List Str):Prop:=H q=some (.lst (ss.map V.str))∧ss.length=5∧∀s∈ss,s.length≤12
theorem NmsAt.same (h:NmsAt H q ss)(s:Same H H'):NmsAt H' q ss:=⟨s _ _ h.1,h.2⟩
theorem nms_at (l:ss.length=5){r:Int}(h0:0≤r)(h1:r<5):∃n,n∈ss∧atI (ss.map V.str) r=some (.str n):=by
 match ss,l with
 |[a,b,c,d,e],_ =>
  rcases (by lia:r=0∨r=1∨r=2∨r=3∨r=4) with z | z | z | z | z <;> (subst z;first | exact ⟨a,by simp,rfl⟩ | exact ⟨b,by simp,rfl⟩ | exact ⟨c,by simp,rfl⟩ | exact ⟨d,by simp,rfl⟩ | exact ⟨e,by simp,rfl⟩)
theorem Ww (x y:Str):(x++y).length=x.length+y.length:=by
 show (x.cps++y.cps).size=_
 rw [Array.size_append]
 rfl
theorem sz5 {x y u:V}:[v,x,y,z,u].length≤sizeLine:=by show 5≤sizeLine;decide
def qjz (K:Aa):Sp:=λvs H Q _=>∃(a q:Aj) (ns:List Int) (i t:Int) (ss:List Str),vs=[.ref a,.int i,.int t,.ref q]∧SqL K H a (ns.map V.int)∧0≤i∧0≤t∧t≤10∧NmsAt H q ss∧∀(n:Str) (H':Hp),Same H H'→n.length≤30→Q (.str n) H'
include T in
theorem xqf (F:Fun K "_law_named" "_law_named" zcg f fd)(zaa:Cal P w K mg base "_law_pick" 2 (Wy K)):FK P w K mg base 3 f fd ["_law_script","_law_at","_law_turn","_law_names_here"] (qjz K):=by
 have sc:=qvk
 refine F.okX sc (λvs H Q E h=>by obtain ⟨_,_,_,_,_,_,rfl,_⟩:=h;rfl) λ_ A _ _ H vs Q E hr h=>?_
 obtain ⟨a,q,ns,i,t,ss,rfl,hS,h0,t0,t1,hq,k⟩:=h
 refine ⟨_,(qu (xj (i:=4) (xq zk (pv 3) (wCA zaa (wz (pv 0) (wz (pv 1) (wz (pv 2) (xb qk qz))))) (λ_ _=>rfl)))
   (jb (xh (wm zf (wCA zaa (wz (pv 0) (wz (pv 1) (vk (xk zu (pv 2) qk) (xb qk qz))))) qk (w6 _)) (qm (xj (i:=4) (xq zk (yk (xb x6 (xb x6 (vk (xk Q4 (pv 4) x6) (vk (xk Q4 (qzq wyp (pv 4) (qjw qk) qkh) x6) (vk (xk Q4 (pv 4) x6) qz)))))) (wCA zaa (wz (pv 0) (wz (pv 1) (vk (xk zu (pv 2) qk) (xb qk qz))))) (λ_ _=>rfl)))) wt)
   (qm (wn (pv 4))))),?_⟩
 refine gI rfl (gI rfl (gI rfl (gI rfl ⟨a,ns,_,_,_,rfl,hS,h0,⋯,⋯,⋯,λr1 _ l1 u1=>?_⟩)))
 obtain ⟨n,hn,en⟩:=nms_at hq.2.1 l1 u1
 have ln:=hq.2.2 n hn
 refine gX rfl rfl (SqL.of hq.1) en ?_
 refine ⟨λσ H'=>∃n',σ=[some (.ref a),some (.int i),some (.int t),some (.ref q),some (.str n')]∧Same H H'∧n'.length≤30,?_,?_⟩
 ·refine gI rfl (gI rfl (gI rfl (xu rfl rfl ⟨a,ns,_,_,_,rfl,hS,h0,⋯,⋯,⋯,λr2 _ l2 u2=>?_⟩)))
  refine ⟨rfl,_,rfl,xn (λq1=>?_) (λq1=>⟨n,rfl,Same.refl _,⋯⟩)⟩
  have big:(1000:Nat)≤sizeLine:=by decide
  have l13:(("abcdefghijklm" : Str)).length=13:=by decide +kernel
  have l1:(("1" : Str)).length=1:=by decide +kernel
  have l1b:((" " : Str)).length=1:=by decide +kernel
  have lA:(("A" : Str)).length=1:=by decide +kernel
  have l0:(("" : Str)).length=0:=by decide +kernel
  have ls:=Txt.slice_le n (some 1) none
  refine ⟨_,rfl,n,"abcdefghijklm",rfl,rfl,⋯,_,rfl,1,rfl,n,rfl,⋯,_,"1",rfl,rfl,⋯,_,rfl,n," ",rfl,rfl,⋯,sz5,λp np=>?_⟩
  have s1:=Same.upd (H:=H) (o:=.lst [.str "",.str "A",.str (n ++ "abcdefghijklm"),.str (Txt.slice n (some 1) none ++ "1"),.str (n ++ " ")]) np
  refine gI rfl (gI rfl (gI rfl (xu rfl rfl ⟨a,ns,_,_,_,rfl,s1.sql hS,h0,⋯,⋯,⋯,λr3 _ l3 u3=>?_⟩)))
  obtain ⟨y,ly,ey⟩:∃y:Str,y.length≤30∧atI [V.str "",V.str "A",V.str (n ++ "abcdefghijklm"),V.str (Txt.slice n (some 1) none ++ "1"),V.str (n ++ " ")] r3=some (.str y):=by
   rcases (by lia:r3=0∨r3=1∨r3=2∨r3=3∨r3=4) with e|e|e|e|e
   ·subst e;exact ⟨_,by rw [l0];lia,rfl⟩
   ·subst e;exact ⟨_,by rw [lA];lia,rfl⟩
   ·subst e;exact ⟨_,by rw [Ww];lia,rfl⟩
   ·subst e;exact ⟨_,by rw [Ww];lia,rfl⟩
   ·subst e;exact ⟨_,by rw [Ww];lia,rfl⟩
  exact gX rfl rfl SqL.new ey ⟨y,rfl,s1,ly⟩
 ·rintro σ Hx ⟨n',rfl,s1,l⟩
  exact gI rfl (k n' Hx s1 l)
def wzq:List Expr→Option (List Int)
 |[]=>some []
 |.Constant (.int x) _ _::r=>(wzq r).map (x::·)
 |_=>none
theorem wx5 {X:Cx}:∀ {es:List Expr} {ns:List Int},wzq es=some ns→PA X es (λ_ H Q=>Q (ns.map V.int) H)
 |[],vs,h=>by
  cases h
  exact qz
 |e::r,vs,h=>by
  unfold wzq at h
  split at h
  ·next _=>simp at *
  ·next x j p r' he =>
   cases he
   obtain ⟨ws,hw,rfl⟩:=dU.mp h
   exact xb qk (wx5 hw)
  ·cases h
theorem sz21 {l:List V}(h:l.length≤30):l.length≤sizeLine:=bD h ⋯
theorem sz4 {x y u:V}:[x,y,z,u].length≤sizeLine:=by show 4≤sizeLine;decide
noncomputable def menuI:List Int:=[0,0,0,0,1,1,2,3,4,5,5,5,5,5,6,7,7,7,8,8,9]
theorem xx2:∀i:Nat,i<21→0≤hAt menuI (i:Int)∧hAt menuI (i:Int)≤9:=by decide +kernel
def qj0 (K:Aa):Sp:=λvs H Q _=>∃(a q:Aj) (ns:List Int) (i:Int) (ss:List Str),vs=[.ref a,.int i,.ref q]∧SqL K H a (ns.map V.int)∧0≤i∧NmsAt H q ss∧∀(p:Aj) (d:Dd) (H':Hp),Same H H'→DdAt H' p d→Q (.ref p) H'
include T in
theorem wy7 (F:Fun K "_law_deed" "_law_deed" zax f fd)(zaa:Cal P w K mg base "_law_pick" 2 (Wy K))(zhk:Cal P w K mg base "_law_named" 3 (qjz K))(zi0:Cal P w K mg base "_law_line" 3 (wx1 K))(zi1:Cal P w K mg base "_law_steps" 3 (qj3 K)):FK P w K mg base 4 f fd ["_law_script","_law_at","_law_names_here"] (qj0 K):=by
 have sc:=qj4
 refine F.okX sc (λvs H Q E h=>by obtain ⟨_,_,_,_,_,rfl,_⟩:=h;rfl) λ_ _ _ _ H vs Q E hr h=>?_
 obtain ⟨a,q,ns,i,ss,rfl,hS,h0,hq,k⟩:=h
 obtain ⟨p1,es,p,p',he,hv⟩:∃p1 es p p',jc zax=.Assign [.Name "_law_menu" p1] (.List es p) p'::(jc zax).drop 1∧wzq es=some menuI:=⟨_,_,_,_,rfl,rfl⟩
 rw [he]
 clear he
 refine ⟨_,qu (xj (i:=3) (yk (wx5 hv))) (qu (xj (i:=4) (xq zk (pv 3) (wCA zaa (wz (pv 0) (wz (pv 1) (xb qk (xb qk qz))))) (λ_ _=>rfl)))
   (qu (xj (i:=5) (wCA zhk (wz (pv 0) (wz (pv 1) (xb qk (wz (pv 2) qz))))))
   (qu (xh (wm zf (pv 4) qk (w6 _)) (qm (wn (zx (wz (pv 4) (wz (pv 5) (vd (wCA zi0 (wz (pv 0) (wz (pv 1) qz))) qz)))))) wt)
   (qu (xh (wm zf (pv 4) qk (w6 _)) (qm (wn (zx (wz (pv 4) (wz (pv 5) (vk (xk k6 (wCA zaa (wz (pv 0) (wz (pv 1) (xb qk (xb qk qz))))) qk) (vk (xk k6 (wCA zaa (wz (pv 0) (wz (pv 1) (xb qk (xb qk qz))))) qk) qz))))))) wt)
   (qu (xh (wm zf (pv 4) qk (w6 _)) (qm (wn (zx (wz (pv 4) (wz (pv 5) (vk (xk k6 (wCA zaa (wz (pv 0) (wz (pv 1) (xb qk (xb qk qz))))) qk) qz)))))) wt)
   (qu (xh (wm zf (pv 4) qk (w6 _)) (qu (xj (i:=6) (wCA zaa (wz (pv 0) (wz (pv 1) (xb qk (xb qk qz))))))
   (jb (xh (wm y4 (wCA zaa (wz (pv 0) (wz (pv 1) (xb qk (xb qk qz))))) qk (w6 _)) (qm (xj (i:=6) (xk zu qk (xk j5 (pv 6) qk)))) wt)
   (qu (xj (i:=7) (xk zu (xk zm (wCA zaa (wz (pv 0) (wz (pv 1) (xb qk (xb qk qz))))) (pv 6)) (wCA zaa (wz (pv 0) (wz (pv 1) (xb qk (vk (xk zu (pv 6) qk) qz)))))))
   (jb (xh (wm zf (wCA zaa (wz (pv 0) (wz (pv 1) (xb qk (xb qk qz))))) qk (w6 _)) (qm (xj (i:=7) (xk k6 (qu5 qx4 qk) (pv 7)))) wt)
   (qm (wn (zx (wz (pv 4) (wz (pv 5) (vd (wCA zhk (wz (pv 0) (wz (pv 1) (xb qk (wz (pv 2) qz))))) (qky (zx (wz (pv 7) (wz (pv 6) qz))) qz))))))))))) wt)
   (qu (xh (PW.pt (jm (wm zf (pv 4) qk (w6 _)) (k7 (wm zf (pv 4) qk (w6 _))))) (qm (wn (zx (wz (pv 4) (wz (pv 5) (vd (wCA zi1 (wz (pv 0) (wz (pv 1) qz))) qz)))))) wt)
   (qm (wn (zx (wz (pv 4) (wz (pv 5) qz)))))))))))),?_⟩
 refine ⟨sz21 (l:=menuI.map V.int) (show 21≤30 by decide),λpm npm=>?_⟩
 have s1:=Same.upd (H:=H) (o:=.lst (menuI.map V.int)) npm
 have f1:upd H pm (.lst (menuI.map V.int)) pm=some (.lst (menuI.map V.int)):=qc
 generalize upd H pm (.lst (menuI.map V.int))=H1 at s1 f1
 refine gI rfl (gI rfl (gI rfl ⟨a,ns,_,_,_,rfl,s1.sql hS,h0,⋯,⋯,⋯,λr0 _ l0 u0=>?_⟩))
 have ekd:atI (menuI.map V.int) r0=some (.int (hAt menuI r0)):=Z6 l0 (show r0<(21:Nat) by lia)
 have kb:=xx2 r0.toNat ⋯
 rw [show ((r0.toNat:Nat):Int)=r0 by lia] at kb
 obtain ⟨k0,k9⟩:=kb
 generalize hAt menuI r0=kd at ekd k0 k9
 refine gX rfl rfl (SqL.of f1) ekd ?_
 refine ⟨_,rfl,_,rfl,_,rfl,a,q,ns,i,1,ss,rfl,s1.sql hS,h0,⋯,⋯,hq.same s1,λn H2 s2 ln=>?_⟩
 have s12:=s1.trans s2
 have hS2:=s12.sql hS
 clear f1 ekd
 refine gI rfl ⟨rfl,_,rfl,xn (λz=>?_) (λz0=>?_)⟩
 ·subst z
  refine gI rfl (gI rfl (gI rfl (gI rfl ⟨a,ns,i,rfl,hS2,h0,λp hs H3 s3 np f3 l2 l5=>⟨sz3,λt nt=>?_⟩⟩)))
  exact k t (.lay n hs) _ ((s12.trans s3).trans (Same.upd nt)) ⟨p,qc,(Same.upd nt) _ _ f3,l2,⋯,⋯⟩
 refine gI rfl ⟨rfl,_,rfl,xn (λz=>?_) (λz1=>?_)⟩
 ·subst z
  refine gI rfl (gI rfl (gI rfl (gI rfl ⟨a,ns,_,_,_,rfl,hS2,h0,⋯,⋯,⋯,λr1 _ l1 u1=>?_⟩)))
  refine xu rfl rfl (gI rfl (gI rfl ⟨a,ns,_,_,_,rfl,hS2,h0,⋯,⋯,⋯,λr2 _ l2 u2=>?_⟩))
  exact xu rfl rfl ⟨sz4,λt nt=>k t (.bend n (r1-1) (r2-1)) _ (s12.trans (Same.upd nt)) qc⟩
 refine gI rfl ⟨rfl,_,rfl,xn (λz=>?_) (λz2=>?_)⟩
 ·subst z
  refine gI rfl (gI rfl (gI rfl (gI rfl ⟨a,ns,_,_,_,rfl,hS2,h0,⋯,⋯,⋯,λr1 _ l1 u1=>?_⟩)))
  exact xu rfl rfl ⟨sz3,λt nt=>k t (.widen n (r1-1)) _ (s12.trans (Same.upd nt)) qc⟩
 refine gI rfl ⟨rfl,_,rfl,xn (λz=>?_) (λz5=>?_)⟩
 ·subst z
  refine gI rfl (gI rfl ⟨a,ns,_,_,_,rfl,hS2,h0,⋯,⋯,⋯,λr1 _ l1 u1=>?_⟩)
  refine ⟨λσ H'=>H'=H2∧∃b:Int,σ=[some (.ref a),some (.int i),some (.ref q),some (.ref pm),some (.int 5),some (.str n),some (.int b),none]∧0≤b∧b≤50,?_,?_⟩
  ·refine gI rfl (gI rfl ⟨a,ns,_,_,_,rfl,hS2,h0,⋯,⋯,⋯,λr2 _ l2 u2=>?_⟩)
   refine xu rfl rfl (gI rfl (zp (λz=>?_) (λz=>⟨rfl,_,rfl,⋯,⋯⟩)))
   have e1:=bN r1 (show (5:Int)≠0 by decide)
   have e2:=bZ r1 (show (0:Int)<5 by decide)
   exact ⟨_,rfl,_,_,rfl,rfl,(by walk_at "pos"),_,_,rfl,rfl,rfl,_,rfl,⋯,⋯⟩
  ·rintro σ Hx ⟨rfl,b,rfl,b0,b1⟩
   refine gI rfl (gI rfl ⟨a,ns,_,_,_,rfl,hS2,h0,⋯,⋯,⋯,λr3 _ l3 u3=>?_⟩)
   refine gI rfl (xu rfl rfl ⟨(by walk_at "mul"),gI rfl (gI rfl (gI rfl (xu rfl rfl ⟨a,ns,_,_,_,rfl,hS2,h0,⋯,⋯,⋯,λr4 _ l4 u4=>?_⟩)))⟩)
   have m1:=Int.mul_le_mul (show r3≤3 by lia) b1 b0 ⋯
   have m0:=dm l3 b0
   refine xu rfl rfl ?_
   refine ⟨λσ H'=>H'=Hx∧∃t:Int,σ=[some (.ref a),some (.int i),some (.ref q),some (.ref pm),some (.int 5),some (.str n),some (.int b),some (.int t)]∧-1000≤t∧t≤1000,?_,?_⟩
   ·refine gI rfl (gI rfl ⟨a,ns,_,_,_,rfl,hS2,h0,⋯,⋯,⋯,λr5 _ l5 u5=>?_⟩)
    refine ⟨rfl,_,rfl,xn (λz=>?_) (λz=>⟨rfl,_,rfl,⋯,⋯⟩)⟩
    exact ⟨1,rfl,_,rfl,_,_,rfl,rfl,rfl,_,rfl,⋯,⋯⟩
   ·rintro σ Hy ⟨rfl,t,rfl,t0,t1⟩
    refine ⟨_,rfl,_,rfl,_,rfl,_,rfl,_,rfl,a,q,ns,i,2,ss,rfl,hS2,h0,⋯,⋯,hq.same s12,λn2 H3 s3 ln2=>?_⟩
    refine gI rfl (gI rfl ⟨sz2,λp np=>⟨sz4,λt' nt=>?_⟩⟩)
    have s4:=Same.upd (H:=H3) (o:=.tup [.int t,.int b]) np
    have s5:=Same.upd (H:=upd H3 p (.tup [.int t,.int b])) (o:=.tup [.int 5,.str n,.str n2,.ref p]) nt
    exact k t' (.place n n2 t b) _ (((s12.trans s3).trans s4).trans s5) ⟨p,qc,s5 _ _ qc,⋯,⋯,⋯⟩
 have go:∀kd',kd'=kd→(kd'=7∨kd'=8)→∀(m:Int) (H3:Hp) (t:Aj),Same H2 H3→H3 t=none→Q (.ref t) (upd H3 t (.tup [.int kd,.str n,.int m])):=λkd' e z m H3 t s3 nt=>by
  subst e
  rcases z with z|z
  ·subst z;exact k t (.go n m) _ ((s12.trans s3).trans (Same.upd nt)) qc
  ·subst z;exact k t (.tog n m) _ ((s12.trans s3).trans (Same.upd nt)) qc
 refine gI rfl ⟨rfl,_,rfl,xn (λz=>jj ?_) (λz7=>?_)⟩
 ·exact gI rfl (gI rfl (gI rfl (gI rfl ⟨a,ns,i,rfl,hS2,h0,λm H3 s3=>⟨sz3,λt nt=>go kd rfl (.inl z) m H3 t s3 nt⟩⟩)))
 refine gI rfl ⟨rfl,_,rfl,xn (λz=>?_) (λz8=>?_)⟩
 ·exact gI rfl (gI rfl (gI rfl (gI rfl ⟨a,ns,i,rfl,hS2,h0,λm H3 s3=>⟨sz3,λt nt=>go kd rfl (.inr z) m H3 t s3 nt⟩⟩)))
 refine gI rfl (gI rfl ⟨sz2,λt nt=>?_⟩)
 rcases (by lia:kd=3∨kd=4∨kd=6∨kd=9) with e|e|e|e
 ·subst e;exact k t (.narrow n) _ (s12.trans (Same.upd nt)) qc
 ·subst e;exact k t (.clear n) _ (s12.trans (Same.upd nt)) qc
 ·subst e;exact k t (.leave n) _ (s12.trans (Same.upd nt)) qc
 ·subst e;exact k t (.back n) _ (s12.trans (Same.upd nt)) qc
def Zb:Sp:=λvs H Q _=>∃x:Str,vs=[.str x]∧x.length≤1000∧∀H',Same H H'→Q (.bl (vb x)) H'
theorem filt0 {n:Nat}{c:Nat→Bool}:((List.range n).filter c).length=0↔(List.range n).all (λi=>!c i)=true:=by
 rw [cC,List.filter_eq_nil_iff,bP]
 simp
include T in
theorem qjs (F:Fun K "_law_good_name" "_law_good_name" zch f fd):FK P w K mg base 1 f fd ["_law_name"] Zb:=by
 have sc:=Yf
 refine F.okX sc (λvs H Q E h=>by obtain ⟨_,rfl,_⟩:=h;rfl) λ_ _ _ _ H vs Q E hr h=>?_
 obtain ⟨x,rfl,hx,k⟩:=h
 have big:(1000000:Nat)<sizeLine:=by decide
 refine ⟨_,(qu (Jb (i:=1) (M:=[]) sc.nd rfl (by walk_at "loc") rfl rfl (by walk_at "cap") (by walk_at "has") (by walk_at "cix") rfl (by decide +kernel) rfl (show List.Nodup (["_law_sign"]:List Str) by decide +kernel) (wup (pv 0)) (λ_ _ _ _ _=>(wm qjp (pv 0) x6 rfl)) (λ_ _ _ _ _=>(pv 0)))
   (qm (wn (Qr (jg qy3 qk (xz uw rfl T.len_ aB (wz (pv 0) qz)) (w6 _)) (Qr (jg qy3 (xz uw rfl T.len_ aB (wz (pv 0) qz)) qk (w6 _)) (Zp (jg zf (xz xf rfl T.len_ aB (wz (pv 1) qz)) qk (w6 _)))))))),?_⟩
 refine gI rfl ⟨x,rfl,wk3 (λi=>!Ju (x.cps.getD i 0)) (by show x.length≤1000000;lia) (λi H' R hi hs hR=>(gI rfl (xu rfl rfl (gI rfl hR)))) (λi H' R hi hc hs hR=>(gI rfl hR)) λp ys np ly=>?_⟩
 have s1:=Same.upd (H:=H) (o:=.lst ys) np
 have f1:upd H p (.lst ys) p=some (.lst ys):=qc
 generalize upd H p (.lst ys)=H1 at s1 f1
 have no:∀z:¬ (1≤x.length∧x.length≤12),Q (.bl false) H1:=λz=>by
  have:=k H1 s1
  unfold vb at this
  rw [bn z] at this
  exact this
 refine ⟨_,rfl,x,rfl,⋯,_,_,rfl,rfl,_,rfl,zp (λc1=>?_) (λc1=>?_)⟩
 ·refine ⟨_,rfl,x,rfl,⋯,_,_,rfl,rfl,_,rfl,zp (λc2=>?_) (λc2=>?_)⟩
  ·refine gI rfl ⟨p,gI rfl ⟨.inl (SqL.of f1),rfl,?_⟩⟩
   have e:decide (V.int (ys.length:Int)=V.int 0)=vb x:=by
    unfold vb
    rw [aX (show 1≤x.length∧x.length≤12 by lia),Bool.true_and]
    have:=filt0 (n:=x.cps.size) (c:=λi=>!Ju (x.cps.getD i 0))
    simp only [Bool.not_not] at this
    cases h:(List.range x.cps.size).all (λi=>Ju (x.cps.getD i 0)) with
    |true=>exact aX (by rw [ly,this.mpr h];rfl)
    |false=>exact bn (λz=>by
      have z:(ys.length:Int)=0:=by injection z
      rw [this.mp ⋯] at h;cases h)
   have kk:=k H1 s1
   rw [←e] at kk
   exact kk
  ·exact no ⋯
 ·exact no ⋯
open Classical in
def Zs:Sp:=λvs H Q _=>∃(p:Aj) (hs:List Int),vs=[.ref p]∧H p=some (.lst (hs.map V.int))∧hs.length≤1000∧(xt hs→∀H',Same H H'→Q (.bl true) H')∧(¬ xt hs→∀H',Same H H'→Q (.bl false) H')
include T in
theorem qyp (F:Fun K "_law_good_line" "_law_good_line" zci f fd):FK P w K mg base 1 f fd ["_law_row"] Zs:=by
 have sc:=Ys
 refine F.okX sc (λvs H Q E h=>by obtain ⟨_,_,rfl,_⟩:=h;rfl) λ_ _ _ s H vs Q E hr h=>?_
 obtain ⟨p,hs,rfl,hp,hl,kt,kf⟩:=h
 refine ⟨_,(qu (Jb (i:=1) (M:=[0]) sc.nd rfl (by walk_at "loc") rfl rfl (by walk_at "cap") (by walk_at "has") (by walk_at "cix") rfl (by decide +kernel) rfl (show List.Nodup (["_law_height","_law_row"]:List Str) by decide +kernel) (ur (pv 0)) (λ_ _ _ _ _=>(PW.pt (jm (wm j3 (pv 0) qk (w6 _)) (k7 (wm y4 (pv 0) (xk k6 (xz (qvq (K:=K) rfl) rfl T.len_ aB (wz (pv 1) qz)) qk) (w6 _)))))) (λ_ _ _ _ _=>(pv 0)))
   (qm (wn (Qr (jg qy3 qk (xz xf rfl T.len_ aB (wz (pv 0) qz)) (w6 _)) (Qr (jg qy3 (xz xf rfl T.len_ aB (wz (pv 0) qz)) qk (w6 _)) (Zp (jg zf (xz xf rfl T.len_ aB (wz (pv 1) qz)) qk (w6 _)))))))),?_⟩
 have lm:(hs.map V.int).length=hs.length:=aa _
 let c:Nat→Bool:=λi=>decide (hs.getD i 0<0)||decide (hs.getD i 0>(hs.length:Int)-1)
 refine gI rfl ⟨p,rfl,⟨_,SqL.of hp⟩,qzz (K:=K) c (SqL.of hp) (by rw [lm];lia) (λi v H' R ev s' hR=>?_) (λi v H' R ev ci s' hR=>(gI rfl (hR H' (Same.refl _)))) λq H1 nq s1 f1=>?_⟩
 ·rw [aE] at ev
  cases em:hs[i]? with
  |none=>rw [em] at ev;cases ev
  |some h =>
   rw [em] at ev
   cases ev
   have eg:hs.getD i 0=h:=by rw [ar,em];rfl
   have hR:=hR H' (Same.refl _)
   have ec:c i=(decide (h<0)||decide (h>(hs.length:Int)-1)):=by show (decide (hs.getD i 0<0)||_)=_;rw [eg]
   rw [ec] at hR
   refine gI rfl (xu rfl rfl (gI rfl (zp (λz=>?_) (λz=>?_))))
   ·rw [aX z,Bool.true_or] at hR
    exact hR
   ·rw [bn z,Bool.false_or] at hR
    refine gI rfl (gI rfl ⟨p,gI rfl ⟨.inl (SqL.of (s' _ _ hp)),xu rfl rfl (xu rfl rfl (gI rfl ?_))⟩⟩)
    rw [lm]
    exact hR
 ·have all:(Zq c (hs.map V.int) (hs.map V.int).length).length=0↔∀h∈hs,0≤h∧h≤(hs.length:Int)-1:=by
   unfold Zq
   rw [aa,lm,filt0,bP]
   constructor
   ·intro z h hh
    obtain ⟨i,hi,e⟩:=bx hh
    have:=z i (aW.mpr hi)
    have eg:hs.getD i 0=h:=by rw [ar,aj hi];exact e
    simp only [c,eg,Bool.not_eq_true',Bool.or_eq_false_iff,fI] at this
    lia
   ·intro z i hi
    have hi:=aW.mp hi
    have:=z hs[i] (bO hi)
    have eg:hs.getD i 0=hs[i]:=by rw [ar,aj hi];rfl
    simp only [c,eg,Bool.not_eq_true',Bool.or_eq_false_iff,fI]
    lia
  generalize Zq c (hs.map V.int) (hs.map V.int).length=ys at all f1
  have hp1:=s1 _ _ hp
  refine gI rfl ⟨p,gI rfl ⟨.inl (SqL.of hp1),xu rfl rfl (gI rfl (zp (λc1=>?_) (λc1=>?_)))⟩⟩
  ·rw [lm] at c1
   refine gI rfl ⟨p,gI rfl ⟨.inl (SqL.of hp1),xu rfl rfl (gI rfl (zp (λc2=>?_) (λc2=>?_)))⟩⟩
   ·rw [lm] at c2
    refine gI rfl ⟨q,gI rfl ⟨.inl (SqL.of f1),rfl,?_⟩⟩
    by_cases z:∀h∈hs,0≤h∧h≤(hs.length:Int)-1
    ·rw [all.mpr z,aX (show V.int ((0:Nat):Int)=V.int 0 from rfl)]
     exact kt ⟨⋯,⋯,z⟩ H1 s1
    ·rw [bn (λy=>z (all.mp (by
      have y:(ys.length:Int)=0:=by injection y
      lia)))]
     exact kf (λl=>z l.2.2) H1 s1
   ·rw [lm] at c2
    exact kf (λl=>by have:=l.2.1;lia) H1 s1
  ·rw [lm] at c1
   exact kf (λl=>by have:=l.1;lia) H1 s1
def J3 (b:Bool)(o:Option V):Str:=if b=false then "name" else if o.isSome=true then "taken" else ""
def qj2:Sp:=λvs H Q _=>∃(x:Str) (d:Aj) (kvs:List (Key×V)),vs=[.str x,.ref d]∧x.length≤1000∧H d=some (.dK kvs)∧∀H',Same H H'→Q (.str (J3 (vb x) (wp kvs (.inr x)))) H'
include T in
theorem qyy (F:Fun K "_law_named_new" "_law_named_new" zco f fd)(zi2:Cal P w K mg base "_law_good_name" 1 Zb):FK P w K mg base 2 f fd ["_law_name","_law_known"] qj2:=by
 have sc:=Yq
 refine F.okX sc (λvs H Q E h=>by obtain ⟨_,_,_,rfl,_⟩:=h;rfl) λ_ _ _ _ H vs Q E hr h=>?_
 obtain ⟨x,d,kvs,rfl,hx,hd,k⟩:=h
 refine ⟨_,(qu (xh (jz (vm (wCA zi2 (wz (pv 0) qz)))) (qm (wn x6)) wt)
   (qu (xh (Qx (wyk (vj hr) (pv 0) (pv 1))) (qm (wn x6)) wt)
   (qm (wn x6)))),?_⟩
 refine gI rfl ⟨x,rfl,hx,λH1 s1=>(gI rfl ?_)⟩
 have k:=k H1 s1
 cases nb:vb x with
 |false =>
  rw [nb] at k
  exact jj k
 |true =>
  rw [nb] at k
  refine vg ?_
  have dg:DGet H1 d (.str x) (wp kvs (.inr x)):=DGet.k (k:=.inr x) (s1 _ _ hd)
  cases ev:wp kvs (.inr x) with
  |none =>
   rw [ev] at dg k
   exact gI rfl (gI rfl ⟨d,gI rfl ⟨dg,_,rfl,vg k⟩⟩)
  |some v =>
   rw [ev] at dg k
   exact gI rfl (gI rfl ⟨d,gI rfl ⟨dg,_,rfl,jj k⟩⟩)
def wy4 (H:Hp)(o:Option V):Option (List Int)→Prop
 |none=>o=none
 |some hs=>xt hs∧∃p,o=some (.ref p)∧H p=some (.lst (hs.map V.int))
def wjd (H:Hp)(o:Option V):Option (Str×(Int×Int))→Prop
 |none=>o=none
 |some w=>∃p,o=some (.ref p)∧H p=some (.tup [.str w.1,.int w.2.1,.int w.2.2])
structure BP (H:Hp)(R W:List (Key×V))(b:BA):Prop where
 nR:(R.map (·.1)).Nodup
 nW:(W.map (·.1)).Nodup
 fR:RefsF (wp R)
 fW:RefsF (wp W)
 r:∀n,wy4 H (wp R (.inr n)) (b.rs n)
 w:∀n,wjd H (wp W (.inr n)) (b.ws n)
theorem BP.row (h:BP H R W b){n:Str}{hs:List Int}(e:b.rs n=some hs):xt hs∧∃p,wp R (.inr n)=some (.ref p)∧H p=some (.lst (hs.map V.int)):=by
 have:=h.r n
 rw [e] at this
 exact this
theorem BP.noR (h:BP H R W b){n:Str}(e:b.rs n=none):wp R (.inr n)=none:=by
 have:=h.r n
 rw [e] at this
 exact this
theorem BP.wlk (h:BP H R W b){n:Str}{v:Str×(Int×Int)}(e:b.ws n=some v):∃p,wp W (.inr n)=some (.ref p)∧H p=some (.tup [.str v.1,.int v.2.1,.int v.2.2]):=by
 have:=h.w n
 rw [e] at this
 exact this
theorem BP.noW (h:BP H R W b){n:Str}(e:b.ws n=none):wp W (.inr n)=none:=by
 have:=h.w n
 rw [e] at this
 exact this
theorem BP.kb (h:BP H R W b){ch:List Aj}(dl:Dl H ch)(k:Kb ch H H'):BP H' R W b:=by
 refine ⟨h.nR,h.nW,h.fR,h.fW,λn=>?_,λn=>?_⟩
 ·cases e:b.rs n with
  |none=>exact h.noR e
  |some hs =>
   obtain ⟨lo,p,e1,e2⟩:=h.row e
   exact ⟨lo,p,e1,dl.row k lo e2⟩
 ·cases e:b.ws n with
  |none=>exact h.noW e
  |some v =>
   obtain ⟨p,e1,e2⟩:=h.wlk e
   exact ⟨p,e1,dl.tup k e2⟩
theorem BP.same (h:BP H R W b)(s:Same H H'):BP H' R W b:=h.kb (ch:=[]) Dl.nil (Kb.of s)
theorem qu0 (h:RefsF (wp R))(n:Str)(p:Aj):RefsF (wp (km R (.inr n) (.ref p))):=λm v e=>by
 rw [Qk] at e
 by_cases z:m=.inr n
 ·rw [ak z] at e;cases e;exact ⟨n,p,z,rfl⟩
 ·rw [ai z] at e;exact h m v e
theorem wj7 (h:(R.map (·.1)).Nodup)(n:Key)(p:Aj):((km R n (.ref p)).map (·.1)).Nodup:=by
 have:=ww9 h (n,.ref p)
 unfold ex1 at this
 rw [ai (λz=>by cases z)] at this
 exact this
theorem qv6 (h:RefsF (wp R))(n:Str):RefsF (wp (y3 R (.inr n))):=λm v e=>by
 by_cases z:m=.inr n
 ·rw [z,Qy] at e;cases e
 ·rw [uu z] at e;exact h m v e
theorem wx4 (h:(R.map (·.1)).Nodup)(n:Key):((y3 R n).map (·.1)).Nodup:=by
 have:=ww9 h (n,.non)
 unfold ex1 at this
 rw [ak rfl] at this
 exact this
theorem BP.putR (h:BP H R W b){n:Str}{hs:List Int}{p:Aj}(lo:xt hs)(fp:H p=some (.lst (hs.map V.int))):BP H (km R (.inr n) (.ref p)) W (b.putR n hs):=by
 refine ⟨wj7 h.nR _ _,h.nW,qu0 h.fR _ _,h.fW,λm=>?_,h.w⟩
 show wy4 H _ (if m=n then some hs else b.rs m)
 rw [Qk]
 by_cases z:m=n
 ·rw [ak z,ak (by rw [z])]
  exact ⟨lo,p,rfl,fp⟩
 ·rw [ai z,ai (λy=>z (by injection y))]
  exact h.r m
theorem BP.delR (h:BP H R W b)(n:Str):BP H (y3 R (.inr n)) W (b.delR n):=by
 refine ⟨wx4 h.nR _,h.nW,qv6 h.fR _,h.fW,λm=>?_,h.w⟩
 show wy4 H _ (if m=n then none else b.rs m)
 by_cases z:m=n
 ·rw [ak z,z,Qy]
  rfl
 ·rw [ai z,uu (λy=>z (by injection y))]
  exact h.r m
theorem BP.putW (h:BP H R W b){n:Str}{v:Str×(Int×Int)}{p:Aj}(fp:H p=some (.tup [.str v.1,.int v.2.1,.int v.2.2])):BP H R (km W (.inr n) (.ref p)) (b.putW n v):=by
 refine ⟨h.nR,wj7 h.nW _ _,h.fR,qu0 h.fW _ _,h.r,λm=>?_⟩
 show wjd H _ (if m=n then some v else b.ws m)
 rw [Qk]
 by_cases z:m=n
 ·rw [ak z,ak (by rw [z])]
  exact ⟨p,rfl,fp⟩
 ·rw [ai z,ai (λy=>z (by injection y))]
  exact h.w m
theorem BP.delW (h:BP H R W b)(n:Str):BP H R (y3 W (.inr n)) (b.delW n):=by
 refine ⟨h.nR,wx4 h.nW _,h.fR,qv6 h.fW _,h.r,λm=>?_⟩
 show wjd H _ (if m=n then none else b.ws m)
 by_cases z:m=n
 ·rw [ak z,z,Qy]
  rfl
 ·rw [ai z,uu (λy=>z (by injection y))]
  exact h.w m
theorem BP.lens (h:BP H R W b){NM:List Str}(bo:BOk NM b):R.length≤NM.length∧W.length≤NM.length:=by
 refine ⟨qk4 h.nR λk u e=>?_,qk4 h.nW λk u e=>?_⟩
 ·obtain ⟨n,_,rfl,_⟩:=h.fR k u e
  refine ⟨n,rfl,?_⟩
  cases e2:b.rs n with
  |none=>rw [h.noR e2] at e;cases e
  |some hs=>exact (bo.lo n hs e2).2.2
 ·obtain ⟨n,_,rfl,_⟩:=h.fW k u e
  refine ⟨n,rfl,?_⟩
  cases e2:b.ws n with
  |none=>rw [h.noW e2] at e;cases e
  |some v=>exact (bo.wo n v e2).2.1
structure B2 (H:Hp)(dr dw:Aj)(R W:List (Key×V))(b:BA):Prop where
 r:H dr=some (.dK R)
 w:H dw=some (.dK W)
 ne:dr≠dw
 bp:BP H R W b
theorem B2.dl (h:B2 H dr dw R W b):Dl H [dr,dw]:=.cons (.inl ⟨_,.inl h.r⟩) (.cons (.inl ⟨_,.inl h.w⟩) .nil)
theorem B2.same (h:B2 H dr dw R W b)(s:Same H H'):B2 H' dr dw R W b:=⟨s _ _ h.r,s _ _ h.w,h.ne,h.bp.same s⟩
theorem j8 {a:Aj}{o:HO}(h:a∈ch):Kb ch H (upd H a o):=λb x nb e=>by
 rw [wf (λz=>nb (by rw [z];exact h))]
 exact e
variable {b':BA}
theorem B2.setR {R':List (Key×V)}(h:B2 H dr dw R W b)(hb:BP H R' W b'):B2 (upd H dr (.dK R')) dr dw R' W b':=by
 have k:Kb [dr,dw] H (upd H dr (.dK R')):=j8 (by simp)
 exact ⟨qc,by rw [wf (aV h.ne)];exact h.w,h.ne,hb.kb h.dl k⟩
theorem B2.setW {W':List (Key×V)}(h:B2 H dr dw R W b)(hb:BP H R W' b'):B2 (upd H dw (.dK W')) dr dw R W' b':=by
 have k:Kb [dr,dw] H (upd H dw (.dK W')):=j8 (by simp)
 exact ⟨by rw [wf h.ne];exact h.r,qc,h.ne,hb.kb h.dl k⟩
def qxy (H:Hp)(dr dw:Aj)(b:BA)(d:Dd)(Q:VK):Prop:=∀(q:Aj) (v:V) (H':Hp) (R' W':List (Key×V)),Kb [dr,dw] H H'→B2 H' dr dw R' W' (xx b d).2.2→H' q=some (.tup [.str (xx b d).1,v])→AnsAt H' v (xx b d).2.1→(∀a,v=.ref a→H a=none)→Q (.ref q) H'
def Jr (hs:List Int):Dd→List Int
 |.bend _ c h=>if 0≤c∧c<(hs.length:Int) then hs.set c.toNat h else [0]
 |.widen _ h=>hs++[h]
 |.narrow _=>hs.dropLast
 |_=>hs
def wqr:Dd→Prop
 |.bend _ _ _=>True
 |.widen _ _=>True
 |.narrow _=>True
 |_=>False
def xqb:Sp:=λvs H Q _=>∃(dr da p:Aj) (R:List (Key×V)) (d:Dd) (hs:List Int),vs=[.ref dr,.ref da]∧H dr=some (.dK R)∧DdAt H da d∧wqr d∧wp R (.inr d.nm)=some (.ref p)∧H p=some (.lst (hs.map V.int))∧1≤hs.length∧hs.length≤100∧∀q H',H q=none→Same H H'→H' q=some (.lst ((Jr hs d).map V.int))→Q (.ref q) H'
include T in
theorem wxq (F:Fun K "_law_changed" "_law_changed" zcp f fd):FK P w K mg base 1 f fd ["_law_roads","_law_deed_here"] xqb:=by
 have sc:=Jt
 refine F.okX sc (λvs H Q E h=>by obtain ⟨_,_,_,_,_,_,rfl,_⟩:=h;rfl) λ_ _ _ _ H vs Q E hr h=>?_
 obtain ⟨dr,da,p,R,d,hs,rfl,hr0,dd,ic,ev,fp,l1,l2,k⟩:=h
 have dg:DGet H dr (.str d.nm) (wp R (.inr d.nm)):=DGet.k (k:=.inr d.nm) hr0
 rw [ev] at dg
 have big:(1000:Nat)<sizeLine:=by decide
 refine ⟨_,(qu (xj (i:=2) (zn jd rfl T.list_ aZ (zq (jf (vj hr) (pv 0) (xq xv (pv 1) qk (λ_ _=>rfl)) (λ_ _=>rfl)) qz)))
   (jb (xh (wm zf (xq xv (pv 1) qk (λ_ _=>rfl)) qk (w6 _)) (qu (xh (PW.pt (jm (wm j3 (xq xv (pv 1) qk (λ_ _=>rfl)) qk (w6 _)) (k7 (wm wqj (xq xv (pv 1) qk (λ_ _=>rfl)) (xz xf rfl T.len_ aB (wz (pv 2) qz)) (w6 _))))) (qm (wn (yk (xb qk qz)))) wt)
   (qm (jn (xq xv (pv 1) qk (λ_ _=>rfl)) (wxg (pv 2) (xq xv (pv 1) qk (λ_ _=>rfl)) qzj)))) wt)
   (jb (xh (wm zf (xq xv (pv 1) qk (λ_ _=>rfl)) qk (w6 _)) (qm (zy (qvd bw bV bW yq (pv 2) (zq (xq xv (pv 1) qk (λ_ _=>rfl)) qz)))) wt)
   (jb (xh (wm zf (xq xv (pv 1) qk (λ_ _=>rfl)) qk (w6 _)) (qm (zy (ww2 bw ee eh wwm (pv 2)))) wt)
   (qm (wn (pv 2))))))),?_⟩
 cases d with
 |bend n c x =>
  have h:H da=some (.tup [.int 1,.str n,.int c,.int x]):=dd
  refine gI rfl (gI rfl (gX rfl rfl (SqT.of h) rfl ⟨dr,gI rfl ⟨dg,p,gI rfl ⟨.inl (SqL.of fp),λq nq=>?_⟩⟩⟩))
  have s1:=Same.upd (H:=H) (o:=.lst (hs.map V.int)) nq
  have f1:upd H q (.lst (hs.map V.int)) q=some (.lst (hs.map V.int)):=qc
  generalize upd H q (.lst (hs.map V.int))=H1 at s1 f1
  have h1:=s1 _ _ h
  have lm:(hs.map V.int).length=hs.length:=aa _
  refine ⟨λσ H'=>σ=[some (.ref dr),some (.ref da),some (.ref q)]∧Same H H'∧H' q=some (.lst ((hs.set c.toNat x).map V.int))∧0≤c∧c<(hs.length:Int),?_,?_⟩
  ·refine gI rfl (gX rfl rfl (SqT.of h1) rfl ⟨rfl,_,rfl,xn (λ_=>?_) (λz=>absurd rfl z)⟩)
   have bad:¬ (0≤c∧c<(hs.length:Int))→∀q',H1 q'=none→Q (.ref q') (upd H1 q' (.lst [.int 0])):=λz q' nq'=>by
    refine k q' _ (xy s1 nq') (s1.trans (Same.upd nq')) ?_
    rw [qc]
    show _=some (HO.lst ((if 0≤c∧c<(hs.length:Int) then hs.set c.toNat x else [0]).map V.int))
    rw [ai z]
    rfl
   refine gI rfl (gX rfl rfl (SqT.of h1) rfl (xu rfl rfl (gI rfl (zp (λz=>jj ⟨sz1,λq' nq'=>bad ⋯ q' nq'⟩) (λz=>?_)))))
   refine gI rfl (gX rfl rfl (SqT.of h1) rfl (gI rfl ⟨q,gI rfl ⟨.inl (SqL.of f1),xu rfl rfl (gI rfl ?_)⟩⟩))
   rw [lm]
   refine zp (λy=>⟨sz1,λq' nq'=>bad ⋯ q' nq'⟩) (λy=>?_)
   refine ⟨_,rfl,_,_,_,_,rfl,rfl,SqT.of h1,rfl,_,rfl,_,rfl,_,_,_,_,rfl,rfl,SqT.of h1,rfl,q,_,_,c.toNat,rfl,rfl,f1,wu1 ⋯ (by rw [lm];lia),rfl,λb o e=>?_,?_,⋯,⋯⟩
   ·rw [wf (qh e nq)]
    exact s1 _ _ e
   ·rw [qc,List.map_set]
  ·rintro σ H2 ⟨rfl,s2,f2,c0,c1⟩
   have h2:=s2 _ _ h
   refine ⟨λσ H'=>σ=[some (.ref dr),some (.ref da),some (.ref q)]∧H'=H2,((gI rfl (gX rfl rfl (SqT.of h2) rfl ⟨rfl,_,rfl,xN (⟨rfl,rfl⟩)⟩))),?_⟩
   rintro σ H3 ⟨rfl,rfl⟩
   refine ⟨λσ H'=>σ=[some (.ref dr),some (.ref da),some (.ref q)]∧H'=H3,((gI rfl (gX rfl rfl (SqT.of h2) rfl ⟨rfl,_,rfl,xN (⟨rfl,rfl⟩)⟩))),?_⟩
   rintro σ H4 ⟨rfl,rfl⟩
   refine gI rfl (k q _ nq s2 ?_)
   rw [f2]
   show _=some (HO.lst ((if 0≤c∧c<(hs.length:Int) then hs.set c.toNat x else [0]).map V.int))
   rw [ak ⟨c0,c1⟩]
 |widen n x =>
  have h:H da=some (.tup [.int 2,.str n,.int x]):=dd
  refine gI rfl (gI rfl (gX rfl rfl (SqT.of h) rfl ⟨dr,gI rfl ⟨dg,p,gI rfl ⟨.inl (SqL.of fp),λq nq=>?_⟩⟩⟩))
  have s1:=Same.upd (H:=H) (o:=.lst (hs.map V.int)) nq
  have f1:upd H q (.lst (hs.map V.int)) q=some (.lst (hs.map V.int)):=qc
  generalize upd H q (.lst (hs.map V.int))=H1 at s1 f1
  have h1:=s1 _ _ h
  have lm:(hs.map V.int).length=hs.length:=aa _
  refine ⟨λσ H'=>σ=[some (.ref dr),some (.ref da),some (.ref q)]∧H'=H1,((gI rfl (gX rfl rfl (SqT.of h1) rfl ⟨rfl,_,rfl,xN (⟨rfl,rfl⟩)⟩))),?_⟩
  rintro σ H2 ⟨rfl,rfl⟩
  refine ⟨λσ H'=>σ=[some (.ref dr),some (.ref da),some (.ref q)]∧Same H H'∧H' q=some (.lst ((hs++[x]).map V.int)),?_,?_⟩
  ·refine gI rfl (gX rfl rfl (SqT.of h1) rfl ⟨rfl,_,rfl,xn (λ_=>?_) (λz=>absurd rfl z)⟩)
   refine ⟨_,rfl,.inl ⟨rfl,_,SqL.of f1⟩,_,rfl,_,_,_,_,rfl,rfl,SqT.of h1,rfl,q,_,_,rfl,rfl,f1,by rw [lm];lia,rfl,λb o e=>?_,?_⟩
   ·rw [wf (qh e nq)]
    exact s1 _ _ e
   ·rw [qc,bg]
    rfl
  ·rintro σ H3 ⟨rfl,s3,f3⟩
   have h3:=s3 _ _ h
   refine ⟨λσ H'=>σ=[some (.ref dr),some (.ref da),some (.ref q)]∧H'=H3,((gI rfl (gX rfl rfl (SqT.of h3) rfl ⟨rfl,_,rfl,xN (⟨rfl,rfl⟩)⟩))),?_⟩
   rintro σ H4 ⟨rfl,rfl⟩
   exact gI rfl (k q _ nq s3 f3)
 |narrow n =>
  have h:H da=some (.tup [.int 3,.str n]):=dd
  refine gI rfl (gI rfl (gX rfl rfl (SqT.of h) rfl ⟨dr,gI rfl ⟨dg,p,gI rfl ⟨.inl (SqL.of fp),λq nq=>?_⟩⟩⟩))
  have s1:=Same.upd (H:=H) (o:=.lst (hs.map V.int)) nq
  have f1:upd H q (.lst (hs.map V.int)) q=some (.lst (hs.map V.int)):=qc
  generalize upd H q (.lst (hs.map V.int))=H1 at s1 f1
  have h1:=s1 _ _ h
  have lm:(hs.map V.int).length=hs.length:=aa _
  refine ⟨λσ H'=>σ=[some (.ref dr),some (.ref da),some (.ref q)]∧H'=H1,((gI rfl (gX rfl rfl (SqT.of h1) rfl ⟨rfl,_,rfl,xN (⟨rfl,rfl⟩)⟩))),?_⟩
  rintro σ H2 ⟨rfl,rfl⟩
  refine ⟨λσ H'=>σ=[some (.ref dr),some (.ref da),some (.ref q)]∧H'=H2,((gI rfl (gX rfl rfl (SqT.of h1) rfl ⟨rfl,_,rfl,xN (⟨rfl,rfl⟩)⟩))),?_⟩
  rintro σ H3 ⟨rfl,rfl⟩
  refine ⟨λσ H'=>σ=[some (.ref dr),some (.ref da),some (.ref q)]∧Same H H'∧H' q=some (.lst (hs.dropLast.map V.int)),?_,?_⟩
  ·refine gI rfl (gX rfl rfl (SqT.of h1) rfl ⟨rfl,_,rfl,xn (λ_=>?_) (λz=>absurd rfl z)⟩)
   refine ⟨_,rfl,.inl ⟨rfl,_,SqL.of f1⟩,q,_,_,rfl,rfl,f1,aj (by rw [lm];lia),rfl,λb o e=>?_,?_⟩
   ·rw [wf (qh e nq)]
    exact s1 _ _ e
   ·rw [qc,List.map_dropLast]
  ·rintro σ H4 ⟨rfl,s4,f4⟩
   exact gI rfl (k q _ nq s4 f4)
 |_=>exact ic.elim
theorem Q2 {a b:Str}(h:a≠b):¬ V.str a=V.str b:=λz=>h (by injection z)
def spBeyF:Sp:=λvs H Q _=>∃(dw:Aj) (R W:List (Key×V)) (b:BA) (n:Str) (wd:Int),vs=[.ref dw,.str n,.int wd]∧H dw=some (.dK W)∧BP H R W b∧(∀s v,b.ws s=some v→PtG v.2)∧(-1000≤wd∧wd≤1000)∧(Bey b n wd→∀H',(∃o,Fz H dw o W H')→Q (.bl true) H')∧(¬ Bey b n wd→∀H',(∃o,Fz H dw o W H')→Q (.bl false) H')
include T in
theorem ww7 (F:Fun K "_law_beyond" "_law_beyond" zaz f fd):FK P w K mg base 1 f fd ["_law_walkers","_law_name","_law_wide"] spBeyF:=by
 have sc:=qw6
 refine F.okX sc (λvs H Q E h=>by obtain ⟨_,_,_,_,_,_,rfl,_⟩:=h;rfl) λ_ _ _ s H vs Q E hr h=>?_
 obtain ⟨dw,R,W,b,n,wd,rfl,hw,bp,pg,wb,kt,kf⟩:=h
 refine ⟨_,(qu (yb be rfl (pi_dv (pv 0)) (jy rfl (x4 (xp (i:=3)) (x4 (xp (i:=4)) (x4 (xp (i:=5)) vc)))) (qm (xh (PW.pt (qxd (wm zf (pv 3) (pv 1) (w6 _)) (Yk (wm y4 (pv 4) (xk zm (pv 2) (pv 5)) (w6 _))))) (qm (wn j9)) wt)))
   (qm (wn j9))),?_⟩
 refine gI rfl ⟨dw,W,rfl,.inl hw,λo H2 fz=>?_⟩
 have keep:∀p xs,H p=some (.tup xs)→H2 p=some (.tup xs):=λp xs e=>by
  rw [fz.2 p (λz=>by rw [z,hw] at e;cases e)]
  exact e
 refine for_dv (λi σ H'=>H'=H2∧∃z1 z2 z3,σ=[some (.ref dw),some (.str n),some (.int wd),z1,z2,z3]∧∀j c s v,j<i→W[j]?=some c→c.1=.inr s→b.ws s=some v→v.1=n→¬ wd*v.2.2<v.2.1) ⟨rfl,_,_,_,rfl,λj c s v h=>absurd h (eM _)⟩ (λi σ H' _ h=>by rw [h.1];exact fz.1) ?_ ?_
 ·rintro i c σ Hx ec ⟨rfl,z1,z2,z3,rfl,hno⟩
  have hc:=aL ec
  have ev:=jx bp.nW hc
  obtain ⟨s,_,es,_⟩:=bp.fW _ _ ev
  obtain ⟨v,eb,p,ep,fp⟩:∃v,b.ws s=some v∧∃p,c.2=.ref p∧H p=some (.tup [.str v.1,.int v.2.1,.int v.2.2]):=by
   cases e:b.ws s with
   |none=>rw [es,bp.noW e] at ev;cases ev
   |some v =>
    obtain ⟨p,e1,e2⟩:=bp.wlk e
    rw [es,e1] at ev
    exact ⟨v,rfl,p,(av ev).symm,e2⟩
  have g:=pg s v eb
  obtain ⟨g1,g2,_,g3,g4⟩:=g
  have step:(v.1=n→¬ wd*v.2.2<v.2.1)→∀j c' s' v',j<i+1→W[j]?=some c'→c'.1=.inr s'→b.ws s'=some v'→v'.1=n→¬ wd*v'.2.2<v'.2.1:=λhh j c' s' v' hj e1 e2 e3=>by
   rcases (by lia:j<i∨j=i) with z|z
   ·exact hno j c' s' v' z e1 e2 e3
   ·subst z
    rw [ec] at e1
    cases e1
    rw [es] at e2
    have:s=s':=by injection e2
    subst this
    rw [eb] at e3
    cases e3
    exact hh
  rw [ep]
  refine ⟨p,gI rfl ⟨SqT.of (keep _ _ fp),rfl,_,_,rfl,_,_,rfl,_,_,rfl,rfl,?_⟩⟩
  refine gI rfl (gI rfl ⟨rfl,_,rfl,zp (λz=>?_) (λz=>vg ⟨rfl,_,_,_,rfl,step λh=>absurd (by rw [h]) z⟩)⟩)
  have z:v.1=n:=by injection z
  refine gI rfl (gI rfl (gI rfl (xu rfl rfl ⟨(by walk_at "mul"),xu rfl rfl (gI rfl (zp (λy=>?_) (λy=>⟨rfl,_,_,_,rfl,step λ_=>y⟩)))⟩)))
  exact kt ⟨s,v.2,by rw [eb,←z],y⟩ _ ⟨o,fz⟩
 ·rintro σ Hx ⟨rfl,z1,z2,z3,rfl,hno⟩
  refine kf (λ⟨s,pt,e,l⟩=>?_) _ ⟨o,fz⟩
  obtain ⟨p,e1,_⟩:=bp.wlk e
  obtain ⟨j,hj,ej⟩:=bx (qqn e1)
  exact hno j _ s _ hj (by rw [aj hj,ej]) rfl e rfl l
def wyb:Sp:=λvs H Q _=>∃(dw:Aj) (R W:List (Key×V)) (b:BA) (n:Str) (wd:Int),vs=[.ref dw,.str n,.int wd]∧H dw=some (.dK W)∧BP H R W b∧(∀s v,b.ws s=some v→PtG v.2)∧(-1000≤wd∧wd≤1000)∧(Bey b n wd→Q (.bl true) H)∧(¬ Bey b n wd→Q (.bl false) H)
theorem wyv {d:Aj}{o:Obj}(e:H d=some (.dK W))(fz:Fz H d o W H'):thw [d] H'=H:=by
 funext b
 by_cases z:b=d
 ·rw [z,qqk (by simp) fz.1,e]
 ·rw [qq8 (by simpa using z),fz.2 b z]
include T in
theorem wvb (F:Fun K "_law_beyond" "_law_beyond" zaz f fd):FK P w K mg base 1 f fd ["_law_walkers","_law_name","_law_wide"] wyb:=by
 refine FnOk.imp (FnOk.thaw (ww7 T F)) λvs H Q E h=>?_
 obtain ⟨dw,R,W,b,n,wd,e,hw,bp,pg,wb,kt,kf⟩:=h
 have nf:∀d∈[dw],∀o u,H d≠some (.frz o u):=λd hd o u z=>by
  rw [aq.mp hd,hw] at z
  cases z
 exact ⟨dw,R,W,b,n,wd,e,hw,bp,pg,wb,λy H' ⟨o,fz⟩=>⟨[dw],nf,by rw [wyv hw fz];exact kt y⟩,λy H' ⟨o,fz⟩=>⟨[dw],nf,by rw [wyv hw fz];exact kf y⟩⟩
def qyn (K:Aa):Sp:=λvs H Q _=>∃(dr dw:Aj) (R W:List (Key×V)) (b:BA) (n:Str) (m:Int) (v:Str×(Int×Int)) (hs:List Int),vs=[.ref dr,.ref dw,.str n,.int m]∧B2 H dr dw R W b∧W.length≤1000∧b.ws n=some v∧b.rs v.1=some hs∧HPt hs v.2∧0≤m ∧
 ∀q H' W',Kb [dr,dw] H H'→B2 H' dr dw R W' (b.putW n (v.1,itP hs v.2 m.toNat))→W'.map (·.1)=W.map (·.1)→H q=none→H' q=some (.tup [.int (itP hs v.2 m.toNat).1,.int (itP hs v.2 m.toNat).2])→Q (.ref q) H'
include T in
theorem wur (F:Fun K "_law_gone" "_law_gone" zcs f fd)(zi3:Cal P w K mg base "_law_trace" 2 (qxb K))(zi4:Cal P w K mg base "_law_after" 1 (qyq K))(zc4:Cal P w K mg base "_law_low" 2 wzu) :
  FK P w K mg base 3 f fd ["_law_roads","_law_walkers","_law_name","_law_many"] (qyn K):=by
 have sc:=qys
 refine F.okX sc (λvs H Q E h=>by obtain ⟨_,_,_,_,_,_,_,_,_,rfl,_⟩:=h;rfl) λ_ _ _ _ H vs Q E hr h=>?_
 obtain ⟨dr,dw,R,W,b,n,m,v,hs,rfl,b2,lW,ew,er,hp,m0,k⟩:=h
 have sm:∀z:Int,-(2 ^ 64)≤z→z≤2 ^ 64→Sm 65 z:=λz z1 z2=>Sm.small z1 z2 ⋯
 obtain ⟨p,e1,f1⟩:=b2.bp.wlk ew
 obtain ⟨lo,r,e2,f2⟩:=b2.bp.row er
 have dg1:DGet H dw (.str n) (wp W (.inr n)):=DGet.k (k:=.inr n) b2.w
 rw [e1] at dg1
 have dg2:DGet H dr (.str v.1) (wp R (.inr v.1)):=DGet.k (k:=.inr v.1) b2.r
 rw [e2] at dg2
 have rg:=hp.rng
 obtain ⟨_,⟨p1,_,pco,pon⟩,p40⟩:=id hp
 have ll:xg v.2.1 v.2.2=v.2:=qju p1 pco
 have key:∀n,xg (trT hs v.2.1 v.2.2 n) v.2.2=itP hs v.2 n:=λn=>by rw [qyu p1,ll]
 have big:(10000:Nat)<sizeLine:=by decide
 obtain ⟨wh,t,c⟩:=v
 refine ⟨_,(qu (jn (jf (vj hr) (pv 1) (pv 2) (λ_ _=>rfl)) (jy rfl (x4 (xp (i:=4)) (x4 (xp (i:=5)) (x4 (xp (i:=6)) vc)))))
   (qu (jn (wCA zi3 (zq (jf (vj hr) (pv 0) (pv 4) (λ_ _=>rfl)) (wz (pv 5) (wz (pv 6) qz)))) (jy rfl (x4 (xp (i:=7)) (x4 (xp (i:=8)) vc))))
   (qu (jn (wCA zc4 (vd (wCA zi4 (wz (pv 7) (wz (pv 8) (wz (pv 3) qz)))) (wz (pv 6) qz))) (jy rfl (x4 (xp (i:=5)) (x4 (xp (i:=6)) vc))))
   (qu (u7 (vj hr) (pv 1) (pv 2) (zx (wz (pv 4) (wz (pv 5) (wz (pv 6) qz)))) rfl)
   (qm (wn (zx (wz (pv 5) (wz (pv 6) qz))))))))),?_⟩
 refine gI rfl (gI rfl ⟨dw,gI rfl ⟨dg1,p,gI rfl ⟨SqT.of f1,rfl,_,_,rfl,_,_,rfl,_,_,rfl,rfl,?_⟩⟩⟩)
 refine ⟨_,rfl,_,rfl,dr,_,rfl,dg2,_,rfl,_,rfl,r,hs,t,c,rfl,SqL.of f2,lo,p1,by have:c≤40:=p40;lia,pon,λj u q l H2 d1 u1 e1' nl s2 ll2 fq fl=>?_⟩
 refine ⟨q,gI rfl ⟨SqT.of fq,rfl,_,_,rfl,_,_,rfl,rfl,?_⟩⟩
 refine ⟨_,rfl,_,rfl,_,rfl,l,trT hs t c,j,u,m,rfl,fl,u1,e1',λi j e=>?_,m0,?_⟩
 ·show yr hs (trT hs t c i) c=yr hs (trT hs t c j) c
  rw [e]
 ·have c40:c≤40:=p40
  have c1:1≤c:=p1
  refine gI rfl ⟨_,_,rfl,p1,(sm c ⋯ ⋯).mono ⋯,λp3 n3=>?_⟩
  have s3:=Same.upd (H:=H2) (o:=.tup (ptV (xg (trT hs t c m.toNat) c))) n3
  have f3:upd H2 p3 (.tup (ptV (xg (trT hs t c m.toNat) c))) p3=some (.tup [.int (itP hs (t,c) m.toNat).1,.int (itP hs (t,c) m.toNat).2]):=by rw [qc,key];rfl
  generalize upd H2 p3 (.tup (ptV (xg (trT hs t c m.toNat) c)))=H3 at s3 f3
  refine ⟨p3,gI rfl ⟨SqT.of f3,rfl,_,_,rfl,_,_,rfl,rfl,?_⟩⟩
  refine gI rfl (gI rfl (gI rfl ⟨sz3,λp4 n4=>?_⟩))
  have s4:=Same.upd (H:=H3) (o:=.tup [.str wh,.int (itP hs (t,c) m.toNat).1,.int (itP hs (t,c) m.toNat).2]) n4
  have f4:upd H3 p4 (.tup [.str wh,.int (itP hs (t,c) m.toNat).1,.int (itP hs (t,c) m.toNat).2]) p4=some (.tup [.str wh,.int (itP hs (t,c) m.toNat).1,.int (itP hs (t,c) m.toNat).2]):=qc
  generalize upd H3 p4 (.tup [.str wh,.int (itP hs (t,c) m.toNat).1,.int (itP hs (t,c) m.toNat).2])=H4 at s4 f4
  have s24:=(s2.trans s3).trans s4
  have b4:=b2.same s24
  refine gI rfl (gI rfl ⟨dw,gI rfl ⟨DPut.k (k:=.inr n) b4.w ⋯,?_⟩⟩)
  refine gI rfl (gI rfl ⟨sz2,λp5 n5=>?_⟩)
  have b5:B2 (upd H4 dw (.dK (km W (.inr n) (.ref p4)))) dr dw R (km W (.inr n) (.ref p4)) (b.putW n (wh,itP hs (t,c) m.toNat)):=b4.setW (b4.bp.putW (v:=(wh,itP hs (t,c) m.toNat)) f4)
  have s5:=Same.upd (H:=upd H4 dw (.dK (km W (.inr n) (.ref p4)))) (o:=.tup [.int (itP hs (t,c) m.toNat).1,.int (itP hs (t,c) m.toNat).2]) n5
  have n5':H p5=none:=xy s24 (by
   have:p5≠dw:=λz=>by rw [z,qc] at n5;cases n5
   rw [wf this] at n5
   exact n5)
  exact k p5 _ _ (((Kb.of s24).trans (j8 (by simp))).trans (Kb.of s5)) (b5.same s5) (wqk e1) n5' qc
variable {xs:List V}
theorem qq5 {x:V}:atI (x::xs) 0=some x:=by simp [atI,ixN]
def isR:Dd→Prop
 |.lay _ _=>True
 |.bend _ _ _=>True
 |.widen _ _=>True
 |.narrow _=>True
 |.clear _=>True
 |_=>False
theorem wuc:¬ xt [0]:=λh=>absurd h.1 ⋯
theorem wv4 (ic:wqr d)(er:b.rs d.nm=some hs)(lo:¬ xt (Jr hs d)):xx b d=(("line" : Str),Ans.non,b):=by
 cases d with
 |bend n c x =>
  simp only [xx]
  rw [show b.rs n=some hs from er]
  dsimp only
  rw [ai (λz=>lo (by show xt (if 0≤c∧c<(hs.length:Int) then _ else _);rw [ak ⟨z.1,z.2.1⟩];exact z.2.2))]
 |widen n x =>
  have lo:¬ xt (hs++[x]):=lo
  simp only [xx]
  rw [show b.rs n=some hs from er]
  dsimp only
  rw [ai lo]
 |narrow n =>
  have lo:¬ xt hs.dropLast:=lo
  simp only [xx]
  rw [show b.rs n=some hs from er]
  dsimp only
  rw [ai lo]
 |_=>exact ic.elim
theorem wyh (bo:BOk NM b){n:Str}{hs:List Int}(er:b.rs n=some hs){wd:Int}(h:(hs.length:Int)-1≤wd):¬ Bey b n wd:=λ⟨s,pt,e,l⟩=>by
 obtain ⟨_,_,ks,er',hp⟩:=bo.wo s _ e
 rw [er] at er'
 cases er'
 have a:=(Y5 hp).2
 have c:=hp.2.1.1
 have:((hs.length:Int)-1)*pt.2≤wd*pt.2:=aJ h (by have:1≤pt.2:=c;lia)
 have a:pt.1≤((hs.length:Int)-1)*pt.2:=a
 lia
theorem qu8 {x:Int}(lo:xt (Jr hs (.bend n c x))):0≤c∧c<(hs.length:Int)∧xt (hs.set c.toNat x)∧Jr hs (.bend n c x)=hs.set c.toNat x:=by
 have lo':xt (if 0≤c∧c<(hs.length:Int) then hs.set c.toNat x else [0]):=lo
 by_cases z:0≤c∧c<(hs.length:Int)
 ·rw [ak z] at lo'
  exact ⟨z.1,z.2,lo',ak z⟩
 ·rw [ai z] at lo'
  exact absurd lo' wuc
theorem wq9 (bo:BOk NM b){d:Dd}{hs:List Int}(ic:wqr d)(er:b.rs d.nm=some hs)(lo:xt (Jr hs d))(y:Bey b d.nm (((Jr hs d).length:Int)-1)):xx b d=(("stood" : Str),Ans.non,b):=by
 cases d with
 |bend n c x =>
  obtain ⟨_,_,_,e⟩:=qu8 lo
  rw [e,cQ] at y
  exact absurd y (wyh bo er (fV _))
 |widen n x =>
  refine absurd y (wyh bo er ?_)
  show (hs.length:Int)-1≤((hs++[x]).length:Int)-1
  rw [aP]
  push_cast
  lia
 |narrow n =>
  have lo:xt hs.dropLast:=lo
  have y:Bey b n ((hs.dropLast.length:Int)-1):=y
  simp only [xx]
  rw [show b.rs n=some hs from er]
  dsimp only
  rw [ak lo,ak y]
 |_=>exact ic.elim
theorem wyd (ic:wqr d)(er:b.rs d.nm=some hs)(lo:xt (Jr hs d))(y:¬ Bey b d.nm (((Jr hs d).length:Int)-1)):xx b d=(("" : Str),Ans.non,b.putR d.nm (Jr hs d)):=by
 cases d with
 |bend n c x =>
  obtain ⟨c0,c1,l,e⟩:=qu8 lo
  rw [e]
  simp only [xx]
  rw [show b.rs n=some hs from er]
  dsimp only
  rw [ak ⟨c0,c1,l⟩]
  rfl
 |widen n x =>
  have lo:xt (hs++[x]):=lo
  simp only [xx]
  rw [show b.rs n=some hs from er]
  dsimp only
  rw [ak lo]
  rfl
 |narrow n =>
  have lo:xt hs.dropLast:=lo
  have y:¬ Bey b n ((hs.dropLast.length:Int)-1):=y
  simp only [xx]
  rw [show b.rs n=some hs from er]
  dsimp only
  rw [ak lo,ai y]
  rfl
 |_=>exact ic.elim
def qjx:Sp:=λvs H Q _=>∃(dr dw da:Aj) (R W:List (Key×V)) (b:BA) (d:Dd) (NM:List Str),vs=[.ref dr,.ref dw,.ref da]∧B2 H dr dw R W b∧BOk NM b∧NM.length≤1000∧DdAt H da d∧isR d∧qxy H dr dw b d Q
include T in
theorem wj6 (F:Fun K "_law_roads_done" "_law_roads_done" zcq f fd)(zc5:Cal P w K mg base "_law_named_new" 2 qj2)(zhl:Cal P w K mg base "_law_good_line" 1 Zs)(zhm:Cal P w K mg base "_law_beyond" 1 wyb)(zi5:Cal P w K mg base "_law_changed" 1 xqb) :
  FK P w K mg base 3 f fd ["_law_roads","_law_walkers","_law_deed_here"] qjx:=by
 have sc:=Zf
 refine F.okX sc (λvs H Q E h=>by obtain ⟨_,_,_,_,_,_,_,_,rfl,_⟩:=h;rfl) λ_ _ _ s H vs Q E hr h=>?_
 obtain ⟨dr,dw,da,R,W,b,d,NM,rfl,b2,bo,lN,dd,ir,k⟩:=h
 have lens:=b2.bp.lens bo
 have big:(10000:Nat)<sizeLine:=by decide
 have pg:∀s v,b.ws s=some v→PtG v.2:=λs v e=>by obtain ⟨_,_,hs,_,hp⟩:=bo.wo s v e;exact hp.g
 have fin:∀(wd:Str),xx b d=(wd,.non,b)→∀H1 q,Same H H1→H1 q=none→Q (.ref q) (upd H1 q (.tup [.str wd,.non])):=λwd e H1 q s1 nq=>by
  unfold qxy at k
  rw [e] at k
  exact k q .non _ R W (Kb.of (s1.trans (Same.upd nq))) (b2.same (s1.trans (Same.upd nq))) qc rfl (λ_ z=>nomatch z)
 have isn:∀n,(wp R (.inr n)).isSome=(b.rs n).isSome:=λn=>by
  cases e:b.rs n with
  |none=>rw [b2.bp.noR e];rfl
  |some hs=>obtain ⟨_,p,e1,_⟩:=b2.bp.row e;rw [e1];rfl
 refine ⟨_,(qu (xh (wm zf (xq xv (pv 2) qk (λ_ _=>rfl)) qk (w6 _)) (qu (xj (i:=3) (wCA zc5 (zq (xq xv (pv 2) qk (λ_ _=>rfl)) (wz (pv 0) qz))))
   (jb (xh (PW.pt (qxd (wm zf (pv 3) x6 (w6 _)) (Yk (jz (vm (wCA zhl (zq (xq xv (pv 2) qk (λ_ _=>rfl)) qz))))))) (qm (xj (i:=3) x6)) wt)
   (jb (xh (wm zf (pv 3) x6 (w6 _)) (qm (u7 (vj hr) (pv 0) (xq xv (pv 2) qk (λ_ _=>rfl)) (zn jd rfl T.list_ aZ (zq (xq xv (pv 2) qk (λ_ _=>rfl)) qz)) rfl)) wt)
   (qm (wn (zx (wz (pv 3) (xb jv qz)))))))) wt)
   (qu (xh (Qx (yw (vj hr) (xq xv (pv 2) qk (λ_ _=>rfl)) (pv 0))) (qm (wn (zx (xb x6 (xb jv qz))))) wt)
   (qu (xh (wm zf (xq xv (pv 2) qk (λ_ _=>rfl)) qk (w6 _)) (qu (xh (vm (wCA zhm (wz (pv 1) (zq (xq xv (pv 2) qk (λ_ _=>rfl)) (xqq (qu5 qx4 qk) qz))))) (qm (wn (zx (xb x6 (xb jv qz))))) wt)
   (qu (zy (wqv (pv 0) (xq xv (pv 2) qk (λ_ _=>rfl)) ⟨rfl,rfl,rfl,rfl⟩))
   (qm (wn (zx (xb x6 (xb jv qz))))))) wt)
   (qu (xj (i:=4) (wCA zi5 (wz (pv 0) (wz (pv 2) qz))))
   (qu (xh (jz (vm (wCA zhl (wz (pv 4) qz)))) (qm (wn (zx (xb x6 (xb jv qz))))) wt)
   (qu (xh (vm (wCA zhm (wz (pv 1) (zq (xq xv (pv 2) qk (λ_ _=>rfl)) (vk (xk k6 (xz xf rfl T.len_ aB (wz (pv 4) qz)) qk) qz))))) (qm (wn (zx (xb x6 (xb jv qz))))) wt)
   (qu (u7 (vj hr) (pv 0) (xq xv (pv 2) qk (λ_ _=>rfl)) (pv 4) rfl)
   (qm (wn (zx (xb x6 (xb jv qz)))))))))))),?_⟩
 dsimp only [ug]
 by_cases il:∃n hs,d=.lay n hs
 ·obtain ⟨n,hs,rfl⟩:=il
  obtain ⟨p,h,hp,l2,l25,ln⟩:=dd
  refine gI rfl (gX rfl rfl (SqT.of h) rfl ⟨rfl,_,rfl,xn (λ_=>?_) (λz=>absurd rfl z)⟩)
  refine ⟨_,rfl,_,_,_,_,rfl,rfl,SqT.of h,rfl,_,rfl,n,dr,R,rfl,⋯,b2.r,λH1 s1=>?_⟩
  have h1:=s1 _ _ h
  have hp1:=s1 _ _ hp
  have b21:=b2.same s1
  have two:∀(wd:Str),wd ≠ "" → xx b (.lay n hs)=(wd,.non,b)→∀H2,Same H H2→∃(w2:St→Hp→Prop),w2 [some (.ref dr),some (.ref dw),some (.ref da),some (.str wd),none] H2∧True:=λwd _ _ H2 _=>⟨λ_ _=>True,trivial,trivial⟩
  cases nn:vb n with
  |false =>
   have e:xx b (.lay n hs)=(("name" : Str),Ans.non,b):=by
    simp only [xx]
    rw [ak nn]
   have ew:J3 false (wp R (.inr n)) = "name" := rfl
   rw [ew]
   refine ⟨λσ H'=>σ=[some (.ref dr),some (.ref dw),some (.ref da),some (.str "name"),none]∧H'=H1,((gI rfl ⟨rfl,_,rfl,zp (λz=>absurd z (Q2 ⋯)) (λ_=>vg ⟨rfl,rfl⟩)⟩)),?_⟩
   rintro σ H2 ⟨rfl,rfl⟩
   refine ⟨λσ H'=>σ=[some (.ref dr),some (.ref dw),some (.ref da),some (.str "name"),none]∧H'=H2,((gI rfl ⟨rfl,_,rfl,zp (λz=>absurd z (Q2 ⋯)) (λ_=>⟨rfl,rfl⟩)⟩)),?_⟩
   rintro σ H3 ⟨rfl,rfl⟩
   exact gI rfl ⟨sz2,λq nq=>fin "name" e H3 q s1 nq⟩
  |true =>
   by_cases tk:(b.rs n).isSome=true
   ·have e:xx b (.lay n hs)=(("taken" : Str),Ans.non,b):=by
     simp only [xx]
     rw [ai (by rw [nn];decide),ak tk]
    have ew:J3 true (wp R (.inr n)) = "taken" := by
     unfold J3
     rw [ai ⋯,ak (by rw [isn];exact tk)]
    rw [ew]
    refine ⟨λσ H'=>σ=[some (.ref dr),some (.ref dw),some (.ref da),some (.str "taken"),none]∧H'=H1,((gI rfl ⟨rfl,_,rfl,zp (λz=>absurd z (Q2 ⋯)) (λ_=>vg ⟨rfl,rfl⟩)⟩)),?_⟩
    rintro σ H2 ⟨rfl,rfl⟩
    refine ⟨λσ H'=>σ=[some (.ref dr),some (.ref dw),some (.ref da),some (.str "taken"),none]∧H'=H2,((gI rfl ⟨rfl,_,rfl,zp (λz=>absurd z (Q2 ⋯)) (λ_=>⟨rfl,rfl⟩)⟩)),?_⟩
    rintro σ H3 ⟨rfl,rfl⟩
    exact gI rfl ⟨sz2,λq nq=>fin "taken" e H3 q s1 nq⟩
   ·have ew:J3 true (wp R (.inr n)) = "" := by
     unfold J3
     rw [ai ⋯,ai (by rw [isn];exact tk)]
    rw [ew]
    refine ⟨λσ H'=>Same H H'∧((xt hs∧σ=[some (.ref dr),some (.ref dw),some (.ref da),some (.str ""),none])∨(¬ xt hs∧σ=[some (.ref dr),some (.ref dw),some (.ref da),some (.str "line"),none])),?_,?_⟩
    ·refine gI rfl ⟨rfl,_,rfl,zp (λ_=>?_) (λz=>absurd rfl z)⟩
     exact ⟨_,rfl,_,_,_,_,rfl,rfl,SqT.of h1,rfl,p,hs,rfl,hp1,⋯,λlo H2 s2=>(gI rfl (vg ⟨s1.trans s2,.inl ⟨lo,rfl⟩⟩)),λlo H2 s2=>(gI rfl (jj ⟨s1.trans s2,.inr ⟨lo,rfl⟩⟩))⟩
    ·rintro σ H2 ⟨s2,⟨lo,rfl⟩|⟨lo,rfl⟩⟩
     ·have e:xx b (.lay n hs)=(("" : Str),Ans.non,b.putR n hs):=by
       simp only [xx]
       rw [ai (by rw [nn];decide),ai tk,ak lo]
      unfold qxy at k
      rw [e] at k
      have b22:=b2.same s2
      refine ⟨λσ H'=>σ=[some (.ref dr),some (.ref dw),some (.ref da),some (.str ""),none]∧Kb [dr,dw] H H'∧∃R',B2 H' dr dw R' W (b.putR n hs),?_,?_⟩
      ·refine gI rfl ⟨rfl,_,rfl,zp (λ_=>?_) (λz=>absurd rfl z)⟩
       refine gI rfl (gX rfl rfl (SqT.of (s2 _ _ h)) rfl ⟨p,gI rfl ⟨.inl (SqL.of (s2 _ _ hp)),λp3 n3=>?_⟩⟩)
       have s3:=Same.upd (H:=H2) (o:=.lst (hs.map V.int)) n3
       have f3:upd H2 p3 (.lst (hs.map V.int)) p3=some (.lst (hs.map V.int)):=qc
       generalize upd H2 p3 (.lst (hs.map V.int))=H3 at s3 f3
       have b23:=b22.same s3
       refine gI rfl (gI rfl (gX rfl rfl (SqT.of (s3 _ _ (s2 _ _ h))) rfl ⟨dr,gI rfl ⟨DPut.k (k:=.inr n) b23.r ⋯,rfl,(Kb.of (s2.trans s3)).trans (j8 (by simp)),_,b23.setR (b23.bp.putR lo f3)⟩⟩))
      ·rintro σ H4 ⟨rfl,kb,R',b24⟩
       exact gI rfl ⟨sz2,λq nq=>k q .non _ R' W (kb.trans (Kb.of (Same.upd nq))) (b24.same (Same.upd nq)) qc rfl (λ_ z=>nomatch z)⟩
     ·have e:xx b (.lay n hs)=(("line" : Str),Ans.non,b):=by
       simp only [xx]
       rw [ai (by rw [nn];decide),ai tk,ai lo]
      refine ⟨λσ H'=>σ=[some (.ref dr),some (.ref dw),some (.ref da),some (.str "line"),none]∧H'=H2,((gI rfl ⟨rfl,_,rfl,zp (λz=>absurd z (Q2 ⋯)) (λ_=>⟨rfl,rfl⟩)⟩)),?_⟩
      rintro σ H3 ⟨rfl,rfl⟩
      exact gI rfl ⟨sz2,λq nq=>fin "line" e H3 q s2 nq⟩
 ·obtain ⟨kd,xs,h,hk,at1,hk4⟩:∃kd xs,H da=some (.tup (.int kd::.str d.nm::xs))∧kd≠0∧atI (V.int kd::V.str d.nm::xs) 1=some (.str d.nm)∧((kd=4∧∃n,d=.clear n)∨(kd≠4∧wqr d)):=by
   cases d with
   |lay n hs=>exact absurd ⟨n,hs,rfl⟩ il
   |bend n c x=>exact ⟨_,_,dd,⋯,rfl,.inr ⟨⋯,trivial⟩⟩
   |widen n x=>exact ⟨_,_,dd,⋯,rfl,.inr ⟨⋯,trivial⟩⟩
   |narrow n=>exact ⟨_,_,dd,⋯,rfl,.inr ⟨⋯,trivial⟩⟩
   |clear n=>exact ⟨_,_,dd,⋯,rfl,.inl ⟨rfl,n,rfl⟩⟩
   |_=>exact ir.elim
  have at0:atI (V.int kd::V.str d.nm::xs) 0=some (.int kd):=qq5
  refine gI rfl (gX rfl rfl (SqT.of h) at0 ⟨rfl,_,rfl,xn (λz=>absurd z hk) (λ_=>?_)⟩)
  have dg:DGet H dr (.str d.nm) (wp R (.inr d.nm)):=DGet.k (k:=.inr d.nm) b2.r
  cases er:b.rs d.nm with
  |none =>
   rw [b2.bp.noR er] at dg
   refine gI rfl (gX rfl rfl (SqT.of h) at1 (gI rfl ⟨dr,gI rfl ⟨dg,_,rfl,jj ?_⟩⟩))
   refine ⟨sz2,λq nq=>fin "road" ?_ H q (Same.refl _) nq⟩
   cases d with
   |lay n hs=>exact absurd ⟨n,hs,rfl⟩ il
   |bend n c x=>simp only [xx];rw [show b.rs n=none from er]
   |widen n x=>simp only [xx];rw [show b.rs n=none from er]
   |narrow n=>simp only [xx];rw [show b.rs n=none from er]
   |clear n=>simp only [xx];rw [show b.rs n=none from er]
   |_=>exact ir.elim
  |some hs =>
   obtain ⟨lo,p,ev,fp⟩:=b2.bp.row er
   rw [ev] at dg
   have ll:=lo.2.1
   have l1:=lo.1
   refine gI rfl (gX rfl rfl (SqT.of h) at1 (gI rfl ⟨dr,gI rfl ⟨dg,_,rfl,vg ?_⟩⟩))
   rcases hk4 with ⟨h4,n,rfl⟩|⟨h4,ic⟩
   ·refine gI rfl (gX rfl rfl (SqT.of h) at0 ⟨rfl,_,rfl,xn (λ_=>?_) (λz=>absurd h4 z)⟩)
    have er':b.rs n=some hs:=er
    refine ⟨_,rfl,_,rfl,_,_,_,_,rfl,rfl,SqT.of h,at1,1,rfl,dw,R,W,b,n,-1,rfl,b2.w,b2.bp,pg,⋯,λy=>(gI rfl (jj ⟨sz2,λq nq=>fin "stood" ?_ H q (Same.refl _) nq⟩)),λy=>(gI rfl (vg ?_))⟩
    ·simp only [xx]
     rw [er']
     dsimp only
     rw [ak y]
    ·have e:xx b (.clear n)=(("" : Str),Ans.non,b.delR n):=by
      simp only [xx]
      rw [er']
      dsimp only
      rw [ai y]
     unfold qxy at k
     rw [e] at k
     refine gI rfl ⟨dr,rfl,.inl ⟨_,.inl b2.r⟩,gI rfl (gX rfl rfl (SqT.of h) at1 ⟨R,.inr n,_,b2.r,rfl,ev,?_⟩)⟩
     refine ⟨sz2,λq nq=>k q .non _ _ W ((j8 (by simp)).trans (Kb.of (Same.upd nq))) ((b2.setR (b2.bp.delR n)).same (Same.upd nq)) qc rfl (λ_ z=>nomatch z)⟩
   ·refine gI rfl (gX rfl rfl (SqT.of h) at0 ⟨rfl,_,rfl,xn (λz=>absurd z h4) (λ_=>?_)⟩)
    have cl:(Jr hs d).length≤1000:=by
     cases d with
     |bend n c x=>show (if 0≤c∧c<(hs.length:Int) then hs.set c.toNat x else [0]).length≤1000;split;(rw [cQ];lia);(show 1≤1000;decide)
     |widen n x=>show (hs++[x]).length≤1000;rw [aP];show hs.length+1≤1000;lia
     |narrow n=>show hs.dropLast.length≤1000;rw [List.length_dropLast];lia
     |_=>exact ic.elim
    refine ⟨_,rfl,_,rfl,dr,da,p,R,d,hs,rfl,b2.r,dd,ic,ev,fp,⋯,⋯,λq H1 nq s1 f1=>?_⟩
    have lm:((Jr hs d).map V.int).length=(Jr hs d).length:=aa _
    refine ⟨_,rfl,q,_,rfl,f1,cl,λlo' H2 s2=>(gI rfl (vg ?_)),λlo' H2 s2=>(gI rfl (jj ⟨sz2,λq' nq'=>fin "line" (wv4 ic er lo') H2 q' (s1.trans s2) nq'⟩))⟩
    have s12:=s1.trans s2
    have b22:=b2.same s12
    have f2:=s2 _ _ f1
    have l25:=lo'.2.1
    refine gI rfl (gI rfl (gX rfl rfl (SqT.of (s12 _ _ h)) at1 (gI rfl ⟨q,gI rfl ⟨.inl (SqL.of f2),xu rfl rfl ?_⟩⟩)))
    rw [lm]
    refine ⟨dw,R,W,b,d.nm,_,rfl,b22.w,b22.bp,pg,⋯,λy=>(gI rfl (jj ⟨sz2,λq' nq'=>fin "stood" (wq9 bo ic er lo' y) H2 q' s12 nq'⟩)),λy=>(gI rfl (vg ?_))⟩
    have e:=wyd ic er lo' y
    unfold qxy at k
    rw [e] at k
    refine gI rfl (gI rfl (gI rfl (gX rfl rfl (SqT.of (s12 _ _ h)) at1 ⟨dr,gI rfl ⟨DPut.k (k:=.inr d.nm) b22.r ⋯,?_⟩⟩)))
    exact ⟨sz2,λq' nq'=>k q' .non _ _ W (((Kb.of s12).trans (j8 (by simp))).trans (Kb.of (Same.upd nq'))) ((b22.setR (b22.bp.putR lo' f2)).same (Same.upd nq')) qc rfl (λ_ z=>nomatch z)⟩
def wuq:Sp:=λvs H Q _=>∃(dr dw da:Aj) (R W:List (Key×V)) (b:BA) (n wh:Str) (t p:Int) (NM:List Str),vs=[.ref dr,.ref dw,.ref da]∧B2 H dr dw R W b∧BOk NM b∧NM.length≤1000∧DdAt H da (.place n wh t p)∧∀H' R' W',Kb [dr,dw] H H'→B2 H' dr dw R' W' (xx b (.place n wh t p)).2.2→Q (.str (xx b (.place n wh t p)).1) H'
theorem sm65 {z:Int}(h1:-(2 ^ 64)≤z)(h2:z≤2 ^ 64):Sm 65 z:=Sm.small h1 h2 ⋯
include T in
theorem zi6 (F:Fun K "_law_set" "_law_set" zcr f fd)(zc5:Cal P w K mg base "_law_named_new" 2 qj2)(zc4:Cal P w K mg base "_law_low" 2 wzu) :
  FK P w K mg base 3 f fd ["_law_roads","_law_walkers","_law_deed_here"] wuq:=by
 have sc:=qy0
 refine F.okX sc (λvs H Q E h=>by obtain ⟨_,_,_,_,_,_,_,_,_,_,_,rfl,_⟩:=h;rfl) λ_ _ _ _ H vs Q E hr h=>?_
 obtain ⟨dr,dw,da,R,W,b,n,wh,t,p,NM,rfl,b2,bo,lN,dd,k⟩:=h
 obtain ⟨q,h,hq,ln,bt,bb⟩:=dd
 have lens:=b2.bp.lens bo
 have big:(10000:Nat)<sizeLine:=by decide
 have fin:∀(wd:Str),xx b (.place n wh t p)=(wd,Ans.non,b)→∀H1,Same H H1→Q (.str wd) H1:=λwd e H1 s1=>by
  rw [e] at k
  exact k H1 R W (Kb.of s1) (b2.same s1)
 have isn:∀n,(wp W (.inr n)).isSome=(b.ws n).isSome:=λn=>by
  cases e:b.ws n with
  |none=>rw [b2.bp.noW e];rfl
  |some v=>obtain ⟨p,e1,_⟩:=b2.bp.wlk e;rw [e1];rfl
 refine ⟨_,(qu (jn (xq xv (pv 2) qk (λ_ _=>rfl)) (jy rfl (x4 (xp (i:=3)) (x4 (xp (i:=4)) vc))))
   (qu (xh (wm Zw (wCA zc5 (zq (xq xv (pv 2) qk (λ_ _=>rfl)) (wz (pv 1) qz))) x6 (w6 _)) (qm (wn (wCA zc5 (zq (xq xv (pv 2) qk (λ_ _=>rfl)) (wz (pv 1) qz))))) wt)
   (qu (xh (Qx (yw (vj hr) (xq xv (pv 2) qk (λ_ _=>rfl)) (pv 0))) (qm (wn x6)) wt)
   (qu (xh (PW.pt (jm (wm j3 (pv 4) qk (w6 _)) (k7 (wm y4 (xq xv (wCA zc4 (wz (pv 3) (wz (pv 4) qz))) qk (λ_ _=>rfl)) qk (w6 _))))) (qm (wn x6)) wt)
   (qu (xh (PW.pt (jm (wm j3 (pv 3) qk (w6 _)) (k7 (wm y4 (pv 3) (xk zm (xk k6 (xz xf rfl T.len_ aB (zq (jf (vj hr) (pv 0) (xq xv (pv 2) qk (λ_ _=>rfl)) (λ_ _=>rfl)) qz)) qk) (pv 4)) (w6 _))))) (qm (wn x6)) wt)
   (qu (jn (wCA zc4 (wz (pv 3) (wz (pv 4) qz))) (jy rfl (x4 (xp (i:=3)) (x4 (xp (i:=4)) vc))))
   (qu (u7 (vj hr) (pv 1) (xq xv (pv 2) qk (λ_ _=>rfl)) (zx (zq (xq xv (pv 2) qk (λ_ _=>rfl)) (wz (pv 3) (wz (pv 4) qz)))) rfl)
   (qm (wn x6))))))))),?_⟩
 dsimp only [ug]
 refine gI rfl (gX rfl rfl (SqT.of h) rfl ⟨q,gI rfl ⟨SqT.of hq,rfl,_,_,rfl,_,_,rfl,rfl,?_⟩⟩)
 refine ⟨_,rfl,_,_,_,_,rfl,rfl,SqT.of h,rfl,_,rfl,n,dw,W,rfl,⋯,b2.w,λH1 s1=>?_⟩
 have h1:=s1 _ _ h
 have b21:=b2.same s1
 cases nn:vb n with
 |false =>
  have e:xx b (.place n wh t p)=(("name" : Str),Ans.non,b):=by
   simp only [xx]
   rw [ak nn]
  refine ⟨rfl,_,rfl,qku (λ_=>?_) (λz=>absurd z (Q2 (by rw [show J3 false (wp W (.inr n)) = "name" from rfl];decide)))⟩
  refine ⟨_,rfl,_,_,_,_,rfl,rfl,SqT.of h1,rfl,_,rfl,n,dw,W,rfl,⋯,b21.w,λH2 s2=>?_⟩
  rw [nn,show J3 false (wp W (.inr n)) = "name" from rfl]
  exact fin "name" e H2 (s1.trans s2)
 |true =>
  by_cases tk:(b.ws n).isSome=true
  ·have ew:J3 true (wp W (.inr n)) = "taken" := by
    unfold J3
    rw [ai ⋯,ak (by rw [isn];exact tk)]
   have e:xx b (.place n wh t p)=(("taken" : Str),Ans.non,b):=by
    simp only [xx]
    rw [ai (by rw [nn];decide),ak tk]
   refine ⟨rfl,_,rfl,qku (λ_=>?_) (λz=>absurd z (Q2 (by rw [ew];decide)))⟩
   refine ⟨_,rfl,_,_,_,_,rfl,rfl,SqT.of h1,rfl,_,rfl,n,dw,W,rfl,⋯,b21.w,λH2 s2=>?_⟩
   rw [nn,ew]
   exact fin "taken" e H2 (s1.trans s2)
  ·have ew:J3 true (wp W (.inr n)) = "" := by
    unfold J3
    rw [ai ⋯,ai (by rw [isn];exact tk)]
   refine ⟨rfl,_,rfl,qku (λz=>absurd (by rw [ew]) z) (λ_=>?_)⟩
   have dg:DGet H1 dr (.str wh) (wp R (.inr wh)):=DGet.k (k:=.inr wh) b21.r
   cases er:b.rs wh with
   |none =>
    rw [b2.bp.noR er] at dg
    refine gI rfl (gX rfl rfl (SqT.of h1) rfl (gI rfl ⟨dr,gI rfl ⟨dg,_,rfl,jj (fin "road" ?_ H1 s1)⟩⟩))
    simp only [xx]
    rw [ai (by rw [nn];decide),ai tk,er]
   |some hs =>
    obtain ⟨lo,r,ev,fr⟩:=b21.bp.row er
    rw [ev] at dg
    have ll:=lo.2.1
    have l1:=lo.1
    refine gI rfl (gX rfl rfl (SqT.of h1) rfl (gI rfl ⟨dr,gI rfl ⟨dg,_,rfl,vg ?_⟩⟩))
    have e0:xx b (.place n wh t p)=xx b (.place n wh t p):=rfl
    have bad:(p<1∨40<(xg t p).2)→xx b (.place n wh t p)=(("bottom" : Str),Ans.non,b):=λz=>by
     simp only [xx]
     rw [ai (by rw [nn];decide),ai tk,er]
     dsimp only
     rw [ak z]
    refine gI rfl (xu rfl rfl (gI rfl (zp (λz=>jj (fin "bottom" (bad (.inl z)) H1 s1)) (λz=>?_))))
    have p1:1≤p:=by lia
    have sm:Sm 9000 p:=(sm65 ⋯ ⋯).mono ⋯
    refine gI rfl (gI rfl ⟨t,p,rfl,p1,sm,λp2 n2=>?_⟩)
    have s2:=Same.upd (H:=H1) (o:=.tup (ptV (xg t p))) n2
    have f2:upd H1 p2 (.tup (ptV (xg t p))) p2=some (.tup [.int (xg t p).1,.int (xg t p).2]):=qc
    generalize upd H1 p2 (.tup (ptV (xg t p)))=H2 at s2 f2
    have s12:=s1.trans s2
    have h2:=s12 _ _ h
    refine gX rfl rfl (SqT.of f2) rfl (xu rfl rfl (gI rfl (zp (λy=>fin "bottom" (bad (.inr y)) H2 s12) (λy=>?_))))
    have off:¬ vt hs t p→xx b (.place n wh t p)=(("off" : Str),Ans.non,b):=λz'=>by
     simp only [xx]
     rw [ai (by rw [nn];decide),ai tk,er]
     dsimp only
     rw [ai (λq=>q.elim (λq=>by lia) (λq=>y q)),ai z']
    refine gI rfl (xu rfl rfl (gI rfl (zp (λx=>jj (fin "off" (off λo=>by have:=o.1;lia) H2 s12)) (λx=>?_))))
    have b22:=b2.same s12
    have dg2:DGet H2 dr (.str wh) (wp R (.inr wh)):=DGet.k (k:=.inr wh) b22.r
    rw [ev] at dg2
    have lm:(hs.map V.int).length=hs.length:=aa _
    refine gI rfl (gI rfl (gI rfl (gX rfl rfl (SqT.of h2) rfl ⟨dr,gI rfl ⟨dg2,r,gI rfl ⟨.inl (SqL.of (s2 _ _ fr)),xu rfl rfl (gI rfl ?_)⟩⟩⟩)))
    rw [lm]
    refine xu rfl rfl ⟨(by walk_at "mul"),xu rfl rfl (gI rfl (zp (λu=>fin "off" (off λo=>by have:=o.2;lia) H2 s12) (λu=>?_)))⟩
    have on:vt hs t p:=⟨⋯,⋯⟩
    have e:xx b (.place n wh t p)=(("" : Str),Ans.non,b.putW n (wh,xg t p)):=by
     simp only [xx]
     rw [ai (by rw [nn];decide),ai tk,er]
     dsimp only
     rw [ai (λq=>q.elim (λq=>by lia) (λq=>y q)),ak on]
    rw [e] at k
    refine gI rfl (gI rfl ⟨t,p,rfl,p1,sm,λp3 n3=>?_⟩)
    have s3:=Same.upd (H:=H2) (o:=.tup (ptV (xg t p))) n3
    have f3:upd H2 p3 (.tup (ptV (xg t p))) p3=some (.tup [.int (xg t p).1,.int (xg t p).2]):=qc
    generalize upd H2 p3 (.tup (ptV (xg t p)))=H3 at s3 f3
    have s13:=s12.trans s3
    have h3:=s13 _ _ h
    refine ⟨p3,gI rfl ⟨SqT.of f3,rfl,_,_,rfl,_,_,rfl,rfl,?_⟩⟩
    refine gI rfl (gX rfl rfl (SqT.of h3) rfl (gI rfl (gI rfl ⟨sz3,λp4 n4=>?_⟩)))
    have s4:=Same.upd (H:=H3) (o:=.tup [.str wh,.int (xg t p).1,.int (xg t p).2]) n4
    have f4:upd H3 p4 (.tup [.str wh,.int (xg t p).1,.int (xg t p).2]) p4=some (.tup [.str wh,.int (xg t p).1,.int (xg t p).2]):=qc
    generalize upd H3 p4 (.tup [.str wh,.int (xg t p).1,.int (xg t p).2])=H4 at s4 f4
    have s14:=s13.trans s4
    have h4:=s14 _ _ h
    have b24:=b2.same s14
    refine gI rfl (gI rfl (gX rfl rfl (SqT.of h4) rfl ⟨dw,gI rfl ⟨DPut.k (k:=.inr n) b24.w ⋯,?_⟩⟩))
    exact k _ R _ ((Kb.of s14).trans (j8 (by simp))) (b24.setW (b24.bp.putW (v:=(wh,xg t p)) f4))
def J9 (b:BA)(wh:Str)(hs:List Int)(m:Nat)(l:List Str):BA:={ b with ws:=λn=>if n∈l then (match b.ws n with|none=>none|some w=>if w.1=wh then some (wh,itP hs w.2 m) else some w) else b.ws n }
theorem qk3 {a:BA}(h1:a.rs=b.rs)(h2:∀n,a.ws n=b.ws n):a=b:=by
 obtain ⟨r,w⟩:=a
 obtain ⟨r',w'⟩:=b
 have h1:r=r':=h1
 have h2:w=w':=funext h2
 rw [h1,h2]
theorem wut:J9 b wh hs m []=b:=qk3 rfl λn=>by simp [J9]
theorem xx0 {l:List Str}{pt:Int×Int}(e:b.ws s=some (wh,pt)):(J9 b wh hs m l).putW s (wh,itP hs pt m)=J9 b wh hs m (l++[s]):=qk3 rfl λn=>by
 show (if n=s then some (wh,itP hs pt m) else if n∈l then _ else b.ws n)=if n∈l++[s] then _ else b.ws n
 by_cases z:n=s
 ·rw [ak z,ak (by rw [z];simp),z,e]
  show _=if wh=wh then some (wh,itP hs pt m) else _
  rw [ak rfl]
 ·rw [ai z]
  by_cases y:n∈l
  ·rw [ak y,ak (by simp [y])]
  ·rw [ai y,ai (by simp [y,z])]
theorem wj3 {l:List Str}{v:Str×(Int×Int)}(e:b.ws s=some v)(ne:v.1≠wh):J9 b wh hs m (l++[s])=J9 b wh hs m l:=qk3 rfl λn=>by
 show (if n∈l++[s] then _ else b.ws n)=if n∈l then _ else b.ws n
 by_cases y:n∈l
 ·rw [ak y,ak (by simp [y])]
 ·rw [ai y]
  by_cases z:n=s
  ·rw [ak (by rw [z];simp),z,e]
   show (if v.1=wh then _ else some v)=some v
   rw [ai ne]
  ·rw [ai (by simp [y,z])]
theorem wyy {l:List Str}(h:∀n,(b.ws n).isSome=true→n∈l):J9 b wh hs m l=b.tog wh hs m:=qk3 rfl λn=>by
 show (if n∈l then _ else b.ws n)=match b.ws n with|none=>none|some w=>if w.1=wh then some (wh,itP hs w.2 m) else some w
 by_cases y:n∈l
 ·rw [ak y]
 ·rw [ai y]
  cases e:b.ws n with
  |none=>rfl
  |some v=>exact absurd (h n (by rw [e];rfl)) y
theorem xx5 {l:List Str}(h:s∉l):(J9 b wh hs m l).ws s=b.ws s:=ai h
def onB (b:BA)(wh:Str)(s:Str):Bool:=match b.ws s with|some w=>decide (w.1=wh)|none=>false
def EntAt (H:Hp)(ys:List V)(b:BA)(hs:List Int)(m:Nat)(cs:List Str):Prop:=ys.length=cs.length∧∀(j:Nat) n,cs[j]?=some n→∃q r,ys[j]?=some (.ref q)∧H q=some (.tup [.str n,.ref r])∧H r=some (.tup [.int (itP hs ((b.ws n).getD ("",(0,0))).2 m).1,.int (itP hs ((b.ws n).getD ("",(0,0))).2 m).2])
theorem EntAt.kb {ys:List V}{cs:List Str}(h:EntAt H ys b hs m cs){ch:List Aj}(dl:Dl H ch)(k:Kb ch H H'):EntAt H' ys b hs m cs:=⟨h.1,λj n e=>by
 obtain ⟨q,r,a1,a2,a3⟩:=h.2 j n e
 exact ⟨q,r,a1,dl.tup k a2,dl.tup k a3⟩⟩
theorem EntAt.add {ys:List V}{cs:List Str}(h:EntAt H ys b hs m cs){n:Str}{q r:Aj}(a2:H q=some (.tup [.str n,.ref r]))(a3:H r=some (.tup [.int (itP hs ((b.ws n).getD ("",(0,0))).2 m).1,.int (itP hs ((b.ws n).getD ("",(0,0))).2 m).2])):EntAt H (ys++[.ref q]) b hs m (cs++[n]):=by
 refine ⟨by rw [aP,aP,h.1];rfl,λj n' e=>?_⟩
 by_cases z:j<cs.length
 ·rw [bF z] at e
  obtain ⟨q',r',b1,b2,b3⟩:=h.2 j n' e
  exact ⟨q',r',by rw [bF (by rw [h.1];exact z)];exact b1,b2,b3⟩
 ·rw [bv ⋯] at e
  have hj:j-cs.length=0:=by
   rcases Nat.eq_zero_or_pos (j-cs.length) with y|y
   ·exact y
   ·rw [br (by show 1≤_;exact y)] at e;cases e
  rw [hj] at e
  cases e
  exact ⟨q,r,by rw [bv (by rw [h.1];lia),h.1,hj];rfl,a2,a3⟩
def isW:Dd→Prop
 |.place _ _ _ _=>True
 |.leave _=>True
 |.go _ _=>True
 |.tog _ _=>True
 |_=>False
theorem qqr:(10:Int) ^ (60:Int).toNat=FARI:=by decide +kernel
def qk5:Sp:=λvs H Q _=>∃(dr dw da:Aj) (R W:List (Key×V)) (b:BA) (d:Dd) (NM:List Str),vs=[.ref dr,.ref dw,.ref da]∧B2 H dr dw R W b∧BOk NM b∧NM.length<60∧DdAt H da d∧isW d∧qxy H dr dw b d Q
include T in
theorem wys (F:Fun K "_law_walkers_done" "_law_walkers_done" zct f fd)(zi7:Cal P w K mg base "_law_set" 3 wuq)(zhn:Cal P w K mg base "_law_gone" 3 (qyn K)) :
  FK P w K mg base 4 f fd ["_law_roads","_law_walkers","_law_deed_here"] qk5:=by
 have sc:=Wf
 refine F.okX sc (λvs H Q E h=>by obtain ⟨_,_,_,_,_,_,_,_,rfl,_⟩:=h;rfl) λ_ _ _ s H vs Q E hr h=>?_
 obtain ⟨dr,dw,da,R,W,b,d,NM,rfl,b2,bo,lN,dd,iw,k⟩:=h
 have lens:=b2.bp.lens bo
 have big:(10000:Nat)<sizeLine:=by decide
 unfold qxy at k
 have fin:∀(wd:Str),xx b d=(wd,Ans.non,b)→∀q,H q=none→Q (.ref q) (upd H q (.tup [.str wd,.non])):=λwd e q nq=>by
  rw [e] at k
  exact k q .non _ R W (Kb.of (Same.upd nq)) (b2.same (Same.upd nq)) qc rfl (λ_ z=>nomatch z)
 refine ⟨_,(qu (xh (wm zf (xq xv (pv 2) qk (λ_ _=>rfl)) qk (w6 _)) (qm (wn (zx (vd (wCA zi7 (wz (pv 0) (wz (pv 1) (wz (pv 2) qz)))) (xb jv qz))))) wt)
   (qu (xh (PW.pt (qxd (wm zf (xq xv (pv 2) qk (λ_ _=>rfl)) qk (w6 _)) (Yk (Qx (yw (vj hr) (xq xv (pv 2) qk (λ_ _=>rfl)) (pv 0)))))) (qm (wn (zx (xb x6 (xb jv qz))))) wt)
   (qu (xh (PW.pt (qxd (wm Zw (xq xv (pv 2) qk (λ_ _=>rfl)) qk (w6 _)) (Yk (Qx (yw (vj hr) (xq xv (pv 2) qk (λ_ _=>rfl)) (pv 1)))))) (qm (wn (zx (xb x6 (xb jv qz))))) wt)
   (qu (xh (wm zf (xq xv (pv 2) qk (λ_ _=>rfl)) qk (w6 _)) (qu (zy (wqv (pv 1) (xq xv (pv 2) qk (λ_ _=>rfl)) ⟨rfl,rfl,rfl,rfl⟩))
   (qm (wn (zx (xb x6 (xb jv qz)))))) wt)
   (qu (xh (PW.pt (jm (wm j3 (xq xv (pv 2) qk (λ_ _=>rfl)) qk (w6 _)) (k7 (wm y4 (xq xv (pv 2) qk (λ_ _=>rfl)) (xk qx2 qk qk) (w6 _))))) (qm (wn (zx (xb x6 (xb jv qz))))) wt)
   (qu (xh (wm zf (xq xv (pv 2) qk (λ_ _=>rfl)) qk (w6 _)) (qm (wn (zx (xb x6 (vd (wCA zhn (wz (pv 0) (wz (pv 1) (zq (xq xv (pv 2) qk (λ_ _=>rfl)) (zq (xq xv (pv 2) qk (λ_ _=>rfl)) qz))))) qz))))) wt)
   (qu (xj (i:=3) (yk qz))
   (qu (yb be rfl (ur (xz (Qz) rfl T.sorted_ bX (vd (zn (Zr rfl) rfl T.list_ aZ (wz (pv 1) qz)) qz))) (xp (i:=4)) (qm (xh (wm zf (xq xv (jf (vj hr) (pv 1) (pv 4) (λ_ _=>rfl)) qk (λ_ _=>rfl)) (xq xv (pv 2) qk (λ_ _=>rfl)) (w6 _)) (qm (zy (qvd bw bV bW yq (pv 3) (qky (zx (wz (pv 4) (vd (wCA zhn (wz (pv 0) (wz (pv 1) (wz (pv 4) (zq (xq xv (pv 2) qk (λ_ _=>rfl)) qz))))) qz))) qz)))) wt)))
   (qm (wn (zx (xb x6 (wz (pv 3) qz))))))))))))),?_⟩
 dsimp only [ug]
 cases d with
 |place n wh t p =>
  obtain ⟨q,h,hq,rest⟩:=id dd
  refine gI rfl (gX rfl rfl (SqT.of h) rfl ⟨rfl,_,rfl,xn (λ_=>?_) (λz=>absurd rfl z)⟩)
  refine ⟨_,rfl,_,rfl,_,rfl,dr,dw,da,R,W,b,n,wh,t,p,NM,rfl,b2,bo,⋯,dd,λH1 R' W' kb b21=>⟨sz2,λq' nq'=>?_⟩⟩
  have an:(xx b (.place n wh t p)).2.1=.non:=by
   simp only [xx]
   split
   ·rfl
   ·split
    ·rfl
    ·cases b.rs wh with
     |none=>rfl
     |some hs =>
      dsimp only
      split
      ·rfl
      ·split <;> rfl
  rw [an] at k
  exact k q' .non _ R' W' (kb.trans (Kb.of (Same.upd nq'))) (b21.same (Same.upd nq')) qc rfl (λ_ z=>nomatch z)
 |leave n =>
  have h:H da=some (.tup [.int 6,.str n]):=dd
  refine gI rfl (gX rfl rfl (SqT.of h) rfl ⟨rfl,_,rfl,xN ?_⟩)
  refine gI rfl (gX rfl rfl (SqT.of h) rfl ⟨rfl,_,rfl,xN (vg ?_)⟩)
  refine gI rfl (gX rfl rfl (SqT.of h) rfl ⟨rfl,_,rfl,qw9 (λ_=>?_) (λz=>absurd z ⋯)⟩)
  have dg:DGet H dw (.str n) (wp W (.inr n)):=DGet.k (k:=.inr n) b2.w
  cases ew:b.ws n with
  |none =>
   rw [b2.bp.noW ew] at dg
   refine gI rfl (gX rfl rfl (SqT.of h) rfl (gI rfl ⟨dw,gI rfl ⟨dg,_,rfl,jj ⟨sz2,λq nq=>fin "walker" ?_ q nq⟩⟩⟩))
   simp only [xx]
   rw [ew]
  |some v =>
   obtain ⟨p,e1,f1⟩:=b2.bp.wlk ew
   rw [e1] at dg
   have e:xx b (.leave n)=(("" : Str),Ans.non,b.delW n):=by
    simp only [xx]
    rw [ew]
   rw [e] at k
   refine gI rfl (gX rfl rfl (SqT.of h) rfl (gI rfl ⟨dw,gI rfl ⟨dg,_,rfl,vg ?_⟩⟩))
   refine gI rfl (gX rfl rfl (SqT.of h) rfl ⟨rfl,_,rfl,xn (λ_=>?_) (λz=>absurd rfl z)⟩)
   refine gI rfl ⟨dw,rfl,.inl ⟨_,.inl b2.w⟩,gI rfl (gX rfl rfl (SqT.of h) rfl ⟨W,.inr n,_,b2.w,rfl,e1,?_⟩)⟩
   exact ⟨sz2,λq nq=>k q .non _ R _ ((j8 (by simp)).trans (Kb.of (Same.upd nq))) ((b2.setW (b2.bp.delW n)).same (Same.upd nq)) qc rfl (λ_ z=>nomatch z)⟩
 |go n m =>
  have h:H da=some (.tup [.int 7,.str n,.int m]):=dd
  refine gI rfl (gX rfl rfl (SqT.of h) rfl ⟨rfl,_,rfl,xN ?_⟩)
  refine gI rfl (gX rfl rfl (SqT.of h) rfl ⟨rfl,_,rfl,xN (vg ?_)⟩)
  refine gI rfl (gX rfl rfl (SqT.of h) rfl ⟨rfl,_,rfl,qw9 (λ_=>?_) (λz=>absurd z ⋯)⟩)
  have dg:DGet H dw (.str n) (wp W (.inr n)):=DGet.k (k:=.inr n) b2.w
  cases ew:b.ws n with
  |none =>
   rw [b2.bp.noW ew] at dg
   refine gI rfl (gX rfl rfl (SqT.of h) rfl (gI rfl ⟨dw,gI rfl ⟨dg,_,rfl,jj ⟨sz2,λq nq=>fin "walker" ?_ q nq⟩⟩⟩))
   simp only [xx]
   rw [ew]
  |some v =>
   obtain ⟨p,e1,f1⟩:=b2.bp.wlk ew
   obtain ⟨_,_,hs,er,hp⟩:=bo.wo n v ew
   rw [e1] at dg
   have bad:¬ (0≤m∧m≤FARI)→xx b (.go n m)=(("count" : Str),Ans.non,b):=λz=>by
    simp only [xx]
    rw [ew]
    dsimp only
    rw [ai z]
   refine gI rfl (gX rfl rfl (SqT.of h) rfl (gI rfl ⟨dw,gI rfl ⟨dg,_,rfl,vg ?_⟩⟩))
   refine gI rfl (gX rfl rfl (SqT.of h) rfl ⟨rfl,_,rfl,xN ?_⟩)
   refine gI rfl (gX rfl rfl (SqT.of h) rfl (xu rfl rfl (gI rfl (zp (λz=>jj ⟨sz2,λq nq=>fin "count" (bad ⋯) q nq⟩) (λz=>?_)))))
   refine gI rfl (gX rfl rfl (SqT.of h) rfl (xu rfl rfl ⟨⟨⋯,⋯,⋯⟩,xu rfl rfl (gI rfl (zp (λy=>⟨sz2,λq nq=>fin "count" (bad (by rw [qqr] at y;lia)) q nq⟩) (λy=>?_)))⟩))
   rw [qqr] at y
   have e:xx b (.go n m)=(("" : Str),Ans.pt (itP hs v.2 m.toNat),b.putW n (v.1,itP hs v.2 m.toNat)):=by
    simp only [xx]
    rw [ew]
    dsimp only
    rw [ak ⟨⋯,⋯⟩,er]
    rfl
   rw [e] at k
   refine gI rfl (gX rfl rfl (SqT.of h) rfl ⟨rfl,_,rfl,xn (λ_=>?_) (λz=>absurd rfl z)⟩)
   refine ⟨_,rfl,_,rfl,_,rfl,_,_,_,_,rfl,rfl,SqT.of h,rfl,_,rfl,_,_,_,_,rfl,rfl,SqT.of h,rfl,dr,dw,R,W,b,n,m,v,hs,rfl,b2,⋯,ew,er,hp,⋯,λq H' W' kb b21 ek nq fq=>⟨sz2,λq' nq'=>?_⟩⟩
   have s5:=Same.upd (H:=H') (o:=.tup [.str "",.ref q]) nq'
   exact k q' (.ref q) _ R W' (kb.trans (Kb.of s5)) (b21.same s5) qc ⟨q,rfl,s5 _ _ fq,(hp.it _).g⟩ (λa z=>by cases z;exact nq)
 |tog n m =>
  have h:H da=some (.tup [.int 8,.str n,.int m]):=dd
  refine gI rfl (gX rfl rfl (SqT.of h) rfl ⟨rfl,_,rfl,xN ?_⟩)
  have dg:DGet H dr (.str n) (wp R (.inr n)):=DGet.k (k:=.inr n) b2.r
  refine gI rfl (gX rfl rfl (SqT.of h) rfl ⟨rfl,_,rfl,xn (λ_=>?_) (λz=>absurd rfl z)⟩)
  cases er:b.rs n with
  |none =>
   rw [b2.bp.noR er] at dg
   refine gI rfl (gX rfl rfl (SqT.of h) rfl (gI rfl ⟨dr,gI rfl ⟨dg,_,rfl,jj ⟨sz2,λq nq=>fin "road" ?_ q nq⟩⟩⟩))
   simp only [xx]
   rw [er]
  |some hs =>
   obtain ⟨lo,r,ev,fr⟩:=b2.bp.row er
   rw [ev] at dg
   have bad:¬ (0≤m∧m≤FARI)→xx b (.tog n m)=(("count" : Str),Ans.non,b):=λz=>by
    simp only [xx]
    rw [er]
    dsimp only
    rw [ai z]
   refine gI rfl (gX rfl rfl (SqT.of h) rfl (gI rfl ⟨dr,gI rfl ⟨dg,_,rfl,vg ?_⟩⟩))
   refine gI rfl (gX rfl rfl (SqT.of h) rfl ⟨rfl,_,rfl,qw9 (λz=>absurd rfl z) (λ_=>vg ?_)⟩)
   refine gI rfl (gX rfl rfl (SqT.of h) rfl ⟨rfl,_,rfl,xN ?_⟩)
   refine gI rfl (gX rfl rfl (SqT.of h) rfl (xu rfl rfl (gI rfl (zp (λz=>jj ⟨sz2,λq nq=>fin "count" (bad ⋯) q nq⟩) (λz=>?_)))))
   refine gI rfl (gX rfl rfl (SqT.of h) rfl (xu rfl rfl ⟨⟨⋯,⋯,⋯⟩,xu rfl rfl (gI rfl (zp (λy=>⟨sz2,λq nq=>fin "count" (bad (by rw [qqr] at y;lia)) q nq⟩) (λy=>?_)))⟩))
   rw [qqr] at y
   have e:xx b (.tog n m)=(("" : Str),Ans.lst (qyd b n hs m.toNat),b.tog n hs m.toNat):=by
    simp only [xx]
    rw [er]
    dsimp only
    rw [ak ⟨⋯,⋯⟩]
   rw [e] at k
   refine gI rfl (gX rfl rfl (SqT.of h) rfl ⟨rfl,_,rfl,xN ?_⟩)
   refine ⟨sz0,λl nl=>?_⟩
   have s1:=Same.upd (H:=H) (o:=.lst []) nl
   have f1:upd H l (.lst []) l=some (.lst []):=qc
   generalize upd H l (.lst [])=H1 at s1 f1
   obtain ⟨ek,ndk⟩:=y0 b2.bp.nW b2.bp.fW
   have inW:∀s,s∈W.map jh↔(b.ws s).isSome=true:=λs=>by
    rw [Qj b2.bp.nW b2.bp.fW s]
    cases e:b.ws s with
    |none=>rw [b2.bp.noW e];simp
    |some v=>obtain ⟨p,e1,_⟩:=b2.bp.wlk e;rw [e1];simp
   refine gI rfl ⟨dw,W,W.map jh,rfl,.inl (s1 _ _ b2.w),ek,λp1 n1=>?_⟩
   have s2:=Same.upd (H:=H1) (o:=.lst ((W.map jh).map V.str)) n1
   have f2:upd H1 p1 (.lst ((W.map jh).map V.str)) p1=some (.lst ((W.map jh).map V.str)):=qc
   generalize upd H1 p1 (.lst ((W.map jh).map V.str))=H2 at s2 f2
   refine ⟨p1,W.map jh,rfl,SqL.of f2,by rw [aa];lia,λl2 ms nl2 pm srt=>?_⟩
   have s3:=Same.upd (H:=H2) (o:=.lst (ms.map V.str)) nl2
   have f3:upd H2 l2 (.lst (ms.map V.str)) l2=some (.lst (ms.map V.str)):=qc
   generalize upd H2 l2 (.lst (ms.map V.str))=H3 at s3 f3
   have ndm:ms.Nodup:=pm.nodup_iff.mpr ndk
   have inm:∀s,s∈ms↔(b.ws s).isSome=true:=λs=>pm.mem_iff.trans (inW s)
   have s13:=(s1.trans s2).trans s3
   have fl3:=(s2.trans s3) _ _ f1
   have b23:=b2.same s13
   have nl2':l2≠l:=λz=>by rw [z,(s2 _ _ f1)] at nl2;cases nl2
   have lms:ms.length<64:=by have:=pm.length_eq;rw [aa] at this;lia
   refine ⟨l2,rfl,⟨_,SqL.of f3⟩,qvn (xs:=ms.map V.str) (λi σ Hx=>∃W' ys z,σ=[some (.ref dr),some (.ref dw),some (.ref da),some (.ref l),z]∧Kb [dr,dw,l] H3 Hx∧B2 Hx dr dw R W' (J9 b n hs m.toNat (ms.take i))∧W'.map (·.1)=W.map (·.1)∧Hx l=some (.lst ys)∧EntAt Hx ys b hs m.toNat ((ms.take i).filter (onB b n))) ⟨W,[],none,rfl,λ_ _ _ e=>e,by rw [List.take_zero,wut];exact b23,rfl,fl3,⟨rfl,λj n' e=>by rw [List.take_zero] at e;cases e⟩⟩ (λi σ Hx _ h=>?_) ?_ ?_⟩
   ·obtain ⟨W',ys,z,rfl,kb,b2x,_,fl,_⟩:=h
    refine SqL.of (kb _ _ (λq=>?_) f3)
    simp only [ae,af,aG] at q
    rcases q with q|q|q
    ·rw [q,b23.r] at f3;cases f3
    ·rw [q,b23.w] at f3;cases f3
    ·exact nl2' q
   ·rintro _ _ i x σ Hx hx ⟨W',ys,z,rfl,kb,b2x,ekx,fl,en⟩
    rw [aE] at hx
    cases em:ms[i]? with
    |none=>rw [em] at hx;cases hx
    |some s =>
     rw [em] at hx
     cases hx
     have hi:=(aN.mp em).1
     have tk:ms.take (i+1)=ms.take i++[s]:=by rw [d6,em];rfl
     have ns:s∉ms.take i:=λq=>by
      obtain ⟨j,hj,ej⟩:=bx q
      rw [bE] at hj
      rw [d3] at ej
      have ei:=(aN.mp em).2
      have:=(du (h₀:=by lia) (h₁:=hi) ndm (i:=j) (j:=i)).mp (by rw [ej,ei])
      lia
     obtain ⟨v,evs⟩:=bh.mp ((inm s).mp (aL em))
     have ews:(J9 b n hs m.toNat (ms.take i)).ws s=some v:=(xx5 ns).trans evs
     obtain ⟨p,e1,fp⟩:=b2x.bp.wlk ews
     have dgx:DGet Hx dw (.str s) (wp W' (.inr s)):=DGet.k (k:=.inr s) b2x.w
     rw [e1] at dgx
     have dl3:Dl H3 [dr,dw,l]:=.cons (.inl ⟨_,.inl b23.r⟩) (.cons (.inl ⟨_,.inl b23.w⟩) (.cons (.inr ⟨[],(λv hv=>nomatch hv),fl3⟩) .nil))
     have hx:Hx da=some (.tup [.int 8,.str n,.int m]):=dl3.tup kb (s13 _ _ h)
     have lx:l∉[dr,dw]:=λq=>by
      simp only [ae,af,aG] at q
      rcases q with q|q
      ·rw [q,b2x.r] at fl;cases fl
      ·rw [q,b2x.w] at fl;cases fl
     obtain ⟨_,_,ks,erv,hp⟩:=bo.wo s v evs
     have lW':W'.length=W.length:=by have:=bC List.length ekx;rwa [aa,aa] at this
     refine gI rfl (gI rfl ⟨dw,gI rfl ⟨dgx,gX rfl rfl (SqT.of fp) rfl (gI rfl (gX rfl rfl (SqT.of hx) rfl ⟨rfl,_,rfl,zp (λq=>?_) (λq=>?_)⟩))⟩⟩)
     ·have q:v.1=n:=by injection q
      rw [q,er] at erv
      cases erv
      have eg:((b.ws s).getD ("",(0,0))).2=v.2:=by rw [evs];rfl
      refine ⟨_,rfl,.inl ⟨rfl,_,SqL.of fl⟩,_,rfl,_,rfl,_,rfl,_,rfl,_,rfl,_,_,_,_,rfl,rfl,SqT.of hx,rfl,dr,dw,R,W',_,s,m,v,hs,rfl,b2x,⋯,ews,(by rw [q];exact er),hp,⋯,λq1 H' W'' kb' b2y eky nq1 fq1=>⟨sz2,λt nt=>?_⟩⟩
      have s4:=Same.upd (H:=H') (o:=.tup [.str s,.ref q1]) nt
      have ft:upd H' t (.tup [.str s,.ref q1]) t=some (.tup [.str s,.ref q1]):=qc
      generalize upd H' t (.tup [.str s,.ref q1])=H5 at s4 ft
      have kb5:Kb [dr,dw] Hx H5:=kb'.trans (Kb.of s4)
      have fl5:H5 l=some (.lst ys):=kb5 _ _ lx fl
      have b25:=b2y.same s4
      have ys60:ys.length≤ms.length:=by rw [en.1];have:=bG (onB b n) (ms.take i);rw [bE] at this;lia
      refine ⟨l,ys,_,rfl,rfl,fl5,⋯,W'',_,_,rfl,?_,?_,eky.trans ekx,qc,?_⟩
      ·refine (kb.trans (kb5.mono λb hb=>?_)).trans (j8 (by simp))
       simp only [ae,af,aG] at hb ⊢
       rcases hb with hb|hb
       ·exact .inl hb
       ·exact .inr (.inl hb)
      ·have en':(J9 b n hs m.toNat (ms.take i)).putW s (v.1,itP hs v.2 m.toNat)=J9 b n hs m.toNat (ms.take (i+1)):=by
        rw [tk,q]
        exact xx0 (by rw [evs,←q])
       rw [en'] at b25
       have kl:Kb [l] H5 (upd H5 l (.lst (ys++[.ref t]))):=j8 (by simp)
       have rfy:Zt ys:=λv' hv'=>by
        obtain ⟨j,hj,ej⟩:=bx hv'
        have hj2:j<((ms.take i).filter (onB b n)).length:=by rw [←en.1];exact hj
        obtain ⟨q',r',a1,_⟩:=en.2 j _ (aj hj2)
        rw [aj hj,ej] at a1
        exact ⟨q',av a1⟩
       have dll:Dl H5 [l]:=.cons (.inr ⟨_,rfy,fl5⟩) .nil
       refine ⟨?_,?_,b25.ne,b25.bp.kb dll kl⟩
       ·rw [wf (λq=>lx (by rw [←q];simp))];exact b25.r
       ·rw [wf (λq=>lx (by rw [←q];simp))];exact b25.w
      ·have ef:(ms.take (i+1)).filter (onB b n)=(ms.take i).filter (onB b n)++[s]:=by
        rw [tk,cL]
        congr 1
        have:onB b n s=true:=by unfold onB;rw [evs];exact aX q
        simp [this]
       rw [ef]
       have e5:=en.kb b2x.dl kb5
       refine ((e5.add (n:=s) ft (by rw [eg];exact s4 _ _ fq1)).kb (ch:=[l]) (.cons (.inr ⟨ys,λv' hv'=>?_,fl5⟩) .nil) (j8 (by simp)))
       obtain ⟨j,hj,ej⟩:=bx hv'
       have hj2:j<((ms.take i).filter (onB b n)).length:=by rw [←en.1];exact hj
       obtain ⟨q',r',a1,_⟩:=en.2 j _ (aj hj2)
       rw [aj hj,ej] at a1
       exact ⟨q',av a1⟩
     ·have q:v.1≠n:=λz=>q (by rw [z])
      refine ⟨W',ys,gI rfl ⟨kb,?_,ekx,fl,?_⟩⟩
      ·rw [tk,wj3 evs q]
       exact b2x
      ·have ef:(ms.take (i+1)).filter (onB b n)=(ms.take i).filter (onB b n):=by
        rw [tk,cL]
        have:onB b n s=false:=by unfold onB;rw [evs];exact bn q
        simp [this]
       rw [ef]
       exact en
   ·rintro σ Hx ⟨W',ys,z,rfl,kb,b2x,ekx,fl,en⟩
    rw [aa,cX] at b2x en
    rw [wyy λs hs=>(inm s).mpr hs] at b2x
    refine gI rfl ⟨sz2,λq nq=>?_⟩
    have s5:=Same.upd (H:=Hx) (o:=.tup [.str "",.ref l]) nq
    have eo:onL b n=ms.filter (onB b n):=wyc ⟨ndm.filter _,λs=>by
     rw [bz,inm]
     unfold onB
     constructor
     ·rintro ⟨h1,h2⟩
      obtain ⟨v,ev⟩:=bh.mp h1
      rw [ev] at h2
      have h2:v.1=n:=bT h2
      exact ⟨v.2,by rw [ev,←h2]⟩
     ·rintro ⟨pt,ev⟩
      rw [ev]
      exact ⟨rfl,aX rfl⟩,srt.filter _⟩
    have kbA:Kb [dr,dw] H Hx:=λc u nc e=>by
     refine kb _ _ (λq=>?_) (s13 _ _ e)
     simp only [ae,af,aG] at q nc
     rcases q with q|q|q
     ·exact nc (.inl q)
     ·exact nc (.inr q)
     ·rw [q,nl] at e;cases e
    refine k q (.ref l) _ R W' (kbA.trans (Kb.of s5)) (b2x.same s5) qc ⟨l,ys,rfl,s5 _ _ fl,?_,?_,λj x ex=>?_⟩ (λa z=>by cases z;exact nl)
    ·unfold qyd
     rw [eo,aa,en.1]
    ·unfold qyd
     rw [eo,aa]
     have:=bG (onB b n) ms
     lia
    ·unfold qyd at ex
     rw [eo,aE] at ex
     cases em:(ms.filter (onB b n))[j]? with
     |none=>rw [em] at ex;cases ex
     |some s =>
      rw [em] at ex
      cases ex
      obtain ⟨q1,r1,a1,a2,a3⟩:=en.2 j s em
      have hm:=bz.mp (aL em)
      obtain ⟨v,ev⟩:=bh.mp ((inm s).mp hm.1)
      have h2:=hm.2
      unfold onB at h2
      rw [ev] at h2
      have h2:v.1=n:=bT h2
      obtain ⟨nb,_,ks,erv,hp⟩:=bo.wo s v ev
      rw [h2,er] at erv
      cases erv
      have eg:((b.ws s).getD ("",(0,0))).2=v.2:=by rw [ev];rfl
      dsimp only
      rw [eg] at a3 ⊢
      exact ⟨q1,r1,a1,s5 _ _ a2,s5 _ _ a3,(hp.it _).g,nb⟩
 |_=>exact iw.elim
theorem wj5 (h:(xx b d).1 ≠ ""):xx b d=((xx b d).1,Ans.non,b):=by
 have key:∀(x:Str×Ans×BA),(x.1 = "" ∨ x.2=(Ans.non,b))→x.1 ≠ "" → x=(x.1,Ans.non,b):=λx hx hn=>by
  rcases hx with z|z
  ·exact absurd z hn
  ·obtain ⟨a,c⟩:=x
   have z:c=(Ans.non,b):=z
   rw [z]
 refine key _ ?_ h
 cases d <;> simp only [xx]
 ·split
  ·exact .inr rfl
  ·split
   ·exact .inr rfl
   ·split
    ·exact .inl rfl
    ·exact .inr rfl
 ·split
  ·exact .inr rfl
  ·split
   ·exact .inl rfl
   ·exact .inr rfl
 ·split
  ·exact .inr rfl
  ·split
   ·exact .inl rfl
   ·exact .inr rfl
 ·split
  ·exact .inr rfl
  ·split
   ·split
    ·exact .inr rfl
    ·exact .inl rfl
   ·exact .inr rfl
 ·split
  ·exact .inr rfl
  ·split
   ·exact .inr rfl
   ·exact .inl rfl
 ·split
  ·exact .inr rfl
  ·split
   ·exact .inr rfl
   ·split
    ·exact .inr rfl
    ·split
     ·exact .inr rfl
     ·split
      ·exact .inl rfl
      ·exact .inr rfl
 ·split
  ·exact .inr rfl
  ·exact .inl rfl
 ·split
  ·exact .inr rfl
  ·split
   ·exact .inl rfl
   ·exact .inr rfl
 ·split
  ·exact .inr rfl
  ·split
   ·exact .inl rfl
   ·exact .inr rfl
 ·first | exact .inl trivial | exact .inl rfl | simp
structure Pst where
 tp:Aj
 q1:Aj
 q2:Aj
 R:List (Key×V)
 W:List (Key×V)
def PstAt (H:Hp)(p:Pst)(b:BA):Prop:=H p.tp=some (.tup [.ref p.q1,.ref p.q2])∧H p.q1=some (.dK p.R)∧H p.q2=some (.dK p.W)∧BP H p.R p.W b∧p.R.length≤100∧p.W.length≤100
def PsAt (H:Hp):List Pst→List BA→Prop
 |[],[]=>True
 |p::ps,b::t=>PstAt H p b∧PsAt H ps t
 |_,_=>False
theorem PsAt.kb (dl:Dl H ch)(k:Kb ch H H'):∀ {ps:List Pst} {t:List BA},PsAt H ps t→(∀p∈ps,p.q1∉ch∧p.q2∉ch)→PsAt H' ps t
 |[],[],_,_=>trivial
 |p::ps,b::t,h,n=>by
  obtain ⟨⟨a1,a2,a3,a4,a5⟩,h2⟩:=h
  obtain ⟨n1,n2⟩:=n p (ay ..)
  exact ⟨⟨dl.tup k a1,k _ _ n1 a2,k _ _ n2 a3,a4.kb dl k,a5⟩,PsAt.kb dl k h2 λq hq=>n q (au _ hq)⟩
 |[],_::_,h,_=>h.elim
 |_::_,[],h,_=>h.elim
theorem PsAt.len:∀ {ps:List Pst} {t:List BA},PsAt H ps t→ps.length=t.length
 |[],[],_=>rfl
 |p::ps,b::t,h=>by rw [aO,aO,PsAt.len h.2]
 |[],_::_,h=>h.elim
 |_::_,[],h=>h.elim
theorem PsAt.occ:∀ {ps:List Pst} {t:List BA},PsAt H ps t→∀p∈ps,(∃kv,H p.q1=some (.dK kv))∧∃kv,H p.q2=some (.dK kv)
 |[],[],_,p,hp=>nomatch hp
 |q::ps,b::t,h,p,hp=>by
  rcases ae.mp hp with rfl|hp
  ·exact ⟨⟨_,h.1.2.1⟩,⟨_,h.1.2.2.1⟩⟩
  ·exact PsAt.occ h.2 p hp
 |[],_::_,h,_,_=>h.elim
 |_::_,[],h,_,_=>h.elim
structure Bk where
 dr:Aj
 dw:Aj
 dp:Aj
 R:List (Key×V)
 W:List (Key×V)
 ps:List Pst
def Bk.ad (k:Bk):List Aj:=k.dr::k.dw::k.dp::k.ps.flatMap λp=>[p.q1,p.q2]
def tpL (ps:List Pst):List V:=ps.reverse.map λp=>V.ref p.tp
theorem Z9 (ps:List Pst):Zt (tpL ps):=λv hv=>by
 obtain ⟨d,_,rfl⟩:=ax.mp hv
 exact ⟨_,rfl⟩
theorem qwx (p:Pst)(ps:List Pst):tpL (p::ps)=tpL ps++[.ref p.tp]:=by
 unfold tpL
 rw [List.reverse_cons,bg]
 rfl
theorem qq0 (ps:List Pst):(tpL ps).length=ps.length:=by
 unfold tpL
 rw [aa,List.length_reverse]
structure BkAt (H:Hp)(k:Bk)(b:BA)(t:List BA):Prop where
 b2:B2 H k.dr k.dw k.R k.W b
 p:H k.dp=some (.lst (tpL k.ps))
 ps:PsAt H k.ps t
 nq:∀p∈k.ps,(p.q1≠k.dr∧p.q1≠k.dw)∧p.q2≠k.dr∧p.q2≠k.dw
theorem BkAt.dl {k:Bk}{t:List BA}(h:BkAt H k b t):Dl H [k.dr,k.dw,k.dp]:=.cons (.inl ⟨_,.inl h.b2.r⟩) (.cons (.inl ⟨_,.inl h.b2.w⟩) (.cons (.inr ⟨_,Z9 _,h.p⟩) .nil))
theorem wyq {k:Bk}{p:Pst}(h:p∈k.ps):p.q1∈k.ad∧p.q2∈k.ad:=⟨au _ (au _ (au _ (ca.mpr ⟨p,h,by simp⟩))),au _ (au _ (au _ (ca.mpr ⟨p,h,by simp⟩)))⟩
theorem BkAt.kb {k:Bk}{t:List BA}(h:BkAt H k b t){ch:List Aj}(dl:Dl H ch)(kb:Kb ch H H')(n:∀x∈k.ad,x∉ch):BkAt H' k b t:=by
 refine ⟨⟨kb _ _ (n _ (by unfold Bk.ad;simp)) h.b2.r,kb _ _ (n _ (by unfold Bk.ad;simp)) h.b2.w,h.b2.ne,h.b2.bp.kb dl kb⟩,kb _ _ (n _ (by unfold Bk.ad;simp)) h.p,h.ps.kb dl kb λp hp=>⟨n _ (wyq hp).1,n _ (wyq hp).2⟩,h.nq⟩
theorem BkAt.same {k:Bk}{t:List BA}(h:BkAt H k b t)(s:Same H H'):BkAt H' k b t:=h.kb (ch:=[]) Dl.nil (Kb.of s) λ_ _=>af
theorem BkAt.occ {k:Bk}{t:List BA}(h:BkAt H k b t):∀x∈k.ad,∃o,H x=some o:=λx hx=>by
 unfold Bk.ad at hx
 rcases ae.mp hx with rfl|hx
 ·exact ⟨_,h.b2.r⟩
 rcases ae.mp hx with rfl|hx
 ·exact ⟨_,h.b2.w⟩
 rcases ae.mp hx with rfl|hx
 ·exact ⟨_,h.p⟩
 obtain ⟨p,hp,hx⟩:=ca.mp hx
 obtain ⟨⟨_,e1⟩,⟨_,e2⟩⟩:=h.ps.occ p hp
 simp only [ae,af,aG] at hx
 rcases hx with rfl|rfl
 ·exact ⟨_,e1⟩
 ·exact ⟨_,e2⟩
theorem qvt:∀(more kvs:List (Key×V)),((kvs++more).map (·.1)).Nodup→yc kvs more=kvs++more
 |[],kvs,_=>by rw [cP];rfl
 |c::more,kvs,nd=>by
  have e:kvs++c::more=(kvs++[c])++more:=by simp
  show yc (km kvs c.1 c.2) more=_
  have nv:wp kvs c.1=none:=Z0 λz=>by
   rw [bg,aC] at nd
   exact (fo.mp nd).2.2 _ z _ (ay ..) rfl
  rw [Qf _ nv,e]
  exact qvt more (kvs++[c]) (by rw [←e];exact nd)
theorem qv7 {more:List (Key×V)}(nd:(more.map (·.1)).Nodup):yc [] more=more:=qvt more [] nd
def xqu (b:BA)(t:List BA)(d:Dd)(wd:Str)(ans:Ans)(b':BA)(t':List BA):Prop :=
 ((∀n,d≠.back n)∧((wd = "" ∧ xx b d=(("" : Str),ans,b')∧t'=b::t)∨(wd ≠ "" ∧ xx b d=(wd,ans,b)∧b'=b∧t'=t))) ∨
 ((∃n,d=.back n)∧ans=.non∧((t=[]∧wd = "nothing" ∧ b'=b∧t'=[])∨(wd = "" ∧ t=b'::t')))
def www:Sp:=λvs H Q _=>∃(k:Bk) (da:Aj) (b:BA) (t:List BA) (d:Dd) (NM:List Str),vs=[.ref k.dp,.ref k.dr,.ref k.dw,.ref da]∧BkAt H k b t∧BOk NM b∧NM.length<60∧t.length≤1000∧DdAt H da d ∧
 ∀(q:Aj) (v:V) (H':Hp) (k':Bk) (b':BA) (t':List BA) (wd:Str) (ans:Ans),xqu b t d wd ans b' t'→BkAt H' k' b' t'→Kb [k.dr,k.dw,k.dp] H H'→k'.dr=k.dr→k'.dw=k.dw→k'.dp=k.dp→(∀x∈k'.ad,x∈k.ad∨H x=none)→H' q=some (.tup [.str wd,v])→AnsAt H' v ans→(∀a,v=.ref a→H a=none)→Q (.ref q) H'
theorem AnsAt.same {ans:Ans}(h:AnsAt H v ans)(s:Same H H'):AnsAt H' v ans:=by
 cases ans with
 |non=>exact h
 |pt p=>obtain ⟨a,e,f,g⟩:=h;exact ⟨a,e,s _ _ f,g⟩
 |lst l =>
  obtain ⟨a,ys,e,f,l1,l2,g⟩:=h
  refine ⟨a,ys,e,s _ _ f,l1,l2,λj x ex=>?_⟩
  obtain ⟨q,r,a1,a2,a3,a4⟩:=g j x ex
  exact ⟨q,r,a1,s _ _ a2,s _ _ a3,a4⟩
theorem AnsAt.kbd {ans:Ans}(h:AnsAt H v ans){c:Aj}{D:List V}(fc:H c=some (.lst D))(rf:Zt D)(k:Kb [c] H H')(nc:v≠.ref c):AnsAt H' v ans:=by
 have dl:Dl H [c]:=.cons (.inr ⟨D,rf,fc⟩) .nil
 cases ans with
 |non=>exact h
 |pt p=>obtain ⟨a,e,f,g⟩:=h;exact ⟨a,e,dl.tup k f,g⟩
 |lst l =>
  obtain ⟨a,ys,e,f,l1,l2,g⟩:=h
  refine ⟨a,ys,e,k _ _ (λz=>nc (by rw [e,aq.mp z])) f,l1,l2,λj x ex=>?_⟩
  obtain ⟨q,r,a1,a2,a3,a4⟩:=g j x ex
  exact ⟨q,r,a1,dl.tup k a2,dl.tup k a3,a4⟩
theorem kb3 {a b c:Aj}(k:Kb [a,b] H H'):Kb [a,b,c] H H':=k.mono λx hx=>by
 simp only [ae,af,aG] at hx ⊢
 rcases hx with hx|hx
 ·exact .inl hx
 ·exact .inr (.inl hx)
include T in
theorem xwu (F:Fun K "_law_done" "_law_done" zcu f fd)(zi8:Cal P w K mg base "_law_roads_done" 3 qjx)(zi9:Cal P w K mg base "_law_walkers_done" 4 qk5) :
  FK P w K mg base 5 f fd ["_law_past","_law_roads","_law_walkers","_law_deed_here"] www:=by
 have sc:=qyv
 refine F.okX sc (λvs H Q E h=>by obtain ⟨_,_,_,_,_,_,rfl,_⟩:=h;rfl) λ_ _ _ _ H vs Q E hr h=>?_
 obtain ⟨⟨dr,dw,dp,R,W,ps⟩,da,b,t,d,NM,rfl,bk,bo,lN,lt,dd,k⟩:=h
 have lps:ps.length=t.length:=bk.ps.len
 have b2:B2 H dr dw R W b:=bk.b2
 have fp:H dp=some (.lst (tpL ps)):=bk.p
 have lens:=b2.bp.lens bo
 have big:(10000:Nat)<sizeLine:=by decide
 have pr:dp≠dr:=λz=>by rw [z,b2.r] at fp;cases fp
 have pw:dp≠dw:=λz=>by rw [z,b2.w] at fp;cases fp
 refine ⟨_,(qu (xj (i:=4) (zx (vd (zn yf rfl T.dict_ bR (wz (pv 1) qz)) (vd (zn yf rfl T.dict_ bR (wz (pv 2) qz)) qz))))
   (qu (xh (wm zf (xq xv (pv 3) qk (λ_ _=>rfl)) qk (w6 _)) (qu (xh (wm zf (xz xf rfl T.len_ aB (wz (pv 0) qz)) qk (w6 _)) (qm (wn (zx (xb x6 (xb jv qz))))) wt)
   (qu (jn (ww2 bw ee eh wwm (pv 0)) (jy rfl (x4 (xp (i:=5)) (x4 (xp (i:=6)) vc))))
   (qu (yb be rfl (ur (yk (qky (zx (wz (pv 1) (wz (pv 5) qz))) (qky (zx (wz (pv 2) (wz (pv 6) qz))) qz)))) (jy rfl (x4 (xp (i:=7)) (x4 (xp (i:=8)) vc))) (qu (zy (wvh (pv 7)))
   (qm (zy (xw9 (pv 7) (pv 8) ⟨rfl,rfl,rfl,rfl⟩)))))
   (qm (wn (zx (xb x6 (xb jv qz)))))))) wt)
   (jb (xh (wm j3 (xq xv (pv 3) qk (λ_ _=>rfl)) qk (w6 _)) (qm (jn (wCA zi8 (wz (pv 1) (wz (pv 2) (wz (pv 3) qz)))) (jy rfl (x4 (xp (i:=9)) (x4 (xp (i:=10)) vc))))) (qm (jn (wCA zi9 (wz (pv 1) (wz (pv 2) (wz (pv 3) qz)))) (jy rfl (x4 (xp (i:=9)) (x4 (xp (i:=10)) vc))))))
   (jb (xh (wm zf (pv 9) x6 (w6 _)) (qm (zy (qvd bw bV bW yq (pv 0) (wz (pv 4) qz)))) wt)
   (qm (wn (zx (wz (pv 9) (wz (pv 10) qz))))))))),?_⟩
 dsimp only [ug]
 refine gI rfl ⟨dr,R,rfl,.inl b2.r,λq1 n1=>?_⟩
 have s1:=Same.upd (H:=H) (o:=.dK R) n1
 have f1:upd H q1 (.dK R) q1=some (.dK R):=qc
 generalize upd H q1 (.dK R)=H1 at s1 f1
 refine gI rfl ⟨dw,W,rfl,.inl (s1 _ _ b2.w),λq2 n2=>?_⟩
 have s2:=Same.upd (H:=H1) (o:=.dK W) n2
 have f2:upd H1 q2 (.dK W) q2=some (.dK W):=qc
 have f1':=s2 _ _ f1
 have n2':H q2=none:=xy s1 n2
 have q12:q1≠q2:=λz=>by rw [←z,f1] at n2;cases n2
 generalize upd H1 q2 (.dK W)=H2 at s2 f2 f1'
 refine ⟨sz2,λtp ntp=>?_⟩
 have s3:=Same.upd (H:=H2) (o:=.tup [.ref q1,.ref q2]) ntp
 have f3:upd H2 tp (.tup [.ref q1,.ref q2]) tp=some (.tup [.ref q1,.ref q2]):=qc
 have g1:=s3 _ _ f1'
 have g2:=s3 _ _ f2
 generalize upd H2 tp (.tup [.ref q1,.ref q2])=H3 at s3 f3 g1 g2
 have s13:=(s1.trans s2).trans s3
 have bk3:=bk.same s13
 have b23:B2 H3 dr dw R W b:=bk3.b2
 have fp3:H3 dp=some (.lst (tpL ps)):=bk3.p
 by_cases zb:∃n,d=.back n
 ·obtain ⟨n,rfl⟩:=zb
  have h:H3 da=some (.tup [.int 9,.str n]):=s13 _ _ dd
  refine gI rfl (gX rfl rfl (SqT.of h) rfl ⟨rfl,_,rfl,xn (λ_=>?_) (λz=>absurd rfl z)⟩)
  refine gI rfl ⟨dp,gI rfl ⟨.inl (SqL.of fp3),rfl,_,rfl,xn (λz=>?_) (λz=>?_)⟩⟩
  ·rw [qq0] at z
   refine ⟨sz2,λq nq=>?_⟩
   have s4:=Same.upd (H:=H3) (o:=.tup [.str "nothing",.non]) nq
   have t0:t=[]:=cC.mp ⋯
   subst t0
   exact k q .non _ ⟨dr,dw,dp,R,W,ps⟩ b [] "nothing" .non (.inr ⟨⟨n,rfl⟩,rfl,.inl ⟨rfl,rfl,rfl,rfl⟩⟩) (bk3.same s4) (Kb.of (s13.trans s4)) rfl rfl rfl (λx hx=>.inl hx) qc rfl (λ_ z=>nomatch z)
  ·rw [qq0] at z
   obtain ⟨p0,ps,rfl⟩:∃p0 ps',ps=p0::ps':=by
    cases ps with
    |nil=>exact absurd rfl z
    |cons p0 ps'=>exact ⟨p0,ps',rfl⟩
   obtain ⟨c,t,rfl⟩:∃c t',t=c::t':=by
    cases t with
    |nil=>exact absurd lps (by simp)
    |cons c t'=>exact ⟨c,t',rfl⟩
   obtain ⟨⟨a1,a2,a3,a4,a5,a6⟩,hps⟩:=bk3.ps
   obtain ⟨⟨u1,u2⟩,u3,u4⟩:=bk.nq p0 (ay ..)
   have u1:p0.q1≠dr:=u1
   have u2:p0.q1≠dw:=u2
   have u3:p0.q2≠dr:=u3
   have u4:p0.q2≠dw:=u4
   refine ⟨_,rfl,.inl ⟨rfl,_,SqL.of fp3⟩,dp,_,.ref p0.tp,rfl,rfl,fp3,by rw [qwx,aP];simp,?_⟩
   have ed:(tpL (p0::ps)).dropLast=tpL ps:=by rw [qwx,List.dropLast_concat]
   rw [ed]
   have k4:Kb [dp] H3 (upd H3 dp (.lst (tpL ps))):=j8 (by simp)
   have f4:upd H3 dp (.lst (tpL ps)) dp=some (.lst (tpL ps)):=qc
   have dl3:Dl H3 [dp]:=.cons (.inr ⟨_,Z9 _,fp3⟩) .nil
   have q1p:p0.q1≠dp:=λz=>by rw [z,fp3] at a2;cases a2
   have q2p:p0.q2≠dp:=λz=>by rw [z,fp3] at a3;cases a3
   generalize upd H3 dp (.lst (tpL ps))=H4 at k4 f4
   have r4:=k4 _ _ (by simpa using aV pr) b23.r
   have w4:=k4 _ _ (by simpa using aV pw) b23.w
   have a14:=dl3.tup k4 a1
   have a24:=k4 _ _ (by simpa using q1p) a2
   have a34:=k4 _ _ (by simpa using q2p) a3
   have a44:=a4.kb dl3 k4
   have ps4:=hps.kb dl3 k4 λp hp=>by
    obtain ⟨⟨_,o1⟩,⟨_,o2⟩⟩:=hps.occ p hp
    exact ⟨(λz=>by rw [aq.mp z,fp3] at o1;cases o1),(λz=>by rw [aq.mp z,fp3] at o2;cases o2)⟩
   refine ⟨p0.tp,gI rfl ⟨SqT.of a14,rfl,_,_,rfl,_,_,rfl,rfl,?_⟩⟩
   refine gI rfl (gI rfl ⟨sz2,λt1 nt1=>?_⟩)
   have s5:=Same.upd (H:=H4) (o:=.tup [.ref dr,.ref p0.q1]) nt1
   have ft1:upd H4 t1 (.tup [.ref dr,.ref p0.q1]) t1=some (.tup [.ref dr,.ref p0.q1]):=qc
   generalize upd H4 t1 (.tup [.ref dr,.ref p0.q1])=H5 at s5 ft1
   refine gI rfl (gI rfl ⟨sz2,λt2 nt2=>?_⟩)
   have s6:=Same.upd (H:=H5) (o:=.tup [.ref dw,.ref p0.q2]) nt2
   have ft2:upd H5 t2 (.tup [.ref dw,.ref p0.q2]) t2=some (.tup [.ref dw,.ref p0.q2]):=qc
   generalize upd H5 t2 (.tup [.ref dw,.ref p0.q2])=H6 at s6 ft2
   refine ⟨sz2,λl nl=>?_⟩
   have s7:=Same.upd (H:=H6) (o:=.lst [.ref t1,.ref t2]) nl
   have fl:upd H6 l (.lst [.ref t1,.ref t2]) l=some (.lst [.ref t1,.ref t2]):=qc
   generalize upd H6 l (.lst [.ref t1,.ref t2])=H7 at s7 fl
   have s47:=(s5.trans s6).trans s7
   have r7:=s47 _ _ r4
   have w7:=s47 _ _ w4
   have ft17:=(s6.trans s7) _ _ ft1
   have ft27:=s7 _ _ ft2
   have x7:=s47 _ _ a24
   have y7:=s47 _ _ a34
   have dl7:Dl H7 [dr,dw]:=.cons (.inl ⟨_,.inl r7⟩) (.cons (.inl ⟨_,.inl w7⟩) .nil)
   have lne:l∉[dr,dw]:=λz=>by
    simp only [ae,af,aG] at z
    rcases z with z|z
    ·rw [z,r7] at fl;cases fl
    ·rw [z,w7] at fl;cases fl
   have x7n:p0.q1∉[dr,dw]:=by simpa using ⟨u1,u2⟩
   have y7n:p0.q2∉[dr,dw]:=by simpa using ⟨u3,u4⟩
   refine ⟨l,rfl,⟨_,SqL.of fl⟩,qvn (xs:=[.ref t1,.ref t2]) (λi σ Hx=>Kb [dr,dw] H7 Hx∧Hx dr=some (.dK (if i=0 then R else p0.R))∧Hx dw=some (.dK (if i≤1 then W else p0.W))∧∃z1 z2,σ=[some (.ref dp),some (.ref dr),some (.ref dw),some (.ref da),some (.ref tp),some (.ref p0.q1),some (.ref p0.q2),z1,z2,none,none]) ⟨λ_ _ _ e=>e,r7,w7,_,_,rfl⟩ (λi σ Hx _ h=>SqL.of (h.1 _ _ lne fl)) ?_ ?_⟩
   ·rintro _ _ i x σ Hx hx ⟨kx,rx,wx,z1,z2,rfl⟩
    match i,hx with
    |0,hx =>
     cases hx
     have rx:Hx dr=some (.dK R):=rx
     have wx:Hx dw=some (.dK W):=wx
     refine ⟨t1,gI rfl ⟨SqT.of (dl7.tup kx ft17),rfl,_,_,rfl,_,_,rfl,rfl,?_⟩⟩
     refine gI rfl ⟨dr,R,rfl,rx,?_⟩
     refine ⟨_,rfl,dr,rfl,.inl ⟨_,.inl qc⟩,_,rfl,p0.q1,[],p0.R,rfl,aV u1,qc,.inl (by rw [wf u1];exact kx _ _ x7n x7),by show 0+p0.R.length≤sizeLine;lia,?_⟩
     rw [qv7 a4.nR,yz]
     exact ⟨kx.trans (j8 (by simp)),qc,by rw [wf (aV b23.ne)];exact wx,_,_,rfl⟩
    |1,hx =>
     cases hx
     have rx:Hx dr=some (.dK p0.R):=rx
     have wx:Hx dw=some (.dK W):=wx
     refine ⟨t2,gI rfl ⟨SqT.of (dl7.tup kx ft27),rfl,_,_,rfl,_,_,rfl,rfl,?_⟩⟩
     refine gI rfl ⟨dw,W,rfl,wx,?_⟩
     refine ⟨_,rfl,dw,rfl,.inl ⟨_,.inl qc⟩,_,rfl,p0.q2,[],p0.W,rfl,aV u4,qc,.inl (by rw [wf u4];exact kx _ _ y7n y7),by show 0+p0.W.length≤sizeLine;lia,?_⟩
     rw [qv7 a4.nW,yz]
     exact ⟨kx.trans (j8 (by simp)),by rw [wf b23.ne];exact rx,qc,_,_,rfl⟩
    |i+2,hx=>cases hx
   ·rintro σ Hx ⟨kx,rx,wx,z1,z2,rfl⟩
    have rx:Hx dr=some (.dK p0.R):=rx
    have wx:Hx dw=some (.dK p0.W):=wx
    refine ⟨sz2,λq nq=>?_⟩
    have s9:=Same.upd (H:=Hx) (o:=.tup [.str "",.non]) nq
    have bp9:BP Hx p0.R p0.W c:=(a44.same s47).kb dl7 kx
    have fp9:Hx dp=some (.lst (tpL ps)):=kx _ _ (by simpa using ⟨pr,pw⟩) (s47 _ _ f4)
    have nq':∀p∈ps,(p.q1≠dr∧p.q1≠dw)∧p.q2≠dr∧p.q2≠dw:=λp hp=>bk.nq p (au _ hp)
    have ps9:=(ps4.kb (ch:=[]) Dl.nil (Kb.of s47) λp hp=>⟨af,af⟩).kb dl7 kx λp hp=>⟨by simpa using (nq' p hp).1,by simpa using (nq' p hp).2⟩
    have bk9:BkAt Hx ⟨dr,dw,dp,p0.R,p0.W,ps⟩ c t:=⟨⟨rx,wx,b23.ne,bp9⟩,fp9,ps9,nq'⟩
    have kA:Kb [dr,dw,dp] H Hx:=λx o nx e=>kx _ _ (λz=>nx (by simp only [ae,af,aG] at z ⊢;rcases z with z|z;exact .inl z;exact .inr (.inl z))) (s47 _ _ (k4 _ _ (λz=>nx (by rw [aq.mp z];simp)) (s13 _ _ e)))
    refine k q .non _ ⟨dr,dw,dp,p0.R,p0.W,ps⟩ c t "" .non (.inr ⟨⟨n,rfl⟩,rfl,.inr ⟨rfl,rfl⟩⟩) (bk9.same s9) (kA.trans (Kb.of s9)) rfl rfl rfl (λx hx=>.inl ?_) qc rfl (λ_ z=>nomatch z)
    unfold Bk.ad at hx ⊢
    simp only [ae,List.flatMap_cons,bi] at hx ⊢
    rcases hx with hx|hx|hx|hx
    ·exact .inl hx
    ·exact .inr (.inl hx)
    ·exact .inr (.inr (.inl hx))
    ·exact .inr (.inr (.inr (.inr hx)))
 ·have nb:∀n,d≠.back n:=λn e=>zb ⟨n,e⟩
  have dd3:=dd.same s13
  obtain ⟨kd,xs,h,hk,hc⟩:∃kd xs,H3 da=some (.tup (.int kd::xs))∧kd≠9∧((kd<5∧isR d)∨(¬ kd<5∧isW d)):=by
   cases d with
   |lay n hs=>obtain ⟨p,h,_⟩:=dd3;exact ⟨_,_,h,⋯,.inl ⟨⋯,trivial⟩⟩
   |place n wh t p=>obtain ⟨q,h,_⟩:=dd3;exact ⟨_,_,h,⋯,.inr ⟨⋯,trivial⟩⟩
   |back n=>exact absurd rfl (nb n)
   |bend n c x=>exact ⟨_,_,dd3,⋯,.inl ⟨⋯,trivial⟩⟩
   |widen n x=>exact ⟨_,_,dd3,⋯,.inl ⟨⋯,trivial⟩⟩
   |narrow n=>exact ⟨_,_,dd3,⋯,.inl ⟨⋯,trivial⟩⟩
   |clear n=>exact ⟨_,_,dd3,⋯,.inl ⟨⋯,trivial⟩⟩
   |leave n=>exact ⟨_,_,dd3,⋯,.inr ⟨⋯,trivial⟩⟩
   |go n m=>exact ⟨_,_,dd3,⋯,.inr ⟨⋯,trivial⟩⟩
   |tog n m=>exact ⟨_,_,dd3,⋯,.inr ⟨⋯,trivial⟩⟩
  refine gI rfl (gX rfl rfl (SqT.of h) qq5 ⟨rfl,_,rfl,xn (λz=>absurd z hk) (λ_=>?_)⟩)
  refine ⟨λσ Hx=>∃v R' W',σ=[some (.ref dp),some (.ref dr),some (.ref dw),some (.ref da),some (.ref tp),none,none,none,none,some (.str (xx b d).1),some v]∧Kb [dr,dw] H3 Hx∧B2 Hx dr dw R' W' (xx b d).2.2∧AnsAt Hx v (xx b d).2.1∧(∀a,v=.ref a→H3 a=none),?_,?_⟩
  ·rcases hc with ⟨h5,ir⟩|⟨h5,iw⟩
   ·refine gI rfl (gX rfl rfl (SqT.of h) qq5 (xu rfl rfl (gI rfl (zp (λ_=>?_) (λz=>absurd h5 z)))))
    refine ⟨_,rfl,_,rfl,_,rfl,dr,dw,da,R,W,b,d,NM,rfl,b23,bo,⋯,dd3,ir,λq v H' R' W' kb b2' fq an fr=>?_⟩
    exact ⟨q,gI rfl ⟨SqT.of fq,rfl,_,_,rfl,_,_,rfl,rfl,v,R',W',rfl,kb,b2',an,fr⟩⟩
   ·refine gI rfl (gX rfl rfl (SqT.of h) qq5 (xu rfl rfl (gI rfl (zp (λz=>absurd z h5) (λ_=>?_)))))
    refine gI rfl (gI rfl (gI rfl ⟨dr,dw,da,R,W,b,d,NM,rfl,b23,bo,lN,dd3,iw,λq v H' R' W' kb b2' fq an fr=>?_⟩))
    exact ⟨q,gI rfl ⟨SqT.of fq,rfl,_,_,rfl,_,_,rfl,rfl,v,R',W',rfl,kb,b2',an,fr⟩⟩
  ·rintro σ H4 ⟨v,R',W',rfl,kb,b24,an,fr⟩
   have dl3:=b23.dl
   have pn:dp∉[dr,dw]:=by simpa using ⟨pr,pw⟩
   have fp4:=kb _ _ pn fp3
   have t4:=dl3.tup kb f3
   have q1n:q1∉[dr,dw]:=λz=>by
    simp only [ae,af,aG] at z
    rcases z with z|z
    ·rw [z,b2.r] at n1;cases n1
    ·rw [z,b2.w] at n1;cases n1
   have q2n:q2∉[dr,dw]:=λz=>by
    simp only [ae,af,aG] at z
    rcases z with z|z
    ·rw [z,b2.r] at n2';cases n2'
    ·rw [z,b2.w] at n2';cases n2'
   have g14:=kb _ _ q1n g1
   have g24:=kb _ _ q2n g2
   have ps4:=bk3.ps.kb dl3 kb λp hp=>⟨by simpa using (bk.nq p hp).1,by simpa using (bk.nq p hp).2⟩
   have kA:Kb [dr,dw,dp] H H4:=(Kb.of s13).trans (kb3 kb)
   by_cases zw:(xx b d).1 = ""
   ·refine ⟨λσ Hx=>σ=[some (.ref dp),some (.ref dr),some (.ref dw),some (.ref da),some (.ref tp),none,none,none,none,some (.str (xx b d).1),some v]∧Hx=upd H4 dp (.lst (tpL ps++[.ref tp])),?_,?_⟩
    ·refine gI rfl ⟨rfl,_,rfl,zp (λ_=>?_) (λz=>absurd (by rw [zw]) z)⟩
     refine ⟨_,rfl,.inl ⟨rfl,_,SqL.of fp4⟩,_,rfl,dp,_,_,rfl,rfl,fp4,by rw [qq0];lia,rfl,rfl⟩
    ·rintro σ Hx ⟨rfl,rfl⟩
     have k5:Kb [dp] H4 (upd H4 dp (.lst (tpL ps++[.ref tp]))):=j8 (by simp)
     have f5:upd H4 dp (.lst (tpL ps++[.ref tp])) dp=some (.lst (tpL (⟨tp,q1,q2,R,W⟩::ps))):=by rw [qc,qwx]
     have dl4:Dl H4 [dp]:=.cons (.inr ⟨_,Z9 _,fp4⟩) .nil
     have an5:=an.kbd fp4 (Z9 _) k5 (λz=>by have:=fr _ z;rw [fp3] at this;cases this)
     generalize upd H4 dp (.lst (tpL ps++[.ref tp]))=H5 at k5 f5 an5
     refine gI rfl (gI rfl ⟨sz2,λq nq=>?_⟩)
     have s6:=Same.upd (H:=H5) (o:=.tup [.str (xx b d).1,v]) nq
     have q1p:q1≠dp:=λz=>by rw [z,fp] at n1;cases n1
     have q2p:q2≠dp:=λz=>by rw [z,fp] at n2';cases n2'
     have bk5:BkAt H5 ⟨dr,dw,dp,R',W',⟨tp,q1,q2,R,W⟩::ps⟩ (xx b d).2.2 (b::t):=by
      refine ⟨⟨k5 _ _ (by simpa using aV pr) b24.r,k5 _ _ (by simpa using aV pw) b24.w,b24.ne,b24.bp.kb dl4 k5⟩,f5,⟨⟨dl4.tup k5 t4,k5 _ _ (by simpa using q1p) g14,k5 _ _ (by simpa using q2p) g24,((b2.bp.same s13).kb dl3 kb).kb dl4 k5,by show R.length≤100;lia,by show W.length≤100;lia⟩,ps4.kb dl4 k5 λp hp=>?_⟩,λp hp=>?_⟩
      ·obtain ⟨⟨_,o1⟩,⟨_,o2⟩⟩:=ps4.occ p hp
       exact ⟨(λz=>by rw [aq.mp z,fp4] at o1;cases o1),(λz=>by rw [aq.mp z,fp4] at o2;cases o2)⟩
      ·rcases ae.mp hp with rfl|hp
       ·exact ⟨by simpa using q1n,by simpa using q2n⟩
       ·exact bk.nq p hp
     refine k q v _ _ _ _ (xx b d).1 (xx b d).2.1 (.inl ⟨nb,.inl ⟨zw,?_,rfl⟩⟩) (bk5.same s6) ((kA.trans (k5.mono λx hx=>by rw [aq.mp hx];simp)).trans (Kb.of s6)) rfl rfl rfl (λx hx=>?_) qc (an5.same s6) (λa z=>xy s13 (fr a z))
     ·show xx b d=_
      rw [←zw]
     ·unfold Bk.ad at hx ⊢
      simp only [ae,List.flatMap_cons,bi,af,aG] at hx ⊢
      rcases hx with hx|hx|hx|(hx|hx)|hx
      ·exact .inl (.inl hx)
      ·exact .inl (.inr (.inl hx))
      ·exact .inl (.inr (.inr (.inl hx)))
      ·exact .inr (by rw [hx];exact n1)
      ·exact .inr (by rw [hx];exact n2')
      ·exact .inl (.inr (.inr (.inr hx)))
   ·have e:=wj5 zw
    have eb:(xx b d).2.2=b:=by rw [e]
    refine ⟨λσ Hx=>σ=[some (.ref dp),some (.ref dr),some (.ref dw),some (.ref da),some (.ref tp),none,none,none,none,some (.str (xx b d).1),some v]∧Hx=H4,((gI rfl ⟨rfl,_,rfl,zp (λz=>absurd (by injection z) zw) (λ_=>⟨rfl,rfl⟩)⟩)),?_⟩
    rintro σ Hx ⟨rfl,rfl⟩
    rw [eb] at b24
    refine gI rfl (gI rfl ⟨sz2,λq nq=>?_⟩)
    have s6:=Same.upd (H:=Hx) (o:=.tup [.str (xx b d).1,v]) nq
    have bk5:BkAt Hx ⟨dr,dw,dp,R',W',ps⟩ b t:=⟨b24,fp4,ps4,bk.nq⟩
    refine k q v _ _ b t (xx b d).1 (xx b d).2.1 (.inl ⟨nb,.inr ⟨zw,?_,rfl,rfl⟩⟩) (bk5.same s6) (kA.trans (Kb.of s6)) rfl rfl rfl (λx hx=>.inl hx) qc (an.same s6) (λa z=>xy s13 (fr a z))
    exact bC (λz=>((xx b d).1,(xx b d).2.1,z)) eb
theorem wkh (ns:List Int):PyData.eqv (.list (ns.map .int)) (.list (ns.map .int))=true:=by
 rw [PyData.eqv,qzw,aX rfl]
theorem wvz (h:SqL K H p (ns.map V.int)):RD K H (.list (ns.map .int)) (.ref p):=by
 rw [RD]
 exact ⟨p,gI rfl ⟨h,wzj ns⟩⟩
theorem qy1 (ns:List Int):(PyData.list (ns.map .int)).canLay0=true:=by
 rw [PyData.canLay0]
 exact qut ns
theorem wyj (ns ms:List Int):min (PyData.list (ns.map .int)).depth (PyData.list (ms.map .int)).depth≤60:=by
 have h1:=wqn ns
 simp only [PyData.depth]
 lia
def whN (n:Str)(pt:Int×Int):PyData:=.tuple [.str n,ptD pt]
theorem wxf {pt:Int×Int}(h:H q=some (.tup [.str n,.ref p]))(h2:H p=some (.tup [.int pt.1,.int pt.2])):RD K H (whN n pt) (.ref q):=by
 unfold whN
 rw [RD]
 refine ⟨q,gI rfl ⟨SqT.of h,?_⟩⟩
 rw [RDs]
 refine ⟨_,_,rfl,?_,?_⟩
 ·rw [RD]
 ·rw [RDs]
  exact ⟨_,_,rfl,wjp (SqT.of h2),by rw [RDs]⟩
theorem wzc (n:Str)(pt:Int×Int):PyData.eqv (whN n pt) (whN n pt)=true:=by
 unfold whN
 rw [PyData.eqv,PyData.eqvAll,PyData.eqvAll,PyData.eqvAll,xqm,aX rfl,PyData.eqv]
 simp
theorem qjh (h:PyData.strOk n=true)(pt:Int×Int):(whN n pt).canLay0=true:=by
 simp [whN,ptD,PyData.canLay0,PyData.canLayAll0,h]
theorem xwq (n:Str)(pt:Int×Int):min (whN n pt).depth (whN n pt).depth≤60:=by
 simp [whN,ptD,PyData.depth,PyData.depthAll]
theorem wzk {A B:Prop}{d e:PyData}(h:PyData.eqv d e=true)(k:B):if (if true=true then !PyData.eqv d e else PyData.eqv d e)=true then A else B:=by
 rw [h]
 exact k
def W2 (K:Aa):Sp:=λvs H Q _=>∃(p:Aj) (ns:List Int),vs=[.ref p]∧H p=some (.lst (ns.map V.int))∧ns.length≤1000∧∀H',Same H H'→Q (.bl true) H'
theorem wjh (ns:List Int):(ns.map λ_=>true).all id=true:=by
 induction ns with
 |nil=>rfl
 |cons a r ih=>rw [aC,List.all_cons,ih];rfl
include T in
theorem wxv (F:Fun K "_law_numbers" "_law_numbers" zcz f fd)(zan:Cal P w K mg base "_law_whole" 1 Wr):FK P w K mg base 2 f fd ["_law_found"] (W2 K):=by
 have sc:=Js
 refine F.okX sc (λvs H Q E h=>by obtain ⟨_,_,rfl,_⟩:=h;rfl) λ_ _ _ _ H vs Q E hr h=>?_
 obtain ⟨p,ns,rfl,hp,hn,k⟩:=h
 have hS:SqL K H p (ns.map V.int):=SqL.of hp
 refine ⟨_,(qm (wn (Qr (xz v5 rfl T.isinstance_ aR (wz (pv 0) (wz (yg (v:=V.ty "list") rfl T.list_ aZ rfl) qz))) (Zp (xz (Zx rfl) rfl T.all_ qud (xm (qk6 (M:=[]) rfl rfl (by walk_at "cap") (by walk_at "has") (by walk_at "cix") rfl (by decide +kernel) rfl (show List.Nodup (["_law_number"]:List Str) by decide +kernel) (ur (pv 0)) (λ_ _ _ _ _=>(wc zan (hr.mono ⋯) rfl qjd (wz (pv 0) qz)))) qz)))))),?_⟩
 refine gI rfl ⟨_,_,_,_,rfl,TyOf.lst hp,rfl,_,rfl,?_⟩
 refine jj ?_
 refine gI rfl ⟨p,rfl,⟨_,hS⟩,?_⟩
 refine qkw (K:=K) (M:=[]) (a:=p) (xs:=ns.map V.int) (λ_=>V.bl true) hS (by rw [aa];lia) (λx H' R hx hs hR=>?_) λq nq=>?_
 ·obtain ⟨i,_,rfl⟩:=ax.mp hx
  exact gI rfl ⟨i,rfl,hR⟩
 ·have e:(ns.map V.int).map (λ_=>V.bl true)=(ns.map λ_=>true).map V.bl:=by
   rw [bK,bK]
   rfl
  rw [e]
  refine ⟨q,ns.map λ_=>true,rfl,SqL.new,?_⟩
  rw [wjh]
  exact k _ (Same.upd nq)
theorem qww {x:Str}(h:vb x=true):PyData.strOk x=true:=by
 unfold vb at h
 have h2:=(bA _ _▸h:_∧_).2
 unfold PyData.strOk
 refine Array.all_eq_true.mpr λi hi=>?_
 have hs:=bP.mp h2 i (aW.mpr hi)
 have eg:x.cps.getD i 0=x.cps[i]:=by simp [Array.getD,hi]
 rw [eg] at hs
 unfold Ju at hs
 have:=xxh (x:=Str.ofString "abcdefghijklmnopqrstuvwxyz") (n:=200) (by decide +kernel) (by simpa using hs)
 exact aX ⋯
def wvq:Sp:=λvs H Q _=>∃(q p d:Aj) (wh:Str) (pt:Int×Int),vs=[.ref q,.ref d]∧H q=some (.tup [.str wh,.ref p])∧H p=some (.tup [.int pt.1,.int pt.2])∧H d=some (.tup [.str wh,.int pt.1,.int pt.2])∧PtG pt∧PyData.strOk wh=true∧∀H',Same H H'→Q (.bl true) H'
include T in
theorem Jn (F:Fun K "_law_walker_alike" "_law_walker_alike" zc0 f fd)(zc6:Cal P w K mg base "_law_point" 2 (qqm K)):FK P w K mg base 3 f fd ["_law_found","_law_due"] wvq:=by
 have sc:=Wv
 refine F.okX sc (λvs H Q E h=>by obtain ⟨_,_,_,_,_,rfl,_⟩:=h;rfl) λ_ _ _ _ H vs Q E hr h=>?_
 obtain ⟨q,p,d,wh,pt,rfl,fq,fp,fd',pg,so,k⟩:=h
 refine ⟨_,(qu (xh (PW.pt (jm (jz (vm (xz v5 rfl T.isinstance_ aR (wz (pv 0) (wz (yg (v:=V.ty "tuple") rfl T.tuple_ cD rfl) qz))))) (jm (wm Zw (xz xf rfl T.len_ aB (wz (pv 0) qz)) qk (w6 _)) (k7 (jz (vm (xz v5 rfl T.isinstance_ aR (zq (xq xv (pv 0) qk (λ_ _=>rfl)) (wz (yg (v:=V.ty "str") rfl T.str_ PyProof.Rows.boot_str rfl) qz))))))))) (qm (wn j9)) wt)
   (qm (wn (Qr (wCA zc6 (zq (xq xv (pv 0) qk (λ_ _=>rfl)) qz)) (Zp (jg (wx0 hr.units) (pv 0) (zx (zq (xq xv (pv 1) qk (λ_ _=>rfl)) (qky (zx (zq (xq xv (pv 1) qk (λ_ _=>rfl)) (zq (xq xv (pv 1) qk (λ_ _=>rfl)) qz))) qz))) (w6 _))))))),?_⟩
 dsimp only [ug]
 refine gI rfl ⟨_,_,_,_,rfl,TyOf.tup fq,rfl,_,rfl,vg ?_⟩
 refine gI rfl ⟨_,_,rfl,.inr (SqT.of fq),rfl,_,rfl,vg ?_⟩
 refine gI rfl (gX rfl rfl (SqT.of fq) rfl ⟨_,_,_,_,rfl,TyOf.str _,rfl,_,rfl,vg ?_⟩)
 refine gI rfl (gX rfl rfl (SqT.of fq) rfl ⟨p,_,_,rfl,fp,pg.1,pg.2.2.1,_,rfl,jj ?_⟩)
 refine gI rfl (gI rfl (gX rfl rfl (SqT.of fd') rfl (gI rfl (gX rfl rfl (SqT.of fd') rfl (gI rfl (gX rfl rfl (SqT.of fd') rfl ⟨sz2,λa na=>⟨sz2,λc nc=>?_⟩⟩))))))
 have s1:=Same.upd (H:=H) (o:=.tup [.int pt.1,.int pt.2]) na
 have f1:upd H a (.tup [.int pt.1,.int pt.2]) a=some (.tup [.int pt.1,.int pt.2]):=qc
 generalize upd H a (.tup [.int pt.1,.int pt.2])=H1 at s1 f1 nc
 have s2:=Same.upd (H:=H1) (o:=.tup [.str wh,.ref a]) nc
 have f2:upd H1 c (.tup [.str wh,.ref a]) c=some (.tup [.str wh,.ref a]):=qc
 generalize upd H1 c (.tup [.str wh,.ref a])=H2 at s2 f2
 have s12:=s1.trans s2
 refine ⟨_,_,wxf (pt:=pt) (s12 _ _ fq) (s12 _ _ fp),wxf (pt:=pt) f2 (s2 _ _ f1),qjh so _,qjh so _,xwq _ _,?_⟩
 rw [ai ⋯,wzc]
 exact k _ s12
theorem VH.frame {CR:Aj}(v:VH C CR CW H o as){ch:List Aj}(kb:Kb ch H H')(dl:Dl H ch)(n:∀x∈o.dr::o.dw::o.dd::ym o.ds,x∉ch):VH C CR CW H' o as :=
 ⟨v.h.frame kb dl ⟨Ap.x (o:=o) v.h dl,n _ (by simp),n _ (by simp),n _ (by simp)⟩ λq hq hm=>absurd hq (n q (by simp [hm])),Hist.dl dl kb v.t⟩
def Sep (o:Ho)(k:Bk):Prop:=∀x∈o.dr::o.dw::o.dd::ym o.ds,x∉k.ad
theorem VH.rnames {CR:Aj}(v:VH C CR CW H o (a::as))(n:Str):n∈o.R.map jh↔(a.bk.rs n).isSome=true:=by
 rw [Qj v.h.nR v.h.fR n,v.rep.rsome n]
 rfl
theorem VH.wnames {CR:Aj}(v:VH C CR CW H o (a::as))(n:Str):n∈o.W.map jh↔(a.bk.ws n).isSome=true:=by
 rw [Qj v.h.nW v.h.fW n,v.rep.wsome n]
 show _↔((a.ws n).map _).isSome=true
 rw [dS]
theorem BP.rnames (h:BP H R W b)(n:Str):n∈R.map jh↔(b.rs n).isSome=true:=by
 rw [Qj h.nR h.fR n]
 cases e:b.rs n with
 |none=>rw [h.noR e];simp
 |some hs=>obtain ⟨_,p,e1,_⟩:=h.row e;rw [e1];simp
theorem BP.wnames (h:BP H R W b)(n:Str):n∈W.map jh↔(b.ws n).isSome=true:=by
 rw [Qj h.nW h.fW n]
 cases e:b.ws n with
 |none=>rw [h.noW e];simp
 |some v=>obtain ⟨p,e1,_⟩:=h.wlk e;rw [e1];simp
def spAlF (C CR CW:Aj):Sp:=λvs H Q _=>∃(o:Ho) (k:Bk) (a:AH) (as:List AH) (t:List BA) (NM:List Str),vs=[.ref o.x,.ref k.dr,.ref k.dw,.ref k.dp]∧VH C CR CW H o (a::as)∧BkAt H k a.bk t∧Sep o k∧BOk NM a.bk∧NM.length<60∧o.ds.length=t.length∧t.length≤1000 ∧
 ∀H' o1 o2,H' k.dr=some (.frz o1 (.dK k.R))→H' k.dw=some (.frz o2 (.dK k.W))→Kb [k.dr,k.dw] H H'→Q (.bl true) H'
include T in
theorem zja (F:Fun K "_law_alike" "_law_alike" za0 f fd)(zc7:MCal P w K mg base qq "deeds" 1 (qqj qq))(zdl:MCal P w K mg base qq "names" 1 (qqt qq))(zc8:MCal P w K mg base qq "corners_of" 2 (um qq wq q9))(zdm:MCal P w K mg base qq "where" 2 (qqs qq qy qj))(zan:Cal P w K mg base "_law_whole" 1 Wr)(zdn:Cal P w K mg base "_law_numbers" 2 (W2 K))(zdo:Cal P w K mg base "_law_walker_alike" 3 wvq) :
  FK P w K mg base 4 f fd ["_law_house","_law_roads","_law_walkers","_law_past"] (spAlF qq wq qy):=by
 have sc:=qzt
 refine F.okX sc (λvs H Q E h=>by obtain ⟨_,_,_,_,_,_,rfl,_⟩:=h;rfl) λ_ _ _ s H vs Q E hr h=>?_
 obtain ⟨o,k,a,as,t,NM,rfl,v,bk,sp,bo,lN,lt,lt2,kk⟩:=h
 have lens:=v.lens (AOk.bk bo)
 have lens2:=bk.b2.bp.lens bo
 have lps:=bk.ps.len
 obtain ⟨dx,hx⟩:=v.h.hs.ob
 have big:(10000:Nat)<sizeLine:=by decide
 refine ⟨_,(qu (xh (PW.pt (jm (jz (vm (wCA zan (vd (kj (pv 0) T.clH zc7 (hr.mono ⋯) qf) qz)))) (k7 (wm Zw (kj (pv 0) T.clH zc7 (hr.mono ⋯) qf) (xz xf rfl T.len_ aB (wz (pv 3) qz)) (w6 _))))) (qm (wn j9)) wt)
   (qu (xj (i:=4) (kj (pv 0) T.clH zdl (hr.mono ⋯) qf))
   (qu (xh (PW.pt (jm (jz (vm (xz v5 rfl T.isinstance_ aR (wz (pv 4) (wz (yg (v:=V.ty "tuple") rfl T.tuple_ cD rfl) qz))))) (k7 (wm Zw (xz xf rfl T.len_ aB (wz (pv 4) qz)) qk (w6 _))))) (qm (wn j9)) wt)
   (qu (xh (wm (wu9 hr.units) (pv 4) (zx (vd (xz (Qz) rfl T.sorted_ bX (vd (zn (Zr rfl) rfl T.list_ aZ (wz (pv 1) qz)) qz)) (vd (xz (Qz) rfl T.sorted_ bX (vd (zn (Zr rfl) rfl T.list_ aZ (wz (pv 2) qz)) qz)) qz))) (w6 _)) (qm (wn j9)) wt)
   (qu (yb be rfl (wj9 (pv 1)) (xp (i:=5)) (qm (xh (PW.pt (jm (jz (vm (wCA zdn (vd (x8 (pv 0) T.clH zc8 (hr.mono ⋯) qf (wz (pv 5) qz)) qz)))) (k7 (wm (wu9 hr.units) (x8 (pv 0) T.clH zc8 (hr.mono ⋯) qf (wz (pv 5) qz)) (jf (vj hr) (pv 1) (pv 5) (λ_ _=>rfl)) (w6 _))))) (qm (wn j9)) wt)))
   (qu (yb be rfl (wj9 (pv 2)) (xp (i:=5)) (qm (xh (jz (vm (wCA zdo (vd (x8 (pv 0) T.clH zdm (hr.mono ⋯) qf (wz (pv 5) qz)) (zq (jf (vj hr) (pv 2) (pv 5) (λ_ _=>rfl)) qz))))) (qm (wn j9)) wt)))
   (qm (wn j9)))))))),?_⟩
 dsimp only [ug]
 refine gI rfl ⟨o.x,dx,gI rfl ⟨hx,x9,o.x,o.dr,o.dw,o.dd,o.R,o.W,gI rfl ⟨v.h.hs,gI rfl (gI rfl (vg ?_))⟩⟩⟩
 refine gI rfl ⟨o.x,dx,gI rfl ⟨hx,x9,o.x,o.dr,o.dw,o.dd,o.R,o.W,gI rfl ⟨v.h.hs,gI rfl ⟨k.dp,gI rfl ⟨.inl (SqL.of bk.p),rfl,_,rfl,qw9 (λz=>absurd (by rw [j7,qq0,lps,lt]) z) (λ_=>?_)⟩⟩⟩⟩⟩
 obtain ⟨ekR,ndR⟩:=y0 v.h.nR v.h.fR
 obtain ⟨ekW,ndW⟩:=y0 v.h.nW v.h.fW
 obtain ⟨ekR2,ndR2⟩:=y0 bk.b2.bp.nR bk.b2.bp.fR
 obtain ⟨ekW2,ndW2⟩:=y0 bk.b2.bp.nW bk.b2.bp.fW
 refine gI rfl ⟨o.x,dx,gI rfl ⟨hx,x9,o.x,o.dr,o.dw,o.dd,o.R,o.W,_,_,_,rfl,v.h.hs,ekR,⋯,ekW,⋯,λq l1 l2 ms1 ms2 H1 s1 pm1 sr1 pm2 sr2 f1 f2 fq=>?_⟩⟩
 have m1:∀s,s∈ms1↔(a.bk.rs s).isSome=true:=λs=>pm1.mem_iff.trans (v.rnames s)
 have m2:∀s,s∈ms2↔(a.bk.ws s).isSome=true:=λs=>pm2.mem_iff.trans (v.wnames s)
 refine gI rfl ⟨_,_,_,_,rfl,TyOf.tup fq,rfl,_,rfl,vg ?_⟩
 refine gI rfl ⟨_,_,rfl,.inr (SqT.of fq),rfl,_,rfl,vg ?_⟩
 have bk1:=bk.same s1
 refine gI rfl (gI rfl ⟨k.dr,k.R,k.R.map jh,rfl,.inl bk1.b2.r,ekR2,λp1 n1=>?_⟩)
 have s2:=Same.upd (H:=H1) (o:=.lst ((k.R.map jh).map V.str)) n1
 have g1:upd H1 p1 (.lst ((k.R.map jh).map V.str)) p1=some (.lst ((k.R.map jh).map V.str)):=qc
 generalize upd H1 p1 (.lst ((k.R.map jh).map V.str))=H2 at s2 g1
 refine ⟨p1,k.R.map jh,rfl,SqL.of g1,by rw [aa];lia,λl3 ms3 nl3 pm3 sr3=>?_⟩
 have s3:=Same.upd (H:=H2) (o:=.lst (ms3.map V.str)) nl3
 have g3:upd H2 l3 (.lst (ms3.map V.str)) l3=some (.lst (ms3.map V.str)):=qc
 generalize upd H2 l3 (.lst (ms3.map V.str))=H3 at s3 g3
 have bk3:=bk1.same (s2.trans s3)
 refine gI rfl ⟨k.dw,k.W,k.W.map jh,rfl,.inl bk3.b2.w,ekW2,λp2 n2=>?_⟩
 have s4:=Same.upd (H:=H3) (o:=.lst ((k.W.map jh).map V.str)) n2
 have g2:upd H3 p2 (.lst ((k.W.map jh).map V.str)) p2=some (.lst ((k.W.map jh).map V.str)):=qc
 generalize upd H3 p2 (.lst ((k.W.map jh).map V.str))=H4 at s4 g2
 refine ⟨p2,k.W.map jh,rfl,SqL.of g2,by rw [aa];lia,λl4 ms4 nl4 pm4 sr4=>?_⟩
 have s5:=Same.upd (H:=H4) (o:=.lst (ms4.map V.str)) nl4
 have g4:upd H4 l4 (.lst (ms4.map V.str)) l4=some (.lst (ms4.map V.str)):=qc
 generalize upd H4 l4 (.lst (ms4.map V.str))=H5 at s5 g4
 have e3:ms3=ms1:=Yw (pm3.nodup_iff.mpr ndR2) (pm1.nodup_iff.mpr ndR) (λs=>(pm3.mem_iff.trans (bk.b2.bp.rnames s)).trans (m1 s).symm) sr3 sr1
 have e4:ms4=ms2:=Yw (pm4.nodup_iff.mpr ndW2) (pm2.nodup_iff.mpr ndW) (λs=>(pm4.mem_iff.trans (bk.b2.bp.wnames s)).trans (m2 s).symm) sr4 sr2
 subst e3 e4
 refine ⟨sz2,λqt nqt=>?_⟩
 have s6:=Same.upd (H:=H5) (o:=.tup [.ref l3,.ref l4]) nqt
 have g6:upd H5 qt (.tup [.ref l3,.ref l4]) qt=some (.tup [.ref l3,.ref l4]):=qc
 generalize upd H5 qt (.tup [.ref l3,.ref l4])=H6 at s6 g6
 have s16:=(((s2.trans s3).trans s4).trans s5).trans s6
 have so1:∀m∈ms3,PyData.strOk m=true:=λm hm=>by
  obtain ⟨hs,e⟩:=bh.mp ((m1 m).mp hm)
  exact qww (bo.lo m hs e).2.1
 have so2:∀m∈ms4,PyData.strOk m=true:=λm hm=>by
  obtain ⟨u,e⟩:=bh.mp ((m2 m).mp hm)
  exact qww (bo.wo m u e).1
 refine ⟨_,_,wz4 (s16 _ _ fq) (s16 _ _ f1) (s16 _ _ f2),wz4 g6 (((s4.trans s5).trans s6) _ _ g3) (s6 _ _ g4),wqt so1 so2,wqt so1 so2,wjr _ _ _,_,rfl,wzk (wy0 _ _) ?_⟩
 have sA:=s1.trans s16
 have vA:=v.same sA
 have bkA:=bk.same sA
 clear s2 s3 s4 s5 s6 s16 g1 g2 g3 g4 g6 f1 f2 fq bk1 bk3 n1 n2 nl3 nl4 nqt s1
 refine gI rfl ⟨k.dr,k.R,rfl,.inl bkA.b2.r,λo1 H7 fz7=>?_⟩
 have kb7:Kb [k.dr] H6 H7:=λx u nx e=>by rw [fz7.2 x (by simpa using nx)];exact e
 have dl7:Dl H6 [k.dr]:=.cons (.inl ⟨_,.inl bkA.b2.r⟩) .nil
 have v7:=vA.frame kb7 dl7 λx hx z=>sp x hx (by rw [aq.mp z];unfold Bk.ad;simp)
 have w7:H7 k.dw=some (.dK k.W):=kb7 _ _ (by simpa using aV bkA.b2.ne) bkA.b2.w
 have bp7:=bkA.b2.bp.kb dl7 kb7
 refine wzy (λi σ Hx=>Same H7 Hx∧∃z,σ=[some (.ref o.x),some (.ref k.dr),some (.ref k.dw),some (.ref k.dp),some (.ref q),z]) ⟨Same.refl _,_,rfl⟩ (λi σ Hx _ h=>h.1 _ _ fz7.1) ?_ ?_
 ·rintro _ _ i c σ Hx ec ⟨sx,z,rfl⟩
  have hc:=aL ec
  have ev:=jx bp7.nR hc
  obtain ⟨n,_,es,_⟩:=bp7.fR _ _ ev
  obtain ⟨hs,er⟩:∃hs,a.bk.rs n=some hs:=by
   cases e:a.bk.rs n with
   |none=>rw [es,bp7.noR e] at ev;cases ev
   |some hs=>exact ⟨hs,rfl⟩
  obtain ⟨lo,p,e1,fp⟩:=bp7.row er
  have ll:=lo.2.1
  have vx:=v7.same sx
  obtain ⟨dx2,hx2⟩:=vx.h.hs.ob
  obtain ⟨r,er2,ra⟩:=vx.rep.road (show a.rs n=some hs from er)
  rw [es]
  refine ⟨_,rfl,o.x,dx2,_,rfl,hx2,x9,_,rfl,o.x,o.dr,o.dw,o.dd,o.R,o.W,_,n,rfl,vx.h.hs,λu eu=>?_,(λz=>by rw [er2] at z;cases z)⟩
  rw [er2] at eu
  cases eu
  refine ⟨r,hs,rfl,ra,λp1 n1=>?_⟩
  have s2:=Same.upd (H:=Hx) (o:=.lst (hs.map V.int)) n1
  have g1:upd Hx p1 (.lst (hs.map V.int)) p1=some (.lst (hs.map V.int)):=qc
  generalize upd Hx p1 (.lst (hs.map V.int))=Hy at s2 g1
  refine ⟨p1,hs,rfl,g1,⋯,λHz s3=>(gI rfl (vg ?_))⟩
  have sz:=(sx.trans s2).trans s3
  have vz:=v7.same sz
  obtain ⟨dx3,hx3⟩:=vz.h.hs.ob
  obtain ⟨r',er3,ra'⟩:=vz.rep.road (show a.rs n=some hs from er)
  refine ⟨_,rfl,o.x,dx3,_,rfl,hx3,x9,_,rfl,o.x,o.dr,o.dw,o.dd,o.R,o.W,_,n,rfl,vz.h.hs,λu eu=>?_,(λz=>by rw [er3] at z;cases z)⟩
  rw [er3] at eu
  cases eu
  refine ⟨r',hs,rfl,ra',λp2 n2=>?_⟩
  have s4:=Same.upd (H:=Hz) (o:=.lst (hs.map V.int)) n2
  have g2:upd Hz p2 (.lst (hs.map V.int)) p2=some (.lst (hs.map V.int)):=qc
  generalize upd Hz p2 (.lst (hs.map V.int))=Hw at s4 g2
  have sw:=sz.trans s4
  have dg:DGet Hw k.dr (.str n) (wp k.R (.inr n)):=.inl ⟨k.R,.inr n,.inr ⟨o1,sw _ _ fz7.1⟩,rfl,rfl⟩
  rw [e1] at dg
  refine gI rfl (gI rfl ⟨k.dr,gI rfl ⟨dg,_,_,wvz (SqL.of g2),wvz (SqL.of (sw _ _ fp)),qy1 _,qy1 _,wyj _ _,_,rfl,wzk (wkh hs) ?_⟩⟩)
  exact ⟨sw,_,rfl⟩
 ·rintro σ H8 ⟨s8,z,rfl⟩
  have v8:=v7.same s8
  have w8:=s8 _ _ w7
  have bp8:=bp7.same s8
  refine gI rfl ⟨k.dw,k.W,rfl,.inl w8,λo2 H9 fz9=>?_⟩
  have kb9:Kb [k.dw] H8 H9:=λx u nx e=>by rw [fz9.2 x (by simpa using nx)];exact e
  have dl9:Dl H8 [k.dw]:=.cons (.inl ⟨_,.inl w8⟩) .nil
  have v9:=v8.frame kb9 dl9 λx hx z=>sp x hx (by rw [aq.mp z];unfold Bk.ad;simp)
  have bp9:=bp8.kb dl9 kb9
  have r9:H9 k.dr=some (.frz o1 (.dK k.R)):=kb9 _ _ (by simpa using bkA.b2.ne) (s8 _ _ fz7.1)
  refine wzy (λi σ Hx=>Same H9 Hx∧∃z,σ=[some (.ref o.x),some (.ref k.dr),some (.ref k.dw),some (.ref k.dp),some (.ref q),z]) ⟨Same.refl _,_,rfl⟩ (λi σ Hx _ h=>h.1 _ _ fz9.1) ?_ ?_
  ·rintro _ _ i c σ Hx ec ⟨sx,z,rfl⟩
   have hc:=aL ec
   have ev:=jx bp9.nW hc
   obtain ⟨n,_,es,_⟩:=bp9.fW _ _ ev
   obtain ⟨u0,eu0⟩:∃u,a.bk.ws n=some u:=by
    cases e:a.bk.ws n with
    |none=>rw [es,bp9.noW e] at ev;cases ev
    |some u=>exact ⟨u,rfl⟩
   obtain ⟨p,e1,fp⟩:=bp9.wlk eu0
   obtain ⟨w0,ew0,e2⟩:=xqr eu0
   subst e2
   obtain ⟨nn,_,ks,erk,hp⟩:=bo.wo n _ eu0
   have vx:=v9.same sx
   obtain ⟨dx2,hx2⟩:=vx.h.hs.ob
   obtain ⟨y,py,ty,ey,wk⟩:=vx.rep.wk ew0
   rw [es]
   refine gI rfl ⟨o.x,dx2,gI rfl ⟨hx2,x9,gI rfl ⟨o.x,o.dr,o.dw,o.dd,o.R,o.W,_,n,rfl,vx.h.hs,(λz=>by rw [ey] at z;cases z),λu eu=>?_⟩⟩⟩
   rw [ey] at eu
   cases eu
   refine ⟨y,w0.wh,py,w0.pt,ty,w0.tv,rfl,wk,λq1 n1=>?_⟩
   have s2:=Same.upd (H:=Hx) (o:=.tup [.str w0.wh,.ref py]) n1
   have g1:upd Hx q1 (.tup [.str w0.wh,.ref py]) q1=some (.tup [.str w0.wh,.ref py]):=qc
   generalize upd Hx q1 (.tup [.str w0.wh,.ref py])=Hy at s2 g1
   have sy:=sx.trans s2
   have dg:DGet Hy k.dw (.str n) (wp k.W (.inr n)):=.inl ⟨k.W,.inr n,.inr ⟨o2,sy _ _ fz9.1⟩,rfl,rfl⟩
   rw [e1] at dg
   refine gI rfl (gI rfl ⟨k.dw,gI rfl ⟨dg,q1,py,p,w0.wh,w0.pt,rfl,g1,s2 _ _ wk.pt,sy _ _ fp,hp.g,qww (bo.lo _ ks erk).2.1,λHz s3=>(gI rfl (vg ⟨sy.trans s3,_,rfl⟩))⟩⟩)
  ·rintro σ Hx ⟨sx,z,rfl⟩
   refine kk Hx o1 o2 (sx _ _ r9) (sx _ _ fz9.1) λx u nx e=>?_
   simp only [ae,af,aG,not_or] at nx
   exact sx _ _ (kb9 _ _ (by simpa using nx.2) (s8 _ _ (kb7 _ _ (by simpa using nx.1) (sA _ _ e))))
def spAl (C CR CW:Aj):Sp:=λvs H Q _=>∃(o:Ho) (k:Bk) (a:AH) (as:List AH) (t:List BA) (NM:List Str),vs=[.ref o.x,.ref k.dr,.ref k.dw,.ref k.dp]∧VH C CR CW H o (a::as)∧BkAt H k a.bk t∧Sep o k∧BOk NM a.bk∧NM.length<60∧o.ds.length=t.length∧t.length≤1000∧∀H',Same H H'→Q (.bl true) H'
include T in
theorem zjb (F:Fun K "_law_alike" "_law_alike" za0 f fd)(zc7:MCal P w K mg base qq "deeds" 1 (qqj qq))(zdl:MCal P w K mg base qq "names" 1 (qqt qq))(zc8:MCal P w K mg base qq "corners_of" 2 (um qq wq q9))(zdm:MCal P w K mg base qq "where" 2 (qqs qq qy qj))(zan:Cal P w K mg base "_law_whole" 1 Wr)(zdn:Cal P w K mg base "_law_numbers" 2 (W2 K))(zdo:Cal P w K mg base "_law_walker_alike" 3 wvq) :
  FK P w K mg base 4 f fd ["_law_house","_law_roads","_law_walkers","_law_past"] (spAl qq wq qy):=by
 refine FnOk.imp (FnOk.thaw (zja T F zc7 zdl zc8 zdm zan zdn zdo)) λvs H Q E h=>?_
 obtain ⟨o,k,a,as,t,NM,e,v,bk,sp,bo,lN,lt,lt2,kk⟩:=h
 refine ⟨o,k,a,as,t,NM,e,v,bk,sp,bo,lN,lt,lt2,λH' o1 o2 h1 h2 kb=>⟨[k.dr,k.dw],λd hd o u z=>?_,kk _ λx u e=>?_⟩⟩
 ·simp only [ae,af,aG] at hd
  rcases hd with rfl|rfl
  ·rw [bk.b2.r] at z;cases z
  ·rw [bk.b2.w] at z;cases z
 ·by_cases z1:x=k.dr
  ·subst z1
   rw [bk.b2.r] at e
   rw [qqk (by simp) h1]
   exact e
  ·by_cases z2:x=k.dw
   ·subst z2
    rw [bk.b2.w] at e
    rw [qqk (by simp) h2]
    exact e
   ·rw [qq8 (by simpa using ⟨z1,z2⟩)]
    exact kb _ _ (by simpa using ⟨z1,z2⟩) e
def whL (l:List (Str×(Int×Int))):PyData:=.list (l.map λx=>whN x.1 x.2)
theorem qyr:∀(l:List (Str×(Int×Int))) (ys:List V),ys.length=l.length→(∀(j:Nat) x,l[j]?=some x→∃q r,ys[j]?=some (.ref q)∧H q=some (.tup [.str x.1,.ref r])∧H r=some (.tup [.int x.2.1,.int x.2.2]))→RDs K H (l.map λx=>whN x.1 x.2) ys
 |[],ys,e,_=>by
  rw [bI,RDs]
  exact cC.mp e
 |x::l,[],e,_=>by cases e
 |x::l,y::ys,e,h=>by
  rw [aC,RDs]
  obtain ⟨q,r,a1,a2,a3⟩:=h 0 x rfl
  cases a1
  exact ⟨_,_,rfl,wxf a2 a3,qyr l ys (by simpa using e) λj x' ex=>h (j+1) x' ex⟩
theorem wzh:∀l:List (Str×(Int×Int)),PyData.eqvAll (l.map λx=>whN x.1 x.2) (l.map λx=>whN x.1 x.2)=true
 |[]=>by rw [bI,PyData.eqvAll]
 |x::l=>by rw [aC,PyData.eqvAll,wzh l,wzc];rfl
theorem wzf:∀ {l:List (Str×(Int×Int))},(∀x∈l,PyData.strOk x.1=true)→PyData.canLayAll0 (l.map λx=>whN x.1 x.2)=true
 |[],_=>by simp [PyData.canLayAll0]
 |x::l,h=>by
  have a:=qjh (h x (ay ..)) x.2
  have b:=wzf λy hy=>h y (au _ hy)
  rw [aC,PyData.canLayAll0,a,b]
  rfl
theorem wvx:∀l:List (Str×(Int×Int)),PyData.depthAll (l.map λx=>whN x.1 x.2)≤3
 |[]=>by simp [PyData.depthAll]
 |x::l=>by
  have:=wvx l
  have d:(whN x.1 x.2).depth≤3:=by simp [whN,ptD,PyData.depth,PyData.depthAll]
  rw [aC,PyData.depthAll]
  lia
def wy3:Sp:=λvs H Q _=>∃(v v':V) (ans:Ans),vs=[v,v']∧AnsAt H v ans∧AnsAt H v' ans∧∀H',Same H H'→Q (.bl true) H'
include T in
theorem wv3 (F:Fun K "_law_answer" "_law_answer" zc1 f fd)(zc6:Cal P w K mg base "_law_point" 2 (qqm K)):FK P w K mg base 3 f fd ["_law_found","_law_due"] wy3:=by
 have sc:=qxg
 refine F.okX sc (λvs H Q E h=>by obtain ⟨_,_,_,rfl,_⟩:=h;rfl) λ_ _ _ _ H vs Q E hr h=>?_
 obtain ⟨v,v',ans,rfl,h1,h2,k⟩:=h
 have k:=k H (Same.refl _)
 refine ⟨_,(qu (xh (wm wwz (pv 1) jv (w6 _)) (qm (wn (jg wwz (pv 0) jv (w6 _)))) wt)
   (qu (xh (vm (xz v5 rfl T.isinstance_ aR (wz (pv 1) (wz (yg (v:=V.ty "tuple") rfl T.tuple_ cD rfl) qz)))) (qm (wn (Qr (wCA zc6 (wz (pv 0) qz)) (Zp (jg (wx0 hr.units) (pv 0) (pv 1) (w6 _)))))) wt)
   (qu (xh (PW.pt (jm (jz (vm (xz v5 rfl T.isinstance_ aR (wz (pv 0) (wz (yg (v:=V.ty "list") rfl T.list_ aZ rfl) qz))))) (k7 (wm Zw (xz xf rfl T.len_ aB (wz (pv 0) qz)) (xz xf rfl T.len_ aB (wz (pv 1) qz)) (w6 _))))) (qm (wn j9)) wt)
   (qu (yb be rfl (ur (pv 0)) (xp (i:=2)) (qm (xh (PW.pt (jm (jz (vm (xz v5 rfl T.isinstance_ aR (wz (pv 2) (wz (yg (v:=V.ty "tuple") rfl T.tuple_ cD rfl) qz))))) (jm (wm Zw (xz xf rfl T.len_ aB (wz (pv 2) qz)) qk (w6 _)) (k7 (jz (vm (wCA zc6 (zq (xq xv (pv 2) qk (λ_ _=>rfl)) qz)))))))) (qm (wn j9)) wt)))
   (qm (wn (jg (wx0 hr.units) (pv 0) (pv 1) (w6 _)))))))),?_⟩
 cases ans with
 |non =>
  have h1:v=.non:=h1
  have h2:v'=.non:=h2
  subst h1 h2
  exact gI rfl ⟨rfl,_,rfl,zp (λ_=>(gI rfl ⟨rfl,k⟩)) (λz=>absurd rfl z)⟩
 |pt p =>
  obtain ⟨a,rfl,fa,pg⟩:=h1
  obtain ⟨c,rfl,fc,_⟩:=h2
  refine gI rfl ⟨rfl,_,rfl,zp (λz=>nomatch z) (λ_=>?_)⟩
  refine gI rfl ⟨_,_,_,_,rfl,TyOf.tup fc,rfl,_,rfl,jj ?_⟩
  refine gI rfl ⟨a,_,_,rfl,fa,pg.1,pg.2.2.1,_,rfl,jj ?_⟩
  refine gI rfl (gI rfl ⟨_,_,wjp (q:=p) (SqT.of fa),wjp (q:=p) (SqT.of fc),rfl,rfl,dep_pt,?_⟩)
  rw [ai ⋯,xqm,aX rfl]
  exact k
 |lst l =>
  obtain ⟨a,ys,rfl,fa,la,l1,ha⟩:=h1
  obtain ⟨c,zs,rfl,fc,lc,_,hc⟩:=h2
  refine gI rfl ⟨rfl,_,rfl,zp (λz=>nomatch z) (λ_=>?_)⟩
  refine gI rfl ⟨_,_,_,_,rfl,TyOf.lst fc,rfl,_,rfl,vg ?_⟩
  refine gI rfl ⟨_,_,_,_,rfl,TyOf.lst fa,rfl,_,rfl,vg ?_⟩
  refine gI rfl ⟨a,gI rfl ⟨.inl (SqL.of fa),gI rfl ⟨c,gI rfl ⟨.inl (SqL.of fc),rfl,_,rfl,qw9 (λz=>absurd ⋯ z) (λ_=>?_)⟩⟩⟩⟩
  refine gI rfl ⟨a,rfl,⟨_,SqL.of fa⟩,wqx (xs:=ys) (λi σ Hx=>Hx=H∧∃z,σ=[some (.ref a),some (.ref c),z]) ⟨rfl,_,rfl⟩ (λi σ Hx _ h=>by rw [h.1];exact SqL.of fa) ?_ ?_⟩
  ·rintro i x σ Hx ex ⟨rfl,z,rfl⟩
   have hi:=(aN.mp ex).1
   have el:l[i]?=some l[i]:=aj ⋯
   obtain ⟨q,r,a1,a2,a3,pg,_⟩:=ha i _ el
   rw [ex] at a1
   cases a1
   refine gI rfl ⟨_,_,_,_,rfl,TyOf.tup a2,rfl,_,rfl,vg ?_⟩
   refine gI rfl ⟨_,_,rfl,.inr (SqT.of a2),rfl,_,rfl,vg ?_⟩
   exact gI rfl (gX rfl rfl (SqT.of a2) rfl ⟨r,_,_,rfl,a3,pg.1,pg.2.2.1,_,rfl,vg ⟨rfl,_,rfl⟩⟩)
  ·rintro σ Hx ⟨rfl,z,rfl⟩
   have r1:RD K Hx (whL l) (.ref a):=by
    unfold whL
    rw [RD]
    exact ⟨a,ys,rfl,SqL.of fa,qyr l ys la λj x ex=>by obtain ⟨q,r,b1,b2,b3,_⟩:=ha j x ex;exact ⟨q,r,b1,b2,b3⟩⟩
   have r2:RD K Hx (whL l) (.ref c):=by
    unfold whL
    rw [RD]
    exact ⟨c,zs,rfl,SqL.of fc,qyr l zs lc λj x ex=>by obtain ⟨q,r,b1,b2,b3,_⟩:=hc j x ex;exact ⟨q,r,b1,b2,b3⟩⟩
   have so:∀x∈l,PyData.strOk x.1=true:=λx hx=>by
    obtain ⟨j,hj,ej⟩:=bx hx
    obtain ⟨q,r,_,_,_,_,nb⟩:=ha j x (by rw [aj hj,ej])
    exact qww nb
   have ly:(whL l).canLay0=true:=by unfold whL;rw [PyData.canLay0];exact wzf so
   have ev:PyData.eqv (whL l) (whL l)=true:=by unfold whL;rw [PyData.eqv];exact wzh l
   have dp:min (whL l).depth (whL l).depth≤60:=by
    have:=wvx l
    unfold whL
    simp only [PyData.depth]
    lia
   refine gI rfl (gI rfl ⟨_,_,r1,r2,ly,ly,dp,?_⟩)
   rw [ai ⋯,ev]
   exact k
theorem wwc {a:Aj}(h:SqL K H a xs):(∀H',SqL K H' a xs)∨∃u,H a=some u∧(∀kv,u≠.dK kv)∧∀v kv,u≠.frz v (.dK kv):=by
 rcases h with (e|⟨v,e⟩)|e
 ·exact .inr ⟨_,e,(λ_ z=>by cases z),(λ_ _ z=>by cases z)⟩
 ·exact .inr ⟨_,e,(λ_ z=>by cases z),(λ_ _ z=>by cases z)⟩
 ·exact .inl λ_=>.inr e
def Dc (H:Hp)(c:Aj)(ch:List Aj):Prop:=∀b∈ch,b=c∨∃kv,Rd H b (.dK kv)
theorem Dc.nin {c:Aj}(d:Dc H c ch){a:Aj}{u:HO}(e:H a=some u)(n1:∀kv,u≠.dK kv)(n2:∀v kv,u≠.frz v (.dK kv))(n:a≠c):a∉ch:=λz=>by
 rcases d a z with y|⟨kv,y|⟨v,y⟩⟩
 ·exact n y
 ·rw [e] at y;exact n1 kv (av y)
 ·rw [e] at y;exact n2 v kv (av y)
theorem Dc.sql {c:Aj}(d:Dc H c ch)(k:Kb ch H H'){a:Aj}{xs:List V}(h:SqL K H a xs)(n:(∀H',SqL K H' a xs)∨a≠c):SqL K H' a xs:=Kb.sql k h (by
 rcases n with n|n
 ·exact .inl n
 ·rcases wwc h with z|⟨u,e,n1,n2⟩
  ·exact .inl z
  ·exact .inr (d.nin e n1 n2 n))
theorem Dc.ans {c:Aj}(d:Dc H c ch)(dl:Dl H ch)(k:Kb ch H H'){v:V}{ans:Ans}(h:AnsAt H v ans)(n:∀a,v=.ref a→a≠c):AnsAt H' v ans:=by
 cases ans with
 |non=>exact h
 |pt p=>obtain ⟨a,e,f,g⟩:=h;exact ⟨a,e,dl.tup k f,g⟩
 |lst l =>
  obtain ⟨a,ys,e,f,l1,l2,g⟩:=h
  refine ⟨a,ys,e,k _ _ (d.nin f (λ_ z=>by cases z) (λ_ _ z=>by cases z) (n a e)) f,l1,l2,λj x ex=>?_⟩
  obtain ⟨q,r,a1,a2,a3,a4⟩:=g j x ex
  exact ⟨q,r,a1,dl.tup k a2,dl.tup k a3,a4⟩
theorem NmsAt.kb (h:NmsAt H q ss){ch:List Aj}(dl:Dl H ch)(k:Kb ch H H'):NmsAt H' q ss:=by
 obtain ⟨f,l,r⟩:=h
 refine ⟨k _ _ (dl.other f (λ_ z=>by cases z) (λ_ _ z=>by cases z) λD rf z=>?_) f,l,r⟩
 have z:ss.map V.str=D:=by injection z
 have m:V.str (ss[0]'⋯)∈ss.map V.str:=ax.mpr ⟨_,bO _,rfl⟩
 rw [z] at m
 obtain ⟨x,e⟩:=rf _ m
 cases e
theorem VH.occ {CR:Aj}(v:VH C CR CW H o as):∀x∈o.dr::o.dw::o.dd::ym o.ds,∃u,H x=some u:=λx hx=>by
 rcases ae.mp hx with rfl|hx
 ·exact ⟨_,v.h.hs.r⟩
 rcases ae.mp hx with rfl|hx
 ·exact ⟨_,v.h.hs.w⟩
 rcases ae.mp hx with rfl|hx
 ·exact ⟨_,v.h.hs.d⟩
 obtain ⟨d,hd,hx⟩:=ca.mp hx
 obtain ⟨⟨_,r1,r2⟩,_⟩:=v.h.da d hd
 simp only [ae,af,aG] at hx
 rcases hx with rfl|rfl
 ·rcases r1 with r1|⟨u,r1⟩ <;> exact ⟨_,r1⟩
 ·rcases r2 with r2|⟨u,r2⟩ <;> exact ⟨_,r2⟩
structure JS (C CR CW:Aj)(H:Hp)(o:Ho)(k:Bk)(a:AH)(as:List AH)(NM:List Str):Prop where
 v:VH C CR CW H o (a::as)
 bk:BkAt H k a.bk (as.map AH.bk)
 sp:Sep o k
 bo:∀x∈a::as,BOk NM x.bk
 ln:o.ds.length=as.length
theorem JS.same {CR:Aj}{k:Bk}(j:JS C CR CW H o k a as NM)(s:Same H H'):JS C CR CW H' o k a as NM:=⟨j.v.same s,j.bk.same s,j.sp,j.bo,j.ln⟩
variable {k':Bk}
theorem JS.done {CR:Aj}{k:Bk}(j:JS C CR CW H o k a as NM)(kb:Kb [k.dr,k.dw,k.dp] H H1)(ad:∀x∈k'.ad,x∈k.ad∨H x=none):VH C CR CW H1 o (a::as)∧Sep o k':=by
 refine ⟨j.v.frame kb j.bk.dl λx hx z=>j.sp x hx ?_,λx hx hk=>?_⟩
 ·unfold Bk.ad
  simp only [ae,af,aG] at z ⊢
  rcases z with z|z|z
  ·exact .inl z
  ·exact .inr (.inl z)
  ·exact .inr (.inr (.inl z))
 ·rcases ad x hk with y|y
  ·exact j.sp x hx y
  ·obtain ⟨u,e⟩:=j.v.occ x hx
   rw [y] at e;cases e
theorem dc_ho (h:HoAt C H o):Dc H o.dd [o.dr,o.dw,o.dd]:=λb hb=>by
 simp only [ae,af,aG] at hb
 rcases hb with rfl|rfl|rfl
 ·exact .inr ⟨_,.inl h.hs.r⟩
 ·exact .inr ⟨_,.inl h.hs.w⟩
 ·exact .inl rfl
theorem dc_bk {k:Bk}{t:List BA}(h:BkAt H k b t):Dc H k.dp [k.dr,k.dw,k.dp]:=λb hb=>by
 simp only [ae,af,aG] at hb
 rcases hb with rfl|rfl|rfl
 ·exact .inr ⟨_,.inl h.b2.r⟩
 ·exact .inr ⟨_,.inl h.b2.w⟩
 ·exact .inl rfl
variable {H2:Hp}{as':List AH}{wd:Str}
theorem wzz {CR:Aj}{k:Bk}{t':List BA}{wd2:Str}{ans ans2:Ans}(v:VH C CR CW H1 o (a::as))(bk:BkAt H1 k b' t')(sp:Sep o k)(bo:∀x∈a::as,BOk NM x.bk)(ln:o.ds.length=as.length)(dr:xqu a.bk (as.map AH.bk) d wd ans b' t')(cg:Chg C CR CW H1 H2 o o' (a::as) as' d wd2 ans2)(v2:VH C CR CW H2 o' as') :
  wd2=wd∧ans2=ans∧(∃a' s',as'=a'::s'∧JS C CR CW H2 o' k a' s' (d.nm::NM)∧s'.length≤as.length+1)∧o'.x=o.x∧o'.dd=o.dd∧∃ch,Kb ch H1 H2∧Dl H1 ch∧Dc H1 o.dd ch:=by
 have bo':∀x∈a::as,BOk (d.nm::NM) x.bk:=λx hx=>(bo x hx).mono λn hn=>au _ hn
 have hn:d.nm∈d.nm::NM:=ay ..
 rcases dr with ⟨nb,dr⟩|⟨⟨n,hb⟩,rfl,dr⟩
 ·rcases cg with ⟨_,a0,t0,a1,e0,es,rfl,rfl,nx,kb⟩|⟨_,a0,t0,e0,es,nw,rfl,rfl,rfl,s⟩|⟨⟨n,hb⟩,_⟩
  ·cases e0
   rcases dr with ⟨rfl,er,rfl⟩|⟨nw,er,_⟩
   ·rw [es] at er
    cases er
    obtain ⟨e,ed,n1,n2⟩:=nx.ds
    have dl:=v.h.dl
    have nin:∀x∈k.ad,x∉[o.dr,o.dw,o.dd]:=λx hx z=>by
     simp only [ae,af,aG] at z
     rcases z with rfl|rfl|rfl
     ·exact sp _ (by simp) hx
     ·exact sp _ (by simp) hx
     ·exact sp _ (by simp) hx
    refine ⟨rfl,rfl,⟨a1,a::as,rfl,⟨v2,bk.kb dl kb nin,λx hx hk=>?_,λx hx=>?_,by rw [ed,aO,aO,ln]⟩,by simp⟩,nx.x,nx.dd,_,kb,dl,dc_ho v.h⟩
    ·rw [nx.dr,nx.dw,nx.dd,ed] at hx
     have hx:x∈o.dr::o.dw::o.dd::e.q1::e.q2::ym o.ds:=hx
     obtain ⟨u,eu⟩:=bk.occ x hk
     simp only [ae] at hx
     rcases hx with hx|hx|hx|hx|hx|hx
     ·exact sp x (by simp [hx]) hk
     ·exact sp x (by simp [hx]) hk
     ·exact sp x (by simp [hx]) hk
     ·rw [hx,n1] at eu;cases eu
     ·rw [hx,n2] at eu;cases eu
     ·exact sp x (by simp [hx]) hk
    ·rcases ae.mp hx with rfl|hx
     ·exact xq1 (bo' a (ay ..)) hn es
     ·exact bo' x hx
   ·rw [es] at er
    have:(("" : Str))=wd:=bC Prod.fst er
    exact absurd this.symm nw
  ·cases e0
   rcases dr with ⟨rfl,er,_⟩|⟨_,er,rfl,rfl⟩
   ·rw [es] at er
    exact absurd (bC Prod.fst er) nw
   ·rw [es] at er
    have e1:wd2=wd:=bC Prod.fst er
    have e2:Ans.non=ans:=bC (λz=>z.2.1) er
    refine ⟨e1,e2,⟨a,as,rfl,⟨v2,bk.same s,sp,bo',ln⟩,Nat.le_succ _⟩,rfl,rfl,[],Kb.of s,Dl.nil,λb hb=>nomatch hb⟩
  ·exact absurd hb (nb n)
 ·rcases cg with ⟨nb,_⟩|⟨nb,_⟩|⟨_,rfl,cg⟩
  ·exact absurd hb (nb n)
  ·exact absurd hb (nb n)
  ·rcases cg with ⟨a0,e0,rfl,rfl,rfl,s⟩|⟨a0,a1,t0,e,e0,rfl,rfl,pv,ed,kb,dl,rdk⟩
   ·cases e0
    rcases dr with ⟨_,rfl,rfl,rfl⟩|⟨_,z⟩
    ·exact ⟨rfl,rfl,⟨a,[],rfl,⟨v2,bk.same s,sp,bo',ln⟩,aD _⟩,rfl,rfl,[],Kb.of s,Dl.nil,λb hb=>nomatch hb⟩
    ·cases z
   ·cases e0
    rcases dr with ⟨z,_⟩|⟨rfl,z⟩
    ·cases z
    ·have z:a1.bk::t0.map AH.bk=b'::t':=z
     cases z
     have hin:∀x∈[o.dr,o.dw,o.dd,e.q1,e.q2],x∈o.dr::o.dw::o.dd::ym o.ds:=λx hx=>by
      rw [ed]
      show x∈o.dr::o.dw::o.dd::e.q1::e.q2::ym o'.ds
      simp only [ae,af,aG] at hx ⊢
      rcases hx with h|h|h|h|h <;> simp [h]
     refine ⟨rfl,rfl,⟨a1,t0,rfl,⟨v2,bk.kb dl kb λx hx z=>sp x (hin x z) hx,λx hx hk=>sp x ?_ hk,λx hx=>bo' x (au _ hx),?_⟩,by simp;lia⟩,pv.x,pv.dd,_,kb,dl,λb hb=>?_⟩
     ·rw [pv.dr,pv.dw,pv.dd] at hx
      rw [ed]
      show x∈o.dr::o.dw::o.dd::e.q1::e.q2::ym o'.ds
      simp only [ae] at hx ⊢
      rcases hx with h|h|h|h <;> simp [h]
     ·have:=bC List.length ed
      rw [aO,ln,aO] at this
      lia
     ·obtain ⟨⟨_,r1,r2⟩,_⟩:=v.h.da e (by rw [ed];exact ay ..)
      simp only [ae,af,aG] at hb
      rcases hb with rfl|rfl|rfl|rfl|rfl
      ·exact .inr ⟨_,.inl v.h.hs.r⟩
      ·exact .inr ⟨_,.inl v.h.hs.w⟩
      ·exact .inl rfl
      ·exact .inr ⟨_,r1⟩
      ·exact .inr ⟨_,r2⟩
theorem vdone {CR:Aj}{k:Bk}{t:List BA}(v:VH C CR CW H o as)(bk:BkAt H k b t)(sp:Sep o k)(kb:Kb [k.dr,k.dw,k.dp] H H1)(ad:∀x∈k'.ad,x∈k.ad∨H x=none):VH C CR CW H1 o as∧Sep o k':=by
 refine ⟨v.frame kb bk.dl λx hx z=>sp x hx ?_,λx hx hk=>?_⟩
 ·unfold Bk.ad
  simp only [ae,af,aG] at z ⊢
  rcases z with z|z|z <;> simp [z]
 ·rcases ad x hk with y|y
  ·exact sp x hx y
  ·obtain ⟨u,e⟩:=v.occ x hx
   rw [y] at e;cases e
structure J2 (C CR CW:Aj)(H:Hp)(o:Ho)(k:Bk)(a:AH)(as:List AH)(p:Ho)(l:Bk)(b:AH)(bs:List AH)(NM:List Str):Prop where
 j1:JS C CR CW H o k a as NM
 j2:JS C CR CW H p l b bs NM
 ap:Ap o p
 s1:Sep o l
 s2:Sep p k
 k1:∀x∈[k.dr,k.dw,k.dp],x∉l.ad
 k2:∀x∈[l.dr,l.dw,l.dp],x∉k.ad
variable {l:Bk}
theorem J2.done {CR:Aj}{k:Bk}{p:Ho}{b:AH}{bs:List AH}(j:J2 C CR CW H o k a as p l b bs NM){k':Bk}(kb:Kb [k.dr,k.dw,k.dp] H H1)(e1:k'.dr=k.dr)(e2:k'.dw=k.dw)(e3:k'.dp=k.dp)(ad:∀x∈k'.ad,x∈k.ad∨H x=none) :
  VH C CR CW H1 o (a::as)∧Sep o k'∧JS C CR CW H1 p l b bs NM∧Sep p k'∧(∀x∈[k'.dr,k'.dw,k'.dp],x∉l.ad)∧∀x∈[l.dr,l.dw,l.dp],x∉k'.ad:=by
 obtain ⟨v,sp⟩:=vdone j.j1.v j.j1.bk j.j1.sp kb ad
 obtain ⟨v',sp'⟩:=vdone j.j2.v j.j1.bk j.s2 kb ad
 refine ⟨v,sp,⟨v',j.j2.bk.kb j.j1.bk.dl kb λx hx z=>j.k1 x z hx,j.j2.sp,j.j2.bo,j.j2.ln⟩,sp',by rw [e1,e2,e3];exact j.k1,λx hx hk=>?_⟩
 rcases ad x hk with y|y
 ·exact j.k2 x hx y
 ·obtain ⟨u,e⟩:=j.j2.bk.occ x (by unfold Bk.ad;simp only [ae,af,aG] at hx ⊢;rcases hx with h|h|h <;> simp [h])
  rw [y] at e;cases e
theorem told2 {CR:Aj}{p:Ho}{b:AH}{bs:List AH}{ans:Ans}(v:VH C CR CW H1 o (a::as))(cg:Chg C CR CW H1 H2 o o' (a::as) as' d wd ans)(jp:JS C CR CW H1 p l b bs NM)(ap:Ap o p)(s1:Sep o l):JS C CR CW H2 p l b bs (d.nm::NM)∧Ap o' p∧Sep o' l:=by
 have bo':∀x∈b::bs,BOk (d.nm::NM) x.bk:=λx hx=>(jp.bo x hx).mono λn hn=>au _ hn
 rcases cg with ⟨_,a0,t0,a1,e0,es,_,_,nx,kb⟩|⟨_,a0,t0,e0,es,nw,_,_,rfl,s⟩|⟨_,_,⟨a0,e0,_,_,rfl,s⟩|⟨a0,a1,t0,e,e0,_,_,pv,ed,kb,dl,rdk⟩⟩
 ·obtain ⟨e,ed,n1,n2⟩:=nx.ds
  refine ⟨⟨ap.stay v.h jp.v kb,jp.bk.kb v.h.dl kb λx hx z=>?_,jp.sp,bo',jp.ln⟩,ap.nxt jp.v.h nx,λx hx hk=>?_⟩
  ·simp only [ae,af,aG] at z
   rcases z with z|z|z <;> exact s1 x (by simp [z]) hx
  ·rw [nx.dr,nx.dw,nx.dd,ed] at hx
   have hx:x∈o.dr::o.dw::o.dd::e.q1::e.q2::ym o.ds:=hx
   obtain ⟨u,eu⟩:=jp.bk.occ x hk
   simp only [ae] at hx
   rcases hx with hx|hx|hx|hx|hx|hx
   ·exact s1 x (by simp [hx]) hk
   ·exact s1 x (by simp [hx]) hk
   ·exact s1 x (by simp [hx]) hk
   ·rw [hx,n1] at eu;cases eu
   ·rw [hx,n2] at eu;cases eu
   ·exact s1 x (by simp [hx]) hk
 ·exact ⟨⟨jp.v.same s,jp.bk.same s,jp.sp,bo',jp.ln⟩,ap,s1⟩
 ·exact ⟨⟨jp.v.same s,jp.bk.same s,jp.sp,bo',jp.ln⟩,ap,s1⟩
 ·have hin:∀x,x∈o.dr::o.dw::o.dd::e.q1::e.q2::ym o'.ds→x∈o.dr::o.dw::o.dd::ym o.ds:=λx hx=>by
   rw [ed]
   exact hx
  refine ⟨⟨ap.back v.h ed jp.v kb dl rdk,jp.bk.kb dl kb λx hx z=>s1 x (hin x ?_) hx,jp.sp,bo',jp.ln⟩,ap.prv pv,λx hx hk=>s1 x (hin x ?_) hk⟩
  ·simp only [ae,af,aG] at z ⊢
   rcases z with h|h|h|h|h <;> simp [h]
  ·rw [pv.dr,pv.dw,pv.dd] at hx
   simp only [ae] at hx ⊢
   rcases hx with h|h|h|h <;> simp [h]
theorem J2.twin {CR:Aj}{k:Bk}(j:JS C CR CW H o k a as NM){x' dr' dw' dd' er ew ep:Aj}(s:Same H H1)(n1:H x'=none)(n2:H dr'=none)(n3:H dw'=none)(n4:H dd'=none)(h':Hse C H1 x' dr' dw' dd' o.R o.W (uf o.ds))(s2:Same H1 H2)(m1:H1 er=none)(m2:H1 ew=none)(m3:H1 ep=none)(ne:er≠ew)(f1:H2 er=some (.dK k.R))(f2:H2 ew=some (.dK k.W))(f3:H2 ep=some (.lst (tpL k.ps))) :
  J2 C CR CW H2 o k a as ⟨x',dr',dw',dd',o.R,o.W,o.ds⟩ ⟨er,ew,ep,k.R,k.W,k.ps⟩ a as NM:=by
 obtain ⟨vp,ap⟩:=j.v.twin s n1 n2 n3 n4 h'
 have b1:=j.bk.same s
 have b2:=b1.same s2
 have kps:∀x∈k.ps.flatMap λp=>[p.q1,p.q2],x∈k.ad:=λx hx=>au _ (au _ (au _ hx))
 have lad:∀x,(∃u,H1 x=some u)→x∉(k.ps.flatMap λp=>[p.q1,p.q2])→x∉er::ew::ep::k.ps.flatMap λp=>[p.q1,p.q2]:=λx ⟨u,e⟩ n z=>by
  simp only [ae] at z
  rcases z with rfl|rfl|rfl|z
  ·rw [m1] at e;cases e
  ·rw [m2] at e;cases e
  ·rw [m3] at e;cases e
  ·exact n z
 have spk:Sep ⟨x',dr',dw',dd',o.R,o.W,o.ds⟩ k:=λx hx hk=>by
  obtain ⟨u,e⟩:=j.bk.occ x hk
  have hx:x∈dr'::dw'::dd'::ym o.ds:=hx
  simp only [ae] at hx
  rcases hx with rfl|rfl|rfl|z
  ·rw [n2] at e;cases e
  ·rw [n3] at e;cases e
  ·rw [n4] at e;cases e
  ·exact j.sp x (by simp [z]) hk
 refine ⟨⟨(j.v.same s).same s2,b2,j.sp,j.bo,j.ln⟩,⟨vp.same s2,⟨⟨f1,f2,ne,b2.b2.bp⟩,f3,b2.ps,λp hp=>?_⟩,λx hx=>lad x (vp.occ x hx) λz=>spk x hx (kps x z),j.bo,j.ln⟩,ap,λx hx=>lad x ((j.v.same s).occ x hx) λz=>j.sp x hx (kps x z),spk,λx hx=>?_,λx hx hk=>?_⟩
 ·obtain ⟨⟨_,e1⟩,⟨_,e2⟩⟩:=b1.ps.occ p hp
  exact ⟨⟨qh e1 m1,qh e1 m2⟩,qh e2 m1,qh e2 m2⟩
 ·have hk:x∈k.ad:=by
   unfold Bk.ad
   simp only [ae,af,aG] at hx ⊢
   rcases hx with h|h|h <;> simp [h]
  refine lad x (b1.occ x hk) λz=>?_
  obtain ⟨p,hp,z⟩:=ca.mp z
  obtain ⟨⟨_,e1⟩,⟨_,e2⟩⟩:=b1.ps.occ p hp
  obtain ⟨⟨a1,a2⟩,a3,a4⟩:=b1.nq p hp
  simp only [ae,af,aG] at hx z
  rcases hx with rfl|rfl|rfl <;> rcases z with z|z
  ·exact a1 z.symm
  ·exact a3 z.symm
  ·exact a2 z.symm
  ·exact a4 z.symm
  ·rw [←z,b1.p] at e1;cases e1
  ·rw [←z,b1.p] at e2;cases e2
 ·obtain ⟨u,e⟩:=b1.occ x hk
  have hx:x∈[er,ew,ep]:=hx
  simp only [ae,af,aG] at hx
  rcases hx with rfl|rfl|rfl
  ·rw [m1] at e;cases e
  ·rw [m2] at e;cases e
  ·rw [m3] at e;cases e
def Kl (K:Aa)(cs:List Aj)(H:Hp)(a:Aj)(xs:List V):Prop:=SqL K H a xs∧((∀H',SqL K H' a xs)∨∀c∈cs,a≠c)
variable {cs:List Aj}
theorem Kl.dc {a:Aj}(h:Kl K cs H a xs){c:Aj}{ch:List Aj}(d:Dc H c ch)(k:Kb ch H H')(hc:c∈cs):Kl K cs H' a xs:=⟨d.sql k h.1 (h.2.imp id λz=>z c hc),h.2⟩
theorem Kl.same {a:Aj}(h:Kl K cs H a xs)(s:Same H H'):Kl K cs H' a xs:=⟨s.sql h.1,h.2⟩
structure LL2 (K:Aa)(C CR CW:Aj)(cs:List Aj)(sc q lf lg:Aj)(ns:List Int)(ss:List Str)(n:Nat)(H:Hp)(o:Ho)(k:Bk)(a:AH)(as:List AH)(p:Ho)(l:Bk)(b:AH)(bs:List AH)(NM:List Str):Prop where
 j:J2 C CR CW H o k a as p l b bs NM
 s:Kl K cs H sc (ns.map V.int)
 f:Kl K cs H lf [.ref k.dp,.ref k.dr,.ref k.dw]
 g:Kl K cs H lg [.ref l.dp,.ref l.dr,.ref l.dw]
 q:NmsAt H q ss
 nN:NM.length≤n
 n1:as.length≤n
 n2:bs.length≤n
 m1:o.dd∈cs
 m2:k.dp∈cs
 m3:p.dd∈cs
 m4:l.dp∈cs
variable {sc lf lg:Aj}
theorem LL2.symm {CR:Aj}{n:Nat}{k:Bk}{p:Ho}{b:AH}{bs:List AH}(h:LL2 K C CR CW cs sc q lf lg ns ss n H o k a as p l b bs NM):LL2 K C CR CW cs sc q lg lf ns ss n H p l b bs o k a as NM :=
 ⟨⟨h.j.j2,h.j.j1,h.j.ap.symm,h.j.s2,h.j.s1,h.j.k2,h.j.k1⟩,h.s,h.g,h.f,h.q,h.nN,h.n2,h.n1,h.m3,h.m4,h.m1,h.m2⟩
theorem LL2.same {CR:Aj}{n:Nat}{k:Bk}{p:Ho}{b:AH}{bs:List AH}(h:LL2 K C CR CW cs sc q lf lg ns ss n H o k a as p l b bs NM)(s:Same H H'):LL2 K C CR CW cs sc q lf lg ns ss n H' o k a as p l b bs NM :=
 ⟨⟨h.j.j1.same s,h.j.j2.same s,h.j.ap,h.j.s1,h.j.s2,h.j.k1,h.j.k2⟩,h.s.same s,h.f.same s,h.g.same s,h.q.same s,h.nN,h.n1,h.n2,h.m1,h.m2,h.m3,h.m4⟩
theorem LL2.step {CR:Aj}{n:Nat}{k:Bk}{p:Ho}{b:AH}{bs:List AH}{t':List BA}{wd2:Str}{ans ans2:Ans}(h:LL2 K C CR CW cs sc q lf lg ns ss n H o k a as p l b bs NM)(kb:Kb [k.dr,k.dw,k.dp] H H2)(bk2:BkAt H2 k' b' t')(e1:k'.dr=k.dr)(e2:k'.dw=k.dw)(e3:k'.dp=k.dp)(ad:∀x∈k'.ad,x∈k.ad∨H x=none)(dr:xqu a.bk (as.map AH.bk) d wd ans b' t')(cg:Chg C CR CW H2 H3 o o' (a::as) as' d wd2 ans2)(v3:VH C CR CW H3 o' as')(an:AnsAt H2 v ans)(fr:∀c,v=.ref c→H c=none) :
  wd2=wd∧ans2=ans∧o'.x=o.x∧AnsAt H3 v ans∧(∀x xs,H2 x=some (.tup xs)→H3 x=some (.tup xs))∧∃a' s',as'=a'::s'∧LL2 K C CR CW cs sc q lf lg ns ss (n+1) H3 o' k' a' s' p l b bs (d.nm::NM):=by
 obtain ⟨v2,sp2,jp2,sp',k1,k2⟩:=h.j.done kb e1 e2 e3 ad
 obtain ⟨ew,ea,⟨a',s',es,js3,ls⟩,ox,od,ch,kc,dlc,dcc⟩:=wzz v2 bk2 sp2 h.j.j1.bo h.j.j1.ln dr cg v3
 obtain ⟨jp3,ap3,sl3⟩:=told2 v2 cg jp2 h.j.ap h.j.s1
 have dlb:=h.j.j1.bk.dl
 have dcb:=dc_bk h.j.j1.bk
 have l1:=h.nN
 have l2:=h.n1
 have l3:=h.n2
 refine ⟨ew,ea,ox,dcc.ans dlc kc an λc e z=>?_,λx xs e=>dlc.tup kc e,a',s',es,⟨⟨js3,jp3,ap3,sl3,sp',k1,k2⟩,(h.s.dc dcb kb h.m2).dc dcc kc h.m1,by rw [e1,e2,e3];exact (h.f.dc dcb kb h.m2).dc dcc kc h.m1,(h.g.dc dcb kb h.m2).dc dcc kc h.m1,(h.q.kb dlb kb).kb dlc kc,by rw [aO];lia,⋯,⋯,by rw [od];exact h.m1,by rw [e3];exact h.m2,h.m3,h.m4⟩⟩
 have:=fr c e
 obtain ⟨u,eu⟩:=h.j.j1.v.occ o.dd (by simp)
 rw [z,eu] at this;cases this
def I54a (K:Aa)(C CR CW a q lf:Aj)(ns:List Int)(ss:List Str)(i:Nat)(σ:St)(Hx:Hp):Prop:=∃o kb z4 z5 z6,σ=[some (.ref a),some (.ref q),some (.ref o.x),some (.ref lf),z4,z5,z6,none,none,none,none]∧∃ah as NM,JS C CR CW Hx o kb ah as NM∧Kl K [o.dd,kb.dp] Hx a (ns.map V.int)∧Kl K [o.dd,kb.dp] Hx lf [.ref kb.dp,.ref kb.dr,.ref kb.dw]∧NmsAt Hx q ss∧NM.length≤i∧as.length≤i
def I54b (K:Aa)(C CR CW:Aj)(cs:List Aj)(a q lf lg:Aj)(ns:List Int)(ss:List Str)(i:Nat)(σ:St)(Hy:Hp):Prop:=∃o' kb' ah as p l b bs NM z4 z5 z6 z9 z10,σ=[some (.ref a),some (.ref q),some (.ref o'.x),some (.ref lf),z4,z5,z6,some (.ref p.x),some (.ref lg),z9,z10]∧LL2 K C CR CW cs a q lf lg ns ss (7+i) Hy o' kb' ah as p l b bs NM
def I54c (K:Aa)(C CR CW:Aj)(cs:List Aj)(a q lf lg da:Aj)(ns:List Int)(ss:List Str)(i:Nat)(σ:St)(Hw:Hp):Prop:=∃o kb ah as p l b bs NM qd v w2 wd ans,σ=[some (.ref a),some (.ref q),some (.ref o.x),some (.ref lf),some (.int (0+(i:Int))),some (.ref da),some (.ref qd),some (.ref p.x),some (.ref lg),some (.str wd),some w2]∧LL2 K C CR CW cs a q lf lg ns ss (7+i+1) Hw o kb ah as p l b bs NM∧Hw qd=some (.tup [.str wd,v])∧AnsAt Hw w2 ans∧AnsAt Hw v ans
theorem bc {p:Prop}:(¬ p→False)→p:=cf
theorem Kl.more {cs':List Aj}{a:Aj}(h:Kl K cs H a xs)(n:∀c∈cs',H c=none):Kl K (cs++cs') H a xs:=by
 refine ⟨h.1,?_⟩
 rcases wwc h.1 with z|⟨u,e,_⟩
 ·exact .inl z
 ·exact h.2.imp id λz c hc=>(bi.mp hc).elim (z c) λhc=>qh e (n c hc)
theorem nms_of {L:List (List Nat)}(f:H q=some (.lst (L.map λcs=>V.str (y8 cs))))(l:L.length=5)(h:∀cs∈L,Lets cs∧1≤cs.length∧cs.length≤12):NmsAt H q (L.map y8):=by
 refine ⟨by rw [f,bK];rfl,by rw [aa];exact l,λs hs=>?_⟩
 obtain ⟨cs,hc,rfl⟩:=ax.mp hs
 rw [Wq]
 exact (h cs hc).2.2
theorem bk_nil {d1 d2:Aj}(e1:H d1=some (.dK []))(e2:H d2=some (.dK []))(ne:d1≠d2)(e3:H p=some (.lst [])):BkAt H ⟨d1,d2,p,[],[],[]⟩ AH.nil.bk [] :=
 ⟨⟨e1,e2,ne,⟨aS,aS,(λm v e=>nomatch e),(λm v e=>nomatch e),(λn=>rfl),(λn=>rfl)⟩⟩,e3,trivial,(λp hp=>nomatch hp)⟩
include T in
theorem zjc (F:Fun K "law" "law" zc9 f fd)(zaa:Cal P w K mg base "_law_pick" 2 (Wy K))(zjd:Cal P w K mg base "_law_names" 3 (qx0 K))(zdk:CCal P w K mg base "House" qq 1 (qqb qq))(zho:Cal P w K mg base "_law_deed" 4 (qj0 K))(zdp:Cal P w K mg base "_law_done" 5 www)(zdq:Cal P w K mg base "_law_told" 10 (wq8 qq wq qy))(zje:MCal P w K mg base qq "twin" 3 (wxh qq))(zhp:Cal P w K mg base "_law_alike" 4 (spAl qq wq qy))(zjf:Cal P w K mg base "_law_answer" 3 wy3) :
  FK P w K mg base 11 f fd ["_law_script"] (wzt K):=by
 have sc:=zh0
 refine F.okX sc (λvs H Q E h=>by obtain ⟨_,_,rfl,_⟩:=h;rfl) λ_ _ _ s H vs Q E hr h=>?_
 obtain ⟨a,ns,rfl,hS,hl,k⟩:=h
 refine ⟨_,(qu (xj (i:=1) (wCA zjd (wz (pv 0) (xb qk qz))))
   (qu (xj (i:=2) (qv4 zdk (hr.mono ⋯) rfl qf))
   (qu (xj (i:=3) (yk (pa_cL (yk qz) (xm jw (xm jw qz)))))
   (qu (yb be rfl (uy rfl T.range_ (vk (xk zu qk (wCA zaa (wz (pv 0) (xb qk (xb qk (xb qk qz)))))) qz)) (xp (i:=4)) (qu (xj (i:=5) (wCA zho (wz (pv 0) (vk (xk zu qk (pv 4)) (wz (pv 1) qz)))))
   (qu (xj (i:=6) (wCA zdp (zq (xq zk (pv 3) qk (λ_ _=>rfl)) (zq (xq zk (pv 3) qk (λ_ _=>rfl)) (zq (xq zk (pv 3) qk (λ_ _=>rfl)) (wz (pv 5) qz))))))
   (qm (xh (wm Zw (xq xv (wCA zdq (wz (pv 2) (wz (pv 5) qz))) qk (λ_ _=>rfl)) (xq xv (pv 6) qk (λ_ _=>rfl)) (w6 _)) (qm (wn j9)) wt)))))
   (qu (xj (i:=7) (kj (pv 2) T.clH zje (hr.mono ⋯) qf))
   (qu (xj (i:=8) (yk (vd (zn jd rfl T.list_ aZ (zq (xq zk (pv 3) qk (λ_ _=>rfl)) qz)) (vd (zn yf rfl T.dict_ bR (zq (xq zk (pv 3) qk (λ_ _=>rfl)) qz)) (vd (zn yf rfl T.dict_ bR (zq (xq zk (pv 3) qk (λ_ _=>rfl)) qz)) qz)))))
   (qu (yb be rfl (uy rfl T.range_ (vk (xk zu qk (wCA zaa (wz (pv 0) (xb qk (xb qk (xb qk qz)))))) qz)) (xp (i:=4)) (qu (xj (i:=5) (wCA zho (wz (pv 0) (vk (xk zu qk (pv 4)) (wz (pv 1) qz)))))
   (jb (xh (wm zf (wCA zaa (wz (pv 0) (vk (xk zu qk (pv 4)) (xb qk (xb qk qz))))) qk (w6 _)) (qm (xj (i:=5) (zx (xb qk (xb x6 qz))))) wt)
   (jb (xh (wm zf (wCA zaa (wz (pv 0) (vk (xk zu qk (pv 4)) (xb qk (xb qk qz))))) qk (w6 _)) (qu (xj (i:=6) (wCA zdp (zq (xq zk (pv 3) qk (λ_ _=>rfl)) (zq (xq zk (pv 3) qk (λ_ _=>rfl)) (zq (xq zk (pv 3) qk (λ_ _=>rfl)) (wz (pv 5) qz))))))
   (qm (jn (wCA zdq (wz (pv 2) (wz (pv 5) qz))) (jy rfl (x4 (xp (i:=9)) (x4 (xp (i:=10)) vc)))))) (qu (xj (i:=6) (wCA zdp (zq (xq zk (pv 8) qk (λ_ _=>rfl)) (zq (xq zk (pv 8) qk (λ_ _=>rfl)) (zq (xq zk (pv 8) qk (λ_ _=>rfl)) (wz (pv 5) qz))))))
   (qm (jn (wCA zdq (wz (pv 7) (wz (pv 5) qz))) (jy rfl (x4 (xp (i:=9)) (x4 (xp (i:=10)) vc)))))))
   (qu (xh (PW.pt (jm (wm Zw (pv 9) (xq xv (pv 6) qk (λ_ _=>rfl)) (w6 _)) (k7 (jz (vm (wCA zjf (wz (pv 10) (zq (xq xv (pv 6) qk (λ_ _=>rfl)) qz)))))))) (qm (wn j9)) wt)
   (qu (xh (jz (vm (wCA zhp (wz (pv 2) (zq (xq zk (pv 3) qk (λ_ _=>rfl)) (zq (xq zk (pv 3) qk (λ_ _=>rfl)) (zq (xq zk (pv 3) qk (λ_ _=>rfl)) qz))))))) (qm (wn j9)) wt)
   (qm (xh (PW.pt (jm (jz (vm (xz qyx rfl T.isinstance_ aR (xm (pv 7) (xm (u6 (v:=V.ref qq) rfl T.zhj rfl) qz))))) (k7 (jz (vm (wCA zhp (wz (pv 7) (zq (xq zk (pv 8) qk (λ_ _=>rfl)) (zq (xq zk (pv 8) qk (λ_ _=>rfl)) (zq (xq zk (pv 8) qk (λ_ _=>rfl)) qz)))))))))) (qm (wn j9)) wt))))))))
   (qm (wn j9))))))))),?_⟩
 dsimp only [ug]
 refine gI rfl ⟨a,ns,gI rfl ⟨hS,⋯,λq L H1 s1 nq fq lL hL nd=>?_⟩⟩
 have hq:=nms_of fq lL hL
 refine λx d9 nx nd9 ne9=>⟨x,d9,rfl,qc,λH4 dr dw dd n1' n2' n3' hse kb1=>⟨rfl,?_⟩⟩
 have s4':Same H1 H4:=λz o e=>kb1 z o (λy=>by rw [aq.mp y,nx] at e;cases e) (by rw [wf (qh e nx),wf (qh e nd9)];exact e)
 have fresh:∀ {b},upd (upd H1 d9 (HO.own x)) x (HO.ins qq d9 []) b=none→H1 b=none:=λ{b} m=>by
  cases e:H1 b with
  |none=>rfl
  |some o=>rw [wf (qh e nx),wf (qh e nd9),e] at m;cases m
 have ndd:=fresh n3'
 have hS1:=s1.sql hS
 have v4:VH qq wq qy H4 ⟨x,dr,dw,dd,[],[],[]⟩ [AH.nil]:=VH.nil hse
 refine ⟨sz0,λlp nlp=>?_⟩
 have s5:=Same.upd (H:=H4) (o:=.lst []) nlp
 have f5:upd H4 lp (.lst []) lp=some (.lst []):=qc
 generalize upd H4 lp (.lst [])=H5 at s5 f5
 refine λd1 n1=>?_
 have s6:=Same.upd (H:=H5) (o:=.dK []) n1
 have f6:upd H5 d1 (.dK []) d1=some (.dK []):=qc
 generalize upd H5 d1 (.dK [])=H6 at s6 f6
 refine λd2 n2=>?_
 have ne12:d1≠d2:=qh f6 n2
 have s7:=Same.upd (H:=H6) (o:=.dK []) n2
 have f7:upd H6 d2 (.dK []) d2=some (.dK []):=qc
 generalize upd H6 d2 (.dK [])=H7 at s7 f7
 refine ⟨sz3,λlf nlf=>?_⟩
 have s8:=Same.upd (H:=H7) (o:=.lst [.ref lp,.ref d1,.ref d2]) nlf
 have f8:upd H7 lf (.lst [.ref lp,.ref d1,.ref d2]) lf=some (.lst [.ref lp,.ref d1,.ref d2]):=qc
 generalize upd H7 lf (.lst [.ref lp,.ref d1,.ref d2])=H8 at s8 f8
 have s57:=(s5.trans s6).trans s7
 have s58:=s57.trans s8
 have bk0:BkAt H8 ⟨d1,d2,lp,[],[],[]⟩ AH.nil.bk []:=bk_nil ((s7.trans s8) _ _ f6) (s8 _ _ f7) ne12 ((s6.trans (s7.trans s8)) _ _ f5)
 have sp0:Sep ⟨x,dr,dw,dd,[],[],[]⟩ ⟨d1,d2,lp,[],[],[]⟩:=λy hy hk=>by
  obtain ⟨u,eu⟩:=v4.occ y hy
  have hk:y∈[d1,d2,lp]:=hk
  simp only [ae,af,aG] at hk
  rcases hk with rfl|rfl|rfl
  ·rw [xy s5 n1] at eu;cases eu
  ·rw [xy (s5.trans s6) n2] at eu;cases eu
  ·rw [nlp] at eu;cases eu
 have js0:JS qq wq qy H8 ⟨x,dr,dw,dd,[],[],[]⟩ ⟨d1,d2,lp,[],[],[]⟩ AH.nil [] []:=⟨v4.same s58,bk0,sp0,λy hy=>by rw [aq.mp hy];exact BOk.nil,rfl⟩
 have kS:Kl K [dd,lp] H8 a (ns.map V.int):=⟨(s4'.trans s58).sql hS1,(wwc hS1).imp id λ⟨u,e,_⟩ c hc=>by
  simp only [ae,af,aG] at hc
  rcases hc with rfl|rfl
  ·exact qh e ndd
  ·exact qh (s4' _ _ e) nlp⟩
 have kf:Kl K [dd,lp] H8 lf [.ref lp,.ref d1,.ref d2]:=⟨SqL.of f8,.inr λc hc=>by
  simp only [ae,af,aG] at hc
  rcases hc with rfl|rfl
  ·exact (qh (s57 _ _ v4.h.hs.d) nlf).symm
  ·exact (qh ((s6.trans s7) _ _ f5) nlf).symm⟩
 have hq8:=hq.same (s4'.trans s58)
 refine gI rfl ⟨a,ns,_,_,_,rfl,kS.1,⋯,⋯,⋯,⋯,λr0 _ l0 u0=>?_⟩
 refine xu rfl rfl ⟨2+r0,rfl,⋯,⋯,qxc (I54a K qq wq qy a q lf ns (L.map y8)) ⟨⟨x,dr,dw,dd,[],[],[]⟩,⟨d1,d2,lp,[],[],[]⟩,_,_,_,rfl,AH.nil,[],[],js0,kS,kf,hq8,aD _,aD _⟩ ?_ ?_⟩
 ·intro _ _ i σ Hx hi hI
  refine bc λG=>?_
  obtain ⟨o,kb,z4,z5,z6,eσ,ah,as,NM,js,hSx,hfx,hqx,lN,lA⟩:=hI
  refine G ?_
  clear G
  subst eσ
  have hi24:i<8:=by lia
  refine gI rfl (gI rfl (xu rfl rfl (gI rfl ⟨a,q,ns,_,_,rfl,hSx.1,⋯,hqx,λda d H1 s1 dd1=>?_⟩)))
  have js1:=js.same s1
  have hf1:=hfx.same s1
  refine ⟨_,rfl,_,_,_,_,rfl,rfl,hf1.1,rfl,_,rfl,_,_,_,_,rfl,rfl,hf1.1,rfl,_,rfl,_,_,_,_,rfl,rfl,hf1.1,rfl,_,rfl,kb,da,ah.bk,as.map AH.bk,d,NM,rfl,js1.bk,js1.bo ah (ay ..),⋯,by rw [aa];lia,dd1,λqd v H2 k' b' t' wd ans dr2 bk2 kb2 e1 e2 e3 ad fqd an fr=>?_⟩
  obtain ⟨v2,sp2⟩:=js1.done kb2 ad
  have dlb:=js1.bk.dl
  have dcb:=dc_bk js1.bk
  refine ⟨_,rfl,_,rfl,o,da,ah,as,d,NM,rfl,v2,dd1.kb dlb kb2,js1.bo ah (ay ..),⋯,by rw [js.ln];lia,js.ln,λq2 w2 H3 H3' o' as' wd2 ans2 cg v3 an2 nq2 eH=>?_⟩
  refine bc λG=>?_
  obtain ⟨rfl,rfl,⟨a',s',rfl,js3,ls⟩,ox,od,ch,kc,dlc,dcc⟩:=wzz v2 bk2 sp2 js1.bo js.ln dr2 cg v3
  refine G ?_
  clear G
  have s4:Same H3 H3':=by rw [eH];exact Same.upd nq2
  have f4:H3' q2=some (.tup [.str wd2,w2]):=by rw [eH];exact qc
  have fqd4:=s4 _ _ (dlc.tup kc fqd)
  refine gX rfl rfl (SqT.of f4) rfl (gI rfl (gX rfl rfl (SqT.of fqd4) rfl ⟨rfl,_,rfl,qku (λz=>absurd rfl z) (λ_=>?_)⟩))
  refine ⟨o',k',_,_,_,by rw [ox];rfl,a',s',d.nm::NM,js3.same s4,?_,?_,((((hqx.same s1).kb dlb kb2).kb dlc kc).same s4),by rw [aO];lia,⋯⟩
  ·rw [od,e3]
   exact (((hSx.same s1).dc dcb kb2 (by simp)).dc dcc kc (by simp)).same s4
  ·rw [od,e1,e2,e3]
   exact ((hf1.dc dcb kb2 (by simp)).dc dcc kc (by simp)).same s4
 ·intro σ Hx hI
  refine bc λG=>?_
  obtain ⟨o,kb,z4,z5,z6,eσ,ah,as,NM,js,hSx,hfx,hqx,lN,lA⟩:=hI
  refine G ?_
  clear G
  subst eσ
  have l7:(2+r0).toNat≤7:=by lia
  obtain ⟨dx,hx⟩:=js.v.h.hs.ob
  refine gI rfl ⟨o.x,dx,gI rfl ⟨hx,x9,o.x,o.dr,o.dw,o.dd,o.R,o.W,gI rfl ⟨js.v.h.hs,λG1 x' dr' dw' dd' t1 t2 t3 t4 t5 hse1=>?_⟩⟩⟩
  have js1:=js.same t1
  have hf1:=hfx.same t1
  refine gI rfl (gX rfl rfl hf1.1 rfl ⟨_,_,rfl,.inl (SqL.of js1.bk.p),λep nep=>?_⟩)
  have u2:=Same.upd (H:=G1) (o:=.lst (tpL kb.ps)) nep
  have g2:upd G1 ep (.lst (tpL kb.ps)) ep=some (.lst (tpL kb.ps)):=qc
  generalize upd G1 ep (.lst (tpL kb.ps))=G2 at u2 g2
  refine gI rfl (gX rfl rfl ((hf1.same u2).1) rfl ⟨_,_,rfl,.inl (js1.same u2).bk.b2.r,λer ner=>?_⟩)
  have u3:=Same.upd (H:=G2) (o:=.dK kb.R) ner
  have g3:upd G2 er (.dK kb.R) er=some (.dK kb.R):=qc
  generalize upd G2 er (.dK kb.R)=G3 at u3 g3
  have u23:=u2.trans u3
  refine gI rfl (gX rfl rfl ((hf1.same u23).1) rfl ⟨_,_,rfl,.inl (js1.same u23).bk.b2.w,λew new=>?_⟩)
  have ne34:er≠ew:=qh g3 new
  have u4:=Same.upd (H:=G3) (o:=.dK kb.W) new
  have g4:upd G3 ew (.dK kb.W) ew=some (.dK kb.W):=qc
  generalize upd G3 ew (.dK kb.W)=G4 at u4 g4
  have u24:=u23.trans u4
  refine ⟨sz3,λlg nlg=>?_⟩
  have u5:=Same.upd (H:=G4) (o:=.lst [.ref ep,.ref er,.ref ew]) nlg
  have g5:upd G4 lg (.lst [.ref ep,.ref er,.ref ew]) lg=some (.lst [.ref ep,.ref er,.ref ew]):=qc
  generalize upd G4 lg (.lst [.ref ep,.ref er,.ref ew])=G5 at u5 g5
  have u25:=u24.trans u5
  have u35:=u4.trans u5
  have jt:=J2.twin js t1 t2 t3 t4 t5 hse1 u25 (xy u2 ner) (xy u23 new) nep ne34 (u35 _ _ g3) (u5 _ _ g4) ((u3.trans u35) _ _ g2)
  have ncs:∀c∈[dd',ep],Hx c=none:=λc hc=>by
   simp only [ae,af,aG] at hc
   rcases hc with rfl|rfl
   ·exact t5
   ·exact xy t1 nep
  have kg:Kl K [o.dd,kb.dp,dd',ep] G5 lg [.ref ep,.ref er,.ref ew]:=⟨SqL.of g5,.inr λc hc=>by
   simp only [ae,af,aG] at hc
   rcases hc with rfl|rfl|rfl|rfl
   ·exact (qh (u24 _ _ js1.v.h.hs.d) nlg).symm
   ·exact (qh (u24 _ _ js1.bk.p) nlg).symm
   ·exact (qh (u24 _ _ hse1.d) nlg).symm
   ·exact (qh ((u3.trans u4) _ _ g2) nlg).symm⟩
  have kS5:=((hSx.more ncs).same t1).same u25
  have kf5:=((hfx.more ncs).same t1).same u25
  have hq5:=(hqx.same t1).same u25
  refine gI rfl ⟨a,ns,_,_,_,rfl,kS5.1,⋯,⋯,⋯,⋯,λr1 _ l1 u1=>?_⟩
  refine xu rfl rfl ⟨2+r1,rfl,⋯,⋯,qxc (I54b K qq wq qy [o.dd,kb.dp,dd',ep] a q lf lg ns (L.map y8)) ⟨o,kb,ah,as,_,_,ah,as,NM,_,_,_,_,_,rfl,⟨jt,kS5,kf5,kg,hq5,⋯,⋯,⋯,by simp,by simp,by simp,by simp⟩⟩ ?_ ?_⟩
  generalize [o.dd,kb.dp,dd',ep]=cs
  ·intro _ _ i σ Hy hi hI
   refine bc λG=>?_
   obtain ⟨o,kb,ah,as,p,l,b,bs,NM,z4,z5,z6,z9,z10,eσ,h⟩:=hI
   refine G ?_
   clear G
   subst eσ
   have hi24:i<11:=by lia
   refine gI rfl (gI rfl (xu rfl rfl (gI rfl ⟨a,q,ns,_,_,rfl,h.s.1,⋯,h.q,λda0 d0 H1 s1 dd0=>?_⟩)))
   have h1:=h.same s1
   refine ⟨λσ Hz=>∃da d,σ=[some (.ref a),some (.ref q),some (.ref o.x),some (.ref lf),some (.int (0+(i:Int))),some (.ref da),z6,some (.ref p.x),some (.ref lg),z9,z10]∧Same H1 Hz∧DdAt Hz da d,?_,?_⟩
   ·refine gI rfl (gI rfl (xu rfl rfl ⟨a,ns,_,_,_,rfl,h1.s.1,⋯,⋯,⋯,⋯,λr2 _ l2 u2=>⟨rfl,_,rfl,xn (λ_=>?_) (λ_=>?_)⟩⟩))
    ·exact ⟨sz2,λdb ndb=>⟨db,.back "",rfl,Same.upd ndb,qc⟩⟩
    ·exact ⟨da0,d0,rfl,Same.refl _,dd0⟩
   intro σ Hz hI
   refine bc λG=>?_
   obtain ⟨da,d,eσ,szz,ddz⟩:=hI
   refine G ?_
   clear G
   subst eσ
   have h2:=h1.same szz
   have hS:=h2.symm
   have nN:=h2.nN
   have n1':=h2.n1
   have n2':=h2.n2
   refine ⟨I54c K qq wq qy cs a q lf lg da ns (L.map y8) i,?_,?_⟩
   ·refine gI rfl (gI rfl (xu rfl rfl ⟨a,ns,_,_,_,rfl,h2.s.1,⋯,⋯,⋯,⋯,λr3 _ l3 u3=>⟨rfl,_,rfl,xn (λ_=>?_) (λ_=>?_)⟩⟩))
    ·refine ⟨_,rfl,_,_,_,_,rfl,rfl,h2.f.1,rfl,_,rfl,_,_,_,_,rfl,rfl,h2.f.1,rfl,_,rfl,_,_,_,_,rfl,rfl,h2.f.1,rfl,_,rfl,kb,da,ah.bk,as.map AH.bk,d,NM,rfl,h2.j.j1.bk,h2.j.j1.bo ah (ay ..),⋯,by rw [aa];lia,ddz,λqd v H2 k' b' t' wd ans dr2 bk2 kb2 e1 e2 e3 ad fqd an fr=>?_⟩
     refine ⟨_,rfl,_,rfl,o,da,ah,as,d,NM,rfl,(h2.j.done kb2 e1 e2 e3 ad).1,ddz.kb h2.j.j1.bk.dl kb2,h2.j.j1.bo ah (ay ..),⋯,by rw [h2.j.j1.ln];lia,h2.j.j1.ln,λq2 w2 H3 H3' o' as' wd2 ans2 cg v3 an2 nq2 eH=>?_⟩
     refine bc λG=>?_
     obtain ⟨rfl,rfl,ox,an3,tp,a',s',rfl,h3⟩:=h2.step kb2 bk2 e1 e2 e3 ad dr2 cg v3 an fr
     refine G ?_
     clear G
     have s4:Same H3 H3':=by rw [eH];exact Same.upd nq2
     have f4:H3' q2=some (.tup [.str wd2,w2]):=by rw [eH];exact qc
     refine ⟨q2,gI rfl ⟨SqT.of f4,rfl,_,_,rfl,_,_,rfl,rfl,?_⟩⟩
     exact ⟨o',k',a',s',p,l,b,bs,d.nm::NM,qd,v,w2,wd2,ans2,by rw [ox];rfl,(h3.same s4),s4 _ _ (tp _ _ fqd),an2.same s4,an3.same s4⟩
    ·refine ⟨_,rfl,_,_,_,_,rfl,rfl,hS.f.1,rfl,_,rfl,_,_,_,_,rfl,rfl,hS.f.1,rfl,_,rfl,_,_,_,_,rfl,rfl,hS.f.1,rfl,_,rfl,l,da,b.bk,bs.map AH.bk,d,NM,rfl,hS.j.j1.bk,hS.j.j1.bo b (ay ..),⋯,by rw [aa];lia,ddz,λqd v H2 k' b' t' wd ans dr2 bk2 kb2 e1 e2 e3 ad fqd an fr=>?_⟩
     refine ⟨_,rfl,_,rfl,p,da,b,bs,d,NM,rfl,(hS.j.done kb2 e1 e2 e3 ad).1,ddz.kb hS.j.j1.bk.dl kb2,hS.j.j1.bo b (ay ..),⋯,by rw [hS.j.j1.ln];lia,hS.j.j1.ln,λq2 w2 H3 H3' o' as' wd2 ans2 cg v3 an2 nq2 eH=>?_⟩
     refine bc λG=>?_
     obtain ⟨rfl,rfl,ox,an3,tp,a',s',rfl,h3⟩:=hS.step kb2 bk2 e1 e2 e3 ad dr2 cg v3 an fr
     refine G ?_
     clear G
     have s4:Same H3 H3':=by rw [eH];exact Same.upd nq2
     have f4:H3' q2=some (.tup [.str wd2,w2]):=by rw [eH];exact qc
     refine ⟨q2,gI rfl ⟨SqT.of f4,rfl,_,_,rfl,_,_,rfl,rfl,?_⟩⟩
     exact ⟨o,kb,ah,as,o',k',a',s',d.nm::NM,qd,v,w2,wd2,ans2,by rw [ox];rfl,(h3.same s4).symm,s4 _ _ (tp _ _ fqd),an2.same s4,an3.same s4⟩
   intro σ Hw hI
   refine bc λG=>?_
   obtain ⟨o,kb,ah,as,p,l,b,bs,NM,qd,v,w2,wd,ans,eσ,h3,fqd,an2,an3⟩:=hI
   refine G ?_
   clear G
   subst eσ
   have nN:=h3.nN
   have n1':=h3.n1
   have n2':=h3.n2
   refine gI rfl (gI rfl (gX rfl rfl (SqT.of fqd) rfl ⟨rfl,_,rfl,qku (λz=>absurd rfl z) (λ_=>?_)⟩))
   refine gI rfl (gI rfl (gX rfl rfl (SqT.of fqd) rfl ⟨w2,v,ans,rfl,an2,an3,λH5 s5=>(gI rfl (vg ?_))⟩))
   have h5:=h3.same s5
   have j1:=h5.j.j1
   refine ⟨_,rfl,_,rfl,_,_,_,_,rfl,rfl,h5.f.1,rfl,_,rfl,_,_,_,_,rfl,rfl,h5.f.1,rfl,_,rfl,_,_,_,_,rfl,rfl,h5.f.1,rfl,o,kb,ah,as,_,NM,rfl,j1.v,j1.bk,j1.sp,j1.bo ah (ay ..),⋯,by rw [j1.ln,aa],by rw [aa];lia,λH6 s6=>(gI rfl (vg ?_))⟩
   have h6:=h5.same s6
   have j2:=h6.j.j2
   obtain ⟨dx,hx⟩:=j2.v.h.hs.ob
   refine gI rfl ⟨_,_,rfl,TyOf.ins hx T.clH T.io.1 T.io.2.1 T.io.2.2.1 T.io.2.2.2,_,rfl,vg ?_⟩
   refine ⟨_,rfl,_,rfl,_,_,_,_,rfl,rfl,h6.g.1,rfl,_,rfl,_,_,_,_,rfl,rfl,h6.g.1,rfl,_,rfl,_,_,_,_,rfl,rfl,h6.g.1,rfl,p,l,b,bs,_,NM,rfl,j2.v,j2.bk,j2.sp,j2.bo b (ay ..),⋯,by rw [j2.ln,aa],by rw [aa];lia,λH7 s7=>(gI rfl (vg ?_))⟩
   exact ⟨o,kb,ah,as,p,l,b,bs,NM,_,_,_,_,_,rfl,h6.same s7⟩
  ·intro σ Hy hI
   refine bc λG=>?_
   obtain ⟨o,kb,ah,as,p,l,b,bs,NM,z4,z5,z6,z9,z10,eσ,_⟩:=hI
   refine G ?_
   clear G
   subst eσ
   exact k _
end
section
theorem all_mk {l:PySem.W.OpenLaw}{w:Ah}{K:Aa}{h:Heap}{mg:Str→Option Ag}{fa:Aj}{qp:Aj}{qg:Aj}{qx:Aj}{q8:Aj}{qb:Aj}{wv:Aj}{wu:Aj}{qr:Aj}{wj:Aj}{q9:Aj}{qj:Aj}{wy:Aj}{qw:Aj}{wq:Aj}{qy:Aj}{qq:Aj}{zhq:Tok}{zhr:Tok}{zhs:Tok}{zht:Tok}{zhu:Tok}{zhv:Tok}(X:K.In h)(G:h.Ns mainGlobals mg)(hfa:mg "law" = some (.ref fa))
  (zdr:DefIn K "_law_cell" zcb)
  (zds:DefIn K "_law_pick" zcc)
  (zdt:DefIn K "check_bottom" za7)
  (zdu:DefIn K "common_divisor" za8)
  (zdv:DefIn K "lowest" za9)
  (zdw:DefInD K "check_count" zay)
  (zdx:DefIn K "is_line" zbe)
  (zdy:DefIn K "trace" zbb)
  (zdz:DefIn K "spot" zbc)
  (zd0:DefIn K "led_to" zbd)
  (zd1:DefIn K "less" zba)
  (zd2:DefIn K "set_down" zbn)
  (zd3:DefIn K "is_name" zbo)
  (zd4:DefIn K "check_new_name" zbp)
  (zd5:DefIn K "exchange" zbq)
  (zd6:DefIn K "_law_step" zcl)
  (zd7:DefIn K "_law_trace" zcm)
  (zd8:DefIn K "_law_after" zcn)
  (zd9:DefIn K "_law_common" zcj)
  (zea:DefIn K "_law_low" zck)
  (zeb:DefIn K "_law_whole" zcx)
  (zec:DefIn K "_law_point" zcy)
  (zed:DefIn K "_law_numbers" zcz)
  (zee:DefIn K "_law_names" zcd)
  (zef:DefIn K "_law_line" zce)
  (zeg:DefIn K "_law_steps" zcf)
  (zeh:DefIn K "_law_named" zcg)
  (zei:DefIn K "_law_deed" zax)
  (zej:DefIn K "_law_good_name" zch)
  (zek:DefIn K "_law_good_line" zci)
  (zel:DefIn K "_law_named_new" zco)
  (zem:DefIn K "_law_changed" zcp)
  (zen:DefIn K "_law_beyond" zaz)
  (zeo:DefIn K "_law_gone" zcs)
  (zep:DefIn K "_law_roads_done" zcq)
  (zeq:DefIn K "_law_set" zcr)
  (zer:DefIn K "_law_walkers_done" zct)
  (zes:DefIn K "_law_done" zcu)
  (zet:DefIn K "_law_run" zcv)
  (zeu:DefIn K "_law_told" zcw)
  (zev:DefIn K "_law_walker_alike" zc0)
  (zew:DefIn K "_law_alike" za0)
  (zex:DefIn K "_law_answer" zc1)
  (zey:DefIn K "law" zc9)
  (zez:PySem.W.nsIn K mainGlobals "RoadError" = some (some (.ref qp)))
  (zc2:PySem.W.excIn K qp [.type "ValueError",.type "Exception",.type "BaseException",.type "object"] "ValueError.__new__" = true)
  (ze0:PySem.W.nsIn K mainGlobals "BadLine" = some (some (.ref qg)))
  (zad:PySem.W.excIn K qg [.type "ValueError",.type "Exception",.type "BaseException",.type "object"] "ValueError.__new__" = true)
  (ze1:PySem.W.nsIn K mainGlobals "BadBottom" = some (some (.ref qx)))
  (zaj:PySem.W.excIn K qx [.type "ValueError",.type "Exception",.type "BaseException",.type "object"] "ValueError.__new__" = true)
  (ze2:PySem.W.nsIn K mainGlobals "OffRoad" = some (some (.ref q8)))
  (zal:PySem.W.excIn K q8 [.type "ValueError",.type "Exception",.type "BaseException",.type "object"] "ValueError.__new__" = true)
  (ze3:PySem.W.nsIn K mainGlobals "BadCount" = some (some (.ref qb)))
  (zam:PySem.W.excIn K qb [.type "ValueError",.type "Exception",.type "BaseException",.type "object"] "ValueError.__new__" = true)
  (ze4:PySem.W.nsIn K mainGlobals "TooLong" = some (some (.ref wv)))
  (za1:PySem.W.excIn K wv [.type "ValueError",.type "Exception",.type "BaseException",.type "object"] "ValueError.__new__" = true)
  (ze5:PySem.W.nsIn K mainGlobals "BadRow" = some (some (.ref wu)))
  (za2:PySem.W.excIn K wu [.type "ValueError",.type "Exception",.type "BaseException",.type "object"] "ValueError.__new__" = true)
  (ze6:PySem.W.nsIn K mainGlobals "BadName" = some (some (.ref qr)))
  (zac:PySem.W.excIn K qr [.type "ValueError",.type "Exception",.type "BaseException",.type "object"] "ValueError.__new__" = true)
  (ze7:PySem.W.nsIn K mainGlobals "Taken" = some (some (.ref wj)))
  (zae:PySem.W.excIn K wj [.type "ValueError",.type "Exception",.type "BaseException",.type "object"] "ValueError.__new__" = true)
  (ze8:PySem.W.nsIn K mainGlobals "NoRoad" = some (some (.ref q9)))
  (zaf:PySem.W.excIn K q9 [.type "ValueError",.type "Exception",.type "BaseException",.type "object"] "ValueError.__new__" = true)
  (ze9:PySem.W.nsIn K mainGlobals "NoWalker" = some (some (.ref qj)))
  (zah:PySem.W.excIn K qj [.type "ValueError",.type "Exception",.type "BaseException",.type "object"] "ValueError.__new__" = true)
  (zfa:PySem.W.nsIn K mainGlobals "Stood" = some (some (.ref wy)))
  (zai:PySem.W.excIn K wy [.type "ValueError",.type "Exception",.type "BaseException",.type "object"] "ValueError.__new__" = true)
  (zfb:PySem.W.nsIn K mainGlobals "NothingDone" = some (some (.ref qw)))
  (zao:PySem.W.excIn K qw [.type "ValueError",.type "Exception",.type "BaseException",.type "object"] "ValueError.__new__" = true)
  (zfc:PySem.W.nsIn K mainGlobals "Road" = some (some (.ref wq)))
  (zfd:PySem.W.plainGet K wq Str.empty=true)
  (zfe:PySem.W.hasDictIn K wq=true)
  (zff:PySem.W.plainOver K wq=true)
  (zfg:PySem.W.findIn K (.ref wq) "__setattr__" = some (some (.builtin "object.__setattr__")))
  (zfh:PySem.W.makesIn K wq=true)
  (zfi:PySem.W.keepIn K (.ref wq)=true)
  (zfj:MethIn K wq "__init__" "Road.__init__" zbf)
  (zfk:MethIn K wq "width" "Road.width" zbg)
  (zfl:MethIn K wq "ends" "Road.ends" zbi)
  (zfm:MethIn K wq "corners" "Road.corners" zbh)
  (zfn:MethIn K wq "on_road" "Road.on_road" zbj)
  (zfo:MethIn K wq "at" "Road.at" zbk)
  (zfp:PySem.W.nsIn K mainGlobals "Walker" = some (some (.ref qy)))
  (zfq:PySem.W.plainGet K qy Str.empty=true)
  (zfr:PySem.W.hasDictIn K qy=true)
  (zfs:PySem.W.plainOver K qy=true)
  (zft:PySem.W.findIn K (.ref qy) "__setattr__" = some (some (.builtin "object.__setattr__")))
  (zfu:PySem.W.makesIn K qy=true)
  (zfv:PySem.W.keepIn K (.ref qy)=true)
  (zfw:MethIn K qy "__init__" "Walker.__init__" zbl)
  (zfx:MethIn K qy "gone" "Walker.gone" zbm)
  (zfy:PySem.W.nsIn K mainGlobals "House" = some (some (.ref qq)))
  (zfz:PySem.W.plainGet K qq Str.empty=true)
  (zf0:PySem.W.hasDictIn K qq=true)
  (zf1:PySem.W.plainOver K qq=true)
  (zf2:PySem.W.findIn K (.ref qq) "__setattr__" = some (some (.builtin "object.__setattr__")))
  (zf3:PySem.W.makesIn K qq=true)
  (zf4:PySem.W.keepIn K (.ref qq)=true)
  (zf5:MethIn K qq "__init__" "House.__init__" zbr)
  (zf6:MethIn K qq "road_called" "House.road_called" zbs)
  (zf7:MethIn K qq "walker_called" "House.walker_called" zbt)
  (zf8:MethIn K qq "deeds" "House.deeds" zb6)
  (zf9:MethIn K qq "do" "House.do" zbv)
  (zga:MethIn K qq "lay" "House.lay" zbw)
  (zgb:MethIn K qq "corners_of" "House.corners_of" zb8)
  (zgc:MethIn K qq "take_back" "House.take_back" zb5)
  (zgd:MethIn K qq "bend" "House.bend" zbx)
  (zge:MethIn K qq "widen" "House.widen" zby)
  (zgf:MethIn K qq "where" "House.where" zb9)
  (zgg:MethIn K qq "place" "House.place" zb1)
  (zgh:MethIn K qq "go" "House.go" zb3)
  (zgi:MethIn K qq "walkers_on" "House.walkers_on" zbu)
  (zgj:MethIn K qq "narrow" "House.narrow" zbz)
  (zgk:MethIn K qq "names" "House.names" zb7)
  (zgl:MethIn K qq "twin" "House.twin" zca)
  (zgm:MethIn K qq "together" "House.together" zb4)
  (zgn:MethIn K qq "leave" "House.leave" zb2)
  (zgo:MethIn K qq "clear" "House.clear" zb0)
  (zgp:PySem.W.findIn K (.ref wq) "heights" = some none)
  (zgq:PySem.W.findIn K (.ref qy) "whose" = some none)
  (zgr:PySem.W.findIn K (.ref qy) "point" = some none)
  (zgs:PySem.W.findIn K (.ref qy) "times" = some none)
  (zgt:PySem.W.findIn K (.ref qq) "roads" = some none)
  (zgu:PySem.W.findIn K (.ref qq) "walkers" = some none)
  (zgv:PySem.W.findIn K (.ref qq) "done" = some none)
  (zap:PySem.W.nsIn K mainGlobals "WIDEST" = some (some (.int 24 zhq)))
  (zaq:PySem.W.nsIn K mainGlobals "LONGEST_TRACE" = some (some (.int 1000 zhr)))
  (zak:PySem.W.nsIn K mainGlobals "FARTHEST" = some (some (.int 1000000000000000000000000000000000000000000000000000000000000 zhs)))
  (zar:PySem.W.nsIn K mainGlobals "LONGEST_NAME" = some (some (.int 12 zht)))
  (zas:PySem.W.nsIn K mainGlobals "GREATEST_BOTTOM" = some (some (.int 40 zhu)))
  (zat:PySem.W.nsIn K mainGlobals "LETTERS" = some (some (.str "abcdefghijklmnopqrstuvwxyz" zhv)))
  (o1:PySem.W.findIn K (.ref qq) "__class__" = some (some (.builtin "object.__class__")))
  (o2:PySem.W.specialIn K (.builtin "object.__class__") "__get__" = some (some (.builtin "getset_descriptor.__get__")))
  (o3:PySem.W.takesIn K (.builtin "object.__class__")=some true)
  (o4:PySem.W.mroIn K qq (.type "object")=some true)
  (ms:mR K wj qr∧mR K qg qr∧mR K qg wj∧mR K q9 qr∧mR K q9 wj∧mR K q9 qg∧mR K qj qr∧mR K qj wj∧mR K qj qg∧mR K qj q9∧mR K wy qr∧mR K wy wj∧mR K wy qg∧mR K wy q9∧mR K wy qj∧mR K qx qr∧mR K qx wj∧mR K qx qg∧mR K qx q9∧mR K qx qj∧mR K qx wy∧mR K q8 qr∧mR K q8 wj∧mR K q8 qg∧mR K q8 q9∧mR K q8 qj∧mR K q8 wy∧mR K q8 qx∧mR K qb qr∧mR K qb wj∧mR K qb qg∧mR K qb q9∧mR K qb qj∧mR K qb wy∧mR K qb qx∧mR K qb q8∧mR K qw qr∧mR K qw wj∧mR K qw qg∧mR K qw q9∧mR K qw qj∧mR K qw wy∧mR K qw qx∧mR K qw q8∧mR K qw qb)
  (zgw:PySem.W.nsIn K mainGlobals "tuple" = some none)
  (zgx:PySem.W.nsIn K mainGlobals "len" = some none)
  (zgy:PySem.W.nsIn K mainGlobals "abs" = some none)
  (zgz:PySem.W.nsIn K mainGlobals "range" = some none)
  (zg0:PySem.W.nsIn K mainGlobals "list" = some none)
  (zg1:PySem.W.nsIn K mainGlobals "min" = some none)
  (zg2:PySem.W.nsIn K mainGlobals "max" = some none)
  (zg3:PySem.W.nsIn K mainGlobals "all" = some none)
  (zg4:PySem.W.nsIn K mainGlobals "any" = some none)
  (zg5:PySem.W.nsIn K mainGlobals "sorted" = some none)
  (zg6:PySem.W.nsIn K mainGlobals "enumerate" = some none)
  (zg7:PySem.W.nsIn K mainGlobals "dict" = some none)
  (zg8:PySem.W.nsIn K mainGlobals "isinstance" = some none)
  (zg9:PySem.W.nsIn K mainGlobals "int" = some none)
  (zha:PySem.W.nsIn K mainGlobals "bool" = some none)
  (zhb:PySem.W.nsIn K mainGlobals "str" = some none) :
  ∃fd:Ad,(∀(s:Ab) (v:Ag),BindsTo s fd ⟨[v],[]⟩ [("_law_script",v)])∧∀base:Heap,K.In base→base.Ns mainGlobals mg→FnOk l.prog w K mg base (CXE l.prog w) 11 fa fd ["_law_script"] (wzt K):=by
 have T:Txt K mg qp qg qx q8 qb wv wu qr wj q9 qj wy qw wq qy qq:=⟨bd X G zgw,bd X G zgx,bd X G zgy,bd X G zgz,bd X G zg0,bd X G zg1,bd X G zg2,bd X G zg3,bd X G zg4,bd X G zg5,bd X G zg6,bd X G zg7,bd X G zg8,bd X G zg9,bd X G zha,bd X G zhb,aT X G zez,⟨zc2⟩,aT X G ze0,⟨zad⟩,aT X G ze1,⟨zaj⟩,aT X G ze2,⟨zal⟩,aT X G ze3,⟨zam⟩,aT X G ze4,⟨za1⟩,aT X G ze5,⟨za2⟩,aT X G ze6,⟨zac⟩,aT X G ze7,⟨zae⟩,aT X G ze8,⟨zaf⟩,aT X G ze9,⟨zah⟩,aT X G zfa,⟨zai⟩,aT X G zfb,⟨zao⟩,⟨zfd,zfe,zff,zfg⟩,zgp,⟨zhq,aT X G zap⟩,aT X G zfc,⟨zfq,zfr,zfs,zft⟩,⟨zfz,zf0,zf1,zf2⟩,zgq,zgr,zgs,zgt,zgu,zgv,aT X G zfp,aT X G zfy,⟨zhr,aT X G zaq⟩,⟨zhs,aT X G zak⟩,⟨zht,aT X G zar⟩,⟨zhu,aT X G zas⟩,⟨zhv,aT X G zat⟩,ms,⟨o1,o2,o3,o4⟩⟩
 obtain ⟨f,fd,a,F⟩:=zey.ex
 have e:=hfa.symm.trans (aT X G a)
 cases e
 refine ⟨fd,λs v=>?_,λbase kb nb=>?_⟩
 ·obtain ⟨oc,od,kV,doc,pm,an,cdv,ct,osl,rfl,lk,hcd⟩:=F.ex
  exact .of_eq rfl
 ·have c1:Cal l.prog w K mg base "_law_cell" 1 (qk7 K):=zdr.cal X G qkr λf fd F=>xxx T F
  have c2:Cal l.prog w K mg base "_law_pick" 2 (Wy K):=zds.cal X G qyb λf fd F=>xxj T F c1
  have c3:Cal l.prog w K mg base "check_bottom" 1 (qq6 qx):=zdt.cal X G qqx λf fd F=>wj1 T F
  have c4:Cal l.prog w K mg base "common_divisor" 1 qxn:=zdu.cal X G Z8 λf fd F=>zh6 T F
  have c5:Cal l.prog w K mg base "lowest" 2 (Wm qx):=zdv.cal X G wkc λf fd F=>wv1 T F c3 c4
  have c6:CalD l.prog w K mg base "check_count" 1 (qq4 qb):=zdw.cal X G qw8 qx5 λf fd F=>wyw T F
  have c7:Cal l.prog w K mg base "is_line" 1 (qzy K):=zdx.cal X G wwr λf fd F=>wxu T F
  have c8:CCal l.prog w K mg base "Road" wq 2 (Zj K qg wq):=zfj.ccal T.zh3 zfh zfi Jx λf fd F=>xxp T F c7
  have c9:MCal l.prog w K mg base wq "width" 1 (W5 wq):=zfk.cal qzf λf fd F=>wu7 T F
  have c10:MCal l.prog w K mg base wq "ends" 2 (wwn wq wu):=zfl.cal qj7 λf fd F=>xxr T F c9
  have c11:MCal l.prog w K mg base wq "corners" 1 (uk wq):=zfm.cal Jf λf fd F=>wwb T F
  have c12:MCal l.prog w K mg base wq "on_road" 3 (Yz K wq qx q8):=zfn.cal qqw λf fd F=>wx2 T F c9 c5
  have c13:MCal l.prog w K mg base wq "at" 4 (spAt K wq qx q8):=zfo.cal ww3 λf fd F=>zh9 T F c9 c5 c10 c12
  have c14:Cal l.prog w K mg base "trace" 5 (qjv wq wv):=zdy.cal X G wyn λf fd F=>wub T F c13
  have c15:Cal l.prog w K mg base "spot" 1 wwq:=zdz.cal X G xq3 λf fd F=>xw2 T F
  have c16:Cal l.prog w K mg base "led_to" 1 wju:=zd0.cal X G wkd λf fd F=>zig T F
  have c17:Cal l.prog w K mg base "less" 2 (wxc K qx):=zd1.cal X G xxc λf fd F=>xxf T F c3
  have c18:CCal l.prog w K mg base "Walker" qy 1 (Yr qy):=zfw.ccal T.zh4 zfu zfv Zh λf fd F=>wj8 T F
  have c19:Cal l.prog w K mg base "set_down" 3 (Jv qy):=zd2.cal X G wqw λf fd F=>qu9 T F c18
  have c20:MCal l.prog w K mg base qy "gone" 6 (qjk qy wq):=zfx.cal qxj λf fd F=>xw1 T F c14 c16 c15 c18
  have c21:Cal l.prog w K mg base "is_name" 1 qwv:=zd3.cal X G wwy λf fd F=>wwd T F
  have c22:Cal l.prog w K mg base "check_new_name" 2 (W0 qr wj):=zd4.cal X G Yh λf fd F=>wq5 T F c21
  have c23:Cal l.prog w K mg base "exchange" 1 qkm:=zd5.cal X G quq λf fd F=>xw6 T F
  have c24:CCal l.prog w K mg base "House" qq 1 (qqb qq):=zf5.ccal T.zhj zf3 zf4 Z2 λf fd F=>wyz T F
  have c25:MCal l.prog w K mg base qq "road_called" 1 (jq qq q9 true):=zf6.cal Wb λf fd F=>qxh T F
  have c26:MCal l.prog w K mg base qq "walker_called" 1 (jq qq qj false):=zf7.cal Q3 λf fd F=>Jw T F
  have c27:MCal l.prog w K mg base qq "deeds" 1 (qqj qq):=zf8.cal qwj λf fd F=>wk6 T F
  have c28:MCal l.prog w K mg base qq "do" 2 (Z5 qq):=zf9.cal qum λf fd F=>zie T F c23
  have c29:MCal l.prog w K mg base qq "lay" 4 (wz5 K qq wq qr wj qg):=zga.cal qkg λf fd F=>zif T F c22 c8 c28
  have c30:MCal l.prog w K mg base qq "corners_of" 2 (um qq wq q9):=zgb.cal W9 λf fd F=>qz2 T F c25 c11
  have c31:MCal l.prog w K mg base qq "take_back" 2 (qwt qq qw):=zgc.cal Zm λf fd F=>xq2 T F c23
  have c32:MCal l.prog w K mg base qq "bend" 4 (qyj qq wq q9 qg):=zgd.cal qvw λf fd F=>xq6 T F c25 c11 c8 c28
  have c33:MCal l.prog w K mg base qq "widen" 4 (qqc qq wq q9 qg):=zge.cal qzx λf fd F=>xqz T F c25 c11 c8 c28
  have c34:MCal l.prog w K mg base qq "where" 2 (qqs qq qy qj):=zgf.cal qxq λf fd F=>wjv T F c26
  have c35:MCal l.prog w K mg base qq "place" 5 (qqg K qq wq qy qr wj q9 qx q8):=zgg.cal qwr λf fd F=>wum T F c22 c25 c5 c12 c19 c28
  have c36:MCal l.prog w K mg base qq "go" 8 (spGo qq wq qy qj qb):=zgh.cal qu2 λf fd F=>zil T F c26 c6 c20 c28
  have c37:MCal l.prog w K mg base qq "walkers_on" 1 (spOn qq qy):=zgi.cal W6 λf fd F=>qvu T F
  have c38:MCal l.prog w K mg base qq "narrow" 4 (Yn qq wq qy q9 qg wy):=zgj.cal Jd λf fd F=>wkb T F c25 c11 c8 c9 c37 c17 c28
  have c39:MCal l.prog w K mg base qq "names" 1 (qqt qq):=zgk.cal qw3 λf fd F=>wyg T F
  have c40:MCal l.prog w K mg base qq "twin" 3 (wxh qq):=zgl.cal qzn λf fd F=>xwr T F c24
  have c41:MCal l.prog w K mg base qq "together" 8 (quh qq wq qy q9 qb):=zgm.cal Yg λf fd F=>wqy T F c25 c6 c37 c20 c28
  have c42:MCal l.prog w K mg base qq "leave" 3 (qqp qq qj):=zgn.cal qx3 λf fd F=>wjt T F c26 c28
  have c43:MCal l.prog w K mg base qq "clear" 3 (qqh qq qy q9 wy):=zgo.cal qxk λf fd F=>wj4 T F c25 c37 c28
  have c44:Cal l.prog w K mg base "_law_step" 1 (wq7 K):=zd6.cal X G qjy λf fd F=>xxn T F
  have c45:Cal l.prog w K mg base "_law_trace" 2 (qxb K):=zd7.cal X G qz4 λf fd F=>wv6 T F c44
  have c46:Cal l.prog w K mg base "_law_after" 1 (qyq K):=zd8.cal X G qz1 λf fd F=>wuj T F
  have c47:Cal l.prog w K mg base "_law_common" 1 qxn:=zd9.cal X G qw4 λf fd F=>wv0 T F
  have c48:Cal l.prog w K mg base "_law_low" 2 wzu:=zea.cal X G qy5 λf fd F=>zh8 T F c47
  have c49:Cal l.prog w K mg base "_law_whole" 1 Wr:=zeb.cal X G qzd λf fd F=>xqp T F
  have c50:Cal l.prog w K mg base "_law_point" 2 (qqm K):=zec.cal X G qzp λf fd F=>wjz T F c49 c47
  have c51:Cal l.prog w K mg base "_law_numbers" 2 (W2 K):=zed.cal X G Jg λf fd F=>wxv T F c49
  have c52:Cal l.prog w K mg base "_law_names" 3 (qx0 K):=zee.cal X G qz9 λf fd F=>wkj T F c2
  have c53:Cal l.prog w K mg base "_law_line" 3 (wx1 K):=zef.cal X G qyz λf fd F=>xw3 T F c2
  have c54:Cal l.prog w K mg base "_law_steps" 3 (qj3 K):=zeg.cal X G qzg λf fd F=>wy9 T F c1 c2
  have c55:Cal l.prog w K mg base "_law_named" 3 (qjz K):=zeh.cal X G qz8 λf fd F=>xqf T F c2
  have c56:Cal l.prog w K mg base "_law_deed" 4 (qj0 K):=zei.cal X G qyt λf fd F=>wy7 T F c2 c55 c53 c54
  have c57:Cal l.prog w K mg base "_law_good_name" 1 Zb:=zej.cal X G Yc λf fd F=>qjs T F
  have c58:Cal l.prog w K mg base "_law_good_line" 1 Zs:=zek.cal X G Z7 λf fd F=>qyp T F
  have c59:Cal l.prog w K mg base "_law_named_new" 2 qj2:=zel.cal X G Yy λf fd F=>qyy T F c57
  have c60:Cal l.prog w K mg base "_law_changed" 1 xqb:=zem.cal X G Jp λf fd F=>wxq T F
  have c61:Cal l.prog w K mg base "_law_beyond" 1 wyb:=zen.cal X G qw1 λf fd F=>wvb T F
  have c62:Cal l.prog w K mg base "_law_gone" 3 (qyn K):=zeo.cal X G qkp λf fd F=>wur T F c45 c46 c48
  have c63:Cal l.prog w K mg base "_law_roads_done" 3 qjx:=zep.cal X G Zy λf fd F=>wj6 T F c59 c58 c61 c60
  have c64:Cal l.prog w K mg base "_law_set" 3 wuq:=zeq.cal X G qy8 λf fd F=>zi6 T F c59 c48
  have c65:Cal l.prog w K mg base "_law_walkers_done" 4 qk5:=zer.cal X G Wx λf fd F=>wys T F c64 c62
  have c66:Cal l.prog w K mg base "_law_done" 5 www:=zes.cal X G qks λf fd F=>xwu T F c63 c65
  have c67:Cal l.prog w K mg base "_law_run" 9 (wjf qq wq qy (wcL qr wj qg q9 qj wy qx q8 qb qw)):=zet.cal X G wqc λf fd F=>zin T F c29 c32 c33 c38 c43 c35 c42 c36 c41
  have c68:Cal l.prog w K mg base "_law_told" 10 (wq8 qq wq qy):=zeu.cal X G qkn λf fd F=>xwp T F c31 c67
  have c69:Cal l.prog w K mg base "_law_walker_alike" 3 wvq:=zev.cal X G Wd λf fd F=>Jn T F c50
  have c70:Cal l.prog w K mg base "_law_alike" 4 (spAl qq wq qy):=zew.cal X G qz6 λf fd F=>zjb T F c27 c39 c30 c34 c49 c51 c69
  have c71:Cal l.prog w K mg base "_law_answer" 3 wy3:=zex.cal X G qx7 λf fd F=>wv3 T F c50
  exact zjc T F c2 c52 c24 c56 c66 c68 c40 c70 c71
theorem walk {l:PySem.W.OpenLaw}{q:Ac}{loose:List Str}{XP:(Str→Option Ag)→Heap→Prop}{YP:Ah→Heap→Prop}{d:DefRec}{K:Params→Aa}(hn:l.most=some 63)(hdf:d.params.defaults=[])
  (hY:∀(w:Ah) (h:Heap),YP w h→(K w.params).In h)
  (F:∀(w:Ah) (mg:Str→Option Ag) (fa:Aj) (h:Heap),(K w.params).In h→h.Ns mainGlobals mg→mg d.name=some (.ref fa) →
   ∃fd:Ad,(∀(s:Ab) (u:Ag),BindsTo s fd ⟨[u],[]⟩ [("_law_script",u)])∧∀base:Heap,(K w.params).In base→base.Ns mainGlobals mg→FnOk l.prog w (K w.params) mg base (CXE l.prog w) 11 fa fd ["_law_script"] (wzt (K w.params))) :
  PySem.W.WalkO q loose XP YP l.row.toRowW d [] (λf vs=>PySem.call f vs) :=
 L2.xwy (n:=63) (k:=11) (x := "_law_script") (CX:=λw=>CXE l.prog w) (sp:=λw=>wzt (K w.params)) hn ⋯ hdf ⟨rfl,⋯,⋯⟩ hY F (λ_ _ a ns hl _ hS=>⟨a,ns,rfl,hS,hl,λ_=>rfl⟩) λ_ _ _ _ _ z=>CXE.no z
end
end My
open PySem PySem.W PyProof.Rows
local macro_rules | `(tactic| walk_at "def")=>`(tactic| (refine' L2.def_mk ?a ?l ?c ?k;(case a=>k_is);(case l=>k_is);(case c=>k_is);(case k=>k_is)))
local macro_rules | `(tactic| walk_at "defD")=>`(tactic| (refine' L2.xwc ?a ?l ?c ?k ?t;(case a=>k_is);(case l=>k_is);(case c=>k_is);(case k=>k_is);(case t=>k_is)))
local macro_rules | `(tactic| walk_at "meth")=>`(tactic| (refine' L2.xwk ?a ?i ?l ?c ?k;(case a=>k_is);(case i=>k_is);(case l=>k_is);(case c=>k_is);(case k=>k_is)))
section
open Lean
local macro_rules|`(universe $x*)=>do let mut r:=#[];for i in x do {let s:=i.getId.toString;let n:=((s.drop 1).toString.splitOn "_").map String.toNat!;for j in [n.head!:n.getLast!+1] do {r:=r.push (←`(command|theorem $(mkIdent (.str `PySem.W.Fast s!"tw{(Name.str `PySem.Challenge.cw_crookroad_k54_whole_twins_holds ((match s.front with|'h'=>"heap_"|'t'=>"tree_"|'v'=>"view_"|'s'=>"sts_"|'e'=>"env_"|_=>"o_")++toString j)).hash}")):ident:True:=trivial))}};return mkNullNode r
universe h39 h46 h922 t47 t70 t85 t100 t115 t130 t145 t160 t175 t190 t205 t220 t235 t286 t316 t388 t437 t444 t622 t703 t786 t872 t921 v39 o43_703 o707_921 s49 s71 s86 s101 s116 s131 s146 s161 s176 s191 s206 s221 s236 s287 s317 s389 s438 s445 s707 s787 s873 e41
end
theorem PySem.W.Fast.tw7691431358326378573:True:=trivial
set_option maxRecDepth 100000 in
set_option maxHeartbeats 0 in
theorem PySem.Challenge.cw_crookroad_k54_whole_twins_holds : PySem.Challenge.rw_crookroad_k54_whole_twins.Holds := by
 w_on;o_law;k_head;(case hw=>w_witness2)
 k_fill
 refine My.walk (l:=PySem.Challenge.rw_crookroad_k54_whole_twins) rfl rfl (fun w h Y=>PySem.W.kIn_of Y) ?F
 case F =>
  intro w mg fa h KX G hmg
  refine' My.all_mk KX G hmg ?zdr ?zds ?zdt ?zdu ?zdv ?zdw ?zdx ?zdy ?zdz ?zd0 ?zd1 ?zd2 ?zd3 ?zd4 ?zd5 ?zd6 ?zd7 ?zd8 ?zd9 ?zea ?zeb ?zec ?zed ?zee ?zef ?zeg ?zeh ?zei ?zej ?zek ?zel ?zem ?zen ?zeo ?zep ?zeq ?zer ?zes ?zet ?zeu ?zev ?zew ?zex ?zey ?zez ?zc2 ?ze0 ?zad ?ze1 ?zaj ?ze2 ?zal ?ze3 ?zam ?ze4 ?za1 ?ze5 ?za2 ?ze6 ?zac ?ze7 ?zae ?ze8 ?zaf ?ze9 ?zah ?zfa ?zai ?zfb ?zao ?zfc ?zfd ?zfe ?zff ?zfg ?zfh ?zfi ?zfj ?zfk ?zfl ?zfm ?zfn ?zfo ?zfp ?zfq ?zfr ?zfs ?zft ?zfu ?zfv ?zfw ?zfx ?zfy ?zfz ?zf0 ?zf1 ?zf2 ?zf3 ?zf4 ?zf5 ?zf6 ?zf7 ?zf8 ?zf9 ?zga ?zgb ?zgc ?zgd ?zge ?zgf ?zgg ?zgh ?zgi ?zgj ?zgk ?zgl ?zgm ?zgn ?zgo ?zgp ?zgq ?zgr ?zgs ?zgt ?zgu ?zgv ?zap ?zaq ?zak ?zar ?zas ?zat ?o1 ?o2 ?o3 ?o4 ?ms ?zgw ?zgx ?zgy ?zgz ?zg0 ?zg1 ?zg2 ?zg3 ?zg4 ?zg5 ?zg6 ?zg7 ?zg8 ?zg9 ?zha ?zhb
  (case zdr=>walk_at "def")
  (case zds=>walk_at "def")
  (case zdt=>walk_at "def")
  (case zdu=>walk_at "def")
  (case zdv=>walk_at "def")
  (case zdw=>walk_at "defD")
  (case zdx=>walk_at "def")
  (case zdy=>walk_at "def")
  (case zdz=>walk_at "def")
  (case zd0=>walk_at "def")
  (case zd1=>walk_at "def")
  (case zd2=>walk_at "def")
  (case zd3=>walk_at "def")
  (case zd4=>walk_at "def")
  (case zd5=>walk_at "def")
  (case zd6=>walk_at "def")
  (case zd7=>walk_at "def")
  (case zd8=>walk_at "def")
  (case zd9=>walk_at "def")
  (case zea=>walk_at "def")
  (case zeb=>walk_at "def")
  (case zec=>walk_at "def")
  (case zed=>walk_at "def")
  (case zee=>walk_at "def")
  (case zef=>walk_at "def")
  (case zeg=>walk_at "def")
  (case zeh=>walk_at "def")
  (case zei=>walk_at "def")
  (case zej=>walk_at "def")
  (case zek=>walk_at "def")
  (case zel=>walk_at "def")
  (case zem=>walk_at "def")
  (case zen=>walk_at "def")
  (case zeo=>walk_at "def")
  (case zep=>walk_at "def")
  (case zeq=>walk_at "def")
  (case zer=>walk_at "def")
  (case zes=>walk_at "def")
  (case zet=>walk_at "def")
  (case zeu=>walk_at "def")
  (case zev=>walk_at "def")
  (case zew=>walk_at "def")
  (case zex=>walk_at "def")
  (case zey=>walk_at "def")
  (case zez=>k_is)
  (case zc2=>k_exc)
  (case ze0=>k_is)
  (case zad=>k_exc)
  (case ze1=>k_is)
  (case zaj=>k_exc)
  (case ze2=>k_is)
  (case zal=>k_exc)
  (case ze3=>k_is)
  (case zam=>k_exc)
  (case ze4=>k_is)
  (case za1=>k_exc)
  (case ze5=>k_is)
  (case za2=>k_exc)
  (case ze6=>k_is)
  (case zac=>k_exc)
  (case ze7=>k_is)
  (case zae=>k_exc)
  (case ze8=>k_is)
  (case zaf=>k_exc)
  (case ze9=>k_is)
  (case zah=>k_exc)
  (case zfa=>k_is)
  (case zai=>k_exc)
  (case zfb=>k_is)
  (case zao=>k_exc)
  (case zfc=>k_is)
  (case zfd=>k_is)
  (case zfe=>k_is)
  (case zff=>k_is)
  (case zfg=>k_is)
  (case zfh=>k_is)
  (case zfi=>k_is)
  (case zfj=>walk_at "meth")
  (case zfk=>walk_at "meth")
  (case zfl=>walk_at "meth")
  (case zfm=>walk_at "meth")
  (case zfn=>walk_at "meth")
  (case zfo=>walk_at "meth")
  (case zfp=>k_is)
  (case zfq=>k_is)
  (case zfr=>k_is)
  (case zfs=>k_is)
  (case zft=>k_is)
  (case zfu=>k_is)
  (case zfv=>k_is)
  (case zfw=>walk_at "meth")
  (case zfx=>walk_at "meth")
  (case zfy=>k_is)
  (case zfz=>k_is)
  (case zf0=>k_is)
  (case zf1=>k_is)
  (case zf2=>k_is)
  (case zf3=>k_is)
  (case zf4=>k_is)
  (case zf5=>walk_at "meth")
  (case zf6=>walk_at "meth")
  (case zf7=>walk_at "meth")
  (case zf8=>walk_at "meth")
  (case zf9=>walk_at "meth")
  (case zga=>walk_at "meth")
  (case zgb=>walk_at "meth")
  (case zgc=>walk_at "meth")
  (case zgd=>walk_at "meth")
  (case zge=>walk_at "meth")
  (case zgf=>walk_at "meth")
  (case zgg=>walk_at "meth")
  (case zgh=>walk_at "meth")
  (case zgi=>walk_at "meth")
  (case zgj=>walk_at "meth")
  (case zgk=>walk_at "meth")
  (case zgl=>walk_at "meth")
  (case zgm=>walk_at "meth")
  (case zgn=>walk_at "meth")
  (case zgo=>walk_at "meth")
  (case zgp=>k_is)
  (case zgq=>k_is)
  (case zgr=>k_is)
  (case zgs=>k_is)
  (case zgt=>k_is)
  (case zgu=>k_is)
  (case zgv=>k_is)
  (case zap=>k_is)
  (case zaq=>k_is)
  (case zak=>k_is)
  (case zar=>k_is)
  (case zas=>k_is)
  (case zat=>k_is)
  (case o1=>k_is)
  (case o2=>k_is)
  (case o3=>k_is)
  (case o4=>k_is)
  (case ms=>refine ⟨?_,?_,?_,?_,?_,?_,?_,?_,?_,?_,?_,?_,?_,?_,?_,?_,?_,?_,?_,?_,?_,?_,?_,?_,?_,?_,?_,?_,?_,?_,?_,?_,?_,?_,?_,?_,?_,?_,?_,?_,?_,?_,?_,?_,?_⟩<;>(unfold My.mR;k_is))
  (case zgw=>k_is)
  (case zgx=>k_is)
  (case zgy=>k_is)
  (case zgz=>k_is)
  (case zg0=>k_is)
  (case zg1=>k_is)
  (case zg2=>k_is)
  (case zg3=>k_is)
  (case zg4=>k_is)
  (case zg5=>k_is)
  (case zg6=>k_is)
  (case zg7=>k_is)
  (case zg8=>k_is)
  (case zg9=>k_is)
  (case zha=>k_is)
  (case zhb=>k_is)
