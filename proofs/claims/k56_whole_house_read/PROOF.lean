import PyProof.Rows.All
import Wide.All
import OpenK.AllK
import Wide.FinOn
import Lean
import PyProof.EqAt
import PyProof.EqKinds
import PyProof.TupleCall
import PyProof.NeData
import KE.IntBitsLaws
import KE.KDictList
import KE.KRevIter
import PyProof.DictIter
import PyProof.DictItems
import PyProof.DictWalks
import PyProof.StrLoop
import KE.KPairComp
import PyProof.StrWalks
import KE.KSortKey
import KE.KDictOf
import PyProof.Rows.TupDisplay
import PyProof.DictCompW
import PyProof.DictUpdate
import PyProof.DictValues
import PyProof.StrLawsIn
import KE.KIntText
import PyProof.StrCalls2
import PyProof.Rows.StrJoin2
import PyProof.FString
import PyProof.Rows.StrSplitCount
import PyProof.StrLawsChain
import PySem.Challenge.RW_crookroad_k56_whole_house_read
set_option maxHeartbeats 0
set_option Elab.async false
set_option linter.all false
set_option maxRecDepth 100000
local macro_rules|`(tactic|lia)=>`(tactic|first|lia +splitIte|omega)
local macro_rules|`(⋯)=>`(by first|decide|lia)
local macro_rules|`(tactic|walk_at "iv")=>`(tactic|first|exact .inl rfl|exact .inr rfl|assumption)
local macro_rules|`(tactic|walk_at "vs")=>`(tactic|first|exact Or.inl rfl|exact Or.inr (Or.inl rfl)|exact Or.inr (Or.inr rfl))
def aa:=@List.length_map
def ac:=@PySem.wpAny_bind
def ae:=@PySem.Heap.get?_push_of_some
def af:=@if_neg
def ag:=@List.mem_cons
def ai:=@Nat.le_refl
def aj:=@List.not_mem_nil
def ak:=@if_pos
def al:=@List.getElem?_eq_getElem
def am:=@PySem.wpAny_pure
def ao:=@PySem.Heap.lt_size
def aq:=@List.mem_map
def ar:=@List.mem_cons_self
def au:=@List.length_cons
def av:=@Option.isSome_iff_exists
def aw:=@PySem.Heap.get?_push_size
def ax:=@List.mem_cons_of_mem
def ay:=@List.mem_singleton
def az:=@Option.some.inj
def aA:=@List.map_cons
def aB:=@List.getElem?_map
def aC:=@Nat.ne_of_lt
def aD:=@Bool.false_ne_true
def aE:=@PySem.PassesOwn.leaving
def aF:=@List.lookup_cons
def aG:=@Nat.lt_of_lt_of_le
def aH:=@List.size_toArray
def aI:=@PySem.boot_len
def aJ:=@Nat.zero_le
def aK:=@PySem.W.mg_of
def aL:=@List.length_append
def aM:=@List.getD_eq_getElem?_getD
def aN:=@List.length_range
def aO:=@List.map_append
def aP:=@PySem.W.mg_none_of
def aQ:=@beq_eq_false_iff_ne
def aR:=@List.getElem?_eq_some_iff
def aS:=@List.mem_range
def aT:=@List.mem_append_right
def aU:=@List.nodup_cons
def aV:=@Int.mul_le_mul_of_nonneg_right
def aW:=@Array.length_toList
def aX:=@decide_eq_true
def aY:=@Ne.symm
def aZ:=@List.map_map
def ba:=@List.mem_of_getElem?
def bc:=@Bool.and_eq_true
def bd:=@or_false
def be:=@List.getElem?_eq_none
def bg:=@PySem.wpAny_mono
def bh:=@Int.emod_nonneg
def bi:=@List.nodup_nil
def bj:=@Int.emod_lt_of_pos
def bn:=@decide_eq_false
def bq:=@List.mem_append
def bt:=@List.getElem?_append_right
def bu:=@PySem.Paired.length
def bv:=@Nat.lt_irrefl
def bw:=@Nat.le_trans
def bx:=@PyProof.Rows.boot_list
def bz:=@PyProof.Rows.boot_sorted
def bA:=@PySem.F.plainAttrs_list
def bB:=@congrArg
def bC:=@PySem.W.kia_one
def bD:=@List.length_take
def bE:=@List.getElem_mem
def bF:=@List.all_eq_true
def bG:=@List.getElem?_append_left
def bH:=@Int.mul_le_mul_of_nonneg_left
def bI:=@List.pairwise_map
def bJ:=@Nat.le_of_ble_eq_true
def bK:=@PySem.StrLaws.glued_eq_join
def bL:=@PySem.F.slot_list_append
def bM:=@PySem.F.type_list_append
def bN:=@PySem.F.slot_dict_keyiterator_next
def bO:=@List.map_nil
def bP:=@PySem.F.plainAttrs_str
def bQ:=@List.length_nil
def bR:=@Array.getElem?_eq_getElem
def bS:=@Array.getElem?_toList
def bT:=@PySem.F.slot_dict_get
def bU:=@List.filter_cons
def bV:=@Nat.lt_trans
def bW:=@List.Pairwise.imp_of_mem
def bX:=@List.mem_append_left
def bY:=@PySem.wpAny_typeNameOfWhole_keyiter
def bZ:=@PySem.wpAny_dictEntries
def ca:=@Option.map_some
def cb:=@Int.toNat_of_nonneg
def ce:=@List.getElem?_range
def cf:=@List.map_congr_left
def cg:=@PyProof.Rows.callWith_type1
def ck:=@PySem.Calls.callWith_builtin
def cm:=@Array.getElem?_eq_none
def cn:=@List.take_of_length_le
def cu:=@PySem.tupleKind_room_in1
def cv:=@Classical.byContradiction
def cw:=@PySem.wpAny_passesOwn
def cx:=@Nat.le_of_lt
def cy:=@PySem.wpAny_truthy_bool
def cz:=@PySem.wpAny_newObj_type
def cA:=@Int.lt_or_le
def cB:=@Option.isSome_map
def cC:=@List.take_add_one
def cD:=@PySem.wpAny_typeNameOf_keyiter
def cE:=@PySem.mem_of_lookup
def cF:=@List.take_length
def cG:=@PySem.wpAny_getItem_str_slice
def cH:=@List.cons_ne_nil
def cI:=@PyProof.Rows.joinOk_of_weight
def cJ:=@PySem.wpAny_Call_Name_kw
def cK:=@PySem.F.entry_dict_get
def cL:=@Bool.false_eq_true
def cM:=@Bool.eq_iff_iff
def cN:=@List.append_nil
def cO:=@Int.mul_ediv_mul_of_pos_left
def cP:=@List.find?_cons
def cQ:=@PyProof.Rows.boot_isinstance
def cR:=@PySem.wpAny_holding
def cS:=@PyProof.Rows.boot_int
def cT:=@PySem.F.slot_str_join
def cU:=@PySem.F.type_str_join
def cV:=@PyProof.Rows.boot_str
def cW:=@Int.toNat_natCast
def cX:=@PySem.Calls.evalArgs_plain
def cY:=@PySem.F.excBase_ValueError
def cZ:=@Int.eq_of_mul_eq_mul_right
def dc:=@Array.size_map
def de:=@Nat.mod_lt
def df:=@PySem.call_meetsIn
def dh:=@PySem.wpAny_call_entry
def di:=@PySem.Calls.call_function_entry
def dj:=@List.mem_of_find?_eq_some
def dm:=@List.filterMap_cons
def dn:=@PySem.Heap.SameBut.update
def dq:=@PySem.wpAny_execs_nil
def du:=@List.range_succ
def dv:=@beq_iff_eq
def dz:=@PySem.Calls.spliced_cons
def dA:=@Nat.lt_of_le_of_lt
def dB:=@List.pairwise_cons
def dC:=@List.append_ne_nil_of_right_ne_nil
def dD:=@PySem.F.plainAttrs_dict
def dE:=@PySem.wpAny_callSpecial?_slot
def dF:=@List.getLast?_cons_cons
def dG:=@Int.mul_comm
def dH:=@Nat.lt_or_ge
def dI:=@Option.map_eq_some_iff
def dJ:=@List.ext_getElem?
def dL:=@List.pairwise_lt_range
def dM:=@decide_eq_true_eq
def dN:=@PySem.StrLaws.join_length_le
def dO:=@PyProof.Rows.boot_min
def dP:=@PyProof.Rows.boot_max
def dQ:=@PySem.W.KIN.num_reads
def dR:=@PySem.F.args_dict_keyiterator_next_1
def dS:=@if_false
def dU:=@Int.mul_ediv_cancel'
def dW:=@PySem.F.entry_dict_keyiterator_next
def dX:=@List.eq_nil_of_length_eq_zero
def dY:=@Nat.div_lt_of_lt_mul
def dZ:=@Int.lt_ediv_add_one_mul_self
def d3:=@PySem.post_val_or_str
def d5:=@PySem.W.plainGet_of
def d6:=@List.getElem_of_mem
def d7:=@PySem.Heap.get?_update_ne
def d8:=@ne_true_of_eq_false
def ee:=@Nat.ne_of_gt
def eA:=@PySem.codeAny_mono
def eB:=@Array.getD_eq_getD_getElem?
def eE:=@PyProof.Rows.assignInOrder_cons
def eG:=@List.mem_filterMap
def eI:=@PySem.Heap.size_push
def eJ:=@PySem.typeIs_str
def eK:=@PySem.W.callWith_K
def eM:=@Int.mul_lt_mul_of_pos_left
def eN:=@Int.mul_nonneg
def eO:=@Array.getElem?_eq_some_iff
def eP:=@List.find?_eq_none
def eQ:=@PySem.F.args_str_split_2
def eS:=@Int.mul_le_mul
def eT:=@PySem.F.slot_dict_delitem
def eU:=@PySem.Calls.spliced_nil
def eV:=@List.take_sublist
def eX:=@List.length_erase
def eY:=@PySem.F.entry_str_split
def eZ:=@List.nodup_append
def e9:=@List.append_assoc
def fc:=@Nat.lt_trichotomy
def ff:=@PySem.wpAny_standAt
def fh:=@PySem.wpAny_newList
def fi:=@List.length_erase_of_mem
def fj:=@List.sum_cons
def fu:=@List.getElem_inj
def fw:=@PySem.wpAny_execs_cons
def fy:=@Int.natCast_dvd_natCast
def fA:=@PySem.F.args_dict_get_2
def fB:=@PySem.F.args_dict_get_3
def fC:=@PySem.F.slot_dict_items
def fD:=@List.length_eq_zero_iff
def fE:=@List.pairwise_singleton
def fF:=@List.getElem_map
def fG:=@PySem.F.slot_str_split
def fH:=@List.mem_flatMap
def fI:=@PySem.call_meets
def fJ:=@List.mem_filter
def fK:=@List.of_mem_zip
def fL:=@Int.natCast_mul
def fM:=@Int.ediv_nonneg
def fN:=@Int.ediv_mul_le
def fO:=@PySem.wpAny_specialOf
def fP:=@PySem.wpAny_dictEpoch
def fQ:=@Nat.not_lt_zero
def fT:=@PySem.sizeLine_eq
def fU:=@if_true
def fV:=@List.any_cons
section
open PySem PySem.Spec PyProof.Rows
abbrev Aa:=PySem.W.Frag
abbrev Ab:=PySem.Shared
abbrev Ac:=PySem.Program
abbrev Ad:=PySem.FuncData
abbrev Ae:=Around
abbrev Af:=SortSt
abbrev Ag:=Value
abbrev Ah:=World
abbrev Ai:=Keyed
abbrev Aj:=Addr
end
namespace L2
theorem exI {α:Sort _}{A K:α→Prop}{v:α}(e:A v)(h:K v):∃x,A x∧K x:=⟨v,e,h⟩
theorem wg {α β:Sort _}{A:α→Prop}{B:β→Prop}{K:α→β→Prop}{u:α}{v:β}(a:A u)(b:B v)(h:K u v):∃x y,A x∧B y∧K x y:=⟨u,v,a,b,h⟩
theorem exX {α β γ δ:Sort _}{A:α→Prop}{B:γ→Prop}{C:α→β→Prop}{D:β→γ→δ→Prop}{K:δ→Prop}{p:α}{xs:β}{i:γ}{v:δ}(a:A p)(b:B i)(c:C p xs)(d:D xs i v)(h:K v):∃p xs i v,A p∧B i∧C p xs∧D xs i v∧K v:=⟨p,xs,i,v,a,b,c,d,h⟩
end L2
namespace L2
open PySem PySem.Spec PyProof.Rows
abbrev Key:=Sum Int Str
def qqf:Key→Ag→Bool
 |.inl k,v=>Value.isInt k v
 |.inr x,v=>Value.isStrOf x v
def keyH (w:Ah):Key→Int
 |.inl k=>hashInt k
 |.inr x=>hashStr w x
theorem zg:∀ {k:Key} {v:Ag},qqf k v=true→(∃i t,k=Sum.inl i∧v=Value.int i t)∨(∃x t,k=Sum.inr x∧v=Value.str x t)
 |.inl i,v,h=>by
  obtain ⟨t,e⟩:=Value.isInt_shape (k:=i) (v:=v) h
  exact .inl ⟨i,t,rfl,e⟩
 |.inr x,v,h=>by
  obtain ⟨t,e⟩:=Value.isStrOf_shape (x:=x) (v:=v) h
  exact .inr ⟨x,t,rfl,e⟩
theorem wxd (i:Int)(t:Tok):qqf (.inl i) (.int i t)=true:=by simp [qqf,Value.isInt]
theorem wxs (x:Str)(t:Tok):qqf (.inr x) (.str x t)=true:=by simp [qqf,Value.isStrOf]
theorem key_ll (a b:Int):decide ((Sum.inl a:Key)=Sum.inl b)=(a==b):=by
 by_cases e:a=b
 ·subst e;simp
 ·have h:¬ (Sum.inl a:Key)=Sum.inl b:=λq=>e (Sum.inl.inj q)
  rw [bn h]
  exact (aQ.mpr e).symm
theorem key_rr (a b:Str):decide ((Sum.inr a:Key)=Sum.inr b)=decide (a=b):=by
 by_cases e:a=b
 ·subst e;simp
 ·have h:¬ (Sum.inr a:Key)=Sum.inr b:=λq=>e (Sum.inr.inj q)
  rw [bn h,bn e]
theorem key_lr (a:Int)(b:Str):decide ((Sum.inl a:Key)=Sum.inr b)=false:=bn (λq=>nomatch q)
theorem key_rl (a:Str)(b:Int):decide ((Sum.inr a:Key)=Sum.inl b)=false:=bn (λq=>nomatch q)
def xf (prog:Ac)(w:Ah):PySem.KeyKind prog w Key where
 is:=qqf
 hash:=keyH w
 inj:=λv a b ha hb=>by
  rcases zg ha with ⟨i,t,rfl,rfl⟩|⟨x,t,rfl,rfl⟩
  ·rcases zg hb with ⟨j,u,rfl,e⟩|⟨y,u,rfl,e⟩
   ·injection e with e1 _;rw [e1]
   ·exact nomatch e
  ·rcases zg hb with ⟨j,u,rfl,e⟩|⟨y,u,rfl,e⟩
   ·exact nomatch e
   ·injection e with e1 _;rw [e1]
 byValue:=λk v h=>by
  rcases zg h with ⟨i,t,rfl,rfl⟩|⟨x,t,rfl,rfl⟩ <;> rfl
 pyHash:=λhv h=>by
  rcases zg hv with ⟨i,t,rfl,rfl⟩|⟨x,t,rfl,rfl⟩
  ·exact wpAny_pyHash_int h
  ·exact wpAny_pyHash_str h
 eqBool:=λhu hv h=>by
  rcases zg hu with ⟨i,t,rfl,rfl⟩|⟨x,t,rfl,rfl⟩
  ·rcases zg hv with ⟨j,u,rfl,rfl⟩|⟨y,u,rfl,rfl⟩
   ·rw [key_ll] at h;exact wpAny_eqBool_int h
   ·rw [key_lr] at h;exact SeqAt.EqAt.int_str i t y u _ _ _ _ h
  ·rcases zg hv with ⟨j,u,rfl,rfl⟩|⟨y,u,rfl,rfl⟩
   ·rw [key_rl] at h;exact SeqAt.EqAt.str_int x t j u _ _ _ _ h
   ·rw [key_rr] at h;exact wpAny_eqBool_str h
 «strs»:=λk x t v h=>by
  rcases zg h with ⟨i,u,rfl,e⟩|⟨y,u,rfl,e⟩
  ·exact nomatch e
  ·injection e with e1 _
   subst e1
   cases v <;> rfl
theorem qj6 (prog:Ac)(w:Ah)(i:Int)(t:Tok):(xf prog w).is (.inl i) (.int i t)=true:=wxd i t
theorem qyn (prog:Ac)(w:Ah)(x:Str)(t:Tok):(xf prog w).is (.inr x) (.str x t)=true:=wxs x t
inductive V where
 |non|bl (b:Bool)|int (i:Int)|str (x:Str)|byt (b:Array UInt8)|flt (b:UInt64)|ref (a:Aj)|ty (n:String)
 deriving DecidableEq
def RelV:V→Ag→Prop
 |.non,u=>u=Value.none
 |.bl b,u=>u=Value.bool b
 |.int i,u=>∃t,u=Value.int i t
 |.str x,u=>∃t,u=Value.str x t
 |.byt b,u=>∃t,u=Value.bytes b t
 |.flt b,u=>∃t,u=Value.float b t
 |.ref a,u=>u=Value.ref a
 |.ty n,u=>u=Value.type n
abbrev Vals:List V→List Ag→Prop:=Paired RelV
theorem Vals.length {xs:List V}{us:List Ag}(r:Vals xs us):xs.length=us.length:=bu r
theorem Vals.get:∀ {xs:List V} {us:List Ag} {i:Nat} {x:V},Vals xs us→xs[i]?=some x→∃u,us[i]?=some u∧RelV x u
 |_,_,_,_,.nil,e=>by simp at e
 |_,_,0,_,.cons r _,e=>by simp at e;subst e;exact ⟨_,rfl,r⟩
 |_,_,i+1,x,.cons _ t,e=>by
  obtain ⟨u,h1,h2⟩:=Vals.get (i:=i) (x:=x) t (by simpa using e)
  exact ⟨u,by simpa using h1,h2⟩
theorem Vals.append:∀ {xs ys:List V} {us ws:List Ag},Vals xs us→Vals ys ws→Vals (xs++ys) (us++ws)
 |_,_,_,_,.nil,s=>s
 |_,_,_,_,.cons r t,s=>.cons r (Vals.append t s)
theorem Vals.take:∀ {xs:List V} {us:List Ag} (n:Nat),Vals xs us→Vals (xs.take n) (us.take n)
 |_,_,0,_=>.nil
 |_,_,_+1,.nil=>.nil
 |_,_,n+1,.cons r t=>.cons r (Vals.take n t)
theorem Vals.drop:∀ {xs:List V} {us:List Ag} (n:Nat),Vals xs us→Vals (xs.drop n) (us.drop n)
 |_,_,0,r=>r
 |_,_,_+1,.nil=>.nil
 |_,_,n+1,.cons _ t=>Vals.drop n t
def RelO:Option V→Option Ag→Prop
 |some v,some u=>RelV v u
 |none,none=>True
 |_,_=>False
def KV {κ:Type}:List (κ×V)→List (κ×Ag)→Prop:=Paired λ(p:κ×V) (q:κ×Ag)=>p.1=q.1∧RelV p.2 q.2
def kV:Key→V
 |.inl i=>.int i
 |.inr x=>.str x
inductive HO where
 |lst (xs:List V)
 |tup (xs:List V)
 |dK (kvs:List (Key×V))|dT (kvs:List (List Key×V))
 |set (S:Int→Bool) (n:Nat)
 |ins (C dx:Aj) (fs:List (Str×V))
 |own (x:Aj)
 |xd (fs:List (Str×V))
 |met (f x:Aj)
 |rng (lo hi:Int)
 |frz (o:Obj) (u:HO)
 |tbl (ps:Array Ag)
 |ext (φ:Heap→Prop)
abbrev Hp:=Aj→Option HO
def upd (H:Hp)(a:Aj)(o:HO):Hp:=λb=>if b=a then some o else H b
theorem qb {H:Hp}{a:Aj}{o:HO}:upd H a o a=some o:=by unfold upd;rw [ak rfl]
theorem wy {H:Hp}{a b:Aj}{o:HO}(h:b≠a):upd H a o b=H b:=by unfold upd;rw [af h]
theorem Q0 {H:Hp}{a:Aj}{o u:HO}:upd (upd H a o) a u=upd H a u:=by
 funext b;unfold upd;split <;> rfl
theorem ne_of {H:Hp}{a b:Aj}{o u:HO}(h:H a=some o)(h':H b=some u)(d:o≠u):a≠b:=by
 intro e;subst e;rw [h] at h';exact d (az h')
theorem wz {H:Hp}{a b:Aj}{o:HO}(h:H a=some o)(h':H b=none):a≠b:=by
 intro e;subst e;rw [h] at h';cases h'
section
variable (P:Ac)(w:Ah)
def ObjOk (H:Hp)(h:Heap)(a:Aj):HO→Prop
 |.lst xs=>xs.length≤sizeLine∧∃(its:List Ag) (n:Nat),Vals xs its∧h.get? a=some { cls:=.type "list",data:=.seq its.toArray n }
 |.tup xs=>xs.length≤sizeLine∧∃its:List Ag,Vals xs its∧IsTup h a its.toArray
 |.dK kvs=>kvs.length≤sizeLine∧(a==sysModules)=false∧∃vs,KV kvs vs∧h.DictOf (xf P w) a vs
 |.dT kvs=>kvs.length≤sizeLine∧(a==sysModules)=false∧∃xs:List (List Key×Aj×Ag),
   Paired (λ(p:List Key×V) (q:List Key×Aj×Ag)=>p.1=q.1∧H q.2.1=some (.tup (p.1.map kV))∧RelV p.2 q.2.2) kvs xs ∧
   ∃o es ep,h.get? a=some o∧o.ExactDict∧o.data=.dict es ep∧es.toList=xs.map (entryOfKey (tupleKind (xf P w)))∧(xs.map (·.1)).Nodup
 |.set S n=>h.SetOf (intKind P w) a S n
 |.ins C dx fs=>H dx=some (.own a)∧fs.length≤1000∧dx≠a∧h.get? a=some (W.instObj C dx) ∧
   ∃mA,h.Ns1 dx mA∧(∀f,RelO (fs.lookup f) (mA f))∧PySem.Within mA (fs.map (·.1))
 |.own _=>∃o,h.get? a=some o
 |.xd fs=>∃mA,h.Ns1 a mA∧∀f,RelO (fs.lookup f) (mA f)
 |.rng lo hi=>∃t u v,h.get? a=some { cls:=.type "range",data:=.fields #[.int lo t,.int hi u,.int 1 v] }
 |.frz o u=>h.get? a=some o∧ObjOk H h a u
 |.tbl ps=>h.get? a=some { cls:=.none,data:=.fields ps }
 |.met f x=>h.get? a=some (W.methodObj (.ref f) (.ref x))
 |.ext φ=>φ h∧(∃o,h.get? a=some o)∧∀h1 h2:Heap,φ h1→(∀o,h1.get? a=some o→h2.get? a=some o)→φ h2
def HOk (H:Hp)(h:Heap):Prop:=∀a o,H a=some o→ObjOk P w H h a o
end
section
variable {P:Ac}{w:Ah}{H H':Hp}{h h':Heap}{a:Aj}{o:HO}
theorem ObjOk.lt (x:ObjOk P w H h a o):a<h.objs.size:=by
 cases o with
 |lst xs=>obtain ⟨_,_,_,_,e⟩:=x;exact ao e
 |tup xs=>obtain ⟨_,_,_,p⟩:=x;exact p.lt
 |dK kvs=>obtain ⟨_,_,_,_,o,_,_,e,_⟩:=x;exact ao e
 |dT kvs=>obtain ⟨_,_,_,_,o,_,_,e,_⟩:=x;exact ao e
 |set S n=>obtain ⟨o,_,_,_,e,_⟩:=x;exact ao e
 |ins C dx fs=>obtain ⟨_,_,_,e,_⟩:=x;exact ao e
 |own y=>obtain ⟨_,e⟩:=x;exact ao e
 |xd fs=>obtain ⟨_,⟨_,_,_,e,_⟩,_⟩:=x;exact ao e
 |rng lo hi=>obtain ⟨_,_,_,e⟩:=x;exact ao e
 |frz ob u=>obtain ⟨e,_⟩:=x;exact ao e
 |tbl ps=>exact ao (show h.get? a=some _ from x)
 |met f y=>exact ao (show h.get? a=some _ from x)
 |ext φ=>obtain ⟨_,⟨_,e⟩,_⟩:=x;exact ao e
theorem Paired.mapP {α β:Type}{F G:α→β→Prop}:∀ {l₁:List α} {l₂:List β},Paired F l₁ l₂→(∀a b,F a b→G a b)→Paired G l₁ l₂
 |_,_,.nil,_=>.nil
 |_,_,.cons r t,f=>.cons (f _ _ r) (Paired.mapP t f)
theorem ObjOk.stay (x:ObjOk P w H h a o)(k:∀b u,(b=a∨H b=some (.own a))→h.get? b=some u→h'.get? b=some u)
  (ho:∀b,H b=some (.own a)→H' b=some (.own a)) (ht:∀b xs,H b=some (.tup xs)→H' b=some (.tup xs)):ObjOk P w H' h' a o:=by
 induction o with
 |lst xs=>obtain ⟨z,its,n,r,e⟩:=x;exact ⟨z,its,n,r,k _ _ (.inl rfl) e⟩
 |tup xs=>obtain ⟨z,its,r,ob,e,c⟩:=x;exact ⟨z,its,r,ob,k _ _ (.inl rfl) e,c⟩
 |dK kvs=>obtain ⟨z,y,vs,r,ob,es,ep,e,c⟩:=x;exact ⟨z,y,vs,r,ob,es,ep,k _ _ (.inl rfl) e,c⟩
 |dT kvs =>
  obtain ⟨z,y,xs,r,ob,es,ep,e,c⟩:=x
  exact ⟨z,y,xs,Paired.mapP r λp q z=>⟨z.1,ht _ _ z.2.1,z.2.2⟩,ob,es,ep,k _ _ (.inl rfl) e,c⟩
 |set S n=>obtain ⟨ob,es,ep,t,e,c⟩:=x;exact ⟨ob,es,ep,t,k _ _ (.inl rfl) e,c⟩
 |ins C dx fs =>
  obtain ⟨d,z,ne,e,mA,⟨od,es,ep,e2,c⟩,r⟩:=x
  exact ⟨ho _ d,z,ne,k _ _ (.inl rfl) e,mA,⟨od,es,ep,k _ _ (.inr d) e2,c⟩,r⟩
 |own y=>obtain ⟨ob,e⟩:=x;exact ⟨ob,k _ _ (.inl rfl) e⟩
 |xd fs=>obtain ⟨mA,⟨od,es,ep,e,c⟩,r⟩:=x;exact ⟨mA,⟨od,es,ep,k _ _ (.inl rfl) e,c⟩,r⟩
 |rng lo hi=>obtain ⟨t,u,v,e⟩:=x;exact ⟨t,u,v,k _ _ (.inl rfl) e⟩
 |frz ob u ih=>obtain ⟨e,q⟩:=x;exact ⟨k _ _ (.inl rfl) e,ih q⟩
 |tbl ps =>
  have e:h.get? a=some { cls:=.none,data:=.fields ps }:=x
  show h'.get? a=some { cls:=.none,data:=.fields ps }
  exact k a _ (.inl rfl) e
 |met f y =>
  have e:h.get? a=some (W.methodObj (.ref f) (.ref y)):=x
  show h'.get? a=some (W.methodObj (.ref f) (.ref y))
  exact k a _ (.inl rfl) e
 |ext φ=>obtain ⟨p,⟨o,e⟩,st⟩:=x;exact ⟨st _ _ p λo q=>k _ _ (.inl rfl) q,⟨o,k _ _ (.inl rfl) e⟩,st⟩
theorem HOk.lt (x:HOk P w H h)(e:H a=some o):a<h.objs.size:=(x a o e).lt
theorem HOk.fresh (x:HOk P w H h)(e:h.objs.size≤a):H a=none:=by
 cases q:H a with
 |none=>rfl
 |some u=>exact absurd (aG (x.lt q) e) (bv _)
theorem HOk.kept (x:HOk P w H h)(k:∀b u,h.get? b=some u→h'.get? b=some u):HOk P w H h':=λa o e =>
 (x a o e).stay (λb u _ q=>k b u q) (λ_ q=>q) λ_ _ q=>q
theorem HOk.laid (x:HOk P w H h)(k:∀b u,h.get? b=some u→h'.get? b=some u)(hp:h.objs.size≤a)(new:ObjOk P w (upd H a o) h' a o):HOk P w (upd H a o) h':=λb u e=>by
 have hn:=x.fresh hp
 by_cases hb:b=a
 ·subst hb;rw [qb] at e;cases e;exact new
 ·rw [wy hb] at e
  exact (x b u e).stay (λc v _ q=>k c v q) (λc q=>by rw [wy (wz q hn)];exact q) λc xs q=>by rw [wy (wz q hn)];exact q
end
def Rd (H:Hp)(a:Aj)(u:HO):Prop:=H a=some u∨∃o,H a=some (.frz o u)
theorem Rd.ok {P:Ac}{w:Ah}{H:Hp}{h:Heap}{a:Aj}{u:HO}(r:Rd H a u)(x:HOk P w H h):ObjOk P w H h a u:=by
 rcases r with r|⟨o,r⟩
 ·exact x a u r
 ·obtain ⟨_,q⟩:=x a _ r
  exact q
def Mut:Option HO→Prop
 |some (.lst _)=>True
 |some (.dK _)=>True
 |some (.dT _)=>True
 |some (.set _ _)=>True
 |some (.ins _ _ _)=>True
 |some (.ext _)=>True
 |_=>False
section
variable {P:Ac}{w:Ah}{H:Hp}{h h':Heap}{x e:Aj}{o':HO}
theorem HOk.write (ok:HOk P w H h)(mu:Mut (H x))(he:e=x∨H e=some (.own x))(k:∀b u,b≠e→h.get? b=some u→h'.get? b=some u)(heo:∃u,h'.get? e=some u)
  (new:ObjOk P w (upd H x o') h' x o'):HOk P w (upd H x o') h':=λb u q=>by
 have nown:∀c y,H c=some (.own y)→c≠x:=λc y r z=>by subst z;rw [r] at mu;exact mu
 have ntup:∀c xs,H c=some (.tup xs)→c≠x:=λc xs r z=>by subst z;rw [r] at mu;exact mu
 by_cases hb:b=x
 ·subst hb;rw [qb] at q;cases q;exact new
 ·rw [wy hb] at q
  by_cases hbe:b=e
  ·have q':H b=some (.own x):=by
    rcases he with z|z
    ·exact absurd (hbe.trans z) hb
    ·rw [hbe];exact z
   rw [q] at q';cases q'
   obtain ⟨v,hv⟩:=heo
   exact ⟨v,by rw [hbe];exact hv⟩
  ·refine (ok b u q).stay (λc v hc r=>k c v ?_ r) (λc r=>by rw [wy (nown c b r)];exact r) λc xs r=>by rw [wy (ntup c xs r)];exact r
   rcases hc with rfl|hc
   ·exact hbe
   ·rintro rfl
    rcases he with z|z
    ·exact nown c b hc z
    ·rw [hc] at z;cases z;exact hb rfl
end
structure Un (fs ex:List Aj)(H H':Hp)(h h':Heap):Prop where
 keep:∀b o,h.get? b=some o→H b=none→b∉fs→b∉ex→h'.get? b=some o
 slot:∀b o,h.get? b=some o→H b=none→b∈fs→b∉ex→∃sl,h'.get? b=some { o with slots:=sl }
 free:∀b o,h.get? b=some o→H b=none→b∉ex→H' b=none
 there:∀b o,h.get? b=some o→b∉ex→∃o',h'.get? b=some o'
 tups:∀b xs,H b=some (.tup xs)→H' b=some (.tup xs)
 frzs:∀b o u,H b=some (.frz o u)→H' b=some (.frz o u)
 tbls:∀b ps,H b=some (.tbl ps)→∃more,H' b=some (.tbl (ps++more))
section
variable {fs fs' ex ex':List Aj}{H H1 H2:Hp}{h h1 h2 h':Heap}{a x e:Aj}{o:HO}
theorem Un.any (u:Un fs ex H H1 h h1){b:Aj}{ob:Obj}(q:h.get? b=some ob)(n:H b=none)(hx:b∉ex):∃sl,h1.get? b=some { ob with slots:=sl }:=by
 by_cases hb:b∈fs
 ·exact u.slot b ob q n hb hx
 ·exact ⟨ob.slots,u.keep b ob q n hb hx⟩
theorem Un.kept (k:∀b u,h.get? b=some u→h'.get? b=some u):Un fs ex H H h h' :=
 ⟨λb ob q _ _ _=>k b ob q,λb ob q _ _ _=>⟨ob.slots,k b ob q⟩,λ_ _ _ n _=>n,λb ob q _=>⟨ob,k b ob q⟩,λ_ _ q=>q,λ_ _ _ q=>q,λ_ ps q=>⟨#[],by rw [q];simp⟩⟩
theorem Un.refl:Un fs ex H H h h:=Un.kept λ_ _ q=>q
theorem Un.laid (k:∀b u,h.get? b=some u→h'.get? b=some u)(hp:h.objs.size≤a)(hn:H a=none):Un fs ex H (upd H a o) h h' where
 keep:=λb u q _ _ _=>k b u q
 slot:=λb u q _ _ _=>⟨u.slots,k b u q⟩
 free:=λb u q n _=>by rw [wy (aC (aG (ao q) hp))];exact n
 there:=λb u q _=>⟨u,k b u q⟩
 tups:=λb xs q=>by rw [wy (wz q hn)];exact q
 frzs:=λb u xs q=>by rw [wy (wz q hn)];exact q
 tbls:=λb ps q=>⟨#[],by rw [wy (wz q hn),q];simp⟩
theorem Un.write (mu:Mut (H x))(he:e=x∨H e=some (.own x))(k:∀b u,b≠e→h.get? b=some u→h'.get? b=some u)(heo:∃u,h'.get? e=some u):Un fs ex H (upd H x o) h h':=by
 have hx:∀b,H b=none→b≠x:=λb n z=>by subst z;rw [n] at mu;exact mu
 have hb:∀b,H b=none→b≠e:=λb n z=>by
  subst z
  rcases he with r|r
  ·exact hx b n r
  ·rw [n] at r;cases r
 have hm:∀b u,H b=some u→¬ Mut (some u)→b≠x:=λb u q nm z=>by subst z;rw [q] at mu;exact nm mu
 refine ⟨λb u q n _ _=>k b u (hb b n) q,λb u q n _ _=>⟨u.slots,k b u (hb b n) q⟩,λb u q n _=>by rw [wy (hx b n)];exact n,λb u q _=>?_,
  λb xs q=>by rw [wy (hm b _ q λz=>z)];exact q,λb u xs q=>by rw [wy (hm b _ q λz=>z)];exact q,λb ps q=>⟨#[],by rw [wy (hm b _ q λz=>z),q];simp⟩⟩
 by_cases hbe:b=e
 ·subst hbe;exact heo
 ·exact ⟨u,k b u hbe q⟩
end
def trk (h:Heap)(H:Hp):List Aj:=(List.range h.objs.size).filter λa=>(H a).isSome
def qv6 (h:Heap)(H:Hp):Heap:=W.hideAll h (trk h H)
theorem wx8 (h:Heap)(H:Hp):(qv6 h H).objs.size=h.objs.size:=W.hideAll_size _ _
theorem wvh {h:Heap}{H:Hp}{b:Aj}{o:Obj}(e:h.get? b=some o)(n:H b=none):(qv6 h H).get? b=some o :=
 W.hideAll_get _ e λhm=>by
  have q:(H b).isSome=true:=(fJ.mp hm).2
  rw [n] at q;simp at q
theorem wuj {h:Heap}{H:Hp}{b:Aj}{o:Obj}(e:(qv6 h H).get? b=some o):h.get? b=some o∧H b=none:=by
 have e':h.get? b=some o:=W.of_hideAll (trk h H) e
 refine ⟨e',?_⟩
 cases q:H b with
 |none=>rfl
 |some x =>
  have hm:b∈trk h H:=fJ.mpr ⟨aS.mpr (ao e'),by simp [q]⟩
  have z:(qv6 h H).get? b=none:=W.hideAll_none (trk h H) hm
  rw [z] at e;cases e
def wub (g h:Heap)(L:Aj):List (Aj×Obj):=(List.range h.objs.size).filterMap λa=>if a=L∨(g.get? a).isSome=true then none else (h.get? a).map λo=>(a,o)
def rest (g h:Heap)(L d:Aj):List (Aj×Obj):=(wub g h L).filter λp=>decide (p.1≠d)
structure Mod (K:Aa)(mg:Str→Option Ag)(base:Heap):Prop where
 kin:K.In base
 glob:base.Ns mainGlobals mg
 blt:∃mb,base.Ns builtinsNs mb∧∀x:Str,x ≠ "__name__" → mb x=bootBuiltins x
 nolimit:base.NoLimit
structure Cx where
 prog:Ac
 w:Ah
 K:Aa
 mg:Str→Option Ag
 base:Heap
 A:Ae
 N:List Str
 s₀:Ab
 H₀:Hp
 env:Env
 outer:List Env
 stack:List Env
 ex:List Aj
 fn:Str→Bool
 calm:Bool
 pn:List (Aj×Obj)
 xe:Ag→Ab→Prop
def frs (l:List Env):List Aj:=l.filterMap (·.frame)
abbrev Cx.fs (X:Cx):List Aj:=frs X.outer
def Vis (sc:Scope)(x:Str):Prop:=sc.names.lookup x=some .local∨sc.names.lookup x=some .cell∨sc.names.lookup x=some .free
def Loc (sc:Scope)(x:Str):Prop:=sc.names.lookup x=some .local∨sc.names.lookup x=some .cell
def Look (env:Env)(h:Heap)(m:Str→Option Ag)(x:Str)(u:Ag):Prop :=
 (env.kindOf x=some .local∧m x=some u)∨((env.kindOf x=some .cell∨env.kindOf x=some .free)∧∃c,env.cells.lookup x=some c∧h.IsCell c (some u))
structure Cx.Ok (X:Cx):Prop where
 mod:Mod X.K X.mg X.base
 kind:X.env.scope.kind=.function
 glob:X.env.globals=mainGlobals
 blt:X.env.builtins=builtinsNs
 above:X.s₀.heap.objs.size≤X.env.locals
 inj:∀x y c,X.env.cells.lookup x=some c→X.env.cells.lookup y=some c→x=y
 has:∀x,(X.env.kindOf x=some .cell∨X.env.kindOf x=some .free)→∃c,X.env.cells.lookup x=some c
 cab:∀x c,X.fn x=true→X.env.cells.lookup x=some c→X.s₀.heap.objs.size≤c
 hd:X.calm=true→X.A.handled=none
 frames:X.A.frames=some X.stack
 stk:X.stack=X.outer∨(X.stack=X.env::X.outer∧X.env.frame=some X.env.locals)
 exf:∀b∈X.ex,b≠X.env.locals∧∀x c,X.env.cells.lookup x=some c→c≠b
 bs:∀b o,X.base.get? b=some o→X.s₀.heap.get? b=some o∧X.H₀ b=none
 bsz:X.base.objs.size≤X.s₀.heap.objs.size
 noex:∀b o,X.base.get? b=some o→b∉X.ex
 exfs:∀b∈X.ex,b∉X.fs
 funs:X.s₀.heap.FunFrames X.base X.outer
 frf:∀b∈X.fs,X.H₀ b=none
structure Inv (X:Cx)(pins:List (Aj×Obj))(σ:List (Option V))(H:Hp)(s:Ab):Prop where
 ok:X.Ok
 os:s.os=X.s₀.os
 bare:AllBare s.gens
 base:Un X.fs X.ex X.H₀ H X.s₀.heap s.heap
 loc:∃m,s.heap.Ns X.env.locals m∧∀(i:Nat) (x:Str) (v:V),X.N[i]?=some x→σ[i]?=some (some v)→Vis X.env.scope x→∃u,RelV v u∧Look X.env s.heap m x u
 cell:∀x c,X.env.cells.lookup x=some c→∃v,s.heap.IsCell c v
 free:H X.env.locals=none
 freeC:∀x c,X.env.cells.lookup x=some c→H c=none
 pin:∀p∈X.pn++pins,s.heap.get? p.1=some p.2∧H p.1=none∧p.1≠X.env.locals∧p.1∉X.fs∧∀v,p.2.data≠.cell v
 hok:HOk X.prog X.w H s.heap
 len:σ.length=X.N.length
section
variable {X:Cx}{pins:List (Aj×Obj)}{σ:List (Option V)}{H H':Hp}{s:Ab}{h':Heap}
theorem Cx.Ok.nofr (ok:X.Ok){b:Aj}{o:Obj}(e:X.base.get? b=some o):b∉X.fs:=λhb=>by
 have:=(ok.funs.mem hb).1
 rw [e] at this;cases this
theorem Inv.bs (I:Inv X pins σ H s):∀b o,X.base.get? b=some o→s.heap.get? b=some o∧H b=none:=λb o e =>
 ⟨I.base.keep b o (I.ok.bs b o e).1 (I.ok.bs b o e).2 (I.ok.nofr e) (I.ok.noex b o e),I.base.free b o (I.ok.bs b o e).1 (I.ok.bs b o e).2 (I.ok.noex b o e)⟩
theorem Inv.bk (I:Inv X pins σ H s):∀b o,X.base.get? b=some o→s.heap.get? b=some o:=λb o e=>(I.bs b o e).1
theorem Inv.mod (I:Inv X pins σ H s):Mod X.K X.mg X.base:=I.ok.mod
theorem Inv.kIn (I:Inv X pins σ H s):X.K.In s.heap:=I.ok.mod.kin.keeps I.bk
theorem Inv.lt (I:Inv X pins σ H s):X.env.locals<s.heap.objs.size:=let ⟨_,hn,_⟩:=I.loc;hn.lt
theorem Inv.sz (I:Inv X pins σ H s):X.s₀.heap.objs.size≤s.heap.objs.size:=bw I.ok.above (cx I.lt)
theorem Inv.nofs (I:Inv X pins σ H s){a:Aj}(h:s.heap.objs.size≤a):a∉X.fs:=λhb=>by
 obtain ⟨_,o,ho,_⟩:=I.ok.funs.mem hb
 exact absurd (aG (ao ho) (bw I.sz h)) (bv _)
theorem Inv.cne (I:Inv X pins σ H s):∀x c,X.env.cells.lookup x=some c→c≠X.env.locals:=λx c e z=>by
 obtain ⟨v,o,ho,hd⟩:=I.cell x c e
 obtain ⟨m,⟨o',es,ep,ho',hd',_⟩,_⟩:=I.loc
 rw [z,ho'] at ho;cases ho;rw [hd'] at hd;cases hd
theorem Inv.funs (I:Inv X pins σ H s):s.heap.FunFrames X.base X.outer:=by
 have all:∀(l:List Env),(∀b∈frs l,b∈X.fs)→X.s₀.heap.FunFrames X.base l→s.heap.FunFrames X.base l:=by
  intro l
  induction l with
  |nil=>intro _ _;trivial
  |cons env r ih =>
   intro hs hl
   obtain ⟨hk,⟨L,o,hf,hn,ho,hd⟩,hr⟩:=hl
   have hL:L∈X.fs:=hs L (by unfold frs;rw [dm,hf];exact ar)
   obtain ⟨sl,e⟩:=I.base.slot L o ho (I.ok.frf L hL) hL λz=>I.ok.exfs L z hL
   exact ⟨hk,⟨L,_,hf,hn,e,hd⟩,ih (λb hb=>hs b (by unfold frs;rw [dm,hf];exact ax _ hb)) hr⟩
 exact all X.outer (λ_ hb=>hb) I.ok.funs
theorem Inv.stack (I:Inv X pins σ H s):s.heap.FunFrames X.base X.stack:=by
 rcases I.ok.stk with e|⟨e,hf⟩
 ·rw [e];exact I.funs
 ·rw [e]
  obtain ⟨m,hn,_⟩:=I.loc
  refine .cons (by rw [I.ok.kind];decide) hf hn ?_ I.funs
  exact Heap.get?_none_of_le (bw I.ok.bsz I.ok.above)
theorem Inv.stkSub (I:Inv X pins σ H s):∀b∈frs X.stack,b∈X.env.locals::X.fs:=λb hb=>by
 rcases I.ok.stk with e|⟨e,hf⟩
 ·rw [e] at hb;exact ax _ hb
 ·rw [e] at hb
  unfold frs at hb
  rw [dm,hf] at hb
  exact hb
theorem Inv.stkFree (I:Inv X pins σ H s):∀b∈frs X.stack,H b=none:=λb hb=>by
 rcases ag.mp (I.stkSub b hb) with e|hb
 ·rw [e];exact I.free
 ·obtain ⟨_,o,ho,_⟩:=I.ok.funs.mem hb
  exact I.base.free b o ho (I.ok.frf b hb) λz=>I.ok.exfs b z hb
theorem Inv.step {g':Array GenState}{t':Nat}{d':Drawn}{ch:List Aj}(I:Inv X pins σ H s)
  (hch:∀b∈ch,(b∈X.ex∨X.s₀.heap.objs.size≤b)∧b≠X.env.locals∧(∀x c,X.env.cells.lookup x=some c→c≠b)∧∀p∈X.pn++pins,p.1≠b)
  (keep:∀b o,b≠X.env.locals→b∉X.fs→b∉ch→s.heap.get? b=some o→H b=none→h'.get? b=some o)
  (slot:∀b o,b≠X.env.locals→b∈X.fs→b∉ch→s.heap.get? b=some o→H b=none→∃sl,h'.get? b=some { o with slots:=sl }) (free:∀b o,b∉ch→s.heap.get? b=some o→H b=none→H' b=none)
  (there:∀b o,b∉ch→s.heap.get? b=some o→∃o',h'.get? b=some o')
  (tups:∀b xs,H b=some (.tup xs)→H' b=some (.tup xs)) (frzs:∀b o u,H b=some (.frz o u)→H' b=some (.frz o u)) (tbls:∀b ps,H b=some (.tbl ps)→∃more,H' b=some (.tbl (ps++more)))
  (ns:∀m,s.heap.Ns X.env.locals m→h'.Ns X.env.locals m) (hok:HOk X.prog X.w H' h') (hg:AllBare g') :
  Inv X pins σ H' { s with heap:=h',gens:=g',drawn:=d',toks:=t' }:=by
 have neL:∀b o,X.s₀.heap.get? b=some o→b≠X.env.locals:=λb o e=>aC (aG (ao e) I.ok.above)
 have neC:∀b o,X.s₀.heap.get? b=some o→b∉X.ex→b∉ch:=λb o e hx hb=>by
  rcases (hch b hb).1 with z|z
  ·exact hx z
  ·exact absurd (aG (ao e) z) (bv _)
 have cellK:∀x c,X.env.cells.lookup x=some c→∀v,s.heap.IsCell c v→h'.IsCell c v:=λx c e v ⟨o,ho,hd⟩=>by
  have nch:c∉ch:=λz=>(hch c z).2.2.1 x c e rfl
  by_cases hc:c∈X.fs
  ·obtain ⟨sl,q⟩:=slot c o (I.cne x c e) hc nch ho (I.freeC x c e)
   exact ⟨_,q,hd⟩
  ·exact ⟨o,keep c o (I.cne x c e) hc nch ho (I.freeC x c e),hd⟩
 refine ⟨I.ok,I.os,hg,⟨λb o e n hb hx=>?_,λb o e n hb hx=>?_,λb o e n hx=>?_,λb o e hx=>?_,λb xs e=>tups b xs (I.base.tups b xs e),λb o xs e=>frzs b o xs (I.base.frzs b o xs e),λb ps e=>?_⟩,?_,λx c e=>?_,?_,λx c e=>?_,λp hp=>?_,hok,I.len⟩
 ·exact keep b o (neL b o e) hb (neC b o e hx) (I.base.keep b o e n hb hx) (I.base.free b o e n hx)
 ·obtain ⟨sl,e1⟩:=I.base.slot b o e n hb hx
  obtain ⟨sl',e2⟩:=slot b _ (neL b o e) hb (neC b o e hx) e1 (I.base.free b o e n hx)
  exact ⟨sl',e2⟩
 ·obtain ⟨o',e1⟩:=I.base.there b o e hx
  exact free b o' (neC b o e hx) e1 (I.base.free b o e n hx)
 ·obtain ⟨o',e1⟩:=I.base.there b o e hx
  exact there b o' (neC b o e hx) e1
 ·obtain ⟨m1,e1⟩:=I.base.tbls b ps e
  obtain ⟨m2,e2⟩:=tbls b _ e1
  exact ⟨m1++m2,by rw [e2,Array.append_assoc]⟩
 ·obtain ⟨m,hn,hl⟩:=I.loc
  refine ⟨m,ns m hn,λi x v e1 e2 e3=>?_⟩
  obtain ⟨u,r,l⟩:=hl i x v e1 e2 e3
  refine ⟨u,r,?_⟩
  rcases l with l|⟨k,c,e,z⟩
  ·exact .inl l
  ·exact .inr ⟨k,c,e,cellK x c e _ z⟩
 ·obtain ⟨v,z⟩:=I.cell x c e
  exact ⟨v,cellK x c e v z⟩
 ·obtain ⟨m,⟨o,_,_,ho,_⟩,_⟩:=I.loc
  exact free _ o (λz=>(hch _ z).2.1 rfl) ho I.free
 ·obtain ⟨v,o,ho,hd⟩:=I.cell x c e
  exact free c o (λz=>(hch c z).2.2.1 x c e rfl) ho (I.freeC x c e)
 ·obtain ⟨e,n,ne,nf,d⟩:=I.pin p hp
  have nch:p.1∉ch:=λz=>(hch p.1 z).2.2.2 p hp rfl
  exact ⟨keep p.1 p.2 ne nf nch e n,free p.1 p.2 nch e n,ne,nf,d⟩
theorem Inv.un {t':Nat}(I:Inv X pins σ H s)(u:Un X.fs [] H H' s.heap h')(hok:HOk X.prog X.w H' h'):Inv X pins σ H' { s with heap:=h',toks:=t' }:=by
 obtain ⟨m,⟨o,es,ep,ho,r⟩,_⟩:=id I.loc
 obtain ⟨sl,hL⟩:=u.any ho I.free (by simp)
 exact I.step (g':=s.gens) (d':=s.drawn) (ch:=[]) (λ_ z=>nomatch z) (λb o _ hb _ e n=>u.keep b o e n hb (by simp)) (λb o _ hb _ e n=>u.slot b o e n hb (by simp)) (λb o _ e n=>u.free b o e n (by simp)) (λb o _ e=>u.there b o e (by simp)) u.tups u.frzs u.tbls (λm' hm=>by
  obtain ⟨o',es',ep',ho',r'⟩:=hm
  rw [ho] at ho';cases ho'
  exact ⟨_,es',ep',hL,r'⟩) hok I.bare
theorem Inv.call {g':Array GenState}{t':Nat}{d':Drawn}{ch:List Aj}(I:Inv X pins σ H s)(u:Un (frs X.stack) ch H H' s.heap h')(hok:HOk X.prog X.w H' h')(hg:AllBare g')
  (hch:∀b∈ch,(b∈X.ex∨X.s₀.heap.objs.size≤b)∧b≠X.env.locals∧(∀x c,X.env.cells.lookup x=some c→c≠b)∧∀p∈X.pn++pins,p.1≠b) :
  Inv X pins σ H' { s with heap:=h',gens:=g',drawn:=d',toks:=t' }:=by
 obtain ⟨m,⟨o,es,ep,ho,r⟩,_⟩:=id I.loc
 obtain ⟨sl,hL⟩:=u.any ho I.free λz=>(hch _ z).2.1 rfl
 exact I.step (ch:=ch) hch (λb o hL hb hc e n=>u.keep b o e n (λz=>(ag.mp (I.stkSub b z)).elim hL hb) hc) (λb o _ _ hc e n=>u.any e n hc) (λb o hc e n=>u.free b o e n hc) (λb o hc e=>u.there b o e hc) u.tups u.frzs u.tbls (λm' hm=>by
  obtain ⟨o',es',ep',ho',r'⟩:=hm
  rw [ho] at ho';cases ho'
  exact ⟨_,es',ep',hL,r'⟩) hok hg
theorem Inv.turned {t':Nat}{it:Aj}(I:Inv X pins σ H s)(k:∀b o,b≠it→s.heap.get? b=some o→h'.get? b=some o)(hn:H it=none)(hL:it≠X.env.locals)
  (h1:it∈X.ex∨X.s₀.heap.objs.size≤it) (h2:∀x c,X.env.cells.lookup x=some c→c≠it) (h3:∀p∈X.pn++pins,p.1≠it):Inv X pins σ H { s with heap:=h',toks:=t' }:=by
 have nit:∀b u,H b=some u→b≠it:=λb u e z=>by rw [z,hn] at e;cases e
 refine I.step (g':=s.gens) (d':=s.drawn) (ch:=[it]) (λb hb=>?_) (λb o _ _ hc e _=>k b o (λz=>hc (by simp [z])) e) (λb o _ _ hc e _=>⟨o.slots,k b o (λz=>hc (by simp [z])) e⟩) (λ_ _ _ _ n=>n)
  (λb o hc e=>⟨o,k b o (λz=>hc (by simp [z])) e⟩) (λ_ _ e=>e) (λ_ _ _ e=>e) (λb ps e=>⟨#[],by rw [e];simp⟩) (λm hm=>?_) (λb u e=>?_) I.bare
 ·have e:b=it:=by simpa using hb
  subst e
  exact ⟨h1,hL,h2,h3⟩
 ·obtain ⟨o,es,ep,ho,r⟩:=hm
  exact ⟨o,es,ep,k _ o (aY hL) ho,r⟩
 ·refine (I.hok b u e).stay (λc v hc q=>k c v ?_ q) (λ_ q=>q) λ_ _ q=>q
  rcases hc with z|z
  ·rw [z];exact nit b u e
  ·exact nit c _ z
theorem Inv.tok (I:Inv X pins σ H s)(t:Nat):Inv X pins σ H { s with toks:=t }:=I.un (h':=s.heap) (t':=t) Un.refl I.hok
theorem Inv.kept {t':Nat}(I:Inv X pins σ H s)(k:∀b u,s.heap.get? b=some u→h'.get? b=some u):Inv X pins σ H { s with heap:=h',toks:=t' }:=I.un (Un.kept k) (I.hok.kept k)
theorem Inv.laid {a:Aj}{o:HO}{t':Nat}(I:Inv X pins σ H s)(k:∀b u,s.heap.get? b=some u→h'.get? b=some u)(hp:s.heap.objs.size≤a)(new:ObjOk X.prog X.w (upd H a o) h' a o) :
  Inv X pins σ (upd H a o) { s with heap:=h',toks:=t' }:=I.un (Un.laid k hp (I.hok.fresh hp)) (I.hok.laid k hp new)
theorem Inv.write {x e:Aj}{o:HO}{t':Nat}(I:Inv X pins σ H s)(mu:Mut (H x))(he:e=x∨H e=some (.own x))(k:∀b u,b≠e→s.heap.get? b=some u→h'.get? b=some u)(heo:∃u,h'.get? e=some u)
  (new:ObjOk X.prog X.w (upd H x o) h' x o):Inv X pins σ (upd H x o) { s with heap:=h',toks:=t' }:=I.un (Un.write mu he k heo) (I.hok.write mu he k heo new)
theorem Inv.weak {σ':List (Option V)}(I:Inv X pins σ H s)(hl:σ'.length=σ.length)(w:∀(i:Nat) v,σ'[i]?=some (some v)→σ[i]?=some (some v)):Inv X pins σ' H s :=
 ⟨I.ok,I.os,I.bare,I.base,let ⟨m,hn,hl'⟩:=I.loc;⟨m,hn,λi x v e1 e2 e3=>hl' i x v e1 (w i v e2) e3⟩,I.cell,I.free,I.freeC,I.pin,I.hok,hl.trans I.len⟩
theorem Inv.pins_of {pins':List (Aj×Obj)}(I:Inv X pins σ H s)(h:∀p∈pins',s.heap.get? p.1=some p.2∧H p.1=none∧p.1≠X.env.locals∧p.1∉X.fs∧∀v,p.2.data≠.cell v):Inv X pins' σ H s :=
 ⟨I.ok,I.os,I.bare,I.base,I.loc,I.cell,I.free,I.freeC,λp hp=>(bq.mp hp).elim (λz=>I.pin p (bX _ z)) (h p),I.hok,I.len⟩
theorem qy7 {N:List Str}(hN:N.Nodup){i j:Nat}{x:Str}(a:N[i]?=some x)(b:N[j]?=some x):i=j:=by
 obtain ⟨h1,e1⟩:=aR.mp a
 obtain ⟨h2,e2⟩:=aR.mp b
 exact (fu hN).mp (e1.trans e2.symm)
theorem _root_.aU0 (h:True:=by walk_at "iv"):True:=h
theorem wz5 {M:Model}{A:Ae}{E:Ag→Ab→Prop}{i:Nat}{x:Str}{v:V}{u:Ag}{Q:Unit→Ab→Prop}(I:Inv X pins σ H s)(hN:X.N.Nodup)(hi:X.N[i]?=some x)(hx:Loc X.env.scope x)(r:RelV v u)
  (h:∀s',Inv X pins (σ.set i (some v)) H s'→(∃a,Heap.SameBut a s.heap s'.heap∧(a=X.env.locals∨X.env.cells.lookup x=some a))→Q () s') (hf:autoParam (X.fn x=true∨X.env.scope.names.lookup x=some .local) aU0._auto_1):wpAny M A (storeName X.env x u) Q E s:=by
 obtain ⟨m,hn,hl⟩:=id I.loc
 have hcls:(X.env.scope.kind==.class||(X.env.scope.kind==.module&&X.env.locals != X.env.globals))=false:=by rw [I.ok.kind];rfl
 have hiσ:i<σ.length:=by rw [I.len];exact (aR.mp hi).1
 have cne:=I.cne
 have tracked:∀ {a:Aj} {h':Heap},(∃o,s.heap.get? a=some o∧H a=none)→Heap.SameBut a s.heap h'→HOk X.prog X.w H h':=λ{a h'} ha hs b ob e=>by
  obtain ⟨_,_,hfree⟩:=ha
  refine (I.hok b ob e).stay (λc w' hc q=>(hs.2 c ?_).trans q) (λ_ q=>q) λ_ _ q=>q
  rintro rfl
  rcases hc with rfl|hc
  ·rw [hfree] at e;cases e
  ·rw [hfree] at hc;cases hc
 rcases hx with hk|hk
 ·refine wpAny_storeName_local hk hn (λh' hn' hs=>?_) hcls
  obtain ⟨oL,_,_,hoL,_⟩:=id hn
  refine h _ ⟨I.ok,I.os,I.bare,⟨λb o e n hb hx=>?_,λb o e n hb hx=>?_,I.base.free,λb o e hx=>?_,I.base.tups,I.base.frzs,I.base.tbls⟩,⟨_,hn',λj y v' e1 e2 e3=>?_⟩,λy c e=>?_,I.free,I.freeC,λp hp=>?_,tracked ⟨oL,hoL,I.free⟩ hs,by simpa using I.len⟩ ⟨_,hs,.inl rfl⟩
  ·exact (hs.2 b (aC (aG (ao e) I.ok.above))).trans (I.base.keep b o e n hb hx)
  ·obtain ⟨sl,e1⟩:=I.base.slot b o e n hb hx
   exact ⟨sl,(hs.2 b (aC (aG (ao e) I.ok.above))).trans e1⟩
  ·obtain ⟨o',e1⟩:=I.base.there b o e hx
   exact ⟨o',(hs.2 b (aC (aG (ao e) I.ok.above))).trans e1⟩
  ·by_cases hj:j=i
   ·subst hj
    rw [hi] at e1;cases e1
    rw [List.getElem?_set_self hiσ] at e2
    cases e2
    exact ⟨u,r,.inl ⟨hk,by simp⟩⟩
   ·rw [List.getElem?_set_ne (aY hj)] at e2
    obtain ⟨u',r',q⟩:=hl j y v' e1 e2 e3
    refine ⟨u',r',?_⟩
    rcases q with ⟨k,e⟩|⟨k,c,e,z⟩
    ·refine .inl ⟨k,?_⟩
     have:y≠x:=λe=>hj (qy7 hN e1 (e▸hi))
     simp [this,e]
    ·exact .inr ⟨k,c,e,z.sameBut hs (cne y c e)⟩
  ·obtain ⟨w',z⟩:=I.cell y c e
   exact ⟨w',z.sameBut hs (cne y c e)⟩
  ·obtain ⟨e,n,ne,nf,d⟩:=I.pin p hp
   exact ⟨(hs.2 p.1 ne).trans e,n,ne,nf,d⟩
 ·have hfn:X.fn x=true:=by
   rcases hf with z|z
   ·exact z
   ·rw [z] at hk;cases hk
  obtain ⟨c,hc⟩:=I.ok.has x (.inl hk)
  obtain ⟨w',z⟩:=I.cell x c hc
  refine wpAny_storeName_cell I.ok.kind hk hc z (λh' hc' hs=>?_)
  obtain ⟨oc,hoc,hocd⟩:=id z
  refine h { s with heap:=h' } ⟨I.ok,I.os,I.bare,⟨λb o e n hb hx=>?_,λb o e n hb hx=>?_,I.base.free,λb o e hx=>?_,I.base.tups,I.base.frzs,I.base.tbls⟩,⟨m,hn.sameBut hs (aY (cne x c hc)),λj y v' e1 e2 e3=>?_⟩,λy c' e=>?_,I.free,I.freeC,λp hp=>?_,tracked ⟨oc,hoc,I.freeC x c hc⟩ hs,by simpa using I.len⟩ ⟨c,hs,.inr hc⟩
  ·exact (hs.2 b (aC (aG (ao e) (I.ok.cab x c hfn hc)))).trans (I.base.keep b o e n hb hx)
  ·obtain ⟨sl,e1⟩:=I.base.slot b o e n hb hx
   exact ⟨sl,(hs.2 b (aC (aG (ao e) (I.ok.cab x c hfn hc)))).trans e1⟩
  ·obtain ⟨o',e1⟩:=I.base.there b o e hx
   exact ⟨o',(hs.2 b (aC (aG (ao e) (I.ok.cab x c hfn hc)))).trans e1⟩
  ·by_cases hj:j=i
   ·subst hj
    rw [hi] at e1;cases e1
    rw [List.getElem?_set_self hiσ] at e2
    cases e2
    exact ⟨u,r,.inr ⟨.inl hk,c,hc,hc'⟩⟩
   ·rw [List.getElem?_set_ne (aY hj)] at e2
    obtain ⟨u',r',q⟩:=hl j y v' e1 e2 e3
    refine ⟨u',r',?_⟩
    rcases q with q|⟨k,c',e,z'⟩
    ·exact .inl q
    ·refine .inr ⟨k,c',e,z'.sameBut hs ?_⟩
     rintro rfl
     exact hj (qy7 hN e1 (I.ok.inj _ _ _ e hc▸hi))
  ·by_cases hcc:c'=c
   ·subst hcc;exact ⟨_,hc'⟩
   ·obtain ⟨w2,z2⟩:=I.cell y c' e
    exact ⟨w2,z2.sameBut hs hcc⟩
  ·obtain ⟨e,n,ne,nf,d⟩:=I.pin p hp
   refine ⟨(hs.2 p.1 ?_).trans e,n,ne,nf,d⟩
   intro q
   rw [q,hoc] at e
   have q':oc=p.2:=az e
   exact d w' (by rw [←q'];exact hocd)
theorem uw {M:Model}{A:Ae}{E:Ag→Ab→Prop}{i:Nat}{x:Str}{v:V}{u:Ag}{Q:Unit→Ab→Prop}(I:Inv X pins σ H s)(hN:X.N.Nodup)(hi:X.N[i]?=some x)(hx:Loc X.env.scope x)(r:RelV v u)
  (h:∀s',Inv X pins (σ.set i (some v)) H s'→Q () s') (hf:autoParam (X.fn x=true∨X.env.scope.names.lookup x=some .local) aU0._auto_1):wpAny M A (storeName X.env x u) Q E s :=
 wz5 I hN hi hx r (λs' I' _=>h s' I') hf
theorem Inv.call' {s':Ab}{ch:List Aj}(I:Inv X pins σ H s)(ho:s'.os=s.os)(u:Un (frs X.stack) ch H H' s.heap s'.heap)(hok:HOk X.prog X.w H' s'.heap)(hg:AllBare s'.gens)
  (hch:∀b∈ch,(b∈X.ex∨X.s₀.heap.objs.size≤b)∧b≠X.env.locals∧(∀x c,X.env.cells.lookup x=some c→c≠b)∧∀p∈X.pn++pins,p.1≠b):Inv X pins σ H' s':=by
 obtain ⟨h',g',d',t',o'⟩:=s'
 have e:o'=s.os:=ho
 subst e
 exact I.call (g':=g') (t':=t') (d':=d') u hok hg hch
end
abbrev XK:=Ag→Option Aj→Hp→Prop
abbrev St:=List (Option V)
abbrev VK:=V→Hp→Prop
abbrev TE:=St→Hp→VK→Prop
abbrev TT:=St→Hp→(Bool→Hp→Prop)→Prop
abbrev TA:=St→Hp→(List V→Hp→Prop)→Prop
structure Ends where
 nx:St→Hp→Prop
 rt:VK
 bk:St→Hp→Prop:=λ_ _=>False
 ct:St→Hp→Prop:=λ_ _=>False
abbrev TS:=Ends→St→Hp→Prop
def EP (X:Cx)(pins:List (Aj×Obj))(σ:St)(Q:VK)(u:Ag)(s':Ab):Prop:=∃v H',Inv X pins σ H' s'∧RelV v u∧Q v H'
def TP (X:Cx)(pins:List (Aj×Obj))(σ:St)(Q:Bool→Hp→Prop)(b:Bool)(s':Ab):Prop:=∃H',Inv X pins σ H' s'∧Q b H'
def AP (X:Cx)(pins:List (Aj×Obj))(σ:St)(Q:List V→Hp→Prop)(us:List Ag)(s':Ab):Prop:=∃vs H',Inv X pins σ H' s'∧Vals vs us∧Q vs H'
def SP (X:Cx)(pins:List (Aj×Obj))(D:Ends)(f:Flow)(s':Ab):Prop :=
 match f with
 |.next=>∃σ' H',Inv X pins σ' H' s'∧D.nx σ' H'
 |.brk=>∃σ' H',Inv X pins σ' H' s'∧D.bk σ' H'
 |.cont=>∃σ' H',Inv X pins σ' H' s'∧D.ct σ' H'
 |.ret u=>∃v σ' H',Inv X pins σ' H' s'∧RelV v u∧D.rt v H'
def PE (X:Cx)(e:Expr)(t:TE):Prop :=
 ∀(pins:List (Aj×Obj)) (s:Ab) (σ:St) (H:Hp) (Q:VK),Inv X pins σ H s→t σ H Q→wpAny (model X.prog X.w) X.A (eval e X.env) (EP X pins σ Q) X.xe s
def PT (X:Cx)(e:Expr)(t:TT):Prop :=
 ∀(pins:List (Aj×Obj)) (s:Ab) (σ:St) (H:Hp) (Q:Bool→Hp→Prop),Inv X pins σ H s→t σ H Q→wpAny (model X.prog X.w) X.A (isTrue e X.env (eval e X.env)) (TP X pins σ Q) X.xe s
def PW (X:Cx)(e:Expr)(t:TT):Prop :=
 ∀(whole:Sem Ag) (pins:List (Aj×Obj)) (s:Ab) (σ:St) (H:Hp) (Q:Bool→Hp→Prop),Inv X pins σ H s→t σ H Q→wpAny (model X.prog X.w) X.A (isTrue e X.env whole) (TP X pins σ Q) X.xe s
theorem PW.pt {X:Cx}{e:Expr}{t:TT}(h:PW X e t):PT X e t:=h _
def PA (X:Cx)(es:List Expr)(t:TA):Prop :=
 ∀(pos:Pos) (pins:List (Aj×Obj)) (s:Ab) (σ:St) (H:Hp) (Q:List V→Hp→Prop),Inv X pins σ H s→t σ H Q→wpAny (model X.prog X.w) X.A (spliced (backTo pos (starEach es X.env))) (AP X pins σ Q) X.xe s
def PS (X:Cx)(st:Stmt)(t:TS):Prop :=
 ∀(pins:List (Aj×Obj)) (s:Ab) (σ:St) (H:Hp) (D:Ends),Inv X pins σ H s→t D σ H→wpAny (model X.prog X.w) X.A (exec st X.env) (SP X pins D) X.xe s
def PSs (X:Cx)(st:List Stmt)(t:TS):Prop :=
 ∀(pins:List (Aj×Obj)) (s:Ab) (σ:St) (H:Hp) (D:Ends),Inv X pins σ H s→t D σ H→wpAny (model X.prog X.w) X.A (execs st X.env) (SP X pins D) X.xe s
theorem thn {α:Type}{t:Sem α}{Q Q':α→Ab→Prop}{M:Model}{A:Ae}{E:Ag→Ab→Prop}{s:Ab}(h:wpAny M A t Q E s)(hQ:∀a s,Q a s→Q' a s):wpAny M A t Q' E s:=bg h hQ λ_ _ x=>x
section
variable {X:Cx}
def W0 (i:Nat):TE:=λσ H Q=>∃v,σ[i]?=some (some v)∧Q v H
def tC (v:V):TE:=λ_ H Q=>Q v H
theorem _root_.aU1 (h:True:=by decide):True:=h
theorem pe_var {i:Nat}{x:Str}{pos:Pos}(hN:X.N[i]?=some x)(hv:Vis X.env.scope x)(hd:autoParam ((x==("__debug__" : Str))=false) aU1._auto_1)(hcd:autoParam ((x==("__classdict__" : Str))=false) aU1._auto_1):PE X (.Name x pos) (W0 i):=by
 intro pins s σ H Q I h
 obtain ⟨v,e,h⟩:=h
 obtain ⟨m,hn,hl⟩:=I.loc
 obtain ⟨u,r,l⟩:=hl i x v hN e hv
 have fin:EP X pins σ Q u s:=⟨v,H,I,r,h⟩
 rcases l with ⟨hk,hm⟩|⟨hk,c,hc,hcell⟩
 ·exact wpAny_Name (wpAny_loadName_local I.ok.kind hk hn hm fin) hd
 ·rcases hk with hk|hk
  ·exact wpAny_Name (wpAny_loadName_cell I.ok.kind hk hc hcell fin) hd
  ·exact wpAny_Name (wpAny_loadName_free I.ok.kind hk hc hcell fin hcd) hd
theorem qr {i j pos}:PE X (.Constant (.int i) j pos) (tC (.int i)):=λ_ _ _ H _ I h=>wpAny_Constant_int ⟨.int i,H,I.tok _,⟨_,rfl⟩,h⟩
theorem yn {b j pos}:PE X (.Constant (.bool b) j pos) (tC (.bl b)):=λ_ _ _ H _ I h=>Constant_bool ⟨.bl b,H,I,rfl,h⟩
theorem wvz {j pos}:PE X (.Constant .none j pos) (tC .non):=λ_ _ _ H _ I h=>Constant_none ⟨.non,H,I,rfl,h⟩
theorem xp {x j pos}:PE X (.Constant (.str x) j pos) (tC (.str x)):=λ_ _ _ H _ I h=>Calls.Constant_str ⟨.str x,H,I.tok _,⟨_,rfl⟩,h⟩
def Gl (X:Cx)(x:Str):Prop:=X.env.kindOf x=some .globalImplicit
theorem Qg {E:Ag→Ab→Prop}{pins:List (Aj×Obj)}{s:Ab}{σ:St}{H:Hp}{x:Str}{u:Ag}{pos:Pos}{Q:Ag→Ab→Prop}(I:Inv X pins σ H s)(hg:Gl X x)(hm:X.mg x=some u)(h:Q u s)
  (hd:autoParam ((x==("__debug__" : Str))=false) aU1._auto_1):wpAny (model X.prog X.w) X.A (eval (.Name x pos) X.env) Q E s :=
 Calls.Name_function_global I.ok.kind hg (Calls.loadGlobal_global (by rw [I.ok.glob];exact I.mod.glob.keeps I.bk) hm h) hd
theorem _root_.aU2 (h:True:= by decide):True:=h
theorem Yk {E:Ag→Ab→Prop}{pins:List (Aj×Obj)}{s:Ab}{σ:St}{H:Hp}{x:Str}{u:Ag}{pos:Pos}{Q:Ag→Ab→Prop}(I:Inv X pins σ H s)(hg:Gl X x)(hm:X.mg x=none)(hv:bootBuiltins x=some u)(h:Q u s)
  (hn:autoParam (x ≠ "__name__") aU2._auto_1) (hd:autoParam ((x==("__debug__" : Str))=false) aU1._auto_1):wpAny (model X.prog X.w) X.A (eval (.Name x pos) X.env) Q E s:=by
 obtain ⟨mb,h1,h2⟩:=I.mod.blt
 exact Calls.Name_function_global I.ok.kind hg (Calls.loadGlobal_builtin (by rw [I.ok.glob];exact I.mod.glob.keeps I.bk) hm (by rw [I.ok.blt];exact h1.keeps I.bk) ((h2 x hn).trans hv) h) hd
theorem yk {x:Str}{v:V}{u:Ag}{pos:Pos}(hg:Gl X x)(hm:X.mg x=some u)(r:RelV v u)(hd:autoParam ((x==("__debug__" : Str))=false) aU1._auto_1):PE X (.Name x pos) (tC v) :=
 λ_ _ _ H _ I h=>Qg I hg hm ⟨v,H,I,r,h⟩ hd
theorem ww8 {x:Str}{v:V}{u:Ag}{pos:Pos}(hg:Gl X x)(hm:X.mg x=none)(hv:bootBuiltins x=some u)(r:RelV v u)(hn:autoParam (x ≠ "__name__") aU2._auto_1)(hd:autoParam ((x==("__debug__" : Str))=false) aU1._auto_1):PE X (.Name x pos) (tC v) :=
 λ_ _ _ H _ I h=>Yk I hg hm hv ⟨v,H,I,r,h⟩ hn hd
variable {a b:Expr}{ta tb:TE}{pos:Pos}
def PC (X:Cx)(op:CmpOp)(a b:Expr)(t:TE):Prop :=
 ∀(pins:List (Aj×Obj)) (s:Ab) (σ:St) (H:Hp) (Q:VK),Inv X pins σ H s→t σ H Q →
  wpAny (model X.prog X.w) X.A (eval a X.env) (λv s₁=>wpAny (model X.prog X.w) X.A (eval b X.env) (λu s₂=>wpAny (model X.prog X.w) X.A (compareOp op v u) (EP X pins σ Q) X.xe s₂) X.xe s₁) X.xe s
def tB (t:TE):TT:=λσ H Q=>t σ H λx H1=>∃c,x=.bl c∧Q c H1
theorem Yq {op:CmpOp}{t:TE}(h:PC X op a b t)(h1:behindInMarks op b=false:=by first | exact nobehind _ ⋯ ⋯ | rfl):PT X (.Compare a [op] [b] pos) (tB t):=by
 intro pins s σ H Q I hw
 refine wpAny_isTrue_Compare1 (thn (h pins s σ H _ I hw) λv s1 h1=>thn h1 λu s2 h2=>thn h2 λc s3 ⟨x,H1,I1,r1,q1⟩=>?_) h1
 obtain ⟨d,rfl,q⟩:=q1
 cases r1
 exact cy ⟨H1,I1,q⟩
theorem _root_.aU3 (h:True:=by intro _;rfl):True:=h
theorem u6 {e:Expr}{t:TE}(h:PE X e t)(he:autoParam (∀whole,isTrue e X.env whole=(do let v ←whole;standAt e.pos;holding [v] (truthy v))) aU3._auto_1):PT X e (tB t):=by
 intro pins s σ H Q I hw
 refine isTrue_plain (thn (h pins s σ H _ I hw) λv s1 ⟨x,H1,I1,r1,q1⟩=>?_) (he _)
 obtain ⟨d,rfl,q⟩:=q1
 cases r1
 exact cy ⟨H1,I1,q⟩
variable {tA tB':TT}{rest:List Expr}
def tAnd (t u:TT):TT:=λσ H Q=>t σ H λc H1=>if c=true then u σ H1 Q else Q false H1
def tOr (t u:TT):TT:=λσ H Q=>t σ H λc H1=>if c=true then Q true H1 else u σ H1 Q
def tNot (t:TT):TT:=λσ H Q=>t σ H λc H1=>Q (!c) H1
theorem Wn (ha:PT X a tA):PW X (.BoolOp .And [a] pos) tA:=by
 intro wh pins s σ H Q I h
 refine isTrue_and (thn (ha pins s σ H Q I h) λc s1 e=>?_)
 cases c with
 |true=>exact isTrue_and_nil e
 |false=>exact e
theorem yd (ha:PT X a tA):PW X (.BoolOp .Or [a] pos) tA:=by
 intro wh pins s σ H Q I h
 refine isTrue_or (thn (ha pins s σ H Q I h) λc s1 e=>?_)
 cases c with
 |false=>exact isTrue_or_nil e
 |true=>exact e
theorem Yu (ha:PT X a tA)(hb:PW X (.BoolOp .And (b::rest) pos) tB'):PW X (.BoolOp .And (a::b::rest) pos) (tAnd tA tB'):=by
 intro wh pins s σ H Q I h
 refine isTrue_and (thn (ha pins s σ H _ I h) λc s1 ⟨H1,I1,q1⟩=>?_)
 cases c with
 |true=>exact hb wh pins s1 σ H1 Q I1 q1
 |false=>exact ⟨H1,I1,q1⟩
theorem yp (ha:PT X a tA)(hb:PW X (.BoolOp .Or (b::rest) pos) tB'):PW X (.BoolOp .Or (a::b::rest) pos) (tOr tA tB'):=by
 intro wh pins s σ H Q I h
 refine isTrue_or (thn (ha pins s σ H _ I h) λc s1 ⟨H1,I1,q1⟩=>?_)
 cases c with
 |true=>exact ⟨H1,I1,q1⟩
 |false=>exact hb wh pins s1 σ H1 Q I1 q1
theorem ug (ha:PT X a tA):PT X (.UnaryOp .Not a pos) (tNot tA):=by
 intro pins s σ H Q I h
 exact isTrue_not (ha pins s σ H (λc H1=>Q (!c) H1) I h)
def tAndV (ta tb:TE):TE:=λσ H Q=>ta σ H λx H1=>∃c,x=.bl c∧if c=true then tb σ H1 Q else Q (.bl false) H1
def tNotV (ta:TE):TE:=λσ H Q=>ta σ H λx H1=>∃c,x=.bl c∧Q (.bl (!c)) H1
theorem wqb {op}{t:TE}(h:PE X a t):PE X (.BoolOp op [a] pos) t:=λpins s σ H Q I hw=>BoolOp_one (h pins s σ H Q I hw)
theorem qvp (ha:PE X a ta)(hb:PE X (.BoolOp .And (b::rest) pos) tb):PE X (.BoolOp .And (a::b::rest) pos) (tAndV ta tb):=by
 intro pins s σ H Q I h
 refine BoolOp_and (thn (ha pins s σ H _ I h) λv s1 ⟨x,H1,I1,r1,q1⟩=>?_)
 obtain ⟨c,rfl,q1⟩:=q1
 cases r1
 refine cy ?_
 cases c with
 |true=>exact hb pins s1 σ H1 Q I1 q1
 |false=>exact ⟨.bl false,H1,I1,rfl,q1⟩
theorem pe_not (ha:PE X a ta):PE X (.UnaryOp .Not a pos) (tNotV ta):=by
 intro pins s σ H Q I h
 refine UnaryOp_ (thn (ha pins s σ H _ I h) λv s1 ⟨x,H1,I1,r1,q1⟩=>?_)
 obtain ⟨c,rfl,q1⟩:=q1
 cases r1
 exact not_of (cy ⟨.bl (!c),H1,I1,rfl,q1⟩)
def tIf (t:TT)(ta tb:TE):TE:=λσ H Q=>t σ H λc H1=>if c=true then ta σ H1 Q else tb σ H1 Q
theorem qq8 {c:Expr}(hc:PT X c tA)(ha:PE X a ta)(hb:PE X b tb):PE X (.IfExp c a b pos) (tIf tA ta tb):=by
 intro pins s σ H Q I h
 refine wpAny_IfExp (thn (hc pins s σ H _ I h) λd s1 ⟨H1,I1,q1⟩=>?_)
 cases d with
 |true=>exact ha pins s1 σ H1 Q I1 q1
 |false=>exact hb pins s1 σ H1 Q I1 q1
end
def SqL (K:Aa)(H:Hp)(a:Aj)(xs:List V):Prop :=
 Rd H a (.lst xs) ∨
  ∃(o:Obj) (its:Array Ag) (n:Nat),K.lookup a=some o∧o.cls=.type "list" ∧ o.dict=none∧o.data=.seq its n∧its.size≤sizeLine∧Vals xs its.toList
def SqT (K:Aa)(H:Hp)(a:Aj)(xs:List V):Prop :=
 Rd H a (.tup xs) ∨
  ∃(o:Obj) (its:Array Ag) (n:Nat),K.lookup a=some o∧o.cls=.type "tuple" ∧ o.data=.seq its n∧its.size≤sizeLine∧Vals xs its.toList
def absV:Ag→Option V
 |.none=>some .non
 |.bool b=>some (.bl b)
 |.int i _=>some (.int i)
 |.str x _=>some (.str x)
 |.bytes b _=>some (.byt b)
 |.float b _=>some (.flt b)
 |.ref a=>some (.ref a)
 |.type n=>some (.ty n)
 |_=>none
theorem RelV.abs {x:V}{u:Ag}(r:RelV x u):absV u=some x:=by
 cases x with
 |non=>cases r;rfl
 |bl _=>cases r;rfl
 |int _=>obtain ⟨t,rfl⟩:=r;rfl
 |str _=>obtain ⟨t,rfl⟩:=r;rfl
 |byt _=>obtain ⟨t,rfl⟩:=r;rfl
 |flt _=>obtain ⟨t,rfl⟩:=r;rfl
 |ref _=>cases r;rfl
 |ty _=>cases r;rfl
theorem RelV.inj {x y:V}{u:Ag}(r:RelV x u)(q:RelV y u):x=y:=az (r.abs.symm.trans q.abs)
theorem Vals.inj:∀ {xs ys:List V} {us:List Ag},Vals xs us→Vals ys us→xs=ys
 |_,_,_,.nil,.nil=>rfl
 |_,_,_,.cons r t,.cons r' t'=>by rw [r.inj r',Vals.inj t t']
section
variable {X:Cx}{pins:List (Aj×Obj)}{σ:St}{H:Hp}{s:Ab}{a:Aj}{xs ys:List V}
theorem SqL.of {K:Aa}(h:H a=some (.lst xs)):SqL K H a xs:=.inl (.inl h)
theorem SqT.of {K:Aa}(h:H a=some (.tup xs)):SqT K H a xs:=.inl (.inl h)
theorem Inv.list (I:Inv X pins σ H s)(h:SqL X.K H a xs):∃its:List Ag,Vals xs its∧PlainL s.heap a its.toArray∧xs.length≤sizeLine:=by
 rcases h with h|⟨o,its,n,hk,hc,hd,hs,hz,r⟩
 ·obtain ⟨z,its,n,r,e⟩:=h.ok I.hok
  exact ⟨its,r,⟨_,n,e,rfl,rfl,rfl⟩,z⟩
 ·refine ⟨its.toList,r,⟨o,n,I.kIn a o hk,hc,hd,by simpa using hs⟩,?_⟩
  have e:=r.length
  simp only [aW] at e
  lia
theorem Inv.tuple (I:Inv X pins σ H s)(h:SqT X.K H a xs):∃its:List Ag,Vals xs its∧IsTup s.heap a its.toArray∧xs.length≤sizeLine:=by
 rcases h with h|⟨o,its,n,hk,hc,hs,hz,r⟩
 ·obtain ⟨z,its,r,p⟩:=h.ok I.hok
  exact ⟨its,r,p,z⟩
 ·refine ⟨its.toList,r,⟨o,I.kIn a o hk,hc,n,by simpa using hs⟩,?_⟩
  have e:=r.length
  simp only [aW] at e
  lia
theorem Inv.list_inj (I:Inv X pins σ H s)(h:SqL X.K H a xs)(h':SqL X.K H a ys):xs=ys:=by
 obtain ⟨its,r,⟨o,n,e,_,_,d⟩,_⟩:=I.list h
 obtain ⟨its',r',⟨o',n',e',_,_,d'⟩,_⟩:=I.list h'
 rw [e] at e';cases e'
 rw [d] at d'
 injection d' with d1 _
 have:its=its':=by simpa using bB Array.toList d1
 subst this
 exact r.inj r'
end
abbrev Cx.wish (X:Cx)(E:Ag→Ab→Prop):Cx:={ X with xe:=E }
section
variable {X:Cx}{pins:List (Aj×Obj)}{σ:St}{H:Hp}{s:Ab}{E:Ag→Ab→Prop}
end
section
variable {X:Cx}{st:Stmt}{rest:List Stmt}{t u:TS}{e:Expr}{te:TE}{pos:Pos}
def tNext:TS:=λD σ H=>D.nx σ H
def tSeq (t u:TS):TS:=λD σ H=>t { D with nx:=u D } σ H
theorem xx:PSs X [] tNext:=λ_ _ σ H _ I h=>dq ⟨σ,H,I,h⟩
theorem qj (h1:PS X st t)(h2:PSs X rest u):PSs X (st::rest) (tSeq t u):=by
 intro pins s σ H D I h
 refine fw (thn (h1 pins s σ H { D with nx:=u D } I h) λf s1 q=>?_)
 cases f with
 |next =>
  obtain ⟨σ',H',I',q⟩:=q
  exact h2 pins s1 σ' H' D I' q
 |ret v=>exact q
 |brk=>exact q
 |cont=>exact q
theorem qh (h1:PS X st t):PSs X [st] t:=by
 intro pins s σ H D I h
 refine fw (thn (h1 pins s σ H D I h) λf s1 q=>?_)
 cases f with
 |next=>exact dq q
 |ret v=>exact q
 |brk=>exact q
 |cont=>exact q
theorem Inv.quiet {pins:List (Aj×Obj)}{σ:St}{H:Hp}{s:Ab}(I:Inv X pins σ H s):interactive X.env=false:=by simp [interactive,I.ok.kind]
def tDrop (te:TE):TS:=λD σ H=>te σ H λ_ H1=>D.nx σ H1
theorem _root_.aU4 (h:True:=by rfl):True:=h
theorem zb (he:PE X e te)(hs:autoParam (swapsWith e none pos.line X.env=pure false) aU4._auto_1):PS X (.Expr e pos) (tDrop te):=by
 intro pins s σ H D I h
 exact wpAny_Expr_any (thn (he pins s σ H _ I h) λv s1 ⟨x,H1,I1,r1,q1⟩=>⟨σ,H1,I1,q1⟩) I.quiet hs
def tRet (te:TE):TS:=λD σ H=>te σ H D.rt
theorem w9 (he:PE X e te):PS X (.Return (some e) pos) (tRet te):=by
 intro pins s σ H D I h
 exact wpAny_Return_some (thn (he pins s σ H _ I h) λv s1 ⟨x,H1,I1,r1,q1⟩=>⟨x,σ,H1,I1,r1,q1⟩)
def tIfS (c:TT)(t u:TS):TS:=λD σ H=>c σ H λb H1=>if b=true then t D σ H1 else u D σ H1
theorem xg {c:Expr}{a b:List Stmt}{tc:TT}(hc:PT X c tc)(ha:PSs X a t)(hb:PSs X b u):PS X (.If c a b pos) (tIfS tc t u):=by
 intro pins s σ H D I h
 refine wpAny_If (thn (hc pins s σ H _ I h) λd s1 ⟨H1,I1,q1⟩=>?_)
 cases d with
 |true=>exact ha pins s1 σ H1 D I1 q1
 |false=>exact hb pins s1 σ H1 D I1 q1
end
abbrev TG:=V→St→Hp→(St→Hp→Prop)→Prop
abbrev TGs:=List V→St→Hp→(St→Hp→Prop)→Prop
def PG (X:Cx)(target:Expr)(t:TG):Prop :=
 ∀(pins:List (Aj×Obj)) (s:Ab) (σ:St) (H:Hp) (v:V) (u:Ag) (Q:St→Hp→Prop),Inv X pins σ H s→RelV v u→t v σ H Q →
  wpAny (model X.prog X.w) X.A (assign target X.env u) (λ_ s'=>∃σ' H',Inv X pins σ' H' s'∧Q σ' H') X.xe s
def PGs (X:Cx)(ts:List Expr)(t:TGs):Prop :=
 ∀(pins:List (Aj×Obj)) (s:Ab) (σ:St) (H:Hp) (vs:List V) (us:List Ag) (Q:St→Hp→Prop),Inv X pins σ H s→Vals vs us→t vs σ H Q →
  wpAny (model X.prog X.w) X.A (assignInOrder ((assignEach ts X.env).map (·.2)) us) (λ_ s'=>∃σ' H',Inv X pins σ' H' s'∧Q σ' H') X.xe s
abbrev TIp:=V→V→Hp→VK→Prop
def PIp (X:Cx)(op:Operator)(t:TIp):Prop :=
 ∀(pins:List (Aj×Obj)) (s:Ab) (σ:St) (H:Hp) (x y:V) (v u:Ag) (Q:VK),Inv X pins σ H s→RelV x v→RelV y u→t x y H Q →
  wpAny (model X.prog X.w) X.A (inplaceOp op v u) (EP X pins σ Q) X.xe s
section
variable {X:Cx}{pos:Pos}
def wv1 (i:Nat):TG:=λv σ H Q=>Q (σ.set i (some v)) H
theorem _root_.aU5 (h:True:=by walk_at "loc"):True:=h
theorem _root_.aU6 (h:True:=by exact FnScope.nd (by assumption)):True:=h
theorem xq {i:Nat}{x:Str}(hN:autoParam (X.N.Nodup) aU6._auto_1)(hi:autoParam (X.N[i]?=some x) aU4._auto_1)(hx:autoParam (Loc X.env.scope x) aU5._auto_1)(hf:autoParam (X.fn x=true∨X.env.scope.names.lookup x=some .local) aU0._auto_1):PG X (.Name x pos) (wv1 i):=by
 intro pins s σ H v u Q I r h
 exact wpAny_assign_Name (uw I hN hi hx r (λs' I'=>⟨_,H,I',h⟩) hf)
def gNil:TGs:=λvs σ H Q=>vs=[]∧Q σ H
def gCons (t:TG)(u:TGs):TGs:=λvs σ H Q=>∃v r,vs=v::r∧t v σ H λσ' H'=>u r σ' H' Q
theorem zr:PGs X [] gNil:=by
 intro pins s σ H vs us Q I r h
 obtain ⟨e,h⟩:=h
 subst e
 cases r
 exact assignInOrder_nil ⟨σ,H,I,h⟩
theorem xv {e:Expr}{es:List Expr}{t:TG}{u:TGs}(h1:PG X e t)(h2:PGs X es u)
  (hs:autoParam ((assignEach (e::es) X.env).map (·.2)=assign e X.env::(assignEach es X.env).map (·.2)) aU4._auto_1):PGs X (e::es) (gCons t u):=by
 intro pins s σ H vs us Q I r h
 obtain ⟨v,vr,e1,h⟩:=h
 subst e1
 cases r with
 |cons r rr =>
  rw [hs]
  refine eE (thn (h1 pins s σ H _ _ _ I r h) λ_ s1 ⟨σ1,H1,I1,q1⟩=>?_)
  exact h2 pins s1 σ1 H1 _ _ Q I1 rr q1
def gTup (K:Aa)(n:Nat)(t:TGs):TG:=λv σ H Q=>∃a xs,v=.ref a∧SqT K H a xs∧xs.length=n∧t xs σ H Q
theorem k9 {es:List Expr}{k:Nat}{t:TGs}{n:Nat}(hc:X.calm=true)(h:PGs X es t)
  (hn:autoParam ((assignEach es X.env).length=n) aU4._auto_1) (hst:autoParam ((assignEach es X.env).findIdx? (·.1)=none) aU4._auto_1):PG X (.Tuple es k pos) (gTup X.K n t):=by
 intro pins s σ H v u Q I r hw
 obtain ⟨a,xs,e1,hq,hl,hw⟩:=hw
 subst e1
 cases r
 obtain ⟨its,rv,ht,hz⟩:=I.tuple hq
 refine assign_Tuple_tuple (I.ok.hd hc) ht (by simp [hn,←hl,rv.length]) hst λh' hx=>?_
 have I1:Inv X pins σ H { s with heap:=h' }:=I.kept (t':=s.toks) λb o e=>hx b o (aC (ao e)) e
 exact h pins _ σ H xs _ Q I1 (by simpa using rv) hw
def tAsg (te:TE)(g:TG):TS:=λD σ H=>te σ H λx H1=>g x σ H1 D.nx
theorem js {tg e:Expr}{te:TE}{g:TG}(he:PE X e te)(hg:PG X tg g)(hs:autoParam (swapsWithSole [tg] e pos.line X.env=pure false) aU4._auto_1)(hw:autoParam (swappedStores [tg] e X.env=pure none) aU4._auto_1)
  (h1:autoParam ((assignEach [tg] X.env).map (·.2)=[assign tg X.env]) aU4._auto_1):PS X (.Assign [tg] e pos) (tAsg te g):=by
 intro pins s σ H D I h
 refine wpAny_Assign_stores (thn (he pins s σ H _ I h) λv s1 ⟨x,H1,I1,r1,q1⟩=>?_) hs hw
 rw [h1]
 exact thn (hg pins s1 σ H1 x v _ I1 r1 q1) λ_ s2 q=>q
theorem w4 {i:Nat}{x:Str}{e:Expr}{te:TE}{pos':Pos}(he:PE X e te)(hN:autoParam (X.N.Nodup) aU6._auto_1)(hi:autoParam (X.N[i]?=some x) aU4._auto_1)(hx:autoParam (Loc X.env.scope x) aU5._auto_1)(hs:autoParam (swapsWith e (some (.Name x pos')) pos.line X.env=pure false) aU4._auto_1)(hf:autoParam (X.fn x=true∨X.env.scope.names.lookup x=some .local) aU0._auto_1) :
  PS X (.Assign [.Name x pos'] e pos) (tAsg te (wv1 i)):=by
 intro pins s σ H D I h
 refine wpAny_Assign_Name (thn (he pins s σ H _ I h) λv s1 ⟨y,H1,I1,r1,q1⟩=>?_) hs
 exact uw I1 hN hi hx r1 (λs2 I2=>⟨_,H1,I2,q1⟩) hf
def tPar (i j:Nat)(ta:TA):TS:=λD σ H=>ta σ H λvs H1=>∃v w,vs=[v,w]∧D.nx ((σ.set i (some v)).set j (some w)) H1
theorem wjk {i j:Nat}{x y:Str}{a b:Expr}{ta:TA}{px py pt:Pos}{kt k2 pt2}(hc:X.calm=true)(hN:X.N.Nodup)(hi:X.N[i]?=some x)(hj:X.N[j]?=some y)(hij:i≠j)
  (hx:X.env.scope.names.lookup x=some .local) (hy:X.env.scope.names.lookup y=some .local) (ha:PA X [a,b] ta)
  (hw:swappedStores [.Tuple [.Name x px,.Name y py] kt pt] (.Tuple [a,b] k2 pt2) X.env=pure (some [x,y]))
  (hs:autoParam (swapsWithSole [.Tuple [.Name x px,.Name y py] kt pt] (.Tuple [a,b] k2 pt2) pos.line X.env=pure false) aU4._auto_1) :
  PS X (.Assign [.Tuple [.Name x px,.Name y py] kt pt] (.Tuple [a,b] k2 pt2) pos) (tPar i j ta):=by
 intro pins s σ H D I h
 rw [exec_Assign_arm]
 refine ac (ff ?_)
 rw [hs]
 refine ac (am ?_)
 rw [af ⋯]
 refine ac (Tuple_ (thn (ha _ pins s σ H _ I h) λus s1 ⟨vs,H1,I1,r1,q1⟩=>?_))
 obtain ⟨v,w,e1,q1⟩:=q1
 subst e1
 obtain ⟨u1,u2,rfl,rv,rw'⟩:∃u1 u2,us=[u1,u2]∧RelV v u1∧RelV w u2:=by
  cases r1 with
  |cons p q =>
   cases q with
   |cons p' q' =>
    cases q'
    exact ⟨_,_,rfl,p,p'⟩
 refine cz ?_ (by show 2≤sizeLine;decide)
 have I2:Inv X pins σ H1 { s1 with heap:=s1.heap.push { cls:=.type "tuple",data:=.seq [u1,u2].toArray } }:=I1.kept (t':=s1.toks) λb o e=>ae _ e
 rw [hw]
 refine ac (am ?_)
 show wpAny (model X.prog X.w) X.A (do rule "assign.swapped-stores";let items ←unpackItems (.ref s1.heap.objs.size) 2 none;assignInOrder [λv=>bindName X.env y v,λv=>bindName X.env x v] items.reverse;pure Flow.next) _ _ _
 refine ac (wpAny_rule (ac (unpackItems_tuple (items:=#[u1,u2]) (I.ok.hd hc) (IsTup.new s1.heap _) λh' hx'=>?_)))
 have I3:=I2.kept (h':=h') (t':=s1.toks) λb o e=>hx' b o (aC (ao e)) e
 show wpAny _ _ (assignInOrder [λv=>bindName X.env y v,λv=>bindName X.env x v] [u2,u1] >>= λ_=>pure Flow.next) _ _ _
 refine ac (eE (wpAny_bindName (uw I3 hN hj (.inl hy) rw' (λs2 I4=>?_) (.inr hy))))
 refine eE (wpAny_bindName (uw I4 hN hi (.inl hx) rv (λs3 I5=>assignInOrder_nil (am ?_)) (.inr hx)))
 rw [List.set_comm _ _ (aY hij)] at I5
 exact ⟨_,H1,I5,q1⟩
def tAug (i:Nat)(te:TE)(ti:TIp):TS:=λD σ H=>∃x,σ[i]?=some (some x)∧te σ H λy H1=>ti x y H1 λz H2=>D.nx (σ.set i (some z)) H2
theorem wkw {i:Nat}{x:Str}{e:Expr}{te:TE}{op:Operator}{ti:TIp}{pos':Pos}(hN:X.N.Nodup)(hi:X.N[i]?=some x)(hx:Loc X.env.scope x)(he:PE X e te)(ho:PIp X op ti)(hf:autoParam (X.fn x=true∨X.env.scope.names.lookup x=some .local) aU0._auto_1) :
  PS X (.AugAssign (.Name x pos') op e pos) (tAug i te ti):=by
 intro pins s σ H D I h
 obtain ⟨v,e1,h⟩:=h
 obtain ⟨m,hn,hl⟩:=I.loc
 have vis:Vis X.env.scope x:=by rcases hx with k|k;exact .inl k;exact .inr (.inl k)
 obtain ⟨u,r,l⟩:=hl i x v hi e1 vis
 refine wpAny_AugAssign_Name ?_
 have go:wpAny (model X.prog X.w) X.A (eval e X.env) (λw s₂=>wpAny (model X.prog X.w) X.A (inplaceOp op u w) (λr s₃=>wpAny (model X.prog X.w) X.A (storeName X.env x r) (λ_=>SP X pins D .next) X.xe s₃) X.xe s₂) X.xe s:=by
  refine thn (he pins s σ H _ I h) λw s1 ⟨y,H1,I1,r1,q1⟩=>?_
  refine thn (ho pins s1 σ H1 v y u w _ I1 r r1 q1) λz s2 ⟨zv,H2,I2,r2,q2⟩=>?_
  exact uw I2 hN hi hx r2 (λs3 I3=>⟨_,H2,I3,q2⟩) hf
 rcases l with ⟨hk,hm⟩|⟨hk,c,hc,hcell⟩
 ·exact wpAny_loadName_local I.ok.kind hk hn hm go
 ·rcases hk with hk|hk
  ·exact wpAny_loadName_cell I.ok.kind hk hc hcell go
  ·rcases hx with k|k
   ·have:X.env.scope.names.lookup x=some .free:=hk
    rw [k] at this;cases this
   ·have:X.env.scope.names.lookup x=some .free:=hk
    rw [k] at this;cases this
def ipI (f:Int→Int→Int):TIp:=λx y H Q=>∃i j,x=.int i∧y=.int j∧Q (.int (f i j)) H
theorem wvx:PIp X .Add (ipI λi j=>i+j):=by
 intro pins s σ H x y v u Q I r1 r2 h
 obtain ⟨i,j,e1,e2,q⟩:=h
 subst e1;subst e2
 obtain ⟨t,rfl⟩:=r1
 obtain ⟨t',rfl⟩:=r2
 exact iadd_int ⟨.int _,H,I.tok _,⟨_,rfl⟩,q⟩
end
section
variable {X:Cx}{pos:Pos}
def wqt (c:TT)(tb:TS):TS:=λD σ H=>∃W:Nat→St→Hp→Prop,(∃m,W m σ H)∧∀m σ H,W m σ H →
 c σ H λb H1=>if b=true then ∃N:St→Hp→Prop,(∀σ' H',N σ' H'→∃m',m'<m∧W m' σ' H')∧tb { D with nx:=N,ct:=N,bk:=D.nx } σ H1 else D.nx σ H1
theorem u9 {c:Expr}{body:List Stmt}{tc:TT}{tb:TS}(hp:PassesOwn (model X.prog X.w) X.A X.env X.xe)(hc:PT X c tc)(hb:PSs X body tb):PS X (.While c body [] pos) (wqt tc tb):=by
 intro pins s σ H D I h
 obtain ⟨W,⟨m0,w0⟩,turn⟩:=h
 refine wpAny_While (codeAny_whileLoop (λn s'=>∃σ' H',Inv X pins σ' H' s'∧W n σ' H') ?_ m0 ⟨σ,H,I,w0⟩)
 rintro n s1 ⟨σ1,H1,I1,w1⟩
 refine cw hp (thn (hc pins s1 σ1 H1 _ I1 (turn n σ1 H1 w1)) λb s2 ⟨H2,I2,q2⟩=>?_)
 cases b with
 |true =>
  obtain ⟨N,hN,q2⟩:=q2
  rw [ak rfl]
  refine cw hp (thn (hb pins s2 σ1 H2 _ I2 q2) λf s3 q3=>?_)
  cases f with
  |next =>
   obtain ⟨σ3,H3,I3,n3⟩:=q3
   obtain ⟨m',hm,w3⟩:=hN σ3 H3 n3
   exact ⟨m',hm,σ3,H3,I3,w3⟩
  |cont =>
   obtain ⟨σ3,H3,I3,n3⟩:=q3
   obtain ⟨m',hm,w3⟩:=hN σ3 H3 n3
   exact ⟨m',hm,σ3,H3,I3,w3⟩
  |brk=>exact q3
  |ret v=>exact q3
 |false =>
  rw [af aD]
  exact dq ⟨σ1,H2,I2,q2⟩
end
structure It where
 go:Nat→Hp→Prop
 yld:Nat→Hp→V→Hp→Prop
 stop:Nat→Hp→Prop
def uh (X:Cx)(pins:List (Aj×Obj))(H:Hp)(b:Aj):Prop :=
 H b=none∧b≠X.env.locals∧b∉X.fs∧(b∈X.ex∨X.s₀.heap.objs.size≤b)∧(∀x c,X.env.cells.lookup x=some c→c≠b)∧∀p∈X.pn++pins,p.1≠b
theorem Inv.fpOk {X:Cx}{pins:List (Aj×Obj)}{σ:St}{H H':Hp}{s:Ab}{b:Aj}(I:Inv X pins σ H s)(hb:s.heap.objs.size≤b)(hn:H' b=none):uh X pins H' b:=by
 refine ⟨hn,ee (aG I.lt hb),I.nofs hb,.inr (bw I.sz hb),λx c e z=>?_,λp hp z=>?_⟩
 ·obtain ⟨v,q⟩:=I.cell x c e
  exact absurd (aG q.lt (by rw [z];exact hb)) (bv _)
 ·exact absurd (aG (ao (I.pin p hp).1) (by rw [z];exact hb)) (bv _)
structure Turn (P:Ac)(w:Ah)(K:Aa)(tg:Expr)(J:It)(fp:List Aj)(it:Aj)(tn:Nat→Heap→Prop):Prop where
 mem:it∈fp
 obj:∀i h,tn i h→∀b∈fp,∃o,h.get? b=some o∧∀v,o.data≠.cell v
 keep:∀i h h',tn i h→(∀b∈fp,∀o,h.get? b=some o→h'.get? b=some o)→tn i h'
 item:∀(X:Cx),X.prog=P→X.w=w→X.K=K→X.calm=true→∀(i:Nat) (pins:List (Aj×Obj)) (s:Ab) (σ:St) (H:Hp) (E:Ag→Ab→Prop),Inv X pins σ H s→(∀b∈fp,uh X pins H b)→tn i s.heap→J.go i H →
  wpAny (model P w) X.A (pyNext (.ref it)) (λr s1=>∃u,r=some u ∧
   wpAny (model P w) X.A (letOwnedTupleGo tg (.ref it) u) (λ_ s2=>∃x H',Inv X pins σ H' s2∧RelV x u∧J.yld i H x H'∧tn (i+1) s2.heap∧∀b∈fp,H' b=none) E s1) E s
 done:∀(X:Cx),X.prog=P→X.w=w→X.K=K→X.calm=true→∀(i:Nat) (pins:List (Aj×Obj)) (s:Ab) (σ:St) (H:Hp) (E:Ag→Ab→Prop),Inv X pins σ H s→(∀b∈fp,uh X pins H b)→tn i s.heap→J.stop i H →
  wpAny (model P w) X.A (pyNext (.ref it)) (λr s1=>r=none∧Inv X pins σ H s1) E s
 self:∀(A:Ae) (i:Nat) (s:Ab) (Q:Ag→Ab→Prop) (E:Ag→Ab→Prop),tn i s.heap→Q (.ref it) s→wpAny (model P w) A (pyIter (.ref it)) Q E s
abbrev TI:=St→Hp→(It→Hp→Prop)→Prop
def PIE (X:Cx)(pins:List (Aj×Obj))(σ:St)(tg:Expr)(R:It→Hp→Prop)(itv:Ag)(s2:Ab):Prop :=
 ∃(it:Aj) (fp:List Aj) (tn:Nat→Heap→Prop) (J:It) (H':Hp),itv=.ref it∧Inv X pins σ H' s2∧Turn X.prog X.w X.K tg J fp it tn∧tn 0 s2.heap∧(∀b∈fp,uh X pins H' b)∧R J H'
def PI (X:Cx)(tg iter:Expr)(wi:TI):Prop :=
 ∀(pins:List (Aj×Obj)) (s:Ab) (σ:St) (H:Hp) (R:It→Hp→Prop),Inv X pins σ H s→wi σ H R →
  wpAny (model X.prog X.w) X.A (eval iter X.env) (λv s1=>wpAny (model X.prog X.w) X.A (pyIter v) (PIE X pins σ tg R) X.xe s1) X.xe s
theorem qjp {M:Model}{A:Ae}{E:Ag→Ab→Prop}{s:Ab}{tg:Expr}{it:Aj}{u:Ag}{o:Obj}{n:String}{vs:Array Ag}{Q:Unit→Ab→Prop}(ho:s.heap.get? it=some o)(hc:o.cls=.type n)(hd:o.data=.fields vs)
  (hn:["enumerate","zip","dict_itemiterator","dict_reverseitemiterator","odict_iterator","itertools.zip_longest","itertools.pairwise"].contains n=false) (hQ:Q () s):wpAny M A (letOwnedTupleGo tg (.ref it) u) Q E s:=by
 unfold letOwnedTupleGo
 cases tg <;> first
  |exact am hQ
  |(cases u <;> first
    |exact am hQ
    |(refine ac (wpAny_load ho ?_)
      rw [hc,hd]
      show wpAny M A (if (["enumerate","zip","dict_itemiterator","dict_reverseitemiterator","odict_iterator","itertools.zip_longest","itertools.pairwise"].contains n&&vs[0]?==some (rawInt _))=true then _ else _) Q E s
      rw [af (by intro h;rw [hn,Bool.false_and] at h;cases h)]
      exact am hQ))
def Itl (K:Aa)(a:Aj):It :=
 ⟨λi H=>∃xs x,SqL K H a xs∧xs[i]?=some x,λi H x H'=>H'=H∧∀xs,SqL K H a xs→xs[i]?=some x,λi H=>∃xs,SqL K H a xs∧xs.length≤i⟩
def Itr (lo:Int)(n:Nat):It:=⟨λi _=>i<n,λi H x H'=>H'=H∧x=.int (lo+i),λi _=>n≤i⟩
theorem wxt {P:Ac}{w:Ah}{K:Aa}{tg:Expr}(a it:Aj):Turn P w K tg (Itl K a) [it] it (λi h=>h.IsListIter it a i) where
 mem:=by simp
 obj:=λi h st b hb=>by
  have e:b=it:=by simpa using hb
  subst e
  obtain ⟨o,e,c,d⟩:=st
  exact ⟨o,e,λv z=>by rw [d] at z;cases z⟩
 keep:=λi h h' st k=>st.at λo e=>k it (by simp) o e
 item:=by
  intro X hP hw hK hc i pins s σ H E I hf st hg
  subst hP hw hK
  obtain ⟨xs,x,hq,hx⟩:=hg
  obtain ⟨its,rv,p,hz⟩:=I.list hq
  obtain ⟨u,hu,ru⟩:=rv.get hx
  obtain ⟨f0,f1,f2,f3,f4,f5⟩:=hf it (by simp)
  refine wpAny_pyNext_list_item st p.isList (x:=u) (by simpa using hu) λh' st' sb=>?_
  have I1:Inv X pins σ H { s with heap:=h' }:=I.turned (t':=s.toks) (λb o hb e=>(sb.2 b hb).trans e) f0 f1 f3 f4 f5
  obtain ⟨o,e,c,d⟩:=id st'
  exact ⟨u,rfl,qjp (s:={ s with heap:=h' }) e c d ⋯ ⟨x,H,I1,ru,⟨rfl,λys hy=>by rw [I.list_inj hy hq];exact hx⟩,st',λb hb=>(hf b hb).1⟩⟩
 done:=by
  intro X hP hw hK hc i pins s σ H E I hf st hg
  subst hP hw hK
  obtain ⟨xs,hq,hx⟩:=hg
  obtain ⟨its,rv,p,hz⟩:=I.list hq
  obtain ⟨f0,f1,f2,f3,f4,f5⟩:=hf it (by simp)
  have hl:=rv.length
  exact wpAny_pyNext_list_end (I.ok.hd hc) st p.isList (by simp;lia) λh' eb=>⟨rfl,I.turned (t':=s.toks) (λb o hb e=>eb b o hb e) f0 f1 f3 f4 f5⟩
 self:=λ_ _ _ _ _ st h=>wpAny_pyIter_listiter st h
theorem qu0 {P:Ac}{w:Ah}{K:Aa}{tg:Expr}(it:Aj)(lo:Int)(n:Nat):Turn P w K tg (Itr lo n) [it] it (λi h=>IsRangeIter h it (lo+(i:Nat)*1) ((n:Int)-(i:Nat)) 1) where
 mem:=by simp
 obj:=λi h st b hb=>by
  have e:b=it:=by simpa using hb
  subst e
  exact ⟨_,st,λv z=>by
   have z':Data.fields _=Data.cell v:=z
   cases z'⟩
 keep:=λi h h' st k=>k it (by simp) _ st
 item:=by
  intro X hP hw hK hc i pins s σ H E I hf st hg
  subst hP hw hK
  obtain ⟨f0,f1,f2,f3,f4,f5⟩:=hf it (by simp)
  have W:=Walks.range (prog:=X.prog) (w:=X.w) (I.ok.hd hc) it lo 1 n
  refine W.item i s _ _ hg st λv h' tk hv st' kk=>?_
  obtain ⟨t,rfl⟩:=hv
  have I1:Inv X pins σ H { s with heap:=h',toks:=tk }:=I.turned (λb o hb e=>kk b o (by simpa using hb) e) f0 f1 f3 f4 f5
  refine ⟨_,rfl,qjp (s:={ s with heap:=h',toks:=tk }) (n := "range_iterator") st' rfl rfl ⋯ ⟨.int (lo+i),H,I1,⟨t,?_⟩,⟨rfl,rfl⟩,st',λb hb=>(hf b hb).1⟩⟩
  rw [Int.mul_one]
 done:=by
  intro X hP hw hK hc i pins s σ H E I hf st hg
  subst hP hw hK
  obtain ⟨f0,f1,f2,f3,f4,f5⟩:=hf it (by simp)
  exact wpAny_pyNext_range_end (I.ok.hd hc) st (by have:n≤i:=hg;lia) λh' eb=>⟨rfl,I.turned (t':=s.toks) (λb o hb e=>eb b o hb e) f0 f1 f3 f4 f5⟩
 self:=λ_ _ _ _ _ st h=>wpAny_pyIter_rangeiter st h
section
variable {X:Cx}{tg:Expr}
def iList (K:Aa)(tl:TE):TI:=λσ H R=>tl σ H λx H1=>∃a,x=.ref a∧(∃xs,SqL K H1 a xs)∧R (Itl K a) H1
theorem yw {l:Expr}{tl:TE}(hl:PE X l tl):PI X tg l (iList X.K tl):=by
 intro pins s σ H R I h
 refine thn (hl pins s σ H _ I h) λv s1 ⟨x,H1,I1,r1,q1⟩=>?_
 obtain ⟨a,e,⟨xs,hq⟩,q⟩:=q1
 subst e
 cases r1
 obtain ⟨its,rv,p,hz⟩:=I1.list hq
 refine wpAny_pyIter_list p.isList ?_
 refine ⟨s1.heap.objs.size,[s1.heap.objs.size],_,_,H1,rfl,I1.kept (t':=s1.toks) λb o e=>ae _ e,wxt a _,⟨_,aw _ rfl,rfl,rfl⟩,λb hb=>?_,q⟩
 have e:b=s1.heap.objs.size:=by simpa using hb
 subst e
 exact I1.fpOk (ai _) (I1.hok.fresh (ai _))
theorem qy8 {pins:List (Aj×Obj)}{σ:St}{H:Hp}{s:Ab}{R:It→Hp→Prop}{E:Ag→Ab→Prop}{lo hi:Int}{t u v:Tok}{tk:Nat}(I:Inv X pins σ H s)(h1:-(2 ^ 62)≤lo)(h2:lo<2 ^ 62)(h3:-(2 ^ 62)≤hi)(h4:hi<2 ^ 62)
  (q:R (Itr lo (hi-lo).toNat) H):wpAny (model X.prog X.w) X.A (pyIter (.ref s.heap.objs.size)) (PIE X pins σ tg R) E { s with heap:=s.heap.push { cls:=.type "range",data:=.fields #[.int lo t,.int hi u,.int 1 v] },toks:=tk }:=by
 refine wpAny_pyIter_range (IsRange.new ..) (small_one h1 h2 h3 h4) ?_
 have I1:Inv X pins σ H { s with heap:=s.heap.push { cls:=.type "range",data:=.fields #[.int lo t,.int hi u,.int 1 v] },toks:=tk }:=I.kept λb o e=>ae _ e
 refine ⟨(s.heap.push { cls:=.type "range",data:=.fields #[.int lo t,.int hi u,.int 1 v] }).objs.size,[(s.heap.push { cls:=.type "range",data:=.fields #[.int lo t,.int hi u,.int 1 v] }).objs.size],_,_,H,rfl,
  I1.kept (t':=tk) λb o e=>ae _ e,qu0 _ lo (hi-lo).toNat,?_,λb hb=>?_,q⟩
 ·have e1:lo+((0:Nat):Int)*1=lo:=by simp
  have e2:(((hi-lo).toNat:Nat):Int)-((0:Nat):Int)=Builtin.Range.rangeSize lo hi 1:=by rw [rangeSize_one];split <;> lia
  show IsRangeIter _ _ (lo+((0:Nat):Int)*1) ((((hi-lo).toNat:Nat):Int)-((0:Nat):Int)) 1
  rw [e1,e2]
  exact aw _ rfl
 ·have e:b=(s.heap.push { cls:=.type "range",data:=.fields #[.int lo t,.int hi u,.int 1 v] }).objs.size:=by simpa using hb
  subst e
  exact I1.fpOk (ai _) (I1.hok.fresh (ai _))
def iRng1 (ta:TA):TI:=λσ H R=>ta σ H λvs H1=>∃j:Int,vs=[.int j]∧-(2 ^ 62)≤j∧j<2 ^ 62∧R (Itr 0 j.toNat) H1
def iRng2 (ta:TA):TI:=λσ H R=>ta σ H λvs H1=>∃i j:Int,vs=[.int i,.int j]∧(-(2 ^ 62)≤i∧i<2 ^ 62∧-(2 ^ 62)≤j∧j<2 ^ 62)∧R (Itr i (j-i).toNat) H1
theorem zh {a:Expr}{ta:TA}{p pos:Pos}(hg:Gl X "range")(hm:X.mg "range" = none)(ha:PA X [a] ta)(hs:autoParam (starEach [a] X.env=[(false,eval a X.env)]) aU4._auto_1):PI X tg (.Call (.Name "range" p) [a] [] pos) (iRng1 ta):=by
 intro pins s σ H R I h
 refine Call_ (Yk I hg hm boot_range (cg (thn (ha pos pins s σ H _ I h) λus s1 ⟨vs,H1,I1,r1,q1⟩=>?_) hs rfl))
 obtain ⟨j,e,q1,q2,q⟩:=q1
 subst e
 cases r1 with
 |cons r rr =>
  cases rr
  obtain ⟨t,rfl⟩:=r
  exact call_range_1 (qy8 I1 ⋯ ⋯ q1 q2 (by simpa using q))
theorem wz3 {a b:Expr}{ta:TA}{p pos:Pos}(hg:Gl X "range")(hm:X.mg "range" = none)(ha:PA X [a,b] ta)(hs:autoParam (starEach [a,b] X.env=[(false,eval a X.env),(false,eval b X.env)]) aU4._auto_1)(hs2:autoParam (starEach [b] X.env=[(false,eval b X.env)]) aU4._auto_1) :
  PI X tg (.Call (.Name "range" p) [a,b] [] pos) (iRng2 ta):=by
 intro pins s σ H R I h
 refine Call_ (Yk I hg hm boot_range (cg (thn (ha pos pins s σ H _ I h) λus s1 ⟨vs,H1,I1,r1,q1⟩=>?_) (by rw [hs,hs2]) (by rw [hs2];rfl)))
 obtain ⟨i,j,e,⟨q1,q2,q3,q4⟩,q⟩:=q1
 subst e
 cases r1 with
 |cons r rr =>
  cases rr with
  |cons r' rr =>
   cases rr
   obtain ⟨t,rfl⟩:=r
   obtain ⟨t',rfl⟩:=r'
   exact call_range_2 (qy8 I1 q1 q2 q3 q4 q)
def tFor (wi:TI)(g:TG)(tb:TS):TS:=λD σ H=>wi σ H λJ H1=>∃W:Nat→Nat→St→Hp→Prop,(∃m,W 0 m σ H1)∧∀i m σ H,W i m σ H →
 (J.stop i H∧D.nx σ H)∨(J.go i H∧∃N:St→Hp→Prop,(∀σ' H',N σ' H'→∃m',m'<m∧W (i+1) m' σ' H')∧∀x H',J.yld i H x H'→g x σ H' λσ2 H2=>tb { D with nx:=N,ct:=N,bk:=D.nx } σ2 H2)
def qkt (fp:List Aj)(h:Heap):List (Aj×Obj):=fp.filterMap λb=>(h.get? b).map λo=>(b,o)
theorem uc {fp:List Aj}{h:Heap}{b:Aj}{o:Obj}(hb:b∈fp)(e:h.get? b=some o):(b,o)∈qkt fp h:=eG.mpr ⟨b,hb,by rw [e];rfl⟩
theorem wx0 {fp:List Aj}{h:Heap}{p:Aj×Obj}(hp:p∈qkt fp h):p.1∈fp∧h.get? p.1=some p.2:=by
 obtain ⟨b,hb,e⟩:=eG.mp hp
 cases q:h.get? b with
 |none=>rw [q] at e;cases e
 |some o =>
  rw [q] at e
  have e':(b,o)=p:=az e
  subst e'
  exact ⟨hb,q⟩
theorem Inv.pinned {pins:List (Aj×Obj)}{σ:St}{H:Hp}{s:Ab}{fp:List Aj}(I:Inv X pins σ H s)(hf:∀b∈fp,uh X pins H b)(ho:∀b∈fp,∃o,s.heap.get? b=some o∧∀v,o.data≠.cell v):Inv X (pins++qkt fp s.heap) σ H s :=
 I.pins_of λp hp=>(bq.mp hp).elim (λz=>I.pin p (aT _ z)) λz=>by
  obtain ⟨hb,e⟩:=wx0 z
  obtain ⟨f0,f1,f2,_⟩:=hf p.1 hb
  obtain ⟨o,e',d⟩:=ho p.1 hb
  rw [e] at e';cases e'
  exact ⟨e,f0,f1,f2,d⟩
theorem Inv.unpinned {pins pl:List (Aj×Obj)}{σ:St}{H:Hp}{s:Ab}(I:Inv X (pins++pl) σ H s):Inv X pins σ H s:=I.pins_of λp hp=>I.pin p (aT _ (bX _ hp))
theorem vf {iter:Expr}{body:List Stmt}{wi:TI}{g:TG}{tb:TS}{pos:Pos}(hp:PassesOwn (model X.prog X.w) X.A X.env X.xe)(hc:X.calm=true)(hi:PI X tg iter wi)(hg:PG X tg g)(hb:PSs X body tb)
  (hs:autoParam (∀x,foldedSetIterable iter X.env x=pure x) aU3._auto_1):PS X (.For tg iter body [] pos) (tFor wi g tb):=by
 intro pins s σ H D I h
 refine wpAny_For (thn (hi pins s σ H _ I h) λv s1 h1=>thn h1 λitv s2 h2=>?_) hs
 obtain ⟨it,fp,tn,J,H2,e,I2,T,st2,f2,W,⟨m0,w0⟩,turn⟩:=h2
 subst e
 have stat:∀ {H':Hp},(∀b∈fp,H' b=none)→∀b∈fp,uh X pins H' b:=λhn b hb=>⟨hn b hb,(f2 b hb).2⟩
 refine codeAny_forLoop_any (λn s'=>∃i σ' H',Inv X pins σ' H' s'∧tn i s'.heap∧(∀b∈fp,H' b=none)∧W i n σ' H') ?_ m0 ⟨0,σ,H2,I2,st2,λb hb=>(f2 b hb).1,w0⟩
 rintro n s3 ⟨i,σ3,H3,I3,st3,fr3,w3⟩
 rcases turn i n σ3 H3 w3 with ⟨stop,qn⟩|⟨go,N,hN,step⟩
 ·refine cw hp (thn (T.done X rfl rfl rfl hc i pins s3 σ3 H3 X.xe I3 (stat fr3) st3 stop) λr s4 ⟨hr,I4⟩=>?_)
  subst hr
  exact dq ⟨σ3,H3,I4,qn⟩
 ·refine cw hp (thn (T.item X rfl rfl rfl hc i pins s3 σ3 H3 X.xe I3 (stat fr3) st3 go) λr s4 ⟨u,hr,h4⟩=>?_)
  subst hr
  refine cw hp (thn h4 λ_ s5 ⟨x,H5,I5,r5,y5,st5,fr5⟩=>?_)
  have I5':=I5.pinned (stat fr5) (T.obj _ _ st5)
  refine cw hp (thn (hg _ s5 σ3 H5 x u _ I5' r5 (step x H5 y5)) λ_ s6 ⟨σ6,H6,I6,q6⟩=>?_)
  refine cw hp (thn (hb _ s6 σ6 H6 _ I6 q6) λf s7 q7=>?_)
  have again:∀ {σ7:St} {H7:Hp},Inv X (pins++qkt fp s5.heap) σ7 H7 s7→N σ7 H7→∃m,m<n∧∃i σ' H',Inv X pins σ' H' s7∧tn i s7.heap∧(∀b∈fp,H' b=none)∧W i m σ' H':=λ{σ7 H7} I7 n7=>by
   obtain ⟨m',hm,w7⟩:=hN σ7 H7 n7
   refine ⟨m',hm,i+1,σ7,H7,I7.unpinned,T.keep _ _ _ st5 λb hb o e=>(I7.pin (b,o) (aT _ (aT _ (uc hb e)))).1,λb hb=>?_,w7⟩
   obtain ⟨o,e,d⟩:=T.obj _ _ st5 b hb
   exact (I7.pin (b,o) (aT _ (aT _ (uc hb e)))).2.1
  cases f with
  |next=>obtain ⟨σ7,H7,I7,n7⟩:=q7;exact again I7 n7
  |cont=>obtain ⟨σ7,H7,I7,n7⟩:=q7;exact again I7 n7
  |brk=>obtain ⟨σ7,H7,I7,q7⟩:=q7;exact ⟨σ7,H7,I7.unpinned,q7⟩
  |ret v=>obtain ⟨x7,σ7,H7,I7,r7,q7⟩:=q7;exact ⟨x7,σ7,H7,I7.unpinned,r7,q7⟩
end
theorem Ws {K:Aa}{a:Aj}{xs:List V}{g:TG}{tb:TS}{D:Ends}{σ:St}{H:Hp}(Pv:Nat→St→Hp→Prop)(h0:Pv 0 σ H)(hl:∀i σ H,i≤xs.length→Pv i σ H→SqL K H a xs)
  (hs:∀i x σ H,xs[i]?=some x→Pv i σ H→g x σ H λσ2 H2=>tb { D with nx:=Pv (i+1),ct:=Pv (i+1),bk:=D.nx } σ2 H2) (hd:∀σ H,Pv xs.length σ H→D.nx σ H) :
  ∃W:Nat→Nat→St→Hp→Prop,(∃m,W 0 m σ H)∧∀i m σ H,W i m σ H →
   ((Itl K a).stop i H∧D.nx σ H)∨((Itl K a).go i H∧∃N:St→Hp→Prop,(∀σ' H',N σ' H'→∃m',m'<m∧W (i+1) m' σ' H')∧∀x H',(Itl K a).yld i H x H'→g x σ H' λσ2 H2=>tb { D with nx:=N,ct:=N,bk:=D.nx } σ2 H2):=by
 refine ⟨λi m σ H=>m=xs.length-i∧i≤xs.length∧Pv i σ H,⟨xs.length,by simp,aJ _,h0⟩,?_⟩
 rintro i m σ H ⟨rfl,hi,p⟩
 have q:=hl i σ H hi p
 by_cases hlt:i<xs.length
 ·refine .inr ⟨⟨xs,xs[i],q,by simp [hlt]⟩,Pv (i+1),λσ' H' p'=>⟨xs.length-(i+1),⋯,rfl,hlt,p'⟩,λx H' y=>?_⟩
  obtain ⟨e,y⟩:=y
  subst e
  exact hs i x σ _ (y xs q) p
 ·have e:i=xs.length:=by lia
  subst e
  exact .inl ⟨⟨xs,q,ai _⟩,hd σ H p⟩
theorem kf {lo:Int}{n:Nat}{g:TG}{tb:TS}{D:Ends}{σ:St}{H:Hp}(Pv:Nat→St→Hp→Prop)(h0:Pv 0 σ H)
  (hs:∀i σ H,i<n→Pv i σ H→g (.int (lo+i)) σ H λσ2 H2=>tb { D with nx:=Pv (i+1),ct:=Pv (i+1),bk:=D.nx } σ2 H2) (hd:∀σ H,Pv n σ H→D.nx σ H) :
  ∃W:Nat→Nat→St→Hp→Prop,(∃m,W 0 m σ H)∧∀i m σ H,W i m σ H →
   ((Itr lo n).stop i H∧D.nx σ H)∨((Itr lo n).go i H∧∃N:St→Hp→Prop,(∀σ' H',N σ' H'→∃m',m'<m∧W (i+1) m' σ' H')∧∀x H',(Itr lo n).yld i H x H'→g x σ H' λσ2 H2=>tb { D with nx:=N,ct:=N,bk:=D.nx } σ2 H2):=by
 refine ⟨λi m σ H=>m=n-i∧i≤n∧Pv i σ H,⟨n,by simp,aJ _,h0⟩,?_⟩
 rintro i m σ H ⟨rfl,hi,p⟩
 by_cases hlt:i<n
 ·refine .inr ⟨hlt,Pv (i+1),λσ' H' p'=>⟨n-(i+1),⋯,rfl,hlt,p'⟩,λx H' y=>?_⟩
  obtain ⟨e,y⟩:=y
  subst e y
  exact hs i σ _ hlt p
 ·have e:i=n:=by lia
  subst e
  exact .inl ⟨ai _,hd σ H p⟩
theorem Zf {c:TT}{tb:TS}{D:Ends}{σ:St}{H:Hp}(Pv:St→Hp→Prop)(μ:St→Hp→Nat)(h0:Pv σ H)
  (hs:∀σ H,Pv σ H→c σ H λb H1=>if b=true then tb { D with nx:=λσ' H'=>Pv σ' H'∧μ σ' H'<μ σ H,ct:=λσ' H'=>Pv σ' H'∧μ σ' H'<μ σ H,bk:=D.nx } σ H1 else D.nx σ H1)
  (mono:∀σ H Q Q',(∀b H1,Q b H1→Q' b H1)→c σ H Q→c σ H Q'):wqt c tb D σ H:=by
 refine ⟨λm σ H=>m=μ σ H∧Pv σ H,⟨_,rfl,h0⟩,?_⟩
 rintro m σ H ⟨rfl,p⟩
 refine mono σ H _ _ (λb H1 q=>?_) (hs σ H p)
 cases b with
 |true=>exact ⟨_,λσ' H' ⟨p',l⟩=>⟨_,l,rfl,p'⟩,q⟩
 |false=>exact q
abbrev R2:=V→V→Hp→VK→Prop
def OpR (X:Cx)(f:Ag→Ag→Sem Ag)(r:R2):Prop :=
 ∀(pins:List (Aj×Obj)) (s:Ab) (σ:St) (H:Hp) (x y:V) (v u:Ag) (Q:VK),Inv X pins σ H s→RelV x v→RelV y u→r x y H Q →
  wpAny (model X.prog X.w) X.A (f v u) (EP X pins σ Q) X.xe s
def UnR (X:Cx)(f:Ag→Sem Ag)(r:V→Hp→VK→Prop):Prop :=
 ∀(pins:List (Aj×Obj)) (s:Ab) (σ:St) (H:Hp) (x:V) (v:Ag) (Q:VK),Inv X pins σ H s→RelV x v→r x H Q →
  wpAny (model X.prog X.w) X.A (f v) (EP X pins σ Q) X.xe s
def vh (X:Cx)(f:Ag)(r:List V→Hp→VK→Prop):Prop :=
 ∀(pins:List (Aj×Obj)) (s:Ab) (σ:St) (H:Hp) (xs:List V) (us:List Ag) (Q:VK),Inv X pins σ H s→Vals xs us→r xs H Q →
  wpAny (model X.prog X.w) X.A (call f us) (EP X pins σ Q) X.xe s
def tOp (r:R2)(ta tb:TE):TE:=λσ H Q=>ta σ H λx H1=>tb σ H1 λy H2=>r x y H2 Q
def tUn (r:V→Hp→VK→Prop)(ta:TE):TE:=λσ H Q=>ta σ H λx H1=>r x H1 Q
def rI (C:Int→Int→Prop)(g:Int→Int→V):R2:=λx y H Q=>∃i j,x=.int i∧y=.int j∧C i j∧Q (g i j) H
def rI0 (g:Int→Int→V):R2:=λx y H Q=>∃i j,x=.int i∧y=.int j∧Q (g i j) H
def rU (g:Int→V):V→Hp→VK→Prop:=λx H Q=>∃i,x=.int i∧Q (g i) H
section
variable {X:Cx}{a b c:Expr}{ta tb tc:TE}{pos:Pos}
theorem binT (ha:PE X a ta)(hb:PE X b tb){pins:List (Aj×Obj)}{s:Ab}{σ:St}{H:Hp}{R:V→V→Hp→Prop}(I:Inv X pins σ H s)
  (h:ta σ H λx H1=>tb σ H1 λy H2=>R x y H2) {Q:Ag→Ab→Prop} {f:Ag→Ag→Sem Ag}
  (hf:∀v u s2 x y H2,Inv X pins σ H2 s2→RelV x v→RelV y u→R x y H2→wpAny (model X.prog X.w) X.A (f v u) Q X.xe s2) :
  wpAny (model X.prog X.w) X.A (eval a X.env) (λv s₁=>wpAny (model X.prog X.w) X.A (eval b X.env) (λu s₂=>wpAny (model X.prog X.w) X.A (f v u) Q X.xe s₂) X.xe s₁) X.xe s:=by
 refine thn (ha pins s σ H _ I h) λv s1 ⟨x,H1,I1,r1,q1⟩=>?_
 refine thn (hb pins s1 σ H1 _ I1 q1) λu s2 ⟨y,H2,I2,r2,q2⟩=>?_
 exact hf v u s2 x y H2 I2 r1 r2 q2
theorem wb {op:Operator}{r:R2}(ho:OpR X (binaryOp op) r)(ha:PE X a ta)(hb:PE X b tb):PE X (.BinOp a op b pos) (tOp r ta tb):=by
 intro pins s σ H Q I h
 exact wpAny_BinOp (binT ha hb I h λv u s2 x y H2 I2 rx ry q=>ho pins s2 σ H2 x y v u Q I2 rx ry q)
theorem pe_un {op:UnaryOp}{r:V→Hp→VK→Prop}(ho:UnR X (unaryOp op) r)(ha:PE X a ta):PE X (.UnaryOp op a pos) (tUn r ta):=by
 intro pins s σ H Q I h
 exact UnaryOp_ (thn (ha pins s σ H _ I h) λv s1 ⟨x,H1,I1,r1,q1⟩=>ho pins s1 σ H1 x v Q I1 r1 q1)
theorem opI {f:Ag→Ag→Sem Ag}{C:Int→Int→Prop}{g:Int→Int→Int}
  (rule:∀(i j:Int) (t u:Tok) (s:Ab) (Q:Ag→Ab→Prop) (E:Ag→Ab→Prop),C i j→Q (.int (g i j) s.toks) { s with toks:=s.toks+1 }→wpAny (model X.prog X.w) X.A (f (.int i t) (.int j u)) Q E s) :
  OpR X f (rI C λi j=>.int (g i j)):=by
 intro pins s σ H x y v u Q I rx ry h
 obtain ⟨i,j,rfl,rfl,hc,q⟩:=h
 obtain ⟨t,rfl⟩:=rx
 obtain ⟨t',rfl⟩:=ry
 exact rule i j t t' s _ _ hc ⟨.int (g i j),H,I.tok _,⟨_,rfl⟩,q⟩
theorem opI0 {f:Ag→Ag→Sem Ag}{g:Int→Int→Int}
  (rule:∀(i j:Int) (t u:Tok) (s:Ab) (Q:Ag→Ab→Prop) (E:Ag→Ab→Prop),Q (.int (g i j) s.toks) { s with toks:=s.toks+1 }→wpAny (model X.prog X.w) X.A (f (.int i t) (.int j u)) Q E s) :
  OpR X f (rI0 λi j=>.int (g i j)):=by
 intro pins s σ H x y v u Q I rx ry h
 obtain ⟨i,j,rfl,rfl,q⟩:=h
 obtain ⟨t,rfl⟩:=rx
 obtain ⟨t',rfl⟩:=ry
 exact rule i j t t' s _ _ ⟨.int (g i j),H,I.tok _,⟨_,rfl⟩,q⟩
theorem opB0 {f:Ag→Ag→Sem Ag}{g:Int→Int→Bool}
  (rule:∀(i j:Int) (t u:Tok) (s:Ab) (Q:Ag→Ab→Prop) (E:Ag→Ab→Prop),Q (.bool (g i j)) s→wpAny (model X.prog X.w) X.A (f (.int i t) (.int j u)) Q E s) :
  OpR X f (rI0 λi j=>.bl (g i j)):=by
 intro pins s σ H x y v u Q I rx ry h
 obtain ⟨i,j,rfl,rfl,q⟩:=h
 obtain ⟨t,rfl⟩:=rx
 obtain ⟨t',rfl⟩:=ry
 exact rule i j t t' s _ _ ⟨.bl (g i j),H,I,rfl,q⟩
def CPow (i j:Int):Prop:=0≤j∧j≤1000000∧i.natAbs<2 ^ 64
theorem xz:OpR X (binaryOp .Add) (rI0 λi j=>.int (i+j)):=opI0 λ_ _ _ _ _ _ _ q=>add_int q
theorem zt:OpR X (binaryOp .Sub) (rI0 λi j=>.int (i-j)):=opI0 λ_ _ _ _ _ _ _ q=>sub_int q
theorem kj:OpR X (binaryOp .Mod) (rI (λ_ j=>0<j) λi j=>.int (i%j)):=opI λi j _ _ _ _ _ hc q=>by
 have h1:(0:Int)<j:=hc
 exact mod_int' ⋯ (by rw [Int.fmod_eq_emod_of_nonneg i ⋯];exact q)
theorem op_pow:OpR X (binaryOp .Pow) (rI CPow λi j=>.int (i ^ j.toNat)):=opI λ_ _ _ _ _ _ _ hc q=>pow_int_small hc.1 hc.2.1 hc.2.2 q
theorem unI {f:Ag→Sem Ag}{g:Int→Int}
  (rule:∀(i:Int) (t:Tok) (s:Ab) (Q:Ag→Ab→Prop) (E:Ag→Ab→Prop),Q (.int (g i) s.toks) { s with toks:=s.toks+1 }→wpAny (model X.prog X.w) X.A (f (.int i t)) Q E s) :
  UnR X f (rU λi=>.int (g i)):=by
 intro pins s σ H x v Q I rx h
 obtain ⟨i,rfl,q⟩:=h
 obtain ⟨t,rfl⟩:=rx
 exact rule i t s _ _ ⟨.int (g i),H,I.tok _,⟨_,rfl⟩,q⟩
theorem un_neg:UnR X (unaryOp .USub) (rU λi=>.int (-i)):=unI λ_ _ _ _ _ q=>neg_int q
end
def scal:V→V→Bool
 |.non,.non=>true|.non,.int _=>true|.int _,.non=>true|.non,.bl _=>true|.bl _,.non=>true|.non,.str _=>true|.str _,.non=>true
 |.int _,.int _=>true|.bl _,.bl _=>true|.str _,.str _=>true|.byt _,.byt _=>true
 |.int _,.str _=>true|.str _,.int _=>true|.bl _,.str _=>true|.str _,.bl _=>true
 |_,_=>false
def rEq:R2:=λx y H Q=>scal x y=true∧Q (.bl (decide (x=y))) H
def rNe:R2:=λx y H Q=>scal x y=true∧Q (.bl (!decide (x=y))) H
theorem wxx {i j:Int}:decide (V.int i=V.int j)=(i==j):=by
 rw [cM]
 simp
theorem wvd {i j:Bool}:decide (V.bl i=V.bl j)=(i==j):=by
 rw [cM]
 simp
theorem ww2 {i j:Str}:decide (V.str i=V.str j)=(i==j):=by
 rw [cM]
 simp
theorem wwu {i j:Array UInt8}:decide (V.byt i=V.byt j)=(i.toList==j.toList):=by
 rw [cM]
 cases i
 cases j
 simp
section
variable {X:Cx}{a b c:Expr}{ta tb tc:TE}{pos:Pos}
theorem x6 {pins:List (Aj×Obj)}{σ:St}{H:Hp}{s:Ab}{Q:VK}{k k':Bool}(I:Inv X pins σ H s)(q:Q (.bl k) H)(e:k=k'):EP X pins σ Q (.bool k') s:=by
 subst e
 exact ⟨.bl k,H,I,rfl,q⟩
theorem vg:OpR X (compareOp .Eq) rEq:=by
 intro pins s σ H x y v u Q I rx ry h
 obtain ⟨hs,q⟩:=h
 cases x with
 |non =>
  cases rx
  cases y with
  |non=>cases ry;exact PySem.EqNone.eq_none_none (x6 I q (by simp))
  |bl j=>cases ry;exact PySem.EqNone.eq_none_bool (x6 I q (by simp))
  |int j=>obtain ⟨t',rfl⟩:=ry;exact PySem.EqNone.eq_none_int (x6 I q (by simp))
  |str j=>obtain ⟨t',rfl⟩:=ry;exact PySem.EqNone.eq_none_str (x6 I q (by simp))
  |_=>exact absurd (show false=true from hs) aD
 |bl i =>
  cases rx
  cases y with
  |non=>cases ry;exact PySem.EqNone.eq_bool_none (x6 I q (by simp))
  |bl j=>cases ry;exact eq_bool (x6 I q wvd)
  |str j=>obtain ⟨t',rfl⟩:=ry;exact PySem.EqMixed.eq_bool_str (x6 I q (by simp))
  |_=>exact absurd (show false=true from hs) aD
 |int i =>
  obtain ⟨t,rfl⟩:=rx
  cases y with
  |non=>cases ry;exact PySem.EqNone.eq_int_none (x6 I q (by simp))
  |int j=>obtain ⟨t',rfl⟩:=ry;exact eq_int (x6 I q wxx)
  |str j=>obtain ⟨t',rfl⟩:=ry;exact PySem.EqMixed.eq_int_str (x6 I q (by simp))
  |_=>exact absurd (show false=true from hs) aD
 |str i =>
  obtain ⟨t,rfl⟩:=rx
  cases y with
  |non=>cases ry;exact PySem.EqNone.eq_str_none (x6 I q (by simp))
  |bl j=>cases ry;exact PySem.EqMixed.eq_str_bool (x6 I q (by simp))
  |int j=>obtain ⟨t',rfl⟩:=ry;exact PySem.EqMixed.eq_str_int (x6 I q (by simp))
  |str j=>obtain ⟨t',rfl⟩:=ry;exact eq_str (x6 I q ww2)
  |_=>exact absurd (show false=true from hs) aD
 |byt i =>
  obtain ⟨t,rfl⟩:=rx
  cases y with
  |byt j=>obtain ⟨t',rfl⟩:=ry;exact W.eq_bytes (x6 I q wwu)
  |_=>exact absurd (show false=true from hs) aD
 |_=>cases y <;> exact absurd (show false=true from hs) aD
theorem Jf:OpR X (compareOp .NotEq) rNe:=by
 intro pins s σ H x y v u Q I rx ry h
 obtain ⟨hs,q⟩:=h
 cases x with
 |non =>
  cases rx
  cases y with
  |non=>cases ry;exact PySem.EqNone.ne_none_none (x6 I q (by simp))
  |bl j=>cases ry;exact PySem.EqNone.ne_none_bool (x6 I q (by simp))
  |int j=>obtain ⟨t',rfl⟩:=ry;exact PySem.EqNone.ne_none_int (x6 I q (by simp))
  |str j=>obtain ⟨t',rfl⟩:=ry;exact PySem.EqNone.ne_none_str (x6 I q (by simp))
  |_=>exact absurd (show false=true from hs) aD
 |bl i =>
  cases rx
  cases y with
  |non=>cases ry;exact PySem.EqNone.ne_bool_none (x6 I q (by simp))
  |bl j=>cases ry;exact ne_bool (x6 I q (bB not wvd))
  |str j=>obtain ⟨t',rfl⟩:=ry;exact PySem.EqMixed.ne_bool_str (x6 I q (by simp))
  |_=>exact absurd (show false=true from hs) aD
 |int i =>
  obtain ⟨t,rfl⟩:=rx
  cases y with
  |non=>cases ry;exact PySem.EqNone.ne_int_none (x6 I q (by simp))
  |int j=>obtain ⟨t',rfl⟩:=ry;exact ne_int (x6 I q (bB not wxx))
  |str j=>obtain ⟨t',rfl⟩:=ry;exact PySem.EqMixed.ne_int_str (x6 I q (by simp))
  |_=>exact absurd (show false=true from hs) aD
 |str i =>
  obtain ⟨t,rfl⟩:=rx
  cases y with
  |non=>cases ry;exact PySem.EqNone.ne_str_none (x6 I q (by simp))
  |bl j=>cases ry;exact PySem.EqMixed.ne_str_bool (x6 I q (by simp))
  |int j=>obtain ⟨t',rfl⟩:=ry;exact PySem.EqMixed.ne_str_int (x6 I q (by simp))
  |str j=>obtain ⟨t',rfl⟩:=ry;exact ne_str (x6 I q (bB not ww2))
  |_=>exact absurd (show false=true from hs) aD
 |byt i =>
  obtain ⟨t,rfl⟩:=rx
  cases y with
  |byt j=>obtain ⟨t',rfl⟩:=ry;exact W.ne_bytes (x6 I q (bB not wwu))
  |_=>exact absurd (show false=true from hs) aD
 |_=>cases y <;> exact absurd (show false=true from hs) aD
theorem yh:OpR X (compareOp .Lt) (rI0 λi j=>.bl (decide (i<j))):=opB0 λ_ _ _ _ _ _ _ q=>lt_int q
theorem op_le:OpR X (compareOp .LtE) (rI0 λi j=>.bl (decide (i≤j))):=opB0 λ_ _ _ _ _ _ _ q=>le_int q
theorem uq:OpR X (compareOp .Gt) (rI0 λi j=>.bl (decide (j<i))):=opB0 λ_ _ _ _ _ _ _ q=>gt_int q
theorem wq8:OpR X (compareOp .GtE) (rI0 λi j=>.bl (decide (j≤i))):=opB0 λ_ _ _ _ _ _ _ q=>ge_int q
theorem qz3:OpR X (compareOp .In) (λx y H Q=>∃i j,x=.str i∧y=.str j∧Q (.bl (!(Builtin.Str.occurrences j i 0 j.length 1).isEmpty)) H):=by
 intro pins s σ H x y v u Q I rx ry h
 obtain ⟨i,j,rfl,rfl,q⟩:=h
 obtain ⟨t,rfl⟩:=rx
 obtain ⟨t',rfl⟩:=ry
 exact in_str (x6 I q rfl)
theorem op_isN:OpR X (compareOp .Is) (λx y H Q=>y=.non∧Q (.bl (decide (x=.non))) H):=by
 intro pins s σ H x y v u Q I rx ry h
 obtain ⟨rfl,q⟩:=h
 cases ry
 refine is_none_gen (x6 I q ?_)
 cases x <;> first
  |(cases rx;rfl)
  |(obtain ⟨t,rfl⟩:=rx;rfl)
theorem wy6:OpR X (compareOp .IsNot) (λx y H Q=>y=.non∧Q (.bl (!decide (x=.non))) H):=by
 intro pins s σ H x y v u Q I rx ry h
 obtain ⟨rfl,q⟩:=h
 cases ry
 refine isnot_none_gen (x6 I q ?_)
 cases x <;> first
  |(cases rx;rfl)
  |(obtain ⟨t,rfl⟩:=rx;rfl)
theorem wt (b:Expr){op:CmpOp}(h:autoParam (op≠.In) aU1._auto_1)(h2:autoParam (op≠.NotIn) aU1._auto_1):behindInMarks op b=false:=by
 have e1:(op==CmpOp.In)=false:=by cases op <;> first | rfl | exact absurd rfl h
 have e2:(op==CmpOp.NotIn)=false:=by cases op <;> first | rfl | exact absurd rfl h2
 cases b <;> simp [behindInMarks,e1,e2]
theorem y8 {op:CmpOp}{r:R2}(ho:OpR X (compareOp op) r)(ha:PE X a ta)(hb:PE X b tb)(hm:behindInMarks op b=false):PE X (.Compare a [op] [b] pos) (tOp r ta tb):=by
 intro pins s σ H Q I h
 exact wpAny_Compare1 (binT ha hb I h λv u s2 x y H2 I2 rx ry q=>ho pins s2 σ H2 x y v u Q I2 rx ry q) hm
def tTest (t:TE):TT:=λσ H Q=>t σ H λx H'=>∃k,x=.bl k∧Q k H'
theorem wm {op:CmpOp}{r:R2}(ho:OpR X (compareOp op) r)(ha:PE X a ta)(hb:PE X b tb)(hm:behindInMarks op b=false):PT X (.Compare a [op] [b] pos) (tTest (tOp r ta tb)):=by
 intro pins s σ H Q I h
 refine wpAny_isTrue_Compare1 (thn (ha pins s σ H _ I h) λv s1 ⟨x,H1,I1,r1,q1⟩=>thn (hb pins s1 σ H1 _ I1 q1) λu s2 ⟨y,H2,I2,r2,q2⟩ =>
  thn (ho pins s2 σ H2 x y v u _ I2 r1 r2 q2) λc s3 ⟨z,H3,I3,r3,k,e,q3⟩=>?_) hm
 subst e
 cases r3
 exact cy ⟨H3,I3,q3⟩
theorem Z2:(sizeLine:Nat)<2 ^ 63:=by rw [fT];decide
theorem zf:OpR X (binaryOp .Add) (λx y H Q=>∃i j,x=.str i∧y=.str j∧i.length+j.length≤sizeLine∧Q (.str (i++j)) H):=by
 intro pins s σ H x y v u Q I rx ry h
 obtain ⟨i,j,rfl,rfl,hz,q⟩:=h
 obtain ⟨t,rfl⟩:=rx
 obtain ⟨t',rfl⟩:=ry
 exact add_str (λt' tk=>⟨.str (i++j),H,I.tok _,⟨_,rfl⟩,q⟩) hz
theorem jr {x:V}{us:List Ag}(r:Vals [x] us):∃u,us=[u]∧RelV x u:=by
 cases r with
 |cons r1 r2=>cases r2;exact ⟨_,rfl,r1⟩
theorem wyc {x y:V}{us:List Ag}(r:Vals [x,y] us):∃u w',us=[u,w']∧RelV x u∧RelV y w':=by
 cases r with
 |cons r1 r2 =>
  cases r2 with
  |cons r3 r4=>cases r4;exact ⟨_,_,rfl,r1,r3⟩
theorem Wr:vh X (.builtin "abs") (λxs H Q=>∃i,xs=[.int i]∧Q (.int (if i<0 then -i else i)) H):=by
 intro pins s σ H xs us Q I r h
 obtain ⟨i,rfl,q⟩:=h
 obtain ⟨u,rfl,t,rfl⟩:=jr r
 exact call_abs_int λu tk=>⟨.int (if i<0 then -i else i),H,I.tok _,⟨_,rfl⟩,q⟩
theorem qvq (hc:X.calm=true):vh X (.builtin "max") (λxs H Q=>∃i j,xs=[.int i,.int j]∧Q (.int (if j>i then j else i)) H):=by
 intro pins s σ H xs us Q I r h
 obtain ⟨i,j,rfl,q⟩:=h
 obtain ⟨u,w',rfl,⟨t,rfl⟩,⟨t',rfl⟩⟩:=wyc r
 refine max_two_ints (I.ok.hd hc) λh' tk k=>⟨_,H,I.kept k,?_,q⟩
 by_cases hj:j>i
 ·rw [ak hj,ak hj];exact ⟨_,rfl⟩
 ·rw [af hj,af hj];exact ⟨_,rfl⟩
theorem qz2 (hc:X.calm=true):vh X (.builtin "min") (λxs H Q=>∃i j,xs=[.int i,.int j]∧Q (.int (if j<i then j else i)) H):=by
 intro pins s σ H xs us Q I r h
 obtain ⟨i,j,rfl,q⟩:=h
 obtain ⟨u,w',rfl,⟨t,rfl⟩,⟨t',rfl⟩⟩:=wyc r
 refine min_two_ints (I.ok.hd hc) λh' tk k=>⟨_,H,I.kept k,?_,q⟩
 by_cases hj:j<i
 ·rw [ak hj,ak hj];exact ⟨_,rfl⟩
 ·rw [af hj,af hj];exact ⟨_,rfl⟩
theorem qz7:vh X (.type "int") (λxs H Q=>(∃i,xs=[.int i]∧Q (.int i) H)∨∃k,xs=[.bl k]∧Q (.int (if k then 1 else 0)) H):=by
 intro pins s σ H xs us Q I r h
 rcases h with ⟨i,rfl,q⟩|⟨k,rfl,q⟩
 ·obtain ⟨u,rfl,t,rfl⟩:=jr r
  exact call_int_int ⟨.int i,H,I,⟨_,rfl⟩,q⟩
 ·obtain ⟨u,rfl,r1⟩:=jr r
  cases r1
  exact call_int_bool ⟨.int (if k then 1 else 0),H,I.tok _,⟨_,rfl⟩,q⟩
theorem yx:vh X (.type "str") (λxs H Q=>∃i,xs=[.int i]∧i.natAbs.log2<1920∧Q (.str (toString i)) H):=by
 intro pins s σ H xs us Q I r h
 obtain ⟨i,rfl,hz,q⟩:=h
 obtain ⟨u,rfl,t,rfl⟩:=jr r
 exact PySem.P.str_of_int hz ⟨.str _,H,I.tok _,⟨_,rfl⟩,q⟩
end
structure ObjM (h:Heap)(x dx C:Aj)(mA:Str→Option Ag):Prop where
 obj:h.get? x=some (W.instObj C dx)
 ns:h.Ns1 dx mA
 ne:dx≠x
theorem wzp {h:Heap}{dx:Aj}{mA:Str→Option Ag}(n:h.Ns1 dx mA):∃od,h.get? dx=some od∧∀name,W.lookIn name od=some (mA name):=by
 obtain ⟨o,es,ep,ho,hd,hk,_,hm⟩:=n
 refine ⟨o,ho,λname=>?_⟩
 have e:=hm name
 unfold nsFind findBy at e
 rw [←Array.find?_toList] at e
 unfold W.lookIn
 rw [hd]
 dsimp only
 split
 ·rename_i y q
  rw [q] at e
  exact bB some e
 ·rename_i q
  rw [q] at e
  have a:es.toList.any (·.refKey)=false:=by
   rw [List.any_eq_false]
   intro y hy
   obtain ⟨z,t,hkey⟩:=hk y (Array.mem_toList_iff.mp hy)
   simp [DictEntry.refKey,hkey]
  have a':¬ es.toList.any (·.refKey)=true:=by rw [a];exact aD
  rw [af a']
  exact bB some e
theorem ObjM.look {h:Heap}{x dx C:Aj}{mA:Str→Option Ag}(I:ObjM h x dx C mA):∃od,W.InstAt h x (W.instObj C dx) C (some od)∧∀name,W.lookIn name od=some (mA name) :=
 let ⟨od,ho,hl⟩:=wzp I.ns
 ⟨od,⟨I.obj,rfl,rfl,ho⟩,hl⟩
section
variable {prog:Ac}{w:Ah}{A:Ae}{E:Ag→Ab→Prop}{s:Ab}{K:Aa}{x dx C f:Aj}{mA:Str→Option Ag}{name:Str}{v:Ag}
theorem wu6 {expr:Bool}{Q:Ag→Ab→Prop}(X:K.In s.heap)(I:ObjM s.heap x dx C mA)(hg:W.plainGet K C name=true)(hh:W.hasDictIn K C=true)
  (ha:W.findIn K (.ref C) name=some none) (hv:mA name=some v) (hv':W.handedIn v=true) (h:Q v { s with toks:=s.toks+1 }) :
  wpAny (model prog w) A (getAttr (.ref x) name expr) Q E s:=by
 obtain ⟨od,J,hl⟩:=I.look
 exact W.get_value X J (d5 hg).1 (W.findObj_own hh ha rfl (by rw [hl,hv])) hv' h
theorem wj8 {pl:Sem Bool}{Q:Ag×List Ag→Ab→Prop}(X:K.In s.heap)(I:ObjM s.heap x dx C mA)(hg:W.plainGet K C name=true)
  (hf:W.findIn K (.ref C) name=some (some (.ref f))) (ht:W.isFn K (.ref f)=true) (hv:mA name=none) (h:Q (.ref f,[.ref x]) s) :
  wpAny (model prog w) A (getMethod (.ref x) name pl) Q E s:=by
 obtain ⟨od,J,hl⟩:=I.look
 exact W.method_fn X J (d5 hg).1 (d5 hg).2 hf (dv.mp ht) (by show (W.lookIn name od).map (·.isSome)=some false;rw [hl,hv];rfl) h
theorem wy2 {ns:List Str}{Q:Unit→Ab→Prop}(X:K.In s.heap)(I:ObjM s.heap x dx C mA)
  (hs:W.findIn K (.ref C) "__setattr__" = some (some (.builtin "object.__setattr__"))) (hp:W.plainOver K C=true) (ht:W.takerIn K C name=some none) (hh:W.hasDictIn K C=true)
  (hw:PySem.Within mA ns) (hsz:ns.length≤sizeLine)
  (h:∀h',ObjM h' x dx C (λy=>if y=name then some v else mA y)→Heap.SameBut dx s.heap h'→Q () { s with heap:=h',toks:=s.toks+2 }) :
  wpAny (model prog w) A (setAttr (.ref x) name v) Q E s:=by
 obtain ⟨od,J,hl⟩:=I.look
 refine W.set_plain X J hs (W.osa_open (s:={ s with toks:=s.toks+1 }) (r:=none) X J hp ht λb=>?_)
 obtain ⟨cd,hc,hd'⟩:=W.any_some hh
 have hx:s.heap.get? x=some ⟨.ref C,some dx,.plain,#[]⟩:=I.obj
 refine ac (am (ac (ac (wpAny_loadPart hx (ac (W.Looks.here (s:={ s with toks:=s.toks+1 }) (W.looks_clsIn X hc) ?_))))))
 rw [hd']
 refine am (a:=some dx) (ac (am (ac ?_)))
 refine wpAny_nsSet1 (s:={ s with toks:=s.toks+1 }) I.ns λh' hn2 hs2=>?_
 obtain ⟨oD,esD,epD,hoD,hdD,hcD⟩:=hn2.count (PySem.Within.cons name v hw)
 refine ac (wpAny_lookBehind hoD (by rw [hdD];exact pastItsLine_dict (bw hcD (by rw [au];lia))) ?_)
 exact am (h _ ⟨(hs2.2 _ (aY I.ne)).trans I.obj,hn2,I.ne⟩ hs2)
theorem wk9 {R:Result→Ab→Prop}{vs:List Ag}{kw:List (Str×Ag)}(X:K.In s.heap)(hm:W.makesIn K C=true)
  (hi:W.findIn K (.ref C) "__init__" = some (some (.ref f))) (hf:W.typeIn K (.ref f)=some (.type "function"))
  (h:codeAny (model prog w) (A.under (.builtin "type.__call__" ⟨.ref C::vs,kw⟩)) (.call (.ref f) ⟨.ref (s.heap.objs.size+1)::vs,kw⟩) (W.InitBack (s.heap.objs.size+1) R)
   { s with heap:=(s.heap.push W.emptyDict).push (W.instObj C s.heap.objs.size) }) :
  codeAny (model prog w) A (.call (.ref C) ⟨vs,kw⟩) R s:=by
 obtain ⟨hh,g,d,t,os⟩:=s
 exact W.make_core (W.makes_of X hm) (W.looks_findIn X hi) (λself=>W.bind_fn X self hf) (.inl rfl) h
end
def vk (f:Str)(v:V):List (Str×V)→List (Str×V)
 |[]=>[(f,v)]
 |(g,x)::r=>if g=f then (g,v)::r else (g,x)::vk f v r
theorem Yb (f g:Str)(v:V):∀fs:List (Str×V),(vk f v fs).lookup g=if g=f then some v else fs.lookup g
 |[]=>by
  show List.lookup g [(f,v)]=_
  by_cases h:g=f
  ·have hb:(g==f)=true:=dv.mpr h
   simp only [List.lookup,hb,ak h]
  ·have hb:(g==f)=false:=aQ.mpr h
   simp only [List.lookup,hb,af h]
 |(k,x)::r=>by
  have ih:=Yb f g v r
  rw [show vk f v ((k,x)::r)=(if k=f then (k,v)::r else (k,x)::vk f v r) from rfl]
  by_cases hk:k=f
  ·rw [ak hk]
   by_cases h:g=k
   ·have hb:(g==k)=true:=dv.mpr h
    simp only [List.lookup,hb,ak (h.trans hk)]
   ·have hb:(g==k)=false:=aQ.mpr h
    simp only [List.lookup,hb,af (λe:g=f=>h (e.trans hk.symm))]
  ·rw [af hk]
   by_cases h:g=k
   ·have hb:(g==k)=true:=dv.mpr h
    simp only [List.lookup,hb,af (λe:g=f=>hk (h.symm.trans e))]
   ·have hb:(g==k)=false:=aQ.mpr h
    simp only [List.lookup,hb]
    exact ih
theorem Zs (f:Str)(v:V):∀fs:List (Str×V),f∈(vk f v fs).map (·.1)∧∀g,g∈fs.map (·.1)→g∈(vk f v fs).map (·.1)
 |[]=>⟨by simp [vk],λg h=>by simp at h⟩
 |(k,x)::r=>by
  obtain ⟨i1,i2⟩:=Zs f v r
  rw [show vk f v ((k,x)::r)=(if k=f then (k,v)::r else (k,x)::vk f v r) from rfl]
  by_cases hk:k=f
  ·rw [ak hk]
   subst hk
   exact ⟨by simp,λg h=>by simpa using h⟩
  ·rw [af hk]
   refine ⟨?_,λg h=>?_⟩
   ·rw [aA]
    exact ax _ i1
   ·rw [aA] at h ⊢
    rcases ag.mp h with e|e
    ·exact ag.mpr (.inl e)
    ·exact ax _ (i2 g e)
theorem Yf (f:Str)(v:V):∀fs:List (Str×V),(vk f v fs).length≤fs.length+1
 |[]=>by simp [vk]
 |(k,x)::r=>by
  have ih:=Yf f v r
  rw [show vk f v ((k,x)::r)=(if k=f then (k,v)::r else (k,x)::vk f v r) from rfl]
  by_cases hk:k=f
  ·rw [ak hk,au,au];lia
  ·rw [af hk,au,au];lia
theorem RelO.some_of {v:V}{o:Option Ag}(r:RelO (some v) o):∃u,o=some u∧RelV v u:=by
 cases o with
 |none=>exact (show False from r).elim
 |some u=>exact ⟨u,rfl,r⟩
theorem RelO.none_of {o:Option Ag}(r:RelO none o):o=none:=by
 cases o with
 |none=>rfl
 |some u=>exact (show False from r).elim
theorem wzc {v:V}{u:Ag}(r:RelV v u):W.handedIn u=true:=by
 cases v with
 |non=>cases (show u=Value.none from r);rfl
 |bl b=>cases (show u=Value.bool b from r);rfl
 |int i=>obtain ⟨t,e⟩:=(show ∃t,u=Value.int i t from r);cases e;rfl
 |str x=>obtain ⟨t,e⟩:=(show ∃t,u=Value.str x t from r);cases e;rfl
 |byt b=>obtain ⟨t,e⟩:=(show ∃t,u=Value.bytes b t from r);cases e;rfl
 |flt b=>obtain ⟨t,e⟩:=(show ∃t,u=Value.float b t from r);cases e;rfl
 |ref a=>cases (show u=Value.ref a from r);rfl
 |ty n=>cases (show u=Value.type n from r);rfl
section
variable {P:Ac}{w:Ah}{H H':Hp}{h h':Heap}{a C dx:Aj}{fs fs':List (Str×V)}
theorem Jv (hok:HOk P w H h)(e:H a=some (.ins C dx fs)):∃mA,ObjM h a dx C mA∧(∀f,RelO (fs.lookup f) (mA f))∧PySem.Within mA (fs.map (·.1))∧fs.length≤1000∧H dx=some (.own a):=by
 obtain ⟨d,z,ne,ob,mA,n,r,q⟩:=(show ObjOk P w H h a (.ins C dx fs) from hok a _ e)
 exact ⟨mA,⟨ob,n,ne⟩,r,q,z,d⟩
end
structure Cls (K:Aa)(C:Aj):Prop where
 pg:W.plainGet K C Str.empty=true
 hd:W.hasDictIn K C=true
 po:W.plainOver K C=true
 sa:W.findIn K (.ref C) "__setattr__" = some (some (.builtin "object.__setattr__"))
theorem Cls.get {K:Aa}{C:Aj}(c:Cls K C)(f:Str):W.plainGet K C f=true:=c.pg
def NoAttr (K:Aa)(C:Aj)(f:Str):Prop:=W.findIn K (.ref C) f=some none
theorem NoAttr.taker {K:Aa}{C:Aj}{f:Str}(n:NoAttr K C f):W.takerIn K C f=some none:=by
 unfold W.takerIn
 rw [show W.findIn K (.ref C) f=some none from n]
 rfl
structure Con (K:Aa)(C:Aj)(f:Str)(v:V)(u:Ag):Prop where
 at_:W.findIn K (.ref C) f=some (some u)
 rel:RelV v u
 get:W.specialIn K u "__get__" = some none
 cp:W.copiedNames.contains f=false
structure Meth (K:Aa)(C:Aj)(m:Str)(f:Aj):Prop where
 at_:W.findIn K (.ref C) m=some (some (.ref f))
 fn:W.isFn K (.ref f)=true
 kp:W.keepIn K (.ref f)=true
section
variable {X:Cx}{pins:List (Aj×Obj)}{σ:St}{H:Hp}{s:Ab}{a C dx:Aj}{fs:List (Str×V)}{f:Str}{v:V}{A:Ae}{E:Ag→Ab→Prop}
theorem qu3 {b:Bool}{Q:Ag→Ab→Prop}(I:Inv X pins σ H s)(e:H a=some (.ins C dx fs))(c:Cls X.K C)(n:NoAttr X.K C f)(l:fs.lookup f=some v)
  (h:∀u s',Inv X pins σ H s'→RelV v u→Q u s'):wpAny (model X.prog X.w) A (getAttr (.ref a) f b) Q E s:=by
 obtain ⟨mA,O,r,_,_,_⟩:=Jv I.hok e
 obtain ⟨u,hu,ru⟩:=RelO.some_of (v:=v) (o:=mA f) (by rw [←l];exact r f)
 exact wu6 I.kIn O (c.get f) c.hd n hu (wzc ru) (h u _ (I.tok _) ru)
theorem qwx {m:Str}{g:Aj}{pl:Sem Bool}{Q:Ag×List Ag→Ab→Prop}(I:Inv X pins σ H s)(e:H a=some (.ins C dx fs))(c:Cls X.K C)(k:Meth X.K C m g)(l:fs.lookup m=none)
  (h:Q (.ref g,[.ref a]) s):wpAny (model X.prog X.w) A (getMethod (.ref a) m pl) Q E s:=by
 obtain ⟨mA,O,r,_,_,_⟩:=Jv I.hok e
 have hn:mA m=none:=RelO.none_of (by rw [←l];exact r m)
 exact wj8 I.kIn O (c.get m) k.at_ k.fn hn h
theorem qu1 {y:V}{u:Ag}{Q:Unit→Ab→Prop}(I:Inv X pins σ H s)(e:H a=some (.ins C dx fs))(c:Cls X.K C)(n:NoAttr X.K C f)(hl:fs.length<1000)(ry:RelV y u)
  (h:∀s',Inv X pins σ (upd H a (.ins C dx (vk f y fs))) s'→Q () s'):wpAny (model X.prog X.w) A (setAttr (.ref a) f u) Q E s:=by
 obtain ⟨mA,O,r,wi,_,ho⟩:=Jv I.hok e
 have hz:(fs.map (·.1)).length≤sizeLine:=by rw [aa,fT];lia
 refine wy2 I.kIn O c.sa c.po n.taker c.hd wi hz λh' O' sb=>h _ ?_
 have hd:∃o,h'.get? dx=some o:=let ⟨o,_,_,e',_⟩:=O'.ns;⟨o,e'⟩
 refine I.write (x:=a) (e:=dx) (by rw [e];exact True.intro) (.inr ho) (λb q hb z=>(sb.2 b hb).trans z) hd ?_
 refine ⟨by rw [wy O.ne];exact ho,?_,O.ne,O'.obj,_,O'.ns,λg=>?_,λg hg=>?_⟩
 ·have:=Yf f y fs;lia
 ·show RelO ((vk f y fs).lookup g) (if g=f then some u else mA g)
  rw [Yb]
  by_cases q:g=f
  ·rw [ak q,ak q];exact ry
  ·rw [af q,af q];exact r g
 ·by_cases q:g=f
  ·rw [q];exact (Zs f y fs).1
  ·refine (Zs f y fs).2 g (wi g λz=>hg ?_)
   show (if g=f then some u else mA g)=none
   rw [af q];exact z
theorem Inv.made (I:Inv X pins σ H s):Inv X pins σ (upd (upd H s.heap.objs.size (.own (s.heap.objs.size+1))) (s.heap.objs.size+1) (.ins C s.heap.objs.size []))
  { s with heap:=(s.heap.push W.emptyDict).push (W.instObj C s.heap.objs.size) }:=by
 have e1:(s.heap.push W.emptyDict).get? s.heap.objs.size=some W.emptyDict:=aw s.heap rfl
 have e2:((s.heap.push W.emptyDict).push (W.instObj C s.heap.objs.size)).get? (s.heap.objs.size+1)=some (W.instObj C s.heap.objs.size):=by
  have:=aw (s.heap.push W.emptyDict) (o:=W.instObj C s.heap.objs.size) rfl
  rwa [eI] at this
 have e3:(s.heap.push W.emptyDict).Ns s.heap.objs.size (λ_=>none):=⟨W.emptyDict,#[],_,e1,rfl,(λe he=>absurd he (by simp)),λ_=>rfl⟩
 have I1:=I.laid (a:=s.heap.objs.size) (o:=.own (s.heap.objs.size+1)) (h':=s.heap.push W.emptyDict) (t':=s.toks) (λb u q=>ae _ q) (ai _) ⟨_,e1⟩
 refine I1.laid (a:=s.heap.objs.size+1) (o:=.ins C s.heap.objs.size []) (t':=s.toks) (λb u q=>ae _ q) (Nat.le_of_eq (eI _ _)) ?_
 have ne:s.heap.objs.size≠s.heap.objs.size+1:=aC (Nat.lt_succ_self _)
 refine ⟨by rw [wy ne,qb],aJ _,ne,e2,λ_=>none,(Heap.Ns1.of_empty e3).at λo q=>ae _ q,λ_=>True.intro,λy hy=>absurd rfl hy⟩
theorem wy5 {prog:Ac}{w:Ah}{env:Env}{e:Expr}{f:Str}{pos:Pos}{s:Ab}{Q:Ag→Ab→Prop}(hb:attributeBase e f env (eval e env)=eval e env)
  (h:wpAny (model prog w) A (eval e env) (λo s₁=>wpAny (model prog w) A (getAttr o f true) Q E s₁) E s):wpAny (model prog w) A (eval (.Attribute e f pos) env) Q E s :=
 Attribute_any_ h (by rw [arm_eval_Attribute,hb])
end
def tFld (K:Aa)(ta:TE)(f:Str):TE:=λσ H Q=>ta σ H λx H1=>∃a C dx fs v,x=.ref a∧H1 a=some (.ins C dx fs)∧Cls K C∧NoAttr K C f∧fs.lookup f=some v∧Q v H1
def sFld (K:Aa)(ta tv:TE)(f:Str):TS:=λD σ H=>tv σ H λy H1=>ta σ H1 λx H2=>∃a C dx fs,x=.ref a∧H2 a=some (.ins C dx fs)∧Cls K C∧NoAttr K C f∧fs.length<1000 ∧
 D.nx σ (upd H2 a (.ins C dx (vk f y fs)))
section
variable {X:Cx}{o e value:Expr}{f:Str}{pos pos' tpos:Pos}{ta tv:TE}
theorem zy (he:PE X e ta)(hb:attributeBase e f X.env (eval e X.env)=eval e X.env):PE X (.Attribute e f pos) (tFld X.K ta f):=by
 intro pins s σ H Q I h
 refine wy5 hb (thn (he pins s σ H _ I h) λu s1 ⟨x,H1,I1,rx,a,C,dx,fs,v,ex,ea,c,n,l,q⟩=>?_)
 subst ex
 obtain rfl:u=Value.ref a:=rx
 exact qu3 I1 ea c n l λu' s2 I2 ru=>⟨v,H1,I2,ru,q⟩
theorem Qk (ha:PE X o ta)(hv:PE X value tv)(hs:swapsWith value (some (.Attribute o f pos')) pos.line X.env=pure false):PS X (.Assign [.Attribute o f pos'] value pos) (sFld X.K ta tv f):=by
 intro pins s σ H D I h
 refine plainObj_wpAny_Assign_Attribute (thn (hv pins s σ H _ I h) λu s1 ⟨y,H1,I1,ry,q⟩=>thn (ha pins s1 σ H1 _ I1 q) λov s2 ⟨x,H2,I2,rx,a,C,dx,fs,ex,ea,c,n,l,q2⟩=>?_) hs
 subst ex
 obtain rfl:ov=Value.ref a:=rx
 exact qu1 I2 ea c n l ry λs3 I3=>⟨σ,_,I3,q2⟩
end
section
variable {X:Cx}{pins:List (Aj×Obj)}{σ:St}{H:Hp}{s:Ab}{A:Ae}{E:Ag→Ab→Prop}{Q:Ag→Ab→Prop}{c:Ag}{b:Bool}
inductive TyOf (K:Aa) (H:Hp):V→Ag→Prop where
 |non:TyOf K H .non (.type "NoneType")
 |bl (x:Bool):TyOf K H (.bl x) (.type "bool")
 |int (i:Int):TyOf K H (.int i) (.type "int")
 |str (x:Str):TyOf K H (.str x) (.type "str")
 |flt (x:UInt64):TyOf K H (.flt x) (.type "float")
 |lst {a:Aj} {xs:List V} (e:H a=some (.lst xs)):TyOf K H (.ref a) (.type "list")
 |frz {a:Aj} {o:Obj} {xs:List V} (e:H a=some (.frz o (.lst xs))):TyOf K H (.ref a) (.type "list")
 |tup {a:Aj} {xs:List V} (e:H a=some (.tup xs)):TyOf K H (.ref a) (.type "tuple")
 |dK {a:Aj} {kvs:List (Key×V)} (e:H a=some (.dK kvs)):TyOf K H (.ref a) (.type "dict")
 |dT {a:Aj} {kvs:List (List Key×V)} (e:H a=some (.dT kvs)):TyOf K H (.ref a) (.type "dict")
 |ins {a C dx:Aj} {fs:List (Str×V)} (e:H a=some (.ins C dx fs)) (cl:Cls K C) (ha:W.findIn K (.ref C) "__class__" = some (some (.builtin "object.__class__")))
   (hn:W.specialIn K (.builtin "object.__class__") "__get__" = some (some (.builtin "getset_descriptor.__get__"))) (htk:W.takesIn K (.builtin "object.__class__")=some true)
   (hm:W.mroIn K C (.type "object")=some true):TyOf K H (.ref a) (.ref C)
theorem qzd {x:V}{u t:Ag}(I:Inv X pins σ H s)(rx:RelV x u)(ty:TyOf X.K H x t)(e:W.kitOne X.K t c=some b)(h:∀tk,Q (.bool b) { s with toks:=tk }) :
  wpAny (model X.prog X.w) A (call (.builtin "isinstance") [u,c]) Q E s:=by
 cases ty with
 |non=>cases (show u=Value.none from rx);exact bC W.kitx_none I.kIn True.intro e (λz=>nomatch z) h
 |bl y=>cases (show u=Value.bool y from rx);exact bC W.kitx_bool I.kIn True.intro e (λz=>nomatch z) h
 |int i=>obtain ⟨t,q⟩:=(show ∃t,u=Value.int i t from rx);cases q;exact bC W.kitx_int I.kIn True.intro e (λz=>nomatch z) h
 |str y=>obtain ⟨t,q⟩:=(show ∃t,u=Value.str y t from rx);cases q;exact bC W.kitx_str I.kIn True.intro e (λz=>nomatch z) h
 |flt y=>obtain ⟨t,q⟩:=(show ∃t,u=Value.float y t from rx);cases q;exact bC W.kitx_float I.kIn True.intro e (λz=>nomatch z) h
 |@lst a xs ea =>
  cases (show u=Value.ref a from rx)
  obtain ⟨_,_,n,_,h1⟩:=(show ObjOk X.prog X.w H s.heap a (.lst xs) from I.hok a _ ea)
  exact bC W.kitx_list I.kIn ⟨_,h1,rfl⟩ e (λz=>nomatch z) h
 |@frz a ob xs ea =>
  cases (show u=Value.ref a from rx)
  obtain ⟨_,_,_,n,_,h1⟩:=(show ObjOk X.prog X.w H s.heap a (.frz ob (.lst xs)) from I.hok a _ ea)
  exact bC W.kitx_list I.kIn ⟨_,h1,rfl⟩ e (λz=>nomatch z) h
 |@tup a xs ea =>
  cases (show u=Value.ref a from rx)
  obtain ⟨_,_,_,p⟩:=(show ObjOk X.prog X.w H s.heap a (.tup xs) from I.hok a _ ea)
  obtain ⟨o,h1,h2,_⟩:=p
  exact bC W.kitx_tuple I.kIn ⟨o,h1,h2⟩ e (λz=>nomatch z) h
 |@dK a kvs ea =>
  cases (show u=Value.ref a from rx)
  obtain ⟨_,_,vs,_,p⟩:=(show ObjOk X.prog X.w H s.heap a (.dK kvs) from I.hok a _ ea)
  obtain ⟨o,es,ep,h1,h2,_⟩:=p
  exact bC W.kitx_dict I.kIn ⟨o,h1,h2.1⟩ e (λz=>nomatch z) h
 |@dT a kvs ea =>
  cases (show u=Value.ref a from rx)
  obtain ⟨_,_,xs,_,o,es,ep,h1,h2,_⟩:=(show ObjOk X.prog X.w H s.heap a (.dT kvs) from I.hok a _ ea)
  exact bC W.kitx_dict I.kIn ⟨o,h1,h2.1⟩ e (λz=>nomatch z) h
 |@ins a C dx fs ea cl ha hn htk hm =>
  cases (show u=Value.ref a from rx)
  obtain ⟨mA,O,_⟩:=Jv I.hok ea
  obtain ⟨od,J,_⟩:=O.look
  exact bC (W.kitx_own (cl.get _) cl.hd ha hn htk hm) I.kIn J e (λz=>nomatch z) h
end
structure Room (k:Nat)(A:Ae):Prop where
 hd:A.handled=none
 dp:A.depth+3*k+5<recursionLimit
 un:A.units+16*k+200<cLine
theorem Room.mono {j k:Nat}{A:Ae}(r:Room k A)(h:j≤k):Room j A:=⟨r.hd,by have:=r.dp;lia,by have:=r.un;lia⟩
theorem Room.deeper {k:Nat}{A:Ae}(r:Room (k+1) A)(env:Env):Room k (A.deeper env) :=
 ⟨r.hd,by have:=r.dp;show A.depth+1+3*k+5<_;lia,by have:=r.un;show A.units+3+16*k+200<_;lia⟩
theorem qu8 {A:Ae}{C:Aj}{us:List Ag}{kw:List (Str×Ag)}:(A.under (.builtin "type.__call__" ⟨.ref C::us,kw⟩)).depth=A.depth+1:=by
 first | rfl | simp [Around.under,Code.weight,Code.isCreation,Code.isGuard,Code.isCaller,Code.frames,Code.isFrame,guardIds]
theorem qup {A:Ae}{C:Aj}{us:List Ag}{kw:List (Str×Ag)}:(A.under (.builtin "type.__call__" ⟨.ref C::us,kw⟩)).units=A.units+1:=by
 first | rfl | simp [Around.under,Code.cUnits,Code.frames,Code.isFrame]
theorem Room.make {k:Nat}{A:Ae}(r:Room (k+1) A)(C:Aj)(us:List Ag)(kw:List (Str×Ag)):Room k (A.under (.builtin "type.__call__" ⟨.ref C::us,kw⟩)) :=
 ⟨r.hd,by have:=r.dp;rw [qu8];lia,by have:=r.un;rw [qup];lia⟩
theorem Room.depth {k:Nat}{A:Ae}(r:Room k A):A.depth<recursionLimit:=by have:=r.dp;lia
theorem Room.units {k:Nat}{A:Ae}(r:Room k A):A.units+64<cLine:=by have:=r.un;lia
theorem Room.units0 {k:Nat}{A:Ae}(r:Room k A):A.units<cLine:=by have:=r.un;lia
def Q5:TA:=λ_ H Q=>Q [] H
def k8 (ta:TE)(tr:TA):TA:=λσ H Q=>ta σ H λx H1=>tr σ H1 λxs H2=>Q (x::xs) H2
section
variable {X:Cx}{e:Expr}{es:List Expr}{te:TE}{t:TA}{pos:Pos}
theorem qk:PA X [] Q5:=λ_ _ _ _ H Q I h=>eU ⟨[],H,I,.nil,h⟩
theorem xj (ha:PE X e te)(hr:PA X es t)(hs:autoParam (starEach (e::es) X.env=(false,eval e X.env)::starEach es X.env) aU4._auto_1):PA X (e::es) (k8 te t):=by
 intro pos pins s σ H Q I h
 rw [hs]
 show wpAny _ _ (spliced ((false,eval e X.env)::backTo pos (starEach es X.env))) _ _ s
 refine dz (thn (ha pins s σ H _ I h) λu s1 ⟨x,H1,I1,r1,q1⟩=>?_)
 exact thn (hr pos pins s1 σ H1 _ I1 q1) λus s2 ⟨xs,H2,I2,r2,q2⟩=>⟨x::xs,H2,I2,.cons r1 r2,q2⟩
def tTup (t:TA):TE:=λσ H Q=>t σ H λxs H1=>xs.length≤sizeLine∧∀p,H1 p=none→Q (.ref p) (upd H1 p (.tup xs))
def tLst (t:TA):TE:=λσ H Q=>t σ H λxs H1=>xs.length≤sizeLine∧∀p,H1 p=none→Q (.ref p) (upd H1 p (.lst xs))
theorem vw {x1}(h:PA X es t):PE X (.Tuple es x1 pos) (tTup t):=by
 intro pins s σ H Q I hq
 refine wpAny_Tuple_spliced (thn (h pos pins s σ H _ I hq) λus s1 ⟨xs,H1,I1,r,z,q⟩=>⟨by rw [←r.length];exact z,?_⟩)
 have hf:H1 s1.heap.objs.size=none:=I1.hok.fresh (ai _)
 refine ⟨.ref s1.heap.objs.size,upd H1 s1.heap.objs.size (.tup xs),I1.laid (t':=s1.toks) (λb u e=>ae _ e) (ai _) ?_,rfl,q _ hf⟩
 exact ⟨z,us,r,⟨_,aw _ rfl,rfl,_,rfl⟩⟩
theorem j8 (h:PA X es t):PE X (.List es pos) (tLst t):=by
 intro pins s σ H Q I hq
 refine wpAny_List_spliced (thn (h pos pins s σ H _ I hq) λus s1 ⟨xs,H1,I1,r,z,q⟩=>⟨by rw [←r.length];exact z,?_⟩)
 have hf:H1 s1.heap.objs.size=none:=I1.hok.fresh (ai _)
 refine ⟨.ref s1.heap.objs.size,upd H1 s1.heap.objs.size (.lst xs),I1.laid (t':=s1.toks) (λb u e=>ae _ e) (ai _) ?_,rfl,q _ hf⟩
 exact ⟨z,us,0,r,aw _ rfl⟩
end
abbrev Sp:=List V→Hp→VK→XK→Prop
abbrev CXT:=List Env→Hp→Ab→XK→Ag→Ab→Prop
structure Env0 (P:Ac)(w:Ah)(K:Aa)(mg:Str→Option Ag)(base:Heap)(A:Ae)(outer:List Env)(s:Ab)(H:Hp):Prop where
 frames:A.frames=some outer
 mod:Mod K mg base
 bs:∀b o,base.get? b=some o→s.heap.get? b=some o∧H b=none
 bsz:base.objs.size≤s.heap.objs.size
 funs:s.heap.FunFrames base outer
 frf:∀b∈frs outer,H b=none
 hok:HOk P w H s.heap
 bare:AllBare s.gens
def CE (outer:List Env)(P:Ac)(w:Ah)(H:Hp)(s:Ab)(Q:VK)(u:Ag)(s':Ab):Prop :=
 ∃v H',s'.os=s.os∧AllBare s'.gens∧Un (frs outer) [] H H' s.heap s'.heap∧HOk P w H' s'.heap∧RelV v u∧Q v H'
def CR (CX:CXT)(outer:List Env)(P:Ac)(w:Ah)(H:Hp)(s:Ab)(Q:VK)(E:XK)(r:Result)(s':Ab):Prop :=
 match r with
 |.ok (.ret u)=>CE outer P w H s Q u s'
 |.ok _=>False
 |.error e=>CX outer H s E e s'
structure FnOk (P:Ac)(w:Ah)(K:Aa)(mg:Str→Option Ag)(base:Heap)(CX:CXT)(k:Nat)(f:Aj)(fd:Ad)(ps:List Str)(sp:Sp):Prop where
 len:∀vs H Q E,sp vs H Q E→vs.length=ps.length
 run:∀(A:Ae) (outer:List Env) (s:Ab) (H:Hp) (args:Args) (us:List Ag) (vs:List V) (Q:VK) (E:XK),Room k A→Env0 P w K mg base A outer s H→BindsTo s fd args (ps.zip us)→Vals vs us→sp vs H Q E →
  codeAny (model P w) A (.call (.ref f) args) (CR CX outer P w H s Q E) s
theorem Env0.make {P:Ac}{w:Ah}{K:Aa}{mg:Str→Option Ag}{base:Heap}{A:Ae}{outer:List Env}{s:Ab}{H:Hp}(e:Env0 P w K mg base A outer s H)(C:Aj)(us:List Ag)(kw:List (Str×Ag)) :
  Env0 P w K mg base (A.under (.builtin "type.__call__" ⟨.ref C::us,kw⟩)) outer s H:=⟨by first | exact e.frames | (simpa [Around.under,Code.envs,Code.isFrame,pushEnvs] using e.frames),e.mod,e.bs,e.bsz,e.funs,e.frf,e.hok,e.bare⟩
section
variable {X:Cx}{pins:List (Aj×Obj)}{σ:St}{H:Hp}{s s':Ab}
theorem Inv.env0 (I:Inv X pins σ H s):Env0 X.prog X.w X.K X.mg X.base X.A X.stack s H :=
 ⟨I.ok.frames,I.ok.mod,I.bs,bw I.ok.bsz I.sz,I.stack,I.stkFree,I.hok,I.bare⟩
theorem Inv.after {Q:VK}{u:Ag}(I:Inv X pins σ H s)(h:CE X.stack X.prog X.w H s Q u s'):EP X pins σ Q u s':=by
 obtain ⟨v,H',os,bare,un,hok,r,q⟩:=h
 obtain ⟨hh,g,d,t,os'⟩:=s'
 obtain rfl:os'=s.os:=os
 exact ⟨v,H',I.call (h':=hh) (g':=g) (d':=d) (t':=t) (ch:=[]) un hok bare (λb z=>absurd z (by simp)),r,q⟩
end
def Binds (K:Aa)(fd:Ad)(ps:List Str)(ds:List Ag):Prop :=
 ∀(s:Ab) (us:List Ag),K.In s.heap→(us++ds).length=ps.length→BindsTo s fd ⟨us,[]⟩ (ps.zip (us++ds))
theorem Binds.all {K:Aa}{fd:Ad}{ps:List Str}(h:∀us:List Ag,us.length=ps.length→bindArgs fd ⟨us,[]⟩=pure (ps.zip us)):Binds K fd ps []:=λs us _ hl=>by
 rw [cN] at hl ⊢
 exact .of_eq (h us hl)
section
variable {X:Cx}{CX:CXT}{k:Nat}{f C:Aj}{fd:Ad}{ps:List Str}{sp:Sp}{dvs:List V}{ds:List Ag}{E:XK}{x m:Str}{p pos apos:Pos}{e o:Expr}{es:List Expr}{ta:TE}{t:TA}
structure Mk (K:Aa)(C f:Aj):Prop where
 makes:W.makesIn K C=true
 init:W.findIn K (.ref C) "__init__" = some (some (.ref f))
 fn:W.isFn K (.ref f)=true
 kp:W.keepIn K (.ref C)=true
end
section
variable {X:Cx}{CX:CXT}{k:Nat}{f C:Aj}{fd:Ad}{ps ks:List Str}{sp:Sp}{E:XK}{x m:Str}{p pos apos kpos:Pos}{e o:Expr}{es:List Expr}{kws:List Keyword}{te ta:TE}{t tk:TA}{nm:Option Str}
structure KBinds (K:Aa)(fd:Ad)(ps ks:List Str)(g:List Ag→List Ag→List Ag)(gV:List V→List V→List V):Prop where
 to:∀(s:Ab) (us ws:List Ag),K.In s.heap→(g us ws).length=ps.length→BindsTo s fd ⟨us,ks.zip ws⟩ (ps.zip (g us ws))
 rel:∀ {vs:List V} {us:List Ag} {zs:List V} {ws:List Ag},Vals vs us→Vals zs ws→Vals (gV vs zs) (g us ws)
variable {g:List Ag→List Ag→List Ag}{gV:List V→List V→List V}
end
structure FnScope (N P:List Str)(sc:Scope):Prop where
 kind:sc.kind=.function
 co:sc.isCoroutine=false
 gen:sc.isGenerator=false
 nd:N.Nodup
 pre:N.take P.length=P
 par:∀x∈P,sc.names.lookup x=some .local∨sc.names.lookup x=some .cell
 nofree:∀y∈sc.names,y.2≠.free
theorem qzp {kindOf:Str→Option NameKind}{x:Str}:∀ {binds:List (Str×Ag)} {m:Str→Option Ag},(∀v,(x,v)∉binds)→bindL kindOf binds m x=m x
 |[],_,_=>rfl
 |(n,v)::r,m,h=>by
  unfold bindL
  rw [qzp λw hw=>h w (ax _ hw)]
  split
  ·have:x≠n:=by rintro rfl;exact h v ar
   simp [this]
  ·rfl
theorem qzy {kindOf:Str→Option NameKind}{x:Str}:∀ {binds:List (Str×Ag)} {m:Str→Option Ag},(∀v,(x,v)∉binds)→bindC kindOf binds m x=m x
 |[],_,_=>rfl
 |(n,v)::r,m,h=>by
  unfold bindC
  rw [qzy λw hw=>h w (ax _ hw)]
  split
  ·rfl
  ·have:x≠n:=by rintro rfl;exact h v ar
   simp [this]
theorem qzz {kindOf:Str→Option NameKind}{x:Str}{v:Ag}:∀ {P:List Str} {vs:List Ag} {i:Nat} {m:Str→Option Ag},P.Nodup→P[i]?=some x→vs[i]?=some v→kindOf x=some .local →
  bindL kindOf (P.zip vs) m x=some v
 |[],_,_,_,_,h,_,_=>by simp at h
 |_::_,[],_,_,_,_,h,_=>by simp at h
 |p::P,w::vs,0,m,nd,h1,h2,hk=>by
  simp at h1 h2;subst h1;subst h2
  show bindL kindOf ((p,w)::P.zip vs) m p=_
  unfold bindL
  rw [qzp λv hv=>(aU.mp nd).1 (fK hv).1,ak hk]
  simp
 |p::P,w::vs,i+1,m,nd,h1,h2,hk=>by
  show bindL kindOf ((p,w)::P.zip vs) m x=_
  unfold bindL
  exact qzz (i:=i) (aU.mp nd).2 (by simpa using h1) (by simpa using h2) hk
theorem qx8 {kindOf:Str→Option NameKind}{x:Str}{v:Ag}:∀ {P:List Str} {vs:List Ag} {i:Nat} {m:Str→Option Ag},P.Nodup→P[i]?=some x→vs[i]?=some v→kindOf x≠some .local →
  bindC kindOf (P.zip vs) m x=some v
 |[],_,_,_,_,h,_,_=>by simp at h
 |_::_,[],_,_,_,_,h,_=>by simp at h
 |p::P,w::vs,0,m,nd,h1,h2,hk=>by
  simp at h1 h2;subst h1;subst h2
  show bindC kindOf ((p,w)::P.zip vs) m p=_
  unfold bindC
  rw [qzy λv hv=>(aU.mp nd).1 (fK hv).1,af hk]
  simp
 |p::P,w::vs,i+1,m,nd,h1,h2,hk=>by
  show bindC kindOf ((p,w)::P.zip vs) m x=_
  unfold bindC
  exact qx8 (i:=i) (aU.mp nd).2 (by simpa using h1) (by simpa using h2) hk
def W7 (N:List Str)(vs:List V):St:=vs.map some++List.replicate (N.length-vs.length) none
def qv2 (CX:CXT)(P:Ac)(w:Ah)(K:Aa)(mg:Str→Option Ag)(base:Heap)(N:List Str)(qual:Str)(scope:Scope)(f:Aj)(cd:Ag)(A:Ae)(outer:List Env)(s:Ab)(H:Hp)(E:XK):Cx where
 prog:=P
 w:=w
 K:=K
 mg:=mg
 base:=base
 A:=A.deeper (envOfC qual scope s.heap.objs.size f cd)
 N:=N
 s₀:=s
 H₀:=H
 env:=envOfC qual scope s.heap.objs.size f cd
 outer:=outer
 stack:=envOfC qual scope s.heap.objs.size f cd::outer
 ex:=[]
 calm:=true
 fn:=λ_=>true
 pn:=[]
 xe:=λe s'=>wpAny (model P w) (A.deeper (envOfC qual scope s.heap.objs.size f cd)) (leaving (envOfC qual scope s.heap.objs.size f cd) e) (λ_ s''=>CX outer H s E e s'') (λe' s''=>CX outer H s E e' s'') s'
theorem qy5 {sc:Scope}{n:Nat}{x:Str}(h:sc.names.lookup x=some .cell):∃c,(cellsFrom n sc.names []).lookup x=some c:=by
 have q:=W.cellsFrom_some sc.names n [] (.inl h)
 exact av.mp q
theorem wzd {CX:CXT}{P:Ac}{w:Ah}{K:Aa}{mg:Str→Option Ag}{base:Heap}{N ps:List Str}{qual:Str}{scope:Scope}{f:Aj}{cd:Ag}{A:Ae}{outer:List Env}{s s1:Ab}{H:Hp}{E:XK}{us:List Ag}{vs:List V}
  (S:FnScope N ps scope) (hd:A.handled=none) (e0:Env0 P w K mg base A outer s H) (hl:vs.length=ps.length) (r:Vals vs us)
  (x:InCallC s s.heap.objs.size (bindL (envOfC qual scope s.heap.objs.size f cd).kindOf (ps.zip us) λ_=>none) (cellsFrom (s.heap.objs.size+1) scope.names []) (bindC (envOfC qual scope s.heap.objs.size f cd).kindOf (ps.zip us) λ_=>none) s1) :
  Inv (qv2 CX P w K mg base N qual scope f cd A outer s H E) [] (W7 N vs) H s1:=by
 have hpl:ps.length≤N.length:=by have:=bB List.length S.pre;rw [bD] at this;lia
 obtain ⟨h1,tk,rfl,hk⟩:=x.done
 have noA:∀b:Aj,b∉(qv2 CX P w K mg base N qual scope f cd A outer s H E).ex:=λb z=>absurd (show b∈([]:List Aj) from z) (by simp)
 refine ⟨⟨e0.mod,S.kind,rfl,rfl,ai _,λy z c h1 h2=>?_,λy hy=>?_,λy c _ h=>?_,λ_=>hd,Around.frames_deeper e0.frames,.inr ⟨rfl,rfl⟩,λb z=>absurd z (noA b),e0.bs,e0.bsz,λb _ _=>noA b,λb z=>absurd z (noA b),e0.funs,e0.frf⟩,
  rfl,e0.bare,Un.kept hk,⟨_,x.toInCall.ns,λi y v h1 h2 h3=>?_⟩,λy c h=>⟨_,x.cell y c h⟩,e0.hok.fresh (ai _),λy c h=>?_,λp hp=>absurd (show p∈([]:List (Aj×Obj)) from hp) (by simp),e0.hok.kept hk,?_⟩
 ·exact name_of_addr x.apart (cE h1) (cE h2)
 ·have hy:scope.names.lookup y=some .cell∨scope.names.lookup y=some .free:=hy
  rcases hy with hy|hy
  ·exact qy5 hy
  ·exact absurd rfl (S.nofree _ (cE hy))
 ·exact cx (x.above y c (cE h))
 ·have hi:i<vs.length:=by
   unfold W7 at h2
   by_cases hi:i<vs.length
   ·exact hi
   ·rw [bt (by simpa using hi)] at h2
    rw [List.getElem?_replicate] at h2
    split at h2 <;> cases h2
  have ha:vs[i]?=some v:=by
   unfold W7 at h2
   rw [bG (by simpa using hi),aB] at h2
   cases e:vs[i]? with
   |none=>rw [e] at h2;cases h2
   |some a=>rw [e] at h2;cases h2;rfl
  obtain ⟨u,hu,rv⟩:=r.get ha
  have hp:ps[i]?=some y:=by
   rw [←S.pre,List.getElem?_take_of_lt ⋯];exact h1
  have ndP:ps.Nodup:=by rw [←S.pre];exact S.nd.sublist (eV _ _)
  refine ⟨u,rv,?_⟩
  rcases S.par y (ba hp) with k|k
  ·exact .inl ⟨k,qzz ndP hp hu k⟩
  ·obtain ⟨c,e⟩:=qy5 (n:=s.heap.objs.size+1) k
   refine .inr ⟨.inl k,c,e,?_⟩
   have q:=x.cell y c e
   rw [qx8 ndP hp hu (by show scope.names.lookup y≠_;rw [k];decide)] at q
   exact q
 ·exact e0.hok.fresh (cx (x.above y c (cE h)))
 ·unfold W7
  show _=N.length
  rw [aL,aa,List.length_replicate]
  lia
theorem fn_of {CX:CXT}{P:Ac}{w:Ah}{K:Aa}{mg:Str→Option Ag}{base:Heap}{k:Nat}{f:Aj}{name qual:Str}{params:Arguments}{body:List Stmt}{scope:Scope}{dV kV doc pm cdv ct oc:Ag}{an od:Option Aj}
  {osl:Array (Option Ag)} {N ps:List Str} {sp:Sp} (lk:K.lookup f=some ⟨oc,od,.func (W.fnOf name qual params body scope dV kV doc pm an cdv ct),osl⟩) (hcd:W.codeIn K cdv qual=true) (S:FnScope N ps scope)
  (len:∀vs H Q E,sp vs H Q E→vs.length=ps.length)
  (hbody:∀(A:Ae) (outer:List Env) (s:Ab) (H:Hp) (vs:List V) (Q:VK) (E:XK),Room k (A.deeper (envOfC qual scope s.heap.objs.size f cdv))→sp vs H Q E →
   ∃t,PSs (qv2 CX P w K mg base N qual scope f cdv A outer s H E) body t∧t { nx:=λ_ H'=>Q .non H',rt:=Q } (W7 N vs) H) :
  FnOk P w K mg base CX (k+1) f (W.fnOf name qual params body scope dV kV doc pm an cdv ct) ps sp:=by
 refine ⟨len,λA outer s H args us vs Q E hr e0 hb r hsp=>?_⟩
 have hl:=len _ _ _ _ hsp
 have KX:K.In s.heap:=e0.mod.kin.keeps λb o e=>(e0.bs b o e).1
 have lim:s.heap.NoLimit:=e0.mod.nolimit.keeps λb o e=>(e0.bs b o e).1
 have hkind:∀y∈ps.zip us,scope.names.lookup y.1=some .local∨(scope.names.lookup y.1=some .cell∧((cellsFrom (s.heap.objs.size+1) scope.names []).lookup y.1).isSome=true):=λ⟨n,v⟩ hy=>by
  rcases S.par n (fK hy).1 with q|q
  ·exact .inl q
  ·exact .inr ⟨q,W.cellsFrom_some _ _ _ (.inl q)⟩
 refine codeAny_call_function hr.depth (KX _ _ lk) rfl S.co S.gen rfl (W.codeRec_of KX hcd) (hb _ _ _ _ ?_)
 refine wpAny_newFunctionEnv_cells S.kind hkind λenv he s1 x=>?_
 subst he
 refine ⟨lim.keeps x.toInCall.keep,codeAny_func ?_⟩
 obtain ⟨t,ht,hq⟩:=hbody A outer s H vs Q E (hr.deeper _) hsp
 have I:Inv (qv2 CX P w K mg base N qual scope f cdv A outer s H E) [] (W7 N vs) H s1:=wzd S hr.hd e0 hl r x
 refine bg (ht [] s1 (W7 N vs) H _ I hq) (λfl s' hs=>?_) λe s' hs=>hs
 have fin:∀ {σ':St} {H':Hp} {v:V} {u:Ag},Inv (qv2 CX P w K mg base N qual scope f cdv A outer s H E) [] σ' H' s'→RelV v u→Q v H'→CE outer P w H s Q u s' :=
  λ{σ' H' v u} J rv q=>⟨v,H',J.os,J.bare,J.base,J.hok,rv,q⟩
 cases fl with
 |ret u =>
  obtain ⟨v,σ',H',J,rv,q⟩:=hs
  exact fin J rv q
 |next =>
  obtain ⟨σ',H',J,q⟩:=hs
  exact fin (v:=V.non) (u:=Value.none) J rfl q
 |brk =>
  obtain ⟨_,_,_,q⟩:=hs
  exact False.elim q
 |cont =>
  obtain ⟨_,_,_,q⟩:=hs
  exact False.elim q
section
variable {X:Cx}{x:Str}{p pos:Pos}{e:Expr}{es:List Expr}{t:TA}{id T:String}{r:List V→Hp→VK→Prop}
def tCB (r:List V→Hp→VK→Prop)(t:TA):TE:=λσ H Q=>t σ H λvs H1=>r vs H1 Q
theorem wp (hc:vh X (.builtin id) r)(hg:Gl X x)(hm:X.mg x=none)(hv:bootBuiltins x=some (.builtin id))(ha:PA X (e::es) t)(hn:autoParam (x ≠ "__name__") aU2._auto_1)(hdb:autoParam ((x==("__debug__" : Str))=false) aU1._auto_1)
  (he:autoParam (starEach (e::es) X.env=(false,eval e X.env)::starEach es X.env) aU4._auto_1) (hpl:autoParam ((backTo pos (starEach es X.env)).any (·.1)=false) aU4._auto_1):PE X (.Call (.Name x p) (e::es) [] pos) (tCB r t):=by
 intro pins s σ H Q I h
 refine cJ (Yk I hg hm hv ?_ hn hdb)
 exact PyProof.Rows.callWith_builtin1 (thn (ha pos pins s σ H _ I h) λus s1 ⟨vs,H1,I1,r1,q1⟩=>hc pins s1 σ H1 vs us Q I1 r1 q1) he hpl
theorem zu (hc:vh X (.type T) r)(hg:Gl X x)(hm:X.mg x=none)(hv:bootBuiltins x=some (.type T))(ha:PA X (e::es) t)(hn:autoParam (x ≠ "__name__") aU2._auto_1)(hdb:autoParam ((x==("__debug__" : Str))=false) aU1._auto_1)
  (he:autoParam (starEach (e::es) X.env=(false,eval e X.env)::starEach es X.env) aU4._auto_1) (hpl:autoParam ((backTo pos (starEach es X.env)).any (·.1)=false) aU4._auto_1):PE X (.Call (.Name x p) (e::es) [] pos) (tCB r t):=by
 intro pins s σ H Q I h
 refine cJ (Yk I hg hm hv ?_ hn hdb)
 exact cg (thn (ha pos pins s σ H _ I h) λus s1 ⟨vs,H1,I1,r1,q1⟩=>hc pins s1 σ H1 vs us Q I1 r1 q1) he hpl
end
end L2
namespace HT
open PySem PyProof.Rows
section
open PySem.SeqAt
open PySem.AutoSeq1 (wpAny_loadPart')
open PySem.MeetsSeq PySem.MeetsSeq2 PySem.MeetsSeq3
end
section
variable {prog:Ac}{w:Ah}{A:Ae}{E:Ag→Ab→Prop}{s:Ab}
def sIx (n d:Nat):Option Int→Nat
 |none=>d
 |some v=>if v<0 then (v+(n:Int)).toNat else min v.toNat n
end
end HT
namespace L2
open PySem PySem.Spec PyProof.Rows
abbrev TO:=St→Hp→(Option Int→Hp→Prop)→Prop
def PO (X:Cx)(e:Option Expr)(t:TO):Prop :=
 ∀(pins:List (Aj×Obj)) (s:Ab) (σ:St) (H:Hp) (Q:Option Int→Hp→Prop),Inv X pins σ H s→t σ H Q →
  wpAny (model X.prog X.w) X.A (evalPart e X.env) (λu s'=>∃o H',Inv X pins σ H' s'∧IsPart u o∧Q o H') X.xe s
def xqq:TO:=λ_ H Q=>Q none H
def tPart (t:TE):TO:=λσ H Q=>t σ H λx H1=>∃i,x=.int i∧Q (some i) H1
theorem wqk {ns:List Int}:∀ {us:List Ag},Vals (ns.map V.int) us→IntsAre us ns:=by
 induction ns with
 |nil=>intro us r;rw [bO] at r;cases r;exact .nil
 |cons n ns ih =>
  intro us r
  rw [aA] at r
  cases r with
  |cons r1 r2 =>
   obtain ⟨t,e⟩:=r1
   subst e
   exact .cons n t (ih r2)
section
variable {X:Cx}{e:Expr}{te:TE}{lo hi:Option Expr}{tl th:TO}{pos p2:Pos}
theorem www:PO X none xqq:=by
 intro pins s σ H Q I h
 rw [evalPart_none]
 exact am ⟨none,H,I,.none,h⟩
theorem wwj (h:PE X e te):PO X (some e) (tPart te):=by
 intro pins s σ H Q I hw
 rw [evalPart_some]
 refine thn (h pins s σ H _ I hw) λu s1 ⟨x,H1,I1,r1,q1⟩=>?_
 obtain ⟨i,rfl,q⟩:=q1
 obtain ⟨t,rfl⟩:=r1
 exact ⟨some i,H1,I1,.int i t,q⟩
def SlR (X:Cx)(r:V→Option Int→Option Int→Hp→VK→Prop):Prop :=
 ∀(pins:List (Aj×Obj)) (s:Ab) (σ:St) (H:Hp) (x:V) (v vl vu:Ag) (lo hi:Option Int) (sl:Aj) (Q:VK),Inv X pins σ H s→RelV x v→s.heap.IsSliceOf sl vl vu .none→IsPart vl lo→IsPart vu hi→r x lo hi H Q →
  ∃T id,typeLookup (.type T) "__getitem__" = pure (some (.builtin id))∧s.TypeIs v T∧wpAny (model X.prog X.w) X.A (getItem v (.ref sl)) (EP X pins σ Q) X.xe s
def tSl (r:V→Option Int→Option Int→Hp→VK→Prop)(te:TE)(tl th:TO):TE:=λσ H Q=>te σ H λx H1=>tl σ H1 λl H2=>th σ H2 λu H3=>r x l u H3 Q
theorem qjs {r:V→Option Int→Option Int→Hp→VK→Prop}(hr:SlR X r)(he:PE X e te)(hl:PO X lo tl)(hu:PO X hi th):PE X (.Subscript e (.Slice lo hi none p2) pos) (tSl r te tl th):=by
 intro pins s σ H Q I h
 refine Subscript_ (thn (he pins s σ H _ I h) λv s1 ⟨x,H1,I1,r1,q1⟩=>?_)
 refine wpAny_Slice (thn (hl pins s1 σ H1 _ I1 q1) λvl s2 ⟨l,H2,I2,pl,q2⟩=>thn (hu pins s2 σ H2 _ I2 q2) λvu s3 ⟨u,H3,I3,pu,q3⟩=>?_)
 rw [evalPart_none]
 refine am ?_
 have I4:Inv X pins σ H3 { s3 with heap:=s3.heap.push { cls:=.type "slice",data:=.fields #[vl,vu,.none] } }:=I3.kept (t':=s3.toks) λb ob q=>ae _ q
 obtain ⟨T,id,hT,ht,hg⟩:=hr pins { s3 with heap:=s3.heap.push { cls:=.type "slice",data:=.fields #[vl,vu,.none] } } σ H3 x v vl vu l u s3.heap.objs.size Q I4 r1 (Heap.IsSliceOf.new ..) pl pu q3
 show wpAny (model X.prog X.w) X.A (subscriptTail e (.Slice lo hi none p2) v (.ref s3.heap.objs.size)) (EP X pins σ Q) X.xe { s3 with heap:=s3.heap.push { cls:=.type "slice",data:=.fields #[vl,vu,.none] } }
 exact tail_any (ops:=[.ref s3.heap.objs.size,v]) ht hT hg (by with_unfolding_all rfl)
def cutV (xs:List V)(lo hi:Option Int):List V:=(xs.drop (HT.sIx xs.length 0 lo)).take (HT.sIx xs.length xs.length hi-HT.sIx xs.length 0 lo)
theorem qyv (xs:List V)(lo hi:Option Int):(cutV xs lo hi).length≤xs.length:=by
 unfold cutV
 rw [bD,List.length_drop]
 lia
end
def ixN (n:Nat)(i:Int):Option Nat:=if 0≤i then (if i<n then some i.toNat else none) else if -(n:Int)≤i then some (i+n).toNat else none
def atI {α:Type}(xs:List α)(i:Int):Option α:=(ixN xs.length i).bind λj=>xs[j]?
theorem wus {n:Nat}{i:Int}{j:Nat}(h:ixN n i=some j):seqIndex? i n=some j∧j<n∧-(n:Int)≤i∧i<n:=by
 unfold ixN at h
 by_cases h0:0≤i
 ·rw [ak h0] at h
  by_cases h1:i<n
  ·rw [ak h1] at h
   have e:i.toNat=j:=az h
   exact ⟨by rw [seqIndex_of h0 h1,e],⋯,⋯,h1⟩
  ·rw [af h1] at h;cases h
 ·rw [af h0] at h
  by_cases h1:-(n:Int)≤i
  ·rw [ak h1] at h
   have e:(i+n).toNat=j:=az h
   exact ⟨by rw [seqIndex_neg ⋯ h1,e],⋯,h1,⋯⟩
  ·rw [af h1] at h;cases h
theorem qvg {α:Type}{xs:List α}{i:Int}{v:α}(h:atI xs i=some v):∃j,seqIndex? i xs.length=some j∧xs[j]?=some v∧j<xs.length∧-(xs.length:Int)≤i∧i<xs.length:=by
 unfold atI at h
 cases e:ixN xs.length i with
 |none=>rw [e] at h;cases h
 |some j =>
  rw [e] at h
  obtain ⟨h1,h2,h3,h4⟩:=wus e
  exact ⟨j,h1,h,h2,h3,h4⟩
theorem j3 {α:Type}{xs:List α}{j:Nat}{v:α}(h:xs[j]?=some v):atI xs (j:Int)=some v:=by
 have hj:j<xs.length:=(aR.mp h).1
 have e:ixN xs.length (j:Int)=some j:=by
  unfold ixN
  rw [ak ⋯,ak ⋯];simp
 unfold atI;rw [e];exact h
theorem wjm {α:Type}(xs:List α)(v:α):atI (xs++[v]) (-1)=some v:=by
 have hl:(xs++[v]).length=xs.length+1:=by simp
 have e:ixN (xs++[v]).length (-1)=some xs.length:=by
  unfold ixN
  rw [hl,af ⋯,ak ⋯]
  congr 1
  lia
 unfold atI
 rw [e]
 show (xs++[v])[xs.length]?=some v
 simp
def wum (b:Expr):Prop:=∀o i,subscripted b false o i=operate [o,i] (getItem o i)
def IxR (X:Cx)(r:R2):Prop :=
 ∀(value slice:Expr) (pins:List (Aj×Obj)) (s:Ab) (σ:St) (H:Hp) (x y:V) (v u:Ag) (Q:VK),Inv X pins σ H s→RelV x v→RelV y u→r x y H Q →
  subscripted slice false v u=operate [v,u] (getItem v u)→wpAny (model X.prog X.w) X.A (subscriptTail value slice v u) (EP X pins σ Q) X.xe s
def MtR (X:Cx)(id:String)(r:V→List V→Hp→VK→Prop):Prop :=
 ∀(pins:List (Aj×Obj)) (s:Ab) (σ:St) (H:Hp) (x:V) (xs:List V) (v:Ag) (us:List Ag) (Q:VK),Inv X pins σ H s→RelV x v→Vals xs us→r x xs H Q →
  wpAny (model X.prog X.w) X.A (call (.builtin id) (v::us)) (EP X pins σ Q) X.xe s
section
variable {X:Cx}{a b:Expr}{ta tb:TE}{pos:Pos}
theorem zd {r:R2}(hr:IxR X r)(ha:PE X a ta)(hb:PE X b tb)(hs:wum b):PE X (.Subscript a b pos) (tOp r ta tb):=by
 intro pins s σ H Q I h
 exact Subscript_ (binT ha hb I h λv u s2 x y H2 I2 rx ry q=>hr a b pins s2 σ H2 x y v u Q I2 rx ry q (hs _ _))
def rIxL (K:Aa):R2:=λx y H Q=>∃p xs i v,x=.ref p∧y=.int i∧SqL K H p xs∧atI xs i=some v∧Q v H
def rIxT (K:Aa):R2:=λx y H Q=>∃p xs i v,x=.ref p∧y=.int i∧SqT K H p xs∧atI xs i=some v∧Q v H
def rIxS:R2:=λx y H Q=>∃z i c,x=.str z∧y=.int i∧z.length≤sizeLine∧atI z.cps.toList i=some c∧Q (.str ⟨#[c]⟩) H
theorem x4:IxR X (rIxL X.K):=by
 intro value slice pins s σ H x y v u Q I rx ry h hs
 obtain ⟨p,xs,i,z,rfl,rfl,hq,he,q⟩:=h
 cases rx
 obtain ⟨t,rfl⟩:=ry
 obtain ⟨its,r,pl,hz⟩:=I.list hq
 obtain ⟨j,h1,h2,h3,h4,h5⟩:=qvg he
 obtain ⟨w,ew,rw'⟩:=r.get h2
 have hl:=r.length
 have hn:=Z2
 have fin:EP X pins σ Q w s:=⟨z,H,I,rw',q⟩
 by_cases h0:0≤i
 ·have hj:i.toNat=j:=by
   rw [seqIndex_of h0 h5] at h1
   exact az h1
  exact item_listR pl.isList h0 ⋯ (by rw [hj];simpa using ew) fin hs
 ·have hj:(i+(its.toArray.size:Int)).toNat=j:=by
   rw [seqIndex_neg ⋯ h4] at h1
   rw [aH,←hl]
   exact az h1
  exact subscriptTail_builtinR (x:=w) pl.isList.typeIs slot_list_getitem.lookup
   (wpAny_getItem_list_neg (Q:=λr s'=>r=w∧EP X pins σ Q r s') pl.isList ⋯ (by rw [aH] <;> lia) ⋯ (by rw [hj];simpa using ew) ⟨rfl,fin⟩) hs
theorem ur:IxR X (rIxT X.K):=by
 intro value slice pins s σ H x y v u Q I rx ry h hs
 obtain ⟨p,xs,i,z,rfl,rfl,hq,he,q⟩:=h
 cases rx
 obtain ⟨t,rfl⟩:=ry
 obtain ⟨its,r,pl,hz⟩:=I.tuple hq
 obtain ⟨j,h1,h2,h3,h4,h5⟩:=qvg he
 obtain ⟨w,ew,rw'⟩:=r.get h2
 have hl:=r.length
 have hn:=Z2
 have fin:EP X pins σ Q w s:=⟨z,H,I,rw',q⟩
 exact subscriptTail_builtinR (x:=w) pl.typeIs slot_tuple_getitem.lookup
  (getItem_tuple (j:=j) (Q:=λr s'=>r=w∧EP X pins σ Q r s') pl ⋯ ⋯ (by rw [aH,←hl];exact h1) (by simpa using ew) ⟨rfl,fin⟩) hs
theorem ix_str:IxR X rIxS:=by
 intro value slice pins s σ H x y v u Q I rx ry h hs
 obtain ⟨z,i,c,rfl,rfl,hz,he,q⟩:=h
 obtain ⟨t,rfl⟩:=rx
 obtain ⟨t',rfl⟩:=ry
 obtain ⟨j,h1,h2,h3,h4,h5⟩:=qvg he
 have hl:z.cps.toList.length=z.length:=by simp [Str.length]
 rw [hl] at h1 h4 h5
 have hn:=Z2
 exact tail_any (eJ s z t) slot_str_getitem.lookup (getItem_str (c:=c) (by
  have e1:decide (i < -(2 ^ 63:Int))=false:=bn ⋯
  have e2:decide (i≥2 ^ 63)=false:=bn ⋯
  rw [e1,e2,Bool.or_false]) (by rw [h1];simpa using h2) ⟨.str ⟨#[c]⟩,H,I.tok _,⟨_,rfl⟩,q⟩) hs
theorem qvj (lo hi:Option Int)(n:Nat):(sliceBounds lo hi none n).1=((HT.sIx n 0 lo:Nat):Int)∧(sliceBounds lo hi none n).2.1=((HT.sIx n n hi:Nat):Int)∧(sliceBounds lo hi none n).2.2=1:=by
 refine ⟨?_,?_,rfl⟩
 ·cases lo with
  |none=>simp [sliceBounds,HT.sIx]
  |some i =>
   simp only [sliceBounds,HT.sIx,Option.getD_none,show (1:Int)>0 by decide,fU]
   by_cases h:i<0
   ·simp only [h,fU] <;> lia
   ·simp only [h,dS] <;> lia
 ·cases hi with
  |none=>simp [sliceBounds,HT.sIx]
  |some i =>
   simp only [sliceBounds,HT.sIx,Option.getD_none,show (1:Int)>0 by decide,fU]
   by_cases h:i<0
   ·simp only [h,fU] <;> lia
   ·simp only [h,dS] <;> lia
theorem qx1 (its:List Ag)(lo hi:Option Int):slicePick its.toArray lo hi none=((its.drop (HT.sIx its.length 0 lo)).take (HT.sIx its.length its.length hi-HT.sIx its.length 0 lo)).toArray:=by
 obtain ⟨h1,h2,h3⟩:=qvj lo hi its.toArray.size
 unfold slicePick
 rw [h1,h2,h3]
 simp only [sliceRange_one,pick_run,aH] <;> rfl
def rSlL (K:Aa):V→Option Int→Option Int→Hp→VK→Prop:=λx lo hi H Q=>∃a xs,x=.ref a∧SqL K H a xs∧∀p,H p=none→Q (.ref p) (upd H p (.lst (cutV xs lo hi)))
theorem xqw:SlR X (rSlL X.K):=by
 intro pins s σ H x v vl vu lo hi sl Q I rx hs pl pu h
 obtain ⟨a,xs,rfl,hx,q⟩:=h
 cases rx
 obtain ⟨its,r,ht,hz⟩:=I.list hx
 have hlen:=r.length
 refine ⟨"list",_,slot_list_getitem.lookup,ht.isList.typeIs,?_⟩
 refine wpAny_getItem_list_slice ht.isList hs pl pu .none (by simp) ?_ (by rw [aH] <;> lia)
 rw [qx1,←hlen]
 refine ⟨.ref s.heap.objs.size,_,I.laid (t':=s.toks) (o:=.lst (cutV xs lo hi)) (λb ob q=>ae _ q) (ai _) ?_,rfl,q _ (I.hok.fresh (ai _))⟩
 exact ⟨bw (qyv xs lo hi) hz,_,0,(r.drop (HT.sIx xs.length 0 lo)).take (HT.sIx xs.length xs.length hi-HT.sIx xs.length 0 lo),aw _ rfl⟩
theorem xk:vh X (.builtin "len") (λxs H Q=>∃p ys,xs=[.ref p]∧(SqL X.K H p ys∨SqT X.K H p ys)∧Q (.int ys.length) H):=by
 intro pins s σ H xs us Q I r h
 obtain ⟨p,ys,rfl,hq,q⟩:=h
 obtain ⟨u,rfl,rx⟩:=jr r
 cases rx
 have hn:=Z2
 rcases hq with hq|hq
 ·obtain ⟨its,r',pl,hz⟩:=I.list hq
  have hlen:=r'.length
  exact Calls.call_len_list pl.isList (by simp only [aH] <;> lia) ⟨.int ys.length,H,I.tok _,⟨s.toks+1,by rw [aH,hlen]⟩,q⟩
 ·obtain ⟨its,r',pl,hz⟩:=I.tuple hq
  have hlen:=r'.length
  exact len_tuple pl (by simp only [aH] <;> lia) ⟨.int ys.length,H,I.tok _,⟨s.toks+1,by rw [aH,hlen]⟩,q⟩
theorem yz:vh X (.builtin "len") (λxs H Q=>∃z,xs=[.str z]∧z.length≤sizeLine∧Q (.int z.length) H):=by
 intro pins s σ H xs us Q I r h
 obtain ⟨z,rfl,hz,q⟩:=h
 obtain ⟨u,rfl,t,rfl⟩:=jr r
 have hn:=Z2
 exact len_str ⋯ ⟨.int z.length,H,I.tok _,⟨_,rfl⟩,q⟩
theorem Zy:vh X (.type "list") (λxs H Q=>∃p ys,xs=[.ref p]∧(SqL X.K H p ys∨SqT X.K H p ys)∧∀l,H l=none→Q (.ref l) (upd H l (.lst ys))):=by
 intro pins s σ H xs us Q I r h
 obtain ⟨p,ys,rfl,hq,q⟩:=h
 obtain ⟨u,rfl,rx⟩:=jr r
 cases rx
 have fin:∀(its:List Ag),Vals ys its→ys.length≤sizeLine→∀(h':Heap) (c':Nat),(∀b o',s.heap.get? b=some o'→h'.get? b=some o') →
   h'.get? s.heap.objs.size=some { cls:=.type "list",dict:=none,data:=.seq its.toArray c',slots:=#[] }→EP X pins σ Q (.ref s.heap.objs.size) { s with heap:=h' }:=λits r' hz h' c' kp e =>
  ⟨.ref s.heap.objs.size,_,I.laid (t':=s.toks) kp (ai _) (show ObjOk X.prog X.w _ h' _ (.lst ys) from ⟨hz,its,c',r',e⟩),rfl,q _ (I.hok.fresh (ai _))⟩
 rcases hq with hq|hq
 ·obtain ⟨its,r',pl,hz⟩:=I.list hq
  have hlen:=r'.length
  obtain ⟨o,ho,hc,n,hd⟩:=pl.isList
  exact call_list_seq p (.inl rfl) ho hc hd (λh' c' kp e=>fin its r' hz h' c' kp e) (by simp only [aH] <;> lia)
 ·obtain ⟨its,r',pl,hz⟩:=I.tuple hq
  have hlen:=r'.length
  obtain ⟨o,ho,hc,n,hd⟩:=pl
  exact call_list_seq p (.inr rfl) ho hc hd (λh' c' kp e=>fin its r' hz h' c' kp e) (by simp only [aH] <;> lia)
def tyV (K:Aa)(T:String)(x:V)(H:Hp):Prop:=match x with
 |.str _=>T = "str"
 |.int _=>T = "int"
 |.ref p=>(T = "list" ∧ ∃xs,SqL K H p xs)∨(T = "tuple" ∧ ∃o,K.lookup p=some o∧o.cls=.type "tuple" ∧ o.dict=none) ∨
   (T = "dict" ∧ ((∃kvs,H p=some (.dK kvs))∨∃kvs,H p=some (.dT kvs)))∨(T = "set" ∧ ∃S n,H p=some (.set S n))
 |_=>False
theorem wju {pins:List (Aj×Obj)}{σ:St}{H:Hp}{s:Ab}{T:String}{x:V}{v:Ag}(I:Inv X pins σ H s)(r:RelV x v)(ty:tyV X.K T x H) :
  s.TypeIs v T∧∀a,v=.ref a→∃ob,s.heap.get? a=some ob∧ob.dict=none:=by
 cases x with
 |str z =>
  obtain ⟨t,rfl⟩:=r
  cases (show T = "str" from ty)
  exact ⟨eJ s z t,λ_ e=>nomatch e⟩
 |int i =>
  obtain ⟨t,rfl⟩:=r
  cases (show T = "int" from ty)
  exact ⟨typeIs_int s i t,λ_ e=>nomatch e⟩
 |ref p =>
  cases r
  rcases ty with ⟨rfl,xs,hq⟩|⟨rfl,o,hk,hc,hd⟩|⟨rfl,hk⟩|⟨rfl,S,n,hk⟩
  ·obtain ⟨its,_,pl,_⟩:=I.list hq
   refine ⟨pl.isList.typeIs,λa e=>?_⟩
   cases e
   obtain ⟨o,n,e,c,hd,_⟩:=pl
   exact ⟨o,e,hd⟩
  ·refine ⟨⟨o,I.kIn p o hk,hc⟩,λa e=>?_⟩
   cases e
   exact ⟨o,I.kIn _ o hk,hd⟩
  ·have z:∃o,s.heap.get? p=some o∧o.ExactDict:=by
    rcases hk with ⟨kvs,hk⟩|⟨kvs,hk⟩
    ·obtain ⟨_,_,_,_,o,_,_,e,ex,_⟩:=I.hok p _ hk
     exact ⟨o,e,ex⟩
    ·obtain ⟨_,_,_,_,o,_,_,e,ex,_⟩:=I.hok p _ hk
     exact ⟨o,e,ex⟩
   obtain ⟨o,e,ex⟩:=z
   refine ⟨⟨o,e,ex.1⟩,λa e2=>?_⟩
   cases e2
   exact ⟨o,e,ex.2.1⟩
  ·obtain ⟨o,_,_,_,e,ex,_⟩:=I.hok p _ hk
   refine ⟨⟨o,e,ex.1⟩,λa e2=>?_⟩
   cases e2
   exact ⟨o,e,ex.2.1⟩
 |_=>exact False.elim ty
def tBM0 (K:Aa)(T:String)(r:V→List V→Hp→VK→Prop)(to:TE):TE:=λσ H Q=>to σ H λx H1=>tyV K T x H1∧r x [] H1 Q
def tBM (K:Aa)(T:String)(r:V→List V→Hp→VK→Prop)(to:TE)(t:TA):TE:=λσ H Q=>to σ H λx H1=>tyV K T x H1∧t σ H1 λxs H2=>r x xs H2 Q
variable {o e:Expr}{es:List Expr}{to:TE}{t:TA}{name:Str}{apos cpos:Pos}{T id:String}{r:V→List V→Hp→VK→Prop}
theorem pe_bm0 (pa:PlainAttrs T)(slot:Slot T name id)(hty:typeOf (.builtin id)=pure (.type "method_descriptor"))(hm:MtR X id r)(ho:PE X o to)
  (hbase:autoParam (attributeBase o name X.env (eval o X.env)=eval o X.env) aU4._auto_1) (hline:autoParam ((apos.endLine==cpos.line)=true) aU4._auto_1):PE X (.Call (.Attribute o name apos) [] [] cpos) (tBM0 X.K T r to):=by
 intro pins s σ H Q I h
 refine wpAny_Call_method0_late hbase hline (thn (ho pins s σ H _ I h) λv s1 ⟨x,H1,I1,r1,ty,q1⟩=>?_)
 obtain ⟨h1,h2⟩:=wju I1 r1 ty
 exact ⟨T,id,pa,slot,hty,h1,h2,ck rfl (PySem.evalArgs_none (hm pins s1 σ H1 x [] v [] Q I1 r1 .nil q1))⟩
theorem u7 (pa:PlainAttrs T)(slot:Slot T name id)(hty:typeOf (.builtin id)=pure (.type "method_descriptor"))(hm:MtR X id r)(ho:PE X o to)(ha:PA X (e::es) t)
  (hbase:autoParam (attributeBase o name X.env (eval o X.env)=eval o X.env) aU4._auto_1)
  (hfew:autoParam (((backTo cpos (starEach (e::es) X.env)).all (λx=>!x.1)&&(backToKw cpos (keywordEach [] X.env)).all (λx=>x.1.isSome)
   && decide ((e::es).length+([]:List Keyword).length+(if ([]:List Keyword).isEmpty then 0 else 1)<30))=true) aU4._auto_1)
  (hline:autoParam ((apos.endLine==cpos.line)=true) aU4._auto_1) (hs:autoParam (starEach (e::es) X.env=(false,eval e X.env)::starEach es X.env) aU4._auto_1) (hplain:autoParam ((backTo cpos (starEach es X.env)).any (·.1)=false) aU4._auto_1) :
  PE X (.Call (.Attribute o name apos) (e::es) [] cpos) (tBM X.K T r to t):=by
 intro pins s σ H Q I h
 refine wpAny_Call_method_late hbase hfew hline rfl (thn (ho pins s σ H _ I h) λv s1 ⟨x,H1,I1,r1,ty,q1⟩=>?_)
 obtain ⟨h1,h2⟩:=wju I1 r1 ty
 refine ⟨T,id,pa,slot,hty,h1,h2,?_⟩
 have hA:=ha cpos pins s1 σ H1 _ I1 q1
 rw [hs] at hA ⊢
 refine ck (by show (false||(backTo cpos (starEach es X.env)).any (·.1))=false;rw [hplain] <;> rfl) (cX ?_)
 exact thn hA λus s2 ⟨vs,H2,I2,r2,q2⟩=>hm pins s2 σ H2 x vs v us Q I2 r1 r2 q2
end
def MtM (X:Cx)(id:String)(r:V→List V→Hp→VK→Prop):Prop :=
 ∀(pins:List (Aj×Obj)) (s:Ab) (σ:St) (H:Hp) (x:V) (xs:List V) (v:Ag) (us:List Ag) (Q:VK),Inv X pins σ H s→RelV x v→Vals xs us→r x xs H Q →
  wpAny (model X.prog X.w) X.A (call (.builtin id) (v::us)) (EP X pins σ Q) X.xe s
theorem Vals.one:∀ {x:V} {us:List Ag},Vals [x] us→∃u,us=[u]∧RelV x u
 |_,_,.cons r .nil=>⟨_,rfl,r⟩
theorem Vals.zero:∀ {us:List Ag},Vals [] us→us=[]
 |_,.nil=>rfl
theorem Vals.dropLast {xs:List V}{us:List Ag}(h:Vals xs us):Vals xs.dropLast us.dropLast:=by
 induction h with
 |nil=>exact .nil
 |cons r t ih =>
  cases t with
  |nil=>exact .nil
  |cons q t'=>exact .cons r ih
theorem quh {α:Type}(l:List α):l.eraseIdx (l.length-1)=l.dropLast:=by
 induction l with
 |nil=>rfl
 |cons a r ih =>
  cases r with
  |nil=>rfl
  |cons b r =>
   have e:(a::b::r).length-1=((b::r).length-1)+1:=by
    have h1:(a::b::r).length=r.length+2:=rfl
    have h2:(b::r).length=r.length+1:=rfl
    lia
   rw [e,List.eraseIdx_cons_succ,ih]
   all_goals rfl
section
variable {X:Cx}{pins:List (Aj×Obj)}{σ:St}{H:Hp}{s:Ab}{l b:Aj}{xs ys zs:List V}
theorem Inv.lset {its its':List Ag}{n:Nat}{f:Array Ag→Array Ag}{t':Nat}(I:Inv X pins σ H s)(hH:H l=some (.lst xs))
  (e:s.heap.get? l=some { cls:=.type "list",data:=.seq its.toArray n }) (hf:f its.toArray=its'.toArray) (hv:Vals ys its') (hz:ys.length≤sizeLine) :
  Inv X pins σ (upd H l (.lst ys)) { s with heap:=s.heap.update l (Obj.mapSeq f),toks:=t' }:=by
 have q:=PySem.IsL.update e f
 rw [hf] at q
 refine I.write (x:=l) (e:=l) (by rw [hH];exact trivial) (.inl rfl) (λb' u hb hu=>(Heap.get?_update_other s.heap (Obj.mapSeq f) (aY hb)).trans hu) ⟨_,q⟩ ?_
 exact ⟨hz,its',_,hv,q⟩
theorem Inv.lnew {its:List Ag}{t':Nat}(I:Inv X pins σ H s)(hv:Vals ys its)(hz:ys.length≤sizeLine) :
  Inv X pins σ (upd H s.heap.objs.size (.lst ys)) { s with heap:=s.heap.push { cls:=.type "list",data:=.seq its.toArray },toks:=t' } :=
 I.laid (λ_ _ q=>ae _ q) (ai _) ⟨hz,its,0,hv,aw _ rfl⟩
theorem Inv.fresh (I:Inv X pins σ H s):H s.heap.objs.size=none:=I.hok.fresh (ai _)
theorem Inv.lstM (I:Inv X pins σ H s)(hH:H l=some (.lst xs)):xs.length≤sizeLine∧∃(its:List Ag) (n:Nat),Vals xs its∧xs.length=its.length∧s.heap.get? l=some { cls:=.type "list",data:=.seq its.toArray n }:=by
 obtain ⟨z,its,n,r,e⟩:=I.hok l _ hH
 exact ⟨z,its,n,r,r.length,e⟩
end
section
variable {X:Cx}
def wuv:V→List V→Hp→VK→Prop:=λx vs H Q=>∃l xs y,x=.ref l∧vs=[y]∧H l=some (.lst xs)∧xs.length<sizeLine∧Q .non (upd H l (.lst (xs++[y])))
theorem j0:MtM X "list.append" wuv:=by
 intro pins s σ H x vs v us Q I rx rv h
 obtain ⟨l,xs,y,rfl,rfl,hH,hz,q⟩:=h
 cases rx
 obtain ⟨u,rfl,ru⟩:=rv.one
 obtain ⟨z,its,n,r,hl,e⟩:=I.lstM hH
 refine fI F.slot_list_append ⟨_,e,rfl⟩ F.entry_list_append (F.args_list_append_2 _ _) (PySem.list_append l its.toArray n u (by rw [aH];lia)) ⟨e,?_⟩
 refine ⟨.non,_,I.lset (its':=its++[u]) hH e (by simp) (r.append (.cons ru .nil)) ?_,rfl,q⟩
 rw [aL,List.length_singleton]
 lia
def rPop:V→List V→Hp→VK→Prop:=λx vs H Q=>∃l xs y,x=.ref l∧vs=[]∧H l=some (.lst xs)∧xs[xs.length-1]?=some y∧Q y (upd H l (.lst xs.dropLast))
theorem mt_pop:MtM X "list.pop" rPop:=by
 intro pins s σ H x vs v us Q I rx rv h
 obtain ⟨l,xs,y,rfl,rfl,hH,hy,q⟩:=h
 cases rx
 have hus:=rv.zero
 subst hus
 obtain ⟨z,its,n,r,hl,e⟩:=I.lstM hH
 obtain ⟨u,hu,ru⟩:=r.get hy
 have hy':its.toArray[its.toArray.size-1]?=some u:=by
  show its.toArray[its.length-1]?=some u
  rw [←bS,←hl]
  exact hu
 refine fI F.slot_list_pop ⟨_,e,rfl⟩ F.entry_list_pop (F.args_list_pop_1 _) (MeetsSeq.list_pop_last l its.toArray n u hy' (by rw [aH];lia)) ⟨e,?_⟩
 refine ⟨y,_,I.lset (its':=its.dropLast) hH e ?_ r.dropLast ?_,ru,q⟩
 ·show its.toArray.eraseIdxIfInBounds (its.toArray.size-1)=its.dropLast.toArray
  rw [aH,List.eraseIdxIfInBounds_toArray,quh]
 ·rw [List.length_dropLast]
  lia
def rCat:R2:=λx y H Q=>∃l b xs zs,x=.ref l∧y=.ref b∧H l=some (.lst xs)∧H b=some (.lst zs)∧xs.length+zs.length≤sizeLine∧∀p,H p=none→Q (.ref p) (upd H p (.lst (xs++zs)))
theorem wyk:OpR X (binaryOp .Add) rCat:=by
 intro pins s σ H x y v u Q I rx ry h
 obtain ⟨l,b,xs,zs,rfl,rfl,hH,hB,hz,q⟩:=h
 cases rx
 cases ry
 obtain ⟨z,its,n,r,hl,e⟩:=I.lstM hH
 obtain ⟨z2,its2,n2,r2,hl2,e2⟩:=I.lstM hB
 refine PySem.P.add_list e e2 ?_ (by rw [aH,aH];lia)
 have ea:its.toArray++its2.toArray=(its++its2).toArray:=by simp
 rw [ea]
 exact ⟨.ref _,_,I.lnew (t':=s.toks) (r.append r2) (by rw [aL];lia),rfl,q _ I.fresh⟩
end
section
variable {prog:Ac}{w:Ah}{A:Ae}{E:Ag→Ab→Prop}{s:Ab}
end
section
variable {X:Cx}
end
end L2
namespace Att
open PySem PySem.W PySem.Calls PyProof.Rows
theorem Ys {P:Params}{h:Heap}:∀(ns:List Int) (vs:List Ag),WellAll P h vs (ns.map WData.int)→IntsAre vs ns:=by
 intro ns
 induction ns with
 |nil =>
  intro vs w
  rw [bO] at w
  cases w
  exact .nil
 |cons n ns ih =>
  intro vs w
  rw [aA] at w
  cases w with
  |cons a b =>
   cases a
   exact .cons _ _ (ih _ b)
theorem wx2 {l:OpenLaw}{n:Nat}(hn:l.most=some n){P:Params}{h:Heap}{args:List WData}{vals:List Ag}
  (hpre:l.row.toRowW.claim.pre args=true) (hwl:WellAll P h vals args) :
  ∃a vs ns,vals=[Value.ref a]∧args=[WData.list (ns.map WData.int)]∧h.get? a=some { cls:=.type "list",data:=.seq vs.toArray }∧IntsAre vs ns∧ns.length≤n:=by
 have hsh:WShape.hasAll [] args [.list .int]=true:=(pre_splitW hpre).1
 have hc:l.pre.holds [] { args:=args }=true:=(pre_splitW hpre).2
 obtain ⟨d,r,rfl,h1,h2⟩:=hasAllW_cons hsh
 obtain rfl:=hasAllW_nil h2
 obtain ⟨xs,rfl,h3⟩:=hasW_list h1
 obtain ⟨ns,rfl⟩:=items_int h3
 have hlen:ns.length≤n:=by
  unfold OpenLaw.pre at hc
  have h4:(WTm.not (.lt (.lit (.int (n:Int))) (.len (.arg 0)))).holds [] { args:=[.list (ns.map .int)] }=true:=by
   have h4:=(holds_andW hc).1
   rw [hn] at h4
   exact h4
  have h5:=condW_of h4 (w_not (w_lt w_lit (w_len_list (w_arg rfl))))
  rw [aa] at h5
  refine Nat.le_of_not_lt λq=>?_
  have q':(n:Int)<((ns.length:Nat):Int):=by lia
  first
   |(rw [aX q'] at h5;exact absurd h5 ⋯)
   |(simp at h5;lia)
 cases hwl with
 |cons w1 w2 =>
  cases w2
  cases w1 with
  |list ho hall=>exact ⟨_,_,ns,rfl,rfl,ho,Ys ns _ hall,hlen⟩
theorem wx9 (l:OpenLaw)(args:List WData):l.row.toRowW.claim.post args (.bool true) args=true :=
 postW_of (r:=l.row.toRowW) (X:=(true==true))
  (show WShape.has [] (.bool true) .bool=true by first | rfl | decide | simp [WShape.has,WShape.arms,WShape.armsAll])
  (show (WTm.eq .res (.lit (.bool true))).value [] { args:=args,res:=some (.bool true),after:=args }=some (.bool (true==true)) from w_eq_bool (w_res rfl) w_lit) rfl
theorem attach_call {l:OpenLaw}{n:Nat}{q:Ac}{loose:List Str}{XP:(Str→Option Ag)→Heap→Prop}{YP:Ah→Heap→Prop}{d:DefRec}
  (hn:l.most=some n) (hdf:d.params.defaults=[])
  (call:∀(w:Ah) (s₀ s₁:Ab) (mg mb:Str→Option Ag) (fa:Aj) (o:Obj) (pm cd doc:Ag) (a:Aj) (vs:List Ag) (ns:List Int),
   Ground q loose [] XP w s₀ mg mb s₁.heap→YP w s₁.heap →
   s₁.heap.get? fa=some o→o.data=.func (docDef d.name d.params d.body d.scope pm cd doc)→s₁.heap.CodeRec cd d.name→mg d.name=some (.ref fa) →
   s₁.heap.get? a=some { cls:=.type "list",data:=.seq vs.toArray }→IntsAre vs ns→ns.length≤n→s₁.gens=#[] →
   codeAny (model l.prog w) callerA (.call (.ref fa) ⟨[.ref a],[]⟩) (λr s'=>r=.ok (.ret (.bool true))∧OldK s₁.heap s'.heap∧s'.os=s₁.os∧AllBare s'.gens) s₁) :
  WalkO q loose XP YP l.row.toRowW d [] (λf vs=>PySem.call f vs):=by
 intro w s₀ s₁ mg mb G Y fa o pm cd doc dV kV ho hd hcd hD hmg hg args vals as hpre hlay hrd hwl hlo
 obtain rfl:dV=.none:=Dflts.none hD hdf
 obtain rfl:kV=.none:=Dflts.noKw hD
 obtain ⟨a,vs,ns,rfl,rfl,hobj,hints,hlen⟩:=wx2 hn hpre hwl
 refine enter_call (eA (call w s₀ s₁ mg mb fa o pm cd doc a vs ns G Y ho (fd_plain hd) hcd hmg hobj hints hlen hg) λr s' hq=>?_)
 obtain ⟨rfl,h2,h3,h4⟩:=hq
 exact ⟨.inl ⟨.bool true,.bool true,[],rfl,λ_=>rfl,.bool true,wx9 l _,λ_=>⟨List.Pairwise.nil,λ_ hm=>(nomatch hm)⟩⟩,h2,h3,h4⟩
section
variable {prog:Ac}{w:Ah}{A:Ae}{E:Ag→Ab→Prop}{s:Ab}{K:Frag}
end
end Att
namespace L2
open PySem PySem.Spec PyProof.Rows
theorem qz9:∀ {vs:List Ag} {ns:List Int},IntsAre vs ns→Vals (ns.map V.int) vs
 |_,_,.nil=>.nil
 |_,_,.cons n t h=>.cons ⟨t,rfl⟩ (qz9 h)
def Only (H:Hp):Prop:=∀b,H b=none∨∃o xs,H b=some (.frz o (.lst xs))
theorem wkb {P:Ac}{w:Ah}{K:Aa}{mg mb:Str→Option Ag}{CX:CXT}{k:Nat}{fa a:Aj}{fd:Ad}{x:Str}{sp:Sp}{s₁:Ab}{vs:List Ag}{ns:List Int}
  (KX:K.In s₁.heap) (hns:s₁.heap.Ns mainGlobals mg) (hb:s₁.heap.Ns builtinsNs mb) (hbb:∀x:Str,x ≠ "__name__" → mb x=bootBuiltins x) (hlim:s₁.heap.NoLimit) (hg:s₁.gens=#[])
  (ha:s₁.heap.get? a=some { cls:=.type "list",data:=.seq vs.toArray }) (hi:IntsAre vs ns) (hl:ns.length≤sizeLine) (hr:Room k callerA)
  (F:∀base:Heap,K.In base→base.Ns mainGlobals mg→FnOk P w K mg base CX k fa fd [x] sp) (hbind:∀(s:Ab) (u:Ag),BindsTo s fd ⟨[u],[]⟩ [(x,u)])
  (hsp:∀H:Hp,Only H→SqL K H a (ns.map V.int)→sp [.ref a] H (λv _=>v=.bl true) λ_ _ _=>False)
  (hCX:∀H e s',CX [] H s₁ (λ_ _ _=>False) e s'→False) :
  codeAny (model P w) callerA (.call (.ref fa) ⟨[.ref a],[]⟩) (λr s'=>r=.ok (.ret (.bool true))∧OldK s₁.heap s'.heap∧s'.os=s₁.os∧AllBare s'.gens) s₁:=by
 have rv:=qz9 hi
 have lenV:=hi.length
 have core:∀H:Hp,Only H→SqL K H a (ns.map V.int)→HOk P w H s₁.heap→(∀b,H b≠none→b=a)→(H a≠none→K.lookup a=none) →
   codeAny (model P w) callerA (.call (.ref fa) ⟨[.ref a],[]⟩) (λr s'=>r=.ok (.ret (.bool true))∧OldK s₁.heap s'.heap∧s'.os=s₁.os∧AllBare s'.gens) s₁:=by
  intro H hO hS hok hA hK
  have base_of:∀ {b:Aj} {o:Obj},s₁.heap.get? b=some o→H b=none→(qv6 s₁.heap H).get? b=some o:=λe n=>wvh e n
  have noA:∀ {b:Aj} {o:Obj} {es:Array DictEntry} {ep:Nat},s₁.heap.get? b=some o→o.data=.dict es ep→H b=none:=λ{b o es ep} e d=>by
   cases q:H b with
   |none=>rfl
   |some u =>
    have e':b=a:=hA b (by rw [q];simp)
    subst e'
    rw [ha] at e;cases e
    have d':Data.seq vs.toArray _=Data.dict es ep:=d
    cases d'
  have nsK:∀ {b:Aj} {m:Str→Option Ag},s₁.heap.Ns b m→(qv6 s₁.heap H).Ns b m:=λ{b m} ⟨o,es,ep,e,d,r⟩=>⟨o,es,ep,base_of e (noA e d),d,r⟩
  have hKb:K.In (qv6 s₁.heap H):=λb o e=>base_of (KX b o e) (by
   cases q:H b with
   |none=>rfl
   |some u =>
    have e':b=a:=hA b (by rw [q];simp)
    subst e'
    rw [hK (by rw [q];simp)] at e;cases e)
  have hM:Mod K mg (qv6 s₁.heap H):=⟨hKb,nsK hns,⟨mb,nsK hb,hbb⟩,let ⟨mc,h1,h2⟩:=hlim;⟨mc,nsK h1,h2⟩⟩
  have e0:Env0 P w K mg (qv6 s₁.heap H) callerA [] s₁ H:=⟨rfl,hM,λb o e=>wuj e,Nat.le_of_eq (wx8 _ _),trivial,λb hb=>absurd (show b∈([]:List Aj) from hb) (by simp),hok,.of_eq hg⟩
  refine eA ((F _ hKb (nsK hns)).run callerA [] s₁ H ⟨[.ref a],[]⟩ [.ref a] [.ref a] _ _ hr e0 (hbind s₁ (.ref a)) (.cons rfl .nil) (hsp H hO hS)) λr s' h=>?_
  cases r with
  |error e=>exact (hCX H e s' h).elim
  |ok fl =>
   cases fl with
   |next=>exact False.elim h
   |brk=>exact False.elim h
   |cont=>exact False.elim h
   |ret u =>
    obtain ⟨v,H',os,bare,un,hok',r',q⟩:=h
    have q':v=.bl true:=q
    subst q'
    obtain rfl:u=Value.bool true:=r'
    refine ⟨rfl,OldK.of_keep λb o e=>?_,os,bare⟩
    cases q:H b with
    |none=>exact un.keep b o e q (by intro z;exact absurd (show b∈([]:List Aj) from z) (by simp)) (by simp)
    |some u =>
     rcases hO b with z|⟨ob,xs,z⟩
     ·rw [q] at z;cases z
     ·have z2:=un.frzs b ob _ z
      obtain ⟨e1,_⟩:=hok b _ z
      obtain ⟨e2,_⟩:=hok' b _ z2
      rw [e] at e1;cases e1
      exact e2
 cases hk:K.lookup a with
 |some o =>
  have e:=KX a o hk
  rw [ha] at e
  cases e
  refine core (λ_=>none) (λ_=>.inl rfl) (.inr ⟨_,vs.toArray,_,hk,rfl,rfl,rfl,by rw [aH,lenV];exact hl,by simpa using rv⟩) (λb u z=>by have z':(none:Option HO)=some u:=z;cases z') (λb z=>absurd rfl z) λz=>absurd rfl z
 |none =>
  refine core (λb=>if b=a then some (.frz { cls:=.type "list",data:=.seq vs.toArray } (.lst (ns.map V.int))) else none) (λb=>?_) (.inl (.inr ⟨{ cls:=.type "list",data:=.seq vs.toArray },ak rfl⟩)) (λb u z=>?_) (λb z=>?_) λ_=>hk
  ·by_cases hb:b=a
   ·exact .inr ⟨_,_,ak hb⟩
   ·exact .inl (af hb)
  ·by_cases hb:b=a
   ·have z':=(ak hb).symm.trans z
    cases z'
    subst hb
    exact ⟨ha,by rw [aa];exact hl,vs,_,rv,ha⟩
   ·have z':=(af hb).symm.trans z
    cases z'
  ·by_cases hb:b=a
   ·exact hb
   ·exact absurd (af hb) z
theorem wy3 {l:W.OpenLaw}{n k:Nat}{q:Ac}{loose:List Str}{XP:(Str→Option Ag)→Heap→Prop}{YP:Ah→Heap→Prop}{d:DefRec}{K:Params→Aa}{CX:Ah→CXT}{sp:Ah→Sp}{x:Str}
  (hn:l.most=some n) (hn2:n≤sizeLine) (hdf:d.params.defaults=[]) (hr:Room k callerA)
  (hY:∀(w:Ah) (h:Heap),YP w h→(K w.params).In h)
  (F:∀(w:Ah) (mg:Str→Option Ag) (fa:Aj) (h:Heap),(K w.params).In h→h.Ns mainGlobals mg→mg d.name=some (.ref fa) →
   ∃fd:Ad,(∀(s:Ab) (u:Ag),BindsTo s fd ⟨[u],[]⟩ [(x,u)]) ∧
    ∀base:Heap,(K w.params).In base→base.Ns mainGlobals mg→FnOk l.prog w (K w.params) mg base (CX w) k fa fd [x] (sp w))
  (hsp:∀(w:Ah) (H:Hp) (a:Aj) (ns:List Int),ns.length≤n→Only H→SqL (K w.params) H a (ns.map V.int)→sp w [.ref a] H (λv _=>v=.bl true) λ_ _ _=>False)
  (hCX:∀(w:Ah) (H:Hp) (s:Ab) (e:Ag) (s':Ab),CX w [] H s (λ_ _ _=>False) e s'→False) :
  W.WalkO q loose XP YP l.row.toRowW d [] (λf vs=>PySem.call f vs):=by
 refine Att.attach_call hn hdf λw s₀ s₁ mg mb fa o pm cd doc a vs ns G Y ho hd hcd hmg hobj hints hlen hg=>?_
 have KX:=hY w _ Y
 obtain ⟨fd,hb,hF⟩:=F w mg fa _ KX G.T.g hmg
 exact wkb KX G.T.g G.T.b G.T.builtins G.T.nolimit hg hobj hints (bw hlen hn2) hr hF hb (λH hO hS=>hsp w H a ns hlen hO hS) λH e s'=>hCX w H s₁ e s'
def zc (s:Stmt)(j:Nat):Stmt:=match s with
 |.ClassDef _ _ _ body _ _ _ _ _ _ _=>body.getD j (.Pass ⟨0,0,0,0⟩)
 |_=>.Pass ⟨0,0,0,0⟩
def jb (s:Stmt):Arguments:=match s with
 |.FunctionDef _ a _ _ _ _ _ _ _ _=>a
 |_=>{ posonlyargs:=[],args:=[],vararg:=none,kwonlyargs:=[],kw_defaults:=[],kwarg:=none,defaults:=[] }
def kh (s:Stmt):List Stmt:=match s with
 |.FunctionDef _ _ b _ _ _ _ _ _ _=>b
 |_=>[]
def wu (s:Stmt):Scope:=match s with
 |.FunctionDef _ _ _ _ _ _ sc _ _ _=>sc
 |_=>{ kind:=.function,names:=[],isGenerator:=false,isCoroutine:=false }
abbrev E0:XK:=λ_ _ _=>False
structure Fun (K:Aa)(x qual:Str)(st:Stmt)(f:Aj)(fd:Ad):Prop where
 ex:∃(oc:Ag) (od:Option Aj) (kV doc pm:Ag) (an:Option Aj) (cdv ct:Ag) (osl:Array (Option Ag)),
  fd=W.fnOf x qual (jb st) (kh st) (wu st) .none kV doc pm an cdv ct∧K.lookup f=some ⟨oc,od,.func fd,osl⟩∧W.codeIn K cdv qual=true
 kp:W.keepIn K (.ref f)=true
section
variable {P:Ac}{w:Ah}{K:Aa}{mg:Str→Option Ag}{base:Heap}
theorem Fun.binds {x qual:Str}{st:Stmt}{f:Aj}{fd:Ad}{ps:List Str}(F:Fun K x qual st f fd)
  (h:∀(kV doc pm:Ag) (an:Option Aj) (cdv ct:Ag) (us:List Ag),us.length=ps.length→bindArgs (W.fnOf x qual (jb st) (kh st) (wu st) .none kV doc pm an cdv ct) ⟨us,[]⟩=pure (ps.zip us)):Binds K fd ps []:=by
 obtain ⟨oc,od,kV,doc,pm,an,cdv,ct,osl,rfl,lk,hcd⟩:=F.ex
 exact .all (h kV doc pm an cdv ct)
theorem wv7 {x qual:Str}{st:Stmt}{f:Aj}{oc:Ag}{od an:Option Aj}{osl:Array (Option Ag)}{kV doc pm cdv ct:Ag}(l:K.lookup f=some ⟨oc,od,.func (W.fnOf x qual (jb st) (kh st) (wu st) .none kV doc pm an cdv ct),osl⟩)
  (c:W.codeIn K cdv qual=true) (k:W.keepIn K (.ref f)=true):Fun K x qual st f (W.fnOf x qual (jb st) (kh st) (wu st) .none kV doc pm an cdv ct):=⟨⟨oc,od,kV,doc,pm,an,cdv,ct,osl,rfl,l,c⟩,k⟩
end
theorem vq {A:Ae}{k:Nat}(hr:Room k A):A.units+1<cLine:=dA (Nat.add_le_add_left (by decide:1≤64) _) hr.units
theorem wxf {n:Nat}(h:n≤1000):n<sizeLine:=dA h ⋯
section
variable {X:Cx}
theorem pv (i:Nat){x:Str}{pos:Pos}(hN:autoParam (X.N[i]?=some x) aU4._auto_1)(hv:Vis X.env.scope x:=by walk_at "vs")(hd:autoParam ((x==("__debug__" : Str))=false) aU1._auto_1)
  (hcd:autoParam ((x==("__classdict__" : Str))=false) aU1._auto_1):PE X (.Name x pos) (W0 i):=pe_var hN hv hd hcd
end
theorem yb {A B:Prop}(h:B):if false=true then A else B:=by
 rw [af aD]
 exact h
theorem ut {A B:Prop}(h:A):if true=true then A else B:=by
 rw [ak rfl]
 exact h
theorem wys {c A B:Prop}[Decidable c](hc:c)(h:B):if (!decide c)=true then A else B:=by
 rw [aX hc]
 exact yb h
def Same (H H':Hp):Prop:=∀b o,H b=some o→H' b=some o
theorem Same.refl (H:Hp):Same H H:=λ_ _ h=>h
theorem Same.trans {H H1 H2:Hp}(a:Same H H1)(b:Same H1 H2):Same H H2:=λc o h=>b c o (a c o h)
theorem Same.free {H H':Hp}(e:Same H H'){l:Aj}(h:H' l=Option.none):H l=Option.none:=by
 cases q:H l with
 |none=>rfl
 |some o =>
  rw [e l o q] at h
  cases h
theorem Same.seq {K:Aa}{H H':Hp}{a:Aj}{xs:List V}(e:Same H H')(h:SqL K H a xs):SqL K H' a xs:=by
 rcases h with (h|⟨o,h⟩)|h
 ·exact .inl (.inl (e _ _ h))
 ·exact .inl (.inr ⟨o,e _ _ h⟩)
 ·exact .inr h
theorem nin {b:Aj}:b∉([]:List Aj):=λz=>nomatch z
theorem wwn {K:Aa}{h:Heap}{C:Aj}{bmB:List Ag}{newId:String}(X:K.In h)(q:W.excIn K C bmB newId=true) :
  ∃tl N a1 a2 a3 a4 a5 a6 a7 a8 a9 b0 b1 b2 b3 b5 mN,h.get? C=some (excClassObj a1 a2 C N a3 tl a4 a5 a6 a7 a8 a9 b0 b1 b2 b3 b5 newId) ∧
   h.Ns N mN∧mN "__init__" = none∧OwnTail h bmB tl:=by
 unfold W.excIn at q
 split at q
 ·next dd cd sl ho =>
  split at q
  ·next C1 tl x0 x1 x2 x3 nn x5 hm hs =>
   rw [bc,bc,bc,bc,bc] at q
   obtain ⟨⟨⟨⟨⟨p1,p2⟩,p3⟩,p4⟩,p5⟩,p6⟩:=q
   have p1':=eq_of_beq p1
   have p2':=eq_of_beq p2
   have p6':=eq_of_beq p6
   have p3':cd.hasDel=false:=by simpa using p3
   subst p1' p2'
   obtain ⟨f1,f2,f3,f4,f5,f6,f7,f8,f9,f10,f11⟩:=cd
   have hm':f3=Value.ref C1::tl:=hm
   have p3'':f11=false:=p3'
   subst hm' p3''
   have hsl:sl=#[x0,x1,x2,x3,some (.builtin nn),x5]:=by
    cases sl with
    |mk l =>
     have:l=[x0,x1,x2,x3,some (.builtin nn),x5]:=hs
     rw [this]
   subst hsl
   have nsok:=W.isNs_of_in X p5
   exact ⟨tl,f4,f1,f5,f2,f6,f7,f8,f9,f10,dd,x0,x1,x2,x3,x5,_,X _ _ ho,.of_isNs nsok,W.nsMap_none_of_in X p5 p6',W.tail_of_in X p4⟩
  ·exact absurd q ⋯
 ·exact absurd q ⋯
def CXE (P:Ac)(w:Ah):CXT:=λouter H s E e s' =>
 ∃(a C:Aj) (a0:Ag) (B:Heap) (H':Hp),e=.ref a∧s'.os=s.os∧AllBare s'.gens∧Un (frs outer) [] H H' s.heap s'.heap∧HOk P w H' B ∧
  Heap.FlyingW B outer a (.ref C) a0 s'.heap∧(∀b o,s.heap.get? b=some o→b∉frs outer→∃o',B.get? b=some o'∧(H b=none→o'=o))∧E (.ref C) none H'
theorem CXE.no {P:Ac}{w:Ah}{outer:List Env}{H:Hp}{s s':Ab}{e:Ag}(h:CXE P w outer H s E0 e s'):False:=by
 obtain ⟨_,_,_,_,_,_,_,_,_,_,_,_,q⟩:=h
 exact q
def yq (X:Cx)(E:St→XK):Prop:=∀(pins:List (Aj×Obj)) (σ:St) (H:Hp) (s:Ab) (e:Ag) (s':Ab),Inv X pins σ H s→CXE X.prog X.w X.stack H s (E σ) e s'→X.xe e s'
theorem qkf {X:Cx}:yq X (λ_=>E0):=λ_ _ _ _ _ _ _ h=>h.no.elim
def wjf (X:Cx)(E:St→XK):Prop:=∀(pins:List (Aj×Obj)) (σ:St) (H:Hp) (s:Ab) (h':Heap) (e C:Aj) (vs:List Ag),Inv X pins σ H s→Heap.MadeExcOf s.heap h' e (.ref C) vs→E σ (.ref C) none H→X.xe (.ref e) { s with heap:=h' }
theorem qju {env:Env}{L:Aj}{outer:List Env}(h:env.frame=some L):frs (env::outer)=L::frs outer:=by
 unfold frs
 rw [dm,h]
section
variable {P:Ac}{w:Ah}{K:Aa}{mg:Str→Option Ag}{base:Heap}{N:List Str}{qual:Str}{scope:Scope}{f:Aj}{cdv:Ag}{A:Ae}{outer:List Env}{s0:Ab}{H0:Hp}{E:XK}
theorem qf:yq (qv2 (CXE P w) P w K mg base N qual scope f cdv A outer s0 H0 E) (λ_=>E):=by
 intro pins σ H s e s' I hx
 obtain ⟨a,C,a0,B,H',rfl,hos,hba,un,hokB,hfl,old,q⟩:=hx
 have ub:=I.base
 have hL:∀b o,s0.heap.get? b=some o→b≠s0.heap.objs.size:=λb o e z=>bv _ (z▸ao e)
 have hfs:frs (envOfC qual scope s0.heap.objs.size f cdv::outer)=s0.heap.objs.size::frs outer:=qju rfl
 have hmem:∀b o,s0.heap.get? b=some o→b∉frs outer→b∉frs (envOfC qual scope s0.heap.objs.size f cdv::outer):=λb o e n=>by
  rw [hfs]
  intro z
  rcases ag.mp z with z|z
  ·exact hL b o e z
  ·exact n z
 have hold:∀b o,s0.heap.get? b=some o→b∉frs outer→∃o',B.get? b=some o'∧(H0 b=none→o'=o):=λb o e n=>by
  obtain ⟨o1,e1⟩:=ub.there b o e nin
  obtain ⟨o2,e2,e3⟩:=old b o1 e1 (hmem b o e n)
  refine ⟨o2,e2,λz=>?_⟩
  have e4:=ub.keep b o e z n nin
  have e5:=ub.free b o e z nin
  rw [e1] at e4
  rw [e3 e5]
  exact az e4
 refine wpAny_leaves_onW I.ok.frames rfl hfl λh' hf' hup=>?_
 have toH:∀b,b∈frs outer→∀o,s0.heap.get? b=some o→H0 b=none→∃sl,h'.get? b=some { o with slots:=sl }:=λb hb o e n=>by
  obtain ⟨sl,e1⟩:=ub.slot b o e n hb nin
  obtain ⟨sl2,e2⟩:=un.slot b _ e1 (ub.free b o e n nin) (by show b∈frs (envOfC qual scope s0.heap.objs.size f cdv::outer);rw [hfs];exact .tail _ hb) nin
  obtain ⟨_,o3,e3,nf⟩:=hfl.2.2.1.mem (b:=b) (by show b∈frs (envOfC qual scope s0.heap.objs.size f cdv::outer);rw [hfs];exact .tail _ hb)
  obtain ⟨sl4,e4⟩:=hup b o3 e3 nf
  rw [e2] at e3
  have e5:=az e3
  exact ⟨sl4,by rw [e4,←e5]⟩
 refine ⟨a,C,a0,B,H',rfl,hos.trans I.os,hba,⟨λb o e n nb _=>?_,λb o e n hb _=>toH b hb o e n,λb o e n _=>?_,λb o e _=>?_,λb xs e=>un.tups b xs (ub.tups b xs e),λb o u e=>un.frzs b o u (ub.frzs b o u e),λb ps e=>?_⟩,hokB,hf',hold,q⟩
 ·obtain ⟨o',e1,e2⟩:=hold b o e nb
  rw [e2 n] at e1
  exact hf'.1 b o e1
 ·obtain ⟨o1,e1⟩:=ub.there b o e nin
  exact un.free b o1 e1 (ub.free b o e n nin) nin
 ·by_cases hb:b∈frs outer
  ·obtain ⟨o1,e1⟩:=ub.there b o e nin
   obtain ⟨o2,e2⟩:=un.there b o1 e1 nin
   obtain ⟨_,o3,e3,nf⟩:=hfl.2.2.1.mem (b:=b) (by show b∈frs (envOfC qual scope s0.heap.objs.size f cdv::outer);rw [hfs];exact .tail _ hb)
   obtain ⟨sl4,e4⟩:=hup b o3 e3 nf
   exact ⟨_,e4⟩
  ·obtain ⟨o',e1,_⟩:=hold b o e hb
   exact ⟨o',hf'.1 b o' e1⟩
 ·obtain ⟨m1,e1⟩:=ub.tbls b ps e
  obtain ⟨m2,e2⟩:=un.tbls b _ e1
  exact ⟨m1++m2,by rw [e2,Array.append_assoc]⟩
theorem x9:wjf (qv2 (CXE P w) P w K mg base N qual scope f cdv A outer s0 H0 E) (λ_=>E):=by
 intro pins σ H s h' e C vs I hx q
 have ub:=I.base
 have hfs:frs (envOfC qual scope s0.heap.objs.size f cdv::outer)=s0.heap.objs.size::frs outer:=qju rfl
 have hmem:∀b o,s0.heap.get? b=some o→b∉frs outer→b∉frs (envOfC qual scope s0.heap.objs.size f cdv::outer):=λb o e n=>by
  rw [hfs]
  intro z
  rcases ag.mp z with z|z
  ·exact bv _ (z▸ao e)
  ·exact n z
 have hfree:∀b∈frs (envOfC qual scope s0.heap.objs.size f cdv::outer),H b=none:=I.stkFree
 have hB:∀b o,s.heap.get? b=some o→b∉frs (envOfC qual scope s0.heap.objs.size f cdv::outer)→(W.hideAll s.heap (frs (envOfC qual scope s0.heap.objs.size f cdv::outer))).get? b=some o:=λb o e n=>W.hideAll_get _ e n
 have hokB:HOk P w H (W.hideAll s.heap (frs (envOfC qual scope s0.heap.objs.size f cdv::outer))):=λb u hb=>by
  refine (I.hok b u hb).stay (λc v hc ec=>hB c v ec λhm=>?_) (λ_ z=>z) (λ_ _ z=>z)
  have hn:=hfree c hm
  rcases hc with rfl|hc
  ·rw [hn] at hb;cases hb
  ·rw [hn] at hc;cases hc
 have hold:∀b o,s0.heap.get? b=some o→b∉frs outer→∃o',(W.hideAll s.heap (frs (envOfC qual scope s0.heap.objs.size f cdv::outer))).get? b=some o'∧(H0 b=none→o'=o):=λb o e n=>by
  obtain ⟨o1,e1⟩:=ub.there b o e nin
  refine ⟨o1,hB b o1 e1 (hmem b o e n),λz=>?_⟩
  have e4:=ub.keep b o e z n nin
  rw [e1] at e4
  exact az e4
 have hst:s.heap.FunFrames base (envOfC qual scope s0.heap.objs.size f cdv::outer):=I.stack
 have hff:=W.funFrames_hide (as:=frs (envOfC qual scope s0.heap.objs.size f cdv::outer)) hst (λenv he b hb=>eG.mpr ⟨env,he,hb⟩)
 refine wpAny_leaves_madeW (base:=W.hideAll s.heap (frs (envOfC qual scope s0.heap.objs.size f cdv::outer))) (h:=s.heap) I.ok.frames rfl (λb o e=>W.of_hideAll _ e) hff hx λh'' t hf' _ _ hup=>?_
 have toF:∀b,b∈frs outer→∃o,s.heap.get? b=some o∧∃sl,h''.get? b=some { o with slots:=sl }:=λb hb=>by
  obtain ⟨_,o3,e3,nf⟩:=hst.mem (b:=b) (by show b∈frs (envOfC qual scope s0.heap.objs.size f cdv::outer);rw [hfs];exact .tail _ hb)
  exact ⟨o3,e3,hup b o3 (hx.keeps b o3 e3) nf⟩
 refine ⟨e,C,.ref t,_,H,rfl,I.os,I.bare,⟨λb o e1 n nb _=>?_,λb o e1 n hb _=>?_,λb o e1 n _=>ub.free b o e1 n nin,λb o e1 _=>?_,ub.tups,ub.frzs,ub.tbls⟩,hokB,hf',hold,q⟩
 ·obtain ⟨o',e2,e3⟩:=hold b o e1 nb
  rw [e3 n] at e2
  exact hf'.1 b o e2
 ·obtain ⟨sl,e2⟩:=ub.slot b o e1 n hb nin
  obtain ⟨o3,e3,sl3,e4⟩:=toF b hb
  rw [e2] at e3
  have e5:=az e3
  exact ⟨sl3,by rw [e4,←e5]⟩
 ·by_cases hb:b∈frs outer
  ·obtain ⟨o3,e3,sl3,e4⟩:=toF b hb
   exact ⟨_,e4⟩
  ·obtain ⟨o',e2,_⟩:=hold b o e1 hb
   exact ⟨o',hf'.1 b o' e2⟩
end
section
variable {P:Ac}{w:Ah}{K:Aa}{mg:Str→Option Ag}{base:Heap}
end
def qwh (sp:Sp)(E:St→XK)(t:TA):TE:=λσ H Q=>t σ H λvs H1=>sp vs H1 Q (E σ)
def qq1 (C:Aj)(m:Str)(sp:Sp)(E:St→XK)(ta:TE)(t:TA):TE:=λσ H Q=>ta σ H λx H1=>∃a dx fs,x=.ref a∧H1 a=some (.ins C dx fs)∧fs.lookup m=none ∧
 t σ H1 λvs H2=>sp (x::vs) H2 Q (E σ)
def wqs (C:Aj)(sp:Sp)(E:St→XK)(t:TA):TE:=λσ H Q=>t σ H λvs H1=>∀x dx,H1 x=none→H1 dx=none→dx≠x →
 sp (.ref x::vs) (upd (upd H1 dx (.own x)) x (.ins C dx [])) (λv H2=>v=.non∧Q (.ref x) H2) (E σ)
section
variable {X:Cx}{k:Nat}{f C:Aj}{fd:Ad}{ps:List Str}{sp:Sp}{E:St→XK}{x m:Str}{p pos apos:Pos}{e o:Expr}{es:List Expr}{ta:TE}{t:TA}
theorem qk5 {pins:List (Aj×Obj)}{σ:St}{H:Hp}{s:Ab}{Q:VK}{us:List Ag}{vs:List V}(F:FnOk X.prog X.w X.K X.mg X.base (CXE X.prog X.w) k f fd ps sp)(hr:Room k X.A)(hb:Binds X.K fd ps [])(hx:yq X E)
  (I:Inv X pins σ H s) (r:Vals vs us) (h:sp vs H Q (E σ)):wpAny (model X.prog X.w) X.A (call (.ref f) us) (EP X pins σ Q) X.xe s:=by
 have hl:(us++[]).length=ps.length:=by rw [cN,←r.length];exact F.len _ _ _ _ h
 have hb':=hb s us I.kIn hl
 rw [cN] at hb'
 refine wpAny_call (eA (F.run X.A X.stack s H ⟨us,[]⟩ us vs Q (E σ) hr I.env0 hb' r h) λr s' hq=>?_)
 cases r with
 |error e=>exact hx pins σ H s e s' I hq
 |ok fl =>
  cases fl with
  |ret u=>exact I.after hq
  |next=>exact False.elim hq
  |brk=>exact False.elim hq
  |cont=>exact False.elim hq
theorem wkm (F:FnOk X.prog X.w X.K X.mg X.base (CXE X.prog X.w) k f fd ps sp)(hr:Room k X.A)(hg:Gl X x)(hm:X.mg x=some (.ref f))(hk:W.keepIn X.K (.ref f)=true)(hb:Binds X.K fd ps [])(hx:yq X E)
  (ha:PA X (e::es) t) (hdb:autoParam ((x==("__debug__" : Str))=false) aU1._auto_1) (he:autoParam (starEach (e::es) X.env=(false,eval e X.env)::starEach es X.env) aU4._auto_1) (hpl:autoParam ((backTo pos (starEach es X.env)).any (·.1)=false) aU4._auto_1) :
  PE X (.Call (.Name x p) (e::es) [] pos) (qwh sp E t):=by
 intro pins s σ H Q I h
 refine cJ (Qg I hg hm ?_ hdb)
 refine eK (h₀:=X.base) I.ok.mod.kin hk (thn (ha pos pins s σ H _ I h) λus s1 ⟨vs,H1,I1,r,q⟩=>⟨I1.kIn,?_⟩) he hpl
 exact qk5 F hr hb hx I1 r q
theorem wkg {pl:Sem Bool}(he:PE X o ta)(c:Cls X.K C)(hm:Meth X.K C m f)(F:FnOk X.prog X.w X.K X.mg X.base (CXE X.prog X.w) k f fd ps sp)(hr:Room k X.A)(hb:Binds X.K fd ps [])(hx:yq X E)(ha:PA X (e::es) t)
  (hst:autoParam (starEach (e::es) X.env=(false,eval e X.env)::starEach es X.env) aU4._auto_1) (hpl:autoParam ((backTo pos (starEach es X.env)).any (·.1)=false) aU4._auto_1)
  (ht:autoParam (eval (.Call (.Attribute o m apos) (e::es) [] pos) X.env=(do
   let ov ←eval o X.env
   standAt apos.atName
   let (f,first) ←holding [ov] (getMethod ov m pl)
   callWith pos f first (backTo pos (starEach (e::es) X.env)) (backToKw pos (keywordEach [] X.env)))) aU4._auto_1) :
  PE X (.Call (.Attribute o m apos) (e::es) [] pos) (qq1 C m sp E ta t):=by
 intro pins s σ H Q I h
 refine W.methodCall_KW (pl:=pl) (thn (he pins s σ H _ I h) λu s1 ⟨x,H1,I1,rx,a,dx,fs,ex,ea,l,q⟩=>?_) ht
 subst ex
 obtain rfl:u=Value.ref a:=rx
 refine qwx I1 ea c hm l ?_
 refine eK (first:=[.ref a]) (h₀:=X.base) I.ok.mod.kin hm.kp (thn (ha pos pins s1 σ H1 _ I1 q) λus s2 ⟨vs,H2,I2,r,q2⟩=>⟨I2.kIn,?_⟩) hst hpl
 exact qk5 (us:=.ref a::us) (vs:=.ref a::vs) F hr hb hx I2 (.cons rfl r) q2
theorem wzm {pl:Sem Bool}(he:PE X o ta)(c:Cls X.K C)(hm:Meth X.K C m f)(F:FnOk X.prog X.w X.K X.mg X.base (CXE X.prog X.w) k f fd ps sp)(hr:Room k X.A)(hb:Binds X.K fd ps [])(hx:yq X E)
  (ht:autoParam (eval (.Call (.Attribute o m apos) [] [] pos) X.env=(do
   let ov ←eval o X.env
   standAt apos.atName
   let (f,first) ←holding [ov] (getMethod ov m pl)
   callWith pos f first (backTo pos (starEach [] X.env)) (backToKw pos (keywordEach [] X.env)))) aU4._auto_1) :
  PE X (.Call (.Attribute o m apos) [] [] pos) (qq1 C m sp E ta Q5):=by
 intro pins s σ H Q I h
 refine W.methodCall_KW (pl:=pl) (thn (he pins s σ H _ I h) λu s1 ⟨x,H1,I1,rx,a,dx,fs,ex,ea,l,q⟩=>?_) ht
 subst ex
 obtain rfl:u=Value.ref a:=rx
 refine qwx I1 ea c hm l ?_
 exact W.callWith_K0 (first:=[.ref a]) I1.kIn hm.kp (qk5 (us:=[.ref a]) (vs:=[.ref a]) F hr hb hx I1 (.cons rfl .nil) q)
theorem qz8 {pins:List (Aj×Obj)}{σ:St}{H:Hp}{s:Ab}{Q:VK}{us:List Ag}{vs:List V}(M:Mk X.K C f)(F:FnOk X.prog X.w X.K X.mg X.base (CXE X.prog X.w) k f fd ps sp)(hr:Room (k+1) X.A)(hb:Binds X.K fd ps [])
  (hx:yq X E) (I:Inv X pins σ H s) (r:Vals vs us)
  (h:∀x dx,H x=none→H dx=none→dx≠x→sp (.ref x::vs) (upd (upd H dx (.own x)) x (.ins C dx [])) (λv H2=>v=.non∧Q (.ref x) H2) (E σ)) :
  wpAny (model X.prog X.w) X.A (call (.ref C) us) (EP X pins σ Q) X.xe s:=by
 have hq:=h (s.heap.objs.size+1) s.heap.objs.size (I.hok.fresh (Nat.le_succ _)) (I.hok.fresh (ai _)) (aC (Nat.lt_succ_self _))
 have I2:=Inv.made (C:=C) I
 have r2:Vals (V.ref (s.heap.objs.size+1)::vs) (Value.ref (s.heap.objs.size+1)::us):=.cons rfl r
 have hl:((Value.ref (s.heap.objs.size+1)::us)++[]).length=ps.length:=by
  rw [cN,←r2.length]
  exact F.len _ _ _ _ hq
 have hb':=hb _ (Value.ref (s.heap.objs.size+1)::us) I2.kIn hl
 rw [cN] at hb'
 refine wpAny_call (wk9 (f:=f) I.kIn M.makes M.init (dv.mp M.fn) (eA (F.run _ X.stack _ _ ⟨Value.ref (s.heap.objs.size+1)::us,[]⟩ (Value.ref (s.heap.objs.size+1)::us) _ _ (E σ) (hr.make C us [])
  (I2.env0.make C us []) hb' r2 hq) λr s' hq'=>?_))
 cases r with
 |error e=>exact hx pins σ _ _ e s' I2 hq'
 |ok fl =>
  cases fl with
  |ret u =>
   obtain ⟨v,H',I3,rv,ev,q3⟩:=I2.after hq'
   subst ev
   exact ⟨rv,⟨V.ref (s.heap.objs.size+1),H',I3,rfl,q3⟩⟩
  |next=>exact False.elim hq'
  |brk=>exact False.elim hq'
  |cont=>exact False.elim hq'
theorem wvc (M:Mk X.K C f)(F:FnOk X.prog X.w X.K X.mg X.base (CXE X.prog X.w) k f fd ps sp)(hr:Room (k+1) X.A)(hg:Gl X x)(hm:X.mg x=some (.ref C))(hb:Binds X.K fd ps [])(hx:yq X E)
  (ha:PA X (e::es) t) (hdb:autoParam ((x==("__debug__" : Str))=false) aU1._auto_1) (he:autoParam (starEach (e::es) X.env=(false,eval e X.env)::starEach es X.env) aU4._auto_1) (hpl:autoParam ((backTo pos (starEach es X.env)).any (·.1)=false) aU4._auto_1) :
  PE X (.Call (.Name x p) (e::es) [] pos) (wqs C sp E t):=by
 intro pins s σ H Q I h
 refine cJ (Qg I hg hm ?_ hdb)
 refine eK (h₀:=X.base) I.ok.mod.kin M.kp (thn (ha pos pins s σ H _ I h) λus s1 ⟨vs,H1,I1,r,q⟩=>⟨I1.kIn,?_⟩) he hpl
 exact qz8 M F hr hb hx I1 r q
end
structure ExcC (K:Aa)(C:Aj):Prop where
 q:W.excIn K C [.type "ValueError",.type "Exception",.type "BaseException",.type "object"] "ValueError.__new__" = true
def tRaise (C:Aj)(E:St→XK)(t:TA):TS:=λD σ H=>t σ H λvs H1=>vs.length≤sizeLine∧E σ (.ref C) none H1
section
variable {X:Cx}{C:Aj}{E:St→XK}{x:Str}{np cpos pos:Pos}{e:Expr}{es:List Expr}{t:TA}
theorem zm (hc:X.calm=true)(c:ExcC X.K C)(hR:wjf X E)(hg:Gl X x)(hm:X.mg x=some (.ref C))(ha:PA X (e::es) t)(hdb:autoParam ((x==("__debug__" : Str))=false) aU1._auto_1)
  (he:autoParam (starEach (e::es) X.env=(false,eval e X.env)::starEach es X.env) aU4._auto_1) (hpl:autoParam ((backTo cpos (starEach es X.env)).any (·.1)=false) aU4._auto_1) :
  PS X (.Raise (some (.Call (.Name x np) (e::es) [] cpos)) none pos) (tRaise C E t):=by
 intro pins s σ H D I h
 obtain ⟨tl,N,a1,a2,a3,a4,a5,a6,a7,a8,a9,b0,b1,b2,b3,b5,mN,hC,hN,hni,T⟩:=wwn I.ok.mod.kin c.q
 refine wpAny_Raise_call_subT (C:=C) (nm:=a1) (q:=a2) (N:=N) (bs:=a3) (bm:=tl) (hdct:=a4) (sn:=a5) (sub:=a6) (ab:=a7) (col:=a8) (dd:=a9) (k0:=b0) (k1:=b1) (k2:=b2) (k3:=b3) (k5:=b5)
  cY (mN:=mN) (T.hasType cY.hasBase) (I.ok.hd hc) (by rw [he];show (false||(backTo cpos (starEach es X.env)).any (·.1))=false;rw [hpl];rfl) hni (Qg I hg hm ⟨rfl,?_⟩ hdb)
 have hw:=ha cpos pins s σ H _ I h
 rw [he] at hw ⊢
 refine cX (bg hw (λus s1 ⟨vs,H1,I1,r,hl,q⟩=>⟨rfl,by rw [←r.length];exact hl,I1.bk _ _ hC,hN.keeps I1.bk,T.keeps I1.bk,λh' e hx=>hR pins σ H1 s1 h' e C us I1 hx q⟩) λ_ _ z=>z)
end
abbrev Cx.handling (X:Cx)(e:Aj):Cx:={ X with A:=X.A.mark (some (.ref e)),calm:=false,xe:=λ_ _=>False }
abbrev Cx.trying (X:Cx)(pn:List (Aj×Obj))(xe:Ag→Ab→Prop):Cx:={ X with pn:=pn,xe:=xe }
section
variable {X:Cx}{pins:List (Aj×Obj)}{σ:St}{H H':Hp}{s s':Ab}{e:Aj}
theorem Cx.Ok.handling (o:X.Ok)(e:Aj):(X.handling e).Ok :=
 ⟨o.mod,o.kind,o.glob,o.blt,o.above,o.inj,o.has,o.cab,λz=>(aD z).elim,o.frames,o.stk,o.exf,o.bs,o.bsz,o.noex,o.exfs,o.funs,o.frf⟩
theorem Cx.Ok.trying (o:X.Ok)(pn:List (Aj×Obj))(xe:Ag→Ab→Prop):(X.trying pn xe).Ok :=
 ⟨o.mod,o.kind,o.glob,o.blt,o.above,o.inj,o.has,o.cab,o.hd,o.frames,o.stk,o.exf,o.bs,o.bsz,o.noex,o.exfs,o.funs,o.frf⟩
theorem Inv.handling (I:Inv X pins σ H s)(e:Aj):Inv (X.handling e) pins σ H s:=⟨I.ok.handling e,I.os,I.bare,I.base,I.loc,I.cell,I.free,I.freeC,I.pin,I.hok,I.len⟩
theorem Inv.unhandling (o:X.Ok)(I:Inv (X.handling e) pins σ H s):Inv X pins σ H s:=⟨o,I.os,I.bare,I.base,I.loc,I.cell,I.free,I.freeC,I.pin,I.hok,I.len⟩
theorem Inv.trying (I:Inv X pins σ H s)(xe:Ag→Ab→Prop):Inv (X.trying (X.pn++pins) xe) [] σ H s :=
 ⟨I.ok.trying _ _,I.os,I.bare,I.base,I.loc,I.cell,I.free,I.freeC,λp hp=>I.pin p ((bq.mp hp).elim (λz=>z) λz=>nomatch z),I.hok,I.len⟩
theorem Inv.untrying {pins':List (Aj×Obj)}{xe:Ag→Ab→Prop}(o:X.Ok)(I:Inv (X.trying (X.pn++pins) xe) pins' σ H s):Inv X pins σ H s :=
 ⟨o,I.os,I.bare,I.base,I.loc,I.cell,I.free,I.freeC,λp hp=>I.pin p (bX _ hp),I.hok,I.len⟩
theorem SP.untrying {pins':List (Aj×Obj)}{xe:Ag→Ab→Prop}{D:Ends}{f:Flow}(o:X.Ok)(h:SP (X.trying (X.pn++pins) xe) pins' D f s'):SP X pins D f s':=by
 cases f with
 |next=>obtain ⟨a,b,c,d⟩:=h;exact ⟨a,b,c.untrying o,d⟩
 |brk=>obtain ⟨a,b,c,d⟩:=h;exact ⟨a,b,c.untrying o,d⟩
 |cont=>obtain ⟨a,b,c,d⟩:=h;exact ⟨a,b,c.untrying o,d⟩
 |ret u=>obtain ⟨v,a,b,c,d⟩:=h;exact ⟨v,a,b,c.untrying o,d⟩
theorem SP.unhandling {D:Ends}{f:Flow}(o:X.Ok)(h:SP (X.handling e) pins D f s'):SP X pins D f s':=by
 cases f with
 |next=>obtain ⟨a,b,c,d⟩:=h;exact ⟨a,b,c.unhandling o,d⟩
 |brk=>obtain ⟨a,b,c,d⟩:=h;exact ⟨a,b,c.unhandling o,d⟩
 |cont=>obtain ⟨a,b,c,d⟩:=h;exact ⟨a,b,c.unhandling o,d⟩
 |ret u=>obtain ⟨v,a,b,c,d⟩:=h;exact ⟨v,a,b,c.unhandling o,d⟩
def wqu (K:Aa)(C D:Aj):Prop:=∀ {M:Model} {A:Ae} {E:Ag→Ab→Prop} {h:Heap} {g:Array GenState} {d:Drawn} {t:Nat} {os:OsState} {e:Aj} {oe:Obj} {Q:Bool→Ab→Prop},
 K.In h→h.get? e=some oe→oe.cls=.ref C→Q true ⟨h,g,d,t,os⟩→wpAny M A (excMatches (.ref e) (.ref D)) Q E ⟨h,g,d,t,os⟩
theorem qug {K:Aa}{C:Aj}(c:ExcC K C):wqu K C C:=by
 intro M A E h g d t os e oe Q X he hc q
 obtain ⟨tl,N,a1,a2,a3,a4,a5,a6,a7,a8,a9,b0,b1,b2,b3,b5,mN,hC,hN,hni,T⟩:=wwn X c.q
 exact wpAny_excMatches_sub_self hC he hc (T.hasType cY.hasBase) q
theorem land {E:XK}{ev:Ag}{x:Str}{D0:Aj}{np hpos:Pos}{b₀:Stmt}{suite:List Stmt}{rest:List ExceptHandler}{th:TS}{D:Ends}(I:Inv X pins σ H s)(hst:X.stack=X.env::X.outer)(hfr:X.env.frame=some X.env.locals)
  (hg:Gl X x) (hm:X.mg x=some (.ref D0)) (hdb:(x==("__debug__" : Str))=false) (hx:CXE X.prog X.w X.stack H s E ev s') (hE:∀c d H',E c d H'→∃C,c=.ref C∧wqu X.K C D0∧th D σ H') (hh:∀e,PSs (X.handling e) (b₀::suite) th) :
  wpAny (model X.prog X.w) X.A (noteFrame ev X.env) (λ_ s2=>wpAny (model X.prog X.w) X.A (setFlight ev none) (λ_ s3 =>
   wpAny (model X.prog X.w) X.A (handleBy ev X.env (.ExceptHandler (some (.Name x np)) none (b₀::suite) hpos::rest)) (SP X pins D) X.xe s3) X.xe s2) X.xe s':=by
 obtain ⟨a,C,a0,B,H',rfl,hos,hba,un,hokB,hfl,old,q⟩:=hx
 obtain ⟨C1,e1,hcat,hth⟩:=hE _ _ _ q
 cases e1
 have mk:∀(h6:Heap),Heap.FlyingW B X.stack a (.ref C) a0 h6→s'.heap.UpToSlots h6→Inv X pins σ H' { s' with heap:=h6 }:=λh6 fl up=>by
  refine I.call' (s':={ s' with heap:=h6 }) (ch:=[]) hos ⟨λb o e n nb _=>?_,λb o e n hb _=>?_,λb o e n _=>un.free b o e n nin,λb o e _=>?_,un.tups,un.frzs,un.tbls⟩ (hokB.kept fl.1) hba (λb z=>nomatch z)
  ·obtain ⟨o',e1,e2⟩:=old b o e nb
   rw [e2 n] at e1
   exact fl.1 b o e1
  ·obtain ⟨sl,e2⟩:=un.slot b o e n hb nin
   obtain ⟨_,o3,e3,nf⟩:=hfl.2.2.1.mem (b:=b) hb
   obtain ⟨sl4,e4⟩:=up b o3 e3 nf
   rw [e2] at e3
   have e5:=az e3
   exact ⟨sl4,by show h6.get? b=_;rw [e4,←e5]⟩
  ·by_cases hb:b∈frs X.stack
   ·obtain ⟨_,o3,e3,nf⟩:=hfl.2.2.1.mem (b:=b) hb
    obtain ⟨sl4,e4⟩:=up b o3 e3 nf
    exact ⟨_,e4⟩
   ·obtain ⟨o',e1,_⟩:=old b o e hb
    exact ⟨o',fl.1 b o' e1⟩
 have hfrm:X.A.frames=some (X.env::X.outer):=by rw [←hst];exact I.ok.frames
 have hfl':Heap.FlyingW B (X.env::X.outer) a (.ref C) a0 s'.heap:=by rw [←hst];exact hfl
 refine wpAny_looks_onW hfrm hfr hfl' λh4 held4 up4=>?_
 refine wpAny_landsW held4 λh5 fl5 up5=>?_
 have I5:=mk h5 (by rw [hst];exact fl5) (up4.trans up5)
 have I5h:=I5.handling a
 obtain ⟨ob,hob,hobc⟩:=fl5.there
 refine wpAny_handleBy_cons (codeAny_handlers_test (Qg (X:=X.handling a) I5h hg hm ?_ hdb)) (by intro z;cases z)
 obtain ⟨hp,gg,dd,tk,os⟩:=s'
 refine hcat (h:=h5) I5.kIn hob hobc ?_
 refine codeAny_handlers_suite ?_
 refine lands_againW fl5 λh6 fl6 up6=>?_
 have I6:=(mk h6 (by rw [hst];exact fl6) ((up4.trans up5).trans up6)).handling a
 exact bg (hh a pins _ σ H' D I6 hth) (λf s2 h2=>h2.unhandling I.ok) λ_ _ z=>z.elim
end
def tTry (K:Aa)(D0:Aj)(tb:(St→XK)→TS)(th:TS):TS:=λD σ H=>tb (λσ' c _ H'=>∃C,c=.ref C∧wqu K C D0∧th D σ' H') D σ H
section
variable {X:Cx}{x:Str}{D0:Aj}{np hpos pos:Pos}{b₀:Stmt}{body suite:List Stmt}{tb:(St→XK)→TS}{th:TS}
theorem wvt (hst:X.stack=X.env::X.outer)(hfr:X.env.frame=some X.env.locals)(hg:Gl X x)(hm:X.mg x=some (.ref D0))
  (hb:∀(pn:List (Aj×Obj)) (xe:Ag→Ab→Prop) (E:St→XK),yq (X.trying pn xe) E→PassesOwn (model X.prog X.w) X.A X.env xe→PSs (X.trying pn xe) body (tb E))
  (hh:∀e,PSs (X.handling e) (b₀::suite) th) (hdb:autoParam ((x==("__debug__" : Str))=false) aU1._auto_1) :
  PS X (.Try body [.ExceptHandler (some (.Name x np)) none (b₀::suite) hpos] [] [] pos) (tTry X.K D0 tb th):=by
 intro pins s σ H D I h
 refine wpAny_Try_except ?_
 refine bg (hb (X.pn++pins) (λe s₁=>wpAny (model X.prog X.w) X.A (noteFrame e X.env) (λ_ s₂=>wpAny (model X.prog X.w) X.A (setFlight e none) (λ_ s₃ =>
   wpAny (model X.prog X.w) X.A (handleBy e X.env [.ExceptHandler (some (.Name x np)) none (b₀::suite) hpos]) (SP X pins D) X.xe s₃) X.xe s₂) X.xe s₁) _ ?_ PassesOwn.looking [] s σ H D (I.trying _) h) (λf s1 h1=>?_) λ_ _ z=>z
 ·intro pins' σ' H1 s1 e s1' I1 hx
  exact land (X:=X) (I1.untrying I.ok) hst hfr hg hm hdb hx (λc d H' q=>q) hh
 ·have h2:=h1.untrying I.ok
  cases f with
  |next=>exact dq h2
  |brk=>exact h2
  |cont=>exact h2
  |ret u=>exact h2
end
def Sm (n:Nat)(i:Int):Prop:=i.natAbs<2 ^ n
theorem Sm.bits {n:Nat}{i:Int}(h:Sm n i):Builtin.Int.intBits i≤n:=PyProof.Rows.intBits_le h
theorem Sm.mono {n m:Nat}{i:Int}(h:Sm n i)(hm:n≤m):Sm m i:=aG h (Nat.pow_le_pow_right ⋯ hm)
theorem Sm.of_le {n:Nat}{i j:Int}(h:Sm n j)(e:i.natAbs≤j.natAbs):Sm n i:=dA e h
theorem Sm.ok {n m:Nat}{i j:Int}(h:Sm n i)(h':Sm m j)(e:n+m≤134217728):IntMulOk i j:=IntMulOk.of_le h.bits h'.bits e
theorem Sm.log {n:Nat}{i:Int}(h:Sm n i)(hn:n≤9000):i.natAbs.log2<9000:=by
 by_cases h0:i.natAbs=0
 ·rw [h0]
  decide
 ·exact aG ((Nat.log2_lt h0).mpr h) hn
theorem Sm.noPl {n:Nat}{i j:Int}(h:Sm n j)(hn:n≤9000):Builtin.divisionGoesByPylong i j=false:=PyProof.noPylong_of_log2 (h.log hn)
section
variable {X:Cx}
theorem xt:OpR X (binaryOp .Mult) (rI IntMulOk λi j=>.int (i*j)):=opI λ_ _ _ _ _ _ _ hc q=>mul_int q hc
theorem ju:OpR X (binaryOp .FloorDiv) (rI (λ_ j=>0<j∧Sm 9000 j) λi j=>.int (i/j)):=opI λi j _ _ _ _ _ hc q =>
 floordiv_int ⋯ (by rw [Int.fdiv_eq_ediv_of_nonneg i (Int.le_of_lt hc.1)];exact q) (.inl (hc.2.noPl (ai _)))
theorem Yh:vh X (.builtin "isinstance") (λxs H Q=>∃x T t b,xs=[x,.ty T]∧TyOf X.K H x t∧W.kitOne X.K t (.type T)=some b∧Q (.bl b) H):=by
 intro pins s σ H xs us Q I r h
 obtain ⟨x,T,t,b,rfl,ty,e,q⟩:=h
 obtain ⟨u,u',rfl,r1,r2⟩:=wyc r
 cases r2
 exact qzd I r1 ty e λtk=>⟨.bl b,H,I.tok tk,rfl,q⟩
end
mutual
def RD (K:Aa)(H:Hp):PyData→V→Prop
 |.none,v=>v=.non
 |.bool b,v=>v=.bl b
 |.int i,v=>v=.int i
 |.str x,v=>v=.str x
 |.list ds,v=>∃a xs,v=.ref a∧SqL K H a xs∧RDs K H ds xs
 |.tuple ds,v=>∃a xs,v=.ref a∧SqT K H a xs∧RDs K H ds xs
 |.dict _,_=>False
def RDs (K:Aa)(H:Hp):List PyData→List V→Prop
 |[],xs=>xs=[]
 |d::ds,xs=>∃y ys,xs=y::ys∧RD K H d y∧RDs K H ds ys
end
section
variable {X:Cx}{pins:List (Aj×Obj)}{σ:St}{H:Hp}{s:Ab}
mutual
theorem qwt (I:Inv X pins σ H s):∀(d:PyData) (v:V) (u:Ag),RD X.K H d v→RelV v u→∃as,Reads s.heap u d as
 |.none,v,u,h,r=>by
  rw [RD] at h;subst h
  cases (show u=Value.none from r)
  exact ⟨_,.none⟩
 |.bool b,v,u,h,r=>by
  rw [RD] at h;subst h
  cases (show u=Value.bool b from r)
  exact ⟨_,.bool b⟩
 |.int i,v,u,h,r=>by
  rw [RD] at h;subst h
  obtain ⟨t,rfl⟩:=(show ∃t,u=Value.int i t from r)
  exact ⟨_,.int i t⟩
 |.str x,v,u,h,r=>by
  rw [RD] at h;subst h
  obtain ⟨t,rfl⟩:=(show ∃t,u=Value.str x t from r)
  exact ⟨_,.str x t⟩
 |.list ds,v,u,h,r=>by
  rw [RD] at h
  obtain ⟨a,xs,rfl,hs,hd⟩:=h
  cases (show u=Value.ref a from r)
  obtain ⟨its,rv,⟨o,n,e1,e2,_,e3⟩,_⟩:=I.list hs
  obtain ⟨as,ha⟩:=Zt I ds xs its hd rv
  exact ⟨_,.list e1 e2 e3 (by simpa using ha)⟩
 |.tuple ds,v,u,h,r=>by
  rw [RD] at h
  obtain ⟨a,xs,rfl,hs,hd⟩:=h
  cases (show u=Value.ref a from r)
  obtain ⟨its,rv,⟨o,e1,e2,n,e3⟩,_⟩:=I.tuple hs
  obtain ⟨as,ha⟩:=Zt I ds xs its hd rv
  exact ⟨_,.tuple e1 e2 e3 (by simpa using ha)⟩
 |.dict _,_,_,h,_=>by
  rw [RD] at h
  exact h.elim
theorem Zt (I:Inv X pins σ H s):∀(ds:List PyData) (vs:List V) (us:List Ag),RDs X.K H ds vs→Vals vs us→∃as,ReadsAll s.heap us ds as
 |[],vs,us,h,r=>by
  rw [RDs] at h;subst h
  cases r
  exact ⟨_,.nil⟩
 |d::ds,vs,us,h,r=>by
  rw [RDs] at h
  obtain ⟨y,ys,rfl,h1,h2⟩:=h
  cases r with
  |cons r1 r2 =>
   obtain ⟨as,a1⟩:=qwt I d y _ h1 r1
   obtain ⟨bs,a2⟩:=Zt I ds ys _ h2 r2
   exact ⟨_,.cons a1 a2⟩
end
def rEqD (K:Aa)(neg:Bool):R2:=λx y H Q=>∃d e,RD K H d x∧RD K H e y∧d.canLay0=true∧e.canLay0=true∧min d.depth e.depth≤60∧Q (.bl (if neg then !PyData.eqv d e else PyData.eqv d e)) H
theorem qkv (hu:X.A.units+64<cLine):OpR X (compareOp .NotEq) (rEqD X.K true):=by
 intro pins s σ H x y v u Q I rx ry h
 obtain ⟨d,e,h1,h2,c1,c2,dp,q⟩:=h
 obtain ⟨as,a1⟩:=qwt I d x v h1 rx
 obtain ⟨bs,a2⟩:=qwt I e y u h2 ry
 exact PySem.SeqAt.compareNe_reads a1 a2 c1 c2 ⋯ ⟨.bl _,H,I,rfl,q⟩
end
def ptD (p:Int×Int):PyData:=.tuple [.int p.1,.int p.2]
theorem qqx:∀(xs ys:List Int),PyData.eqvAll (xs.map .int) (ys.map .int)=decide (xs=ys)
 |[],[]=>rfl
 |[],_::_=>rfl
 |_::_,[]=>rfl
 |x::xs,y::ys=>by
  rw [aA,aA,PyData.eqvAll,qqx xs ys,PyData.eqv]
  by_cases h:x=y
  ·subst h;simp
  ·simp [h]
theorem wyn (p q:Int×Int):PyData.eqv (ptD p) (ptD q)=decide (p=q):=by
 obtain ⟨a,b⟩:=p
 obtain ⟨c,d⟩:=q
 unfold ptD
 rw [PyData.eqv]
 have:=qqx [a,b] [c,d]
 rw [aA,aA,bO,aA,aA,bO] at this
 rw [this]
 simp
theorem qyf:∀(xs:List Int),PyData.canLayAll0 (xs.map .int)=true
 |[]=>rfl
 |x::xs=>by rw [aA,PyData.canLayAll0,qyf xs];rfl
theorem qjr:∀(xs:List Int),PyData.depthAll (xs.map .int)≤1
 |[]=>by simp [PyData.depthAll]
 |x::xs=>by
  have:=qjr xs
  simp only [aA,PyData.depthAll,PyData.depth]
  lia
theorem ww0 {K:Aa}{H:Hp}:∀(xs:List Int),RDs K H (xs.map .int) (xs.map V.int)
 |[]=>by rw [bO,bO,RDs]
 |x::xs=>by
  rw [aA,aA,RDs]
  exact ⟨_,_,rfl,by rw [RD],ww0 xs⟩
end L2
namespace L2
open PySem PySem.Spec PyProof.Rows
section
variable {P:Ac}{w:Ah}{K:Aa}{mg:Str→Option Ag}{base:Heap}
theorem Fun.okX {x qual:Str}{st:Stmt}{f:Aj}{fd:Ad}{N ps:List Str}{k:Nat}{sp:Sp}(F:Fun K x qual st f fd)(S:FnScope N ps (wu st))(len:∀vs H Q E,sp vs H Q E→vs.length=ps.length)
  (body:∀(cdv:Ag) (A:Ae) (outer:List Env) (s:Ab) (H:Hp) (vs:List V) (Q:VK) (E:XK),Room k (A.deeper (envOfC qual (wu st) s.heap.objs.size f cdv))→sp vs H Q E →
   ∃t,PSs (qv2 (CXE P w) P w K mg base N qual (wu st) f cdv A outer s H E) (kh st) t∧t { nx:=λ_ H'=>Q .non H',rt:=Q } (W7 N vs) H):FnOk P w K mg base (CXE P w) (k+1) f fd ps sp:=by
 obtain ⟨oc,od,kV,doc,pm,an,cdv,ct,osl,rfl,lk,hcd⟩:=F.ex
 exact fn_of lk hcd S len λA outer s H vs Q E hr hsp=>body cdv A outer s H vs Q E hr hsp
structure DefIn (K:Aa)(x:Str)(st:Stmt):Prop where
 ex:∃f fd,W.nsIn K mainGlobals x=some (some (.ref f))∧Fun K x x st f fd
theorem def_mk {x:Str}{st:Stmt}{f:Aj}{oc:Ag}{od an:Option Aj}{osl:Array (Option Ag)}{kV doc pm cdv ct:Ag}(a:W.nsIn K mainGlobals x=some (some (.ref f)))
  (l:K.lookup f=some ⟨oc,od,.func (W.fnOf x x (jb st) (kh st) (wu st) .none kV doc pm an cdv ct),osl⟩) (c:W.codeIn K cdv x=true) (k:W.keepIn K (.ref f)=true):DefIn K x st:=⟨_,_,a,wv7 l c k⟩
def xn (x:Str)(st:Stmt)(ps:List Str):Prop:=∀(kV doc pm:Ag) (an:Option Aj) (cdv ct:Ag) (us:List Ag),us.length=ps.length→bindArgs (W.fnOf x x (jb st) (kh st) (wu st) .none kV doc pm an cdv ct) ⟨us,[]⟩=pure (ps.zip us)
theorem bA1 {f}{ps:List Str}{u:List Ag}(h:u.length=1)(k:∀a,bindArgs f ⟨[a],[]⟩=pure (ps.zip [a])):bindArgs f ⟨u,[]⟩=pure (ps.zip u):=match u,h with|[a],_=>k a
theorem bA2 {f}{ps:List Str}{u:List Ag}(h:u.length=2)(k:∀a b,bindArgs f ⟨[a,b],[]⟩=pure (ps.zip [a,b])):bindArgs f ⟨u,[]⟩=pure (ps.zip u):=match u,h with|[a,b],_=>k a b
theorem bA3 {f}{ps:List Str}{u:List Ag}(h:u.length=3)(k:∀a b c,bindArgs f ⟨[a,b,c],[]⟩=pure (ps.zip [a,b,c])):bindArgs f ⟨u,[]⟩=pure (ps.zip u):=match u,h with|[a,b,c],_=>k a b c
theorem bA4 {f}{ps:List Str}{u:List Ag}(h:u.length=4)(k:∀a b c d,bindArgs f ⟨[a,b,c,d],[]⟩=pure (ps.zip [a,b,c,d])):bindArgs f ⟨u,[]⟩=pure (ps.zip u):=match u,h with|[a,b,c,d],_=>k a b c d
structure Cal (P:Ac)(w:Ah)(K:Aa)(mg:Str→Option Ag)(base:Heap)(x:Str)(k:Nat)(sp:Sp):Prop where
 ex:∃f fd ps,mg x=some (.ref f)∧FnOk P w K mg base (CXE P w) k f fd ps sp∧W.keepIn K (.ref f)=true∧Binds K fd ps []
theorem DefIn.cal {x:Str}{st:Stmt}{ps:List Str}{k:Nat}{sp:Sp}{h:Heap}(d:DefIn K x st)(KX:K.In h)(G:h.Ns mainGlobals mg)(b:xn x st ps)(ok:∀f fd,Fun K x x st f fd→FnOk P w K mg base (CXE P w) k f fd ps sp):Cal P w K mg base x k sp:=by
 obtain ⟨f,fd,a,F⟩:=d.ex
 exact ⟨f,fd,ps,aK KX G a,ok f fd F,F.kp,F.binds b⟩
end
section
variable {X:Cx}{x:Str}{k:Nat}{sp:Sp}{E:St→XK}{p pos:Pos}{e:Expr}{es:List Expr}{t:TA}
theorem qyj (c:Cal X.prog X.w X.K X.mg X.base x k sp)(hr:Room k X.A)(hg:Gl X x)(hx:yq X E)
  (ha:PA X (e::es) t) (hdb:autoParam ((x==("__debug__" : Str))=false) aU1._auto_1) (he:autoParam (starEach (e::es) X.env=(false,eval e X.env)::starEach es X.env) aU4._auto_1) (hpl:autoParam ((backTo pos (starEach es X.env)).any (·.1)=false) aU4._auto_1) :
  PE X (.Call (.Name x p) (e::es) [] pos) (qwh sp E t):=by
 obtain ⟨f,fd,ps,hm,F,kp,b⟩:=c.ex
 exact wkm F hr hg hm kp b hx ha hdb he hpl
end
def tCut (t u:TS):TS:=λD σ H=>∃R:St→Hp→Prop,t { D with nx:=R } σ H∧∀σ' H',R σ' H'→u D σ' H'
theorem qkd {X:Cx}{st:Stmt}{rest:List Stmt}{t u:TS}(h1:PS X st t)(h2:PSs X rest u):PSs X (st::rest) (tCut t u):=by
 intro pins s σ H D I ⟨R,h,hR⟩
 refine fw (thn (h1 pins s σ H { D with nx:=R } I h) λf s1 q=>?_)
 cases f with
 |next =>
  obtain ⟨σ1,H1,I1,q1⟩:=q
  exact h2 pins s1 σ1 H1 D I1 (hR σ1 H1 q1)
 |brk=>exact q
 |cont=>exact q
 |ret u=>exact q
theorem vb {c A B:Prop}[Decidable c](h1:c→A)(h2:¬ c→B):if decide c=true then A else B:=by
 by_cases h:c
 ·rw [aX h]
  exact ut (h1 h)
 ·rw [bn h]
  exact yb (h2 h)
theorem iteND {c A B:Prop}[Decidable c](h1:¬ c→A)(h2:c→B):if (!decide c)=true then A else B:=by
 by_cases h:c
 ·rw [aX h]
  exact yb (h2 h)
 ·rw [bn h]
  exact ut (h1 h)
theorem deqI {i j:Int}:decide (V.int i=V.int j)=decide (i=j):=by
 by_cases h:i=j
 ·subst h;simp
 ·simp [h]
theorem jc {i j:Int}{A B:Prop}(h1:i=j→A)(h2:i≠j→B):if decide (V.int i=V.int j)=true then A else B:=by
 rw [deqI]
 exact vb h1 h2
theorem xN {i j:Int}{A B:Prop}(k:B)(h:autoParam (i≠j) aU1._auto_1):if decide (V.int i=V.int j)=true then A else B:=jc (λz=>absurd z h) (λ_=>k)
theorem qkg {i j:Int}{A B:Prop}(h1:i≠j→A)(h2:i=j→B):if (!decide (V.int i=V.int j))=true then A else B:=by
 rw [deqI]
 exact iteND h1 h2
theorem Same.upd {H:Hp}{p:Aj}{o:HO}(n:H p=none):Same H (upd H p o):=λb u e=>by
 rw [wy (wz e n)]
 exact e
theorem Same.rd {H H':Hp}{a:Aj}{o:HO}(h:Same H H')(r:Rd H a o):Rd H' a o:=by
 rcases r with r|⟨u,r⟩
 ·exact .inl (h a _ r)
 ·exact .inr ⟨u,h a _ r⟩
theorem Same.sql {K:Aa}{H H':Hp}{a:Aj}{xs:List V}(h:Same H H')(s:SqL K H a xs):SqL K H' a xs:=h.seq s
theorem SqT.new {K:Aa}{H:Hp}{p:Aj}{xs:List V}:SqT K (upd H p (.tup xs)) p xs:=SqT.of qb
theorem SqL.new {K:Aa}{H:Hp}{p:Aj}{xs:List V}:SqL K (upd H p (.lst xs)) p xs:=SqL.of qb
theorem Zx:bootBuiltins "abs" = some (.builtin "abs"):=by decide +kernel
theorem qux:bootBuiltins "all" = some (.builtin "all"):=by decide +kernel
theorem Jz {ns:List Int}{i:Int}(h0:0≤i)(h1:i<ns.length):atI (ns.map V.int) i=some (V.int (ns.getD i.toNat 0)):=by
 have hl:i.toNat<ns.length:=by lia
 have e:(ns.map V.int)[i.toNat]?=some (V.int (ns.getD i.toNat 0)):=by
  rw [aB,aM,al hl]
  rfl
 have:=j3 e
 rwa [cb h0] at this
def qyy (ns:List Int)(i:Int):Int:=if i<ns.length then ns.getD i.toNat 0 else if (ns.length:Int)=0 then 7*i+3 else ns.getD (i%ns.length).toNat 0+1009*i
def divs (c:Int):Nat→Int
 |0=>c
 |n+1=>divs c n/1000
def qud (K:Aa):Sp:=λvs H Q _=>∃(a:Aj) (ns:List Int) (i:Int),vs=[.ref a,.int i]∧SqL K H a (ns.map V.int)∧0≤i∧∀r,r=qyy ns i→Q (.int r) H
def u8 (c:Int):Int:=if c<0 then -c else c
def qvt (c t:Int):Int:=(c%1000003*48271+t*7919+101)%999983
def qj4 (c t:Int):Int:=(qvt c t*qvt c t+c%1000003*31+t*104729)%1000033
def qyg (c t:Int):Int:=if 10 ^ 18≤u8 c then (if c<0 then divs (u8 c) t.toNat%1000 else divs (u8 c) t.toNat) else (qj4 c t*qj4 c t+qvt c t*17+t*30011)%999979
def qyw (ns:List Int)(i t m:Int):Int:=qyg (qyy ns i) t%m
theorem wky (ns:List Int)(i t m:Int)(h:0<m):0≤qyw ns i t m:=bh _ ⋯
theorem wj5 (ns:List Int)(i t m:Int)(h:0<m):qyw ns i t m<m:=bj _ h
theorem wv3 {c t:Int}(h:10 ^ 18≤u8 c)(n:c<0):qyg c t=divs (u8 c) t.toNat%1000:=by rw [qyg,ak h,ak n]
theorem wxh {c t:Int}(h:10 ^ 18≤u8 c)(n:¬ c<0):qyg c t=divs (u8 c) t.toNat:=by rw [qyg,ak h,af n]
theorem wvw {c t:Int}(h:¬ 10 ^ 18≤u8 c):qyg c t=(qj4 c t*qj4 c t+qvt c t*17+t*30011)%999979:=by rw [qyg,af h]
def um (K:Aa):Sp:=λvs H Q _=>∃(a:Aj) (ns:List Int) (i t m:Int),vs=[.ref a,.int i,.int t,.int m]∧SqL K H a (ns.map V.int)∧0≤i∧0≤t∧t<1000000∧0<m ∧
 ∀r,r=qyw ns i t m→0≤r→r<m→Q (.int r) H
theorem Sm.small {n:Nat}{i:Int}(h1:-(2 ^ 64)≤i)(h2:i≤2 ^ 64)(hn:65≤n):Sm n i:=by
 refine Sm.mono (n:=65) ?_ hn
 unfold Sm
 lia
def wwx (K:Aa):Sp:=λvs H Q _=>∃(a:Aj) (ns:List Int),vs=[.ref a]∧SqL K H a (ns.map V.int)∧ns.length≤63∧∀H',Q (.bl true) H'
theorem sz1 {x:V}:[x].length≤sizeLine:=by show 1≤sizeLine;decide
theorem sz2 {x y:V}:[x,y].length≤sizeLine:=by show 2≤sizeLine;decide
theorem sz0:([]:List V).length≤sizeLine:=by show 0≤sizeLine;decide
end L2
namespace L2
open PySem
def Ym (x y:Int):Int:=((Nat.gcd x.toNat y.toNat:Nat):Int)
theorem wzq {x:Int}(h:0≤x):Ym x 0=x:=by
 unfold Ym
 have:(0:Int).toNat=0:=rfl
 rw [this,Nat.gcd_zero_right]
 lia
theorem wzk {x y:Int}(hx:0≤x)(hy:0<y):Ym y (x%y)=Ym x y:=by
 unfold Ym
 have e:(x%y).toNat=x.toNat%y.toNat:=by
  have h1:x=(x.toNat:Int):=by lia
  have h2:y=(y.toNat:Int):=by lia
  have h3:x%y=((x.toNat%y.toNat:Nat):Int):=by
   conv=>lhs;rw [h1,h2]
   exact (Int.natCast_emod _ _).symm
  rw [h3]
  exact cW _
 rw [e,Nat.gcd_comm y.toNat,←Nat.gcd_rec,Nat.gcd_comm]
theorem wxb (t:Int):u8 t=(t.natAbs:Int):=by
 unfold u8
 split <;> lia
theorem wwf (t:Int):0≤u8 t:=by
 rw [wxb]
 lia
theorem jd (t b:Int):Ym (u8 t) b=((Nat.gcd t.natAbs b.toNat:Nat):Int):=by
 unfold Ym
 rw [wxb,cW]
def gOf (t b:Int):Int:=Ym (u8 t) b
def wn (t b:Int):Int×Int:=(t/gOf t b,b/gOf t b)
theorem yy {t b:Int}(h:1≤b):1≤gOf t b:=by
 unfold gOf
 rw [jd]
 have:0<Nat.gcd t.natAbs b.toNat:=Nat.gcd_pos_of_pos_right _ ⋯
 lia
theorem wvf {t b:Int}(h:1≤b):gOf t b≤b:=by
 unfold gOf
 rw [jd]
 have:Nat.gcd t.natAbs b.toNat≤b.toNat:=Nat.gcd_le_right _ ⋯
 lia
theorem wz1 {t b:Int}(h:1≤b):gOf t b∣b:=by
 unfold gOf
 rw [jd]
 have h1:((Nat.gcd t.natAbs b.toNat:Nat):Int)∣(b.toNat:Int):=fy.mpr (Nat.gcd_dvd_right _ _)
 have h2:(b.toNat:Int)=b:=by lia
 rwa [h2] at h1
theorem wz0 {t b:Int}:gOf t b∣t:=by
 unfold gOf
 rw [jd]
 have h1:((Nat.gcd t.natAbs b.toNat:Nat):Int)∣(t.natAbs:Int):=fy.mpr (Nat.gcd_dvd_left _ _)
 exact Int.dvd_natAbs.mp h1
theorem qyr {t b:Int}:gOf t b*(t/gOf t b)=t:=dU wz0
theorem qq0 {t b:Int}(h:1≤b):gOf t b*(b/gOf t b)=b:=dU (wz1 h)
theorem Yj {t b:Int}(h:1≤b):(wn t b).1*b=t*(wn t b).2:=by
 unfold wn
 dsimp only
 have h1:=qyr (t:=t) (b:=b)
 have h2:=qq0 (t:=t) (b:=b) h
 conv=>lhs;rw [←h2]
 conv=>rhs;rw [←h1]
 rw [h1,h2]
 have e1:t/gOf t b*b=t/gOf t b*(gOf t b*(b/gOf t b)):=by rw [h2]
 have e2:t*(b/gOf t b)=gOf t b*(t/gOf t b)*(b/gOf t b):=by rw [h1]
 rw [e1,e2,←Int.mul_assoc,dG (t/gOf t b)]
theorem Qt {t b:Int}(h:1≤b):1≤(wn t b).2:=by
 show 1≤b/gOf t b
 have h2:=qq0 (t:=t) (b:=b) h
 have h3:=yy (t:=t) h
 have:0<b/gOf t b:=by
  rcases cA 0 (b/gOf t b) with z|z
  ·exact z
  ·have:=bH z (show 0≤gOf t b by lia)
   rw [h2,Int.mul_zero] at this
   lia
 lia
theorem wj1 {t b:Int}(h:1≤b):(wn t b).2≤b:=Int.ediv_le_self _ ⋯
theorem wvg {t b:Int}(h:1≤b):gOf (wn t b).1 (wn t b).2=1:=by
 have h3:=yy (t:=t) h
 have hb:=Qt (t:=t) h
 obtain ⟨g,hg⟩:∃g:Nat,gOf t b=(g:Int):=⟨_,by unfold gOf;exact jd t b⟩
 have g1:0<g:=by lia
 have hgg:g=Nat.gcd t.natAbs b.toNat:=by
  have:(g:Int)=((Nat.gcd t.natAbs b.toNat:Nat):Int):=by rw [←hg];unfold gOf;exact jd t b
  lia
 have et:g*(wn t b).1.natAbs=t.natAbs:=by
  have:=qyr (t:=t) (b:=b)
  have e:=bB Int.natAbs this
  rw [Int.natAbs_mul,hg] at e
  simpa [wn,hg] using e
 have eb:g*(wn t b).2.toNat=b.toNat:=by
  have:=qq0 (t:=t) (b:=b) h
  rw [hg] at this
  have q:(wn t b).2=b/(g:Int):=by unfold wn;rw [hg]
  have q2:b/(g:Int)=((b/(g:Int)).toNat:Int):=by rw [←q];lia
  rw [q]
  rw [q2] at this
  have:((g*(b/(g:Int)).toNat:Nat):Int)=b:=by rw [fL];exact this
  lia
 unfold gOf
 rw [jd]
 have key:g*Nat.gcd (wn t b).1.natAbs (wn t b).2.toNat=g*1:=by
  rw [←Nat.gcd_mul_left,et,eb,←hgg,Nat.mul_one]
 have:=Nat.eq_of_mul_eq_mul_left g1 key
 rw [this]
 rfl
theorem wu3 {t b c:Int}(h:1≤b)(hc:1≤c):gOf (t*c) (b*c)=gOf t b*c:=by
 unfold gOf
 rw [jd,jd]
 have e1:(t*c).natAbs=t.natAbs*c.toNat:=by
  rw [Int.natAbs_mul]
  have:c.natAbs=c.toNat:=by lia
  rw [this]
 have e2:(b*c).toNat=b.toNat*c.toNat:=by
  have hb:b=(b.toNat:Int):=by lia
  have hc':c=(c.toNat:Int):=by lia
  have:b*c=((b.toNat*c.toNat:Nat):Int):=by
   rw [fL,←hb,←hc']
  lia
 rw [e1,e2,Nat.gcd_mul_right,fL]
 have:(c.toNat:Int)=c:=by lia
 rw [this]
theorem Zk {t b c:Int}(h:1≤b)(hc:1≤c):wn (t*c) (b*c)=wn t b:=by
 unfold wn
 rw [wu3 h hc]
 have hg:=yy (t:=t) h
 rw [cO _ _ (show 0<c by lia),cO _ _ (show 0<c by lia)]
end L2
namespace L2
open PySem PySem.Spec PyProof.Rows
def CapAll (env:Env):List (Str×Aj)→Prop
 |[]=>True
 |(y,c)::r=>env.cells.lookup y=some c∧CapAll env r
theorem CapAll.look {env:Env}:∀ {cl:List (Str×Aj)},CapAll env cl→∀ {y:Str} {c:Aj},cl.lookup y=some c→env.cells.lookup y=some c
 |[],_,_,_,e=>by cases e
 |(z,d)::r,h,y,c,e=>by
  rw [aF] at e
  cases hb:y==z with
  |true =>
   rw [hb] at e
   rw [eq_of_beq hb]
   exact h.1.trans e
  |false =>
   rw [hb] at e
   exact CapAll.look h.2 e
def HasAll (cl:List (Str×Aj)):List (Str×NameKind)→Prop
 |[]=>True
 |(n,k)::r=>(k=.free→∃c,cl.lookup n=some c)∧k≠.cell∧HasAll cl r
theorem HasAll.nocell {cl:List (Str×Aj)}:∀ {ns:List (Str×NameKind)},HasAll cl ns→∀y∈ns,y.2≠.cell
 |(n,k)::r,h,y,hy=>by
  rcases ag.mp hy with rfl|hy
  ·exact h.2.1
  ·exact HasAll.nocell h.2.2 y hy
theorem HasAll.has {cl:List (Str×Aj)}{env:Env}:∀ {ns:List (Str×NameKind)},HasAll cl ns→∀ {x:Str} {q:NameKind},q=.cell∨q=.free →
  (ns.map λ(n,k)=>if (k==NameKind.free&&env.scope.kind==.function&&env.kindOf n==some .cell) then (n,NameKind.cell) else (n,k)).lookup x=some q→∃c,cl.lookup x=some c
 |[],_,_,_,_,e=>by cases e
 |(n,k)::r,h,x,q,hq,e=>by
  have ih:=HasAll.has (env:=env) h.2.2 (x:=x) hq
  rw [aA] at e
  by_cases hc:(k==NameKind.free&&env.scope.kind==.function&&env.kindOf n==some .cell)=true
  ·have e':=e
   dsimp only at e'
   rw [ak hc,aF] at e'
   cases hb:x==n with
   |true =>
    rw [bc,bc] at hc
    obtain ⟨c,hcc⟩:=h.1 (eq_of_beq hc.1.1)
    exact ⟨c,by rw [eq_of_beq hb];exact hcc⟩
   |false =>
    rw [hb] at e'
    exact ih e'
  ·have e':=e
   dsimp only at e'
   rw [af hc,aF] at e'
   cases hb:x==n with
   |true =>
    rw [hb] at e'
    have ek:k=q:=az e'
    rcases hq with rfl|rfl
    ·exact absurd ek h.2.1
    ·obtain ⟨c,hcc⟩:=h.1 ek
     exact ⟨c,by rw [eq_of_beq hb];exact hcc⟩
   |false =>
    rw [hb] at e'
    exact ih e'
def CapIx (X:Cx)(scope:Scope)(cl:List (Str×Aj)):List Nat→Prop
 |[]=>True
 |j::r=>(∃y c,X.N[j]?=some y∧X.env.scope.names.lookup y=some .cell∧(relabel scope X.env).names.lookup y=some .cell∧cl.lookup y=some c)∧CapIx X scope cl r
theorem CapIx.get {X:Cx}{scope:Scope}{cl:List (Str×Aj)}:∀ {M:List Nat},CapIx X scope cl M→∀ {k j:Nat},M[k]?=some j →
  ∃y c,X.N[j]?=some y∧X.env.scope.names.lookup y=some .cell∧(relabel scope X.env).names.lookup y=some .cell∧cl.lookup y=some c
 |[],_,k,j,e=>by cases e
 |i::r,h,0,j,e=>by
  cases e
  exact h.1
 |i::r,h,k+1,j,e=>CapIx.get h.2 (k:=k) e
def qjm (X:Cx)(x:Str)(M:List Nat):List Str:=x::M.map λj=>X.N.getD j Str.empty
def jy (M:List Nat)(σ:St)(o:Option V):St:=o::M.map λj=>(σ[j]?).join
abbrev jt (X:Cx)(scope:Scope)(cl:List (Str×Aj))(x:Str)(M:List Nat)(C:Aj)(s2:Ab)(H2:Hp)(fp:List Aj)(pn:List (Aj×Obj)):Cx :=
 { X with N:=qjm X x M,s₀:=s2,H₀:=H2,env:=compEnvC scope cl C X.env,outer:=X.stack,ex:=fp,fn:=λ_=>false,pn:=pn,xe:=λ_ _=>False }
section
variable {X:Cx}{pins:List (Aj×Obj)}{σ:St}{H:Hp}{s2:Ab}{scope:Scope}{cl:List (Str×Aj)}{x:Str}{M:List Nat}{fp:List Aj}{C:Aj}{h1:Heap}{tk:Nat}
theorem Inv.compG {oo:HO}{xs:List Str}(I:Inv X pins σ H s2)(hc:CapAll X.env cl)(hh:HasAll cl scope.names)(hm:CapIx X scope cl M)(hk:scope.kind=.function)(hC:s2.heap.objs.size<C)
  (keep:∀b o,s2.heap.get? b=some o→h1.get? b=some o) (hn:h1.Ns C λ_=>none) (hD:ObjOk X.prog X.w (upd H s2.heap.objs.size oo) h1 s2.heap.objs.size oo)
  (hfp:∀b∈fp,uh X pins H b) (hob:∀b∈fp,∃o,s2.heap.get? b=some o) :
  Inv { X with N:=xs++M.map λj=>X.N.getD j Str.empty,s₀:=s2,H₀:=H,env:=compEnvC scope cl C X.env,outer:=X.stack,ex:=fp,fn:=λ_=>false,pn:=X.pn++pins,xe:=λ_ _=>False } [] ((xs.map λ_=>none)++M.map λj=>(σ[j]?).join) (upd H s2.heap.objs.size oo) { s2 with heap:=h1,toks:=tk }:=by
 have hfr:=I.hok.fresh (a:=s2.heap.objs.size) (ai _)
 have o:=I.ok
 have hcc:∀y c,cl.lookup y=some c→X.env.cells.lookup y=some c:=λy c e=>hc.look e
 have hlt:∀b∈fp,b<s2.heap.objs.size:=λb hb=>by
  obtain ⟨ob,e⟩:=hob b hb
  exact ao e
 have hstk:∀b∈fp,b∉frs X.stack:=λb hb z=>by
  rcases ag.mp (I.stkSub b z) with z|z
  ·exact (hfp b hb).2.1 z
  ·exact (hfp b hb).2.2.1 z
 have hCn:H C=none:=I.hok.fresh (cx hC)
 refine ⟨⟨o.mod,hk,o.glob,o.blt,cx hC,λy z c e1 e2=>o.inj y z c (hcc y c e1) (hcc z c e2),λy hy=>?_,λy c z=>(aD z).elim,o.hd,o.frames,.inl rfl,λb hb=>⟨aC (bV (hlt b hb) hC),λy c e=>(hfp b hb).2.2.2.2.1 y c (hcc y c e)⟩,
  λb ob e=>I.bs b ob e,bw o.bsz I.sz,λb ob e z=>?_,hstk,I.stack,I.stkFree⟩,rfl,I.bare,?_,?_,λy c e=>?_,?_,λy c e=>?_,λp hp=>?_,?_,?_⟩
 ·rcases hy with hy|hy
  ·exact hh.has (.inl rfl) hy
  ·exact hh.has (.inr rfl) hy
 ·obtain ⟨e1,e2⟩:=I.bs b ob e
  exact (hfp b z).2.2.2.1.elim (λq=>o.noex b ob e q) λq=>by
   have:=o.bs b ob e
   exact bv _ (aG (ao this.1) q)
 ·exact (Un.laid (fs:=frs X.stack) (ex:=fp) (o:=oo) keep (ai _) hfr)
 ·refine ⟨_,hn,λi z v e1 e2 e3=>?_⟩
  rcases dH i xs.length with hi|hi
  ·have e2:((xs.map λ_=>(none:Option V))++M.map λj=>(σ[j]?).join)[i]?=some (some v):=e2
   rw [bG (by rw [aa];exact hi),aB,al hi] at e2
   cases e2
  have e1':(xs++M.map λj=>X.N.getD j Str.empty)[i]?=some z:=e1
  have e2':((xs.map λ_=>(none:Option V))++M.map λj=>(σ[j]?).join)[i]?=some (some v):=e2
  rw [bt hi] at e1'
  rw [bt (by rw [aa];exact hi),aa] at e2'
  generalize i-xs.length=k at e1' e2'
  rw [aB] at e1' e2'
  cases hj:M[k]? with
  |none=>rw [hj] at e1';cases e1'
  |some j =>
   rw [hj] at e1' e2'
   obtain ⟨y,c,f1,f2,f3,f4⟩:=hm.get hj
   have ez:X.N.getD j Str.empty=z:=az e1'
   rw [aM,f1] at ez
   have ez':y=z:=ez
   subst ez'
   have ev:(σ[j]?).join=some v:=az e2'
   have ev':σ[j]?=some (some v):=by
    cases hs:σ[j]? with
    |none=>rw [hs] at ev;cases ev
    |some w' =>
     rw [hs] at ev
     have:w'=some v:=ev
     rw [this]
   obtain ⟨m,hns,hl⟩:=I.loc
   obtain ⟨u,r,l⟩:=hl j y v f1 ev' (.inr (.inl f2))
   refine ⟨u,r,.inr ⟨.inl f3,c,f4,?_⟩⟩
   rcases l with ⟨lk,_⟩|⟨_,c',lc,li⟩
   ·have:X.env.scope.names.lookup y=some .local:=lk
    rw [f2] at this
    cases this
   ·rw [hcc y c f4] at lc
    have:=az lc
    subst this
    exact li.keeps keep
 ·obtain ⟨v,hv⟩:=I.cell y c (hcc y c e)
  exact ⟨v,hv.keeps keep⟩
 ·show upd H s2.heap.objs.size oo C=none
  rw [wy (ee hC)]
  exact hCn
 ·show upd H s2.heap.objs.size oo c=none
  obtain ⟨v,ob,e1,e2⟩:=I.cell y c (hcc y c e)
  rw [wy (aC (ao e1))]
  exact I.freeC y c (hcc y c e)
 ·have hp':p∈X.pn++pins:=(bq.mp hp).elim (λz=>z) λz=>nomatch z
  obtain ⟨e1,e2,e3,e4,e5⟩:=I.pin p hp'
  refine ⟨keep _ _ e1,?_,aC (bV (ao e1) hC),λz=>?_,e5⟩
  ·rw [wy (aC (ao e1))]
   exact e2
  ·rcases ag.mp (I.stkSub p.1 z) with z|z
   ·exact e3 z
   ·exact e4 z
 ·exact I.hok.laid keep (ai _) hD
 ·show ((xs.map λ_=>(none:Option V))++M.map λj=>(σ[j]?).join).length=(xs++M.map λj=>X.N.getD j Str.empty).length
  simp only [aL,aa]
theorem Inv.comp (I:Inv X pins σ H s2)(hc:CapAll X.env cl)(hh:HasAll cl scope.names)(hm:CapIx X scope cl M)(hk:scope.kind=.function)(hC:s2.heap.objs.size<C)
  (keep:∀b o,s2.heap.get? b=some o→h1.get? b=some o) (hn:h1.Ns C λ_=>none) (hD:h1.get? s2.heap.objs.size=some { cls:=.type "list",data:=.seq #[] 0 })
  (hfp:∀b∈fp,uh X pins H b) (hob:∀b∈fp,∃o,s2.heap.get? b=some o) :
  Inv (jt X scope cl x M C s2 H fp (X.pn++pins)) [] (jy M σ none) (upd H s2.heap.objs.size (.lst [])) { s2 with heap:=h1,toks:=tk }:=I.compG (xs:=[x]) hc hh hm hk hC keep hn ⟨aJ _,[],0,.nil,hD⟩ hfp hob
theorem Inv.uncomp {pins':List (Aj×Obj)}{σ':St}{H':Hp}{s':Ab}{h':Heap}(I:Inv X pins σ H s2)(hC:s2.heap.objs.size≤C)(hfp:∀b∈fp,uh X pins H b)
  (J:Inv (jt X scope cl x M C s2 H fp (X.pn++pins)) pins' σ' H' s') (hs:Heap.SameBut C s'.heap h'):Inv X pins σ H' { s' with heap:=h' }:=by
 have hb:=J.base
 have nC:∀b o,s2.heap.get? b=some o→b≠C:=λb o e=>aC (aG (ao e) hC)
 have st:∀b o,b≠C→s'.heap.get? b=some o→h'.get? b=some o:=λb o n e=>(hs.2 b n).trans e
 refine I.call' (s':={ s' with heap:=h' }) (ch:=fp) J.os ⟨λb o e n nb nx=>st b o (nC b o e) (hb.keep b o e n nb nx),λb o e n hb' nx=>?_,hb.free,λb o e nx=>?_,hb.tups,hb.frzs,hb.tbls⟩ ?_ J.bare λb hbf=>?_
 ·obtain ⟨sl,e1⟩:=hb.slot b o e n hb' nx
  exact ⟨sl,st b _ (nC b o e) e1⟩
 ·obtain ⟨o',e1⟩:=hb.there b o e nx
  exact ⟨o',st b _ (nC b o e) e1⟩
 ·intro b u hu
  have fr:H' C=none:=J.free
  refine (J.hok b u hu).stay (λc v hc e=>st c v ?_ e) (λ_ z=>z) λ_ _ z=>z
  rcases hc with rfl|hc
  ·intro z;rw [z,fr] at hu;cases hu
  ·intro z;rw [z,fr] at hc;cases hc
 ·obtain ⟨q1,q2,q3,q4,q5,q6⟩:=hfp b hbf
  exact ⟨q4,q2,q5,q6⟩
end
def qqc (J:It)(M:List Nat)(te:TE)(σ:St)(H1:Hp)(Q:VK):Prop:=∀p,H1 p=none→∃W:Nat→Nat→List V→Hp→Prop,(∃m,W 0 m [] (upd H1 p (.lst []))) ∧
 ∀i m ys H2,W i m ys H2→H2 p=some (.lst ys)∧ys.length<sizeLine∧((J.stop i H2∧Q (.ref p) H2)∨(J.go i H2∧∀v H3,J.yld i H2 v H3 →
  te (jy M σ (some v)) H3 λy H4=>H4 p=some (.lst ys)∧∃m',m'<m∧W (i+1) m' (ys++[y]) (upd H4 p (.lst (ys++[y])))))
def tComp (M:List Nat)(wi:TI)(te:TE):TE:=λσ H Q=>wi σ H λJ H1=>qqc J M te σ H1 Q
theorem qzr {Y:Cx}{tg e:Expr}{k:Nat}{acc:Ag}{it:Aj}{fp:List Aj}{tn:Nat→Heap→Prop}{J:It}{ps:Pos}{REST:Sem PySem.Fin}{post:Result→Ab→Prop}{gg:TG}{pins:List (Aj×Obj)}{σ:St}{V:Nat→Nat→Hp→Prop}{Qd:Hp→Prop}{s0:Ab}{H0:Hp}{n0:Nat}
  (T:Turn Y.prog Y.w Y.K tg J fp it tn) (hc:Y.calm=true) (hx:∀v s,Y.xe v s→False)
  (hturn:compTurn e k (.ref it) acc Y.env=(standAt ps >>= λ_=>pyNext (.ref it) >>= λr=>match r with|none=>pure (.done .next)|some v=>letOwnedTupleGo tg (.ref it) v >>= λ_=>assign tg Y.env v >>= λ_=>REST))
  (hun:Y.A.under (.compLoop e k (.ref it) acc Y.env)=Y.A) (hden:(model Y.prog Y.w).den (.compLoop e k (.ref it) acc Y.env)=((compTurn e k (.ref it) acc Y.env).onRaise λz=>do noteFrame z Y.env;theTreesLotGoes z))
  (hg:PG Y tg gg) (fok:∀H2:Hp,(∀b∈fp,H2 b=none)→∀b∈fp,uh Y pins H2 b)
  (hV:∀i n H2,V i n H2→(J.stop i H2∧Qd H2)∨(J.go i H2∧∀v H3,J.yld i H2 v H3→∃Z:St→Hp→Prop,gg v σ H3 Z∧∀σ4 H4,Z σ4 H4→(σ.length=σ4.length∧∀(k:Nat) z,σ[k]?=some (some z)→σ4[k]?=some (some z))∧∀pins' s',Inv Y pins' σ4 H4 s' →
   wpAny (model Y.prog Y.w) Y.A REST (λr s5=>r=Fin.again (.compLoop e k (.ref it) acc Y.env)∧∃H5,Inv Y pins' σ4 H5 s5∧∃n',n'<n∧V (i+1) n' H5) Y.xe s'))
  (fin:∀H2 s4,Inv Y pins σ H2 s4→Qd H2→post (.ok .next) s4) (I:Inv Y pins σ H0 s0) (v0:V 0 n0 H0) (t0:tn 0 s0.heap) (nf:∀b∈fp,H0 b=none) :
  codeAny (model Y.prog Y.w) Y.A (.compLoop e k (.ref it) acc Y.env) post s0:=by
 refine codeAny_loop rfl (λn s3=>∃i H2,V i n H2∧Inv Y pins σ H2 s3∧tn i s3.heap∧∀b∈fp,H2 b=none) (λn s3 hI=>?_) n0 ⟨0,H0,v0,I,t0,nf⟩
 obtain ⟨i,H2,w,J2,t,nf2⟩:=hI
 rw [hun,hden]
 refine wpAny_noted ?_
 rw [hturn]
 refine ac (ff (ac ?_))
 rcases hV i n H2 w with ⟨hst,hq⟩|⟨hgo,hy⟩
 ·refine bg (T.done Y rfl rfl rfl hc i pins s3 _ H2 (λ_ _=>False) J2 (fok H2 nf2) t hst) (λr s4 hr=>?_) λ_ _ z=>z.elim
  obtain ⟨rfl,J4⟩:=hr
  exact am (fin H2 s4 J4 hq)
 ·refine bg (T.item Y rfl rfl rfl hc i pins s3 _ H2 (λ_ _=>False) J2 (fok H2 nf2) t hgo) (λr s4 hr=>?_) λ_ _ z=>z.elim
  obtain ⟨u,rfl,hw⟩:=hr
  refine ac (bg hw (λ_ s5 hr5=>?_) λ_ _ z=>z.elim)
  obtain ⟨v,H3,J5,rv,yl,t5,nf⟩:=hr5
  obtain ⟨Z,hz,hZ⟩:=hy v H3 yl
  refine ac (bg (hg _ s5 _ H3 v u _ (J5.pinned (fok H3 nf) (T.obj _ _ t5)) rv hz) (λ_ s6 hr6=>?_) λv s z=>(hx v s z).elim)
  obtain ⟨σ6,H6,J6,z6⟩:=hr6
  obtain ⟨⟨hl,hw6⟩,hR⟩:=hZ σ6 H6 z6
  refine bg (hR _ s6 J6) (λr s7 hr7=>?_) λv s z=>(hx v s z).elim
  obtain ⟨rfl,H7,J7,n',hn',v7⟩:=hr7
  refine ⟨rfl,n',hn',i+1,H7,v7,(J7.unpinned (pins:=pins)).weak hl hw6,?_,?_⟩
  ·exact T.keep _ _ _ t5 λb hb o e=>(J7.pin (b,o) (aT _ (aT _ (uc hb e)))).1
  ·intro b hb
   obtain ⟨o,e,_⟩:=T.obj _ _ t5 b hb
   exact (J7.pin (b,o) (aT _ (aT _ (uc hb e)))).2.1
section
variable {Y:Cx}{elt cd:Expr}{te:TE}{tt:TT}{c:Code}{p:Aj}{σ:St}{H:Hp}{pins:List (Aj×Obj)}{s:Ab}
def appS (elt:Expr)(acc:Ag)(env:Env)(c:Code):Sem PySem.Fin:=(eval elt env >>= λx=>call (.builtin "list.append") [acc,x] >>= λ_=>pure ()) >>= λ_=>again c
theorem wjq {ys:List V}{N:List V→Hp→Prop}(hx:∀v s,Y.xe v s→False)(he:PE Y elt te)(J:Inv Y pins σ H s)(hz:ys.length<sizeLine)(h:te σ H λy H4=>H4 p=some (.lst ys)∧N (ys++[y]) (upd H4 p (.lst (ys++[y])))) :
  wpAny (model Y.prog Y.w) Y.A (appS elt (.ref p) Y.env c) (λr s5=>r=Fin.again c∧∃H5,Inv Y pins σ H5 s5∧∃zs,N zs H5) Y.xe s:=by
 refine ac (ac (bg (he _ s _ H _ J h) (λyv s7 hr7=>?_) λ_ _ z=>z))
 obtain ⟨y,H4,J7,ry,hp4,n4⟩:=hr7
 refine ac (bg (j0 (X:=Y) _ s7 _ H4 (.ref p) [y] (.ref p) [yv] (λ_ H8=>H8=upd H4 p (.lst (ys++[y]))) J7 rfl (.cons ry .nil) ⟨_,ys,y,rfl,rfl,hp4,hz,rfl⟩) (λ_ s8 hr8=>?_) λ_ _ z=>z)
 obtain ⟨_,H8,J8,_,rfl⟩:=hr8
 exact am (am ⟨rfl,_,J8,_,n4⟩)
end
section
variable {X:Cx}{elt iter cd:Expr}{x:Str}{px pos:Pos}{scope:Scope}{cl:List (Str×Aj)}{M:List Nat}{wi:TI}{te:TE}{tt:TT}{pins:List (Aj×Obj)}{σ:St}
theorem ww1 {N:List Str}{C:Aj}{s2:Ab}{H1:Hp}{fp:List Aj}(hcap:CapAll X.env cl)(I2:Inv X pins σ H1 s2)(hlt:s2.heap.objs.size<C)(hfp:∀b∈fp,uh X pins H1 b)(hbl:∀b∈fp,b<s2.heap.objs.size)(H2:Hp)(hn:∀b∈fp,H2 b=none) :
  ∀b∈fp,uh { X with N:=N,s₀:=s2,H₀:=H1,env:=compEnvC scope cl C X.env,outer:=X.stack,ex:=fp,fn:=λ_=>false,pn:=X.pn++pins,xe:=λ_ _=>False } [] H2 b:=λb hb=>by
 obtain ⟨q1,q2,q3,q4,q5,q6⟩:=hfp b hb
 refine ⟨hn b hb,aC (bV (hbl b hb) hlt),λz=>?_,.inl hb,λy c e=>q5 y c (hcap.look e),λp hp=>q6 p ((bq.mp hp).elim (λz=>z) λz=>nomatch z)⟩
 rcases ag.mp (I2.stkSub b z) with z|z
 ·exact q2 z
 ·exact q3 z
theorem wzb {tg:Expr}{ifs:List Expr}{rest:List Comprehension}(hclos:closureFor scope X.env=pure cl)(hhas:HasAll cl scope.names)(hk:scope.kind=.function)
  (hnames:∀y∈scope.names,y.2=.local→scope.names.lookup y.1=some .local) (hi:PI X tg iter wi) (hs:∀z,foldedSetIterable iter X.env z=pure z)
  {use:Option (Ag→Sem Unit)} {QQ:Ag→Ab→Prop} {s:Ab} {H:Hp} {ps:Pos} {R:It→Hp→Prop} (I:Inv X pins σ H s) (h:wi σ H R)
  (go:∀(it:Aj) (fp:List Aj) (tn:Nat→Heap→Prop) (J:It) (H1:Hp) (s2:Ab) (C:Aj) (h3:Heap) (tk:Nat),Inv X pins σ H1 s2→Turn X.prog X.w X.K tg J fp it tn→tn 0 h3→(∀b∈fp,uh X pins H1 b)→(∀b∈fp,b<s2.heap.objs.size)→(∀b∈fp,∃o,s2.heap.get? b=some o)→R J H1→s2.heap.objs.size<C →
   (∀b o,s2.heap.get? b=some o→h3.get? b=some o)→(h3.Ns C λ_=>none)→h3.get? s2.heap.objs.size=some { cls:=.type "list",data:=.seq #[] 0 } →
   codeAny (model X.prog X.w) X.A (.compLoop (.ListComp elt (⟨tg,iter,ifs,0⟩::rest) scope pos) 0 (.ref it) (.ref s2.heap.objs.size) (compEnvC scope cl C X.env)) (compPost (model X.prog X.w) X.A X.xe use QQ (.ref s2.heap.objs.size) C) { s2 with heap:=h3,toks:=tk }) :
  wpAny (model X.prog X.w) X.A (comprehension (.ListComp elt (⟨tg,iter,ifs,0⟩::rest) scope pos) scope X.env ps (newList []) false (eval iter X.env) use) QQ X.xe s:=by
 refine wpAny_comprehension_free (use:=use) rfl hs hclos hk hnames ?_
 refine thn (hi pins s σ H _ I h) λv s1 h1=>thn h1 λitv s2 h2=>?_
 obtain ⟨it,fp,tn,J,H1,rfl,I2,T,t0,hfp,hR⟩:=h2
 refine cz ?_
 refine wpAny_newFunctionEnv hhas.nocell (by intro y hy;cases hy) (λh3 hns hsb=>?_) hk
 dsimp only at hns hsb ⊢
 generalize hH2:s2.heap.push { cls:=.type "list",dict:=none,data:=.seq ([]:List Ag).toArray }=G2 at hns hsb ⊢
 have hC:G2.objs.size=s2.heap.objs.size+1:=by rw [←hH2,eI]
 have hlt:s2.heap.objs.size<G2.objs.size:=by lia
 have keep:∀b o,s2.heap.get? b=some o→h3.get? b=some o:=λb o e=>by
  rw [hsb.2 b (aC (bV (ao e) hlt))]
  exact ae _ (hH2▸ae _ e)
 have hD:h3.get? s2.heap.objs.size=some { cls:=.type "list",data:=.seq #[] 0 }:=by
  rw [hsb.2 _ (aC hlt)]
  exact ae _ (hH2▸aw _ rfl)
 have t3:=T.keep 0 _ _ t0 λb _ o e=>keep b o e
 have loop:=λtk=>go it fp tn J H1 s2 G2.objs.size h3 tk I2 T t3 hfp (λb hb=>let ⟨o,e,_⟩:=T.obj 0 _ t0 b hb;ao e) (λb hb=>let ⟨o,e,_⟩:=T.obj 0 _ t0 b hb;⟨o,e⟩) hR hlt keep hns hD
 exact codeAny_compStart_list (loop _) (T.self _ 0 _ _ _ t3 (loop _))
theorem qw1 (M:List Nat)(σ:St)(v:V):(jy M σ none).length=(jy M σ (some v)).length∧∀(k:Nat) z,(jy M σ none)[k]?=some (some z)→(jy M σ (some v))[k]?=some (some z):=⟨rfl,λk z ez=>by
 cases k with
 |zero=>cases ez
 |succ k=>exact ez⟩
end
section
variable {X:Cx}{elt iter:Expr}{x:Str}{px pos:Pos}{scope:Scope}{cl:List (Str×Aj)}{M:List Nat}{wi:TI}{te:TE}
theorem wvb (hc:X.calm=true)(hclos:closureFor scope X.env=pure cl)(hcap:CapAll X.env cl)(hhas:HasAll cl scope.names)(hix:CapIx X scope cl M)(hk:scope.kind=.function)
  (hnames:∀y∈scope.names,y.2=.local→scope.names.lookup y.1=some .local) (hx:scope.names.lookup x=some .local) (hnd:(qjm X x M).Nodup) (hi:PI X (.Name x px) iter wi)
  (he:∀C s2 H2 fp pn,PE (jt X scope cl x M C s2 H2 fp pn) elt te) (hs:∀z,foldedSetIterable iter X.env z=pure z)
  {use:Option (Ag→Sem Unit)} {QQ:Ag→Ab→Prop} {pins:List (Aj×Obj)} {s:Ab} {σ:St} {H:Hp} {Q:VK} {ps:Pos} (I:Inv X pins σ H s) (h:wi σ H λJ H1=>qqc J M te σ H1 Q)
  (fin:∀(C:Aj) (s2 s4:Ab) (H1 H2:Hp) (fp:List Aj),Inv X pins σ H1 s2→s2.heap.objs.size<C→(∀b∈fp,uh X pins H1 b)→Inv (jt X scope cl x M C s2 H1 fp (X.pn++pins)) [] (jy M σ none) H2 s4→Q (.ref s2.heap.objs.size) H2 →
   compPost (model X.prog X.w) X.A X.xe use QQ (.ref s2.heap.objs.size) C (.ok .next) s4) :
  wpAny (model X.prog X.w) X.A (comprehension (.ListComp elt [⟨.Name x px,iter,[],0⟩] scope pos) scope X.env ps (newList []) false (eval iter X.env) use) QQ X.xe s:=by
 refine wzb hclos hhas hk hnames hi hs I h λit fp tn J H1 s2 C h3 tk I2 T t3 hfp hbl hob hR hlt keep hns hD=>?_
 obtain ⟨W,⟨m0,w0⟩,hW⟩:=hR s2.heap.objs.size (I2.hok.fresh (ai _))
 have hxl:(relabel scope X.env).names.lookup x=some .local:=lookup_relabel_local hx
 refine qzr (Y:=jt X scope cl x M C s2 H1 fp (X.pn++pins)) (V:=λi n H2=>∃ys,W i n ys H2) (Qd:=Q (.ref s2.heap.objs.size)) (REST:=appS elt (.ref s2.heap.objs.size) (compEnvC scope cl C X.env) _) T hc (λ_ _ z=>z) (compTurn_list1 ..) rfl rfl (xq (i:=0) hnd rfl (.inl hxl) (.inr hxl)) (ww1 hcap I2 hlt hfp hbl) (λi n H2 ⟨ys,w⟩=>?_) (λH2 s4 J4 q=>fin C s2 s4 H1 H2 fp I2 hlt hfp J4 q) (I2.comp hcap hhas hix hk hlt keep hns hD hfp hob) ⟨[],w0⟩ t3 λb hb=>by rw [wy (aC (hbl b hb))];exact (hfp b hb).1
 obtain ⟨hp,hz,hcase⟩:=hW i n ys H2 w
 refine hcase.imp id λ⟨hgo,hy⟩=>⟨hgo,λv H3 yl=>⟨λσ4 H4=>σ4=jy M σ (some v)∧H3=H4,⟨rfl,rfl⟩,λ_ _ e=>?_⟩⟩
 obtain ⟨rfl,rfl⟩:=e
 refine ⟨qw1 M σ v,λpins' s' J=>?_⟩
 refine bg (wjq (N:=λzs H5=>∃m',m'<n∧W (i+1) m' zs H5) (λ_ _ z=>z) (he _ _ _ _ _) J hz (hy v H3 yl)) (λr s5 ⟨e,H5,J5,zs,m',hm,w'⟩=>⟨e,H5,J5,m',hm,zs,w'⟩) λ_ _ z=>z
theorem jz (hc:X.calm=true)(hclos:closureFor scope X.env=pure cl)(hcap:CapAll X.env cl)(hhas:HasAll cl scope.names)(hix:CapIx X scope cl M)(hk:scope.kind=.function)
  (hnames:∀y∈scope.names,y.2=.local→scope.names.lookup y.1=some .local) (hx:scope.names.lookup x=some .local) (hnd:(qjm X x M).Nodup) (hi:PI X (.Name x px) iter wi)
  (he:∀C s2 H2 fp pn,PE (jt X scope cl x M C s2 H2 fp pn) elt te) (hs:autoParam (∀z,foldedSetIterable iter X.env z=pure z) aU3._auto_1) :
  PE X (.ListComp elt [⟨.Name x px,iter,[],0⟩] scope pos) (tComp M wi te):=by
 intro pins s σ H Q I h
 rw [eval_ListComp]
 refine wvb hc hclos hcap hhas hix hk hnames hx hnd hi he hs (use:=none) I h λC s2 s4 H1 H2 fp I2 hlt hfp J4 hq=>?_
 obtain ⟨m,hn,_⟩:=J4.loc
 exact ⟨m,hn,λh' hs'=>⟨.ref s2.heap.objs.size,H2,I2.uncomp (cx hlt) hfp J4 hs',rfl,hq⟩⟩
theorem Inv.but {pins:List (Aj×Obj)}{σ:St}{H:Hp}{s:Ab}{h':Heap}{C:Aj}(I:Inv X pins σ H s)(hn:H C=none)(h1:X.s₀.heap.objs.size≤C)(h2:C≠X.env.locals)(h3:∀y c,X.env.cells.lookup y=some c→c≠C)(h4:∀p∈X.pn++pins,p.1≠C)
  (hs:Heap.SameBut C s.heap h'):Inv X pins σ H { s with heap:=h' }:=by
 have st:∀b o,b≠C→s.heap.get? b=some o→h'.get? b=some o:=λb o n e=>(hs.2 b n).trans e
 have nc:∀b,b∉[C]→b≠C:=λb z e=>z (by rw [e];exact .head _)
 refine I.call' (s':={ s with heap:=h' }) (ch:=[C]) rfl ⟨λb o e n _ nx=>st b o (nc b nx) e,λb o e n _ nx=>⟨o.slots,st b o (nc b nx) e⟩,λb o e n _=>n,λb o e nx=>⟨o,st b o (nc b nx) e⟩,λ_ _ e=>e,λ_ _ _ e=>e,λb ps e=>⟨#[],by rw [e];simp⟩⟩ ?_ I.bare λb hb=>?_
 ·intro b u hu
  refine (I.hok b u hu).stay (λc v hc e=>st c v ?_ e) (λ_ z=>z) λ_ _ z=>z
  rcases hc with rfl|hc
  ·intro z;rw [z,hn] at hu;cases hu
  ·intro z;rw [z,hn] at hc;cases hc
 ·rw [ay.mp hb]
  exact ⟨.inr h1,h2,h3,h4⟩
end
theorem ym {M:List Nat}{lo:Int}{n:Nat}{te:TE}{σ:St}{H:Hp}{Q:VK}(f:Nat→V)(hn:n≤1000000)(he:∀(i:Nat) (H':Hp) (R:VK),i<n→Same H H'→R (f i) H'→te (jy M σ (some (.int (lo+i)))) H' R)
  (k:∀p,H p=none→Q (.ref p) (upd H p (.lst ((List.range n).map f)))):qqc (Itr lo n) M te σ H Q:=by
 intro p np
 refine ⟨λi m ys H2=>i≤n∧m=n-i∧ys=(List.range i).map f∧H2=upd H p (.lst ys),⟨n,aJ _,rfl,rfl,rfl⟩,?_⟩
 rintro i m ys H2 ⟨hi,rfl,rfl,rfl⟩
 refine ⟨qb,?_,?_⟩
 ·rw [aa,aN]
  have:(1000000:Nat)<sizeLine:=by decide
  lia
 ·by_cases hlt:i<n
  ·refine .inr ⟨hlt,?_⟩
   rintro v H3 ⟨rfl,rfl⟩
   refine he i (upd H p (.lst ((List.range i).map f))) _ hlt (Same.upd np) ⟨qb,n-(i+1),⋯,⋯,rfl,?_,?_⟩
   ·rw [du,aO]
    rfl
   ·rw [Q0]
  ·have:i=n:=by lia
   subst this
   exact .inl ⟨ai _,k p np⟩
theorem qzq {K:Aa}{M:List Nat}{a:Aj}{xs:List V}{te:TE}{σ:St}{H:Hp}{Q:VK}(f:V→V)(hS:SqL K H a xs)(hn:xs.length≤1000000)(he:∀(x:V) (H':Hp) (R:VK),x∈xs→Same H H'→R (f x) H'→te (jy M σ (some x)) H' R)
  (k:∀p,H p=none→Q (.ref p) (upd H p (.lst (xs.map f)))):qqc (Itl K a) M te σ H Q:=by
 intro p np
 refine ⟨λi m ys H2=>i≤xs.length∧m=xs.length-i∧ys=(xs.take i).map f∧H2=upd H p (.lst ys),⟨xs.length,aJ _,rfl,rfl,rfl⟩,?_⟩
 rintro i m ys H2 ⟨hi,rfl,rfl,rfl⟩
 have hS':SqL K (upd H p (.lst ((xs.take i).map f))) a xs:=Same.sql (Same.upd np) hS
 refine ⟨qb,?_,?_⟩
 ·rw [aa,bD]
  have:(1000000:Nat)<sizeLine:=by decide
  lia
 ·by_cases hlt:i<xs.length
  ·have hx:xs[i]?=some xs[i]:=al hlt
   refine .inr ⟨⟨xs,_,hS',hx⟩,?_⟩
   rintro v H3 ⟨rfl,hv⟩
   have e:=hv xs hS'
   rw [hx] at e
   have e':=az e
   subst e'
   refine he _ _ _ (bE hlt) (Same.upd np) ⟨qb,xs.length-(i+1),⋯,⋯,rfl,?_,?_⟩
   ·rw [List.take_succ,hx,aO]
    rfl
   ·rw [Q0]
  ·have hi':i=xs.length:=by lia
   subst hi'
   refine .inl ⟨⟨xs,hS',ai _⟩,?_⟩
   rw [cF]
   exact k p np
end L2
namespace L2
open PySem PySem.Spec PyProof.Rows
section
variable {X:Cx}
theorem qz6 {pins:List (Aj×Obj)}{σ:St}{H:Hp}{s:Ab}{p:Aj}{ns:List Int}(I:Inv X pins σ H s)(hS:SqL X.K H p (ns.map V.int)) :
  ∃ts:Array (Int×Tok),s.heap.IsList p (intItems ts)∧ns=ts.toList.map (·.1):=by
 obtain ⟨its,rv,⟨o,n,e1,e2,e3,e4⟩,hz⟩:=I.list hS
 have hi:=wqk rv
 obtain ⟨ts,ht⟩:=hi.allInts.items
 refine ⟨ts,⟨o,e1,e2,n,by rw [←ht];exact e4⟩,?_⟩
 have a1:=hi.numsOf
 have a2:=nums_intItems (xs:=ts)
 rw [←ht] at a2
 exact a1.symm.trans a2
theorem qxc (hc:X.calm=true):vh X (.builtin "min") (λxs H Q=>∃(p:Aj) (ns:List Int),xs=[.ref p]∧SqL X.K H p (ns.map V.int)∧0<ns.length∧∀m,m∈ns→(∀a∈ns,m≤a)→Q (.int m) H):=by
 intro pins s σ H xs us Q I r h
 obtain ⟨p,ns,rfl,hS,hne,q⟩:=h
 obtain ⟨u,rfl,ru⟩:=jr r
 cases (show u=Value.ref p from ru)
 obtain ⟨ts,hl,he⟩:=qz6 I hS
 have hsz:ts.size=ns.length:=by rw [he,aa,aW]
 refine min_intList (I.ok.hd hc) hl ⋯ λv h' tk hv hk=>?_
 obtain ⟨t,rfl⟩:=intItems_at hv
 obtain ⟨b1,b2⟩:=argBest_lt (numAt ts) (ts.size-1)
 refine ⟨.int _,H,I.kept hk,⟨t,rfl⟩,q _ ?_ λa ha=>?_⟩
 ·rw [he,numAt_eq]
  refine getD_mem ?_
  rw [←he,←hsz]
  lia
 ·rw [he] at ha
  obtain ⟨j,hj,rfl⟩:=mem_getD ha
  rw [←he,←hsz] at hj
  rw [←numAt_eq]
  exact b2 j ⋯
theorem qxw (hc:X.calm=true):vh X (.builtin "max") (λxs H Q=>∃(p:Aj) (ns:List Int),xs=[.ref p]∧SqL X.K H p (ns.map V.int)∧0<ns.length∧∀m,m∈ns→(∀a∈ns,a≤m)→Q (.int m) H):=by
 intro pins s σ H xs us Q I r h
 obtain ⟨p,ns,rfl,hS,hne,q⟩:=h
 obtain ⟨u,rfl,ru⟩:=jr r
 cases (show u=Value.ref p from ru)
 obtain ⟨ts,hl,he⟩:=qz6 I hS
 have hsz:ts.size=ns.length:=by rw [he,aa,aW]
 refine max_intList (I.ok.hd hc) hl ⋯ λv h' tk hv hk=>?_
 obtain ⟨t,rfl⟩:=intItems_at hv
 obtain ⟨b1,b2⟩:=argBest_gt (numAt ts) (ts.size-1)
 refine ⟨.int _,H,I.kept hk,⟨t,rfl⟩,q _ ?_ λa ha=>?_⟩
 ·rw [he,numAt_eq]
  refine getD_mem ?_
  rw [←he,←hsz]
  lia
 ·rw [he] at ha
  obtain ⟨j,hj,rfl⟩:=mem_getD ha
  rw [←he,←hsz] at hj
  rw [←numAt_eq]
  exact b2 j ⋯
theorem qjb:∀ {bs:List Bool} {its:List Ag},Vals (bs.map V.bl) its→its=bs.map Value.bool
 |[],_,.nil=>rfl
 |b::bs,_,.cons r t=>by
  have e:_=Value.bool b:=r
  rw [aA,←qjb t,e]
theorem wx4 (bs:List Bool):(List.range bs.length).all (λi=>bs.getD i true)=bs.all id:=by
 rw [cM,bF,bF]
 constructor
 ·intro h b hb
  obtain ⟨i,hi,rfl⟩:=d6 hb
  have:=h i (aS.mpr hi)
  rw [aM,al hi] at this
  exact this
 ·intro h i hi
  have hi':=aS.mp hi
  rw [aM,al hi']
  exact h _ (bE hi')
theorem Q8 (hc:X.calm=true):vh X (.builtin "all") (λxs H Q=>∃(p:Aj) (bs:List Bool),xs=[.ref p]∧SqL X.K H p (bs.map V.bl)∧Q (.bl (bs.all id)) H):=by
 intro pins s σ H xs us Q I r h
 obtain ⟨p,bs,rfl,hS,q⟩:=h
 obtain ⟨u,rfl,ru⟩:=jr r
 cases (show u=Value.ref p from ru)
 obtain ⟨its,rv,⟨o,n,e1,e2,e3,e4⟩,hz⟩:=I.list hS
 have hits:=qjb rv
 have hl:s.heap.IsList p its.toArray:=⟨o,e1,e2,n,e4⟩
 have hlt:p<s.heap.objs.size:=ao e1
 refine call_all_walk (wpAny_pyIter_list hl ?_)
 refine ⟨s.heap.objs.size,_,_,_,_,_,λi=>bs.getD i true,rfl,Walks.list (A:=X.A.in1) (I.ok.hd hc) _ p (aC hlt) its.toArray,⟨⟨_,aw _ rfl,rfl,rfl⟩,hl.push _⟩,λi v s' Q' E' hP hQ=>?_,λh' tk hk=>?_⟩
 ·have hv:its[i]?=some v:=by simpa using hP
  rw [hits,aB] at hv
  cases hb:bs[i]? with
  |none=>rw [hb] at hv;cases hv
  |some b =>
   rw [hb] at hv
   have ev:Value.bool b=v:=az hv
   subst ev
   refine cy ?_
   have e2:bs.getD i true=b:=by rw [aM,hb];rfl
   have hQ':Q' (bs.getD i true) s':=hQ
   rw [e2] at hQ'
   exact hQ'
 ·have hlen:its.toArray.size=bs.length:=by rw [hits];simp
  rw [hlen,wx4]
  refine ⟨.bl _,H,I.kept λb ob e=>hk b ob (λhm=>?_) (ae _ e),rfl,q⟩
  have z:b=s.heap.objs.size:=by simpa using hm
  exact bv _ (z▸ao e)
end
structure MCal (P:Ac)(w:Ah)(K:Aa)(mg:Str→Option Ag)(base:Heap)(C:Aj)(m:Str)(k:Nat)(sp:Sp):Prop where
 ex:∃f fd ps,Meth K C m f∧FnOk P w K mg base (CXE P w) k f fd ps sp∧Binds K fd ps []
structure CCal (P:Ac)(w:Ah)(K:Aa)(mg:Str→Option Ag)(base:Heap)(x:Str)(C:Aj)(k:Nat)(sp:Sp):Prop where
 ex:∃f fd ps,mg x=some (.ref C)∧Mk K C f∧FnOk P w K mg base (CXE P w) k f fd ps sp∧Binds K fd ps []
structure MethIn (K:Aa)(C:Aj)(m qual:Str)(st:Stmt):Prop where
 ex:∃f fd,W.findIn K (.ref C) m=some (some (.ref f))∧W.isFn K (.ref f)=true∧Fun K m qual st f fd
theorem wuf {K:Aa}{C:Aj}{m qual:Str}{st:Stmt}{f:Aj}{oc:Ag}{od an:Option Aj}{osl:Array (Option Ag)}{kV doc pm cdv ct:Ag}(a:W.findIn K (.ref C) m=some (some (.ref f)))(i:W.isFn K (.ref f)=true)
  (l:K.lookup f=some ⟨oc,od,.func (W.fnOf m qual (jb st) (kh st) (wu st) .none kV doc pm an cdv ct),osl⟩) (c:W.codeIn K cdv qual=true) (k:W.keepIn K (.ref f)=true):MethIn K C m qual st:=⟨_,_,a,i,wv7 l c k⟩
def zq (x qual:Str)(st:Stmt)(ps:List Str):Prop:=∀(kV doc pm:Ag) (an:Option Aj) (cdv ct:Ag) (us:List Ag),us.length=ps.length→bindArgs (W.fnOf x qual (jb st) (kh st) (wu st) .none kV doc pm an cdv ct) ⟨us,[]⟩=pure (ps.zip us)
section
variable {P:Ac}{w:Ah}{K:Aa}{mg:Str→Option Ag}{base:Heap}{C:Aj}
theorem MethIn.cal {m qual:Str}{st:Stmt}{ps:List Str}{k:Nat}{sp:Sp}(d:MethIn K C m qual st)(b:zq m qual st ps)(ok:∀f fd,Fun K m qual st f fd→FnOk P w K mg base (CXE P w) k f fd ps sp):MCal P w K mg base C m k sp:=by
 obtain ⟨f,fd,a,i,F⟩:=d.ex
 exact ⟨f,fd,ps,⟨a,i,F.kp⟩,ok f fd F,F.binds b⟩
theorem MethIn.ccal {x qual:Str}{st:Stmt}{ps:List Str}{k:Nat}{sp:Sp}(d:MethIn K C "__init__" qual st)(hm:mg x=some (.ref C))(mk:W.makesIn K C=true)(kc:W.keepIn K (.ref C)=true)(b:zq "__init__" qual st ps)
  (ok:∀f fd,Fun K "__init__" qual st f fd→FnOk P w K mg base (CXE P w) k f fd ps sp):CCal P w K mg base x C k sp:=by
 obtain ⟨f,fd,a,i,F⟩:=d.ex
 exact ⟨f,fd,ps,hm,⟨mk,a,i,kc⟩,ok f fd F,F.binds b⟩
end
section
variable {X:Cx}{C:Aj}{x m:Str}{k:Nat}{sp:Sp}{E:St→XK}{p pos apos:Pos}{e o:Expr}{es:List Expr}{ta:TE}{t:TA}
theorem qqp (c:CCal X.prog X.w X.K X.mg X.base x C k sp)(hr:Room (k+1) X.A)(hg:Gl X x)(hx:yq X E)
  (ha:PA X (e::es) t) (hdb:autoParam ((x==("__debug__" : Str))=false) aU1._auto_1) (he:autoParam (starEach (e::es) X.env=(false,eval e X.env)::starEach es X.env) aU4._auto_1) (hpl:autoParam ((backTo pos (starEach es X.env)).any (·.1)=false) aU4._auto_1) :
  PE X (.Call (.Name x p) (e::es) [] pos) (wqs C sp E t):=by
 obtain ⟨f,fd,ps,hm,M,F,b⟩:=c.ex
 exact wvc M F hr hg hm b hx ha hdb he hpl
theorem wj2 {pl:Sem Bool}(he:PE X o ta)(cl:Cls X.K C)(c:MCal X.prog X.w X.K X.mg X.base C m k sp)(hr:Room k X.A)(hx:yq X E)(ha:PA X (e::es) t)
  (hst:autoParam (starEach (e::es) X.env=(false,eval e X.env)::starEach es X.env) aU4._auto_1) (hpl:autoParam ((backTo pos (starEach es X.env)).any (·.1)=false) aU4._auto_1)
  (ht:autoParam (eval (.Call (.Attribute o m apos) (e::es) [] pos) X.env=(do
   let ov ←eval o X.env
   standAt apos.atName
   let (f,first) ←holding [ov] (getMethod ov m pl)
   callWith pos f first (backTo pos (starEach (e::es) X.env)) (backToKw pos (keywordEach [] X.env)))) aU4._auto_1) :
  PE X (.Call (.Attribute o m apos) (e::es) [] pos) (qq1 C m sp E ta t):=by
 obtain ⟨f,fd,ps,hm,F,b⟩:=c.ex
 exact wkg he cl hm F hr b hx ha hst hpl ht
theorem zn {pl:Sem Bool}(he:PE X o ta)(cl:Cls X.K C)(c:MCal X.prog X.w X.K X.mg X.base C m k sp)(hr:Room k X.A)(hx:yq X E)
  (ht:autoParam (eval (.Call (.Attribute o m apos) [] [] pos) X.env=(do
   let ov ←eval o X.env
   standAt apos.atName
   let (f,first) ←holding [ov] (getMethod ov m pl)
   callWith pos f first (backTo pos (starEach [] X.env)) (backToKw pos (keywordEach [] X.env)))) aU4._auto_1) :
  PE X (.Call (.Attribute o m apos) [] [] pos) (qq1 C m sp E ta Q5):=by
 obtain ⟨f,fd,ps,hm,F,b⟩:=c.ex
 exact wzm he cl hm F hr b hx ht
end
end L2
namespace L2
open PySem
def hAt (hs:List Int)(k:Int):Int:=hs.getD k.toNat 0
def kF (hs:List Int)(t b:Int):Int:=if (hs.length:Int)-1-1<t/b then (hs.length:Int)-1-1 else t/b
def j6 (hs:List Int)(t b:Int):Int:=hAt hs (kF hs t b)*b+(hAt hs (kF hs t b+1)-hAt hs (kF hs t b))*(t-kF hs t b*b)
theorem wkf {hs:List Int}{t b:Int}(hl:2≤hs.length)(hb:1≤b)(h0:0≤t):0≤kF hs t b∧kF hs t b<(hs.length:Int)-1:=by
 have h:=fM h0 (show (0:Int)≤b by lia)
 unfold kF
 split <;> lia
theorem wj9 {hs:List Int}{t b c:Int}(hc:1≤c):kF hs (t*c) (b*c)=kF hs t b:=by
 unfold kF
 rw [cO _ _ (show 0<c by lia)]
theorem qyc {hs:List Int}{t b c:Int}(hc:1≤c):j6 hs (t*c) (b*c)=j6 hs t b*c:=by
 unfold j6
 rw [wj9 hc]
 generalize hAt hs (kF hs t b)=u
 generalize hAt hs (kF hs t b+1)=v
 generalize kF hs t b=k
 grind
theorem div_in {k t b:Int}(hb:1≤b)(h1:k*b≤t)(h2:t<(k+1)*b):t/b=k:=by
 have a1:k≤t/b:=(Int.le_ediv_iff_mul_le ⋯).mpr h1
 have a2:t/b<k+1:=(Int.ediv_lt_iff_lt_mul ⋯).mpr h2
 lia
theorem qjv {hs:List Int}{k t b:Int}(hk:0≤k)(hk2:k<(hs.length:Int)-1)(hb:1≤b)(h1:k*b≤t)(h2:t≤(k+1)*b) :
  j6 hs t b=hAt hs k*b+(hAt hs (k+1)-hAt hs k)*(t-k*b):=by
 by_cases hlt:t<(k+1)*b
 ·have e:=div_in hb h1 hlt
  have ek:kF hs t b=k:=by
   unfold kF
   rw [e]
   split <;> lia
  unfold j6
  rw [ek]
 ·have et:t=(k+1)*b:=by lia
  have e:t/b=k+1:=by
   rw [et]
   exact Int.mul_ediv_cancel _ ⋯
  by_cases hn:(hs.length:Int)-1-1<k+1
  ·have ek:kF hs t b=k:=by
    unfold kF
    rw [e,ak hn]
    lia
   unfold j6
   rw [ek]
  ·have ek:kF hs t b=k+1:=by
    unfold kF
    rw [e,af hn]
   unfold j6
   rw [ek,et]
   generalize hAt hs k=u
   generalize hAt hs (k+1)=v
   generalize hAt hs (k+1+1)=z
   grind
def Qu (hs:List Int)(t b:Int):Int×Int:=wn (j6 hs t b) b
theorem qzg {hs:List Int}{t b:Int}(hb:1≤b):Qu hs (wn t b).1 (wn t b).2=Qu hs t b:=by
 unfold Qu
 have hg:=yy (t:=t) hb
 have e1:(wn t b).1*gOf t b=t:=by rw [dG];exact qyr
 have e2:(wn t b).2*gOf t b=b:=by rw [dG];exact qq0 hb
 have h:=qyc (hs:=hs) (t:=(wn t b).1) (b:=(wn t b).2) hg
 rw [e1,e2] at h
 rw [h]
 conv=>rhs;rw [←e2]
 rw [e2]
 have:=Zk (t:=j6 hs (wn t b).1 (wn t b).2) (b:=(wn t b).2) (Qt hb) hg
 rw [e2] at this
 exact this.symm
theorem Jw {t b:Int}(hb:1≤b):(wn t b).1<0↔t<0:=by
 have hg:=yy (t:=t) hb
 have e1:gOf t b*(wn t b).1=t:=qyr
 constructor
 ·intro h
  have:=eM h (show 0<gOf t b by lia)
  rw [e1,Int.mul_zero] at this
  exact this
 ·intro h
  rcases cA (wn t b).1 0 with z|z
  ·exact z
  ·have:=bH z (show 0≤gOf t b by lia)
   rw [e1,Int.mul_zero] at this
   lia
theorem qus {t b n:Int}(hb:1≤b):n*(wn t b).2<(wn t b).1↔n*b<t:=by
 have hg:=yy (t:=t) hb
 have e1:gOf t b*(wn t b).1=t:=qyr
 have e2:gOf t b*(wn t b).2=b:=qq0 hb
 have e3:gOf t b*(n*(wn t b).2)=n*b:=by
  generalize gOf t b=g at *
  generalize (wn t b).2=y at *
  grind
 constructor
 ·intro h
  have:=eM h (show 0<gOf t b by lia)
  rw [e1,e3] at this
  exact this
 ·intro h
  rcases cA (n*(wn t b).2) (wn t b).1 with z|z
  ·exact z
  ·have:=bH z (show 0≤gOf t b by lia)
   rw [e1,e3] at this
   lia
theorem qzj {N b:Int}(hb:1≤b):b%(wn N b).2=0∧(wn N b).1*(b/(wn N b).2)=N:=by
 have hy:=Qt (t:=N) hb
 have cr:=Yj (t:=N) hb
 have hd:(wn N b).2∣b:=⟨gOf N b,by rw [dG];exact (qq0 hb).symm⟩
 refine ⟨Int.emod_eq_zero_of_dvd hd,?_⟩
 have e:=dU hd
 generalize b/(wn N b).2=q at *
 generalize (wn N b).1=x at *
 generalize (wn N b).2=y at *
 have:y*(x*q-N)=0:=by grind
 rcases Int.mul_eq_zero.mp this with h|h <;> lia
def wwq (hs:List Int)(t b:Int):Int:=if t/b*b=t then hAt hs (t/b)*b else hAt hs (t/b)*b+(hAt hs (t/b+1)-hAt hs (t/b))*(t-t/b*b)
theorem wkn {hs:List Int}{t b:Int}(hl:2≤hs.length)(hb:1≤b)(h0:0≤t)(h1:t≤((hs.length:Int)-1)*b):wwq hs t b=j6 hs t b:=by
 have k0:=fM h0 (show (0:Int)≤b by lia)
 have k1:t/b*b≤t:=fN t ⋯
 have k2:t<(t/b+1)*b:=by
  have:=dZ t (show 0<b by lia)
  exact this
 unfold wwq
 by_cases hlt:t/b<(hs.length:Int)-1
 ·rw [qjv k0 hlt hb k1 (Int.le_of_lt k2)]
  split
  ·next e=>rw [e];simp
  ·rfl
 ·have ge:(hs.length:Int)-1≤t/b:=by lia
  have m1:=aV ge (show 0≤b by lia)
  have et:t/b*b=t:=by lia
  have ek:t/b=(hs.length:Int)-1:=by
   have:t/b*b=((hs.length:Int)-1)*b:=by lia
   exact cZ ⋯ this
  rw [ak et]
  have et2:t=((hs.length:Int)-1)*b:=by rw [←ek];exact et.symm
  rw [qjv (k:=(hs.length:Int)-1-1) ⋯ ⋯ hb (by rw [et2];exact aV ⋯ ⋯) (by rw [et2];exact aV ⋯ ⋯),ek]
  have e5:(hs.length:Int)-1-1+1=(hs.length:Int)-1:=by lia
  rw [e5,et2]
  generalize hAt hs ((hs.length:Int)-1)=u
  generalize hAt hs ((hs.length:Int)-1-1)=v
  generalize (hs.length:Int)-1=n
  grind
theorem wj0 {u v b d:Int}(hb:0≤d)(hd:d≤b):(if v<u then v else u)*b≤u*b+(v-u)*d∧u*b+(v-u)*d≤(if v>u then v else u)*b:=by
 by_cases h:v<u
 ·rw [ak h,af ⋯]
  have a1:=bH hd (show 0≤u-v by lia)
  have a2:=eN (show 0≤u-v by lia) hb
  constructor <;> grind
 ·rw [af h]
  have a1:=bH hd (show 0≤v-u by lia)
  have a2:=eN (show 0≤v-u by lia) hb
  by_cases h2:v>u
  ·rw [ak h2]
   constructor <;> grind
  ·rw [af h2]
   have:v=u:=by lia
   subst this
   constructor <;> grind
end L2
namespace L2
open PySem PySem.Spec PyProof.Rows
structure FunD (K:Aa)(x:Str)(st:Stmt)(f:Aj)(fd:Ad):Prop where
 ex:∃(oc:Ag) (od:Option Aj) (T:Aj) (kV doc pm:Ag) (an:Option Aj) (cdv ct:Ag) (osl:Array (Option Ag)),
  fd=W.fnOf x x (jb st) (kh st) (wu st) (.ref T) kV doc pm an cdv ct∧K.lookup f=some ⟨oc,od,.func fd,osl⟩∧W.codeIn K cdv x=true∧∃o n,K.lookup T=some o∧o.data=.seq #[.none] n
 kp:W.keepIn K (.ref f)=true
structure DefInD (K:Aa)(x:Str)(st:Stmt):Prop where
 ex:∃f fd,W.nsIn K mainGlobals x=some (some (.ref f))∧FunD K x st f fd
section
variable {P:Ac}{w:Ah}{K:Aa}{mg:Str→Option Ag}{base:Heap}
theorem wuy {x:Str}{st:Stmt}{f T:Aj}{oc:Ag}{od an:Option Aj}{osl:Array (Option Ag)}{kV doc pm cdv ct:Ag}(a:W.nsIn K mainGlobals x=some (some (.ref f)))
  (l:K.lookup f=some ⟨oc,od,.func (W.fnOf x x (jb st) (kh st) (wu st) (.ref T) kV doc pm an cdv ct),osl⟩) (c:W.codeIn K cdv x=true) (k:W.keepIn K (.ref f)=true) {tc:Ag} {td:Option Aj} {tn:Nat} {ts:Array (Option Ag)} (t:K.lookup T=some ⟨tc,td,.seq #[.none] tn,ts⟩):DefInD K x st:=⟨_,_,a,⟨oc,od,T,kV,doc,pm,an,cdv,ct,osl,rfl,l,c,_,_,t,rfl⟩,k⟩
theorem FunD.okX {x:Str}{st:Stmt}{f:Aj}{fd:Ad}{N ps:List Str}{k:Nat}{sp:Sp}(F:FunD K x st f fd)(S:FnScope N ps (wu st))(len:∀vs H Q E,sp vs H Q E→vs.length=ps.length)
  (body:∀(cdv:Ag) (A:Ae) (outer:List Env) (s:Ab) (H:Hp) (vs:List V) (Q:VK) (E:XK),Room k (A.deeper (envOfC x (wu st) s.heap.objs.size f cdv))→sp vs H Q E →
   ∃t,PSs (qv2 (CXE P w) P w K mg base N x (wu st) f cdv A outer s H E) (kh st) t∧t { nx:=λ_ H'=>Q .non H',rt:=Q } (W7 N vs) H):FnOk P w K mg base (CXE P w) (k+1) f fd ps sp:=by
 obtain ⟨oc,od,T,kV,doc,pm,an,cdv,ct,osl,rfl,lk,hcd,_⟩:=F.ex
 exact fn_of lk hcd S len λA outer s H vs Q E hr hsp=>body cdv A outer s H vs Q E hr hsp
def Wm (x:Str)(st:Stmt)(ps:List Str)(ds:List Ag):Prop:=∀(T:Aj) (kV doc pm:Ag) (an:Option Aj) (cdv ct:Ag) (us:List Ag),(us++ds).length=ps.length →
 ∃kk,bindArgs (W.fnOf x x (jb st) (kh st) (wu st) (.ref T) kV doc pm an cdv ct) ⟨us,[]⟩=seqItems? (.ref T) >>= kk∧kk (some #[.none])=pure (ps.zip (us++ds))
structure CalD (P:Ac)(w:Ah)(K:Aa)(mg:Str→Option Ag)(base:Heap)(x:Str)(k:Nat)(sp:Sp):Prop where
 ex:∃f fd ps,mg x=some (.ref f)∧FnOk P w K mg base (CXE P w) k f fd ps sp∧W.keepIn K (.ref f)=true∧Binds K fd ps []∧Binds K fd ps [.none]
theorem FunD.binds {x:Str}{st:Stmt}{f:Aj}{fd:Ad}{ps:List Str}{ds:List Ag}(F:FunD K x st f fd)(b:Wm x st ps ds):Binds K fd ps ds:=by
 obtain ⟨oc,od,T,kV,doc,pm,an,cdv,ct,osl,rfl,lk,hcd,o,n,e1,e2⟩:=F.ex
 intro s us X hl
 obtain ⟨kk,h1,h2⟩:=b T kV doc pm an cdv ct us hl
 exact W.binds_K X rfl e1 e2 h1 h2
theorem DefInD.cal {x:Str}{st:Stmt}{ps:List Str}{k:Nat}{sp:Sp}{h:Heap}(d:DefInD K x st)(KX:K.In h)(G:h.Ns mainGlobals mg)(b:Wm x st ps [])(b':Wm x st ps [.none])(ok:∀f fd,FunD K x st f fd→FnOk P w K mg base (CXE P w) k f fd ps sp):CalD P w K mg base x k sp:=by
 obtain ⟨f,fd,a,F⟩:=d.ex
 exact ⟨f,fd,ps,aK KX G a,ok f fd F,F.kp,F.binds b,F.binds b'⟩
theorem CalD.all {x:Str}{k:Nat}{sp:Sp}(c:CalD P w K mg base x k sp):Cal P w K mg base x k sp:=by
 obtain ⟨f,fd,ps,h1,h2,h3,h4,_⟩:=c.ex
 exact ⟨f,fd,ps,h1,h2,h3,h4⟩
end
section
variable {X:Cx}{x:Str}{k:Nat}{sp:Sp}{E:St→XK}{p pos:Pos}{e:Expr}{es:List Expr}{t:TA}
end
end L2
namespace L2
open PySem PySem.Spec PyProof.Rows
section
variable {κ:Type}[DecidableEq κ]
def wf (kvs:List (κ×V))(k:κ):Option V:=(kvs.find? λkv=>decide (kv.1=k)).map (·.2)
def z0 (kvs:List (κ×V))(k:κ)(v:V):List (κ×V) :=
 if (kvs.any λkv=>decide (kv.1=k))=true then kvs.map (λkv=>if kv.1=k then (kv.1,v) else kv) else kvs++[(k,v)]
def Qx (kvs:List (κ×V))(k:κ):List (κ×V):=kvs.filter λkv=>decide (kv.1≠k)
theorem zk {p:κ×V}{r:List (κ×V)}{k:κ}(e:p.1=k):wf (p::r) k=some p.2:=by simp [wf,cP,e]
theorem x8 {p:κ×V}{r:List (κ×V)}{k:κ}(e:¬ p.1=k):wf (p::r) k=wf r k:=by simp [wf,cP,e]
theorem uz (k:κ):∀kvs:List (κ×V),(kvs.any λkv=>decide (kv.1=k))=(wf kvs k).isSome
 |[]=>rfl
 |p::r=>by
  rw [fV]
  by_cases e:p.1=k
  ·simp only [zk e,aX e,Bool.true_or,Option.isSome_some]
  ·rw [x8 e,bn e,Bool.false_or];exact uz k r
theorem qy9 (k j:κ)(y:V):∀kvs:List (κ×V),wf (kvs.map λkv=>if kv.1=k then (kv.1,y) else kv) j=(wf kvs j).map λx=>if j=k then y else x
 |[]=>rfl
 |p::r=>by
  have ih:=qy9 k j y r
  rw [aA]
  by_cases h:p.1=k
  ·rw [ak h]
   by_cases e:p.1=j
   ·rw [zk (p:=(p.1,y)) e,zk e,ca,ak (e.symm.trans h)]
   ·rw [x8 (p:=(p.1,y)) e,x8 e,ih]
  ·rw [af h]
   by_cases e:p.1=j
   ·rw [zk (p:=p) e,zk e,ca,af (λz=>h (e.trans z))]
   ·rw [x8 (p:=p) e,x8 e,ih]
theorem Z7 (k j:κ)(y:V):∀kvs:List (κ×V),wf kvs k=none→wf (kvs++[(k,y)]) j=if j=k then some y else wf kvs j
 |[],_=>by
  by_cases e:k=j
  ·rw [ak e.symm];exact zk (p:=(k,y)) e
  ·rw [af (λz=>e z.symm)];exact x8 (p:=(k,y)) e
 |p::r,hn=>by
  rw [List.cons_append]
  have hk:¬ p.1=k:=λz=>by rw [zk z] at hn;cases hn
  rw [x8 hk] at hn
  have ih:=Z7 k j y r hn
  by_cases e:p.1=j
  ·rw [zk e,zk e,af (λz=>hk (e.trans z))]
  ·rw [x8 e,x8 e,ih]
theorem uk (kvs:List (κ×V))(k j:κ)(y:V):wf (z0 kvs k y) j=if j=k then some y else wf kvs j:=by
 unfold z0
 by_cases a:(kvs.any λkv=>decide (kv.1=k))=true
 ·rw [ak a,qy9]
  rw [uz] at a
  by_cases e:j=k
  ·obtain ⟨x,hx⟩:=av.mp a
   rw [ak e,e,hx,ca,ak rfl]
  ·rw [af e]
   cases wf kvs j with
   |none=>rfl
   |some x=>rw [ca,af e]
 ·rw [af a]
  refine Z7 k j y kvs ?_
  rw [uz] at a
  cases q:wf kvs k with
  |none=>rfl
  |some x=>rw [q] at a;exact (a rfl).elim
theorem j5 (kvs:List (κ×V))(k:κ)(v:V):(z0 kvs k v).length≤kvs.length+1:=by
 unfold z0
 split
 ·rw [aa];lia
 ·rw [aL,au,bQ];lia
theorem Qq {kvs:List (κ×V)}{k:κ}(v:V)(h:wf kvs k=none):z0 kvs k v=kvs++[(k,v)]:=by
 unfold z0
 rw [uz,h]
 exact af ⋯
theorem RelO.isSome_eq {o:Option V}{u:Option Ag}(r:RelO o u):o.isSome=u.isSome:=by
 cases o with
 |none=>cases u with
  |none=>rfl
  |some _=>exact (show False from r).elim
 |some _=>cases u with
  |none=>exact (show False from r).elim
  |some _=>rfl
theorem RelO.getD {o:Option V}{u:Option Ag}{d:V}{d':Ag}(r:RelO o u)(rd:RelV d d'):RelV (o.getD d) (u.getD d'):=by
 cases o with
 |none=>cases u with
  |none=>exact rd
  |some _=>exact (show False from r).elim
 |some _=>cases u with
  |none=>exact (show False from r).elim
  |some _=>exact r
theorem KV.val {kvs:List (κ×V)}{vs:List (κ×Ag)}(r:KV kvs vs)(k:κ):RelO (wf kvs k) (valueAt vs k):=by
 unfold KV at r
 induction r with
 |nil=>exact True.intro
 |@cons p q ps qs h t ih =>
  obtain ⟨h1,h2⟩:=h
  by_cases e:p.1=k
  ·have e':q.1=k:=h1.symm.trans e
   have b:valueAt (q::qs) k=some q.2:=by simp [valueAt,cP,e']
   rw [zk e,b];exact h2
  ·have e':¬ q.1=k:=λz=>e (h1.trans z)
   have b:valueAt (q::qs) k=valueAt qs k:=by simp [valueAt,cP,e']
   rw [x8 e,b];exact ih
theorem KV.any {kvs:List (κ×V)}{vs:List (κ×Ag)}(r:KV kvs vs)(k:κ):(kvs.any λkv=>decide (kv.1=k))=vs.any λkv=>decide (kv.1=k):=by
 unfold KV at r
 induction r with
 |nil=>rfl
 |cons h t ih=>rw [fV,fV,ih,h.1]
theorem KV.repl {kvs:List (κ×V)}{vs:List (κ×Ag)}(r:KV kvs vs)(k:κ){y:V}{u:Ag}(ry:RelV y u) :
  KV (kvs.map λkv=>if kv.1=k then (kv.1,y) else kv) (vs.map λkv=>if kv.1=k then (kv.1,u) else kv):=by
 unfold KV at r ⊢
 induction r with
 |nil=>exact .nil
 |@cons p q ps qs h t ih =>
  rw [aA,aA]
  refine .cons ?_ ih
  obtain ⟨h1,h2⟩:=h
  by_cases e:p.1=k
  ·rw [ak e,ak (h1.symm.trans e)];exact ⟨h1,ry⟩
  ·rw [af e,af (λz=>e (h1.trans z))];exact ⟨h1,h2⟩
theorem KV.put {kvs:List (κ×V)}{vs:List (κ×Ag)}(r:KV kvs vs)(k:κ){y:V}{u:Ag}(ry:RelV y u):KV (z0 kvs k y) (stored vs k u):=by
 unfold z0 stored
 rw [r.any k]
 by_cases e:(vs.any λkv=>decide (kv.1=k))=true
 ·rw [ak e,ak e];exact r.repl k ry
 ·rw [af e,af e];exact Paired.snoc r ⟨rfl,ry⟩
theorem KV.drop {kvs:List (κ×V)}{vs:List (κ×Ag)}(r:KV kvs vs)(k:κ):KV (Qx kvs k) (without vs k):=by
 unfold KV at r ⊢
 unfold Qx without
 induction r with
 |nil=>exact .nil
 |@cons p q ps qs h t ih =>
  obtain ⟨h1,h2⟩:=h
  rw [bU,bU]
  by_cases e:p.1=k
  ·have a:¬ decide (p.1≠k)=true:=by simp [e]
   have b:¬ decide (q.1≠k)=true:=by simp [h1.symm.trans e]
   rw [af a,af b];exact ih
  ·have e':¬ q.1=k:=λz=>e (h1.trans z)
   have a:decide (p.1≠k)=true:=by simp [e]
   have b:decide (q.1≠k)=true:=by simp [e']
   rw [ak a,ak b];exact .cons ⟨h1,h2⟩ ih
theorem KV.length {kvs:List (κ×V)}{vs:List (κ×Ag)}(r:KV kvs vs):kvs.length=vs.length:=bu r
theorem qym (kvs:List (κ×V))(k:κ):(Qx kvs k).length≤kvs.length:=List.length_filter_le _ _
end
theorem Ww {P:Ac}{w:Ah}{k:Key}{u:Ag}(r:RelV (kV k) u):(xf P w).is k u=true:=by
 cases k with
 |inl i=>obtain ⟨t,e⟩:=(show ∃t,u=Value.int i t from r);subst e;exact qj6 P w i t
 |inr x=>obtain ⟨t,e⟩:=(show ∃t,u=Value.str x t from r);subst e;exact qyn P w x t
theorem qzm {P:Ac}{w:Ah}:∀ {ks:List Key} {us:List Ag},Vals (ks.map kV) us→ItemsAre (xf P w) ks us
 |[],_,r=>by rw [bO] at r;cases r;exact .nil
 |k::ks,_,r=>by
  rw [aA] at r
  cases r with
  |cons h t=>exact .cons (Ww h) (qzm t)
abbrev KT (H:Hp):List (List Key×V)→List (List Key×Aj×Ag)→Prop:=Paired λp q=>p.1=q.1∧H q.2.1=some (.tup (p.1.map kV))∧RelV p.2 q.2.2
theorem KT.val {H:Hp}{kvs:List (List Key×V)}{xs:List (List Key×Aj×Ag)}(r:KT H kvs xs)(k:List Key):RelO (wf kvs k) ((atKey xs k).map (·.2)):=by
 induction r with
 |nil=>exact True.intro
 |@cons p q ps qs h t ih =>
  obtain ⟨h1,_,h2⟩:=h
  by_cases e:p.1=k
  ·have e':q.1=k:=h1.symm.trans e
   have b:atKey (q::qs) k=some q.2:=by simp [atKey,cP,e']
   rw [zk e,b];exact h2
  ·have e':¬ q.1=k:=λz=>e (h1.trans z)
   have b:atKey (q::qs) k=atKey qs k:=by simp [atKey,cP,e']
   rw [x8 e,b];exact ih
theorem KT.repl {H:Hp}{kvs:List (List Key×V)}{xs:List (List Key×Aj×Ag)}(r:KT H kvs xs)(k:List Key){y:V}{u:Ag}(ry:RelV y u) :
  KT H (kvs.map λkv=>if kv.1=k then (kv.1,y) else kv) (xs.map (putAt k u)):=by
 induction r with
 |nil=>exact .nil
 |@cons p q ps qs h t ih =>
  rw [aA,aA]
  refine .cons ?_ ih
  obtain ⟨h1,h2,h3⟩:=h
  unfold putAt
  by_cases e:p.1=k
  ·rw [ak e,ak (h1.symm.trans e)];exact ⟨h1,h2,ry⟩
  ·rw [af e,af (λz=>e (h1.trans z))];exact ⟨h1,h2,h3⟩
theorem KT.put {H:Hp}{kvs:List (List Key×V)}{xs:List (List Key×Aj×Ag)}(r:KT H kvs xs)(k:List Key){b:Aj}{y:V}{u:Ag}(hb:H b=some (.tup (k.map kV)))(ry:RelV y u) :
  KT H (z0 kvs k y) (storedH xs k b u):=by
 have e:(kvs.any λkv=>decide (kv.1=k))=(atKey xs k).isSome:=by
  rw [uz,(r.val k).isSome_eq,cB]
 unfold z0 storedH
 rw [e]
 by_cases q:(atKey xs k).isSome=true
 ·rw [ak q,ak q];exact r.repl k ry
 ·rw [af q,af q];exact Paired.snoc r ⟨rfl,hb,ry⟩
theorem KT.keeps {H H':Hp}{kvs:List (List Key×V)}{xs:List (List Key×Aj×Ag)}(r:KT H kvs xs)(ht:∀b ys,H b=some (.tup ys)→H' b=some (.tup ys)):KT H' kvs xs :=
 Paired.mapP r λ_ _ z=>⟨z.1,ht _ _ z.2.1,z.2.2⟩
section
variable {P:Ac}{w:Ah}{H:Hp}{h:Heap}{a:Aj}
theorem rd_of {u:HO}(ok:HOk P w H h)(e:Rd H a u):ObjOk P w H h a u:=e.ok ok
theorem Qj {kvs:List (Key×V)}(ok:HOk P w H h)(e:Rd H a (.dK kvs)):kvs.length≤sizeLine∧(a==sysModules)=false∧∃vs,KV kvs vs∧h.DictOf (xf P w) a vs :=
 show ObjOk P w H h a (.dK kvs) from rd_of ok e
theorem qzs {kvs:List (Key×V)}(ok:HOk P w H h)(e:H a=some (.dK kvs)):kvs.length≤sizeLine∧(a==sysModules)=false∧∃vs,KV kvs vs∧h.DictOf (xf P w) a vs:=Qj ok (.inl e)
theorem Qb {ks:List Key}(ok:HOk P w H h)(e:H a=some (.tup (ks.map kV))):(tupleKind (xf P w)).is h ks a:=by
 obtain ⟨_,its,r,o,h1,h2,n,h3⟩:=(show ObjOk P w H h a (.tup (ks.map kV)) from ok a _ e)
 exact ⟨o,its.toArray,n,h1,h2,h3,by simpa using qzm r⟩
theorem Zu {kvs:List (List Key×V)}(ok:HOk P w H h)(e:Rd H a (.dT kvs)):kvs.length≤sizeLine∧(a==sysModules)=false ∧
  ∃xs,KT H kvs xs∧h.DictOfH (tupleKind (xf P w)) a xs:=by
 obtain ⟨z,y,xs,r,o,es,ep,h1,h2,h3,h4,h5⟩:=(show ObjOk P w H h a (.dT kvs) from rd_of ok e)
 refine ⟨z,y,xs,r,o,es,ep,h1,h2,h3,h4,λx hx=>?_,h5⟩
 have all:∀ {l:List (List Key×V)} {m:List (List Key×Aj×Ag)},KT H l m→∀x∈m,(tupleKind (xf P w)).is h x.1 x.2.1:=by
  intro l m q
  induction q with
  |nil=>intro x hx;exact nomatch hx
  |@cons p q ps qs hq t ih =>
   intro x hx
   rcases ag.mp hx with e|hx
   ·subst e
    exact Qb ok (by rw [←hq.1];exact hq.2.1)
   ·exact ih x hx
 exact all r x hx
theorem dt_of {kvs:List (List Key×V)}(ok:HOk P w H h)(e:H a=some (.dT kvs)):kvs.length≤sizeLine∧(a==sysModules)=false ∧
  ∃xs,KT H kvs xs∧h.DictOfH (tupleKind (xf P w)) a xs:=Zu ok (.inl e)
end
def DGet (H:Hp)(a:Aj)(y:V)(r:Option V):Prop :=
 (∃kvs k,Rd H a (.dK kvs)∧y=kV k∧r=wf kvs k)∨∃kvs k b,Rd H a (.dT kvs)∧y=.ref b∧H b=some (.tup (k.map kV))∧r=wf kvs k
def DPut (H:Hp)(a:Aj)(y v:V)(H':Hp):Prop :=
 (∃kvs k,H a=some (.dK kvs)∧y=kV k∧kvs.length<sizeLine∧H'=upd H a (.dK (z0 kvs k v))) ∨
 ∃kvs k b,H a=some (.dT kvs)∧y=.ref b∧H b=some (.tup (k.map kV))∧kvs.length<sizeLine∧H'=upd H a (.dT (z0 kvs k v))
theorem DGet.k {H:Hp}{a:Aj}{kvs:List (Key×V)}{k:Key}(e:H a=some (.dK kvs)):DGet H a (kV k) (wf kvs k):=.inl ⟨kvs,k,.inl e,rfl,rfl⟩
theorem DGet.t {H:Hp}{a b:Aj}{kvs:List (List Key×V)}{k:List Key}(e:H a=some (.dT kvs))(eb:H b=some (.tup (k.map kV))):DGet H a (.ref b) (wf kvs k):=.inr ⟨kvs,k,b,.inl e,rfl,eb,rfl⟩
theorem DPut.k {H:Hp}{a:Aj}{kvs:List (Key×V)}{k:Key}{v:V}(e:H a=some (.dK kvs))(hl:kvs.length<sizeLine):DPut H a (kV k) v (upd H a (.dK (z0 kvs k v))):=.inl ⟨kvs,k,e,rfl,hl,rfl⟩
theorem DPut.t {H:Hp}{a b:Aj}{kvs:List (List Key×V)}{k:List Key}{v:V}(e:H a=some (.dT kvs))(eb:H b=some (.tup (k.map kV)))(hl:kvs.length<sizeLine) :
  DPut H a (.ref b) v (upd H a (.dT (z0 kvs k v))):=.inr ⟨kvs,k,b,e,rfl,eb,hl,rfl⟩
section
variable {X:Cx}{pins:List (Aj×Obj)}{σ:St}{H:Hp}{s:Ab}{a:Aj}{y v:V}{u r:Ag}{o:Option V}{A:Ae}{E:Ag→Ab→Prop}
theorem Inv.big (I:Inv X pins σ H s):sysModules<s.heap.objs.size:=by
 have h:mainGlobals<s.heap.objs.size:=(I.mod.glob.keeps I.bk).lt
 exact bV ⋯ h
theorem wxg {Q:Ag→Ab→Prop}(hu:A.units+1<cLine)(I:Inv X pins σ H s)(g:DGet H a y (some v))(ry:RelV y u)(h:∀w' s',Inv X pins σ H s'→RelV v w'→Q w' s') :
  wpAny (model X.prog X.w) A (getItem (.ref a) u) Q E s:=by
 rcases g with ⟨kvs,k,e,ey,l⟩|⟨kvs,k,b,e,ey,eb,l⟩
 ·subst ey
  obtain ⟨z,hd,vs,rel,dd⟩:=Qj I.hok e
  obtain ⟨w',hw,rw'⟩:=RelO.some_of (v:=v) (o:=valueAt vs k) (by rw [l];exact rel.val k)
  exact wpAny_getItem_of (Ww ry) dd.mapOf hw (h w' _ (I.tok _) rw')
 ·subst ey
  cases (show u=Value.ref b from ry)
  obtain ⟨z,hd,xs,rel,dd⟩:=Zu I.hok e
  obtain ⟨w',hw,rw'⟩:=RelO.some_of (v:=v) (o:=(atKey xs k).map (·.2)) (by rw [l];exact rel.val k)
  obtain ⟨p,hp,hp2⟩:=dI.mp hw
  refine wpAny_getItem_heap (cu hu) (Qb I.hok eb) dd hp ?_
  rw [hp2]
  exact h w' _ (I.tok _) rw'
theorem zgp {Q:Ag→Ab→Prop}(hu:A.units+1<cLine)(I:Inv X pins σ H s)(g:DGet H a y o)(ry:RelV y u)(h:∀s',Inv X pins σ H s'→Q (.bool o.isSome) s') :
  wpAny (model X.prog X.w) A (compareOp .In u (.ref a)) Q E s:=by
 rcases g with ⟨kvs,k,e,ey,l⟩|⟨kvs,k,b,e,ey,eb,l⟩
 ·subst ey
  obtain ⟨z,hd,vs,rel,dd⟩:=Qj I.hok e
  refine wpAny_in_of (Ww ry) hd dd.mapOf ?_
  rw [← (rel.val k).isSome_eq,←l]
  exact h _ (I.tok _)
 ·subst ey
  cases (show u=Value.ref b from ry)
  obtain ⟨z,hd,xs,rel,dd⟩:=Zu I.hok e
  refine wpAny_in_heap (cu hu) (Qb I.hok eb) hd dd ?_
  have q:=(rel.val k).isSome_eq
  rw [cB] at q
  rw [←q,←l]
  exact h _ (I.tok _)
theorem xqm {Q:Ag→Ab→Prop}(hu:A.units+1<cLine)(I:Inv X pins σ H s)(g:DGet H a y o)(ry:RelV y u)(h:∀s',Inv X pins σ H s'→Q (.bool (!o.isSome)) s') :
  wpAny (model X.prog X.w) A (compareOp .NotIn u (.ref a)) Q E s:=by
 rcases g with ⟨kvs,k,e,ey,l⟩|⟨kvs,k,b,e,ey,eb,l⟩
 ·subst ey
  obtain ⟨z,hd,vs,rel,dd⟩:=Qj I.hok e
  refine wpAny_notIn_of (Ww ry) hd dd.mapOf ?_
  rw [← (rel.val k).isSome_eq,←l]
  exact h _ (I.tok _)
 ·subst ey
  cases (show u=Value.ref b from ry)
  obtain ⟨z,hd,xs,rel,dd⟩:=Zu I.hok e
  refine wpAny_notIn_heap (cu hu) (Qb I.hok eb) hd dd ?_
  have q:=(rel.val k).isSome_eq
  rw [cB] at q
  rw [←q,←l]
  exact h _ (I.tok _)
theorem Qn {h':Heap}{t':Nat}{ob:HO}(I:Inv X pins σ H s)(mu:Mut (H a))(hs:Heap.SameBut a s.heap h')(he:∃q,h'.get? a=some q)(new:ObjOk X.prog X.w (upd H a ob) h' a ob) :
  Inv X pins σ (upd H a ob) { s with heap:=h',toks:=t' } :=
 I.write (x:=a) (e:=a) mu (.inl rfl) (λb q hb z=>(hs.2 b hb).trans z) he new
theorem Jr {P:Ac}{w:Ah}{H':Hp}{h':Heap}{kvs:List (Key×V)}{vs:List (Key×Ag)}(z:kvs.length≤sizeLine)(hd:(a==sysModules)=false)(rel:KV kvs vs)(dd:h'.DictOf (xf P w) a vs) :
  ObjOk P w H' h' a (.dK kvs):=⟨z,hd,vs,rel,dd⟩
theorem wzv {H':Hp}{Q:Unit→Ab→Prop}(hu:A.units+1<cLine)(I:Inv X pins σ H s)(g:DPut H a y v H')(ry:RelV y u)(rv:RelV v r)(h:∀s',Inv X pins σ H' s'→Q () s') :
  wpAny (model X.prog X.w) A (setItem (.ref a) u r) Q E s:=by
 rcases g with ⟨kvs,k,e,ey,l,eH⟩|⟨kvs,k,b,e,ey,eb,l,eH⟩
 ·subst ey eH
  obtain ⟨z,hd,vs,rel,dd⟩:=qzs I.hok e
  have hz:vs.length≤sizeLine:=by rw [←rel.length];exact z
  have hl:(z0 kvs k v).length≤sizeLine:=by have:=j5 kvs k v;lia
  refine wpAny_setItem_pairs (hsz:=hz) (Ww ry) dd λh' dd' hs=>h _ ?_
  have he:∃q,h'.get? a=some q:=let ⟨q,_,_,hq,_⟩:=dd';⟨q,hq⟩
  exact Qn I (by rw [e];exact True.intro) hs he (Jr hl hd (rel.put k rv) dd')
 ·subst ey eH
  cases (show u=Value.ref b from ry)
  obtain ⟨z,hd,xs,rel,dd⟩:=dt_of I.hok e
  have hz:xs.length≤sizeLine:=by rw [←bu rel];exact z
  have hl:(z0 kvs k v).length≤sizeLine:=by have:=j5 kvs k v;lia
  refine wpAny_setItem_heap (hsz:=hz) (cu hu) (Qb I.hok eb) dd λh' dd' hs=>h _ ?_
  obtain ⟨q,es,ep,hq,h2,h3,h4,_,h5⟩:=dd'
  refine Qn I (by rw [e];exact True.intro) hs ⟨q,hq⟩ ⟨hl,hd,_,(rel.put k eb rv).keeps λc ys ec=>?_,q,es,ep,hq,h2,h3,h4,h5⟩
  rw [wy (ne_of ec e (λz=>nomatch z))]
  exact ec
end
section
variable {X:Cx}{pins:List (Aj×Obj)}{σ:St}{H:Hp}{s:Ab}{a:Aj}{kvs:List (Key×V)}{k:Key}{u:Ag}{A:Ae}{E:Ag→Ab→Prop}
theorem wzz {Q:Unit→Ab→Prop}(I:Inv X pins σ H s)(e:H a=some (.dK kvs))(ry:RelV (kV k) u)(l:(wf kvs k).isSome=true)(h:∀s',Inv X pins σ (upd H a (.dK (Qx kvs k))) s'→Q () s') :
  wpAny (model X.prog X.w) A (delItem (.ref a) u) Q E s:=by
 obtain ⟨z,hd,vs,rel,dd⟩:=qzs I.hok e
 refine wpAny_delItem_slot dd.typeIs ⋯ eT
  (df eT dd.typeIs PySem.F.entry_dict_delitem (PySem.F.args_dict_delitem_2 _ _) (meets_dict_delitem_pairs (xf X.prog X.w) a (Ww ry)) ⟨vs,dd,by rw [←rel.length];exact z,by rw [← (rel.val k).isSome_eq];exact l,λh' dd' hs=>h _ ?_⟩)
 have he:∃q,h'.get? a=some q:=let ⟨q,_,_,hq,_⟩:=dd';⟨q,hq⟩
 exact Qn I (by rw [e];exact True.intro) hs he (Jr (bw (qym kvs k) z) hd (rel.drop k) dd')
theorem zgq {Q:Ag→Ab→Prop}(I:Inv X pins σ H s)(e:Rd H a (.dK kvs))(h:∀t s',Inv X pins σ H s'→Q (.int kvs.length t) s'):wpAny (model X.prog X.w) A (call (.builtin "len") [.ref a]) Q E s:=by
 obtain ⟨z,hd,vs,rel,dd⟩:=Qj I.hok e
 refine call_len_dict hd dd (by rw [←rel.length];rw [fT] at z;lia) ?_
 rw [←rel.length]
 exact h _ _ (I.tok _)
end
def NoSl (i:Expr):Prop:=∀ov iv,subscripted i false ov iv=operate [ov,iv] (getItem ov iv)
theorem wu2 {prog:Ac}{w:Ah}{A:Ae}{E:Ag→Ab→Prop}{s:Ab}{env:Env}{value slice:Expr}{pos:Pos}{T id:String}{Q:Ag→Ab→Prop}
  (hl:typeLookup (.type T) "__getitem__" = pure (some (.builtin id))) (hs:NoSl slice)
  (h:wpAny (model prog w) A (eval value env) (λo s₁=>wpAny (model prog w) A (eval slice env) (λi s₂=>s₂.TypeIs o T∧wpAny (model prog w) A (getItem o i) Q E s₂) E s₁) E s) :
  wpAny (model prog w) A (eval (.Subscript value slice pos) env) Q E s:=by
 refine Subscript_ (bg h (λo s₁ h₁=>bg h₁ (λi s₂ h₂=>?_) λ_ _ x=>x) λ_ _ x=>x)
 obtain ⟨hT,h₂⟩:=h₂
 unfold subscriptTail
 refine ac ?_
 rw [getitemInPython_of_ne hT.not_modules]
 refine ac (fO hT hl ?_)
 have fin:wpAny (model prog w) A (subscripted slice false o i) (λr s₃=>wpAny (model prog w) A (letTemporaryGo value o r >>= λ_=>pure r) Q E s₃) E s₂:=by
  rw [hs o i]
  exact wpAny_operating (bg h₂ (λr s₃ h₃=>ac (wpAny_letTemporaryGo (am h₃))) λ_ _ x=>x)
 first
  |exact am (ac fin)
  |exact ac (am (ac fin))
  |exact ac fin
theorem quu {X:Cx}{pins:List (Aj×Obj)}{σ:St}{H:Hp}{s:Ab}{a:Aj}{y:V}{o:Option V}(I:Inv X pins σ H s)(g:DGet H a y o):s.TypeIs (.ref a) "dict" := by
 rcases g with ⟨kvs,k,e,_,_⟩|⟨kvs,k,b,e,_,_,_⟩
 ·obtain ⟨_,_,vs,_,dd⟩:=Qj I.hok e
  exact dd.typeIs
 ·obtain ⟨_,_,xs,_,dd⟩:=Zu I.hok e
  exact dd.typeIs
def tDGet (td ty:TE):TE:=λσ H Q=>td σ H λx H1=>ty σ H1 λy H2=>∃a v,x=.ref a∧DGet H2 a y (some v)∧Q v H2
def tDIn (ty td:TE):TE:=λσ H Q=>ty σ H λy H1=>td σ H1 λx H2=>∃a o,x=.ref a∧DGet H2 a y o∧Q (.bl o.isSome) H2
def wu0 (ty td:TE):TE:=λσ H Q=>ty σ H λy H1=>td σ H1 λx H2=>∃a o,x=.ref a∧DGet H2 a y o∧Q (.bl (!o.isSome)) H2
def sDPut (td ty tv:TE):TS:=λD σ H=>tv σ H λv H1=>td σ H1 λx H2=>ty σ H2 λy H3=>∃a H4,x=.ref a∧DPut H3 a y v H4∧D.nx σ H4
def sDDel (td ty:TE):TS:=λD σ H=>td σ H λx H1=>ty σ H1 λy H2=>∃a kvs k,x=.ref a∧H2 a=some (.dK kvs)∧y=kV k∧(wf kvs k).isSome=true∧D.nx σ (upd H2 a (.dK (Qx kvs k)))
section
variable {X:Cx}{o i e value:Expr}{pos pos' tpos:Pos}{td ty tv:TE}
theorem jv (hu:X.A.units+1<cLine)(ho:PE X o td)(hi:PE X i ty)(hs:NoSl i):PE X (.Subscript o i pos) (tDGet td ty):=by
 intro pins s σ H Q I h
 refine wu2 PySem.F.slot_dict_getitem.lookup hs (thn (ho pins s σ H _ I h) λu s1 ⟨x,H1,I1,rx,q1⟩=>thn (hi pins s1 σ H1 _ I1 q1) λiv s2 ⟨y,H2,I2,ry,a,v,ex,g,q2⟩=>?_)
 subst ex
 obtain rfl:u=Value.ref a:=rx
 exact ⟨quu I2 g,wxg hu I2 g ry λw' s3 I3 rw'=>⟨v,H2,I3,rw',q2⟩⟩
theorem wvy (hu:X.A.units+1<cLine)(hi:PE X i ty)(ho:PE X o td):PC X .In i o (tDIn ty td):=by
 intro pins s σ H Q I h
 refine thn (hi pins s σ H _ I h) λiv s1 ⟨y,H1,I1,ry,q1⟩=>thn (ho pins s1 σ H1 _ I1 q1) λu s2 ⟨x,H2,I2,rx,a,ov,ex,g,q2⟩=>?_
 subst ex
 obtain rfl:u=Value.ref a:=rx
 exact zgp hu I2 g ry λs3 I3=>⟨.bl ov.isSome,H2,I3,rfl,q2⟩
theorem Qp (hu:X.A.units+1<cLine)(hi:PE X i ty)(ho:PE X o td):PC X .NotIn i o (wu0 ty td):=by
 intro pins s σ H Q I h
 refine thn (hi pins s σ H _ I h) λiv s1 ⟨y,H1,I1,ry,q1⟩=>thn (ho pins s1 σ H1 _ I1 q1) λu s2 ⟨x,H2,I2,rx,a,ov,ex,g,q2⟩=>?_
 subst ex
 obtain rfl:u=Value.ref a:=rx
 exact xqm hu I2 g ry λs3 I3=>⟨.bl (!ov.isSome),H2,I3,rfl,q2⟩
theorem Qh (hu:X.A.units+1<cLine)(ho:PE X o td)(hi:PE X i ty)(hv:PE X value tv)(hs:swapsWith value (some (.Subscript o i pos')) pos.line X.env=pure false) :
  PS X (.Assign [.Subscript o i pos'] value pos) (sDPut td ty tv):=by
 intro pins s σ H D I h
 refine wpAny_Assign_Subscript (thn (hv pins s σ H _ I h) λr s1 ⟨v,H1,I1,rv,q1⟩=>thn (ho pins s1 σ H1 _ I1 q1) λu s2 ⟨x,H2,I2,rx,q2⟩=>thn (hi pins s2 σ H2 _ I2 q2) λiv s3 ⟨y,H3,I3,ry,a,H4,ex,g,q3⟩=>?_) hs
 subst ex
 obtain rfl:u=Value.ref a:=rx
 exact wzv hu I3 g ry rv λs4 I4=>⟨σ,H4,I4,q3⟩
theorem wuq (ho:PE X o td)(hi:PE X i ty):PS X (.Delete [.Subscript o i tpos] pos) (sDDel td ty):=by
 intro pins s σ H D I h
 refine wpAny_Delete (wpAny_deleteEach_cons (wpAny_delete_Subscript (thn (ho pins s σ H _ I h) λu s1 ⟨x,H1,I1,rx,q1⟩=>thn (hi pins s1 σ H1 _ I1 q1) λiv s2 ⟨y,H2,I2,ry,a,kvs,k,ex,e,ey,l,q2⟩=>?_)))
 subst ex ey
 obtain rfl:u=Value.ref a:=rx
 exact wzz I2 e ry l λs3 I3=>wpAny_deleteEach_nil ⟨σ,_,I3,q2⟩
end
theorem qjq {P:Ac}{w:Ah}{H:Hp}(h:Heap)(hb:sysModules<h.objs.size):ObjOk P w H (h.push { cls:=.type "dict",data:=.dict #[] }) h.objs.size (.dK []) :=
 ⟨aJ _,aQ.mpr (aY (aC hb)),[],.nil,Heap.DictOf.new h⟩
theorem qjg {P:Ac}{w:Ah}{H:Hp}(h:Heap)(hb:sysModules<h.objs.size):ObjOk P w H (h.push { cls:=.type "dict",data:=.dict #[] }) h.objs.size (.dT []) :=
 ⟨aJ _,aQ.mpr (aY (aC hb)),[],.nil,_,#[],0,aw _ rfl,⟨rfl,rfl,rfl⟩,rfl,rfl,bi⟩
def tDNewK:TE:=λ_ H Q=>∀p,H p=none→Q (.ref p) (upd H p (.dK []))
def tDNewT:TE:=λ_ H Q=>∀p,H p=none→Q (.ref p) (upd H p (.dT []))
section
variable {X:Cx}{pos:Pos}
theorem j4:PE X (.Dict [] [] pos) tDNewK:=λpins s σ H Q I h =>
 wpAny_Dict_empty ⟨.ref s.heap.objs.size,_,I.laid (a:=s.heap.objs.size) (o:=.dK []) (t':=s.toks) (λ_ _ q=>ae _ q) (ai _) (qjq s.heap I.big),rfl,h _ (I.hok.fresh (ai _))⟩
theorem wjb:PE X (.Dict [] [] pos) tDNewT:=λpins s σ H Q I h =>
 wpAny_Dict_empty ⟨.ref s.heap.objs.size,_,I.laid (a:=s.heap.objs.size) (o:=.dT []) (t':=s.toks) (λ_ _ q=>ae _ q) (ai _) (qjg s.heap I.big),rfl,h _ (I.hok.fresh (ai _))⟩
end
end L2
namespace L2
open PySem PySem.Spec PyProof.Rows
def wq0:List (TE×TE)→St→Hp→(List (V×V)→Hp→Prop)→Prop
 |[],_,H,Q=>Q [] H
 |(tk,tv)::r,σ,H,Q=>tk σ H λx H1=>tv σ H1 λy H2=>wq0 r σ H2 λps H3=>Q ((x,y)::ps) H3
abbrev VV:List (V×V)→List (Ag×Ag)→Prop:=Paired λp q=>RelV p.1 q.1∧RelV p.2 q.2
def PPs (X:Cx)(pos:Pos)(keys:List (Option Expr))(values:List Expr)(trs:List (TE×TE)):Prop :=
 ∀(pins:List (Aj×Obj)) (s:Ab) (σ:St) (H:Hp) (Q:List (V×V)→Hp→Prop),Inv X pins σ H s→wq0 trs σ H Q →
  wpAny (model X.prog X.w) X.A (evalPairs (pairTrees keys values X.env pos)) (λvs s'=>∃ps H',Inv X pins σ H' s'∧VV ps vs∧Q ps H') X.xe s
theorem qvv {X:Cx}{pos:Pos}:PPs X pos [] [] []:=λpins s σ H Q I h=>pairTrees_nil_walk ⟨[],H,I,.nil,h⟩
theorem qq6 {X:Cx}{pos:Pos}{k v:Expr}{ks:List (Option Expr)}{vs:List Expr}{tk tv:TE}{trs:List (TE×TE)}(hk:PE X k tk)(hv:PE X v tv)(hr:PPs X pos ks vs trs) :
  PPs X pos (some k::ks) (v::vs) ((tk,tv)::trs):=λpins s σ H Q I h =>
 pairTrees_cons_walk (thn (hk pins s σ H _ I h) λu s1 ⟨x,H1,I1,rx,q1⟩=>thn (hv pins s1 σ H1 _ I1 q1) λw2 s2 ⟨y,H2,I2,ry,q2⟩ =>
  thn (hr pins s2 σ H2 _ I2 q2) λws s3 ⟨ps,H3,I3,rel,q3⟩=>⟨(x,y)::ps,H3,I3,.cons ⟨rx,ry⟩ rel,q3⟩)
def Zr (kvs more:List (Key×V)):List (Key×V):=more.foldl (λacc kv=>z0 acc kv.1 kv.2) kvs
theorem KV.merge:∀ {more:List (Key×V)} {rs:List (Key×Ag)} {kvs:List (Key×V)} {vs:List (Key×Ag)},KV more rs→KV kvs vs→KV (Zr kvs more) (merged vs rs):=by
 intro more rs kvs vs r
 unfold KV at r
 induction r generalizing kvs vs with
 |nil=>intro q;exact q
 |@cons p q ps qs h t ih =>
  intro r0
  have e:KV (z0 kvs p.1 p.2) (stored vs q.1 q.2):=by
   have:=r0.put p.1 h.2
   rw [←h.1];exact this
  exact ih e
theorem Q6:∀(more kvs:List (Key×V)),(Zr kvs more).length≤kvs.length+more.length
 |[],kvs=>by show kvs.length≤kvs.length+0;lia
 |p::r,kvs=>by
  have h1:=Q6 r (z0 kvs p.1 p.2)
  have h2:=j5 kvs p.1 p.2
  show (Zr (z0 kvs p.1 p.2) r).length≤_
  rw [au];lia
theorem qwv {P:Ac}{w:Ah}:∀ {kvs:List (Key×V)} {ws:List (Ag×Ag)},VV (kvs.map λkv=>(kV kv.1,kv.2)) ws→∃rs,Carries (xf P w) ws rs∧KV kvs rs
 |[],_,r=>by rw [bO] at r;cases r;exact ⟨[],True.intro,.nil⟩
 |p::kvs,_,r=>by
  rw [aA] at r
  cases r with
  |@cons a b as bs h t =>
   obtain ⟨rs,c,q⟩:=qwv (P:=P) (w:=w) t
   obtain ⟨b1,b2⟩:=b
   exact ⟨(p.1,b2)::rs,⟨Ww h.1,rfl,c⟩,.cons ⟨rfl,h.2⟩ q⟩
def tDisp (trs:List (TE×TE)):TE:=λσ H Q=>∀p,H p=none→wq0 trs σ (upd H p (.dK [])) λps H2=>H2 p=some (.dK [])∧∃kvs:List (Key×V),ps=kvs.map (λkv=>(kV kv.1,kv.2))∧kvs.length≤15∧Q (.ref p) (upd H2 p (.dK (Zr [] kvs)))
theorem qks {X:Cx}{pos:Pos}{keys:List (Option Expr)}{values:List Expr}{trs:List (TE×TE)}(h:PPs X pos keys values trs)(hall:keys.all (·.isSome)=true)(hl:keys.length=values.length)(h0:keys≠[])
  (h15:keys.length≤15):PE X (.Dict keys values pos) (tDisp trs):=by
 intro pins s σ H Q I q
 have hn:=I.hok.fresh (ai s.heap.objs.size)
 have I1:=I.laid (a:=s.heap.objs.size) (o:=.dK []) (h':=s.heap.push { cls:=.type "dict",data:=.dict #[] }) (t':=s.toks) (λ_ _ q=>ae _ q) (ai _) (qjq s.heap I.big)
 refine wpAny_Dict_walk (knd:=xf X.prog X.w) hall hl h0 h15 (thn (h pins _ σ _ _ I1 (q _ hn)) λws s2 ⟨ps,H2,I2,rel,e,kvs,ep,lk,q2⟩=>?_)
 subst ep
 obtain ⟨rs,c,rk⟩:=qwv (P:=X.prog) (w:=X.w) rel
 obtain ⟨z,hd,vs0,r0,dd⟩:=qzs I2.hok e
 cases r0
 refine ⟨rs,c,dd,λh' dd' hs=>⟨.ref s.heap.objs.size,_,?_,rfl,q2⟩⟩
 have hz:(Zr [] kvs).length≤sizeLine:=by
  have h1:=Q6 kvs []
  rw [bQ] at h1
  rw [fT];lia
 have he:∃q,h'.get? s.heap.objs.size=some q:=let ⟨q,_,_,hq,_⟩:=dd';⟨q,hq⟩
 exact Qn I2 (by rw [e];exact True.intro) hs he (Jr hz hd (rk.merge .nil) dd')
structure M1 (X:Cx)(o:Expr)(m:Str)(apos:Pos)(e:Expr)(cpos:Pos):Prop where
 base:attributeBase o m X.env (eval o X.env)=eval o X.env
 few:((backTo cpos (starEach [e] X.env)).all (λx=>!x.1)&&(backToKw cpos (keywordEach [] X.env)).all (λx=>x.1.isSome)
  && decide (([e]:List Expr).length+([]:List Keyword).length+(if ([]:List Keyword).isEmpty then 0 else 1)<30))=true
 line:(apos.endLine==cpos.line)=true
 trees:backTo cpos (starEach [e] X.env)=[(false,eval e X.env)]
structure M2 (X:Cx)(o:Expr)(m:Str)(apos:Pos)(e f:Expr)(cpos:Pos):Prop where
 base:attributeBase o m X.env (eval o X.env)=eval o X.env
 few:((backTo cpos (starEach [e,f] X.env)).all (λx=>!x.1)&&(backToKw cpos (keywordEach [] X.env)).all (λx=>x.1.isSome)
  && decide (([e,f]:List Expr).length+([]:List Keyword).length+(if ([]:List Keyword).isEmpty then 0 else 1)<30))=true
 line:(apos.endLine==cpos.line)=true
 trees:backTo cpos (starEach [e,f] X.env)=[(false,eval e X.env),(false,eval f X.env)]
def IsD (H:Hp)(a:Aj):Prop:=(∃kvs,Rd H a (.dK kvs))∨∃kvs,Rd H a (.dT kvs)
theorem wqh {X:Cx}{pins:List (Aj×Obj)}{σ:St}{H:Hp}{s:Ab}{a:Aj}(I:Inv X pins σ H s)(d:IsD H a) :
  s.TypeIs (.ref a) "dict" ∧ (∀b,Value.ref a=.ref b→∃ob,s.heap.get? b=some ob∧ob.dict=none)∧(a==sysModules)=false:=by
 rcases d with ⟨kvs,e⟩|⟨kvs,e⟩
 ·obtain ⟨_,hd,vs,_,dd⟩:=Qj I.hok e
  refine ⟨dd.typeIs,λb q=>?_,hd⟩
  cases q
  obtain ⟨ob,_,_,h1,h2,_⟩:=dd
  exact ⟨ob,h1,h2.2.1⟩
 ·obtain ⟨_,hd,xs,_,dd⟩:=Zu I.hok e
  refine ⟨dd.typeIs,λb q=>?_,hd⟩
  cases q
  obtain ⟨ob,_,_,h1,h2,_⟩:=dd
  exact ⟨ob,h1,h2.2.1⟩
section
variable {X:Cx}{pins:List (Aj×Obj)}{σ:St}{H:Hp}{s:Ab}{a:Aj}{y d:V}{u r:Ag}{o:Option V}{A:Ae}{E:Ag→Ab→Prop}
theorem zgr {Q:Ag→Ab→Prop}(hu:A.units+1<cLine)(I:Inv X pins σ H s)(g:DGet H a y o)(ry:RelV y u)(h:∀w' s',Inv X pins σ H s'→RelV (o.getD .non) w'→Q w' s') :
  wpAny (model X.prog X.w) A (call (.builtin "dict.get") [.ref a,u]) Q E s:=by
 rcases g with ⟨kvs,k,e,ey,l⟩|⟨kvs,k,b,e,ey,eb,l⟩
 ·subst ey
  obtain ⟨z,hd,vs,rel,dd⟩:=Qj I.hok e
  refine df bT dd.typeIs cK (fA _ _) (meets_dict_get (xf X.prog X.w) a (Ww ry) hd) ⟨_,dd.mapOf,h _ _ (I.tok _) ?_⟩
  rw [l]
  exact (rel.val k).getD rfl
 ·subst ey
  cases (show u=Value.ref b from ry)
  obtain ⟨z,hd,xs,rel,dd⟩:=Zu I.hok e
  refine df bT dd.typeIs cK (fA _ _) (meetsH_dict_get (tupleKind (xf X.prog X.w)) a b hd) ⟨cu hu,k,xs,Qb I.hok eb,dd,h _ _ (I.tok _) ?_⟩
  rw [l]
  exact (rel.val k).getD rfl
theorem zgs {Q:Ag→Ab→Prop}(hu:A.units+1<cLine)(I:Inv X pins σ H s)(g:DGet H a y o)(ry:RelV y u)(rd:RelV d r)(h:∀w' s',Inv X pins σ H s'→RelV (o.getD d) w'→Q w' s') :
  wpAny (model X.prog X.w) A (call (.builtin "dict.get") [.ref a,u,r]) Q E s:=by
 rcases g with ⟨kvs,k,e,ey,l⟩|⟨kvs,k,b,e,ey,eb,l⟩
 ·subst ey
  obtain ⟨z,hd,vs,rel,dd⟩:=Qj I.hok e
  refine df bT dd.typeIs cK (fB _ _ _) (meets_dict_get_default (xf X.prog X.w) a (Ww ry) hd r) ⟨_,dd.mapOf,h _ _ (I.tok _) ?_⟩
  rw [l]
  exact (rel.val k).getD rd
 ·subst ey
  cases (show u=Value.ref b from ry)
  obtain ⟨z,hd,xs,rel,dd⟩:=Zu I.hok e
  refine df bT dd.typeIs cK (fB _ _ _) (meetsH_dict_get_default (tupleKind (xf X.prog X.w)) a b hd r) ⟨cu hu,k,xs,Qb I.hok eb,dd,h _ _ (I.tok _) ?_⟩
  rw [l]
  exact (rel.val k).getD rd
end
def tDGet1 (td ty:TE):TE:=λσ H Q=>td σ H λx H1=>∃a,x=.ref a∧IsD H1 a∧ty σ H1 λy H2=>∃o,DGet H2 a y o∧Q (o.getD .non) H2
def tDGet2 (td ty tx:TE):TE:=λσ H Q=>td σ H λx H1=>∃a,x=.ref a∧IsD H1 a∧ty σ H1 λy H2=>tx σ H2 λz H3=>∃o,DGet H3 a y o∧Q (o.getD z) H3
section
variable {X:Cx}{o e f:Expr}{apos cpos:Pos}{td ty tx:TE}
theorem wyd (hu:X.A.units+1<cLine)(ho:PE X o td)(he:PE X e ty)(m:M1 X o "get" apos e cpos):PE X (.Call (.Attribute o "get" apos) [e] [] cpos) (tDGet1 td ty):=by
 intro pins s σ H Q I h
 refine wpAny_Call_method m.base m.few m.line dD bT PySem.F.type_dict_get (thn (ho pins s σ H _ I h) λu s1 ⟨x,H1,I1,rx,a,ex,d,q1⟩=>?_)
 subst ex
 obtain rfl:u=Value.ref a:=rx
 obtain ⟨t1,t2,_⟩:=wqh I1 d
 refine ⟨t1,t2,?_⟩
 rw [m.trees]
 refine ck rfl (cX (dz (thn (he pins s1 σ H1 _ I1 q1) λiv s2 ⟨y,H2,I2,ry,ov,g,q2⟩=>eU ?_)))
 exact zgr hu I2 g ry λw' s3 I3 rw'=>⟨_,H2,I3,rw',q2⟩
theorem qk9 (hu:X.A.units+1<cLine)(ho:PE X o td)(he:PE X e ty)(hf:PE X f tx)(m:M2 X o "get" apos e f cpos):PE X (.Call (.Attribute o "get" apos) [e,f] [] cpos) (tDGet2 td ty tx):=by
 intro pins s σ H Q I h
 refine wpAny_Call_method m.base m.few m.line dD bT PySem.F.type_dict_get (thn (ho pins s σ H _ I h) λu s1 ⟨x,H1,I1,rx,a,ex,d,q1⟩=>?_)
 subst ex
 obtain rfl:u=Value.ref a:=rx
 obtain ⟨t1,t2,_⟩:=wqh I1 d
 refine ⟨t1,t2,?_⟩
 rw [m.trees]
 refine ck rfl (cX (dz (thn (he pins s1 σ H1 _ I1 q1) λiv s2 ⟨y,H2,I2,ry,q2⟩ =>
  dz (thn (hf pins s2 σ H2 _ I2 q2) λfv s3 ⟨z,H3,I3,rz,ov,g,q3⟩=>eU ?_))))
 exact zgs hu I3 g ry rz λw' s4 I4 rw'=>⟨_,H3,I4,rw',q3⟩
end
section
variable {X:Cx}{pins:List (Aj×Obj)}{σ:St}{H:Hp}{s:Ab}{a:Aj}{kvs:List (Key×V)}{A:Ae}{E:Ag→Ab→Prop}
end
section
variable {X:Cx}{pins:List (Aj×Obj)}{σ:St}{H:Hp}{s:Ab}{a:Aj}{y:V}{u:Ag}{A:Ae}{E:Ag→Ab→Prop}
end
end L2
namespace L2
open PySem PySem.Spec PyProof.Rows PySem.W
def RawD (h:Heap)(d:Aj)(es:Array DictEntry)(ep:Nat):Prop:=∃o,h.get? d=some o∧o.ExactDict∧o.data=.dict es ep
section
variable {prog:Ac}{w:Ah}{A:Ae}{E:Ag→Ab→Prop}{s:Ab}{d:Aj}{es:Array DictEntry}{ep:Nat}
theorem RawD.ty {s:Ab}(x:RawD s.heap d es ep):s.TypeIs (.ref d) "dict" := let ⟨o,ho,hc,_⟩:=x;⟨o,ho,hc.1⟩
theorem RawD.lt {h:Heap}(x:RawD h d es ep):d<h.objs.size:=let ⟨_,ho,_⟩:=x;ao ho
theorem RawD.at {h h':Heap}(x:RawD h d es ep)(k:∀o,h.get? d=some o→h'.get? d=some o):RawD h' d es ep:=let ⟨o,ho,r⟩:=x;⟨o,k o ho,r⟩
theorem wvv {Q:Ag→Ab→Prop}(hd:(d==sysModules)=false)(hm:RawD s.heap d es ep)
  (hQ:Q (.ref s.heap.objs.size) { s with heap:=s.heap.push { cls:=.type "dict_keyiterator",data:=.fields #[.ref d,.int 0 0,.int es.size 0,.int ep 0] } }):wpAny (model prog w) A (pyIter (.ref d)) Q E s:=by
 obtain ⟨o,ho,hc,hdat⟩:=id hm
 (refine wpAny_pyIter_slot hm.ty F.slot_dict_iter (dh F.slot_dict_iter hm.ty F.entry_dict_iter ?_ (F.args_dict_iter_1 _)) ;unfold Builtin.«dict.__iter__» ;refine ac ?_ ;unfold Builtin.Dict.dictSlotNone ;refine ac (wpAny_notOrdered_dict hm.ty ?_))
 (show wpAny _ _ (pure (Value.ref d)) _ _ s ;refine am ?_ ;show wpAny _ _ (Builtin.Dict.showsAll d >>= _) _ _ s ;unfold Builtin.Dict.showsAll ;rw [af (by rw [hd];exact aD)])
 (refine ac (am ?_) ;refine ac (bZ ho hdat ?_) ;refine ac (fP ho hdat ?_))
 refine ac (cz (am ⟨_,rfl,"dict_keyiterator",_,⟨_,aw _ rfl,rfl⟩,bN.lookup,?_⟩)) ;simpa [rawInt] using hQ
theorem wks {it:Aj}{i:Nat}{e:DictEntry}{Q:Option Ag→Ab→Prop}(hit:s.heap.IsKeyIter it d i es.size ep)(hm:RawD s.heap d es ep)(hx:es[i]?=some e)
  (hQ:∀h',h'.IsKeyIter it d (i+1) es.size ep→Heap.SameBut it s.heap h'→Q (some e.key) { s with heap:=h' }):wpAny (model prog w) A (pyNext (.ref it)) Q E s:=by
 obtain ⟨o,ho,hc,hd⟩:=id hit ;obtain ⟨od,hod,hcd,hdd⟩:=id hm
 (unfold pyNext ;refine ac (wpAny_attempt (dE (name:=Str.ofString "__next__") hit.typeIs bN (dh bN hit.typeIs dW ?_ (dR _)))) ;refine ac (am ?_) ;refine ac ?_ ;refine ac ?_)
 ((first | refine ac (bY hit.typeIs (am ?_)) | refine ac (cD hit.typeIs (am ?_))) ;refine ac (wpAny_fieldsOf ho hd ?_) ;simp only [show Builtin.Dict_items.ownsTuple "dict_keyiterator" = false by decide,cL,dS] ;show wpAny _ _ (if (Value.ref d==Value.none)=true then _ else _) _ _ s ;rw [af (show ¬ ((Value.ref d==Value.none)=true) from aD)] ;refine ac (am ?_) ;refine ac (bZ hod hdd ?_) ;rw [af (by simp)] ;refine ac (am ?_) ;refine ac (fP hod hdd ?_) ;rw [af (by simp)] ;refine am ?_)
 have hlt:i<es.size:=(eO.mp hx).1 ;have he:es[i]=e:=(eO.mp hx).2
 (simp only [show ¬ ((i:Int)<0) from by lia,dS,cW,bR hlt] ;refine ac ?_ ;(first | refine ac (bY hit.typeIs (am ?_)) | refine ac (cD hit.typeIs (am ?_))) ;refine ac (wpAny_isOneOf_keyiter hit.typeIs ?_) ;show wpAny _ _ (setField (.ref it) 1 (rawInt ((i:Int)+1)) >>= _) _ _ s ;refine ac (wpAny_setField ho hd (by simp) ?_))
 have hit':(s.heap.update it (Obj.mapFields (·.setIfInBounds 1 (rawInt ((i:Int)+1))))).IsKeyIter it d (i+1) es.size ep:=⟨_,Heap.get?_update_self _ ho (Obj.isFreed_of_fields (Obj.data_mapFields hd _)),(Obj.cls_mapFields ..).trans hc,by rw [Obj.data_mapFields hd];simp [rawInt]⟩
 (refine ac (cR ?_) ;refine ac (wpAny_isOneOf_keyiter (s:={ s with heap:=s.heap.update it (Obj.mapFields (·.setIfInBounds 1 (rawInt ((i:Int)+1)))) }) hit'.typeIs ?_) ;show wpAny _ _ (pure es[i].key) _ _ _ ;rw [he])
 exact am (am ⟨_,rfl,am (hQ _ hit' (dn ..))⟩)
theorem xqr {it:Aj}{i:Nat}{Q:Option Ag→Ab→Prop}(hh:A.handled=none)(hit:s.heap.IsKeyIter it d i es.size ep)(hm:RawD s.heap d es ep)(hx:es.size≤i)(hQ:∀h',Heap.ExtBut it s.heap h'→Q none { s with heap:=h' }):wpAny (model prog w) A (pyNext (.ref it)) Q E s:=by
 obtain ⟨o,ho,hc,hd⟩:=id hit ;obtain ⟨od,hod,hcd,hdd⟩:=id hm
 (unfold pyNext ;refine ac (wpAny_attempt (dE (name:=Str.ofString "__next__") hit.typeIs bN (dh bN hit.typeIs dW ?_ (dR _)))) ;refine ac (am ?_) ;refine ac ?_ ;refine ac ?_)
 ((first | refine ac (bY hit.typeIs (am ?_)) | refine ac (cD hit.typeIs (am ?_))) ;refine ac (wpAny_fieldsOf ho hd ?_) ;simp only [show Builtin.Dict_items.ownsTuple "dict_keyiterator" = false by decide,cL,dS] ;show wpAny _ _ (if (Value.ref d==Value.none)=true then _ else _) _ _ s ;rw [af (show ¬ ((Value.ref d==Value.none)=true) from aD)] ;refine ac (am ?_) ;refine ac (bZ hod hdd ?_) ;rw [af (by simp)] ;refine ac (am ?_) ;refine ac (fP hod hdd ?_) ;rw [af (by simp)] ;refine am ?_)
 (simp only [show ¬ ((i:Int)<0) from by lia,dS,cW,cm hx] ;refine ac ?_ ;(first | refine ac (bY hit.typeIs (am ?_)) | refine ac (cD hit.typeIs (am ?_))) ;show wpAny _ _ (setField (.ref it) 0 .none >>= _) _ _ s ;refine ac (wpAny_setField ho hd (by simp) ?_) ;show wpAny _ _ (newExc (.type "StopIteration") [] >>= _) _ _ _ ;refine ac ?_ ;simp only [newExc,newTuple])
 (refine ac (cz ?_ (by size_fits)) ;refine ac (m:=firstArgMember _ _) (wpAny_of_eq (a:=Value.none) (by first | rfl | (simp only [firstArgMember];rfl)) ?_) ;refine cz ?_ (by size_fits) ;simp only [raiseNew] ;refine ac (wpAny_handled ?_) ;rw [show A.in1.handled=none from hh] ;refine ac (am (wpAny_throw ?_)))
 refine ac (wpAny_isInstance (T := "StopIteration") (b:=true) ⟨_,aw _ rfl,rfl⟩ isSubtype_stop (am (hQ _ (((dn ..).extBut.push _).push _))))
theorem wzt (hh:A.handled=none)(I:Aj)(hne:d≠I):Walks prog w A I [I,d] [I] es.size (λi v=>∃e,es[i]?=some e∧v=e.key) (λi h=>h.IsKeyIter I d i es.size ep∧RawD h d es ep) where
 sub:=λb hb=>by simp at hb;simp [hb]
 frame:=λ_ _ _ st hk=>⟨st.1.at λo e=>hk I (by simp) o e,st.2.at λo e=>hk d (by simp) o e⟩
 item:=λi s Q E hi st hQ=>wks st.1 st.2 (bR hi) λh' it' sb=>hQ _ h' s.toks ⟨_,bR hi,rfl⟩ ⟨it',st.2.at λo e=>sb.extBut d o hne e⟩ λb o hb e=>sb.extBut b o (λh=>hb (by simp [h])) e
 done:=λs Q E st hQ=>xqr hh st.1 st.2 (ai _) λh' eb=>hQ h' s.toks λb o hb e=>eb b o (λh=>hb (by simp [h])) e
 self:=λ_ _ _ _ st hQ=>wpAny_pyIter_keyiter st.1 hQ
theorem wy4 (lo:(d==sysModules)=false):KdlSrc prog w "dict" d d es.size (λi v=>∃e,es[i]?=some e∧v=e.key) (λh=>RawD h d es ep) where
 type:=λ_ hm=>hm.ty
 there:=λ_ hm=>⟨hm.lt,hm.lt⟩
 keep:=λ_ _ hm hk=>hm.at λo e=>hk d (.inl rfl) o e
 notList:=by decide
 notTuple:=by decide
 hint:=λ_ _ _ _ hm hq=>kdl_hint_dict hm.ty hq
 iter:=λ_ _ hh hm=>⟨_,_,(λ_ _ hq=>wvv lo hm hq),wzt hh _ (aC hm.lt),⟨⟨_,aw _ rfl,rfl,rfl⟩,hm.at λo e=>ae _ e⟩⟩
theorem qw3 (hd:(d==sysModules)=false):MeetsIn prog w (Builtin.«dict.__len__» ⟨[.ref d],[]⟩) (λ_ R s=>∃es ep,RawD s.heap d es ep∧R (.ok (.ret (.int es.size s.toks))) { s with toks:=s.toks+1 }) :=
 .of_wp λA R s ⟨es,ep,hm,h⟩=>by
  obtain ⟨o,ho,hc,hdat⟩:=hm
  (show wpAny _ _ (dictSize d >>= _) _ _ s ;unfold dictSize ;refine ac (ac (bZ ho hdat (am ?_))) ;show wpAny _ _ (Builtin.Dict.pendingCount d >>= _) _ _ s ;refine ac (wpAny_pendingCount_other hd ?_) ;refine wpAny_ret_mkInt ?_ ;rw [Nat.add_zero] ;exact h)
theorem xqz {Q:Ag→Ab→Prop}(hd:(d==sysModules)=false)(hm:RawD s.heap d es ep)(hfit:(es.size:Int)<2 ^ 63)(h:Q (.int es.size (s.toks+1)) { s with toks:=s.toks+1+1 }):wpAny (model prog w) A (call (.builtin "len") [.ref d]) Q E s:=by
 refine di kind_len plain_len entry_len (args_len1 _) ?_ ;unfold Builtin.«len» ;refine ac (m:=oneArg "len" _) (am ?_)
 refine ac (m:=callSpecial? (.ref d) (Str.ofString "__len__")) (dE (name:=Str.ofString "__len__") hm.ty F.slot_dict_len (df F.slot_dict_len hm.ty F.entry_dict_len (F.args_dict_len_1 _) (qw3 hd) ⟨es,ep,hm,?_⟩))
 (show wpAny _ _ _ _ _ { s with toks:=s.toks+1 } ;refine ac (cR (am ?_)) ;refine ac (wpAny_letGo ?_) ;show wpAny _ _ (if ((es.size:Nat):Int)<0 then _ else _) _ _ _ ;rw [af ⋯] ;show wpAny _ _ (if ((es.size:Nat):Int)≥2 ^ 63 then _ else _) _ _ _ ;rw [af ⋯])
 exact ac (wpAny_mkInt (am ⟨_,rfl,h⟩))
end
section
variable {X:Cx}
theorem wjw {P:Ac}{w:Ah}{H:Hp}{h:Heap}{a:Aj}{kvs:List (List Key×V)}(ok:HOk P w H h)(e:H a=some (.dT kvs)) :
  kvs.length≤sizeLine∧(a==sysModules)=false∧∃(xs:List (List Key×Aj×Ag)) (es:Array DictEntry) (ep:Nat),KT H kvs xs∧RawD h a es ep∧es.toList=xs.map (entryOfKey (tupleKind (xf P w))):=by
 obtain ⟨z,y,xs,r,o,es,ep,h1,h2,h3,h4,h5⟩:=(show ObjOk P w H h a (.dT kvs) from ok a _ e)
 exact ⟨z,y,xs,es,ep,r,⟨o,h1,h2,h3⟩,h4⟩
theorem qzv:vh X (.builtin "len") (λxs H Q=>∃a kvs,xs=[V.ref a]∧H a=some (.dT kvs)∧Q (.int kvs.length) H):=by
 intro pins s σ H xs us Q I r h
 obtain ⟨a,kvs,rfl,e,q⟩:=h
 obtain ⟨u,rfl,rx⟩:=jr r
 cases rx
 obtain ⟨z,hd,ys,es,ep,rel,raw,hes⟩:=wjw I.hok e
 have hl:es.size=kvs.length:=by rw [←aW,hes,aa,bu rel]
 have hn:=Z2
 exact xqz hd raw (by rw [hl];lia) ⟨.int kvs.length,H,I.tok _,⟨_,by rw [hl]⟩,q⟩
def wyq (H:Hp)(kvs:List (List Key×V))(vs:List V):Prop:=Paired (λv (p:List Key×V)=>∃b,v=V.ref b∧H b=some (.tup (p.1.map kV))) vs kvs
theorem quc (hc:X.calm=true):vh X (.type "list") (λxs H Q=>∃a kvs,xs=[V.ref a]∧H a=some (.dT kvs)∧∀p vs,H p=none→wyq H kvs vs→Q (.ref p) (upd H p (.lst vs))):=by
 intro pins s σ H xs us Q I r h
 obtain ⟨a,kvs,rfl,e,q⟩:=h
 obtain ⟨u,rfl,rx⟩:=jr r
 cases rx
 obtain ⟨z,hd,ys,es,ep,rel,raw,hes⟩:=wjw I.hok e
 have hl:es.size=kvs.length:=by rw [←aW,hes,aa,bu rel]
 refine kdl_call (wy4 hd) (I.ok.hd hc) raw (by rw [hl];exact z) λh' tk acc' c' hk hD hacc=>?_
 have key:∀(l:List Ag) (kvs':List (List Key×V)) (ys':List (List Key×Aj×Ag)),KT H kvs' ys'→l.length=kvs'.length→(∀(j:Nat) v,l[j]?=some v→∃y,ys'[j]?=some y∧v=.ref y.2.1)→∃vs,Vals vs l∧wyq H kvs' vs:=by
  intro l kvs' ys' rr
  induction rr generalizing l with
  |nil =>
   intro hl' _
   cases l with
   |nil=>exact ⟨[],.nil,.nil⟩
   |cons _ _=>simp at hl'
  |@cons p y ps yss hp t ih =>
   intro hl' hj
   cases l with
   |nil=>simp at hl'
   |cons v l =>
    obtain ⟨y',ey,rfl⟩:=hj 0 v rfl
    cases ey
    obtain ⟨vs,v1,v2⟩:=ih l (by simpa using hl') λj u hu=>by
     obtain ⟨y2,e2,e3⟩:=hj (j+1) u (by simpa using hu)
     exact ⟨y2,by simpa using e2,e3⟩
    exact ⟨.ref y.2.1::vs,.cons rfl v1,.cons ⟨_,rfl,hp.2.1⟩ v2⟩
 obtain ⟨vs,v1,v2⟩:=key acc'.toList kvs ys rel (by rw [aW,hacc.1,hl]) λj v ev=>by
  obtain ⟨en,e1,rfl⟩:=hacc.2 j v (by rw [←bS];exact ev)
  rw [←bS,hes,aB] at e1
  cases hy:ys[j]? with
  |none=>rw [hy] at e1;cases e1
  |some y =>
   rw [hy] at e1
   have e2:=az e1
   exact ⟨y,rfl,by rw [←e2];rfl⟩
 have hv:vs.length≤sizeLine:=by rw [v1.length,aW,hacc.1,hl];exact z
 exact ⟨.ref _,_,I.laid (t':=tk) hk (ai _) (show ObjOk X.prog X.w _ h' _ (.lst vs) from ⟨hv,acc'.toList,c',v1,by simpa using hD⟩),rfl,q _ _ (I.hok.fresh (ai _)) v2⟩
end
end L2
namespace L2
open PySem PySem.Spec PyProof.Rows
def Stay (G:Nat→V→Hp→Prop):Prop:=∀i v H H' p,G i v H→v≠.ref p→(∀b o,b≠p→H b=some o→H' b=some o)→G i v H'
theorem wqq {K:Aa}{M:List Nat}{a:Aj}{xs:List V}{te:TE}{σ:St}{H:Hp}{Q:VK}(G:Nat→V→Hp→Prop)(gs:Stay G)(hS:SqL K H a xs)(hn:xs.length≤1000000)
  (he:∀(i:Nat) (x:V) (H':Hp) (R:VK),xs[i]?=some x→Same H H'→(∀v H'',Same H' H''→G i v H''→(∀b,v=.ref b→H' b=none)→R v H'')→te (jy M σ (some x)) H' R)
  (k:∀p ys H',H p=none→Same H H'→H' p=some (.lst ys)→ys.length=xs.length→(∀j v,ys[j]?=some v→G j v H'∧v≠.ref p)→Q (.ref p) H'):qqc (Itl K a) M te σ H Q:=by
 intro p np
 refine ⟨λi m ys H2=>i≤xs.length∧m=xs.length-i∧ys.length=i∧Same H H2∧H2 p=some (.lst ys)∧∀j v,ys[j]?=some v→G j v H2∧v≠.ref p,⟨xs.length,aJ _,rfl,rfl,Same.upd np,qb,λj v e=>by cases e⟩,?_⟩
 rintro i m ys H2 ⟨hi,rfl,hy,sm,hp,hG⟩
 have hS':SqL K H2 a xs:=Same.sql sm hS
 refine ⟨hp,?_,?_⟩
 ·have:(1000000:Nat)<sizeLine:=by decide
  lia
 ·by_cases hlt:i<xs.length
  ·have hx:xs[i]?=some xs[i]:=al hlt
   refine .inr ⟨⟨xs,_,hS',hx⟩,?_⟩
   rintro v H3 ⟨rfl,hv⟩
   have e:=hv xs hS'
   rw [hx] at e
   have e':=az e
   subst e'
   refine he i _ _ _ hx sm λv H4 s4 g4 fr=>⟨s4 _ _ hp,xs.length-(i+1),⋯,⋯,rfl,by rw [aL,hy];rfl,λb o e=>?_,qb,λj w e=>?_⟩
   ·rw [wy (wz e np)]
    exact s4 _ _ (sm _ _ e)
   ·have vp:v≠.ref p:=λz=>by
     have:=fr p z
     rw [hp] at this
     cases this
    have st:∀b o,b≠p→H4 b=some o→upd H4 p (.lst (ys++[v])) b=some o:=λb o nb e=>by rw [wy nb];exact e
    rcases (dH j ys.length) with z|z
    ·rw [bG z] at e
     obtain ⟨g,nw⟩:=hG j w e
     exact ⟨gs j w _ _ p g nw λb o nb e=>st b o nb (s4 b o e),nw⟩
    ·rw [bt z] at e
     have hj:j=i:=by
      rcases dH (j-ys.length) 1 with y|y
      ·lia
      ·rw [be (by simpa using y)] at e
       cases e
     have e3:[v][j-ys.length]?=some w:=by assumption
     subst hj
     rw [show j-ys.length=0 by lia] at e3
     have:v=w:=az e3
     subst this
     exact ⟨gs j v H4 _ p g4 vp st,vp⟩
  ·have hi':i=xs.length:=by lia
   subst hi'
   exact .inl ⟨⟨xs,hS',ai _⟩,k p ys _ np sm hp hy hG⟩
theorem Wb {K:Aa}{M:List Nat}{a:Aj}{xs:List V}{te:TE}{σ:St}{H:Hp}{Q:VK}(f:V→V)(hf:∀x b,f x≠.ref b)(hS:SqL K H a xs)(hn:xs.length≤1000000)
  (he:∀(x:V) (H':Hp) (R:VK),x∈xs→Same H H'→(∀H'',Same H' H''→R (f x) H'')→te (jy M σ (some x)) H' R)
  (k:∀p H',H p=none→Same H H'→H' p=some (.lst (xs.map f))→Q (.ref p) H'):qqc (Itl K a) M te σ H Q:=by
 refine wqq (λi v _=>∃x,xs[i]?=some x∧v=f x) (λi v H H' p g _ _=>g) hS hn (λi x H' R hx s hR=>he x H' R (ba hx) s λH'' s''=>hR _ _ s'' ⟨x,hx,rfl⟩ λb e=>absurd e (hf x b)) λp ys H' np s hp hl hG=>?_
 have e:ys=xs.map f:=by
  refine dJ λj=>?_
  rw [aB]
  cases hj:ys[j]? with
  |none =>
   have:xs[j]?=none:=be (by have:=List.getElem?_eq_none_iff.mp hj;lia)
   rw [this]
   rfl
  |some v =>
   obtain ⟨⟨x,hx,rfl⟩,_⟩:=hG j v hj
   rw [hx]
   rfl
 rw [e] at hp
 exact k p H' np s hp
end L2
namespace L2
open PySem PySem.Spec PyProof.Rows
section
variable {X:Cx}{tg:Expr}
theorem qkq:vh X (.builtin "isinstance") (λxs H Q=>∃x c,xs=[x,.ref c]∧TyOf X.K H x (.ref c)∧Q (.bl true) H):=by
 intro pins s σ H xs us Q I r h
 obtain ⟨x,c,rfl,ty,q⟩:=h
 cases r with
 |cons r1 rr =>
  cases rr with
  |cons r2 rr =>
   cases rr
   cases r2
   exact qzd I r1 ty (b:=true) (by unfold W.kitOne;rw [ak (by simp)]) λtk=>⟨.bl true,H,I.tok tk,rfl,q⟩
end
end L2
namespace L2
open PySem
def IsO (K:Aa)(C:Aj):Prop:=W.findIn K (.ref C) "__class__" = some (some (.builtin "object.__class__")) ∧
 W.specialIn K (.builtin "object.__class__") "__get__" = some (some (.builtin "getset_descriptor.__get__"))∧W.takesIn K (.builtin "object.__class__")=some true∧W.mroIn K C (.type "object")=some true
end L2
namespace L2
open PySem PySem.Spec PyProof.Rows
end L2
namespace L2
open PySem PySem.Spec PyProof.Rows
section
variable {X:Cx}{pins:List (Aj×Obj)}{σ:St}{H:Hp}{s:Ab}{h':Heap}{ch:List Aj}
theorem Inv.turnedL {tk:Nat}(I:Inv X pins σ H s)(hk:∀b u,b∉ch→s.heap.get? b=some u→h'.get? b=some u)(hf:∀b∈ch,uh X pins H b):Inv X pins σ H { s with heap:=h',toks:=tk }:=by
 refine I.call' (s':={ s with heap:=h',toks:=tk }) (ch:=ch) rfl ⟨λb o e n _ nx=>hk b o nx e,λb o e n _ nx=>⟨o.slots,hk b o nx e⟩,λb o e n _=>n,λb o e nx=>⟨o,hk b o nx e⟩,λ_ _ e=>e,λ_ _ _ e=>e,λb ps e=>⟨#[],by rw [e];simp⟩⟩ ?_ I.bare λb hb=>?_
 ·intro b u hu
  refine (I.hok b u hu).stay (λc v hc e=>hk c v (λz=>?_) e) (λ_ z=>z) λ_ _ z=>z
  have:=(hf c z).1
  rcases hc with rfl|hc
  ·rw [this] at hu;cases hu
  ·rw [this] at hc;cases hc
 ·obtain ⟨q1,q2,q3,q4,q5,q6⟩:=hf b hb
  exact ⟨q4,q2,q5,q6⟩
theorem Inv.turnedT {tk:Nat}{o:HO}{ob:Obj}(I:Inv X pins σ H s)(hk:∀b u,b∉ch→s.heap.get? b=some u→h'.get? b=some u)(hn:h'.get? s.heap.objs.size=some ob)(hf:∀b∈ch,uh X pins H b)(hc:∀b∈ch,b≠s.heap.objs.size)
  (ok:ObjOk X.prog X.w (upd H s.heap.objs.size o) (s.heap.push ob) s.heap.objs.size o) (fr:ob.isFreed=false):Inv X pins σ (upd H s.heap.objs.size o) { s with heap:=h',toks:=tk }:=by
 have I1:Inv X pins σ (upd H s.heap.objs.size o) { s with heap:=s.heap.push ob,toks:=tk }:=I.laid (t':=tk) (λb u e=>ae _ e) (ai _) ok
 refine Inv.turnedL (s:={ s with heap:=s.heap.push ob,toks:=tk }) (ch:=ch) I1 (λb u nb e=>?_) λb hb=>?_
 ·rcases Heap.get?_push_cases e with ⟨rfl,rfl⟩|e
  ·exact hn
  ·exact hk b u nb e
 ·obtain ⟨q1,q⟩:=hf b hb
  exact ⟨by rw [wy (hc b hb)];exact q1,q⟩
theorem wwt {x y:V}{u v:Ag}(I:Inv X pins σ H s)(rx:RelV x u)(ry:RelV y v):ObjOk X.prog X.w (upd H s.heap.objs.size (.tup [x,y])) (s.heap.push { cls:=.type "tuple",data:=.seq #[u,v] }) s.heap.objs.size (.tup [x,y]):=by
 refine ⟨by show 2≤sizeLine;decide,[u,v],.cons rx (.cons ry .nil),?_⟩
 exact ⟨_,aw _ rfl,rfl,_,rfl⟩
end
section
variable {X:Cx}
end
def ItE (K:Aa)(a:Aj)(xs:List V):It :=
 ⟨λi H=>SqL K H a xs∧i<xs.length,λi H v H'=>∃q x,H q=none∧v=.ref q∧xs[i]?=some x∧H'=upd H q (.tup [.int (i:Nat),x]),λi H=>SqL K H a xs∧xs.length≤i⟩
theorem wzy {P:Ac}{w:Ah}{K:Aa}{es:List Expr}{k:Nat}{pos:Pos}(a z it:Aj)(xs:List V)(ap:z≠it):Turn P w K (.Tuple es k pos) (ItE K a xs) [z,it] z
  (λi h=>i≤xs.length∧(∃old,IsEnum h z it (i:Nat) old)∧h.IsListIter it a i) where
 mem:=by simp
 obj:=λi h st c hc=>by
  obtain ⟨_,⟨old,h1⟩,⟨o4,h4,c4,d4⟩⟩:=st
  have hc':c=z∨c=it:=by simpa using hc
  rcases hc' with rfl|rfl
  ·exact ⟨_,h1,λv z=>by cases z⟩
  ·exact ⟨_,h4,λv z=>by rw [d4] at z;cases z⟩
 keep:=λi h h' st k=>by
  obtain ⟨l,⟨old,h1⟩,h4⟩:=st
  exact ⟨l,⟨old,k z (by simp) _ h1⟩,h4.at λo e=>k it (by simp) o e⟩
 item:=by
  intro X hP hw hK hc i pins s σ H E I hf st hg
  subst hP hw hK
  obtain ⟨hq1,l1⟩:=hg
  obtain ⟨its,rv,p,hz⟩:=I.list hq1
  have e1:xs[i]?=some xs[i]:=al l1
  obtain ⟨u,hu,ru⟩:=rv.get e1
  obtain ⟨_,⟨old,h1⟩,h4⟩:=st
  refine wpAny_pyNext_enum_item h1 h4 p.isList (x:=u) (by simpa using hu) ap λh' g1 g2 g3 g4 g5=>?_
  refine ⟨_,rfl,wpAny_letOwnedTupleGo_enum (s:={ s with heap:=h',toks:=s.toks+1 }) g1 λh'' f1 f2=>?_⟩
  have hsz:∀c,c∈[z,it]→c≠s.heap.objs.size:=λc hc e=>by
   have hc':c=z∨c=it:=by simpa using hc
   have hlt:c<s.heap.objs.size:=by
    rcases hc' with rfl|rfl
    ·exact ao h1
    ·obtain ⟨o,e,_⟩:=h4;exact ao e
   exact bv _ (e▸hlt)
  have keepz:∀c o,c≠z→h'.get? c=some o→h''.get? c=some o:=λc o nc e=>(f2.2 c nc).trans e
  have keep:∀c o,c∉[z,it]→s.heap.get? c=some o→h''.get? c=some o:=λc o nc e=>by
   simp only [ag,aj,bd,not_or] at nc
   exact keepz c o nc.1 (g5 c o nc.1 nc.2 e)
  have new:h''.get? s.heap.objs.size=some { cls:=.type "tuple",data:=.seq #[.int (i:Nat) s.toks,u] }:=keepz _ _ (aY (hsz z (by simp))) g3
  refine ⟨.ref s.heap.objs.size,_,Inv.turnedT (s:=s) (ch:=[z,it]) (tk:=s.toks+1) I keep new hf hsz (wwt I (show RelV (.int (i:Nat)) (.int (i:Nat) s.toks) from ⟨_,rfl⟩) ru) rfl,rfl,⟨_,_,I.hok.fresh (ai _),rfl,e1,rfl⟩,⟨⋯,⟨u,?_⟩,g2.at λo e=>keepz _ _ (aY ap) e⟩,λc hc=>?_⟩
  ·rw [show (((i+1:Nat):Nat):Int)=(i:Int)+1 by lia]
   exact f1
  ·rw [wy (hsz c hc)]
   exact (hf c hc).1
 done:=by
  intro X hP hw hK hc i pins s σ H E I hf st hg
  subst hP hw hK
  obtain ⟨hq1,le⟩:=hg
  obtain ⟨its,rv,p,hz⟩:=I.list hq1
  have hl:=rv.length
  obtain ⟨_,⟨old,h1⟩,h4⟩:=st
  refine wpAny_pyNext_enum_end (I.ok.hd hc) h1 h4 p.isList (cm (by rw [aH];lia)) λh' g=>⟨rfl,Inv.turnedL (ch:=[z,it]) (tk:=s.toks) I (λc o nc e=>?_) hf⟩
  simp only [ag,aj,bd,not_or] at nc
  exact g c o nc.2 e
 self:=λ_ _ _ _ _ st h=>let ⟨_,⟨_,e⟩,_⟩:=st;wpAny_pyIter_enum e h
section
variable {X:Cx}
def iEnum (K:Aa)(ta:TA):TI:=λσ H R=>ta σ H λvs H1=>∃a xs,vs=[.ref a]∧SqL K H1 a xs∧R (ItE K a xs) H1
theorem wuh {a:Expr}{ta:TA}{p pos:Pos}{es:List Expr}{k:Nat}{tpos:Pos}(hg:Gl X "enumerate")(hm:X.mg "enumerate" = none)(ha:PA X [a] ta)(hv:autoParam (bootBuiltins "enumerate" = some (.type "enumerate")) aU4._auto_1)
  (hs:autoParam (starEach [a] X.env=[(false,eval a X.env)]) aU4._auto_1):PI X (.Tuple es k tpos) (.Call (.Name "enumerate" p) [a] [] pos) (iEnum X.K ta):=by
 intro pins s σ H R I h
 refine Call_ (Yk I hg hm hv (cg (thn (ha pos pins s σ H _ I h) λus s1 ⟨vs,H1,I1,r1,q1⟩=>?_) hs rfl))
 obtain ⟨a,xs,e,hq1,q⟩:=q1
 subst e
 cases r1 with
 |cons r rr =>
   cases rr
   cases r
   obtain ⟨its,rv,p,hz⟩:=I1.list hq1
   refine call_enumerate_list p.isList λh' g1 g4 g6 g7=>?_
   refine wpAny_pyIter_enum g1 ?_
   have I2:Inv X pins σ H1 { s1 with heap:=h' }:=I1.kept (t':=s1.toks) g7
   refine ⟨s1.heap.objs.size+1,[s1.heap.objs.size+1,s1.heap.objs.size],_,_,H1,rfl,I2,wzy a _ _ xs (Nat.succ_ne_self _),⟨aJ _,⟨_,g1⟩,g4⟩,λc hc=>?_,q⟩
   have hc':s1.heap.objs.size≤c:=by
    have:c=s1.heap.objs.size+1∨c=s1.heap.objs.size:=by simpa using hc
    rcases this with e | e <;> (rw [e];first | exact ai _ | exact Nat.le_add_right _ _)
   exact I1.fpOk hc' (I1.hok.fresh hc')
end
section
variable {X:Cx}{elt iter tg:Expr}{x y2:Str}{pos:Pos}{scope:Scope}{cl:List (Str×Aj)}{M:List Nat}{wi:TI}{gg:TG}{te:TE}
end
end L2
namespace L2
open PySem PySem.Spec PyProof.Rows PySem.W
def Fz (H:Hp)(d:Aj)(o:Obj)(kvs:List (Key×V))(H':Hp):Prop:=H' d=some (.frz o (.dK kvs))∧∀b,b≠d→H' b=H b
section
variable {X:Cx}{pins:List (Aj×Obj)}{σ:St}{H:Hp}{s:Ab}{d:Aj}{kvs:List (Key×V)}
theorem Inv.freeze {o:Obj}(I:Inv X pins σ H s)(e:H d=some (.dK kvs))(ho:s.heap.get? d=some o):Inv X pins σ (upd H d (.frz o (.dK kvs))) s:=by
 obtain ⟨z,hd,vs,rel,dd⟩:=qzs I.hok e
 exact Inv.write (t':=s.toks) (h':=s.heap) I (by rw [e];exact trivial) (.inl rfl) (λ_ _ _ e=>e) ⟨o,ho⟩ ⟨ho,Jr z hd rel dd⟩
theorem Yz {o:Obj}(I:Inv X pins σ H s)(e:H d=some (.frz o (.dK kvs))):kvs.length≤sizeLine∧(d==sysModules)=false∧s.heap.get? d=some o∧∃vs es ep,KV kvs vs∧o.data=.dict es ep∧s.heap.DictAt (xf X.prog X.w) d vs ep:=by
 obtain ⟨ho,z,hd,vs,rel,dd⟩:=(show ObjOk X.prog X.w H s.heap d (.frz o (.dK kvs)) from I.hok d _ e)
 obtain ⟨o',es,ep,h1,h2,h3,h4⟩:=id dd
 have:o'=o:=az (h1.symm.trans ho)
 subst this
 exact ⟨z,hd,ho,vs,es,ep,rel,h3,o',es,h1,h2,h3,h4⟩
theorem Inv.freezeRd (I:Inv X pins σ H s)(e:Rd H d (.dK kvs)):∃o H',Fz H d o kvs H'∧Inv X pins σ H' s:=by
 rcases e with e|⟨o,e⟩
 ·obtain ⟨z,hd,vs,rel,o,es,ep,ho,r⟩:=qzs I.hok e
  exact ⟨o,_,⟨qb,λb nb=>wy nb⟩,I.freeze e ho⟩
 ·exact ⟨o,H,⟨e,λ_ _=>rfl⟩,I⟩
theorem wwr {P:Ac}{w:Ah}{k:Key}{u:Ag}(h:(xf P w).is k u=true):RelV (kV k) u:=by
 rcases zg (show qqf k u=true from h) with ⟨i,t,rfl,rfl⟩|⟨x,t,rfl,rfl⟩
 ·exact ⟨t,rfl⟩
 ·exact ⟨t,rfl⟩
end
def ItD (d:Aj)(o:Obj)(kvs:List (Key×V)):It :=
 ⟨λi H=>H d=some (.frz o (.dK kvs))∧i<kvs.length,λi H v H'=>H'=H∧∃p,kvs[i]?=some p∧v=kV p.1,λi H=>H d=some (.frz o (.dK kvs))∧kvs.length≤i⟩
theorem qku {kvs:List (Key×V)}{vs:List (Key×Ag)}(r:KV kvs vs){i:Nat}{p:Key×V}(e:kvs[i]?=some p):∃q,vs[i]?=some (p.1,q)∧RelV p.2 q:=by
 induction r generalizing i with
 |nil=>cases e
 |cons h t ih =>
  cases i with
  |zero =>
   cases e
   obtain ⟨h1,h2⟩:=h
   rename_i b _ _
   exact ⟨b.2,by show some b=some (_,b.2);rw [h1],h2⟩
  |succ i=>exact ih e
theorem wy9 {P:Ac}{w:Ah}{K:Aa}{tg:Expr}{d it:Aj}{o:Obj}{kvs:List (Key×V)}{ep:Nat}(hep:∃es,o.data=.dict es ep):Turn P w K tg (ItD d o kvs) [it] it (λi h=>h.IsKeyIter it d i kvs.length ep) where
 mem:=by simp
 obj:=λi h st b hb=>by
  have e:b=it:=by simpa using hb
  subst e
  obtain ⟨ob,e,c,dd⟩:=st
  exact ⟨ob,e,λv z=>by rw [dd] at z;cases z⟩
 keep:=λi h h' st k=>st.at λob e=>k it (by simp) ob e
 item:=by
  intro X hP hw hK hc i pins s σ H E I hf st hg
  subst hP hw hK
  obtain ⟨hq,hi⟩:=hg
  obtain ⟨z,hd,ho,vs,es,ep',rel,h3,dd⟩:=Yz I hq
  obtain ⟨es2,h4⟩:=hep
  have:ep'=ep:=by rw [h3] at h4;cases h4;rfl
  subst this
  have e1:kvs[i]?=some kvs[i]:=al hi
  obtain ⟨q,eq,rq⟩:=qku rel e1
  have hl:vs.length=kvs.length:=(bu rel).symm
  obtain ⟨f0,f1,f2,f3,f4,f5⟩:=hf it (by simp)
  refine wpAny_pyNext_dict_item (by rw [hl];exact st) dd eq λkey h' hk st' sb=>?_
  have I1:Inv X pins σ H { s with heap:=h' }:=I.turned (t':=s.toks) (λb o hb e=>(sb.2 b hb).trans e) f0 f1 f3 f4 f5
  rw [hl] at st'
  obtain ⟨ob,e,c,d'⟩:=id st'
  exact ⟨key,rfl,qjp (s:={ s with heap:=h' }) e c d' ⋯ ⟨_,H,I1,wwr hk,⟨rfl,_,e1,rfl⟩,st',λb hb=>(hf b hb).1⟩⟩
 done:=by
  intro X hP hw hK hc i pins s σ H E I hf st hg
  subst hP hw hK
  obtain ⟨hq,hi⟩:=hg
  obtain ⟨z,hd,ho,vs,es,ep',rel,h3,dd⟩:=Yz I hq
  obtain ⟨es2,h4⟩:=hep
  have:ep'=ep:=by rw [h3] at h4;cases h4;rfl
  subst this
  have hl:vs.length=kvs.length:=(bu rel).symm
  obtain ⟨f0,f1,f2,f3,f4,f5⟩:=hf it (by simp)
  exact wpAny_pyNext_dict_end (I.ok.hd hc) (by rw [hl];exact st) dd (be ⋯) λh' eb=>⟨rfl,I.turned (t':=s.toks) (λb o hb e=>eb b o hb e) f0 f1 f3 f4 f5⟩
 self:=λ_ _ _ _ _ st h=>wpAny_pyIter_keyiter st h
def ItDI (d:Aj)(o:Obj)(kvs:List (Key×V)):It :=
 ⟨λi H=>H d=some (.frz o (.dK kvs))∧i<kvs.length,λi H v H'=>∃q p,H q=none∧v=.ref q∧kvs[i]?=some p∧H'=upd H q (.tup [kV p.1,p.2]),λi H=>H d=some (.frz o (.dK kvs))∧kvs.length≤i⟩
theorem wu1 {P:Ac}{w:Ah}{K:Aa}{xs:List Expr}{k:Nat}{pos:Pos}{d it:Aj}{o:Obj}{kvs:List (Key×V)}{ep:Nat}(hep:∃es,o.data=.dict es ep):Turn P w K (.Tuple xs k pos) (ItDI d o kvs) [it] it (λi h=>∃ok ov,IsItemIter h it d i kvs.length ep ok ov) where
 mem:=by simp
 obj:=λi h st b hb=>by
  have e:b=it:=by simpa using hb
  subst e
  obtain ⟨ok,ov,e⟩:=st
  exact ⟨_,e,λv z=>by cases z⟩
 keep:=λi h h' st k=>by
  obtain ⟨ok,ov,e⟩:=st
  exact ⟨ok,ov,k it (by simp) _ e⟩
 item:=by
  intro X hP hw hK hc i pins s σ H E I hf st hg
  subst hP hw hK
  obtain ⟨hq,hi⟩:=hg
  obtain ⟨z,hd,ho,vs,es,ep',rel,h3,dd⟩:=Yz I hq
  obtain ⟨es2,h4⟩:=hep
  have:ep'=ep:=by rw [h3] at h4;cases h4;rfl
  subst this
  have e1:kvs[i]?=some kvs[i]:=al hi
  obtain ⟨q,eq,rq⟩:=qku rel e1
  have hl:vs.length=kvs.length:=(bu rel).symm
  obtain ⟨ok,ov,st⟩:=st
  refine wpAny_pyNext_items_item (by rw [hl];exact st) dd eq λkey h' hk g1 g2 g3 g4=>?_
  refine ⟨_,rfl,wpAny_letOwnedTupleGo_items (s:={ s with heap:=h' }) g1 λh'' j1 j2=>?_⟩
  have ne:it≠s.heap.objs.size:=aC (ao st)
  have new:h''.get? s.heap.objs.size=some { cls:=.type "tuple",data:=.seq #[key,q] }:=(j2.2 _ (aY ne)).trans g2
  refine ⟨.ref s.heap.objs.size,_,Inv.turnedT (s:=s) (ch:=[it]) (tk:=s.toks) I (λb u nb e=>?_) new hf (λb hb=>?_) (wwt I (wwr hk) rq) rfl,rfl,⟨_,_,I.hok.fresh (ai _),rfl,e1,rfl⟩,⟨_,_,by rw [←hl];exact j1⟩,λb hb=>?_⟩
  ·have nb:b≠it:=by simpa using nb
   exact (j2.2 b nb).trans (g4 b u nb e)
  ·have e:b=it:=by simpa using hb
   rw [e];exact ne
  ·have e:b=it:=by simpa using hb
   rw [e,wy ne];exact (hf it (by simp)).1
 done:=by
  intro X hP hw hK hc i pins s σ H E I hf st hg
  subst hP hw hK
  obtain ⟨hq,hi⟩:=hg
  obtain ⟨z,hd,ho,vs,es,ep',rel,h3,dd⟩:=Yz I hq
  obtain ⟨es2,h4⟩:=hep
  have:ep'=ep:=by rw [h3] at h4;cases h4;rfl
  subst this
  have hl:vs.length=kvs.length:=(bu rel).symm
  obtain ⟨f0,f1,f2,f3,f4,f5⟩:=hf it (by simp)
  obtain ⟨ok,ov,st⟩:=st
  exact wpAny_pyNext_items_end (I.ok.hd hc) (by rw [hl];exact st) dd (be ⋯) λh' eb=>⟨rfl,I.turned (t':=s.toks) (λb o hb e=>eb b o hb e) f0 f1 f3 f4 f5⟩
 self:=λ_ _ _ _ _ st h=>by
  obtain ⟨ok,ov,e⟩:=st
  exact kcp_self e h
section
variable {X:Cx}{tg l:Expr}{tl:TE}
def iDk (tl:TE):TI:=λσ H R=>tl σ H λx H1=>∃d kvs,x=.ref d∧Rd H1 d (.dK kvs)∧∀o H2,Fz H1 d o kvs H2→R (ItD d o kvs) H2
theorem wwv (hl:PE X l tl):PI X tg l (iDk tl):=by
 intro pins s σ H R I h
 refine thn (hl pins s σ H _ I h) λv s1 ⟨x,H1,I1,r1,q1⟩=>?_
 obtain ⟨d,kvs,e,rd,q⟩:=q1
 subst e
 cases r1
 obtain ⟨o,H2,fz,I2⟩:=I1.freezeRd rd
 obtain ⟨z,hd,ho,vs,es,ep,rel,h3,dd⟩:=Yz I2 fz.1
 have hl:vs.length=kvs.length:=(bu rel).symm
 refine wpAny_pyIter_dict hd dd ?_
 refine ⟨s1.heap.objs.size,[s1.heap.objs.size],_,_,H2,rfl,I2.kept (t':=s1.toks) λb o e=>ae _ e,wy9 ⟨es,h3⟩,⟨_,aw _ rfl,rfl,by rw [hl];rfl⟩,λb hb=>?_,q o H2 fz⟩
 have e:b=s1.heap.objs.size:=by simpa using hb
 subst e
 exact I2.fpOk (ai _) (I2.hok.fresh (ai _))
def iDi (tl:TE):TI:=λσ H R=>tl σ H λx H1=>∃d kvs,x=.ref d∧Rd H1 d (.dK kvs)∧∀o H2,Fz H1 d o kvs H2→R (ItDI d o kvs) H2
theorem pi_di {apos cpos tpos:Pos}{xs:List Expr}{k:Nat}(hl:PE X l tl)(hbase:autoParam (attributeBase l "items" X.env (eval l X.env)=eval l X.env) aU4._auto_1)(hline:autoParam ((apos.endLine==cpos.line)=true) aU4._auto_1) :
  PI X (.Tuple xs k tpos) (.Call (.Attribute l "items" apos) [] [] cpos) (iDi tl):=by
 intro pins s σ H R I h
 refine wpAny_Call_method0_late hbase hline (thn (hl pins s σ H _ I h) λv s1 ⟨x,H1,I1,r1,q1⟩=>?_)
 obtain ⟨d,kvs,e,rd,q⟩:=q1
 subst e
 cases r1
 obtain ⟨o,H2,fz,I2⟩:=I1.freezeRd rd
 obtain ⟨t1,t2,_⟩:=wqh I1 (.inl ⟨kvs,rd⟩)
 obtain ⟨z,hd,ho,vs,es,ep,rel,h3,dd⟩:=Yz I2 fz.1
 have hl:vs.length=kvs.length:=(bu rel).symm
 refine ⟨"dict","dict.items",dD,fC,PySem.F.type_dict_items,t1,t2,ck rfl (PySem.evalArgs_none ?_)⟩
 refine df fC t1 PySem.F.entry_dict_items (PySem.F.args_dict_items_1 _) (meets_dict_items (xf X.prog X.w) d hd) ⟨⟨vs,dd.dictOf⟩,?_⟩
 have I3:Inv X pins σ H2 { s1 with heap:=s1.heap.push { cls:=.type "dict_items",data:=.fields #[.ref d] } }:=I2.kept (t':=s1.toks) λb o e=>ae _ e
 refine wpAny_pyIter_items (s:={ s1 with heap:=s1.heap.push { cls:=.type "dict_items",data:=.fields #[.ref d] } }) ⟨_,aw _ rfl,rfl,rfl⟩ (dd.push _) ?_
 refine ⟨_,[_],_,_,H2,rfl,I3.kept (t':=s1.toks) λb o e=>ae _ e,wu1 ⟨es,h3⟩,⟨.none,.none,?_⟩,λb hb=>?_,q o H2 fz⟩
 ·rw [hl]
  exact aw _ rfl
 ·have e:=ay.mp hb
  subst e
  exact I3.fpOk (ai _) (I3.hok.fresh (ai _))
def ItS (x:Str):It:=⟨λi _=>i<x.cps.size,λi H v H'=>H'=H∧v=.str ⟨#[x.cps.getD i 0]⟩,λi _=>x.cps.size≤i⟩
theorem wx3 {P:Ac}{w:Ah}{K:Aa}{it:Aj}{x:Str}{t:Tok}:Turn P w K tg (ItS x) [it] it (λi h=>h.IsStrIter it "str_ascii_iterator" x t i) where
 mem:=by simp
 obj:=λi h st b hb=>by
  have e:b=it:=by simpa using hb
  subst e
  obtain ⟨ob,e,c,dd⟩:=st
  exact ⟨ob,e,λv z=>by rw [dd] at z;cases z⟩
 keep:=λi h h' st k=>by
  obtain ⟨ob,e,r⟩:=st
  exact ⟨ob,k it (by simp) ob e,r⟩
 item:=by
  intro X hP hw hK hc i pins s σ H E I hf st hg
  subst hP hw hK
  have hg:i<x.cps.size:=hg
  obtain ⟨f0,f1,f2,f3,f4,f5⟩:=hf it (by simp)
  refine wpAny_pyNext_ascii_item st (c:=x.cps.getD i 0) (by rw [eB,bR hg];rfl) λh' st' sb=>?_
  have I1:Inv X pins σ H { s with heap:=h',toks:=s.toks+1 }:=I.turned (t':=s.toks+1) (λb o hb e=>(sb.2 b hb).trans e) f0 f1 f3 f4 f5
  obtain ⟨ob,e,c,d'⟩:=id st'
  exact ⟨_,rfl,qjp (s:={ s with heap:=h',toks:=s.toks+1 }) e c d' ⋯ ⟨.str ⟨#[x.cps.getD i 0]⟩,H,I1,⟨_,rfl⟩,⟨rfl,rfl⟩,st',λb hb=>(hf b hb).1⟩⟩
 done:=by
  intro X hP hw hK hc i pins s σ H E I hf st hg
  subst hP hw hK
  obtain ⟨f0,f1,f2,f3,f4,f5⟩:=hf it (by simp)
  exact wpAny_pyNext_ascii_end (I.ok.hd hc) st (cm hg) λh' eb=>⟨rfl,I.turned (t':=s.toks) (λb o hb e=>eb b o hb e) f0 f1 f3 f4 f5⟩
 self:=λ_ _ _ _ _ st h=>wpAny_pyIter_striter_ascii st h
theorem wzu {P:Ac}{w:Ah}{K:Aa}{it:Aj}{x:Str}{t:Tok}:Turn P w K tg (ItS x) [it] it (λi h=>h.IsStrIter it "str_iterator" x t i) where
 mem:=by simp
 obj:=λi h st b hb=>by
  have e:b=it:=by simpa using hb
  subst e
  obtain ⟨ob,e,c,dd⟩:=st
  exact ⟨ob,e,λv z=>by rw [dd] at z;cases z⟩
 keep:=λi h h' st k=>by
  obtain ⟨ob,e,r⟩:=st
  exact ⟨ob,k it (by simp) ob e,r⟩
 item:=by
  intro X hP hw hK hc i pins s σ H E I hf st hg
  subst hP hw hK
  have hg:i<x.cps.size:=hg
  obtain ⟨f0,f1,f2,f3,f4,f5⟩:=hf it (by simp)
  refine wpAny_pyNext_wide_item st (c:=x.cps.getD i 0) (by rw [eB,bR hg];rfl) λh' st' sb=>?_
  have I1:Inv X pins σ H { s with heap:=h',toks:=s.toks+1 }:=I.turned (t':=s.toks+1) (λb o hb e=>(sb.2 b hb).trans e) f0 f1 f3 f4 f5
  obtain ⟨ob,e,c,d'⟩:=id st'
  exact ⟨_,rfl,qjp (s:={ s with heap:=h',toks:=s.toks+1 }) e c d' ⋯ ⟨.str ⟨#[x.cps.getD i 0]⟩,H,I1,⟨_,rfl⟩,⟨rfl,rfl⟩,st',λb hb=>(hf b hb).1⟩⟩
 done:=by
  intro X hP hw hK hc i pins s σ H E I hf st hg
  subst hP hw hK
  obtain ⟨f0,f1,f2,f3,f4,f5⟩:=hf it (by simp)
  exact wpAny_pyNext_wide_end (I.ok.hd hc) st (cm hg) λh' eb=>⟨rfl,I.turned (t':=s.toks) (λb o hb e=>eb b o hb e) f0 f1 f3 f4 f5⟩
 self:=λ_ _ _ _ _ st h=>wpAny_pyIter_striter_wide st h
def iStr (tl:TE):TI:=λσ H R=>tl σ H λv H1=>∃x,v=.str x∧R (ItS x) H1
theorem wjs (hl:PE X l tl):PI X tg l (iStr tl):=by
 intro pins s σ H R I h
 refine thn (hl pins s σ H _ I h) λv s1 ⟨v',H1,I1,r1,x,e,q⟩=>?_
 subst e
 obtain ⟨t,rfl⟩:=(show ∃t,v=Value.str x t from r1)
 cases ha:x.cps.all (·<128)
 ·refine wpAny_pyIter_wide ha ⟨s1.heap.objs.size,[s1.heap.objs.size],_,_,H1,rfl,I1.kept (t':=s1.toks) λb o e=>ae _ e,wzu (t:=t),⟨_,aw _ rfl,rfl,rfl⟩,λb hb=>?_,q⟩
  have e:=ay.mp hb
  subst e
  exact I1.fpOk (ai _) (I1.hok.fresh (ai _))
 ·refine wpAny_pyIter_ascii ha ⟨s1.heap.objs.size,[s1.heap.objs.size],_,_,H1,rfl,I1.kept (t':=s1.toks) λb o e=>ae _ e,wx3 (t:=t),⟨_,aw _ rfl,rfl,rfl⟩,λb hb=>?_,q⟩
  have e:=ay.mp hb
  subst e
  exact I1.fpOk (ai _) (I1.hok.fresh (ai _))
end
end L2
namespace L2
open PySem
def advN (t:SetTable):Nat→SetTable.Probe→SetTable.Probe
 |0,p=>p
 |n+1,p=>advN t n (t.advance p)
def rs (mask:Nat)(q:Nat×Nat):SetTable.Probe:={ j:=q.1,more:=SetTable.runEnd mask q.1-q.1,i:=q.1,perturb:=q.2,dummy:=none }
theorem qvf:∀(l l':List Nat),l.Nodup→(∀a∈l,a∈l')→l.length≤l'.length
 |[],_,_,_=>aJ _
 |a::l,l',hn,hs=>by
  have hn':=aU.mp hn
  have ha:=hs a (.head _)
  have:=qvf l (l'.erase a) hn'.2 λb hb=>(List.mem_erase_of_ne (λz=>by subst z;exact hn'.1 hb)).mpr (hs b (.tail _ hb))
  rw [eX,ak ha] at this
  have hp:0<l'.length:=List.length_pos_of_mem ha
  rw [au]
  lia
inductive MetOk (t:SetTable) (p:SetTable.Probe) (N:Nat):SetTable.Met→Prop
 |empty (j:Nat):MetOk t p N (.empty j none)
 |cand (m i:Nat) (hm:m<N) (hs:t.slot (advN t m p).j=.live i):MetOk t p N (.candidate (advN t m p).j i (advN t (m+1) p))
def liveL (mask:Nat)(owner:Array (Option Nat)):List (Nat×Nat):=(List.range (mask+1)).filterMap λj=>(owner.getD j none).map (j,·)
structure OwnI (mask:Nat)(owner:Array (Option Nat))(k:Nat):Prop where
 size:owner.size=mask+1
 len:(liveL mask owner).length=k
 low:∀j v:Nat,owner[j]?=some (some v)→v<k
end L2
namespace L2
open PySem PySem.Spec PyProof.Rows
def Rows (q:Aj)(B:Hp)(L:List (List V))(ys:List V)(H:Hp):Prop:=Paired (λv xs=>∃a,v=.ref a∧a≠q∧B a=none∧H a=some (.lst xs)) ys L
theorem zj {H H':Hp}(s:Same H H'){a:Aj}(n:H' a=none):H a=none:=by
 cases e:H a with
 |none=>rfl
 |some o=>rw [s _ _ e] at n;cases n
end L2
namespace L2
open PySem PySem.Spec PyProof.Rows
def Bef (a:Array Ai)(p q:Nat):Prop:=K a p<K a q∨(K a p=K a q∧p<q)
structure From (a xs:Array Ai)(k:Nat)(ix:Nat→Nat):Prop where
 at_:∀i,xs[i]?=a[ix i]?
 rest:∀i,k≤i→ix i=i
 low:∀i,i<k→ix i<k
theorem From.key {a xs:Array Ai}{k:Nat}{ix:Nat→Nat}(f:From a xs k ix)(i:Nat):K xs i=K a (ix i):=K_congr (f.at_ i)
theorem From.more {a xs:Array Ai}{k:Nat}{ix:Nat→Nat}(f:From a xs k ix):From a xs (k+1) ix :=
 ⟨f.at_,λi h=>f.rest i ⋯,λi h=>by
  by_cases e:i<k
  ·have:=f.low i e;lia
  ·have:=f.rest i ⋯;lia⟩
theorem From.mirror {a xs:Array Ai}{k b:Nat}{ix:Nat→Nat}(f:From a xs k ix)(hk:k≤xs.size):From a (mirror xs b k ((k-b)/2)) k (λi=>if b≤i∧i<k then ix (b+k-1-i) else ix i):=by
 refine ⟨λi=>?_,λi h=>?_,λi h=>?_⟩
 ·rw [getElem?_mirror_all hk]
  by_cases c:b≤i∧i<k
  ·simp only [ak c]
   exact f.at_ _
  ·simp only [af c]
   exact f.at_ _
 ·simp only [af (show ¬ (b≤i∧i<k) by lia)]
  exact f.rest i h
 ·by_cases c:b≤i∧i<k
  ·simp only [ak c]
   exact f.low _ ⋯
  ·simp only [af c]
   exact f.low i h
def Up (a xs:Array Ai)(k:Nat):Prop:=∃ix,From a xs k ix∧∀i j,i<j→j<k→Bef a (ix i) (ix j)
def Dr (a xs:Array Ai)(k:Nat):Prop:=∃ix,From a xs k ix∧∀i j,i<j→j<k→Bef a (ix j) (ix i)
def Dn (a xs:Array Ai)(k e:Nat):Prop:=e+1≤k∧∃ix,From a xs k ix∧(∀i j,i<j→j<k-(e+1)→Bef a (ix j) (ix i))∧(∀i j,i<k-(e+1)→k-(e+1)≤j→j<k→K a (ix j)<K a (ix i)) ∧
 ∀i j,k-(e+1)≤i→i<j→j<k→K a (ix i)=K a (ix j)∧ix i<ix j
section
variable {a xs:Array Ai}{k e:Nat}
theorem Up.le (h:Up a xs k){i j:Nat}(hij:i≤j)(hj:j<k):K xs i≤K xs j:=by
 obtain ⟨ix,f,o⟩:=h
 rw [f.key,f.key]
 by_cases c:i=j
 ·subst c;exact Int.le_refl _
 ·rcases o i j ⋯ hj with h|h <;> lia
theorem Up.grow (h:Up a xs k)(hk:1≤k)(hn:¬ K xs k<K xs (k-1)):Up a xs (k+1):=by
 obtain ⟨ix,f,o⟩:=h
 rw [f.key,f.key,f.rest k (ai _)] at hn
 refine ⟨ix,f.more,λi j hij hj=>?_⟩
 by_cases c:j<k
 ·exact o i j hij c
 ·obtain rfl:j=k:=by lia
  have hl:=f.low i hij
  rw [f.rest j (ai _)]
  unfold Bef
  by_cases c2:i=j-1
  ·subst c2;lia
  ·rcases o i (j-1) ⋯ ⋯ with h|h <;> lia
theorem Dr.up (h:Dr a xs k)(hk:k≤xs.size):Up a (mirror xs 0 k ((k-0)/2)) k:=by
 obtain ⟨ix,f,o⟩:=h
 refine ⟨_,f.mirror hk,λi j hij hj=>?_⟩
 simp only [ak (show 0≤i∧i<k by lia),ak (show 0≤j∧j<k by lia)]
 exact o _ _ ⋯ ⋯
theorem Dn.flat (h:Dn a xs k 0):Dr a xs k:=by
 obtain ⟨h0,ix,f,o1,o2,o3⟩:=h
 refine ⟨ix,f,λi j hij hj=>?_⟩
 by_cases c:j<k-(0+1)
 ·exact o1 i j hij c
 ·exact .inl (o2 i j ⋯ ⋯ hj)
theorem Dn.turn (h:Dn a xs k e)(hk:k≤xs.size):Dr a (mirror xs (k-(e+1)) k ((k-(k-(e+1)))/2)) k:=by
 obtain ⟨h0,ix,f,o1,o2,o3⟩:=h
 refine ⟨_,f.mirror hk,λi j hij hj=>?_⟩
 by_cases c1:k-(e+1)≤i
 ·simp only [ak (show k-(e+1)≤i∧i<k by lia),ak (show k-(e+1)≤j∧j<k by lia)]
  exact .inr (o3 _ _ ⋯ ⋯ ⋯)
 ·simp only [af (show ¬ (k-(e+1)≤i∧i<k) by lia)]
  by_cases c2:k-(e+1)≤j
  ·simp only [ak (show k-(e+1)≤j∧j<k by lia)]
   exact .inl (o2 _ _ ⋯ ⋯ ⋯)
  ·simp only [af (show ¬ (k-(e+1)≤j∧j<k) by lia)]
   exact o1 i j hij ⋯
theorem Dr.grow (h:Dr a xs k)(hk:1≤k)(hn:K xs k<K xs (k-1)):Dn a xs (k+1) 0:=by
 obtain ⟨ix,f,o⟩:=h
 rw [f.key,f.key,f.rest k (ai _)] at hn
 refine ⟨⋯,ix,f.more,λi j hij hj=>o i j hij ⋯,λi j hi h1 h2=>?_,λi j h1 h2 h3=>by lia⟩
 obtain rfl:j=k:=by lia
 rw [f.rest j (ai _)]
 by_cases c:i=j-1
 ·subst c;exact hn
 ·rcases o i (j-1) ⋯ ⋯ with h|h <;> lia
theorem Dn.grow (h:Dn a xs k e)(h1:¬ K xs k<K xs (k-1))(h2:¬ K xs (k-1)<K xs k):Dn a xs (k+1) (e+1):=by
 obtain ⟨h0,ix,f,o1,o2,o3⟩:=h
 rw [f.key,f.key,f.rest k (ai _)] at h1 h2
 have hk1:k+1-(e+1+1)=k-(e+1):=by lia
 refine ⟨⋯,ix,f.more,?_,?_,?_⟩
 ·rw [hk1];exact o1
 ·rw [hk1]
  intro i j hi hj1 hj2
  by_cases c:j<k
  ·exact o2 i j hi hj1 c
  ·obtain rfl:j=k:=by lia
   rw [f.rest j (ai _)]
   have:=o2 i (j-1) hi ⋯ ⋯
   lia
 ·rw [hk1]
  intro i j hi hij hj
  by_cases c:j<k
  ·exact o3 i j hi hij c
  ·obtain rfl:j=k:=by lia
   rw [f.rest j (ai _)]
   refine ⟨?_,f.low i hij⟩
   by_cases c2:i=j-1
   ·subst c2;lia
   ·have:=(o3 i (j-1) hi ⋯ ⋯).1
    lia
theorem Up.even (h:Up a xs k)(hk:1≤k)(hz:k≤xs.size)(hr:¬ K xs 0<K xs (k-1)):Dr a (mirror xs 0 k ((k-0)/2)) k:=by
 have hle:=@Up.le a xs k h
 obtain ⟨ix,f,o⟩:=h
 have hall:∀i,i<k→K a (ix i)=K a (ix 0):=λi hi=>by
  have e1:=hle (i:=0) (j:=i) ⋯ hi
  have e2:=hle (i:=i) (j:=k-1) ⋯ ⋯
  rw [f.key,f.key] at e1 e2 hr
  lia
 refine ⟨_,f.mirror hz,λi j hij hj=>?_⟩
 simp only [ak (show 0≤i∧i<k by lia),ak (show 0≤j∧j<k by lia)]
 have e1:=hall (0+k-1-i) ⋯
 have e2:=hall (0+k-1-j) ⋯
 rcases o (0+k-1-j) (0+k-1-i) ⋯ ⋯ with h|h
 ·exact .inl h
 ·exact .inr h
theorem Up.put (h:Up a xs k)(hk:k<xs.size){l:Nat}(hl:l≤k)(h1:∀i,i<l→K xs i≤K xs k)(h2:∀i,l≤i→i<k→K xs k<K xs i):Up a (bubble xs k (k-l)) (k+1):=by
 obtain ⟨ix,f,o⟩:=h
 have hkk:k-(k-l)=l:=by lia
 have hr:=f.rest k (ai _)
 refine ⟨λi=>if i=l then k else if l<i∧i≤k then ix (i-1) else ix i,⟨λi=>?_,λi hi=>?_,λi hi=>?_⟩,λi j hij hj=>?_⟩
 ·rw [getElem?_bubble hk _ ⋯,hkk]
  by_cases c:i=l
  ·simp only [ak c]
   rw [f.at_,hr]
  ·simp only [af c]
   by_cases c2:l<i∧i≤k
   ·simp only [ak c2]
    exact f.at_ _
   ·simp only [af c2]
    exact f.at_ _
 ·simp only [af (show ¬ i=l by lia),af (show ¬ (l<i∧i≤k) by lia)]
  exact f.rest i ⋯
 ·by_cases c:i=l
  ·simp only [ak c];lia
  ·simp only [af c]
   by_cases c2:l<i∧i≤k
   ·simp only [ak c2]
    have:=f.low (i-1) ⋯
    lia
   ·simp only [af c2]
    have:=f.low i ⋯
    lia
 ·have key:∀i,i<k→(i<l→K a (ix i)≤K a k)∧(l≤i→K a k<K a (ix i)):=λi hi=>by
   refine ⟨λc=>?_,λc=>?_⟩
   ·have:=h1 i c
    rw [f.key,f.key,hr] at this
    exact this
   ·have:=h2 i c hi
    rw [f.key,f.key,hr] at this
    exact this
  by_cases ci:i=l
  ·simp only [ak ci,af (show ¬ j=l by lia),ak (show l<j∧j≤k by lia)]
   exact .inl ((key (j-1) ⋯).2 ⋯)
  ·by_cases cj:j=l
   ·simp only [af ci,ak cj,af (show ¬ (l<i∧i≤k) by lia)]
    have a1:=(key i ⋯).1 ⋯
    have a2:=f.low i ⋯
    unfold Bef
    lia
   ·simp only [af ci,af cj]
    by_cases c3:l<i
    ·simp only [ak (show l<i∧i≤k by lia),ak (show l<j∧j≤k by lia)]
     exact o _ _ ⋯ ⋯
    ·simp only [af (show ¬ (l<i∧i≤k) by lia)]
     by_cases c4:l<j
     ·simp only [ak (show l<j∧j≤k by lia)]
      exact o _ _ ⋯ ⋯
     ·simp only [af (show ¬ (l<j∧j≤k) by lia)]
      exact o _ _ hij ⋯
end
section
variable {prog:Ac}{w:Ah}{A:Ae}{E:Ag→Ab→Prop}{s:Ab}{a₀:Array Ai}
end
end L2
namespace L2
open PySem PySem.Spec PyProof.Rows
theorem qzt:∀(n:Nat) (l:List Nat),l.Nodup→(∀x∈l,x<n)→l.length≤n
 |0,l,_,h=>by
  cases l with
  |nil=>exact ai _
  |cons x l=>exact absurd (h x (ar ..)) (fQ _)
 |n+1,l,hn,h=>by
  have a1:=qzt n (l.erase n) (hn.erase n) λx hx=>by
   have hm:=List.mem_of_mem_erase hx
   have:=h x hm
   by_cases e:x=n
   ·subst e
    exact absurd hx (hn.not_mem_erase)
   ·lia
  have a2:l.length≤(l.erase n).length+1:=by
   rw [eX]
   split <;> lia
  lia
theorem qz4:∀(n:Nat) (l:List Nat),l.Nodup→(∀x∈l,x<n)→l.length=n→l.Perm (List.range n)
 |0,l,_,_,e=>by rw [fD.mp e];exact List.Perm.refl _
 |n+1,l,hn,h,e=>by
  have hm:n∈l:=by
   apply cv
   intro c
   have:=qzt n l hn λx hx=>by
    have:=h x hx
    by_cases e:x=n
    ·subst e;exact absurd hx c
    ·lia
   lia
  have a1:=qz4 n (l.erase n) (hn.erase n) (λx hx=>by
   have:=h x (List.mem_of_mem_erase hx)
   by_cases e:x=n
   ·subst e;exact absurd hx hn.not_mem_erase
   ·lia) (by rw [eX,ak (by simpa using hm)];lia)
  rw [du]
  exact (List.perm_cons_erase hm).trans ((a1.cons n).trans (List.perm_append_comm (l₁:=[n])))
theorem Up.places {a xs:Array Ai}(h:Up a xs a.size)(hz:xs.size=a.size):∃il:List Nat,il.Perm (List.range a.size)∧il.Pairwise (Bef a)∧xs.toList=il.map λi=>a.getD i (.none,.none):=by
 obtain ⟨ix,f,o⟩:=h
 have pw:((List.range a.size).map ix).Pairwise (Bef a):=by
  rw [bI]
  refine bW (R:=(·<·)) (λ{i j} hi hj hij=>?_) dL
  exact o i j hij (aS.mp hj)
 refine ⟨(List.range a.size).map ix,qz4 _ _ ?_ ?_ (by rw [aa,aN]),pw,?_⟩
 ·refine pw.imp λ{i j} h e=>?_
  subst e
  unfold Bef at h
  lia
 ·intro x hx
  obtain ⟨i,hi,rfl⟩:=aq.mp hx
  exact f.low i (aS.mp hi)
 ·refine dJ λi=>?_
  rw [aZ,aB,bS,f.at_]
  by_cases c:i<a.size
  ·rw [ce c]
   have:=f.low i c
   simp [Array.getD,this]
  ·rw [f.rest i ⋯,cm ⋯,be (by rw [aN];lia)]
   rfl
end L2
namespace L2
open PySem PySem.Spec PySem.W PyProof.Rows
section
variable {n:Nat}{im:Nat→Ai}{kz:Nat→Int}{ask:Nat→Nat→(Bool→Ab→Prop)→Ab→Prop}{s:Ab}
def Gd (n:Nat)(p:Array Nat):Prop:=p.Perm (List.toArray (List.range n))
theorem Gd.size {p:Array Nat}(h:Gd n p):p.size=n:=by
 have:=Array.Perm.size_eq h
 simpa using this
theorem Gd.lt {p:Array Nat}(h:Gd n p){i:Nat}(hi:i<n):p.getD i 0<n:=by
 have hs:=h.size
 have m:p[i]'⋯∈p:=Array.getElem_mem _
 have:=(Array.Perm.mem_iff h).mp m
 have e:p.getD i 0=p[i]'⋯:=by simp [Array.getD,hs,hi]
 rw [e]
 simpa using this
theorem Gd.rev {p:Array Nat}(h:Gd n p)(i j:Nat):Gd n (kas_rev p i j):=(mirror_perm _ _ _ _).trans h
theorem Gd.bub {p:Array Nat}(h:Gd n p)(i j:Nat):Gd n (bubble p i j):=(bubble_perm _ _ _).trans h
def ixA (n:Nat)(im:Nat→Ai):Array Ai:=(List.toArray (List.range n)).map im
theorem Jk (p:Array Nat)(i j:Nat):(kas_rev p i j).map im=mirror (p.map im) i j ((j-i)/2):=by
 unfold kas_rev mirror
 exact (kas_swaps_map im _ _ _ p).symm
theorem wyt (p:Array Nat)(i j:Nat):(bubble p i j).map im=bubble (p.map im) i j:=by
 unfold bubble
 exact (kas_swaps_map im _ _ _ p).symm
def KyI (im:Nat→Ai)(kz:Nat→Int):Prop:=∀(p:Array Nat) i,i<p.size→K (p.map im) i=kz (p.getD i 0)
def qwm (n:Nat)(kz:Nat→Int)(ask:Nat→Nat→(Bool→Ab→Prop)→Ab→Prop)(s:Ab):Prop:=∀i j C,i<n→j<n→C (decide (kz i<kz j)) s→ask i j C s
theorem J0 {p:Array Nat}{i j:Nat}{C:Bool→Ab→Prop}(ha:qwm n kz ask s)(hk:KyI im kz)(g:Gd n p)(hi:i<n)(hj:j<n)
  (h1:K (p.map im) i<K (p.map im) j→C true s) (h2:¬ K (p.map im) i<K (p.map im) j→C false s):ask (p.getD i 0) (p.getD j 0) C s:=by
 refine ha _ _ _ (g.lt hi) (g.lt hj) ?_
 rw [hk p i (by rw [g.size];exact hi),hk p j (by rw [g.size];exact hj)] at h1 h2
 by_cases c:kz (p.getD i 0)<kz (p.getD j 0)
 ·simp only [c,decide_true];exact h1 c
 ·simp only [c,decide_false];exact h2 c
theorem wqj {p:Array Nat}{e:Nat}{Q:Nat→Ab→Prop}(ha:qwm n kz ask s)(hk:KyI im kz)(g:Gd n p)(he:e≤n):∀(f b:Nat),1≤b→b+f=e→Up (ixA n im) (p.map im) b →
  (∀m,b≤m→m≤e→Up (ixA n im) (p.map im) m→(m=e∨K (p.map im) m<K (p.map im) (m-1))→Q m s)→(kas_asc p f b).kasWp ask Q s
 |0,b,_,hb,u,h=>h b (ai _) ⋯ u (.inl ⋯)
 |f+1,b,h1,hb,u,h=>by
  refine J0 ha hk g ⋯ ⋯ (λc=>?_) λc=>?_
  ·exact h b (ai _) ⋯ u (.inr c)
  ·exact wqj ha hk g he f (b+1) ⋯ ⋯ (u.grow h1 c) λm a1 a2 a3 a4=>h m ⋯ a2 a3 a4
theorem wxv {p:Array Nat}{k e:Nat}{Q:Nat×Array Nat→Ab→Prop}(ha:qwm n kz ask s)(hk:KyI im kz)(g:Gd n p)(he:e≤n)(h1:1≤k)(hke:k≤e)(d:Dr (ixA n im) (p.map im) k)
  (h:∀m q,Gd n q→1≤m→m≤e→Up (ixA n im) (q.map im) m→Q (m,q) s):(kas_tail3 k e p).kasWp ask Q s:=by
 unfold kas_tail3
 rw [KasT.kasWp_bind]
 refine wqj ha hk (g.rev 0 k) he (e-k) k h1 ⋯ ?_ λm a1 a2 a3 _=>h m _ (g.rev 0 k) ⋯ a2 a3
 rw [Jk]
 exact d.up (by rw [dc,g.size];lia)
theorem Y9 {e:Nat}{Q:Array Nat×Nat×Nat→Ab→Prop}(ha:qwm n kz ask s)(hk:KyI im kz)(he:e≤n):∀(f:Nat) (p:Array Nat) (x q:Nat),Gd n p→x+f=e→Dn (ixA n im) (p.map im) x q →
  (∀m r p',Gd n p'→x≤m→m≤e→Dn (ixA n im) (p'.map im) m r→Q (p',m,r) s)→(kas_desc f p x q).kasWp ask Q s
 |0,p,x,q,g,hx,d,h=>h x q p g (ai _) ⋯ d
 |f+1,p,x,q,g,hx,d,h=>by
  have hx1:1≤x:=by have:=d.1;lia
  have hz:x≤(p.map im).size:=by rw [dc,g.size];lia
  refine J0 ha hk g ⋯ ⋯ (λc=>?_) λc=>?_
  ·show KasT.kasWp ask (if q>0 then kas_desc f (kas_rev p (x-(q+1)) x) (x+1) 0 else kas_desc f p (x+1) 0) Q s
   by_cases c2:q>0
   ·rw [ak c2]
    refine Y9 ha hk he f _ (x+1) 0 (g.rev _ _) ⋯ ?_ λm r p' a1 a2 a3 a4=>h m r p' a1 ⋯ a3 a4
    rw [Jk]
    refine (d.turn hz).grow hx1 ?_
    rw [K_mirror hz,K_mirror hz,af ⋯,ak (by have:=d.1;lia)]
    obtain ⟨hq,ix,f',_,_,o3⟩:=id d
    by_cases c3:x-(q+1)+x-1-(x-1)=x-1
    ·rw [c3];exact c
    ·have:=(o3 (x-(q+1)+x-1-(x-1)) (x-1) ⋯ ⋯ ⋯).1
     rw [←f'.key,←f'.key] at this
     lia
   ·rw [af c2]
    obtain rfl:q=0:=by lia
    exact Y9 ha hk he f p (x+1) 0 g ⋯ (d.flat.grow hx1 c) λm r p' a1 a2 a3 a4=>h m r p' a1 ⋯ a3 a4
  ·refine J0 ha hk g ⋯ ⋯ (λc2=>?_) λc2=>?_
   ·exact h x q p g (ai _) ⋯ d
   ·exact Y9 ha hk he f p (x+1) (q+1) g ⋯ (d.grow c c2) λm r p' a1 a2 a3 a4=>h m r p' a1 ⋯ a3 a4
theorem ww9 {p:Array Nat}{k e:Nat}{Q:Nat×Array Nat→Ab→Prop}(ha:qwm n kz ask s)(hk:KyI im kz)(g:Gd n p)(he:e≤n)(hke:k+1≤e)(d:Dn (ixA n im) (p.map im) (k+1) 0)
  (h:∀m q,Gd n q→1≤m→m≤e→Up (ixA n im) (q.map im) m→Q (m,q) s):(kas_descPart k e p).kasWp ask Q s:=by
 unfold kas_descPart
 rw [KasT.kasWp_bind]
 refine Y9 ha hk he (e-(k+1)) p (k+1) 0 g ⋯ d λm r p' g' a1 a2 d'=>?_
 have hz:m≤(p'.map im).size:=by rw [dc,g'.size];lia
 dsimp only
 by_cases c:r>0
 ·rw [ak c]
  refine wxv ha hk (g'.rev _ _) he ⋯ a2 ?_ h
  rw [Jk]
  exact d'.turn hz
 ·rw [af c]
  obtain rfl:r=0:=by lia
  exact wxv ha hk g' he ⋯ a2 d'.flat h
theorem wyj {e:Nat}{Q:Nat×Array Nat→Ab→Prop}(ha:qwm n kz ask s)(hk:KyI im kz)(he:e≤n)(h1:1≤e)
  (h:∀m q,Gd n q→1≤m→m≤e→Up (ixA n im) (q.map im) m→Q (m,q) s):(kas_count e (List.toArray (List.range n))).kasWp ask Q s:=by
 have g:Gd n (List.toArray (List.range n)):=Array.Perm.refl _
 have u1:Up (ixA n im) ((List.toArray (List.range n)).map im) 1:=⟨id,⟨λi=>rfl,λi _=>rfl,λi z=>z⟩,λi j a b=>by lia⟩
 unfold kas_count
 rw [KasT.kasWp_bind]
 refine wqj ha hk g he (e-1) 1 (ai _) ⋯ u1 λm m1 m2 u hor=>?_
 have hz:m≤((List.toArray (List.range n)).map im).size:=by rw [dc,g.size];lia
 by_cases c:m=e
 ·rw [ak (dv.mpr c)]
  exact h m _ g m1 m2 u
 ·have hlt:=hor.resolve_left c
  rw [af (λz=>c (dv.mp z))]
  by_cases c2:m>1
  ·rw [ak c2]
   refine J0 ha hk g ⋯ ⋯ (λc3=>?_) λc3=>?_
   ·exact h m _ g m1 m2 u
   ·refine ww9 ha hk (g.rev 0 m) he ⋯ ?_ h
    rw [Jk]
    refine (u.even m1 hz c3).grow m1 ?_
    rw [K_mirror hz,K_mirror hz,af ⋯,ak ⋯]
    have e1:=u.le (i:=0) (j:=0+m-1-(m-1)) ⋯ ⋯
    have e2:=u.le (i:=0+m-1-(m-1)) (j:=m-1) ⋯ ⋯
    lia
  ·rw [af c2]
   obtain rfl:m=1:=by lia
   obtain ⟨ix,f,o⟩:=u
   exact ww9 ha hk g he ⋯ (Dr.grow ⟨ix,f,λi j a b=>by lia⟩ ⋯ hlt) h
theorem qqt {p:Array Nat}{k:Nat}{Q:Nat→Ab→Prop}(ha:qwm n kz ask s)(hk:KyI im kz)(g:Gd n p)(hkn:k<n)(u:Up (ixA n im) (p.map im) k)
  (h:∀l,l≤k→(∀i,i<l→K (p.map im) i≤K (p.map im) k)→(∀i,l≤i→i<k→K (p.map im) k<K (p.map im) i)→Q l s):∀(f l r:Nat),l≤r→r≤k→r-l≤f→(∀i,i<l→K (p.map im) i≤K (p.map im) k)→(∀i,r≤i→i<k→K (p.map im) k<K (p.map im) i) →
  (kas_place p k f l r).kasWp ask Q s
 |0,l,r,a1,a2,a3,a4,a5=>by
  obtain rfl:l=r:=by lia
  exact h l a2 a4 a5
 |f+1,l,r,a1,a2,a3,a4,a5=>by
  unfold kas_place
  by_cases c1:l≥r
  ·rw [ak c1]
   obtain rfl:l=r:=by lia
   exact h l a2 a4 a5
  ·rw [af c1]
   refine J0 ha hk g ⋯ ⋯ (λc2=>?_) λc2=>?_
   ·exact qqt ha hk g hkn u h f l ((l+r)/2) ⋯ ⋯ ⋯ a4 λi z1 z2=>by have:=u.le z1 z2;lia
   ·exact qqt ha hk g hkn u h f ((l+r)/2+1) r ⋯ ⋯ ⋯ (λi z=>by have:=u.le (i:=i) (j:=(l+r)/2) ⋯ ⋯;lia) a5
theorem wku {Q:Array Nat→Ab→Prop}(ha:qwm n kz ask s)(hk:KyI im kz)(h:∀q,Gd n q→Up (ixA n im) (q.map im) n→Q q s):∀(f:Nat) (p:Array Nat) (k:Nat),Gd n p→1≤k→k+f=n→Up (ixA n im) (p.map im) k →
  (kas_bin f p k).kasWp ask Q s
 |0,p,k,g,_,e,u=>by
  obtain rfl:k=n:=by lia
  exact h p g u
 |f+1,p,k,g,k1,e,u=>by
  unfold kas_bin
  rw [KasT.kasWp_bind]
  refine qqt ha hk g ⋯ u (λl a2 a4 a5=>?_) k 0 k (aJ _) (ai _) ⋯ (λi z=>by lia) λi z1 z2=>by lia
  refine wku ha hk h f _ (k+1) (g.bub _ _) ⋯ ⋯ ?_
  rw [wyt]
  exact u.put (by rw [dc,g.size];lia) a2 a4 a5
theorem wur {Q:Array Nat→Ab→Prop}(ha:qwm n kz ask s)(hk:KyI im kz)(h1:1≤n)(h:∀q,Gd n q→Up (ixA n im) (q.map im) n→Q q s):(kas_sort n).kasWp ask Q s:=by
 unfold kas_sort
 rw [KasT.kasWp_bind]
 refine wyj ha hk (ai _) h1 λm q g m1 m2 u=>?_
 dsimp only
 have em:max m 1=m:=by lia
 by_cases c:m<n
 ·rw [ak c,em]
  exact wku ha hk h (n-m) q m g m1 ⋯ u
 ·rw [af c]
  obtain rfl:m=n:=by lia
  exact h q g u
def imI (kz:Nat→Int)(t:Tok)(i:Nat):Ai:=(.int (kz i) t,.int (i:Int) t)
theorem imI_ky (kz:Nat→Int)(t:Tok):KyI (imI kz t) kz:=λp i hi=>by
 unfold K
 simp [hi,imI,numOf,Array.getD]
theorem tr_out {t:Tok}{Q:Array Nat→Ab→Prop}(ha:qwm n kz ask s)(h1:1≤n)
  (h:∀il:List Nat,il.Perm (List.range n)→il.Pairwise (λi j=>kz i<kz j∨(kz i=kz j∧i<j))→Q il.toArray s):(kas_sort n).kasWp ask Q s:=by
 refine wur ha (imI_ky kz t) h1 λq g u=>?_
 have hz:(ixA n (imI kz t)).size=n:=by simp [ixA]
 have hzq:(q.map (imI kz t)).size=(ixA n (imI kz t)).size:=by rw [hz,dc,g.size]
 obtain ⟨il,p,o,e⟩:=Up.places (by rw [hz];exact u) hzq
 rw [hz] at p
 have hin:∀i∈il,i<n:=λi hi=>aS.mp (p.mem_iff.mp hi)
 have at_:∀i,i<n→(ixA n (imI kz t)).getD i (.none,.none)=imI kz t i:=λi hi=>by
  simp [ixA,Array.getD,hi]
 have ky:∀i,i<n→K (ixA n (imI kz t)) i=kz i:=λi hi=>by
  unfold K
  simp [ixA,hi,imI,numOf]
 have e2:q.toList.map (imI kz t)=il.map (imI kz t):=by
  rw [←Array.toList_map,e]
  exact cf λi hi=>at_ i (hin i hi)
 have inj:∀i j,imI kz t i=imI kz t j→i=j:=λi j e=>by
  simp only [imI,Prod.mk.injEq,Value.int.injEq] at e
  lia
 have e3:q.toList=il:=(List.map_inj_right (λi j e=>inj i j e)).mp e2
 have e4:q=il.toArray:=by rw [←e3]
 rw [e4]
 exact h il p (o.imp_of_mem λ{i j} hi hj hb=>by
  unfold Bef at hb
  rw [ky i (hin i hi),ky j (hin j hj)] at hb
  exact hb)
end
end L2
namespace L2
open PySem PySem.Spec PySem.Calls PySem.W PyProof.Rows
section
variable {prog:Ac}{w:Ah}{A:Ae}{E:Ag→Ab→Prop}{s:Ab}
theorem Q7 {h:Heap}{a:Aj}{vs:List Ag}{k:Nat}(ho:h.get? a=some (seqObj "list" vs.toArray k))(out:Array Ag):∃e,(sortedHeap h a vs out).get? a=some (seqObj "list" out e):=by
 obtain ⟨e1,ho1⟩:∃e1,(h.update a (Obj.mapSeq λ_=>(#[]:Array Ag))).get? a=some (seqObj "list" #[] e1):=⟨_,get?_update_seq ho λ_=>#[]⟩
 exact ⟨_,get?_update_seq (ae _ (ae _ ho1)) λ_=>out⟩
theorem Qw {h:Heap}{a b:Aj}{vs:List Ag}{o:Obj}(e:h.get? b=some o)(hb:b≠a)(out:Array Ag):(sortedHeap h a vs out).get? b=some o:=by
 unfold sortedHeap
 rw [d7 _ _ _ _ hb]
 refine ae _ (ae _ ?_)
 rw [d7 _ _ _ _ hb]
 exact e
end
section
variable {X:Cx}
end
end L2
namespace L2
open PySem PySem.Spec PySem.Calls PySem.W PyProof.Rows
def kzS (ss:List Str)(x:Str):Int:=((ss.filter λy=>decide (y.cps.toList<x.cps.toList)).length:Nat)
theorem wjc {ss:List Str}{x y:Str}(h:¬ y.cps.toList<x.cps.toList):kzS ss x≤kzS ss y:=by
 unfold kzS
 have:(ss.filter λz=>decide (z.cps.toList<x.cps.toList)).length≤(ss.filter λz=>decide (z.cps.toList<y.cps.toList)).length:=by
  refine (List.Sublist.length_le ?_)
  have e:(ss.filter λz=>decide (z.cps.toList<x.cps.toList))=(ss.filter λz=>decide (z.cps.toList<y.cps.toList)).filter λz=>decide (z.cps.toList<x.cps.toList):=by
   rw [List.filter_filter]
   refine List.filter_congr λz _=>?_
   by_cases c:z.cps.toList<x.cps.toList
   ·have:z.cps.toList<y.cps.toList:=by
     apply cv
     intro n
     exact absurd c (List.not_lt.mpr (List.le_trans (List.not_lt.mp h) (List.not_lt.mp n)))
    simp [c,this]
   ·simp [c]
  rw [e]
  exact List.filter_sublist
 lia
theorem wyz {ss:List Str}{x y:Str}(hx:x∈ss)(h:x.cps.toList<y.cps.toList):kzS ss x<kzS ss y:=by
 unfold kzS
 have sub:(ss.filter λz=>decide (z.cps.toList<x.cps.toList)).length<(ss.filter λz=>decide (z.cps.toList<y.cps.toList)).length:=by
  have e:(ss.filter λz=>decide (z.cps.toList<x.cps.toList))=(ss.filter λz=>decide (z.cps.toList<y.cps.toList)).filter λz=>decide (z.cps.toList<x.cps.toList):=by
   rw [List.filter_filter]
   refine List.filter_congr λz _=>?_
   by_cases c:z.cps.toList<x.cps.toList
   ·have:z.cps.toList<y.cps.toList:=List.lt_trans c h
    simp [c,this]
   ·simp [c]
  rw [e]
  have mem:x∈ss.filter λz=>decide (z.cps.toList<y.cps.toList):=fJ.mpr ⟨hx,aX h⟩
  refine Nat.lt_of_le_of_ne (List.length_filter_le _ _) λz=>?_
  have:=(List.length_filter_eq_length_iff).mp z x mem
  exact List.lt_irrefl _ (of_decide_eq_true this)
 lia
theorem wuu {ss:List Str}{x y:Str}(hx:x∈ss):kzS ss x<kzS ss y↔x.cps.toList<y.cps.toList:=by
 constructor
 ·intro h
  apply cv
  intro n
  have:=wjc (ss:=ss) n
  lia
 ·exact wyz hx
section
variable {prog:Ac}{w:Ah}{A:Ae}{E:Ag→Ab→Prop}{s:Ab}
def StrsR (vs:List Ag)(ss:List Str):Prop:=Paired (λv x=>∃t,v=Value.str x t) vs ss
theorem StrsR.at {vs:List Ag}{ss:List Str}(h:StrsR vs ss):∀ {i:Nat},i<ss.length→∃x t,ss[i]?=some x∧vs.getD i Value.none=Value.str x t:=by
 induction h with
 |nil=>intro i hi;exact absurd hi (fQ _)
 |@cons a b l m hd tl ih =>
  intro i hi
  cases i with
  |zero=>obtain ⟨t,rfl⟩:=hd;exact ⟨b,t,rfl,rfl⟩
  |succ i=>exact ih (i:=i) (by simpa using hi)
theorem StrsR.mem {vs:List Ag}{ss:List Str}(h:StrsR vs ss):∀v∈vs,∃x t,v=Value.str x t:=by
 induction h with
 |nil=>intro v hv;cases hv
 |@cons a b l m hd tl ih =>
  intro v hv
  rcases ag.mp hv with rfl|hv
  ·obtain ⟨t,e⟩:=hd;exact ⟨b,t,e⟩
  ·exact ih v hv
theorem qwq {a:Aj}{vs:List Ag}{k:Nat}{ss:List Str}{P:PySem.Fin→Ab→Prop}(ho:s.heap.get? a=some (seqObj "list" vs.toArray k))(h64:vs.length<64)(t:StrsR vs ss)
  (h:∀il:List Nat,il.Perm (List.range vs.length)→il.Pairwise (λi j=>¬ (ss.getD j Str.empty).cps.toList<(ss.getD i Str.empty).cps.toList)→P (.done (.ret .none)) { s with heap:=sortedHeap s.heap a vs (il.map λi=>vs.getD i Value.none).toArray }) :
  wpAny (model prog w) A (Builtin.«list.sort» ⟨[.ref a],[]⟩) P E s:=by
 have hkl:vs.length=ss.length:=bu t
 have ha:a<s.heap.objs.size:=ao ho
 obtain ⟨e1,ho1⟩:∃e1,(s.heap.update a (Obj.mapSeq λ_=>(#[]:Array Ag))).get? a=some (seqObj "list" #[] e1):=⟨_,get?_update_seq ho λ_=>#[]⟩
 have sz:(1000001:Nat)<sizeLine:=by decide
 rw [list_sort_plain]
 refine ac (listItems_at ho rfl ?_)
 refine ac (listUpdate_at ho rfl ?_ (by rw [aH];lia) (aJ _))
 refine ac (seqEpoch_at ho1 rfl ?_)
 refine ac (wpAny_newTuple ?_ (by show vs.length≤_;lia))
 refine ac (fh ?_ (aJ _))
 refine cR ?_
 show wpAny (model prog w) A _ P E { s with heap:=((s.heap.update a (Obj.mapSeq λ_=>(#[]:Array Ag))).push (seqObj "tuple" vs.toArray 0)).push (seqObj "list" #[] 0) }
 have ho6:(((s.heap.update a (Obj.mapSeq λ_=>(#[]:Array Ag))).push (seqObj "tuple" vs.toArray 0)).push (seqObj "list" #[] 0)).get? a=some (seqObj "list" #[] e1):=ae _ (ae _ ho1)
 have fin:∀(h':Heap) (il:List Nat),h'=((s.heap.update a (Obj.mapSeq λ_=>(#[]:Array Ag))).push (seqObj "tuple" vs.toArray 0)).push (seqObj "list" #[] 0)→il.Perm (List.range vs.length)→il.Pairwise (λi j=>¬ (ss.getD j Str.empty).cps.toList<(ss.getD i Str.empty).cps.toList)→P (.done (.ret .none)) { s with heap:=h'.update a (Obj.mapSeq λ_=>(il.map λi=>vs.getD i Value.none).toArray) }:=λh' il e a1 a2=>by
  subst e
  exact h il a1 a2
 generalize ((s.heap.update a (Obj.mapSeq λ_=>(#[]:Array Ag))).push (seqObj "tuple" vs.toArray 0)).push (seqObj "list" #[] 0)=h6' at ho6 fin ⊢
 have fin:=λil=>fin h6' il rfl
 dsimp only
 by_cases h2:vs.toArray.size<2
 ·rw [ak h2,ak h2]
  refine ac (am ?_)
  rw [StateT.run_pure]
  refine ac (am ?_)
  dsimp only
  have h2':vs.length<2:=by simpa using h2
  have e:(arrOf (SortSt.mk' general' (vs.toArray.zip vs.toArray) #[] 7 none)).map (·.2)=((List.range vs.length).map λi=>vs.getD i Value.none).toArray:=by
   show (vs.toArray.zip vs.toArray).map (·.2)=_
   match vs,h2' with
   |[],_=>simp
   |[v],_=>simp
   |_::_::_,h2=>simp at h2;lia
  rw [e]
  refine ac (seqEpoch_at ho6 rfl ?_)
  refine ac (listUpdate_at ho6 rfl ?_ (aJ _) (by rw [aH,aa,aN];lia))
  simp only [bne_self_eq_false,cL,dS]
  refine am (fin (List.range vs.length) (.refl _) ?_)
  rcases (by lia:vs.length=0∨vs.length=1) with z|z
  ·rw [z];exact .nil
  ·rw [z];exact fE _ _
 ·rw [af h2,af h2]
  have hv2:2≤vs.length:=by simpa using h2
  refine ac (kas_kind (T:=.type "str") hv2 (λv hv=>?_) rfl rfl ?_)
  ·obtain ⟨x,tk,rfl⟩:=t.mem v hv
   exact Looks.of_pure rfl
  let kz:Nat→Int:=λi=>kzS ss (ss.getD i Str.empty)
  have gd:∀ {i x},ss[i]?=some x→ss.getD i Str.empty=x:=λe=>by rw [aM,e];rfl
  have ask:qwm vs.length kz (kas_ask prog w A oneType' vs) { s with heap:=h6' }:=λi j C hi hj hC=>by
   obtain ⟨x,tx,ex,vx⟩:=t.at (i:=i) ⋯
   obtain ⟨y,ty,ey,vy⟩:=t.at (i:=j) ⋯
   unfold kas_ask
   rw [vx,vy]
   refine kas_lt_str ?_
   have e:decide (kz i<kz j)=decide (x.cps.toList<y.cps.toList):=by
    rw [cM,dM,dM]
    show kzS ss (ss.getD i Str.empty)<kzS ss (ss.getD j Str.empty)↔_
    rw [gd ex,gd ey]
    exact wuu (ba ex)
   rw [←e]
   exact hC
  have tree:(kas_sort vs.length).kasWp (kas_cmp prog w A oneType' (pairsOf vs)) (λp s'=>s'={ s with heap:=h6' }∧p.toList.Perm (List.range vs.length)∧p.toList.Pairwise (λi j=>¬ (ss.getD j Str.empty).cps.toList<(ss.getD i Str.empty).cps.toList)) { s with heap:=h6' }:=by
   rw [←kas_ask_eq]
   refine tr_out (t:=0) ask ⋯ λil pm up=>⟨rfl,pm,up.imp_of_mem λ{i j} hi hj hb n=>?_⟩
   have hj:=aS.mp (pm.mem_iff.mp hj)
   obtain ⟨y,ty,ey,vy⟩:=t.at (i:=j) ⋯
   have:kz j<kz i:=by
    show kzS ss (ss.getD j Str.empty)<kzS ss (ss.getD i Str.empty)
    rw [gd ey] at n ⊢
    exact wyz (ba ey) n
   lia
  have est:SortSt.mk' oneType' (vs.toArray.zip vs.toArray) #[] 7 none=kas_st oneType' (pairsOf vs) (List.toArray (List.range vs.length)):=by
   have e:=kas_range (pairsOf vs)
   rw [pairsOf_size] at e
   show SortSt.mk' oneType' (pairsOf vs) #[] 7 none=SortSt.mk' oneType' ((List.toArray (List.range vs.length)).map (kas_item (pairsOf vs))) #[] 7 none
   rw [e]
  have run:=kas_runs (E:=E) (Q:=λ_ st' s'=>∃p:Array Nat,p.size=vs.length∧arrOf st'=p.map (kas_item (pairsOf vs))∧failedOf st'=none∧s'={ s with heap:=h6' }∧p.toList.Perm (List.range vs.length)∧p.toList.Pairwise (λi j=>¬ (ss.getD j Str.empty).cps.toList<(ss.getD i Str.empty).cps.toList))
   hv2 h64 (λp' st' s' a1 a2 a3 a4=>⟨p',a1,a2,a3,a4⟩) tree
  rw [←est] at run
  refine ac (bg run ?_ λ_ _ e=>e)
  rintro ⟨⟨⟩,st'⟩ s' ⟨p,hp,har,hf,rfl,pm,up⟩
  dsimp only
  have hout:(arrOf st').map (·.2)=List.toArray (p.toList.map λi=>vs.getD i Value.none):=by
   apply Array.toList_inj.mp
   rw [har,Array.map_map,Array.toList_map]
   exact cf λi _=>by show (kas_item (pairsOf vs) i).2=_;rw [kas_item_eq]
  rw [hout]
  refine ac (seqEpoch_at ho6 rfl ?_)
  refine ac (listUpdate_at ho6 rfl ?_ (aJ _) (by rw [aH,aa,aW];lia))
  rw [hf]
  simp only [bne_self_eq_false,cL,dS]
  exact am (fin p.toList pm up)
theorem qv4 {d:Aj}{vs:List (Key×Ag)}{ep:Nat}{Q:List Ag→Ab→Prop}(hh:A.handled=none)(lo:(d==sysModules)=false)(dd:s.heap.DictAt (xf prog w) d vs ep)(hn:vs.length≤sizeLine)
  (h:∀h' tk (qs:List Ag),(∀b o,s.heap.get? b=some o→h'.get? b=some o)→qs.length=vs.length→(∀(i:Nat) v,qs[i]?=some v→∃k x,vs[i]?=some (k,x)∧(xf prog w).is k v=true)→s.heap.objs.size≤h'.objs.size→Q qs { s with heap:=h',toks:=tk }):wpAny (model prog w) A (collect (.ref d)) Q E s:=by
 have hS:d<s.heap.objs.size:=dd.lt_size
 have R:(s.heap.push (seqObj "list" #[] 0)).DictAt (xf prog w) d vs ep:=dd.push _
 have run:codeAny (model prog w) A (.builtin "proto.collect" ⟨[.ref d],[]⟩) (λr s'=>r=.ok (.ret (.ref s.heap.objs.size))∧∃h' tk acc' c',s'={ s with heap:=h',toks:=tk }∧(∀b o,b≠s.heap.objs.size→(s.heap.push (seqObj "list" #[] 0)).get? b=some o→h'.get? b=some o) ∧
   h'.get? s.heap.objs.size=some { cls:=.type "list",dict:=none,data:=.seq acc' c',slots:=#[] }∧ItemsOf (λi v=>∃k x,vs[i]?=some (k,x)∧(xf prog w).is k v=true) acc' vs.length) s:=by
  refine codeAny_builtin entry_proto_collect' ?_
  show wpAny _ _ (do again (.builtin "list.__iadd__" ⟨[←newList [],.ref d],[]⟩)) _ _ s
  (refine ac (fh (am ⟨Code.quiet_builtin _ (by decide +kernel),codeAny_builtin entry_list_iadd' ?_⟩)) ;rw [Around.under_plainId (show plainId "list.__iadd__" = true by decide +kernel) _])
  show wpAny _ _ (Builtin.List.listExtendWith (.ref s.heap.objs.size) (.ref d) (.ref s.heap.objs.size)) _ _ _
  exact kdl_extend (s:={ s with heap:=s.heap.push (seqObj "list" #[] 0) }) (R:=λr s'=>r=.ok (.ret (.ref s.heap.objs.size))∧∃h' tk acc' c',s'={ s with heap:=h',toks:=tk }∧(∀b o,b≠s.heap.objs.size→(s.heap.push (seqObj "list" #[] 0)).get? b=some o→h'.get? b=some o) ∧
   h'.get? s.heap.objs.size=some { cls:=.type "list",dict:=none,data:=.seq acc' c',slots:=#[] }∧ItemsOf (λi v=>∃k x,vs[i]?=some (k,x)∧(xf prog w).is k v=true) acc' vs.length) (kdl_dict lo) (by simpa using hh) R s.heap.objs.size (ee hS) (ee hS) (.ref s.heap.objs.size) 0 (aw _ rfl) (λh' tk acc' c' hk hS' hacc=>⟨rfl,h',tk,acc',c',rfl,hk,hS',hacc⟩) hn
 unfold collect
 refine ac (wpAny_runValue (eA run λr s' hr=>?_))
 obtain ⟨rfl,h',tk,acc',c',rfl,hk,hS',hacc⟩:=hr
 dsimp only
 refine ac (wpAny_load hS' ?_)
 refine am ?_
 refine h h' tk _ (λb o e=>hk b o (aC (ao e)) (ae _ e)) (by rw [aW];exact hacc.1) (λi v e=>hacc.2 i v (by rw [←bS];exact e)) ?_
 exact cx (ao hS')
end
section
variable {X:Cx}
theorem Wq (hc:X.calm=true):vh X (.builtin "sorted") (λxs H Q=>∃(d:Aj) (kvs:List (Key×V)) (ss:List Str),xs=[.ref d]∧Rd H d (.dK kvs)∧kvs.map (·.1)=ss.map Sum.inr∧kvs.length<64 ∧
  ∀(l:Aj) (ms:List Str),H l=none→ms.Perm ss→ms.Pairwise (λx y=>¬ y.cps.toList<x.cps.toList)→Q (.ref l) (upd H l (.lst (ms.map V.str)))):=by
 intro pins s σ H xs us Q I r h
 obtain ⟨d,kvs,ss,rfl,hd,hk,hn,q⟩:=h
 obtain ⟨u,rfl,ru⟩:=jr r
 cases (show u=Value.ref d from ru)
 have sz:(100001:Nat)<sizeLine:=by decide
 obtain ⟨z,lo,vs,rel,dd⟩:=Qj I.hok hd
 obtain ⟨ep,dd⟩:=dd.dictAt
 have hl:vs.length=kvs.length:=(bu rel).symm
 have hls:kvs.length=ss.length:=by have:=bB List.length hk;simpa using this
 refine di kind_sorted plain_sorted entry_sorted (args_sorted1 _) ?_
 unfold Builtin.«sorted»
 refine ac (m:=checkCount "sorted" 1 1 _) (am ?_)
 refine ac (qv4 (by simpa using I.ok.hd hc) lo dd ⋯ λh' tk qs hk' hlq hq hz=>?_)
 refine ac (fh ?_ ⋯)
 have hoL:(h'.push (seqObj "list" qs.toArray 0)).get? h'.objs.size=some (seqObj "list" qs.toArray 0):=aw _ rfl
 have tS:StrsR qs ss:=by
  have key:∀(qs:List Ag) (ss:List Str),qs.length=ss.length→(∀(i:Nat) v,qs[i]?=some v→∃x t,ss[i]?=some x∧v=Value.str x t)→StrsR qs ss:=by
   intro qs
   induction qs with
   |nil =>
    intro ss e _
    cases ss with
    |nil=>exact .nil
    |cons _ _=>simp at e
   |cons v qs ih =>
    intro ss e hh
    cases ss with
    |nil=>simp at e
    |cons x ss =>
     obtain ⟨x',t,e1,e2⟩:=hh 0 v rfl
     cases e1
     exact .cons ⟨t,e2⟩ (ih ss (by simpa using e) λi v ev=>hh (i+1) v ev)
  refine key qs ss ⋯ λi v ev=>?_
  obtain ⟨k,x,e1,e2⟩:=hq i v ev
  have hi:=(aR.mp e1).1
  have ek:kvs[i]?=some kvs[i]:=al ⋯
  obtain ⟨qv,e3,_⟩:=qku rel ek
  rw [e1] at e3
  have e4:=bB (λl=>l[i]?) hk
  simp only [aB,ek,ca] at e4
  have hs:ss[i]?=some ss[i]:=al ⋯
  rw [hs,ca] at e4
  have e5:=az e4
  have e6:k=kvs[i].1:=bB Prod.fst (az e3)
  rw [e6,e5] at e2
  obtain ⟨t,rfl⟩:=(show ∃t,v=Value.str ss[i] t from wwr e2)
  exact ⟨ss[i],t,hs,rfl⟩
 refine ac (cR (dh slot_list_sort ⟨_,hoL,rfl⟩ entry_list_sort ?_ (args_list_sort _)))
 refine qwq (s:={ s with heap:=h'.push (seqObj "list" qs.toArray 0),toks:=tk }) hoL ⋯ tS λil pm up=>⟨_,rfl,am ⟨_,rfl,?_⟩⟩
 obtain ⟨e,he⟩:=Q7 hoL (il.map λi=>qs.getD i Value.none).toArray
 have nl:H h'.objs.size=none:=I.hok.fresh hz
 have hin:∀i∈il,i<ss.length:=λi hi=>by have:=aS.mp (pm.mem_iff.mp hi);lia
 have vals:∀(il:List Nat),(∀i∈il,i<ss.length)→Vals ((il.map λi=>ss.getD i Str.empty).map V.str) (il.map λi=>qs.getD i Value.none):=by
  intro il
  induction il with
  |nil=>intro _;exact .nil
  |cons i il ih =>
   intro hh
   obtain ⟨x,t,e1,e2⟩:=tS.at (hh i (.head _))
   refine .cons ?_ (ih λj hj=>hh j (.tail _ hj))
   show RelV (V.str (ss.getD i Str.empty)) (qs.getD i Value.none)
   rw [e2,aM,e1]
   exact ⟨t,rfl⟩
 have pms:(il.map λi=>ss.getD i Str.empty).Perm ss:=by
  have h1:=pm.map λi=>ss.getD i Str.empty
  have h2:((List.range qs.length).map λi=>ss.getD i Str.empty)=ss:=by
   refine dJ λi=>?_
   rw [aB]
   by_cases c:i<ss.length
   ·rw [ce ⋯,al c]
    show some (ss.getD i Str.empty)=_
    rw [aM,al c]
    rfl
   ·rw [be (by rw [aN];lia),be ⋯]
    rfl
  rw [h2] at h1
  exact h1
 refine ⟨.ref _,_,I.laid (t':=tk) (λb u hb=>Qw (ae _ (hk' b u hb)) (aC (aG (ao hb) hz)) _) hz (show ObjOk X.prog X.w _ _ _ (.lst ((il.map λi=>ss.getD i Str.empty).map V.str)) from ⟨?_,_,e,vals il hin,he⟩),rfl,q _ _ nl pms (bI.mpr up)⟩
 rw [aa,pms.length_eq]
 lia
end
end L2
namespace L2
open PySem PySem.Spec PySem.Calls PyProof.Rows PySem.W
section
variable {prog:Ac}{w:Ah}{A:Ae}{E:Ag→Ab→Prop}{s:Ab}{K:Type}[DecidableEq K]{knd:KeyKind prog w K}
theorem J1 {α:Type}{f:α→Int}:∀ {l:List α} (x:Int),(l.map f).Nodup→(l.filter λe=>f e==x).length≤1
 |[],_,_=>aJ _
 |a::l,x,h=>by
  rw [aA,aU] at h
  have ih:=J1 (l:=l) x h.2
  by_cases c:(f a==x)=true
  ·rw [bU,ak c]
   have:l.filter (λe=>f e==x)=[]:=List.filter_eq_nil_iff.mpr λe he hx=>h.1 (aq.mpr ⟨e,he,by rw [eq_of_beq hx,eq_of_beq c]⟩)
   rw [this]
   exact ai _
  ·rw [bU,af c]
   exact ih
theorem qyt {id:String}{d:Aj}{o:Obj}{es:Array DictEntry}{ep:Nat}{xs:List (List K×Aj×Ag)}{Q:Array DictEntry→Ab→Prop}(ho:s.heap.get? d=some o)(hd:o.data=.dict es ep)
  (he:es.toList=xs.map (entryOfKey (tupleKind knd))) (his:∀x∈xs,(tupleKind knd).is s.heap x.1 x.2.1) (hh:(xs.map λx=>(tupleKind knd).hash x.1).Nodup) (h:Q es s) :
  wpAny (model prog w) A (Builtin.Dict.entriesForEmpty id d) Q E s:=by
 unfold Builtin.Dict.entriesForEmpty
 refine ac (bZ ho hd ?_)
 refine ac (bg (Q:=λ_ s'=>s'=s) ?_ (λ_ s' e=>by subst e;exact am h) λ_ _ e=>e)
 rw [←Array.forIn_toList]
 refine wpAny_forIn_list _ (λrest _ s'=>s'=s∧∀e∈rest,e∈es.toList) _ ?_ (λ_ _ e=>e.1) _ _ ⟨rfl,λ_ h=>h⟩
 rintro e rest b s' ⟨rfl,hr⟩
 obtain ⟨x,hx,ex⟩:=aq.mp (he▸hr e (.head _))
 have hi:=his x hx
 have tl:s'.TypeIs (.ref x.2.1) "tuple" := by
  obtain ⟨o',its,n,h1,h2,_⟩:=hi
  exact ⟨o',h1,h2⟩
 have ek:e.key=.ref x.2.1:=by rw [←ex];rfl
 have hsz:¬ (es.filter (·.hash==e.hash)).size>1:=by
  have h1:=J1 (f:=λe:DictEntry=>e.hash) (l:=es.toList) e.hash (by rw [he,aZ];exact hh)
  have h2:(es.filter (·.hash==e.hash)).size=(es.toList.filter (·.hash==e.hash)).length:=by rw [←aW,Array.toList_filter]
  lia
 have tailok:∀e∈rest,e∈es.toList:=λe h=>hr e (.tail _ h)
 unfold Builtin.Dict.quietEq
 rw [ek]
 dsimp only
 refine ac (ac (fO tl PySem.F.slot_tuple_eq.lookup (am ?_)))
 rw [af hsz]
 show wpAny _ _ (if (!(_:Bool))=true then _ else _) _ _ _
 split
 ·exact am ⟨rfl,tailok⟩
 ·exact am ⟨rfl,tailok⟩
theorem wv0 {o:Aj}{xs:List (List K×Aj×Ag)}{Q:Ag→Ab→Prop}(hoS:(o==sysModules)=false)(ho:s.heap.DictOfH (tupleKind knd) o xs)(hsz:xs.length≤sizeLine)(h0:xs≠[])(hh:(xs.map λx=>(tupleKind knd).hash x.1).Nodup)
  (h:∀h',h'.DictOfH (tupleKind knd) s.heap.objs.size xs→Heap.SameBut s.heap.objs.size (s.heap.push { cls:=.type "dict",data:=.dict #[] }) h'→Q (.ref s.heap.objs.size) { s with heap:=h' }) :
  wpAny (model prog w) A (call (.type "dict") [.ref o]) Q E s:=by
 refine callType_codes (Q₁:=λobj s₁=>obj=.ref s.heap.objs.size∧s₁={ s with heap:=s.heap.push { cls:=.type "dict",data:=.dict #[] } }) PySem.F.kt_called_dict (PySem.F.kt_typeCall_dict_1 _) PySem.F.entry_dict_init (kt_code_dict_new _ ⟨rfl,rfl⟩) ?_
 rintro obj s₁ ⟨rfl,rfl⟩
 obtain ⟨oo,es,ep,hoo,hc,hd,he,his,hn⟩:=ho
 have hlt:o<s.heap.objs.size:=ao hoo
 have hnew:(s.heap.push { cls:=.type "dict",data:=.dict #[] }).get? s.heap.objs.size=some { cls:=.type "dict",data:=.dict #[] }:=aw _ rfl
 have tn:Shared.TypeIs { s with heap:=s.heap.push { cls:=.type "dict",data:=.dict #[] } } (.ref s.heap.objs.size) "dict" := ⟨_,hnew,rfl⟩
 have hoo':(s.heap.push { cls:=.type "dict",data:=.dict #[] }).get? o=some oo:=ae _ hoo
 have to:Shared.TypeIs { s with heap:=s.heap.push { cls:=.type "dict",data:=.dict #[] } } (.ref o) "dict" := ⟨_,hoo',hc.1⟩
 have hdo:s.heap.objs.size≠o:=ee hlt
 refine ⟨tn,PySem.F.args_dict_init_2 _ _,?_⟩
 unfold Builtin.«dict.__init__»
 refine ac ?_
 unfold Builtin.Dict.selfAndRest
 refine ac (wpAny_notOrdered_dict tn ?_)
 show wpAny _ _ (pure (s.heap.objs.size,[Value.ref o])) _ _ _
 refine am ?_
 show wpAny _ _ (Builtin.Dict.updateFrom "dict.__init__" s.heap.objs.size (.ref o) [] .none) _ _ _
 unfold Builtin.Dict.updateFrom
 refine ac (wpAny_typeOf to ?_)
 rw [af ⋯]
 refine ac ?_
 unfold Builtin.Dict.merge
 refine ac ?_
 unfold Builtin.Dict.readDirectly
 refine ac (wpAny_isInstance to isSubtype_dict_dict ?_)
 simp only [Bool.not_true,cL,dS]
 refine ac (fO to PySem.F.slot_dict_iter.lookup (am ?_))
 simp only [beq_self_eq_true,fU]
 refine ac (am ?_)
 unfold Builtin.Dict.mergeDict
 rw [af (by simpa using hdo)]
 unfold Builtin.Dict.showsAll
 rw [af (by rw [hoS];exact aD)]
 refine ac (am ?_)
 refine ac (bZ hoo' hd ?_)
 have hne:es.toList≠[]:=by rw [he];intro z;exact h0 (List.map_eq_nil_iff.mp z)
 have hall:(es.all λe=>(keyPart e.key).isSome)=false:=by
  obtain ⟨x,ys,rfl⟩:∃x ys,xs=x::ys:=by
   cases xs with
   |nil=>exact absurd rfl h0
   |cons x ys=>exact ⟨x,ys,rfl⟩
  rw [←Array.all_toList,he]
  rfl
 have his':∀x∈xs,(tupleKind knd).is (s.heap.push { cls:=.type "dict",data:=.dict #[] }) x.1 x.2.1:=λx hx=>by
  obtain ⟨o',its,n,h1,r⟩:=his x hx
  exact ⟨o',its,n,ae _ h1,r⟩
 dsimp only
 rw [hall,Bool.and_false]
 simp only [Bool.not_false,fU]
 refine ac (bZ hnew rfl ?_)
 rw [ak (show (#[]:Array DictEntry).isEmpty=true from rfl)]
 refine ac (qyt (knd:=knd) hoo' hd he his' hh ?_)
 have hem:es.isEmpty=false:=by
  rw [←Array.isEmpty_toList]
  cases hz:es.toList with
  |nil=>exact absurd hz hne
  |cons _ _=>rfl
 rw [hem]
 simp only [Bool.not_false,fU]
 have hsize:es.size=xs.length:=by rw [←aW,he,aa]
 refine ac (wpAny_updateDictKeysTo hnew rfl (am ?_) (by show es.size≤_;lia))
 show wpAny _ _ (Builtin.Dict.addKeywords s.heap.objs.size [] >>= _) _ _ _
 refine ac (am (am ⟨rfl,h _ ⟨_,es,1,Heap.get?_update_self _ hnew (Obj.isFreed_of_dict (Obj.data_mapDictKeys rfl _)),⟨rfl,rfl,rfl⟩,rfl,he,λx hx=>?_,hn⟩ (dn ..)⟩))
 exact (tupleKind knd).keeps (his' x hx) hnew rfl (dn ..)
end
section
variable {X:Cx}
def Q9 (P:Ac)(w:Ah)(k:List Key):Int:=(tupleKind (xf P w)).hash k
theorem wqy:vh X (.type "dict") (λxs H Q=>∃a kvs,xs=[V.ref a]∧H a=some (.dT kvs)∧kvs≠[]∧(kvs.map λp=>Q9 X.prog X.w p.1).Nodup∧∀p,H p=none→Q (.ref p) (upd H p (.dT kvs))):=by
 intro pins s σ H xs us Q I r h
 obtain ⟨a,kvs,rfl,e,h0,hh,q⟩:=h
 obtain ⟨u,rfl,rx⟩:=jr r
 cases rx
 obtain ⟨z,hd,xs,rel,dd⟩:=Zu I.hok (.inl e)
 have hl:xs.length=kvs.length:=(bu rel).symm
 have hm:∀ {kvs:List (List Key×V)} {xs:List (List Key×Aj×Ag)},KT H kvs xs→xs.map (λx=>(tupleKind (xf X.prog X.w)).hash x.1)=kvs.map λp=>Q9 X.prog X.w p.1:=by
  intro kvs xs r
  induction r with
  |nil=>rfl
  |cons h t ih=>rw [aA,aA,ih,h.1];rfl
 refine wv0 hd dd (by rw [hl];exact z) (λz=>h0 (dX (by rw [←hl,z];rfl))) (by rw [hm rel];exact hh) λh' dd' hs=>?_
 obtain ⟨o',es,ep,h1,h2,h3,h4,h5,h6⟩:=dd'
 refine ⟨.ref _,_,I.laid (a:=s.heap.objs.size) (o:=.dT kvs) (t':=s.toks) (λb q hq=>?_) (ai _) ⟨z,aQ.mpr (aY (aC I.big)),xs,rel.keeps λc ys ec=>?_,o',es,ep,h1,h2,h3,h4,h6⟩,rfl,q _ (I.hok.fresh (ai _))⟩
 ·exact (hs.2 b (aC (ao hq))).trans (ae _ hq)
 ·rw [wy (wz ec (I.hok.fresh (ai _)))]
  exact ec
def tDispT (tk tv:TE):TE:=λσ H Q=>∀p,H p=none→tk σ (upd H p (.dT [])) λx H1=>tv σ H1 λv H2=>∃b ks,x=.ref b∧H2 b=some (.tup (ks.map kV))∧H2 p=some (.dT [])∧Q (.ref p) (upd H2 p (.dT [(ks,v)]))
theorem wv6 {k v:Expr}{pos:Pos}{tk tv:TE}(hu:X.A.units<cLine)(hk:PE X k tk)(hv:PE X v tv):PE X (.Dict [some k] [v] pos) (tDispT tk tv):=by
 intro pins s σ H Q I q
 have hn:=I.hok.fresh (ai s.heap.objs.size)
 have I1:=I.laid (a:=s.heap.objs.size) (o:=.dT []) (h':=s.heap.push { cls:=.type "dict",data:=.dict #[] }) (t':=s.toks) (λ_ _ q=>ae _ q) (ai _) (qjg s.heap I.big)
 refine wpAny_Dict_any rfl rfl (λz=>by cases z) (show 1≤15 by decide) ?_
 refine pairTrees_cons_walk (thn (hk pins _ σ _ _ I1 (q _ hn)) λu s1 ⟨x,H1,I2,rx,q1⟩=>thn (hv pins s1 σ H1 _ I2 q1) λw2 s2 ⟨y,H2,I3,ry,b,ks,ex,eb,ep,q2⟩=>pairTrees_nil_walk ?_)
 subst ex
 cases (show u=Value.ref b from rx)
 obtain ⟨z,hd,xs,rel,dd⟩:=dt_of I3.hok ep
 cases rel
 unfold storeAll
 rw [List.forIn_cons]
 refine ac (ac (wpAny_dictSet_heap (knd:=tupleKind (xf X.prog X.w)) (hsz:=aJ _) hu (Qb I3.hok eb) dd λh' dd' hs=>am ?_))
 refine am ?_
 obtain ⟨o',es,ep',h1,h2,h3,h4,_,h6⟩:=dd'
 refine ⟨.ref _,_,Qn I3 (by rw [ep];exact True.intro) hs ⟨o',h1⟩ (show ObjOk X.prog X.w (upd H2 s.heap.objs.size (.dT [(ks,y)])) h' s.heap.objs.size (.dT [(ks,y)]) from ⟨by show 1≤sizeLine;decide,hd,[(ks,b,w2)],.cons ⟨rfl,?_,ry⟩ .nil,o',es,ep',h1,h2,h3,h4,h6⟩),rfl,q2⟩
 rw [wy (ne_of eb ep (λz=>nomatch z))]
 exact eb
end
end L2
namespace L2
open PySem
namespace Hs
def rot (a:Nat):Nat:=(a*2 ^ 31)%18446744073709551616+a/2 ^ 33
def lane (a x:Nat):Nat:=(rot ((a+x*14029467366897019727)%18446744073709551616)*11400714785074694791)%18446744073709551616
def dOf (x:Nat):Nat:=(lane 2870177450012600261 x*839798700976720815)%18446744073709551616
noncomputable def byD:List Nat:=[732,925,295,798,488,178,681,694,887,760,450,140,643,849,722,412,915,102,605,928,811,684,374,877,64,567,257,130,13,956,646,336,839,26,529,219,92,918,608,298,801,491,181,54,247,570,260,763,453,326,143,16,209,532,222,725,415,288,171,494,687,377,880,250,443,133,959,649,339,842,405,95,921,611,804,677,367,57,560,883,573,766,639,456,329,19,522,212,845,911,728,601,291,794,484,174,807,873,690,563,253,756,446,136,9,525,215,718,408,98,924,487,177,680,370,60,886,449,952,139,642,332,835,205,22,88,914,101,604,294,797,50,876,566,256,759,322,12,838,528,218,721,411,284,167,800,490,683,556,373,246,439,129,762,452,955,645,518,335,208,401,91,724,917,607,480,170,363,53,686,879,569,442,132,635,325,15,648,841,404,94,597,287,803,869,56,559,249,752,765,958,831,18,521,211,714,920,793,483,173,676,366,882,755,445,948,135,638,328,201,84,717,407,910,97,600,290,163,46,679,369,872,562,252,125,318,8,641,331,834,524,397,214,87,280,603,293,796,486,359,49,242,565,758,448,951,11,514,204,720,410,913,476,166,682,875,748,438,128,631,321,954,644,837,710,527,400,90,593,283,916,799,672,362,865,52,555,245,878,944,761,634,324,827,14,517,207,596,286,789,479,169,42,558,248,751,441,131,4,957,520,210,713,403,906,93,159,172,675,365,868,55,121,947,637,327,830,393,83,276,909,599,289,792,482,355,45,238,871,561,754,627,444,317,7,510,200,833,523,716,589,406,279,472,162,795,678,551,241,434,124,757,950,640,513,203,706,396,86,719,912,475,165,668,358,48,874,940,127,630,320,823,10,836,902,89,592,282,785,38,864,554,244,747,437,0,953,826,516,206,709,399,272,155,788,478,168,671,361,234,51,117,750,440,943,633,323,196,389,79,712,402,905,595,468,285,158,351,41,674,364,867,557,430,120,313,3,829,519,82,585,275,791,481,44,547,237,753,946,819,636,509,199,702,392,715,908,781,598,471,161,664,354,870,743,433,936,123,626,316,6,949,832,705,395,898,85,588,278,34,667,357,860,47,550,240,113,629,319,822,512,202,75,281,784,474,164,37,230,243,746,436,939,126,192,708,398,901,591,464,154,347,670,360,863,553,426,116,309,942,632,825,698,515,388,78,581,271,904,594,787,660,477,350,40,543,233,866,749,622,312,2,505,195,828,711,584,274,777,467,157,673,236,739,429,119,945,198,701,391,894,81,907,790,160,663,353,856,43,546,109,935,625,315,818,5,508,71,897,587,277,780,470,343,33,226,859,549,239,742,432,305,122,188,821,511,704,394,267,460,150,783,473,666,539,356,229,422,112,435,938,628,191,384,74,900,590,153,656,346,36,862,552,745,115,618,308,501,824,890,707,580,270,773,463,786,852,669,542,232,735,425,941,814,504,194,697,387,77,903,776,466,156,659,349,39,105,738,428,931,118,621,311,184,1,67,390,893,80,583,273,146,29,352,855,545,235,108,301,314,817,507,197,700,70,263,779,469,662,535,225,418,741,431,934,624,497,187,380,703,896,769,586,459,149,652,342,32,665,858,731,548,421,111,614,304,937,820,693,383,73,576,266,899,782,345,848,35,538,228,744,307,810,500,190,63,269,772,462,152,655,25,861,734,424,927,114,617,180,696,386,889,76,579,142,658,348,851,541,414,231,104,297,930,620,310,813,503,376,193,66,259,892,582,775,465,338,28,531,221,854,544,737,610,427,300,493,183,506,699,262,455,145,661,224,727,417,107,933,623,816,689,379,69,572,895,778,651,341,844,31,534,857,923,740,613,303,806,496,186,59,885,575,265,768,458,148,21,847,537,227,730,420,110,176,809,499,189,692,382,255,72,138,461,151,654,344,217,100,423,926,616,306,179,372,62,385,888,578,268,771,334,24,850,540,733,606,296,489,812,502,695,568,258,451,141,774,840,657,530,220,723,413,103,736,929,802,619,492,182,685,375,65,891,764,454,144,647,337,27,853,416,919,106,609,299,815,378,881,68,571,261,134,17,340,843,30,533,223,726,932,805,495,185,688,251,767,457,960,147,650,213,96,729,419,922,612,485,302,175,368,58,691,381,884,574,447,264,137,330,20,653,846,536,409,99,602,292,615,808,498,371,61,564,254,577,770,333,23,526,216]
def apart:List Nat→Bool
 |[]=>true
 |[_]=>true
 |x::y::l=>Nat.ble (dOf x+40) (dOf y)&&apart (y::l)
theorem qzh:apart byD=true:=by decide +kernel
theorem byD_lt:(byD.all λx=>Nat.blt x 961)=true:=by decide +kernel
theorem xqd:byD.length=961:=by decide +kernel
theorem qwr:(byD.all λx=>Nat.ble 40 (dOf x)&&Nat.ble (dOf x+40) 18446744073709551616&&!(Nat.ble (dOf x) 15746002411462551884&&Nat.ble 15746002411462551884 (dOf x+40)))=true:=by decide +kernel
theorem Jn:∀ {l:List Nat},apart l=true→l.Pairwise λx y=>dOf x+40≤dOf y
 |[],_=>.nil
 |[_],_=>fE _ _
 |x::y::l,h=>by
  have h:(Nat.ble (dOf x+40) (dOf y)&&apart (y::l))=true:=h
  rw [bc] at h
  have ih:=Jn h.2
  have a:=bJ h.1
  refine dB.mpr ⟨λz hz=>?_,ih⟩
  rcases ag.mp hz with rfl|hz
  ·exact a
  ·have:=(dB.mp ih).1 z hz
   lia
theorem pw_two {l:List Nat}(h:l.Pairwise λx y=>dOf x+40≤dOf y):∀x∈l,∀y∈l,x≠y→dOf x+40≤dOf y∨dOf y+40≤dOf x:=by
 induction h with
 |nil=>intro x hx;cases hx
 |@cons b l a t ih =>
  intro x hx y hy ne
  rcases ag.mp hx with hx|hx
  ·rcases ag.mp hy with hy|hy
   ·exact absurd (hx.trans hy.symm) ne
   ·rw [hx];exact .inl (a y hy)
  ·rcases ag.mp hy with hy|hy
   ·rw [hy];exact .inr (a x hx)
   ·exact ih x hx y hy ne
theorem Js {x:Nat}(h:x<961):x∈byD:=by
 apply cv
 intro n
 have nd:byD.Nodup:=(Jn qzh).imp λ{a b} q e=>by rw [e] at q;lia
 have:=L2.qvf (x::byD) (List.range 961) (aU.mpr ⟨n,nd⟩) λv hv=>by
  rcases ag.mp hv with rfl|hv
  ·exact aS.mpr h
  ·exact aS.mpr (Nat.blt_eq.mp (bF.mp byD_lt v hv))
 rw [au,xqd,aN] at this
 lia
theorem wqw (a:Nat):rot a=(a%8589934592)*2147483648+a/8589934592:=by
 unfold rot
 rw [show (18446744073709551616:Nat)=8589934592*2147483648 from rfl,show (2:Nat) ^ 31=2147483648 from rfl,Nat.mul_mod_mul_right]
theorem wud {a b:Nat}(ha:a<18446744073709551616)(hb:b<18446744073709551616)(h:rot a=rot b):a=b:=by
 rw [wqw,wqw] at h
 have a1:a/8589934592<2147483648:=dY ha
 have b1:b/8589934592<2147483648:=dY hb
 have a2:=Nat.div_add_mod a 8589934592
 have b2:=Nat.div_add_mod b 8589934592
 generalize a/8589934592=q at *
 generalize b/8589934592=q' at *
 generalize a%8589934592=r at *
 generalize b%8589934592=r' at *
 lia
theorem wkc {a:Nat}(ha:a<18446744073709551616):rot a<18446744073709551616:=by
 rw [wqw]
 have a1:a/8589934592<2147483648:=dY ha
 have a2:=de a (show 0<8589934592 by decide)
 lia
theorem qjc {a:Nat}(ha:a<18446744073709551616):((a*11400714785074694791)%18446744073709551616*614540362697595703)%18446744073709551616=a:=by
 have h:(a*11400714785074694791*614540362697595703)%18446744073709551616=a:=by
  rw [Nat.mul_assoc,show 11400714785074694791*614540362697595703=1+18446744073709551616*379806830464837242 from rfl,Nat.mul_add,Nat.mul_one,show a*(18446744073709551616*379806830464837242)=18446744073709551616*(a*379806830464837242) by rw [Nat.mul_left_comm],Nat.add_mul_mod_self_left]
  exact Nat.mod_eq_of_lt ha
 rw [Nat.mul_mod,Nat.mod_mod,←Nat.mul_mod]
 exact h
theorem wuk {a b:Nat}(ha:a<18446744073709551616)(hb:b<18446744073709551616)(h:(a*11400714785074694791)%18446744073709551616=(b*11400714785074694791)%18446744073709551616):a=b:=by
 rw [←qjc ha,←qjc hb,h]
theorem wwh {u x:Nat}:((u+x*14029467366897019727)%18446744073709551616*839798700976720815)%18446744073709551616=((u*839798700976720815)%18446744073709551616+x)%18446744073709551616:=by lia
theorem qyz {u v x y:Nat}(h:lane u x=lane v y):(u+x*14029467366897019727)%18446744073709551616=(v+y*14029467366897019727)%18446744073709551616:=by
 unfold lane at h
 have a:=de (u+x*14029467366897019727) (show 0<18446744073709551616 by decide)
 have b:=de (v+y*14029467366897019727) (show 0<18446744073709551616 by decide)
 exact wud a b (wuk (wkc a) (wkc b) h)
theorem two_inj {x y x' y':Nat}(hx:x<961)(hx':x'<961)(hy:y≤40)(hy':y'≤40)(y1:1≤y)(y1':1≤y')(h:lane (lane 2870177450012600261 x) y=lane (lane 2870177450012600261 x') y'):x=x'∧y=y':=by
 have e:=qyz h
 have e1:=wwh (u:=lane 2870177450012600261 x) (x:=y)
 have e2:=wwh (u:=lane 2870177450012600261 x') (x:=y')
 have d1:dOf x=(lane 2870177450012600261 x*839798700976720815)%18446744073709551616:=by unfold dOf;rfl
 have d2:dOf x'=(lane 2870177450012600261 x'*839798700976720815)%18446744073709551616:=by unfold dOf;rfl
 rw [e,e2,←d1,←d2] at e1
 clear e e2 h d1 d2
 have q:=bF.mp qwr x (Js hx)
 have q':=bF.mp qwr x' (Js hx')
 rw [bc,bc] at q q'
 have q1:=bJ q.1.1
 have q2:=bJ q.1.2
 have q1':=bJ q'.1.1
 have q2':=bJ q'.1.2
 by_cases ne:x=x'
 ·subst ne
  exact ⟨rfl,⋯⟩
 ·have:=pw_two (Jn qzh) x (Js hx) x' (Js hx') ne
  lia
theorem not_end {x y:Nat}(hx:x<961)(y1:1≤y)(hy:y≤40):(lane (lane 2870177450012600261 x) y+2870177450013471924)%18446744073709551616≠18446744073709551615:=by
 intro h
 have l1:lane (lane 2870177450012600261 x) y<18446744073709551616:=de _ ⋯
 have l2:lane (lane 2870177450012600261 x) y=lane 9148689060682678900 0:=by
  have:lane 9148689060682678900 0=15576566623696079691:=by decide +kernel
  rw [this]
  lia
 have e:=qyz l2
 have e1:=wwh (u:=lane 2870177450012600261 x) (x:=y)
 have e2:=wwh (u:=9148689060682678900) (x:=0)
 have d1:dOf x=(lane 2870177450012600261 x*839798700976720815)%18446744073709551616:=by unfold dOf;rfl
 rw [e,e2,←d1,show (9148689060682678900*839798700976720815)%18446744073709551616=15746002411462551884 by decide +kernel] at e1
 clear e e2 h d1 l1 l2
 have q:=bF.mp qwr x (Js hx)
 rw [bc,bc] at q
 have q1:=bJ q.1.1
 have q2:=bJ q.1.2
 have q3:=q.2
 have a:Nat.ble (dOf x) 15746002411462551884=true:=Nat.ble_eq_true_of_le ⋯
 have b:Nat.ble 15746002411462551884 (dOf x+40)=true:=Nat.ble_eq_true_of_le ⋯
 rw [a,b] at q3
 cases q3
end Hs
def thG (M P1 P2 P5 C:Nat)(hashes:List Int):Int:=(λacc:Nat=>if acc==M-1 then 1546275796 else if acc<2 ^ 63 then (acc:Int) else (acc:Int)-M) ((hashes.foldl (λacc h=>((((acc+(h%(M:Int)).toNat*P2)%M)*2 ^ 31)%M+((acc+(h%(M:Int)).toNat*P2)%M)/2 ^ 33)*P1%M) P5+(hashes.length ^^^ (P5 ^^^ C)))%M)
theorem th_eq (hs:List Int):Builtin.Tuple.tupleHashOf hs=thG (2 ^ 64) 11400714785074694791 14029467366897019727 2870177450012600261 3527539 hs:=rfl
def laM (M P1 P2 a x:Nat):Nat:=(((a+x*P2)%M)*2 ^ 31%M+((a+x*P2)%M)/2 ^ 33)*P1%M
def finM (M:Nat)(acc:Nat):Int:=if acc==M-1 then (1546275796:Int) else if acc<2 ^ 63 then (acc:Int) else (acc:Int)-M
theorem wuw (M P1 P2 P5 C:Nat)(a b:Int):thG M P1 P2 P5 C [a,b]=finM M ((laM M P1 P2 (laM M P1 P2 P5 (a%(M:Int)).toNat) (b%(M:Int)).toNat+([a,b].length ^^^ (P5 ^^^ C)))%M):=by
 unfold thG laM finM
 rw [List.foldl_cons,List.foldl_cons,List.foldl_nil]
theorem p64:(2:Nat) ^ 64=18446744073709551616:=rfl
theorem wk2 (a x:Nat):laM (2 ^ 64) 11400714785074694791 14029467366897019727 a x=Hs.lane a x:=by
 unfold laM Hs.lane Hs.rot
 rw [p64]
theorem xc:(0+1+1 ^^^ (2870177450012600261 ^^^ 3527539):Nat)=2870177450013471924:=by decide +kernel
theorem xqs {u:Nat}(ne:u≠18446744073709551615)(lu:u<18446744073709551616):reduceHash (finM (2 ^ 64) u)=if u<9223372036854775808 then (u:Int) else (u:Int)-18446744073709551616:=by
 unfold finM
 rw [p64,af (by simpa using ne),show (2:Nat) ^ 63=9223372036854775808 from rfl]
 unfold reduceHash
 by_cases c:u<9223372036854775808
 ·rw [ak c,ak (by simp;lia),af (by simp),ak c]
 ·rw [af c,ak (by simp;lia),af (by simp;lia),af c]
  lia
theorem hashI:∀x:Int,0≤x→x≤960→hashInt x=x:=λx h1 h2=>by
 have r:rawHash x=x:=by
  unfold rawHash
  dsimp only
  have e:((x.natAbs:Int)%((2 ^ 61-1:Nat):Int))=x:=by
   rw [show (2 ^ 61-1:Nat)=2305843009213693951 from rfl]
   lia
  rw [e,af (show ¬ x<0 by lia),af (by simp;lia)]
 unfold hashInt
 rw [r,af (by simp;lia)]
theorem qjd {P:Ac}{w:Ah}{a b:Int}(a0:0≤a)(a1:a≤960)(b0:1≤b)(b1:b≤40):Q9 P w [.inl a,.inl b] =
  if (Hs.lane (Hs.lane 2870177450012600261 a.toNat) b.toNat+2870177450013471924)%18446744073709551616<9223372036854775808 then (((Hs.lane (Hs.lane 2870177450012600261 a.toNat) b.toNat+2870177450013471924)%18446744073709551616:Nat):Int) else (((Hs.lane (Hs.lane 2870177450012600261 a.toNat) b.toNat+2870177450013471924)%18446744073709551616:Nat):Int)-18446744073709551616:=by
 have ne:=Hs.not_end (x:=a.toNat) (y:=b.toNat) ⋯ ⋯ ⋯
 have e0:Q9 P w [.inl a,.inl b]=reduceHash (Builtin.Tuple.tupleHashOf [hashInt a,hashInt b]):=by
  unfold Q9
  rfl
 have ea:(a%((2 ^ 64:Nat):Int)).toNat=a.toNat:=by rw [p64];lia
 have eb:(b%((2 ^ 64:Nat):Int)).toNat=b.toNat:=by rw [p64];lia
 rw [e0,hashI a a0 a1,hashI b ⋯ ⋯,th_eq,wuw,ea,eb,wk2,wk2,au,au,bQ,xc]
 have lu:=de (Hs.lane (Hs.lane 2870177450012600261 a.toNat) b.toNat+2870177450013471924) (show 0<18446744073709551616 by decide)
 rw [show (Hs.lane (Hs.lane 2870177450012600261 a.toNat) b.toNat+2870177450013471924)%2 ^ 64=(Hs.lane (Hs.lane 2870177450012600261 a.toNat) b.toNat+2870177450013471924)%18446744073709551616 by rw [p64]]
 exact xqs ne lu
theorem wvu {P:Ac}{w:Ah}{a b a' b':Int}(a0:0≤a)(a1:a≤960)(b0:1≤b)(b1:b≤40)(a0':0≤a')(a1':a'≤960)(b0':1≤b')(b1':b'≤40)
  (h:Q9 P w [.inl a,.inl b]=Q9 P w [.inl a',.inl b']):a=a'∧b=b':=by
 rw [qjd a0 a1 b0 b1,qjd a0' a1' b0' b1'] at h
 have l1:Hs.lane (Hs.lane 2870177450012600261 a.toNat) b.toNat<18446744073709551616:=de _ ⋯
 have l2:Hs.lane (Hs.lane 2870177450012600261 a'.toNat) b'.toNat<18446744073709551616:=de _ ⋯
 have e:Hs.lane (Hs.lane 2870177450012600261 a.toNat) b.toNat=Hs.lane (Hs.lane 2870177450012600261 a'.toNat) b'.toNat:=by
  generalize Hs.lane (Hs.lane 2870177450012600261 a.toNat) b.toNat=u at *
  generalize Hs.lane (Hs.lane 2870177450012600261 a'.toNat) b'.toNat=v at *
  split at h <;> split at h <;> lia
 have:=Hs.two_inj (x:=a.toNat) (x':=a'.toNat) (y:=b.toNat) (y':=b'.toNat) ⋯ ⋯ ⋯ ⋯ ⋯ ⋯ e
 lia
end L2
namespace L2
open PySem PySem.Spec PySem.Calls PyProof.Rows
section
variable {Y:Cx}{kx vx:Expr}{tk te:TE}{c:Code}{p:Aj}{σ:St}{H:Hp}{pins:List (Aj×Obj)}{s:Ab}
def dctS (kx vx:Expr)(D:Aj)(env:Env)(c:Code):Sem PySem.Fin:=(eval kx env >>= λkv=>holding [kv] (eval vx env) >>= λvv=>standAt { kx.pos with endLine:=vx.pos.endLine,endCol:=vx.pos.endCol } >>= λ_=>holding [kv,vv] (dictSet D kv vv)) >>= λ_=>again c
theorem wkr (kx vx target iter:Expr)(scope:Scope)(pos:Pos)(it:Ag)(D:Aj)(env:Env) :
  compTurn (.DictComp kx vx [⟨target,iter,[],0⟩] scope pos) 0 it (.ref D) env=(standAt iter.pos >>= λ_=>pyNext it >>= λr=>match r with|none=>pure (.done .next)|some v=>letOwnedTupleGo target it v >>= λ_=>assign target env v >>= λ_=>dctS kx vx D env (.compLoop (.DictComp kx vx [⟨target,iter,[],0⟩] scope pos) 0 it (.ref D) env)):=by rfl
theorem wj4 {ys:List (Key×V)}{N:List (Key×V)→Hp→Prop}(hk:PE Y kx tk)(hv:PE Y vx te)(J:Inv Y pins σ H s)(hz:ys.length<sizeLine)
  (h:tk σ H λy H4=>te σ H4 λz H5=>∃k,y=kV k∧H5 p=some (.dK ys)∧N (z0 ys k z) (upd H5 p (.dK (z0 ys k z)))) :
  wpAny (model Y.prog Y.w) Y.A (dctS kx vx p Y.env c) (λr s5=>r=Fin.again c∧∃H5,Inv Y pins σ H5 s5∧∃zs,N zs H5) Y.xe s:=by
 refine ac (ac (bg (hk _ s _ H _ J h) (λkv s6 hr6=>?_) λ_ _ z=>z))
 obtain ⟨y,H4,J6,ry,h4⟩:=hr6
 refine ac (cR (bg (hv _ s6 _ H4 _ J6 h4) (λvv s7 hr7=>?_) λ_ _ z=>z))
 obtain ⟨z,H5,J7,rz,k,rfl,e5,n5⟩:=hr7
 refine ac (ff (cR ?_))
 obtain ⟨zz,hd,vs,rel,dd⟩:=qzs J7.hok e5
 have hl:(z0 ys k z).length≤sizeLine:=by have:=j5 ys k z;lia
 refine wpAny_dictSet_pairs (hsz:=by rw [←rel.length];exact zz) (Ww ry) dd λh' dd' hs=>am ⟨rfl,_,?_,_,n5⟩
 have he:∃q,h'.get? p=some q:=let ⟨q,_,_,hq,_⟩:=dd';⟨q,hq⟩
 exact Qn J7 (by rw [e5];exact True.intro) hs he (Jr hl hd (rel.put k rz) dd')
end
section
variable {X:Cx}{pins:List (Aj×Obj)}{σ:St}{H:Hp}{s2:Ab}{scope:Scope}{cl:List (Str×Aj)}{x:Str}{M:List Nat}{fp:List Aj}{C:Aj}{h1:Heap}{tk:Nat}
theorem Inv.compD (I:Inv X pins σ H s2)(hc:CapAll X.env cl)(hh:HasAll cl scope.names)(hm:CapIx X scope cl M)(hk:scope.kind=.function)(hC:s2.heap.objs.size<C)
  (keep:∀b o,s2.heap.get? b=some o→h1.get? b=some o) (hn:h1.Ns C λ_=>none) (hD:h1.get? s2.heap.objs.size=some { cls:=.type "dict",data:=.dict #[] })
  (hfp:∀b∈fp,uh X pins H b) (hob:∀b∈fp,∃o,s2.heap.get? b=some o) :
  Inv (jt X scope cl x M C s2 H fp (X.pn++pins)) [] (jy M σ none) (upd H s2.heap.objs.size (.dK [])) { s2 with heap:=h1,toks:=tk } :=
 I.compG (xs:=[x]) hc hh hm hk hC keep hn ⟨aJ _,aQ.mpr (aY (aC I.big)),[],.nil,by
  obtain ⟨o,es,ep,ho,r⟩:=Heap.DictOf.new (knd:=xf X.prog X.w) s2.heap
  have:o={ cls:=.type "dict",data:=.dict #[] }:=az (ho.symm.trans (aw _ rfl))
  exact ⟨o,es,ep,by rw [this];exact hD,r⟩⟩ hfp hob
end
def wqz (J:It)(M:List Nat)(tk te:TE)(σ:St)(H1:Hp)(Q:VK):Prop:=∀p,H1 p=none→∃W:Nat→Nat→List (Key×V)→Hp→Prop,(∃m,W 0 m [] (upd H1 p (.dK []))) ∧
 ∀i m ys H2,W i m ys H2→H2 p=some (.dK ys)∧ys.length<sizeLine∧((J.stop i H2∧Q (.ref p) H2)∨(J.go i H2∧∀v H3,J.yld i H2 v H3 →
  tk (jy M σ (some v)) H3 λy H4=>te (jy M σ (some v)) H4 λz H5=>∃k,y=kV k∧H5 p=some (.dK ys)∧∃m',m'<m∧W (i+1) m' (z0 ys k z) (upd H5 p (.dK (z0 ys k z)))))
def tDComp (M:List Nat)(wi:TI)(tk te:TE):TE:=λσ H Q=>wi σ H λJ H1=>wqz J M tk te σ H1 Q
section
variable {X:Cx}{kx vx iter:Expr}{x:Str}{px pos:Pos}{scope:Scope}{cl:List (Str×Aj)}{M:List Nat}{wi:TI}{tk te:TE}{pins:List (Aj×Obj)}{σ:St}
theorem wq1 {tg:Expr}(hclos:closureFor scope X.env=pure cl)(hhas:HasAll cl scope.names)(hk:scope.kind=.function)
  (hnames:∀y∈scope.names,y.2=.local→scope.names.lookup y.1=some .local) (hi:PI X tg iter wi) (hs:∀z,foldedSetIterable iter X.env z=pure z)
  {use:Option (Ag→Sem Unit)} {QQ:Ag→Ab→Prop} {s:Ab} {H:Hp} {ps:Pos} {R:It→Hp→Prop} (I:Inv X pins σ H s) (h:wi σ H R)
  (go:∀(it:Aj) (fp:List Aj) (tn:Nat→Heap→Prop) (J:It) (H1:Hp) (s2:Ab) (C:Aj) (h3:Heap) (tn2:Nat),Inv X pins σ H1 s2→Turn X.prog X.w X.K tg J fp it tn→tn 0 h3→(∀b∈fp,uh X pins H1 b)→(∀b∈fp,b<s2.heap.objs.size)→(∀b∈fp,∃o,s2.heap.get? b=some o)→R J H1→s2.heap.objs.size<C →
   (∀b o,s2.heap.get? b=some o→h3.get? b=some o)→(h3.Ns C λ_=>none)→h3.get? s2.heap.objs.size=some { cls:=.type "dict",data:=.dict #[] } →
   codeAny (model X.prog X.w) X.A (.compLoop (.DictComp kx vx [⟨tg,iter,[],0⟩] scope pos) 0 (.ref it) (.ref s2.heap.objs.size) (compEnvC scope cl C X.env)) (compPost (model X.prog X.w) X.A X.xe use QQ (.ref s2.heap.objs.size) C) { s2 with heap:=h3,toks:=tn2 }) :
  wpAny (model X.prog X.w) X.A (comprehension (.DictComp kx vx [⟨tg,iter,[],0⟩] scope pos) scope X.env ps newDict false (eval iter X.env) use) QQ X.xe s:=by
 refine wpAny_comprehension_free (use:=use) rfl hs hclos hk hnames ?_
 refine thn (hi pins s σ H _ I h) λv s1 h1=>thn h1 λitv s2 h2=>?_
 obtain ⟨it,fp,tn,J,H1,rfl,I2,T,t0,hfp,hR⟩:=h2
 refine cz ?_
 refine wpAny_newFunctionEnv hhas.nocell (by intro y hy;cases hy) (λh3 hns hsb=>?_) hk
 dsimp only at hns hsb ⊢
 generalize hH2:s2.heap.push { cls:=.type "dict",dict:=none,data:=.dict #[] }=G2 at hns hsb ⊢
 have hC:G2.objs.size=s2.heap.objs.size+1:=by rw [←hH2,eI]
 have hlt:s2.heap.objs.size<G2.objs.size:=by lia
 have keep:∀b o,s2.heap.get? b=some o→h3.get? b=some o:=λb o e=>by
  rw [hsb.2 b (aC (bV (ao e) hlt))]
  exact ae _ (hH2▸ae _ e)
 have hD:h3.get? s2.heap.objs.size=some { cls:=.type "dict",data:=.dict #[] }:=by
  rw [hsb.2 _ (aC hlt)]
  exact ae _ (hH2▸aw _ rfl)
 have t3:=T.keep 0 _ _ t0 λb _ o e=>keep b o e
 have loop:=λtn2=>go it fp tn J H1 s2 G2.objs.size h3 tn2 I2 T t3 hfp (λb hb=>let ⟨o,e,_⟩:=T.obj 0 _ t0 b hb;ao e) (λb hb=>let ⟨o,e,_⟩:=T.obj 0 _ t0 b hb;⟨o,e⟩) hR hlt keep hns hD
 exact codeAny_compStart_dict (loop _) (T.self _ 0 _ _ _ t3 (loop _))
end
section
variable {X:Cx}{kx vx iter:Expr}{x:Str}{px pos:Pos}{scope:Scope}{cl:List (Str×Aj)}{M:List Nat}{wi:TI}{tk te:TE}
theorem wx1 (hc:X.calm=true)(hclos:closureFor scope X.env=pure cl)(hcap:CapAll X.env cl)(hhas:HasAll cl scope.names)(hix:CapIx X scope cl M)(hk:scope.kind=.function)
  (hnames:∀y∈scope.names,y.2=.local→scope.names.lookup y.1=some .local) (hx:scope.names.lookup x=some .local) (hnd:(qjm X x M).Nodup) (hi:PI X (.Name x px) iter wi)
  (hkx:∀C s2 H2 fp pn,PE (jt X scope cl x M C s2 H2 fp pn) kx tk) (he:∀C s2 H2 fp pn,PE (jt X scope cl x M C s2 H2 fp pn) vx te) (hs:∀z,foldedSetIterable iter X.env z=pure z)
  {use:Option (Ag→Sem Unit)} {QQ:Ag→Ab→Prop} {pins:List (Aj×Obj)} {s:Ab} {σ:St} {H:Hp} {Q:VK} {ps:Pos} (I:Inv X pins σ H s) (h:wi σ H λJ H1=>wqz J M tk te σ H1 Q)
  (fin:∀(C:Aj) (s2 s4:Ab) (H1 H2:Hp) (fp:List Aj),Inv X pins σ H1 s2→s2.heap.objs.size<C→(∀b∈fp,uh X pins H1 b)→Inv (jt X scope cl x M C s2 H1 fp (X.pn++pins)) [] (jy M σ none) H2 s4→Q (.ref s2.heap.objs.size) H2 →
   compPost (model X.prog X.w) X.A X.xe use QQ (.ref s2.heap.objs.size) C (.ok .next) s4) :
  wpAny (model X.prog X.w) X.A (comprehension (.DictComp kx vx [⟨.Name x px,iter,[],0⟩] scope pos) scope X.env ps newDict false (eval iter X.env) use) QQ X.xe s:=by
 refine wq1 hclos hhas hk hnames hi hs I h λit fp tn J H1 s2 C h3 tn2 I2 T t3 hfp hbl hob hR hlt keep hns hD=>?_
 obtain ⟨W,⟨m0,w0⟩,hW⟩:=hR s2.heap.objs.size (I2.hok.fresh (ai _))
 have hxl:(relabel scope X.env).names.lookup x=some .local:=lookup_relabel_local hx
 refine qzr (Y:=jt X scope cl x M C s2 H1 fp (X.pn++pins)) (V:=λi n H2=>∃ys,W i n ys H2) (Qd:=Q (.ref s2.heap.objs.size)) (REST:=dctS kx vx s2.heap.objs.size (compEnvC scope cl C X.env) _) T hc (λ_ _ z=>z) (wkr ..) rfl rfl (xq (i:=0) hnd rfl (.inl hxl) (.inr hxl)) (ww1 hcap I2 hlt hfp hbl) (λi n H2 ⟨ys,w⟩=>?_) (λH2 s4 J4 q=>fin C s2 s4 H1 H2 fp I2 hlt hfp J4 q) (I2.compD hcap hhas hix hk hlt keep hns hD hfp hob) ⟨[],w0⟩ t3 λb hb=>by rw [wy (aC (hbl b hb))];exact (hfp b hb).1
 obtain ⟨hp,hz,hcase⟩:=hW i n ys H2 w
 refine hcase.imp id λ⟨hgo,hy⟩=>⟨hgo,λv H3 yl=>⟨λσ4 H4=>σ4=jy M σ (some v)∧H3=H4,⟨rfl,rfl⟩,λ_ _ e=>?_⟩⟩
 obtain ⟨rfl,rfl⟩:=e
 refine ⟨qw1 M σ v,λpins' s' J=>?_⟩
 refine bg (wj4 (N:=λzs H5=>∃m',m'<n∧W (i+1) m' zs H5) (hkx _ _ _ _ _) (he _ _ _ _ _) J hz (hy v H3 yl)) (λr s5 ⟨e,H5,J5,zs,m',hm,w'⟩=>⟨e,H5,J5,m',hm,zs,w'⟩) λ_ _ z=>z
theorem qk8 {i:Nat}{y:Str}{py spos:Pos}(hN:X.N.Nodup)(hyi:X.N[i]?=some y)(hyl:Loc X.env.scope y)(hc:X.calm=true)(hclos:closureFor scope X.env=pure cl)(hcap:CapAll X.env cl)(hhas:HasAll cl scope.names)(hix:CapIx X scope cl M)(hk:scope.kind=.function)
  (hnames:∀y∈scope.names,y.2=.local→scope.names.lookup y.1=some .local) (hx:scope.names.lookup x=some .local) (hnd:(qjm X x M).Nodup) (hi:PI X (.Name x px) iter wi)
  (hkx:∀C s2 H2 fp pn,PE (jt X scope cl x M C s2 H2 fp pn) kx tk) (he:∀C s2 H2 fp pn,PE (jt X scope cl x M C s2 H2 fp pn) vx te) (hs:autoParam (∀z,foldedSetIterable iter X.env z=pure z) aU3._auto_1)
  (hsw:autoParam (swapsWith (.DictComp kx vx [⟨.Name x px,iter,[],0⟩] scope pos) (some (.Name y py)) spos.line X.env=pure true) aU4._auto_1) (hyf:autoParam (X.fn y=true∨X.env.scope.names.lookup y=some .local) aU0._auto_1) :
  PS X (.Assign [.Name y py] (.DictComp kx vx [⟨.Name x px,iter,[],0⟩] scope pos) spos) (tAsg (tDComp M wi tk te) (wv1 i)):=by
 intro pins s σ H D I h
 rw [exec_Assign_Name_used _ _ _ _ hsw]
 refine ac (ff (ac ?_))
 refine ac (bg (wx1 hc hclos hcap hhas hix hk hnames hx hnd hi hkx he hs (use:=some (assign (.Name y py) X.env)) (QQ:=λ_ s'=>SP X pins D .next s') I h λC s2 s4 H1 H2 fp I2 hlt hfp J4 hq=>?_) (λ_ s' hq=>am (am hq)) λ_ _ e=>e)
 have I4:Inv X pins σ H2 s4:=I2.uncomp (h':=s4.heap) (cx hlt) hfp J4 (Heap.SameBut.refl _ _)
 have hCn:H2 C=none:=J4.free
 obtain ⟨mC,hnC,_⟩:=J4.loc
 obtain ⟨oC,esC,epC,hoC,hdC⟩:=id hnC
 have hCl:C≠X.env.locals:=λz=>bv _ (bV hlt (z▸I2.lt))
 have hCs:X.s₀.heap.objs.size≤C:=bw I2.sz (cx hlt)
 have hCc:∀y c,X.env.cells.lookup y=some c→c≠C:=λy c e z=>by
  obtain ⟨v,o,e1,_⟩:=I2.cell y c e
  exact bv _ (bV hlt (z▸ao e1))
 have hCp:∀p∈X.pn++pins,p.1≠C:=λp hp z=>bv _ (bV hlt (z▸ao (I2.pin p hp).1))
 have hCf:C∉frs X.stack:=λz=>by
  rcases ag.mp (I2.stkSub C z) with q|q
  ·exact hCl q
  ·obtain ⟨_,o,e1,_⟩:=I2.funs.mem (b:=C) q
   exact bv _ (bV hlt (ao e1))
 have hCx:C∉X.fs:=λz=>by
  obtain ⟨_,o,e1,_⟩:=I2.funs.mem (b:=C) z
  exact bv _ (bV hlt (ao e1))
 have I4p:Inv X (pins++[(C,oC)]) σ H2 s4:=⟨I4.ok,I4.os,I4.bare,I4.base,I4.loc,I4.cell,I4.free,I4.freeC,λp hp=>by
  rcases bq.mp hp with q|q
  ·exact I4.pin p (bX _ q)
  ·rcases bq.mp q with q|q
   ·exact I4.pin p (aT _ q)
   ·rw [ay.mp q]
    exact ⟨hoC,hCn,hCl,hCx,λv z=>by rw [hdC.1] at z;cases z⟩,I4.hok,I4.len⟩
 show wpAny _ _ (assign (.Name y py) X.env (.ref s2.heap.objs.size)) _ _ _
 refine wpAny_assign_Name (uw I4p hN hyi hyl (show RelV (.ref s2.heap.objs.size) (.ref s2.heap.objs.size) from rfl) (λs5 I5=>?_) hyf)
 have hC5:=(I5.pin (C,oC) (aT _ (aT _ (.head _)))).1
 exact ⟨mC,⟨oC,esC,epC,hC5,hdC⟩,λh' hs'=>⟨_,H2,I5.unpinned.but hCn hCs hCl hCc hCp hs',hq⟩⟩
end
end L2
namespace L2
open PySem
theorem qyd {M:List Nat}{x:Str}{te:TE}{σ:St}{H:Hp}{Q:VK}(f:Nat→V)(hn:x.cps.size≤1000000)(he:∀(i:Nat) (H':Hp) (R:VK),i<x.cps.size→Same H H'→R (f i) H'→te (jy M σ (some (.str ⟨#[x.cps.getD i 0]⟩))) H' R)
  (k:∀p,H p=none→Q (.ref p) (upd H p (.lst ((List.range x.cps.size).map f)))):qqc (ItS x) M te σ H Q:=by
 intro p np
 refine ⟨λi m ys H2=>i≤x.cps.size∧m=x.cps.size-i∧ys=(List.range i).map f∧H2=upd H p (.lst ys),⟨x.cps.size,aJ _,rfl,rfl,rfl⟩,?_⟩
 rintro i m ys H2 ⟨hi,rfl,rfl,rfl⟩
 refine ⟨qb,?_,?_⟩
 ·rw [aa,aN]
  have:(1000000:Nat)<sizeLine:=by decide
  lia
 ·by_cases hlt:i<x.cps.size
  ·refine .inr ⟨hlt,?_⟩
   rintro v H3 ⟨rfl,rfl⟩
   refine he i (upd H p (.lst ((List.range i).map f))) _ hlt (Same.upd np) ⟨qb,x.cps.size-(i+1),⋯,⋯,rfl,?_,?_⟩
   ·rw [du,aO]
    rfl
   ·rw [Q0]
  ·refine .inl ⟨by show x.cps.size≤i;lia,?_⟩
   have:i=x.cps.size:=by lia
   subst this
   exact k p np
theorem wv8 {M:List Nat}{d:Aj}{o:Obj}{cs:List (Key×V)}{tk te:TE}{σ:St}{H:Hp}{Q:VK}(f:Key→V)(hz:cs.length≤1000000)(nd:(cs.map (·.1)).Nodup)(hd:H d=some (.frz o (.dK cs)))
  (he:∀(k:Key) (H':Hp) (R:V→V→Hp→Prop),Same H H'→R (kV k) (f k) H'→tk (jy M σ (some (kV k))) H' λy H4=>te (jy M σ (some (kV k))) H4 λz H5=>R y z H5)
  (k:∀p,H p=none→Q (.ref p) (upd H p (.dK (cs.map λc=>(c.1,f c.1))))):wqz (ItD d o cs) M tk te σ H Q:=by
 intro p np
 have big:(1000000:Nat)<sizeLine:=by decide
 refine ⟨λi m ys H2=>i≤cs.length∧m=cs.length-i∧ys=(cs.take i).map (λc=>(c.1,f c.1))∧H2=upd H p (.dK ys),⟨cs.length,aJ _,rfl,rfl,rfl⟩,?_⟩
 rintro i m ys H2 ⟨hi,rfl,rfl,rfl⟩
 have dp:d≠p:=wz hd np
 refine ⟨qb,by rw [aa,bD];lia,?_⟩
 by_cases hlt:i<cs.length
 ·refine .inr ⟨⟨by rw [wy dp];exact hd,hlt⟩,?_⟩
  rintro v H3 ⟨rfl,c,ec,rfl⟩
  refine he c.1 _ _ (Same.upd np) ⟨c.1,rfl,qb,cs.length-(i+1),⋯,⋯,rfl,?_,?_⟩
  ·have hn:wf ((cs.take i).map λc=>(c.1,f c.1)) c.1=none:=by
    unfold wf
    rw [eP.mpr]
    ·rfl
    ·intro x hx
     obtain ⟨y,hy,rfl⟩:=aq.mp hx
     have hy2:y.1∈(cs.map (·.1)).take i:=by rw [←List.map_take];exact aq.mpr ⟨y,hy,rfl⟩
     intro z
     have z:y.1=c.1:=by simpa using z
     obtain ⟨j,hj,ej⟩:=d6 hy2
     rw [bD,aa] at hj
     rw [List.getElem_take] at ej
     have e2:(cs.map (·.1))[i]'(by rw [aa];exact hlt)=c.1:=by
      rw [fF]
      rw [al hlt] at ec
      rw [az ec]
     have:=(fu nd).mp (ej.trans (z.trans e2.symm))
     lia
   rw [Qq _ hn,cC,aO,ec]
   rfl
  ·rw [Q0]
 ·refine .inl ⟨⟨by rw [wy dp];exact hd,⋯⟩,?_⟩
  have:i=cs.length:=by lia
  subst this
  rw [cF]
  exact k p np
theorem for_di {d:Aj}{o:Obj}{cs:List (Key×V)}{g:TG}{tb:TS}{D:Ends}{σ:St}{H:Hp}(Pv:Nat→St→Hp→Prop)(h0:Pv 0 σ H)(hl:∀i σ H,i≤cs.length→Pv i σ H→H d=some (.frz o (.dK cs)))
  (hs:∀i c q σ H,cs[i]?=some c→H q=none→Pv i σ H→g (.ref q) σ (upd H q (.tup [kV c.1,c.2])) λσ2 H2=>tb { D with nx:=Pv (i+1),ct:=Pv (i+1),bk:=D.nx } σ2 H2) (hd:∀σ H,Pv cs.length σ H→D.nx σ H) :
  ∃W:Nat→Nat→St→Hp→Prop,(∃m,W 0 m σ H)∧∀i m σ H,W i m σ H →
   ((ItDI d o cs).stop i H∧D.nx σ H)∨((ItDI d o cs).go i H∧∃N:St→Hp→Prop,(∀σ' H',N σ' H'→∃m',m'<m∧W (i+1) m' σ' H')∧∀x H',(ItDI d o cs).yld i H x H'→g x σ H' λσ2 H2=>tb { D with nx:=N,ct:=N,bk:=D.nx } σ2 H2):=by
 refine ⟨λi m σ H=>m=cs.length-i∧i≤cs.length∧Pv i σ H,⟨cs.length,by simp,aJ _,h0⟩,?_⟩
 rintro i m σ H ⟨rfl,hi,p⟩
 have q:=hl i σ H hi p
 by_cases hlt:i<cs.length
 ·refine .inr ⟨⟨q,hlt⟩,Pv (i+1),λσ' H' p'=>⟨cs.length-(i+1),⋯,rfl,hlt,p'⟩,?_⟩
  rintro x H' ⟨z,c,nz,rfl,ec,rfl⟩
  exact hs i c z σ H ec nz p
 ·have e:i=cs.length:=by lia
  subst e
  exact .inl ⟨⟨q,ai _⟩,hd σ H p⟩
def ex1 (R:List (Key×V))(c:Key×V):List (Key×V):=if c.2=.non then Qx R c.1 else z0 R c.1 c.2
def exK (R cs:List (Key×V)):List (Key×V):=cs.foldl ex1 R
def bfK (R cs:List (Key×V)):List (Key×V):=cs.map λc=>(c.1,(wf R c.1).getD .non)
def ExOk (R cs:List (Key×V)):Prop:=∀(i:Nat) c,cs[i]?=some c→c.2=.non→(wf (exK R (cs.take i)) c.1).isSome=true
theorem wy1 (R:List (Key×V)){cs:List (Key×V)}{i:Nat}{c:Key×V}(h:cs[i]?=some c):exK R (cs.take (i+1))=ex1 (exK R (cs.take i)) c:=by
 unfold exK
 rw [cC,h,List.foldl_append]
 rfl
theorem wy0 (R:List (Key×V))(c:Key×V):(ex1 R c).length≤R.length+1:=by
 unfold ex1
 split
 ·have:=qym R c.1
  lia
 ·exact j5 R c.1 c.2
theorem wu8 (R cs:List (Key×V)):(exK R cs).length≤R.length+cs.length:=by
 induction cs generalizing R with
 |nil=>exact ai _
 |cons c cs ih =>
  have h1:=ih (ex1 R c)
  have h2:=wy0 R c
  show (exK (ex1 R c) cs).length≤_
  rw [au]
  lia
def Kb (ch:List Aj)(H H':Hp):Prop:=∀b o,b∉ch→H b=some o→H' b=some o
section
variable {X:Cx}{C:Aj}{x:Str}{k:Nat}{sp:Sp}{E:St→XK}{p pos:Pos}
theorem wxp (c:CCal X.prog X.w X.K X.mg X.base x C k sp)(hr:Room (k+1) X.A)(hg:Gl X x)(hx:yq X E)(hdb:autoParam ((x==("__debug__" : Str))=false) aU1._auto_1) :
  PE X (.Call (.Name x p) [] [] pos) (wqs C sp E Q5):=by
 obtain ⟨f,fd,ps,hm,M,F,b⟩:=c.ex
 intro pins s σ H Q I h
 refine cJ (Qg I hg hm ?_ hdb)
 exact W.callWith_K0 I.kIn M.kp (qz8 (us:=[]) M F hr b hx I .nil h)
end
theorem Kb.rd {ch:List Aj}{H H':Hp}(k:Kb ch H H'){d:Aj}{kvs:List (Key×V)}(n:d∉ch)(h:Rd H d (.dK kvs)):Rd H' d (.dK kvs):=by
 rcases h with h|⟨o,h⟩
 ·exact .inl (k _ _ n h)
 ·exact .inr ⟨o,k _ _ n h⟩
theorem Kb.trans {ch:List Aj}{H H' H'':Hp}(a:Kb ch H H')(b:Kb ch H' H''):Kb ch H H'':=λc o n e=>b c o n (a c o n e)
theorem Kb.of {ch:List Aj}{H H':Hp}(s:Same H H'):Kb ch H H':=λc o _ e=>s c o e
theorem for_en {K:Aa}{a:Aj}{xs:List V}{g:TG}{tb:TS}{D:Ends}{σ:St}{H:Hp}(Pv:Nat→St→Hp→Prop)(h0:Pv 0 σ H)(hl:∀i σ H,i≤xs.length→Pv i σ H→SqL K H a xs)
  (hs:∀i x q σ H,xs[i]?=some x→H q=none→Pv i σ H→g (.ref q) σ (upd H q (.tup [.int (i:Nat),x])) λσ2 H2=>tb { D with nx:=Pv (i+1),ct:=Pv (i+1),bk:=D.nx } σ2 H2) (hd:∀σ H,Pv xs.length σ H→D.nx σ H) :
  ∃W:Nat→Nat→St→Hp→Prop,(∃m,W 0 m σ H)∧∀i m σ H,W i m σ H →
   ((ItE K a xs).stop i H∧D.nx σ H)∨((ItE K a xs).go i H∧∃N:St→Hp→Prop,(∀σ' H',N σ' H'→∃m',m'<m∧W (i+1) m' σ' H')∧∀x H',(ItE K a xs).yld i H x H'→g x σ H' λσ2 H2=>tb { D with nx:=N,ct:=N,bk:=D.nx } σ2 H2):=by
 refine ⟨λi m σ H=>m=xs.length-i∧i≤xs.length∧Pv i σ H,⟨xs.length,by simp,aJ _,h0⟩,?_⟩
 rintro i m σ H ⟨rfl,hi,p⟩
 have q:=hl i σ H hi p
 by_cases hlt:i<xs.length
 ·refine .inr ⟨⟨q,hlt⟩,Pv (i+1),λσ' H' p'=>⟨xs.length-(i+1),⋯,rfl,hlt,p'⟩,?_⟩
  rintro x H' ⟨z,c,nz,rfl,ec,rfl⟩
  exact hs i c z σ H ec nz p
 ·have e:i=xs.length:=by lia
  subst e
  exact .inl ⟨⟨q,ai _⟩,hd σ H p⟩
end L2
namespace L2
open PySem PySem.Spec PyProof.Rows
theorem ht_gen {o:Expr}{m:Str}{apos pos:Pos}{e:Expr}{es:List Expr}{env:Env}(hb:attributeBase o m env (eval o env)=eval o env)(hf:methodCallForm ((e::es).length+0) (backTo pos (starEach (e::es) env)) (backToKw pos (keywordEach [] env))=true)(hp:methodCallPos true o env apos pos=pure pos) :
  eval (.Call (.Attribute o m apos) (e::es) [] pos) env=(do
   let ov ←eval o env
   standAt apos.atName
   let (f,first) ←holding [ov] (getMethod ov m (do return (←importBound o env).getD true))
   callWith pos f first (backTo pos (starEach (e::es) env)) (backToKw pos (keywordEach [] env))):=by
 rw [arm_eval_Call,hb]
 unfold methodCall
 rw [show (e::es).length+([]:List Keyword).length=(e::es).length+0 from rfl,hf,hp]
 rfl
section
variable {X:Cx}{C:Aj}{x m:Str}{k:Nat}{sp:Sp}{E:St→XK}{p pos apos:Pos}{e o:Expr}{es:List Expr}{ta te:TE}{t:TA}
theorem xb {v j p'}(ha:PE X (.Constant v j p') te)(hr:PA X es t):PA X (.Constant v j p'::es) (k8 te t):=xj ha hr rfl
theorem q9 {v p'}(ha:PE X (.Name v p') te)(hr:PA X es t):PA X (.Name v p'::es) (k8 te t):=xj ha hr rfl
theorem pa_cL {v p'}(ha:PE X (.List v p') te)(hr:PA X es t):PA X (.List v p'::es) (k8 te t):=xj ha hr rfl
theorem qx9 {v j p'}(ha:PE X (.Tuple v j p') te)(hr:PA X es t):PA X (.Tuple v j p'::es) (k8 te t):=xj ha hr rfl
theorem vc {a b c p'}(ha:PE X (.Call a b c p') te)(hr:PA X es t):PA X (.Call a b c p'::es) (k8 te t):=xj ha hr rfl
theorem zx {a b c p'}(ha:PE X (.BinOp a b c p') te)(hr:PA X es t):PA X (.BinOp a b c p'::es) (k8 te t):=xj ha hr rfl
theorem k4 {a b p'}(ha:PE X (.Subscript a b p') te)(hr:PA X es t):PA X (.Subscript a b p'::es) (k8 te t):=xj ha hr rfl
def qvw:List Expr→Bool
 |[]=>true
 |.Starred _ _::_=>false
 |_::r=>qvw r
theorem Yv {env:Env}:∀ {es:List Expr},qvw es=true→starEach es env=es.map λe=>(false,eval e env)
 |[],_=>rfl
 |e::r,h=>by
  cases e
  case Starred=>cases h
  all_goals exact bB _ (Yv (es:=r) h)
theorem Yx {pos:Pos}:∀ {l:List (Bool×Sem Ag)},(∀q∈l,q.1=false)→(backTo pos l).all (!·.1)=true∧(backTo pos l).any (·.1)=false:=by
 intro l h
 have key:∀q∈backTo pos l,q.1=false:=by
  intro q hq
  unfold backTo at hq
  obtain ⟨q',hq',rfl⟩:=aq.mp hq
  exact h q' hq'
 exact ⟨bF.mpr λq hq=>by rw [key q hq];rfl,List.any_eq_false.mpr λq hq=>by rw [key q hq];decide⟩
theorem xm (he:PE X o ta)(cl:Cls X.K C)(c:MCal X.prog X.w X.K X.mg X.base C m k sp)(hr:Room k X.A)(hx:yq X E)(ha:PA X (e::es) t)(hn:autoParam (qvw (e::es)=true) aU4._auto_1)(hl:autoParam ((e::es).length+0<30) aU1._auto_1)
  (hb:autoParam (∀z,attributeBase o m X.env z=z) aU3._auto_1) (hp:autoParam (methodCallPos true o X.env apos pos=pure pos) aU4._auto_1):PE X (.Call (.Attribute o m apos) (e::es) [] pos) (qq1 C m sp E ta t):=by
 have h1:starEach (e::es) X.env=(false,eval e X.env)::starEach es X.env:=by
  cases e
  case Starred=>cases hn
  all_goals rfl
 have h2:∀q∈starEach (e::es) X.env,q.1=false:=λq hq=>by
  rw [Yv hn] at hq
  obtain ⟨z,_,rfl⟩:=aq.mp hq
  rfl
 refine wj2 he cl c hr hx ha h1 (Yx λq hq=>h2 q (by rw [h1];exact ax _ hq)).2 (ht_gen (hb _) ?_ hp)
 unfold methodCallForm
 rw [(Yx (pos:=pos) h2).1]
 exact aX hl
theorem wc (c:Cal X.prog X.w X.K X.mg X.base x k sp)(hr:Room k X.A)(hg:Gl X x)(hx:yq X E)(ha:PA X (e::es) t)(hn:autoParam (qvw (e::es)=true) aU4._auto_1)(hdb:autoParam ((x==("__debug__" : Str))=false) aU1._auto_1):PE X (.Call (.Name x p) (e::es) [] pos) (qwh sp E t):=by
 have h1:starEach (e::es) X.env=(false,eval e X.env)::starEach es X.env:=by
  cases e
  case Starred=>cases hn
  all_goals rfl
 have h2:∀q∈starEach (e::es) X.env,q.1=false:=λq hq=>by
  rw [Yv hn] at hq
  obtain ⟨z,_,rfl⟩:=aq.mp hq
  rfl
 exact qyj c hr hg hx ha hdb h1 (Yx λq hq=>h2 q (by rw [h1];exact ax _ hq)).2
theorem wCA (c:Cal X.prog X.w X.K X.mg X.base x k sp)(ha:PA X (e::es) t)(hr:Room k X.A:=by exact Room.mono (by assumption) ⋯)(hg:autoParam (Gl X x) aU4._auto_1)(hx:yq X E:=by exact qf)(hn:autoParam (qvw (e::es)=true) aU4._auto_1)(hdb:autoParam ((x==("__debug__" : Str))=false) aU1._auto_1):PE X (.Call (.Name x p) (e::es) [] pos) (qwh sp E t):=wc c hr hg hx ha hn hdb
end
end L2
namespace L2
open PySem PySem.Spec PyProof.Rows
def rSlS:V→Option Int→Option Int→Hp→VK→Prop:=λx lo hi H Q=>∃z,x=.str z∧z.length≤sizeLine∧Q (.str (Txt.slice z lo hi)) H
theorem sl_str {X:Cx}:SlR X rSlS:=by
 intro pins s σ H x v vl vu lo hi sl Q I rx hs pl pu h
 obtain ⟨z,rfl,hz,q⟩:=h
 obtain ⟨t,rfl⟩:=rx
 have fin:∀t' k,EP X pins σ Q (.str (Txt.slice z lo hi) t') { s with toks:=k }:=λt' k=>⟨.str (Txt.slice z lo hi),H,I.tok _,⟨_,rfl⟩,q⟩
 have le:=bw (Txt.slice_le z lo hi) hz
 obtain ⟨o,ho,hc,hd⟩:=hs
 refine ⟨"str",_,F.slot_str_getitem.lookup,eJ _ _ _,?_⟩
 cases pl with
 |none =>
  cases pu with
  |none=>exact cG (l:=none) (u:=none) (st:=none) ⟨o,ho,hc,hd⟩ rfl (d3 ⟨le,fin⟩)
  |int j uj=>exact cG (l:=none) (u:=some (j,uj)) (st:=none) ⟨o,ho,hc,hd⟩ rfl (d3 ⟨le,fin⟩)
 |int i ui =>
  cases pu with
  |none=>exact cG (l:=some (i,ui)) (u:=none) (st:=none) ⟨o,ho,hc,hd⟩ rfl (d3 ⟨le,fin⟩)
  |int j uj=>exact cG (l:=some (i,ui)) (u:=some (j,uj)) (st:=none) ⟨o,ho,hc,hd⟩ rfl (d3 ⟨le,fin⟩)
end L2
namespace L2
open PySem PySem.Spec PyProof.Rows PySem.W
section
variable {X:Cx}{o e:Expr}{apos cpos:Pos}{td ty:TE}
end
section
variable {X:Cx}{tg l:Expr}{tl:TE}
end
theorem wqg {d:Aj}{o:Obj}{cs:List (Key×V)}{g:TG}{tb:TS}{D:Ends}{σ:St}{H:Hp}(Pv:Nat→St→Hp→Prop)(h0:Pv 0 σ H)(hl:∀i σ H,i≤cs.length→Pv i σ H→H d=some (.frz o (.dK cs)))
  (hs:∀i c σ H,cs[i]?=some c→Pv i σ H→g (kV c.1) σ H λσ2 H2=>tb { D with nx:=Pv (i+1),ct:=Pv (i+1),bk:=D.nx } σ2 H2) (hd:∀σ H,Pv cs.length σ H→D.nx σ H) :
  ∃W:Nat→Nat→St→Hp→Prop,(∃m,W 0 m σ H)∧∀i m σ H,W i m σ H →
   ((ItD d o cs).stop i H∧D.nx σ H)∨((ItD d o cs).go i H∧∃N:St→Hp→Prop,(∀σ' H',N σ' H'→∃m',m'<m∧W (i+1) m' σ' H')∧∀x H',(ItD d o cs).yld i H x H'→g x σ H' λσ2 H2=>tb { D with nx:=N,ct:=N,bk:=D.nx } σ2 H2):=by
 refine ⟨λi m σ H=>m=cs.length-i∧i≤cs.length∧Pv i σ H,⟨cs.length,by simp,aJ _,h0⟩,?_⟩
 rintro i m σ H ⟨rfl,hi,p⟩
 have q:=hl i σ H hi p
 by_cases hlt:i<cs.length
 ·refine .inr ⟨⟨q,hlt⟩,Pv (i+1),λσ' H' p'=>⟨cs.length-(i+1),⋯,rfl,hlt,p'⟩,?_⟩
  rintro x H' ⟨rfl,c,ec,rfl⟩
  exact hs i c σ _ ec p
 ·have e:i=cs.length:=by lia
  subst e
  exact .inl ⟨⟨q,ai _⟩,hd σ H p⟩
end L2
namespace L2
open PySem PySem.Spec PyProof.Rows PySem.W
section
variable {X:Cx}
theorem wug:∀(qs:List Ag) (ss:List Str),qs.length=ss.length→(∀(i:Nat) v,qs[i]?=some v→∃x t,ss[i]?=some x∧v=Value.str x t)→StrsR qs ss:=by
 intro qs
 induction qs with
 |nil =>
  intro ss e _
  cases ss with
  |nil=>exact .nil
  |cons _ _=>simp at e
 |cons v qs ih =>
  intro ss e hh
  cases ss with
  |nil=>simp at e
  |cons x ss =>
   obtain ⟨x',t,e1,e2⟩:=hh 0 v rfl
   cases e1
   exact .cons ⟨t,e2⟩ (ih ss (by simpa using e) λi v ev=>hh (i+1) v ev)
theorem qz1:∀ {qs:List Ag} {ss:List Str},StrsR qs ss→Vals (ss.map V.str) qs
 |_,_,.nil=>.nil
 |_,_,.cons h t=>.cons h (qz1 t)
theorem qzu:∀ {ss:List Str} {qs:List Ag},Vals (ss.map V.str) qs→StrsR qs ss
 |[],_,h=>by cases h;exact .nil
 |s::ss,_,h=>by
  cases h with
  |cons h t=>exact .cons h (qzu t)
theorem yg (hc:X.calm=true):vh X (.type "list") (λxs H Q=>∃(a:Aj) (kvs:List (Key×V)) (ss:List Str),xs=[V.ref a]∧Rd H a (.dK kvs)∧kvs.map (·.1)=ss.map Sum.inr∧∀p,H p=none→Q (.ref p) (upd H p (.lst (ss.map V.str)))):=by
 intro pins s σ H xs us Q I r h
 obtain ⟨a,kvs,ss,rfl,e,hk,q⟩:=h
 obtain ⟨u,rfl,rx⟩:=jr r
 cases (show u=Value.ref a from rx)
 obtain ⟨z,lo,vs,rel,dd⟩:=Qj I.hok e
 obtain ⟨ep,dd⟩:=dd.dictAt
 have hl:vs.length=kvs.length:=(bu rel).symm
 have hls:kvs.length=ss.length:=by have:=bB List.length hk;simpa using this
 refine kdl_call (kdl_dict lo) (I.ok.hd hc) dd (by rw [hl];exact z) λh' tk acc' c' hk' hD hacc=>?_
 have tS:StrsR acc'.toList ss:=wug _ _ (by rw [aW,hacc.1,hl,hls]) λi v ev=>by
  obtain ⟨k,x,e1,e2⟩:=hacc.2 i v (by rw [←bS];exact ev)
  have hi:=(aR.mp e1).1
  have ek:kvs[i]?=some kvs[i]:=al ⋯
  obtain ⟨qv,e3,_⟩:=qku rel ek
  rw [e1] at e3
  have e4:=bB (λl=>l[i]?) hk
  simp only [aB,ek,ca] at e4
  have hs:ss[i]?=some ss[i]:=al ⋯
  rw [hs,ca] at e4
  have e5:=az e4
  have e6:k=kvs[i].1:=bB Prod.fst (az e3)
  rw [e6,e5] at e2
  obtain ⟨t,rfl⟩:=(show ∃t,v=Value.str ss[i] t from wwr e2)
  exact ⟨ss[i],t,hs,rfl⟩
 exact ⟨.ref _,_,I.laid (t':=tk) hk' (ai _) (show ObjOk X.prog X.w _ h' _ (.lst (ss.map V.str)) from ⟨by rw [aa,←hls];exact z,acc'.toList,c',qz1 tS,by simpa using hD⟩),rfl,q _ (I.hok.fresh (ai _))⟩
theorem jw:vh X (.builtin "sorted") (λxs H Q=>∃(a:Aj) (ss:List Str),xs=[.ref a]∧SqL X.K H a (ss.map V.str)∧ss.length<64 ∧
  ∀(l:Aj) (ms:List Str),H l=none→ms.Perm ss→ms.Pairwise (λx y=>¬ y.cps.toList<x.cps.toList)→Q (.ref l) (upd H l (.lst (ms.map V.str)))):=by
 intro pins s σ H xs us Q I r h
 obtain ⟨a,ss,rfl,hS,hn,q⟩:=h
 obtain ⟨u,rfl,ru⟩:=jr r
 cases (show u=Value.ref a from ru)
 have sz:(100001:Nat)<sizeLine:=by decide
 obtain ⟨qs,rv,pl,hz'⟩:=I.list hS
 have hil:s.heap.IsList a qs.toArray:=pl.isList
 have tS:=qzu rv
 have hls:qs.length=ss.length:=by rw [←rv.length,aa]
 refine di kind_sorted plain_sorted entry_sorted (args_sorted1 _) ?_
 unfold Builtin.«sorted»
 refine ac (m:=checkCount "sorted" 1 1 _) (am ?_)
 refine ac (collect_list hil ?_ ⋯)
 refine ac (fh ?_ ⋯)
 have hk':∀b o,s.heap.get? b=some o→((s.heap.push (seqObj "list" #[] 0)).update s.heap.objs.size (Obj.mapSeq (·++qs.toArray))).get? b=some o:=λb o q=>by
  have hlt:b<s.heap.objs.size:=ao q
  rw [d7 _ _ _ _ (aC hlt),Heap.get?_push_ne _ _ _ (aC hlt)]
  exact q
 have hz:s.heap.objs.size≤((s.heap.push (seqObj "list" #[] 0)).update s.heap.objs.size (Obj.mapSeq (·++qs.toArray))).objs.size:=by rw [Heap.size_update,size_push'];lia
 generalize ((s.heap.push (seqObj "list" #[] 0)).update s.heap.objs.size (Obj.mapSeq (·++qs.toArray)))=h' at hk' hz
 obtain ⟨tk,etk⟩:∃tk,tk=s.toks:=⟨_,rfl⟩
 have hoL:(h'.push (seqObj "list" qs.toArray 0)).get? h'.objs.size=some (seqObj "list" qs.toArray 0):=aw _ rfl
 refine ac (cR (dh slot_list_sort ⟨_,hoL,rfl⟩ entry_list_sort ?_ (args_list_sort _)))
 refine qwq (s:={ s with heap:=h'.push (seqObj "list" qs.toArray 0) }) hoL ⋯ tS λil pm up=>⟨_,rfl,am ⟨_,rfl,?_⟩⟩
 obtain ⟨e,he⟩:=Q7 hoL (il.map λi=>qs.getD i Value.none).toArray
 have nl:H h'.objs.size=none:=I.hok.fresh hz
 have hin:∀i∈il,i<ss.length:=λi hi=>by have:=aS.mp (pm.mem_iff.mp hi);lia
 have vals:∀(il:List Nat),(∀i∈il,i<ss.length)→Vals ((il.map λi=>ss.getD i Str.empty).map V.str) (il.map λi=>qs.getD i Value.none):=by
  intro il
  induction il with
  |nil=>intro _;exact .nil
  |cons i il ih =>
   intro hh
   obtain ⟨x,t,e1,e2⟩:=tS.at (hh i (.head _))
   refine .cons ?_ (ih λj hj=>hh j (.tail _ hj))
   show RelV (V.str (ss.getD i Str.empty)) (qs.getD i Value.none)
   rw [e2,aM,e1]
   exact ⟨t,rfl⟩
 have pms:(il.map λi=>ss.getD i Str.empty).Perm ss:=by
  have h1:=pm.map λi=>ss.getD i Str.empty
  have h2:((List.range qs.length).map λi=>ss.getD i Str.empty)=ss:=by
   refine dJ λi=>?_
   rw [aB]
   by_cases c:i<ss.length
   ·rw [ce ⋯,al c]
    show some (ss.getD i Str.empty)=_
    rw [aM,al c]
    rfl
   ·rw [be (by rw [aN];lia),be ⋯]
    rfl
  rw [h2] at h1
  exact h1
 refine ⟨.ref _,_,I.laid (t':=s.toks) (λb u hb=>Qw (ae _ (hk' b u hb)) (aC (aG (ao hb) hz)) _) hz (show ObjOk X.prog X.w _ _ _ (.lst ((il.map λi=>ss.getD i Str.empty).map V.str)) from ⟨?_,_,e,vals il hin,he⟩),rfl,q _ _ nl pms (bI.mpr up)⟩
 rw [aa,pms.length_eq]
 lia
end
end L2
namespace L2
open PySem
theorem wux {x:Str}{c n:Nat}(hx:∀d∈x.cps,d<n)(h:(Builtin.Str.occurrences x ⟨#[c]⟩ 0 x.length 1).isEmpty=false):c<n:=by
 by_cases z:c<n
 ·exact z
 ·exfalso
  have no:∀i,Builtin.Str.subAt x ⟨#[c]⟩ i=false:=λi=>by
   cases e:Builtin.Str.subAt x ⟨#[c]⟩ i with
   |false=>rfl
   |true =>
    exfalso
    have m:c∈(⟨#[c]⟩:Str).cps:=by simp
    rw [←dv.mp e] at m
    obtain ⟨k,hk,ek⟩:=Array.mem_extract_iff_getElem.mp m
    exact z (by rw [←ek];exact hx _ (Array.getElem_mem _))
  have key:∀(l:List Nat) (k:Nat),(forIn (m:=Id) l ((#[]:Array Nat),k) (StrLaws.occBody x ⟨#[c]⟩ x.length 1)).run.fst=#[]:=by
   intro l
   induction l with
   |nil=>exact λ_=>rfl
   |cons j r ih =>
    intro k
    rw [List.forIn_cons]
    have nj:¬ ((((#[]:Array Nat).size<1∧k≤j)∧j+(⟨#[c]⟩:Str).length≤x.length)∧Builtin.Str.subAt x ⟨#[c]⟩ j=true):=λq=>by have:=q.2;rw [no j] at this;cases this
    have eb:StrLaws.occBody x ⟨#[c]⟩ x.length 1 j ((#[]:Array Nat),k)=pure (.yield ((#[]:Array Nat),k)):=by
     unfold StrLaws.occBody
     exact af nj
    rw [eb]
    exact ih k
  rw [StrLaws.occ_eq,key] at h
  cases h
end L2
namespace L2
open PySem PySem.Spec PyProof.Rows
section
variable {X:Cx}
theorem qx0:vh X (.type "int") (λxs H Q=>∃z n,xs=[.str z]∧PySem.intText? z=some n∧z.length≤640∧Q (.int n) H):=by
 intro pins s σ H xs us Q I r h
 obtain ⟨z,n,rfl,e,hl,q⟩:=h
 obtain ⟨u,rfl,t,rfl⟩:=jr r
 exact W.KIN.call_text e hl ⟨.int n,H,I.tok _,⟨_,rfl⟩,q⟩
theorem Yg:∀ {ss:List Str} {qs:List Ag},Vals (ss.map V.str) qs→∃l:List (Str×Tok),qs=strValues l∧l.map (·.1)=ss
 |[],_,h=>by cases h;exact ⟨[],rfl,rfl⟩
 |s::ss,_,h=>by
  cases h with
  |cons h t =>
   obtain ⟨k,rfl⟩:=h
   obtain ⟨l,rfl,rfl⟩:=Yg t
   exact ⟨(s,k)::l,rfl,rfl⟩
theorem Yd:∀l:List (Str×Tok),Vals ((l.map (·.1)).map V.str) (strValues l)
 |[]=>.nil
 |(s,k)::l=>.cons ⟨k,rfl⟩ (Yd l)
theorem Ju:MtM X "str.join" (λx xs H Q=>∃(z:Str) (a:Aj) (ss:List Str),x=.str z∧xs=[.ref a]∧SqL X.K H a (ss.map V.str)∧JoinOk z ss=true∧Q (.str (Txt.join z ss)) H):=by
 intro pins s σ H x xs v us Q I rx rv h
 obtain ⟨z,a,ss,rfl,rfl,hS,ok,q⟩:=h
 obtain ⟨t,rfl⟩:=rx
 obtain ⟨u,rfl,ru⟩:=rv.one
 cases (show u=Value.ref a from ru)
 obtain ⟨qs,rv',pl,hz⟩:=I.list hS
 obtain ⟨l,rfl,e⟩:=Yg rv'
 exact SC.join pl.isList e ok λt' k=>⟨.str _,H,I.tok _,⟨_,rfl⟩,q⟩
theorem qyk:MtM X "str.split" (λx xs H Q=>∃z y:Str,x=.str z∧xs=[.str y]∧(y.length==0)=false∧z.length≤sizeLine∧(Builtin.Str.partsBetween z (Builtin.Str.occurrences z y 0 z.length (z.length+1)) y.length).length≤sizeLine∧(Txt.split z y).length≤sizeLine∧∀l,H l=none→Q (.ref l) (upd H l (.lst ((Txt.split z y).map V.str)))):=by
 intro pins s σ H x xs v us Q I rx rv h
 obtain ⟨z,y,rfl,rfl,hy,hsz,hsz2,hn,q⟩:=h
 obtain ⟨t,rfl⟩:=rx
 obtain ⟨u,rfl,ru⟩:=rv.one
 obtain ⟨u,rfl⟩:=ru
 have fin:∀(l:List (Str×Tok)) (k:Nat),l.map (·.1)=Txt.split z y→EP X pins σ Q (.ref s.heap.objs.size) { s with toks:=k,heap:=s.heap.push { cls:=.type "list",data:=.seq (strValues l).toArray } }:=λl k e =>
  ⟨.ref s.heap.objs.size,upd H s.heap.objs.size (.lst ((Txt.split z y).map V.str)),I.laid (t':=k) (λb u e=>ae _ e) (ai _) ⟨by rw [aa];exact hn,_,0,by rw [←e];exact Yd l,aw _ rfl⟩,rfl,q _ (I.hok.fresh (ai _))⟩
 cases h1:(decide (z.length<y.length)||decide (Builtin.Str.strKind z<Builtin.Str.strKind y))
 ·cases hf:(Builtin.Str.occurrences z y 0 z.length (z.length+1)).isEmpty
  ·refine fI fG (eJ _ _ _) eY (eQ _ _) (meets_str_split_sep z y t u h1 hy hf hsz hsz2) ?_
   show wants _ _ _ { s with toks:=_,heap:=s.heap.push { cls:=.type "list",data:=.seq (strsFrom s.toks (Builtin.Str.partsBetween z (Builtin.Str.occurrences z y 0 z.length (z.length+1)) y.length)).toArray } }
   rw [strsFrom_eq]
   exact fin (numbered s.toks _) _ ((numbered_texts _ _).trans ((af (d8 h1)).trans (af (d8 hf))).symm)
  ·exact fI fG (eJ _ _ _) eY (eQ _ _) (meets_str_split_not_found z y t u h1 hy hf) (fin [(z,t)] _ ((af (d8 h1)).trans (ak hf)).symm)
 ·exact fI fG (eJ _ _ _) eY (eQ _ _) (meets_str_split_cannot_occur z y t u h1) (fin [(z,t)] _ (ak h1).symm)
end
end L2
namespace L2
open PySem PySem.Spec PyProof.Rows
section
variable {X:Cx}
abbrev TF:=Str→St→Hp→(Str→Hp→Prop)→Prop
theorem qqr {M:Model}{A:Ae}{E:Ag→Ab→Prop}:∀(l:List (Sem Ag)) (acc:Str) (Q Q':Str→Ab→Prop) (s:Ab),Joins M A E l acc Q s→(∀o s,Q o s→Q' o s)→Joins M A E l acc Q' s
 |[],_,_,_,_,h,hQ=>hQ _ _ h
 |_::r,acc,Q,Q',_,h,hQ=>bg h (λ_ s1 ⟨y,t,e,z,hr⟩=>⟨y,t,e,z,qqr r (acc++y) Q Q' s1 hr hQ⟩) λ_ _ x=>x
def PF (X:Cx)(vs:List Expr)(t:TF):Prop :=
 ∀(acc:Str) (pins:List (Aj×Obj)) (s:Ab) (σ:St) (H:Hp) (Q:Str→Hp→Prop),Inv X pins σ H s→t acc σ H Q→Joins (model X.prog X.w) X.A X.xe (evalEach vs X.env) acc (λout s'=>∃H',Inv X pins σ H' s'∧Q out H') s
theorem pf_nil:PF X [] (λacc _ H Q=>Q acc H):=λ_ _ _ _ H _ I h=>⟨H,I,h⟩
theorem qv1 {x j pos}{vs:List Expr}{t:TF}(h:PF X vs t):PF X (.Constant (.str x) j pos::vs) (λacc σ H Q=>(acc++x).length≤sizeLine∧t (acc++x) σ H Q):=by
 intro acc pins s σ H Q I q
 show wpAny _ _ (eval _ X.env) _ _ s
 exact Calls.Constant_str ⟨x,_,rfl,q.1,h _ _ _ _ _ _ (I.tok _) q.2⟩
theorem qk7 {e:Expr}{te:TE}{pos:Pos}{vs:List Expr}{t:TF}(he:PE X e te)(h:PF X vs t):PF X (.FormattedValue e (-1) none pos::vs) (λacc σ H Q=>te σ H λv H' =>
  (∃z:Str,v=.str z∧z.length≤sizeLine∧(acc++z).length≤sizeLine∧t (acc++z) σ H' Q)∨(∃i:Int,v=.int i∧i.natAbs.log2<1920∧(acc++Str.ofString (toString i)).length≤sizeLine∧t (acc++Str.ofString (toString i)) σ H' Q)):=by
 intro acc pins s σ H Q I q
 show wpAny _ _ (eval _ X.env) _ _ s
 refine wpAny_FormattedValue_plain (thn (he pins s σ H _ I q) λu s1 ⟨v,H1,I1,r,q1⟩=>?_)
 rcases q1 with ⟨z,rfl,hz,ha,q1⟩|⟨i,rfl,hi,ha,q1⟩
 ·obtain ⟨t,rfl⟩:=r
  exact wpAny_formatField_str ⟨z,_,rfl,ha,h _ _ _ _ _ _ I1 q1⟩ ⟨z,_,rfl,ha,h _ _ _ _ _ _ (I1.tok _) q1⟩ hz
 ·obtain ⟨t,rfl⟩:=r
  exact wpAny_formatField_int hi ⟨_,_,rfl,ha,h _ _ _ _ _ _ (I1.tok _) q1⟩
theorem wu7 {v1 v2:Expr}{rest:List Expr}{pos:Pos}{t:TF}(h:PF X (v1::v2::rest) t):PE X (.JoinedStr (v1::v2::rest) pos) (λσ H Q=>t Str.empty σ H λout H'=>out.length≤sizeLine∧Q (.str out) H'):=by
 intro pins s σ H Q I q
 exact wpAny_JoinedStr (qqr _ _ _ _ _ (h _ pins s σ H _ I q) λout s1 ⟨H1,I1,hz,q1⟩=>⟨hz,.str out,H1,I1.tok _,⟨_,rfl⟩,q1⟩)
end
end L2
namespace L2
open PySem PySem.Spec PyProof.Rows
theorem W9 (a b:Str):(a++b).cps.toList=a.cps.toList++b.cps.toList:=W.KT.app_list a b
theorem qy0 {c:Nat}:∀ {a b r t:List Nat},c∉a→c∉b→a++c::r=b++c::t→a=b∧r=t
 |[],[],_,_,_,_,e=>⟨rfl,by simpa using e⟩
 |[],y::b,_,_,_,hb,e=>by
  have:c=y:=by simpa using bB List.head? e
  exact absurd (by rw [this];exact ar ..) hb
 |x::a,[],_,_,ha,_,e=>by
  have:x=c:=by simpa using bB List.head? e
  exact absurd (by rw [this];exact ar ..) ha
 |x::a,y::b,r,t,ha,hb,e=>by
  have e1:x=y:=by simpa using bB List.head? e
  have e2:a++c::r=b++c::t:=by simpa using bB List.tail e
  obtain ⟨e3,e4⟩:=qy0 (λz=>ha (ax _ z)) (λz=>hb (ax _ z)) e2
  exact ⟨by rw [e1,e3],e4⟩
def glL (c:Nat):List (List Nat)→List Nat
 |[]=>[]
 |[x]=>x
 |x::y::r=>x++c::glL c (y::r)
theorem wxj {c:Nat}:∀ {A B:List (List Nat)},A≠[]→B≠[]→(∀x∈A,c∉x)→(∀x∈B,c∉x)→glL c A=glL c B→A=B
 |[],_,h,_,_,_,_=>absurd rfl h
 |_,[],_,h,_,_,_=>absurd rfl h
 |[x],[y],_,_,_,_,e=>by rw [show x=y from e]
 |[x],y::z::r,_,_,ha,_,e=>by
  have e:x=y++c::glL c (z::r):=e
  exact absurd (by rw [e];simp) (ha x (ar ..))
 |x::z::r,[y],_,_,_,hb,e=>by
  have e:x++c::glL c (z::r)=y:=e
  exact absurd (by rw [←e];simp) (hb y (ar ..))
 |x::z::r,y::u::t,_,_,ha,hb,e=>by
  have e:x++c::glL c (z::r)=y++c::glL c (u::t):=e
  obtain ⟨e1,e2⟩:=qy0 (ha x (ar ..)) (hb y (ar ..)) e
  rw [e1,wxj (cH _ _) (cH _ _) (λw hw=>ha w (ax _ hw)) (λw hw=>hb w (ax _ hw)) e2]
theorem Wp (c:Nat):∀A:List Str,(Str.join ⟨#[c]⟩ A).cps.toList=glL c (A.map λs=>s.cps.toList)
 |[]=>rfl
 |[x]=>rfl
 |x::y::r=>by
  show (x++⟨#[c]⟩++Str.join ⟨#[c]⟩ (y::r)).cps.toList=_
  rw [W9,W9,Wp c (y::r)]
  show _=x.cps.toList++c::glL c ((y::r).map λs=>s.cps.toList)
  simp
theorem Jc {a b:Str}(h:a.cps.toList=b.cps.toList):a=b:=by
 obtain ⟨a⟩:=a
 obtain ⟨b⟩:=b
 have h:a=b:=Array.toList_inj.mp h
 rw [h]
theorem Wz {c:Nat}{rows:List Str}(hne:rows≠[])(hc:∀r∈rows,c∉r.cps.toList):Txt.split (Str.join ⟨#[c]⟩ rows) ⟨#[c]⟩=rows:=by
 have e:=StrLaws.join_split (Str.join ⟨#[c]⟩ rows) ⟨#[c]⟩
 have hf:=StrLaws.split_free (Str.join ⟨#[c]⟩ rows) c
 have hl:=split_pos (Str.join ⟨#[c]⟩ rows) ⟨#[c]⟩
 generalize Txt.split (Str.join ⟨#[c]⟩ rows) ⟨#[c]⟩=B at e hf hl
 have e:=bB (λs=>s.cps.toList) e
 simp only [Wp] at e
 have hB:B≠[]:=λz=>by rw [z] at hl;cases hl
 have m:=wxj (by simpa using hB) (by simpa using hne) (λx hx=>by obtain ⟨s,hs,rfl⟩:=aq.mp hx;exact hf s hs) (λx hx=>by obtain ⟨s,hs,rfl⟩:=aq.mp hx;exact hc s hs) e
 exact List.map_inj_right (λa b h=>Jc h) |>.mp m
end L2
namespace My
open PySem L2
def top (i:Nat):Stmt:=PySem.Challenge.pw_crookroad_k56_whole_house_read.main.body.getD i (.Pass ⟨0,0,0,0⟩)
abbrev zan:Stmt:=top 16
theorem _root_.aU7 (h:True:=by decide +kernel):True:=h
theorem scA{N P:List Str}{c:Scope}(a:autoParam (c.kind=.function) aU4._auto_1)(b:autoParam (c.isCoroutine=false) aU4._auto_1)(d:autoParam (c.isGenerator=false) aU4._auto_1)(e:autoParam (N.Nodup) aU7._auto_1)(f:autoParam (N.take P.length=P) aU4._auto_1)(g:autoParam (∀x∈P,c.names.lookup x=some .local∨c.names.lookup x=some .cell) aU7._auto_1)(h:autoParam (∀y∈c.names,y.2≠.free) aU7._auto_1):FnScope N P c:=⟨a,b,d,e,f,g,h⟩
theorem qqq:FnScope ["number","fewest","most"] ["number","fewest","most"] (wu zan):=scA
theorem qwu:Wm "check_count" zan ["number","fewest","most"] []:=λ_ _ _ _ _ _ _ u h=>match u,h with|[_,_,_],_=>exI rfl rfl
theorem Jp:Wm "check_count" zan ["number","fewest","most"] [.none]:=λ_ _ _ _ _ _ _ us hl=>by
 have h2:us.length=2:=by simpa using hl
 match us,h2 with
 |[_,_],_=>exact exI rfl rfl
abbrev za1:Stmt:=top 18
theorem Y1:FnScope ["bottom"] ["bottom"] (wu za1):=scA
theorem Yr:xn "check_bottom" za1 ["bottom"]:=λ_ _ _ _ _ _ _ h=>bA1 h λ_=>rfl
abbrev za2:Stmt:=top 19
theorem W2:FnScope ["one","other"] ["one","other"] (wu za2):=scA
theorem Zv:xn "common_divisor" za2 ["one","other"]:=λ_ _ _ _ _ _ _ h=>bA2 h λ_ _=>rfl
abbrev za3:Stmt:=top 20
theorem wzj:FnScope ["top","bottom","divisor"] ["top","bottom"] (wu za3):=scA
theorem wzh:xn "lowest" za3 ["top","bottom"]:=λ_ _ _ _ _ _ _ h=>bA2 h λ_ _=>rfl
abbrev za4:Stmt:=top 24
theorem wv5:FnScope ["road","start","places","here"] ["road","start"] (wu za4):=scA
theorem wk0:xn "trace" za4 ["road","start"]:=λ_ _ _ _ _ _ _ h=>bA2 h λ_ _=>rfl
abbrev za5:Stmt:=top 25
theorem xqn:FnScope ["points","turn","many"] ["points","turn","many"] (wu za5):=scA
theorem xqy:xn "spot" za5 ["points","turn","many"]:=λ_ _ _ _ _ _ _ h=>bA3 h λ_ _ _=>rfl
abbrev za6:Stmt:=top 26
theorem wxm:FnScope ["place","turn","size","many","times"] ["place","turn","size","many"] (wu za6):=scA
theorem wzn:xn "led_to" za6 ["place","turn","size","many"]:=λ_ _ _ _ _ _ _ h=>bA4 h λ_ _ _ _=>rfl
abbrev za7:Stmt:=top 29
theorem qu2:FnScope ["heights","width"] ["heights"] (wu za7):=scA
theorem wqc:xn "is_line" za7 ["heights"]:=λ_ _ _ _ _ _ _ h=>bA1 h λ_=>rfl
abbrev za8:Stmt:=zc (top 30) 0
theorem Z6:FnScope ["self","heights"] ["self","heights"] (wu za8):=scA
theorem Z9:zq "__init__" "Road.__init__" za8 ["self","heights"]:=λ_ _ _ _ _ _ _ h=>bA2 h λ_ _=>rfl
abbrev za9:Stmt:=zc (top 30) 1
theorem qx6:FnScope ["self"] ["self"] (wu za9):=scA
theorem qw5:zq "width" "Road.width" za9 ["self"]:=λ_ _ _ _ _ _ _ h=>bA1 h λ_=>rfl
abbrev zba:Stmt:=zc (top 30) 2
theorem Yn:FnScope ["self"] ["self"] (wu zba):=scA
theorem Y2:zq "corners" "Road.corners" zba ["self"]:=λ_ _ _ _ _ _ _ h=>bA1 h λ_=>rfl
abbrev zbb:Stmt:=zc (top 30) 3
theorem qkm:FnScope ["self","stretch"] ["self","stretch"] (wu zbb):=scA
theorem qvs:zq "ends" "Road.ends" zbb ["self","stretch"]:=λ_ _ _ _ _ _ _ h=>bA2 h λ_ _=>rfl
abbrev zbc:Stmt:=zc (top 30) 6
theorem Yt:FnScope ["self","point","top","bottom"] ["self","point"] (wu zbc):=scA
theorem Y4:zq "on_road" "Road.on_road" zbc ["self","point"]:=λ_ _ _ _ _ _ _ h=>bA2 h λ_ _=>rfl
abbrev zbd:Stmt:=zc (top 30) 7
theorem quf:FnScope ["self","point","top","bottom","stretch","left","right","beyond"] ["self","point"] (wu zbd):=scA
theorem qu5:zq "at" "Road.at" zbd ["self","point"]:=λ_ _ _ _ _ _ _ h=>bA2 h λ_ _=>rfl
abbrev zbe:Stmt:=zc (top 32) 0
theorem Wv:FnScope ["self","whose","point","times"] ["self","whose","point","times"] (wu zbe):=scA
theorem Wc:zq "__init__" "Walker.__init__" zbe ["self","whose","point","times"]:=λ_ _ _ _ _ _ _ h=>bA4 h λ_ _ _ _=>rfl
abbrev zbf:Stmt:=zc (top 32) 1
theorem qw0:FnScope ["self","road","many","points","turn","times","place","point","led"] ["self","road","many"] (wu zbf):=scA
theorem J3:zq "gone" "Walker.gone" zbf ["self","road","many"]:=λ_ _ _ _ _ _ _ h=>bA3 h λ_ _ _=>rfl
abbrev zbg:Stmt:=top 33
theorem qy4:FnScope ["whose","point"] ["whose","point"] (wu zbg):=scA
theorem qyp:xn "set_down" zbg ["whose","point"]:=λ_ _ _ _ _ _ _ h=>bA2 h λ_ _=>rfl
abbrev zbh:Stmt:=top 38
theorem wqd:FnScope ["name"] ["name"] (wu zbh):=scA
theorem wq2:xn "is_name" zbh ["name"]:=λ_ _ _ _ _ _ _ h=>bA1 h λ_=>rfl
abbrev zbi:Stmt:=top 39
theorem Wt:FnScope ["name","things"] ["name","things"] (wu zbi):=scA
theorem Zj:xn "check_new_name" zbi ["name","things"]:=λ_ _ _ _ _ _ _ h=>bA2 h λ_ _=>rfl
abbrev zbj:Stmt:=top 40
theorem qjk:FnScope ["things","changes","before","name","thing"] ["things","changes"] (wu zbj):=scA
theorem qys:xn "exchange" zbj ["things","changes"]:=λ_ _ _ _ _ _ _ h=>bA2 h λ_ _=>rfl
abbrev zbk:Stmt:=zc (top 41) 0
theorem Zz:FnScope ["self"] ["self"] (wu zbk):=scA
theorem W8:zq "__init__" "House.__init__" zbk ["self"]:=λ_ _ _ _ _ _ _ h=>bA1 h λ_=>rfl
abbrev zbl:Stmt:=zc (top 41) 1
theorem Qf:FnScope ["self","name"] ["self","name"] (wu zbl):=scA
theorem Qv:zq "road_called" "House.road_called" zbl ["self","name"]:=λ_ _ _ _ _ _ _ h=>bA2 h λ_ _=>rfl
abbrev zbm:Stmt:=zc (top 41) 2
theorem ud:FnScope ["self","name"] ["self","name"] (wu zbm):=scA
theorem uf:zq "walker_called" "House.walker_called" zbm ["self","name"]:=λ_ _ _ _ _ _ _ h=>bA2 h λ_ _=>rfl
abbrev zbn:Stmt:=zc (top 41) 4
theorem qjn:FnScope ["self","roads","walkers"] ["self","roads","walkers"] (wu zbn):=scA
theorem qy2:zq "do" "House.do" zbn ["self","roads","walkers"]:=λ_ _ _ _ _ _ _ h=>bA3 h λ_ _ _=>rfl
abbrev zbo:Stmt:=zc (top 41) 5
theorem qk1:FnScope ["self","name","heights"] ["self","name","heights"] (wu zbo):=scA
theorem qvm:zq "lay" "House.lay" zbo ["self","name","heights"]:=λ_ _ _ _ _ _ _ h=>bA3 h λ_ _ _=>rfl
abbrev zbp:Stmt:=zc (top 41) 10
theorem qq4:FnScope ["self","name","whose","point","road","here"] ["self","name","whose","point"] (wu zbp):=scA
theorem qq3:zq "place" "House.place" zbp ["self","name","whose","point"]:=λ_ _ _ _ _ _ _ h=>bA4 h λ_ _ _ _=>rfl
abbrev zbq:Stmt:=zc (top 41) 12
theorem qj1:FnScope ["self","name","many","walker","gone"] ["self","name","many"] (wu zbq):=scA
theorem qj7:zq "go" "House.go" zbq ["self","name","many"]:=λ_ _ _ _ _ _ _ h=>bA3 h λ_ _ _=>rfl
abbrev zbr:Stmt:=zc (top 41) 14
theorem Wu:FnScope ["self","roads","walkers"] ["self"] (wu zbr):=scA
theorem Wx:zq "take_back" "House.take_back" zbr ["self"]:=λ_ _ _ _ _ _ _ h=>bA1 h λ_=>rfl
abbrev zbs:Stmt:=zc (top 41) 15
theorem Y6:FnScope ["self"] ["self"] (wu zbs):=scA
theorem Y0:zq "forget" "House.forget" zbs ["self"]:=λ_ _ _ _ _ _ _ h=>bA1 h λ_=>rfl
abbrev zbt:Stmt:=zc (top 41) 16
theorem qwn:FnScope ["self"] ["self"] (wu zbt):=scA
theorem Jm:zq "deeds" "House.deeds" zbt ["self"]:=λ_ _ _ _ _ _ _ h=>bA1 h λ_=>rfl
abbrev zbu:Stmt:=zc (top 41) 17
theorem qqb:FnScope ["self"] ["self"] (wu zbu):=scA
theorem qqk:zq "names" "House.names" zbu ["self"]:=λ_ _ _ _ _ _ _ h=>bA1 h λ_=>rfl
abbrev zbv:Stmt:=zc (top 41) 18
theorem Q4:FnScope ["self","name"] ["self","name"] (wu zbv):=scA
theorem Q3:zq "corners_of" "House.corners_of" zbv ["self","name"]:=λ_ _ _ _ _ _ _ h=>bA2 h λ_ _=>rfl
abbrev zbw:Stmt:=zc (top 41) 19
theorem qwy:FnScope ["self","name","walker"] ["self","name"] (wu zbw):=scA
theorem qqj:zq "where" "House.where" zbw ["self","name"]:=λ_ _ _ _ _ _ _ h=>bA2 h λ_ _=>rfl
abbrev zbx:Stmt:=zc (top 41) 20
theorem qwk:FnScope ["self","name","point","walker"] ["self","name","point"] (wu zbx):=scA
theorem qwb:zq "stood" "House.stood" zbx ["self","name","point"]:=λ_ _ _ _ _ _ _ h=>bA3 h λ_ _ _=>rfl
abbrev zby:Stmt:=top 45
theorem quv:FnScope ["house","name"] ["house","name"] (wu zby):=scA
theorem qjf:xn "road_row" zby ["house","name"]:=λ_ _ _ _ _ _ _ h=>bA2 h λ_ _=>rfl
abbrev zbz:Stmt:=top 46
theorem qxj:FnScope ["house","name","whose","top","bottom"] ["house","name"] (wu zbz):=scA
theorem qxy:xn "walker_row" zbz ["house","name"]:=λ_ _ _ _ _ _ _ h=>bA2 h λ_ _=>rfl
abbrev zb0:Stmt:=top 47
theorem qxp:FnScope ["house","roads","walkers","rows"] ["house"] (wu zb0):=scA
theorem qxg:xn "house_text" zb0 ["house"]:=λ_ _ _ _ _ _ _ h=>bA1 h λ_=>rfl
abbrev zb1:Stmt:=top 48
theorem qkp:FnScope ["word"] ["word"] (wu zb1):=scA
theorem qkn:xn "number_of" zb1 ["word"]:=λ_ _ _ _ _ _ _ h=>bA1 h λ_=>rfl
abbrev zb2:Stmt:=top 49
theorem wq3:FnScope ["house","row","words"] ["house","row"] (wu zb2):=scA
theorem wqf:xn "take_in" zb2 ["house","row"]:=λ_ _ _ _ _ _ _ h=>bA2 h λ_ _=>rfl
abbrev zb3:Stmt:=top 50
theorem qjy:FnScope ["text","house","row"] ["text"] (wu zb3):=scA
theorem qyu:xn "house_of" zb3 ["text"]:=λ_ _ _ _ _ _ _ h=>bA1 h λ_=>rfl
abbrev zb4:Stmt:=top 51
theorem qxv:FnScope ["text","house"] ["text"] (wu zb4):=scA
theorem qxt:xn "read_house" zb4 ["text"]:=λ_ _ _ _ _ _ _ h=>bA1 h λ_=>rfl
abbrev zb5:Stmt:=top 53
theorem qvd:FnScope ["_law_script","_law_at"] ["_law_script","_law_at"] (wu zb5):=scA
theorem qv8:xn "_law_cell" zb5 ["_law_script","_law_at"]:=λ_ _ _ _ _ _ _ h=>bA2 h λ_ _=>rfl
abbrev zb6:Stmt:=top 54
theorem qk4:FnScope ["_law_script","_law_at","_law_turn","_law_many","_law_cell_here","_law_left","_law_k","_law_low_here","_law_one","_law_two"] ["_law_script","_law_at","_law_turn","_law_many"] (wu zb6):=scA
theorem qkx:xn "_law_pick" zb6 ["_law_script","_law_at","_law_turn","_law_many"]:=λ_ _ _ _ _ _ _ h=>bA4 h λ_ _ _ _=>rfl
abbrev zb7:Stmt:=top 55
theorem qxb:FnScope ["_law_script","_law_at","_law_letters","_law_size","_law_place","_law_shift","_law_made","_law_j","_law_name","_law_k","_law_sign"] ["_law_script","_law_at"] (wu zb7):=scA
theorem qxk:xn "_law_names" zb7 ["_law_script","_law_at"]:=λ_ _ _ _ _ _ _ h=>bA2 h λ_ _=>rfl
abbrev zb8:Stmt:=top 56
theorem qxh:FnScope ["_law_script","_law_at","_law_wide","_law_row","_law_k"] ["_law_script","_law_at","_law_wide"] (wu zb8):=scA
theorem qxr:xn "_law_climb" zb8 ["_law_script","_law_at","_law_wide"]:=λ_ _ _ _ _ _ _ h=>bA3 h λ_ _ _=>rfl
abbrev zb9:Stmt:=top 57
theorem Y3:FnScope ["_law_script","_law_at","_law_most","_law_wide","_law_kind"] ["_law_script","_law_at","_law_most"] (wu zb9):=scA
theorem Y5:xn "_law_heights" zb9 ["_law_script","_law_at","_law_most"]:=λ_ _ _ _ _ _ _ h=>bA3 h λ_ _ _=>rfl
abbrev zca:Stmt:=top 58
theorem qv0:FnScope ["_law_script","_law_at","_law_wide","_law_most","_law_bottom","_law_top","_law_by"] ["_law_script","_law_at","_law_wide","_law_most"] (wu zca):=scA
theorem qv7:xn "_law_spot" zca ["_law_script","_law_at","_law_wide","_law_most"]:=λ_ _ _ _ _ _ _ h=>bA4 h λ_ _ _ _=>rfl
abbrev zcb:Stmt:=top 59
theorem qqs:FnScope ["_law_one","_law_other"] ["_law_one","_law_other"] (wu zcb):=scA
theorem qwf:xn "_law_common" zcb ["_law_one","_law_other"]:=λ_ _ _ _ _ _ _ h=>bA2 h λ_ _=>rfl
abbrev zcc:Stmt:=top 60
theorem quj:FnScope ["_law_top","_law_bottom","_law_by"] ["_law_top","_law_bottom"] (wu zcc):=scA
theorem quz:xn "_law_low" zcc ["_law_top","_law_bottom"]:=λ_ _ _ _ _ _ _ h=>bA2 h λ_ _=>rfl
abbrev zcd:Stmt:=top 61
theorem qxz:FnScope ["_law_script","_law_at","_law_names_here","_law_roads","_law_walkers","_law_j","_law_known","_law_whose","_law_wide","_law_point","_law_top","_law_bottom"] ["_law_script","_law_at"] (wu zcd):=scA
theorem qxu:xn "_law_stand" zcd ["_law_script","_law_at"]:=λ_ _ _ _ _ _ _ h=>bA2 h λ_ _=>rfl
abbrev zce:Stmt:=top 62
theorem qkw:FnScope ["_law_roads","_law_walkers","_law_made","_law_name","_law_whose","_law_top","_law_bottom"] ["_law_roads","_law_walkers"] (wu zce):=scA
theorem qvz:xn "_law_text" zce ["_law_roads","_law_walkers"]:=λ_ _ _ _ _ _ _ h=>bA2 h λ_ _=>rfl
abbrev zcf:Stmt:=top 63
theorem qx3:FnScope ["_law_found"] ["_law_found"] (wu zcf):=scA
theorem qxx:xn "_law_whole" zcf ["_law_found"]:=λ_ _ _ _ _ _ _ h=>bA1 h λ_=>rfl
abbrev zcg:Stmt:=top 64
theorem qk2:FnScope ["_law_heights_here","_law_top","_law_bottom","_law_k"] ["_law_heights_here","_law_top","_law_bottom"] (wu zcg):=scA
theorem qvc:xn "_law_step" zcg ["_law_heights_here","_law_top","_law_bottom"]:=λ_ _ _ _ _ _ _ h=>bA3 h λ_ _ _=>rfl
abbrev zch:Stmt:=top 65
theorem qw6:FnScope ["_law_heights_here","_law_top","_law_bottom","_law_seen","_law_tops"] ["_law_heights_here","_law_top","_law_bottom"] (wu zch):=scA
theorem qxd:xn "_law_trace" zch ["_law_heights_here","_law_top","_law_bottom"]:=λ_ _ _ _ _ _ _ h=>bA3 h λ_ _ _=>rfl
abbrev zci:Stmt:=top 66
theorem qxn:FnScope ["_law_tops","_law_start","_law_many"] ["_law_tops","_law_start","_law_many"] (wu zci):=scA
theorem qw2:xn "_law_after" zci ["_law_tops","_law_start","_law_many"]:=λ_ _ _ _ _ _ _ h=>bA3 h λ_ _ _=>rfl
abbrev zcj:Stmt:=top 67
theorem qw8:FnScope ["_law_tops","_law_start","_law_many","_law_top","_law_found","_law_k","_law_size","_law_turn"] ["_law_tops","_law_start","_law_many","_law_top"] (wu zcj):=scA
theorem qxs:xn "_law_count" zcj ["_law_tops","_law_start","_law_many","_law_top"]:=λ_ _ _ _ _ _ _ h=>bA4 h λ_ _ _ _=>rfl
abbrev zck:Stmt:=top 68
theorem qw9:FnScope ["_law_house","_law_roads","_law_walkers","_law_name","_law_whose","_law_top","_law_bottom"] ["_law_house","_law_roads","_law_walkers"] (wu zck):=scA
theorem qx2:xn "_law_right" zck ["_law_house","_law_roads","_law_walkers"]:=λ_ _ _ _ _ _ _ h=>bA3 h λ_ _ _=>rfl
abbrev zcl:Stmt:=top 69
theorem Yp:FnScope ["_law_house","_law_told"] ["_law_house"] (wu zcl):=scA
theorem Y7:xn "_law_nothing" zcl ["_law_house"]:=λ_ _ _ _ _ _ _ h=>bA1 h λ_=>rfl
abbrev zcq:Stmt:=top 70
theorem zgt:FnScope ["_law_script","_law_roads","_law_walkers","_law_due","_law_house","_law_other","_law_many","_law_name","_law_whose","_law_top","_law_bottom","_law_tops","_law_start","_law_end","_law_spot_here","_law_new","_law_turn"] ["_law_script"] (wu zcq):=scA
local macro_rules | `(tactic| walk_at "sq")=>`(tactic| first | assumption | exact SqT.new | exact SqL.new | ((with_reducible refine Same.sqt (Same.upd (by assumption)) ?_);walk_at "sq") | ((with_reducible refine Same.sql (Same.upd (by assumption)) ?_);walk_at "sq"))
local macro_rules | `(tactic| walk_at "at")=>`(tactic| first | rfl | exact Jz (by lia) (by lia))
local macro_rules | `(tactic| walk_at "mul")=>`(tactic| first | assumption | exact IntMulOk.of_left (intBits_le_64 (by lia) (by lia)) | exact IntMulOk.of_right (intBits_le_64 (by lia) (by lia)) | exact Sm.ok (by assumption) (by assumption) (by lia))
local macro_rules | `(tactic| walk_at "pos")=>`(tactic| first | lia | decide +kernel)
local macro_rules | `(tactic| walk_at "div")=>`(tactic| exact ⟨by first | lia | decide +kernel,by unfold Sm;decide +kernel⟩)
local macro_rules | `(tactic| walk_at "loc")=>`(tactic| first | exact Or.inl rfl | exact Or.inr rfl)
local macro_rules | `(tactic| walk_at "cap")=>`(tactic| repeat (first | exact trivial | refine ⟨rfl,?_⟩))
local macro_rules | `(tactic| walk_at "has")=>`(tactic| repeat (first | exact trivial | (refine ⟨λz=>?_,(by lia),?_⟩;(first | exact ⟨_,rfl⟩ | cases z))))
local macro_rules | `(tactic| walk_at "cix")=>`(tactic| repeat (first | exact trivial | refine ⟨⟨_,_,rfl,rfl,rfl,rfl⟩,?_⟩))
local macro_rules | `(tactic| walk_at "hasK")=>`(tactic| repeat (first | exact trivial | (refine ⟨λz=>?_,λz=>?_,?_⟩;(first | exact ⟨_,rfl⟩ | cases z);(first | rfl | cases z))))
structure Txt (K:Aa)(mg:Str→Option Ag)(qu:Aj)(qp:Aj)(qz:Aj)(qm:Aj)(qd:Aj)(q8:Aj)(wv:Aj)(qg:Aj)(wj:Aj)(wx:Aj)(qy:Aj)(qx:Aj)(wq:Aj)(qc:Aj)(qw:Aj)(qq:Aj):Prop where
 len_:mg "len" = none
 abs_:mg "abs" = none
 range_:mg "range" = none
 list_:mg "list" = none
 min_:mg "min" = none
 max_:mg "max" = none
 all_:mg "all" = none
 any_:mg "any" = none
 sorted_:mg "sorted" = none
 enumerate_:mg "enumerate" = none
 dict_:mg "dict" = none
 isinstance_:mg "isinstance" = none
 int_:mg "int" = none
 bool_:mg "bool" = none
 tuple_:mg "tuple" = none
 str_:mg "str" = none
 zgu:mg "RoadError" = some (.ref qu)
 zcm:ExcC K qu
 zgv:mg "BadLine" = some (.ref qp)
 zao:ExcC K qp
 zgc:mg "BadBottom" = some (.ref qz)
 zal:ExcC K qz
 zgw:mg "OffRoad" = some (.ref qm)
 zap:ExcC K qm
 zgx:mg "BadCount" = some (.ref qd)
 zaq:ExcC K qd
 zgy:mg "TooLong" = some (.ref q8)
 zar:ExcC K q8
 zgz:mg "BadRow" = some (.ref wv)
 zas:ExcC K wv
 zg0:mg "BadName" = some (.ref qg)
 zat:ExcC K qg
 zg1:mg "Taken" = some (.ref wj)
 zau:ExcC K wj
 zg2:mg "NoRoad" = some (.ref wx)
 zav:ExcC K wx
 zg3:mg "NoWalker" = some (.ref qy)
 zaw:ExcC K qy
 zgd:mg "NothingDone" = some (.ref qx)
 zam:ExcC K qx
 zcr:mg "BadText" = some (.ref wq)
 zab:ExcC K wq
 cl:Cls K qc
 na:NoAttr K qc "heights"
 zac:∃t,mg "WIDEST" = some (.int 24 t)
 zg4:mg "Road" = some (.ref qc)
 clW:Cls K qw
 clH:Cls K qq
 naWw:NoAttr K qw "whose"
 naWp:NoAttr K qw "point"
 naWt:NoAttr K qw "times"
 naHr:NoAttr K qq "roads"
 naHw:NoAttr K qq "walkers"
 naHd:NoAttr K qq "done"
 zg5:mg "Walker" = some (.ref qw)
 zge:mg "House" = some (.ref qq)
 zad:∃t,mg "LONGEST_TRACE" = some (.int 1000 t)
 zae:∃t,mg "FARTHEST" = some (.int 1000000000000000000000000000000000000000000000000000000000000 t)
 zaf:∃t,mg "LONGEST_NAME" = some (.int 12 t)
 zag:∃t,mg "GREATEST_BOTTOM" = some (.int 40 t)
 zah:∃t,mg "LETTERS" = some (.str "abcdefghijklmnopqrstuvwxyz" t)
 io:IsO K qq
 zai:∃t,mg "LONGEST_NUMBER" = some (.int 3 t)
 zaj:∃t,mg "FIGURES" = some (.str "0123456789" t)
abbrev FK(P:Ac)(w:Ah)(K:Aa)(mg:Str→Option Ag)(base:Heap):=FnOk P w K mg base (CXE P w)
section
variable {P:Ac}{w:Ah}{K:Aa}{mg:Str→Option Ag}{base:Heap}{qu:Aj}{qp:Aj}{qz:Aj}{qm:Aj}{qd:Aj}{q8:Aj}{wv:Aj}{qg:Aj}{wj:Aj}{wx:Aj}{qy:Aj}{qx:Aj}{wq:Aj}{qc:Aj}{qw:Aj}{qq:Aj}
variable {f:Aj}{fd:Ad}(T:Txt K mg qu qp qz qm qd q8 wv qg wj wx qy qx wq qc qw qq)
def qvu (C:Aj):Sp:=λvs H Q E=>∃b:Int,vs=[.int b]∧(1≤b→Q .non H)∧(b<1→E (.ref C) none H)
include T in
theorem wyr (F:Fun K "check_bottom" "check_bottom" za1 f fd):FK P w K mg base 1 f fd ["bottom"] (qvu qz):=by
 have sc:=Y1
 refine F.okX sc (λvs H Q E h=>by obtain ⟨_,rfl,_⟩:=h;rfl) λ_ _ _ _ H vs Q E hr h=>?_
 obtain ⟨b,rfl,h1,h2⟩:=h
 refine ⟨_,(qh (xg (wm yh (pv 0) qr (wt _)) (qh (zm rfl T.zal x9 rfl T.zgc (xb xp qk))) xx)),?_⟩
 refine exI rfl (wg rfl rfl (exI rfl ?_))
 refine vb (λq1=>?_) (λq1=>?_)
 ·exact ⟨⋯,h2 q1⟩
 ·exact h1 ⋯
include T in
theorem wy8 (F:Fun K "_law_cell" "_law_cell" zb5 f fd):FK P w K mg base 1 f fd ["_law_script","_law_at"] (qud K):=by
 have sc:=qvd
 refine F.okX sc (λvs H Q E h=>by obtain ⟨_,_,_,rfl,_⟩:=h;rfl) λ_ _ _ _ H vs Q E hr h=>?_
 obtain ⟨a,ns,i,rfl,hS,h0,k⟩:=h
 have hlen:(ns.map V.int).length=ns.length:=aa _
 refine ⟨_,(qj (xg (wm yh (pv 1) (wp xk rfl T.len_ aI (q9 (pv 0) qk)) (wt _)) (qh (w9 (zd x4 (pv 0) (pv 1) (λ_ _=>rfl)))) xx)
   (qj (xg (wm vg (wp xk rfl T.len_ aI (q9 (pv 0) qk)) qr (wt _)) (qh (w9 (wb xz (wb xt qr (pv 1)) qr))) xx)
   (qh (w9 (wb xz (zd x4 (pv 0) (wb kj (pv 1) (wp xk rfl T.len_ aI (q9 (pv 0) qk))) (λ_ _=>rfl)) (wb xt qr (pv 1))))))),?_⟩
 refine exI rfl (exI rfl ⟨_,_,rfl,.inl hS,wg rfl rfl (exI rfl ?_)⟩)
 refine vb (λq1=>?_) (λq1=>?_)
 ·rw [hlen] at q1
  refine exI rfl (exI rfl (exX rfl rfl hS (Jz h0 q1) ?_))
  exact k _ (by rw [qyy,ak q1])
 ·rw [hlen] at q1
  refine exI rfl ⟨_,_,rfl,.inl hS,rfl,_,rfl,?_⟩
  rw [hlen]
  refine jc (λq2=>?_) (λq2=>?_)
  ·refine exI rfl (wg rfl rfl ⟨(by walk_at "mul"),wg rfl rfl ?_⟩)
   exact k _ (by rw [qyy,af q1,ak q2])
  ·refine exI rfl (exI rfl (exI rfl ⟨_,_,rfl,.inl hS,wg rfl rfl ⟨(by rw [hlen];lia),?_⟩⟩))
   rw [hlen]
   refine exX rfl rfl hS (Jz (bh _ q2) (bj _ ⋯)) (exI rfl (wg rfl rfl ⟨(by walk_at "mul"),wg rfl rfl ?_⟩))
   exact k _ (by rw [qyy,af q1,af q2])
include T in
theorem xqk (F:Fun K "_law_pick" "_law_pick" zb6 f fd)(zg6:Cal P w K mg base "_law_cell" 1 (qud K)):FK P w K mg base 2 f fd ["_law_script","_law_at","_law_turn","_law_many"] (um K):=by
 have sc:=qk4
 refine F.okX sc (λvs H Q E h=>by obtain ⟨_,_,_,_,_,rfl,_⟩:=h;rfl) λ_ _ _ _ H vs Q E hr h=>?_
 obtain ⟨a,ns,i,t,m,rfl,hS,h0,t0,t1,m0,k⟩:=h
 refine ⟨_,(qj (w4 (i:=4) (wCA zg6 (q9 (pv 0) (q9 (pv 1) qk))))
   (qj (xg (wm wq8 (wp Wr rfl T.abs_ Zx (q9 (pv 4) qk)) (wb op_pow qr qr) (wt _)) (qj (w4 (i:=5) (wp Wr rfl T.abs_ Zx (q9 (pv 4) qk)))
   (qj (vf aE rfl (zh rfl T.range_ (q9 (pv 2) qk)) (xq (i:=6)) (qh (w4 (i:=5) (wb ju (pv 5) qr))))
   (qj (xg (wm yh (pv 4) qr (wt _)) (qh (w4 (i:=5) (wb kj (pv 5) qr))) xx)
   (qh (w9 (wb kj (pv 5) (pv 3))))))) xx)
   (qj (w4 (i:=7) (wb kj (pv 4) qr))
   (qj (w4 (i:=8) (wb kj (wb xz (wb xz (wb xt (pv 7) qr) (wb xt (pv 2) qr)) qr) qr))
   (qj (w4 (i:=9) (wb kj (wb xz (wb xz (wb xt (pv 8) (pv 8)) (wb xt (pv 7) qr)) (wb xt (pv 2) qr)) qr))
   (qh (w9 (wb kj (wb kj (wb xz (wb xz (wb xt (pv 9) (pv 9)) (wb xt (pv 8) qr)) (wb xt (pv 2) qr)) qr) (pv 3))))))))),?_⟩
 refine exI rfl (exI rfl ?_)
 refine ⟨a,ns,i,rfl,hS,h0,λc hc=>?_⟩
 have fin:∀v,v=qyg c t%m→Q (.int v) H:=λv hv=>by
  refine k v (by rw [hv,qyw,hc]) ?_ ?_
  ·rw [hv];exact bh _ ⋯
  ·rw [hv];exact bj _ m0
 refine exI rfl (exI rfl (wg rfl rfl ⟨⟨⋯,⋯,⋯⟩,wg rfl rfl (exI rfl ?_)⟩))
 refine vb (λq1=>?_) (λq1=>?_)
 ·have q1':10 ^ 18≤u8 c:=q1
  refine exI rfl (exI rfl ?_)
  refine exI rfl ⟨t,rfl,⋯,⋯,kf (λj σ H1=>H1=H∧∃z,σ=[some (.ref a),some (.int i),some (.int t),some (.int m),some (.int c),some (.int (divs (u8 c) j)),z,none,none,none]) ⟨rfl,_,rfl⟩ ?_ ?_⟩
  ·rintro j σ H1 hj ⟨rfl,z,rfl⟩
   exact exI rfl (wg rfl rfl ⟨(by walk_at "div"),rfl,_,rfl⟩)
  ·rintro σ H1 ⟨rfl,z,rfl⟩
   refine exI rfl (wg rfl rfl (exI rfl ?_))
   refine vb (λq2=>?_) (λq2=>?_)
   ·refine exI rfl (wg rfl rfl ⟨(by walk_at "pos"),exI rfl (exI rfl (wg rfl rfl ⟨(by walk_at "pos"),?_⟩))⟩)
    exact fin _ (by rw [wv3 q1' q2])
   ·refine exI rfl (exI rfl (wg rfl rfl ⟨(by walk_at "pos"),?_⟩))
    exact fin _ (by rw [wxh q1' q2])
 ·have q1':¬ 10 ^ 18≤u8 c:=q1
  have l0:=bh c (show (1000003:Int)≠0 by decide)
  have l1:=bj c (show (0:Int)<1000003 by decide)
  refine exI rfl (wg rfl rfl ⟨(by walk_at "pos"),exI rfl (wg rfl rfl ⟨(by walk_at "mul"),exI rfl (wg rfl rfl ⟨(by walk_at "mul"),wg rfl rfl (wg rfl rfl (wg rfl rfl ⟨(by walk_at "pos"),?_⟩))⟩)⟩)⟩)
  have o0:0≤qvt c t:=bh _ ⋯
  have o1:qvt c t<999983:=bj _ ⋯
  refine ⟨V.int (qvt c t),rfl,V.int (qvt c t),rfl,wg rfl rfl ⟨(by walk_at "mul"),exI rfl (wg rfl rfl ⟨(by walk_at "mul"),wg rfl rfl (exI rfl (wg rfl rfl ⟨(by walk_at "mul"),wg rfl rfl (wg rfl rfl ⟨(by walk_at "pos"),?_⟩)⟩))⟩)⟩⟩
  have w0:0≤qj4 c t:=bh _ ⋯
  have w1:qj4 c t<1000033:=bj _ ⋯
  refine ⟨V.int (qj4 c t),rfl,V.int (qj4 c t),rfl,wg rfl rfl ⟨(by walk_at "mul"),V.int (qvt c t),rfl,wg rfl rfl ⟨(by walk_at "mul"),wg rfl rfl (exI rfl (wg rfl rfl ⟨(by walk_at "mul"),wg rfl rfl (wg rfl rfl ⟨(by walk_at "pos"),exI rfl (wg rfl rfl ⟨(by walk_at "pos"),?_⟩)⟩)⟩))⟩⟩⟩
  exact fin _ (by rw [wvw q1'])
def Within (n f:Int)(m:Option Int):Prop:=f≤n∧∀b,m=some b→n≤b
def qkk (C:Aj):Sp:=λvs H Q E=>∃(n f:Int) (m:V) (o:Option Int),vs=[.int n,.int f,m]∧(m=.non∧o=none∨∃b,m=.int b∧o=some b)∧(Within n f o→Q .non H)∧(¬ Within n f o→E (.ref C) none H)
include T in
theorem wjx (F:FunD K "check_count" zan f fd):FK P w K mg base 1 f fd ["number","fewest","most"] (qkk qd):=by
 have sc:=qqq
 refine F.okX sc (λvs H Q E h=>by obtain ⟨_,_,_,_,rfl,_⟩:=h;rfl) λ_ _ _ _ H vs Q E hr h=>?_
 obtain ⟨n,fe,m,o,rfl,hm,k,x⟩:=h
 refine ⟨_,(qh (xg (PW.pt (yp (wm yh (pv 0) (pv 1) (wt _)) (yd (PW.pt (Yu (wm wy6 (pv 2) wvz (wt _)) (Wn (wm uq (pv 0) (pv 2) (wt _)))))))) (qh (zm rfl T.zaq x9 rfl T.zgx (xb xp qk))) xx)),?_⟩
 refine exI rfl (exI rfl (wg rfl rfl (exI rfl ?_)))
 refine vb (λq1=>?_) (λq1=>?_)
 ·refine ut ?_
  exact ⟨sz1,x (λz=>by have:=z.1;lia)⟩
 ·rcases hm with ⟨rfl,rfl⟩|⟨b,rfl,rfl⟩
  ·refine exI rfl ⟨rfl,_,rfl,?_⟩
   refine yb ?_
   exact k ⟨⋯,λb e=>nomatch e⟩
  ·refine exI rfl ⟨rfl,_,rfl,?_⟩
   refine ut ?_
   refine exI rfl (exI rfl (wg rfl rfl (exI rfl ?_)))
   refine vb (λq2=>?_) (λq2=>?_)
   ·exact ⟨sz1,x (λz=>by have:=z.2 b rfl;lia)⟩
   ·exact k ⟨⋯,λb' e=>by cases e;lia⟩
def xy (ns:List Int):Prop:=2≤ns.length∧ns.length≤25∧∀h∈ns,0≤h∧h≤(ns.length:Int)-1
def qqh (K:Aa):Sp:=λvs H Q _=>∃(p:Aj) (ns:List Int),vs=[.ref p]∧SqL K H p (ns.map V.int)∧(xy ns→Q (.bl true) H)∧(¬ xy ns→Q (.bl false) H)
include T in
theorem qub (F:Fun K "is_line" "is_line" za7 f fd):FK P w K mg base 1 f fd ["heights"] (qqh K):=by
 have sc:=qu2
 refine F.okX sc (λvs H Q E h=>by obtain ⟨_,_,rfl,_⟩:=h;rfl) λ_ _ _ _ H vs Q E hr h=>?_
 obtain ⟨p,ns,rfl,hS,k1,k2⟩:=h
 have hlen:(ns.map V.int).length=ns.length:=aa _
 obtain ⟨tw,zac⟩:=T.zac
 refine ⟨_,(qj (w4 (i:=1) (wb zt (wp xk rfl T.len_ aI (q9 (pv 0) qk)) qr))
   (qj (xg (PW.pt (yp (wm yh (pv 1) qr (wt _)) (yd (wm uq (pv 1) (yk (v:=V.int 24) rfl zac ⟨_,rfl⟩) (wt _))))) (qh (w9 yn)) xx)
   (qh (w9 (qvp (y8 wq8 (wp (qxc rfl) rfl T.min_ dO (q9 (pv 0) qk)) qr (wt _)) (wqb (y8 op_le (wp (qxw rfl) rfl T.max_ dP (q9 (pv 0) qk)) (pv 1) (wt _)))))))),?_⟩
 refine exI rfl ⟨_,_,rfl,.inl hS,wg rfl rfl ?_⟩
 refine exI rfl (wg rfl rfl (exI rfl ?_))
 rw [hlen]
 refine vb (λq1=>?_) (λq1=>?_)
 ·refine ut ?_
  exact k2 (λz=>by have:=z.1;lia)
 ·refine exI rfl (wg rfl rfl (exI rfl ?_))
  refine vb (λq2=>?_) (λq2=>?_)
  ·exact k2 (λz=>by have:=z.2.1;lia)
  ·refine exI rfl ⟨p,ns,rfl,hS,⋯,λm hm hle=>(wg rfl rfl (exI rfl ?_))⟩
   refine vb (λq3=>?_) (λq3=>?_)
   ·refine exI rfl ⟨p,ns,rfl,hS,⋯,λm2 hm2 hle2=>(exI rfl (wg rfl rfl ?_))⟩
    show Q (.bl (decide (m2≤(ns.length:Int)-1))) H
    by_cases q4:m2≤(ns.length:Int)-1
    ·rw [aX q4]
     exact k1 ⟨⋯,⋯,λh hh=>by have:=hle h hh;have:=hle2 h hh;lia⟩
    ·rw [bn q4]
     exact k2 (λz=>q4 (z.2.2 m2 hm2).2)
   ·exact k2 (λz=>q3 (z.2.2 m hm).1)
def RoadAt (C:Aj)(H:Hp)(r:Aj)(ns:List Int):Prop:=∃dx q,H r=some (.ins C dx [("heights",.ref q)])∧H q=some (.lst (ns.map V.int))
variable {C r:Aj}{H H':Hp}
theorem RoadAt.same {ns:List Int}(h:RoadAt C H r ns)(s:Same H H'):RoadAt C H' r ns:=by
 obtain ⟨dx,q,h1,h2⟩:=h
 exact ⟨dx,q,s _ _ h1,s _ _ h2⟩
variable {q:Aj}
theorem yj:([("heights",V.ref q)]:List (Str×V)).lookup ("heights" : Str)=some (.ref q):=by
 rw [aF]
 simp
theorem vm {m:Str}(h:¬ m = "heights"):([("heights",V.ref q)]:List (Str×V)).lookup m=none:=by
 rw [aF]
 have:(m==("heights" : Str))=false:=aQ.mpr h
 rw [this]
 rfl
def qvx (K:Aa)(CB C:Aj):Sp:=λvs H Q E=>∃(r dx p:Aj) (ns:List Int),vs=[.ref r,.ref p]∧H r=some (.ins C dx [])∧SqL K H p (ns.map V.int) ∧
 (xy ns→∀H' q,H q=none→(∀b o,H b=some o→b≠r→H' b=some o)→H' r=some (.ins C dx [("heights",.ref q)])→H' q=some (.lst (ns.map V.int))→Q .non H')∧(¬ xy ns→E (.ref CB) none H)
include T in
theorem xqx (F:Fun K "__init__" "Road.__init__" za8 f fd)(zg7:Cal P w K mg base "is_line" 1 (qqh K)):FK P w K mg base 2 f fd ["self","heights"] (qvx K qp qc):=by
 have sc:=Z6
 refine F.okX sc (λvs H Q E h=>by obtain ⟨_,_,_,_,rfl,_⟩:=h;rfl) λ_ _ _ _ H vs Q E hr h=>?_
 obtain ⟨r,dx,p,ns,rfl,hr0,hS,k,x⟩:=h
 refine ⟨_,(qj (xg (ug (u6 (wCA zg7 (q9 (pv 1) qk)))) (qh (zm rfl T.zao x9 rfl T.zgv (xb xp qk))) xx)
   (qh (Qk (pv 0) (zu Zy rfl T.list_ bx (q9 (pv 1) qk)) rfl))),?_⟩
 refine ⟨_,rfl,p,ns,rfl,hS,λok=>(exI rfl ?_),λbad=>(exI rfl ?_)⟩
 ·refine yb ?_
  refine exI rfl ⟨_,_,rfl,.inl hS,λq nq=>?_⟩
  have hr1:upd H q (.lst (ns.map V.int)) r=some (.ins qc dx []):=by rw [wy (wz hr0 nq)];exact hr0
  refine exI rfl ⟨r,qc,dx,[],rfl,hr1,T.cl,T.na,(by show 0<1000;decide),?_⟩
  refine k ok _ q nq (λb o e n=>?_) qb ?_
  ·rw [wy n,wy (wz e nq)]
   exact e
  ·rw [wy (wz hr0 nq).symm,qb]
 ·refine ut ?_
  exact ⟨sz1,x bad⟩
def Wf (C:Aj):Sp:=λvs H Q _=>∃(r:Aj) (ns:List Int),vs=[.ref r]∧RoadAt C H r ns∧Q (.int ((ns.length:Int)-1)) H
include T in
theorem wyf (F:Fun K "width" "Road.width" za9 f fd):FK P w K mg base 1 f fd ["self"] (Wf qc):=by
 have sc:=qx6
 refine F.okX sc (λvs H Q E h=>by obtain ⟨_,_,rfl,_⟩:=h;rfl) λ_ _ _ _ H vs Q E hr h=>?_
 obtain ⟨r,ns,rfl,⟨dx,q,h1,h2⟩,k⟩:=h
 refine ⟨_,(qh (w9 (wb zt (wp xk rfl T.len_ aI (xj (zy (pv 0) rfl) qk)) qr))),?_⟩
 refine exI rfl ⟨r,qc,dx,_,_,rfl,h1,T.cl,T.na,yj,q,exI rfl ⟨.inl (SqL.of h2),wg rfl rfl ?_⟩⟩
 rw [aa]
 exact k
def Zg (C:Aj):Sp:=λvs H Q _=>∃(r:Aj) (ns:List Int),vs=[.ref r]∧RoadAt C H r ns∧∀p,H p=none→Q (.ref p) (upd H p (.lst (ns.map V.int)))
include T in
theorem qum (F:Fun K "corners" "Road.corners" zba f fd):FK P w K mg base 1 f fd ["self"] (Zg qc):=by
 have sc:=Yn
 refine F.okX sc (λvs H Q E h=>by obtain ⟨_,_,rfl,_⟩:=h;rfl) λ_ _ _ _ H vs Q E hr h=>?_
 obtain ⟨r,ns,rfl,⟨dx,q,h1,h2⟩,k⟩:=h
 refine ⟨_,(qh (w9 (zu Zy rfl T.list_ bx (xj (zy (pv 0) rfl) qk)))),?_⟩
 exact exI rfl ⟨r,qc,dx,_,_,rfl,h1,T.cl,T.na,yj,q,exI rfl ⟨.inl (SqL.of h2),λp np=>k p np⟩⟩
def InW (ns:List Int)(wd:Int):Prop:=(ns.length:Int)=wd+1∧∀h∈ns,0≤h∧h≤wd
def Jj (K:Aa):Sp:=λvs H Q _=>∃(a:Aj) (ns:List Int) (i wd:Int),vs=[.ref a,.int i,.int wd]∧SqL K H a (ns.map V.int)∧0≤i∧1≤wd∧wd≤24 ∧
 ∀p hs,H p=none→InW hs wd→Q (.ref p) (upd H p (.lst (hs.map V.int)))
include T in
theorem wkd (F:Fun K "_law_climb" "_law_climb" zb8 f fd)(zaa:Cal P w K mg base "_law_pick" 2 (um K)):FK P w K mg base 3 f fd ["_law_script","_law_at","_law_wide"] (Jj K):=by
 have sc:=qxh
 refine F.okX sc (λvs H Q E h=>by obtain ⟨_,_,_,_,rfl,_⟩:=h;rfl) λ_ _ _ _ H vs Q E hr h=>?_
 obtain ⟨a,ns,i,wd,rfl,hS,h0,w1,w2,k⟩:=h
 refine ⟨_,(qj (w4 (i:=3) (j8 (vc (wCA zaa (q9 (pv 0) (q9 (pv 1) (xb qr (zx (wb xz (pv 2) qr) qk))))) qk)))
   (qj (vf aE rfl (zh rfl T.range_ (q9 (pv 2) qk)) (xq (i:=4)) (qh (zb (u7 bA bL bM j0 (pv 3) (vc (wp (qvq rfl) rfl T.max_ dP (xb qr (vc (wp (qz2 rfl) rfl T.min_ dO (q9 (pv 2) (zx (wb zt (wb xz (zd x4 (pv 3) (pe_un un_neg qr) (λ_ _=>rfl)) (wb xt qr (wCA zaa (q9 (pv 0) (q9 (pv 1) (zx (wb xz qr (pv 4)) (xb qr qk))))))) qr) qk))) qk))) qk)))))
   (qh (w9 (pv 3))))),?_⟩
 refine exI rfl (exI rfl (exI rfl (wg rfl rfl ⟨a,ns,_,_,_,rfl,hS,h0,⋯,⋯,⋯,λr1 _ l1 u1=>⟨sz1,λp np=>?_⟩⟩)))
 refine ⟨_,rfl,wd,rfl,⋯,⋯,kf (λj σ H1=>∃(ys:List Int) (l:Int) (z:Option V),ys.length=j∧(∀h∈ys++[l],0≤h∧h≤wd)∧H1=upd H p (.lst ((ys++[l]).map V.int))∧σ=[some (.ref a),some (.int i),some (.int wd),some (.ref p),z])
  ⟨[],r1,none,rfl,(λh hh=>by have e:=ay.mp hh;subst e;lia),rfl,rfl⟩ ?_ ?_⟩
 ·rintro j σ H1 hj ⟨ys,l,z,hy,hb,rfl,rfl⟩
  have hp:upd H p (.lst ((ys++[l]).map V.int)) p=some (.lst ((ys++[l]).map V.int)):=qb
  have hS1:SqL K (upd H p (.lst ((ys++[l]).map V.int))) a (ns.map V.int):=Same.sql (Same.upd np) hS
  have hlast:atI ((ys++[l]).map V.int) (-1)=some (V.int l):=by
   rw [aO]
   exact wjm _ _
  have hl:=hb l (by simp)
  refine exI rfl ⟨.inl ⟨rfl,_,SqL.of hp⟩,exI rfl (exI rfl (exI rfl (exX rfl rfl (SqL.of hp) hlast (exI rfl (exI rfl (exI rfl (wg rfl rfl ⟨a,ns,_,_,_,rfl,hS1,h0,⋯,⋯,⋯,λr2 _ l2 u2=>?_⟩)))))))⟩
  refine wg rfl rfl ⟨(by walk_at "mul"),wg rfl rfl (wg rfl rfl ⟨_,_,rfl,_,_,rfl,_,_,_,rfl,rfl,hp,?_,?_⟩)⟩
  ·rw [aa,aL,hy]
   have:(1000000:Nat)<sizeLine:=by decide
   simp only [au,bQ]
   lia
  ·refine ⟨ys++[l],(if (if l+2*r2-1<wd then l+2*r2-1 else wd)>0 then (if l+2*r2-1<wd then l+2*r2-1 else wd) else 0),_,by rw [aL,hy];rfl,λh hh=>?_,?_,rfl⟩
   ·rcases bq.mp hh with hh|hh
    ·exact hb h hh
    ·have e:=ay.mp hh
     subst e
     by_cases g1:l+2*r2-1<wd
     ·rw [ak g1]
      by_cases g2:l+2*r2-1>0
      ·rw [ak g2];lia
      ·rw [af g2];lia
     ·rw [af g1,ak (show wd>0 by lia)];lia
   ·rw [Q0,aO (l₁:=ys++[l])]
    rfl
 ·rintro σ H1 ⟨ys,l,z,hy,hb,rfl,rfl⟩
  refine exI rfl (k p _ np ⟨?_,hb⟩)
  rw [aL,hy]
  simp only [au,bQ]
  lia
def Yw (K:Aa):Sp:=λvs H Q _=>∃(a:Aj) (ns:List Int) (i m:Int),vs=[.ref a,.int i,.int m]∧SqL K H a (ns.map V.int)∧0≤i∧1≤m∧m≤24 ∧
 ∀p hs wd,H p=none→1≤wd→wd≤m→InW hs wd→Q (.ref p) (upd H p (.lst (hs.map V.int)))
variable {wd:Int}
theorem wz6 {n:Nat}(g:Nat→Int)(h1:(n:Int)=wd+1)(h2:∀i,i<n→0≤g i∧g i≤wd):InW ((List.range n).map g) wd:=by
 refine ⟨by rw [aa,aN];exact h1,λh hh=>?_⟩
 obtain ⟨i,hi,rfl⟩:=aq.mp hh
 exact h2 i (aS.mp hi)
theorem qxf (n:Nat)(g:Nat→Int):(List.range n).map (λi=>V.int (g i))=((List.range n).map g).map V.int:=by
 rw [aZ]
 rfl
include T in
theorem wqm (F:Fun K "_law_heights" "_law_heights" zb9 f fd)(zaa:Cal P w K mg base "_law_pick" 2 (um K))(zg8:Cal P w K mg base "_law_climb" 3 (Jj K)) :
  FK P w K mg base 4 f fd ["_law_script","_law_at","_law_most"] (Yw K):=by
 have sc:=Y3
 refine F.okX sc (λvs H Q E h=>by obtain ⟨_,_,_,_,rfl,_⟩:=h;rfl) λ_ _ _ _ H vs Q E hr h=>?_
 obtain ⟨a,ns,i,m,rfl,hS,h0,m1,m2,k⟩:=h
 refine ⟨_,(qj (w4 (i:=3) (wb xz qr (wCA zaa (q9 (pv 0) (q9 (pv 1) (xb qr (q9 (pv 2) qk)))))))
   (qj (w4 (i:=4) (wCA zaa (q9 (pv 0) (q9 (pv 1) (xb qr (xb qr qk))))))
   (qj (xg (wm vg (pv 4) qr (wt _)) (qh (w9 (jz (M:=[3]) rfl rfl (by walk_at "cap") (by walk_at "has") (by walk_at "cix") rfl (by decide +kernel) rfl (show List.Nodup (["_law_k","_law_wide"]:List Str) by decide +kernel) (zh rfl T.range_ (zx (wb xz (pv 3) qr) qk)) (λ_ _ _ _ _=>(wb xt (pv 1) (wb kj (pv 0) qr)))))) xx)
   (qj (xg (wm vg (pv 4) qr (wt _)) (qh (w9 (jz (M:=[]) rfl rfl (by walk_at "cap") (by walk_at "has") (by walk_at "cix") rfl (by decide +kernel) rfl (show List.Nodup (["_law_k"]:List Str) by decide +kernel) (zh rfl T.range_ (zx (wb xz (pv 3) qr) qk)) (λ_ _ _ _ _=>(pv 0))))) xx)
   (qj (xg (wm vg (pv 4) qr (wt _)) (qh (w9 (jz (M:=[3]) rfl rfl (by walk_at "cap") (by walk_at "has") (by walk_at "cix") rfl (by decide +kernel) rfl (show List.Nodup (["_law_k","_law_wide"]:List Str) by decide +kernel) (zh rfl T.range_ (zx (wb xz (pv 3) qr) qk)) (λ_ _ _ _ _=>(wb zt (pv 1) (pv 0)))))) xx)
   (qj (xg (wm vg (pv 4) qr (wt _)) (qh (w9 (jz (M:=[3]) rfl rfl (by walk_at "cap") (by walk_at "has") (by walk_at "cix") rfl (by decide +kernel) rfl (show List.Nodup (["_law_k","_law_wide"]:List Str) by decide +kernel) (zh rfl T.range_ (zx (wb xz (pv 3) qr) qk)) (λ_ _ _ _ _=>(wb kj (wb xz (wb xt qr (pv 0)) qr) (wb xz (pv 1) qr)))))) xx)
   (qj (xg (PW.pt (yp (wm vg (pv 4) qr (wt _)) (yd (wm vg (pv 4) qr (wt _))))) (qh (w9 (wCA zg8 (q9 (pv 0) (q9 (pv 1) (q9 (pv 3) qk)))))) xx)
   (qh (w9 (jz (M:=[0,1,3]) rfl rfl (by walk_at "cap") (by walk_at "has") (by walk_at "cix") rfl (by decide +kernel) rfl (show List.Nodup (["_law_k","_law_script","_law_at","_law_wide"]:List Str) by decide +kernel) (zh rfl T.range_ (zx (wb xz (pv 3) qr) qk)) (λ_ _ _ _ _=>(wc zaa (hr.mono ⋯) rfl qkf (q9 (pv 1) (q9 (pv 2) (zx (wb xz qr (pv 0)) (zx (wb xz (pv 3) qr) qk)))))))))))))))),?_⟩
 refine exI rfl (exI rfl (exI rfl ⟨a,ns,_,_,_,rfl,hS,h0,⋯,⋯,⋯,λr1 _ l1 u1=>?_⟩))
 refine wg rfl rfl (exI rfl (exI rfl ⟨a,ns,_,_,_,rfl,hS,h0,⋯,⋯,⋯,λkd _ l2 u2=>?_⟩))
 have hn:((1+r1+1).toNat:Int)=1+r1+1:=by lia
 have hn2:(1+r1+1).toNat≤1000000:=by lia
 have fin:∀(g:Nat→Int) (p:Aj),(∀j,j<(1+r1+1).toNat→0≤g j∧g j≤1+r1)→H p=none→Q (.ref p) (upd H p (.lst ((List.range (1+r1+1).toNat).map λj=>V.int (g j)))):=λg p hg np=>by
  rw [qxf]
  exact k p _ (1+r1) np ⋯ ⋯ (wz6 g hn hg)
 refine exI rfl ⟨rfl,_,rfl,jc (λq1=>?_) (λq1=>?_)⟩
 ·refine exI rfl (wg rfl rfl ⟨1+r1+1,rfl,⋯,⋯,ym (λj=>V.int ((1+r1)*(((0:Int)+j)%2))) hn2 (λj H' R hj hs hR=>?_) λp np=>fin _ p (λj hj=>?_) np⟩)
  ·exact exI rfl (exI rfl (wg rfl rfl ⟨(by walk_at "pos"),wg rfl rfl ⟨(by walk_at "mul"),hR⟩⟩))
  ·have a1:=bh ((0:Int)+j) (show (2:Int)≠0 by decide)
   have a2:=bj ((0:Int)+j) (show (0:Int)<2 by decide)
   rcases (by lia:((0:Int)+j)%2=0∨((0:Int)+j)%2=1) with e|e <;> rw [e] <;> lia
 ·refine exI rfl ⟨rfl,_,rfl,jc (λq2=>?_) (λq2=>?_)⟩
  ·refine exI rfl (wg rfl rfl ⟨1+r1+1,rfl,⋯,⋯,ym (λj=>V.int ((0:Int)+j)) hn2 (λj H' R hj hs hR=>?_) λp np=>fin _ p (λj hj=>by lia) np⟩)
   exact exI rfl hR
  ·refine exI rfl ⟨rfl,_,rfl,jc (λq3=>?_) (λq3=>?_)⟩
   ·refine exI rfl (wg rfl rfl ⟨1+r1+1,rfl,⋯,⋯,ym (λj=>V.int (1+r1-((0:Int)+j))) hn2 (λj H' R hj hs hR=>?_) λp np=>fin _ p (λj hj=>by lia) np⟩)
    exact exI rfl (exI rfl (wg rfl rfl hR))
   ·refine exI rfl ⟨rfl,_,rfl,jc (λq4=>?_) (λq4=>?_)⟩
    ·refine exI rfl (wg rfl rfl ⟨1+r1+1,rfl,⋯,⋯,ym (λj=>V.int ((2*((0:Int)+j)+1)%(1+r1+1))) hn2 (λj H' R hj hs hR=>?_) λp np=>fin _ p (λj hj=>?_) np⟩)
     ·exact exI rfl (wg rfl rfl ⟨(by walk_at "mul"),wg rfl rfl (exI rfl (wg rfl rfl (wg rfl rfl ⟨(by walk_at "pos"),hR⟩)))⟩)
     ·have a1:=bh (2*((0:Int)+j)+1) (show 1+r1+1≠0 by lia)
      have a2:=bj (2*((0:Int)+j)+1) (show 0<1+r1+1 by lia)
      lia
    ·have last:tRet (tComp [0,1,3] (iRng1 (k8 (tOp (rI0 λi j=>.int (i+j)) (W0 3) (tC (.int 1))) Q5)) (qwh (um K) (λ_=>E0) (k8 (W0 1) (k8 (W0 2) (k8 (tOp (rI0 λi j=>.int (i+j)) (tC (.int 3)) (W0 0)) (k8 (tOp (rI0 λi j=>.int (i+j)) (W0 3) (tC (.int 1))) Q5))))))
       { nx:=λ_ H'=>Q .non H',rt:=Q } [some (.ref a),some (.int i),some (.int m),some (.int (1+r1)),some (.int kd)] H:=by
      refine exI rfl (wg rfl rfl ⟨1+r1+1,rfl,⋯,⋯,ym (λj=>V.int (qyw ns i (3+((0:Int)+j)) (1+r1+1))) hn2 (λj H' R hj hs hR=>?_) λp np=>fin _ p (λj hj=>?_) np⟩)
      ·refine exI rfl (exI rfl (exI rfl (wg rfl rfl (exI rfl (wg rfl rfl ⟨a,ns,_,_,_,rfl,Same.sql hs hS,h0,⋯,⋯,⋯,λr e _ _=>?_⟩)))))
       rw [e]
       exact hR
      ·have a1:=wky ns i (3+((0:Int)+j)) (1+r1+1) ⋯
       have a2:=wj5 ns i (3+((0:Int)+j)) (1+r1+1) ⋯
       lia
     have climb:tRet (qwh (Jj K) (λ_=>E) (k8 (W0 0) (k8 (W0 1) (k8 (W0 3) Q5)))) { nx:=λ_ H'=>Q .non H',rt:=Q } [some (.ref a),some (.int i),some (.int m),some (.int (1+r1)),some (.int kd)] H :=
      (exI rfl (exI rfl (exI rfl ⟨a,ns,i,1+r1,rfl,hS,h0,⋯,⋯,λp hs np hw=>k p hs (1+r1) np ⋯ ⋯ hw⟩)))
     refine exI rfl ⟨rfl,_,rfl,jc (λq5=>ut climb) (λq5=>?_)⟩
     exact exI rfl ⟨rfl,_,rfl,jc (λq6=>climb) (λq6=>last)⟩
def qzc:Sp:=λvs H Q _=>∃x y:Int,vs=[.int x,.int y]∧0≤x∧0≤y∧Q (.int (Ym x y)) H
theorem qy1 {tb:TS}{c:TT}{D:Ends}{x y:Int}(hx:0≤x)(hy:0≤y)(hc:c=tTest (tOp (rI0 λi j=>.bl (decide (j<i))) (W0 1) (tC (.int 0))))(hb:tb=tPar 0 1 (k8 (W0 1) (k8 (tOp (rI (λ_ j=>0<j) λi j=>.int (i%j)) (W0 0) (W0 1)) Q5)))
  (hD:D.nx [some (.int (Ym x y)),some (.int 0)] H):wqt c tb D [some (.int x),some (.int y)] H:=by
 subst hc hb
 refine Zf (λσ H1=>H1=H∧∃u v:Int,σ=[some (.int u),some (.int v)]∧0≤u∧0≤v∧Ym u v=Ym x y) (λσ _=>match σ with|[_,some (.int v)]=>v.toNat|_=>0) ⟨rfl,x,y,rfl,hx,hy,rfl⟩ ?_ λσ H Q Q' h ⟨v,e,i,j,e1,e2,k,e3,q⟩=>⟨v,e,i,j,e1,e2,k,e3,h _ _ q⟩
 rintro σ H1 ⟨rfl,u,v,rfl,hu,hv,e⟩
 refine exI rfl (wg rfl rfl (exI rfl ?_))
 refine vb (λq=>?_) (λq=>?_)
 ·have h1:=bh u (show v≠0 by lia)
  have h2:=bj u q
  refine exI rfl (exI rfl (exI rfl (wg rfl rfl ⟨q,_,_,rfl,⟨rfl,v,u%v,rfl,hv,h1,?_⟩,?_⟩)))
  ·rw [wzk hu q,e]
  ·show (u%v).toNat<v.toNat
   lia
 ·have z:v=0:=by lia
  subst z
  rw [wzq hu] at e
  subst e
  exact hD
include T in
theorem zg9 (F:Fun K "common_divisor" "common_divisor" za2 f fd):FK P w K mg base 1 f fd ["one","other"] qzc:=by
 have sc:=W2
 refine F.okX sc (λvs H Q E h=>by obtain ⟨_,_,rfl,_⟩:=h;rfl) λ_ _ _ _ H vs Q E hr h=>?_
 obtain ⟨x,y,rfl,hx,hy,k⟩:=h
 refine ⟨_,(qj (u9 aE (wm uq (pv 1) qr (wt _)) (qh (wjk (i:=0) (j:=1) rfl sc.nd rfl rfl ⋯ rfl rfl (q9 (pv 1) (zx (wb kj (pv 0) (pv 1)) qk)) rfl)))
   (qh (w9 (pv 0)))),?_⟩
 exact qy1 hx hy rfl rfl (exI rfl k)
include T in
theorem wz7 (F:Fun K "_law_common" "_law_common" zcb f fd):FK P w K mg base 1 f fd ["_law_one","_law_other"] qzc:=by
 have sc:=qqs
 refine F.okX sc (λvs H Q E h=>by obtain ⟨_,_,rfl,_⟩:=h;rfl) λ_ _ _ _ H vs Q E hr h=>?_
 obtain ⟨x,y,rfl,hx,hy,k⟩:=h
 refine ⟨_,(qj (u9 aE (wm uq (pv 1) qr (wt _)) (qh (wjk (i:=0) (j:=1) rfl sc.nd rfl rfl ⋯ rfl rfl (q9 (pv 1) (zx (wb kj (pv 0) (pv 1)) qk)) rfl)))
   (qh (w9 (pv 0)))),?_⟩
 exact qy1 hx hy rfl rfl (exI rfl k)
def ptV (p:Int×Int):List V:=[.int p.1,.int p.2]
def ux (C:Aj):Sp:=λvs H Q E=>∃t b:Int,vs=[.int t,.int b]∧(1≤b→Sm 9000 b∧∀p,H p=none→Q (.ref p) (upd H p (.tup (ptV (wn t b)))))∧(b<1→E (.ref C) none H)
include T in
theorem wxc (F:Fun K "lowest" "lowest" za3 f fd)(zha:Cal P w K mg base "check_bottom" 1 (qvu qz))(zhb:Cal P w K mg base "common_divisor" 1 qzc) :
  FK P w K mg base 2 f fd ["top","bottom"] (ux qz):=by
 have sc:=wzj
 refine F.okX sc (λvs H Q E h=>by obtain ⟨_,_,rfl,_⟩:=h;rfl) λ_ _ _ _ H vs Q E hr h=>?_
 obtain ⟨t,b,rfl,k,x⟩:=h
 refine ⟨_,(qj (zb (wCA zha (q9 (pv 1) qk)))
   (qj (w4 (i:=2) (wCA zhb (vc (wp Wr rfl T.abs_ Zx (q9 (pv 0) qk)) (q9 (pv 1) qk))))
   (qh (w9 (vw (zx (wb ju (pv 0) (pv 2)) (zx (wb ju (pv 1) (pv 2)) qk))))))),?_⟩
 refine ⟨_,rfl,b,rfl,λg1=>?_,λg1=>x g1⟩
 obtain ⟨sb,k⟩:=k g1
 have hg:=yy (t:=t) g1
 have hs:Sm 9000 (gOf t b):=sb.of_le (by have:=wvf (t:=t) g1;lia)
 refine exI rfl (exI rfl (exI rfl ⟨u8 t,b,rfl,wwf t,⋯,?_⟩))
 refine exI rfl ⟨V.int (gOf t b),rfl,wg rfl rfl ⟨⟨⋯,hs⟩,exI rfl ⟨V.int (gOf t b),rfl,wg rfl rfl ⟨⟨⋯,hs⟩,sz2,λp n=>?_⟩⟩⟩⟩
 exact k p n
def wwz:Sp:=λvs H Q _=>∃t b:Int,vs=[.int t,.int b]∧1≤b∧Sm 9000 b∧∀p,H p=none→Q (.ref p) (upd H p (.tup (ptV (wn t b))))
include T in
theorem zhc (F:Fun K "_law_low" "_law_low" zcc f fd)(zhd:Cal P w K mg base "_law_common" 1 qzc):FK P w K mg base 2 f fd ["_law_top","_law_bottom"] wwz:=by
 have sc:=quj
 refine F.okX sc (λvs H Q E h=>by obtain ⟨_,_,rfl,_⟩:=h;rfl) λ_ _ _ _ H vs Q E hr h=>?_
 obtain ⟨t,b,rfl,g1,sb,k⟩:=h
 have hg:=yy (t:=t) g1
 have hs:Sm 9000 (gOf t b):=sb.of_le (by have:=wvf (t:=t) g1;lia)
 refine ⟨_,(qj (w4 (i:=2) (wCA zhd (vc (wp Wr rfl T.abs_ Zx (q9 (pv 0) qk)) (q9 (pv 1) qk))))
   (qh (w9 (vw (zx (wb ju (pv 0) (pv 2)) (zx (wb ju (pv 1) (pv 2)) qk)))))),?_⟩
 refine exI rfl (exI rfl (exI rfl ⟨u8 t,b,rfl,wwf t,⋯,?_⟩))
 refine exI rfl ⟨V.int (gOf t b),rfl,wg rfl rfl ⟨⟨⋯,hs⟩,exI rfl ⟨V.int (gOf t b),rfl,wg rfl rfl ⟨⟨⋯,hs⟩,sz2,λp n=>?_⟩⟩⟩⟩
 exact k p n
variable {hs:List Int}
theorem at_h {k:Int}(h0:0≤k)(h1:k<hs.length):atI (hs.map V.int) k=some (V.int (hAt hs k)):=Jz h0 h1
theorem wq5 (ok:xy hs)(k:Int):0≤hAt hs k∧hAt hs k≤24:=by
 unfold hAt
 rw [aM]
 cases e:hs[k.toNat]? with
 |none=>exact ⟨⋯,⋯⟩
 |some v =>
  have hm:=ok.2.2 v (ba e)
  have:=ok.2.1
  show 0≤v∧v≤24
  lia
def wqp (C CR:Aj):Sp:=λvs H Q E=>∃(r:Aj) (hs:List Int) (k:Int),vs=[.ref r,.int k]∧RoadAt C H r hs∧(0≤k→k<(hs.length:Int)-1→∀p,H p=none→Q (.ref p) (upd H p (.tup [.int (hAt hs k),.int (hAt hs (k+1))]))) ∧
 (k<0∨(hs.length:Int)-1≤k→E (.ref CR) none H)
include T in
theorem xqp (F:Fun K "ends" "Road.ends" zbb f fd)(zax:MCal P w K mg base qc "width" 1 (Wf qc)):FK P w K mg base 2 f fd ["self","stretch"] (wqp qc wv):=by
 have sc:=qkm
 refine F.okX sc (λvs H Q E h=>by obtain ⟨_,_,_,rfl,_⟩:=h;rfl) λ_ _ _ _ H vs Q E hr h=>?_
 obtain ⟨r,hs,k,rfl,hR,kq,x⟩:=h
 obtain ⟨dx,q,h1,h2⟩:=id hR
 refine ⟨_,(qj (xg (PW.pt (yp (wm yh (pv 1) qr (wt _)) (yd (wm wq8 (pv 1) (zn (pv 0) T.cl zax (hr.mono ⋯) qf) (wt _))))) (qh (zm rfl T.zas x9 rfl T.zgz (xb xp qk))) xx)
   (qh (w9 (vw (k4 (zd x4 (zy (pv 0) rfl) (pv 1) (λ_ _=>rfl)) (k4 (zd x4 (zy (pv 0) rfl) (wb xz (pv 1) qr) (λ_ _=>rfl)) qk)))))),?_⟩
 refine exI rfl (wg rfl rfl (exI rfl ?_))
 refine vb (λq1=>?_) (λq1=>?_)
 ·refine ut ?_
  exact ⟨sz1,x (.inl q1)⟩
 ·refine exI rfl (exI rfl ⟨r,dx,exI rfl ⟨h1,vm (by decide +kernel),r,hs,rfl,hR,wg rfl rfl (exI rfl ?_)⟩⟩)
  refine vb (λq2=>?_) (λq2=>?_)
  ·exact ⟨sz1,x (.inr q2)⟩
  ·refine exI rfl ⟨r,qc,dx,_,_,rfl,h1,T.cl,T.na,yj,exI rfl (exX rfl rfl (SqL.of h2) (at_h ⋯ ⋯) (exI rfl ⟨r,qc,dx,_,_,rfl,h1,T.cl,T.na,yj,exI rfl (wg rfl rfl (exX rfl rfl (SqL.of h2) (at_h ⋯ ⋯) ⟨sz2,λp np=>?_⟩))⟩))⟩
   exact kq ⋯ ⋯ p np
def vt (hs:List Int)(t b:Int):Prop:=0≤t∧t≤((hs.length:Int)-1)*b
def Zc (K:Aa)(C CB CO:Aj):Sp:=λvs H Q E=>∃(r p:Aj) (hs:List Int) (t b:Int),vs=[.ref r,.ref p]∧RoadAt C H r hs∧xy hs∧SqT K H p [.int t,.int b] ∧
 (1≤b→Sm 8000 b∧(vt hs t b→∀q H',Same H H'→H' q=some (.tup (ptV (wn t b)))→Q (.ref q) H')∧(¬ vt hs t b→∀H',Same H H'→E (.ref CO) none H'))∧(b<1→E (.ref CB) none H)
include T in
theorem qu6 (F:Fun K "on_road" "Road.on_road" zbc f fd)(zax:MCal P w K mg base qc "width" 1 (Wf qc))(zak:Cal P w K mg base "lowest" 2 (ux qz)) :
  FK P w K mg base 3 f fd ["self","point"] (Zc K qc qz qm):=by
 have sc:=Yt
 refine F.okX sc (λvs H Q E h=>by obtain ⟨_,_,_,_,_,rfl,_⟩:=h;rfl) λ_ _ _ _ H vs Q E hr h=>?_
 obtain ⟨r,p,hs,t,b,rfl,hR,hok,hp,kq,x⟩:=h
 obtain ⟨dx,q,h1,h2⟩:=id hR
 refine ⟨_,(qj (js (wCA zak (k4 (zd ur (pv 1) qr (λ_ _=>rfl)) (k4 (zd ur (pv 1) qr (λ_ _=>rfl)) qk))) (k9 rfl (xv (xq (i:=2)) (xv (xq (i:=3)) zr))))
   (qj (xg (PW.pt (yp (wm yh (pv 2) qr (wt _)) (yd (wm uq (pv 2) (wb xt (zn (pv 0) T.cl zax (hr.mono ⋯) qf) (pv 3)) (wt _))))) (qh (zm rfl T.zap x9 rfl T.zgw (xb xp qk))) xx)
   (qh (w9 (vw (q9 (pv 2) (q9 (pv 3) qk))))))),?_⟩
 refine ⟨_,rfl,_,_,_,_,rfl,rfl,hp,rfl,_,rfl,_,_,_,_,rfl,rfl,hp,rfl,t,b,rfl,λhb=>⟨(kq hb).1.mono ⋯,λp1 n1=>?_⟩,λz=>x z⟩
 obtain ⟨sb,k1,k2⟩:=kq hb
 have s1:Same H (upd H p1 (.tup (ptV (wn t b)))):=Same.upd n1
 have hl:=hok.2.1
 refine ⟨p1,exI rfl ⟨SqT.new,rfl,_,_,rfl,_,_,rfl,rfl,?_⟩⟩
 refine exI rfl (wg rfl rfl (exI rfl ?_))
 refine vb (λq1=>?_) (λq1=>?_)
 ·refine ut ?_
  exact ⟨sz1,k2 (λz=>by have:=(Jw hb).mp q1;have:=z.1;lia) _ s1⟩
 ·refine exI rfl (exI rfl ⟨r,dx,exI rfl ⟨s1 _ _ h1,vm (by decide +kernel),r,hs,rfl,hR.same s1,exI rfl (wg rfl rfl ⟨IntMulOk.of_left (intBits_le_64 ⋯ ⋯),wg rfl rfl (exI rfl ?_)⟩)⟩⟩)
  refine vb (λq2=>?_) (λq2=>?_)
  ·exact ⟨sz1,k2 (λz=>by have:=(qus hb).mp q2;have:=z.2;lia) _ s1⟩
  ·refine exI rfl (exI rfl ⟨sz2,λp2 n2=>?_⟩)
   refine k1 ⟨?_,?_⟩ p2 _ (s1.trans (Same.upd n2)) qb
   ·rcases cA t 0 with z|z
    ·exact absurd ((Jw hb).mpr z) q1
    ·exact z
   ·rcases cA (((hs.length:Int)-1)*b) t with z|z
    ·exact absurd ((qus hb).mpr z) q2
    ·exact z
def spAt (K:Aa)(C CB CO:Aj):Sp:=λvs H Q E=>∃(r p:Aj) (hs:List Int) (t b:Int),vs=[.ref r,.ref p]∧RoadAt C H r hs∧xy hs∧SqT K H p [.int t,.int b] ∧
 (1≤b→Sm 8000 b∧(vt hs t b→∀q H',Same H H'→H' q=some (.tup (ptV (Qu hs t b)))→Q (.ref q) H')∧(¬ vt hs t b→∀H',Same H H'→E (.ref CO) none H'))∧(b<1→E (.ref CB) none H)
include T in
theorem zhe (F:Fun K "at" "Road.at" zbd f fd)(zax:MCal P w K mg base qc "width" 1 (Wf qc))(zak:Cal P w K mg base "lowest" 2 (ux qz))(zhf:MCal P w K mg base qc "ends" 2 (wqp qc wv))
  (zcs:MCal P w K mg base qc "on_road" 3 (Zc K qc qz qm)):FK P w K mg base 4 f fd ["self","point"] (spAt K qc qz qm):=by
 have sc:=quf
 refine F.okX sc (λvs H Q E h=>by obtain ⟨_,_,_,_,_,rfl,_⟩:=h;rfl) λ_ _ _ _ H vs Q E hr h=>?_
 obtain ⟨r,p,hs,t,b,rfl,hR,hok,hp,kq,x⟩:=h
 obtain ⟨dx,q,h1,h2⟩:=id hR
 refine ⟨_,(qj (js (xm (pv 0) T.cl zcs (hr.mono ⋯) qf (q9 (pv 1) qk)) (k9 rfl (xv (xq (i:=2)) (xv (xq (i:=3)) zr))))
   (qj (w4 (i:=4) (wp (qz2 rfl) rfl T.min_ dO (zx (wb ju (pv 2) (pv 3)) (zx (wb zt (zn (pv 0) T.cl zax (hr.mono ⋯) qf) qr) qk))))
   (qj (js (xm (pv 0) T.cl zhf (hr.mono ⋯) qf (q9 (pv 4) qk)) (k9 rfl (xv (xq (i:=5)) (xv (xq (i:=6)) zr))))
   (qj (w4 (i:=7) (wb zt (pv 2) (wb xt (pv 4) (pv 3))))
   (qh (w9 (wCA zak (zx (wb xz (wb xt (pv 5) (pv 3)) (wb xt (wb zt (pv 6) (pv 5)) (pv 7))) (q9 (pv 3) qk))))))))),?_⟩
 refine ⟨_,rfl,r,dx,_,rfl,h1,vm (by decide +kernel),_,rfl,r,p,hs,t,b,rfl,hR,hok,hp,λhb=>⟨(kq hb).1,λhon p1 H1 s1 f1=>?_,λhoff H1 s1=>(kq hb).2.2 hoff H1 s1⟩,λz=>x z⟩
 obtain ⟨sb,k1,k2⟩:=kq hb
 have hl1:=hok.1
 have hl2:=hok.2.1
 have hy:=Qt (t:=t) hb
 have hyb:=wj1 (t:=t) hb
 have hx:0≤(wn t b).1:=by
  rcases cA (wn t b).1 0 with z|z
  ·have:=(Jw hb).mp z
   have:=hon.1
   lia
  ·exact z
 have hk:=wkf (hs:=hs) hl1 hy hx
 have sy:Sm 9000 (wn t b).2:=(sb.of_le ⋯).mono ⋯
 refine ⟨p1,exI rfl ⟨SqT.of f1,rfl,_,_,rfl,_,_,rfl,rfl,?_⟩⟩
 refine exI rfl (exI rfl (wg rfl rfl ⟨⟨⋯,sy⟩,exI rfl ⟨r,dx,exI rfl ⟨s1 _ _ h1,vm (by decide +kernel),r,hs,rfl,hR.same s1,wg rfl rfl ⟨_,_,rfl,?_⟩⟩⟩⟩))
 refine ⟨_,rfl,r,dx,_,rfl,s1 _ _ h1,vm (by decide +kernel),V.int (kF hs (wn t b).1 (wn t b).2),rfl,r,hs,kF hs (wn t b).1 (wn t b).2,rfl,hR.same s1,λ_ _ p2 n2=>?_,λz=>absurd z ⋯⟩
 have g1:=wq5 hok (kF hs (wn t b).1 (wn t b).2)
 have g2:=wq5 hok (kF hs (wn t b).1 (wn t b).2+1)
 refine ⟨p2,exI rfl ⟨SqT.new,rfl,_,_,rfl,_,_,rfl,rfl,?_⟩⟩
 refine exI rfl ⟨V.int (kF hs (wn t b).1 (wn t b).2),rfl,exI rfl (wg rfl rfl ⟨IntMulOk.of_left (intBits_le_64 ⋯ ⋯),wg rfl rfl ?_⟩)⟩
 refine exI rfl (exI rfl (wg rfl rfl ⟨IntMulOk.of_left (intBits_le_64 ⋯ ⋯),exI rfl (exI rfl (wg rfl rfl (exI rfl (wg rfl rfl ⟨IntMulOk.of_left (intBits_le_64 ⋯ ⋯),wg rfl rfl (exI rfl ?_)⟩))))⟩))
 refine ⟨j6 hs (wn t b).1 (wn t b).2,(wn t b).2,rfl,λ_=>⟨sy,λp3 n3=>?_⟩,λz=>absurd z ⋯⟩
 have e:wn (j6 hs (wn t b).1 (wn t b).2) (wn t b).2=Qu hs t b:=qzg hb
 rw [e]
 exact k1 hon p3 _ (s1.trans ((Same.upd n2).trans (Same.upd n3))) qb
variable {dx:Aj}
theorem wxn {x:Aj}(nx:H x=none)(nd:H dx=none)(h:∀b o,upd (upd H dx (.own x)) x (.ins C dx []) b=some o→b≠x→H' b=some o):Same H H':=λb o e =>
 h b o (by rw [wy (wz e nx),wy (wz e nd)];exact e) (wz e nx)
variable {p:Aj}
theorem Same.upd2 {o:HO}(s:Same H H')(n:H p=none):Same H (L2.upd H' p o):=λb u e=>by
 rw [wy (wz e n)]
 exact s b u e
theorem wyu {q:Int×Int}(h:SqT K H p [.int q.1,.int q.2]):RD K H (ptD q) (.ref p):=by
 unfold ptD
 rw [RD]
 exact ⟨p,exI rfl ⟨h,by rw [RDs];exact ⟨_,_,rfl,by rw [RD],by rw [RDs];exact ⟨_,_,rfl,by rw [RD],by rw [RDs]⟩⟩⟩⟩
theorem dep_pt {p q:Int×Int}:min (ptD p).depth (ptD q).depth≤60:=by simp [ptD,PyData.depth,PyData.depthAll]
theorem quw {x y b d:Int}(hb:1≤b)(hd:1≤d):x*d=y*b↔wn x b=wn y d:=by
 constructor
 ·intro e
  rw [←Zk (t:=x) hb hd,e,dG b d,Zk hd hb]
 ·intro e
  have c1:=Yj (t:=x) hb
  have c2:=Yj (t:=y) hd
  have v1:=Qt (t:=x) hb
  rw [←e] at c2
  have h:x*d*(wn x b).2=y*b*(wn x b).2:=by
   have a1:x*d*(wn x b).2=x*(wn x b).2*d:=by grind
   have a2:y*b*(wn x b).2=y*(wn x b).2*b:=by grind
   rw [a1,a2,←c1,←c2]
   grind
  exact cZ ⋯ h
variable {E:XK}
theorem xqv {CB:Aj}{x:Aj}{Pp:Hp→Prop}(f:H p=some (.lst (hs.map V.int)))(nx:H x=none)(nd:H dx=none)(k:xy hs→∀H',Same H H'→RoadAt C H' x hs→Pp H')(bad:¬ xy hs→∀H',Same H H'→E (.ref CB) none H') :
  qvx K CB C [.ref x,.ref p] (upd (upd H dx (.own x)) x (.ins C dx [])) (λr H2=>r=.non∧Pp H2) E:=by
 refine ⟨x,dx,p,hs,rfl,qb,SqL.of (by rw [wy (wz f nx),wy (wz f nd)];exact f),λok H4 q nq kp r l=>⟨rfl,k ok H4 (wxn nx nd kp) ⟨dx,q,r,l⟩⟩,λz=>bad z _ ?_⟩
 exact λb o e=>by rw [wy (wz e nx),wy (wz e nd)];exact e
theorem wv2 (ok:xy hs)(k:Int):0≤hAt hs k∧hAt hs k≤(hs.length:Int)-1:=by
 unfold hAt
 rw [aM]
 have:=ok.1
 cases e:hs[k.toNat]? with
 |none=>exact ⟨⋯,by show (0:Int)≤_;lia⟩
 |some v=>exact ok.2.2 v (ba e)
theorem ww5 {t b:Int}(hok:xy hs)(hb:1≤b)(hon:vt hs t b):vt hs (j6 hs t b) b:=by
 have hl1:=hok.1
 have hk:=wkf (hs:=hs) hl1 hb hon.1
 have g1:=wv2 hok (kF hs t b)
 have g2:=wv2 hok (kF hs t b+1)
 have e1:0≤t-kF hs t b*b∧t-kF hs t b*b≤b:=by
  have h1:t/b*b≤t:=fN t ⋯
  have h2:=dZ t (show 0<b by lia)
  unfold kF
  split
  ·next z =>
   have h3:=aV (show (hs.length:Int)-1-1≤t/b by lia) (show 0≤b by lia)
   have h4:=hon.2
   constructor
   ·lia
   ·have:((hs.length:Int)-1)*b=((hs.length:Int)-1-1)*b+b:=by grind
    lia
  ·have:(t/b+1)*b=t/b*b+b:=by grind
   constructor <;> lia
 have r:=wj0 (u:=hAt hs (kF hs t b)) (v:=hAt hs (kF hs t b+1)) e1.1 e1.2
 refine ⟨Int.le_trans ?_ r.1,Int.le_trans r.2 ?_⟩
 ·refine eN ?_ ⋯
  split <;> lia
 ·refine aV ?_ ⋯
  split <;> lia
theorem low_on {t b:Int}(hb:1≤b)(hon:vt hs t b):vt hs (wn t b).1 (wn t b).2:=by
 constructor
 ·rcases cA (wn t b).1 0 with z|z
  ·have:=(Jw hb).mp z
   have:=hon.1
   lia
  ·exact z
 ·rcases cA (((hs.length:Int)-1)*(wn t b).2) (wn t b).1 with z|z
  ·have:=(qus hb).mp z
   have:=hon.2
   lia
  ·exact z
def itP (hs:List Int)(p:Int×Int):Nat→Int×Int
 |0=>p
 |n+1=>Qu hs (itP hs p n).1 (itP hs p n).2
def Pt (hs:List Int)(c:Int)(p:Int×Int):Prop:=1≤p.2∧p.2≤c∧gOf p.1 p.2=1∧vt hs p.1 p.2
theorem wjh {t b:Int}(hb:1≤b)(hon:vt hs t b):Pt hs b (wn t b):=⟨Qt hb,wj1 hb,wvg hb,low_on hb hon⟩
variable {c:Int}
theorem xqc {p:Int×Int}(hok:xy hs)(h:Pt hs c p):Pt hs c (Qu hs p.1 p.2):=by
 have a:=wjh h.1 (ww5 hok h.1 h.2.2.2)
 exact ⟨a.1,Int.le_trans a.2.1 h.2.1,a.2.2.1,a.2.2.2⟩
theorem wz8 {p:Int×Int}(hok:xy hs)(h:Pt hs c p):∀n,Pt hs c (itP hs p n)
 |0=>h
 |n+1=>xqc hok (wz8 hok h n)
def trT (hs:List Int)(t b:Int):Nat→Int
 |0=>t
 |n+1=>j6 hs (trT hs t b n) b
theorem Z4 {t b:Int}(hok:xy hs)(hb:1≤b)(hon:vt hs t b):∀n,vt hs (trT hs t b n) b
 |0=>hon
 |n+1=>ww5 hok hb (Z4 hok hb hon n)
theorem yr {t b:Int}(hb:1≤b):∀n,wn (trT hs t b n) b=itP hs (wn t b) n
 |0=>rfl
 |n+1=>by
  show Qu hs (trT hs t b n) b=Qu hs (itP hs (wn t b) n).1 (itP hs (wn t b) n).2
  rw [←yr hb n,qzg hb]
def ptsL (hs:List Int)(p:Int×Int)(n:Nat):List (Int×Int):=(List.range n).map (itP hs p)
theorem qyx (hs:List Int)(p:Int×Int)(n:Nat):(ptsL hs p n).length=n:=by
 unfold ptsL
 rw [aa,aN]
def PtR (H:Hp)(v:V)(p:Int×Int):Prop:=∃a,v=.ref a∧H a=some (.tup [.int p.1,.int p.2])
variable {v:V}
theorem PtR.same {p:Int×Int}(h:PtR H v p)(s:Same H H'):PtR H' v p:=by
 obtain ⟨a,e,f⟩:=h
 exact ⟨a,e,s _ _ f⟩
variable {α β:Type}
theorem quk {F G:α→β→Prop}(h:∀a b,F a b→G a b):∀ {l:List α} {m:List β},Paired F l m→Paired G l m
 |_,_,.nil=>.nil
 |_,_,.cons a t=>.cons (h _ _ a) (quk h t)
theorem qz5 {F:α→β→Prop}:∀ {l:List α} {m:List β} {i:Nat} {b:β},Paired F l m→m[i]?=some b→∃a,l[i]?=some a∧F a b
 |_,_,0,_,.cons a _,e=>by cases e;exact exI rfl a
 |_,_,i+1,_,.cons _ t,e=>qz5 (i:=i) t e
def PtsAt (H:Hp)(q:Aj)(ps:List (Int×Int)):Prop:=∃vs,H q=some (.lst vs)∧Paired (PtR H) vs ps
theorem PtsAt.same {ps:List (Int×Int)}(h:PtsAt H q ps)(s:Same H H'):PtsAt H' q ps:=by
 obtain ⟨vs,f,r⟩:=h
 exact ⟨vs,s _ _ f,quk (λ_ _ z=>z.same s) r⟩
def Dist {α:Type}(f:Nat→α)(n:Nat):Prop:=∀i j,i<j→j<n→f i≠f j
variable {m:Nat}
theorem Dist.mono {α:Type}{f:Nat→α}{n:Nat}(h:Dist f n)(le:m≤n):Dist f m:=λi j a b=>h i j a ⋯
theorem Dist.succ {α:Type}{f:Nat→α}{n:Nat}(h:Dist f n)(h':∀j,j<n→f j≠f n):Dist f (n+1):=λi j a b=>by
 rcases (by lia:j<n∨j=n) with z|z
 ·exact h i j a z
 ·subst z
  exact h' i a
theorem shift {α:Type}{f:Nat→α}(st:∀i j,f i=f j→f (i+1)=f (j+1)){n u:Nat}(e:f n=f u):∀k,f (n+k)=f (u+k)
 |0=>e
 |k+1=>st _ _ (shift st e k)
theorem per {α:Type}{f:Nat→α}(st:∀i j,f i=f j→f (i+1)=f (j+1)){n u:Nat}(hu:u<n)(e:f n=f u)(m:Nat):u≤m→f m=f (u+(m-u)%(n-u)):=by
 induction m using Nat.strongRecOn with
 |_ m ih =>
  intro hm
  rcases dH m n with z|z
  ·rw [Nat.mod_eq_of_lt ⋯]
   congr 1
   lia
  ·have h1:=shift st e (m-n)
   rw [show n+(m-n)=m by lia] at h1
   have h2:=ih (u+(m-n)) ⋯ ⋯
   rw [h1,h2,show u+(m-n)-u=m-u-(n-u) by lia,←Nat.mod_eq_sub_mod ⋯]
variable {u:Nat}
theorem wwm {m:Int}{n:Nat}(h:(u:Int)≤m)(hu:u<n):(u:Int)+(m-u)%((n:Int)-u)=((u+(m.toNat-u)%(n-u):Nat):Int):=by
 have e1:m-(u:Int)=((m.toNat-u:Nat):Int):=by lia
 have e2:(n:Int)-(u:Int)=((n-u:Nat):Int):=by lia
 rw [e1,e2]
 push_cast
 rfl
theorem pig (N:Nat):∀l:List Nat,l.Nodup→(∀x∈l,x<N)→l.length≤N:=by
 induction N with
 |zero =>
  intro l _ h
  cases l with
  |nil=>exact ai _
  |cons a r=>exact absurd (h a (.head _)) ⋯
 |succ N ih =>
  intro l nd h
  by_cases m:N∈l
  ·have h1:=ih (l.erase N) (nd.erase N) λx hx=>by
    have a:=(nd.mem_erase_iff.mp hx)
    have b:=h x a.2
    lia
   rw [fi m] at h1
   lia
  ·have:=ih l nd λx hx=>by
    have b:=h x hx
    have:x≠N:=λz=>m (z▸hx)
    lia
   lia
theorem pigI {f:Nat→Int}{n:Nat}{B:Int}(h:Dist f n)(b:∀i,0≤f i∧f i≤B):(n:Int)≤B+1:=by
 have h1:=pig (B+1).toNat ((List.range n).map λi=>(f i).toNat) (by
  rw [List.nodup_iff_pairwise_ne,bI]
  refine bW ?_ (dL (n:=n))
  intro i j hi hj hij e
  have:=b i
  have:=b j
  exact h i j hij (aS.mp hj) ⋯) λx hx=>by
   obtain ⟨i,_,rfl⟩:=aq.mp hx
   have:=b i
   lia
 rw [aa,aN] at h1
 have:=b 0
 lia
theorem it_st {p:Int×Int}:∀i j,itP hs p i=itP hs p j→itP hs p (i+1)=itP hs p (j+1):=λi j e=>by
 show Qu hs (itP hs p i).1 (itP hs p i).2=Qu hs (itP hs p j).1 (itP hs p j).2
 rw [e]
theorem Zw {t b:Int}(hb:1≤b)(g:gOf t b=1):wn t b=(t,b):=by
 unfold wn
 rw [g,Int.ediv_one,Int.ediv_one]
theorem it_tr {p:Int×Int}(h:Pt hs c p)(n:Nat):itP hs p n=wn (trT hs p.1 p.2 n) p.2:=by
 rw [yr h.1,Zw h.1 h.2.2.1]
theorem wxy {x y b:Int}(hb:1≤b)(e:wn x b=wn y b):x=y:=by
 have h1:=(qzj (N:=x) hb).2
 have h2:=(qzj (N:=y) hb).2
 rw [e] at h1
 lia
theorem it_eq {p:Int×Int}(h:Pt hs c p)(i j:Nat):itP hs p i=itP hs p j↔trT hs p.1 p.2 i=trT hs p.1 p.2 j:=by
 rw [it_tr h,it_tr h]
 exact ⟨λe=>wxy h.1 e,λe=>by rw [e]⟩
def uu (p:Int×Int):List Key:=[.inl p.1,.inl p.2]
theorem quy {p q:Int×Int}(e:uu p=uu q):p=q:=by
 unfold uu at e
 simp only [List.cons.injEq,Sum.inl.injEq,and_true] at e
 exact Prod.ext e.1 e.2
def jp {κ:Type}(k:Nat→κ)(n:Nat):List (κ×V):=(List.range n).map λi=>(k i,V.int i)
variable {κ:Type}
theorem Z0 (k:Nat→κ)(n:Nat):jp k (n+1)=jp k n++[(k n,V.int n)]:=by
 unfold jp
 rw [du,aO]
 rfl
theorem j7 (k:Nat→κ)(n:Nat):(jp k n).length=n:=by
 unfold jp
 rw [aa,aN]
theorem Z3 [DecidableEq κ]{k:Nat→κ}{q:κ}{n:Nat}(h:∀j,j<n→k j≠q):wf (jp k n) q=none:=by
 unfold wf jp
 rw [eP.mpr]
 ·rfl
 ·intro x hx
  obtain ⟨i,hi,rfl⟩:=aq.mp hx
  simpa using h i (aS.mp hi)
theorem Yy [DecidableEq κ]{k:Nat→κ}{j:Nat}:∀ {n:Nat},Dist k n→j<n→wf (jp k n) (k j)=some (.int j)
 |0,_,h=>absurd h ⋯
 |n+1,d,h=>by
  rw [Z0,Z7 _ _ _ _ (Z3 λi hi=>d i n hi ⋯)]
  rcases (by lia:j<n∨j=n) with z|z
  ·rw [af (d j n z ⋯),Yy (d.mono ⋯) z]
  ·subst z
   rw [ak rfl]
theorem wxk {γ δ:Type}{F:α→β→Prop}{G:α→γ→Prop}(g:δ→β)(f:δ→γ)(h:∀a x,F a (g x)→G a (f x)):∀ {l:List δ} {vs:List α},Paired F vs (l.map g)→Paired G vs (l.map f)
 |[],_,.nil=>.nil
 |_::_,_,.cons a t=>.cons (h _ _ a) (wxk g f h t)
def qv3:Sp:=λvs H Q _=>∃i:Int,vs=[.int i]∧Q (.bl true) H
include T in
theorem wkv (F:Fun K "_law_whole" "_law_whole" zcf f fd):FK P w K mg base 1 f fd ["_law_found"] qv3:=by
 have sc:=qx3
 refine F.okX sc (λvs H Q E h=>by obtain ⟨_,rfl,_⟩:=h;rfl) λ_ _ _ _ H vs Q E hr h=>?_
 obtain ⟨i,rfl,k⟩:=h
 refine ⟨_,(qh (w9 (qvp (wp Yh rfl T.isinstance_ cQ (q9 (pv 0) (q9 (ww8 (v:=V.ty "int") rfl T.int_ cS rfl) qk))) (wqb (pe_not (wp Yh rfl T.isinstance_ cQ (q9 (pv 0) (q9 (ww8 (v:=V.ty "bool") rfl T.bool_ PyProof.Rows.boot_bool rfl) qk)))))))),?_⟩
 refine exI rfl ⟨_,_,_,_,rfl,TyOf.int i,rfl,_,rfl,?_⟩
 refine ut ?_
 refine exI rfl ⟨_,_,_,_,rfl,TyOf.int i,rfl,_,rfl,?_⟩
 exact k
def qkz (C CT:Aj):Sp:=λvs H Q E=>∃(r a:Aj) (hs:List Int) (p:Int×Int) (c:Int),vs=[.ref r,.ref a]∧RoadAt C H r hs∧xy hs∧H a=some (.tup [.int p.1,.int p.2])∧Pt hs c p∧Sm 8000 c ∧
 (∀n u q l H',n≤1000→Dist (itP hs p) n→u<n→itP hs p n=itP hs p u→Same H H'→H l=none→H' q=some (.tup [.ref l,.int ((u:Nat):Int)])→PtsAt H' l (ptsL hs p n)→Q (.ref q) H')∧(Dist (itP hs p) 1001→∀H',Same H H'→E (.ref CT) none H')
include T in
theorem wkz (F:Fun K "trace" "trace" za4 f fd)(zhg:MCal P w K mg base qc "at" 4 (spAt K qc qz qm)):FK P w K mg base 5 f fd ["road","start"] (qkz qc q8):=by
 have sc:=wv5
 refine F.okX sc (λvs H Q E h=>by obtain ⟨_,_,_,_,_,rfl,_⟩:=h;rfl) λ_ _ _ _ H vs Q E hr h=>?_
 obtain ⟨r,a,hs,p,c,rfl,hR,hok,ha,hP,sc8,k,x⟩:=h
 obtain ⟨dx,q0,h1,h2⟩:=id hR
 obtain ⟨tm,zad⟩:=T.zad
 refine ⟨_,(qj (w4 (i:=2) wjb)
   (qj (w4 (i:=3) (pv 1))
   (qj (u9 aE (Yq (Qp (vq hr) (pv 3) (pv 2))) (qj (xg (wm vg (wp qzv rfl T.len_ aI (q9 (pv 2) qk)) (yk (v:=V.int 1000) rfl zad ⟨_,rfl⟩) (wt _)) (qh (zm rfl T.zar x9 rfl T.zgy (xb xp qk))) xx)
   (qj (Qh (vq hr) (pv 2) (pv 3) (wp qzv rfl T.len_ aI (q9 (pv 2) qk)) rfl)
   (qh (w4 (i:=3) (xm (pv 0) T.cl zhg (hr.mono ⋯) qf (q9 (pv 3) qk)))))))
   (qh (w9 (vw (vc (zu (quc rfl) rfl T.list_ bx (q9 (pv 2) qk)) (k4 (jv (vq hr) (pv 2) (pv 3) (λ_ _=>rfl)) qk)))))))),?_⟩
 refine λD nD=>exI rfl ?_
 refine Zf (λσ H2=>∃(i:Nat) (b:Aj),σ=[some (.ref r),some (.ref a),some (.ref D),some (.ref b)]∧i≤1000∧Dist (itP hs p) i∧Same H H2∧H2 D=some (.dT (jp (λj=>uu (itP hs p j)) i))∧H2 b=some (.tup [.int (itP hs p i).1,.int (itP hs p i).2]))
  (λ_ H2=>match H2 D with|some (.dT kvs)=>1001-kvs.length|_=>0) ⟨0,a,rfl,⋯,λi j _ z=>absurd z ⋯,Same.upd nD,qb,by rw [wy (wz ha nD)];exact ha⟩ ?_ λσ H Q Q' h ⟨v,e,v2,e2,a',o,e3,g,kk,e4,q⟩=>⟨v,e,v2,e2,a',o,e3,g,kk,e4,h _ _ q⟩
 rintro σ H2 ⟨i,b,rfl,hi,hd,s2,f2,fb⟩
 have hd':Dist (λj=>uu (itP hs p j)) i:=λu v uv vi e=>hd u v uv vi (quy e)
 have fb':H2 b=some (.tup ((uu (itP hs p i)).map kV)):=fb
 by_cases hj:∃j,j<i∧itP hs p j=itP hs p i
 ·obtain ⟨j,ji,je⟩:=hj
  have hv:wf (jp (λj=>uu (itP hs p j)) i) (uu (itP hs p i))=some (.int j):=by
   rw [←je]
   exact Yy hd' ji
  have dg:DGet H2 D (.ref b) (some (.int j)):=by
   have:=DGet.t f2 fb'
   rwa [hv] at this
  refine exI rfl (exI rfl ⟨D,exI rfl ⟨dg,_,rfl,?_⟩⟩)
  refine yb ?_
  refine exI rfl ⟨D,exI rfl ⟨f2,λl vs nl kat=>?_⟩⟩
  have s3:=Same.upd (o:=.lst vs) nl
  have dg3:DGet (upd H2 l (.lst vs)) D (.ref b) (some (.int j)):=by
   have:=DGet.t (s3 _ _ f2) (s3 _ _ fb')
   rwa [hv] at this
  refine exI rfl (exI rfl ⟨D,exI rfl ⟨dg3,sz2,λq nq=>?_⟩⟩)
  have s4:=s3.trans (Same.upd (o:=.tup [.ref l,.int j]) nq)
  have nl0:H l=none:=by
   cases e:H l with
   |none=>rfl
   |some o=>rw [s2 _ _ e] at nl;cases nl
  refine k i j q l _ hi hd ji je.symm (s2.trans s4) nl0 qb ⟨vs,Same.upd nq _ _ qb,?_⟩
  refine wxk (l:=List.range i) (λj=>(uu (itP hs p j),V.int j)) (itP hs p) (λv j hv=>?_) kat
  obtain ⟨b',rfl,fb2⟩:=hv
  exact ⟨b',rfl,s4 _ _ fb2⟩
 ·have hn:∀j,j<i→itP hs p j≠itP hs p i:=λj a b=>hj ⟨j,a,b⟩
  have hv:wf (jp (λj=>uu (itP hs p j)) i) (uu (itP hs p i))=none:=Z3 λj a b=>hn j a (quy b)
  have dg:DGet H2 D (.ref b) none:=by
   have:=DGet.t f2 fb'
   rwa [hv] at this
  have hd1:=hd.succ hn
  refine exI rfl (exI rfl ⟨D,exI rfl ⟨dg,_,rfl,?_⟩⟩)
  refine ut ?_
  refine exI rfl ⟨D,exI rfl ⟨f2,rfl,_,rfl,?_⟩⟩
  rw [j7]
  refine jc (λq1=>?_) (λq1=>?_)
  ·have:i=1000:=by lia
   subst this
   exact ⟨sz1,x hd1 _ s2⟩
  ·refine exI rfl ⟨D,exI rfl ⟨f2,exI rfl (exI rfl ⟨D,exI rfl ⟨DPut.t f2 fb' (wxf (by rw [j7];lia)),?_⟩⟩)⟩⟩
   rw [Qq _ hv,j7,←Z0 (λj=>uu (itP hs p j)) i]
   have s3:Same H (upd H2 D (.dT (jp (λj=>uu (itP hs p j)) (i+1)))):=Same.upd2 s2 nD
   have db:b≠D:=λz=>by rw [z,f2] at fb;cases fb
   have fb3:upd H2 D (.dT (jp (λj=>uu (itP hs p j)) (i+1))) b=some (.tup [.int (itP hs p i).1,.int (itP hs p i).2]):=by rw [wy db];exact fb
   have f3:upd H2 D (.dT (jp (λj=>uu (itP hs p j)) (i+1))) D=some (.dT (jp (λj=>uu (itP hs p j)) (i+1))):=qb
   generalize upd H2 D (.dT (jp (λj=>uu (itP hs p j)) (i+1)))=H3 at s3 fb3 f3
   have Pn:=wz8 hok hP i
   refine ⟨_,rfl,r,dx,_,rfl,s3 _ _ h1,vm (by decide +kernel),_,rfl,r,b,hs,(itP hs p i).1,(itP hs p i).2,rfl,hR.same s3,hok,SqT.of fb3,λ_=>⟨(sc8.of_le (by have:=Pn.2.1;have:=Pn.1;lia)),λ_ p4 H4 s4 f4=>?_,λz=>absurd Pn.2.2.2 z⟩,λz=>absurd Pn.1 ⋯⟩
   refine ⟨⟨i+1,p4,rfl,⋯,hd1,s3.trans s4,s4 _ _ f3,f4⟩,?_⟩
   show (match H4 D with|some (.dT kvs)=>1001-kvs.length|_=>0)<(match H2 D with|some (.dT kvs)=>1001-kvs.length|_=>0)
   rw [s4 _ _ f3,f2]
   show 1001-(jp (λj=>uu (itP hs p j)) (i+1)).length<1001-(jp (λj=>uu (itP hs p j)) i).length
   rw [j7,j7]
   lia
def TrAt (H:Hp)(l:Aj)(hs:List Int)(p:Int×Int)(n u:Nat):Prop:=n≤1000∧Dist (itP hs p) n∧u<n∧itP hs p n=itP hs p u∧PtsAt H l (ptsL hs p n)
def qu4:Sp:=λvs H Q _=>∃(l:Aj) (hs:List Int) (p:Int×Int) (n u:Nat) (m:Int),vs=[.ref l,.int u,.int m]∧TrAt H l hs p n u∧0≤m∧∀a,H a=some (.tup [.int (itP hs p m.toNat).1,.int (itP hs p m.toNat).2])→Q (.ref a) H
variable {i:Nat}
theorem qu9 {p:Int×Int}{n:Nat}{vs:List V}(h:Paired (PtR H) vs (ptsL hs p n))(hi:i<n):∃a,vs[i]?=some (.ref a)∧H a=some (.tup [.int (itP hs p i).1,.int (itP hs p i).2]):=by
 obtain ⟨v,ev,⟨a,rfl,fa⟩⟩:=qz5 (i:=i) (b:=itP hs p i) h (by
  unfold ptsL
  rw [aB,ce hi]
  rfl)
 exact ⟨a,ev,fa⟩
include T in
theorem xqg (F:Fun K "spot" "spot" za5 f fd):FK P w K mg base 1 f fd ["points","turn","many"] qu4:=by
 have sc:=xqn
 refine F.okX sc (λvs H Q E h=>by obtain ⟨_,_,_,_,_,_,rfl,_⟩:=h;rfl) λ_ _ _ _ H vs Q E hr h=>?_
 obtain ⟨l,hs,p,n,u,m,rfl,⟨n1,hd,hu,e,vs,fl,pr⟩,m0,k⟩:=h
 have hlen:vs.length=n:=by rw [pr.length,qyx]
 refine ⟨_,(qj (xg (wm yh (pv 2) (pv 1) (wt _)) (qh (w9 (zd x4 (pv 0) (pv 2) (λ_ _=>rfl)))) xx)
   (qh (w9 (zd x4 (pv 0) (wb xz (pv 1) (wb kj (wb zt (pv 2) (pv 1)) (wb zt (wp xk rfl T.len_ aI (q9 (pv 0) qk)) (pv 1)))) (λ_ _=>rfl))))),?_⟩
 refine exI rfl (exI rfl (wg rfl rfl (exI rfl ?_)))
 refine vb (λq1=>?_) (λq1=>?_)
 ·obtain ⟨a,ea,fa⟩:=qu9 (i:=m.toNat) pr ⋯
  refine exI rfl (exI rfl (exX rfl rfl (SqL.of fl) ?_ (k a fa)))
  have:=j3 ea
  rwa [cb m0] at this
 ·have hm:(u:Int)≤m:=by lia
  have lt:=de (m.toNat-u) (show 0<n-u by lia)
  obtain ⟨a,ea,fa⟩:=qu9 (i:=u+(m.toNat-u)%(n-u)) pr ⋯
  rw [←per it_st hu e m.toNat ⋯] at fa
  refine exI rfl (exI rfl (exI rfl (exI rfl (wg rfl rfl (exI rfl ⟨_,_,rfl,.inl (SqL.of fl),exI rfl (wg rfl rfl (wg rfl rfl ⟨?_,wg rfl rfl (exX rfl rfl (SqL.of fl) ?_ (k a fa))⟩))⟩)))))
  ·rw [hlen]
   show (0:Int)<(n:Int)-u
   lia
  ·rw [hlen,wwm hm hu]
   exact j3 ea
def wqx (K:Aa):Sp:=λvs H Q _=>∃(p:Aj) (hs:List Int) (t b:Int),vs=[.ref p,.int t,.int b]∧SqL K H p (hs.map V.int)∧xy hs∧1≤b∧Sm 4000 b∧vt hs t b∧Q (.int (j6 hs t b)) H
include T in
theorem wy7 (F:Fun K "_law_step" "_law_step" zcg f fd):FK P w K mg base 1 f fd ["_law_heights_here","_law_top","_law_bottom"] (wqx K):=by
 have sc:=qk2
 refine F.okX sc (λvs H Q E h=>by obtain ⟨_,_,_,_,rfl,_⟩:=h;rfl) λ_ _ _ _ H vs Q E hr h=>?_
 obtain ⟨p,hs,t,b,rfl,hS,hok,hb,sb,hon,k⟩:=h
 rw [←wkn hok.1 hb hon.1 hon.2] at k
 have hl:=hok.2.1
 have k0:=fM hon.1 (show (0:Int)≤b by lia)
 have k1:t/b≤(hs.length:Int)-1:=by
  have:=Int.ediv_le_ediv (show 0<b by lia) hon.2
  rwa [Int.mul_ediv_cancel _ (show b≠0 by lia)] at this
 have g1:=wq5 hok (t/b)
 have g2:=wq5 hok (t/b+1)
 refine ⟨_,(qj (w4 (i:=3) (wb ju (pv 1) (pv 2)))
   (qj (xg (wm vg (wb xt (pv 3) (pv 2)) (pv 1) (wt _)) (qh (w9 (wb xt (zd x4 (pv 0) (pv 3) (λ_ _=>rfl)) (pv 2)))) xx)
   (qh (w9 (wb xz (wb xt (zd x4 (pv 0) (pv 3) (λ_ _=>rfl)) (pv 2)) (wb xt (wb zt (zd x4 (pv 0) (wb xz (pv 3) qr) (λ_ _=>rfl)) (zd x4 (pv 0) (pv 3) (λ_ _=>rfl))) (wb zt (pv 1) (wb xt (pv 3) (pv 2))))))))),?_⟩
 refine exI rfl (exI rfl (wg rfl rfl ⟨⟨⋯,sb.mono ⋯⟩,exI rfl (exI rfl (wg rfl rfl ⟨IntMulOk.of_left (intBits_le_64 ⋯ ⋯),exI rfl ⟨rfl,_,rfl,?_⟩⟩))⟩))
 refine jc (λq1=>?_) (λq1=>?_)
 ·refine exI rfl (exI rfl (exX rfl rfl hS (at_h k0 ⋯) (exI rfl (wg rfl rfl ⟨IntMulOk.of_left (intBits_le_64 ⋯ ⋯),?_⟩))))
  rw [wwq,ak q1] at k
  exact k
 ·have k2:t/b<(hs.length:Int)-1:=by
   rcases cA (t/b) ((hs.length:Int)-1) with z|z
   ·exact z
   ·have e:t/b=(hs.length:Int)-1:=by lia
    have h1:t/b*b≤t:=fN t ⋯
    have h2:=hon.2
    rw [←e] at h2
    exact absurd ⋯ q1
  refine exI rfl (exI rfl (exX rfl rfl hS (at_h k0 ⋯) (exI rfl (wg rfl rfl ⟨IntMulOk.of_left (intBits_le_64 ⋯ ⋯),exI rfl (exI rfl (wg rfl rfl (exX rfl rfl hS (at_h ⋯ ⋯) (exI rfl (exI rfl (exX rfl rfl hS (at_h k0 ⋯) (wg rfl rfl (exI rfl (exI rfl (exI rfl (wg rfl rfl ⟨IntMulOk.of_left (intBits_le_64 ⋯ ⋯),wg rfl rfl (wg rfl rfl ⟨IntMulOk.of_left (intBits_le_64 ⋯ ⋯),wg rfl rfl ?_⟩)⟩)))))))))))⟩))))
  rw [wwq,af q1] at k
  exact k
variable {kvs:List (Key×V)}
theorem qq2 {D:Aj}{i:Int}{o:Option V}(f:H D=some (.dK kvs))(e:wf kvs (.inl i)=o):DGet H D (.int i) o:=by
 have:=DGet.k (k:=.inl i) f
 rwa [e] at this
def qqg (K:Aa):Sp:=λvs H Q _=>∃(p:Aj) (hs:List Int) (t b:Int),vs=[.ref p,.int t,.int b]∧SqL K H p (hs.map V.int)∧xy hs∧1≤b∧b≤10000∧vt hs t b ∧
 (∀n u q l H',Dist (trT hs t b) n→u<n→trT hs t b n=trT hs t b u→n≤300000→Same H H'→H l=none→H' q=some (.tup [.ref l,.int ((u:Nat):Int)])→H' l=some (.lst (((List.range n).map (trT hs t b)).map V.int))→Q (.ref q) H')
theorem qzk {n:Nat}(h:n≤1000000):n<sizeLine:=dA h ⋯
include T in
theorem wzw (F:Fun K "_law_trace" "_law_trace" zch f fd)(zhh:Cal P w K mg base "_law_step" 1 (wqx K)):FK P w K mg base 2 f fd ["_law_heights_here","_law_top","_law_bottom"] (qqg K):=by
 have sc:=qw6
 refine F.okX sc (λvs H Q E h=>by obtain ⟨_,_,_,_,rfl,_⟩:=h;rfl) λ_ _ _ _ H vs Q E hr h=>?_
 obtain ⟨p,hs,t,b,rfl,hS,hok,hb,hb2,hon,k⟩:=h
 have hl:=hok.2.1
 have sb:Sm 4000 b:=(Sm.small (n:=65) ⋯ ⋯ ⋯).mono ⋯
 have bnd:∀n,Dist (trT hs t b) n→n≤250000:=λn d=>by
  have h1:=pigI d λi=>Z4 hok hb hon i
  have h2:=eS (show (hs.length:Int)-1≤24 by lia) hb2 ⋯ ⋯
  lia
 refine ⟨_,(qj (w4 (i:=3) j4)
   (qj (w4 (i:=4) (j8 qk))
   (qj (u9 aE (Yq (Qp (vq hr) (pv 1) (pv 3))) (qj (Qh (vq hr) (pv 3) (pv 1) (wp xk rfl T.len_ aI (q9 (pv 4) qk)) rfl)
   (qj (zb (u7 bA bL bM j0 (pv 4) (q9 (pv 1) qk)))
   (qh (w4 (i:=1) (wCA zhh (q9 (pv 0) (q9 (pv 1) (q9 (pv 2) qk)))))))))
   (qh (w9 (vw (q9 (pv 4) (k4 (jv (vq hr) (pv 3) (pv 1) (λ_ _=>rfl)) qk)))))))),?_⟩
 refine λD nD=>⟨sz0,λl nl=>?_⟩
 have dDl:D≠l:=wz (show upd H D (.dK []) D=some (.dK []) from qb) nl
 have nl0:H l=none:=by
  cases e:H l with
  |none=>rfl
  |some o=>rw [Same.upd nD _ _ e] at nl;cases nl
 refine Zf (λσ H2=>∃(i:Nat),σ=[some (.ref p),some (.int (trT hs t b i)),some (.int b),some (.ref D),some (.ref l)]∧Dist (trT hs t b) i∧Same H H2∧H2 D=some (.dK (jp (λj=>Sum.inl (trT hs t b j)) i))∧H2 l=some (.lst (((List.range i).map (trT hs t b)).map V.int)))
  (λ_ H2=>match H2 D with|some (.dK kvs)=>250001-kvs.length|_=>0) ⟨0,rfl,λi j _ z=>absurd z ⋯,(Same.upd nD).trans (Same.upd nl),by rw [wy dDl,qb];rfl,qb⟩ ?_ λσ H Q Q' h ⟨v,e,v2,e2,a',o,e3,g,kk,e4,q⟩=>⟨v,e,v2,e2,a',o,e3,g,kk,e4,h _ _ q⟩
 rintro σ H2 ⟨i,rfl,hd,s2,f2,fl⟩
 have hd':Dist (λj=>(Sum.inl (trT hs t b j):Key)) i:=λu v uv vi e=>hd u v uv vi (Sum.inl.inj e)
 have hbi:=bnd i hd
 have hlen:(((List.range i).map (trT hs t b)).map V.int).length=i:=by rw [aa,aa,aN]
 by_cases hj:∃j,j<i∧trT hs t b j=trT hs t b i
 ·obtain ⟨j,ji,je⟩:=hj
  have hv:wf (jp (λj=>(Sum.inl (trT hs t b j):Key)) i) (.inl (trT hs t b i))=some (.int j):=by
   rw [←je]
   exact Yy hd' ji
  refine exI rfl (exI rfl ⟨D,exI rfl ⟨qq2 f2 hv,_,rfl,?_⟩⟩)
  refine yb ?_
  refine exI rfl (exI rfl (exI rfl ⟨D,exI rfl ⟨qq2 f2 hv,sz2,λq nq=>?_⟩⟩))
  have s3:=Same.upd (o:=.tup [.ref l,.int j]) nq
  exact k i j q l _ hd ji je.symm ⋯ (s2.trans s3) nl0 qb (s3 _ _ fl)
 ·have hn:∀j,j<i→trT hs t b j≠trT hs t b i:=λj a b=>hj ⟨j,a,b⟩
  have hv:wf (jp (λj=>(Sum.inl (trT hs t b j):Key)) i) (.inl (trT hs t b i))=none:=Z3 λj a b=>hn j a (Sum.inl.inj b)
  have hd1:=hd.succ hn
  have hb1:=bnd (i+1) hd1
  refine exI rfl (exI rfl ⟨D,exI rfl ⟨qq2 f2 hv,_,rfl,?_⟩⟩)
  refine ut ?_
  refine exI rfl ⟨_,_,rfl,.inl (SqL.of fl),exI rfl (exI rfl ⟨D,exI rfl ⟨DPut.k (k:=.inl (trT hs t b i)) f2 (qzk (by rw [j7];lia)),?_⟩⟩)⟩
  rw [Qq _ hv,hlen,←Z0 (λj=>(Sum.inl (trT hs t b j):Key)) i]
  have s3:Same H (upd H2 D (.dK (jp (λj=>(Sum.inl (trT hs t b j):Key)) (i+1)))):=Same.upd2 s2 nD
  have fl3:upd H2 D (.dK (jp (λj=>(Sum.inl (trT hs t b j):Key)) (i+1))) l=some (.lst (((List.range i).map (trT hs t b)).map V.int)):=by rw [wy dDl.symm];exact fl
  have f3:upd H2 D (.dK (jp (λj=>(Sum.inl (trT hs t b j):Key)) (i+1))) D=some (.dK (jp (λj=>(Sum.inl (trT hs t b j):Key)) (i+1))):=qb
  generalize upd H2 D (.dK (jp (λj=>(Sum.inl (trT hs t b j):Key)) (i+1)))=H3 at s3 fl3 f3
  refine exI rfl ⟨.inl ⟨rfl,_,SqL.of fl3⟩,exI rfl ⟨_,_,_,rfl,rfl,fl3,qzk (by rw [hlen];lia),?_⟩⟩
  have s4:Same H (upd H3 l (.lst (((List.range i).map (trT hs t b)).map V.int++[V.int (trT hs t b i)]))):=Same.upd2 s3 nl0
  refine exI rfl (exI rfl (exI rfl ⟨p,hs,trT hs t b i,b,rfl,s4.sql hS,hok,hb,sb,Z4 hok hb hon i,⟨i+1,rfl,hd1,s4,by rw [wy dDl];exact f3,?_⟩,?_⟩))
  ·rw [qb,du,aO,aO]
   rfl
  ·show (match upd H3 l (.lst (((List.range i).map (trT hs t b)).map V.int++[V.int (trT hs t b i)])) D with|some (.dK kvs)=>250001-kvs.length|_=>0)<(match H2 D with|some (.dK kvs)=>250001-kvs.length|_=>0)
   rw [wy dDl,f3,f2]
   show 250001-(jp (λj=>(Sum.inl (trT hs t b j):Key)) (i+1)).length<250001-(jp (λj=>(Sum.inl (trT hs t b j):Key)) i).length
   rw [j7,j7]
   lia
def qvh (K:Aa):Sp:=λvs H Q _=>∃(l:Aj) (g:Nat→Int) (n u:Nat) (m:Int),vs=[.ref l,.int u,.int m]∧H l=some (.lst (((List.range n).map g).map V.int))∧u<n∧g n=g u∧(∀i j,g i=g j→g (i+1)=g (j+1))∧0≤m∧Q (.int (g m.toNat)) H
theorem wxw {g:Nat→Int}{n:Nat}(h:i<n):atI (((List.range n).map g).map V.int) ((i:Nat):Int)=some (V.int (g i)):=by
 refine j3 ?_
 rw [aB,aB,ce h]
 rfl
include T in
theorem wyy (F:Fun K "_law_after" "_law_after" zci f fd):FK P w K mg base 1 f fd ["_law_tops","_law_start","_law_many"] (qvh K):=by
 have sc:=qxn
 refine F.okX sc (λvs H Q E h=>by obtain ⟨_,_,_,_,_,rfl,_⟩:=h;rfl) λ_ _ _ _ H vs Q E hr h=>?_
 obtain ⟨l,g,n,u,m,rfl,fl,hu,e,st,m0,k⟩:=h
 have hlen:(((List.range n).map g).map V.int).length=n:=by rw [aa,aa,aN]
 refine ⟨_,(qj (xg (wm yh (pv 2) (wp xk rfl T.len_ aI (q9 (pv 0) qk)) (wt _)) (qh (w9 (zd x4 (pv 0) (pv 2) (λ_ _=>rfl)))) xx)
   (qh (w9 (zd x4 (pv 0) (wb xz (pv 1) (wb kj (wb zt (pv 2) (pv 1)) (wb zt (wp xk rfl T.len_ aI (q9 (pv 0) qk)) (pv 1)))) (λ_ _=>rfl))))),?_⟩
 refine exI rfl (exI rfl ⟨_,_,rfl,.inl (SqL.of fl),wg rfl rfl (exI rfl ?_)⟩)
 rw [hlen]
 refine vb (λq1=>?_) (λq1=>?_)
 ·have ea:=wxw (g:=g) (n:=n) (i:=m.toNat) ⋯
  rw [cb m0] at ea
  exact exI rfl (exI rfl (exX rfl rfl (SqL.of fl) ea k))
 ·have hm:(u:Int)≤m:=by lia
  have lt:=de (m.toNat-u) (show 0<n-u by lia)
  have ea:=wxw (g:=g) (n:=n) (i:=u+(m.toNat-u)%(n-u)) ⋯
  rw [←per st hu e m.toNat ⋯] at ea
  refine exI rfl (exI rfl (exI rfl (exI rfl (wg rfl rfl (exI rfl ⟨_,_,rfl,.inl (SqL.of fl),exI rfl (wg rfl rfl (wg rfl rfl ⟨?_,wg rfl rfl (exX rfl rfl (SqL.of fl) ?_ k)⟩))⟩)))))
  ·rw [hlen]
   show (0:Int)<(n:Int)-u
   lia
  ·rw [hlen,wwm hm hu]
   exact ea
def qkb (K:Aa):Sp:=λvs H Q _=>∃(a:Aj) (ns:List Int) (i wd mo:Int),vs=[.ref a,.int i,.int wd,.int mo]∧SqL K H a (ns.map V.int)∧0≤i∧1≤wd∧wd≤24∧6≤mo∧mo≤1000 ∧
 ∀p t b c,H p=none→1≤b→b≤mo→1≤c→c≤3→0≤t→t≤wd*b→Q (.ref p) (upd H p (.tup [.int (t*c),.int (b*c)]))
include T in
theorem wk8 (F:Fun K "_law_spot" "_law_spot" zca f fd)(zaa:Cal P w K mg base "_law_pick" 2 (um K)):FK P w K mg base 3 f fd ["_law_script","_law_at","_law_wide","_law_most"] (qkb K):=by
 have sc:=qv0
 refine F.okX sc (λvs H Q E h=>by obtain ⟨_,_,_,_,_,rfl,_⟩:=h;rfl) λ_ _ _ _ H vs Q E hr h=>?_
 obtain ⟨a,ns,i,wd,mo,rfl,hS,i0,w1,w2,o1,o2,k⟩:=h
 refine ⟨_,(qj (w4 (i:=4) (wb xz qr (wCA zaa (q9 (pv 0) (q9 (pv 1) (xb qr (q9 (pv 3) qk)))))))
   (qkd (xg (wm vg (wCA zaa (q9 (pv 0) (q9 (pv 1) (xb qr (xb qr qk))))) qr (wt _)) (qh (w4 (i:=4) (wb xz qr (wb kj (pv 4) qr)))) xx)
   (qj (w4 (i:=5) (wb xz (wb xt (wCA zaa (q9 (pv 0) (q9 (pv 1) (xb qr (q9 (pv 2) qk))))) (pv 4)) (wCA zaa (q9 (pv 0) (q9 (pv 1) (xb qr (zx (wb xz (pv 4) qr) qk)))))))
   (qj (w4 (i:=6) (wb xz qr (wCA zaa (q9 (pv 0) (q9 (pv 1) (xb qr (xb qr qk)))))))
   (qh (w9 (vw (zx (wb xt (pv 5) (pv 6)) (zx (wb xt (pv 4) (pv 6)) qk))))))))),?_⟩
 refine exI rfl (exI rfl (exI rfl ⟨a,ns,_,_,_,rfl,hS,i0,⋯,⋯,⋯,λr1 _ l1 u1=>?_⟩))
 refine ⟨_,_,rfl,rfl,λσ H'=>∃b,σ=[some (.ref a),some (.int i),some (.int wd),some (.int mo),some (.int b),none,none]∧1≤b∧b≤mo∧H'=H,?_,?_⟩
 ·refine exI rfl (exI rfl ⟨a,ns,_,_,_,rfl,hS,i0,⋯,⋯,⋯,λr2 _ l2 u2=>?_⟩)
  refine ⟨rfl,_,rfl,jc (λq1=>?_) (λq1=>?_)⟩
  ·have e1:=bh (1+r1) (show (6:Int)≠0 by decide)
   have e2:=bj (1+r1) (show (0:Int)<6 by decide)
   exact ⟨_,rfl,_,_,rfl,rfl,(by walk_at "pos"),_,_,rfl,rfl,_,rfl,⋯,⋯,rfl⟩
  ·exact ⟨_,rfl,⋯,⋯,rfl⟩
 ·rintro σ Hx ⟨b,rfl,b1,b2,rfl⟩
  refine exI rfl (exI rfl (exI rfl ⟨a,ns,_,_,_,rfl,hS,i0,⋯,⋯,⋯,λr3 _ l3 u3=>?_⟩))
  refine exI rfl (wg rfl rfl ⟨(by walk_at "mul"),exI rfl (exI rfl (exI rfl (wg rfl rfl ⟨a,ns,_,_,_,rfl,hS,i0,⋯,⋯,⋯,λr4 _ l4 u4=>?_⟩)))⟩)
  refine wg rfl rfl ?_
  refine exI rfl (exI rfl ⟨a,ns,_,_,_,rfl,hS,i0,⋯,⋯,⋯,λr5 _ l5 u5=>?_⟩)
  refine wg rfl rfl ?_
  have h1:=aV (show r3≤wd-1 by lia) (show 0≤b by lia)
  have h2:(wd-1)*b=wd*b-b:=by rw [Int.sub_mul,Int.one_mul]
  have h3:=eN l3 (show 0≤b by lia)
  refine exI rfl ⟨V.int (1+r5),rfl,wg rfl rfl ⟨(by walk_at "mul"),exI rfl ⟨V.int (1+r5),rfl,wg rfl rfl ⟨(by walk_at "mul"),sz2,λp np=>?_⟩⟩⟩⟩
  exact k p _ b (1+r5) np b1 b2 ⋯ ⋯ ⋯ ⋯
def qqw (c:Nat):Bool:=!(Builtin.Str.occurrences (Str.ofString "abcdefghijklmnopqrstuvwxyz") ⟨#[c]⟩ 0 (Str.ofString "abcdefghijklmnopqrstuvwxyz").length 1).isEmpty
def zw (x:Str):Bool:=decide (1≤x.length∧x.length≤12)&&(List.range x.cps.size).all λi=>qqw (x.cps.getD i 0)
def qqv:Sp:=λvs H Q _=>∃x:Str,vs=[.str x]∧x.length≤1000∧∀H',Same H H'→Q (.bl (zw x)) H'
include T in
theorem wqv (F:Fun K "is_name" "is_name" zbh f fd):FK P w K mg base 1 f fd ["name"] qqv:=by
 have sc:=wqd
 refine F.okX sc (λvs H Q E h=>by obtain ⟨_,rfl,_⟩:=h;rfl) λ_ _ _ _ H vs Q E hr h=>?_
 obtain ⟨x,rfl,hx,k⟩:=h
 obtain ⟨tn,zaf⟩:=T.zaf
 obtain ⟨tl,zah⟩:=T.zah
 have big:(1000000:Nat)<sizeLine:=by decide
 refine ⟨_,(qj (xg (PW.pt (yp (wm yh (wp yz rfl T.len_ aI (q9 (pv 0) qk)) qr (wt _)) (yd (wm uq (wp yz rfl T.len_ aI (q9 (pv 0) qk)) (yk (v:=V.int 12) rfl zaf ⟨_,rfl⟩) (wt _))))) (qh (w9 yn)) xx)
   (qh (w9 (wp (Q8 rfl) rfl T.all_ qux (xj (jz (M:=[]) rfl rfl (by walk_at "cap") (by walk_at "has") (by walk_at "cix") rfl (by decide +kernel) rfl (show List.Nodup (["sign"]:List Str) by decide +kernel) (wjs (pv 0)) (λ_ _ _ _ _=>(y8 qz3 (pv 0) (yk (v:=V.str "abcdefghijklmnopqrstuvwxyz") rfl zah ⟨_,rfl⟩) rfl))) qk))))),?_⟩
 refine ⟨_,rfl,x,rfl,⋯,_,_,rfl,rfl,_,rfl,?_⟩
 have no:∀z:¬ (1≤x.length∧x.length≤12),zw x=false:=λz=>by unfold zw;rw [bn z];rfl
 refine vb (λq1=>?_) (λq1=>?_)
 ·refine ut ?_
  have:=k H (Same.refl _)
  rw [no ⋯] at this
  exact this
 ·refine ⟨_,rfl,x,rfl,⋯,_,_,rfl,rfl,_,rfl,vb (λq2=>?_) (λq2=>?_)⟩
  ·have:=k H (Same.refl _)
   rw [no ⋯] at this
   exact this
  ·refine exI rfl ⟨x,rfl,qyd (λi=>.bl (qqw (x.cps.getD i 0))) (by show x.length≤1000000;lia) (λi H' R hi hs hR=>?_) λp np=>?_⟩
   ·exact exI rfl (wg rfl rfl hR)
   ·have e:zw x=((List.range x.cps.size).map λi=>qqw (x.cps.getD i 0)).all id:=by
     unfold zw
     rw [aX (show 1≤x.length∧x.length≤12 by lia),List.all_map]
     rfl
    refine ⟨p,(List.range x.cps.size).map λi=>qqw (x.cps.getD i 0),rfl,?_,?_⟩
    ·rw [aZ]
     exact SqL.new
    ·rw [←e]
     exact k _ (Same.upd np)
def Qs (CN CT:Aj):Sp:=λvs H Q E=>∃(x:Str) (d:Aj) (kvs:List (Key×V)),vs=[.str x,.ref d]∧x.length≤1000∧H d=some (.dK kvs) ∧
 (zw x=true→wf kvs (.inr x)=none→∀H',Same H H'→Q .non H')∧(zw x=false→∀H',Same H H'→E (.ref CN) none H')∧(zw x=true→(wf kvs (.inr x)).isSome=true→∀H',Same H H'→E (.ref CT) none H')
include T in
theorem qjt (F:Fun K "check_new_name" "check_new_name" zbi f fd)(zhi:Cal P w K mg base "is_name" 1 qqv):FK P w K mg base 2 f fd ["name","things"] (Qs qg wj):=by
 have sc:=Wt
 refine F.okX sc (λvs H Q E h=>by obtain ⟨_,_,_,rfl,_⟩:=h;rfl) λ_ _ _ _ H vs Q E hr h=>?_
 obtain ⟨x,d,kvs,rfl,hx,hd,k,kn,kt⟩:=h
 refine ⟨_,(qj (xg (ug (u6 (wCA zhi (q9 (pv 0) qk)))) (qh (zm rfl T.zat x9 rfl T.zg0 (xb xp qk))) xx)
   (qh (xg (Yq (wvy (vq hr) (pv 0) (pv 1))) (qh (zm rfl T.zau x9 rfl T.zg1 (xb xp qk))) xx))),?_⟩
 refine exI rfl ⟨x,rfl,hx,λH1 s1=>(exI rfl ?_)⟩
 have dg:DGet H1 d (.str x) (wf kvs (.inr x)):=DGet.k (k:=.inr x) (s1 _ _ hd)
 cases hn:zw x with
 |false=>exact ut ⟨sz1,kn hn H1 s1⟩
 |true =>
  refine yb (exI rfl (exI rfl ⟨d,exI rfl ⟨dg,_,rfl,?_⟩⟩))
  cases hv:wf kvs (.inr x) with
  |none=>exact yb (k hn hv H1 s1)
  |some v=>exact ut ⟨sz1,kt hn (by rw [hv];rfl) H1 s1⟩
def qvy:Sp:=λvs H Q _=>∃(t c:Aj) (R cs:List (Key×V)),vs=[.ref t,.ref c]∧t≠c∧H t=some (.dK R)∧Rd H c (.dK cs)∧(cs.map (·.1)).Nodup∧R.length≤1000∧cs.length≤1000∧ExOk R cs ∧
 ∀q H',H q=none→H' q=some (.dK (bfK R cs))→H' t=some (.dK (exK R cs))→Rd H' c (.dK cs)→Kb [t,c] H H'→Q (.ref q) H'
include T in
theorem wup (F:Fun K "exchange" "exchange" zbj f fd):FK P w K mg base 1 f fd ["things","changes"] qvy:=by
 have sc:=qjk
 refine F.okX sc (λvs H Q E h=>by obtain ⟨_,_,_,_,rfl,_⟩:=h;rfl) λ_ _ _ s H vs Q E hr h=>?_
 obtain ⟨t,c,R,cs,rfl,tc,ht,hc,nd,lR,lc,ok,k⟩:=h
 have big:(1000000:Nat)<sizeLine:=by decide
 refine ⟨_,(qj (qk8 (i:=2) (M:=[0]) sc.nd rfl (by walk_at "loc") rfl rfl (by walk_at "cap") (by walk_at "has") (by walk_at "cix") rfl (by decide +kernel) rfl (show List.Nodup (["name","things"]:List Str) by decide +kernel) (wwv (pv 1)) (λ_ _ _ _ _=>(pv 0)) (λ_ _ _ _ _=>(wyd (vq hr) (pv 1) (pv 0) ⟨rfl,rfl,rfl,rfl⟩)))
   (qj (vf aE rfl (pi_di (pv 1)) (k9 rfl (xv (xq (i:=3)) (xv (xq (i:=4)) zr))) (qh (xg (wm op_isN (pv 4) wvz (wt _)) (qh (wuq (pv 0) (pv 3))) (qh (Qh (vq hr) (pv 0) (pv 3) (pv 4) rfl)))))
   (qh (w9 (pv 2))))),?_⟩
 refine exI rfl ⟨c,cs,rfl,hc,λo H1 fz=>?_⟩
 have ht1:H1 t=some (.dK R):=by rw [fz.2 t tc];exact ht
 refine wv8 (λk=>(wf R k).getD .non) ⋯ nd fz.1 (λk H' RR s' hR=>(exI rfl (exI rfl ⟨t,rfl,.inl ⟨R,.inl (s' _ _ ht1)⟩,exI rfl ⟨_,DGet.k (k:=k) (s' _ _ ht1),hR⟩⟩))) λq nq=>?_
 have nq0:H q=none:=by
  cases e:H q with
  |none=>rfl
  |some ob =>
   by_cases z:q=c
   ·rw [z,fz.1] at nq;cases nq
   ·rw [fz.2 q z,e] at nq;cases nq
 have s2:Same H1 (upd H1 q (.dK (bfK R cs))):=Same.upd nq
 have fq:upd H1 q (.dK (bfK R cs)) q=some (.dK (bfK R cs)):=qb
 have c2:upd H1 q (.dK (bfK R cs)) c=some (.frz o (.dK cs)):=s2 _ _ fz.1
 have t2:upd H1 q (.dK (bfK R cs)) t=some (.dK R):=s2 _ _ ht1
 have tq:t≠q:=wz ht1 nq
 have kb:Kb [t,c] H (upd H1 q (.dK (bfK R cs))):=λb ob nb e=>s2 _ _ (by rw [fz.2 b (λz=>nb (by simp [z]))];exact e)
 have sel:(cs.map λc=>(c.1,(wf R c.1).getD .non))=bfK R cs:=rfl
 rw [sel]
 generalize upd H1 q (.dK (bfK R cs))=H2 at fq c2 t2 kb
 refine exI rfl ⟨c,cs,rfl,.inr ⟨o,c2⟩,λo' H3 fz3=>?_⟩
 have cq:q≠c:=λz=>by rw [z,c2] at fq;cases fq
 have t3:H3 t=some (.dK R):=by rw [fz3.2 t tc];exact t2
 have q3:H3 q=some (.dK (bfK R cs)):=by rw [fz3.2 q cq];exact fq
 have kb3:Kb [t,c] H H3:=λb ob nb e=>by rw [fz3.2 b (λz=>nb (by simp [z]))];exact kb b ob nb e
 refine for_di (λi σ H'=>(∃z3 z4,σ=[some (.ref t),some (.ref c),some (.ref q),z3,z4])∧H' c=some (.frz o' (.dK cs))∧H' q=some (.dK (bfK R cs))∧H' t=some (.dK (exK R (cs.take i)))∧Kb [t,c] H H') ⟨⟨_,_,rfl⟩,fz3.1,q3,t3,kb3⟩ (λi σ H' hi h=>h.2.1) ?_ ?_
 ·rintro i cc z σ H' ec nz ⟨⟨z3,z4,rfl⟩,a1,a2,a3,a4⟩
  have s4:Same H' (upd H' z (.tup [kV cc.1,cc.2])):=Same.upd nz
  refine ⟨z,exI rfl ⟨SqT.new,rfl,_,_,rfl,_,_,rfl,rfl,?_⟩⟩
  have b1:=s4 _ _ a1
  have b2:=s4 _ _ a2
  have b3:=s4 _ _ a3
  have b4:Kb [t,c] H (upd H' z (.tup [kV cc.1,cc.2])):=λb ob nb e=>s4 _ _ (a4 b ob nb e)
  generalize upd H' z (.tup [kV cc.1,cc.2])=H4 at b1 b2 b3 b4
  have le:=wu8 R (cs.take i)
  have lt:(cs.take i).length≤1000:=by rw [bD];lia
  have et:=wy1 R ec
  have tq':t≠q:=tq
  have step:∀R',ex1 (exK R (cs.take i)) cc=R'→(∃z3' z4',[some (V.ref t),some (V.ref c),some (V.ref q),some (kV cc.1),some cc.2]=[some (V.ref t),some (V.ref c),some (V.ref q),z3',z4'])∧upd H4 t (.dK R') c=some (.frz o' (.dK cs))∧upd H4 t (.dK R') q=some (.dK (bfK R cs))∧upd H4 t (.dK R') t=some (.dK (exK R (cs.take (i+1))))∧Kb [t,c] H (upd H4 t (.dK R')):=λR' e=>by
   refine ⟨⟨_,_,rfl⟩,?_,?_,?_,λb ob nb e'=>?_⟩
   ·rw [wy (aY tc)];exact b1
   ·rw [wy (aY tq')];exact b2
   ·rw [qb,et,e]
   ·rw [wy (λz=>nb (by simp [z]))];exact b4 b ob nb e'
  refine exI rfl ⟨rfl,_,rfl,vb (λhn=>?_) (λhn=>?_)⟩
  ·exact exI rfl (exI rfl ⟨t,_,cc.1,rfl,b3,rfl,ok i cc ec hn,step _ (by unfold ex1;rw [ak hn])⟩)
  ·exact exI rfl (exI rfl (exI rfl ⟨t,exI rfl ⟨DPut.k (k:=cc.1) b3 ⋯,step _ (by unfold ex1;rw [af hn])⟩⟩))
 ·rintro σ H' ⟨⟨z3,z4,rfl⟩,a1,a2,a3,a4⟩
  rw [cF] at a3
  exact exI rfl (k q H' nq0 a2 a3 (.inr ⟨o',a1⟩) a4)
def hF (dr dw dd:Aj):List (Str×V):=[("roads",.ref dr),("walkers",.ref dw),("done",.ref dd)]
variable {dr dw dd:Aj}
theorem jj:(hF dr dw dd).lookup ("roads" : Str)=some (.ref dr):=by unfold hF;rw [aF];simp
theorem ku:(hF dr dw dd).lookup ("walkers" : Str)=some (.ref dw):=by
 unfold hF
 rw [aF,show (("walkers" : Str)==("roads" : Str))=false by decide +kernel]
 dsimp only
 rw [aF]
 simp
theorem Q1:(hF dr dw dd).lookup ("done" : Str)=some (.ref dd):=by
 unfold hF
 rw [aF,show (("done" : Str)==("roads" : Str))=false by decide +kernel]
 dsimp only
 rw [aF,show (("done" : Str)==("walkers" : Str))=false by decide +kernel]
 dsimp only
 rw [aF]
 simp
theorem xu {dr dw dd:Aj}{m:Str}(h1:autoParam (¬ m = "roads") aU7._auto_1)(h2:autoParam (¬ m = "walkers") aU7._auto_1)(h3:autoParam (¬ m = "done") aU7._auto_1):(hF dr dw dd).lookup m=none:=by
 unfold hF
 rw [aF,aQ.mpr h1]
 dsimp only
 rw [aF,aQ.mpr h2]
 dsimp only
 rw [aF,aQ.mpr h3]
 rfl
structure Hse (C:Aj)(H:Hp)(x dr dw dd:Aj)(R W:List (Key×V))(D:List V):Prop where
 ob:∃dx,H x=some (.ins C dx (hF dr dw dd))
 r:H dr=some (.dK R)
 w:H dw=some (.dK W)
 d:H dd=some (.lst D)
 ne:dr≠dw
variable {R W:List (Key×V)}{D:List V}
theorem Hse.kb {x:Aj}(h:Hse C H x dr dw dd R W D){ch:List Aj}(k:Kb ch H H')(n:x∉ch∧dr∉ch∧dw∉ch∧dd∉ch):Hse C H' x dr dw dd R W D:=by
 obtain ⟨dx,e⟩:=h.ob
 exact ⟨⟨dx,k _ _ n.1 e⟩,k _ _ n.2.1 h.r,k _ _ n.2.2.1 h.w,k _ _ n.2.2.2 h.d,h.ne⟩
theorem Hse.same {x:Aj}(h:Hse C H x dr dw dd R W D)(s:Same H H'):Hse C H' x dr dw dd R W D:=h.kb (ch:=[]) (Kb.of s) ⟨aj,aj,aj,aj⟩
def qvr (C:Aj):Sp:=λvs H Q _=>∃x dx,vs=[.ref x]∧H x=some (.ins C dx [])∧∀H' dr dw dd,H dr=none→H dw=none→H dd=none→Hse C H' x dr dw dd [] [] []→Kb [x] H H'→Q .non H'
include T in
theorem wvn (F:Fun K "__init__" "House.__init__" zbk f fd):FK P w K mg base 1 f fd ["self"] (qvr qq):=by
 have sc:=Zz
 refine F.okX sc (λvs H Q E h=>by obtain ⟨_,_,rfl,_⟩:=h;rfl) λ_ _ _ _ H vs Q E hr h=>?_
 obtain ⟨x,dx,rfl,hx,k⟩:=h
 refine ⟨_,(qj (Qk (pv 0) j4 rfl)
   (qj (Qk (pv 0) j4 rfl)
   (qh (Qk (pv 0) (j8 qk) rfl)))),?_⟩
 refine λdr n1=>exI rfl ⟨x,qq,dx,[],rfl,(by rw [wy (wz hx n1)];exact hx),T.clH,T.naHr,(by show 0<1000;decide),?_⟩
 have e1:∀b o,b≠x→H b=some o→upd (upd H dr (.dK [])) x (.ins qq dx (vk "roads" (.ref dr) [])) b=some o:=λb o nb e=>by rw [wy nb,wy (wz e n1)];exact e
 have x1:upd (upd H dr (.dK [])) x (.ins qq dx (vk "roads" (.ref dr) [])) x=some (.ins qq dx (vk "roads" (.ref dr) [])):=qb
 have r1:upd (upd H dr (.dK [])) x (.ins qq dx (vk "roads" (.ref dr) [])) dr=some (.dK []):=by rw [wy (wz hx n1).symm,qb]
 generalize upd (upd H dr (.dK [])) x (.ins qq dx (vk "roads" (.ref dr) []))=H1 at e1 x1 r1
 refine λdw n2=>exI rfl ⟨x,qq,dx,exI rfl ⟨(by rw [wy (wz x1 n2)];exact x1),T.clH,T.naHw,(by show 1<1000;decide),?_⟩⟩
 have xr:x≠dr:=wz hx n1
 have e2:∀b o,b≠x→H1 b=some o→upd (upd H1 dw (.dK [])) x (.ins qq dx (vk "walkers" (.ref dw) (vk "roads" (.ref dr) []))) b=some o:=λb o nb e=>by rw [wy nb,wy (wz e n2)];exact e
 have x2:upd (upd H1 dw (.dK [])) x (.ins qq dx (vk "walkers" (.ref dw) (vk "roads" (.ref dr) []))) x=some (.ins qq dx (vk "walkers" (.ref dw) (vk "roads" (.ref dr) []))):=qb
 have w2:upd (upd H1 dw (.dK [])) x (.ins qq dx (vk "walkers" (.ref dw) (vk "roads" (.ref dr) []))) dw=some (.dK []):=by rw [wy (wz x1 n2).symm,qb]
 have r2:=e2 dr _ xr.symm r1
 generalize upd (upd H1 dw (.dK [])) x (.ins qq dx (vk "walkers" (.ref dw) (vk "roads" (.ref dr) [])))=H2 at e2 x2 w2 r2
 have xw:x≠dw:=wz x1 n2
 refine ⟨sz0,λdd n3=>(exI rfl ⟨x,qq,dx,exI rfl ⟨(by rw [wy (wz x2 n3)];exact x2),T.clH,T.naHd,(by show 2<1000;decide),?_⟩⟩)⟩
 have xd:x≠dd:=wz x2 n3
 have e3:∀b o,b≠x→H2 b=some o→upd (upd H2 dd (.lst [])) x (.ins qq dx (vk "done" (.ref dd) (vk "walkers" (.ref dw) (vk "roads" (.ref dr) [])))) b=some o:=λb o nb e=>by rw [wy nb,wy (wz e n3)];exact e
 have old:∀b o,b≠x→H b=some o→H2 b=some o:=λb o nb e=>e2 b o nb (e1 b o nb e)
 have non:∀b,b≠x→H2 b=none→H b=none:=λb nb e=>by
  cases q:H b with
  |none=>rfl
  |some o=>rw [old b o nb q] at e;cases e
 refine k _ dr dw dd n1 (by
  cases q:H dw with
  |none=>rfl
  |some o=>rw [e1 dw o xw.symm q] at n2;cases n2) (non dd xd.symm n3) ⟨⟨dx,qb⟩,e3 _ _ xr.symm r2,e3 _ _ xw.symm w2,?_,wz r1 n2⟩ λb o nb e=>e3 b o (λz=>nb (by simp [z])) (old b o (λz=>nb (by simp [z])) e)
 rw [wy xd.symm,qb]
def jg (C CN:Aj)(roads:Bool):Sp:=λvs H Q E=>∃(x dr dw dd:Aj) (R W:List (Key×V)) (D:List V) (n:Str),vs=[.ref x,.str n]∧Hse C H x dr dw dd R W D ∧
 (∀v,wf (if roads then R else W) (.inr n)=some v→Q v H)∧(wf (if roads then R else W) (.inr n)=none→E (.ref CN) none H)
include T in
theorem qwd (F:Fun K "road_called" "House.road_called" zbl f fd):FK P w K mg base 1 f fd ["self","name"] (jg qq wx true):=by
 have sc:=Qf
 refine F.okX sc (λvs H Q E h=>by obtain ⟨_,_,_,_,_,_,_,_,rfl,_⟩:=h;rfl) λ_ _ _ _ H vs Q E hr h=>?_
 obtain ⟨x,dr,dw,dd,R,W,D,n,rfl,hh,k,kx⟩:=h
 obtain ⟨dx,hx⟩:=hh.ob
 have dg:DGet H dr (.str n) (wf R (.inr n)):=DGet.k (k:=.inr n) hh.r
 refine ⟨_,(qj (xg (Yq (Qp (vq hr) (pv 1) (zy (pv 0) rfl))) (qh (zm rfl T.zav x9 rfl T.zg2 (xb xp qk))) xx)
   (qh (w9 (jv (vq hr) (zy (pv 0) rfl) (pv 1) (λ_ _=>rfl))))),?_⟩
 refine exI rfl (exI rfl ⟨x,qq,dx,_,_,rfl,hx,T.clH,T.naHr,jj,dr,exI rfl ⟨dg,_,rfl,?_⟩⟩)
 cases e:wf R (.inr n) with
 |none=>exact ut ⟨sz1,kx e⟩
 |some v =>
  rw [e] at dg
  exact yb (exI rfl ⟨x,qq,dx,_,_,rfl,hx,T.clH,T.naHr,jj,exI rfl ⟨dr,v,rfl,dg,k v e⟩⟩)
include T in
theorem Zh (F:Fun K "walker_called" "House.walker_called" zbm f fd):FK P w K mg base 1 f fd ["self","name"] (jg qq qy false):=by
 have sc:=ud
 refine F.okX sc (λvs H Q E h=>by obtain ⟨_,_,_,_,_,_,_,_,rfl,_⟩:=h;rfl) λ_ _ _ _ H vs Q E hr h=>?_
 obtain ⟨x,dr,dw,dd,R,W,D,n,rfl,hh,k,kx⟩:=h
 obtain ⟨dx,hx⟩:=hh.ob
 have dg:DGet H dw (.str n) (wf W (.inr n)):=DGet.k (k:=.inr n) hh.w
 refine ⟨_,(qj (xg (Yq (Qp (vq hr) (pv 1) (zy (pv 0) rfl))) (qh (zm rfl T.zaw x9 rfl T.zg3 (xb xp qk))) xx)
   (qh (w9 (jv (vq hr) (zy (pv 0) rfl) (pv 1) (λ_ _=>rfl))))),?_⟩
 refine exI rfl (exI rfl ⟨x,qq,dx,_,_,rfl,hx,T.clH,T.naHw,ku,dw,exI rfl ⟨dg,_,rfl,?_⟩⟩)
 cases e:wf W (.inr n) with
 |none=>exact ut ⟨sz1,kx e⟩
 |some v =>
  rw [e] at dg
  exact yb (exI rfl ⟨x,qq,dx,_,_,rfl,hx,T.clH,T.naHw,ku,exI rfl ⟨dw,v,rfl,dg,k v e⟩⟩)
def qu7 (C:Aj):Sp:=λvs H Q _=>∃(x dr dw dd c1 c2:Aj) (R W cs1 cs2:List (Key×V)) (D:List V),vs=[.ref x,.ref c1,.ref c2]∧Hse C H x dr dw dd R W D∧Rd H c1 (.dK cs1)∧Rd H c2 (.dK cs2)∧c1≠c2∧c1≠dr∧c1≠dw∧c2≠dr∧c2≠dw ∧
 (cs1.map (·.1)).Nodup∧(cs2.map (·.1)).Nodup∧R.length≤1000∧W.length≤1000∧cs1.length≤1000∧cs2.length≤1000∧D.length≤1000000∧ExOk R cs1∧ExOk W cs2 ∧
 ∀H' tp q1 q2,H tp=none→H q1=none→H q2=none→Hse C H' x dr dw dd (exK R cs1) (exK W cs2) (D++[.ref tp])→H' tp=some (.tup [.ref q1,.ref q2])→H' q1=some (.dK (bfK R cs1))→H' q2=some (.dK (bfK W cs2))→q1≠q2→Rd H' c2 (.dK cs2)→Kb [dr,dw,dd,c1,c2] H H'→Q .non H'
include T in
theorem zhj (F:Fun K "do" "House.do" zbn f fd)(zay:Cal P w K mg base "exchange" 1 qvy):FK P w K mg base 2 f fd ["self","roads","walkers"] (qu7 qq):=by
 have sc:=qjn
 refine F.okX sc (λvs H Q E h=>by obtain ⟨_,_,_,_,_,_,_,_,_,_,_,rfl,_⟩:=h;rfl) λ_ _ _ _ H vs Q E hr h=>?_
 obtain ⟨x,dr,dw,dd,c1,c2,R,W,cs1,cs2,D,rfl,hh,h1,h2,n12,n1r,n1w,n2r,n2w,nd1,nd2,lR,lW,l1,l2,lD,ok1,ok2,k⟩:=h
 obtain ⟨dx,hx⟩:=hh.ob
 have big:(1000000:Nat)<sizeLine:=by decide
 have isI:∀ {b o},Rd H b (.dK o)→x≠b:=λ{b o} hb z=>by
  rcases hb with hb|⟨u,hb⟩ <;> (rw [←z,hx] at hb;cases hb)
 have isD:∀ {b o},Rd H b (.dK o)→dd≠b:=λ{b o} hb z=>by
  rcases hb with hb|⟨u,hb⟩ <;> (rw [←z,hh.d] at hb;cases hb)
 have xr:=isI (.inl hh.r)
 have xw:=isI (.inl hh.w)
 have x1:=isI h1
 have x2:=isI h2
 have dr':=isD (.inl hh.r)
 have dw':=isD (.inl hh.w)
 have d1:=isD h1
 have d2:=isD h2
 refine ⟨_,(qh (zb (u7 bA bL bM j0 (zy (pv 0) rfl) (qx9 (vw (vc (wCA zay (xj (zy (pv 0) rfl) (q9 (pv 1) qk))) (vc (wCA zay (xj (zy (pv 0) rfl) (q9 (pv 2) qk))) qk))) qk)))),?_⟩
 refine exI rfl ⟨x,qq,dx,_,_,rfl,hx,T.clH,T.naHd,Q1,.inl ⟨rfl,_,SqL.of hh.d⟩,?_⟩
 refine exI rfl ⟨x,qq,dx,_,_,rfl,hx,T.clH,T.naHr,jj,exI rfl ⟨dr,c1,R,cs1,rfl,aY n1r,hh.r,h1,nd1,lR,l1,ok1,λq1 H1 nq1 fq1 fr1 fc1 kb1=>?_⟩⟩
 have m1:∀b,b≠dr→b≠c1→b∉[dr,c1]:=λb a1 a2 z=>by
  rcases ag.mp z with z|z
  ·exact a1 z
  ·exact a2 (ay.mp z)
 have hx1:=kb1 _ _ (m1 x xr x1) hx
 have hw1:=kb1 _ _ (m1 dw (aY hh.ne) (aY n1w)) hh.w
 have hd1:=kb1 _ _ (m1 dd dr' d1) hh.d
 have hc2:=kb1.rd (m1 c2 n2r (aY n12)) h2
 refine exI rfl ⟨x,qq,dx,_,_,rfl,hx1,T.clH,T.naHw,ku,exI rfl ⟨dw,c2,W,cs2,rfl,aY n2w,hw1,hc2,nd2,lW,l2,ok2,λq2 H2 nq2 fq2 fw2 fc2 kb2=>?_⟩⟩
 have m2:∀b,b≠dw→b≠c2→b∉[dw,c2]:=λb a1 a2 z=>by
  rcases ag.mp z with z|z
  ·exact a1 z
  ·exact a2 (ay.mp z)
 have q1w:q1≠dw:=λz=>by rw [z,hh.w] at nq1;cases nq1
 have q1c:q1≠c2:=λz=>by rcases h2 with h2|⟨u,h2⟩ <;> (rw [z,h2] at nq1;cases nq1)
 have fq1':=kb2 _ _ (m2 q1 q1w q1c) fq1
 have q12:q1≠q2:=wz fq1 nq2
 have nq2':H q2=none:=by
  cases e:H q2 with
  |none=>rfl
  |some o =>
   by_cases z:q2=dr∨q2=c1
   ·rcases z with z|z
    ·rw [z,fr1] at nq2;cases nq2
    ·rcases fc1 with g|⟨u,g⟩ <;> (rw [z,g] at nq2;cases nq2)
   ·rw [kb1 _ _ (m1 q2 (λy=>z (.inl y)) (λy=>z (.inr y))) e] at nq2;cases nq2
 refine ⟨sz2,λtp ntp=>?_⟩
 have hx2:=kb2 _ _ (m2 x xw x2) hx1
 have hr2:=kb2 _ _ (m2 dr hh.ne (aY n2r)) fr1
 have hd2:=kb2 _ _ (m2 dd dw' d2) hd1
 have old:∀b o,b∉[dr,dw,dd,c1,c2]→H b=some o→H2 b=some o:=λb o nb e=>by
  simp only [ag,aj,bd,not_or] at nb
  exact kb2 _ _ (m2 b nb.2.1 nb.2.2.2.2) (kb1 _ _ (m1 b nb.1 nb.2.2.2.1) e)
 have rd2:∀b,b=dr∨b=dw∨b=dd∨b=c1∨b=c2→H2 b≠none:=λb h z=>by
  rcases h with h|h|h|h|h
  ·rw [h,hr2] at z;cases z
  ·rw [h,fw2] at z;cases z
  ·rw [h,hd2] at z;cases z
  ·by_cases y:c1=dw
   ·exact n1w y
   ·rcases fc1 with g|⟨u,g⟩ <;> (rw [h,kb2 _ _ (m2 c1 n1w n12) g] at z;cases z)
  ·rcases fc2 with g|⟨u,g⟩ <;> (rw [h,g] at z;cases z)
 have ntp0:H tp=none:=by
  cases e:H tp with
  |none=>rfl
  |some o =>
   by_cases z:tp=dr∨tp=dw∨tp=dd∨tp=c1∨tp=c2
   ·exact absurd ntp (rd2 tp z)
   ·rw [old tp o (by simp only [ag,aj,bd];exact z) e] at ntp;cases ntp
 have s3:Same H2 (upd H2 tp (.tup [.ref q1,.ref q2])):=Same.upd ntp
 have ft:upd H2 tp (.tup [.ref q1,.ref q2]) tp=some (.tup [.ref q1,.ref q2]):=qb
 generalize upd H2 tp (.tup [.ref q1,.ref q2])=H3 at s3 ft
 have hd3:=s3 _ _ hd2
 refine ⟨dd,D,_,rfl,rfl,hd3,⋯,?_⟩
 have ne3:∀b o,b≠dd→H3 b=some o→upd H3 dd (.lst (D++[.ref tp])) b=some o:=λb o nb e=>by rw [wy nb];exact e
 have kq:∀b kv,H3 b=some (.dK kv)→b≠dd:=λb kv e z=>by rw [z,hd3] at e;cases e
 have rd3:Rd (upd H3 dd (.lst (D++[.ref tp]))) c2 (.dK cs2):=by
  rcases fc2 with e|⟨u,e⟩
  ·exact .inl (ne3 _ _ (aY d2) (s3 _ _ e))
  ·exact .inr ⟨u,ne3 _ _ (aY d2) (s3 _ _ e)⟩
 refine k _ tp q1 q2 ntp0 nq1 nq2' ⟨⟨dx,ne3 _ _ (λz=>by rw [z] at hx;rw [hh.d] at hx;cases hx) (s3 _ _ hx2)⟩,ne3 _ _ (aY dr') (s3 _ _ hr2),ne3 _ _ (aY dw') (s3 _ _ fw2),qb,hh.ne⟩ (ne3 _ _ (λz=>by rw [z,hd3] at ft;cases ft) ft) (ne3 _ _ (kq _ _ (s3 _ _ fq1')) (s3 _ _ fq1')) (ne3 _ _ (kq _ _ (s3 _ _ fq2)) (s3 _ _ fq2)) q12 rd3 λb o nb e=>?_
 exact ne3 _ _ (λz=>nb (by simp [z])) (s3 _ _ (old b o nb e))
def Jy (C:Aj):Sp:=λvs H Q _=>∃(x dr dw dd:Aj) (R W:List (Key×V)) (D:List V),vs=[.ref x]∧Hse C H x dr dw dd R W D∧Q (.int D.length) H
include T in
theorem wjp (F:Fun K "deeds" "House.deeds" zbt f fd):FK P w K mg base 1 f fd ["self"] (Jy qq):=by
 have sc:=qwn
 refine F.okX sc (λvs H Q E h=>by obtain ⟨_,_,_,_,_,_,_,rfl,_⟩:=h;rfl) λ_ _ _ _ H vs Q E hr h=>?_
 obtain ⟨x,dr,dw,dd,R,W,D,rfl,hh,k⟩:=h
 obtain ⟨dx,hx⟩:=hh.ob
 refine ⟨_,(qh (w9 (wp xk rfl T.len_ aI (xj (zy (pv 0) rfl) qk)))),?_⟩
 exact exI rfl ⟨x,qq,dx,_,_,rfl,hx,T.clH,T.naHd,Q1,dd,exI rfl ⟨.inl (SqL.of hh.d),k⟩⟩
def qvk (D:List V):Prop:=∀v∈D,∃a,v=V.ref a
theorem RoadAt.kb {CH:Aj}(h:RoadAt C H r hs)(ok:xy hs){ch:List Aj}{D:List V}(k:Kb ch H H')(rf:qvk D)(hc:∀b∈ch,(∃kv,Rd H b (.dK kv))∨H b=some (.lst D)):RoadAt C H' r hs:=by
 obtain ⟨dx,q,h1,h2⟩:=h
 refine ⟨dx,q,k _ _ (λz=>?_) h1,k _ _ (λz=>?_) h2⟩
 ·rcases hc r z with ⟨kv,e|⟨o,e⟩⟩|e <;> (rw [h1] at e;cases e)
 ·rcases hc q z with ⟨kv,e|⟨o,e⟩⟩|e
  ·rw [h2] at e;cases e
  ·rw [h2] at e;cases e
  ·rw [h2] at e
   have e:hs.map V.int=D:=by cases e;rfl
   have l:=ok.1
   have m:V.int (hs[0]'⋯)∈hs.map V.int:=aq.mpr ⟨_,bE _,rfl⟩
   rw [e] at m
   obtain ⟨a,ea⟩:=rf _ m
   cases ea
variable {H3:Hp}{c1:Aj}
theorem wyp {c2:Aj}{o1 o2 o3:HO}(n1:H c1=none)(s3:Same (upd H c1 o1) H3)(n2:upd H3 c1 o2 c2=none):Same H (upd (upd H3 c1 o2) c2 o3):=λb o e=>by
 have b1:b≠c1:=wz e n1
 have e3:H3 b=some o:=s3 _ _ (by rw [wy b1];exact e)
 have e4:upd H3 c1 o2 b=some o:=by rw [wy b1];exact e3
 rw [wy (wz e4 n2)]
 exact e4
variable {n:Str}{Q:VK}
theorem wut {CR:Aj}{x:Aj}(hh:Hse C H x dr dw dd R W D)(n1:H c1=none)(s3:Same (upd H c1 (.dK [])) H3)(R3:RoadAt CR H3 r hs)(okl:xy hs)(rf:qvk D)(lR:R.length≤1000)(lW:W.length≤1000)(lD:D.length≤1000000)
  (k:∀H' tp q1 q2,H tp=none→H q1=none→H q2=none→Hse C H' x dr dw dd (z0 R (.inr n) (.ref r)) W (D++[.ref tp])→H' tp=some (.tup [.ref q1,.ref q2])→H' q1=some (.dK [(.inr n,(wf R (.inr n)).getD .non)])→H' q2=some (.dK [])→q1≠q2→RoadAt CR H' r hs→Kb [dr,dw,dd] H H'→Q .non H') :
  ∀c2,upd H3 c1 (.dK [(.inr n,.ref r)]) c2=none→qu7 C [.ref x,.ref c1,.ref c2] (upd (upd H3 c1 (.dK [(.inr n,.ref r)])) c2 (.dK [])) Q E:=by
 intro c2 n2
 have s4:Same H (upd (upd H3 c1 (.dK [(.inr n,.ref r)])) c2 (.dK [])):=wyp n1 s3 n2
 have c12:c1≠c2:=λz=>by rw [←z,qb] at n2;cases n2
 have e1:upd (upd H3 c1 (.dK [(.inr n,.ref r)])) c2 (.dK []) c1=some (.dK [(.inr n,.ref r)]):=by rw [wy c12,qb]
 have e2:upd (upd H3 c1 (.dK [(.inr n,.ref r)])) c2 (.dK []) c2=some (.dK []):=qb
 have h31:H3 c1=some (.dK []):=s3 _ _ qb
 have R4:RoadAt CR (upd (upd H3 c1 (.dK [(.inr n,.ref r)])) c2 (.dK [])) r hs:=by
  obtain ⟨dx,q,a1,a2⟩:=R3
  have keep:∀b o,(∀kv,o≠HO.dK kv)→H3 b=some o→upd (upd H3 c1 (.dK [(.inr n,.ref r)])) c2 (.dK []) b=some o:=λb o no e=>by
   have b1:b≠c1:=λz=>by rw [z,h31] at e;cases e;exact no _ rfl
   have e4:upd H3 c1 (.dK [(.inr n,.ref r)]) b=some o:=by rw [wy b1];exact e
   rw [wy (wz e4 n2)]
   exact e4
  exact ⟨dx,q,keep _ _ (λkv z=>by cases z) a1,keep _ _ (λkv z=>by cases z) a2⟩
 have n20:H c2=none:=by
  cases q:H c2 with
  |none=>rfl
  |some o =>
   have b1:c2≠c1:=aY c12
   rw [wy b1,s3 _ _ (show upd H c1 (.dK []) c2=some o by rw [wy b1];exact q)] at n2
   cases n2
 generalize upd (upd H3 c1 (.dK [(.inr n,.ref r)])) c2 (.dK [])=H4 at s4 e1 e2 R4
 have hh4:=hh.same s4
 refine ⟨x,dr,dw,dd,c1,c2,R,W,[(.inr n,.ref r)],[],D,rfl,hh4,.inl e1,.inl e2,c12,(wz hh.r n1).symm,(wz hh.w n1).symm,(wz hh.r n20).symm,(wz hh.w n20).symm,aU.mpr ⟨aj,bi⟩,bi,lR,lW,by show 1≤1000;decide,aJ _,lD,λi c ec hc=>?_,(λi c ec hc=>nomatch ec),λH' tp q1 q2 a1 a2 a3 a4 a5 a6 a7 a8 _ a9=>?_⟩
 ·cases i with
  |zero=>cases ec;cases hc
  |succ i=>cases ec
 ·have no:∀b,H4 b=none→H b=none:=λb e=>zj s4 e
  have rd:RoadAt CR H' r hs:=R4.kb (CH:=C) okl a9 rf λb hb=>by
   simp only [ag,aj,bd] at hb
   rcases hb with rfl|rfl|rfl|rfl|rfl
   ·exact .inl ⟨_,.inl hh4.r⟩
   ·exact .inl ⟨_,.inl hh4.w⟩
   ·exact .inr hh4.d
   ·exact .inl ⟨_,.inl e1⟩
   ·exact .inl ⟨_,.inl e2⟩
  refine k H' tp q1 q2 (no _ a1) (no _ a2) (no _ a3) a4 a5 a6 a7 a8 rd λb o nb e=>a9 b o (λz=>?_) (s4 _ _ e)
  simp only [ag,aj,bd] at z nb
  rcases z with z|z|z|z|z
  ·exact nb (.inl z)
  ·exact nb (.inr (.inl z))
  ·exact nb (.inr (.inr z))
  ·rw [z,n1] at e;cases e
  ·rw [z,n20] at e;cases e
def RDeed (C CR:Aj)(H H':Hp)(x dr dw dd:Aj)(R W:List (Key×V))(D:List V)(n:Str)(hs:List Int):Prop:=∃r tp q1 q2,H tp=none∧H q1=none∧H q2=none∧Hse C H' x dr dw dd (z0 R (.inr n) (.ref r)) W (D++[.ref tp])∧H' tp=some (.tup [.ref q1,.ref q2])∧H' q1=some (.dK [(.inr n,(wf R (.inr n)).getD .non)])∧H' q2=some (.dK [])∧q1≠q2∧RoadAt CR H' r hs∧Kb [dr,dw,dd] H H'
theorem RDeed.pre {CR:Aj}{H0:Hp}{x:Aj}(h:RDeed C CR H H' x dr dw dd R W D n hs)(s:Same H0 H):RDeed C CR H0 H' x dr dw dd R W D n hs:=by
 obtain ⟨r,tp,q1,q2,a1,a2,a3,a4,a5,a6,a7,a8,a9,b1⟩:=h
 exact ⟨r,tp,q1,q2,zj s a1,zj s a2,zj s a3,a4,a5,a6,a7,a8,a9,λb o nb e=>b1 b o nb (s _ _ e)⟩
def qjj (K:Aa)(C CR CN CT CL:Aj):Sp:=λvs H Q E=>∃(x dr dw dd p:Aj) (R W:List (Key×V)) (D:List V) (n:Str) (hs:List Int),vs=[.ref x,.str n,.ref p]∧Hse C H x dr dw dd R W D∧qvk D∧R.length≤1000∧W.length≤1000∧D.length≤1000000∧n.length≤1000∧H p=some (.lst (hs.map V.int)) ∧
 (zw n=true→wf R (.inr n)=none→xy hs→∀H',RDeed C CR H H' x dr dw dd R W D n hs→Q .non H')∧(zw n=false→∀H',Same H H'→E (.ref CN) none H')∧(zw n=true→(wf R (.inr n)).isSome=true→∀H',Same H H'→E (.ref CT) none H')∧(zw n=true→wf R (.inr n)=none→¬ xy hs→∀H',Same H H'→E (.ref CL) none H')
include T in
theorem zhk (F:Fun K "lay" "House.lay" zbo f fd)(zct:Cal P w K mg base "check_new_name" 2 (Qs qg wj))(zhl:CCal P w K mg base "Road" qc 2 (qvx K qp qc))(zaz:MCal P w K mg base qq "do" 2 (qu7 qq)) :
  FK P w K mg base 4 f fd ["self","name","heights"] (qjj K qq qc qg wj qp):=by
 have sc:=qk1
 refine F.okX sc (λvs H Q E h=>by obtain ⟨_,_,_,_,_,_,_,_,_,_,rfl,_⟩:=h;rfl) λ_ _ _ _ H vs Q E hr h=>?_
 obtain ⟨x,dr,dw,dd,p,R,W,D,n,hs,rfl,hh,rf,lR,lW,lD,ln,hp,k,kn,kt,kl⟩:=h
 obtain ⟨dx,hx⟩:=hh.ob
 refine ⟨_,(qj (zb (wCA zct (q9 (pv 1) (xj (zy (pv 0) rfl) qk))))
   (qh (zb (xm (pv 0) T.clH zaz (hr.mono ⋯) qf (xj (qks (qq6 (pv 1) (qqp zhl (hr.mono ⋯) rfl qf (q9 (pv 2) qk)) qvv) rfl rfl (λz=>nomatch z) ⋯) (xj j4 qk)))))),?_⟩
 refine ⟨_,rfl,_,rfl,x,qq,dx,_,_,rfl,hx,T.clH,T.naHr,jj,n,dr,R,rfl,ln,hh.r,λa1 a2 H1 s1=>?_,kn,kt⟩
 have hh1:=hh.same s1
 refine exI rfl ⟨x,dx,exI rfl ⟨s1 _ _ hx,xu,λc1 n1=>(exI rfl (exI rfl (λr d0 nr nd0 ne0=>xqv (H:=upd H1 c1 (.dK [])) (hs:=hs) (by rw [wy (wz (s1 _ _ hp) n1)];exact s1 _ _ hp) nr nd0 (λokl H3 s3 R3=>?_) λz H3 s3=>kl a1 a2 z H3 (s1.trans (λb o e=>s3 _ _ (by rw [wy (wz e n1)];exact e))))))⟩⟩
 refine ⟨s3 _ _ qb,[(.inr n,.ref r)],rfl,(show 1≤15 by decide),?_⟩
 exact wut (E:=E) hh1 n1 s3 R3 okl rf lR lW lD λH' tp q1 q2 b1 b2 b3 b4 b5 b6 b7 b8 b9 kb=>k a1 a2 okl H' (RDeed.pre ⟨r,tp,q1,q2,b1,b2,b3,b4,b5,b6,b7,b8,b9,kb⟩ s1)
def yt (C CR CN:Aj):Sp:=λvs H Q E=>∃(x dr dw dd:Aj) (R W:List (Key×V)) (D:List V) (n:Str),vs=[.ref x,.str n]∧Hse C H x dr dw dd R W D ∧
 (∀v,wf R (.inr n)=some v→∃r hs,v=.ref r∧RoadAt CR H r hs∧∀p,H p=none→Q (.ref p) (upd H p (.lst (hs.map V.int))))∧(wf R (.inr n)=none→E (.ref CN) none H)
include T in
theorem qx4 (F:Fun K "corners_of" "House.corners_of" zbv f fd)(zcu:MCal P w K mg base qq "road_called" 1 (jg qq wx true))(zhm:MCal P w K mg base qc "corners" 1 (Zg qc)) :
  FK P w K mg base 2 f fd ["self","name"] (yt qq qc wx):=by
 have sc:=Q4
 refine F.okX sc (λvs H Q E h=>by obtain ⟨_,_,_,_,_,_,_,_,rfl,_⟩:=h;rfl) λ_ _ _ _ H vs Q E hr h=>?_
 obtain ⟨x,dr,dw,dd,R,W,D,n,rfl,hh,k,kx⟩:=h
 obtain ⟨dx,hx⟩:=hh.ob
 refine ⟨_,(qh (w9 (zn (xm (pv 0) T.clH zcu (hr.mono ⋯) qf (q9 (pv 1) qk)) T.cl zhm (hr.mono ⋯) qf))),?_⟩
 refine ⟨_,rfl,x,dx,_,rfl,hx,xu,_,rfl,x,dr,dw,dd,R,W,D,n,rfl,hh,λv e=>?_,kx⟩
 obtain ⟨r,hs,rfl,hR,q⟩:=k v e
 obtain ⟨dy,l,h1,h2⟩:=id hR
 exact ⟨r,dy,exI rfl ⟨h1,vm (by decide +kernel),r,hs,rfl,hR,q⟩⟩
def Z5 (C CN:Aj):Sp:=λvs H Q E=>∃(x dr dw dd:Aj) (R W:List (Key×V)) (D:List V),vs=[.ref x]∧Hse C H x dr dw dd R W D∧R.length≤1000∧W.length≤1000∧(D=[]→E (.ref CN) none H) ∧
 (∀D' v,D=D'++[v]→∃tp c1 c2 cs1 cs2,v=.ref tp∧H tp=some (.tup [.ref c1,.ref c2])∧Rd H c1 (.dK cs1)∧Rd H c2 (.dK cs2)∧c1≠c2∧c1≠dr∧c1≠dw∧c2≠dr∧c2≠dw∧(cs1.map (·.1)).Nodup∧(cs2.map (·.1)).Nodup∧cs1.length≤1000∧cs2.length≤1000∧ExOk R cs1∧ExOk W cs2 ∧
  ∀H',Hse C H' x dr dw dd (exK R cs1) (exK W cs2) D'→Rd H' c1 (.dK cs1)→Rd H' c2 (.dK cs2)→Kb [dr,dw,dd,c1,c2] H H'→Q .non H')
include T in
theorem xqb (F:Fun K "take_back" "House.take_back" zbr f fd)(zay:Cal P w K mg base "exchange" 1 qvy):FK P w K mg base 2 f fd ["self"] (Z5 qq qx):=by
 have sc:=Wu
 refine F.okX sc (λvs H Q E h=>by obtain ⟨_,_,_,_,_,_,_,rfl,_⟩:=h;rfl) λ_ _ _ _ H vs Q E hr h=>?_
 obtain ⟨x,dr,dw,dd,R,W,D,rfl,hh,lR,lW,kx,k⟩:=h
 obtain ⟨dx,hx⟩:=hh.ob
 refine ⟨_,(qj (xg (wm vg (wp xk rfl T.len_ aI (xj (zy (pv 0) rfl) qk)) qr (wt _)) (qh (zm rfl T.zam x9 rfl T.zgd (xb xp qk))) xx)
   (qj (js (pe_bm0 bA PySem.F.slot_list_pop PySem.F.type_list_pop mt_pop (zy (pv 0) rfl)) (k9 rfl (xv (xq (i:=1)) (xv (xq (i:=2)) zr))))
   (qj (zb (wCA zay (xj (zy (pv 0) rfl) (q9 (pv 1) qk))))
   (qh (zb (wCA zay (xj (zy (pv 0) rfl) (q9 (pv 2) qk)))))))),?_⟩
 refine exI rfl ⟨x,qq,dx,_,_,rfl,hx,T.clH,T.naHd,Q1,dd,exI rfl ⟨.inl (SqL.of hh.d),rfl,_,rfl,jc (λz=>?_) (λz=>?_)⟩⟩
 ·exact ⟨sz1,kx (dX ⋯)⟩
 ·have ne:D≠[]:=λy=>z (by rw [y];rfl)
  have eD:D=D.dropLast++[D.getLast ne]:=(List.dropLast_concat_getLast ne).symm
  obtain ⟨tp,c1,c2,cs1,cs2,ev,ht,h1,h2,n12,n1r,n1w,n2r,n2w,nd1,nd2,l1,l2,ok1,ok2,k⟩:=k _ _ eD
  have eL:D[D.length-1]?=some (.ref tp):=by rw [←List.getLast?_eq_getElem?,List.getLast?_eq_getLast ne,ev]
  refine exI rfl ⟨x,qq,dx,_,_,rfl,hx,T.clH,T.naHd,Q1,.inl ⟨rfl,_,SqL.of hh.d⟩,dd,D,exI rfl ⟨rfl,hh.d,eL,?_⟩⟩
  have k0:∀b o,b≠dd→H b=some o→upd H dd (.lst D.dropLast) b=some o:=λb o nb e=>by rw [wy nb];exact e
  have d0:upd H dd (.lst D.dropLast) dd=some (.lst D.dropLast):=qb
  have kd:∀b kv,Rd H b (.dK kv)→b≠dd:=λb kv hb y=>by rcases hb with hb|⟨o,hb⟩ <;> (rw [y,hh.d] at hb;cases hb)
  have kx':x≠dd:=λy=>by rw [y,hh.d] at hx;cases hx
  have kt:tp≠dd:=λy=>by rw [y,hh.d] at ht;cases ht
  have rd0:∀b kv,Rd H b (.dK kv)→Rd (upd H dd (.lst D.dropLast)) b (.dK kv):=λb kv hb=>by
   have nb:=kd b kv hb
   rcases hb with hb|⟨o,hb⟩
   ·exact .inl (k0 _ _ nb hb)
   ·exact .inr ⟨o,k0 _ _ nb hb⟩
  have r0:=k0 _ _ (kd _ _ (.inl hh.r)) hh.r
  have w0:=k0 _ _ (kd _ _ (.inl hh.w)) hh.w
  have x0:=k0 _ _ kx' hx
  have t0:=k0 _ _ kt ht
  have h10:=rd0 _ _ h1
  have h20:=rd0 _ _ h2
  have kb0:Kb [dd] H (upd H dd (.lst D.dropLast)):=λb o nb e=>k0 b o (λy=>nb (by simp [y])) e
  have dd1:=kd _ _ h1
  have dd2:=kd _ _ h2
  have ddr:=kd _ _ (.inl hh.r)
  have ddw:=kd _ _ (.inl hh.w)
  generalize upd H dd (.lst D.dropLast)=H0 at d0 r0 w0 x0 t0 h10 h20 kb0
  refine ⟨tp,exI rfl ⟨SqT.of t0,rfl,_,_,rfl,_,_,rfl,rfl,?_⟩⟩
  have isI:∀ {b o},Rd H0 b (.dK o)→x≠b:=λ{b o} hb y=>by rcases hb with hb|⟨u,hb⟩ <;> (rw [←y,x0] at hb;cases hb)
  have xr:=isI (.inl r0)
  have xw:=isI (.inl w0)
  have x1:=isI h10
  have x2:=isI h20
  have m1:∀b,b≠dr→b≠c1→b∉[dr,c1]:=λb a1 a2 y=>by
   rcases ag.mp y with y|y
   ·exact a1 y
   ·exact a2 (ay.mp y)
  have m2:∀b,b≠dw→b≠c2→b∉[dw,c2]:=λb a1 a2 y=>by
   rcases ag.mp y with y|y
   ·exact a1 y
   ·exact a2 (ay.mp y)
  refine exI rfl ⟨x,qq,dx,_,_,rfl,x0,T.clH,T.naHr,jj,exI rfl ⟨dr,c1,R,cs1,rfl,aY n1r,r0,h10,nd1,lR,l1,ok1,λq1 H1 nq1 fq1 fr1 fc1 kb1=>?_⟩⟩
  have hx1:=kb1 _ _ (m1 x xr x1) x0
  have hw1:=kb1 _ _ (m1 dw (aY hh.ne) (aY n1w)) w0
  have hd1:=kb1 _ _ (m1 dd (aY ddr) (aY dd1)) d0
  have hc2:=kb1.rd (m1 c2 n2r (aY n12)) h20
  refine exI rfl ⟨x,qq,dx,_,_,rfl,hx1,T.clH,T.naHw,ku,exI rfl ⟨dw,c2,W,cs2,rfl,aY n2w,hw1,hc2,nd2,lW,l2,ok2,λq2 H2 nq2 fq2 fw2 fc2 kb2=>?_⟩⟩
  refine k H2 ⟨⟨dx,kb2 _ _ (m2 x xw x2) hx1⟩,kb2 _ _ (m2 dr hh.ne (aY n2r)) fr1,fw2,kb2 _ _ (m2 dd (aY ddw) (aY dd2)) hd1,hh.ne⟩ (kb2.rd (m2 c1 n1w n12) fc1) fc2 λb o nb e=>?_
  simp only [ag,aj,bd,not_or] at nb
  exact kb2 _ _ (m2 b nb.2.1 nb.2.2.2.2) (kb1 _ _ (m1 b nb.1 nb.2.2.2.1) (kb0 b o (by simpa using nb.2.2.1) e))
def wF (n:Str)(p t:Aj):List (Str×V):=[("whose",.str n),("point",.ref p),("times",.ref t)]
theorem Wy {t:Aj}:(wF n p t).lookup ("whose" : Str)=some (.str n):=by unfold wF;rw [aF];simp
theorem Wj {t:Aj}:(wF n p t).lookup ("point" : Str)=some (.ref p):=by
 unfold wF
 rw [aF,show (("point" : Str)==("whose" : Str))=false by decide +kernel]
 dsimp only
 rw [aF]
 simp
theorem Jg {t:Aj}:(wF n p t).lookup ("times" : Str)=some (.ref t):=by
 unfold wF
 rw [aF,show (("times" : Str)==("whose" : Str))=false by decide +kernel]
 dsimp only
 rw [aF,show (("times" : Str)==("point" : Str))=false by decide +kernel]
 dsimp only
 rw [aF]
 simp
theorem wvk {t:Aj}{m:Str}(h1:¬ m = "whose")(h2:¬ m = "point")(h3:¬ m = "times"):(wF n p t).lookup m=none:=by
 unfold wF
 rw [aF,aQ.mpr h1]
 dsimp only
 rw [aF,aQ.mpr h2]
 dsimp only
 rw [aF,aQ.mpr h3]
 rfl
structure WkAt (C:Aj)(H:Hp)(y:Aj)(n:Str)(p:Aj)(pt:Int×Int)(t:Aj)(tv:List (List Key×V)):Prop where
 ob:∃dx,H y=some (.ins C dx (wF n p t))
 pt:H p=some (.tup [.int pt.1,.int pt.2])
 tm:H t=some (.dT tv)
variable {y:Aj}{tv:List (List Key×V)}
theorem WkAt.kb {pt:Int×Int}{t:Aj}(h:WkAt C H y n p pt t tv){ch:List Aj}(k:Kb ch H H')(hc:∀b∈ch,(∃kv,Rd H b (.dK kv))∨∃D,H b=some (.lst D)):WkAt C H' y n p pt t tv:=by
 have no:∀b o,(∀kv,o≠HO.dK kv)→(∀u kv,o≠HO.frz u (.dK kv))→(∀D,o≠HO.lst D)→H b=some o→H' b=some o:=λb o a1 a2 a3 e=>k _ _ (λz=>by
  rcases hc b z with ⟨kv,q|⟨u,q⟩⟩|⟨D,q⟩
  ·rw [e] at q;cases q;exact a1 _ rfl
  ·rw [e] at q;cases q;exact a2 _ _ rfl
  ·rw [e] at q;cases q;exact a3 _ rfl) e
 obtain ⟨dx,e⟩:=h.ob
 exact ⟨⟨dx,no _ _ (λ_ z=>by cases z) (λ_ _ z=>by cases z) (λ_ z=>by cases z) e⟩,no _ _ (λ_ z=>by cases z) (λ_ _ z=>by cases z) (λ_ z=>by cases z) h.pt,no _ _ (λ_ z=>by cases z) (λ_ _ z=>by cases z) (λ_ z=>by cases z) h.tm⟩
theorem WkAt.same {pt:Int×Int}{t:Aj}(h:WkAt C H y n p pt t tv)(s:Same H H'):WkAt C H' y n p pt t tv:=h.kb (ch:=[]) (Kb.of s) λb z=>nomatch z
def TmOk (tv:List (List Key×V)):Prop:=tv≠[]∧(tv.map (·.1)).Nodup∧∀q∈tv,∃a b c:Int,q=([.inl a,.inl b],.int c)∧0≤a∧a≤960∧1≤b∧b≤40
theorem TmOk.hash (h:TmOk tv):(tv.map λp=>Q9 P w p.1).Nodup:=by
 obtain ⟨_,nd,all⟩:=h
 have e:(tv.map λp=>Q9 P w p.1)=(tv.map (·.1)).map (Q9 P w):=by rw [aZ];rfl
 rw [e]
 refine bI.mpr (bW (λ{x y} hx hy hne z=>hne ?_) nd)
 obtain ⟨p,hp,rfl⟩:=aq.mp hx
 obtain ⟨q,hq,rfl⟩:=aq.mp hy
 obtain ⟨a,b,c,rfl,a0,a1,b0,b1⟩:=all p hp
 obtain ⟨a',b',c',rfl,a0',a1',b0',b1'⟩:=all q hq
 obtain ⟨e1,e2⟩:=wvu a0 a1 b0 b1 a0' a1' b0' b1' z
 show ([.inl a,.inl b]:List Key)=[.inl a',.inl b']
 rw [e1,e2]
theorem TmOk.len (h:TmOk tv):tv.length≤40000:=by
 obtain ⟨_,nd,all⟩:=h
 let g:List Key→Nat:=λk=>match k with|[.inl a,.inl b]=>a.toNat*41+b.toNat|_=>0
 have m:∀x∈tv.map (·.1),∃a b:Int,x=[.inl a,.inl b]∧0≤a∧a≤960∧1≤b∧b≤40:=λx hx=>by
  obtain ⟨p,hp,rfl⟩:=aq.mp hx
  obtain ⟨a,b,c,rfl,r⟩:=all p hp
  exact ⟨a,b,rfl,r⟩
 have nd2:((tv.map (·.1)).map g).Nodup:=by
  refine bI.mpr (bW (λ{x y} hx hy hne z=>hne ?_) nd)
  obtain ⟨a,b,rfl,a0,a1,b0,b1⟩:=m x hx
  obtain ⟨a',b',rfl,a0',a1',b0',b1'⟩:=m y hy
  have z:a.toNat*41+b.toNat=a'.toNat*41+b'.toNat:=z
  have e1:a=a':=by lia
  have e2:b=b':=by lia
  rw [e1,e2]
 have:=L2.qvf ((tv.map (·.1)).map g) (List.range 39401) nd2 λv hv=>?_
 ·rw [aa,aa,aN] at this
  lia
 ·obtain ⟨x,hx,rfl⟩:=aq.mp hv
  obtain ⟨a,b,rfl,a0,a1,b0,b1⟩:=m x hx
  refine aS.mpr ?_
  show a.toNat*41+b.toNat<39401
  lia
theorem TmOk.one {a b:Int}(a0:0≤a)(a1:a≤960)(b0:1≤b)(b1:b≤40):TmOk [([.inl a,.inl b],.int 1)]:=⟨λz=>(nomatch z),aU.mpr ⟨aj,bi⟩,λq hq=>⟨a,b,1,ay.mp hq,a0,a1,b0,b1⟩⟩
theorem TmOk.put (h:TmOk tv){a b c:Int}(a0:0≤a)(a1:a≤960)(b0:1≤b)(b1:b≤40):TmOk (z0 tv [.inl a,.inl b] (.int c)):=by
 obtain ⟨ne,nd,all⟩:=h
 unfold z0
 split
 ·refine ⟨λz=>ne (List.map_eq_nil_iff.mp z),?_,λq hq=>?_⟩
  ·have:(tv.map λkv=>if kv.1=[Sum.inl a,Sum.inl b] then (kv.1,V.int c) else kv).map (·.1)=tv.map (·.1):=by
    rw [aZ]
    refine cf λx _=>?_
    show (if x.1=[Sum.inl a,Sum.inl b] then (x.1,V.int c) else x).1=x.1
    split <;> rfl
   rw [this]
   exact nd
  ·obtain ⟨x,hx,rfl⟩:=aq.mp hq
   obtain ⟨a',b',c',rfl,r⟩:=all x hx
   show ∃a_1 b_1 c_1:Int,(if ([Sum.inl a',Sum.inl b']:List Key)=[Sum.inl a,Sum.inl b] then (([Sum.inl a',Sum.inl b']:List Key),V.int c) else ([Sum.inl a',Sum.inl b'],V.int c'))=([.inl a_1,.inl b_1],.int c_1)∧_
   split
   ·exact ⟨a',b',c,rfl,r⟩
   ·exact ⟨a',b',c',rfl,r⟩
 ·rename_i hn
  refine ⟨dC _ (cH _ _),?_,λq hq=>?_⟩
  ·rw [aO,eZ]
   refine ⟨nd,aU.mpr ⟨aj,bi⟩,λx hx y hy z=>hn ?_⟩
   obtain ⟨p,hp,rfl⟩:=aq.mp hx
   have hy:y=[Sum.inl a,Sum.inl b]:=ay.mp hy
   exact List.any_eq_true.mpr ⟨p,hp,aX (z.trans hy)⟩
  ·rcases bq.mp hq with hq|hq
   ·exact all q hq
   ·exact ⟨a,b,c,ay.mp hq,a0,a1,b0,b1⟩
def stN (n u m f:Nat):Nat:=if m<f then 0 else (if f<u then 1 else (m-f)/(n-u)+1)-(if f=0 then 1 else 0)
variable {L:Nat}
theorem qj5 {m:Int}{t:Nat}(h:(t:Int)≤m):(m-t)/(L:Int)=(((m.toNat-t)/L:Nat):Int):=by
 rw [show m-(t:Int)=((m.toNat-t:Nat):Int) by lia]
 push_cast
 rfl
def wjg:Sp:=λvs H Q _=>∃(f u n:Nat) (m:Int),vs=[.int f,.int u,.int n,.int m]∧f<n∧u<n∧n≤1000∧0≤m∧Q (.int (stN n u m.toNat f)) H
include T in
theorem zhn (F:Fun K "led_to" "led_to" za6 f fd):FK P w K mg base 1 f fd ["place","turn","size","many"] wjg:=by
 have sc:=wxm
 refine F.okX sc (λvs H Q E h=>by obtain ⟨_,_,_,_,rfl,_⟩:=h;rfl) λ_ _ _ _ H vs Q E hr h=>?_
 obtain ⟨f,u,n,m,rfl,hf,u1,n1,m0,k⟩:=h
 refine ⟨_,(qj (xg (wm uq (pv 0) (pv 3) (wt _)) (qh (w9 qr)) xx)
   (qj (w4 (i:=4) (qq8 (wm yh (pv 0) (pv 1) (wt _)) qr (wb xz (wb ju (wb zt (pv 3) (pv 0)) (wb zt (pv 2) (pv 1))) qr)))
   (qh (w9 (qq8 (wm vg (pv 0) qr (wt _)) (wb zt (pv 4) qr) (pv 4)))))),?_⟩
 refine exI rfl (exI rfl (wg rfl rfl (exI rfl (vb (λz=>?_) (λz=>?_)))))
 ·unfold stN at k
  rw [ak ⋯] at k
  exact k
 ·have fm:(f:Int)≤m:=by lia
  have res:∀x:Int,x=(if f<u then 1 else (((m.toNat-f)/(n-u):Nat):Int)+1)-(if f=0 then 1 else 0)→Q (.int x) H:=λx hx=>by
   have e:x=(stN n u m.toNat f:Nat):=by
    unfold stN
    rw [af ⋯,hx]
    generalize (m.toNat-f)/(n-u)=D
    by_cases y1:f<u <;> by_cases y2:f=0
    ·simp only [ak y1,ak y2];lia
    ·simp only [ak y1,af y2];lia
    ·simp only [af y1,ak y2];lia
    ·simp only [af y1,af y2];lia
   rw [e]
   exact k
  refine exI rfl (exI rfl (wg rfl rfl (exI rfl (vb (λy1=>?_) (λy1=>?_)))))
  ·refine exI rfl ⟨rfl,_,rfl,jc (λy2=>?_) (λy2=>?_)⟩
   ·refine exI rfl (wg rfl rfl (res _ ?_))
    rw [ak ⋯,ak ⋯]
   ·refine exI rfl (res _ ?_)
    rw [ak ⋯,af ⋯]
    rfl
  ·refine exI rfl (exI rfl (wg rfl rfl (exI rfl (exI rfl (wg rfl rfl ?_)))))
   refine wg rfl rfl ⟨⟨⋯,(Sm.small (n:=65) ⋯ ⋯ ⋯).mono ⋯⟩,wg rfl rfl ?_⟩
   have ev:(m-(f:Int))/((n:Int)-u)=(((m.toNat-f)/(n-u):Nat):Int):=by
    rw [←qj5 fm,show ((n-u:Nat):Int)=(n:Int)-u by lia]
   rw [ev]
   refine exI rfl ⟨rfl,_,rfl,jc (λy2=>?_) (λy2=>?_)⟩
   ·refine exI rfl (wg rfl rfl (res _ ?_))
    rw [af ⋯,ak ⋯]
   ·refine exI rfl (res _ ?_)
    rw [af ⋯,af ⋯]
    lia
def W5 (C:Aj):Sp:=λvs H Q _=>∃(y dx p t:Aj) (n:Str),vs=[.ref y,.str n,.ref p,.ref t]∧H y=some (.ins C dx [])∧∀H',H' y=some (.ins C dx (wF n p t))→Kb [y] H H'→Q .non H'
include T in
theorem wvr (F:Fun K "__init__" "Walker.__init__" zbe f fd):FK P w K mg base 1 f fd ["self","whose","point","times"] (W5 qw):=by
 have sc:=Wv
 refine F.okX sc (λvs H Q E h=>by obtain ⟨_,_,_,_,_,rfl,_⟩:=h;rfl) λ_ _ _ _ H vs Q E hr h=>?_
 obtain ⟨y,dx,p,t,n,rfl,hy,k⟩:=h
 refine ⟨_,(qj (Qk (pv 0) (pv 1) rfl)
   (qj (Qk (pv 0) (pv 2) rfl)
   (qh (Qk (pv 0) (pv 3) rfl)))),?_⟩
 refine exI rfl (exI rfl ⟨y,qw,dx,[],rfl,hy,T.clW,T.naWw,(by show 0<1000;decide),?_⟩)
 refine exI rfl (exI rfl ⟨y,qw,dx,exI rfl ⟨qb,T.clW,T.naWp,(by show 1<1000;decide),?_⟩⟩)
 refine exI rfl (exI rfl ⟨y,qw,dx,exI rfl ⟨qb,T.clW,T.naWt,(by show 2<1000;decide),?_⟩⟩)
 refine k _ qb λb o nb e=>?_
 have nb:b≠y:=λz=>nb (by simp [z])
 rw [wy nb,wy nb,wy nb]
 exact e
theorem qzb {t:Aj}{Pp:Hp→Prop}(ny:H y=none)(nd:H dx=none)(k:∀H',Same H H'→(∃dx,H' y=some (.ins C dx (wF n p t)))→Pp H') :
  W5 C [.ref y,.str n,.ref p,.ref t] (upd (upd H dx (.own y)) y (.ins C dx [])) (λr H2=>r=.non∧Pp H2) E:=by
 refine ⟨y,dx,p,t,n,rfl,qb,λH' e kb=>⟨rfl,k H' (λb o eb=>kb b o (λz=>?_) ?_) ⟨dx,e⟩⟩⟩
 ·rw [ay.mp z,ny] at eb;cases eb
 ·rw [wy (wz eb ny),wy (wz eb nd)]
  exact eb
def Zp (C:Aj):Sp:=λvs H Q _=>∃(n:Str) (p:Aj) (pt:Int×Int),vs=[.str n,.ref p]∧H p=some (.tup [.int pt.1,.int pt.2])∧∀H' y t,H y=none→Same H H'→WkAt C H' y n p pt t [([.inl pt.1,.inl pt.2],.int 1)]→Q (.ref y) H'
include T in
theorem qyh (F:Fun K "set_down" "set_down" zbg f fd)(zcv:CCal P w K mg base "Walker" qw 1 (W5 qw)):FK P w K mg base 3 f fd ["whose","point"] (Zp qw):=by
 have sc:=qy4
 refine F.okX sc (λvs H Q E h=>by obtain ⟨_,_,_,rfl,_⟩:=h;rfl) λ_ _ _ _ H vs Q E hr h=>?_
 obtain ⟨n,p,pt,rfl,hp,k⟩:=h
 refine ⟨_,(qh (w9 (qqp zcv (hr.mono ⋯) rfl qf (q9 (pv 0) (q9 (pv 1) (xj (wv6 hr.units0 (pv 1) qr) qk)))))),?_⟩
 refine exI rfl (exI rfl (λt nt=>(exI rfl ⟨p,[.inl pt.1,.inl pt.2],rfl,(by rw [wy (wz hp nt)];exact hp),qb,?_⟩)))
 have s1:Same H (upd (upd H t (.dT [])) t (.dT [([.inl pt.1,.inl pt.2],.int 1)])):=by
  rw [Q0]
  exact Same.upd nt
 have f1:upd (upd H t (.dT [])) t (.dT [([.inl pt.1,.inl pt.2],.int 1)]) t=some (.dT [([.inl pt.1,.inl pt.2],.int 1)]):=qb
 generalize upd (upd H t (.dT [])) t (.dT [([.inl pt.1,.inl pt.2],.int 1)])=H1 at s1 f1
 exact λy dx ny nd ne=>qzb ny nd λH' s2 e=>k H' y t (zj s1 ny) (s1.trans s2) ⟨e,s2 _ _ (s1 _ _ hp),s2 _ _ f1⟩
def HPt (hs:List Int)(pt:Int×Int):Prop:=xy hs∧Pt hs pt.2 pt∧pt.2≤40
theorem HPt.rng {pt:Int×Int}(h:HPt hs pt):0≤pt.1∧pt.1≤960∧1≤pt.2∧pt.2≤40:=by
 obtain ⟨ok,⟨h1,_,_,h0,h2⟩,h3⟩:=h
 have ol:=ok.2.1
 have o1:=ok.1
 have:((hs.length:Int)-1)*pt.2≤24*pt.2:=aV ⋯ ⋯
 lia
theorem HPt.it {pt:Int×Int}(h:HPt hs pt)(n:Nat):HPt hs (itP hs pt n):=by
 have a:=wz8 h.1 h.2.1 n
 have:=h.2.2
 have:=a.2.1
 exact ⟨h.1,⟨a.1,Int.le_refl _,a.2.2.1,a.2.2.2⟩,⋯⟩
theorem HPt.short {pt:Int×Int}(h:HPt hs pt):¬ Dist (itP hs pt) 1001:=λd=>by
 have r:=h.rng
 obtain ⟨ok,hp,h3⟩:=h
 have ol:=ok.2.1
 have o1:=ok.1
 have inj:∀i j,trT hs pt.1 pt.2 i=trT hs pt.1 pt.2 j→itP hs pt i=itP hs pt j:=λi j e=>(it_eq hp i j).mpr e
 have nd:((List.range 1001).map λi=>(trT hs pt.1 pt.2 i).toNat).Nodup:=by
  refine bI.mpr (bW (λ{i j} hi hj hij z=>?_) (dL (n:=1001)))
  have a:=Z4 ok hp.1 hp.2.2.2 i
  have b:=Z4 ok hp.1 hp.2.2.2 j
  have a0:=a.1
  have b0:=b.1
  exact d i j hij (aS.mp hj) (inj i j ⋯)
 have:=L2.qvf _ (List.range 961) nd λv hv=>by
  obtain ⟨i,_,rfl⟩:=aq.mp hv
  have a:=Z4 ok hp.1 hp.2.2.2 i
  have a0:=a.1
  have a1:=a.2
  have:((hs.length:Int)-1)*pt.2≤24*pt.2:=aV ⋯ ⋯
  exact aS.mpr ⋯
 rw [aa,aN,aN] at this
 lia
def Qy (tv:List (List Key×V))(q:Int×Int):Int:=match (wf tv [.inl q.1,.inl q.2]).getD (.int 0) with|.int c=>c|_=>0
def HitI (hs:List Int)(pt:Int×Int)(n u m i:Nat)(tv tv':List (List Key×V)):Prop:=(∀f,f<i→Qy tv' (itP hs pt f)=Qy tv (itP hs pt f)+stN n u m f)∧∀q,(∀f,f<i→itP hs pt f≠q)→Qy tv' q=Qy tv q
def Hits (hs:List Int)(pt:Int×Int)(m:Nat)(tv tv':List (List Key×V)):Prop:=∃n u,n≤1000∧Dist (itP hs pt) n∧u<n∧itP hs pt n=itP hs pt u∧HitI hs pt n u m n tv tv'
theorem qky {q q':Int×Int}:Qy (z0 tv [.inl q.1,.inl q.2] (.int c)) q'=if q=q' then c else Qy tv q':=by
 unfold Qy
 by_cases h:q=q'
 ·subst h
  rw [ak rfl,uk,ak rfl]
  rfl
 ·rw [af h,uk,af]
  intro z
  apply h
  injection z with z1 z2
  injection z2 with z2 _
  injection z1 with z1
  injection z2 with z2
  exact Prod.ext z1.symm z2.symm
variable {tv':List (List Key×V)}
theorem HitI.next {pt:Int×Int}{n:Nat}(h:HitI hs pt n u m i tv tv')(d:Dist (itP hs pt) n)(hi:i<n)(e:stN n u m i=0):HitI hs pt n u m (i+1) tv tv':=by
 have ne:∀f,f<i→itP hs pt f≠itP hs pt i:=λf hf=>d f i hf hi
 refine ⟨λf hf=>?_,λq hq=>h.2 q λf hf=>hq f ⋯⟩
 by_cases z:f=i
 ·subst z
  rw [h.2 _ ne,e]
  lia
 ·exact h.1 f ⋯
theorem HitI.put {pt:Int×Int}{n:Nat}(h:HitI hs pt n u m i tv tv')(d:Dist (itP hs pt) n)(hi:i<n)(ec:(wf tv' [.inl (itP hs pt i).1,.inl (itP hs pt i).2]).getD (.int 0)=.int c):HitI hs pt n u m (i+1) tv (z0 tv' [.inl (itP hs pt i).1,.inl (itP hs pt i).2] (.int (c+stN n u m i))):=by
 have ne:∀f,f<i→itP hs pt f≠itP hs pt i:=λf hf=>d f i hf hi
 have e0:Qy tv' (itP hs pt i)=c:=by unfold Qy;rw [ec]
 have e1:=h.2 _ ne
 refine ⟨λf hf=>?_,λq hq=>?_⟩
 ·rw [qky]
  by_cases z:f=i
  ·subst z
   rw [ak rfl,←e1,e0]
  ·rw [af (λy=>ne f ⋯ y.symm)]
   exact h.1 f ⋯
 ·rw [qky,af (hq i ⋯)]
  exact h.2 q λf hf=>hq f ⋯
def qun (C CR:Aj):Sp:=λvs H Q _=>∃(y r p t:Aj) (n:Str) (hs:List Int) (pt:Int×Int) (tv:List (List Key×V)) (m:Int),vs=[.ref y,.ref r,.int m]∧WkAt C H y n p pt t tv∧TmOk tv∧RoadAt CR H r hs∧HPt hs pt∧0≤m ∧
 ∀H' y' p' t' tv',H y'=none→Same H H'→WkAt C H' y' n p' (itP hs pt m.toNat) t' tv'→TmOk tv'→Hits hs pt m.toNat tv tv'→Q (.ref y') H'
include T in
theorem wu4 (F:Fun K "gone" "Walker.gone" zbf f fd)(zho:Cal P w K mg base "trace" 5 (qkz qc q8))(zhp:Cal P w K mg base "led_to" 1 wjg)(zhq:Cal P w K mg base "spot" 1 qu4)(zcv:CCal P w K mg base "Walker" qw 1 (W5 qw)) :
  FK P w K mg base 6 f fd ["self","road","many"] (qun qw qc):=by
 have sc:=qw0
 refine F.okX sc (λvs H Q E h=>by obtain ⟨_,_,_,_,_,_,_,_,_,rfl,_⟩:=h;rfl) λ_ _ _ _ H vs Q E hr h=>?_
 obtain ⟨y,r,p,t,n,hs,pt,tv,m,rfl,hW,hT,hR,hP,m0,k⟩:=h
 obtain ⟨dy,hy⟩:=hW.ob
 have rg:=hP.rng
 have big:(1000000:Nat)<sizeLine:=by decide
 refine ⟨_,(qj (js (wCA zho (q9 (pv 1) (xj (zy (pv 0) rfl) qk))) (k9 rfl (xv (xq (i:=3)) (xv (xq (i:=4)) zr))))
   (qj (w4 (i:=5) (zu wqy rfl T.dict_ PyProof.Rows.boot_dict (xj (zy (pv 0) rfl) qk)))
   (qj (vf aE rfl (wuh rfl T.enumerate_ (q9 (pv 3) qk)) (k9 rfl (xv (xq (i:=6)) (xv (xq (i:=7)) zr))) (qj (w4 (i:=8) (wCA zhp (q9 (pv 6) (q9 (pv 4) (vc (wp xk rfl T.len_ aI (q9 (pv 3) qk)) (q9 (pv 2) qk))))))
   (qh (xg (wm uq (pv 8) qr (wt _)) (qh (Qh (vq hr) (pv 5) (pv 7) (wb xz (qk9 (vq hr) (pv 5) (pv 7) qr ⟨rfl,rfl,rfl,rfl⟩) (pv 8)) rfl)) xx))))
   (qh (w9 (qqp zcv (hr.mono ⋯) rfl qf (xj (zy (pv 0) rfl) (vc (wCA zhq (q9 (pv 3) (q9 (pv 4) (q9 (pv 2) qk)))) (q9 (pv 5) qk))))))))),?_⟩
 refine ⟨_,rfl,_,rfl,y,qw,dy,_,_,rfl,hy,T.clW,T.naWp,Wj,r,p,hs,pt,pt.2,rfl,hR,hP.1,hW.pt,hP.2.1,(Sm.small (n:=65) ⋯ ⋯ ⋯).mono ⋯,λnn u q l H1 n1 d1 u1 e1 s1 nl fq pa=>?_,λd=>absurd d hP.short⟩
 refine ⟨q,exI rfl ⟨SqT.of fq,rfl,_,_,rfl,_,_,rfl,rfl,?_⟩⟩
 obtain ⟨ys,fl,pr⟩:=id pa
 have hl:ys.length=nn:=by rw [pr.length,qyx]
 have y1:=s1 _ _ hy
 refine exI rfl ⟨y,qw,dy,_,_,rfl,y1,T.clW,T.naWt,Jg,t,tv,rfl,s1 _ _ hW.tm,hT.1,hT.hash,λt2 nt2=>?_⟩
 have s2:Same H1 (upd H1 t2 (.dT tv)):=Same.upd nt2
 have f2:upd H1 t2 (.dT tv) t2=some (.dT tv):=qb
 have nt20:H t2=none:=zj s1 nt2
 have tl:t2≠l:=(wz fl nt2).symm
 generalize hH2:upd H1 t2 (.dT tv)=H2 at s2 f2
 refine exI rfl ⟨l,ys,rfl,SqL.of (s2 _ _ fl),?_⟩
 refine for_en (λi σ H'=>(∃z6 z7 z8,σ=[some (.ref y),some (.ref r),some (.int m),some (.ref l),some (.int ((u:Nat):Int)),some (.ref t2),z6,z7,z8])∧(∃tv',H' t2=some (.dT tv')∧TmOk tv'∧HitI hs pt nn u m.toNat i tv tv')∧Kb [t2] H1 H') ⟨⟨_,_,_,rfl⟩,⟨tv,f2,hT,(λf z=>absurd z (fQ _)),λ_ _=>rfl⟩,Kb.of s2⟩ (λi σ H' hi h=>SqL.of (h.2.2 _ _ (by simpa using tl.symm) fl)) ?_ ?_
 ·rintro i v z σ H' ev nz ⟨⟨z6,z7,z8,rfl⟩,⟨tv',ft,hT',hit⟩,kb⟩
  have hi:i<nn:=by rw [←hl];exact (aR.mp ev).1
  obtain ⟨a,ea,fa⟩:=qu9 (i:=i) pr hi
  rw [ev] at ea
  cases ea
  have sz:Same H' (upd H' z (.tup [.int ((i:Nat):Int),.ref a])):=Same.upd nz
  refine ⟨z,exI rfl ⟨SqT.new,rfl,_,_,rfl,_,_,rfl,rfl,?_⟩⟩
  have ft3:=sz _ _ ft
  have kb3:Kb [t2] H1 (upd H' z (.tup [.int ((i:Nat):Int),.ref a])):=kb.trans (Kb.of sz)
  generalize upd H' z (.tup [.int ((i:Nat):Int),.ref a])=H3 at ft3 kb3
  have at2:a≠t2:=wz fa nt2
  have fl3:=kb3 _ _ (by simpa using tl.symm) fl
  have fa3:H3 a=some (.tup (([.inl (itP hs pt i).1,.inl (itP hs pt i).2]:List Key).map kV)):=kb3 _ _ (by simpa using at2) fa
  have rgi:=(hP.it i).rng
  refine exI rfl (exI rfl (exI rfl ⟨_,_,rfl,.inl (SqL.of fl3),exI rfl ⟨i,u,nn,m,?_,hi,u1,n1,m0,exI rfl (wg rfl rfl (exI rfl (vb (λg=>?_) (λg=>?_))))⟩⟩))
  ·rw [hl]
  ·have dg:=DGet.t ft3 fa3
   have key:∃c:Int,(wf tv' [.inl (itP hs pt i).1,.inl (itP hs pt i).2]).getD (.int 0)=.int c:=by
    cases e:wf tv' [.inl (itP hs pt i).1,.inl (itP hs pt i).2] with
    |none=>exact ⟨0,rfl⟩
    |some v =>
     have hm:∃kv∈tv',kv.2=v:=by
      unfold wf at e
      cases hf:tv'.find? λkv=>decide (kv.1=[Sum.inl (itP hs pt i).1,Sum.inl (itP hs pt i).2]) with
      |none=>rw [hf] at e;cases e
      |some kv =>
       rw [hf] at e
       exact ⟨kv,dj hf,az e⟩
     obtain ⟨kv,hk,rfl⟩:=hm
     obtain ⟨a',b',c',rfl,_⟩:=hT'.2.2 kv hk
     exact ⟨c',rfl⟩
   obtain ⟨c,ec⟩:=key
   refine exI rfl ⟨t2,rfl,.inr ⟨_,.inl ft3⟩,exI rfl ⟨_,dg,_,rfl,?_⟩⟩
   rw [ec]
   refine wg rfl rfl (exI rfl (exI rfl ⟨t2,exI rfl ⟨DPut.t ft3 fa3 (by have:=hT'.len;lia),⟨_,_,_,rfl⟩,⟨_,qb,hT'.put rgi.1 rgi.2.1 rgi.2.2.1 rgi.2.2.2,hit.put d1 hi ec⟩,λb o nb e=>?_⟩⟩))
   rw [wy (by simpa using nb)]
   exact kb3 b o nb e
  ·exact ⟨⟨_,_,_,rfl⟩,⟨tv',ft3,hT',hit.next d1 hi ⋯⟩,kb3⟩
 ·rintro σ H' ⟨⟨z6,z7,z8,rfl⟩,⟨tv',ft,hT',hit⟩,kb⟩
  rw [hl] at hit
  have keep:∀b o,H1 b=some o→H' b=some o:=λb o e=>kb b o (by simpa using wz e nt2) e
  refine exI rfl ⟨y,qw,dy,_,_,rfl,keep _ _ y1,T.clW,T.naWw,Wy,exI rfl (exI rfl (exI rfl ⟨l,hs,pt,nn,u,m,rfl,⟨n1,d1,u1,e1,pa.same keep⟩,m0,λa fa=>(exI rfl (λy' dx' ny' nd' ne'=>qzb ny' nd' λH4 s4 e4=>?_))⟩))⟩
  have sk:Same H H':=s1.trans keep
  exact k H4 y' a t2 tv' (zj sk ny') (sk.trans s4) ⟨e4,s4 _ _ fa,s4 _ _ ft⟩ hT' ⟨nn,u,n1,d1,u1,e1,hit⟩
variable {CW:Aj}
theorem qz0 {x c2:Aj}{whose:Str}{t:Aj}{pt:Int×Int}(hh:Hse C H x dr dw dd R W D)(n1:H c1=none)(n2:upd H c1 (.dK []) c2=none)(s3:Same (upd (upd H c1 (.dK [])) c2 (.dK [])) H3)(W3:WkAt CW H3 y whose p pt t tv)(lR:R.length≤1000)(lW:W.length≤1000)(lD:D.length≤1000000)
  (k:∀H' tp q1 q2,H tp=none→H q1=none→H q2=none→Hse C H' x dr dw dd R (z0 W (.inr n) (.ref y)) (D++[.ref tp])→H' tp=some (.tup [.ref q1,.ref q2])→H' q1=some (.dK [])→H' q2=some (.dK [(.inr n,(wf W (.inr n)).getD .non)])→q1≠q2→WkAt CW H' y whose p pt t tv→Kb [dr,dw,dd] H H'→Q .non H') :
  qu7 C [.ref x,.ref c1,.ref c2] (upd H3 c2 (.dK [(.inr n,.ref y)])) Q E:=by
 have c12:c1≠c2:=λz=>by rw [←z,qb] at n2;cases n2
 have n20:H c2=none:=by rw [←n2,wy (aY c12)]
 have s03:Same H H3:=λb o e=>s3 _ _ (by rw [wy (wz e n20),wy (wz e n1)];exact e)
 have h32:H3 c2=some (.dK []):=s3 _ _ qb
 have h31:H3 c1=some (.dK []):=s3 _ _ (by rw [wy c12,qb])
 have keep:∀b o,(∀kv,o≠HO.dK kv)→H3 b=some o→upd H3 c2 (.dK [(.inr n,.ref y)]) b=some o:=λb o no e=>by
  rw [wy (λz=>by rw [z,h32] at e;cases e;exact no _ rfl)]
  exact e
 have W4:WkAt CW (upd H3 c2 (.dK [(.inr n,.ref y)])) y whose p pt t tv:=by
  obtain ⟨dx,e⟩:=W3.ob
  exact ⟨⟨dx,keep _ _ (λkv z=>by cases z) e⟩,keep _ _ (λkv z=>by cases z) W3.pt,keep _ _ (λkv z=>by cases z) W3.tm⟩
 have s4:Same H (upd H3 c2 (.dK [(.inr n,.ref y)])):=λb o e=>by rw [wy (wz e n20)];exact s03 _ _ e
 have e1:upd H3 c2 (.dK [(.inr n,.ref y)]) c1=some (.dK []):=by rw [wy c12];exact h31
 have e2:upd H3 c2 (.dK [(.inr n,.ref y)]) c2=some (.dK [(.inr n,.ref y)]):=qb
 generalize upd H3 c2 (.dK [(.inr n,.ref y)])=H4 at s4 e1 e2 W4
 have hh4:=hh.same s4
 refine ⟨x,dr,dw,dd,c1,c2,R,W,[],[(.inr n,.ref y)],D,rfl,hh4,.inl e1,.inl e2,c12,(wz hh.r n1).symm,(wz hh.w n1).symm,(wz hh.r n20).symm,(wz hh.w n20).symm,bi,aU.mpr ⟨aj,bi⟩,lR,lW,aJ _,by show 1≤1000;decide,lD,(λi c ec hc=>nomatch ec),λi c ec hc=>?_,λH' tp q1 q2 a1 a2 a3 a4 a5 a6 a7 a8 _ a9=>?_⟩
 ·cases i with
  |zero=>cases ec;cases hc
  |succ i=>cases ec
 ·have no:∀b,H4 b=none→H b=none:=λb e=>zj s4 e
  have wk:WkAt CW H' y whose p pt t tv:=W4.kb a9 λb hb=>by
   simp only [ag,aj,bd] at hb
   rcases hb with rfl|rfl|rfl|rfl|rfl
   ·exact .inl ⟨_,.inl hh4.r⟩
   ·exact .inl ⟨_,.inl hh4.w⟩
   ·exact .inr ⟨_,hh4.d⟩
   ·exact .inl ⟨_,.inl e1⟩
   ·exact .inl ⟨_,.inl e2⟩
  refine k H' tp q1 q2 (no _ a1) (no _ a2) (no _ a3) a4 a5 a6 a7 a8 wk λb o nb e=>a9 b o (λz=>?_) (s4 _ _ e)
  simp only [ag,aj,bd] at z nb
  rcases z with z|z|z|z|z
  ·exact nb (.inl z)
  ·exact nb (.inr (.inl z))
  ·exact nb (.inr (.inr z))
  ·rw [z,n1] at e;cases e
  ·rw [z,n20] at e;cases e
def WDeed (C CW:Aj)(H H':Hp)(x dr dw dd:Aj)(R W:List (Key×V))(D:List V)(n whose:Str)(p:Aj)(pt:Int×Int)(t:Aj)(tv:List (List Key×V)):Prop:=∃y tp q1 q2,H tp=none∧H q1=none∧H q2=none∧Hse C H' x dr dw dd R (z0 W (.inr n) (.ref y)) (D++[.ref tp])∧H' tp=some (.tup [.ref q1,.ref q2])∧H' q1=some (.dK [])∧H' q2=some (.dK [(.inr n,(wf W (.inr n)).getD .non)])∧q1≠q2∧WkAt CW H' y whose p pt t tv∧Kb [dr,dw,dd] H H'
theorem WDeed.pre {H0:Hp}{x:Aj}{whose:Str}{pt:Int×Int}{t:Aj}(h:WDeed C CW H H' x dr dw dd R W D n whose p pt t tv)(s:Same H0 H):WDeed C CW H0 H' x dr dw dd R W D n whose p pt t tv:=by
 obtain ⟨y,tp,q1,q2,a1,a2,a3,a4,a5,a6,a7,a8,a9,b1⟩:=h
 exact ⟨y,tp,q1,q2,zj s a1,zj s a2,zj s a3,a4,a5,a6,a7,a8,a9,λb o nb e=>b1 b o nb (s _ _ e)⟩
def Jb (C CW CN:Aj):Sp:=λvs H Q E=>∃(x dr dw dd:Aj) (R W:List (Key×V)) (D:List V) (n:Str),vs=[.ref x,.str n]∧Hse C H x dr dw dd R W D∧(wf W (.inr n)=none→E (.ref CN) none H) ∧
 (∀v,wf W (.inr n)=some v→∃y whose p pt t tv,v=.ref y∧WkAt CW H y whose p pt t tv∧∀q,H q=none→Q (.ref q) (upd H q (.tup [.str whose,.ref p])))
include T in
theorem wyx (F:Fun K "where" "House.where" zbw f fd)(za0:MCal P w K mg base qq "walker_called" 1 (jg qq qy false)) :
  FK P w K mg base 2 f fd ["self","name"] (Jb qq qw qy):=by
 have sc:=qwy
 refine F.okX sc (λvs H Q E h=>by obtain ⟨_,_,_,_,_,_,_,_,rfl,_⟩:=h;rfl) λ_ _ _ _ H vs Q E hr h=>?_
 obtain ⟨x,dr,dw,dd,R,W,D,n,rfl,hh,kx,k⟩:=h
 obtain ⟨dx,hx⟩:=hh.ob
 refine ⟨_,(qj (w4 (i:=2) (xm (pv 0) T.clH za0 (hr.mono ⋯) qf (q9 (pv 1) qk)))
   (qh (w9 (vw (xj (zy (pv 2) rfl) (xj (zy (pv 2) rfl) qk)))))),?_⟩
 refine ⟨_,rfl,x,dx,_,rfl,hx,xu,_,rfl,x,dr,dw,dd,R,W,D,n,rfl,hh,λv e=>?_,kx⟩
 obtain ⟨y,whose,p,pt,t,tv,rfl,hW,q⟩:=k v e
 obtain ⟨dy,hy⟩:=hW.ob
 exact exI rfl ⟨y,qw,dy,_,_,rfl,hy,T.clW,T.naWw,Wy,exI rfl ⟨y,qw,dy,_,_,rfl,hy,T.clW,T.naWp,Wj,sz2,q⟩⟩
def Jd (K:Aa)(C CR CW CN CT CNR CB CO:Aj):Sp:=λvs H Q E=>∃(x dr dw dd a:Aj) (R W:List (Key×V)) (D:List V) (n whose:Str) (t b:Int),vs=[.ref x,.str n,.str whose,.ref a]∧Hse C H x dr dw dd R W D∧R.length≤1000∧W.length≤1000∧D.length≤1000000∧n.length≤1000∧H a=some (.tup [.int t,.int b]) ∧
 (zw n=false→∀H',Same H H'→E (.ref CN) none H')∧(zw n=true→(wf W (.inr n)).isSome=true→∀H',Same H H'→E (.ref CT) none H')∧(zw n=true→wf W (.inr n)=none→(wf R (.inr whose)=none→∀H',Same H H'→E (.ref CNR) none H') ∧
  ∀v,wf R (.inr whose)=some v→∃r hs,v=.ref r∧RoadAt CR H r hs∧xy hs∧(b<1→∀H',Same H H'→E (.ref CB) none H')∧(1≤b→Sm 8000 b∧(40<(wn t b).2→∀H',Same H H'→E (.ref CB) none H')∧((wn t b).2≤40 →
   (¬ vt hs (wn t b).1 (wn t b).2→∀H',Same H H'→E (.ref CO) none H')∧(vt hs (wn t b).1 (wn t b).2→∀H' p t',WDeed C CW H H' x dr dw dd R W D n whose p (wn t b) t' [([.inl (wn t b).1,.inl (wn t b).2],.int 1)]→Q .non H'))))
theorem low1 {t b:Int}(h:1≤b):1≤(wn t b).2:=by
 have e:=qq0 (t:=t) h
 have g:=yy (t:=t) h
 show 1≤b/gOf t b
 by_cases z:1≤b/gOf t b
 ·exact z
 ·have:gOf t b*(b/gOf t b)≤0:=Int.mul_nonpos_of_nonneg_of_nonpos ⋯ ⋯
  lia
include T in
theorem wkp (F:Fun K "place" "House.place" zbp f fd)(zct:Cal P w K mg base "check_new_name" 2 (Qs qg wj))(zcu:MCal P w K mg base qq "road_called" 1 (jg qq wx true))(zak:Cal P w K mg base "lowest" 2 (ux qz))(zcs:MCal P w K mg base qc "on_road" 3 (Zc K qc qz qm))(zhr:Cal P w K mg base "set_down" 3 (Zp qw))(zaz:MCal P w K mg base qq "do" 2 (qu7 qq)) :
  FK P w K mg base 5 f fd ["self","name","whose","point"] (Jd K qq qc qw qg wj wx qz qm):=by
 have sc:=qq4
 refine F.okX sc (λvs H Q E h=>by obtain ⟨_,_,_,_,_,_,_,_,_,_,_,_,rfl,_⟩:=h;rfl) λ_ _ _ _ H vs Q E hr h=>?_
 obtain ⟨x,dr,dw,dd,a,R,W,D,n,whose,t,b,rfl,hh,lR,lW,lD,ln,ha,kn,kt,k⟩:=h
 obtain ⟨dx,hx⟩:=hh.ob
 obtain ⟨tg,zag⟩:=T.zag
 refine ⟨_,(qj (zb (wCA zct (q9 (pv 1) (xj (zy (pv 0) rfl) qk))))
   (qj (w4 (i:=4) (xm (pv 0) T.clH zcu (hr.mono ⋯) qf (q9 (pv 2) qk)))
   (qj (w4 (i:=5) (wCA zak (k4 (zd ur (pv 3) qr (λ_ _=>rfl)) (k4 (zd ur (pv 3) qr (λ_ _=>rfl)) qk))))
   (qj (xg (wm uq (zd ur (pv 5) qr (λ_ _=>rfl)) (yk (v:=V.int 40) rfl zag ⟨_,rfl⟩) (wt _)) (qh (zm rfl T.zal x9 rfl T.zgc (xb xp qk))) xx)
   (qh (zb (xm (pv 0) T.clH zaz (hr.mono ⋯) qf (xj j4 (xj (qks (qq6 (pv 1) (wCA zhr (q9 (pv 2) (vc (xm (pv 4) T.cl zcs (hr.mono ⋯) qf (q9 (pv 5) qk)) qk))) qvv) rfl rfl (λz=>nomatch z) ⋯) qk))))))))),?_⟩
 refine ⟨_,rfl,_,rfl,x,qq,dx,_,_,rfl,hx,T.clH,T.naHw,ku,n,dw,W,rfl,ln,hh.w,λa1 a2 H1 s1=>?_,kn,kt⟩
 obtain ⟨kr,k⟩:=k a1 a2
 have hh1:=hh.same s1
 refine ⟨_,rfl,x,dx,_,rfl,s1 _ _ hx,xu,_,rfl,x,dr,dw,dd,R,W,D,whose,rfl,hh1,λv e=>?_,λe=>kr e H1 s1⟩
 obtain ⟨r,hs,rfl,hR,okl,kb,k⟩:=k v e
 refine ⟨_,rfl,_,_,_,_,rfl,rfl,SqT.of (s1 _ _ ha),rfl,_,rfl,_,_,_,_,rfl,rfl,SqT.of (s1 _ _ ha),rfl,t,b,rfl,λb1=>?_,λb1=>kb b1 H1 s1⟩
 obtain ⟨sm,kg,k⟩:=k b1
 refine ⟨sm.mono ⋯,λp np=>?_⟩
 have s2:Same H (upd H1 p (.tup (ptV (wn t b)))):=s1.trans (Same.upd np)
 have f2:upd H1 p (.tup (ptV (wn t b))) p=some (.tup [.int (wn t b).1,.int (wn t b).2]):=qb
 generalize upd H1 p (.tup (ptV (wn t b)))=H2 at s2 f2
 have l1:=low1 (t:=t) b1
 refine exI rfl (exX rfl rfl (SqT.of f2) rfl (wg rfl rfl (exI rfl (vb (λz=>⟨sz1,kg ⋯ H2 s2⟩) (λz=>?_)))))
 obtain ⟨ko,k⟩:=k ⋯
 refine exI rfl ⟨x,dx,exI rfl ⟨s2 _ _ hx,xu,λc1 n1=>λc2 n2=>(exI rfl (exI rfl (exI rfl ?_)))⟩⟩
 obtain ⟨dy,l,h1,h2⟩:=id hR
 have sc2:Same H2 (upd (upd H2 c1 (.dK [])) c2 (.dK [])):=λb o e=>by
  have e4:upd H2 c1 (.dK []) b=some o:=by rw [wy (wz e n1)];exact e
  rw [wy (wz e4 n2)]
  exact e4
 have s3:=s2.trans sc2
 refine ⟨r,dy,_,rfl,s3 _ _ h1,vm (by decide +kernel),_,rfl,r,p,hs,(wn t b).1,(wn t b).2,rfl,hR.same s3,okl,SqT.of (sc2 _ _ f2),λ_=>⟨(Sm.small (n:=65) ⋯ ⋯ ⋯).mono ⋯,λon q H3 s4 fq=>?_,λon H3 s4=>ko on H3 (s3.trans s4)⟩,λz=>absurd z ⋯⟩
 have e3:wn (wn t b).1 (wn t b).2=wn t b:=Zw l1 (wvg b1)
 rw [e3] at fq
 refine ⟨whose,q,wn t b,rfl,fq,λH4 y t' ny s5 w5=>?_⟩
 refine ⟨s5 _ _ (s4 _ _ qb),[(.inr n,.ref y)],rfl,(show 1≤15 by decide),?_⟩
 exact qz0 (E:=E) (hh.same s2) n1 n2 (s4.trans s5) w5 lR lW lD λH' tp q1 q2 b1 b2 b3 b4 b5 b6 b7 b8 b9 kb=>k on H' q t' (WDeed.pre ⟨y,tp,q1,q2,b1,b2,b3,b4,b5,b6,b7,b8,b9,kb⟩ s2)
def spGo (C CR CW CN CC:Aj):Sp:=λvs H Q E=>∃(x dr dw dd:Aj) (R W:List (Key×V)) (D:List V) (n:Str) (m:Int),vs=[.ref x,.str n,.int m]∧Hse C H x dr dw dd R W D∧R.length≤1000∧W.length≤1000∧D.length≤1000000∧(wf W (.inr n)=none→E (.ref CN) none H) ∧
 (∀v,wf W (.inr n)=some v→∃y whose p pt t tv r hs,v=.ref y∧WkAt CW H y whose p pt t tv∧TmOk tv∧wf R (.inr whose)=some (.ref r)∧RoadAt CR H r hs∧HPt hs pt∧(¬ Within m 0 (some 1000000000000000000000000000000000000000000000000000000000000)→E (.ref CC) none H) ∧
  (Within m 0 (some 1000000000000000000000000000000000000000000000000000000000000)→∀H' p' t' tv',WDeed C CW H H' x dr dw dd R W D n whose p' (itP hs pt m.toNat) t' tv'→TmOk tv'→Hits hs pt m.toNat tv tv'→Q (.ref p') H'))
include T in
theorem zhs (F:Fun K "go" "House.go" zbq f fd)(za0:MCal P w K mg base qq "walker_called" 1 (jg qq qy false))(zht:CalD P w K mg base "check_count" 1 (qkk qd))(zhu:MCal P w K mg base qw "gone" 6 (qun qw qc))(zaz:MCal P w K mg base qq "do" 2 (qu7 qq)) :
  FK P w K mg base 8 f fd ["self","name","many"] (spGo qq qc qw qy qd):=by
 have sc:=qj1
 refine F.okX sc (λvs H Q E h=>by obtain ⟨_,_,_,_,_,_,_,_,_,rfl,_⟩:=h;rfl) λ_ _ _ _ H vs Q E hr h=>?_
 obtain ⟨x,dr,dw,dd,R,W,D,n,m,rfl,hh,lR,lW,lD,kx,k⟩:=h
 obtain ⟨dx,hx⟩:=hh.ob
 obtain ⟨tg,zae⟩:=T.zae
 refine ⟨_,(qj (w4 (i:=3) (xm (pv 0) T.clH za0 (hr.mono ⋯) qf (q9 (pv 1) qk)))
   (qj (zb (qyj zht.all (hr.mono ⋯) rfl qf (q9 (pv 2) (xb qr (q9 (yk (v:=V.int 1000000000000000000000000000000000000000000000000000000000000) rfl zae ⟨_,rfl⟩) qk)))))
   (qj (w4 (i:=4) (xm (pv 3) T.clW zhu (hr.mono ⋯) qf (k4 (jv (vq hr) (zy (pv 0) rfl) (zy (pv 3) rfl) (λ_ _=>rfl)) (q9 (pv 2) qk))))
   (qj (zb (xm (pv 0) T.clH zaz (hr.mono ⋯) qf (xj j4 (xj (qks (qq6 (pv 1) (pv 4) qvv) rfl rfl (λz=>nomatch z) ⋯) qk))))
   (qh (w9 (zy (pv 4) rfl))))))),?_⟩
 refine ⟨_,rfl,x,dx,_,rfl,hx,xu,_,rfl,x,dr,dw,dd,R,W,D,n,rfl,hh,λv e=>?_,kx⟩
 obtain ⟨y,whose,p,pt,t,tv,r,hs,rfl,hW,hT,er,hR,hP,kc,k⟩:=k v e
 obtain ⟨dy,hy⟩:=hW.ob
 refine ⟨_,rfl,m,0,.int (1000000000000000000000000000000000000000000000000000000000000),some (1000000000000000000000000000000000000000000000000000000000000),rfl,.inr ⟨1000000000000000000000000000000000000000000000000000000000000,rfl,rfl⟩,λwi=>?_,kc⟩
 have dg:DGet H dr (.str whose) (wf R (.inr whose)):=DGet.k (k:=.inr whose) hh.r
 rw [er] at dg
 refine exI rfl ⟨y,dy,exI rfl ⟨hy,wvk (by decide +kernel) (by decide +kernel) (by decide +kernel),exI rfl ⟨x,qq,dx,_,_,rfl,hx,T.clH,T.naHr,jj,exI rfl ⟨y,qw,dy,_,_,rfl,hy,T.clW,T.naWw,Wy,dr,exI rfl ⟨dg,exI rfl ⟨y,r,p,t,whose,hs,pt,tv,m,rfl,hW,hT,hR,hP,wi.1,λH1 y' p' t' tv' ny s1 w1 hT' hit=>?_⟩⟩⟩⟩⟩⟩
 refine exI rfl ⟨x,dx,exI rfl ⟨s1 _ _ hx,xu,λc1 n1=>λc2 n2=>(exI rfl (exI rfl ⟨qb,[(.inr n,.ref y')],rfl,(show 1≤15 by decide),?_⟩))⟩⟩
 have sc2:Same H1 (upd (upd H1 c1 (.dK [])) c2 (.dK [])):=λb o e=>by
  have e4:upd H1 c1 (.dK []) b=some o:=by rw [wy (wz e n1)];exact e
  rw [wy (wz e4 n2)]
  exact e4
 have w3:=w1.same sc2
 obtain ⟨H3,hH3⟩:∃H3,H3=upd (upd H1 c1 (.dK [])) c2 (.dK []):=⟨_,rfl⟩
 have s3:Same (upd (upd H1 c1 (.dK [])) c2 (.dK [])) H3:=by rw [hH3];exact Same.refl _
 rw [←hH3] at w3 ⊢
 have e0:Zr [] [((Sum.inr n:Key),V.ref y')]=[((Sum.inr n:Key),V.ref y')]:=rfl
 rw [e0]
 dsimp only [Q5]
 refine qz0 (n:=n) (E:=E) (hh.same s1) n1 n2 s3 w3 lR lW lD λH' tp q1 q2 b1 b2 b3 b4 b5 b6 b7 b8 b9 kb=>?_
 obtain ⟨dy',hy'⟩:=b9.ob
 exact exI rfl ⟨y',qw,dy',_,_,rfl,hy',T.clW,T.naWp,Wj,k wi H' p' t' tv' (WDeed.pre ⟨y',tp,q1,q2,b1,b2,b3,b4,b5,b6,b7,b8,b9,kb⟩ s1) hT' hit⟩
def Y8 (C:Aj):Sp:=λvs H Q _=>∃(x dr dw dd:Aj) (R W:List (Key×V)) (D:List V) (rs ws:List Str),vs=[.ref x]∧Hse C H x dr dw dd R W D∧R.map (·.1)=rs.map Sum.inr∧R.length<64∧W.map (·.1)=ws.map Sum.inr∧W.length<64 ∧
 ∀(q l1 l2:Aj) (ms1 ms2:List Str) (H':Hp),Same H H'→ms1.Perm rs→ms1.Pairwise (λx y=>¬ y.cps.toList<x.cps.toList)→ms2.Perm ws→ms2.Pairwise (λx y=>¬ y.cps.toList<x.cps.toList)→H' l1=some (.lst (ms1.map V.str))→H' l2=some (.lst (ms2.map V.str))→H' q=some (.tup [.ref l1,.ref l2])→Q (.ref q) H'
include T in
theorem wjr (F:Fun K "names" "House.names" zbu f fd):FK P w K mg base 1 f fd ["self"] (Y8 qq):=by
 have sc:=qqb
 refine F.okX sc (λvs H Q E h=>by obtain ⟨_,_,_,_,_,_,_,_,_,rfl,_⟩:=h;rfl) λ_ _ _ _ H vs Q E hr h=>?_
 obtain ⟨x,dr,dw,dd,R,W,D,rs,ws,rfl,hh,eR,lR,eW,lW,k⟩:=h
 obtain ⟨dx,hx⟩:=hh.ob
 refine ⟨_,(qh (w9 (vw (vc (wp (Wq rfl) rfl T.sorted_ bz (xj (zy (pv 0) rfl) qk)) (vc (wp (Wq rfl) rfl T.sorted_ bz (xj (zy (pv 0) rfl) qk)) qk))))),?_⟩
 refine exI rfl ⟨x,qq,dx,_,_,rfl,hx,T.clH,T.naHr,jj,dr,R,rs,rfl,.inl hh.r,eR,lR,λl1 ms1 n1 pm1 st1=>?_⟩
 have s1:Same H (upd H l1 (.lst (ms1.map V.str))):=Same.upd n1
 have f1:upd H l1 (.lst (ms1.map V.str)) l1=some (.lst (ms1.map V.str)):=qb
 generalize upd H l1 (.lst (ms1.map V.str))=H1 at s1 f1
 refine exI rfl ⟨x,qq,dx,_,_,rfl,s1 _ _ hx,T.clH,T.naHw,ku,dw,W,ws,rfl,.inl (s1 _ _ hh.w),eW,lW,λl2 ms2 n2 pm2 st2=>?_⟩
 have s2:Same H1 (upd H1 l2 (.lst (ms2.map V.str))):=Same.upd n2
 have f2:upd H1 l2 (.lst (ms2.map V.str)) l2=some (.lst (ms2.map V.str)):=qb
 generalize upd H1 l2 (.lst (ms2.map V.str))=H2 at s2 f2
 refine ⟨sz2,λq nq=>?_⟩
 have s3:Same H2 (upd H2 q (.tup [.ref l1,.ref l2])):=Same.upd nq
 exact k q l1 l2 ms1 ms2 _ (s1.trans (s2.trans s3)) pm1 st1 pm2 st2 (s3 _ _ (s2 _ _ f1)) (s3 _ _ f2) qb
def wwb (C:Aj)(H H':Hp)(x dr dw dd:Aj)(R W:List (Key×V))(D:List V)(cs1 cs2:List (Key×V)):Prop:=∃tp q1 q2,H tp=none∧H q1=none∧H q2=none∧Hse C H' x dr dw dd (exK R cs1) (exK W cs2) (D++[.ref tp])∧H' tp=some (.tup [.ref q1,.ref q2])∧H' q1=some (.dK (bfK R cs1))∧H' q2=some (.dK (bfK W cs2))∧q1≠q2∧Kb [dr,dw,dd] H H'
theorem wj6 {k:Key}{u:V}(h:wf kvs k=some u):(z0 kvs k v).map (·.1)=kvs.map (·.1):=by
 unfold z0
 rw [ak (by rw [uz,h];rfl),aZ]
 refine cf λkv _=>?_
 show (if kv.1=k then (kv.1,v) else kv).1=kv.1
 split <;> rfl
theorem Kb.sql {ch:List Aj}(k:Kb ch H H'){a:Aj}{xs:List V}(h:SqL K H a xs)(d:(∀H',SqL K H' a xs)∨a∉ch):SqL K H' a xs:=by
 rcases d with d|d
 ·exact d H'
 ·rcases h with (e|⟨u,e⟩)|e
  ·exact .inl (.inl (k _ _ d e))
  ·exact .inl (.inr ⟨u,k _ _ d e⟩)
  ·exact .inr e
def Dl (H:Hp)(ch:List Aj):Prop:=∀b∈ch,(∃kv,Rd H b (.dK kv))∨∃D,qvk D∧H b=some (.lst D)
theorem Dl.nil:Dl H []:=λb hb=>nomatch hb
theorem Dl.cons {a:Aj}{ch:List Aj}(h:(∃kv,Rd H a (.dK kv))∨∃D,qvk D∧H a=some (.lst D))(d:Dl H ch):Dl H (a::ch):=λb hb=>by
 rcases ag.mp hb with rfl|hb
 ·exact h
 ·exact d b hb
theorem Hse.dl {x:Aj}(h:Hse C H x dr dw dd R W D)(rf:qvk D){ch:List Aj}(d:Dl H ch):Dl H (dr::dw::dd::ch):=.cons (.inl ⟨_,.inl h.r⟩) (.cons (.inl ⟨_,.inl h.w⟩) (.cons (.inr ⟨_,rf,h.d⟩) d))
theorem Dl.other {ch:List Aj}(d:Dl H ch){a:Aj}{o:HO}(e:H a=some o)(n1:∀kv,o≠.dK kv)(n2:∀u kv,o≠.frz u (.dK kv))(n3:∀D,qvk D→o≠.lst D):a∉ch:=λz=>by
 rcases d a z with ⟨kv,y|⟨u,y⟩⟩|⟨D,rf,y⟩ <;> (rw [e] at y;injection y with y)
 ·exact n1 _ y
 ·exact n2 _ _ y
 ·exact n3 _ rf y
theorem Dl.tup {ch:List Aj}(d:Dl H ch)(k:Kb ch H H'){a:Aj}{xs:List V}(e:H a=some (.tup xs)):H' a=some (.tup xs):=k _ _ (d.other e (λ_ z=>by cases z) (λ_ _ z=>by cases z) (λ_ _ z=>by cases z)) e
theorem wvm (ok:xy hs){D:List V}(rf:qvk D)(e:HO.lst (hs.map V.int)=HO.lst D):False:=by
 have e:hs.map V.int=D:=by injection e
 have l:=ok.1
 have m:V.int (hs[0]'⋯)∈hs.map V.int:=aq.mpr ⟨_,bE _,rfl⟩
 rw [e] at m
 obtain ⟨a,ea⟩:=rf _ m
 cases ea
theorem Dl.row {ch:List Aj}(d:Dl H ch)(k:Kb ch H H'){a:Aj}{hs:List Int}(ok:xy hs)(e:H a=some (.lst (hs.map V.int))):H' a=some (.lst (hs.map V.int)):=k _ _ (d.other e (λ_ z=>by cases z) (λ_ _ z=>by cases z) (λ_ rf z=>wvm ok rf z)) e
theorem Dl.road {ch:List Aj}(d:Dl H ch)(k:Kb ch H H'){r:Aj}{hs:List Int}(ok:xy hs)(h:RoadAt C H r hs):RoadAt C H' r hs:=by
 obtain ⟨dx,q,h1,h2⟩:=h
 exact ⟨dx,q,k _ _ (d.other h1 (λ_ z=>by cases z) (λ_ _ z=>by cases z) (λ_ _ z=>by cases z)) h1,d.row k ok h2⟩
theorem Dl.wk {ch:List Aj}(d:Dl H ch)(k:Kb ch H H'){y:Aj}{n:Str}{p:Aj}{pt:Int×Int}{t:Aj}{tv:List (List Key×V)}(h:WkAt C H y n p pt t tv):WkAt C H' y n p pt t tv:=by
 obtain ⟨dx,e⟩:=h.ob
 have e2:=h.tm
 exact ⟨⟨dx,k _ _ (d.other e (λ_ z=>by cases z) (λ_ _ z=>by cases z) (λ_ _ z=>by cases z)) e⟩,d.tup k h.pt,k _ _ (d.other e2 (λ_ z=>by cases z) (λ_ _ z=>by cases z) (λ_ _ z=>by cases z)) e2⟩
theorem wq9 {n:Key}:exK W [(n,.ref y)]=z0 W n (.ref y):=by
 show ex1 W (n,.ref y)=_
 unfold ex1
 rw [af (λz=>by cases z)]
theorem wkt {k:Key}:([(k,v)].map (·.1)).Nodup:=aU.mpr ⟨aj,bi⟩
def ovr (f:Key→Option V)(cs:List (Key×V)):Key→Option V:=λm=>match wf cs m with|none=>f m|some .non=>none|some v=>some v
theorem qqm {k j:Key}(hj:j≠k):∀kvs:List (Key×V),wf (Qx kvs k) j=wf kvs j
 |[]=>rfl
 |p::r=>by
  have ih:=qqm hj r
  unfold Qx at ih ⊢
  by_cases e:p.1=k
  ·rw [bU,af (by simp [e]),ih,x8 (λz=>hj (z.symm.trans e))]
  ·rw [bU,ak (by simp [e])]
   by_cases z:p.1=j
   ·rw [zk z,zk z]
   ·rw [x8 z,x8 z,ih]
theorem qzw {k:Key}:∀kvs:List (Key×V),wf (Qx kvs k) k=none
 |[]=>rfl
 |p::r=>by
  have ih:=qzw (k:=k) r
  unfold Qx at ih ⊢
  by_cases e:p.1=k
  ·rw [bU,af (by simp [e]),ih]
  ·rw [bU,ak (by simp [e]),x8 e,ih]
theorem qj2 {k:Key}(h:k∉kvs.map (·.1)):wf kvs k=none:=by
 unfold wf
 rw [eP.mpr λkv hk=>by simp only [dM];exact λz=>h (aq.mpr ⟨kv,hk,z⟩)]
 rfl
theorem wxq {k:Key}(h:wf kvs k=some v):(k,v)∈kvs:=by
 unfold wf at h
 obtain ⟨kv,e1,e2⟩:=dI.mp h
 have:=List.find?_some e1
 simp only [dM] at this
 have m:=dj e1
 rw [←this,←e2]
 exact m
theorem jk (nd:(kvs.map (·.1)).Nodup){c:Key×V}(h:c∈kvs):wf kvs c.1=some c.2:=by
 induction kvs with
 |nil=>cases h
 |cons p r ih =>
  rw [aA] at nd
  obtain ⟨a,b⟩:=aU.mp nd
  rcases ag.mp h with rfl|h
  ·exact zk rfl
  ·rw [x8 (λz=>a (by rw [z];exact aq.mpr ⟨c,h,rfl⟩))]
   exact ih b h
theorem wwd (R:List (Key×V))(c:Key×V)(m:Key):wf (ex1 R c) m=if m=c.1 then (if c.2=.non then none else some c.2) else wf R m:=by
 unfold ex1
 by_cases z:c.2=.non
 ·rw [ak z,ak z]
  by_cases y:m=c.1
  ·rw [ak y,y,qzw]
  ·rw [af y,qqm y]
 ·rw [af z,af z,uk]
theorem jm:∀(cs:List (Key×V)) (R:List (Key×V)),(cs.map (·.1)).Nodup→∀m,wf (exK R cs) m=ovr (wf R) cs m
 |[],R,_,m=>rfl
 |c::cs,R,nd,m=>by
  rw [aA] at nd
  obtain ⟨a,b⟩:=aU.mp nd
  show wf (exK (ex1 R c) cs) m=_
  rw [jm cs (ex1 R c) b m]
  unfold ovr
  by_cases z:c.1=m
  ·rw [zk z,qj2 (kvs:=cs) (by rw [←z];exact a)]
   show wf (ex1 R c) m=_
   rw [wwd,ak z.symm]
   cases c.2 <;> rfl
  ·rw [x8 z]
   cases wf cs m with
   |none =>
    show wf (ex1 R c) m=_
    rw [wwd,af (aY z)]
   |some v=>cases v <;> rfl
theorem wwy (R cs:List (Key×V)):(bfK R cs).map (·.1)=cs.map (·.1):=by
 unfold bfK
 rw [aZ]
 rfl
theorem val_bf (R cs:List (Key×V))(m:Key):wf (bfK R cs) m=(wf cs m).map λ_=>(wf R m).getD .non:=by
 induction cs with
 |nil=>rfl
 |cons c cs ih =>
  show wf ((c.1,(wf R c.1).getD .non)::bfK R cs) m=_
  by_cases z:c.1=m
  ·rw [zk (p:=(c.1,(wf R c.1).getD .non)) z,zk z,z]
   rfl
  ·rw [x8 (p:=(c.1,(wf R c.1).getD .non)) z,x8 z,ih]
variable {cs:List (Key×V)}
theorem qvb (nd:(cs.map (·.1)).Nodup)(hv:∀m,wf R m≠some .non)(m:Key):ovr (wf (exK R cs)) (bfK R cs) m=wf R m:=by
 unfold ovr
 rw [val_bf]
 cases e:wf cs m with
 |none =>
  show wf (exK R cs) m=_
  rw [jm cs R nd,ovr,e]
 |some v =>
  show (match some ((wf R m).getD .non) with|none=>wf (exK R cs) m|some .non=>none|some v=>some v)=_
  have:=hv m
  cases e2:wf R m with
  |none=>rfl
  |some u =>
   rw [e2] at this
   cases u <;> first | rfl | exact absurd rfl this
def qqy (f:Key→Option V)(cs:List (Key×V)):Prop:=∀c∈cs,c.2=.non→(f c.1).isSome=true
theorem ww6 (nd:(cs.map (·.1)).Nodup)(h:qqy (wf R) cs):ExOk R cs:=λi c ec hc=>by
 have hi:=(aR.mp ec).1
 have sub:((cs.take i).map (·.1)).Nodup:=by
  rw [List.map_take]
  exact nd.sublist (eV _ _)
 rw [jm _ _ sub]
 unfold ovr
 rw [qj2 (kvs:=cs.take i) λz=>?_]
 ·exact h c (ba ec) hc
 ·obtain ⟨c',hc',e⟩:=aq.mp z
  obtain ⟨j,hj,ej⟩:=d6 hc'
  rw [bD] at hj
  rw [List.getElem_take] at ej
  have ei:=(aR.mp ec).2
  have:=(fu (h₀:=by rw [aa];lia) (h₁:=by rw [aa];lia) nd (i:=j) (j:=i)).mp (by rw [fF,fF,ej,ei];exact e)
  lia
theorem go_bf (nd:(cs.map (·.1)).Nodup)(hv:∀m,wf R m≠some .non)(h:qqy (wf R) cs):qqy (wf (exK R cs)) (bfK R cs):=λc hc hn=>by
 obtain ⟨c0,h0,rfl⟩:=aq.mp hc
 have hn:(wf R c0.1).getD .non=.non:=hn
 show (wf (exK R cs) c0.1).isSome=true
 rw [jm cs R nd,ovr,jk nd h0]
 by_cases z:c0.2=.non
 ·have:=h c0 h0 z
  obtain ⟨v,ev⟩:=av.mp this
  rw [ev] at hn
  have hn:v=.non:=hn
  rw [hn] at ev
  exact absurd ev (hv _)
 ·cases e:c0.2 <;> first | rfl | exact absurd e z
theorem wj7 (nd:(R.map (·.1)).Nodup)(c:Key×V):((ex1 R c).map (·.1)).Nodup:=by
 unfold ex1
 split
 ·unfold Qx
  exact nd.sublist (List.Sublist.map _ List.filter_sublist)
 ·cases e:wf R c.1 with
  |none =>
   rw [Qq _ e,aO,eZ]
   refine ⟨nd,aU.mpr ⟨aj,bi⟩,λx hx y hy z=>?_⟩
   have hy:y=c.1:=ay.mp hy
   obtain ⟨p,hp,rfl⟩:=aq.mp hx
   have:=jk nd hp
   rw [z,hy,e] at this
   cases this
  |some v=>rw [wj6 e];exact nd
theorem wws (nd:(R.map (·.1)).Nodup):∀cs:List (Key×V),((exK R cs).map (·.1)).Nodup:=λcs=>by
 induction cs generalizing R with
 |nil=>exact nd
 |cons c cs ih=>exact ih (wj7 nd c)
def RefsF (f:Key→Option V):Prop:=∀m v,f m=some v→∃n a,m=.inr n∧v=.ref a
def Qc (cs:List (Key×V)):Prop:=∀c∈cs,∃n,c.1=.inr n∧(c.2=.non∨∃a,c.2=.ref a)
theorem RefsF.ovr {f:Key→Option V}(h:RefsF f){cs:List (Key×V)}(hc:Qc cs):RefsF (ovr f cs):=λm v e=>by
 unfold My.ovr at e
 cases e2:wf cs m with
 |none=>rw [e2] at e;exact h m v e
 |some u =>
  obtain ⟨n,e3,e4⟩:=hc _ (wxq e2)
  have e3:m=.inr n:=e3
  rcases e4 with e4|⟨a,e4⟩
  ·have e4:u=.non:=e4
   rw [e2,e4] at e
   cases e
  ·have e4:u=.ref a:=e4
   rw [e2,e4] at e
   cases e
   exact ⟨n,a,e3,rfl⟩
theorem RefsF.non {f:Key→Option V}(h:RefsF f)(m:Key):f m≠some .non:=λz=>by
 obtain ⟨_,_,_,e⟩:=h m _ z
 cases e
theorem RefsF.bf (h:RefsF (wf R)){cs:List (Key×V)}(hc:Qc cs):Qc (bfK R cs):=λc hc'=>by
 obtain ⟨c0,h0,rfl⟩:=aq.mp hc'
 obtain ⟨n,e,_⟩:=hc c0 h0
 refine ⟨n,e,?_⟩
 show (wf R c0.1).getD .non=.non∨_
 cases e2:wf R c0.1 with
 |none=>exact .inl rfl
 |some v =>
  obtain ⟨_,a,_,e3⟩:=h _ _ e2
  exact .inr ⟨a,e3⟩
structure Deed where
 tp:Aj
 q1:Aj
 q2:Aj
 cs1:List (Key×V)
 cs2:List (Key×V)
def DeedAt (H:Hp)(d:Deed):Prop:=H d.tp=some (.tup [.ref d.q1,.ref d.q2])∧Rd H d.q1 (.dK d.cs1)∧Rd H d.q2 (.dK d.cs2)
structure DeedOk (d:Deed):Prop where
 nd1:(d.cs1.map (·.1)).Nodup
 nd2:(d.cs2.map (·.1)).Nodup
 l1:d.cs1.length≤1000
 l2:d.cs2.length≤1000
 r1:Qc d.cs1
 r2:Qc d.cs2
 ne:d.q1≠d.q2
def Q2 (ds:List Deed):List Aj:=ds.flatMap λd=>[d.q1,d.q2]
def y0 (ds:List Deed):List V:=ds.reverse.map λd=>V.ref d.tp
theorem qj9 (d:Deed)(ds:List Deed):y0 (d::ds)=y0 ds++[.ref d.tp]:=by
 unfold y0
 rw [List.reverse_cons,aO]
 rfl
theorem qv5 (ds:List Deed):(y0 ds).length=ds.length:=by
 unfold y0
 rw [aa,List.length_reverse]
theorem Jt (ds:List Deed):qvk (y0 ds):=λv hv=>by
 obtain ⟨d,_,rfl⟩:=aq.mp hv
 exact ⟨_,rfl⟩
variable {d:Deed}{ds:List Deed}
theorem Jh (h:d∈ds):d.q1∈Q2 ds∧d.q2∈Q2 ds:=⟨fH.mpr ⟨d,h,by simp⟩,fH.mpr ⟨d,h,by simp⟩⟩
def Und:(Key→Option V)→(Key→Option V)→List Deed→Prop
 |_,_,[]=>True
 |f,g,d::ds=>qqy f d.cs1∧qqy g d.cs2∧Und (ovr f d.cs1) (ovr g d.cs2) ds
structure Ho where
 x:Aj
 dr:Aj
 dw:Aj
 dd:Aj
 R:List (Key×V)
 W:List (Key×V)
 ds:List Deed
structure HoAt (C:Aj)(H:Hp)(o:Ho):Prop where
 hs:Hse C H o.x o.dr o.dw o.dd o.R o.W (y0 o.ds)
 da:∀d∈o.ds,DeedAt H d∧DeedOk d
 nq:∀q∈Q2 o.ds,q≠o.dr∧q≠o.dw
 un:Und (wf o.R) (wf o.W) o.ds
 nR:(o.R.map (·.1)).Nodup
 nW:(o.W.map (·.1)).Nodup
 fR:RefsF (wf o.R)
 fW:RefsF (wf o.W)
variable {o:Ho}
theorem HoAt.dl (h:HoAt C H o):Dl H [o.dr,o.dw,o.dd]:=h.hs.dl (Jt _) .nil
theorem HoAt.frame (h:HoAt C H o){ch:List Aj}(k:Kb ch H H')(dl:Dl H ch)(n:o.x∉ch∧o.dr∉ch∧o.dw∉ch∧o.dd∉ch)(rd:∀q∈ch,q∈Q2 o.ds→∀kv,Rd H q (.dK kv)→Rd H' q (.dK kv)):HoAt C H' o:=by
 refine ⟨h.hs.kb k n,λd hd=>?_,h.nq,h.un,h.nR,h.nW,h.fR,h.fW⟩
 obtain ⟨⟨a,b,c⟩,e⟩:=h.da d hd
 obtain ⟨m1,m2⟩:=Jh hd
 refine ⟨⟨dl.tup k a,?_,?_⟩,e⟩
 ·by_cases z:d.q1∈ch
  ·exact rd _ z m1 _ b
  ·exact k.rd z b
 ·by_cases z:d.q2∈ch
  ·exact rd _ z m2 _ c
  ·exact k.rd z c
theorem HoAt.same (h:HoAt C H o)(s:Same H H'):HoAt C H' o:=h.frame (ch:=[]) (Kb.of s) Dl.nil ⟨aj,aj,aj,aj⟩ λq z=>nomatch z
def Ho.did (o:Ho)(tp q1 q2:Aj)(cs1 cs2:List (Key×V)):Ho:={ o with R:=exK o.R cs1,W:=exK o.W cs2,ds:=⟨tp,q1,q2,bfK o.R cs1,bfK o.W cs2⟩::o.ds }
theorem qzx {f f' g g':Key→Option V}(ef:∀m,f m=f' m)(eg:∀m,g m=g' m){ds:List Deed}(h:Und f g ds):Und f' g' ds:=by
 have a:f=f':=funext ef
 have b:g=g':=funext eg
 subst a b
 exact h
theorem HoAt.did (h:HoAt C H o){cs1 cs2:List (Key×V)}(g:wwb C H H' o.x o.dr o.dw o.dd o.R o.W (y0 o.ds) cs1 cs2)(nd1:(cs1.map (·.1)).Nodup)(nd2:(cs2.map (·.1)).Nodup)(l1:cs1.length≤1000)(l2:cs2.length≤1000)(r1:Qc cs1)(r2:Qc cs2)(g1:qqy (wf o.R) cs1)(g2:qqy (wf o.W) cs2):∃tp q1 q2,H tp=none∧H q1=none∧H q2=none∧HoAt C H' (o.did tp q1 q2 cs1 cs2)∧Kb [o.dr,o.dw,o.dd] H H':=by
 obtain ⟨tp,q1,q2,n0,n1,n2,h1,ft,f1,f2,ne,kb⟩:=g
 have hq:∀q∈Q2 o.ds,∃kv,Rd H q (.dK kv):=λq hq=>by
  obtain ⟨d,hd,hq⟩:=fH.mp hq
  obtain ⟨⟨_,a,b⟩,_⟩:=h.da d hd
  simp only [ag,aj,bd] at hq
  rcases hq with rfl|rfl
  ·exact ⟨_,a⟩
  ·exact ⟨_,b⟩
 have nin:∀q∈Q2 o.ds,q∉[o.dr,o.dw,o.dd]:=λq hm z=>by
  obtain ⟨kv,e⟩:=hq q hm
  have nq:=h.nq q hm
  simp only [ag,aj,bd] at z
  rcases z with z|z|z
  ·exact nq.1 z
  ·exact nq.2 z
  ·rcases e with e|⟨u,e⟩ <;> (rw [z,h.hs.d] at e;cases e)
 refine ⟨tp,q1,q2,n0,n1,n2,⟨by show Hse C H' o.x o.dr o.dw o.dd _ _ (y0 (_::o.ds));rw [qj9];exact h1,λd hd=>?_,λq hm=>?_,?_,wws h.nR _,wws h.nW _,?_,?_⟩,kb⟩
 ·rcases ag.mp hd with rfl|hd
  ·exact ⟨⟨ft,.inl f1,.inl f2⟩,⟨by show ((bfK o.R cs1).map (·.1)).Nodup;rw [wwy];exact nd1,by show ((bfK o.W cs2).map (·.1)).Nodup;rw [wwy];exact nd2,by show (bfK o.R cs1).length≤_;unfold bfK;rw [aa];exact l1,by show (bfK o.W cs2).length≤_;unfold bfK;rw [aa];exact l2,h.fR.bf r1,h.fW.bf r2,ne⟩⟩
  ·obtain ⟨⟨a,b,c⟩,e⟩:=h.da d hd
   obtain ⟨m1,m2⟩:=Jh hd
   exact ⟨⟨h.dl.tup kb a,kb.rd (nin _ m1) b,kb.rd (nin _ m2) c⟩,e⟩
 ·have hm:q∈q1::q2::Q2 o.ds:=hm
  rcases ag.mp hm with rfl|hm
  ·exact ⟨(wz h.hs.r n1).symm,(wz h.hs.w n1).symm⟩
  ·rcases ag.mp hm with rfl|hm
   ·exact ⟨(wz h.hs.r n2).symm,(wz h.hs.w n2).symm⟩
   ·exact h.nq q hm
 ·exact ⟨go_bf nd1 h.fR.non g1,go_bf nd2 h.fW.non g2,qzx (λm=>(qvb nd1 h.fR.non m).symm) (λm=>(qvb nd2 h.fW.non m).symm) h.un⟩
 ·show RefsF (wf (exK o.R cs1))
  rw [show wf (exK o.R cs1)=ovr (wf o.R) cs1 from funext (jm cs1 o.R nd1)]
  exact h.fR.ovr r1
 ·show RefsF (wf (exK o.W cs2))
  rw [show wf (exK o.W cs2)=ovr (wf o.W) cs2 from funext (jm cs2 o.W nd2)]
  exact h.fW.ovr r2
def Ho.undo (o:Ho)(d:Deed)(ds:List Deed):Ho:={ o with R:=exK o.R d.cs1,W:=exK o.W d.cs2,ds:=ds }
theorem wvq {kv kv':List (Key×V)}(h:Rd H q (.dK kv))(h':Rd H q (.dK kv')):kv=kv':=by
 rcases h with h|⟨u,h⟩ <;> rcases h' with h'|⟨u',h'⟩ <;> (rw [h] at h';cases h') <;> rfl
variable {CN:Aj}
theorem HoAt.take (h:HoAt C H o)(ed:o.ds=d::ds)(lR:o.R.length≤1000)(lW:o.W.length≤1000)
  (k:∀H',HoAt C H' (o.undo d ds)→Kb [o.dr,o.dw,o.dd,d.q1,d.q2] H H'→Dl H [o.dr,o.dw,o.dd,d.q1,d.q2]→(∀q kv,q∉[o.dr,o.dw,o.dd]→Rd H q (.dK kv)→Rd H' q (.dK kv))→Q .non H'):Z5 C CN [.ref o.x] H Q E:=by
 have hh:=h.hs
 rw [ed,qj9] at hh
 have hd:d∈o.ds:=by rw [ed];exact ar ..
 obtain ⟨⟨dt,d1,d2⟩,dk⟩:=h.da d hd
 have m:=Jh hd
 have un:=h.un
 rw [ed] at un
 obtain ⟨u1,u2,u3⟩:=un
 refine ⟨o.x,o.dr,o.dw,o.dd,o.R,o.W,exI rfl ⟨hh,lR,lW,(λz=>absurd z (dC _ (cH _ _))),λD' v e=>?_⟩⟩
 obtain ⟨e1,e2⟩:=List.append_inj' e rfl
 cases e2
 have nq1:=h.nq _ m.1
 have nq2:=h.nq _ m.2
 refine ⟨d.tp,d.q1,d.q2,d.cs1,d.cs2,rfl,dt,d1,d2,dk.ne,nq1.1,nq1.2,nq2.1,nq2.2,dk.nd1,dk.nd2,dk.l1,dk.l2,ww6 dk.nd1 u1,ww6 dk.nd2 u2,λH' hs' r1 r2 kb=>?_⟩
 rw [←e1] at hs'
 have dl:Dl H [o.dr,o.dw,o.dd,d.q1,d.q2]:=h.hs.dl (Jt _) (.cons (.inl ⟨_,d1⟩) (.cons (.inl ⟨_,d2⟩) .nil))
 have rdk:∀q kv,q∉[o.dr,o.dw,o.dd]→Rd H q (.dK kv)→Rd H' q (.dK kv):=λq kv nq e=>by
  by_cases z1:q=d.q1
  ·subst z1;rw [wvq e d1];exact r1
  ·by_cases z2:q=d.q2
   ·subst z2;rw [wvq e d2];exact r2
   ·refine kb.rd (λz=>?_) e
    simp only [ag,aj,bd] at z nq
    rcases z with z|z|z|z|z
    ·exact nq (.inl z)
    ·exact nq (.inr (.inl z))
    ·exact nq (.inr (.inr z))
    ·exact z1 z
    ·exact z2 z
 have nin:∀q∈Q2 o.ds,(∃kv,Rd H q (.dK kv))→q∉[o.dr,o.dw,o.dd]:=λq hm ⟨kv,e⟩ z=>by
  have nq:=h.nq q hm
  simp only [ag,aj,bd] at z
  rcases z with z|z|z
  ·exact nq.1 z
  ·exact nq.2 z
  ·rcases e with e|⟨u,e⟩ <;> (rw [z,h.hs.d] at e;cases e)
 have sub:∀q∈Q2 ds,q∈Q2 o.ds:=λq hq=>by rw [ed];exact ax _ (ax _ hq)
 refine k H' ⟨hs',λd' hd'=>?_,λq hq=>h.nq q (sub q hq),?_,wws h.nR _,wws h.nW _,?_,?_⟩ kb dl rdk
 ·have hd'':d'∈o.ds:=by rw [ed];exact ax _ hd'
  obtain ⟨⟨a,b,c⟩,e⟩:=h.da d' hd''
  obtain ⟨m1,m2⟩:=Jh hd''
  exact ⟨⟨dl.tup kb a,rdk _ _ (nin _ m1 ⟨_,b⟩) b,rdk _ _ (nin _ m2 ⟨_,c⟩) c⟩,e⟩
 ·exact qzx (λm=>(jm d.cs1 o.R dk.nd1 m).symm) (λm=>(jm d.cs2 o.W dk.nd2 m).symm) u3
 ·show RefsF (wf (exK o.R d.cs1))
  rw [show wf (exK o.R d.cs1)=ovr (wf o.R) d.cs1 from funext (jm _ _ dk.nd1)]
  exact h.fR.ovr dk.r1
 ·show RefsF (wf (exK o.W d.cs2))
  rw [show wf (exK o.W d.cs2)=ovr (wf o.W) d.cs2 from funext (jm _ _ dk.nd2)]
  exact h.fW.ovr dk.r2
structure Wk where
 wh:Str
 pt:Int×Int
 tv:List (List Key×V)
structure AH where
 rs:Str→Option (List Int)
 ws:Str→Option Wk
def AH.putW (a:AH)(n:Str)(w:Wk):AH:={ a with ws:=λm=>if m=n then some w else a.ws m }
def AH.putR (a:AH)(n:Str)(hs:List Int):AH:={ a with rs:=λm=>if m=n then some hs else a.rs m }
def RRep (CR:Aj)(H:Hp)(o:Option V):Option (List Int)→Prop
 |none=>o=none
 |some hs=>∃r,o=some (.ref r)∧RoadAt CR H r hs
def WRep (CW:Aj)(H:Hp)(o:Option V):Option Wk→Prop
 |none=>o=none
 |some w=>∃y p t,o=some (.ref y)∧WkAt CW H y w.wh p w.pt t w.tv
structure AOk (a:AH):Prop where
 lo:∀n hs,a.rs n=some hs→xy hs
 wo:∀n w,a.ws n=some w→TmOk w.tv∧∃hs,a.rs w.wh=some hs∧HPt hs w.pt
structure Rep (CR CW:Aj)(H:Hp)(f g:Key→Option V)(a:AH):Prop where
 r:∀n,RRep CR H (f (.inr n)) (a.rs n)
 w:∀n,WRep CW H (g (.inr n)) (a.ws n)
 ok:AOk a
variable {a:AH}
theorem Rep.dl {CR:Aj}{f g:Key→Option V}(h:Rep CR CW H f g a){ch:List Aj}(d:Dl H ch)(k:Kb ch H H'):Rep CR CW H' f g a:=by
 refine ⟨λn=>?_,λn=>?_,h.ok⟩
 ·have:=h.r n
  have lo:=h.ok.lo n
  cases e:a.rs n with
  |none=>rw [e] at this;exact this
  |some hs =>
   rw [e] at this
   obtain ⟨r,e1,ra⟩:=this
   exact ⟨r,e1,d.road k (lo hs e) ra⟩
 ·have:=h.w n
  cases e:a.ws n with
  |none=>rw [e] at this;exact this
  |some w =>
   rw [e] at this
   obtain ⟨y,p,t,e1,wk⟩:=this
   exact ⟨y,p,t,e1,d.wk k wk⟩
def Hist (CR CW:Aj)(H:Hp):List AH→(Key→Option V)→(Key→Option V)→List Deed→Prop
 |[],_,_,_=>True
 |a::as,f,g,ds=>Rep CR CW H f g a∧((ds=[]∧as=[])∨∃d ds',ds=d::ds'∧Hist CR CW H as (ovr f d.cs1) (ovr g d.cs2) ds')
theorem Hist.dl {CR:Aj}{ch:List Aj}(d:Dl H ch)(k:Kb ch H H'):∀ {as:List AH} {f g:Key→Option V} {ds:List Deed},Hist CR CW H as f g ds→Hist CR CW H' as f g ds
 |[],_,_,_,_=>trivial
 |a::as,f,g,ds,h=>by
  obtain ⟨h1,h2⟩:=h
  refine ⟨h1.dl d k,?_⟩
  rcases h2 with h2|⟨d',ds',e,h2⟩
  ·exact .inl h2
  ·exact .inr ⟨d',ds',e,Hist.dl d k h2⟩
structure VH (C CR CW:Aj)(H:Hp)(o:Ho)(as:List AH):Prop where
 h:HoAt C H o
 t:Hist CR CW H as (wf o.R) (wf o.W) o.ds
variable {as:List AH}
theorem VH.same {CR:Aj}(v:VH C CR CW H o as)(s:Same H H'):VH C CR CW H' o as:=⟨v.h.same s,Hist.dl (ch:=[]) Dl.nil (Kb.of s) v.t⟩
theorem VH.rep {CR:Aj}(v:VH C CR CW H o (a::as)):Rep CR CW H (wf o.R) (wf o.W) a:=v.t.1
structure Nxt (H:Hp)(o o':Ho):Prop where
 x:o'.x=o.x
 dr:o'.dr=o.dr
 dw:o'.dw=o.dw
 dd:o'.dd=o.dd
 ds:∃d,o'.ds=d::o.ds∧H d.q1=none∧H d.q2=none
structure Prv (o o':Ho):Prop where
 x:o'.x=o.x
 dr:o'.dr=o.dr
 dw:o'.dw=o.dw
 dd:o'.dd=o.dd
 ds:∃d,o.ds=d::o'.ds
variable {a':AH}
theorem VH.did {CR:Aj}(v:VH C CR CW H o (a::as)){cs1 cs2:List (Key×V)}(g:wwb C H H' o.x o.dr o.dw o.dd o.R o.W (y0 o.ds) cs1 cs2)(nd1:(cs1.map (·.1)).Nodup)(nd2:(cs2.map (·.1)).Nodup)(l1:cs1.length≤1000)(l2:cs2.length≤1000)(r1:Qc cs1)(r2:Qc cs2)(g1:qqy (wf o.R) cs1)(g2:qqy (wf o.W) cs2)(rp:Kb [o.dr,o.dw,o.dd] H H'→Rep CR CW H' (ovr (wf o.R) cs1) (ovr (wf o.W) cs2) a') :
  ∃o',Nxt H o o'∧VH C CR CW H' o' (a'::a::as)∧Kb [o.dr,o.dw,o.dd] H H':=by
 obtain ⟨tp,q1,q2,n0,n1,n2,h',kb⟩:=v.h.did g nd1 nd2 l1 l2 r1 r2 g1 g2
 refine ⟨o.did tp q1 q2 cs1 cs2,⟨rfl,rfl,rfl,rfl,⟨⟨tp,q1,q2,bfK o.R cs1,bfK o.W cs2⟩,rfl,n1,n2⟩⟩,⟨h',?_⟩,kb⟩
 have e1:wf (exK o.R cs1)=ovr (wf o.R) cs1:=funext (jm cs1 o.R nd1)
 have e2:wf (exK o.W cs2)=ovr (wf o.W) cs2:=funext (jm cs2 o.W nd2)
 refine ⟨by show Rep CR CW H' (wf (exK o.R cs1)) (wf (exK o.W cs2)) a';rw [e1,e2];exact rp kb,.inr ⟨_,o.ds,rfl,?_⟩⟩
 show Hist CR CW H' (a::as) (ovr (wf (exK o.R cs1)) (bfK o.R cs1)) (ovr (wf (exK o.W cs2)) (bfK o.W cs2)) o.ds
 rw [show ovr (wf (exK o.R cs1)) (bfK o.R cs1)=wf o.R from funext (qvb nd1 v.h.fR.non),show ovr (wf (exK o.W cs2)) (bfK o.W cs2)=wf o.W from funext (qvb nd2 v.h.fW.non)]
 exact Hist.dl v.h.dl kb v.t
structure Nam (NM:List Str)(a:AH):Prop where
 r:∀n,(a.rs n).isSome=true→n∈NM
 w:∀n,(a.ws n).isSome=true→n∈NM
theorem W6 [DecidableEq α]:∀(l m:List α),l.Nodup→(∀x∈l,x∈m)→l.length≤m.length
 |[],_,_,_=>aJ _
 |a::l,m,nd,h=>by
  obtain ⟨n1,n2⟩:=aU.mp nd
  have ha:=h a (ar ..)
  have:=W6 l (m.erase a) n2 λx hx=>(List.mem_erase_of_ne (λz=>n1 (by rw [←z];exact hx))).mpr (h x (ax _ hx))
  rw [fi ha] at this
  have:=List.length_pos_of_mem ha
  rw [au]
  lia
variable {NM:List Str}
theorem qkc (nd:(R.map (·.1)).Nodup)(h:∀k v,wf R k=some v→∃n,k=.inr n∧n∈NM):R.length≤NM.length:=by
 have:=W6 (R.map (·.1)) (NM.map Sum.inr) nd λk hk=>by
  obtain ⟨c,hc,rfl⟩:=aq.mp hk
  obtain ⟨n,e,hn⟩:=h _ _ (jk nd hc)
  rw [e]
  exact aq.mpr ⟨n,hn,rfl⟩
 rwa [aa,aa] at this
theorem VH.lens {CR:Aj}(v:VH C CR CW H o (a::as)){NM:List Str}(nm:Nam NM a):o.R.length≤NM.length∧o.W.length≤NM.length:=by
 refine ⟨qkc v.h.nR λk u e=>?_,qkc v.h.nW λk u e=>?_⟩
 ·obtain ⟨n,_,rfl,_⟩:=v.h.fR k u e
  refine ⟨n,rfl,nm.r n ?_⟩
  have:=v.rep.r n
  cases e2:a.rs n with
  |none =>
   rw [e2] at this
   have this:wf o.R (.inr n)=none:=this
   rw [this] at e;cases e
  |some _=>rfl
 ·obtain ⟨n,_,rfl,_⟩:=v.h.fW k u e
  refine ⟨n,rfl,nm.w n ?_⟩
  have:=v.rep.w n
  cases e2:a.ws n with
  |none =>
   rw [e2] at this
   have this:wf o.W (.inr n)=none:=this
   rw [this] at e;cases e
  |some _=>rfl
theorem Rep.road {CR:Aj}{f g:Key→Option V}(h:Rep CR CW H f g a){n:Str}{hs:List Int}(e:a.rs n=some hs):∃r,f (.inr n)=some (.ref r)∧RoadAt CR H r hs:=by
 have:=h.r n
 rw [e] at this
 exact this
theorem Rep.wk {CR:Aj}{f g:Key→Option V}(h:Rep CR CW H f g a){n:Str}{w:Wk}(e:a.ws n=some w):∃y p t,g (.inr n)=some (.ref y)∧WkAt CW H y w.wh p w.pt t w.tv:=by
 have:=h.w n
 rw [e] at this
 exact this
theorem Rep.noR {CR:Aj}{f g:Key→Option V}(h:Rep CR CW H f g a){n:Str}(e:a.rs n=none):f (.inr n)=none:=by
 have:=h.r n
 rw [e] at this
 exact this
theorem Rep.noW {CR:Aj}{f g:Key→Option V}(h:Rep CR CW H f g a){n:Str}(e:a.ws n=none):g (.inr n)=none:=by
 have:=h.w n
 rw [e] at this
 exact this
theorem wq4 {f:Key→Option V}{k:Key}(m:Key):ovr f [(k,v)] m=if m=k then (if v=.non then none else some v) else f m:=by
 unfold ovr
 by_cases z:k=m
 ·rw [zk z,ak z.symm]
  cases v <;> rfl
 ·rw [x8 z,af (aY z)]
  rfl
theorem Rep.putW {CR:Aj}{f g:Key→Option V}(h:Rep CR CW H f g a){n:Str}{w:Wk}{y p t:Aj}(wk:WkAt CW H y w.wh p w.pt t w.tv)(tm:TmOk w.tv){hs:List Int}(er:a.rs w.wh=some hs)(hp:HPt hs w.pt):Rep CR CW H (ovr f []) (ovr g [(.inr n,.ref y)]) (a.putW n w):=by
 refine ⟨h.r,λm=>?_,h.ok.lo,λm w' e=>?_⟩
 ·rw [wq4]
  show WRep CW H _ (if m=n then some w else a.ws m)
  by_cases z:m=n
  ·rw [ak z,ak (by rw [z]),af (λq=>by cases q)]
   exact ⟨y,p,t,rfl,wk⟩
  ·rw [af z,af (λq=>z (by injection q))]
   exact h.w m
 ·have e:(if m=n then some w else a.ws m)=some w':=e
  by_cases z:m=n
  ·rw [ak z] at e
   cases e
   exact ⟨tm,hs,er,hp⟩
  ·rw [af z] at e
   exact h.ok.wo m w' e
theorem qjx:Qc [((Sum.inr n:Key),V.ref y)]:=λc hc=>by
 rw [ay.mp hc]
 exact ⟨n,rfl,.inr ⟨y,rfl⟩⟩
theorem quq:Qc []:=λc hc=>nomatch hc
theorem wyv {f:Key→Option V}:qqy f []:=λc hc=>nomatch hc
theorem wk4 {f:Key→Option V}{k:Key}:qqy f [(k,.ref y)]:=λc hc hn=>by
 rw [ay.mp hc] at hn
 cases hn
variable {wh:Str}
theorem WDeed.g {x:Aj}{pt:Int×Int}{t:Aj}(h:WDeed C CW H H' x dr dw dd R W D n wh p pt t tv):∃y,wwb C H H' x dr dw dd R W D [] [(.inr n,.ref y)]∧WkAt CW H' y wh p pt t tv:=by
 obtain ⟨y,tp,q1,q2,a1,a2,a3,a4,a5,a6,a7,a8,a9,b1⟩:=h
 refine ⟨y,⟨tp,q1,q2,a1,a2,a3,?_,a5,a6,a7,a8,b1⟩,a9⟩
 rw [wq9]
 exact a4
theorem RDeed.g {CR:Aj}{x:Aj}(h:RDeed C CR H H' x dr dw dd R W D n hs):∃r,wwb C H H' x dr dw dd R W D [(.inr n,.ref r)] []∧RoadAt CR H' r hs:=by
 obtain ⟨r,tp,q1,q2,a1,a2,a3,a4,a5,a6,a7,a8,a9,b1⟩:=h
 refine ⟨r,⟨tp,q1,q2,a1,a2,a3,?_,a5,a6,a7,a8,b1⟩,a9⟩
 rw [wq9]
 exact a4
theorem VH.walk {CR:Aj}(v:VH C CR CW H o (a::as)){n:Str}{w:Wk}{p t:Aj}(g:WDeed C CW H H' o.x o.dr o.dw o.dd o.R o.W (y0 o.ds) n w.wh p w.pt t w.tv)(tm:TmOk w.tv){hs:List Int}(er:a.rs w.wh=some hs)(hp:HPt hs w.pt):∃o',Nxt H o o'∧VH C CR CW H' o' (a.putW n w::a::as)∧Kb [o.dr,o.dw,o.dd] H H':=by
 obtain ⟨y,gd,wk⟩:=g.g
 exact v.did gd bi wkt (aJ _) (show 1≤1000 by decide) quq qjx wyv wk4 λkb=>(v.rep.dl v.h.dl kb).putW wk tm er hp
theorem VH.take {CR:Aj}{b:AH}(v:VH C CR CW H o (a::b::as))(lR:o.R.length≤1000)(lW:o.W.length≤1000)
  (k:∀H' o' d,Prv o o'→o.ds=d::o'.ds→VH C CR CW H' o' (b::as)→Kb [o.dr,o.dw,o.dd,d.q1,d.q2] H H'→Dl H [o.dr,o.dw,o.dd,d.q1,d.q2]→(∀q kv,q∉[o.dr,o.dw,o.dd]→Rd H q (.dK kv)→Rd H' q (.dK kv))→Q .non H'):Z5 C CN [.ref o.x] H Q E:=by
 obtain ⟨h1,h2⟩:=v.t
 rcases h2 with ⟨_,h2⟩|⟨d,ds,ed,h2⟩
 ·cases h2
 have hd:d∈o.ds:=by rw [ed];exact ar ..
 obtain ⟨_,dk⟩:=v.h.da d hd
 refine v.h.take ed lR lW λH' h' kb dl rdk=>k H' (o.undo d ds) d ⟨rfl,rfl,rfl,rfl,⟨d,ed⟩⟩ ed ⟨h',?_⟩ kb dl rdk
 show Hist CR CW H' (b::as) (wf (exK o.R d.cs1)) (wf (exK o.W d.cs2)) ds
 rw [show wf (exK o.R d.cs1)=ovr (wf o.R) d.cs1 from funext (jm _ _ dk.nd1),show wf (exK o.W d.cs2)=ovr (wf o.W) d.cs2 from funext (jm _ _ dk.nd2)]
 exact Hist.dl dl kb h2
structure Ap (o p:Ho):Prop where
 rr:o.dr≠p.dr
 rw_:o.dr≠p.dw
 wr:o.dw≠p.dr
 ww:o.dw≠p.dw
 dd:o.dd≠p.dd
 q1:∀q∈Q2 o.ds,q≠p.dr∧q≠p.dw
 q2:∀q∈Q2 p.ds,q≠o.dr∧q≠o.dw
theorem Ap.x {o p:Ho}(hp:HoAt C H p){ch:List Aj}(dl:Dl H ch):p.x∉ch:=by
 obtain ⟨dx,e⟩:=hp.hs.ob
 exact dl.other e (λ_ z=>by cases z) (λ_ _ z=>by cases z) (λ_ _ z=>by cases z)
theorem Ap.stay {CR:Aj}{p:Ho}(h:Ap o p)(ho:HoAt C H o)(vp:VH C CR CW H p as)(kb:Kb [o.dr,o.dw,o.dd] H H'):VH C CR CW H' p as:=by
 have dl:=ho.dl
 refine ⟨vp.h.frame kb dl ⟨Ap.x (o:=o) vp.h dl,λz=>?_,λz=>?_,λz=>?_⟩ λq hq hm kv e=>?_,Hist.dl dl kb vp.t⟩
 ·simp only [ag,aj,bd] at z
  rcases z with z|z|z
  ·exact h.rr z.symm
  ·exact h.wr z.symm
  ·have:=vp.h.hs.r;rw [z,ho.hs.d] at this;cases this
 ·simp only [ag,aj,bd] at z
  rcases z with z|z|z
  ·exact h.rw_ z.symm
  ·exact h.ww z.symm
  ·have:=vp.h.hs.w;rw [z,ho.hs.d] at this;cases this
 ·simp only [ag,aj,bd] at z
  rcases z with z|z|z
  ·have:=vp.h.hs.d;rw [z,ho.hs.r] at this;cases this
  ·have:=vp.h.hs.d;rw [z,ho.hs.w] at this;cases this
  ·exact h.dd z.symm
 ·simp only [ag,aj,bd] at hq
  rcases hq with z|z|z
  ·exact absurd z (h.q2 q hm).1
  ·exact absurd z (h.q2 q hm).2
  ·rcases e with e|⟨u,e⟩ <;> (rw [z,ho.hs.d] at e;cases e)
variable {o':Ho}
theorem Ap.nxt {p:Ho}(h:Ap o p)(hp:HoAt C H p)(n:Nxt H o o'):Ap o' p:=by
 obtain ⟨d,e,n1,n2⟩:=n.ds
 refine ⟨by rw [n.dr];exact h.rr,by rw [n.dr];exact h.rw_,by rw [n.dw];exact h.wr,by rw [n.dw];exact h.ww,by rw [n.dd];exact h.dd,λq hq=>?_,λq hq=>by rw [n.dr,n.dw];exact h.q2 q hq⟩
 rw [e] at hq
 have hq:q∈d.q1::d.q2::Q2 o.ds:=hq
 rcases ag.mp hq with rfl|hq
 ·exact ⟨(wz hp.hs.r n1).symm,(wz hp.hs.w n1).symm⟩
 ·rcases ag.mp hq with rfl|hq
  ·exact ⟨(wz hp.hs.r n2).symm,(wz hp.hs.w n2).symm⟩
  ·exact h.q1 q hq
theorem Ap.prv {p:Ho}(h:Ap o p)(n:Prv o o'):Ap o' p:=by
 obtain ⟨d,e⟩:=n.ds
 refine ⟨by rw [n.dr];exact h.rr,by rw [n.dr];exact h.rw_,by rw [n.dw];exact h.wr,by rw [n.dw];exact h.ww,by rw [n.dd];exact h.dd,λq hq=>h.q1 q ?_,λq hq=>by rw [n.dr,n.dw];exact h.q2 q hq⟩
 rw [e]
 exact ax _ (ax _ hq)
theorem Ap.back {CR:Aj}{p:Ho}(h:Ap o p)(ho:HoAt C H o)(ed:o.ds=d::ds)(vp:VH C CR CW H p as)(kb:Kb [o.dr,o.dw,o.dd,d.q1,d.q2] H H')(dl:Dl H [o.dr,o.dw,o.dd,d.q1,d.q2])(rdk:∀q kv,q∉[o.dr,o.dw,o.dd]→Rd H q (.dK kv)→Rd H' q (.dK kv)):VH C CR CW H' p as:=by
 have hd:d∈o.ds:=by rw [ed];exact ar ..
 have m:=Jh hd
 have a1:=h.q1 _ m.1
 have a2:=h.q1 _ m.2
 obtain ⟨⟨_,r1,r2⟩,_⟩:=ho.da d hd
 refine ⟨vp.h.frame kb dl ⟨Ap.x (o:=o) vp.h dl,λz=>?_,λz=>?_,λz=>?_⟩ λq hq hm kv e=>rdk q kv (λz=>?_) e,Hist.dl dl kb vp.t⟩
 ·simp only [ag,aj,bd] at z
  rcases z with z|z|z|z|z
  ·exact h.rr z.symm
  ·exact h.wr z.symm
  ·have:=vp.h.hs.r;rw [z,ho.hs.d] at this;cases this
  ·exact a1.1 z.symm
  ·exact a2.1 z.symm
 ·simp only [ag,aj,bd] at z
  rcases z with z|z|z|z|z
  ·exact h.rw_ z.symm
  ·exact h.ww z.symm
  ·have:=vp.h.hs.w;rw [z,ho.hs.d] at this;cases this
  ·exact a1.2 z.symm
  ·exact a2.2 z.symm
 ·simp only [ag,aj,bd] at z
  rcases z with z|z|z|z|z
  ·have:=vp.h.hs.d;rw [z,ho.hs.r] at this;cases this
  ·have:=vp.h.hs.d;rw [z,ho.hs.w] at this;cases this
  ·exact h.dd z.symm
  ·rcases r1 with r1|⟨u,r1⟩ <;> (have:=vp.h.hs.d;rw [z,r1] at this;cases this)
  ·rcases r2 with r2|⟨u,r2⟩ <;> (have:=vp.h.hs.d;rw [z,r2] at this;cases this)
 ·simp only [ag,aj,bd] at z
  rcases z with z|z|z
  ·exact absurd z (h.q2 q hm).1
  ·exact absurd z (h.q2 q hm).2
  ·rcases e with e|⟨u,e⟩ <;> (rw [z,ho.hs.d] at e;cases e)
theorem VH.goes {CR CC:Aj}{w:Wk}{m:Int}(v:VH C CR CW H o (a::as)){NM:List Str}(nm:Nam NM a)(lN:NM.length≤100)(lD:o.ds.length≤10000)(en:a.ws n=some w)(er:a.rs w.wh=some hs)(wi:Within m 0 (some 1000000000000000000000000000000000000000000000000000000000000))
  (k:∀H' o' p tv',Nxt H o o'→VH C CR CW H' o' (a.putW n ⟨w.wh,itP hs w.pt m.toNat,tv'⟩::a::as)→TmOk tv'→Hits hs w.pt m.toNat w.tv tv'→Kb [o.dr,o.dw,o.dd] H H'→H' p=some (.tup [.int (itP hs w.pt m.toNat).1,.int (itP hs w.pt m.toNat).2])→Q (.ref p) H'):spGo C CR CW CN CC [.ref o.x,.str n,.int m] H Q E:=by
 obtain ⟨y,p,t,ey,wk⟩:=v.rep.wk en
 obtain ⟨r,err,ra⟩:=v.rep.road er
 obtain ⟨tm,hs',er',hp⟩:=v.rep.ok.wo n w en
 rw [er] at er'
 cases er'
 have ln:=v.lens nm
 refine ⟨o.x,o.dr,o.dw,o.dd,o.R,o.W,_,n,m,rfl,v.h.hs,⋯,⋯,by rw [qv5];lia,(λz=>by rw [ey] at z;cases z),λu eu=>?_⟩
 rw [ey] at eu
 cases eu
 refine ⟨y,w.wh,p,w.pt,t,w.tv,r,hs,rfl,wk,tm,err,ra,hp,(λz=>absurd wi z),λ_ H' p' t' tv' wd tm' hit=>?_⟩
 have pt':H' p'=some (.tup [.int (itP hs w.pt m.toNat).1,.int (itP hs w.pt m.toNat).2]):=by
  obtain ⟨y',_,_,_,_,_,_,_,_,_,_,_,wk',_⟩:=wd
  exact wk'.pt
 obtain ⟨o',nx,v',kb⟩:=v.walk (w:=⟨w.wh,itP hs w.pt m.toNat,tv'⟩) wd tm' er (hp.it _)
 exact k H' o' p' tv' nx v' tm' hit kb pt'
theorem VH.places {CR CT CNR CB CO:Aj}{pa:Aj}{t b:Int}(v:VH C CR CW H o (a::as)){NM:List Str}(nm:Nam NM a)(lN:NM.length≤100)(lD:o.ds.length≤10000)(nn:zw n=true)(ln:n.length≤1000)(en:a.ws n=none)(er:a.rs wh=some hs)(fp:H pa=some (.tup [.int t,.int b]))(b1:1≤b)(sm:Sm 8000 b)(hp:HPt hs (wn t b))
  (k:∀H' o',Nxt H o o'→VH C CR CW H' o' (a.putW n ⟨wh,wn t b,[([.inl (wn t b).1,.inl (wn t b).2],.int 1)]⟩::a::as)→Kb [o.dr,o.dw,o.dd] H H'→Q .non H'):Jd K C CR CW CN CT CNR CB CO [.ref o.x,.str n,.str wh,.ref pa] H Q E:=by
 obtain ⟨r,err,ra⟩:=v.rep.road er
 have vn:=v.rep.noW en
 have lens:=v.lens nm
 refine ⟨o.x,o.dr,o.dw,o.dd,pa,o.R,o.W,_,n,wh,t,b,rfl,v.h.hs,⋯,⋯,by rw [qv5];lia,ln,fp,(λz=>by rw [nn] at z;cases z),(λ_ z=>by rw [vn] at z;cases z),λ_ _=>⟨(λz=>by rw [err] at z;cases z),λu eu=>?_⟩⟩
 rw [err] at eu
 cases eu
 refine ⟨r,hs,rfl,ra,hp.1,(λz=>absurd z ⋯),λ_=>⟨sm,(λz=>absurd z (by have:=hp.2.2;lia)),λ_=>⟨(λz=>absurd hp.2.1.2.2.2 z),λ_ H' p t' wd=>?_⟩⟩⟩
 have rg:=hp.rng
 obtain ⟨o',nx,v',kb⟩:=v.walk (w:=⟨wh,wn t b,[([.inl (wn t b).1,.inl (wn t b).2],.int 1)]⟩) wd (TmOk.one rg.1 rg.2.1 rg.2.2.1 rg.2.2.2) er hp
 exact k H' o' nx v' kb
def jn (c:Key×V):Str:=match c.1 with | .inr n=>n | .inl _ => ""
theorem v5 (nd:(W.map (·.1)).Nodup)(h:RefsF (wf W)):W.map (·.1)=(W.map jn).map Sum.inr∧(W.map jn).Nodup:=by
 have e:W.map (·.1)=(W.map jn).map Sum.inr:=by
  rw [aZ]
  refine cf λc hc=>?_
  obtain ⟨n,_,e,_⟩:=h _ _ (jk nd hc)
  show c.1=Sum.inr (jn c)
  unfold jn
  rw [e]
 refine ⟨e,?_⟩
 rw [e] at nd
 exact (bI.mp nd).imp λ{x y} hxy z=>hxy (by rw [z])
def AH.nil:AH:=⟨λ_=>none,λ_=>none⟩
theorem VH.nil {CR:Aj}{x:Aj}(h:Hse C H x dr dw dd [] [] []):VH C CR CW H ⟨x,dr,dw,dd,[],[],[]⟩ [AH.nil] :=
 ⟨⟨h,(λd hd=>nomatch hd),(λq hq=>nomatch hq),trivial,bi,bi,(λm v e=>nomatch e),(λm v e=>nomatch e)⟩,⟨⟨(λ_=>rfl),(λ_=>rfl),⟨(λ_ _ e=>nomatch e),(λ_ _ e=>nomatch e)⟩⟩,.inl ⟨rfl,rfl⟩⟩⟩
theorem Nam.putR (h:Nam NM a){n:Str}(hn:n∈NM)(hs:List Int):Nam NM (a.putR n hs):=⟨λm e=>by
 have e:(if m=n then some hs else a.rs m).isSome=true:=e
 by_cases z:m=n
 ·rw [z];exact hn
 ·rw [af z] at e
  exact h.r m e,h.w⟩
theorem Rep.putR {CR:Aj}{f g:Key→Option V}(h:Rep CR CW H f g a){n:Str}{hs:List Int}{r:Aj}(ra:RoadAt CR H r hs)(lo:xy hs)(hw:∀m w,a.ws m=some w→w.wh=n→HPt hs w.pt):Rep CR CW H (ovr f [(.inr n,.ref r)]) (ovr g []) (a.putR n hs):=by
 refine ⟨λm=>?_,h.w,λm hs' e=>?_,λm w e=>?_⟩
 ·rw [wq4]
  show RRep CR H _ (if m=n then some hs else a.rs m)
  by_cases z:m=n
  ·rw [ak z,ak (by rw [z]),af (λq=>by cases q)]
   exact ⟨r,rfl,ra⟩
  ·rw [af z,af (λq=>z (by injection q))]
   exact h.r m
 ·have e:(if m=n then some hs else a.rs m)=some hs':=e
  by_cases z:m=n
  ·rw [ak z] at e
   cases e
   exact lo
  ·rw [af z] at e
   exact h.ok.lo m hs' e
 ·obtain ⟨tm,hs',er,hp⟩:=h.ok.wo m w e
  by_cases z:w.wh=n
  ·exact ⟨tm,hs,ak z,hw m w e z⟩
  ·exact ⟨tm,hs',(af z).trans er,hp⟩
theorem VH.road {CR:Aj}(v:VH C CR CW H o (a::as)){n:Str}{hs:List Int}(g:RDeed C CR H H' o.x o.dr o.dw o.dd o.R o.W (y0 o.ds) n hs)(lo:xy hs)(hw:∀m w,a.ws m=some w→w.wh=n→HPt hs w.pt):∃o',Nxt H o o'∧VH C CR CW H' o' (a.putR n hs::a::as)∧Kb [o.dr,o.dw,o.dd] H H':=by
 obtain ⟨r,gd,ra⟩:=g.g
 exact v.did gd wkt bi (show 1≤1000 by decide) (aJ _) qjx quq wk4 wyv λkb=>(v.rep.dl v.h.dl kb).putR ra lo hw
theorem VH.lays {CR CT CL:Aj}(v:VH C CR CW H o (a::as)){NM:List Str}(nm:Nam NM a)(lN:NM.length≤100)(lD:o.ds.length≤10000)(nn:zw n=true)(ln:n.length≤1000)(en:a.rs n=none)(fp:H p=some (.lst (hs.map V.int)))(lo:xy hs)
  (k:∀H' o',Nxt H o o'→VH C CR CW H' o' (a.putR n hs::a::as)→Kb [o.dr,o.dw,o.dd] H H'→Q .non H'):qjj K C CR CN CT CL [.ref o.x,.str n,.ref p] H Q E:=by
 have vn:=v.rep.noR en
 have lens:=v.lens nm
 refine ⟨o.x,o.dr,o.dw,o.dd,p,o.R,o.W,_,n,hs,rfl,v.h.hs,Jt _,⋯,⋯,by rw [qv5];lia,ln,fp,λ_ _ _ H' rd=>?_,(λz=>by rw [nn] at z;cases z),(λ_ z=>by rw [vn] at z;cases z),λ_ _ z=>absurd lo z⟩
 obtain ⟨o',nx,v',kb⟩:=v.road rd lo λm w e hw=>by
  obtain ⟨_,hs',er,_⟩:=v.rep.ok.wo m w e
  rw [hw,en] at er
  cases er
 exact k H' o' nx v' kb
def vd (cs:List Nat):Str:=⟨cs.toArray⟩
def Lets (cs:List Nat):Prop:=∀c∈cs,97≤c∧c<123
theorem let_at:∀i:Nat,i<26→atI (("abcdefghijklmnopqrstuvwxyz" : Str)).cps.toList (i:Int)=some (97+i):=by decide +kernel
theorem let_sz:(("abcdefghijklmnopqrstuvwxyz" : Str)).length≤sizeLine:=bw (show _≤1000 by decide +kernel) ⋯
theorem wjd:∀i:Nat,i<26→qqw (97+i)=true:=by decide +kernel
theorem wkq (cs:List Nat)(c:Nat):vd cs++(⟨#[c]⟩:Str)=vd (cs++[c]):=by
 show (⟨cs.toArray++#[c]⟩:Str)=⟨(cs++[c]).toArray⟩
 simp
theorem yf (cs:List Nat):(vd cs).length=cs.length:=by
 show cs.toArray.size=_
 simp
theorem wu5 {cs:List Nat}(h:Lets cs)(l1:1≤cs.length)(l2:cs.length≤12):zw (vd cs)=true:=by
 unfold zw
 rw [yf,aX ⟨l1,l2⟩,Bool.true_and]
 refine bF.mpr λi hi=>?_
 have hi:i<cs.length:=by
  have:=aS.mp hi
  rw [show (vd cs).cps.size=cs.length from yf cs] at this
  exact this
 have e:(vd cs).cps.getD i 0=cs[i]:=by
  show cs.toArray.getD i 0=_
  simp [Array.getD,hi]
 rw [e]
 have:=h _ (bE hi)
 rw [show cs[i]=97+(cs[i]-97) by lia]
 exact wjd _ ⋯
theorem qut (cs:List Nat){n:Nat}(hn:n≤cs.length):Txt.slice (vd cs) none (some (n:Int))=vd (cs.take n):=by
 have e0:Builtin.Str.strSliceIndices none (some (n:Int)) 1 (vd cs).length=Builtin.Str.strSliceIndices (some ((0:Nat):Int)) (some (n:Int)) 1 (vd cs).length:=by
  unfold Builtin.Str.strSliceIndices
  simp
  rw [show max (0:Int) (min 0 ((vd cs).length:Int))=0 by lia]
 have hn':n≤(vd cs).length:=by rw [yf];exact hn
 have e1:=StrLaws.sliced_plain (vd cs) (aJ n) hn'
 have e2:=StrLaws.strSliceIndices_plain (aJ n) hn'
 have e3:(vd cs).cps.toList=cs:=by
  show cs.toArray.toList=cs
  simp
 unfold Txt.slice
 rw [e0]
 split
 ·next h =>
  rw [e2] at h
  have:n=cs.length:=by simpa [yf] using h
  rw [this,cF]
 ·rw [e1,e3,List.drop_zero,Nat.sub_zero]
  rfl
def NmOk (place:Nat)(v:Nat)(cs:List Nat):Prop:=Lets cs∧1≤cs.length∧cs.length≤12∧cs[place]?=some (97+v)
def qq5 (K:Aa):Sp:=λvs H Q _=>∃(a:Aj) (ns:List Int) (i:Int),vs=[.ref a,.int i]∧SqL K H a (ns.map V.int)∧0≤i∧∀(q:Aj) (L:List (List Nat)) (H':Hp),Same H H'→H q=none→H' q=some (.lst (L.map λcs=>V.str (vd cs)))→L.length=5→(∀cs∈L,Lets cs∧1≤cs.length∧cs.length≤12)→L.Nodup→Q (.ref q) H'
include T in
theorem wzg (F:Fun K "_law_names" "_law_names" zb7 f fd)(zaa:Cal P w K mg base "_law_pick" 2 (um K)):FK P w K mg base 3 f fd ["_law_script","_law_at"] (qq5 K):=by
 have sc:=qxb
 refine F.okX sc (λvs H Q E h=>by obtain ⟨_,_,_,rfl,_⟩:=h;rfl) λ_ _ _ _ H vs Q E hr h=>?_
 obtain ⟨a,ns,i,rfl,hS,h0,kk⟩:=h
 have big:(1000000:Nat)<sizeLine:=by decide
 have sm:∀z:Int,-(2 ^ 64)≤z→z≤2 ^ 64→Sm 65 z:=λz z1 z2=>Sm.small z1 z2 ⋯
 refine ⟨_,(qj (w4 (i:=2) xp)
   (qj (w4 (i:=3) (wb xz qr (wCA zaa (q9 (pv 0) (q9 (pv 1) (xb qr (xb qr qk)))))))
   (qj (w4 (i:=4) (wCA zaa (q9 (pv 0) (q9 (pv 1) (xb qr (q9 (pv 3) qk))))))
   (qj (w4 (i:=5) (wCA zaa (q9 (pv 0) (q9 (pv 1) (xb qr (xb qr qk))))))
   (qj (w4 (i:=6) (j8 qk))
   (qj (vf aE rfl (zh rfl T.range_ (xb qr qk)) (xq (i:=7)) (qj (w4 (i:=8) xp)
   (qj (vf aE rfl (zh rfl T.range_ (q9 (pv 3) qk)) (xq (i:=9)) (qj (w4 (i:=10) (wCA zaa (q9 (pv 0) (q9 (pv 1) (zx (wb xz qr (pv 9)) (xb qr qk))))))
   (qkd (xg (wm vg (pv 9) (pv 4) (wt _)) (qh (w4 (i:=10) (wb kj (wb xz (pv 5) (wb xt qr (pv 7))) qr))) xx)
   (qh (w4 (i:=8) (wb zf (pv 8) (zd ix_str (pv 2) (pv 10) (λ_ _=>rfl))))))))
   (qkd (xg (wm vg (wCA zaa (q9 (pv 0) (q9 (pv 1) (xb qr (xb qr qk))))) qr (wt _)) (qh (w4 (i:=8) (qjs sl_str (pv 8) www (wwj (wp (qvq rfl) rfl T.max_ dP (zx (wb xz (pv 4) qr) (zx (wb zt (pv 3) (wb kj (wb xt qr (pv 7)) qr)) qk))))))) xx)
   (qh (zb (u7 bA bL bM j0 (pv 6) (q9 (pv 8) qk))))))))
   (qh (w9 (pv 6))))))))),?_⟩
 refine exI rfl (exI rfl ⟨a,ns,_,_,_,rfl,hS,h0,⋯,⋯,⋯,λr0 _ l0 u0=>(wg rfl rfl ?_)⟩)
 refine exI rfl (exI rfl (exI rfl ⟨a,ns,_,_,_,rfl,hS,h0,⋯,⋯,⋯,λpl _ l1 u1=>?_⟩))
 refine exI rfl (exI rfl ⟨a,ns,_,_,_,rfl,hS,h0,⋯,⋯,⋯,λsf _ l2 u2=>?_⟩)
 refine ⟨sz0,λp np=>?_⟩
 refine ⟨_,rfl,⋯,⋯,kf (n:=(5:Int).toNat) (λj σ H'=>∃(L:List (List Nat)) (z1 z2 z3 z4:Option V),L.length=j∧(∀(t:Nat) cs,L[t]?=some cs→NmOk pl.toNat ((sf+5*t)%26).toNat cs)∧Same H H'∧H' p=some (.lst (L.map λcs=>V.str (vd cs)))∧σ=[some (.ref a),some (.int i),some (.str "abcdefghijklmnopqrstuvwxyz"),some (.int (1+r0)),some (.int pl),some (.int sf),some (.ref p),z1,z2,z3,z4])
  ⟨[],_,_,_,_,rfl,(λt cs e=>by cases e),Same.upd np,qb,rfl⟩ ?_ ?_⟩
 ·rintro j σ H1 hj ⟨L,z1,z2,z3,z4,lL,hL,s1,f1,rfl⟩
  have hj:j<5:=hj
  have m0:=bh (sf+5*((0:Int)+j)) (show (26:Int)≠0 by decide)
  have m1:=bj (sf+5*((0:Int)+j)) (show (0:Int)<26 by decide)
  refine ⟨_,rfl,1+r0,rfl,⋯,⋯,kf (n:=(1+r0).toNat) (λk σ H'=>∃(cs:List Nat) (z3 z4:Option V),cs.length=k∧Lets cs∧(pl.toNat<k→cs[pl.toNat]?=some (97+((sf+5*((0:Int)+j))%26).toNat))∧H'=H1∧σ=[some (.ref a),some (.int i),some (.str "abcdefghijklmnopqrstuvwxyz"),some (.int (1+r0)),some (.int pl),some (.int sf),some (.ref p),some (.int ((0:Int)+j)),some (.str (vd cs)),z3,z4])
   ⟨[],_,_,rfl,(λc hc=>nomatch hc),(λz=>absurd z ⋯),rfl,rfl⟩ ?_ ?_⟩
  ·rintro k σ H2 hk ⟨cs,z3,z4,lc,hc,hp,rfl,rfl⟩
   refine exI rfl (exI rfl (exI rfl (wg rfl rfl ⟨a,ns,_,_,_,rfl,s1.sql hS,h0,⋯,⋯,⋯,λsg _ g0 g1=>?_⟩)))
   refine ⟨λσ H'=>∃v:Int,0≤v∧v<26∧((0:Int)+k=pl→v=(sf+5*((0:Int)+j))%26)∧H'=H2∧σ=[some (.ref a),some (.int i),some (.str "abcdefghijklmnopqrstuvwxyz"),some (.int (1+r0)),some (.int pl),some (.int sf),some (.ref p),some (.int ((0:Int)+j)),some (.str (vd cs)),some (.int ((0:Int)+k)),some (.int v)],?_,?_⟩
   ·refine exI rfl (exI rfl ⟨rfl,_,rfl,jc (λe=>?_) (λe=>⟨sg,g0,g1,λz=>absurd z e,rfl,rfl⟩)⟩)
    exact ⟨_,rfl,_,rfl,_,_,rfl,rfl,(sm _ ⋯ ⋯).ok (sm _ ⋯ ⋯) ⋯,_,_,rfl,rfl,_,_,rfl,rfl,(by walk_at "pos"),_,m0,m1,λ_=>rfl,rfl,rfl⟩
   ·rintro σ H3 ⟨v,v0,v1,ve,rfl,rfl⟩
    have ea:=let_at v.toNat ⋯
    rw [cb v0] at ea
    refine exI rfl (exI rfl (exI rfl ⟨_,_,_,rfl,rfl,let_sz,ea,wg rfl rfl ⟨?_,?_⟩⟩))
    ·rw [yf]
     show cs.length+1≤_
     lia
    ·refine ⟨cs++[97+v.toNat],_,_,by rw [aL,lc];rfl,λc hc'=>?_,λz=>?_,rfl,by rw [←wkq];rfl⟩
     ·rcases bq.mp hc' with q|q
      ·exact hc c q
      ·rw [ay.mp q]
       lia
     ·rcases (by lia:pl.toNat<k∨pl.toNat=k) with q|q
      ·rw [bG ⋯]
       exact hp q
      ·rw [bt ⋯,lc,q,Nat.sub_self,ve ⋯]
       rfl
  ·rintro σ H2 ⟨cs,z3,z4,lc,hc,hp,rfl,rfl⟩
   have lc:cs.length=(1+r0).toNat:=lc
   have hp:=hp ⋯
   refine ⟨λσ H'=>∃(ds:List Nat),NmOk pl.toNat ((sf+5*((0:Int)+j))%26).toNat ds∧H'=H2∧σ=[some (.ref a),some (.int i),some (.str "abcdefghijklmnopqrstuvwxyz"),some (.int (1+r0)),some (.int pl),some (.int sf),some (.ref p),some (.int ((0:Int)+j)),some (.str (vd ds)),z3,z4],?_,?_⟩
   ·refine exI rfl (exI rfl ⟨a,ns,_,_,_,rfl,s1.sql hS,h0,⋯,⋯,⋯,λr3 _ l3 u3=>?_⟩)
    refine ⟨rfl,_,rfl,jc (λe=>?_) (λe=>⟨cs,⟨hc,⋯,⋯,hp⟩,rfl,rfl⟩)⟩
    have q0:=bh (2*((0:Int)+j)) (show (7:Int)≠0 by decide)
    refine exI rfl (exI rfl (wg rfl rfl (exI rfl (exI rfl (wg rfl rfl ⟨(sm _ ⋯ ⋯).ok (sm _ ⋯ ⋯) ⋯,wg rfl rfl ⟨(by walk_at "pos"),wg rfl rfl ⟨_,_,rfl,_,rfl,?_⟩⟩⟩)))))
    obtain ⟨n,hn,n1,n2⟩:∃n:Nat,(if 1+r0-2*((0:Int)+j)%7>pl+1 then 1+r0-2*((0:Int)+j)%7 else pl+1)=(n:Int)∧pl.toNat<n∧n≤cs.length:=by
     refine ⟨(if 1+r0-2*((0:Int)+j)%7>pl+1 then 1+r0-2*((0:Int)+j)%7 else pl+1).toNat,?_,?_,?_⟩ <;> split <;> lia
    have e8:Txt.slice (vd cs) none (some (if 1+r0-2*((0:Int)+j)%7>pl+1 then 1+r0-2*((0:Int)+j)%7 else pl+1))=vd (cs.take n):=by
     rw [hn]
     exact qut cs n2
    have lt:(cs.take n).length=n:=by rw [bD];lia
    refine ⟨vd cs,rfl,by rw [yf];lia,cs.take n,⟨λc hc'=>hc c (List.mem_of_mem_take hc'),⋯,⋯,?_⟩,rfl,by rw [←e8];rfl⟩
    rw [List.getElem?_take,ak n1]
    exact hp
   ·rintro σ H3 ⟨ds,hd,rfl,rfl⟩
    refine exI rfl ⟨.inl ⟨rfl,_,SqL.of f1⟩,exI rfl ⟨_,_,_,rfl,rfl,f1,?_,?_⟩⟩
    ·rw [aa,lL]
     lia
    ·refine ⟨L++[ds],_,_,_,_,by rw [aL,lL];rfl,λt cs' et=>?_,Same.upd2 s1 np,?_,rfl⟩
     ·rcases dH t L.length with q|q
      ·rw [bG q] at et
       exact hL t cs' et
      ·rw [bt q] at et
       have:t=L.length:=by
        rcases (by lia:t-L.length=0∨1≤t-L.length) with y|y
        ·lia
        ·rw [be (by simpa using y)] at et
         cases et
       subst this
       rw [Nat.sub_self] at et
       cases et
       rw [Int.zero_add] at hd
       rw [lL]
       exact hd
     ·rw [aO]
      exact qb
 ·rintro σ H1 ⟨L,z1,z2,z3,z4,lL,hL,s1,f1,rfl⟩
  have lL:L.length=5:=lL
  refine exI rfl (kk p L H1 s1 np f1 lL (λcs hcs=>?_) ?_)
  ·obtain ⟨t,ht,rfl⟩:=List.mem_iff_getElem.mp hcs
   obtain ⟨q1,q2,q3,_⟩:=hL t _ (al ht)
   exact ⟨q1,q2,q3⟩
  ·refine List.pairwise_iff_getElem.mpr λx y hx hy hxy e=>?_
   have e1:=(hL x _ (al hx)).2.2.2
   have e2:=(hL y _ (al hy)).2.2.2
   rw [e,e2] at e1
   have e3:=az e1
   have a0:=bh (sf+5*(x:Int)) (show (26:Int)≠0 by decide)
   have b0:=bh (sf+5*(y:Int)) (show (26:Int)≠0 by decide)
   have:(sf+5*(x:Int))%26=(sf+5*(y:Int))%26:=by lia
   lia
theorem wwk:∀ms:List Str,RDs K H (ms.map .str) (ms.map V.str)
 |[]=>by rw [bO,bO,RDs]
 |m::ms=>by
  rw [aA,aA,RDs]
  exact ⟨_,_,rfl,by rw [RD],wwk ms⟩
variable {ms:List Str}
theorem wxu {l:Aj}(h:H l=some (.lst (ms.map V.str))):RD K H (.list (ms.map .str)) (.ref l):=by
 rw [RD]
 exact ⟨l,exI rfl ⟨SqL.of h,wwk ms⟩⟩
theorem qwc:∀ms:List Str,PyData.eqvAll (ms.map .str) (ms.map .str)=true
 |[]=>by rw [bO,PyData.eqvAll]
 |m::ms=>by
  rw [aA,PyData.eqvAll,qwc ms,PyData.eqv]
  simp
def qkr (ms ns:List Str):PyData:=.tuple [.list (ms.map .str),.list (ns.map .str)]
theorem wxz {l1 l2:Aj}{ns:List Str}(h:H q=some (.tup [.ref l1,.ref l2]))(h1:H l1=some (.lst (ms.map V.str)))(h2:H l2=some (.lst (ns.map V.str))):RD K H (qkr ms ns) (.ref q):=by
 unfold qkr
 rw [RD]
 refine ⟨q,exI rfl ⟨SqT.of h,?_⟩⟩
 rw [RDs]
 refine ⟨_,_,rfl,wxu h1,?_⟩
 rw [RDs]
 exact ⟨_,_,rfl,wxu h2,by rw [RDs]⟩
theorem wyh (ms ns:List Str):PyData.eqv (qkr ms ns) (qkr ms ns)=true:=by
 unfold qkr
 rw [PyData.eqv,PyData.eqvAll,PyData.eqvAll,PyData.eqvAll,PyData.eqv,PyData.eqv,qwc,qwc]
 rfl
theorem qwj:∀ {ms:List Str},(∀m∈ms,PyData.strOk m=true)→PyData.canLayAll0 (ms.map .str)=true
 |[],_=>by simp [PyData.canLayAll0]
 |m::ms,h=>by
  have a:=h m (ar ..)
  have b:=qwj λx hx=>h x (ax _ hx)
  simp [PyData.canLayAll0,PyData.canLay0,a,b]
theorem qj3 {ns:List Str}(h1:∀m∈ms,PyData.strOk m=true)(h2:∀m∈ns,PyData.strOk m=true):(qkr ms ns).canLay0=true:=by
 simp [qkr,PyData.canLay0,PyData.canLayAll0,qwj h1,qwj h2]
theorem qq7:∀ms:List Str,PyData.depthAll (ms.map .str)≤1
 |[]=>by simp [PyData.depthAll]
 |m::ms=>by
  have:=qq7 ms
  simp only [aA,PyData.depthAll,PyData.depth]
  lia
theorem wjy (ms ns:List Str)(d:PyData):min (qkr ms ns).depth d.depth≤60:=by
 have a:=qq7 ms
 have b:=qq7 ns
 simp only [qkr,PyData.depth,PyData.depthAll]
 lia
theorem W1:∀ {l m:List Str},l.Nodup→m.Nodup→(∀x,x∈l↔x∈m)→l.Pairwise (λx y=>¬ y.cps.toList<x.cps.toList)→m.Pairwise (λx y=>¬ y.cps.toList<x.cps.toList)→l=m
 |[],[],_,_,_,_,_=>rfl
 |[],y::m,_,_,h,_,_=>absurd ((h y).mpr (ar ..)) aj
 |x::l,[],_,_,h,_,_=>absurd ((h x).mp (ar ..)) aj
 |x::l,y::m,n1,n2,h,p1,p2=>by
  obtain ⟨a1,m1⟩:=aU.mp n1
  obtain ⟨a2,m2⟩:=aU.mp n2
  obtain ⟨b1,q1⟩:=dB.mp p1
  obtain ⟨b2,q2⟩:=dB.mp p2
  have exy:x=y:=by
   rcases ag.mp ((h x).mp (ar ..)) with z|z
   ·exact z
   ·rcases ag.mp ((h y).mpr (ar ..)) with w|w
    ·exact w.symm
    ·have e:=List.le_antisymm (as:=x.cps.toList) (bs:=y.cps.toList) (b1 y w) (b2 x z)
     cases x;cases y
     simpa using e
  subst exy
  have:l=m:=W1 m1 m2 (λz=>by
   have hz:=h z
   simp only [ag] at hz
   constructor
   ·intro hl
    rcases hz.mp (.inr hl) with w|w
    ·exact absurd (w▸hl) a1
    ·exact w
   ·intro hm
    rcases hz.mpr (.inr hm) with w|w
    ·exact absurd (w▸hm) a2
    ·exact w) q1 q2
  rw [this]
theorem jq (nd:(W.map (·.1)).Nodup)(h:RefsF (wf W))(n:Str):n∈W.map jn↔(wf W (.inr n)).isSome=true:=by
 have ek:=(v5 nd h).1
 have:n∈W.map jn↔(Sum.inr n:Key)∈W.map (·.1):=by
  rw [ek]
  exact ⟨λh=>aq.mpr ⟨n,h,rfl⟩,λh=>by
   obtain ⟨n',h',e⟩:=aq.mp h
   have e:n'=n:=by injection e
   rw [←e];exact h'⟩
 rw [this]
 constructor
 ·intro h
  obtain ⟨c,hc,e⟩:=aq.mp h
  have:=jk nd hc
  rw [e] at this
  rw [this];rfl
 ·intro h
  obtain ⟨u,eu⟩:=av.mp h
  exact aq.mpr ⟨_,wxq eu,rfl⟩
def xh (i:Int):Str:=Str.ofString (toString i)
def Wg (n:Str)(hs:List Int):Str:=Txt.join " " (("road" : Str)::n::hs.map xh)
def Wd (n wh:Str)(pt:Int×Int):Str:=Str.empty ++ "walker " ++ n ++ " " ++ wh ++ " " ++ xh pt.1 ++ " " ++ xh pt.2
theorem Qr {i:Int}(h0:0≤i)(h:i≤100000):i.natAbs.log2<1920:=by
 by_cases z:i.natAbs=0
 ·rw [z];decide
 ·refine (Nat.log2_lt z).mpr ?_
  have:(2:Nat) ^ 17≤2 ^ 1920:=Nat.pow_le_pow_right ⋯ ⋯
  have e:(2:Nat) ^ 17=131072:=by decide
  lia
theorem yc {i:Int}(h0:0≤i)(h:i≤100000):(xh i).length≤10:=PySem.W.KT.len_num h0 ⋯
theorem jf (a b:Str):(a++b).length=a.length+b.length:=by
 show (a.cps++b.cps).size=_
 rw [Array.size_append]
 rfl
theorem zp (lo:xy hs):hs.length≤25∧∀h∈hs,0≤h∧h≤100000:=by
 obtain ⟨_,h2,h3⟩:=lo
 exact ⟨h2,λh hh=>⟨(h3 h hh).1,by have:=(h3 h hh).2;lia⟩⟩
theorem Zq (h:∀h∈hs,0≤h∧h≤100000):((hs.map xh).map (·.length)).sum≤10*hs.length:=by
 induction hs with
 |nil=>exact aJ _
 |cons a l ih =>
  have:=ih λx hx=>h x (ax _ hx)
  have b:=yc (h a (ar ..)).1 (h a (ar ..)).2
  simp only [aA,fj,au]
  lia
theorem qq9:("road" : Str).length=4:=by decide +kernel
theorem qj0 (lo:xy hs)(ln:n.length≤100):JoinOk " " (("road" : Str)::n::hs.map xh)=true:=by
 obtain ⟨h1,h2⟩:=zp lo
 have:=Zq h2
 have e:=qq9
 refine cI ?_ (by decide +kernel)
 simp only [aA,fj,au,aa] at this ⊢
 lia
theorem Wh (lo:xy hs)(ln:n.length≤100):(Wg n hs).length≤1000:=by
 obtain ⟨h1,h2⟩:=zp lo
 have:=Zq h2
 have e:=qq9
 unfold Wg
 rw [show Txt.join " " (("road" : Str)::n::hs.map xh)=Str.join " " (("road" : Str)::n::hs.map xh) from bK _ _]
 refine bw (dN _ _) ?_
 rw [show (" " : Str).length=1 by decide +kernel]
 simp only [aA,fj,au,aa] at this ⊢
 lia
def Zm (C CR CW:Aj):Sp:=λvs H Q _=>∃(o:Ho) (a:AH) (as:List AH) (n:Str) (hs:List Int),vs=[.ref o.x,.str n]∧VH C CR CW H o (a::as)∧a.rs n=some hs∧n.length≤100∧∀H',Same H H'→Q (.str (Wg n hs)) H'
include T in
theorem qy3 (F:Fun K "road_row" "road_row" zby f fd)(zcw:MCal P w K mg base qq "corners_of" 2 (yt qq qc wx)) :
  FK P w K mg base 3 f fd ["house","name"] (Zm qq qc qw):=by
 have sc:=quv
 refine F.okX sc (λvs H Q E h=>by obtain ⟨_,_,_,_,_,rfl,_⟩:=h;rfl) λ_ _ _ _ H vs Q E hr h=>?_
 obtain ⟨o,a,as,n,hs,rfl,v,en,ln,k⟩:=h
 obtain ⟨r,er,ra⟩:=v.rep.road en
 have lo:=v.rep.ok.lo n hs en
 obtain ⟨dx,hx⟩:=v.h.hs.ob
 refine ⟨_,(qh (w9 (u7 bP cT cU Ju xp (zx (wb wyk (j8 (xb xp (q9 (pv 1) qk))) (jz (M:=[]) rfl rfl (by walk_at "cap") (by walk_at "has") (by walk_at "cix") rfl (by decide +kernel) rfl (show List.Nodup (["height"]:List Str) by decide +kernel) (yw (xm (pv 0) T.clH zcw (hr.mono ⋯) qf (q9 (pv 1) qk))) (λ_ _ _ _ _=>(zu yx rfl T.str_ cV (q9 (pv 0) qk))))) qk)))),?_⟩
 refine ⟨rfl,exI rfl ⟨sz2,λp np=>?_⟩⟩
 have s1:Same H (upd H p (.lst [.str "road",.str n])):=Same.upd np
 have v1:=v.same s1
 obtain ⟨r',er',ra'⟩:=v1.rep.road en
 obtain ⟨dx1,hx1⟩:=v1.h.hs.ob
 refine ⟨_,rfl,o.x,dx1,_,rfl,hx1,xu,_,rfl,o.x,o.dr,o.dw,o.dd,o.R,o.W,_,n,rfl,v1.h.hs,λu eu=>?_,λz=>by rw [er'] at z;cases z⟩
 rw [er'] at eu
 cases eu
 refine ⟨r',hs,rfl,ra',λq nq=>?_⟩
 refine ⟨q,rfl,⟨_,SqL.of qb⟩,qzq (λx=>match x with|.int i=>.str (xh i)|_=>.non) (SqL.of qb) (by rw [aa];have:=(zp lo).1;lia) (λx H' R hx' s2 hR=>?_) λl nl=>?_⟩
 ·obtain ⟨i,hi,rfl⟩:=aq.mp hx'
  have:=(zp lo).2 i hi
  exact exI rfl (exI rfl ⟨Qr this.1 this.2,hR⟩)
 ·have e:(hs.map V.int).map (λx=>match x with|.int i=>V.str (xh i)|_=>.non)=(hs.map xh).map V.str:=by
   rw [aZ,aZ]
   rfl
  rw [e]
  have np1:q≠p:=λz=>by rw [z,qb] at nq;cases nq
  have np2:l≠p:=λz=>by rw [z,wy np1.symm,qb] at nl;cases nl
  refine ⟨p,l,_,_,rfl,rfl,by rw [wy np2.symm,wy np1.symm];exact qb,qb,?_,λj nj=>?_⟩
  ·have:=(zp lo).1
   have big:(1000000:Nat)<sizeLine:=by decide
   simp only [au,bQ,aa]
   lia
  ·exact ⟨_,_,("road" : Str)::n::hs.map xh,rfl,rfl,SqL.of qb,qj0 lo ln,k _ (((s1.trans (Same.upd nq)).trans (Same.upd nl)).trans (Same.upd nj))⟩
theorem Zb {pt:Int×Int}(ln:n.length≤100)(lw:wh.length≤100)(h1:0≤pt.1∧pt.1≤100000)(h2:0≤pt.2∧pt.2≤100000):(Wd n wh pt).length≤1000:=by
 have a1:=yc h1.1 h1.2
 have a2:=yc h2.1 h2.2
 have e1:(Str.empty ++ "walker " : Str).length=7:=by decide +kernel
 have e2:(" " : Str).length=1:=by decide +kernel
 unfold Wd
 simp only [jf] at e1 ⊢
 lia
def Qz (C CR CW:Aj):Sp:=λvs H Q _=>∃(o:Ho) (a:AH) (as:List AH) (n:Str) (w:Wk),vs=[.ref o.x,.str n]∧VH C CR CW H o (a::as)∧a.ws n=some w∧n.length≤100∧w.wh.length≤100∧∀H',Same H H'→Q (.str (Wd n w.wh w.pt)) H'
include T in
theorem qw7 (F:Fun K "walker_row" "walker_row" zbz f fd)(zcx:MCal P w K mg base qq "where" 2 (Jb qq qw qy)) :
  FK P w K mg base 3 f fd ["house","name"] (Qz qq qc qw):=by
 have sc:=qxj
 refine F.okX sc (λvs H Q E h=>by obtain ⟨_,_,_,_,_,rfl,_⟩:=h;rfl) λ_ _ _ _ H vs Q E hr h=>?_
 obtain ⟨o,a,as,n,wk,rfl,v,en,ln,lw,k⟩:=h
 refine ⟨_,(qj (js (xm (pv 0) T.clH zcx (hr.mono ⋯) qf (q9 (pv 1) qk)) (k9 rfl (xv (xq (i:=2)) (xv (k9 rfl (xv (xq (i:=3)) (xv (xq (i:=4)) zr))) zr))))
   (qh (w9 (wu7 (qv1 (qk7 (pv 1) (qv1 (qk7 (pv 2) (qv1 (qk7 (pv 3) (qv1 (qk7 (pv 4) pf_nil)))))))))))),?_⟩
 obtain ⟨y,p,tt,ey,wk'⟩:=v.rep.wk en
 obtain ⟨dx,hx⟩:=v.h.hs.ob
 obtain ⟨_,hs,_,hp⟩:=v.rep.ok.wo n wk en
 have rg:=hp.rng
 have g1:0≤wk.pt.1∧wk.pt.1≤100000:=by lia
 have g2:0≤wk.pt.2∧wk.pt.2≤100000:=by lia
 have big:(1000000:Nat)<sizeLine:=by decide
 have a1:=yc g1.1 g1.2
 have a2:=yc g2.1 g2.2
 have e1:(Str.empty ++ "walker " : Str).length=7:=by decide +kernel
 have e2:(" " : Str).length=1:=by decide +kernel
 unfold xh at a1 a2
 rw [jf] at e1
 refine exI rfl ⟨o.x,dx,exI rfl ⟨hx,xu,exI rfl ⟨o.x,o.dr,o.dw,o.dd,o.R,o.W,_,n,rfl,v.h.hs,(λz=>by rw [ey] at z;cases z),λu eu=>?_⟩⟩⟩
 rw [ey] at eu
 cases eu
 refine ⟨y,wk.wh,p,wk.pt,tt,wk.tv,rfl,wk',λq nq=>?_⟩
 have s1:Same H (upd H q (.tup [.str wk.wh,.ref p])):=Same.upd nq
 have fp:=(WkAt.same wk' s1).pt
 have kk:=k _ s1
 unfold Wd xh at kk
 refine ⟨q,exI rfl ⟨SqT.of qb,rfl,_,_,rfl,_,_,rfl,p,exI rfl ⟨SqT.of fp,rfl,_,_,rfl,_,_,rfl,rfl,rfl,?_⟩⟩⟩
 have z:∀m:Nat,m≤1000→m≤sizeLine:=λm h=>by lia
 have n1:=Qr g1.1 g1.2
 have n2:=Qr g2.1 g2.2
 refine ⟨z _ ?_,_,rfl,.inl ⟨n,rfl,z _ ⋯,z _ ?_,z _ ?_,_,rfl,.inl ⟨wk.wh,rfl,z _ ⋯,z _ ?_,z _ ?_,_,rfl,.inr ⟨wk.pt.1,rfl,n1,z _ ?_,z _ ?_,_,rfl,.inr ⟨wk.pt.2,rfl,n2,z _ ?_,z _ ?_,kk⟩⟩⟩⟩⟩ <;> simp only [jf] <;> lia
structure BA where
 rs:Str→Option (List Int)
 ws:Str→Option (Str×(Int×Int))
def AH.bk (a:AH):BA:=⟨a.rs,λn=>(a.ws n).map λw=>(w.wh,w.pt)⟩
def BA.putR (b:BA)(n:Str)(hs:List Int):BA:={ b with rs:=λm=>if m=n then some hs else b.rs m }
def BA.putW (b:BA)(n:Str)(w:Str×(Int×Int)):BA:={ b with ws:=λm=>if m=n then some w else b.ws m }
structure BOk (NM:List Str)(b:BA):Prop where
 lo:∀n hs,b.rs n=some hs→xy hs∧zw n=true∧n∈NM
 wo:∀n w,b.ws n=some w→zw n=true∧n∈NM∧∃hs,b.rs w.1=some hs∧HPt hs w.2
theorem BOk.nil:BOk NM AH.nil.bk:=⟨(λn hs e=>nomatch e),(λn w e=>nomatch e)⟩
variable {b:BA}
theorem BOk.putR (h:BOk NM b){n:Str}{hs:List Int}(lo:xy hs)(nn:zw n=true)(hn:n∈NM)(hw:∀m w,b.ws m=some w→w.1=n→HPt hs w.2):BOk NM (b.putR n hs):=by
 refine ⟨λm ks e=>?_,λm w e=>?_⟩
 ·have e:(if m=n then some hs else b.rs m)=some ks:=e
  by_cases z:m=n
  ·rw [ak z] at e;cases e;rw [z];exact ⟨lo,nn,hn⟩
  ·rw [af z] at e;exact h.lo m ks e
 ·obtain ⟨a,c,ks,er,hp⟩:=h.wo m w e
  refine ⟨a,c,?_⟩
  by_cases z:w.1=n
  ·exact ⟨hs,ak z,hw m w e z⟩
  ·exact ⟨ks,(af z).trans er,hp⟩
theorem BOk.putW (h:BOk NM b){n:Str}{w:Str×(Int×Int)}(nn:zw n=true)(hn:n∈NM){hs:List Int}(er:b.rs w.1=some hs)(hp:HPt hs w.2):BOk NM (b.putW n w):=by
 refine ⟨h.lo,λm w' e=>?_⟩
 have e:(if m=n then some w else b.ws m)=some w':=e
 by_cases z:m=n
 ·rw [ak z] at e;cases e;rw [z];exact ⟨nn,hn,hs,er,hp⟩
 ·rw [af z] at e;exact h.wo m w' e
theorem AOk.bk (h:BOk NM a.bk):Nam NM a:=⟨λn e=>by
 cases er:a.rs n with
 |none=>rw [er] at e;cases e
 |some hs=>exact (h.lo n hs er).2.2,λn e=>by
 cases ew:a.ws n with
 |none=>rw [ew] at e;cases e
 |some w=>exact (h.wo n (w.wh,w.pt) (by show (a.ws n).map _=_;rw [ew];rfl)).2.1⟩
def RowAt (H:Hp)(o:Option V):Option (List Int)→Prop
 |none=>o=none
 |some hs=>xy hs∧∃p,o=some (.ref p)∧H p=some (.lst (hs.map V.int))
def WlkAt (H:Hp)(o:Option V):Option (Str×(Int×Int))→Prop
 |none=>o=none
 |some w=>∃p,o=some (.ref p)∧H p=some (.tup [.str w.1,.int w.2.1,.int w.2.2])
structure BP (H:Hp)(R W:List (Key×V))(b:BA):Prop where
 nR:(R.map (·.1)).Nodup
 nW:(W.map (·.1)).Nodup
 fR:RefsF (wf R)
 fW:RefsF (wf W)
 r:∀n,RowAt H (wf R (.inr n)) (b.rs n)
 w:∀n,WlkAt H (wf W (.inr n)) (b.ws n)
theorem BP.row (h:BP H R W b){n:Str}{hs:List Int}(e:b.rs n=some hs):xy hs∧∃p,wf R (.inr n)=some (.ref p)∧H p=some (.lst (hs.map V.int)):=by
 have:=h.r n
 rw [e] at this
 exact this
theorem BP.noR (h:BP H R W b){n:Str}(e:b.rs n=none):wf R (.inr n)=none:=by
 have:=h.r n
 rw [e] at this
 exact this
theorem BP.wlk (h:BP H R W b){n:Str}{v:Str×(Int×Int)}(e:b.ws n=some v):∃p,wf W (.inr n)=some (.ref p)∧H p=some (.tup [.str v.1,.int v.2.1,.int v.2.2]):=by
 have:=h.w n
 rw [e] at this
 exact this
theorem BP.noW (h:BP H R W b){n:Str}(e:b.ws n=none):wf W (.inr n)=none:=by
 have:=h.w n
 rw [e] at this
 exact this
theorem BP.kb (h:BP H R W b){ch:List Aj}(dl:Dl H ch)(k:Kb ch H H'):BP H' R W b:=by
 refine ⟨h.nR,h.nW,h.fR,h.fW,λn=>?_,λn=>?_⟩
 ·cases e:b.rs n with
  |none=>exact h.noR e
  |some hs =>
   obtain ⟨lo,p,e1,e2⟩:=h.row e
   exact ⟨lo,p,e1,dl.row k lo e2⟩
 ·cases e:b.ws n with
  |none=>exact h.noW e
  |some v =>
   obtain ⟨p,e1,e2⟩:=h.wlk e
   exact ⟨p,e1,dl.tup k e2⟩
theorem BP.same (h:BP H R W b)(s:Same H H'):BP H' R W b:=h.kb (ch:=[]) Dl.nil (Kb.of s)
theorem qjh (h:RefsF (wf R))(n:Str)(p:Aj):RefsF (wf (z0 R (.inr n) (.ref p))):=λm v e=>by
 rw [uk] at e
 by_cases z:m=.inr n
 ·rw [ak z] at e;cases e;exact ⟨n,p,z,rfl⟩
 ·rw [af z] at e;exact h m v e
theorem wvs (h:(R.map (·.1)).Nodup)(n:Key)(p:Aj):((z0 R n (.ref p)).map (·.1)).Nodup:=by
 have:=wj7 h (n,.ref p)
 unfold ex1 at this
 rw [af (λz=>by cases z)] at this
 exact this
theorem BP.putR (h:BP H R W b){n:Str}{hs:List Int}{p:Aj}(lo:xy hs)(fp:H p=some (.lst (hs.map V.int))):BP H (z0 R (.inr n) (.ref p)) W (b.putR n hs):=by
 refine ⟨wvs h.nR _ _,h.nW,qjh h.fR _ _,h.fW,λm=>?_,h.w⟩
 show RowAt H _ (if m=n then some hs else b.rs m)
 rw [uk]
 by_cases z:m=n
 ·rw [ak z,ak (by rw [z])]
  exact ⟨lo,p,rfl,fp⟩
 ·rw [af z,af (λy=>z (by injection y))]
  exact h.r m
theorem BP.putW (h:BP H R W b){n:Str}{v:Str×(Int×Int)}{p:Aj}(fp:H p=some (.tup [.str v.1,.int v.2.1,.int v.2.2])):BP H R (z0 W (.inr n) (.ref p)) (b.putW n v):=by
 refine ⟨h.nR,wvs h.nW _ _,h.fR,qjh h.fW _ _,h.r,λm=>?_⟩
 show WlkAt H _ (if m=n then some v else b.ws m)
 rw [uk]
 by_cases z:m=n
 ·rw [ak z,ak (by rw [z])]
  exact ⟨p,rfl,fp⟩
 ·rw [af z,af (λy=>z (by injection y))]
  exact h.w m
theorem BP.lens (h:BP H R W b){NM:List Str}(bo:BOk NM b):R.length≤NM.length∧W.length≤NM.length:=by
 refine ⟨qkc h.nR λk u e=>?_,qkc h.nW λk u e=>?_⟩
 ·obtain ⟨n,_,rfl,_⟩:=h.fR k u e
  refine ⟨n,rfl,?_⟩
  cases e2:b.rs n with
  |none=>rw [h.noR e2] at e;cases e
  |some hs=>exact (bo.lo n hs e2).2.2
 ·obtain ⟨n,_,rfl,_⟩:=h.fW k u e
  refine ⟨n,rfl,?_⟩
  cases e2:b.ws n with
  |none=>rw [h.noW e2] at e;cases e
  |some v=>exact (bo.wo n v e2).2.1
structure B2 (H:Hp)(dr dw:Aj)(R W:List (Key×V))(b:BA):Prop where
 r:H dr=some (.dK R)
 w:H dw=some (.dK W)
 ne:dr≠dw
 bp:BP H R W b
theorem B2.dl (h:B2 H dr dw R W b):Dl H [dr,dw]:=.cons (.inl ⟨_,.inl h.r⟩) (.cons (.inl ⟨_,.inl h.w⟩) .nil)
theorem B2.same (h:B2 H dr dw R W b)(s:Same H H'):B2 H' dr dw R W b:=⟨s _ _ h.r,s _ _ h.w,h.ne,h.bp.same s⟩
theorem wyg {a:Aj}{o:HO}{ch:List Aj}(h:a∈ch):Kb ch H (upd H a o):=λb x nb e=>by
 rw [wy (λz=>nb (by rw [z];exact h))]
 exact e
theorem B2.setR {R':List (Key×V)}{b':BA}(h:B2 H dr dw R W b)(hb:BP H R' W b'):B2 (upd H dr (.dK R')) dr dw R' W b':=by
 have k:Kb [dr,dw] H (upd H dr (.dK R')):=wyg (by simp)
 exact ⟨qb,by rw [wy (aY h.ne)];exact h.w,h.ne,hb.kb h.dl k⟩
theorem B2.setW {W':List (Key×V)}{b':BA}(h:B2 H dr dw R W b)(hb:BP H R W' b'):B2 (upd H dw (.dK W')) dr dw R W' b':=by
 have k:Kb [dr,dw] H (upd H dw (.dK W')):=wyg (by simp)
 exact ⟨by rw [wy h.ne];exact h.r,qb,h.ne,hb.kb h.dl k⟩
def SrtN (p:Str→Bool)(ms:List Str):Prop:=ms.Nodup∧(∀x,x∈ms↔p x=true)∧ms.Pairwise (λx y=>¬ y.cps.toList<x.cps.toList)
theorem SrtN.uniq {p:Str→Bool}{l m:List Str}(a:SrtN p l)(b:SrtN p m):l=m:=W1 a.1 b.1 (λx=>(a.2.1 x).trans (b.2.1 x).symm) a.2.2 b.2.2
def jx (b:BA)(n:Str):Str:=Wg n ((b.rs n).getD [])
def km (b:BA)(n:Str):Str:=Wd n ((b.ws n).getD ("",0,0)).1 ((b.ws n).getD ("",0,0)).2
def j9 (b:BA)(ms1 ms2:List Str):Str:=Txt.join ("\n" : Str) (ms1.map (jx b)++ms2.map (km b))
theorem qqz {f:Str→Str}{N:Nat}:∀ {ms:List Str},(∀m∈ms,(f m).length≤N)→((ms.map f).map (·.length)).sum≤N*ms.length
 |[],_=>aJ _
 |m::ms,h=>by
  have a:=h m (ar ..)
  have b:=qqz λx hx=>h x (ax m hx)
  simp only [aA,fj,au]
  rw [Nat.mul_succ]
  lia
variable {ms1 ms2:List Str}
theorem Yc {f g:Str→Str}(h1:∀m∈ms1,(f m).length≤1000)(h2:∀m∈ms2,(g m).length≤1000)(l1:ms1.length≤100)(l2:ms2.length≤100):JoinOk ("\n" : Str) (ms1.map f++ms2.map g)=true:=by
 refine cI ?_ (by decide +kernel)
 have a:=qqz h1
 have b:=qqz h2
 rw [aO,List.sum_append,aL,aa,aa]
 lia
def qv9 (C CR CW:Aj):Sp:=λvs H Q _=>∃(o:Ho) (a:AH) (as:List AH) (NM:List Str),vs=[.ref o.x]∧VH C CR CW H o (a::as)∧Nam NM a∧NM.length<60∧(∀n∈NM,n.length≤100)∧∀H' ms1 ms2,Same H H'→SrtN (λn=>(a.bk.rs n).isSome) ms1→SrtN (λn=>(a.bk.ws n).isSome) ms2→Q (.str (j9 a.bk ms1 ms2)) H'
include T in
theorem qx5 (F:Fun K "house_text" "house_text" zb0 f fd)(zcy:MCal P w K mg base qq "names" 1 (Y8 qq))(zhv:Cal P w K mg base "road_row" 3 (Zm qq qc qw))(zhw:Cal P w K mg base "walker_row" 3 (Qz qq qc qw)) :
  FK P w K mg base 4 f fd ["house"] (qv9 qq qc qw):=by
 have sc:=qxp
 refine F.okX sc (λvs H Q E h=>by obtain ⟨_,_,_,_,rfl,_⟩:=h;rfl) λ_ _ _ _ H vs Q E hr h=>?_
 obtain ⟨o,a,as,NM,rfl,v,nm,lN,nl,k⟩:=h
 obtain ⟨dx,hx⟩:=v.h.hs.ob
 obtain ⟨eR,nR⟩:=v5 v.h.nR v.h.fR
 obtain ⟨eW,nW⟩:=v5 v.h.nW v.h.fW
 have lens:=v.lens nm
 have big:(1000000:Nat)<sizeLine:=by decide
 refine ⟨_,(qj (js (zn (pv 0) T.clH zcy (hr.mono ⋯) qf) (k9 rfl (xv (xq (i:=1)) (xv (xq (i:=2)) zr))))
   (qj (w4 (i:=3) (wb wyk (jz (M:=[0]) rfl rfl (by walk_at "cap") (by walk_at "has") (by walk_at "cix") rfl (by decide +kernel) rfl (show List.Nodup (["name","house"]:List Str) by decide +kernel) (yw (pv 1)) (λ_ _ _ _ _=>(wc zhv (hr.mono ⋯) rfl qkf (q9 (pv 1) (q9 (pv 0) qk))))) (jz (M:=[0]) rfl rfl (by walk_at "cap") (by walk_at "has") (by walk_at "cix") rfl (by decide +kernel) rfl (show List.Nodup (["name","house"]:List Str) by decide +kernel) (yw (pv 2)) (λ_ _ _ _ _=>(wc zhw (hr.mono ⋯) rfl qkf (q9 (pv 1) (q9 (pv 0) qk)))))))
   (qh (w9 (u7 bP cT cU Ju xp (q9 (pv 3) qk)))))),?_⟩
 refine ⟨_,rfl,o.x,dx,_,rfl,hx,xu,o.x,o.dr,o.dw,o.dd,o.R,o.W,_,_,_,rfl,v.h.hs,eR,⋯,eW,⋯,λq l1 l2 ms1 ms2 H1 s1 p1 w1 p2 w2 f1 f2 fq=>?_⟩
 have S1:SrtN (λn=>(a.bk.rs n).isSome) ms1:=by
  refine ⟨p1.nodup_iff.mpr nR,λn=>?_,w1⟩
  rw [p1.mem_iff,jq v.h.nR v.h.fR]
  have:=v.rep.r n
  show _↔(a.rs n).isSome=true
  cases e:a.rs n with
  |none=>rw [e] at this;rw [show wf o.R (.inr n)=none from this];exact ⟨(λz=>nomatch z),(λz=>nomatch z)⟩
  |some hs=>rw [e] at this;obtain ⟨r,e1,_⟩:=this;rw [e1];exact ⟨λ_=>rfl,λ_=>rfl⟩
 have S2:SrtN (λn=>(a.bk.ws n).isSome) ms2:=by
  refine ⟨p2.nodup_iff.mpr nW,λn=>?_,w2⟩
  rw [p2.mem_iff,jq v.h.nW v.h.fW]
  have:=v.rep.w n
  show _↔((a.ws n).map _).isSome=true
  cases e:a.ws n with
  |none=>rw [e] at this;rw [show wf o.W (.inr n)=none from this];exact ⟨(λz=>nomatch z),(λz=>nomatch z)⟩
  |some hs=>rw [e] at this;obtain ⟨r,_,_,e1,_⟩:=this;rw [e1];exact ⟨λ_=>rfl,λ_=>rfl⟩
 have g1:∀n∈ms1,n.length≤100∧∃hs,a.rs n=some hs:=λn hn=>by
  have h:(a.rs n).isSome=true:=(S1.2.1 n).mp hn
  exact ⟨nl n (nm.r n h),av.mp h⟩
 have g2:∀n∈ms2,n.length≤100∧∃w,a.ws n=some w∧w.wh.length≤100:=λn hn=>by
  have h:((a.ws n).map λw=>(w.wh,w.pt)).isSome=true:=(S2.2.1 n).mp hn
  rw [cB] at h
  obtain ⟨w,e⟩:=av.mp h
  obtain ⟨_,hs,er,_⟩:=v.rep.ok.wo n w e
  exact ⟨nl n (nm.w n h),w,e,nl _ (nm.r _ (by rw [er];rfl))⟩
 have r1:∀n∈ms1,(jx a.bk n).length≤1000:=λn hn=>by
  obtain ⟨ln,hs,e⟩:=g1 n hn
  unfold jx
  rw [show a.bk.rs n=some hs from e]
  exact Wh (v.rep.ok.lo n hs e) ln
 have e2:∀n w,a.ws n=some w→a.bk.ws n=some (w.wh,w.pt):=λn w e=>by
  show (a.ws n).map _=_
  rw [e];rfl
 have r2:∀n∈ms2,(km a.bk n).length≤1000:=λn hn=>by
  obtain ⟨ln,w,e,lw⟩:=g2 n hn
  obtain ⟨_,hs,_,hp⟩:=v.rep.ok.wo n w e
  have rg:=hp.rng
  unfold km
  rw [e2 n w e]
  exact Zb ln lw ⟨by show 0≤w.pt.1;lia,by show w.pt.1≤_;lia⟩ ⟨by show 0≤w.pt.2;lia,by show w.pt.2≤_;lia⟩
 have lm1:ms1.length≤60:=by rw [p1.length_eq,aa];lia
 have lm2:ms2.length≤60:=by rw [p2.length_eq,aa];lia
 refine ⟨q,exI rfl ⟨SqT.of fq,rfl,_,_,rfl,_,_,rfl,rfl,?_⟩⟩
 refine exI rfl ⟨l1,rfl,⟨_,SqL.of f1⟩,Wb (λx=>match x with|.str n=>.str (jx a.bk n)|_=>.non) (λx b=>by split <;> exact λz=>nomatch z) (SqL.of f1) (by rw [aa];lia) (λx H2 R hx2 s2 hR=>?_) λc1 H2 n1 s2 f3=>?_⟩
 ·obtain ⟨n,hn,rfl⟩:=aq.mp hx2
  obtain ⟨ln,hs,e⟩:=g1 n hn
  refine exI rfl (exI rfl ⟨o,a,as,n,hs,rfl,v.same (s1.trans s2),e,ln,λH3 s3=>?_⟩)
  have:=hR H3 s3
  dsimp only at this
  unfold jx at this
  rw [show a.bk.rs n=some hs from e] at this
  exact this
 refine exI rfl ⟨l2,rfl,⟨_,SqL.of (s2 _ _ f2)⟩,Wb (λx=>match x with|.str n=>.str (km a.bk n)|_=>.non) (λx b=>by split <;> exact λz=>nomatch z) (SqL.of (s2 _ _ f2)) (by rw [aa];lia) (λx H3 R hx3 s3 hR=>?_) λc2 H3 n2 s3 f4=>?_⟩
 ·obtain ⟨n,hn,rfl⟩:=aq.mp hx3
  obtain ⟨ln,w,e,lw⟩:=g2 n hn
  refine exI rfl (exI rfl ⟨o,a,as,n,w,rfl,v.same ((s1.trans s2).trans s3),e,ln,lw,λH4 s4=>?_⟩)
  have:=hR H4 s4
  dsimp only at this
  unfold km at this
  rw [e2 n w e] at this
  exact this
 have m1:(ms1.map V.str).map (λx=>match x with|.str n=>V.str (jx a.bk n)|_=>.non)=(ms1.map (jx a.bk)).map V.str:=by
  rw [aZ,aZ];rfl
 have m2:(ms2.map V.str).map (λx=>match x with|.str n=>V.str (km a.bk n)|_=>.non)=(ms2.map (km a.bk)).map V.str:=by
  rw [aZ,aZ];rfl
 rw [m1] at f3
 rw [m2] at f4
 refine ⟨c1,c2,_,_,rfl,rfl,s3 _ _ f3,f4,by simp only [aa];lia,λp np=>?_⟩
 refine ⟨rfl,exI rfl ⟨_,_,ms1.map (jx a.bk)++ms2.map (km a.bk),rfl,rfl,SqL.of (by rw [aO];exact qb),Yc r1 r2 ⋯ ⋯,?_⟩⟩
 exact k _ ms1 ms2 (((s1.trans s2).trans s3).trans (Same.upd np)) S1 S2
theorem wjv (h:hs≠[]):("road " : Str)++n ++ " " ++ Txt.join " " (hs.map xh)=Wg n hs:=by
 unfold Wg
 rw [show Txt.join " " (hs.map xh)=Str.join " " (hs.map xh) from bK _ _,show Txt.join " " (("road" : Str)::n::hs.map xh)=Str.join " " (("road" : Str)::n::hs.map xh) from bK _ _]
 cases hs with
 |nil=>exact absurd rfl h
 |cons i l =>
  show _ = "road" ++ " " ++ (n ++ " " ++ Str.join " " ((i::l).map xh))
  refine Jc ?_
  simp only [W9]
  have e:("road " : Str).cps.toList=("road" : Str).cps.toList++(" " : Str).cps.toList:=by decide +kernel
  rw [e]
  simp only [e9]
theorem wkh (n wh:Str)(pt:Int×Int):("walker " : Str)++n ++ " " ++ wh ++ " " ++ xh pt.1 ++ " " ++ xh pt.2=Wd n wh pt:=by
 unfold Wd
 rw [PySem.W.KT.empty_app]
theorem qjz (lo:xy hs):JoinOk " " (hs.map xh)=true:=by
 obtain ⟨h1,h2⟩:=zp lo
 have:=Zq h2
 refine cI ?_ (by decide +kernel)
 rw [aa]
 lia
theorem qxm (lo:xy hs):(Txt.join " " (hs.map xh)).length≤300:=by
 obtain ⟨h1,h2⟩:=zp lo
 have:=Zq h2
 rw [show Txt.join " " (hs.map xh)=Str.join " " (hs.map xh) from bK _ _]
 refine bw (dN _ _) ?_
 rw [show (" " : Str).length=1 by decide +kernel,aa]
 lia
theorem BP.in_r (h:BP H R W b)(n:Str):(wf R (.inr n)).isSome=(b.rs n).isSome:=by
 cases e:b.rs n with
 |none=>rw [h.noR e];rfl
 |some hs=>obtain ⟨_,p,e1,_⟩:=h.row e;rw [e1];rfl
theorem BP.in_w (h:BP H R W b)(n:Str):(wf W (.inr n)).isSome=(b.ws n).isSome:=by
 cases e:b.ws n with
 |none=>rw [h.noW e];rfl
 |some hs=>obtain ⟨p,e1,_⟩:=h.wlk e;rw [e1];rfl
theorem qyq (e:(ms.map V.str)[i]?=some v):∃n,v=.str n∧n∈ms∧ms.take (i+1)=ms.take i++[n]:=by
 rw [aB] at e
 cases h:ms[i]? with
 |none=>rw [h] at e;cases e
 |some n =>
  rw [h] at e
  cases e
  exact ⟨n,rfl,ba h,by rw [cC,h];rfl⟩
def qk0:Sp:=λvs H Q _=>∃(dr dw:Aj) (R W:List (Key×V)) (b:BA) (NM:List Str),vs=[.ref dr,.ref dw]∧B2 H dr dw R W b∧BOk NM b∧NM.length<60∧(∀n∈NM,n.length≤100)∧∀H' ms1 ms2,Same H H'→SrtN (λn=>(b.rs n).isSome) ms1→SrtN (λn=>(b.ws n).isSome) ms2→Q (.str (j9 b ms1 ms2)) H'
include T in
theorem wkx (F:Fun K "_law_text" "_law_text" zce f fd):FK P w K mg base 1 f fd ["_law_roads","_law_walkers"] qk0:=by
 have sc:=qkw
 refine F.okX sc (λvs H Q E h=>by obtain ⟨_,_,_,_,_,_,rfl,_⟩:=h;rfl) λ_ _ _ _ H vs Q E hr h=>?_
 obtain ⟨dr,dw,R,W,b,NM,rfl,hb,bo,lN,nl,k⟩:=h
 obtain ⟨eR,nR⟩:=v5 hb.bp.nR hb.bp.fR
 obtain ⟨eW,nW⟩:=v5 hb.bp.nW hb.bp.fW
 have lens:=hb.bp.lens bo
 have big:(1000000:Nat)<sizeLine:=by decide
 have z:∀m:Nat,m≤1000→m≤sizeLine:=λm h=>by lia
 refine ⟨_,(qj (w4 (i:=2) (j8 qk))
   (qj (vf aE rfl (yw (wp (jw) rfl T.sorted_ bz (vc (zu (yg rfl) rfl T.list_ bx (q9 (pv 0) qk)) qk))) (xq (i:=3)) (qh (zb (u7 bA bL bM j0 (pv 2) (zx (wb zf (wb zf (wb zf xp (pv 3)) xp) (u7 bP cT cU Ju xp (xj (jz (M:=[]) rfl rfl (by walk_at "cap") (by walk_at "has") (by walk_at "cix") rfl (by decide +kernel) rfl (show List.Nodup (["_law_height"]:List Str) by decide +kernel) (yw (jv (vq hr) (pv 0) (pv 3) (λ_ _=>rfl))) (λ_ _ _ _ _=>(zu yx rfl T.str_ cV (q9 (pv 0) qk)))) qk))) qk)))))
   (qj (vf aE rfl (yw (wp (jw) rfl T.sorted_ bz (vc (zu (yg rfl) rfl T.list_ bx (q9 (pv 1) qk)) qk))) (xq (i:=3)) (qj (js (jv (vq hr) (pv 1) (pv 3) (λ_ _=>rfl)) (k9 rfl (xv (xq (i:=4)) (xv (xq (i:=5)) (xv (xq (i:=6)) zr)))))
   (qh (zb (u7 bA bL bM j0 (pv 2) (zx (wb zf (wb zf (wb zf (wb zf (wb zf (wb zf (wb zf xp (pv 3)) xp) (pv 4)) xp) (zu yx rfl T.str_ cV (q9 (pv 5) qk))) xp) (zu yx rfl T.str_ cV (q9 (pv 6) qk))) qk))))))
   (qh (w9 (u7 bP cT cU Ju xp (q9 (pv 2) qk))))))),?_⟩
 refine ⟨sz0,λp np=>?_⟩
 have s0:Same H (upd H p (.lst [])):=Same.upd np
 refine exI rfl ⟨_,_,_,rfl,.inl (s0 _ _ hb.r),eR,λl0 n0=>?_⟩
 refine ⟨_,_,rfl,SqL.of qb,by rw [aa];lia,λl1 ms1 n1 p1 w1=>?_⟩
 have S1:SrtN (λn=>(b.rs n).isSome) ms1:=⟨p1.nodup_iff.mpr nR,λn=>by rw [p1.mem_iff,jq hb.bp.nR hb.bp.fR,hb.bp.in_r],w1⟩
 have lm1:ms1.length≤60:=by rw [p1.length_eq,aa];lia
 have pl0:l0≠p:=λq=>by rw [q,qb] at n0;cases n0
 have pl1:l1≠p:=λq=>by rw [q,wy pl0.symm,qb] at n1;cases n1
 have e5:("road " : Str).length=5:=by decide +kernel
 have e7:("walker " : Str).length=7:=by decide +kernel
 have e1:(" " : Str).length=1:=by decide +kernel
 refine ⟨l1,rfl,⟨_,SqL.of qb⟩,Ws (xs:=ms1.map V.str) (λi σ H1=>∃y,Same H H1∧H1 p=some (.lst (((ms1.take i).map (jx b)).map V.str))∧H1 l1=some (.lst (ms1.map V.str))∧σ=[some (.ref dr),some (.ref dw),some (.ref p),y,none,none,none])
  ⟨_,(s0.trans (Same.upd n0)).trans (Same.upd n1),by rw [wy pl1.symm,wy pl0.symm];exact qb,qb,rfl⟩ (λi σ H1 _ h=>by obtain ⟨_,_,_,h,_⟩:=h;exact SqL.of h) ?_ ?_⟩
 ·rintro i x σ H1 hi ⟨y,s1,f1,f2,rfl⟩
  obtain ⟨n,rfl,hn,ht⟩:=qyq hi
  obtain ⟨hs,er⟩:=av.mp ((S1.2.1 n).mp hn)
  have hb1:=hb.same s1
  obtain ⟨lo,q,eq,fq⟩:=hb1.bp.row er
  have ln:=nl n (bo.lo n hs er).2.2
  have dg:DGet H1 dr (.str n) (wf R (.inr n)):=DGet.k (k:=.inr n) hb1.r
  rw [eq] at dg
  have jl:=qxm lo
  refine exI rfl ⟨.inl ⟨rfl,_,SqL.of f1⟩,exI rfl (wg rfl rfl ⟨z _ ⋯,wg rfl rfl ⟨z _ (by simp only [jf];lia),rfl,exI rfl (exI rfl ⟨dr,exI rfl ⟨dg,q,rfl,⟨_,SqL.of fq⟩,qzq (λx=>match x with|.int i=>.str (xh i)|_=>.non) (SqL.of fq) (by rw [aa];have:=(zp lo).1;lia) (λx H' R' hx' s2 hR=>?_) λc nc=>?_⟩⟩)⟩⟩)⟩
  ·obtain ⟨j,hj,rfl⟩:=aq.mp hx'
   have:=(zp lo).2 j hj
   exact exI rfl (exI rfl ⟨Qr this.1 this.2,hR⟩)
  ·have e:(hs.map V.int).map (λx=>match x with|.int i=>V.str (xh i)|_=>.non)=(hs.map xh).map V.str:=by
    rw [aZ,aZ]
    rfl
   rw [e]
   have pc:p≠c:=λq=>by rw [←q,f1] at nc;cases nc
   have lc:l1≠c:=λq=>by rw [←q,f2] at nc;cases nc
   refine ⟨_,c,hs.map xh,rfl,rfl,SqL.of qb,qjz lo,_,_,rfl,rfl,z _ (by simp only [jf];lia),p,_,_,rfl,rfl,by rw [wy pc];exact f1,by simp only [aa,bD];lia,?_⟩
   refine ⟨_,Same.upd2 (s1.trans (Same.upd nc)) np,?_,by rw [wy pl1,wy lc];exact f2,rfl⟩
   rw [ht,aO,aO]
   have e3:jx b n=("road " : Str)++n ++ " " ++ Txt.join " " (hs.map xh):=by
    unfold jx
    rw [er]
    refine (wjv (λq=>?_)).symm
    have:=lo.1
    rw [show hs=[] from q] at this
    cases this
   rw [show [n].map (jx b)=[jx b n] from rfl,e3]
   exact qb
 rintro σ H1 ⟨y,s1,f1,f2,rfl⟩
 rw [aa,cF] at f1
 have hb1:=hb.same s1
 refine exI rfl ⟨_,_,_,rfl,.inl hb1.w,eW,λl2 n2=>?_⟩
 refine ⟨_,_,rfl,SqL.of qb,by rw [aa];lia,λl3 ms2 n3 p2 w2=>?_⟩
 have S2:SrtN (λn=>(b.ws n).isSome) ms2:=⟨p2.nodup_iff.mpr nW,λn=>by rw [p2.mem_iff,jq hb.bp.nW hb.bp.fW,hb.bp.in_w],w2⟩
 have lm2:ms2.length≤60:=by rw [p2.length_eq,aa];lia
 have s2:=s1.trans (Same.upd (o:=.lst ((W.map jn).map V.str)) n2)
 have s3:=s2.trans (Same.upd (o:=.lst (ms2.map V.str)) n3)
 have p3:l3≠p:=λq=>by rw [q,Same.upd n2 _ _ f1] at n3;cases n3
 refine ⟨l3,rfl,⟨_,SqL.of qb⟩,Ws (xs:=ms2.map V.str) (λi σ H1=>∃y1 y2 y3 y4,Same H H1∧H1 p=some (.lst ((ms1.map (jx b)++(ms2.take i).map (km b)).map V.str))∧H1 l3=some (.lst (ms2.map V.str))∧σ=[some (.ref dr),some (.ref dw),some (.ref p),y1,y2,y3,y4])
  ⟨_,_,_,_,s3,by rw [List.take_zero,bO,cN];exact Same.upd n3 _ _ (Same.upd n2 _ _ f1),qb,rfl⟩ (λi σ H1 _ h=>by obtain ⟨_,_,_,_,_,_,h,_⟩:=h;exact SqL.of h) ?_ ?_⟩
 ·rintro i x σ H2 hi ⟨y1,y2,y3,y4,sx,g1,g2,rfl⟩
  obtain ⟨n,rfl,hn,ht⟩:=qyq hi
  obtain ⟨v,ev⟩:=av.mp ((S2.2.1 n).mp hn)
  have hb2:=hb.same sx
  obtain ⟨q,eq,fq⟩:=hb2.bp.wlk ev
  obtain ⟨nn,hN,hs,er,hp⟩:=bo.wo n v ev
  have ln:=nl n hN
  have lw:=nl v.1 (bo.lo v.1 hs er).2.2
  have rg:=hp.rng
  have q1:=yc (i:=v.2.1) ⋯ ⋯
  have q2:=yc (i:=v.2.2) ⋯ ⋯
  unfold xh at q1 q2
  have dg:DGet H2 dw (.str n) (wf W (.inr n)):=DGet.k (k:=.inr n) hb2.w
  rw [eq] at dg
  refine exI rfl (exI rfl ⟨dw,exI rfl ⟨dg,q,exI rfl ⟨SqT.of fq,rfl,_,_,rfl,_,_,rfl,_,_,rfl,rfl,?_⟩⟩⟩)
  refine exI rfl ⟨.inl ⟨rfl,_,SqL.of g1⟩,exI rfl (wg rfl rfl ⟨z _ ?_,wg rfl rfl ⟨z _ ?_,exI rfl (wg rfl rfl ⟨z _ ?_,wg rfl rfl ⟨z _ ?_,exI rfl (exI rfl ⟨Qr ⋯ ⋯,wg rfl rfl ⟨z _ ?_,wg rfl rfl ⟨z _ ?_,exI rfl (exI rfl ⟨Qr ⋯ ⋯,wg rfl rfl ⟨z _ ?_,p,wg rfl rfl ⟨g1,?_,?_⟩⟩⟩)⟩⟩⟩)⟩⟩)⟩⟩)⟩
  any_goals (first | lia | (simp only [jf];lia))
  ·simp only [aa,aL,bD]
   lia
  ·refine ⟨_,_,_,_,Same.upd2 sx np,?_,by rw [wy p3];exact g2,rfl⟩
   rw [ht,aO (l₁:=ms2.take i),←e9,aO (l₂:=[n].map (km b))]
   have e3:km b n=("walker " : Str)++n ++ " " ++ v.1 ++ " " ++ xh v.2.1 ++ " " ++ xh v.2.2:=by
    unfold km
    rw [ev]
    exact (wkh n v.1 v.2).symm
   rw [show [n].map (km b)=[km b n] from rfl,e3]
   exact qb
 rintro σ H2 ⟨y1,y2,y3,y4,sx,g1,g2,rfl⟩
 rw [aa,cF] at g1
 have r1:∀n∈ms1,(jx b n).length≤1000:=λn hn=>by
  obtain ⟨hs,e⟩:=av.mp ((S1.2.1 n).mp hn)
  obtain ⟨lo,_,hN⟩:=bo.lo n hs e
  unfold jx
  rw [e]
  exact Wh lo (nl n hN)
 have r2:∀n∈ms2,(km b n).length≤1000:=λn hn=>by
  obtain ⟨v,e⟩:=av.mp ((S2.2.1 n).mp hn)
  obtain ⟨_,hN,hs,er,hp⟩:=bo.wo n v e
  have rg:=hp.rng
  unfold km
  rw [e]
  exact Zb (nl n hN) (nl v.1 (bo.lo v.1 hs er).2.2) ⟨by show 0≤v.2.1;lia,by show v.2.1≤_;lia⟩ ⟨by show 0≤v.2.2;lia,by show v.2.2≤_;lia⟩
 exact ⟨rfl,exI rfl ⟨_,_,_,rfl,rfl,SqL.of g1,Yc r1 r2 ⋯ ⋯,k _ ms1 ms2 sx S1 S2⟩⟩
theorem wkk (h:InW hs wd)(h1:1≤wd)(h2:wd≤24):xy hs:=by
 obtain ⟨a,b⟩:=h
 exact ⟨⋯,⋯,λx hx=>by have:=b x hx;lia⟩
theorem Zk {t b:Int}(hb:1≤b)(hc:1≤c):wn (t*c) (b*c)=wn t b:=by
 have:1*1≤b*c:=eS hb hc ⋯ ⋯
 refine (quw ⋯ hb).mp ?_
 rw [Int.mul_assoc,dG c b]
theorem wv9 {t b mo:Int}(lo:xy hs)(hw:wd=(hs.length:Int)-1)(b1:1≤b)(b2:b≤mo)(m:mo≤40)(c1:1≤c)(t0:0≤t)(t1:t≤wd*b):HPt hs (wn (t*c) (b*c)):=by
 rw [Zk b1 c1]
 have on:vt hs t b:=⟨t0,by rw [←hw];exact t1⟩
 have pt:=wjh b1 on
 exact ⟨lo,⟨pt.1,Int.le_refl _,pt.2.2.1,pt.2.2.2⟩,by have:=pt.2.1;lia⟩
theorem at_two {r:Int}(x y:Int)(h0:0≤r)(h1:r<2):atI [V.int x,V.int y] r=some (.int (if r=1 then y else x)):=by
 have:r=0∨r=1:=by lia
 rcases this with rfl|rfl <;> rfl
theorem at_int {c:Prop}[Decidable c](x y:Int):atI [V.int x,V.int y] (if decide c=true then 1 else 0)=some (.int (if c then y else x)):=by
 by_cases h:c
 ·rw [ak h,ak (aX h)];rfl
 ·rw [af h,af (by rw [bn h];exact aD)];rfl
variable {j:Nat}
theorem ww3 {L:List (List Nat)}(hj:j<L.length):atI (L.map λcs=>V.str (vd cs)) ((0:Int)+j)=some (.str (vd L[j])):=by
 rw [Int.zero_add]
 refine j3 ?_
 rw [aB,al hj]
 rfl
def StandK (H:Hp)(Q:VK):Prop:=∀(q dr dw:Aj) (R W:List (Key×V)) (b:BA) (NM:List Str) (H':Hp),Same H H'→H dr=none→H dw=none→H' q=some (.tup [.ref dr,.ref dw])→B2 H' dr dw R W b→BOk NM b→NM.length=5→(∀n∈NM,n.length≤12)→Q (.ref q) H'
def qkj (K:Aa):Sp:=λvs H Q _=>∃(a:Aj) (ns:List Int) (i:Int),vs=[.ref a,.int i]∧SqL K H a (ns.map V.int)∧0≤i∧StandK H Q
include T in
theorem wjz (F:Fun K "_law_stand" "_law_stand" zcd f fd)(zhx:Cal P w K mg base "_law_names" 3 (qq5 K))(zaa:Cal P w K mg base "_law_pick" 2 (um K))(zhy:Cal P w K mg base "_law_heights" 4 (Yw K))(zhz:Cal P w K mg base "_law_spot" 3 (qkb K))(zcz:Cal P w K mg base "_law_low" 2 wwz):FK P w K mg base 5 f fd ["_law_script","_law_at"] (qkj K):=by
 have sc:=qxz
 refine F.okX sc (λvs H Q E h=>by obtain ⟨_,_,_,rfl,_⟩:=h;rfl) λ_ _ _ _ H vs Q E hr h=>?_
 obtain ⟨a,ns,i,rfl,hS,i0,k⟩:=h
 have big:(1000000:Nat)<sizeLine:=by decide
 have sm:∀z:Int,-(2 ^ 64)≤z→z≤2 ^ 64→Sm 65 z:=λz z1 z2=>Sm.small z1 z2 ⋯
 refine ⟨_,(qj (w4 (i:=2) (wCA zhx (q9 (pv 0) (q9 (pv 1) qk))))
   (qj (w4 (i:=3) j4)
   (qj (w4 (i:=4) j4)
   (qj (vf aE rfl (zh rfl T.range_ (xb qr qk)) (xq (i:=5)) (qh (xg (wm yh (wCA zaa (q9 (pv 0) (zx (wb xz (pv 1) qr) (q9 (pv 5) (xb qr qk))))) qr (wt _)) (qh (Qh (vq hr) (pv 3) (zd x4 (pv 2) (pv 5) (λ_ _=>rfl)) (wCA zhy (q9 (pv 0) (zx (wb xz (wb xz (pv 1) qr) (pv 5)) (k4 (zd x4 (j8 (xb qr (xb qr qk))) (wCA zaa (q9 (pv 0) (zx (wb xz (pv 1) qr) (zx (wb xz qr (pv 5)) (xb qr qk))))) (λ_ _=>rfl)) qk)))) rfl)) xx)))
   (qj (w4 (i:=6) (wp (jw) rfl T.sorted_ bz (vc (zu (yg rfl) rfl T.list_ bx (q9 (pv 3) qk)) qk)))
   (qj (vf aE rfl (zh rfl T.range_ (xb qr qk)) (xq (i:=5)) (qh (xg (PW.pt (Yu (wm uq (wp xk rfl T.len_ aI (q9 (pv 6) qk)) qr (wt _)) (Wn (wm yh (wCA zaa (q9 (pv 0) (zx (wb xz (pv 1) qr) (zx (wb xz qr (pv 5)) (xb qr qk))))) qr (wt _))))) (qj (w4 (i:=7) (zd x4 (pv 6) (wCA zaa (q9 (pv 0) (zx (wb xz (pv 1) qr) (zx (wb xz qr (pv 5)) (vc (wp xk rfl T.len_ aI (q9 (pv 6) qk)) qk))))) (λ_ _=>rfl)))
   (qj (w4 (i:=8) (wb zt (wp xk rfl T.len_ aI (k4 (jv (vq hr) (pv 3) (pv 7) (λ_ _=>rfl)) qk)) qr))
   (qj (w4 (i:=9) (wCA zhz (q9 (pv 0) (zx (wb xz (wb xz (pv 1) qr) (pv 5)) (q9 (pv 8) (k4 (zd x4 (j8 (xb qr (xb qr qk))) (zu qz7 rfl T.int_ cS (xj (y8 uq (pv 8) qr (wt _)) qk)) (λ_ _=>rfl)) qk))))))
   (qj (js (wCA zcz (k4 (zd ur (pv 9) qr (λ_ _=>rfl)) (k4 (zd ur (pv 9) qr (λ_ _=>rfl)) qk))) (k9 rfl (xv (xq (i:=10)) (xv (xq (i:=11)) zr))))
   (qh (Qh (vq hr) (pv 4) (zd x4 (pv 2) (pv 5) (λ_ _=>rfl)) (vw (q9 (pv 7) (q9 (pv 10) (q9 (pv 11) qk)))) rfl)))))) xx)))
   (qh (w9 (vw (q9 (pv 3) (q9 (pv 4) qk))))))))))),?_⟩
 refine exI rfl (exI rfl ⟨a,ns,i,rfl,hS,i0,λl L H1 s1 nl f1 lL hL nd=>?_⟩)
 refine λdr nr=>?_
 refine λdw nw=>?_
 have rw':dr≠dw:=λq=>by rw [←q,qb] at nw;cases nw
 have hN:∀(j:Nat) (hj:j<L.length),zw (vd L[j])=true∧vd L[j]∈L.map vd:=λj hj=>by
  obtain ⟨c1,c2,c3⟩:=hL _ (bE hj)
  exact ⟨wu5 c1 c2 c3,aq.mpr ⟨_,bE hj,rfl⟩⟩
 have nr0:=s1.free nr
 have nw0:H dw=none:=(s1.trans (Same.upd nr)).free nw
 have s3:=(s1.trans (Same.upd (o:=.dK []) nr)).trans (Same.upd (o:=.dK []) nw)
 have ndl:dr≠l:=λq=>by rw [q,f1] at nr;cases nr
 have nwl:dw≠l:=λq=>by rw [q,wy ndl.symm,f1] at nw;cases nw
 have b0:B2 (upd (upd H1 dr (.dK [])) dw (.dK [])) dr dw [] [] AH.nil.bk:=⟨by rw [wy rw'];exact qb,qb,rw',bi,bi,(λm v e=>nomatch e),(λm v e=>nomatch e),(λn=>rfl),(λn=>rfl)⟩
 refine ⟨_,rfl,⋯,⋯,kf (n:=(5:Int).toNat) (λj σ H2=>∃(R:List (Key×V)) (b:BA) (z:Option V),Same H H2∧B2 H2 dr dw R [] b∧BOk (L.map vd) b∧(∀n,b.ws n=none)∧H2 l=some (.lst (L.map λcs=>V.str (vd cs)))∧σ=[some (.ref a),some (.int i),some (.ref l),some (.ref dr),some (.ref dw),z,none,none,none,none,none,none])
  ⟨[],_,_,s3,b0,BOk.nil,(λ_=>rfl),by rw [wy nwl.symm,wy ndl.symm];exact f1,rfl⟩ ?_ ?_⟩
 ·rintro j σ H2 hj ⟨R,b,z,s2,hb,bo,hw,f2,rfl⟩
  have hj:j<5:=hj
  refine exI rfl (exI rfl (wg rfl rfl (exI rfl ⟨a,ns,_,_,_,rfl,s2.sql hS,⋯,⋯,⋯,⋯,λr _ l0 u0=>?_⟩)))
  refine wg rfl rfl (exI rfl (vb (λe=>?_) λe=>⟨R,b,_,s2,hb,bo,hw,f2,rfl⟩))
  refine exI rfl (exI rfl (wg rfl rfl (exI rfl (wg rfl rfl ⟨sz2,λp np=>?_⟩))))
  have s4:=s2.trans (Same.upd (o:=.lst [.int 4,.int 24]) np)
  refine exI rfl (exI rfl (wg rfl rfl (exI rfl (wg rfl rfl ⟨a,ns,_,_,_,rfl,s4.sql hS,⋯,⋯,⋯,⋯,λr' _ l1 u1=>?_⟩))))
  refine ⟨p,_,_,_,rfl,rfl,SqL.of qb,at_two 4 24 l1 u1,a,ns,_,_,rfl,s4.sql hS,⋯,(by split <;> lia),(by split <;> lia),λq hs wd nq h1 h2 iw=>?_⟩
  have lo:xy hs:=wkk iw h1 (by split at h2 <;> lia)
  have s5:=s4.trans (Same.upd (o:=.lst (hs.map V.int)) nq)
  have sb:=(Same.upd (H:=H2) (o:=.lst [.int 4,.int 24]) np).trans (Same.upd (o:=.lst (hs.map V.int)) nq)
  have hb5:=hb.same sb
  have f5:=sb _ _ f2
  have hj':j<L.length:=by lia
  have lens:=hb5.bp.lens bo
  have ll:(L.map vd).length=5:=by rw [aa];exact lL
  refine exI rfl (exI rfl (exI rfl ⟨l,_,_,_,rfl,rfl,SqL.of f5,ww3 hj',dr,exI rfl ⟨DPut.k (k:=.inr (vd L[j])) hb5.r ⋯,?_⟩⟩))
  refine ⟨_,b.putR (vd L[j]) hs,_,Same.upd2 s5 nr0,hb5.setR (hb5.bp.putR lo qb),bo.putR lo (hN j hj').1 (hN j hj').2 (λm w e'=>by rw [hw m] at e';cases e'),hw,by rw [wy ndl.symm];exact f5,rfl⟩
 ·rintro σ H2 ⟨R,b,z,s2,hb,bo,hw,f2,rfl⟩
  obtain ⟨eR,nR⟩:=v5 hb.bp.nR hb.bp.fR
  have lens:=hb.bp.lens bo
  have ll:(L.map vd).length=5:=by rw [aa];exact lL
  refine exI rfl ⟨_,_,_,rfl,.inl hb.r,eR,λl0 n0=>?_⟩
  refine ⟨_,_,rfl,SqL.of qb,by rw [aa];lia,λkn ms n1 p1 w1=>?_⟩
  have lm:ms.length≤5:=by rw [p1.length_eq,aa];lia
  have hm:∀n∈ms,∃hs,b.rs n=some hs:=λn hn=>by
   refine av.mp ?_
   rw [←hb.bp.in_r]
   exact (jq hb.bp.nR hb.bp.fR n).mp (p1.mem_iff.mp hn)
  have sk:=(Same.upd (H:=H2) (o:=.lst ((R.map jn).map V.str)) n0).trans (Same.upd (o:=.lst (ms.map V.str)) n1)
  have nkw:dw≠kn:=λq=>by rw [←q,Same.upd n0 _ _ hb.w] at n1;cases n1
  refine ⟨_,rfl,⋯,⋯,kf (n:=(5:Int).toNat) (λj σ H2=>∃(W:List (Key×V)) (b':BA) (z1 z2 z3 z4 z5 z6:Option V),Same H H2∧B2 H2 dr dw R W b'∧BOk (L.map vd) b'∧b'.rs=b.rs∧H2 l=some (.lst (L.map λcs=>V.str (vd cs)))∧H2 kn=some (.lst (ms.map V.str))∧σ=[some (.ref a),some (.int i),some (.ref l),some (.ref dr),some (.ref dw),z1,some (.ref kn),z2,z3,z4,z5,z6])
   ⟨[],b,_,_,_,_,_,_,s2.trans sk,hb.same sk,bo,rfl,sk _ _ f2,qb,rfl⟩ ?_ ?_⟩
  ·rintro j σ H3 hj ⟨W,b',z1,z2,z3,z4,z5,z6,s4,hb',bo',er',f3,fk,rfl⟩
   have hj:j<5:=hj
   refine exI rfl ⟨kn,exI rfl ⟨.inl (SqL.of fk),wg rfl rfl (exI rfl (vb (λe1=>?_) λ_=>yb ⟨W,b',_,_,_,_,_,_,s4,hb',bo',er',f3,fk,rfl⟩))⟩⟩
   rw [aa] at e1
   refine exI rfl (exI rfl (wg rfl rfl (exI rfl (wg rfl rfl ⟨a,ns,_,_,_,rfl,s4.sql hS,⋯,⋯,⋯,⋯,λr _ l0 u0=>?_⟩))))
   refine wg rfl rfl (exI rfl (vb (λe=>?_) λe=>⟨W,b',_,_,_,_,_,_,s4,hb',bo',er',f3,fk,rfl⟩))
   refine exI rfl (exI rfl (exI rfl (wg rfl rfl (exI rfl (wg rfl rfl (exI rfl ⟨kn,exI rfl ⟨.inl (SqL.of fk),a,ns,_,_,_,rfl,s4.sql hS,⋯,⋯,⋯,(by rw [aa];lia),λr1 _ l1 u1=>?_⟩⟩))))))
   rw [aa] at u1
   have hr1:r1.toNat<ms.length:=by lia
   have at1:atI (ms.map V.str) r1=some (.str ms[r1.toNat]):=by
    have:=j3 (xs:=ms.map V.str) (j:=r1.toNat) (v:=.str ms[r1.toNat]) (by rw [aB,al hr1];rfl)
    rwa [cb l1] at this
   obtain ⟨hs,eh⟩:=hm _ (bE hr1)
   rw [←er'] at eh
   generalize ms[r1.toNat]=wh at at1 eh
   obtain ⟨lo,p,ep,fp⟩:=hb'.bp.row eh
   have dg:DGet H3 dr (.str wh) (wf R (.inr wh)):=DGet.k (k:=.inr wh) hb'.r
   rw [ep] at dg
   have hl:=lo.1
   have hl2:=lo.2.1
   refine ⟨kn,_,_,_,rfl,rfl,SqL.of fk,at1,?_⟩
   refine exI rfl (exI rfl ⟨dr,exI rfl ⟨dg,p,exI rfl ⟨.inl (SqL.of fp),wg rfl rfl ?_⟩⟩⟩)
   rw [aa]
   obtain ⟨mo,emo,m1,m2⟩:∃mo:Int,(if (12:Int)<(hs.length:Int)-1 then (12:Int) else 40)=mo∧12≤mo∧mo≤40:=⟨_,rfl,by split <;> lia,by split <;> lia⟩
   refine exI rfl (exI rfl (wg rfl rfl (exI rfl (wg rfl rfl (exI rfl ⟨sz2,λp2 np2=>?_⟩)))))
   have s5:=s4.trans (Same.upd (o:=.lst [.int 40,.int 12]) np2)
   refine exI rfl (wg rfl rfl (.inr ((exI rfl ⟨p2,_,_,_,rfl,rfl,SqL.of qb,at_int 40 12,a,ns,_,_,_,rfl,s5.sql hS,⋯,⋯,⋯,(by rw [emo];lia),(by rw [emo];lia),λq t bb c nq b1 b2 c1 c2 t0 t1=>?_⟩))))
   rw [emo] at b2
   have hbc1:1*1≤bb*c:=eS b1 c1 ⋯ ⋯
   have hbc2:bb*c≤40*3:=eS ⋯ c2 ⋯ ⋯
   refine exI rfl ⟨q,_,_,_,rfl,rfl,SqT.of qb,rfl,exI rfl ⟨q,_,_,_,rfl,rfl,SqT.of qb,rfl,_,_,rfl,⋯,Sm.small ⋯ ⋯ ⋯,λu nu=>?_⟩⟩
   refine ⟨u,exI rfl ⟨SqT.of qb,rfl,_,_,rfl,_,_,rfl,rfl,?_⟩⟩
   refine exI rfl (exI rfl (exI rfl ⟨(show 3≤sizeLine by decide),λv nv=>?_⟩))
   have sv:=(((Same.upd (H:=H3) (o:=.lst [.int 40,.int 12]) np2).trans (Same.upd (o:=.tup [.int (t*c),.int (bb*c)]) nq)).trans (Same.upd (o:=.tup (ptV (wn (t*c) (bb*c)))) nu)).trans (Same.upd (o:=.tup [.str wh,.int (wn (t*c) (bb*c)).1,.int (wn (t*c) (bb*c)).2]) nv)
   have hbv:=hb'.same sv
   have hj':j<L.length:=by lia
   have lens':=hbv.bp.lens bo'
   refine exI rfl (exI rfl (exI rfl ⟨l,_,_,_,rfl,rfl,SqL.of (sv _ _ f3),ww3 hj',dw,exI rfl ⟨DPut.k (k:=.inr (vd L[j])) hbv.w ⋯,?_⟩⟩))
   refine ⟨_,b'.putW (vd L[j]) (wh,wn (t*c) (bb*c)),_,_,_,_,_,_,Same.upd2 (s4.trans sv) nw0,hbv.setW (hbv.bp.putW (v:=(wh,wn (t*c) (bb*c))) qb),bo'.putW (hN j hj').1 (hN j hj').2 eh (wv9 lo rfl b1 b2 m2 c1 t0 t1),er',by rw [wy nwl.symm];exact sv _ _ f3,by rw [wy nkw.symm];exact sv _ _ fk,rfl⟩
  ·rintro σ H3 ⟨W,b',z1,z2,z3,z4,z5,z6,s4,hb',bo',er',f3,fk,rfl⟩
   refine exI rfl (exI rfl ⟨sz2,λq nq=>?_⟩)
   exact k q dr dw R W b' _ _ (s4.trans (Same.upd nq)) nr0 nw0 qb (hb'.same (Same.upd nq)) bo' ll (λn hn=>by
    obtain ⟨cs,hc,rfl⟩:=aq.mp hn
    rw [yf]
    exact (hL cs hc).2.2)
def qw4 (tv:List (List Key×V))(q:Int×Int):V:=(wf tv [.inl q.1,.inl q.2]).getD (.int 0)
def Jq (C CW CN CB:Aj):Sp:=λvs H Q E=>∃(x dr dw dd a:Aj) (R W:List (Key×V)) (D:List V) (n:Str) (t b:Int),vs=[.ref x,.str n,.ref a]∧Hse C H x dr dw dd R W D∧H a=some (.tup [.int t,.int b])∧(wf W (.inr n)=none→E (.ref CN) none H) ∧
 (∀v,wf W (.inr n)=some v→∃y whose p pt t' tv,v=.ref y∧WkAt CW H y whose p pt t' tv∧(b<1→E (.ref CB) none H)∧(1≤b→Sm 8000 b∧∀H',Same H H'→Q (qw4 tv (wn t b)) H'))
include T in
theorem wyb (F:Fun K "stood" "House.stood" zbx f fd)(za0:MCal P w K mg base qq "walker_called" 1 (jg qq qy false))(zak:Cal P w K mg base "lowest" 2 (ux qz)) :
  FK P w K mg base 3 f fd ["self","name","point"] (Jq qq qw qy qz):=by
 have sc:=qwk
 refine F.okX sc (λvs H Q E h=>by obtain ⟨_,_,_,_,_,_,_,_,_,_,_,rfl,_⟩:=h;rfl) λ_ _ _ _ H vs Q E hr h=>?_
 obtain ⟨x,dr,dw,dd,a,R,W,D,n,t,b,rfl,hh,ha,kx,k⟩:=h
 obtain ⟨dx,hx⟩:=hh.ob
 refine ⟨_,(qj (w4 (i:=3) (xm (pv 0) T.clH za0 (hr.mono ⋯) qf (q9 (pv 1) qk)))
   (qh (w9 (qk9 (vq hr) (zy (pv 3) rfl) (wCA zak (k4 (zd ur (pv 2) qr (λ_ _=>rfl)) (k4 (zd ur (pv 2) qr (λ_ _=>rfl)) qk))) qr ⟨rfl,rfl,rfl,rfl⟩)))),?_⟩
 refine ⟨_,rfl,x,dx,_,rfl,hx,xu,_,rfl,x,dr,dw,dd,R,W,D,n,rfl,hh,λv e=>?_,kx⟩
 obtain ⟨y,whose,p,pt,t',tv,rfl,hW,kb,k⟩:=k v e
 obtain ⟨dy,hy⟩:=hW.ob
 refine ⟨_,rfl,y,qw,dy,_,_,rfl,hy,T.clW,T.naWt,Jg,t',rfl,.inr ⟨_,.inl hW.tm⟩,_,rfl,_,_,_,_,rfl,rfl,SqT.of ha,rfl,_,rfl,_,_,_,_,rfl,rfl,SqT.of ha,rfl,t,b,rfl,λb1=>?_,λb1=>kb b1⟩
 obtain ⟨sm,k⟩:=k b1
 refine ⟨sm.mono ⋯,λq nq=>?_⟩
 have s1:Same H (upd H q (.tup (ptV (wn t b)))):=Same.upd nq
 have f1:upd H q (.tup (ptV (wn t b))) q=some (.tup (([.inl (wn t b).1,.inl (wn t b).2]:List Key).map kV)):=qb
 generalize upd H q (.tup (ptV (wn t b)))=H1 at s1 f1
 exact ⟨_,DGet.t (s1 _ _ hW.tm) f1,k H1 s1⟩
def figB (c:Nat):Bool:=!(Builtin.Str.occurrences (Str.ofString "0123456789") ⟨#[c]⟩ 0 (Str.ofString "0123456789").length 1).isEmpty
theorem wuz:∀i:Nat,i<1000→1≤(xh (i:Int)).length∧(xh (i:Int)).length≤3∧((List.range (xh (i:Int)).cps.size).all λj=>figB ((xh (i:Int)).cps.getD j 0))=true:=by decide +kernel
def qk6:Sp:=λvs H Q _=>∃i:Int,vs=[.str (xh i)]∧0≤i∧i<1000∧∀H',Same H H'→Q (.int i) H'
include T in
theorem qkh (F:Fun K "number_of" "number_of" zb1 f fd):FK P w K mg base 1 f fd ["word"] qk6:=by
 have sc:=qkp
 refine F.okX sc (λvs H Q E h=>by obtain ⟨_,rfl,_⟩:=h;rfl) λ_ _ _ _ H vs Q E hr h=>?_
 obtain ⟨i,rfl,i0,i1,k⟩:=h
 obtain ⟨t1,zai⟩:=T.zai
 obtain ⟨t2,zaj⟩:=T.zaj
 obtain ⟨n1,n2,n3⟩:=wuz i.toNat ⋯
 rw [cb i0] at n1 n2 n3
 have big:(1000000:Nat)<sizeLine:=by decide
 refine ⟨_,(qj (xg (PW.pt (yp (wm yh (wp yz rfl T.len_ aI (q9 (pv 0) qk)) qr (wt _)) (yp (wm uq (wp yz rfl T.len_ aI (q9 (pv 0) qk)) (yk (v:=V.int 3) rfl zai ⟨_,rfl⟩) (wt _)) (yd (ug (u6 (wp (Q8 rfl) rfl T.all_ qux (xj (jz (M:=[]) rfl rfl (by walk_at "cap") (by walk_at "has") (by walk_at "cix") rfl (by decide +kernel) rfl (show List.Nodup (["sign"]:List Str) by decide +kernel) (wjs (pv 0)) (λ_ _ _ _ _=>(y8 qz3 (pv 0) (yk (v:=V.str "0123456789") rfl zaj ⟨_,rfl⟩) rfl))) qk)))))))) (qh (zm rfl T.zab x9 rfl T.zcr (xb xp qk))) xx)
   (qh (w9 (zu qx0 rfl T.int_ cS (q9 (pv 0) qk))))),?_⟩
 refine ⟨_,rfl,_,rfl,⋯,_,_,rfl,rfl,_,rfl,vb (λe=>absurd e ⋯) λ_=>?_⟩
 refine ⟨_,rfl,_,rfl,⋯,_,_,rfl,rfl,_,rfl,vb (λe=>absurd e ⋯) λ_=>?_⟩
 have e0:(xh i).cps.size=(xh i).length:=rfl
 refine exI rfl (exI rfl (qyd (λj=>.bl (figB ((xh i).cps.getD j 0))) ⋯ (λj H' R hj hs hR=>(exI rfl (wg rfl rfl hR))) λp np=>?_))
 refine ⟨p,(List.range (xh i).cps.size).map λj=>figB ((xh i).cps.getD j 0),rfl,by rw [aZ];exact SqL.new,?_⟩
 rw [show ((List.range (xh i).cps.size).map λj=>figB ((xh i).cps.getD j 0)).all id=true by rw [List.all_map];exact n3]
 refine exI rfl (yb ?_)
 exact ⟨_,rfl,_,i,rfl,dQ i0 ⋯,⋯,k _ (Same.upd np)⟩
theorem qzf:(" " : Str)=⟨#[32]⟩:=by decide +kernel
theorem wjt:("\n" : Str)=⟨#[10]⟩:=by decide +kernel
theorem qx7 (n wh:Str)(pt:Int×Int):Wd n wh pt=Str.join ⟨#[32]⟩ [("walker" : Str),n,wh,xh pt.1,xh pt.2]:=by
 rw [←qzf]
 unfold Wd
 show _=("walker" : Str) ++ " " ++ (n ++ " " ++ (wh ++ " " ++ (xh pt.1 ++ " " ++ xh pt.2)))
 refine Jc ?_
 simp only [W9]
 have e:Str.empty.cps.toList++("walker " : Str).cps.toList=("walker" : Str).cps.toList++(" " : Str).cps.toList:=by decide +kernel
 rw [e]
 simp only [e9]
theorem qzn (n:Str)(hs:List Int):Wg n hs=Str.join ⟨#[32]⟩ (("road" : Str)::n::hs.map xh):=by
 unfold Wg
 rw [qzf]
 exact bK _ _
theorem wym:∀c:Nat,c<97→qqw c=false:=by decide +kernel
theorem yu (h:zw n=true){c:Nat}(hc:c<97):c∉n.cps.toList:=λm=>by
 unfold zw at h
 rw [bc] at h
 obtain ⟨i,hi,e⟩:=List.mem_iff_getElem.mp m
 have:=bF.mp h.2 i (aS.mpr (by simpa using hi))
 rw [show n.cps.getD i 0=c by rw [←e];simp at hi;simp [Array.getD,hi]] at this
 rw [wym c hc] at this
 cases this
theorem uy {c:Nat}(hc:c=32∨c=10)(i:Int):c∉(xh i).cps.toList:=by
 unfold xh
 rcases hc with rfl|rfl
 ·exact λh=>(PyProof.Rows.intText_free_32 i).mp h
 ·exact PyProof.Rows.int_text_free' 10 ⟨⋯,⋯⟩ i
theorem qwg {z:Str}{c:Nat}(h:z.length≤1000000):z.length≤sizeLine∧(Builtin.Str.partsBetween z (Builtin.Str.occurrences z ⟨#[c]⟩ 0 z.length (z.length+1)) (⟨#[c]⟩:Str).length).length≤sizeLine:=by
 have big:(1000010:Nat)<sizeLine:=by decide
 refine ⟨⋯,?_⟩
 rw [PySem.length_partsBetween]
 have:=PySem.StrLaws.occ_length_le z ⟨#[c]⟩ 0 z.length (z.length+1)
 lia
theorem cut2 (x y:V)(l:List V):cutV (x::y::l) (some 2) none=l:=by
 unfold cutV HT.sIx
 simp
theorem at0 (x:V)(l:List V):atI (x::l) 0=some x:=j3 (j:=0) rfl
theorem at1 (x y:V)(l:List V):atI (x::y::l) 1=some y:=j3 (j:=1) rfl
def TakeR (C CR CW:Aj)(H:Hp)(o:Ho)(a:AH)(as:List AH)(row:Str)(Q:VK):Prop:=∃(n:Str) (hs:List Int),row=Wg n hs∧zw n=true∧n.length≤100∧a.rs n=none∧xy hs ∧
 ∀H1 H' o',Same H H1→Nxt H1 o o'→VH C CR CW H' o' (a.putR n hs::a::as)→Kb [o.dr,o.dw,o.dd] H1 H'→Q .non H'
def TakeW (C CR CW:Aj)(H:Hp)(o:Ho)(a:AH)(as:List AH)(row:Str)(Q:VK):Prop:=∃(n wh:Str) (hs:List Int) (pt:Int×Int),row=Wd n wh pt∧zw n=true∧zw wh=true∧n.length≤100∧wh.length≤100∧a.ws n=none∧a.rs wh=some hs∧HPt hs pt ∧
 ∀H1 H' o',Same H H1→Nxt H1 o o'→VH C CR CW H' o' (a.putW n ⟨wh,pt,[([.inl pt.1,.inl pt.2],.int 1)]⟩::a::as)→Kb [o.dr,o.dw,o.dd] H1 H'→Q .non H'
def Zd (C CR CW:Aj):Sp:=λvs H Q _=>∃(o:Ho) (a:AH) (as:List AH) (NM:List Str) (row:Str),vs=[.ref o.x,.str row]∧VH C CR CW H o (a::as)∧Nam NM a∧NM.length≤100∧o.ds.length≤10000∧(TakeR C CR CW H o a as row Q∨TakeW C CR CW H o a as row Q)
include T in
theorem qur (F:Fun K "take_in" "take_in" zb2 f fd)(zc0:MCal P w K mg base qq "lay" 4 (qjj K qq qc qg wj qp))(zh0:MCal P w K mg base qq "place" 5 (Jd K qq qc qw qg wj wx qz qm))(zc1:Cal P w K mg base "number_of" 1 qk6) :
  FK P w K mg base 6 f fd ["house","row"] (Zd qq qc qw):=by
 have sc:=wq3
 refine F.okX sc (λvs H Q E h=>by obtain ⟨_,_,_,_,_,rfl,_⟩:=h;rfl) λ_ _ _ _ H vs Q E hr h=>?_
 obtain ⟨o,a,as,NM,row,rfl,v,nm,lN,ld,h⟩:=h
 have big:(1000000:Nat)<sizeLine:=by decide
 refine ⟨_,(qj (w4 (i:=2) (u7 bP PySem.F.slot_str_split PySem.F.type_str_split qyk (pv 1) (xb xp qk)))
   (qh (xg (PW.pt (Yu (wm vg (zd x4 (pv 2) qr (λ_ _=>rfl)) xp (wt _)) (Wn (wm uq (wp xk rfl T.len_ aI (q9 (pv 2) qk)) qr (wt _))))) (qh (zb (xm (pv 0) T.clH zc0 (hr.mono ⋯) qf (k4 (zd x4 (pv 2) qr (λ_ _=>rfl)) (xj (jz (M:=[]) rfl rfl (by walk_at "cap") (by walk_at "has") (by walk_at "cix") rfl (by decide +kernel) rfl (show List.Nodup (["word"]:List Str) by decide +kernel) (yw (qjs xqw (pv 2) (wwj qr) www)) (λ_ _ _ _ _=>(wc zc1 (hr.mono ⋯) rfl qkf (q9 (pv 0) qk)))) qk))))) (qh (xg (PW.pt (Yu (wm vg (zd x4 (pv 2) qr (λ_ _=>rfl)) xp (wt _)) (Wn (wm vg (wp xk rfl T.len_ aI (q9 (pv 2) qk)) qr (wt _))))) (qh (zb (xm (pv 0) T.clH zh0 (hr.mono ⋯) qf (k4 (zd x4 (pv 2) qr (λ_ _=>rfl)) (k4 (zd x4 (pv 2) qr (λ_ _=>rfl)) (qx9 (vw (vc (wCA zc1 (k4 (zd x4 (pv 2) qr (λ_ _=>rfl)) qk)) (vc (wCA zc1 (k4 (zd x4 (pv 2) qr (λ_ _=>rfl)) qk)) qk))) qk)))))) (qh (zm rfl T.zab x9 rfl T.zcr (xb xp qk)))))))),?_⟩
 rcases h with ⟨n,hs,rfl,nn,ln,en,lo,k⟩|⟨n,wh,hs,pt,rfl,nn,nw,ln,lw,en,er,hp,k⟩
 ·have len:=Wh lo ln
  obtain ⟨z1,z2⟩:=qwg (z:=Wg n hs) (c:=32) ⋯
  have es:Txt.split (Wg n hs) " " = ("road" : Str)::n::hs.map xh:=by
   rw [qzn,qzf]
   refine Wz (cH _ _) λr hr=>?_
   rcases ag.mp hr with rfl|hr
   ·decide +kernel
   rcases ag.mp hr with rfl|hr
   ·exact yu nn ⋯
   obtain ⟨i,_,rfl⟩:=aq.mp hr
   exact uy (.inl rfl) i
  have lh:=(zp lo).1
  refine ⟨_,rfl,rfl,_,_,rfl,rfl,by decide +kernel,z1,by rw [qzf];exact z2,by rw [es];simp only [au,aa];lia,λl nl=>?_⟩
  rw [es]
  have s1:Same H (upd H l (.lst ((("road" : Str)::n::hs.map xh).map V.str))):=Same.upd nl
  have f1:upd H l (.lst ((("road" : Str)::n::hs.map xh).map V.str)) l=some (.lst (V.str "road" :: V.str n::(hs.map xh).map V.str)):=qb
  generalize upd H l (.lst ((("road" : Str)::n::hs.map xh).map V.str))=H1 at s1 f1
  have v1:=v.same s1
  obtain ⟨dx,hx⟩:=v1.h.hs.ob
  refine exI rfl ⟨l,_,_,_,rfl,rfl,SqL.of f1,at0 _ _,rfl,_,rfl,vb (λ_=>?_) λe=>absurd rfl e⟩
  refine exI rfl ⟨l,exI rfl ⟨.inl (SqL.of f1),wg rfl rfl (exI rfl (vb (λ_=>?_) λe=>absurd (by simp only [au];lia) e))⟩⟩
  refine exI rfl ⟨o.x,dx,exI rfl ⟨hx,xu,exI rfl ⟨l,_,_,_,rfl,rfl,SqL.of f1,at1 _ _ _,?_⟩⟩⟩
  refine exI rfl (exI rfl ⟨l,exI rfl ⟨SqL.of f1,λl2 nl2=>?_⟩⟩)
  rw [cut2]
  refine ⟨l2,rfl,⟨_,SqL.of qb⟩,Wb (λx=>match x with|.str z=>.int ((intText? z).getD 0)|_=>.non) (λx b=>by split <;> exact λz=>nomatch z) (SqL.of qb) (by simp only [aa];lia) (λx H' R hx' s2 hR=>?_) λp H2 np s2 f2=>?_⟩
  ·obtain ⟨z,hz,rfl⟩:=aq.mp hx'
   obtain ⟨i,hi,rfl⟩:=aq.mp hz
   have b0:=lo.2.2 i hi
   refine ⟨_,rfl,i,rfl,b0.1,⋯,λH'' s3=>?_⟩
   have:=hR H'' s3
   dsimp only at this
   rw [show intText? (xh i)=some i from dQ b0.1 ⋯] at this
   exact this
  ·have em:((hs.map xh).map V.str).map (λx=>match x with|.str z=>V.int ((intText? z).getD 0)|_=>.non)=hs.map V.int:=by
    rw [aZ,aZ]
    refine cf λi hi=>?_
    have b0:=lo.2.2 i hi
    show V.int ((intText? (xh i)).getD 0)=_
    rw [show intText? (xh i)=some i from dQ b0.1 ⋯]
    rfl
   rw [em] at f2
   dsimp only [k8,Q5,tC]
   have s3:=(s1.trans (Same.upd (o:=.lst ((hs.map xh).map V.str)) nl2)).trans s2
   exact VH.lays (v.same s3) nm lN ld nn ⋯ en f2 lo λH' o' nx v' kb=>k H2 H' o' s3 nx v' kb
 ·have rg:=hp.rng
  have len:=Zb (n:=n) (wh:=wh) (pt:=pt) ln lw ⋯ ⋯
  obtain ⟨z1,z2⟩:=qwg (z:=Wd n wh pt) (c:=32) ⋯
  have es:Txt.split (Wd n wh pt) " " = [("walker" : Str),n,wh,xh pt.1,xh pt.2]:=by
   rw [qx7,qzf]
   refine Wz (cH _ _) λr hr=>?_
   simp only [ag,aj,bd] at hr
   rcases hr with rfl|rfl|rfl|rfl|rfl
   ·decide +kernel
   ·exact yu nn ⋯
   ·exact yu nw ⋯
   ·exact uy (.inl rfl) _
   ·exact uy (.inl rfl) _
  refine ⟨_,rfl,rfl,_,_,rfl,rfl,by decide +kernel,z1,by rw [qzf];exact z2,by rw [es];exact (show 5≤sizeLine by lia),λl nl=>?_⟩
  rw [es]
  have s1:Same H (upd H l (.lst (([("walker" : Str),n,wh,xh pt.1,xh pt.2]:List Str).map V.str))):=Same.upd nl
  have f1:upd H l (.lst (([("walker" : Str),n,wh,xh pt.1,xh pt.2]:List Str).map V.str)) l=some (.lst [V.str "walker",V.str n,V.str wh,V.str (xh pt.1),V.str (xh pt.2)]):=qb
  generalize upd H l (.lst (([("walker" : Str),n,wh,xh pt.1,xh pt.2]:List Str).map V.str))=H1 at s1 f1
  have v1:=v.same s1
  obtain ⟨dx,hx⟩:=v1.h.hs.ob
  refine exI rfl ⟨l,_,_,_,rfl,rfl,SqL.of f1,at0 _ _,rfl,_,rfl,vb (λe=>absurd (V.str.inj e) (by decide +kernel)) λ_=>yb ?_⟩
  refine exI rfl ⟨l,_,_,_,rfl,rfl,SqL.of f1,at0 _ _,rfl,_,rfl,vb (λ_=>?_) λe=>absurd rfl e⟩
  refine exI rfl ⟨l,exI rfl ⟨.inl (SqL.of f1),rfl,_,rfl,vb (λ_=>?_) λe=>absurd rfl e⟩⟩
  refine exI rfl ⟨o.x,dx,exI rfl ⟨hx,xu,exI rfl ⟨l,_,_,_,rfl,rfl,SqL.of f1,at1 _ _ _,?_⟩⟩⟩
  refine exI rfl ⟨l,_,_,_,rfl,rfl,SqL.of f1,rfl,?_⟩
  refine ⟨_,rfl,l,_,_,_,rfl,rfl,SqL.of f1,rfl,pt.1,rfl,⋯,⋯,λH2 s2=>?_⟩
  refine ⟨_,rfl,l,_,_,_,rfl,rfl,SqL.of (s2 _ _ f1),rfl,pt.2,rfl,⋯,⋯,λH3 s3=>?_⟩
  refine ⟨sz2,λp np=>?_⟩
  dsimp only [k8,Q5,tC]
  have s4:=(((s1.trans s2).trans s3)).trans (Same.upd (o:=.tup [.int pt.1,.int pt.2]) np)
  have el:wn pt.1 pt.2=pt:=Zw rg.2.2.1 hp.2.1.2.2.1
  refine VH.places (v.same s4) nm lN ld nn ⋯ en er qb rg.2.2.1 (Sm.small ⋯ ⋯ ⋯) (by rw [el];exact hp) λH' o' nx v' kb=>?_
  rw [el] at v'
  exact k _ H' o' s4 nx v' kb
theorem VH.frame {CR:Aj}(v:VH C CR CW H o as){ch:List Aj}(k:Kb ch H H')(dl:Dl H ch)(n:o.x∉ch∧o.dr∉ch∧o.dw∉ch∧o.dd∉ch)(rd:∀q∈ch,q∈Q2 o.ds→∀kv,Rd H q (.dK kv)→Rd H' q (.dK kv)):VH C CR CW H' o as:=⟨v.h.frame k dl n rd,Hist.dl dl k v.t⟩
structure New (H:Hp)(o:Ho):Prop where
 x:H o.x=none
 r:H o.dr=none
 w:H o.dw=none
 d:H o.dd=none
variable {H1:Hp}
theorem New.nxt (h:New H o)(n:Nxt H1 o o'):New H o':=⟨by rw [n.x];exact h.x,by rw [n.dr];exact h.r,by rw [n.dw];exact h.w,by rw [n.dd];exact h.d⟩
theorem New.kb {H2:Hp}{ch:List Aj}(h:New H o)(k:Kb ch H H1)(k2:Kb [o.dr,o.dw,o.dd] H1 H2):Kb ch H H2:=λx u nx e=>k2 _ _ (λz=>by
 simp only [ag,aj,bd] at z
 rcases z with z|z|z
 ·rw [z,h.r] at e;cases e
 ·rw [z,h.w] at e;cases e
 ·rw [z,h.d] at e;cases e) (k x u nx e)
theorem BA.same {c:BA}(h1:∀n,b.rs n=c.rs n)(h2:∀n,b.ws n=c.ws n):b=c:=by
 obtain ⟨r,w⟩:=b
 obtain ⟨r',w'⟩:=c
 have e1:r=r':=funext h1
 have e2:w=w':=funext h2
 rw [e1,e2]
theorem qqn {ks:List Str}(nd:ks.Nodup)(e:ks.take (i+1)=ks.take i++[n]):n∉ks.take i:=λh=>by
 have:=(eV (i+1) ks).nodup nd
 rw [e] at this
 exact (eZ.mp this).2.2 n h n (ay.mpr rfl) rfl
theorem ne_rdx {CR:Aj}{x dy:Aj}(hx:H x=some (.ins C dx (hF dr dw dd)))(h:H r=some (.ins CR dy [("heights",.ref q)])):r≠x:=λz=>by
 rw [z,hx] at h
 injection h with h
 injection h with _ _ h
 unfold hF at h
 injection h with _ h
 cases h
theorem ne_wdx {x dy t:Aj}(hx:H x=some (.ins C dx (hF dr dw dd)))(h:H y=some (.ins CW dy (wF n p t))):y≠x:=λz=>by
 rw [z,hx] at h
 injection h with h
 injection h with _ _ h
 unfold hF wF at h
 injection h with h _
 injection h with h _
 exact absurd h (by decide +kernel)
theorem Rep.kx {CR:Aj}{f g:Key→Option V}{x:Aj}(h:Rep CR CW H f g a)(hx:H x=some (.ins C dx (hF dr dw dd)))(k:Kb [x] H H'):Rep CR CW H' f g a:=by
 have st:∀y u,y≠x→H y=some u→H' y=some u:=λy u ny e=>k y u (λz=>ny (ay.mp z)) e
 refine ⟨λn=>?_,λn=>?_,h.ok⟩
 ·cases e:a.rs n with
  |none=>exact h.noR e
  |some hs =>
   obtain ⟨r,e1,dy,q,h1,h2⟩:=h.road e
   exact ⟨r,e1,dy,q,st _ _ (ne_rdx hx h1) h1,st _ _ (λz=>by rw [z,hx] at h2;cases h2) h2⟩
 ·cases e:a.ws n with
  |none=>exact h.noW e
  |some w =>
   obtain ⟨y,p,t,e1,wk⟩:=h.wk e
   obtain ⟨dy,hy⟩:=wk.ob
   have hp:=wk.pt
   have ht:=wk.tm
   exact ⟨y,p,t,e1,⟨dy,st _ _ (ne_wdx hx hy) hy⟩,st _ _ (λz=>by rw [z,hx] at hp;cases hp) hp,st _ _ (λz=>by rw [z,hx] at ht;cases ht) ht⟩
def Ho.fgt (o:Ho)(dd:Aj):Ho:=⟨o.x,o.dr,o.dw,dd,o.R,o.W,[]⟩
def qww (C CR CW:Aj):Sp:=λvs H Q _=>∃(o:Ho) (a:AH) (as:List AH),vs=[.ref o.x]∧VH C CR CW H o (a::as)∧∀H' dd,H dd=none→VH C CR CW H' (o.fgt dd) [a]→Kb [o.x] H H'→Q .non H'
include T in
theorem wzf (F:Fun K "forget" "House.forget" zbs f fd):FK P w K mg base 1 f fd ["self"] (qww qq qc qw):=by
 have sc:=Y6
 refine F.okX sc (λvs H Q E h=>by obtain ⟨_,_,_,rfl,_⟩:=h;rfl) λ_ _ _ _ H vs Q E hr h=>?_
 obtain ⟨o,a,as,rfl,v,k⟩:=h
 obtain ⟨dx,hx⟩:=v.h.hs.ob
 refine ⟨_,(qh (Qk (pv 0) (j8 qk) rfl)),?_⟩
 refine ⟨sz0,λdd nd=>(exI rfl ⟨o.x,qq,dx,exI rfl ⟨Same.upd nd _ _ hx,T.clH,T.naHd,(by show 3<1000;decide),?_⟩⟩)⟩
 have ef:vk "done" (.ref dd) (hF o.dr o.dw o.dd)=hF o.dr o.dw dd:=by
  have n1:¬ ("roads" : Str) = "done" := by decide +kernel
  have n2:¬ ("walkers" : Str) = "done" := by decide +kernel
  unfold hF
  rw [vk,af n1,vk,af n2,vk,ak rfl]
 rw [ef]
 have kb:Kb [o.x] H (upd (upd H dd (.lst [])) o.x (.ins qq dx (hF o.dr o.dw dd))):=λb u nb e=>by
  rw [wy (λz=>nb (by rw [z];simp))]
  exact Same.upd nd _ _ e
 have ne:∀b u,b≠o.x→H b=some u→upd (upd H dd (.lst [])) o.x (.ins qq dx (hF o.dr o.dw dd)) b=some u:=λb u nb e=>kb b u (by simpa using nb) e
 have h:=v.h
 have hr':=h.hs.r
 have hw':=h.hs.w
 have nr:o.dr≠o.x:=λz=>by rw [z,hx] at hr';cases hr'
 have nw:o.dw≠o.x:=λz=>by rw [z,hx] at hw';cases hw'
 refine k _ dd nd ⟨⟨⟨⟨dx,qb⟩,ne _ _ nr hr',ne _ _ nw hw',?_,h.hs.ne⟩,(λd hd=>nomatch hd),(λq hq=>nomatch hq),trivial,h.nR,h.nW,h.fR,h.fW⟩,⟨v.rep.kx hx kb,.inl ⟨rfl,rfl⟩⟩⟩ kb
 show upd (upd H dd (.lst [])) o.x _ dd=some (.lst [])
 rw [wy (λz=>by rw [z,hx] at nd;cases nd)]
 exact qb
def y9 (w:Str×(Int×Int)):Wk:=⟨w.1,w.2,[([.inl w.2.1,.inl w.2.2],.int 1)]⟩
def Fresh (a:AH)(b:BA):Prop:=(∀n,a.rs n=b.rs n)∧∀n,a.ws n=(b.ws n).map y9
theorem Fresh.bk (h:Fresh a b):a.bk=b:=BA.same h.1 λn=>by
 show (a.ws n).map _=_
 rw [h.2 n]
 cases b.ws n <;> rfl
def ReadPre (b:BA)(NM ms1 ms2:List Str):Prop:=BOk NM b∧NM.length<60∧(∀n∈NM,n.length≤100)∧SrtN (λn=>(b.rs n).isSome) ms1∧SrtN (λn=>(b.ws n).isSome) ms2
def Qm (C CR CW:Aj):Sp:=λvs H Q _=>∃(b:BA) (NM ms1 ms2:List Str),vs=[.str (j9 b ms1 ms2)]∧ReadPre b NM ms1 ms2∧∀H' (o:Ho) (a:AH),Same H H'→VH C CR CW H' o [a]→New H o→o.ds=[]→Fresh a b→Q (.ref o.x) H'
theorem qwz {c d:Nat}(hc:d≠c):∀ {A:List (List Nat)},(∀x∈A,d∉x)→d∉glL c A
 |[],_=>aj
 |[x],h=>h x (ar ..)
 |x::y::r,h=>λz=>by
  have z:d∈x++c::glL c (y::r):=z
  rcases bq.mp z with z|z
  ·exact h x (ar ..) z
  ·rcases ag.mp z with z|z
   ·exact hc z
   ·exact qwz hc (λw hw=>h w (ax _ hw)) z
theorem wx7 (nn:zw n=true):10∉(Wg n hs).cps.toList:=by
 rw [qzn,Wp]
 exact qwz ⋯ λx hx=>by
  obtain ⟨s,hs,rfl⟩:=aq.mp hx
  rcases ag.mp hs with rfl|hs
  ·decide +kernel
  rcases ag.mp hs with rfl|hs
  ·exact yu nn ⋯
  obtain ⟨i,_,rfl⟩:=aq.mp hs
  exact uy (.inr rfl) i
theorem wx6 {pt:Int×Int}(nn:zw n=true)(nw:zw wh=true):10∉(Wd n wh pt).cps.toList:=by
 rw [qx7,Wp]
 exact qwz ⋯ λx hx=>by
  obtain ⟨s,hs,rfl⟩:=aq.mp hx
  simp only [ag,aj,bd] at hs
  rcases hs with rfl|rfl|rfl|rfl|rfl
  ·decide +kernel
  ·exact yu nn ⋯
  ·exact yu nw ⋯
  ·exact uy (.inr rfl) _
  ·exact uy (.inr rfl) _
theorem wj3:1≤(Wg n hs).length:=by
 unfold Wg
 rw [show Txt.join " " (("road" : Str)::n::hs.map xh)=Str.join " " (("road" : Str)::n::hs.map xh) from bK _ _]
 show 1≤("road" ++ " " ++ Str.join " " (n::hs.map xh)).length
 rw [jf,jf,qq9]
 lia
theorem wvj {pt:Int×Int}:1≤(Wd n wh pt).length:=by
 have e1:(Str.empty ++ "walker " : Str).length=7:=by decide +kernel
 unfold Wd
 simp only [jf] at e1 ⊢
 lia
theorem wk3 {x:Str}{l:List Str}(h:1≤x.length):Str.join ⟨#[10]⟩ (x::l) ≠ "" := λz=>by
 have z:=bB Str.length z
 rw [show ("" : Str).length=0 by decide +kernel] at z
 cases l with
 |nil=>have z:x.length=0:=z;lia
 |cons y l =>
  have z:(x++⟨#[10]⟩++Str.join ⟨#[10]⟩ (y::l)).length=0:=z
  rw [jf,jf] at z
  lia
def vj (b:BA)(ms1 ms2:List Str):List Str:=ms1.map (jx b)++ms2.map (km b)
theorem Z1 (b:BA)(ms1 ms2:List Str):j9 b ms1 ms2=Str.join ⟨#[10]⟩ (vj b ms1 ms2):=by
 unfold j9 vj
 rw [wjt]
 exact bK _ _
theorem ReadPre.row (h:ReadPre b NM ms1 ms2):∀n∈ms1,∃hs,b.rs n=some hs∧xy hs∧zw n=true∧n.length≤100∧n∈NM:=λn hn=>by
 obtain ⟨bo,_,nl,S1,_⟩:=h
 obtain ⟨hs,e⟩:=av.mp ((S1.2.1 n).mp hn)
 obtain ⟨lo,nn,hN⟩:=bo.lo n hs e
 exact ⟨hs,e,lo,nn,nl n hN,hN⟩
theorem ReadPre.wlk (h:ReadPre b NM ms1 ms2):∀n∈ms2,∃w hs,b.ws n=some w∧b.rs w.1=some hs∧HPt hs w.2∧zw n=true∧zw w.1=true∧n.length≤100∧w.1.length≤100∧n∈NM:=λn hn=>by
 obtain ⟨bo,_,nl,_,S2⟩:=h
 obtain ⟨w,e⟩:=av.mp ((S2.2.1 n).mp hn)
 obtain ⟨nn,hN,hs,er,hp⟩:=bo.wo n w e
 obtain ⟨_,nw,hW⟩:=bo.lo w.1 hs er
 exact ⟨w,hs,e,er,hp,nn,nw,nl n hN,nl _ hW,hN⟩
theorem ReadPre.lens (h:ReadPre b NM ms1 ms2):ms1.length<60∧ms2.length<60:=by
 have a:=W6 ms1 NM h.2.2.2.1.1 λn hn=>(h.row n hn).choose_spec.2.2.2.2
 have c:=W6 ms2 NM h.2.2.2.2.1 λn hn=>by obtain ⟨_,_,_,_,_,_,_,_,_,e⟩:=h.wlk n hn;exact e
 have:=h.2.1
 lia
theorem ReadPre.text (h:ReadPre b NM ms1 ms2)(ne:vj b ms1 ms2≠[]):j9 b ms1 ms2 ≠ "" ∧ Txt.split (j9 b ms1 ms2) "\n" = vj b ms1 ms2:=by
 have fr:∀r∈vj b ms1 ms2,10∉r.cps.toList∧1≤r.length:=λr hr=>by
  rcases bq.mp hr with hr|hr
  ·obtain ⟨n,hn,rfl⟩:=aq.mp hr
   obtain ⟨hs,e,lo,nn,_⟩:=h.row n hn
   exact ⟨wx7 nn,wj3⟩
  ·obtain ⟨n,hn,rfl⟩:=aq.mp hr
   obtain ⟨w,hs,e,er,hp,nn,nw,_⟩:=h.wlk n hn
   unfold km
   rw [e]
   exact ⟨wx6 nn nw,wvj⟩
 rw [Z1,wjt]
 refine ⟨?_,Wz ne λr hr=>(fr r hr).1⟩
 cases e:vj b ms1 ms2 with
 |nil=>exact absurd e ne
 |cons x l=>exact wk3 (fr x (by rw [e];exact ar ..)).2
theorem ReadPre.len (h:ReadPre b NM ms1 ms2):(j9 b ms1 ms2).length≤1000000:=by
 have l:=h.lens
 have r1:∀n∈ms1,(jx b n).length≤1000:=λn hn=>by
  obtain ⟨hs,e,lo,nn,ln,_⟩:=h.row n hn
  unfold jx
  rw [e]
  exact Wh lo ln
 have r2:∀n∈ms2,(km b n).length≤1000:=λn hn=>by
  obtain ⟨w,hs,e,er,hp,nn,nw,ln,lw,_⟩:=h.wlk n hn
  have rg:=hp.rng
  unfold km
  rw [e]
  exact Zb ln lw ⟨by show 0≤w.2.1;lia,by show w.2.1≤_;lia⟩ ⟨by show 0≤w.2.2;lia,by show w.2.2≤_;lia⟩
 have a:=qqz r1
 have c:=qqz r2
 rw [Z1]
 refine bw (dN _ _) ?_
 unfold vj
 rw [show (⟨#[10]⟩:Str).length=1 from rfl,aO,List.sum_append,aL,aa,aa]
 lia
def RdI (C CR CW:Aj)(H:Hp)(l:Aj)(b:BA)(ms1 ms2:List Str)(i:Nat)(o:Ho)(Hx:Hp):Prop:=∃(a:AH) (as:List AH),VH C CR CW Hx o (a::as)∧New H o∧o.ds.length=i∧Same H Hx∧Hx l=some (.lst ((vj b ms1 ms2).map V.str))∧l∉[o.dr,o.dw,o.dd]∧(∀n,a.rs n=if n∈ms1.take i then b.rs n else none)∧∀n,a.ws n=if n∈ms2.take (i-ms1.length) then (b.ws n).map y9 else none
theorem qj8 {f g:Str→Option α}(ht:ms.take (i+1)=ms.take i++[n])(h:∀m,g m=if m∈ms.take i then f m else none){v:α}(e:f n=some v)(m:Str):(if m=n then some v else g m)=if m∈ms.take (i+1) then f m else none:=by
 rw [ht]
 by_cases q:m=n
 ·rw [ak q,ak (by rw [q];simp),q,e]
 ·rw [af q,h m]
  by_cases y:m∈ms.take i
  ·rw [ak y,ak (bX _ y)]
  ·rw [af y,af (λw'=>by rcases bq.mp w' with w'|w';exact y w';exact q (ay.mp w'))]
theorem wq6 {CR:Aj}{Hx:Hp}{l:Aj}{row:Str}(pre:ReadPre b NM ms1 ms2)(hi:(vj b ms1 ms2)[i]?=some row)(h:RdI C CR CW H l b ms1 ms2 i o Hx)(k:∀o' H',RdI C CR CW H l b ms1 ms2 (i+1) o' H'→o'.x=o.x→Q .non H'):Zd C CR CW [.ref o.x,.str row] Hx Q E:=by
 obtain ⟨a,as,v,nw,ld,s,fl,ln,hr,hw⟩:=h
 have lens:=pre.lens
 have S1:=pre.2.2.2.1
 have S2:=pre.2.2.2.2
 have li:i<ms1.length+ms2.length:=by
  have:=(aR.mp hi).1
  unfold vj at this
  rwa [aL,aa,aa] at this
 have nm:Nam NM a:=⟨(λm e=>by
  rw [hr m] at e
  by_cases q:m∈ms1.take i
  ·rw [ak q] at e
   obtain ⟨hs,e'⟩:=av.mp e
   exact (pre.1.lo m hs e').2.2
  ·rw [af q] at e;cases e),(λm e=>by
  rw [hw m] at e
  by_cases q:m∈ms2.take (i-ms1.length)
  ·rw [ak q,cB] at e
   obtain ⟨u,e'⟩:=av.mp e
   exact (pre.1.wo m u e').2.1
  ·rw [af q] at e;cases e)⟩
 have go:∀(a':AH) (H1 H':Hp) (o':Ho),Same Hx H1→Nxt H1 o o'→VH C CR CW H' o' (a'::a::as)→Kb [o.dr,o.dw,o.dd] H1 H'→(∀n,a'.rs n=if n∈ms1.take (i+1) then b.rs n else none)→(∀n,a'.ws n=if n∈ms2.take (i+1-ms1.length) then (b.ws n).map y9 else none)→Q .non H':=λa' H1 H' o' s1 nx v' kb h1 h2=>by
  obtain ⟨d,ed,_⟩:=nx.ds
  have kb0:Kb [] H H1:=Kb.of (s.trans s1)
  exact k o' H' ⟨a',a::as,v',nw.nxt nx,by rw [ed,au,ld],λy u e=>nw.kb kb0 kb y u aj e,kb _ _ ln (s1 _ _ fl),by rw [nx.dr,nx.dw,nx.dd];exact ln,h1,h2⟩ nx.x
 refine ⟨o,a,as,NM,row,rfl,v,nm,by have:=pre.2.1;lia,⋯,?_⟩
 unfold vj at hi
 rcases dH i ms1.length with q|q
 ·rw [bG (by rw [aa];exact q),aB,al q] at hi
  have hi:jx b ms1[i]=row:=by injection hi
  obtain ⟨hs,e,lo,nn,l1,_⟩:=pre.row ms1[i] (bE q)
  have ht:ms1.take (i+1)=ms1.take i++[ms1[i]]:=by rw [cC,al q];rfl
  unfold jx at hi
  rw [e] at hi
  refine .inl ⟨ms1[i],hs,hi.symm,nn,l1,by rw [hr,af (qqn S1.1 ht)],lo,λH1 H' o' s1 nx v' kb=>go _ H1 H' o' s1 nx v' kb (qj8 ht hr e) λn=>?_⟩
  show a.ws n=_
  rw [hw n,show i-ms1.length=0 by lia,show i+1-ms1.length=0 by lia]
 ·have q2:i-ms1.length<ms2.length:=by lia
  rw [bt (by rw [aa];exact q),aa,aB,al q2] at hi
  have hi:km b ms2[i-ms1.length]=row:=by injection hi
  obtain ⟨u,hs,e,er,hp,nn,nwh,l1,l2,_⟩:=pre.wlk _ (bE q2)
  have ht:ms2.take (i-ms1.length+1)=ms2.take (i-ms1.length)++[ms2[i-ms1.length]]:=by rw [cC,al q2];rfl
  have tk:∀j,i≤j→ms1.take j=ms1:=λj hj=>cn ⋯
  unfold km at hi
  rw [e] at hi
  have er':a.rs u.1=some hs:=by
   rw [hr,tk i (ai _),ak ((S1.2.1 u.1).mpr (by show (b.rs u.1).isSome=true;rw [er];rfl)),er]
  refine .inr ⟨_,u.1,hs,u.2,hi.symm,nn,nwh,l1,l2,by rw [hw,af (qqn S2.1 ht)],er',hp,λH1 H' o' s1 nx v' kb=>go _ H1 H' o' s1 nx v' kb (λn=>?_) λn=>?_⟩
  ·show a.rs n=_
   rw [hr n,tk i (ai _),tk (i+1) ⋯]
  ·rw [show i+1-ms1.length=i-ms1.length+1 by lia]
   exact qj8 (f:=λn=>(b.ws n).map y9) ht hw (by rw [e];rfl) n
include T in
theorem qy6 (F:Fun K "house_of" "house_of" zb3 f fd)(zh1:CCal P w K mg base "House" qq 1 (qvr qq))(zh2:Cal P w K mg base "take_in" 6 (Zd qq qc qw))(zh3:MCal P w K mg base qq "forget" 1 (qww qq qc qw)) :
  FK P w K mg base 7 f fd ["text"] (Qm qq qc qw):=by
 have sc:=qjy
 refine F.okX sc (λvs H Q E h=>by obtain ⟨_,_,_,_,rfl,_⟩:=h;rfl) λ_ _ _ s H vs Q E hr h=>?_
 obtain ⟨b,NM,ms1,ms2,rfl,pre,k⟩:=h
 have big:(1000000:Nat)<sizeLine:=by decide
 have lens:=pre.lens
 refine ⟨_,(qj (w4 (i:=1) (wxp zh1 (hr.mono ⋯) rfl qf))
   (qj (vf aE rfl (yw (qq8 (wm Jf (pv 0) xp (wt _)) (u7 bP PySem.F.slot_str_split PySem.F.type_str_split qyk (pv 0) (xb xp qk)) (j8 qk))) (xq (i:=2)) (qh (zb (wCA zh2 (q9 (pv 1) (q9 (pv 2) qk))))))
   (qj (zb (zn (pv 1) T.clH zh3 (hr.mono ⋯) qf))
   (qh (w9 (pv 1)))))),?_⟩
 refine λx d9 nx nd9 ne9=>⟨x,d9,rfl,qb,λH4 hr' hw' hd' n1' n2' n3' hse kb1=>⟨rfl,?_⟩⟩
 have s4:Same H H4:=λz o e=>kb1 z o (λy=>by rw [ay.mp y,nx] at e;cases e) (by rw [wy (wz e nx),wy (wz e nd9)];exact e)
 have fresh:∀ {b},upd (upd H d9 (HO.own x)) x (HO.ins qq d9 []) b=none→H b=none:=λ{b} m=>by
  cases e:H b with
  |none=>rfl
  |some o=>rw [wy (wz e nx),wy (wz e nd9),e] at m;cases m
 have v4:VH qq qc qw H4 ⟨x,hr',hw',hd',[],[],[]⟩ [AH.nil]:=VH.nil hse
 have nw4:New H ⟨x,hr',hw',hd',[],[],[]⟩:=⟨nx,fresh n1',fresh n2',fresh n3'⟩
 have S1:=pre.2.2.2.1
 have S2:=pre.2.2.2.2
 rcases Classical.em (vj b ms1 ms2=[]) with e0|e0
 have te:j9 b ms1 ms2 = "" := by rw [Z1,e0];decide +kernel
 refine exI rfl ⟨rfl,_,rfl,wys (by rw [te]) ⟨sz0,λl n5=>?_⟩⟩
 have s5:Same H4 (upd H4 l (.lst [])):=Same.upd n5
 have f5:upd H4 l (.lst []) l=some (.lst ((vj b ms1 ms2).map V.str)):=by rw [e0];exact qb
 generalize upd H4 l (.lst [])=H5 at s5 f5
 rotate_left
 obtain ⟨te,es⟩:=pre.text e0
 obtain ⟨z1,z2⟩:=qwg (c:=10) pre.len
 refine exI rfl ⟨rfl,_,rfl,iteND (λ_=>⟨_,rfl,rfl,_,_,rfl,rfl,by decide +kernel,z1,by rw [wjt];exact z2,by rw [es];unfold vj;rw [aL,aa,aa];lia,λl n5=>?_⟩) λz=>absurd (V.str.inj z) te⟩
 rw [es]
 have s5:Same H4 (upd H4 l (.lst ((vj b ms1 ms2).map V.str))):=Same.upd n5
 have f5:upd H4 l (.lst ((vj b ms1 ms2).map V.str)) l=some (.lst ((vj b ms1 ms2).map V.str)):=qb
 generalize upd H4 l (.lst ((vj b ms1 ms2).map V.str))=H5 at s5 f5
 all_goals clear e0
 all_goals refine ⟨l,rfl,⟨_,SqL.of f5⟩,Ws (xs:=(vj b ms1 ms2).map V.str) (λi σ Hx=>∃(o:Ho) (z:Option V),RdI qq qc qw H l b ms1 ms2 i o Hx∧o.x=x∧σ=[some (.str (j9 b ms1 ms2)),some (.ref x),z])
   ⟨_,_,⟨_,_,v4.same s5,nw4,rfl,s4.trans s5,f5,λy=>?_,(λn=>rfl),(λn=>by rw [Nat.zero_sub];rfl)⟩,rfl,rfl⟩ (λi σ Hx _ h=>by obtain ⟨_,_,⟨_,_,_,_,_,_,h,_⟩,_⟩:=h;exact SqL.of h) ?_ ?_⟩
 ·simp only [ag,aj,bd] at y
  rcases y with y|y|y <;> rw [y] at n5
  ·have:=v4.h.hs.r;rw [n5] at this;cases this
  ·have:=v4.h.hs.w;rw [n5] at this;cases this
  ·have:=v4.h.hs.d;rw [n5] at this;cases this
 ·rintro i y σ Hx hi ⟨o,z,h,ex,rfl⟩
  rw [aB] at hi
  cases hr:(vj b ms1 ms2)[i]? with
  |none=>rw [hr] at hi;cases hi
  |some row =>
   rw [hr] at hi
   cases hi
   refine exI rfl (exI rfl ?_)
   dsimp only [Q5]
   rw [←ex]
   exact wq6 pre hr h λo' H' h' e'=>⟨o',_,h',e',rfl⟩
 ·rintro σ Hx ⟨o,z,⟨a,as,v,nw,ld,s,fl,ln,hr,hw⟩,ex,rfl⟩
  obtain ⟨dx,hx⟩:=v.h.hs.ob
  have lr:((vj b ms1 ms2).map V.str).length=ms1.length+ms2.length:=by unfold vj;rw [aa,aL,aa,aa]
  rw [lr] at hr hw
  rw [←ex]
  refine exI rfl ⟨o.x,dx,exI rfl ⟨hx,xu,o,a,as,rfl,v,λH' dd nd v' kb=>?_⟩⟩
  refine exI rfl (k H' (o.fgt dd) a (λy u e=>kb _ _ (λz=>?_) (s _ _ e)) v' ⟨nw.x,nw.r,nw.w,s.free nd⟩ rfl ⟨λn=>?_,λn=>?_⟩)
  ·rw [ay.mp z,nw.x] at e;cases e
  ·rw [hr n,cn ⋯]
   by_cases q:n∈ms1
   ·rw [ak q]
   ·rw [af q]
    cases e:b.rs n with
    |none=>rfl
    |some hs=>exact absurd ((S1.2.1 n).mpr (by show (b.rs n).isSome=true;rw [e];rfl)) q
  ·rw [hw n,cn ⋯]
   by_cases q:n∈ms2
   ·rw [ak q]
   ·rw [af q]
    cases e:b.ws n with
    |none=>rfl
    |some hs=>exact absurd ((S2.2.1 n).mpr (by show (b.ws n).isSome=true;rw [e];rfl)) q
 ·simp only [ag,aj,bd] at y
  rcases y with y|y|y <;> rw [y] at n5
  ·have:=v4.h.hs.r;rw [n5] at this;cases this
  ·have:=v4.h.hs.w;rw [n5] at this;cases this
  ·have:=v4.h.hs.d;rw [n5] at this;cases this
 ·rintro i y σ Hx hi ⟨o,z,h,ex,rfl⟩
  rw [aB] at hi
  cases hr:(vj b ms1 ms2)[i]? with
  |none=>rw [hr] at hi;cases hi
  |some row =>
   rw [hr] at hi
   cases hi
   refine exI rfl (exI rfl ?_)
   dsimp only [Q5]
   rw [←ex]
   exact wq6 pre hr h λo' H' h' e'=>⟨o',_,h',e',rfl⟩
 ·rintro σ Hx ⟨o,z,⟨a,as,v,nw,ld,s,fl,ln,hr,hw⟩,ex,rfl⟩
  obtain ⟨dx,hx⟩:=v.h.hs.ob
  have lr:((vj b ms1 ms2).map V.str).length=ms1.length+ms2.length:=by unfold vj;rw [aa,aL,aa,aa]
  rw [lr] at hr hw
  rw [←ex]
  refine exI rfl ⟨o.x,dx,exI rfl ⟨hx,xu,o,a,as,rfl,v,λH' dd nd v' kb=>?_⟩⟩
  refine exI rfl (k H' (o.fgt dd) a (λy u e=>kb _ _ (λz=>?_) (s _ _ e)) v' ⟨nw.x,nw.r,nw.w,s.free nd⟩ rfl ⟨λn=>?_,λn=>?_⟩)
  ·rw [ay.mp z,nw.x] at e;cases e
  ·rw [hr n,cn ⋯]
   by_cases q:n∈ms1
   ·rw [ak q]
   ·rw [af q]
    cases e:b.rs n with
    |none=>rfl
    |some hs=>exact absurd ((S1.2.1 n).mpr (by show (b.rs n).isSome=true;rw [e];rfl)) q
  ·rw [hw n,cn ⋯]
   by_cases q:n∈ms2
   ·rw [ak q]
   ·rw [af q]
    cases e:b.ws n with
    |none=>rfl
    |some hs=>exact absurd ((S2.2.1 n).mpr (by show (b.ws n).isSome=true;rw [e];rfl)) q
include T in
theorem qxq (F:Fun K "read_house" "read_house" zb4 f fd)(zh4:Cal P w K mg base "house_of" 7 (Qm qq qc qw))(zcn:Cal P w K mg base "house_text" 4 (qv9 qq qc qw)) :
  FK P w K mg base 8 f fd ["text"] (Qm qq qc qw):=by
 have sc:=qxv
 refine F.okX sc (λvs H Q E h=>by obtain ⟨_,_,_,_,rfl,_⟩:=h;rfl) λ_ _ _ _ H vs Q E hr h=>?_
 obtain ⟨b,NM,ms1,ms2,rfl,pre,k⟩:=h
 refine ⟨_,(qj (wvt rfl rfl rfl T.zgu (λpn xe E hE hO=>(qh (w4 (i:=1) (wc zh4 (hr.mono ⋯) rfl hE (q9 (pv 0) qk))))) (λe=>(qh (show PS _ _ (λ_ _ _=>False) from λ_ _ _ _ _ _ h=>h.elim))))
   (qj (xg (wm Jf (wCA zcn (q9 (pv 1) qk)) (pv 0) (wt _)) (qh (zm rfl T.zab x9 rfl T.zcr (xb xp qk))) xx)
   (qh (w9 (pv 1))))),?_⟩
 refine exI rfl ⟨b,NM,ms1,ms2,rfl,pre,λH1 o a s1 v nw ed fr=>?_⟩
 have eb:=fr.bk
 have nm:Nam NM a:=AOk.bk (by rw [eb];exact pre.1)
 refine exI rfl ⟨o,a,[],NM,rfl,v,nm,pre.2.1,pre.2.2.1,λH2 ns1 ns2 s2 R1 R2=>?_⟩
 rw [eb] at R1 R2 ⊢
 rw [SrtN.uniq R1 pre.2.2.2.1,SrtN.uniq R2 pre.2.2.2.2]
 refine exI rfl ⟨rfl,_,rfl,wys rfl ((exI rfl (k H2 o a (s1.trans s2) (v.same s2) nw ed fr)))⟩
theorem wx5 (ns:List Int):PyData.eqv (.list (ns.map .int)) (.list (ns.map .int))=true:=by
 rw [PyData.eqv,qqx,aX rfl]
theorem wwp {ns:List Int}(h:SqL K H p (ns.map V.int)):RD K H (.list (ns.map .int)) (.ref p):=by
 rw [RD]
 exact ⟨p,exI rfl ⟨h,ww0 ns⟩⟩
theorem qyb (ns:List Int):(PyData.list (ns.map .int)).canLay0=true:=by
 rw [PyData.canLay0]
 exact qyf ns
theorem wjj (ns ms:List Int):min (PyData.list (ns.map .int)).depth (PyData.list (ms.map .int)).depth≤60:=by
 have h1:=qjr ns
 simp only [PyData.depth]
 lia
def whN (n:Str)(pt:Int×Int):PyData:=.tuple [.str n,ptD pt]
theorem wz9 {pt:Int×Int}(h:H q=some (.tup [.str n,.ref p]))(h2:H p=some (.tup [.int pt.1,.int pt.2])):RD K H (whN n pt) (.ref q):=by
 unfold whN
 rw [RD]
 refine ⟨q,exI rfl ⟨SqT.of h,?_⟩⟩
 rw [RDs]
 refine ⟨_,_,rfl,?_,?_⟩
 ·rw [RD]
 ·rw [RDs]
  exact ⟨_,_,rfl,wyu (SqT.of h2),by rw [RDs]⟩
theorem xqj (n:Str)(pt:Int×Int):PyData.eqv (whN n pt) (whN n pt)=true:=by
 unfold whN
 rw [PyData.eqv,PyData.eqvAll,PyData.eqvAll,PyData.eqvAll,wyn,aX rfl,PyData.eqv]
 simp
theorem wwg (h:PyData.strOk n=true)(pt:Int×Int):(whN n pt).canLay0=true:=by
 simp [whN,ptD,PyData.canLay0,PyData.canLayAll0,h]
theorem wu9 (n:Str)(pt:Int×Int):min (whN n pt).depth (whN n pt).depth≤60:=by
 simp [whN,ptD,PyData.depth,PyData.depthAll]
theorem Jx {A B:Prop}{d e:PyData}(h:PyData.eqv d e=true)(k:B):if (if true=true then !PyData.eqv d e else PyData.eqv d e)=true then A else B:=by
 rw [h]
 exact k
theorem qvn {x:Str}(h:zw x=true):PyData.strOk x=true:=by
 unfold zw at h
 have h2:=(bc _ _▸h:_∧_).2
 unfold PyData.strOk
 refine Array.all_eq_true.mpr λi hi=>?_
 have hs:=bF.mp h2 i (aS.mpr hi)
 have eg:x.cps.getD i 0=x.cps[i]:=by simp [Array.getD,hi]
 rw [eg] at hs
 unfold qqw at hs
 have:=wux (x:=Str.ofString "abcdefghijklmnopqrstuvwxyz") (n:=200) (by decide +kernel) (by simpa using hs)
 exact aX ⋯
def Off (o:Ho)(dr dw:Aj):Prop:=(o.dr≠dr∧o.dw≠dr∧o.dd≠dr)∧(o.dr≠dw∧o.dw≠dw∧o.dd≠dw)
structure BR (H:Hp)(dr dw:Aj)(R W:List (Key×V))(b:BA):Prop where
 r:Rd H dr (.dK R)
 w:Rd H dw (.dK W)
 ne:dr≠dw
 bp:BP H R W b
theorem B2.br (h:B2 H dr dw R W b):BR H dr dw R W b:=⟨.inl h.r,.inl h.w,h.ne,h.bp⟩
theorem BR.same (h:BR H dr dw R W b)(s:Same H H'):BR H' dr dw R W b:=⟨s.rd h.r,s.rd h.w,h.ne,h.bp.same s⟩
theorem BR.dl (h:BR H dr dw R W b):Dl H [dr,dw]:=.cons (.inl ⟨_,h.r⟩) (.cons (.inl ⟨_,h.w⟩) .nil)
theorem wq7 {d:Aj}{u:HO}{ch:List Aj}(h:Rd H d u)(k:Kb ch H H')(n:d∉ch):Rd H' d u:=by
 rcases h with h|⟨o,h⟩
 ·exact .inl (k _ _ n h)
 ·exact .inr ⟨o,k _ _ n h⟩
theorem BR.kb (h:BR H dr dw R W b){ch:List Aj}(dl:Dl H ch)(k:Kb ch H H')(n:dr∉ch∧dw∉ch):BR H' dr dw R W b:=⟨wq7 h.r k n.1,wq7 h.w k n.2,h.ne,h.bp.kb dl k⟩
theorem VH.fz {CR:Aj}{d:Aj}(v:VH C CR CW H o as)(e:Rd H d (.dK R))(n:o.dr≠d∧o.dw≠d∧o.dd≠d)(nq:d∉Q2 o.ds)(k:Kb [d] H H'):VH C CR CW H' o as:=by
 obtain ⟨dx,hx⟩:=v.h.hs.ob
 refine v.frame k (.cons (.inl ⟨_,e⟩) .nil) ⟨?_,by simpa using n.1,by simpa using n.2.1,by simpa using n.2.2⟩ λq hq hm=>?_
 ·intro z
  rw [ay.mp z] at hx
  rcases e with e|⟨o',e⟩ <;> rw [e] at hx <;> cases hx
 ·exact absurd (ay.mp hq▸hm) nq
theorem xqu {pt:Int×Int}:qw4 [([.inl pt.1,.inl pt.2],.int 1)] pt=.int 1:=by
 unfold qw4
 rw [zk rfl]
 rfl
theorem xqf {pt q:Int×Int}(h:q≠pt):qw4 [([.inl pt.1,.inl pt.2],.int 1)] q=.int 0:=by
 unfold qw4
 rw [x8 (λz=>h (by
  injection z with z1 z2
  injection z2 with z2 _
  injection z1 with z1
  injection z2 with z2
  exact Prod.ext z1.symm z2.symm))]
 rfl
def qqu (C CR CW:Aj):Sp:=λvs H Q _=>∃(o:Ho) (a:AH) (dr dw:Aj) (R W:List (Key×V)) (b:BA) (NM:List Str),vs=[.ref o.x,.ref dr,.ref dw]∧VH C CR CW H o [a]∧o.ds=[]∧Fresh a b∧BR H dr dw R W b∧Off o dr dw∧BOk NM b∧NM.length<60 ∧
 ∀H' o1 o2,H' dr=some (.frz o1 (.dK R))→H' dw=some (.frz o2 (.dK W))→Kb [dr,dw] H H'→Q (.bl true) H'
include T in
theorem wzs (F:Fun K "_law_right" "_law_right" zck f fd)(zco:MCal P w K mg base qq "deeds" 1 (Jy qq))(zcy:MCal P w K mg base qq "names" 1 (Y8 qq))(zcw:MCal P w K mg base qq "corners_of" 2 (yt qq qc wx))(zcx:MCal P w K mg base qq "where" 2 (Jb qq qw qy))(zcp:MCal P w K mg base qq "stood" 3 (Jq qq qw qy qz))(zh5:Cal P w K mg base "_law_whole" 1 qv3) :
  FK P w K mg base 4 f fd ["_law_house","_law_roads","_law_walkers"] (qqu qq qc qw):=by
 have sc:=qw9
 refine F.okX sc (λvs H Q E h=>by obtain ⟨_,_,_,_,_,_,_,_,rfl,_⟩:=h;rfl) λ_ _ _ s H vs Q E hr h=>?_
 obtain ⟨o,a,dr,dw,R,W,b,NM,rfl,v,ed,fr,hb,off,bo,lN,kk⟩:=h
 have eb:=fr.bk
 have nm:Nam NM a:=AOk.bk (by rw [eb];exact bo)
 have lens:=v.lens nm
 have lens2:=hb.bp.lens bo
 obtain ⟨dx,hx⟩:=v.h.hs.ob
 obtain ⟨ekR,ndR⟩:=v5 v.h.nR v.h.fR
 obtain ⟨ekW,ndW⟩:=v5 v.h.nW v.h.fW
 obtain ⟨ekR2,ndR2⟩:=v5 hb.bp.nR hb.bp.fR
 obtain ⟨ekW2,ndW2⟩:=v5 hb.bp.nW hb.bp.fW
 have ld:(y0 o.ds).length=0:=by rw [ed];rfl
 refine ⟨_,(qj (xg (PW.pt (yp (ug (u6 (wp qkq rfl T.isinstance_ cQ (xj (pv 0) (xj (yk (v:=V.ref qq) rfl T.zge rfl) qk))))) (yp (ug (u6 (wCA zh5 (vc (zn (pv 0) T.clH zco (hr.mono ⋯) qf) qk)))) (yd (wm Jf (zn (pv 0) T.clH zco (hr.mono ⋯) qf) qr (wt _)))))) (qh (w9 yn)) xx)
   (qj (xg (wm (qkv hr.units) (zn (pv 0) T.clH zcy (hr.mono ⋯) qf) (vw (vc (wp (jw) rfl T.sorted_ bz (vc (zu (yg rfl) rfl T.list_ bx (q9 (pv 1) qk)) qk)) (vc (wp (jw) rfl T.sorted_ bz (vc (zu (yg rfl) rfl T.list_ bx (q9 (pv 2) qk)) qk)) qk))) (wt _)) (qh (w9 yn)) xx)
   (qj (vf aE rfl (wwv (pv 1)) (xq (i:=3)) (qh (xg (wm (qkv hr.units) (xm (pv 0) T.clH zcw (hr.mono ⋯) qf (q9 (pv 3) qk)) (jv (vq hr) (pv 1) (pv 3) (λ_ _=>rfl)) (wt _)) (qh (w9 yn)) xx)))
   (qj (vf aE rfl (wwv (pv 2)) (xq (i:=3)) (qj (js (jv (vq hr) (pv 2) (pv 3) (λ_ _=>rfl)) (k9 rfl (xv (xq (i:=4)) (xv (xq (i:=5)) (xv (xq (i:=6)) zr)))))
   (qj (xg (wm (qkv hr.units) (xm (pv 0) T.clH zcx (hr.mono ⋯) qf (q9 (pv 3) qk)) (vw (q9 (pv 4) (qx9 (vw (q9 (pv 5) (q9 (pv 6) qk))) qk))) (wt _)) (qh (w9 yn)) xx)
   (qh (xg (PW.pt (yp (wm Jf (xm (pv 0) T.clH zcp (hr.mono ⋯) qf (q9 (pv 3) (qx9 (vw (q9 (pv 5) (q9 (pv 6) qk))) qk))) qr (wt _)) (yd (wm Jf (xm (pv 0) T.clH zcp (hr.mono ⋯) qf (q9 (pv 3) (qx9 (vw (zx (wb xz (pv 5) qr) (q9 (pv 6) qk))) qk))) qr (wt _))))) (qh (w9 yn)) xx)))))
   (qh (w9 yn)))))),?_⟩
 refine exI rfl ⟨_,_,rfl,TyOf.ins hx T.clH T.io.1 T.io.2.1 T.io.2.2.1 T.io.2.2.2,_,rfl,yb ?_⟩
 refine exI rfl ⟨o.x,dx,exI rfl ⟨hx,xu,o.x,o.dr,o.dw,o.dd,o.R,o.W,exI rfl ⟨v.h.hs,exI rfl (exI rfl (yb ?_))⟩⟩⟩
 refine exI rfl ⟨o.x,dx,exI rfl ⟨hx,xu,o.x,o.dr,o.dw,o.dd,o.R,o.W,exI rfl ⟨v.h.hs,rfl,_,rfl,qkg (λz=>absurd (by rw [ld];rfl) z) (λ_=>?_)⟩⟩⟩
 refine exI rfl ⟨o.x,dx,exI rfl ⟨hx,xu,o.x,o.dr,o.dw,o.dd,o.R,o.W,_,_,_,rfl,v.h.hs,ekR,⋯,ekW,⋯,λq l1 l2 ms1 ms2 H1 s1 pm1 sr1 pm2 sr2 f1 f2 fq=>?_⟩⟩
 have m1:∀s,s∈ms1↔(b.rs s).isSome=true:=λs=>by
  rw [pm1.mem_iff,jq v.h.nR v.h.fR,←fr.1 s]
  have:=v.rep.r s
  cases e:a.rs s with
  |none=>rw [e] at this;rw [show wf o.R (.inr s)=none from this];exact ⟨(λz=>nomatch z),(λz=>nomatch z)⟩
  |some hs=>rw [e] at this;obtain ⟨r,e1,_⟩:=this;rw [e1];exact ⟨λ_=>rfl,λ_=>rfl⟩
 have m2:∀s,s∈ms2↔(b.ws s).isSome=true:=λs=>by
  rw [pm2.mem_iff,jq v.h.nW v.h.fW]
  have:=v.rep.w s
  have e2:=fr.2 s
  cases e:b.ws s with
  |none=>rw [e2,e] at this;rw [show wf o.W (.inr s)=none from this];exact ⟨(λz=>nomatch z),(λz=>nomatch z)⟩
  |some w=>rw [e2,e] at this;obtain ⟨r,_,_,e1,_⟩:=this;rw [e1];exact ⟨λ_=>rfl,λ_=>rfl⟩
 have hb1:=hb.same s1
 refine exI rfl ⟨dr,R,R.map jn,rfl,hb1.r,ekR2,λp1 n1=>?_⟩
 have s2:=Same.upd (H:=H1) (o:=.lst ((R.map jn).map V.str)) n1
 have g1:upd H1 p1 (.lst ((R.map jn).map V.str)) p1=some (.lst ((R.map jn).map V.str)):=qb
 generalize upd H1 p1 (.lst ((R.map jn).map V.str))=H2 at s2 g1
 refine ⟨p1,R.map jn,rfl,SqL.of g1,by rw [aa];lia,λl3 ms3 nl3 pm3 sr3=>?_⟩
 have s3:=Same.upd (H:=H2) (o:=.lst (ms3.map V.str)) nl3
 have g3:upd H2 l3 (.lst (ms3.map V.str)) l3=some (.lst (ms3.map V.str)):=qb
 generalize upd H2 l3 (.lst (ms3.map V.str))=H3 at s3 g3
 have hb3:=hb1.same (s2.trans s3)
 refine exI rfl ⟨dw,W,W.map jn,rfl,hb3.w,ekW2,λp2 n2=>?_⟩
 have s4:=Same.upd (H:=H3) (o:=.lst ((W.map jn).map V.str)) n2
 have g2:upd H3 p2 (.lst ((W.map jn).map V.str)) p2=some (.lst ((W.map jn).map V.str)):=qb
 generalize upd H3 p2 (.lst ((W.map jn).map V.str))=H4 at s4 g2
 refine ⟨p2,W.map jn,rfl,SqL.of g2,by rw [aa];lia,λl4 ms4 nl4 pm4 sr4=>?_⟩
 have s5:=Same.upd (H:=H4) (o:=.lst (ms4.map V.str)) nl4
 have g4:upd H4 l4 (.lst (ms4.map V.str)) l4=some (.lst (ms4.map V.str)):=qb
 generalize upd H4 l4 (.lst (ms4.map V.str))=H5 at s5 g4
 have e3:ms3=ms1:=W1 (pm3.nodup_iff.mpr ndR2) (pm1.nodup_iff.mpr ndR) (λs=>by rw [pm3.mem_iff,jq hb.bp.nR hb.bp.fR,hb.bp.in_r,m1]) sr3 sr1
 have e4:ms4=ms2:=W1 (pm4.nodup_iff.mpr ndW2) (pm2.nodup_iff.mpr ndW) (λs=>by rw [pm4.mem_iff,jq hb.bp.nW hb.bp.fW,hb.bp.in_w,m2]) sr4 sr2
 subst e3 e4
 refine ⟨sz2,λqt nqt=>?_⟩
 have s6:=Same.upd (H:=H5) (o:=.tup [.ref l3,.ref l4]) nqt
 have g6:upd H5 qt (.tup [.ref l3,.ref l4]) qt=some (.tup [.ref l3,.ref l4]):=qb
 generalize upd H5 qt (.tup [.ref l3,.ref l4])=H6 at s6 g6
 have s16:=(((s2.trans s3).trans s4).trans s5).trans s6
 have so1:∀m∈ms3,PyData.strOk m=true:=λm hm=>by
  obtain ⟨hs,e⟩:=av.mp ((m1 m).mp hm)
  exact qvn (bo.lo m hs e).2.1
 have so2:∀m∈ms4,PyData.strOk m=true:=λm hm=>by
  obtain ⟨u,e⟩:=av.mp ((m2 m).mp hm)
  exact qvn (bo.wo m u e).1
 refine ⟨_,_,wxz (s16 _ _ fq) (s16 _ _ f1) (s16 _ _ f2),wxz g6 (((s4.trans s5).trans s6) _ _ g3) (s6 _ _ g4),qj3 so1 so2,qj3 so1 so2,wjy _ _ _,_,rfl,Jx (wyh _ _) ?_⟩
 have sA:=s1.trans s16
 have vA:=v.same sA
 have hbA:=hb.same sA
 clear s2 s3 s4 s5 s6 s16 g1 g2 g3 g4 g6 f1 f2 fq hb1 hb3 n1 n2 nl3 nl4 nqt s1
 refine exI rfl ⟨dr,R,rfl,hbA.r,λo1 H7 fz7=>?_⟩
 have kb7:Kb [dr] H6 H7:=λx u nx e=>by rw [fz7.2 x (by simpa using nx)];exact e
 have dl7:Dl H6 [dr]:=.cons (.inl ⟨_,hbA.r⟩) .nil
 have nq:∀d,d∉Q2 o.ds:=λd=>by rw [ed];exact aj
 have v7:=vA.fz hbA.r off.1 (nq _) kb7
 have w7:Rd H7 dw (.dK W):=wq7 hbA.w kb7 (by simpa using aY hb.ne)
 have bp7:=hbA.bp.kb dl7 kb7
 refine wqg (λi σ Hx=>Same H7 Hx∧∃z,σ=[some (.ref o.x),some (.ref dr),some (.ref dw),z,none,none,none]) ⟨Same.refl _,_,rfl⟩ (λi σ Hx _ h=>h.1 _ _ fz7.1) ?_ ?_
 ·rintro i c σ Hx ec ⟨sx,z,rfl⟩
  have ev:=jk bp7.nR (ba ec)
  obtain ⟨n,_,es,_⟩:=bp7.fR _ _ ev
  obtain ⟨hs,er⟩:∃hs,b.rs n=some hs:=by
   cases e:b.rs n with
   |none=>rw [es,bp7.noR e] at ev;cases ev
   |some hs=>exact ⟨hs,rfl⟩
  obtain ⟨lo,p,e1,fp⟩:=bp7.row er
  have vx:=v7.same sx
  obtain ⟨dx2,hx2⟩:=vx.h.hs.ob
  obtain ⟨r,er2,ra⟩:=vx.rep.road (show a.rs n=some hs by rw [fr.1];exact er)
  rw [es]
  refine ⟨_,rfl,o.x,dx2,_,rfl,hx2,xu,_,rfl,o.x,o.dr,o.dw,o.dd,o.R,o.W,_,n,rfl,vx.h.hs,λu eu=>?_,(λz=>by rw [er2] at z;cases z)⟩
  rw [er2] at eu
  cases eu
  refine ⟨r,hs,rfl,ra,λp1 n1=>?_⟩
  have s2:=Same.upd (H:=Hx) (o:=.lst (hs.map V.int)) n1
  have g1:upd Hx p1 (.lst (hs.map V.int)) p1=some (.lst (hs.map V.int)):=qb
  generalize upd Hx p1 (.lst (hs.map V.int))=Hy at s2 g1
  have sw:=sx.trans s2
  have dg:DGet Hy dr (.str n) (wf R (.inr n)):=.inl ⟨R,.inr n,.inr ⟨o1,sw _ _ fz7.1⟩,rfl,rfl⟩
  rw [e1] at dg
  exact exI rfl (exI rfl ⟨dr,exI rfl ⟨dg,_,_,wwp (SqL.of g1),wwp (SqL.of (sw _ _ fp)),qyb _,qyb _,wjj _ _,_,rfl,Jx (wx5 hs) ⟨sw,_,rfl⟩⟩⟩)
 ·rintro σ H8 ⟨s8,z,rfl⟩
  have v8:=v7.same s8
  have w8:=s8.rd w7
  have bp8:=bp7.same s8
  refine exI rfl ⟨dw,W,rfl,w8,λo2 H9 fz9=>?_⟩
  have kb9:Kb [dw] H8 H9:=λx u nx e=>by rw [fz9.2 x (by simpa using nx)];exact e
  have v9:=v8.fz w8 off.2 (nq _) kb9
  have bp9:=bp8.kb (.cons (.inl ⟨_,w8⟩) .nil) kb9
  have r9:H9 dr=some (.frz o1 (.dK R)):=kb9 _ _ (by simpa using hb.ne) (s8 _ _ fz7.1)
  refine wqg (λi σ Hx=>Same H9 Hx∧∃z1 z2 z3 z4,σ=[some (.ref o.x),some (.ref dr),some (.ref dw),z1,z2,z3,z4]) ⟨Same.refl _,_,_,_,_,rfl⟩ (λi σ Hx _ h=>h.1 _ _ fz9.1) ?_ ?_
  ·rintro i c σ Hx ec ⟨sx,z1,z2,z3,z4,rfl⟩
   have ev:=jk bp9.nW (ba ec)
   obtain ⟨n,_,es,_⟩:=bp9.fW _ _ ev
   obtain ⟨u0,eu0⟩:∃u,b.ws n=some u:=by
    cases e:b.ws n with
    |none=>rw [es,bp9.noW e] at ev;cases ev
    |some u=>exact ⟨u,rfl⟩
   obtain ⟨p,e1,fp⟩:=bp9.wlk eu0
   have ew0:a.ws n=some (y9 u0):=by rw [fr.2,eu0];rfl
   obtain ⟨nn,_,ks,erk,hp⟩:=bo.wo n _ eu0
   have rg:=hp.rng
   have so:=qvn (bo.lo _ ks erk).2.1
   rw [es]
   have dg:DGet Hx dw (.str n) (wf W (.inr n)):=.inl ⟨W,.inr n,.inr ⟨o2,sx _ _ fz9.1⟩,rfl,rfl⟩
   rw [e1] at dg
   refine exI rfl (exI rfl ⟨dw,exI rfl ⟨dg,p,exI rfl ⟨SqT.of (sx _ _ fp),rfl,_,_,rfl,_,_,rfl,_,_,rfl,rfl,?_⟩⟩⟩)
   have vx:=v9.same sx
   obtain ⟨dx2,hx2⟩:=vx.h.hs.ob
   obtain ⟨y,py,ty,ey,wk⟩:=vx.rep.wk ew0
   refine exI rfl ⟨o.x,dx2,exI rfl ⟨hx2,xu,exI rfl ⟨o.x,o.dr,o.dw,o.dd,o.R,o.W,_,n,rfl,vx.h.hs,(λz=>by rw [ey] at z;cases z),λu eu=>?_⟩⟩⟩
   rw [ey] at eu
   cases eu
   refine ⟨y,_,py,_,ty,exI rfl ⟨wk,λq1 n1=>?_⟩⟩
   have s2:=Same.upd (H:=Hx) (o:=.tup [.str u0.1,.ref py]) n1
   have g1:upd Hx q1 (.tup [.str u0.1,.ref py]) q1=some (.tup [.str u0.1,.ref py]):=qb
   have gp:upd Hx q1 (.tup [.str u0.1,.ref py]) py=some (.tup [.int u0.2.1,.int u0.2.2]):=s2 _ _ wk.pt
   generalize eHy:upd Hx q1 (.tup [.str u0.1,.ref py])=Hy at s2 g1 gp
   refine (show _ from eHy▸?_)
   have elow:wn u0.2.1 u0.2.2=u0.2:=Zw rg.2.2.1 hp.2.1.2.2.1
   refine exI rfl (exI rfl (exI rfl ⟨sz2,λp1 n2=>⟨sz2,λp2 n3=>?_⟩⟩))
   have s3:=Same.upd (o:=.tup [.int u0.2.1,.int u0.2.2]) n2
   have s4:=Same.upd (o:=.tup [.str u0.1,.ref p1]) n3
   refine ⟨_,_,wz9 ((s3.trans s4) _ _ g1) ((s3.trans s4) _ _ gp),wz9 qb (s4 _ _ qb),wwg so _,wwg so _,wu9 _ _,_,rfl,Jx (xqj _ _) ?_⟩
   have s5:=(sx.trans s2).trans (s3.trans s4)
   generalize upd (upd Hy p1 (.tup [.int u0.2.1,.int u0.2.2])) p2 (.tup [.str u0.1,.ref p1])=Hz at s5
   have vz:=v9.same s5
   obtain ⟨dx3,hx3⟩:=vz.h.hs.ob
   refine exI rfl ⟨o.x,dx3,exI rfl ⟨hx3,xu,exI rfl (exI rfl (exI rfl ⟨sz2,λp3 n4=>?_⟩))⟩⟩
   have s6:=s5.trans (Same.upd (o:=.tup [.int u0.2.1,.int u0.2.2]) n4)
   have v6:=v9.same s6
   obtain ⟨y6,py6,ty6,ey6,wk6⟩:=v6.rep.wk ew0
   refine ⟨o.x,o.dr,o.dw,o.dd,p3,o.R,o.W,_,n,_,_,rfl,v6.h.hs,qb,(λz=>by rw [ey6] at z;cases z),λu eu=>?_⟩
   rw [ey6] at eu
   cases eu
   refine ⟨y6,_,py6,_,ty6,exI rfl ⟨wk6,(λz=>absurd z ⋯),λ_=>⟨Sm.small ⋯ ⋯ ⋯,λH10 s10=>?_⟩⟩⟩
   rw [elow,show qw4 (y9 u0).tv u0.2=.int 1 from xqu]
   refine ⟨rfl,_,rfl,qkg (λz=>absurd rfl z) λ_=>?_⟩
   have s11:=s6.trans s10
   have v11:=v9.same s11
   obtain ⟨dx4,hx4⟩:=v11.h.hs.ob
   refine exI rfl ⟨o.x,dx4,exI rfl ⟨hx4,xu,exI rfl (exI rfl (wg rfl rfl (exI rfl ⟨sz2,λp4 n5=>?_⟩)))⟩⟩
   have s12:=s11.trans (Same.upd (o:=.tup [.int (u0.2.1+1),.int u0.2.2]) n5)
   have v12:=v9.same s12
   obtain ⟨y7,py7,ty7,ey7,wk7⟩:=v12.rep.wk ew0
   refine ⟨o.x,o.dr,o.dw,o.dd,p4,o.R,o.W,_,n,_,_,rfl,v12.h.hs,qb,(λz=>by rw [ey7] at z;cases z),λu eu=>?_⟩
   rw [ey7] at eu
   cases eu
   refine ⟨y7,_,py7,_,ty7,exI rfl ⟨wk7,(λz=>absurd z ⋯),λ_=>⟨Sm.small ⋯ ⋯ ⋯,λH13 s13=>?_⟩⟩⟩
   rw [show qw4 (y9 u0).tv (wn (u0.2.1+1) u0.2.2)=.int 0 from xqf λz=>by
    have:=wxy rg.2.2.1 (z.trans elow.symm)
    lia]
   exact ⟨rfl,_,rfl,qkg (λz=>absurd rfl z) λ_=>⟨s12.trans s13,_,_,_,_,rfl⟩⟩
  ·rintro σ Hx ⟨sx,z1,z2,z3,z4,rfl⟩
   refine kk Hx o1 o2 (sx _ _ r9) (sx _ _ fz9.1) λx u nx e=>?_
   simp only [ag,aj,bd,not_or] at nx
   exact sx _ _ (kb9 _ _ (by simpa using nx.2) (s8 _ _ (kb7 _ _ (by simpa using nx.1) (sA _ _ e))))
def Z8 (C CR CW:Aj):Sp:=λvs H Q _=>∃(o:Ho) (a:AH) (NM:List Str),vs=[.ref o.x]∧VH C CR CW H o [a]∧o.ds=[]∧Nam NM a∧NM.length<60∧∀H',Same H H'→Q (.bl true) H'
include T in
theorem wqr (F:Fun K "_law_nothing" "_law_nothing" zcl f fd)(zc2:MCal P w K mg base qq "take_back" 2 (Z5 qq qx)):FK P w K mg base 3 f fd ["_law_house"] (Z8 qq qc qw):=by
 have sc:=Yp
 refine F.okX sc (λvs H Q E h=>by obtain ⟨_,_,_,rfl,_⟩:=h;rfl) λ_ _ _ _ H vs Q E hr h=>?_
 obtain ⟨o,a,NM,rfl,v,ed,nm,lN,k⟩:=h
 obtain ⟨dx,hx⟩:=v.h.hs.ob
 have lens:=v.lens nm
 have e0:y0 o.ds=[]:=by rw [ed];rfl
 refine ⟨_,(qj (w4 (i:=1) yn)
   (qj (wvt rfl rfl rfl T.zgd (λpn xe E hE hO=>(qh (zb (zn (pv 0) T.clH zc2 (hr.mono ⋯) hE)))) (λe=>(qh (w4 (i:=1) yn))))
   (qh (w9 (pv 1))))),?_⟩
 refine ⟨_,rfl,o.x,dx,_,rfl,hx,xu,o.x,o.dr,o.dw,o.dd,o.R,o.W,_,rfl,v.h.hs,⋯,⋯,λ_=>?_,?_⟩
 ·exact ⟨qx,rfl,qug T.zam,_,rfl,k _ (Same.refl _)⟩
 ·intro D' w e
  rw [e0] at e
  exact absurd (bB List.length e) (by simp)
theorem stN_a {n f:Nat}(h:m<f):stN n u m f=0:=ak h
theorem stN_b {n f:Nat}(h:f≤m)(h2:f<u):stN n u m f=1-(if f=0 then 1 else 0):=by
 unfold stN
 rw [af ⋯,ak h2]
theorem stN_c {n f:Nat}(h:f≤m)(h2:u≤f):stN n u m f=(m-f)/(n-u)+1-(if f=0 then 1 else 0):=by
 unfold stN
 rw [af ⋯,af ⋯]
theorem getR {g:Nat→Int}{n k:Nat}(hk:k<n):(((List.range n).map g).map V.int)[k]?=some (.int (g k)):=by
 rw [aB,aB,ce hk]
 rfl
def qwp (L f:Nat):Nat:=if f=0 then L else f
def qqd (L m f:Nat):Nat:=if m<qwp L f then 0 else (m-qwp L f)/L+1
def f1N (u m f j:Nat):Nat:=if 1≤f∧f<1+j∧f<u∧f≤m then 1 else 0
def f2N (n u m f j:Nat):Nat:=f1N u m f (n-1)+if u≤f∧f<u+j then qqd (n-u) m f else 0
theorem wxr {f:Nat}:f1N u m f 0=0:=af λz=>by lia
theorem wz4 {n f:Nat}:f2N n u m f 0=f1N u m f (n-1):=by
 unfold f2N
 rw [af (λz=>by lia)]
 rfl
theorem f1_hit {f:Nat}(h:1+j=f)(h2:f<u)(h3:f≤m):f1N u m f (j+1)=f1N u m f j+1:=by
 unfold f1N
 rw [ak ⟨⋯,⋯,h2,h3⟩,af (λz=>by lia)]
theorem qk3 {f:Nat}(h:¬ (1+j=f∧f<u∧f≤m)):f1N u m f (j+1)=f1N u m f j:=by
 unfold f1N
 by_cases c:1≤f∧f<1+j∧f<u∧f≤m
 ·rw [ak c,ak ⟨c.1,⋯,c.2.2⟩]
 ·rw [af c,af λz=>by
   by_cases y:1+j=f
   ·exact h ⟨y,z.2.2⟩
   ·exact c ⟨z.1,⋯,z.2.2⟩]
theorem f2_hit {n f:Nat}(h:u+j=f):f2N n u m f (j+1)=f2N n u m f j+qqd (n-u) m f:=by
 unfold f2N
 rw [ak (show u≤f∧f<u+(j+1) by lia),af (show ¬ (u≤f∧f<u+j) by lia)]
 rfl
theorem xqh {n f:Nat}(h:u+j≠f):f2N n u m f (j+1)=f2N n u m f j:=by
 unfold f2N
 by_cases c:u≤f∧f<u+j
 ·rw [ak c,ak ⟨c.1,⋯⟩]
 ·rw [af c,af λz=>c ⟨z.1,⋯⟩]
theorem f2_end {n f:Nat}(hu:u<n):f2N n u m f (n-u)=if f<n then stN n u m f else 0:=by
 unfold f2N f1N
 by_cases a:f<n
 ·rw [ak a]
  by_cases b:f<u
  ·rw [af (show ¬ (u≤f∧f<u+(n-u)) by lia)]
   by_cases c:f≤m
   ·rw [stN_b c b]
    by_cases d:f=0
    ·rw [af ⋯,ak d]
    ·rw [ak ⟨⋯,⋯,b,c⟩,af d]
   ·rw [stN_a ⋯,af λz=>c z.2.2.2]
  ·rw [af λz=>b z.2.2.1,ak ⋯,Nat.zero_add]
   unfold qqd qwp
   have hL:0<n-u:=by lia
   by_cases d:f=0
   ·rw [ak d,stN_c ⋯ ⋯,ak d]
    subst d
    have u0:u=0:=by lia
    subst u0
    by_cases c:m<n-0
    ·rw [ak c,Nat.sub_zero m,Nat.div_eq_of_lt c]
    ·have:=Nat.sub_mul_div m (n-0) 1
     have e:(m-(n-0))/(n-0)=m/(n-0)-1:=by
      rw [←Nat.mul_one (n-0)] at this
      simpa using Nat.sub_mul_div m n 1
     have ge:1≤m/(n-0):=(Nat.le_div_iff_mul_le hL).mpr ⋯
     rw [af c,e,Nat.sub_zero m]
     generalize m/(n-0)=D at ge
     lia
   ·rw [af d]
    by_cases c:m<f
    ·rw [ak c,stN_a c]
    ·rw [af c,stN_c ⋯ ⋯,af d]
     rfl
 ·rw [af a,af (λz=>by lia),af (λz=>by lia)]
theorem qjw {f t:Nat}{m:Int}(e:qwp L f=t)(h:(t:Int)≤m):((qqd L m.toNat f:Nat):Int)=(m-t)/(L:Int)+1:=by
 unfold qqd
 rw [e,af ⋯,qj5 h]
 rfl
theorem wwc {f t:Nat}{m:Int}(e:qwp L f=t)(h:m.toNat<t):qqd L m.toNat f=0:=by
 unfold qqd
 rw [e,ak h]
def qws:Sp:=λvs H Q _=>∃(l:Aj) (g:Nat→Int) (n u f:Nat) (m x:Int),vs=[.ref l,.int u,.int m,.int x]∧H l=some (.lst (((List.range n).map g).map V.int))∧u<n∧n≤300000∧0≤m∧(∀k,k<n→(g k=x↔k=f))∧Q (.int ((if f<n then stN n u m.toNat f else 0:Nat):Int)) H
include T in
theorem wz2 (F:Fun K "_law_count" "_law_count" zcj f fd):FK P w K mg base 1 f fd ["_law_tops","_law_start","_law_many","_law_top"] qws:=by
 have sc:=qw8
 refine F.okX sc (λvs H Q E h=>by obtain ⟨_,_,_,_,_,_,_,rfl,_⟩:=h;rfl) λ_ _ _ _ H vs Q E hr h=>?_
 obtain ⟨l,g,n,u,f,m,x,rfl,fl,hu,hn,m0,hx,k⟩:=h
 have hlen:(((List.range n).map g).map V.int).length=n:=by rw [aa,aa,aN]
 refine ⟨_,(qj (w4 (i:=4) qr)
   (qj (vf aE rfl (wz3 rfl T.range_ (xb qr (vc (wp xk rfl T.len_ aI (q9 (pv 0) qk)) qk))) (xq (i:=5)) (qh (xg (PW.pt (Yu (wm yh (pv 5) (pv 1) (wt _)) (Yu (wm op_le (pv 5) (pv 2) (wt _)) (Wn (wm vg (zd x4 (pv 0) (pv 5) (λ_ _=>rfl)) (pv 3) (wt _)))))) (qh (wkw (i:=4) sc.nd rfl (Or.inl rfl) qr wvx)) xx)))
   (qj (w4 (i:=6) (wb zt (wp xk rfl T.len_ aI (q9 (pv 0) qk)) (pv 1)))
   (qj (vf aE rfl (zh rfl T.range_ (q9 (pv 6) qk)) (xq (i:=5)) (qh (xg (wm vg (zd x4 (pv 0) (wb xz (pv 1) (pv 5)) (λ_ _=>rfl)) (pv 3) (wt _)) (qj (w4 (i:=7) (wb xz (pv 1) (pv 5)))
   (qj (xg (wm vg (pv 7) qr (wt _)) (qh (w4 (i:=7) (pv 6))) xx)
   (qh (xg (wm wq8 (pv 2) (pv 7) (wt _)) (qh (wkw (i:=4) sc.nd rfl (Or.inl rfl) (wb xz (wb ju (wb zt (pv 2) (pv 7)) (pv 6)) qr) wvx)) xx)))) xx)))
   (qh (w9 (pv 4))))))),?_⟩
 refine exI rfl ⟨_,_,rfl,.inl (SqL.of fl),1,_,rfl,?_⟩
 rw [hlen]
 refine ⟨⟨⋯,⋯,⋯,⋯⟩,kf (λj σ H1=>H1=H∧∃z,σ=[some (.ref l),some (.int u),some (.int m),some (.int x),some (.int (f1N u m.toNat f j:Nat)),z,none,none]) ⟨rfl,none,?_⟩ ?_ ?_⟩
 ·rw [wxr]
  rfl
 ·rintro j σ H1 hj ⟨rfl,z,rfl⟩
  refine exI rfl (exI rfl (wg rfl rfl (exI rfl (vb (λy1=>?_) (λy1=>?_)))))
  ·refine exI rfl (exI rfl (wg rfl rfl (exI rfl (vb (λy2=>?_) (λy2=>?_)))))
   ·have at1:atI (((List.range n).map g).map V.int) ((1:Int)+j)=some (.int (g (1+j))):=by
     rw [show (1:Int)+j=((1+j:Nat):Int) by lia]
     exact j3 (getR ⋯)
    refine exI rfl (exI rfl (exX rfl rfl (SqL.of fl) at1 (exI rfl ⟨rfl,_,rfl,jc (λy3=>?_) (λy3=>?_)⟩)))
    ·have:=(hx _ ⋯).mp y3
     rw [f1_hit this ⋯ ⋯]
     exact exI rfl (wg rfl rfl ⟨rfl,_,rfl⟩)
    ·refine ⟨rfl,some (.int ((1:Int)+j)),?_⟩
     rw [qk3 λq=>y3 ((hx _ ⋯).mpr q.1)]
     rfl
   ·refine yb ⟨rfl,some (.int ((1:Int)+j)),?_⟩
    rw [qk3 ⋯]
    rfl
  ·refine yb ⟨rfl,some (.int ((1:Int)+j)),?_⟩
   rw [qk3 ⋯]
   rfl
 ·rintro σ H1 ⟨rfl,z,rfl⟩
  rw [show ((n:Int)-1).toNat=n-1 by lia]
  refine exI rfl ⟨_,_,rfl,.inl (SqL.of fl),exI rfl (wg rfl rfl ?_)⟩
  rw [hlen]
  have eL:(n:Int)-u=((n-u:Nat):Int):=by lia
  simp only [eL]
  refine ⟨_,rfl,_,rfl,⋯,⋯,kf (λj σ H2=>H2=H1∧∃z z2,σ=[some (.ref l),some (.int u),some (.int m),some (.int x),some (.int (f2N n u m.toNat f j:Nat)),z,some (.int ((n-u:Nat):Int)),z2]) ⟨rfl,z,none,?_⟩ ?_ ?_⟩
  ·rw [wz4]
   rfl
  ·rintro j σ H2 hj ⟨rfl,z,z2,rfl⟩
   have at1:atI (((List.range n).map g).map V.int) ((u:Int)+((0:Int)+j))=some (.int (g (u+j))):=by
    rw [show (u:Int)+(0+j)=((u+j:Nat):Int) by lia]
    exact j3 (getR ⋯)
   refine exI rfl (exI rfl (exI rfl (wg rfl rfl (exX rfl rfl (SqL.of fl) at1 (exI rfl ⟨rfl,_,rfl,jc (λy3=>?_) (λy3=>?_)⟩)))))
   ·have hf:=(hx _ ⋯).mp y3
    rw [f2_hit hf]
    refine exI rfl (exI rfl (wg rfl rfl ?_))
    have eF:(u:Int)+(0+(j:Int))=(f:Int):=by lia
    simp only [eF]
    have sL:Sm 9000 ((n-u:Nat):Int):=(Sm.small (n:=65) ⋯ ⋯ ⋯).mono ⋯
    refine exI rfl ⟨rfl,_,rfl,jc (λy4=>?_) (λy4=>?_)⟩
    ·have tf:qwp (n-u) f=n-u:=ak ⋯
     refine exI rfl (exI rfl (exI rfl (wg rfl rfl (exI rfl (vb (λy5=>?_) (λy5=>?_))))))
     ·refine exI rfl (exI rfl (exI rfl (wg rfl rfl (exI rfl (wg rfl rfl ⟨⟨⋯,sL⟩,wg rfl rfl (wg rfl rfl ⟨rfl,some (.int ((0:Int)+j)),some (.int ((n-u:Nat):Int)),?_⟩)⟩)))))
      rw [←qjw tf y5]
      rfl
     ·refine ⟨rfl,some (.int ((0:Int)+j)),some (.int ((n-u:Nat):Int)),?_⟩
      rw [wwc tf ⋯]
      rfl
    ·have tf:qwp (n-u) f=f:=af ⋯
     refine exI rfl (exI rfl (wg rfl rfl (exI rfl (vb (λy5=>?_) (λy5=>?_)))))
     ·refine exI rfl (exI rfl (exI rfl (wg rfl rfl (exI rfl (wg rfl rfl ⟨⟨⋯,sL⟩,wg rfl rfl (wg rfl rfl ⟨rfl,some (.int ((0:Int)+j)),some (.int (f:Int)),?_⟩)⟩)))))
      rw [←qjw tf y5]
      rfl
     ·refine ⟨rfl,some (.int ((0:Int)+j)),some (.int (f:Int)),?_⟩
      rw [wwc tf ⋯]
      rfl
   ·refine ⟨rfl,some (.int ((0:Int)+j)),z2,?_⟩
    rw [xqh λq=>y3 ((hx _ ⋯).mpr q)]
    rfl
  ·rintro σ H2 ⟨rfl,z,z2,rfl⟩
   refine exI rfl ?_
   rw [cW,f2_end hu]
   exact k
theorem wyw {α:Type}{g:Nat→α}{n n' u':Nat}(d:Dist g n)(hu:u<n)(e:g n=g u)(d':Dist g n')(hu':u'<n')(e':g n'=g u'):n=n'∧u=u':=by
 have en:n=n':=by
  rcases fc n n' with z|z|z
  ·exact absurd e.symm (d' u n hu z)
  ·exact z
  ·exact absurd e'.symm (d u' n' hu' z)
 subst en
 refine ⟨rfl,?_⟩
 rcases fc u u' with z|z|z
 ·exact absurd (e.symm.trans e') (d u u' z hu')
 ·exact z
 ·exact absurd (e'.symm.trans e) (d u' u z hu)
def EntC (hs:List Int)(t b:Int)(m:Nat)(T c:Int):Prop:=∃n u f,Dist (trT hs t b) n∧u<n∧trT hs t b n=trT hs t b u∧(∀k,k<n→(trT hs t b k=T↔k=f))∧c=((if f<n then stN n u m f else 0:Nat):Int)
theorem EntC.uniq {t b:Int}{T c':Int}(h:EntC hs t b m T c)(h':EntC hs t b m T c'):c=c':=by
 obtain ⟨n,u,f,d,hu,e,hf,rfl⟩:=h
 obtain ⟨n',u',f',d',hu',e',hf',rfl⟩:=h'
 obtain ⟨rfl,rfl⟩:=wyw d hu e d' hu' e'
 by_cases z:f<n
 ·have:=(hf' f z).mp ((hf f z).mpr rfl)
  subst this
  rfl
 ·by_cases y:f'<n
  ·have:=(hf f' y).mp ((hf' f' y).mpr rfl)
   lia
  ·rw [af z,af y]
noncomputable def hitC (hs:List Int) (t b:Int) (m:Nat) (T:Int):Int:=Classical.epsilon (EntC hs t b m T)
theorem EntC.eq {t b:Int}{T:Int}(h:EntC hs t b m T c):hitC hs t b m T=c:=(Classical.epsilon_spec (p:=EntC hs t b m T) ⟨c,h⟩).uniq h
theorem ww4 {g:Nat→Int}{n:Nat}(d:Dist g n)(T:Int):∃f,∀k,k<n→(g k=T↔k=f):=by
 by_cases z:∃f,f<n∧g f=T
 ·obtain ⟨f,hf,e⟩:=z
  refine ⟨f,λk hk=>⟨λek=>?_,λek=>by rw [ek];exact e⟩⟩
  rcases fc k f with y|y|y
  ·exact absurd (ek.trans e.symm) (d k f y hf)
  ·exact y
  ·exact absurd (e.trans ek.symm) (d f k y hk)
 ·exact ⟨n,λk hk=>⟨λek=>absurd ⟨k,hk,ek⟩ z,λek=>by lia⟩⟩
theorem J9 {x y b:Int}(hb:1≤b)(e:wn x b=wn y b):x=y:=cZ ⋯ ((quw hb hb).mpr e)
theorem wk5 {t b:Int}(hb:1≤b)(i j:Nat):itP hs (wn t b) i=itP hs (wn t b) j↔trT hs t b i=trT hs t b j:=by
 rw [←yr hb,←yr hb]
 exact ⟨J9 hb,λe=>by rw [e]⟩
theorem wzx {t b:Int}(hb:1≤b)(h:Hits hs (wn t b) m tv tv'):(∀T,Qy tv' (wn T b)=Qy tv (wn T b)+hitC hs t b m T)∧∀q,(∀T,wn T b≠q)→Qy tv' q=Qy tv q:=by
 obtain ⟨n,u,_,d,hu,e,h1,h2⟩:=h
 have d':Dist (trT hs t b) n:=λi j hij hj z=>d i j hij hj ((wk5 hb i j).mpr z)
 have e':trT hs t b n=trT hs t b u:=(wk5 hb n u).mp e
 refine ⟨λT=>?_,λq hq=>h2 q λf hf=>?_⟩
 ·obtain ⟨f,hf⟩:=ww4 d' T
  have en:EntC hs t b m T _:=⟨n,u,f,d',hu,e',hf,rfl⟩
  rw [en.eq]
  by_cases z:f<n
  ·have ef:trT hs t b f=T:=(hf f z).mpr rfl
   have e1:=h1 f z
   rw [←yr hb,ef] at e1
   rw [ak z]
   exact e1
  ·rw [af z,h2 _ λk hk ek=>?_]
   ·show _=_+(0:Int)
    lia
   ·rw [←yr hb] at ek
    have:=(hf k hk).mp (J9 hb ek)
    lia
 ·rw [←yr hb]
  exact hq _
theorem wuc {q q':Int×Int}:Qy [([.inl q.1,.inl q.2],.int 1)] q'=if q=q' then 1 else 0:=by
 have:=qky (tv:=[]) (q:=q) (q':=q') (c:=1)
 rw [Qq _ rfl] at this
 exact this
theorem wvp (h:TmOk tv)(q:Int×Int):qw4 tv q=.int (Qy tv q):=by
 unfold qw4 Qy
 cases e:wf tv [.inl q.1,.inl q.2] with
 |none=>rfl
 |some v =>
  have:∃kv∈tv,kv.2=v:=by
   unfold wf at e
   obtain ⟨kv,e1,e2⟩:=dI.mp e
   exact ⟨kv,dj e1,e2⟩
  obtain ⟨kv,hk,rfl⟩:=this
  obtain ⟨a,b,c,rfl,_⟩:=h.2.2 kv hk
  rfl
structure S6 (C CR CW:Aj)(H:Hp)(o p:Ho)(l:List AH)(a':AH)(dr dw:Aj)(R W:List (Key×V))(b:BA):Prop where
 v:VH C CR CW H o l
 vp:VH C CR CW H p [a']
 ep:p.ds=[]
 ap:Ap o p
 br:BR H dr dw R W b
 fo:Off o dr dw
 fp:Off p dr dw
theorem rd_x {x d:Aj}{fs:List (Str×V)}(hx:H x=some (.ins C dx fs))(e:Rd H d (.dK R)):x≠d:=λz=>by
 rw [z] at hx
 rcases e with e|⟨o,e⟩ <;> rw [e] at hx <;> cases hx
theorem VH.ch {CR:Aj}(v:VH C CR CW H o as)(br:BR H dr dw R W b)(fo:Off o dr dw)(k:Kb [dr,dw] H H')(rr:Rd H' dr (.dK R))(rw':Rd H' dw (.dK W)):VH C CR CW H' o as:=by
 obtain ⟨dx,hx⟩:=v.h.hs.ob
 have m:∀y:Aj,y≠dr→y≠dw→y∉[dr,dw]:=λy h1 h2 z=>by
  simp only [ag,aj,bd] at z
  rcases z with z|z
  ·exact h1 z
  ·exact h2 z
 refine v.frame k br.dl ⟨m _ (rd_x hx br.r) (rd_x hx br.w),m _ fo.1.1 fo.2.1,m _ fo.1.2.1 fo.2.2.1,m _ fo.1.2.2 fo.2.2.2⟩ λq hq _ kv e=>?_
 have un:∀ {d:Aj} {X:List (Key×V)},Rd H d (.dK X)→Rd H d (.dK kv)→X=kv:=λ{d X} h1 h2=>by
  rcases h1 with h1|⟨o1,h1⟩ <;> rcases h2 with h2|⟨o2,h2⟩ <;> rw [h1] at h2 <;> cases h2 <;> rfl
 simp only [ag,aj,bd] at hq
 rcases hq with rfl|rfl
 ·rw [←un br.r e];exact rr
 ·rw [←un br.w e];exact rw'
variable {l:List AH}
theorem S6.same {CR:Aj}{p:Ho}(h:S6 C CR CW H o p l a' dr dw R W b)(s:Same H H'):S6 C CR CW H' o p l a' dr dw R W b:=⟨h.v.same s,h.vp.same s,h.ep,h.ap,h.br.same s,h.fo,h.fp⟩
theorem S6.ch {CR:Aj}{p:Ho}(h:S6 C CR CW H o p l a' dr dw R W b)(k:Kb [dr,dw] H H')(rr:Rd H' dr (.dK R))(rw':Rd H' dw (.dK W)):S6 C CR CW H' o p l a' dr dw R W b:=⟨h.v.ch h.br h.fo k rr rw',h.vp.ch h.br h.fp k rr rw',h.ep,h.ap,⟨rr,rw',h.br.ne,h.br.bp.kb h.br.dl k⟩,h.fo,h.fp⟩
theorem Off.not (h:Off o dr dw):dr∉[o.dr,o.dw,o.dd]∧dw∉[o.dr,o.dw,o.dd]:=by
 constructor <;> intro z <;> simp only [ag,aj,bd] at z <;> rcases z with z|z|z
 ·exact h.1.1 z.symm
 ·exact h.1.2.1 z.symm
 ·exact h.1.2.2 z.symm
 ·exact h.2.1 z.symm
 ·exact h.2.2.1 z.symm
 ·exact h.2.2.2 z.symm
theorem S6.nxt {CR:Aj}{p:Ho}{l':List AH}(h:S6 C CR CW H o p l a' dr dw R W b)(s:Same H H1)(n:Nxt H1 o o')(v:VH C CR CW H' o' l')(k:Kb [o.dr,o.dw,o.dd] H1 H'):S6 C CR CW H' o' p l' a' dr dw R W b:=by
 have h1:=h.same s
 refine ⟨v,h1.ap.stay h1.v.h h1.vp k,h.ep,h1.ap.nxt h1.vp.h n,h1.br.kb h1.v.h.dl k h.fo.not,?_,h.fp⟩
 unfold Off
 rw [n.dr,n.dw,n.dd]
 exact h.fo
theorem S6.prv {CR:Aj}{p:Ho}{l':List AH}(h:S6 C CR CW H o p l a' dr dw R W b)(n:Prv o o')(ed:o.ds=d::o'.ds)(v:VH C CR CW H' o' l')(k:Kb [o.dr,o.dw,o.dd,d.q1,d.q2] H H')(dl:Dl H [o.dr,o.dw,o.dd,d.q1,d.q2])(rdk:∀q kv,q∉[o.dr,o.dw,o.dd]→Rd H q (.dK kv)→Rd H' q (.dK kv)):S6 C CR CW H' o' p l' a' dr dw R W b:=by
 refine ⟨v,h.ap.back h.v.h ed h.vp k dl rdk,h.ep,h.ap.prv n,⟨rdk _ _ h.fo.not.1 h.br.r,rdk _ _ h.fo.not.2 h.br.w,h.br.ne,h.br.bp.kb dl k⟩,?_,h.fp⟩
 unfold Off
 rw [n.dr,n.dw,n.dd]
 exact h.fo
theorem wqn {X:Cx}:vh X (.builtin "len") (λxs H Q=>∃a kvs,xs=[V.ref a]∧Rd H a (.dK kvs)∧Q (.int kvs.length) H):=by
 intro pins s σ H xs us Q I r h
 obtain ⟨a,kvs,rfl,e,q⟩:=h
 obtain ⟨u,rfl,rx⟩:=jr r
 cases rx
 exact zgq I e λt s' I'=>⟨.int kvs.length,H,I',⟨t,rfl⟩,q⟩
theorem wjn {a:Aj}{xs:List V}(br:BR H dr dw R W b)(k:Kb [dr,dw] H H1)(h:SqL K H a xs):SqL K H1 a xs:=by
 rcases h with h|h
 ·refine Kb.sql k (.inl h) (.inr λz=>?_)
  have no:∀ {d:Aj} {X:List (Key×V)},Rd H d (.dK X)→a≠d:=λ{d X} e q=>by
   rw [q] at h
   rcases h with h|⟨o,h⟩ <;> rcases e with e|⟨o',e⟩ <;> rw [e] at h <;> cases h
  simp only [ag,aj,bd] at z
  rcases z with z|z
  ·exact no br.r z
  ·exact no br.w z
 ·exact .inr h
def zs (k:Nat):Str:=⟨(List.replicate k 122).toArray⟩
theorem Zn (k:Nat):(zs k).length=k:=by
 show (List.replicate k 122).toArray.size=k
 simp
theorem wkj (k:Nat):zs k++("z" : Str)=zs (k+1):=by
 refine Jc ?_
 rw [W9]
 show (List.replicate k 122).toArray.toList++("z" : Str).cps.toList=(List.replicate (k+1) 122).toArray.toList
 rw [show ("z" : Str).cps.toList=[122] by decide +kernel,List.replicate_succ']
theorem zs_one:("z" : Str)=zs 1:=by decide +kernel
theorem zs_inj (h:zs i=zs j):i=j:=by rw [←Zn i,h,Zn]
theorem wun {k:Nat}(h1:1≤k)(h2:k≤12):zw (zs k)=true:=by
 have:∀k:Nat,k<13→1≤k→zw (zs k)=true:=by decide +kernel
 exact this k ⋯ h1
theorem zs_few (bo:BOk NM b){j:Nat}(h:∀i,1≤i→i≤j→(b.rs (zs i)).isSome=true):j≤NM.length:=by
 have nd:((List.range j).map λi=>zs (i+1)).Nodup:=(bI).mpr (List.nodup_range.imp λ{x y} hxy z=>hxy (by have:=zs_inj z;lia))
 have:=W6 _ NM nd λx hx=>by
  obtain ⟨i,hi,rfl⟩:=aq.mp hx
  have hi:=aS.mp hi
  obtain ⟨hs,e⟩:=av.mp (h (i+1) ⋯ ⋯)
  exact (bo.lo _ hs e).2.2
 rwa [aa,aN] at this
theorem ww7 {u v:HO}(n:New H o)(e1:H dr=some u)(e2:H dw=some v):Off o dr dw:=by
 have no:∀ {y d:Aj} {z:HO},H y=none→H d=some z→y≠d:=λ{y d z} h e q=>by rw [q,e] at h;cases h
 exact ⟨⟨no n.r e1,no n.w e1,no n.d e1⟩,⟨no n.r e2,no n.w e2,no n.d e2⟩⟩
theorem new_ap {CR:Aj}{p:Ho}(v:VH C CR CW H o as)(n:New H p)(eo:o.ds=[])(ep:p.ds=[]):Ap o p:=by
 have no:∀ {y d:Aj} {z:HO},H y=none→H d=some z→d≠y:=λ{y d z} h e q=>by rw [←q,e] at h;cases h
 have h:=v.h.hs
 exact ⟨no n.r h.r,no n.w h.r,no n.r h.w,no n.w h.w,no n.d h.d,(λq hq=>by rw [eo] at hq;exact absurd hq aj),(λq hq=>by rw [ep] at hq;exact absurd hq aj)⟩
theorem lay_p {q:Int×Int}:(ptD q).canLay0=true:=by simp [ptD,PyData.canLay0,PyData.canLayAll0]
def GoI (C CR CW:Aj)(p:Ho)(a0 a1:AH)(dr dw:Aj)(R W:List (Key×V))(b:BA)(NM ks:List Str)(o7:Obj)(i:Nat)(o:Ho)(H:Hp):Prop:=∃ah as,(∀x∈ah::as,Nam NM x)∧S6 C CR CW H o p (ah::as) a1 dr dw R W b∧H dw=some (.frz o7 (.dK W))∧o.ds.length=i∧as.length=i∧(ah::as).getLast?=some a0∧(∀n,ah.rs n=b.rs n)∧(∀n,n∉ks.take i→ah.ws n=(b.ws n).map y9)∧∀n,(ah.ws n).isSome=(b.ws n).isSome
theorem wv4 (bo:BOk NM b)(h1:∀n,a.rs n=b.rs n)(h2:∀n,(a.ws n).isSome=(b.ws n).isSome):Nam NM a:=⟨(λn e=>by
 rw [h1 n] at e
 obtain ⟨hs,e'⟩:=av.mp e
 exact (bo.lo n hs e').2.2),(λn e=>by
 rw [h2 n] at e
 obtain ⟨u,e'⟩:=av.mp e
 exact (bo.wo n u e').2.1)⟩
theorem wzr {l:Aj}{X Y:List (Key×V)}{Z:List V}(hr:H dr=some (.dK X))(hw:H dw=some (.dK Y))(hd:H dd=some (.lst D))(k:Kb [dr,dw,dd] H H')(e:H l=some (.lst Z))(n:l≠dd):H' l=some (.lst Z):=k _ _ (λz=>by
 simp only [ag,aj,bd] at z
 rcases z with z|z|z
 ·rw [z,hr] at e;cases e
 ·rw [z,hw] at e;cases e
 ·exact n z) e
include T in
theorem zh6 (F:Fun K "law" "law" zcq f fd)(zh7:Cal P w K mg base "_law_stand" 5 (qkj K))(zh8:Cal P w K mg base "_law_text" 1 qk0)(zgf:Cal P w K mg base "read_house" 8 (Qm qq qc qw))(zc3:Cal P w K mg base "_law_right" 4 (qqu qq qc qw))(zaa:Cal P w K mg base "_law_pick" 2 (um K))(zh9:Cal P w K mg base "_law_trace" 2 (qqg K))(zia:Cal P w K mg base "_law_after" 1 (qvh K))(zib:MCal P w K mg base qq "go" 8 (spGo qq qc qw qy qd))(zcz:Cal P w K mg base "_law_low" 2 wwz)(zcp:MCal P w K mg base qq "stood" 3 (Jq qq qw qy qz))(zic:Cal P w K mg base "_law_count" 1 qws)(zc0:MCal P w K mg base qq "lay" 4 (qjj K qq qc qg wj qp))(zgg:Cal P w K mg base "_law_nothing" 3 (Z8 qq qc qw))(zcn:Cal P w K mg base "house_text" 4 (qv9 qq qc qw))(zc2:MCal P w K mg base qq "take_back" 2 (Z5 qq qx))(zco:MCal P w K mg base qq "deeds" 1 (Jy qq)) :
  FK P w K mg base 9 f fd ["_law_script"] (wwx K):=by
 have sc:=zgt
 refine F.okX sc (λvs H Q E h=>by obtain ⟨_,_,rfl,_⟩:=h;rfl) λ_ _ _ _ H vs Q E hr h=>?_
 obtain ⟨a,ns,rfl,hS,hl,k⟩:=h
 refine ⟨_,(qj (js (wCA zh7 (q9 (pv 0) (xb qr qk))) (k9 rfl (xv (xq (i:=1)) (xv (xq (i:=2)) zr))))
   (qj (w4 (i:=3) (wCA zh8 (q9 (pv 1) (q9 (pv 2) qk))))
   (qj (w4 (i:=4) (wCA zgf (q9 (pv 3) qk)))
   (qj (w4 (i:=5) (wCA zgf (q9 (pv 3) qk)))
   (qj (xg (PW.pt (yp (ug (u6 (wCA zc3 (q9 (pv 4) (q9 (pv 1) (q9 (pv 2) qk)))))) (yd (ug (u6 (wCA zc3 (q9 (pv 5) (q9 (pv 1) (q9 (pv 2) qk))))))))) (qh (w9 yn)) xx)
   (qj (w4 (i:=6) (wCA zaa (q9 (pv 0) (xb qr (xb qr (xb qr qk))))))
   (qj (vf aE rfl (wwv (pv 2)) (xq (i:=7)) (qj (js (jv (vq hr) (pv 2) (pv 7) (λ_ _=>rfl)) (k9 rfl (xv (xq (i:=8)) (xv (xq (i:=9)) (xv (xq (i:=10)) zr)))))
   (qj (js (wCA zh9 (k4 (jv (vq hr) (pv 1) (pv 8) (λ_ _=>rfl)) (q9 (pv 9) (q9 (pv 10) qk)))) (k9 rfl (xv (xq (i:=11)) (xv (xq (i:=12)) zr))))
   (qj (w4 (i:=13) (wCA zia (q9 (pv 11) (q9 (pv 12) (q9 (pv 6) qk)))))
   (qj (xg (wm (qkv hr.units) (xm (pv 4) T.clH zib (hr.mono ⋯) qf (q9 (pv 7) (q9 (pv 6) qk))) (wCA zcz (q9 (pv 13) (q9 (pv 10) qk))) (wt _)) (qh (w9 yn)) xx)
   (qh (vf aE rfl (yw (j8 (q9 (pv 9) (q9 (pv 13) qk)))) (xq (i:=14)) (qh (xg (wm Jf (xm (pv 4) T.clH zcp (hr.mono ⋯) qf (q9 (pv 7) (qx9 (vw (q9 (pv 14) (q9 (pv 10) qk))) qk))) (wb xz (zu qz7 rfl T.int_ cS (xj (y8 vg (pv 14) (pv 9) (wt _)) qk)) (wCA zic (q9 (pv 11) (q9 (pv 12) (q9 (pv 6) (q9 (pv 14) qk)))))) (wt _)) (qh (w9 yn)) xx)))))))))
   (qj (w4 (i:=15) xp)
   (qj (u9 aE (Yq (wvy (vq hr) (pv 15) (pv 1))) (qh (w4 (i:=15) (wb zf (pv 15) xp))))
   (qj (zb (xm (pv 4) T.clH zc0 (hr.mono ⋯) qf (q9 (pv 15) (pa_cL (j8 (xb qr (xb qr qk))) qk))))
   (qj (xg (PW.pt (yp (ug (u6 (wCA zgg (q9 (pv 5) qk)))) (yp (ug (u6 (wCA zc3 (q9 (pv 5) (q9 (pv 1) (q9 (pv 2) qk)))))) (yd (wm Jf (wCA zcn (q9 (pv 5) qk)) (pv 3) (wt _)))))) (qh (w9 yn)) xx)
   (qj (vf aE rfl (zh rfl T.range_ (zx (wb xz (wp wqn rfl T.len_ aI (q9 (pv 2) qk)) qr) qk)) (xq (i:=16)) (qh (zb (zn (pv 4) T.clH zc2 (hr.mono ⋯) qf))))
   (qh (w9 (qvp (y8 vg (zn (pv 4) T.clH zco (hr.mono ⋯) qf) qr (wt _)) (qvp (wCA zgg (q9 (pv 4) qk)) (wqb (y8 vg (wCA zcn (q9 (pv 4) qk)) (pv 3) (wt _))))))))))))))))))),?_⟩
 refine exI rfl ⟨a,ns,exI rfl ⟨hS,⋯,λq dr dw R W b NM H1 s1 nr nw fq hb bo lN nl=>?_⟩⟩
 refine ⟨q,exI rfl ⟨SqT.of fq,rfl,_,_,rfl,_,_,rfl,rfl,?_⟩⟩
 have nl':∀n∈NM,n.length≤100:=λn hn=>by have:=nl n hn;lia
 refine ⟨_,rfl,_,rfl,dr,dw,R,W,b,NM,rfl,hb,bo,⋯,nl',λH2 ms1 ms2 s2 S1 S2=>?_⟩
 have pre:ReadPre b NM ms1 ms2:=⟨bo,⋯,nl',S1,S2⟩
 refine exI rfl ⟨b,NM,ms1,ms2,rfl,pre,λH3 o a0 s3 v3 n3 e3 fr3=>?_⟩
 refine exI rfl ⟨b,NM,ms1,ms2,rfl,pre,λH4 p a1 s4 v4 n4 e4 fr4=>?_⟩
 have hb2:=hb.same s2
 have hb3:=hb2.same s3
 have st4:S6 qq qc qw H4 o p [a0] a1 dr dw R W b:=⟨v3.same s4,v4,e4,new_ap v3 n4 e3 e4,(hb3.same s4).br,ww7 n3 hb2.r hb2.w,ww7 n4 hb3.r hb3.w⟩
 refine ⟨_,rfl,_,rfl,_,rfl,o,a0,dr,dw,R,W,b,NM,rfl,st4.v,e3,fr3,st4.br,st4.fo,bo,⋯,λH5 o1 o2 r5 w5 k5=>(exI rfl (yb ?_))⟩
 have st5:=st4.ch k5 (.inr ⟨_,r5⟩) (.inr ⟨_,w5⟩)
 refine ⟨_,rfl,_,rfl,_,rfl,p,a1,dr,dw,R,W,b,NM,rfl,st5.vp,e4,fr4,st5.br,st5.fp,bo,⋯,λH6 o3 o4 r6 w6 k6=>(exI rfl (yb ?_))⟩
 have st6:=st5.ch k6 (.inr ⟨_,r6⟩) (.inr ⟨_,w6⟩)
 have hS6:SqL K H6 a (ns.map V.int):=wjn st5.br k6 (wjn st4.br k5 ((((s1.trans s2).trans s3).trans s4).sql hS))
 refine exI rfl ⟨a,ns,_,_,_,rfl,hS6,⋯,⋯,⋯,⋯,λm _ m0 m1=>?_⟩
 refine exI rfl ⟨dw,W,rfl,st6.br.w,λo7 H7 fz7=>?_⟩
 have k7:Kb [dr,dw] H6 H7:=λy u ny e=>by
  rw [fz7.2 y (λz=>ny (by rw [z];simp))]
  exact e
 have st7:=st6.ch k7 (wq7 st6.br.r (ch:=[dw]) (λy u ny e=>by rw [fz7.2 y (by simpa using ny)];exact e) (by simpa using st6.br.ne)) (.inr ⟨_,fz7.1⟩)
 clear st4 st5 st6 hS6 k5 k6 k7 r5 w5 r6 w6 v3 v4 n3 n4
 obtain ⟨ekW,ndW⟩:=v5 hb.bp.nW hb.bp.fW
 have lensW:=hb.bp.lens bo
 refine wqg (λi σ Hx=>∃(o':Ho) (z1 z2 z3 z4 z5 z6 z7 z8:Option V),GoI qq qc qw p a0 a1 dr dw R W b NM (W.map jn) o7 i o' Hx∧o'.x=o.x∧σ=[some (.ref a),some (.ref dr),some (.ref dw),some (.str (j9 b ms1 ms2)),some (.ref o.x),some (.ref p.x),some (.int m),z1,z2,z3,z4,z5,z6,z7,z8,none,none])
  ⟨o,_,_,_,_,_,_,_,_,⟨a0,[],(λx hx=>by rw [ay.mp hx];exact AOk.bk (by rw [fr3.bk];exact bo)),st7,fz7.1,by rw [e3];rfl,rfl,rfl,fr3.1,(λn _=>fr3.2 n),λn=>by rw [fr3.2 n,cB]⟩,rfl,rfl⟩ (λi σ Hx _ h=>by obtain ⟨_,_,_,_,_,_,_,_,_,⟨_,_,_,_,h,_⟩,_⟩:=h;exact h) ?_ ?_
 ·rintro i c σ Hx hc ⟨o',z1,z2,z3,z4,z5,z6,z7,z8,⟨ah,as,nms,st,fz,ld,la,gl,hrs,hws,hsm⟩,ex,rfl⟩
  have hk:(W.map jn)[i]?=some (jn c):=by rw [aB,hc];rfl
  have hkc:c.1=.inr (jn c):=by
   have:=bB (λl=>l[i]?) ekW
   simp only [aB,hc] at this
   simpa using this
  generalize jn c=n at hk hkc
  have ht:(W.map jn).take (i+1)=(W.map jn).take i++[n]:=by rw [cC,hk];rfl
  have li:i<W.length:=(aR.mp hc).1
  obtain ⟨u,eu⟩:∃u,b.ws n=some u:=av.mp (by
   rw [←hb.bp.in_w]
   exact (jq hb.bp.nW hb.bp.fW n).mp (ba hk))
  obtain ⟨nn,hN,hs,er,hp⟩:=bo.wo n u eu
  obtain ⟨q1,e1,f1⟩:=st.br.bp.wlk eu
  obtain ⟨lo,r1,e2,f2⟩:=st.br.bp.row er
  have dg1:DGet Hx dw (.str n) (wf W (.inr n)):=.inl ⟨W,.inr n,st.br.w,rfl,rfl⟩
  rw [e1] at dg1
  have dg2:DGet Hx dr (.str u.1) (wf R (.inr u.1)):=.inl ⟨R,.inr u.1,st.br.r,rfl,rfl⟩
  rw [e2] at dg2
  have rg:=hp.rng
  obtain ⟨_,⟨p1,_,pco,pon⟩,p40⟩:=id hp
  have ll:wn u.2.1 u.2.2=u.2:=Zw p1 pco
  have key:∀j,wn (trT hs u.2.1 u.2.2 j) u.2.2=itP hs u.2 j:=λj=>by rw [yr p1,ll]
  have ew:ah.ws n=some (y9 u):=by rw [hws n (qqn ndW ht),eu];rfl
  rw [hkc]
  refine exI rfl (exI rfl ⟨dw,exI rfl ⟨dg1,q1,exI rfl ⟨SqT.of f1,rfl,_,_,rfl,_,_,rfl,_,_,rfl,rfl,?_⟩⟩⟩)
  refine ⟨_,rfl,_,rfl,dr,_,rfl,dg2,_,rfl,_,rfl,r1,hs,_,_,rfl,SqL.of f2,lo,p1,⋯,pon,λj v qt l H8 d1 u1 e8 nl8 s8 nl fq8 fl8=>?_⟩
  refine ⟨qt,exI rfl ⟨SqT.of fq8,rfl,_,_,rfl,_,_,rfl,rfl,?_⟩⟩
  refine ⟨_,rfl,_,rfl,_,rfl,l,trT hs u.2.1 u.2.2,j,v,m,rfl,fl8,u1,e8,λi j e=>?_,m0,?_⟩
  ·show j6 hs (trT hs u.2.1 u.2.2 i) u.2.2=j6 hs (trT hs u.2.1 u.2.2 j) u.2.2
   rw [e]
  have st8:=st.same s8
  have nm:Nam NM ah:=wv4 bo hrs hsm
  have nld:l≠o'.dd:=λz=>by
   have:=st.v.h.hs.d
   rw [←z,nl] at this
   cases this
  obtain ⟨dx8,hx8⟩:=st8.v.h.hs.ob
  rw [←ex]
  refine exI rfl ⟨o'.x,dx8,exI rfl ⟨hx8,xu,exI rfl (exI rfl ?_)⟩⟩
  dsimp only [k8,Q5,tC]
  refine VH.goes st8.v nm ⋯ ⋯ ew (show ah.rs u.1=some hs by rw [hrs];exact er) ⟨m0,λx e=>by cases e;lia⟩ λH9 o9 p9 tv9 nx9 v9 tm9 hit9 kb9 f9=>?_
  have st9:=st8.nxt (Same.refl _) nx9 v9 kb9
  have fz9:H9 dw=some (.frz o7 (.dK W)):=kb9 _ _ st8.fo.not.2 (s8 _ _ fz)
  have fl9:=wzr st8.v.h.hs.r st8.v.h.hs.w st8.v.h.hs.d kb9 fl8 nld
  refine exI rfl (exI rfl ⟨_,_,rfl,p1,Sm.small ⋯ ⋯ ⋯,λp3 n3=>?_⟩)
  have s10:=Same.upd (H:=H9) (o:=.tup (ptV (wn (trT hs u.2.1 u.2.2 m.toNat) u.2.2))) n3
  have f10:upd H9 p3 (.tup (ptV (wn (trT hs u.2.1 u.2.2 m.toNat) u.2.2))) p3=some (.tup [.int (itP hs u.2 m.toNat).1,.int (itP hs u.2 m.toNat).2]):=by rw [qb,key];rfl
  generalize upd H9 p3 (.tup (ptV (wn (trT hs u.2.1 u.2.2 m.toNat) u.2.2)))=H10 at s10 f10
  refine ⟨_,_,wyu (SqT.of (s10 _ _ f9)),wyu (SqT.of f10),lay_p,lay_p,dep_pt,_,rfl,Jx (by rw [wyn];exact aX rfl) ?_⟩
  have st10:=st9.same s10
  have fl10:=s10 _ _ fl9
  refine exI rfl (exI rfl ⟨sz2,λl2 nl2=>?_⟩)
  have s11:=s10.trans (Same.upd (o:=.lst [.int u.2.1,.int (trT hs u.2.1 u.2.2 m.toNat)]) nl2)
  have tm0:∀q':Int×Int,Qy (y9 u).tv q'=if u.2=q' then 1 else 0:=λq'=>wuc
  obtain ⟨hc1,_⟩:=wzx (t:=u.2.1) p1 (by rw [ll];exact hit9)
  have val:∀T f9,(∀k,k<j→(trT hs u.2.1 u.2.2 k=T↔k=f9))→qw4 tv9 (wn T u.2.2)=.int ((if decide (V.int T=V.int u.2.1)=true then 1 else 0)+((if f9<j then stN j v m.toNat f9 else 0:Nat):Int)):=λT f9 hf=>by
   rw [wvp tm9,hc1 T,tm0,EntC.eq ⟨j,v,f9,d1,u1,e8,hf,rfl⟩]
   by_cases z:T=u.2.1
   ·subst z
    rw [ak ll.symm,ak (aX rfl)]
   ·rw [af (λy=>z (J9 p1 (y.symm.trans ll.symm))),af (λy=>z (V.int.inj (of_decide_eq_true y)))]
  refine ⟨l2,rfl,⟨_,SqL.of qb⟩,Ws (xs:=[.int u.2.1,.int (trT hs u.2.1 u.2.2 m.toNat)]) (λ_ σ Hy=>∃z9,Same (upd H10 l2 (.lst [.int u.2.1,.int (trT hs u.2.1 u.2.2 m.toNat)])) Hy∧σ=[some (.ref a),some (.ref dr),some (.ref dw),some (.str (j9 b ms1 ms2)),some (.ref o'.x),some (.ref p.x),some (.int m),some (.str n),some (.str u.1),some (.int u.2.1),some (.int u.2.2),some (.ref l),some (.int v),some (.int (trT hs u.2.1 u.2.2 m.toNat)),z9,none,none]) ⟨_,Same.refl _,rfl⟩ (λ_ σ Hy _ h=>by obtain ⟨_,h,_⟩:=h;exact SqL.of (h _ _ qb)) ?_ ?_⟩
  ·rintro i2 y σ Hy hy ⟨z9,sy,rfl⟩
   obtain ⟨T,rfl⟩:∃T,y=.int T:=by
    match i2,hy with
    |0,hy=>cases hy;exact ⟨_,rfl⟩
    |1,hy=>cases hy;exact ⟨_,rfl⟩
   obtain ⟨f9,hf⟩:=ww4 d1 T
   have s12:=s11.trans sy
   have st12:=st9.same s12
   obtain ⟨dx,hx⟩:=st12.v.h.hs.ob
   rw [nx9.x,nx9.dr,nx9.dw,nx9.dd] at hx
   refine exI rfl ⟨o'.x,dx,exI rfl ⟨hx,xu,exI rfl (exI rfl (exI rfl ⟨sz2,λp5 n5=>?_⟩))⟩⟩
   have s13:=s12.trans (Same.upd (o:=.tup [.int T,.int u.2.2]) n5)
   have st13:=st9.same s13
   obtain ⟨y1,py1,ty1,ey1,wk1⟩:=st13.v.rep.wk (show (ah.putW n ⟨u.1,itP hs u.2 m.toNat,tv9⟩).ws n=some _ from ak rfl)
   refine ⟨o'.x,o9.dr,o9.dw,o9.dd,p5,o9.R,o9.W,_,n,T,u.2.2,rfl,by rw [←nx9.x];exact st13.v.h.hs,qb,(λz=>by rw [ey1] at z;cases z),λw' ew'=>?_⟩
   rw [ey1] at ew'
   cases ew'
   refine ⟨y1,_,py1,_,ty1,exI rfl ⟨wk1,(λz=>absurd z ⋯),λ_=>⟨Sm.small ⋯ ⋯ ⋯,λH14 s14=>?_⟩⟩⟩
   rw [val T f9 hf]
   refine exI rfl (exI rfl ⟨rfl,.inr ((exI rfl ?_))⟩)
   refine exI rfl (exI rfl (exI rfl (exI rfl ⟨l,trT hs u.2.1 u.2.2,j,v,f9,m,T,rfl,(s13.trans s14) _ _ fl9,u1,nl8,m0,hf,?_⟩)))
   refine wg rfl rfl ⟨rfl,_,rfl,qkg (λz=>absurd rfl z) λ_=>?_⟩
   exact ⟨_,sy.trans ((Same.upd n5).trans s14),rfl⟩
  ·rintro σ Hy ⟨z9,sy,rfl⟩
   have st14:=st9.same (s11.trans sy)
   obtain ⟨d9,ed9,_⟩:=nx9.ds
   have hsm9:∀m',((ah.putW n ⟨u.1,itP hs u.2 m.toNat,tv9⟩).ws m').isSome=(b.ws m').isSome:=λm'=>by
    show (if m'=n then some _ else ah.ws m').isSome=_
    by_cases z:m'=n
    ·rw [ak z,z,eu];rfl
    ·rw [af z];exact hsm m'
   refine ⟨o9,_,_,_,_,_,_,_,_,⟨_,_,λx hx=>?_,st14,(s11.trans sy) _ _ fz9,by rw [ed9,au,ld],by rw [au,la],by rw [dF];exact gl,hrs,λm' hm'=>?_,hsm9⟩,nx9.x,rfl⟩
   ·rcases ag.mp hx with rfl|hx
    ·exact wv4 bo hrs hsm9
    ·exact nms x hx
   ·rw [ht] at hm'
    have hm1:m'≠n:=λz=>hm' (by rw [z];simp)
    show (if m'=n then some _ else ah.ws m')=_
    rw [af hm1,hws m' (λz=>hm' (bX _ z))]
 ·rintro σ Hx ⟨o',z1,z2,z3,z4,z5,z6,z7,z8,⟨ah,as,nms,st,fz,ld,la,gl,hrs,hws,hsm⟩,ex,rfl⟩
  refine Zf (λσ Hy=>Hy=Hx∧∃j,1≤j∧(∀i,1≤i→i<j→(b.rs (zs i)).isSome=true)∧σ=[some (.ref a),some (.ref dr),some (.ref dw),some (.str (j9 b ms1 ms2)),some (.ref o.x),some (.ref p.x),some (.int m),z1,z2,z3,z4,z5,z6,z7,z8,some (.str (zs j)),none]) (λσ _=>match (σ[15]?:Option (Option V)) with|some (some (V.str z))=>20-z.length|_=>0) ⟨rfl,1,ai _,(λi h1 h2=>absurd h1 ⋯),by rw [←zs_one];rfl⟩ ?_ λσ H Q Q' h q=>by
   obtain ⟨v1,e1,v2,e2,d,o,e3,g,c,e4,q⟩:=q
   exact ⟨v1,e1,v2,e2,d,o,e3,g,c,e4,h _ _ q⟩
  rintro σ Hy ⟨rfl,j,j1,jh,rfl⟩
  have jl:j-1≤NM.length:=zs_few bo λi h1 h2=>jh i h1 ⋯
  have dg:DGet Hy dr (.str (zs j)) (wf R (.inr (zs j))):=.inl ⟨R,.inr (zs j),st.br.r,rfl,rfl⟩
  refine exI rfl (exI rfl ⟨dr,exI rfl ⟨dg,_,rfl,?_⟩⟩)
  cases hz:b.rs (zs j) with
  |some hs =>
   obtain ⟨_,p5,e5,_⟩:=st.br.bp.row hz
   rw [e5]
   refine ut (exI rfl (wg rfl rfl ⟨?_,⟨rfl,j+1,⋯,λi h1 h2=>?_,by rw [←wkj];rfl⟩,?_⟩))
   ·rw [Zn]
    have:(1000000:Nat)<sizeLine:=by decide
    have:("z" : Str).length=1:=by decide +kernel
    lia
   ·rcases (by lia:i<j∨i=j) with y|y
    ·exact jh i h1 y
    ·rw [y,hz];rfl
   ·show 20-(zs j++("z" : Str)).length<20-(zs j).length
    rw [wkj,Zn,Zn]
    lia
  |none =>
   rw [st.br.bp.noR hz]
   refine yb ?_
   obtain ⟨dx,hx⟩:=st.v.h.hs.ob
   have lz:=Zn j
   rw [←ex]
   refine exI rfl ⟨o'.x,dx,exI rfl ⟨hx,xu,exI rfl ⟨sz2,λp5 np5=>?_⟩⟩⟩
   dsimp only [k8,Q5,tC]
   refine VH.lays (hs:=[0,1]) (st.v.same (Same.upd np5)) (nms ah (ar ..)) ⋯ ⋯ (wun j1 ⋯) ⋯ (by rw [hrs];exact hz) qb ⟨⋯,⋯,λh hh=>by simp at hh;rcases hh with rfl|rfl <;> decide⟩ λH9 o9 nx9 v9 kb9=>?_
   have st9:=st.nxt (Same.upd np5) nx9 v9 kb9
   have nmp:Nam NM a1:=AOk.bk (by rw [fr4.bk];exact bo)
   obtain ⟨d9,ed9,_⟩:=nx9.ds
   have nms9:∀x∈ah.putR (zs j) [0,1]::ah::as,Nam (zs j::NM) x:=λx hx=>by
    have up:∀y,Nam NM y→Nam (zs j::NM) y:=λy h=>⟨λm e=>ax _ (h.r m e),λm e=>ax _ (h.w m e)⟩
    rcases ag.mp hx with rfl|hx
    ·exact Nam.putR (up ah (nms ah (ar ..))) (ar ..) _
    ·exact up x (nms x hx)
   refine ⟨_,rfl,p,a1,NM,rfl,st9.vp,e4,nmp,⋯,λH10 s10=>(exI rfl (yb ?_))⟩
   have st10:=st9.same s10
   refine ⟨_,rfl,_,rfl,_,rfl,p,a1,dr,dw,R,W,b,NM,rfl,st10.vp,e4,fr4,st10.br,st10.fp,bo,⋯,λH11 o11 o12 r11 w11 k11=>(exI rfl (yb ?_))⟩
   have st11:=st10.ch k11 (.inr ⟨_,r11⟩) (.inr ⟨_,w11⟩)
   refine ⟨_,rfl,p,a1,[],NM,rfl,st11.vp,nmp,⋯,nl',λH12 ns1 ns2 s12 R1 R2=>?_⟩
   rw [fr4.bk] at R1 R2 ⊢
   rw [SrtN.uniq R1 S1,SrtN.uniq R2 S2]
   refine exI rfl ⟨rfl,_,rfl,wys rfl ?_⟩
   have st12:=st11.same s12
   refine ⟨_,rfl,dw,W,rfl,st12.br.w,_,_,rfl,rfl,_,rfl,⋯,⋯,kf (n:=((W.length:Int)+1).toNat) (λi σ Hy=>∃(o':Ho) (l':List AH) (z:Option V),S6 qq qc qw Hy o' p l' a1 dr dw R W b∧l'.length+i=W.length+2∧o'.ds.length+i=W.length+1∧l'.getLast?=some a0∧(∀x∈l',Nam (zs j::NM) x)∧o'.x=o9.x∧σ=[some (.ref a),some (.ref dr),some (.ref dw),some (.str (j9 b ms1 ms2)),some (.ref o9.x),some (.ref p.x),some (.int m),z1,z2,z3,z4,z5,z6,z7,z8,some (.str (zs j)),z])
    ⟨o9,_,_,st12,by rw [au,au,la],by rw [ed9,au,ld],by rw [dF];exact gl,nms9,rfl,by rw [nx9.x]⟩ ?_ ?_⟩
   ·rintro i σ Hy hi ⟨o2,l2,z,st2,ll2,ld2,gl2,nm2,ex2,rfl⟩
    have hi:i<W.length+1:=by lia
    obtain ⟨x1,x2,l3,rfl⟩:∃x1 x2 l3,l2=x1::x2::l3:=by
     match l2,ll2 with
     |[],h=>exact absurd h (by simp only [bQ];lia)
     |[x],h=>exact absurd h (by simp only [au,bQ];lia)
     |x1::x2::l3,_=>exact ⟨x1,x2,l3,rfl⟩
    obtain ⟨dx2,hx2⟩:=st2.v.h.hs.ob
    have le2:=st2.v.lens (nm2 x1 (ar ..))
    rw [au] at le2
    rw [←ex2]
    refine exI rfl ⟨o2.x,dx2,exI rfl ⟨hx2,xu,?_⟩⟩
    dsimp only [Q5]
    refine VH.take st2.v ⋯ ⋯ λH13 o13 d13 pv13 ed13 v13 kb13 dl13 rd13=>?_
    refine ⟨o13,x2::l3,_,st2.prv pv13 ed13 v13 kb13 dl13 rd13,by simp only [au] at ll2 ⊢;lia,?_,by rw [dF] at gl2;exact gl2,λx hx=>nm2 x (ax _ hx),pv13.x,rfl⟩
    rw [ed13,au] at ld2
    lia
   ·rintro σ Hy ⟨o2,l2,z,st2,ll2,ld2,gl2,nm2,ex2,rfl⟩
    have e0:o2.ds=[]:=fD.mp ⋯
    obtain rfl:l2=[a0]:=by
     match l2,ll2,gl2 with
     |[],h,_=>exact absurd h (by simp only [bQ];lia)
     |[x],_,g=>rw [show x=a0 from az g]
     |x1::x2::l3,h,_=>exact absurd h (by simp only [au];lia)
    obtain ⟨dx2,hx2⟩:=st2.v.h.hs.ob
    have nm0:Nam NM a0:=AOk.bk (by rw [fr3.bk];exact bo)
    rw [←ex2]
    refine exI rfl ⟨o2.x,dx2,exI rfl ⟨hx2,xu,o2.x,o2.dr,o2.dw,o2.dd,o2.R,o2.W,exI rfl ⟨st2.v.h.hs,rfl,_,rfl,jc (λ_=>?_) λy=>absurd (by rw [e0];rfl) y⟩⟩⟩
    refine ⟨_,rfl,o2,a0,NM,rfl,st2.v,e0,nm0,⋯,λH14 s14=>(exI rfl (ut ?_))⟩
    refine ⟨_,rfl,o2,a0,[],NM,rfl,st2.v.same s14,nm0,⋯,nl',λH15 ns1 ns2 s15 R1 R2=>?_⟩
    rw [fr3.bk] at R1 R2 ⊢
    rw [SrtN.uniq R1 S1,SrtN.uniq R2 S2]
    refine exI rfl ⟨rfl,?_⟩
    rw [aX (show V.str (j9 b ms1 ms2)=V.str (j9 b ms1 ms2) from rfl)]
    exact k _
end
section
theorem all_mk {l:PySem.W.OpenLaw}{w:Ah}{K:Aa}{h:Heap}{mg:Str→Option Ag}{fa:Aj}{qu:Aj}{qp:Aj}{qz:Aj}{qm:Aj}{qd:Aj}{q8:Aj}{wv:Aj}{qg:Aj}{wj:Aj}{wx:Aj}{qy:Aj}{qx:Aj}{wq:Aj}{qc:Aj}{qw:Aj}{qq:Aj}{zgh:Tok}{zgi:Tok}{zgj:Tok}{zgk:Tok}{zgl:Tok}{zgm:Tok}{zgn:Tok}{zgo:Tok}(X:K.In h)(G:h.Ns mainGlobals mg)(hfa:mg "law" = some (.ref fa))
  (zc4:DefIn K "_law_cell" zb5)
  (zc5:DefIn K "_law_pick" zb6)
  (zc6:DefIn K "check_bottom" za1)
  (zc7:DefIn K "common_divisor" za2)
  (zc8:DefIn K "lowest" za3)
  (zc9:DefInD K "check_count" zan)
  (zda:DefIn K "is_line" za7)
  (zdb:DefIn K "trace" za4)
  (zdc:DefIn K "spot" za5)
  (zdd:DefIn K "led_to" za6)
  (zde:DefIn K "set_down" zbg)
  (zdf:DefIn K "is_name" zbh)
  (zdg:DefIn K "check_new_name" zbi)
  (zdh:DefIn K "exchange" zbj)
  (zdi:DefIn K "_law_climb" zb8)
  (zdj:DefIn K "_law_heights" zb9)
  (zdk:DefIn K "_law_step" zcg)
  (zdl:DefIn K "_law_trace" zch)
  (zdm:DefIn K "_law_after" zci)
  (zdn:DefIn K "_law_common" zcb)
  (zdo:DefIn K "_law_low" zcc)
  (zdp:DefIn K "_law_spot" zca)
  (zdq:DefIn K "_law_whole" zcf)
  (zdr:DefIn K "_law_names" zb7)
  (zds:DefIn K "_law_count" zcj)
  (zdt:DefIn K "road_row" zby)
  (zdu:DefIn K "walker_row" zbz)
  (zdv:DefIn K "house_text" zb0)
  (zdw:DefIn K "number_of" zb1)
  (zdx:DefIn K "take_in" zb2)
  (zdy:DefIn K "house_of" zb3)
  (zdz:DefIn K "read_house" zb4)
  (zd0:DefIn K "_law_stand" zcd)
  (zd1:DefIn K "_law_text" zce)
  (zd2:DefIn K "_law_right" zck)
  (zd3:DefIn K "_law_nothing" zcl)
  (zd4:DefIn K "law" zcq)
  (zd5:PySem.W.nsIn K mainGlobals "RoadError" = some (some (.ref qu)))
  (zcm:PySem.W.excIn K qu [.type "ValueError",.type "Exception",.type "BaseException",.type "object"] "ValueError.__new__" = true)
  (zd6:PySem.W.nsIn K mainGlobals "BadLine" = some (some (.ref qp)))
  (zao:PySem.W.excIn K qp [.type "ValueError",.type "Exception",.type "BaseException",.type "object"] "ValueError.__new__" = true)
  (zd7:PySem.W.nsIn K mainGlobals "BadBottom" = some (some (.ref qz)))
  (zal:PySem.W.excIn K qz [.type "ValueError",.type "Exception",.type "BaseException",.type "object"] "ValueError.__new__" = true)
  (zd8:PySem.W.nsIn K mainGlobals "OffRoad" = some (some (.ref qm)))
  (zap:PySem.W.excIn K qm [.type "ValueError",.type "Exception",.type "BaseException",.type "object"] "ValueError.__new__" = true)
  (zd9:PySem.W.nsIn K mainGlobals "BadCount" = some (some (.ref qd)))
  (zaq:PySem.W.excIn K qd [.type "ValueError",.type "Exception",.type "BaseException",.type "object"] "ValueError.__new__" = true)
  (zea:PySem.W.nsIn K mainGlobals "TooLong" = some (some (.ref q8)))
  (zar:PySem.W.excIn K q8 [.type "ValueError",.type "Exception",.type "BaseException",.type "object"] "ValueError.__new__" = true)
  (zeb:PySem.W.nsIn K mainGlobals "BadRow" = some (some (.ref wv)))
  (zas:PySem.W.excIn K wv [.type "ValueError",.type "Exception",.type "BaseException",.type "object"] "ValueError.__new__" = true)
  (zec:PySem.W.nsIn K mainGlobals "BadName" = some (some (.ref qg)))
  (zat:PySem.W.excIn K qg [.type "ValueError",.type "Exception",.type "BaseException",.type "object"] "ValueError.__new__" = true)
  (zed:PySem.W.nsIn K mainGlobals "Taken" = some (some (.ref wj)))
  (zau:PySem.W.excIn K wj [.type "ValueError",.type "Exception",.type "BaseException",.type "object"] "ValueError.__new__" = true)
  (zee:PySem.W.nsIn K mainGlobals "NoRoad" = some (some (.ref wx)))
  (zav:PySem.W.excIn K wx [.type "ValueError",.type "Exception",.type "BaseException",.type "object"] "ValueError.__new__" = true)
  (zef:PySem.W.nsIn K mainGlobals "NoWalker" = some (some (.ref qy)))
  (zaw:PySem.W.excIn K qy [.type "ValueError",.type "Exception",.type "BaseException",.type "object"] "ValueError.__new__" = true)
  (zeg:PySem.W.nsIn K mainGlobals "NothingDone" = some (some (.ref qx)))
  (zam:PySem.W.excIn K qx [.type "ValueError",.type "Exception",.type "BaseException",.type "object"] "ValueError.__new__" = true)
  (zeh:PySem.W.nsIn K mainGlobals "BadText" = some (some (.ref wq)))
  (zab:PySem.W.excIn K wq [.type "ValueError",.type "Exception",.type "BaseException",.type "object"] "ValueError.__new__" = true)
  (zei:PySem.W.nsIn K mainGlobals "Road" = some (some (.ref qc)))
  (zej:PySem.W.plainGet K qc Str.empty=true)
  (zek:PySem.W.hasDictIn K qc=true)
  (zel:PySem.W.plainOver K qc=true)
  (zem:PySem.W.findIn K (.ref qc) "__setattr__" = some (some (.builtin "object.__setattr__")))
  (zen:PySem.W.makesIn K qc=true)
  (zeo:PySem.W.keepIn K (.ref qc)=true)
  (zep:MethIn K qc "__init__" "Road.__init__" za8)
  (zeq:MethIn K qc "width" "Road.width" za9)
  (zer:MethIn K qc "ends" "Road.ends" zbb)
  (zes:MethIn K qc "corners" "Road.corners" zba)
  (zet:MethIn K qc "on_road" "Road.on_road" zbc)
  (zeu:MethIn K qc "at" "Road.at" zbd)
  (zev:PySem.W.nsIn K mainGlobals "Walker" = some (some (.ref qw)))
  (zew:PySem.W.plainGet K qw Str.empty=true)
  (zex:PySem.W.hasDictIn K qw=true)
  (zey:PySem.W.plainOver K qw=true)
  (zez:PySem.W.findIn K (.ref qw) "__setattr__" = some (some (.builtin "object.__setattr__")))
  (ze0:PySem.W.makesIn K qw=true)
  (ze1:PySem.W.keepIn K (.ref qw)=true)
  (ze2:MethIn K qw "__init__" "Walker.__init__" zbe)
  (ze3:MethIn K qw "gone" "Walker.gone" zbf)
  (ze4:PySem.W.nsIn K mainGlobals "House" = some (some (.ref qq)))
  (ze5:PySem.W.plainGet K qq Str.empty=true)
  (ze6:PySem.W.hasDictIn K qq=true)
  (ze7:PySem.W.plainOver K qq=true)
  (ze8:PySem.W.findIn K (.ref qq) "__setattr__" = some (some (.builtin "object.__setattr__")))
  (ze9:PySem.W.makesIn K qq=true)
  (zfa:PySem.W.keepIn K (.ref qq)=true)
  (zfb:MethIn K qq "__init__" "House.__init__" zbk)
  (zfc:MethIn K qq "road_called" "House.road_called" zbl)
  (zfd:MethIn K qq "walker_called" "House.walker_called" zbm)
  (zfe:MethIn K qq "deeds" "House.deeds" zbt)
  (zff:MethIn K qq "do" "House.do" zbn)
  (zfg:MethIn K qq "lay" "House.lay" zbo)
  (zfh:MethIn K qq "corners_of" "House.corners_of" zbv)
  (zfi:MethIn K qq "take_back" "House.take_back" zbr)
  (zfj:MethIn K qq "where" "House.where" zbw)
  (zfk:MethIn K qq "place" "House.place" zbp)
  (zfl:MethIn K qq "go" "House.go" zbq)
  (zfm:MethIn K qq "names" "House.names" zbu)
  (zfn:MethIn K qq "stood" "House.stood" zbx)
  (zfo:MethIn K qq "forget" "House.forget" zbs)
  (zfp:PySem.W.findIn K (.ref qc) "heights" = some none)
  (zfq:PySem.W.findIn K (.ref qw) "whose" = some none)
  (zfr:PySem.W.findIn K (.ref qw) "point" = some none)
  (zfs:PySem.W.findIn K (.ref qw) "times" = some none)
  (zft:PySem.W.findIn K (.ref qq) "roads" = some none)
  (zfu:PySem.W.findIn K (.ref qq) "walkers" = some none)
  (zfv:PySem.W.findIn K (.ref qq) "done" = some none)
  (zac:PySem.W.nsIn K mainGlobals "WIDEST" = some (some (.int 24 zgh)))
  (zad:PySem.W.nsIn K mainGlobals "LONGEST_TRACE" = some (some (.int 1000 zgi)))
  (zae:PySem.W.nsIn K mainGlobals "FARTHEST" = some (some (.int 1000000000000000000000000000000000000000000000000000000000000 zgj)))
  (zaf:PySem.W.nsIn K mainGlobals "LONGEST_NAME" = some (some (.int 12 zgk)))
  (zag:PySem.W.nsIn K mainGlobals "GREATEST_BOTTOM" = some (some (.int 40 zgl)))
  (zah:PySem.W.nsIn K mainGlobals "LETTERS" = some (some (.str "abcdefghijklmnopqrstuvwxyz" zgm)))
  (zai:PySem.W.nsIn K mainGlobals "LONGEST_NUMBER" = some (some (.int 3 zgn)))
  (zaj:PySem.W.nsIn K mainGlobals "FIGURES" = some (some (.str "0123456789" zgo)))
  (o1:PySem.W.findIn K (.ref qq) "__class__" = some (some (.builtin "object.__class__")))
  (o2:PySem.W.specialIn K (.builtin "object.__class__") "__get__" = some (some (.builtin "getset_descriptor.__get__")))
  (o3:PySem.W.takesIn K (.builtin "object.__class__")=some true)
  (o4:PySem.W.mroIn K qq (.type "object")=some true)
  (zfw:PySem.W.nsIn K mainGlobals "len" = some none)
  (zfx:PySem.W.nsIn K mainGlobals "abs" = some none)
  (zfy:PySem.W.nsIn K mainGlobals "range" = some none)
  (zfz:PySem.W.nsIn K mainGlobals "list" = some none)
  (zf0:PySem.W.nsIn K mainGlobals "min" = some none)
  (zf1:PySem.W.nsIn K mainGlobals "max" = some none)
  (zf2:PySem.W.nsIn K mainGlobals "all" = some none)
  (zf3:PySem.W.nsIn K mainGlobals "any" = some none)
  (zf4:PySem.W.nsIn K mainGlobals "sorted" = some none)
  (zf5:PySem.W.nsIn K mainGlobals "enumerate" = some none)
  (zf6:PySem.W.nsIn K mainGlobals "dict" = some none)
  (zf7:PySem.W.nsIn K mainGlobals "isinstance" = some none)
  (zf8:PySem.W.nsIn K mainGlobals "int" = some none)
  (zf9:PySem.W.nsIn K mainGlobals "bool" = some none)
  (zga:PySem.W.nsIn K mainGlobals "tuple" = some none)
  (zgb:PySem.W.nsIn K mainGlobals "str" = some none) :
  ∃fd:Ad,(∀(s:Ab) (v:Ag),BindsTo s fd ⟨[v],[]⟩ [("_law_script",v)])∧∀base:Heap,K.In base→base.Ns mainGlobals mg→FnOk l.prog w K mg base (CXE l.prog w) 9 fa fd ["_law_script"] (wwx K):=by
 have T:Txt K mg qu qp qz qm qd q8 wv qg wj wx qy qx wq qc qw qq:=⟨aP X G zfw,aP X G zfx,aP X G zfy,aP X G zfz,aP X G zf0,aP X G zf1,aP X G zf2,aP X G zf3,aP X G zf4,aP X G zf5,aP X G zf6,aP X G zf7,aP X G zf8,aP X G zf9,aP X G zga,aP X G zgb,aK X G zd5,⟨zcm⟩,aK X G zd6,⟨zao⟩,aK X G zd7,⟨zal⟩,aK X G zd8,⟨zap⟩,aK X G zd9,⟨zaq⟩,aK X G zea,⟨zar⟩,aK X G zeb,⟨zas⟩,aK X G zec,⟨zat⟩,aK X G zed,⟨zau⟩,aK X G zee,⟨zav⟩,aK X G zef,⟨zaw⟩,aK X G zeg,⟨zam⟩,aK X G zeh,⟨zab⟩,⟨zej,zek,zel,zem⟩,zfp,⟨zgh,aK X G zac⟩,aK X G zei,⟨zew,zex,zey,zez⟩,⟨ze5,ze6,ze7,ze8⟩,zfq,zfr,zfs,zft,zfu,zfv,aK X G zev,aK X G ze4,⟨zgi,aK X G zad⟩,⟨zgj,aK X G zae⟩,⟨zgk,aK X G zaf⟩,⟨zgl,aK X G zag⟩,⟨zgm,aK X G zah⟩,⟨o1,o2,o3,o4⟩,⟨zgn,aK X G zai⟩,⟨zgo,aK X G zaj⟩⟩
 obtain ⟨f,fd,a,F⟩:=zd4.ex
 have e:=hfa.symm.trans (aK X G a)
 cases e
 refine ⟨fd,λs v=>?_,λbase kb nb=>?_⟩
 ·obtain ⟨oc,od,kV,doc,pm,an,cdv,ct,osl,rfl,lk,hcd⟩:=F.ex
  exact .of_eq rfl
 ·have c1:Cal l.prog w K mg base "_law_cell" 1 (qud K):=zc4.cal X G qv8 λf fd F=>wy8 T F
  have c2:Cal l.prog w K mg base "_law_pick" 2 (um K):=zc5.cal X G qkx λf fd F=>xqk T F c1
  have c3:Cal l.prog w K mg base "check_bottom" 1 (qvu qz):=zc6.cal X G Yr λf fd F=>wyr T F
  have c4:Cal l.prog w K mg base "common_divisor" 1 qzc:=zc7.cal X G Zv λf fd F=>zg9 T F
  have c5:Cal l.prog w K mg base "lowest" 2 (ux qz):=zc8.cal X G wzh λf fd F=>wxc T F c3 c4
  have c6:CalD l.prog w K mg base "check_count" 1 (qkk qd):=zc9.cal X G qwu Jp λf fd F=>wjx T F
  have c7:Cal l.prog w K mg base "is_line" 1 (qqh K):=zda.cal X G wqc λf fd F=>qub T F
  have c8:CCal l.prog w K mg base "Road" qc 2 (qvx K qp qc):=zep.ccal T.zg4 zen zeo Z9 λf fd F=>xqx T F c7
  have c9:MCal l.prog w K mg base qc "width" 1 (Wf qc):=zeq.cal qw5 λf fd F=>wyf T F
  have c10:MCal l.prog w K mg base qc "ends" 2 (wqp qc wv):=zer.cal qvs λf fd F=>xqp T F c9
  have c11:MCal l.prog w K mg base qc "corners" 1 (Zg qc):=zes.cal Y2 λf fd F=>qum T F
  have c12:MCal l.prog w K mg base qc "on_road" 3 (Zc K qc qz qm):=zet.cal Y4 λf fd F=>qu6 T F c9 c5
  have c13:MCal l.prog w K mg base qc "at" 4 (spAt K qc qz qm):=zeu.cal qu5 λf fd F=>zhe T F c9 c5 c10 c12
  have c14:Cal l.prog w K mg base "trace" 5 (qkz qc q8):=zdb.cal X G wk0 λf fd F=>wkz T F c13
  have c15:Cal l.prog w K mg base "spot" 1 qu4:=zdc.cal X G xqy λf fd F=>xqg T F
  have c16:Cal l.prog w K mg base "led_to" 1 wjg:=zdd.cal X G wzn λf fd F=>zhn T F
  have c17:CCal l.prog w K mg base "Walker" qw 1 (W5 qw):=ze2.ccal T.zg5 ze0 ze1 Wc λf fd F=>wvr T F
  have c18:Cal l.prog w K mg base "set_down" 3 (Zp qw):=zde.cal X G qyp λf fd F=>qyh T F c17
  have c19:MCal l.prog w K mg base qw "gone" 6 (qun qw qc):=ze3.cal J3 λf fd F=>wu4 T F c14 c16 c15 c17
  have c20:Cal l.prog w K mg base "is_name" 1 qqv:=zdf.cal X G wq2 λf fd F=>wqv T F
  have c21:Cal l.prog w K mg base "check_new_name" 2 (Qs qg wj):=zdg.cal X G Zj λf fd F=>qjt T F c20
  have c22:Cal l.prog w K mg base "exchange" 1 qvy:=zdh.cal X G qys λf fd F=>wup T F
  have c23:CCal l.prog w K mg base "House" qq 1 (qvr qq):=zfb.ccal T.zge ze9 zfa W8 λf fd F=>wvn T F
  have c24:MCal l.prog w K mg base qq "road_called" 1 (jg qq wx true):=zfc.cal Qv λf fd F=>qwd T F
  have c25:MCal l.prog w K mg base qq "walker_called" 1 (jg qq qy false):=zfd.cal uf λf fd F=>Zh T F
  have c26:MCal l.prog w K mg base qq "deeds" 1 (Jy qq):=zfe.cal Jm λf fd F=>wjp T F
  have c27:MCal l.prog w K mg base qq "do" 2 (qu7 qq):=zff.cal qy2 λf fd F=>zhj T F c22
  have c28:MCal l.prog w K mg base qq "lay" 4 (qjj K qq qc qg wj qp):=zfg.cal qvm λf fd F=>zhk T F c21 c8 c27
  have c29:MCal l.prog w K mg base qq "corners_of" 2 (yt qq qc wx):=zfh.cal Q3 λf fd F=>qx4 T F c24 c11
  have c30:MCal l.prog w K mg base qq "take_back" 2 (Z5 qq qx):=zfi.cal Wx λf fd F=>xqb T F c22
  have c31:MCal l.prog w K mg base qq "where" 2 (Jb qq qw qy):=zfj.cal qqj λf fd F=>wyx T F c25
  have c32:MCal l.prog w K mg base qq "place" 5 (Jd K qq qc qw qg wj wx qz qm):=zfk.cal qq3 λf fd F=>wkp T F c21 c24 c5 c12 c18 c27
  have c33:MCal l.prog w K mg base qq "go" 8 (spGo qq qc qw qy qd):=zfl.cal qj7 λf fd F=>zhs T F c25 c6 c19 c27
  have c34:MCal l.prog w K mg base qq "names" 1 (Y8 qq):=zfm.cal qqk λf fd F=>wjr T F
  have c35:Cal l.prog w K mg base "_law_climb" 3 (Jj K):=zdi.cal X G qxr λf fd F=>wkd T F c2
  have c36:Cal l.prog w K mg base "_law_heights" 4 (Yw K):=zdj.cal X G Y5 λf fd F=>wqm T F c2 c35
  have c37:Cal l.prog w K mg base "_law_step" 1 (wqx K):=zdk.cal X G qvc λf fd F=>wy7 T F
  have c38:Cal l.prog w K mg base "_law_trace" 2 (qqg K):=zdl.cal X G qxd λf fd F=>wzw T F c37
  have c39:Cal l.prog w K mg base "_law_after" 1 (qvh K):=zdm.cal X G qw2 λf fd F=>wyy T F
  have c40:Cal l.prog w K mg base "_law_common" 1 qzc:=zdn.cal X G qwf λf fd F=>wz7 T F
  have c41:Cal l.prog w K mg base "_law_low" 2 wwz:=zdo.cal X G quz λf fd F=>zhc T F c40
  have c42:Cal l.prog w K mg base "_law_spot" 3 (qkb K):=zdp.cal X G qv7 λf fd F=>wk8 T F c2
  have c43:Cal l.prog w K mg base "_law_whole" 1 qv3:=zdq.cal X G qxx λf fd F=>wkv T F
  have c44:Cal l.prog w K mg base "_law_names" 3 (qq5 K):=zdr.cal X G qxk λf fd F=>wzg T F c2
  have c45:Cal l.prog w K mg base "_law_count" 1 qws:=zds.cal X G qxs λf fd F=>wz2 T F
  have c46:MCal l.prog w K mg base qq "stood" 3 (Jq qq qw qy qz):=zfn.cal qwb λf fd F=>wyb T F c25 c5
  have c47:MCal l.prog w K mg base qq "forget" 1 (qww qq qc qw):=zfo.cal Y0 λf fd F=>wzf T F
  have c48:Cal l.prog w K mg base "road_row" 3 (Zm qq qc qw):=zdt.cal X G qjf λf fd F=>qy3 T F c29
  have c49:Cal l.prog w K mg base "walker_row" 3 (Qz qq qc qw):=zdu.cal X G qxy λf fd F=>qw7 T F c31
  have c50:Cal l.prog w K mg base "house_text" 4 (qv9 qq qc qw):=zdv.cal X G qxg λf fd F=>qx5 T F c34 c48 c49
  have c51:Cal l.prog w K mg base "number_of" 1 qk6:=zdw.cal X G qkn λf fd F=>qkh T F
  have c52:Cal l.prog w K mg base "take_in" 6 (Zd qq qc qw):=zdx.cal X G wqf λf fd F=>qur T F c28 c32 c51
  have c53:Cal l.prog w K mg base "house_of" 7 (Qm qq qc qw):=zdy.cal X G qyu λf fd F=>qy6 T F c23 c52 c47
  have c54:Cal l.prog w K mg base "read_house" 8 (Qm qq qc qw):=zdz.cal X G qxt λf fd F=>qxq T F c53 c50
  have c55:Cal l.prog w K mg base "_law_stand" 5 (qkj K):=zd0.cal X G qxu λf fd F=>wjz T F c44 c2 c36 c42 c41
  have c56:Cal l.prog w K mg base "_law_text" 1 qk0:=zd1.cal X G qvz λf fd F=>wkx T F
  have c57:Cal l.prog w K mg base "_law_right" 4 (qqu qq qc qw):=zd2.cal X G qx2 λf fd F=>wzs T F c26 c34 c29 c31 c46 c43
  have c58:Cal l.prog w K mg base "_law_nothing" 3 (Z8 qq qc qw):=zd3.cal X G Y7 λf fd F=>wqr T F c30
  exact zh6 T F c55 c56 c54 c57 c2 c38 c39 c33 c41 c46 c45 c28 c58 c50 c30 c26
theorem walk {l:PySem.W.OpenLaw}{q:Ac}{loose:List Str}{XP:(Str→Option Ag)→Heap→Prop}{YP:Ah→Heap→Prop}{d:DefRec}{K:Params→Aa}(hn:l.most=some 63)(hdf:d.params.defaults=[])
  (hY:∀(w:Ah) (h:Heap),YP w h→(K w.params).In h)
  (F:∀(w:Ah) (mg:Str→Option Ag) (fa:Aj) (h:Heap),(K w.params).In h→h.Ns mainGlobals mg→mg d.name=some (.ref fa) →
   ∃fd:Ad,(∀(s:Ab) (u:Ag),BindsTo s fd ⟨[u],[]⟩ [("_law_script",u)])∧∀base:Heap,(K w.params).In base→base.Ns mainGlobals mg→FnOk l.prog w (K w.params) mg base (CXE l.prog w) 9 fa fd ["_law_script"] (wwx (K w.params))) :
  PySem.W.WalkO q loose XP YP l.row.toRowW d [] (λf vs=>PySem.call f vs) :=
 L2.wy3 (n:=63) (k:=9) (x := "_law_script") (CX:=λw=>CXE l.prog w) (sp:=λw=>wwx (K w.params)) hn ⋯ hdf ⟨rfl,⋯,⋯⟩ hY F (λ_ _ a ns hl _ hS=>⟨a,ns,rfl,hS,hl,λ_=>rfl⟩) λ_ _ _ _ _ z=>CXE.no z
end
end My
open PySem PySem.W PyProof.Rows
local macro_rules | `(tactic| walk_at "def")=>`(tactic| (refine' L2.def_mk ?a ?l ?c ?k;(case a=>k_is);(case l=>k_is);(case c=>k_is);(case k=>k_is)))
local macro_rules | `(tactic| walk_at "defD")=>`(tactic| (refine' L2.wuy ?a ?l ?c ?k ?t;(case a=>k_is);(case l=>k_is);(case c=>k_is);(case k=>k_is);(case t=>k_is)))
local macro_rules | `(tactic| walk_at "meth")=>`(tactic| (refine' L2.wuf ?a ?i ?l ?c ?k;(case a=>k_is);(case i=>k_is);(case l=>k_is);(case c=>k_is);(case k=>k_is)))
section
open Lean
local macro_rules|`(universe $x*)=>do let mut r:=#[];for i in x do {let s:=i.getId.toString;let n:=((s.drop 1).toString.splitOn "_").map String.toNat!;for j in [n.head!:n.getLast!+1] do {r:=r.push (←`(command|theorem $(mkIdent (.str `PySem.W.Fast s!"tw{(Name.str `PySem.Challenge.cw_crookroad_k56_whole_house_read_holds ((match s.front with|'h'=>"heap_"|'t'=>"tree_"|'v'=>"view_"|'s'=>"sts_"|'e'=>"env_"|_=>"o_")++toString j)).hash}")):ident:True:=trivial))}};return mkNullNode r
universe h39 h46 h879 t47 t70 t85 t100 t115 t130 t145 t160 t175 t190 t205 t220 t235 t279 t309 t381 t430 t437 t621 t706 t785 t869 t878 v39 o43_706 o710_878 s49 s71 s86 s101 s116 s131 s146 s161 s176 s191 s206 s221 s236 s280 s310 s382 s431 s438 s710 s786 s870 e41
end
theorem PySem.W.Fast.tw14475107925902581386:True:=trivial
theorem PySem.W.Fast.tw8297153457800916983:True:=trivial
set_option maxRecDepth 100000 in
set_option maxHeartbeats 0 in
theorem PySem.Challenge.cw_crookroad_k56_whole_house_read_holds : PySem.Challenge.rw_crookroad_k56_whole_house_read.Holds := by
 w_on;o_law;k_head;(case hw=>w_witness2)
 k_fill
 refine My.walk (l:=PySem.Challenge.rw_crookroad_k56_whole_house_read) rfl rfl (fun w h Y=>PySem.W.kIn_of Y) ?F
 case F =>
  intro w mg fa h KX G hmg
  refine' My.all_mk KX G hmg ?zc4 ?zc5 ?zc6 ?zc7 ?zc8 ?zc9 ?zda ?zdb ?zdc ?zdd ?zde ?zdf ?zdg ?zdh ?zdi ?zdj ?zdk ?zdl ?zdm ?zdn ?zdo ?zdp ?zdq ?zdr ?zds ?zdt ?zdu ?zdv ?zdw ?zdx ?zdy ?zdz ?zd0 ?zd1 ?zd2 ?zd3 ?zd4 ?zd5 ?zcm ?zd6 ?zao ?zd7 ?zal ?zd8 ?zap ?zd9 ?zaq ?zea ?zar ?zeb ?zas ?zec ?zat ?zed ?zau ?zee ?zav ?zef ?zaw ?zeg ?zam ?zeh ?zab ?zei ?zej ?zek ?zel ?zem ?zen ?zeo ?zep ?zeq ?zer ?zes ?zet ?zeu ?zev ?zew ?zex ?zey ?zez ?ze0 ?ze1 ?ze2 ?ze3 ?ze4 ?ze5 ?ze6 ?ze7 ?ze8 ?ze9 ?zfa ?zfb ?zfc ?zfd ?zfe ?zff ?zfg ?zfh ?zfi ?zfj ?zfk ?zfl ?zfm ?zfn ?zfo ?zfp ?zfq ?zfr ?zfs ?zft ?zfu ?zfv ?zac ?zad ?zae ?zaf ?zag ?zah ?zai ?zaj ?o1 ?o2 ?o3 ?o4 ?zfw ?zfx ?zfy ?zfz ?zf0 ?zf1 ?zf2 ?zf3 ?zf4 ?zf5 ?zf6 ?zf7 ?zf8 ?zf9 ?zga ?zgb
  (case zc4=>walk_at "def")
  (case zc5=>walk_at "def")
  (case zc6=>walk_at "def")
  (case zc7=>walk_at "def")
  (case zc8=>walk_at "def")
  (case zc9=>walk_at "defD")
  (case zda=>walk_at "def")
  (case zdb=>walk_at "def")
  (case zdc=>walk_at "def")
  (case zdd=>walk_at "def")
  (case zde=>walk_at "def")
  (case zdf=>walk_at "def")
  (case zdg=>walk_at "def")
  (case zdh=>walk_at "def")
  (case zdi=>walk_at "def")
  (case zdj=>walk_at "def")
  (case zdk=>walk_at "def")
  (case zdl=>walk_at "def")
  (case zdm=>walk_at "def")
  (case zdn=>walk_at "def")
  (case zdo=>walk_at "def")
  (case zdp=>walk_at "def")
  (case zdq=>walk_at "def")
  (case zdr=>walk_at "def")
  (case zds=>walk_at "def")
  (case zdt=>walk_at "def")
  (case zdu=>walk_at "def")
  (case zdv=>walk_at "def")
  (case zdw=>walk_at "def")
  (case zdx=>walk_at "def")
  (case zdy=>walk_at "def")
  (case zdz=>walk_at "def")
  (case zd0=>walk_at "def")
  (case zd1=>walk_at "def")
  (case zd2=>walk_at "def")
  (case zd3=>walk_at "def")
  (case zd4=>walk_at "def")
  (case zd5=>k_is)
  (case zcm=>k_exc)
  (case zd6=>k_is)
  (case zao=>k_exc)
  (case zd7=>k_is)
  (case zal=>k_exc)
  (case zd8=>k_is)
  (case zap=>k_exc)
  (case zd9=>k_is)
  (case zaq=>k_exc)
  (case zea=>k_is)
  (case zar=>k_exc)
  (case zeb=>k_is)
  (case zas=>k_exc)
  (case zec=>k_is)
  (case zat=>k_exc)
  (case zed=>k_is)
  (case zau=>k_exc)
  (case zee=>k_is)
  (case zav=>k_exc)
  (case zef=>k_is)
  (case zaw=>k_exc)
  (case zeg=>k_is)
  (case zam=>k_exc)
  (case zeh=>k_is)
  (case zab=>k_exc)
  (case zei=>k_is)
  (case zej=>k_is)
  (case zek=>k_is)
  (case zel=>k_is)
  (case zem=>k_is)
  (case zen=>k_is)
  (case zeo=>k_is)
  (case zep=>walk_at "meth")
  (case zeq=>walk_at "meth")
  (case zer=>walk_at "meth")
  (case zes=>walk_at "meth")
  (case zet=>walk_at "meth")
  (case zeu=>walk_at "meth")
  (case zev=>k_is)
  (case zew=>k_is)
  (case zex=>k_is)
  (case zey=>k_is)
  (case zez=>k_is)
  (case ze0=>k_is)
  (case ze1=>k_is)
  (case ze2=>walk_at "meth")
  (case ze3=>walk_at "meth")
  (case ze4=>k_is)
  (case ze5=>k_is)
  (case ze6=>k_is)
  (case ze7=>k_is)
  (case ze8=>k_is)
  (case ze9=>k_is)
  (case zfa=>k_is)
  (case zfb=>walk_at "meth")
  (case zfc=>walk_at "meth")
  (case zfd=>walk_at "meth")
  (case zfe=>walk_at "meth")
  (case zff=>walk_at "meth")
  (case zfg=>walk_at "meth")
  (case zfh=>walk_at "meth")
  (case zfi=>walk_at "meth")
  (case zfj=>walk_at "meth")
  (case zfk=>walk_at "meth")
  (case zfl=>walk_at "meth")
  (case zfm=>walk_at "meth")
  (case zfn=>walk_at "meth")
  (case zfo=>walk_at "meth")
  (case zfp=>k_is)
  (case zfq=>k_is)
  (case zfr=>k_is)
  (case zfs=>k_is)
  (case zft=>k_is)
  (case zfu=>k_is)
  (case zfv=>k_is)
  (case zac=>k_is)
  (case zad=>k_is)
  (case zae=>k_is)
  (case zaf=>k_is)
  (case zag=>k_is)
  (case zah=>k_is)
  (case zai=>k_is)
  (case zaj=>k_is)
  (case o1=>k_is)
  (case o2=>k_is)
  (case o3=>k_is)
  (case o4=>k_is)
  (case zfw=>k_is)
  (case zfx=>k_is)
  (case zfy=>k_is)
  (case zfz=>k_is)
  (case zf0=>k_is)
  (case zf1=>k_is)
  (case zf2=>k_is)
  (case zf3=>k_is)
  (case zf4=>k_is)
  (case zf5=>k_is)
  (case zf6=>k_is)
  (case zf7=>k_is)
  (case zf8=>k_is)
  (case zf9=>k_is)
  (case zga=>k_is)
  (case zgb=>k_is)
