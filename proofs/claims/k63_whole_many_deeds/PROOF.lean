import PyProof.Rows.All
import Wide.All
import OpenK.AllK
import Wide.FinOn
import Lean
import PyProof.EqAt
import PyProof.EqKinds
import PyProof.TupleCall
import PyProof.NeData
import KE.IntBitsLaws
import KE.KRevSl
import KE.KDictList
import PyProof.DictIter
import PyProof.DictItems
import PyProof.DictWalks
import PyProof.StrLoop
import KE.KPairComp
import PyProof.StrWalks
import KE.KSortKey
import KE.KDictOf
import PyProof.Rows.TupDisplay
import PyProof.DictCompW
import PySem.Challenge.RW_crookroad_k63_whole_many_deeds
set_option Elab.async false
set_option linter.all false
set_option maxRecDepth 100000
local macro_rules|`(tactic|lia)=>`(tactic|first|lia +splitIte|omega)
def aa:=@PySem.wpAny_bind
def ac:=@PySem.Heap.get?_push_of_some
def ae:=@List.length_map
def af:=@Nat.le_refl
def ag:=@PySem.wpAny_pure
def ah:=@PySem.Heap.lt_size
def ai:=@List.mem_cons
def aj:=@if_neg
def ak:=@PySem.Heap.get?_push_size
def al:=@List.getD_eq_getElem?_getD
def am:=@if_pos
def ar:=@Option.some.inj
def au:=@List.getElem?_eq_getElem
def av:=@List.not_mem_nil
def aw:=@List.size_toArray
def ax:=@Nat.ne_of_lt
def ay:=@Bool.false_ne_true
def az:=@Nat.zero_le
def aA:=@List.lookup_cons
def aB:=@Nat.lt_of_lt_of_le
def aC:=@List.mem_singleton
def aD:=@List.map_cons
def aE:=@PySem.boot_len
def aF:=@PySem.W.mg_of
def aG:=@List.length_range
def aH:=@beq_eq_false_iff_ne
def aI:=@Int.mul_le_mul_of_nonneg_right
def aJ:=@List.mem_append_right
def aK:=@List.length_cons
def aL:=@List.mem_range
def aM:=@List.getElem?_map
def aN:=@List.length_append
def aO:=@List.mem_map
def aP:=@PySem.wpAny_mono
def aQ:=@List.nodup_cons
def aR:=@List.map_append
def aS:=@Array.length_toList
def aT:=@Ne.symm
def aU:=@List.getElem?_eq_some_iff
def aV:=@List.mem_cons_of_mem
def aW:=@Nat.lt_irrefl
def aX:=@Int.emod_lt_of_pos
def aY:=@PySem.W.mg_none_of
def aZ:=@decide_eq_true
def ba:=@Bool.and_eq_true
def bb:=@List.nodup_nil
def bc:=@PySem.Paired.length
def bd:=@PySem.PassesOwn.leaving
def bf:=@Int.emod_nonneg
def bg:=@Int.mul_le_mul_of_nonneg_left
def bh:=@Nat.le_of_ble_eq_true
def bi:=@decide_eq_false
def bj:=@List.mem_append
def bn:=@PySem.F.slot_dict_keyiterator_next
def bp:=@Array.getElem?_eq_getElem
def bq:=@List.length_singleton
def br:=@PySem.F.slot_dict_get
def bt:=@List.mem_cons_self
def bu:=@Nat.le_trans
def bv:=@Nat.lt_trans
def bw:=@List.Pairwise.imp_of_mem
def bx:=@List.mem_of_getElem?
def bz:=@PySem.wpAny_typeNameOfWhole_keyiter
def bA:=@PySem.wpAny_dictEntries
def bB:=@PySem.F.plainAttrs_list
def bC:=@Nat.le_of_lt
def bD:=@List.map_nil
def bE:=@PySem.Calls.callWith_builtin
def bF:=@Array.getElem?_eq_none
def bG:=@PySem.wpAny_holding
def bH:=@PySem.F.excBase_ValueError
def bI:=@PySem.tupleKind_room_in1
def bJ:=@Bool.false_eq_true
def bK:=@List.append_ne_nil_of_right_ne_nil
def bL:=@Array.getElem?_toList
def bM:=@List.getElem?_eq_none
def bN:=@Classical.byContradiction
def bO:=@List.mem_filter
def bP:=@PySem.wpAny_passesOwn
def bQ:=@Bool.eq_iff_iff
def bR:=@List.range_succ
def bS:=@List.find?_cons
def bT:=@PySem.wpAny_truthy_bool
def bU:=@PySem.wpAny_newObj_type
def bV:=@Int.toNat_natCast
def bW:=@Int.lt_or_le
def bX:=@List.pairwise_map
def bY:=@List.map_map
def bZ:=@PySem.wpAny_typeNameOf_keyiter
def ca:=@PySem.F.slot_list_append
def cb:=@PySem.F.type_list_append
def ce:=@PySem.mem_of_lookup
def cf:=@List.length_reverse
def cg:=@congrArg
def ck:=@List.length_take
def cm:=@List.all_eq_true
def cn:=@List.filter_cons
def cu:=@or_false
def cv:=@PySem.wpAny_Call_Name_kw
def cw:=@PySem.F.entry_dict_get
def cx:=@PyProof.Rows.boot_list
def cy:=@PySem.wpAny_execs_nil
def cz:=@List.append_nil
def cA:=@Int.mul_ediv_mul_of_pos_left
def cB:=@List.length_filter_le
def cC:=@PyProof.Rows.callWith_type1
def cD:=@List.mem_append_left
def cE:=@List.getElem?_append_right
def cF:=@PySem.Calls.evalArgs_plain
def cG:=@Int.mul_lt_mul_of_pos_left
def cH:=@Array.size_map
def cI:=@Nat.mod_lt
def cJ:=@List.getElem_mem
def cK:=@PySem.call_meetsIn
def cL:=@List.any_eq_true
def cM:=@List.filterMap_cons
def cN:=@PySem.Heap.SameBut.update
def cO:=@List.getElem?_range
def cP:=@List.map_congr_left
def cQ:=@PyProof.Rows.boot_sorted
def cR:=@List.length_set
def cS:=@List.length_nil
def cT:=@PySem.Calls.spliced_cons
def cU:=@Nat.lt_of_le_of_lt
def cV:=@PySem.F.plainAttrs_dict
def cW:=@PySem.wpAny_callSpecial?_slot
def cX:=@if_false
def cY:=@List.reverse_cons
def cZ:=@Int.mul_nonneg
def dc:=@List.pairwise_lt_range
def de:=@PySem.Heap.get?_update_self
def df:=@PySem.codeAny_handlers_test
def dh:=@PyProof.Rows.boot_min
def di:=@PyProof.Rows.boot_max
def dj:=@beq_iff_eq
def dk:=@PySem.wpAny_call_entry
def dm:=@PySem.F.args_dict_keyiterator_next_1
def dn:=@PySem.wpAny_standAt
def dq:=@List.length_dropLast
def du:=@Int.mul_ediv_cancel'
def dv:=@PySem.lookup_relabel_local
def dz:=@PySem.F.entry_dict_keyiterator_next
def dA:=@List.eq_nil_of_length_eq_zero
def dB:=@Nat.div_lt_of_lt_mul
def dC:=@Int.lt_ediv_add_one_mul_self
def dD:=@PySem.W.plainGet_of
def dE:=@PySem.wpAny_handleBy_cons
def dF:=@Int.toNat_of_nonneg
def dG:=@List.getElem_of_mem
def dH:=@Nat.ne_of_gt
def dI:=@PySem.codeAny_mono
def dJ:=@Int.mul_comm
def dL:=@Array.getD_eq_getD_getElem?
def dN:=@PyProof.Rows.assignInOrder_cons
def dO:=@List.mem_filterMap
def dP:=@PySem.Heap.size_push
def dQ:=@PySem.W.callWith_K
def dR:=@Array.getElem?_eq_some_iff
def dS:=@List.getElem?_append_left
def dU:=@PySem.F.slot_dict_delitem
def dX:=@PySem.wpAny_pyIter_list
def dY:=@PySem.Calls.spliced_nil
def dZ:=@PySem.slot_list_getitem
def d3:=@Option.isSome_map
def d5:=@List.length_erase
def d6:=@of_decide_eq_true
def d8:=@Int.mul_assoc
def ed:=@PySem.wpAny_execs_cons
def ef:=@Int.natCast_dvd_natCast
def ei:=@List.take_length
def el:=@PySem.F.args_dict_get_2
def eu:=@PySem.F.args_dict_get_3
def eA:=@PySem.F.slot_dict_items
def eB:=@List.pairwise_singleton
def eC:=@List.cons_ne_nil
def eE:=@List.mem_flatMap
def eF:=@if_true
def eG:=@List.of_mem_zip
def eI:=@Int.natCast_mul
def eJ:=@Int.ediv_nonneg
def eK:=@Int.ediv_mul_le
def eM:=@PySem.wpAny_specialOf
def eN:=@PySem.wpAny_dictEpoch
def eQ:=@List.any_cons
def eU:=@List.map_take
section
open PySem PySem.Spec PyProof.Rows
abbrev Aa:=PySem.W.Frag
abbrev Ab:=PySem.Shared
abbrev Ac:=PySem.Program
abbrev Ad:=PySem.FuncData
abbrev Ae:=Around
abbrev Af:=SortSt
abbrev Ag:=Value
abbrev Ah:=World
abbrev Ai:=Keyed
abbrev Aj:=Addr
end
namespace L2
theorem exI {α:Sort _}{A K:α→Prop}{v:α}(e:A v)(h:K v):∃x,A x∧K x:=⟨v,e,h⟩
theorem wc {α β:Sort _}{A:α→Prop}{B:β→Prop}{K:α→β→Prop}{u:α}{v:β}(a:A u)(b:B v)(h:K u v):∃x y,A x∧B y∧K x y:=⟨u,v,a,b,h⟩
theorem exX {α β γ δ:Sort _}{A:α→Prop}{B:γ→Prop}{C:α→β→Prop}{D:β→γ→δ→Prop}{K:δ→Prop}{p:α}{xs:β}{i:γ}{v:δ}(a:A p)(b:B i)(c:C p xs)(d:D xs i v)(h:K v):∃p xs i v,A p∧B i∧C p xs∧D xs i v∧K v:=⟨p,xs,i,v,a,b,c,d,h⟩
end L2
namespace L2
open PySem PySem.Spec PyProof.Rows
abbrev Key:=Sum Int Str
def Zd:Key→Ag→Bool
 |.inl k,v=>Value.isInt k v
 |.inr x,v=>Value.isStrOf x v
def keyH (w:Ah):Key→Int
 |.inl k=>hashInt k
 |.inr x=>hashStr w x
theorem x9:∀ {k:Key} {v:Ag},Zd k v=true→(∃i t,k=Sum.inl i∧v=Value.int i t)∨(∃x t,k=Sum.inr x∧v=Value.str x t)
 |.inl i,v,h=>by
  obtain ⟨t,e⟩:=Value.isInt_shape (k:=i) (v:=v) h
  exact .inl ⟨i,t,rfl,e⟩
 |.inr x,v,h=>by
  obtain ⟨t,e⟩:=Value.isStrOf_shape (x:=x) (v:=v) h
  exact .inr ⟨x,t,rfl,e⟩
theorem qjz (i:Int)(t:Tok):Zd (.inl i) (.int i t)=true:=by simp [Zd,Value.isInt]
theorem qyx (x:Str)(t:Tok):Zd (.inr x) (.str x t)=true:=by simp [Zd,Value.isStrOf]
theorem key_ll (a b:Int):decide ((Sum.inl a:Key)=Sum.inl b)=(a==b):=by
 by_cases e:a=b
 ·subst e;simp
 ·have h:¬ (Sum.inl a:Key)=Sum.inl b:=λq=>e (Sum.inl.inj q)
  rw [bi h]
  exact (aH.mpr e).symm
theorem key_rr (a b:Str):decide ((Sum.inr a:Key)=Sum.inr b)=decide (a=b):=by
 by_cases e:a=b
 ·subst e;simp
 ·have h:¬ (Sum.inr a:Key)=Sum.inr b:=λq=>e (Sum.inr.inj q)
  rw [bi h,bi e]
theorem key_lr (a:Int)(b:Str):decide ((Sum.inl a:Key)=Sum.inr b)=false:=bi (λq=>nomatch q)
theorem key_rl (a:Str)(b:Int):decide ((Sum.inr a:Key)=Sum.inl b)=false:=bi (λq=>nomatch q)
def xq (prog:Ac)(w:Ah):PySem.KeyKind prog w Key where
 is:=Zd
 hash:=keyH w
 inj:=λv a b ha hb=>by
  rcases x9 ha with ⟨i,t,rfl,rfl⟩|⟨x,t,rfl,rfl⟩
  ·rcases x9 hb with ⟨j,u,rfl,e⟩|⟨y,u,rfl,e⟩
   ·injection e with e1 _;rw [e1]
   ·exact nomatch e
  ·rcases x9 hb with ⟨j,u,rfl,e⟩|⟨y,u,rfl,e⟩
   ·exact nomatch e
   ·injection e with e1 _;rw [e1]
 byValue:=λk v h=>by
  rcases x9 h with ⟨i,t,rfl,rfl⟩|⟨x,t,rfl,rfl⟩ <;> rfl
 pyHash:=λhv h=>by
  rcases x9 hv with ⟨i,t,rfl,rfl⟩|⟨x,t,rfl,rfl⟩
  ·exact wpAny_pyHash_int h
  ·exact wpAny_pyHash_str h
 eqBool:=λhu hv h=>by
  rcases x9 hu with ⟨i,t,rfl,rfl⟩|⟨x,t,rfl,rfl⟩
  ·rcases x9 hv with ⟨j,u,rfl,rfl⟩|⟨y,u,rfl,rfl⟩
   ·rw [key_ll] at h;exact wpAny_eqBool_int h
   ·rw [key_lr] at h;exact SeqAt.EqAt.int_str i t y u _ _ _ _ h
  ·rcases x9 hv with ⟨j,u,rfl,rfl⟩|⟨y,u,rfl,rfl⟩
   ·rw [key_rl] at h;exact SeqAt.EqAt.str_int x t j u _ _ _ _ h
   ·rw [key_rr] at h;exact wpAny_eqBool_str h
 «strs»:=λk x t v h=>by
  rcases x9 h with ⟨i,u,rfl,e⟩|⟨y,u,rfl,e⟩
  ·exact nomatch e
  ·injection e with e1 _
   subst e1
   cases v <;> rfl
theorem qzx (prog:Ac)(w:Ah)(i:Int)(t:Tok):(xq prog w).is (.inl i) (.int i t)=true:=qjz i t
theorem qzp (prog:Ac)(w:Ah)(x:Str)(t:Tok):(xq prog w).is (.inr x) (.str x t)=true:=qyx x t
inductive V where
 |non|bl (b:Bool)|int (i:Int)|str (x:Str)|byt (b:Array UInt8)|flt (b:UInt64)|ref (a:Aj)|ty (n:String)
 deriving DecidableEq
def RelV:V→Ag→Prop
 |.non,u=>u=Value.none
 |.bl b,u=>u=Value.bool b
 |.int i,u=>∃t,u=Value.int i t
 |.str x,u=>∃t,u=Value.str x t
 |.byt b,u=>∃t,u=Value.bytes b t
 |.flt b,u=>∃t,u=Value.float b t
 |.ref a,u=>u=Value.ref a
 |.ty n,u=>u=Value.type n
abbrev Vals:List V→List Ag→Prop:=Paired RelV
theorem Vals.length {xs:List V}{us:List Ag}(r:Vals xs us):xs.length=us.length:=bc r
theorem Vals.get:∀ {xs:List V} {us:List Ag} {i:Nat} {x:V},Vals xs us→xs[i]?=some x→∃u,us[i]?=some u∧RelV x u
 |_,_,_,_,.nil,e=>by simp at e
 |_,_,0,_,.cons r _,e=>by simp at e;subst e;exact ⟨_,rfl,r⟩
 |_,_,i+1,x,.cons _ t,e=>by
  obtain ⟨u,h1,h2⟩:=Vals.get (i:=i) (x:=x) t (by simpa using e)
  exact ⟨u,by simpa using h1,h2⟩
theorem Vals.set {x:V}{u:Ag}(r:RelV x u):∀ {xs:List V} {us:List Ag} (i:Nat),Vals xs us→Vals (xs.set i x) (us.set i u)
 |_,_,_,.nil=>.nil
 |_,_,0,.cons _ t=>.cons r t
 |_,_,i+1,.cons q t=>.cons q (Vals.set r i t)
theorem Vals.append:∀ {xs ys:List V} {us ws:List Ag},Vals xs us→Vals ys ws→Vals (xs++ys) (us++ws)
 |_,_,_,_,.nil,s=>s
 |_,_,_,_,.cons r t,s=>.cons r (Vals.append t s)
theorem Vals.take:∀ {xs:List V} {us:List Ag} (n:Nat),Vals xs us→Vals (xs.take n) (us.take n)
 |_,_,0,_=>.nil
 |_,_,_+1,.nil=>.nil
 |_,_,n+1,.cons r t=>.cons r (Vals.take n t)
theorem Vals.drop:∀ {xs:List V} {us:List Ag} (n:Nat),Vals xs us→Vals (xs.drop n) (us.drop n)
 |_,_,0,r=>r
 |_,_,_+1,.nil=>.nil
 |_,_,n+1,.cons _ t=>Vals.drop n t
def RelO:Option V→Option Ag→Prop
 |some v,some u=>RelV v u
 |none,none=>True
 |_,_=>False
def KV {κ:Type}:List (κ×V)→List (κ×Ag)→Prop:=Paired λ(p:κ×V) (q:κ×Ag)=>p.1=q.1∧RelV p.2 q.2
def kV:Key→V
 |.inl i=>.int i
 |.inr x=>.str x
inductive HO where
 |lst (xs:List V)
 |tup (xs:List V)
 |dK (kvs:List (Key×V))|dT (kvs:List (List Key×V))
 |set (S:Int→Bool) (n:Nat)
 |ins (C dx:Aj) (fs:List (Str×V))
 |own (x:Aj)
 |xd (fs:List (Str×V))
 |met (f x:Aj)
 |rng (lo hi:Int)
 |frz (o:Obj) (u:HO)
 |tbl (ps:Array Ag)
 |ext (φ:Heap→Prop)
abbrev Hp:=Aj→Option HO
def upd (H:Hp)(a:Aj)(o:HO):Hp:=λb=>if b=a then some o else H b
theorem qb {H:Hp}{a:Aj}{o:HO}:upd H a o a=some o:=by unfold upd;rw [am rfl]
theorem wx {H:Hp}{a b:Aj}{o:HO}(h:b≠a):upd H a o b=H b:=by unfold upd;rw [aj h]
theorem jb {H:Hp}{a:Aj}{o u:HO}:upd (upd H a o) a u=upd H a u:=by
 funext b;unfold upd;split <;> rfl
theorem ne_of {H:Hp}{a b:Aj}{o u:HO}(h:H a=some o)(h':H b=some u)(d:o≠u):a≠b:=by
 intro e;subst e;rw [h] at h';exact d (ar h')
theorem qf {H:Hp}{a b:Aj}{o:HO}(h:H a=some o)(h':H b=none):a≠b:=by
 intro e;subst e;rw [h] at h';cases h'
section
variable (P:Ac)(w:Ah)
def ObjOk (H:Hp)(h:Heap)(a:Aj):HO→Prop
 |.lst xs=>xs.length≤sizeLine∧∃(its:List Ag) (n:Nat),Vals xs its∧h.get? a=some { cls:=.type "list",data:=.seq its.toArray n }
 |.tup xs=>xs.length≤sizeLine∧∃its:List Ag,Vals xs its∧IsTup h a its.toArray
 |.dK kvs=>kvs.length≤sizeLine∧(a==sysModules)=false∧∃vs,KV kvs vs∧h.DictOf (xq P w) a vs
 |.dT kvs=>kvs.length≤sizeLine∧(a==sysModules)=false∧∃xs:List (List Key×Aj×Ag),
   Paired (λ(p:List Key×V) (q:List Key×Aj×Ag)=>p.1=q.1∧H q.2.1=some (.tup (p.1.map kV))∧RelV p.2 q.2.2) kvs xs ∧
   ∃o es ep,h.get? a=some o∧o.ExactDict∧o.data=.dict es ep∧es.toList=xs.map (entryOfKey (tupleKind (xq P w)))∧(xs.map (·.1)).Nodup
 |.set S n=>h.SetOf (intKind P w) a S n
 |.ins C dx fs=>H dx=some (.own a)∧fs.length≤1000∧dx≠a∧h.get? a=some (PySem.W.instObj C dx) ∧
   ∃mA,h.Ns1 dx mA∧(∀f,RelO (fs.lookup f) (mA f))∧PySem.Within mA (fs.map (·.1))
 |.own _=>∃o,h.get? a=some o
 |.xd fs=>∃mA,h.Ns1 a mA∧∀f,RelO (fs.lookup f) (mA f)
 |.rng lo hi=>∃t u v,h.get? a=some { cls:=.type "range",data:=.fields #[.int lo t,.int hi u,.int 1 v] }
 |.frz o u=>h.get? a=some o∧ObjOk H h a u
 |.tbl ps=>h.get? a=some { cls:=.none,data:=.fields ps }
 |.met f x=>h.get? a=some (PySem.W.methodObj (.ref f) (.ref x))
 |.ext φ=>φ h∧(∃o,h.get? a=some o)∧∀h1 h2:Heap,φ h1→(∀o,h1.get? a=some o→h2.get? a=some o)→φ h2
def HOk (H:Hp)(h:Heap):Prop:=∀a o,H a=some o→ObjOk P w H h a o
end
section
variable {P:Ac}{w:Ah}{H H':Hp}{h h':Heap}{a:Aj}{o:HO}
theorem ObjOk.lt (x:ObjOk P w H h a o):a<h.objs.size:=by
 cases o with
 |lst xs=>obtain ⟨_,_,_,_,e⟩:=x;exact ah e
 |tup xs=>obtain ⟨_,_,_,p⟩:=x;exact p.lt
 |dK kvs=>obtain ⟨_,_,_,_,o,_,_,e,_⟩:=x;exact ah e
 |dT kvs=>obtain ⟨_,_,_,_,o,_,_,e,_⟩:=x;exact ah e
 |set S n=>obtain ⟨o,_,_,_,e,_⟩:=x;exact ah e
 |ins C dx fs=>obtain ⟨_,_,_,e,_⟩:=x;exact ah e
 |own y=>obtain ⟨_,e⟩:=x;exact ah e
 |xd fs=>obtain ⟨_,⟨_,_,_,e,_⟩,_⟩:=x;exact ah e
 |rng lo hi=>obtain ⟨_,_,_,e⟩:=x;exact ah e
 |frz ob u=>obtain ⟨e,_⟩:=x;exact ah e
 |tbl ps=>exact ah (show h.get? a=some _ from x)
 |met f y=>exact ah (show h.get? a=some _ from x)
 |ext φ=>obtain ⟨_,⟨_,e⟩,_⟩:=x;exact ah e
theorem Paired.mapP {α β:Type}{F G:α→β→Prop}:∀ {l₁:List α} {l₂:List β},Paired F l₁ l₂→(∀a b,F a b→G a b)→Paired G l₁ l₂
 |_,_,.nil,_=>.nil
 |_,_,.cons r t,f=>.cons (f _ _ r) (Paired.mapP t f)
theorem ObjOk.stay (x:ObjOk P w H h a o)(k:∀b u,(b=a∨H b=some (.own a))→h.get? b=some u→h'.get? b=some u)
  (ho:∀b,H b=some (.own a)→H' b=some (.own a)) (ht:∀b xs,H b=some (.tup xs)→H' b=some (.tup xs)):ObjOk P w H' h' a o:=by
 induction o with
 |lst xs=>obtain ⟨z,its,n,r,e⟩:=x;exact ⟨z,its,n,r,k _ _ (.inl rfl) e⟩
 |tup xs=>obtain ⟨z,its,r,ob,e,c⟩:=x;exact ⟨z,its,r,ob,k _ _ (.inl rfl) e,c⟩
 |dK kvs=>obtain ⟨z,y,vs,r,ob,es,ep,e,c⟩:=x;exact ⟨z,y,vs,r,ob,es,ep,k _ _ (.inl rfl) e,c⟩
 |dT kvs =>
  obtain ⟨z,y,xs,r,ob,es,ep,e,c⟩:=x
  exact ⟨z,y,xs,Paired.mapP r λp q z=>⟨z.1,ht _ _ z.2.1,z.2.2⟩,ob,es,ep,k _ _ (.inl rfl) e,c⟩
 |set S n=>obtain ⟨ob,es,ep,t,e,c⟩:=x;exact ⟨ob,es,ep,t,k _ _ (.inl rfl) e,c⟩
 |ins C dx fs =>
  obtain ⟨d,z,ne,e,mA,⟨od,es,ep,e2,c⟩,r⟩:=x
  exact ⟨ho _ d,z,ne,k _ _ (.inl rfl) e,mA,⟨od,es,ep,k _ _ (.inr d) e2,c⟩,r⟩
 |own y=>obtain ⟨ob,e⟩:=x;exact ⟨ob,k _ _ (.inl rfl) e⟩
 |xd fs=>obtain ⟨mA,⟨od,es,ep,e,c⟩,r⟩:=x;exact ⟨mA,⟨od,es,ep,k _ _ (.inl rfl) e,c⟩,r⟩
 |rng lo hi=>obtain ⟨t,u,v,e⟩:=x;exact ⟨t,u,v,k _ _ (.inl rfl) e⟩
 |frz ob u ih=>obtain ⟨e,q⟩:=x;exact ⟨k _ _ (.inl rfl) e,ih q⟩
 |tbl ps =>
  have e:h.get? a=some { cls:=.none,data:=.fields ps }:=x
  show h'.get? a=some { cls:=.none,data:=.fields ps }
  exact k a _ (.inl rfl) e
 |met f y =>
  have e:h.get? a=some (PySem.W.methodObj (.ref f) (.ref y)):=x
  show h'.get? a=some (PySem.W.methodObj (.ref f) (.ref y))
  exact k a _ (.inl rfl) e
 |ext φ=>obtain ⟨p,⟨o,e⟩,st⟩:=x;exact ⟨st _ _ p λo q=>k _ _ (.inl rfl) q,⟨o,k _ _ (.inl rfl) e⟩,st⟩
theorem HOk.lt (x:HOk P w H h)(e:H a=some o):a<h.objs.size:=(x a o e).lt
theorem HOk.fresh (x:HOk P w H h)(e:h.objs.size≤a):H a=none:=by
 cases q:H a with
 |none=>rfl
 |some u=>exact absurd (aB (x.lt q) e) (aW _)
theorem HOk.kept (x:HOk P w H h)(k:∀b u,h.get? b=some u→h'.get? b=some u):HOk P w H h':=λa o e =>
 (x a o e).stay (λb u _ q=>k b u q) (λ_ q=>q) λ_ _ q=>q
theorem HOk.laid (x:HOk P w H h)(k:∀b u,h.get? b=some u→h'.get? b=some u)(hp:h.objs.size≤a)(new:ObjOk P w (upd H a o) h' a o):HOk P w (upd H a o) h':=λb u e=>by
 have hn:=x.fresh hp
 by_cases hb:b=a
 ·subst hb;rw [qb] at e;cases e;exact new
 ·rw [wx hb] at e
  exact (x b u e).stay (λc v _ q=>k c v q) (λc q=>by rw [wx (qf q hn)];exact q) λc xs q=>by rw [wx (qf q hn)];exact q
end
def Rd (H:Hp)(a:Aj)(u:HO):Prop:=H a=some u∨∃o,H a=some (.frz o u)
theorem Rd.ok {P:Ac}{w:Ah}{H:Hp}{h:Heap}{a:Aj}{u:HO}(r:Rd H a u)(x:HOk P w H h):ObjOk P w H h a u:=by
 rcases r with r|⟨o,r⟩
 ·exact x a u r
 ·obtain ⟨_,q⟩:=x a _ r
  exact q
def Mut:Option HO→Prop
 |some (.lst _)=>True
 |some (.dK _)=>True
 |some (.dT _)=>True
 |some (.set _ _)=>True
 |some (.ins _ _ _)=>True
 |some (.ext _)=>True
 |_=>False
section
variable {P:Ac}{w:Ah}{H:Hp}{h h':Heap}{x e:Aj}{o':HO}
theorem HOk.write (ok:HOk P w H h)(mu:Mut (H x))(he:e=x∨H e=some (.own x))(k:∀b u,b≠e→h.get? b=some u→h'.get? b=some u)(heo:∃u,h'.get? e=some u)
  (new:ObjOk P w (upd H x o') h' x o'):HOk P w (upd H x o') h':=λb u q=>by
 have nown:∀c y,H c=some (.own y)→c≠x:=λc y r z=>by subst z;rw [r] at mu;exact mu
 have ntup:∀c xs,H c=some (.tup xs)→c≠x:=λc xs r z=>by subst z;rw [r] at mu;exact mu
 by_cases hb:b=x
 ·subst hb;rw [qb] at q;cases q;exact new
 ·rw [wx hb] at q
  by_cases hbe:b=e
  ·have q':H b=some (.own x):=by
    rcases he with z|z
    ·exact absurd (hbe.trans z) hb
    ·rw [hbe];exact z
   rw [q] at q';cases q'
   obtain ⟨v,hv⟩:=heo
   exact ⟨v,by rw [hbe];exact hv⟩
  ·refine (ok b u q).stay (λc v hc r=>k c v ?_ r) (λc r=>by rw [wx (nown c b r)];exact r) λc xs r=>by rw [wx (ntup c xs r)];exact r
   rcases hc with rfl|hc
   ·exact hbe
   ·rintro rfl
    rcases he with z|z
    ·exact nown c b hc z
    ·rw [hc] at z;cases z;exact hb rfl
end
structure Un (fs ex:List Aj)(H H':Hp)(h h':Heap):Prop where
 keep:∀b o,h.get? b=some o→H b=none→b∉fs→b∉ex→h'.get? b=some o
 slot:∀b o,h.get? b=some o→H b=none→b∈fs→b∉ex→∃sl,h'.get? b=some { o with slots:=sl }
 free:∀b o,h.get? b=some o→H b=none→b∉ex→H' b=none
 there:∀b o,h.get? b=some o→b∉ex→∃o',h'.get? b=some o'
 tups:∀b xs,H b=some (.tup xs)→H' b=some (.tup xs)
 frzs:∀b o u,H b=some (.frz o u)→H' b=some (.frz o u)
 tbls:∀b ps,H b=some (.tbl ps)→∃more,H' b=some (.tbl (ps++more))
section
variable {fs fs' ex ex':List Aj}{H H1 H2:Hp}{h h1 h2 h':Heap}{a x e:Aj}{o:HO}
theorem Un.any (u:Un fs ex H H1 h h1){b:Aj}{ob:Obj}(q:h.get? b=some ob)(n:H b=none)(hx:b∉ex):∃sl,h1.get? b=some { ob with slots:=sl }:=by
 by_cases hb:b∈fs
 ·exact u.slot b ob q n hb hx
 ·exact ⟨ob.slots,u.keep b ob q n hb hx⟩
theorem Un.kept (k:∀b u,h.get? b=some u→h'.get? b=some u):Un fs ex H H h h' :=
 ⟨λb ob q _ _ _=>k b ob q,λb ob q _ _ _=>⟨ob.slots,k b ob q⟩,λ_ _ _ n _=>n,λb ob q _=>⟨ob,k b ob q⟩,λ_ _ q=>q,λ_ _ _ q=>q,λ_ ps q=>⟨#[],by rw [q];simp⟩⟩
theorem Un.refl:Un fs ex H H h h:=Un.kept λ_ _ q=>q
theorem Un.laid (k:∀b u,h.get? b=some u→h'.get? b=some u)(hp:h.objs.size≤a)(hn:H a=none):Un fs ex H (upd H a o) h h' where
 keep:=λb u q _ _ _=>k b u q
 slot:=λb u q _ _ _=>⟨u.slots,k b u q⟩
 free:=λb u q n _=>by rw [wx (ax (aB (ah q) hp))];exact n
 there:=λb u q _=>⟨u,k b u q⟩
 tups:=λb xs q=>by rw [wx (qf q hn)];exact q
 frzs:=λb u xs q=>by rw [wx (qf q hn)];exact q
 tbls:=λb ps q=>⟨#[],by rw [wx (qf q hn),q];simp⟩
theorem Un.write (mu:Mut (H x))(he:e=x∨H e=some (.own x))(k:∀b u,b≠e→h.get? b=some u→h'.get? b=some u)(heo:∃u,h'.get? e=some u):Un fs ex H (upd H x o) h h':=by
 have hx:∀b,H b=none→b≠x:=λb n z=>by subst z;rw [n] at mu;exact mu
 have hb:∀b,H b=none→b≠e:=λb n z=>by
  subst z
  rcases he with r|r
  ·exact hx b n r
  ·rw [n] at r;cases r
 have hm:∀b u,H b=some u→¬ Mut (some u)→b≠x:=λb u q nm z=>by subst z;rw [q] at mu;exact nm mu
 refine ⟨λb u q n _ _=>k b u (hb b n) q,λb u q n _ _=>⟨u.slots,k b u (hb b n) q⟩,λb u q n _=>by rw [wx (hx b n)];exact n,λb u q _=>?_,
  λb xs q=>by rw [wx (hm b _ q λz=>z)];exact q,λb u xs q=>by rw [wx (hm b _ q λz=>z)];exact q,λb ps q=>⟨#[],by rw [wx (hm b _ q λz=>z),q];simp⟩⟩
 by_cases hbe:b=e
 ·subst hbe;exact heo
 ·exact ⟨u,k b u hbe q⟩
end
def trk (h:Heap)(H:Hp):List Aj:=(List.range h.objs.size).filter λa=>(H a).isSome
def qww (h:Heap)(H:Hp):Heap:=PySem.W.hideAll h (trk h H)
theorem qyg (h:Heap)(H:Hp):(qww h H).objs.size=h.objs.size:=PySem.W.hideAll_size _ _
theorem wqu {h:Heap}{H:Hp}{b:Aj}{o:Obj}(e:h.get? b=some o)(n:H b=none):(qww h H).get? b=some o :=
 PySem.W.hideAll_get _ e λhm=>by
  have q:(H b).isSome=true:=(bO.mp hm).2
  rw [n] at q;simp at q
theorem wwt {h:Heap}{H:Hp}{b:Aj}{o:Obj}(e:(qww h H).get? b=some o):h.get? b=some o∧H b=none:=by
 have e':h.get? b=some o:=PySem.W.of_hideAll (trk h H) e
 refine ⟨e',?_⟩
 cases q:H b with
 |none=>rfl
 |some x =>
  have hm:b∈trk h H:=bO.mpr ⟨aL.mpr (ah e'),by simp [q]⟩
  have z:(qww h H).get? b=none:=PySem.W.hideAll_none (trk h H) hm
  rw [z] at e;cases e
def wx8 (g h:Heap)(L:Aj):List (Aj×Obj):=(List.range h.objs.size).filterMap λa=>if a=L∨(g.get? a).isSome=true then none else (h.get? a).map λo=>(a,o)
def rest (g h:Heap)(L d:Aj):List (Aj×Obj):=(wx8 g h L).filter λp=>decide (p.1≠d)
structure Mod (K:Aa)(mg:Str→Option Ag)(base:Heap):Prop where
 kin:K.In base
 glob:base.Ns mainGlobals mg
 blt:∃mb,base.Ns builtinsNs mb∧∀x:Str,x ≠ "__name__" → mb x=bootBuiltins x
 nolimit:base.NoLimit
structure Cx where
 prog:Ac
 w:Ah
 K:Aa
 mg:Str→Option Ag
 base:Heap
 A:Ae
 N:List Str
 s₀:Ab
 H₀:Hp
 env:Env
 outer:List Env
 stack:List Env
 ex:List Aj
 fn:Str→Bool
 calm:Bool
 pn:List (Aj×Obj)
 xe:Ag→Ab→Prop
def frs (l:List Env):List Aj:=l.filterMap (·.frame)
abbrev Cx.fs (X:Cx):List Aj:=frs X.outer
def Vis (sc:Scope)(x:Str):Prop:=sc.names.lookup x=some .local∨sc.names.lookup x=some .cell∨sc.names.lookup x=some .free
def Loc (sc:Scope)(x:Str):Prop:=sc.names.lookup x=some .local∨sc.names.lookup x=some .cell
def Look (env:Env)(h:Heap)(m:Str→Option Ag)(x:Str)(u:Ag):Prop :=
 (env.kindOf x=some .local∧m x=some u)∨((env.kindOf x=some .cell∨env.kindOf x=some .free)∧∃c,env.cells.lookup x=some c∧h.IsCell c (some u))
structure Cx.Ok (X:Cx):Prop where
 mod:Mod X.K X.mg X.base
 kind:X.env.scope.kind=.function
 glob:X.env.globals=mainGlobals
 blt:X.env.builtins=builtinsNs
 above:X.s₀.heap.objs.size≤X.env.locals
 inj:∀x y c,X.env.cells.lookup x=some c→X.env.cells.lookup y=some c→x=y
 has:∀x,(X.env.kindOf x=some .cell∨X.env.kindOf x=some .free)→∃c,X.env.cells.lookup x=some c
 cab:∀x c,X.fn x=true→X.env.cells.lookup x=some c→X.s₀.heap.objs.size≤c
 hd:X.calm=true→X.A.handled=none
 frames:X.A.frames=some X.stack
 stk:X.stack=X.outer∨(X.stack=X.env::X.outer∧X.env.frame=some X.env.locals)
 exf:∀b∈X.ex,b≠X.env.locals∧∀x c,X.env.cells.lookup x=some c→c≠b
 bs:∀b o,X.base.get? b=some o→X.s₀.heap.get? b=some o∧X.H₀ b=none
 bsz:X.base.objs.size≤X.s₀.heap.objs.size
 noex:∀b o,X.base.get? b=some o→b∉X.ex
 exfs:∀b∈X.ex,b∉X.fs
 funs:X.s₀.heap.FunFrames X.base X.outer
 frf:∀b∈X.fs,X.H₀ b=none
structure Inv (X:Cx)(pins:List (Aj×Obj))(σ:List (Option V))(H:Hp)(s:Ab):Prop where
 ok:X.Ok
 os:s.os=X.s₀.os
 bare:AllBare s.gens
 base:Un X.fs X.ex X.H₀ H X.s₀.heap s.heap
 loc:∃m,s.heap.Ns X.env.locals m∧∀(i:Nat) (x:Str) (v:V),X.N[i]?=some x→σ[i]?=some (some v)→Vis X.env.scope x→∃u,RelV v u∧Look X.env s.heap m x u
 cell:∀x c,X.env.cells.lookup x=some c→∃v,s.heap.IsCell c v
 free:H X.env.locals=none
 freeC:∀x c,X.env.cells.lookup x=some c→H c=none
 pin:∀p∈X.pn++pins,s.heap.get? p.1=some p.2∧H p.1=none∧p.1≠X.env.locals∧p.1∉X.fs∧∀v,p.2.data≠.cell v
 hok:HOk X.prog X.w H s.heap
 len:σ.length=X.N.length
section
variable {X:Cx}{pins:List (Aj×Obj)}{σ:List (Option V)}{H H':Hp}{s:Ab}{h':Heap}
theorem Cx.Ok.nofr (ok:X.Ok){b:Aj}{o:Obj}(e:X.base.get? b=some o):b∉X.fs:=λhb=>by
 have:=(ok.funs.mem hb).1
 rw [e] at this;cases this
theorem Inv.bs (I:Inv X pins σ H s):∀b o,X.base.get? b=some o→s.heap.get? b=some o∧H b=none:=λb o e =>
 ⟨I.base.keep b o (I.ok.bs b o e).1 (I.ok.bs b o e).2 (I.ok.nofr e) (I.ok.noex b o e),I.base.free b o (I.ok.bs b o e).1 (I.ok.bs b o e).2 (I.ok.noex b o e)⟩
theorem Inv.bk (I:Inv X pins σ H s):∀b o,X.base.get? b=some o→s.heap.get? b=some o:=λb o e=>(I.bs b o e).1
theorem Inv.mod (I:Inv X pins σ H s):Mod X.K X.mg X.base:=I.ok.mod
theorem Inv.kIn (I:Inv X pins σ H s):X.K.In s.heap:=I.ok.mod.kin.keeps I.bk
theorem Inv.lt (I:Inv X pins σ H s):X.env.locals<s.heap.objs.size:=let ⟨_,hn,_⟩:=I.loc;hn.lt
theorem Inv.sz (I:Inv X pins σ H s):X.s₀.heap.objs.size≤s.heap.objs.size:=bu I.ok.above (bC I.lt)
theorem Inv.nofs (I:Inv X pins σ H s){a:Aj}(h:s.heap.objs.size≤a):a∉X.fs:=λhb=>by
 obtain ⟨_,o,ho,_⟩:=I.ok.funs.mem hb
 exact absurd (aB (ah ho) (bu I.sz h)) (aW _)
theorem Inv.cne (I:Inv X pins σ H s):∀x c,X.env.cells.lookup x=some c→c≠X.env.locals:=λx c e z=>by
 obtain ⟨v,o,ho,hd⟩:=I.cell x c e
 obtain ⟨m,⟨o',es,ep,ho',hd',_⟩,_⟩:=I.loc
 rw [z,ho'] at ho;cases ho;rw [hd'] at hd;cases hd
theorem Inv.funs (I:Inv X pins σ H s):s.heap.FunFrames X.base X.outer:=by
 have all:∀(l:List Env),(∀b∈frs l,b∈X.fs)→X.s₀.heap.FunFrames X.base l→s.heap.FunFrames X.base l:=by
  intro l
  induction l with
  |nil=>intro _ _;trivial
  |cons env r ih =>
   intro hs hl
   obtain ⟨hk,⟨L,o,hf,hn,ho,hd⟩,hr⟩:=hl
   have hL:L∈X.fs:=hs L (by unfold frs;rw [cM,hf];exact bt)
   obtain ⟨sl,e⟩:=I.base.slot L o ho (I.ok.frf L hL) hL λz=>I.ok.exfs L z hL
   exact ⟨hk,⟨L,_,hf,hn,e,hd⟩,ih (λb hb=>hs b (by unfold frs;rw [cM,hf];exact aV _ hb)) hr⟩
 exact all X.outer (λ_ hb=>hb) I.ok.funs
theorem Inv.stack (I:Inv X pins σ H s):s.heap.FunFrames X.base X.stack:=by
 rcases I.ok.stk with e|⟨e,hf⟩
 ·rw [e];exact I.funs
 ·rw [e]
  obtain ⟨m,hn,_⟩:=I.loc
  refine .cons (by rw [I.ok.kind];decide) hf hn ?_ I.funs
  exact Heap.get?_none_of_le (bu I.ok.bsz I.ok.above)
theorem Inv.stkSub (I:Inv X pins σ H s):∀b∈frs X.stack,b∈X.env.locals::X.fs:=λb hb=>by
 rcases I.ok.stk with e|⟨e,hf⟩
 ·rw [e] at hb;exact aV _ hb
 ·rw [e] at hb
  unfold frs at hb
  rw [cM,hf] at hb
  exact hb
theorem Inv.stkFree (I:Inv X pins σ H s):∀b∈frs X.stack,H b=none:=λb hb=>by
 rcases ai.mp (I.stkSub b hb) with e|hb
 ·rw [e];exact I.free
 ·obtain ⟨_,o,ho,_⟩:=I.ok.funs.mem hb
  exact I.base.free b o ho (I.ok.frf b hb) λz=>I.ok.exfs b z hb
theorem Inv.step {g':Array GenState}{t':Nat}{d':Drawn}{ch:List Aj}(I:Inv X pins σ H s)
  (hch:∀b∈ch,(b∈X.ex∨X.s₀.heap.objs.size≤b)∧b≠X.env.locals∧(∀x c,X.env.cells.lookup x=some c→c≠b)∧∀p∈X.pn++pins,p.1≠b)
  (keep:∀b o,b≠X.env.locals→b∉X.fs→b∉ch→s.heap.get? b=some o→H b=none→h'.get? b=some o)
  (slot:∀b o,b≠X.env.locals→b∈X.fs→b∉ch→s.heap.get? b=some o→H b=none→∃sl,h'.get? b=some { o with slots:=sl }) (free:∀b o,b∉ch→s.heap.get? b=some o→H b=none→H' b=none)
  (there:∀b o,b∉ch→s.heap.get? b=some o→∃o',h'.get? b=some o')
  (tups:∀b xs,H b=some (.tup xs)→H' b=some (.tup xs)) (frzs:∀b o u,H b=some (.frz o u)→H' b=some (.frz o u)) (tbls:∀b ps,H b=some (.tbl ps)→∃more,H' b=some (.tbl (ps++more)))
  (ns:∀m,s.heap.Ns X.env.locals m→h'.Ns X.env.locals m) (hok:HOk X.prog X.w H' h') (hg:AllBare g') :
  Inv X pins σ H' { s with heap:=h',gens:=g',drawn:=d',toks:=t' }:=by
 have neL:∀b o,X.s₀.heap.get? b=some o→b≠X.env.locals:=λb o e=>ax (aB (ah e) I.ok.above)
 have neC:∀b o,X.s₀.heap.get? b=some o→b∉X.ex→b∉ch:=λb o e hx hb=>by
  rcases (hch b hb).1 with z|z
  ·exact hx z
  ·exact absurd (aB (ah e) z) (aW _)
 have cellK:∀x c,X.env.cells.lookup x=some c→∀v,s.heap.IsCell c v→h'.IsCell c v:=λx c e v ⟨o,ho,hd⟩=>by
  have nch:c∉ch:=λz=>(hch c z).2.2.1 x c e rfl
  by_cases hc:c∈X.fs
  ·obtain ⟨sl,q⟩:=slot c o (I.cne x c e) hc nch ho (I.freeC x c e)
   exact ⟨_,q,hd⟩
  ·exact ⟨o,keep c o (I.cne x c e) hc nch ho (I.freeC x c e),hd⟩
 refine ⟨I.ok,I.os,hg,⟨λb o e n hb hx=>?_,λb o e n hb hx=>?_,λb o e n hx=>?_,λb o e hx=>?_,λb xs e=>tups b xs (I.base.tups b xs e),λb o xs e=>frzs b o xs (I.base.frzs b o xs e),λb ps e=>?_⟩,?_,λx c e=>?_,?_,λx c e=>?_,λp hp=>?_,hok,I.len⟩
 ·exact keep b o (neL b o e) hb (neC b o e hx) (I.base.keep b o e n hb hx) (I.base.free b o e n hx)
 ·obtain ⟨sl,e1⟩:=I.base.slot b o e n hb hx
  obtain ⟨sl',e2⟩:=slot b _ (neL b o e) hb (neC b o e hx) e1 (I.base.free b o e n hx)
  exact ⟨sl',e2⟩
 ·obtain ⟨o',e1⟩:=I.base.there b o e hx
  exact free b o' (neC b o e hx) e1 (I.base.free b o e n hx)
 ·obtain ⟨o',e1⟩:=I.base.there b o e hx
  exact there b o' (neC b o e hx) e1
 ·obtain ⟨m1,e1⟩:=I.base.tbls b ps e
  obtain ⟨m2,e2⟩:=tbls b _ e1
  exact ⟨m1++m2,by rw [e2,Array.append_assoc]⟩
 ·obtain ⟨m,hn,hl⟩:=I.loc
  refine ⟨m,ns m hn,λi x v e1 e2 e3=>?_⟩
  obtain ⟨u,r,l⟩:=hl i x v e1 e2 e3
  refine ⟨u,r,?_⟩
  rcases l with l|⟨k,c,e,z⟩
  ·exact .inl l
  ·exact .inr ⟨k,c,e,cellK x c e _ z⟩
 ·obtain ⟨v,z⟩:=I.cell x c e
  exact ⟨v,cellK x c e v z⟩
 ·obtain ⟨m,⟨o,_,_,ho,_⟩,_⟩:=I.loc
  exact free _ o (λz=>(hch _ z).2.1 rfl) ho I.free
 ·obtain ⟨v,o,ho,hd⟩:=I.cell x c e
  exact free c o (λz=>(hch c z).2.2.1 x c e rfl) ho (I.freeC x c e)
 ·obtain ⟨e,n,ne,nf,d⟩:=I.pin p hp
  have nch:p.1∉ch:=λz=>(hch p.1 z).2.2.2 p hp rfl
  exact ⟨keep p.1 p.2 ne nf nch e n,free p.1 p.2 nch e n,ne,nf,d⟩
theorem Inv.un {t':Nat}(I:Inv X pins σ H s)(u:Un X.fs [] H H' s.heap h')(hok:HOk X.prog X.w H' h'):Inv X pins σ H' { s with heap:=h',toks:=t' }:=by
 obtain ⟨m,⟨o,es,ep,ho,r⟩,_⟩:=id I.loc
 obtain ⟨sl,hL⟩:=u.any ho I.free (by simp)
 exact I.step (g':=s.gens) (d':=s.drawn) (ch:=[]) (λ_ z=>nomatch z) (λb o _ hb _ e n=>u.keep b o e n hb (by simp)) (λb o _ hb _ e n=>u.slot b o e n hb (by simp)) (λb o _ e n=>u.free b o e n (by simp)) (λb o _ e=>u.there b o e (by simp)) u.tups u.frzs u.tbls (λm' hm=>by
  obtain ⟨o',es',ep',ho',r'⟩:=hm
  rw [ho] at ho';cases ho'
  exact ⟨_,es',ep',hL,r'⟩) hok I.bare
theorem Inv.call {g':Array GenState}{t':Nat}{d':Drawn}{ch:List Aj}(I:Inv X pins σ H s)(u:Un (frs X.stack) ch H H' s.heap h')(hok:HOk X.prog X.w H' h')(hg:AllBare g')
  (hch:∀b∈ch,(b∈X.ex∨X.s₀.heap.objs.size≤b)∧b≠X.env.locals∧(∀x c,X.env.cells.lookup x=some c→c≠b)∧∀p∈X.pn++pins,p.1≠b) :
  Inv X pins σ H' { s with heap:=h',gens:=g',drawn:=d',toks:=t' }:=by
 obtain ⟨m,⟨o,es,ep,ho,r⟩,_⟩:=id I.loc
 obtain ⟨sl,hL⟩:=u.any ho I.free λz=>(hch _ z).2.1 rfl
 exact I.step (ch:=ch) hch (λb o hL hb hc e n=>u.keep b o e n (λz=>(ai.mp (I.stkSub b z)).elim hL hb) hc) (λb o _ _ hc e n=>u.any e n hc) (λb o hc e n=>u.free b o e n hc) (λb o hc e=>u.there b o e hc) u.tups u.frzs u.tbls (λm' hm=>by
  obtain ⟨o',es',ep',ho',r'⟩:=hm
  rw [ho] at ho';cases ho'
  exact ⟨_,es',ep',hL,r'⟩) hok hg
theorem Inv.turned {t':Nat}{it:Aj}(I:Inv X pins σ H s)(k:∀b o,b≠it→s.heap.get? b=some o→h'.get? b=some o)(hn:H it=none)(hL:it≠X.env.locals)
  (h1:it∈X.ex∨X.s₀.heap.objs.size≤it) (h2:∀x c,X.env.cells.lookup x=some c→c≠it) (h3:∀p∈X.pn++pins,p.1≠it):Inv X pins σ H { s with heap:=h',toks:=t' }:=by
 have nit:∀b u,H b=some u→b≠it:=λb u e z=>by rw [z,hn] at e;cases e
 refine I.step (g':=s.gens) (d':=s.drawn) (ch:=[it]) (λb hb=>?_) (λb o _ _ hc e _=>k b o (λz=>hc (by simp [z])) e) (λb o _ _ hc e _=>⟨o.slots,k b o (λz=>hc (by simp [z])) e⟩) (λ_ _ _ _ n=>n)
  (λb o hc e=>⟨o,k b o (λz=>hc (by simp [z])) e⟩) (λ_ _ e=>e) (λ_ _ _ e=>e) (λb ps e=>⟨#[],by rw [e];simp⟩) (λm hm=>?_) (λb u e=>?_) I.bare
 ·have e:b=it:=by simpa using hb
  subst e
  exact ⟨h1,hL,h2,h3⟩
 ·obtain ⟨o,es,ep,ho,r⟩:=hm
  exact ⟨o,es,ep,k _ o (aT hL) ho,r⟩
 ·refine (I.hok b u e).stay (λc v hc q=>k c v ?_ q) (λ_ q=>q) λ_ _ q=>q
  rcases hc with z|z
  ·rw [z];exact nit b u e
  ·exact nit c _ z
theorem Inv.tok (I:Inv X pins σ H s)(t:Nat):Inv X pins σ H { s with toks:=t }:=I.un (h':=s.heap) (t':=t) Un.refl I.hok
theorem Inv.kept {t':Nat}(I:Inv X pins σ H s)(k:∀b u,s.heap.get? b=some u→h'.get? b=some u):Inv X pins σ H { s with heap:=h',toks:=t' }:=I.un (Un.kept k) (I.hok.kept k)
theorem Inv.laid {a:Aj}{o:HO}{t':Nat}(I:Inv X pins σ H s)(k:∀b u,s.heap.get? b=some u→h'.get? b=some u)(hp:s.heap.objs.size≤a)(new:ObjOk X.prog X.w (upd H a o) h' a o) :
  Inv X pins σ (upd H a o) { s with heap:=h',toks:=t' }:=I.un (Un.laid k hp (I.hok.fresh hp)) (I.hok.laid k hp new)
theorem Inv.write {x e:Aj}{o:HO}{t':Nat}(I:Inv X pins σ H s)(mu:Mut (H x))(he:e=x∨H e=some (.own x))(k:∀b u,b≠e→s.heap.get? b=some u→h'.get? b=some u)(heo:∃u,h'.get? e=some u)
  (new:ObjOk X.prog X.w (upd H x o) h' x o):Inv X pins σ (upd H x o) { s with heap:=h',toks:=t' }:=I.un (Un.write mu he k heo) (I.hok.write mu he k heo new)
theorem Inv.weak {σ':List (Option V)}(I:Inv X pins σ H s)(hl:σ'.length=σ.length)(w:∀(i:Nat) v,σ'[i]?=some (some v)→σ[i]?=some (some v)):Inv X pins σ' H s :=
 ⟨I.ok,I.os,I.bare,I.base,let ⟨m,hn,hl'⟩:=I.loc;⟨m,hn,λi x v e1 e2 e3=>hl' i x v e1 (w i v e2) e3⟩,I.cell,I.free,I.freeC,I.pin,I.hok,hl.trans I.len⟩
theorem Inv.pins_of {pins':List (Aj×Obj)}(I:Inv X pins σ H s)(h:∀p∈pins',s.heap.get? p.1=some p.2∧H p.1=none∧p.1≠X.env.locals∧p.1∉X.fs∧∀v,p.2.data≠.cell v):Inv X pins' σ H s :=
 ⟨I.ok,I.os,I.bare,I.base,I.loc,I.cell,I.free,I.freeC,λp hp=>(bj.mp hp).elim (λz=>I.pin p (cD _ z)) (h p),I.hok,I.len⟩
theorem qxj {N:List Str}(hN:N.Nodup){i j:Nat}{x:Str}(a:N[i]?=some x)(b:N[j]?=some x):i=j:=by
 obtain ⟨h1,e1⟩:=aU.mp a
 obtain ⟨h2,e2⟩:=aU.mp b
 exact (List.getElem_inj hN).mp (e1.trans e2.symm)
theorem qjm {M:Model}{A:Ae}{E:Ag→Ab→Prop}{i:Nat}{x:Str}{v:V}{u:Ag}{Q:Unit→Ab→Prop}(I:Inv X pins σ H s)(hN:X.N.Nodup)(hi:X.N[i]?=some x)(hx:Loc X.env.scope x)(r:RelV v u)
  (h:∀s',Inv X pins (σ.set i (some v)) H s'→(∃a,Heap.SameBut a s.heap s'.heap∧(a=X.env.locals∨X.env.cells.lookup x=some a))→Q () s') (hf:X.fn x=true∨X.env.scope.names.lookup x=some .local:=by first | exact .inl rfl | exact .inr rfl | assumption):wpAny M A (storeName X.env x u) Q E s:=by
 obtain ⟨m,hn,hl⟩:=id I.loc
 have hcls:(X.env.scope.kind==.class||(X.env.scope.kind==.module&&X.env.locals != X.env.globals))=false:=by rw [I.ok.kind];rfl
 have hiσ:i<σ.length:=by rw [I.len];exact (aU.mp hi).1
 have cne:=I.cne
 have tracked:∀ {a:Aj} {h':Heap},(∃o,s.heap.get? a=some o∧H a=none)→Heap.SameBut a s.heap h'→HOk X.prog X.w H h':=λ{a h'} ha hs b ob e=>by
  obtain ⟨_,_,hfree⟩:=ha
  refine (I.hok b ob e).stay (λc w' hc q=>(hs.2 c ?_).trans q) (λ_ q=>q) λ_ _ q=>q
  rintro rfl
  rcases hc with rfl|hc
  ·rw [hfree] at e;cases e
  ·rw [hfree] at hc;cases hc
 rcases hx with hk|hk
 ·refine wpAny_storeName_local hk hn (λh' hn' hs=>?_) hcls
  obtain ⟨oL,_,_,hoL,_⟩:=id hn
  refine h _ ⟨I.ok,I.os,I.bare,⟨λb o e n hb hx=>?_,λb o e n hb hx=>?_,I.base.free,λb o e hx=>?_,I.base.tups,I.base.frzs,I.base.tbls⟩,⟨_,hn',λj y v' e1 e2 e3=>?_⟩,λy c e=>?_,I.free,I.freeC,λp hp=>?_,tracked ⟨oL,hoL,I.free⟩ hs,by simpa using I.len⟩ ⟨_,hs,.inl rfl⟩
  ·exact (hs.2 b (ax (aB (ah e) I.ok.above))).trans (I.base.keep b o e n hb hx)
  ·obtain ⟨sl,e1⟩:=I.base.slot b o e n hb hx
   exact ⟨sl,(hs.2 b (ax (aB (ah e) I.ok.above))).trans e1⟩
  ·obtain ⟨o',e1⟩:=I.base.there b o e hx
   exact ⟨o',(hs.2 b (ax (aB (ah e) I.ok.above))).trans e1⟩
  ·by_cases hj:j=i
   ·subst hj
    rw [hi] at e1;cases e1
    rw [List.getElem?_set_self hiσ] at e2
    cases e2
    exact ⟨u,r,.inl ⟨hk,by simp⟩⟩
   ·rw [List.getElem?_set_ne (aT hj)] at e2
    obtain ⟨u',r',q⟩:=hl j y v' e1 e2 e3
    refine ⟨u',r',?_⟩
    rcases q with ⟨k,e⟩|⟨k,c,e,z⟩
    ·refine .inl ⟨k,?_⟩
     have:y≠x:=λe=>hj (qxj hN e1 (e▸hi))
     simp [this,e]
    ·exact .inr ⟨k,c,e,z.sameBut hs (cne y c e)⟩
  ·obtain ⟨w',z⟩:=I.cell y c e
   exact ⟨w',z.sameBut hs (cne y c e)⟩
  ·obtain ⟨e,n,ne,nf,d⟩:=I.pin p hp
   exact ⟨(hs.2 p.1 ne).trans e,n,ne,nf,d⟩
 ·have hfn:X.fn x=true:=by
   rcases hf with z|z
   ·exact z
   ·rw [z] at hk;cases hk
  obtain ⟨c,hc⟩:=I.ok.has x (.inl hk)
  obtain ⟨w',z⟩:=I.cell x c hc
  refine wpAny_storeName_cell I.ok.kind hk hc z (λh' hc' hs=>?_)
  obtain ⟨oc,hoc,hocd⟩:=id z
  refine h { s with heap:=h' } ⟨I.ok,I.os,I.bare,⟨λb o e n hb hx=>?_,λb o e n hb hx=>?_,I.base.free,λb o e hx=>?_,I.base.tups,I.base.frzs,I.base.tbls⟩,⟨m,hn.sameBut hs (aT (cne x c hc)),λj y v' e1 e2 e3=>?_⟩,λy c' e=>?_,I.free,I.freeC,λp hp=>?_,tracked ⟨oc,hoc,I.freeC x c hc⟩ hs,by simpa using I.len⟩ ⟨c,hs,.inr hc⟩
  ·exact (hs.2 b (ax (aB (ah e) (I.ok.cab x c hfn hc)))).trans (I.base.keep b o e n hb hx)
  ·obtain ⟨sl,e1⟩:=I.base.slot b o e n hb hx
   exact ⟨sl,(hs.2 b (ax (aB (ah e) (I.ok.cab x c hfn hc)))).trans e1⟩
  ·obtain ⟨o',e1⟩:=I.base.there b o e hx
   exact ⟨o',(hs.2 b (ax (aB (ah e) (I.ok.cab x c hfn hc)))).trans e1⟩
  ·by_cases hj:j=i
   ·subst hj
    rw [hi] at e1;cases e1
    rw [List.getElem?_set_self hiσ] at e2
    cases e2
    exact ⟨u,r,.inr ⟨.inl hk,c,hc,hc'⟩⟩
   ·rw [List.getElem?_set_ne (aT hj)] at e2
    obtain ⟨u',r',q⟩:=hl j y v' e1 e2 e3
    refine ⟨u',r',?_⟩
    rcases q with q|⟨k,c',e,z'⟩
    ·exact .inl q
    ·refine .inr ⟨k,c',e,z'.sameBut hs ?_⟩
     rintro rfl
     exact hj (qxj hN e1 (I.ok.inj _ _ _ e hc▸hi))
  ·by_cases hcc:c'=c
   ·subst hcc;exact ⟨_,hc'⟩
   ·obtain ⟨w2,z2⟩:=I.cell y c' e
    exact ⟨w2,z2.sameBut hs hcc⟩
  ·obtain ⟨e,n,ne,nf,d⟩:=I.pin p hp
   refine ⟨(hs.2 p.1 ?_).trans e,n,ne,nf,d⟩
   intro q
   rw [q,hoc] at e
   have q':oc=p.2:=ar e
   exact d w' (by rw [←q'];exact hocd)
theorem jp {M:Model}{A:Ae}{E:Ag→Ab→Prop}{i:Nat}{x:Str}{v:V}{u:Ag}{Q:Unit→Ab→Prop}(I:Inv X pins σ H s)(hN:X.N.Nodup)(hi:X.N[i]?=some x)(hx:Loc X.env.scope x)(r:RelV v u)
  (h:∀s',Inv X pins (σ.set i (some v)) H s'→Q () s') (hf:X.fn x=true∨X.env.scope.names.lookup x=some .local:=by first | exact .inl rfl | exact .inr rfl | assumption):wpAny M A (storeName X.env x u) Q E s :=
 qjm I hN hi hx r (λs' I' _=>h s' I') hf
theorem Inv.call' {s':Ab}{ch:List Aj}(I:Inv X pins σ H s)(ho:s'.os=s.os)(u:Un (frs X.stack) ch H H' s.heap s'.heap)(hok:HOk X.prog X.w H' s'.heap)(hg:AllBare s'.gens)
  (hch:∀b∈ch,(b∈X.ex∨X.s₀.heap.objs.size≤b)∧b≠X.env.locals∧(∀x c,X.env.cells.lookup x=some c→c≠b)∧∀p∈X.pn++pins,p.1≠b):Inv X pins σ H' s':=by
 obtain ⟨h',g',d',t',o'⟩:=s'
 have e:o'=s.os:=ho
 subst e
 exact I.call (g':=g') (t':=t') (d':=d') u hok hg hch
end
abbrev XK:=Ag→Option Aj→Hp→Prop
abbrev St:=List (Option V)
abbrev VK:=V→Hp→Prop
abbrev TE:=St→Hp→VK→Prop
abbrev TT:=St→Hp→(Bool→Hp→Prop)→Prop
abbrev TA:=St→Hp→(List V→Hp→Prop)→Prop
structure Ends where
 nx:St→Hp→Prop
 rt:VK
 bk:St→Hp→Prop:=λ_ _=>False
 ct:St→Hp→Prop:=λ_ _=>False
abbrev TS:=Ends→St→Hp→Prop
def EP (X:Cx)(pins:List (Aj×Obj))(σ:St)(Q:VK)(u:Ag)(s':Ab):Prop:=∃v H',Inv X pins σ H' s'∧RelV v u∧Q v H'
def TP (X:Cx)(pins:List (Aj×Obj))(σ:St)(Q:Bool→Hp→Prop)(b:Bool)(s':Ab):Prop:=∃H',Inv X pins σ H' s'∧Q b H'
def AP (X:Cx)(pins:List (Aj×Obj))(σ:St)(Q:List V→Hp→Prop)(us:List Ag)(s':Ab):Prop:=∃vs H',Inv X pins σ H' s'∧Vals vs us∧Q vs H'
def SP (X:Cx)(pins:List (Aj×Obj))(D:Ends)(f:Flow)(s':Ab):Prop :=
 match f with
 |.next=>∃σ' H',Inv X pins σ' H' s'∧D.nx σ' H'
 |.brk=>∃σ' H',Inv X pins σ' H' s'∧D.bk σ' H'
 |.cont=>∃σ' H',Inv X pins σ' H' s'∧D.ct σ' H'
 |.ret u=>∃v σ' H',Inv X pins σ' H' s'∧RelV v u∧D.rt v H'
def PE (X:Cx)(e:Expr)(t:TE):Prop :=
 ∀(pins:List (Aj×Obj)) (s:Ab) (σ:St) (H:Hp) (Q:VK),Inv X pins σ H s→t σ H Q→wpAny (model X.prog X.w) X.A (eval e X.env) (EP X pins σ Q) X.xe s
def PT (X:Cx)(e:Expr)(t:TT):Prop :=
 ∀(pins:List (Aj×Obj)) (s:Ab) (σ:St) (H:Hp) (Q:Bool→Hp→Prop),Inv X pins σ H s→t σ H Q→wpAny (model X.prog X.w) X.A (isTrue e X.env (eval e X.env)) (TP X pins σ Q) X.xe s
def PW (X:Cx)(e:Expr)(t:TT):Prop :=
 ∀(whole:Sem Ag) (pins:List (Aj×Obj)) (s:Ab) (σ:St) (H:Hp) (Q:Bool→Hp→Prop),Inv X pins σ H s→t σ H Q→wpAny (model X.prog X.w) X.A (isTrue e X.env whole) (TP X pins σ Q) X.xe s
theorem PW.pt {X:Cx}{e:Expr}{t:TT}(h:PW X e t):PT X e t:=h _
def PA (X:Cx)(es:List Expr)(t:TA):Prop :=
 ∀(pos:Pos) (pins:List (Aj×Obj)) (s:Ab) (σ:St) (H:Hp) (Q:List V→Hp→Prop),Inv X pins σ H s→t σ H Q→wpAny (model X.prog X.w) X.A (spliced (backTo pos (starEach es X.env))) (AP X pins σ Q) X.xe s
def PS (X:Cx)(st:Stmt)(t:TS):Prop :=
 ∀(pins:List (Aj×Obj)) (s:Ab) (σ:St) (H:Hp) (D:Ends),Inv X pins σ H s→t D σ H→wpAny (model X.prog X.w) X.A (exec st X.env) (SP X pins D) X.xe s
def PSs (X:Cx)(st:List Stmt)(t:TS):Prop :=
 ∀(pins:List (Aj×Obj)) (s:Ab) (σ:St) (H:Hp) (D:Ends),Inv X pins σ H s→t D σ H→wpAny (model X.prog X.w) X.A (execs st X.env) (SP X pins D) X.xe s
theorem thn {α:Type}{t:Sem α}{Q Q':α→Ab→Prop}{M:Model}{A:Ae}{E:Ag→Ab→Prop}{s:Ab}(h:wpAny M A t Q E s)(hQ:∀a s,Q a s→Q' a s):wpAny M A t Q' E s:=aP h hQ λ_ _ x=>x
section
variable {X:Cx}
def uf (i:Nat):TE:=λσ H Q=>∃v,σ[i]?=some (some v)∧Q v H
def tC (v:V):TE:=λ_ H Q=>Q v H
theorem pe_var {i:Nat}{x:Str}{pos:Pos}(hN:X.N[i]?=some x)(hv:Vis X.env.scope x)(hd:(x==("__debug__" : Str))=false:=by decide)(hcd:(x==("__classdict__" : Str))=false:=by decide):PE X (.Name x pos) (uf i):=by
 intro pins s σ H Q I h
 obtain ⟨v,e,h⟩:=h
 obtain ⟨m,hn,hl⟩:=I.loc
 obtain ⟨u,r,l⟩:=hl i x v hN e hv
 have fin:EP X pins σ Q u s:=⟨v,H,I,r,h⟩
 rcases l with ⟨hk,hm⟩|⟨hk,c,hc,hcell⟩
 ·exact wpAny_Name (wpAny_loadName_local I.ok.kind hk hn hm fin) hd
 ·rcases hk with hk|hk
  ·exact wpAny_Name (wpAny_loadName_cell I.ok.kind hk hc hcell fin) hd
  ·exact wpAny_Name (wpAny_loadName_free I.ok.kind hk hc hcell fin hcd) hd
theorem qr {i j pos}:PE X (.Constant (.int i) j pos) (tC (.int i)):=λ_ _ _ H _ I h=>wpAny_Constant_int ⟨.int i,H,I.tok _,⟨_,rfl⟩,h⟩
theorem yp {b j pos}:PE X (.Constant (.bool b) j pos) (tC (.bl b)):=λ_ _ _ H _ I h=>Constant_bool ⟨.bl b,H,I,rfl,h⟩
theorem wq1 {j pos}:PE X (.Constant .none j pos) (tC .non):=λ_ _ _ H _ I h=>Constant_none ⟨.non,H,I,rfl,h⟩
theorem xx {x j pos}:PE X (.Constant (.str x) j pos) (tC (.str x)):=λ_ _ _ H _ I h=>Calls.Constant_str ⟨.str x,H,I.tok _,⟨_,rfl⟩,h⟩
def Gl (X:Cx)(x:Str):Prop:=X.env.kindOf x=some .globalImplicit
theorem kf {E:Ag→Ab→Prop}{pins:List (Aj×Obj)}{s:Ab}{σ:St}{H:Hp}{x:Str}{u:Ag}{pos:Pos}{Q:Ag→Ab→Prop}(I:Inv X pins σ H s)(hg:Gl X x)(hm:X.mg x=some u)(h:Q u s)
  (hd:(x==("__debug__" : Str))=false:=by decide):wpAny (model X.prog X.w) X.A (eval (.Name x pos) X.env) Q E s :=
 Calls.Name_function_global I.ok.kind hg (Calls.loadGlobal_global (by rw [I.ok.glob];exact I.mod.glob.keeps I.bk) hm h) hd
theorem qws {E:Ag→Ab→Prop}{pins:List (Aj×Obj)}{s:Ab}{σ:St}{H:Hp}{x:Str}{u:Ag}{pos:Pos}{Q:Ag→Ab→Prop}(I:Inv X pins σ H s)(hg:Gl X x)(hm:X.mg x=none)(hv:bootBuiltins x=some u)(h:Q u s)
  (hn:x ≠ "__name__" := by decide) (hd:(x==("__debug__" : Str))=false:=by decide):wpAny (model X.prog X.w) X.A (eval (.Name x pos) X.env) Q E s:=by
 obtain ⟨mb,h1,h2⟩:=I.mod.blt
 exact Calls.Name_function_global I.ok.kind hg (Calls.loadGlobal_builtin (by rw [I.ok.glob];exact I.mod.glob.keeps I.bk) hm (by rw [I.ok.blt];exact h1.keeps I.bk) ((h2 x hn).trans hv) h) hd
theorem yu {x:Str}{v:V}{u:Ag}{pos:Pos}(hg:Gl X x)(hm:X.mg x=some u)(r:RelV v u)(hd:(x==("__debug__" : Str))=false:=by decide):PE X (.Name x pos) (tC v) :=
 λ_ _ _ H _ I h=>kf I hg hm ⟨v,H,I,r,h⟩ hd
variable {a b:Expr}{ta tb:TE}{pos:Pos}
def PC (X:Cx)(op:CmpOp)(a b:Expr)(t:TE):Prop :=
 ∀(pins:List (Aj×Obj)) (s:Ab) (σ:St) (H:Hp) (Q:VK),Inv X pins σ H s→t σ H Q →
  wpAny (model X.prog X.w) X.A (eval a X.env) (λv s₁=>wpAny (model X.prog X.w) X.A (eval b X.env) (λu s₂=>wpAny (model X.prog X.w) X.A (compareOp op v u) (EP X pins σ Q) X.xe s₂) X.xe s₁) X.xe s
def tB (t:TE):TT:=λσ H Q=>t σ H λx H1=>∃c,x=.bl c∧Q c H1
theorem Z7 {op:CmpOp}{t:TE}(h:PC X op a b t)(h1:behindInMarks op b=false:=by first | exact nobehind _ (by decide) (by decide) | rfl):PT X (.Compare a [op] [b] pos) (tB t):=by
 intro pins s σ H Q I hw
 refine wpAny_isTrue_Compare1 (thn (h pins s σ H _ I hw) λv s1 h1=>thn h1 λu s2 h2=>thn h2 λc s3 ⟨x,H1,I1,r1,q1⟩=>?_) h1
 obtain ⟨d,rfl,q⟩:=q1
 cases r1
 exact bT ⟨H1,I1,q⟩
theorem Z6 {e:Expr}{t:TE}(h:PE X e t)(he:∀whole,isTrue e X.env whole=(do let v ←whole;standAt e.pos;holding [v] (truthy v)):=by intro _;rfl):PT X e (tB t):=by
 intro pins s σ H Q I hw
 refine isTrue_plain (thn (h pins s σ H _ I hw) λv s1 ⟨x,H1,I1,r1,q1⟩=>?_) (he _)
 obtain ⟨d,rfl,q⟩:=q1
 cases r1
 exact bT ⟨H1,I1,q⟩
variable {tA tB':TT}{rest:List Expr}
def tAnd (t u:TT):TT:=λσ H Q=>t σ H λc H1=>if c=true then u σ H1 Q else Q false H1
def tOr (t u:TT):TT:=λσ H Q=>t σ H λc H1=>if c=true then Q true H1 else u σ H1 Q
def tNot (t:TT):TT:=λσ H Q=>t σ H λc H1=>Q (!c) H1
theorem wxb (ha:PT X a tA):PW X (.BoolOp .And [a] pos) tA:=by
 intro wh pins s σ H Q I h
 refine isTrue_and (thn (ha pins s σ H Q I h) λc s1 e=>?_)
 cases c with
 |true=>exact isTrue_and_nil e
 |false=>exact e
theorem v5 (ha:PT X a tA):PW X (.BoolOp .Or [a] pos) tA:=by
 intro wh pins s σ H Q I h
 refine isTrue_or (thn (ha pins s σ H Q I h) λc s1 e=>?_)
 cases c with
 |false=>exact isTrue_or_nil e
 |true=>exact e
theorem pw_and (ha:PT X a tA)(hb:PW X (.BoolOp .And (b::rest) pos) tB'):PW X (.BoolOp .And (a::b::rest) pos) (tAnd tA tB'):=by
 intro wh pins s σ H Q I h
 refine isTrue_and (thn (ha pins s σ H _ I h) λc s1 ⟨H1,I1,q1⟩=>?_)
 cases c with
 |true=>exact hb wh pins s1 σ H1 Q I1 q1
 |false=>exact ⟨H1,I1,q1⟩
theorem js (ha:PT X a tA)(hb:PW X (.BoolOp .Or (b::rest) pos) tB'):PW X (.BoolOp .Or (a::b::rest) pos) (tOr tA tB'):=by
 intro wh pins s σ H Q I h
 refine isTrue_or (thn (ha pins s σ H _ I h) λc s1 ⟨H1,I1,q1⟩=>?_)
 cases c with
 |true=>exact ⟨H1,I1,q1⟩
 |false=>exact hb wh pins s1 σ H1 Q I1 q1
theorem qq4 (ha:PT X a tA):PT X (.UnaryOp .Not a pos) (tNot tA):=by
 intro pins s σ H Q I h
 exact isTrue_not (ha pins s σ H (λc H1=>Q (!c) H1) I h)
def tAndV (ta tb:TE):TE:=λσ H Q=>ta σ H λx H1=>∃c,x=.bl c∧if c=true then tb σ H1 Q else Q (.bl false) H1
theorem quw {op}{t:TE}(h:PE X a t):PE X (.BoolOp op [a] pos) t:=λpins s σ H Q I hw=>BoolOp_one (h pins s σ H Q I hw)
theorem qv1 (ha:PE X a ta)(hb:PE X (.BoolOp .And (b::rest) pos) tb):PE X (.BoolOp .And (a::b::rest) pos) (tAndV ta tb):=by
 intro pins s σ H Q I h
 refine BoolOp_and (thn (ha pins s σ H _ I h) λv s1 ⟨x,H1,I1,r1,q1⟩=>?_)
 obtain ⟨c,rfl,q1⟩:=q1
 cases r1
 refine bT ?_
 cases c with
 |true=>exact hb pins s1 σ H1 Q I1 q1
 |false=>exact ⟨.bl false,H1,I1,rfl,q1⟩
def tIf (t:TT)(ta tb:TE):TE:=λσ H Q=>t σ H λc H1=>if c=true then ta σ H1 Q else tb σ H1 Q
theorem qzs {c:Expr}(hc:PT X c tA)(ha:PE X a ta)(hb:PE X b tb):PE X (.IfExp c a b pos) (tIf tA ta tb):=by
 intro pins s σ H Q I h
 refine wpAny_IfExp (thn (hc pins s σ H _ I h) λd s1 ⟨H1,I1,q1⟩=>?_)
 cases d with
 |true=>exact ha pins s1 σ H1 Q I1 q1
 |false=>exact hb pins s1 σ H1 Q I1 q1
end
def SqL (K:Aa)(H:Hp)(a:Aj)(xs:List V):Prop :=
 Rd H a (.lst xs) ∨
  ∃(o:Obj) (its:Array Ag) (n:Nat),K.lookup a=some o∧o.cls=.type "list" ∧ o.dict=none∧o.data=.seq its n∧its.size≤sizeLine∧Vals xs its.toList
def SqT (K:Aa)(H:Hp)(a:Aj)(xs:List V):Prop :=
 Rd H a (.tup xs) ∨
  ∃(o:Obj) (its:Array Ag) (n:Nat),K.lookup a=some o∧o.cls=.type "tuple" ∧ o.data=.seq its n∧its.size≤sizeLine∧Vals xs its.toList
def absV:Ag→Option V
 |.none=>some .non
 |.bool b=>some (.bl b)
 |.int i _=>some (.int i)
 |.str x _=>some (.str x)
 |.bytes b _=>some (.byt b)
 |.float b _=>some (.flt b)
 |.ref a=>some (.ref a)
 |.type n=>some (.ty n)
 |_=>none
theorem RelV.abs {x:V}{u:Ag}(r:RelV x u):absV u=some x:=by
 cases x with
 |non=>cases r;rfl
 |bl _=>cases r;rfl
 |int _=>obtain ⟨t,rfl⟩:=r;rfl
 |str _=>obtain ⟨t,rfl⟩:=r;rfl
 |byt _=>obtain ⟨t,rfl⟩:=r;rfl
 |flt _=>obtain ⟨t,rfl⟩:=r;rfl
 |ref _=>cases r;rfl
 |ty _=>cases r;rfl
theorem RelV.inj {x y:V}{u:Ag}(r:RelV x u)(q:RelV y u):x=y:=ar (r.abs.symm.trans q.abs)
theorem Vals.inj:∀ {xs ys:List V} {us:List Ag},Vals xs us→Vals ys us→xs=ys
 |_,_,_,.nil,.nil=>rfl
 |_,_,_,.cons r t,.cons r' t'=>by rw [r.inj r',Vals.inj t t']
section
variable {X:Cx}{pins:List (Aj×Obj)}{σ:St}{H:Hp}{s:Ab}{a:Aj}{xs ys:List V}
theorem SqL.of {K:Aa}(h:H a=some (.lst xs)):SqL K H a xs:=.inl (.inl h)
theorem SqT.of {K:Aa}(h:H a=some (.tup xs)):SqT K H a xs:=.inl (.inl h)
theorem Inv.list (I:Inv X pins σ H s)(h:SqL X.K H a xs):∃its:List Ag,Vals xs its∧PlainL s.heap a its.toArray∧xs.length≤sizeLine:=by
 rcases h with h|⟨o,its,n,hk,hc,hd,hs,hz,r⟩
 ·obtain ⟨z,its,n,r,e⟩:=h.ok I.hok
  exact ⟨its,r,⟨_,n,e,rfl,rfl,rfl⟩,z⟩
 ·refine ⟨its.toList,r,⟨o,n,I.kIn a o hk,hc,hd,by simpa using hs⟩,?_⟩
  have e:=r.length
  simp only [aS] at e
  lia
theorem Inv.tuple (I:Inv X pins σ H s)(h:SqT X.K H a xs):∃its:List Ag,Vals xs its∧IsTup s.heap a its.toArray∧xs.length≤sizeLine:=by
 rcases h with h|⟨o,its,n,hk,hc,hs,hz,r⟩
 ·obtain ⟨z,its,r,p⟩:=h.ok I.hok
  exact ⟨its,r,p,z⟩
 ·refine ⟨its.toList,r,⟨o,I.kIn a o hk,hc,n,by simpa using hs⟩,?_⟩
  have e:=r.length
  simp only [aS] at e
  lia
theorem Inv.list_inj (I:Inv X pins σ H s)(h:SqL X.K H a xs)(h':SqL X.K H a ys):xs=ys:=by
 obtain ⟨its,r,⟨o,n,e,_,_,d⟩,_⟩:=I.list h
 obtain ⟨its',r',⟨o',n',e',_,_,d'⟩,_⟩:=I.list h'
 rw [e] at e';cases e'
 rw [d] at d'
 injection d' with d1 _
 have:its=its':=by simpa using cg Array.toList d1
 subst this
 exact r.inj r'
end
abbrev Cx.wish (X:Cx)(E:Ag→Ab→Prop):Cx:={ X with xe:=E }
section
variable {X:Cx}{pins:List (Aj×Obj)}{σ:St}{H:Hp}{s:Ab}{E:Ag→Ab→Prop}
end
section
variable {X:Cx}{st:Stmt}{rest:List Stmt}{t u:TS}{e:Expr}{te:TE}{pos:Pos}
def tNext:TS:=λD σ H=>D.nx σ H
def tSeq (t u:TS):TS:=λD σ H=>t { D with nx:=u D } σ H
theorem wp:PSs X [] tNext:=λ_ _ σ H _ I h=>cy ⟨σ,H,I,h⟩
theorem qy (h1:PS X st t)(h2:PSs X rest u):PSs X (st::rest) (tSeq t u):=by
 intro pins s σ H D I h
 refine ed (thn (h1 pins s σ H { D with nx:=u D } I h) λf s1 q=>?_)
 cases f with
 |next =>
  obtain ⟨σ',H',I',q⟩:=q
  exact h2 pins s1 σ' H' D I' q
 |ret v=>exact q
 |brk=>exact q
 |cont=>exact q
theorem qp (h1:PS X st t):PSs X [st] t:=by
 intro pins s σ H D I h
 refine ed (thn (h1 pins s σ H D I h) λf s1 q=>?_)
 cases f with
 |next=>exact cy q
 |ret v=>exact q
 |brk=>exact q
 |cont=>exact q
theorem Inv.quiet {pins:List (Aj×Obj)}{σ:St}{H:Hp}{s:Ab}(I:Inv X pins σ H s):interactive X.env=false:=by simp [interactive,I.ok.kind]
def tDrop (te:TE):TS:=λD σ H=>te σ H λ_ H1=>D.nx σ H1
theorem xj (he:PE X e te)(hs:swapsWith e none pos.line X.env=pure false:=by rfl):PS X (.Expr e pos) (tDrop te):=by
 intro pins s σ H D I h
 exact wpAny_Expr_any (thn (he pins s σ H _ I h) λv s1 ⟨x,H1,I1,r1,q1⟩=>⟨σ,H1,I1,q1⟩) I.quiet hs
def tRet (te:TE):TS:=λD σ H=>te σ H D.rt
theorem wm (he:PE X e te):PS X (.Return (some e) pos) (tRet te):=by
 intro pins s σ H D I h
 exact wpAny_Return_some (thn (he pins s σ H _ I h) λv s1 ⟨x,H1,I1,r1,q1⟩=>⟨x,σ,H1,I1,r1,q1⟩)
def tIfS (c:TT)(t u:TS):TS:=λD σ H=>c σ H λb H1=>if b=true then t D σ H1 else u D σ H1
theorem xv {c:Expr}{a b:List Stmt}{tc:TT}(hc:PT X c tc)(ha:PSs X a t)(hb:PSs X b u):PS X (.If c a b pos) (tIfS tc t u):=by
 intro pins s σ H D I h
 refine wpAny_If (thn (hc pins s σ H _ I h) λd s1 ⟨H1,I1,q1⟩=>?_)
 cases d with
 |true=>exact ha pins s1 σ H1 D I1 q1
 |false=>exact hb pins s1 σ H1 D I1 q1
end
abbrev TG:=V→St→Hp→(St→Hp→Prop)→Prop
abbrev TGs:=List V→St→Hp→(St→Hp→Prop)→Prop
def PG (X:Cx)(target:Expr)(t:TG):Prop :=
 ∀(pins:List (Aj×Obj)) (s:Ab) (σ:St) (H:Hp) (v:V) (u:Ag) (Q:St→Hp→Prop),Inv X pins σ H s→RelV v u→t v σ H Q →
  wpAny (model X.prog X.w) X.A (assign target X.env u) (λ_ s'=>∃σ' H',Inv X pins σ' H' s'∧Q σ' H') X.xe s
def PGs (X:Cx)(ts:List Expr)(t:TGs):Prop :=
 ∀(pins:List (Aj×Obj)) (s:Ab) (σ:St) (H:Hp) (vs:List V) (us:List Ag) (Q:St→Hp→Prop),Inv X pins σ H s→Vals vs us→t vs σ H Q →
  wpAny (model X.prog X.w) X.A (assignInOrder ((assignEach ts X.env).map (·.2)) us) (λ_ s'=>∃σ' H',Inv X pins σ' H' s'∧Q σ' H') X.xe s
abbrev TSet:=V→V→V→Hp→(Hp→Prop)→Prop
def PSet (X:Cx)(t:TSet):Prop :=
 ∀(pins:List (Aj×Obj)) (s:Ab) (σ:St) (H:Hp) (o i v:V) (ov iv u:Ag) (Q:Hp→Prop),Inv X pins σ H s→RelV o ov→RelV i iv→RelV v u→t o i v H Q →
  wpAny (model X.prog X.w) X.A (setItem ov iv u) (λ_ s'=>∃H',Inv X pins σ H' s'∧Q H') X.xe s
section
variable {X:Cx}{pos:Pos}
def qy9 (i:Nat):TG:=λv σ H Q=>Q (σ.set i (some v)) H
theorem xk {i:Nat}{x:Str}(hN:X.N.Nodup)(hi:X.N[i]?=some x)(hx:Loc X.env.scope x)(hf:X.fn x=true∨X.env.scope.names.lookup x=some .local:=by first | exact .inl rfl | exact .inr rfl | assumption):PG X (.Name x pos) (qy9 i):=by
 intro pins s σ H v u Q I r h
 exact wpAny_assign_Name (jp I hN hi hx r (λs' I'=>⟨_,H,I',h⟩) hf)
def gNil:TGs:=λvs σ H Q=>vs=[]∧Q σ H
def gCons (t:TG)(u:TGs):TGs:=λvs σ H Q=>∃v r,vs=v::r∧t v σ H λσ' H'=>u r σ' H' Q
theorem vk:PGs X [] gNil:=by
 intro pins s σ H vs us Q I r h
 obtain ⟨e,h⟩:=h
 subst e
 cases r
 exact assignInOrder_nil ⟨σ,H,I,h⟩
theorem xu {e:Expr}{es:List Expr}{t:TG}{u:TGs}(h1:PG X e t)(h2:PGs X es u)
  (hs:(assignEach (e::es) X.env).map (·.2)=assign e X.env::(assignEach es X.env).map (·.2):=by rfl):PGs X (e::es) (gCons t u):=by
 intro pins s σ H vs us Q I r h
 obtain ⟨v,vr,e1,h⟩:=h
 subst e1
 cases r with
 |cons r rr =>
  rw [hs]
  refine dN (thn (h1 pins s σ H _ _ _ I r h) λ_ s1 ⟨σ1,H1,I1,q1⟩=>?_)
  exact h2 pins s1 σ1 H1 _ _ Q I1 rr q1
def gTup (K:Aa)(n:Nat)(t:TGs):TG:=λv σ H Q=>∃a xs,v=.ref a∧SqT K H a xs∧xs.length=n∧t xs σ H Q
theorem v8 {es:List Expr}{k:Nat}{t:TGs}{n:Nat}(hc:X.calm=true)(h:PGs X es t)
  (hn:(assignEach es X.env).length=n:=by rfl) (hst:(assignEach es X.env).findIdx? (·.1)=none:=by rfl):PG X (.Tuple es k pos) (gTup X.K n t):=by
 intro pins s σ H v u Q I r hw
 obtain ⟨a,xs,e1,hq,hl,hw⟩:=hw
 subst e1
 cases r
 obtain ⟨its,rv,ht,hz⟩:=I.tuple hq
 refine assign_Tuple_tuple (I.ok.hd hc) ht (by simp [hn,←hl,rv.length]) hst λh' hx=>?_
 have I1:Inv X pins σ H { s with heap:=h' }:=I.kept (t':=s.toks) λb o e=>hx b o (ax (ah e)) e
 exact h pins _ σ H xs _ Q I1 (by simpa using rv) hw
def gSub (to ti:TE)(t:TSet):TG:=λv σ H Q=>to σ H λo H1=>ti σ H1 λi H2=>t o i v H2 λH3=>Q σ H3
theorem pg_sub {o i:Expr}{to ti:TE}{t:TSet}(ho:PE X o to)(hi:PE X i ti)(hs:PSet X t)
  (ha:∀v,assign (.Subscript o i pos) X.env v=(do
   let ov ←holding [v] (eval o X.env)
   let iv ←holding [v,ov] (eval i X.env)
   standAt pos
   holding [v,ov,iv] (setItem ov iv v)
   release [v,ov,iv] []):=by intro _;rfl):PG X (.Subscript o i pos) (gSub to ti t):=by
 intro pins s σ H v u Q I r h
 rw [ha]
 refine aa (bG (thn (ho pins s σ H _ I h) λov s1 ⟨x,H1,I1,r1,q1⟩=>?_))
 refine aa (bG (thn (hi pins s1 σ H1 _ I1 q1) λiv s2 ⟨y,H2,I2,r2,q2⟩=>?_))
 refine aa (dn (aa (bG (thn (hs pins s2 σ H2 x y v ov iv u _ I2 r1 r2 r q2) λ_ s3 ⟨H3,I3,q3⟩=>?_))))
 exact wpAny_release ⟨σ,H3,I3,q3⟩
def tAsg (te:TE)(g:TG):TS:=λD σ H=>te σ H λx H1=>g x σ H1 D.nx
theorem jv {tg e:Expr}{te:TE}{g:TG}(he:PE X e te)(hg:PG X tg g)(hs:swapsWithSole [tg] e pos.line X.env=pure false:=by rfl)(hw:swappedStores [tg] e X.env=pure none:=by rfl)
  (h1:(assignEach [tg] X.env).map (·.2)=[assign tg X.env]:=by rfl):PS X (.Assign [tg] e pos) (tAsg te g):=by
 intro pins s σ H D I h
 refine wpAny_Assign_stores (thn (he pins s σ H _ I h) λv s1 ⟨x,H1,I1,r1,q1⟩=>?_) hs hw
 rw [h1]
 exact thn (hg pins s1 σ H1 x v _ I1 r1 q1) λ_ s2 q=>q
theorem wr {i:Nat}{x:Str}{e:Expr}{te:TE}{pos':Pos}(hN:X.N.Nodup)(hi:X.N[i]?=some x)(hx:Loc X.env.scope x)(he:PE X e te)(hs:swapsWith e (some (.Name x pos')) pos.line X.env=pure false:=by rfl)(hf:X.fn x=true∨X.env.scope.names.lookup x=some .local:=by first | exact .inl rfl | exact .inr rfl | assumption) :
  PS X (.Assign [.Name x pos'] e pos) (tAsg te (qy9 i)):=by
 intro pins s σ H D I h
 refine wpAny_Assign_Name (thn (he pins s σ H _ I h) λv s1 ⟨y,H1,I1,r1,q1⟩=>?_) hs
 exact jp I1 hN hi hx r1 (λs2 I2=>⟨_,H1,I2,q1⟩) hf
def tPar (i j:Nat)(ta:TA):TS:=λD σ H=>ta σ H λvs H1=>∃v w,vs=[v,w]∧D.nx ((σ.set i (some v)).set j (some w)) H1
theorem wwj {i j:Nat}{x y:Str}{a b:Expr}{ta:TA}{px py pt:Pos}{kt k2 pt2}(hc:X.calm=true)(hN:X.N.Nodup)(hi:X.N[i]?=some x)(hj:X.N[j]?=some y)(hij:i≠j)
  (hx:X.env.scope.names.lookup x=some .local) (hy:X.env.scope.names.lookup y=some .local) (ha:PA X [a,b] ta)
  (hw:swappedStores [.Tuple [.Name x px,.Name y py] kt pt] (.Tuple [a,b] k2 pt2) X.env=pure (some [x,y]))
  (hs:swapsWithSole [.Tuple [.Name x px,.Name y py] kt pt] (.Tuple [a,b] k2 pt2) pos.line X.env=pure false:=by rfl) :
  PS X (.Assign [.Tuple [.Name x px,.Name y py] kt pt] (.Tuple [a,b] k2 pt2) pos) (tPar i j ta):=by
 intro pins s σ H D I h
 rw [exec_Assign_arm]
 refine aa (dn ?_)
 rw [hs]
 refine aa (ag ?_)
 rw [aj (by decide)]
 refine aa (Tuple_ (thn (ha _ pins s σ H _ I h) λus s1 ⟨vs,H1,I1,r1,q1⟩=>?_))
 obtain ⟨v,w,e1,q1⟩:=q1
 subst e1
 obtain ⟨u1,u2,rfl,rv,rw'⟩:∃u1 u2,us=[u1,u2]∧RelV v u1∧RelV w u2:=by
  cases r1 with
  |cons p q =>
   cases q with
   |cons p' q' =>
    cases q'
    exact ⟨_,_,rfl,p,p'⟩
 refine bU ?_ (by show 2≤sizeLine;decide)
 have I2:Inv X pins σ H1 { s1 with heap:=s1.heap.push { cls:=.type "tuple",data:=.seq [u1,u2].toArray } }:=I1.kept (t':=s1.toks) λb o e=>ac _ e
 rw [hw]
 refine aa (ag ?_)
 show wpAny (model X.prog X.w) X.A (do rule "assign.swapped-stores";let items ←unpackItems (.ref s1.heap.objs.size) 2 none;assignInOrder [λv=>bindName X.env y v,λv=>bindName X.env x v] items.reverse;pure Flow.next) _ _ _
 refine aa (wpAny_rule (aa (unpackItems_tuple (items:=#[u1,u2]) (I.ok.hd hc) (IsTup.new s1.heap _) λh' hx'=>?_)))
 have I3:=I2.kept (h':=h') (t':=s1.toks) λb o e=>hx' b o (ax (ah e)) e
 show wpAny _ _ (assignInOrder [λv=>bindName X.env y v,λv=>bindName X.env x v] [u2,u1] >>= λ_=>pure Flow.next) _ _ _
 refine aa (dN (wpAny_bindName (jp I3 hN hj (.inl hy) rw' (λs2 I4=>?_) (.inr hy))))
 refine dN (wpAny_bindName (jp I4 hN hi (.inl hx) rv (λs3 I5=>assignInOrder_nil (ag ?_)) (.inr hx)))
 rw [List.set_comm _ _ (aT hij)] at I5
 exact ⟨_,H1,I5,q1⟩
end
section
variable {X:Cx}{pos:Pos}
def qvv (c:TT)(tb:TS):TS:=λD σ H=>∃W:Nat→St→Hp→Prop,(∃m,W m σ H)∧∀m σ H,W m σ H →
 c σ H λb H1=>if b=true then ∃N:St→Hp→Prop,(∀σ' H',N σ' H'→∃m',m'<m∧W m' σ' H')∧tb { D with nx:=N,ct:=N,bk:=D.nx } σ H1 else D.nx σ H1
theorem Qu {c:Expr}{body:List Stmt}{tc:TT}{tb:TS}(hp:PassesOwn (model X.prog X.w) X.A X.env X.xe)(hc:PT X c tc)(hb:PSs X body tb):PS X (.While c body [] pos) (qvv tc tb):=by
 intro pins s σ H D I h
 obtain ⟨W,⟨m0,w0⟩,turn⟩:=h
 refine wpAny_While (codeAny_whileLoop (λn s'=>∃σ' H',Inv X pins σ' H' s'∧W n σ' H') ?_ m0 ⟨σ,H,I,w0⟩)
 rintro n s1 ⟨σ1,H1,I1,w1⟩
 refine bP hp (thn (hc pins s1 σ1 H1 _ I1 (turn n σ1 H1 w1)) λb s2 ⟨H2,I2,q2⟩=>?_)
 cases b with
 |true =>
  obtain ⟨N,hN,q2⟩:=q2
  rw [am rfl]
  refine bP hp (thn (hb pins s2 σ1 H2 _ I2 q2) λf s3 q3=>?_)
  cases f with
  |next =>
   obtain ⟨σ3,H3,I3,n3⟩:=q3
   obtain ⟨m',hm,w3⟩:=hN σ3 H3 n3
   exact ⟨m',hm,σ3,H3,I3,w3⟩
  |cont =>
   obtain ⟨σ3,H3,I3,n3⟩:=q3
   obtain ⟨m',hm,w3⟩:=hN σ3 H3 n3
   exact ⟨m',hm,σ3,H3,I3,w3⟩
  |brk=>exact q3
  |ret v=>exact q3
 |false =>
  rw [aj ay]
  exact cy ⟨σ1,H2,I2,q2⟩
end
structure It where
 go:Nat→Hp→Prop
 yld:Nat→Hp→V→Hp→Prop
 stop:Nat→Hp→Prop
def k7 (X:Cx)(pins:List (Aj×Obj))(H:Hp)(b:Aj):Prop :=
 H b=none∧b≠X.env.locals∧b∉X.fs∧(b∈X.ex∨X.s₀.heap.objs.size≤b)∧(∀x c,X.env.cells.lookup x=some c→c≠b)∧∀p∈X.pn++pins,p.1≠b
theorem Inv.fpOk {X:Cx}{pins:List (Aj×Obj)}{σ:St}{H H':Hp}{s:Ab}{b:Aj}(I:Inv X pins σ H s)(hb:s.heap.objs.size≤b)(hn:H' b=none):k7 X pins H' b:=by
 refine ⟨hn,dH (aB I.lt hb),I.nofs hb,.inr (bu I.sz hb),λx c e z=>?_,λp hp z=>?_⟩
 ·obtain ⟨v,q⟩:=I.cell x c e
  exact absurd (aB q.lt (by rw [z];exact hb)) (aW _)
 ·exact absurd (aB (ah (I.pin p hp).1) (by rw [z];exact hb)) (aW _)
structure Turn (P:Ac)(w:Ah)(K:Aa)(tg:Expr)(J:It)(fp:List Aj)(it:Aj)(tn:Nat→Heap→Prop):Prop where
 mem:it∈fp
 obj:∀i h,tn i h→∀b∈fp,∃o,h.get? b=some o∧∀v,o.data≠.cell v
 keep:∀i h h',tn i h→(∀b∈fp,∀o,h.get? b=some o→h'.get? b=some o)→tn i h'
 item:∀(X:Cx),X.prog=P→X.w=w→X.K=K→X.calm=true→∀(i:Nat) (pins:List (Aj×Obj)) (s:Ab) (σ:St) (H:Hp) (E:Ag→Ab→Prop),Inv X pins σ H s→(∀b∈fp,k7 X pins H b)→tn i s.heap→J.go i H →
  wpAny (model P w) X.A (pyNext (.ref it)) (λr s1=>∃u,r=some u ∧
   wpAny (model P w) X.A (letOwnedTupleGo tg (.ref it) u) (λ_ s2=>∃x H',Inv X pins σ H' s2∧RelV x u∧J.yld i H x H'∧tn (i+1) s2.heap∧∀b∈fp,H' b=none) E s1) E s
 done:∀(X:Cx),X.prog=P→X.w=w→X.K=K→X.calm=true→∀(i:Nat) (pins:List (Aj×Obj)) (s:Ab) (σ:St) (H:Hp) (E:Ag→Ab→Prop),Inv X pins σ H s→(∀b∈fp,k7 X pins H b)→tn i s.heap→J.stop i H →
  wpAny (model P w) X.A (pyNext (.ref it)) (λr s1=>r=none∧Inv X pins σ H s1) E s
 self:∀(A:Ae) (i:Nat) (s:Ab) (Q:Ag→Ab→Prop) (E:Ag→Ab→Prop),tn i s.heap→Q (.ref it) s→wpAny (model P w) A (pyIter (.ref it)) Q E s
abbrev TI:=St→Hp→(It→Hp→Prop)→Prop
def PIE (X:Cx)(pins:List (Aj×Obj))(σ:St)(tg:Expr)(R:It→Hp→Prop)(itv:Ag)(s2:Ab):Prop :=
 ∃(it:Aj) (fp:List Aj) (tn:Nat→Heap→Prop) (J:It) (H':Hp),itv=.ref it∧Inv X pins σ H' s2∧Turn X.prog X.w X.K tg J fp it tn∧tn 0 s2.heap∧(∀b∈fp,k7 X pins H' b)∧R J H'
def PI (X:Cx)(tg iter:Expr)(wi:TI):Prop :=
 ∀(pins:List (Aj×Obj)) (s:Ab) (σ:St) (H:Hp) (R:It→Hp→Prop),Inv X pins σ H s→wi σ H R →
  wpAny (model X.prog X.w) X.A (eval iter X.env) (λv s1=>wpAny (model X.prog X.w) X.A (pyIter v) (PIE X pins σ tg R) X.xe s1) X.xe s
theorem qzv {M:Model}{A:Ae}{E:Ag→Ab→Prop}{s:Ab}{tg:Expr}{it:Aj}{u:Ag}{o:Obj}{n:String}{vs:Array Ag}{Q:Unit→Ab→Prop}(ho:s.heap.get? it=some o)(hc:o.cls=.type n)(hd:o.data=.fields vs)
  (hn:["enumerate","zip","dict_itemiterator","dict_reverseitemiterator","odict_iterator","itertools.zip_longest","itertools.pairwise"].contains n=false) (hQ:Q () s):wpAny M A (letOwnedTupleGo tg (.ref it) u) Q E s:=by
 unfold letOwnedTupleGo
 cases tg <;> first
  |exact ag hQ
  |(cases u <;> first
    |exact ag hQ
    |(refine aa (wpAny_load ho ?_)
      rw [hc,hd]
      show wpAny M A (if (["enumerate","zip","dict_itemiterator","dict_reverseitemiterator","odict_iterator","itertools.zip_longest","itertools.pairwise"].contains n&&vs[0]?==some (rawInt _))=true then _ else _) Q E s
      rw [aj (by intro h;rw [hn,Bool.false_and] at h;cases h)]
      exact ag hQ))
def Itl (K:Aa)(a:Aj):It :=
 ⟨λi H=>∃xs x,SqL K H a xs∧xs[i]?=some x,λi H x H'=>H'=H∧∀xs,SqL K H a xs→xs[i]?=some x,λi H=>∃xs,SqL K H a xs∧xs.length≤i⟩
def Itr (lo:Int)(n:Nat):It:=⟨λi _=>i<n,λi H x H'=>H'=H∧x=.int (lo+i),λi _=>n≤i⟩
theorem qj6 {P:Ac}{w:Ah}{K:Aa}{tg:Expr}(a it:Aj):Turn P w K tg (Itl K a) [it] it (λi h=>h.IsListIter it a i) where
 mem:=by simp
 obj:=λi h st b hb=>by
  have e:b=it:=by simpa using hb
  subst e
  obtain ⟨o,e,c,d⟩:=st
  exact ⟨o,e,λv z=>by rw [d] at z;cases z⟩
 keep:=λi h h' st k=>st.at λo e=>k it (by simp) o e
 item:=by
  intro X hP hw hK hc i pins s σ H E I hf st hg
  subst hP hw hK
  obtain ⟨xs,x,hq,hx⟩:=hg
  obtain ⟨its,rv,p,hz⟩:=I.list hq
  obtain ⟨u,hu,ru⟩:=rv.get hx
  obtain ⟨f0,f1,f2,f3,f4,f5⟩:=hf it (by simp)
  refine wpAny_pyNext_list_item st p.isList (x:=u) (by simpa using hu) λh' st' sb=>?_
  have I1:Inv X pins σ H { s with heap:=h' }:=I.turned (t':=s.toks) (λb o hb e=>(sb.2 b hb).trans e) f0 f1 f3 f4 f5
  obtain ⟨o,e,c,d⟩:=id st'
  exact ⟨u,rfl,qzv (s:={ s with heap:=h' }) e c d (by decide) ⟨x,H,I1,ru,⟨rfl,λys hy=>by rw [I.list_inj hy hq];exact hx⟩,st',λb hb=>(hf b hb).1⟩⟩
 done:=by
  intro X hP hw hK hc i pins s σ H E I hf st hg
  subst hP hw hK
  obtain ⟨xs,hq,hx⟩:=hg
  obtain ⟨its,rv,p,hz⟩:=I.list hq
  obtain ⟨f0,f1,f2,f3,f4,f5⟩:=hf it (by simp)
  have hl:=rv.length
  exact wpAny_pyNext_list_end (I.ok.hd hc) st p.isList (by simp;lia) λh' eb=>⟨rfl,I.turned (t':=s.toks) (λb o hb e=>eb b o hb e) f0 f1 f3 f4 f5⟩
 self:=λ_ _ _ _ _ st h=>wpAny_pyIter_listiter st h
theorem qz9 {P:Ac}{w:Ah}{K:Aa}{tg:Expr}(it:Aj)(lo:Int)(n:Nat):Turn P w K tg (Itr lo n) [it] it (λi h=>IsRangeIter h it (lo+(i:Nat)*1) ((n:Int)-(i:Nat)) 1) where
 mem:=by simp
 obj:=λi h st b hb=>by
  have e:b=it:=by simpa using hb
  subst e
  exact ⟨_,st,λv z=>by
   have z':Data.fields _=Data.cell v:=z
   cases z'⟩
 keep:=λi h h' st k=>k it (by simp) _ st
 item:=by
  intro X hP hw hK hc i pins s σ H E I hf st hg
  subst hP hw hK
  obtain ⟨f0,f1,f2,f3,f4,f5⟩:=hf it (by simp)
  have W:=Walks.range (prog:=X.prog) (w:=X.w) (I.ok.hd hc) it lo 1 n
  refine W.item i s _ _ hg st λv h' tk hv st' kk=>?_
  obtain ⟨t,rfl⟩:=hv
  have I1:Inv X pins σ H { s with heap:=h',toks:=tk }:=I.turned (λb o hb e=>kk b o (by simpa using hb) e) f0 f1 f3 f4 f5
  refine ⟨_,rfl,qzv (s:={ s with heap:=h',toks:=tk }) (n := "range_iterator") st' rfl rfl (by decide) ⟨.int (lo+i),H,I1,⟨t,?_⟩,⟨rfl,rfl⟩,st',λb hb=>(hf b hb).1⟩⟩
  rw [Int.mul_one]
 done:=by
  intro X hP hw hK hc i pins s σ H E I hf st hg
  subst hP hw hK
  obtain ⟨f0,f1,f2,f3,f4,f5⟩:=hf it (by simp)
  exact wpAny_pyNext_range_end (I.ok.hd hc) st (by have:n≤i:=hg;lia) λh' eb=>⟨rfl,I.turned (t':=s.toks) (λb o hb e=>eb b o hb e) f0 f1 f3 f4 f5⟩
 self:=λ_ _ _ _ _ st h=>wpAny_pyIter_rangeiter st h
section
variable {X:Cx}{tg:Expr}
def iList (K:Aa)(tl:TE):TI:=λσ H R=>tl σ H λx H1=>∃a,x=.ref a∧(∃xs,SqL K H1 a xs)∧R (Itl K a) H1
theorem qq1 {l:Expr}{tl:TE}(hl:PE X l tl):PI X tg l (iList X.K tl):=by
 intro pins s σ H R I h
 refine thn (hl pins s σ H _ I h) λv s1 ⟨x,H1,I1,r1,q1⟩=>?_
 obtain ⟨a,e,⟨xs,hq⟩,q⟩:=q1
 subst e
 cases r1
 obtain ⟨its,rv,p,hz⟩:=I1.list hq
 refine dX p.isList ?_
 refine ⟨s1.heap.objs.size,[s1.heap.objs.size],_,_,H1,rfl,I1.kept (t':=s1.toks) λb o e=>ac _ e,qj6 a _,⟨_,ak _ rfl,rfl,rfl⟩,λb hb=>?_,q⟩
 have e:b=s1.heap.objs.size:=by simpa using hb
 subst e
 exact I1.fpOk (af _) (I1.hok.fresh (af _))
theorem wq9 {pins:List (Aj×Obj)}{σ:St}{H:Hp}{s:Ab}{R:It→Hp→Prop}{E:Ag→Ab→Prop}{lo hi:Int}{t u v:Tok}{tk:Nat}(I:Inv X pins σ H s)(h1:-(2 ^ 62)≤lo)(h2:lo<2 ^ 62)(h3:-(2 ^ 62)≤hi)(h4:hi<2 ^ 62)
  (q:R (Itr lo (hi-lo).toNat) H):wpAny (model X.prog X.w) X.A (pyIter (.ref s.heap.objs.size)) (PIE X pins σ tg R) E { s with heap:=s.heap.push { cls:=.type "range",data:=.fields #[.int lo t,.int hi u,.int 1 v] },toks:=tk }:=by
 refine wpAny_pyIter_range (IsRange.new ..) (small_one h1 h2 h3 h4) ?_
 have I1:Inv X pins σ H { s with heap:=s.heap.push { cls:=.type "range",data:=.fields #[.int lo t,.int hi u,.int 1 v] },toks:=tk }:=I.kept λb o e=>ac _ e
 refine ⟨(s.heap.push { cls:=.type "range",data:=.fields #[.int lo t,.int hi u,.int 1 v] }).objs.size,[(s.heap.push { cls:=.type "range",data:=.fields #[.int lo t,.int hi u,.int 1 v] }).objs.size],_,_,H,rfl,
  I1.kept (t':=tk) λb o e=>ac _ e,qz9 _ lo (hi-lo).toNat,?_,λb hb=>?_,q⟩
 ·have e1:lo+((0:Nat):Int)*1=lo:=by simp
  have e2:(((hi-lo).toNat:Nat):Int)-((0:Nat):Int)=Builtin.Range.rangeSize lo hi 1:=by rw [rangeSize_one];split <;> lia
  show IsRangeIter _ _ (lo+((0:Nat):Int)*1) ((((hi-lo).toNat:Nat):Int)-((0:Nat):Int)) 1
  rw [e1,e2]
  exact ak _ rfl
 ·have e:b=(s.heap.push { cls:=.type "range",data:=.fields #[.int lo t,.int hi u,.int 1 v] }).objs.size:=by simpa using hb
  subst e
  exact I1.fpOk (af _) (I1.hok.fresh (af _))
def iRng1 (ta:TA):TI:=λσ H R=>ta σ H λvs H1=>∃j:Int,vs=[.int j]∧-(2 ^ 62)≤j∧j<2 ^ 62∧R (Itr 0 j.toNat) H1
theorem zr {a:Expr}{ta:TA}{p pos:Pos}(hg:Gl X "range")(hm:X.mg "range" = none)(ha:PA X [a] ta)(hs:starEach [a] X.env=[(false,eval a X.env)]:=by rfl):PI X tg (.Call (.Name "range" p) [a] [] pos) (iRng1 ta):=by
 intro pins s σ H R I h
 refine Call_ (qws I hg hm boot_range (cC (thn (ha pos pins s σ H _ I h) λus s1 ⟨vs,H1,I1,r1,q1⟩=>?_) hs rfl))
 obtain ⟨j,e,q1,q2,q⟩:=q1
 subst e
 cases r1 with
 |cons r rr =>
  cases rr
  obtain ⟨t,rfl⟩:=r
  exact call_range_1 (wq9 I1 (by lia) (by lia) q1 q2 (by simpa using q))
def tFor (wi:TI)(g:TG)(tb:TS):TS:=λD σ H=>wi σ H λJ H1=>∃W:Nat→Nat→St→Hp→Prop,(∃m,W 0 m σ H1)∧∀i m σ H,W i m σ H →
 (J.stop i H∧D.nx σ H)∨(J.go i H∧∃N:St→Hp→Prop,(∀σ' H',N σ' H'→∃m',m'<m∧W (i+1) m' σ' H')∧∀x H',J.yld i H x H'→g x σ H' λσ2 H2=>tb { D with nx:=N,ct:=N,bk:=D.nx } σ2 H2)
def qw4 (fp:List Aj)(h:Heap):List (Aj×Obj):=fp.filterMap λb=>(h.get? b).map λo=>(b,o)
theorem jd {fp:List Aj}{h:Heap}{b:Aj}{o:Obj}(hb:b∈fp)(e:h.get? b=some o):(b,o)∈qw4 fp h:=dO.mpr ⟨b,hb,by rw [e];rfl⟩
theorem qjd {fp:List Aj}{h:Heap}{p:Aj×Obj}(hp:p∈qw4 fp h):p.1∈fp∧h.get? p.1=some p.2:=by
 obtain ⟨b,hb,e⟩:=dO.mp hp
 cases q:h.get? b with
 |none=>rw [q] at e;cases e
 |some o =>
  rw [q] at e
  have e':(b,o)=p:=ar e
  subst e'
  exact ⟨hb,q⟩
theorem Inv.pinned {pins:List (Aj×Obj)}{σ:St}{H:Hp}{s:Ab}{fp:List Aj}(I:Inv X pins σ H s)(hf:∀b∈fp,k7 X pins H b)(ho:∀b∈fp,∃o,s.heap.get? b=some o∧∀v,o.data≠.cell v):Inv X (pins++qw4 fp s.heap) σ H s :=
 I.pins_of λp hp=>(bj.mp hp).elim (λz=>I.pin p (aJ _ z)) λz=>by
  obtain ⟨hb,e⟩:=qjd z
  obtain ⟨f0,f1,f2,_⟩:=hf p.1 hb
  obtain ⟨o,e',d⟩:=ho p.1 hb
  rw [e] at e';cases e'
  exact ⟨e,f0,f1,f2,d⟩
theorem Inv.unpinned {pins pl:List (Aj×Obj)}{σ:St}{H:Hp}{s:Ab}(I:Inv X (pins++pl) σ H s):Inv X pins σ H s:=I.pins_of λp hp=>I.pin p (aJ _ (cD _ hp))
theorem Q0 {iter:Expr}{body:List Stmt}{wi:TI}{g:TG}{tb:TS}{pos:Pos}(hp:PassesOwn (model X.prog X.w) X.A X.env X.xe)(hc:X.calm=true)(hi:PI X tg iter wi)(hg:PG X tg g)(hb:PSs X body tb)
  (hs:∀x,foldedSetIterable iter X.env x=pure x:=by intro _;rfl):PS X (.For tg iter body [] pos) (tFor wi g tb):=by
 intro pins s σ H D I h
 refine wpAny_For (thn (hi pins s σ H _ I h) λv s1 h1=>thn h1 λitv s2 h2=>?_) hs
 obtain ⟨it,fp,tn,J,H2,e,I2,T,st2,f2,W,⟨m0,w0⟩,turn⟩:=h2
 subst e
 have stat:∀ {H':Hp},(∀b∈fp,H' b=none)→∀b∈fp,k7 X pins H' b:=λhn b hb=>⟨hn b hb,(f2 b hb).2⟩
 refine codeAny_forLoop_any (λn s'=>∃i σ' H',Inv X pins σ' H' s'∧tn i s'.heap∧(∀b∈fp,H' b=none)∧W i n σ' H') ?_ m0 ⟨0,σ,H2,I2,st2,λb hb=>(f2 b hb).1,w0⟩
 rintro n s3 ⟨i,σ3,H3,I3,st3,fr3,w3⟩
 rcases turn i n σ3 H3 w3 with ⟨stop,qn⟩|⟨go,N,hN,step⟩
 ·refine bP hp (thn (T.done X rfl rfl rfl hc i pins s3 σ3 H3 X.xe I3 (stat fr3) st3 stop) λr s4 ⟨hr,I4⟩=>?_)
  subst hr
  exact cy ⟨σ3,H3,I4,qn⟩
 ·refine bP hp (thn (T.item X rfl rfl rfl hc i pins s3 σ3 H3 X.xe I3 (stat fr3) st3 go) λr s4 ⟨u,hr,h4⟩=>?_)
  subst hr
  refine bP hp (thn h4 λ_ s5 ⟨x,H5,I5,r5,y5,st5,fr5⟩=>?_)
  have I5':=I5.pinned (stat fr5) (T.obj _ _ st5)
  refine bP hp (thn (hg _ s5 σ3 H5 x u _ I5' r5 (step x H5 y5)) λ_ s6 ⟨σ6,H6,I6,q6⟩=>?_)
  refine bP hp (thn (hb _ s6 σ6 H6 _ I6 q6) λf s7 q7=>?_)
  have again:∀ {σ7:St} {H7:Hp},Inv X (pins++qw4 fp s5.heap) σ7 H7 s7→N σ7 H7→∃m,m<n∧∃i σ' H',Inv X pins σ' H' s7∧tn i s7.heap∧(∀b∈fp,H' b=none)∧W i m σ' H':=λ{σ7 H7} I7 n7=>by
   obtain ⟨m',hm,w7⟩:=hN σ7 H7 n7
   refine ⟨m',hm,i+1,σ7,H7,I7.unpinned,T.keep _ _ _ st5 λb hb o e=>(I7.pin (b,o) (aJ _ (aJ _ (jd hb e)))).1,λb hb=>?_,w7⟩
   obtain ⟨o,e,d⟩:=T.obj _ _ st5 b hb
   exact (I7.pin (b,o) (aJ _ (aJ _ (jd hb e)))).2.1
  cases f with
  |next=>obtain ⟨σ7,H7,I7,n7⟩:=q7;exact again I7 n7
  |cont=>obtain ⟨σ7,H7,I7,n7⟩:=q7;exact again I7 n7
  |brk=>obtain ⟨σ7,H7,I7,q7⟩:=q7;exact ⟨σ7,H7,I7.unpinned,q7⟩
  |ret v=>obtain ⟨x7,σ7,H7,I7,r7,q7⟩:=q7;exact ⟨x7,σ7,H7,I7.unpinned,r7,q7⟩
end
theorem www {K:Aa}{a:Aj}{xs:List V}{g:TG}{tb:TS}{D:Ends}{σ:St}{H:Hp}(Pv:Nat→St→Hp→Prop)(h0:Pv 0 σ H)(hl:∀i σ H,i≤xs.length→Pv i σ H→SqL K H a xs)
  (hs:∀i x σ H,xs[i]?=some x→Pv i σ H→g x σ H λσ2 H2=>tb { D with nx:=Pv (i+1),ct:=Pv (i+1),bk:=D.nx } σ2 H2) (hd:∀σ H,Pv xs.length σ H→D.nx σ H) :
  ∃W:Nat→Nat→St→Hp→Prop,(∃m,W 0 m σ H)∧∀i m σ H,W i m σ H →
   ((Itl K a).stop i H∧D.nx σ H)∨((Itl K a).go i H∧∃N:St→Hp→Prop,(∀σ' H',N σ' H'→∃m',m'<m∧W (i+1) m' σ' H')∧∀x H',(Itl K a).yld i H x H'→g x σ H' λσ2 H2=>tb { D with nx:=N,ct:=N,bk:=D.nx } σ2 H2):=by
 refine ⟨λi m σ H=>m=xs.length-i∧i≤xs.length∧Pv i σ H,⟨xs.length,by simp,az _,h0⟩,?_⟩
 rintro i m σ H ⟨rfl,hi,p⟩
 have q:=hl i σ H hi p
 by_cases hlt:i<xs.length
 ·refine .inr ⟨⟨xs,xs[i],q,by simp [hlt]⟩,Pv (i+1),λσ' H' p'=>⟨xs.length-(i+1),by lia,rfl,hlt,p'⟩,λx H' y=>?_⟩
  obtain ⟨e,y⟩:=y
  subst e
  exact hs i x σ _ (y xs q) p
 ·have e:i=xs.length:=by lia
  subst e
  exact .inl ⟨⟨xs,q,af _⟩,hd σ H p⟩
theorem Q4 {lo:Int}{n:Nat}{g:TG}{tb:TS}{D:Ends}{σ:St}{H:Hp}(Pv:Nat→St→Hp→Prop)(h0:Pv 0 σ H)
  (hs:∀i σ H,i<n→Pv i σ H→g (.int (lo+i)) σ H λσ2 H2=>tb { D with nx:=Pv (i+1),ct:=Pv (i+1),bk:=D.nx } σ2 H2) (hd:∀σ H,Pv n σ H→D.nx σ H) :
  ∃W:Nat→Nat→St→Hp→Prop,(∃m,W 0 m σ H)∧∀i m σ H,W i m σ H →
   ((Itr lo n).stop i H∧D.nx σ H)∨((Itr lo n).go i H∧∃N:St→Hp→Prop,(∀σ' H',N σ' H'→∃m',m'<m∧W (i+1) m' σ' H')∧∀x H',(Itr lo n).yld i H x H'→g x σ H' λσ2 H2=>tb { D with nx:=N,ct:=N,bk:=D.nx } σ2 H2):=by
 refine ⟨λi m σ H=>m=n-i∧i≤n∧Pv i σ H,⟨n,by simp,az _,h0⟩,?_⟩
 rintro i m σ H ⟨rfl,hi,p⟩
 by_cases hlt:i<n
 ·refine .inr ⟨hlt,Pv (i+1),λσ' H' p'=>⟨n-(i+1),by lia,rfl,hlt,p'⟩,λx H' y=>?_⟩
  obtain ⟨e,y⟩:=y
  subst e y
  exact hs i σ _ hlt p
 ·have e:i=n:=by lia
  subst e
  exact .inl ⟨af _,hd σ H p⟩
theorem Yq {c:TT}{tb:TS}{D:Ends}{σ:St}{H:Hp}(Pv:St→Hp→Prop)(μ:St→Hp→Nat)(h0:Pv σ H)
  (hs:∀σ H,Pv σ H→c σ H λb H1=>if b=true then tb { D with nx:=λσ' H'=>Pv σ' H'∧μ σ' H'<μ σ H,ct:=λσ' H'=>Pv σ' H'∧μ σ' H'<μ σ H,bk:=D.nx } σ H1 else D.nx σ H1)
  (mono:∀σ H Q Q',(∀b H1,Q b H1→Q' b H1)→c σ H Q→c σ H Q'):qvv c tb D σ H:=by
 refine ⟨λm σ H=>m=μ σ H∧Pv σ H,⟨_,rfl,h0⟩,?_⟩
 rintro m σ H ⟨rfl,p⟩
 refine mono σ H _ _ (λb H1 q=>?_) (hs σ H p)
 cases b with
 |true=>exact ⟨_,λσ' H' ⟨p',l⟩=>⟨_,l,rfl,p'⟩,q⟩
 |false=>exact q
abbrev R2:=V→V→Hp→VK→Prop
def OpR (X:Cx)(f:Ag→Ag→Sem Ag)(r:R2):Prop :=
 ∀(pins:List (Aj×Obj)) (s:Ab) (σ:St) (H:Hp) (x y:V) (v u:Ag) (Q:VK),Inv X pins σ H s→RelV x v→RelV y u→r x y H Q →
  wpAny (model X.prog X.w) X.A (f v u) (EP X pins σ Q) X.xe s
def UnR (X:Cx)(f:Ag→Sem Ag)(r:V→Hp→VK→Prop):Prop :=
 ∀(pins:List (Aj×Obj)) (s:Ab) (σ:St) (H:Hp) (x:V) (v:Ag) (Q:VK),Inv X pins σ H s→RelV x v→r x H Q →
  wpAny (model X.prog X.w) X.A (f v) (EP X pins σ Q) X.xe s
def vp (X:Cx)(f:Ag)(r:List V→Hp→VK→Prop):Prop :=
 ∀(pins:List (Aj×Obj)) (s:Ab) (σ:St) (H:Hp) (xs:List V) (us:List Ag) (Q:VK),Inv X pins σ H s→Vals xs us→r xs H Q →
  wpAny (model X.prog X.w) X.A (call f us) (EP X pins σ Q) X.xe s
def tOp (r:R2)(ta tb:TE):TE:=λσ H Q=>ta σ H λx H1=>tb σ H1 λy H2=>r x y H2 Q
def tUn (r:V→Hp→VK→Prop)(ta:TE):TE:=λσ H Q=>ta σ H λx H1=>r x H1 Q
def rI (C:Int→Int→Prop)(g:Int→Int→V):R2:=λx y H Q=>∃i j,x=.int i∧y=.int j∧C i j∧Q (g i j) H
def rI0 (g:Int→Int→V):R2:=λx y H Q=>∃i j,x=.int i∧y=.int j∧Q (g i j) H
def rU (g:Int→V):V→Hp→VK→Prop:=λx H Q=>∃i,x=.int i∧Q (g i) H
section
variable {X:Cx}{a b c:Expr}{ta tb tc:TE}{pos:Pos}
theorem binT (ha:PE X a ta)(hb:PE X b tb){pins:List (Aj×Obj)}{s:Ab}{σ:St}{H:Hp}{R:V→V→Hp→Prop}(I:Inv X pins σ H s)
  (h:ta σ H λx H1=>tb σ H1 λy H2=>R x y H2) {Q:Ag→Ab→Prop} {f:Ag→Ag→Sem Ag}
  (hf:∀v u s2 x y H2,Inv X pins σ H2 s2→RelV x v→RelV y u→R x y H2→wpAny (model X.prog X.w) X.A (f v u) Q X.xe s2) :
  wpAny (model X.prog X.w) X.A (eval a X.env) (λv s₁=>wpAny (model X.prog X.w) X.A (eval b X.env) (λu s₂=>wpAny (model X.prog X.w) X.A (f v u) Q X.xe s₂) X.xe s₁) X.xe s:=by
 refine thn (ha pins s σ H _ I h) λv s1 ⟨x,H1,I1,r1,q1⟩=>?_
 refine thn (hb pins s1 σ H1 _ I1 q1) λu s2 ⟨y,H2,I2,r2,q2⟩=>?_
 exact hf v u s2 x y H2 I2 r1 r2 q2
theorem wy {op:Operator}{r:R2}(ho:OpR X (binaryOp op) r)(ha:PE X a ta)(hb:PE X b tb):PE X (.BinOp a op b pos) (tOp r ta tb):=by
 intro pins s σ H Q I h
 exact wpAny_BinOp (binT ha hb I h λv u s2 x y H2 I2 rx ry q=>ho pins s2 σ H2 x y v u Q I2 rx ry q)
theorem qxz {op:UnaryOp}{r:V→Hp→VK→Prop}(ho:UnR X (unaryOp op) r)(ha:PE X a ta):PE X (.UnaryOp op a pos) (tUn r ta):=by
 intro pins s σ H Q I h
 exact UnaryOp_ (thn (ha pins s σ H _ I h) λv s1 ⟨x,H1,I1,r1,q1⟩=>ho pins s1 σ H1 x v Q I1 r1 q1)
theorem opI {f:Ag→Ag→Sem Ag}{C:Int→Int→Prop}{g:Int→Int→Int}
  (rule:∀(i j:Int) (t u:Tok) (s:Ab) (Q:Ag→Ab→Prop) (E:Ag→Ab→Prop),C i j→Q (.int (g i j) s.toks) { s with toks:=s.toks+1 }→wpAny (model X.prog X.w) X.A (f (.int i t) (.int j u)) Q E s) :
  OpR X f (rI C λi j=>.int (g i j)):=by
 intro pins s σ H x y v u Q I rx ry h
 obtain ⟨i,j,rfl,rfl,hc,q⟩:=h
 obtain ⟨t,rfl⟩:=rx
 obtain ⟨t',rfl⟩:=ry
 exact rule i j t t' s _ _ hc ⟨.int (g i j),H,I.tok _,⟨_,rfl⟩,q⟩
theorem opI0 {f:Ag→Ag→Sem Ag}{g:Int→Int→Int}
  (rule:∀(i j:Int) (t u:Tok) (s:Ab) (Q:Ag→Ab→Prop) (E:Ag→Ab→Prop),Q (.int (g i j) s.toks) { s with toks:=s.toks+1 }→wpAny (model X.prog X.w) X.A (f (.int i t) (.int j u)) Q E s) :
  OpR X f (rI0 λi j=>.int (g i j)):=by
 intro pins s σ H x y v u Q I rx ry h
 obtain ⟨i,j,rfl,rfl,q⟩:=h
 obtain ⟨t,rfl⟩:=rx
 obtain ⟨t',rfl⟩:=ry
 exact rule i j t t' s _ _ ⟨.int (g i j),H,I.tok _,⟨_,rfl⟩,q⟩
theorem opB0 {f:Ag→Ag→Sem Ag}{g:Int→Int→Bool}
  (rule:∀(i j:Int) (t u:Tok) (s:Ab) (Q:Ag→Ab→Prop) (E:Ag→Ab→Prop),Q (.bool (g i j)) s→wpAny (model X.prog X.w) X.A (f (.int i t) (.int j u)) Q E s) :
  OpR X f (rI0 λi j=>.bl (g i j)):=by
 intro pins s σ H x y v u Q I rx ry h
 obtain ⟨i,j,rfl,rfl,q⟩:=h
 obtain ⟨t,rfl⟩:=rx
 obtain ⟨t',rfl⟩:=ry
 exact rule i j t t' s _ _ ⟨.bl (g i j),H,I,rfl,q⟩
def CPow (i j:Int):Prop:=0≤j∧j≤1000000∧i.natAbs<2 ^ 64
theorem xz:OpR X (binaryOp .Add) (rI0 λi j=>.int (i+j)):=opI0 λ_ _ _ _ _ _ _ q=>add_int q
theorem zv:OpR X (binaryOp .Sub) (rI0 λi j=>.int (i-j)):=opI0 λ_ _ _ _ _ _ _ q=>sub_int q
theorem zc:OpR X (binaryOp .Mod) (rI (λ_ j=>0<j) λi j=>.int (i%j)):=opI λi j _ _ _ _ _ hc q=>by
 have h1:(0:Int)<j:=hc
 exact mod_int' (by lia) (by rw [Int.fmod_eq_emod_of_nonneg i (by lia)];exact q)
theorem op_pow:OpR X (binaryOp .Pow) (rI CPow λi j=>.int (i ^ j.toNat)):=opI λ_ _ _ _ _ _ _ hc q=>pow_int_small hc.1 hc.2.1 hc.2.2 q
theorem unI {f:Ag→Sem Ag}{g:Int→Int}
  (rule:∀(i:Int) (t:Tok) (s:Ab) (Q:Ag→Ab→Prop) (E:Ag→Ab→Prop),Q (.int (g i) s.toks) { s with toks:=s.toks+1 }→wpAny (model X.prog X.w) X.A (f (.int i t)) Q E s) :
  UnR X f (rU λi=>.int (g i)):=by
 intro pins s σ H x v Q I rx h
 obtain ⟨i,rfl,q⟩:=h
 obtain ⟨t,rfl⟩:=rx
 exact rule i t s _ _ ⟨.int (g i),H,I.tok _,⟨_,rfl⟩,q⟩
theorem Yv:UnR X (unaryOp .USub) (rU λi=>.int (-i)):=unI λ_ _ _ _ _ q=>neg_int q
end
def scal:V→V→Bool
 |.non,.non=>true|.non,.int _=>true|.int _,.non=>true|.non,.bl _=>true|.bl _,.non=>true|.non,.str _=>true|.str _,.non=>true
 |.int _,.int _=>true|.bl _,.bl _=>true|.str _,.str _=>true|.byt _,.byt _=>true
 |.int _,.str _=>true|.str _,.int _=>true|.bl _,.str _=>true|.str _,.bl _=>true
 |_,_=>false
def rEq:R2:=λx y H Q=>scal x y=true∧Q (.bl (decide (x=y))) H
def rNe:R2:=λx y H Q=>scal x y=true∧Q (.bl (!decide (x=y))) H
theorem qk2 {i j:Int}:decide (V.int i=V.int j)=(i==j):=by
 rw [bQ]
 simp
theorem wqv {i j:Bool}:decide (V.bl i=V.bl j)=(i==j):=by
 rw [bQ]
 simp
theorem qjw {i j:Str}:decide (V.str i=V.str j)=(i==j):=by
 rw [bQ]
 simp
theorem qkm {i j:Array UInt8}:decide (V.byt i=V.byt j)=(i.toList==j.toList):=by
 rw [bQ]
 cases i
 cases j
 simp
section
variable {X:Cx}{a b c:Expr}{ta tb tc:TE}{pos:Pos}
theorem xb {pins:List (Aj×Obj)}{σ:St}{H:Hp}{s:Ab}{Q:VK}{k k':Bool}(I:Inv X pins σ H s)(q:Q (.bl k) H)(e:k=k'):EP X pins σ Q (.bool k') s:=by
 subst e
 exact ⟨.bl k,H,I,rfl,q⟩
theorem zn:OpR X (compareOp .Eq) rEq:=by
 intro pins s σ H x y v u Q I rx ry h
 obtain ⟨hs,q⟩:=h
 cases x with
 |non =>
  cases rx
  cases y with
  |non=>cases ry;exact PySem.EqNone.eq_none_none (xb I q (by simp))
  |bl j=>cases ry;exact PySem.EqNone.eq_none_bool (xb I q (by simp))
  |int j=>obtain ⟨t',rfl⟩:=ry;exact PySem.EqNone.eq_none_int (xb I q (by simp))
  |str j=>obtain ⟨t',rfl⟩:=ry;exact PySem.EqNone.eq_none_str (xb I q (by simp))
  |_=>exact absurd (show false=true from hs) ay
 |bl i =>
  cases rx
  cases y with
  |non=>cases ry;exact PySem.EqNone.eq_bool_none (xb I q (by simp))
  |bl j=>cases ry;exact eq_bool (xb I q wqv)
  |str j=>obtain ⟨t',rfl⟩:=ry;exact PySem.EqMixed.eq_bool_str (xb I q (by simp))
  |_=>exact absurd (show false=true from hs) ay
 |int i =>
  obtain ⟨t,rfl⟩:=rx
  cases y with
  |non=>cases ry;exact PySem.EqNone.eq_int_none (xb I q (by simp))
  |int j=>obtain ⟨t',rfl⟩:=ry;exact eq_int (xb I q qk2)
  |str j=>obtain ⟨t',rfl⟩:=ry;exact PySem.EqMixed.eq_int_str (xb I q (by simp))
  |_=>exact absurd (show false=true from hs) ay
 |str i =>
  obtain ⟨t,rfl⟩:=rx
  cases y with
  |non=>cases ry;exact PySem.EqNone.eq_str_none (xb I q (by simp))
  |bl j=>cases ry;exact PySem.EqMixed.eq_str_bool (xb I q (by simp))
  |int j=>obtain ⟨t',rfl⟩:=ry;exact PySem.EqMixed.eq_str_int (xb I q (by simp))
  |str j=>obtain ⟨t',rfl⟩:=ry;exact eq_str (xb I q qjw)
  |_=>exact absurd (show false=true from hs) ay
 |byt i =>
  obtain ⟨t,rfl⟩:=rx
  cases y with
  |byt j=>obtain ⟨t',rfl⟩:=ry;exact PySem.W.eq_bytes (xb I q qkm)
  |_=>exact absurd (show false=true from hs) ay
 |_=>cases y <;> exact absurd (show false=true from hs) ay
theorem op_ne:OpR X (compareOp .NotEq) rNe:=by
 intro pins s σ H x y v u Q I rx ry h
 obtain ⟨hs,q⟩:=h
 cases x with
 |non =>
  cases rx
  cases y with
  |non=>cases ry;exact PySem.EqNone.ne_none_none (xb I q (by simp))
  |bl j=>cases ry;exact PySem.EqNone.ne_none_bool (xb I q (by simp))
  |int j=>obtain ⟨t',rfl⟩:=ry;exact PySem.EqNone.ne_none_int (xb I q (by simp))
  |str j=>obtain ⟨t',rfl⟩:=ry;exact PySem.EqNone.ne_none_str (xb I q (by simp))
  |_=>exact absurd (show false=true from hs) ay
 |bl i =>
  cases rx
  cases y with
  |non=>cases ry;exact PySem.EqNone.ne_bool_none (xb I q (by simp))
  |bl j=>cases ry;exact ne_bool (xb I q (cg not wqv))
  |str j=>obtain ⟨t',rfl⟩:=ry;exact PySem.EqMixed.ne_bool_str (xb I q (by simp))
  |_=>exact absurd (show false=true from hs) ay
 |int i =>
  obtain ⟨t,rfl⟩:=rx
  cases y with
  |non=>cases ry;exact PySem.EqNone.ne_int_none (xb I q (by simp))
  |int j=>obtain ⟨t',rfl⟩:=ry;exact ne_int (xb I q (cg not qk2))
  |str j=>obtain ⟨t',rfl⟩:=ry;exact PySem.EqMixed.ne_int_str (xb I q (by simp))
  |_=>exact absurd (show false=true from hs) ay
 |str i =>
  obtain ⟨t,rfl⟩:=rx
  cases y with
  |non=>cases ry;exact PySem.EqNone.ne_str_none (xb I q (by simp))
  |bl j=>cases ry;exact PySem.EqMixed.ne_str_bool (xb I q (by simp))
  |int j=>obtain ⟨t',rfl⟩:=ry;exact PySem.EqMixed.ne_str_int (xb I q (by simp))
  |str j=>obtain ⟨t',rfl⟩:=ry;exact ne_str (xb I q (cg not qjw))
  |_=>exact absurd (show false=true from hs) ay
 |byt i =>
  obtain ⟨t,rfl⟩:=rx
  cases y with
  |byt j=>obtain ⟨t',rfl⟩:=ry;exact PySem.W.ne_bytes (xb I q (cg not qkm))
  |_=>exact absurd (show false=true from hs) ay
 |_=>cases y <;> exact absurd (show false=true from hs) ay
theorem vn:OpR X (compareOp .Lt) (rI0 λi j=>.bl (decide (i<j))):=opB0 λ_ _ _ _ _ _ _ q=>lt_int q
theorem op_le:OpR X (compareOp .LtE) (rI0 λi j=>.bl (decide (i≤j))):=opB0 λ_ _ _ _ _ _ _ q=>le_int q
theorem j9:OpR X (compareOp .Gt) (rI0 λi j=>.bl (decide (j<i))):=opB0 λ_ _ _ _ _ _ _ q=>gt_int q
theorem qk7:OpR X (compareOp .GtE) (rI0 λi j=>.bl (decide (j≤i))):=opB0 λ_ _ _ _ _ _ _ q=>ge_int q
theorem qyy:OpR X (compareOp .In) (λx y H Q=>∃i j,x=.str i∧y=.str j∧Q (.bl (!(Builtin.Str.occurrences j i 0 j.length 1).isEmpty)) H):=by
 intro pins s σ H x y v u Q I rx ry h
 obtain ⟨i,j,rfl,rfl,q⟩:=h
 obtain ⟨t,rfl⟩:=rx
 obtain ⟨t',rfl⟩:=ry
 exact in_str (xb I q rfl)
theorem op_isN:OpR X (compareOp .Is) (λx y H Q=>y=.non∧Q (.bl (decide (x=.non))) H):=by
 intro pins s σ H x y v u Q I rx ry h
 obtain ⟨rfl,q⟩:=h
 cases ry
 refine is_none_gen (xb I q ?_)
 cases x <;> first
  |(cases rx;rfl)
  |(obtain ⟨t,rfl⟩:=rx;rfl)
theorem wx5:OpR X (compareOp .IsNot) (λx y H Q=>y=.non∧Q (.bl (!decide (x=.non))) H):=by
 intro pins s σ H x y v u Q I rx ry h
 obtain ⟨rfl,q⟩:=h
 cases ry
 refine isnot_none_gen (xb I q ?_)
 cases x <;> first
  |(cases rx;rfl)
  |(obtain ⟨t,rfl⟩:=rx;rfl)
theorem wg (b:Expr){op:CmpOp}(h:op≠.In:=by decide)(h2:op≠.NotIn:=by decide):behindInMarks op b=false:=by
 have e1:(op==CmpOp.In)=false:=by cases op <;> first | rfl | exact absurd rfl h
 have e2:(op==CmpOp.NotIn)=false:=by cases op <;> first | rfl | exact absurd rfl h2
 cases b <;> simp [behindInMarks,e1,e2]
theorem jk {op:CmpOp}{r:R2}(ho:OpR X (compareOp op) r)(ha:PE X a ta)(hb:PE X b tb)(hm:behindInMarks op b=false):PE X (.Compare a [op] [b] pos) (tOp r ta tb):=by
 intro pins s σ H Q I h
 exact wpAny_Compare1 (binT ha hb I h λv u s2 x y H2 I2 rx ry q=>ho pins s2 σ H2 x y v u Q I2 rx ry q) hm
def tTest (t:TE):TT:=λσ H Q=>t σ H λx H'=>∃k,x=.bl k∧Q k H'
theorem wf {op:CmpOp}{r:R2}(ho:OpR X (compareOp op) r)(ha:PE X a ta)(hb:PE X b tb)(hm:behindInMarks op b=false):PT X (.Compare a [op] [b] pos) (tTest (tOp r ta tb)):=by
 intro pins s σ H Q I h
 refine wpAny_isTrue_Compare1 (thn (ha pins s σ H _ I h) λv s1 ⟨x,H1,I1,r1,q1⟩=>thn (hb pins s1 σ H1 _ I1 q1) λu s2 ⟨y,H2,I2,r2,q2⟩ =>
  thn (ho pins s2 σ H2 x y v u _ I2 r1 r2 q2) λc s3 ⟨z,H3,I3,r3,k,e,q3⟩=>?_) hm
 subst e
 cases r3
 exact bT ⟨H3,I3,q3⟩
theorem Q3:(sizeLine:Nat)<2 ^ 63:=by rw [sizeLine_eq];decide
theorem jm {x:V}{us:List Ag}(r:Vals [x] us):∃u,us=[u]∧RelV x u:=by
 cases r with
 |cons r1 r2=>cases r2;exact ⟨_,rfl,r1⟩
theorem vals2 {x y:V}{us:List Ag}(r:Vals [x,y] us):∃u w',us=[u,w']∧RelV x u∧RelV y w':=by
 cases r with
 |cons r1 r2 =>
  cases r2 with
  |cons r3 r4=>cases r4;exact ⟨_,_,rfl,r1,r3⟩
theorem uu:vp X (.builtin "abs") (λxs H Q=>∃i,xs=[.int i]∧Q (.int (if i<0 then -i else i)) H):=by
 intro pins s σ H xs us Q I r h
 obtain ⟨i,rfl,q⟩:=h
 obtain ⟨u,rfl,t,rfl⟩:=jm r
 exact call_abs_int λu tk=>⟨.int (if i<0 then -i else i),H,I.tok _,⟨_,rfl⟩,q⟩
theorem qjg (hc:X.calm=true):vp X (.builtin "max") (λxs H Q=>∃i j,xs=[.int i,.int j]∧Q (.int (if j>i then j else i)) H):=by
 intro pins s σ H xs us Q I r h
 obtain ⟨i,j,rfl,q⟩:=h
 obtain ⟨u,w',rfl,⟨t,rfl⟩,⟨t',rfl⟩⟩:=vals2 r
 refine max_two_ints (I.ok.hd hc) λh' tk k=>⟨_,H,I.kept k,?_,q⟩
 by_cases hj:j>i
 ·rw [am hj,am hj];exact ⟨_,rfl⟩
 ·rw [aj hj,aj hj];exact ⟨_,rfl⟩
theorem J1 (hc:X.calm=true):vp X (.builtin "min") (λxs H Q=>∃i j,xs=[.int i,.int j]∧Q (.int (if j<i then j else i)) H):=by
 intro pins s σ H xs us Q I r h
 obtain ⟨i,j,rfl,q⟩:=h
 obtain ⟨u,w',rfl,⟨t,rfl⟩,⟨t',rfl⟩⟩:=vals2 r
 refine min_two_ints (I.ok.hd hc) λh' tk k=>⟨_,H,I.kept k,?_,q⟩
 by_cases hj:j<i
 ·rw [am hj,am hj];exact ⟨_,rfl⟩
 ·rw [aj hj,aj hj];exact ⟨_,rfl⟩
end
structure ObjM (h:Heap)(x dx C:Aj)(mA:Str→Option Ag):Prop where
 obj:h.get? x=some (PySem.W.instObj C dx)
 ns:h.Ns1 dx mA
 ne:dx≠x
theorem qj9 {h:Heap}{dx:Aj}{mA:Str→Option Ag}(n:h.Ns1 dx mA):∃od,h.get? dx=some od∧∀name,PySem.W.lookIn name od=some (mA name):=by
 obtain ⟨o,es,ep,ho,hd,hk,_,hm⟩:=n
 refine ⟨o,ho,λname=>?_⟩
 have e:=hm name
 unfold nsFind findBy at e
 rw [←Array.find?_toList] at e
 unfold PySem.W.lookIn
 rw [hd]
 dsimp only
 split
 ·rename_i y q
  rw [q] at e
  exact cg some e
 ·rename_i q
  rw [q] at e
  have a:es.toList.any (·.refKey)=false:=by
   rw [List.any_eq_false]
   intro y hy
   obtain ⟨z,t,hkey⟩:=hk y (Array.mem_toList_iff.mp hy)
   simp [DictEntry.refKey,hkey]
  have a':¬ es.toList.any (·.refKey)=true:=by rw [a];exact ay
  rw [aj a']
  exact cg some e
theorem ObjM.look {h:Heap}{x dx C:Aj}{mA:Str→Option Ag}(I:ObjM h x dx C mA):∃od,PySem.W.InstAt h x (PySem.W.instObj C dx) C (some od)∧∀name,PySem.W.lookIn name od=some (mA name) :=
 let ⟨od,ho,hl⟩:=qj9 I.ns
 ⟨od,⟨I.obj,rfl,rfl,ho⟩,hl⟩
section
variable {prog:Ac}{w:Ah}{A:Ae}{E:Ag→Ab→Prop}{s:Ab}{K:Aa}{x dx C f:Aj}{mA:Str→Option Ag}{name:Str}{v:Ag}
theorem wwu {expr:Bool}{Q:Ag→Ab→Prop}(X:K.In s.heap)(I:ObjM s.heap x dx C mA)(hg:PySem.W.plainGet K C name=true)(hh:PySem.W.hasDictIn K C=true)
  (ha:PySem.W.findIn K (.ref C) name=some none) (hv:mA name=some v) (hv':PySem.W.handedIn v=true) (h:Q v { s with toks:=s.toks+1 }) :
  wpAny (model prog w) A (getAttr (.ref x) name expr) Q E s:=by
 obtain ⟨od,J,hl⟩:=I.look
 exact PySem.W.get_value X J (dD hg).1 (PySem.W.findObj_own hh ha rfl (by rw [hl,hv])) hv' h
theorem qyt {pl:Sem Bool}{Q:Ag×List Ag→Ab→Prop}(X:K.In s.heap)(I:ObjM s.heap x dx C mA)(hg:PySem.W.plainGet K C name=true)
  (hf:PySem.W.findIn K (.ref C) name=some (some (.ref f))) (ht:PySem.W.isFn K (.ref f)=true) (hv:mA name=none) (h:Q (.ref f,[.ref x]) s) :
  wpAny (model prog w) A (getMethod (.ref x) name pl) Q E s:=by
 obtain ⟨od,J,hl⟩:=I.look
 exact PySem.W.method_fn X J (dD hg).1 (dD hg).2 hf (dj.mp ht) (by show (PySem.W.lookIn name od).map (·.isSome)=some false;rw [hl,hv];rfl) h
theorem qq8 {ns:List Str}{Q:Unit→Ab→Prop}(X:K.In s.heap)(I:ObjM s.heap x dx C mA)
  (hs:PySem.W.findIn K (.ref C) "__setattr__" = some (some (.builtin "object.__setattr__"))) (hp:PySem.W.plainOver K C=true) (ht:PySem.W.takerIn K C name=some none) (hh:PySem.W.hasDictIn K C=true)
  (hw:PySem.Within mA ns) (hsz:ns.length≤sizeLine)
  (h:∀h',ObjM h' x dx C (λy=>if y=name then some v else mA y)→Heap.SameBut dx s.heap h'→Q () { s with heap:=h',toks:=s.toks+2 }) :
  wpAny (model prog w) A (setAttr (.ref x) name v) Q E s:=by
 obtain ⟨od,J,hl⟩:=I.look
 refine PySem.W.set_plain X J hs (PySem.W.osa_open (s:={ s with toks:=s.toks+1 }) (r:=none) X J hp ht λb=>?_)
 obtain ⟨cd,hc,hd'⟩:=PySem.W.any_some hh
 have hx:s.heap.get? x=some ⟨.ref C,some dx,.plain,#[]⟩:=I.obj
 refine aa (ag (aa (aa (wpAny_loadPart hx (aa (PySem.W.Looks.here (s:={ s with toks:=s.toks+1 }) (PySem.W.looks_clsIn X hc) ?_))))))
 rw [hd']
 refine ag (a:=some dx) (aa (ag (aa ?_)))
 refine wpAny_nsSet1 (s:={ s with toks:=s.toks+1 }) I.ns λh' hn2 hs2=>?_
 obtain ⟨oD,esD,epD,hoD,hdD,hcD⟩:=hn2.count (PySem.Within.cons name v hw)
 refine aa (wpAny_lookBehind hoD (by rw [hdD];exact pastItsLine_dict (bu hcD (by rw [aK];lia))) ?_)
 exact ag (h _ ⟨(hs2.2 _ (aT I.ne)).trans I.obj,hn2,I.ne⟩ hs2)
theorem wwx {R:Result→Ab→Prop}{vs:List Ag}{kw:List (Str×Ag)}(X:K.In s.heap)(hm:PySem.W.makesIn K C=true)
  (hi:PySem.W.findIn K (.ref C) "__init__" = some (some (.ref f))) (hf:PySem.W.typeIn K (.ref f)=some (.type "function"))
  (h:codeAny (model prog w) (A.under (.builtin "type.__call__" ⟨.ref C::vs,kw⟩)) (.call (.ref f) ⟨.ref (s.heap.objs.size+1)::vs,kw⟩) (PySem.W.InitBack (s.heap.objs.size+1) R)
   { s with heap:=(s.heap.push PySem.W.emptyDict).push (PySem.W.instObj C s.heap.objs.size) }) :
  codeAny (model prog w) A (.call (.ref C) ⟨vs,kw⟩) R s:=by
 obtain ⟨hh,g,d,t,os⟩:=s
 exact PySem.W.make_core (PySem.W.makes_of X hm) (PySem.W.looks_findIn X hi) (λself=>PySem.W.bind_fn X self hf) (.inl rfl) h
end
def zg (f:Str)(v:V):List (Str×V)→List (Str×V)
 |[]=>[(f,v)]
 |(g,x)::r=>if g=f then (g,v)::r else (g,x)::zg f v r
theorem Wq (f g:Str)(v:V):∀fs:List (Str×V),(zg f v fs).lookup g=if g=f then some v else fs.lookup g
 |[]=>by
  show List.lookup g [(f,v)]=_
  by_cases h:g=f
  ·have hb:(g==f)=true:=dj.mpr h
   simp only [List.lookup,hb,am h]
  ·have hb:(g==f)=false:=aH.mpr h
   simp only [List.lookup,hb,aj h]
 |(k,x)::r=>by
  have ih:=Wq f g v r
  rw [show zg f v ((k,x)::r)=(if k=f then (k,v)::r else (k,x)::zg f v r) from rfl]
  by_cases hk:k=f
  ·rw [am hk]
   by_cases h:g=k
   ·have hb:(g==k)=true:=dj.mpr h
    simp only [List.lookup,hb,am (h.trans hk)]
   ·have hb:(g==k)=false:=aH.mpr h
    simp only [List.lookup,hb,aj (λe:g=f=>h (e.trans hk.symm))]
  ·rw [aj hk]
   by_cases h:g=k
   ·have hb:(g==k)=true:=dj.mpr h
    simp only [List.lookup,hb,aj (λe:g=f=>hk (h.symm.trans e))]
   ·have hb:(g==k)=false:=aH.mpr h
    simp only [List.lookup,hb]
    exact ih
theorem Qr (f:Str)(v:V):∀fs:List (Str×V),f∈(zg f v fs).map (·.1)∧∀g,g∈fs.map (·.1)→g∈(zg f v fs).map (·.1)
 |[]=>⟨by simp [zg],λg h=>by simp at h⟩
 |(k,x)::r=>by
  obtain ⟨i1,i2⟩:=Qr f v r
  rw [show zg f v ((k,x)::r)=(if k=f then (k,v)::r else (k,x)::zg f v r) from rfl]
  by_cases hk:k=f
  ·rw [am hk]
   subst hk
   exact ⟨by simp,λg h=>by simpa using h⟩
  ·rw [aj hk]
   refine ⟨?_,λg h=>?_⟩
   ·rw [aD]
    exact aV _ i1
   ·rw [aD] at h ⊢
    rcases ai.mp h with e|e
    ·exact ai.mpr (.inl e)
    ·exact aV _ (i2 g e)
theorem Ww (f:Str)(v:V):∀fs:List (Str×V),(zg f v fs).length≤fs.length+1
 |[]=>by simp [zg]
 |(k,x)::r=>by
  have ih:=Ww f v r
  rw [show zg f v ((k,x)::r)=(if k=f then (k,v)::r else (k,x)::zg f v r) from rfl]
  by_cases hk:k=f
  ·rw [am hk,aK,aK];lia
  ·rw [aj hk,aK,aK];lia
theorem RelO.some_of {v:V}{o:Option Ag}(r:RelO (some v) o):∃u,o=some u∧RelV v u:=by
 cases o with
 |none=>exact (show False from r).elim
 |some u=>exact ⟨u,rfl,r⟩
theorem RelO.none_of {o:Option Ag}(r:RelO none o):o=none:=by
 cases o with
 |none=>rfl
 |some u=>exact (show False from r).elim
theorem qyv {v:V}{u:Ag}(r:RelV v u):PySem.W.handedIn u=true:=by
 cases v with
 |non=>cases (show u=Value.none from r);rfl
 |bl b=>cases (show u=Value.bool b from r);rfl
 |int i=>obtain ⟨t,e⟩:=(show ∃t,u=Value.int i t from r);cases e;rfl
 |str x=>obtain ⟨t,e⟩:=(show ∃t,u=Value.str x t from r);cases e;rfl
 |byt b=>obtain ⟨t,e⟩:=(show ∃t,u=Value.bytes b t from r);cases e;rfl
 |flt b=>obtain ⟨t,e⟩:=(show ∃t,u=Value.float b t from r);cases e;rfl
 |ref a=>cases (show u=Value.ref a from r);rfl
 |ty n=>cases (show u=Value.type n from r);rfl
section
variable {P:Ac}{w:Ah}{H H':Hp}{h h':Heap}{a C dx:Aj}{fs fs':List (Str×V)}
theorem qwv (hok:HOk P w H h)(e:H a=some (.ins C dx fs)):∃mA,ObjM h a dx C mA∧(∀f,RelO (fs.lookup f) (mA f))∧PySem.Within mA (fs.map (·.1))∧fs.length≤1000∧H dx=some (.own a):=by
 obtain ⟨d,z,ne,ob,mA,n,r,q⟩:=(show ObjOk P w H h a (.ins C dx fs) from hok a _ e)
 exact ⟨mA,⟨ob,n,ne⟩,r,q,z,d⟩
end
structure Cls (K:Aa)(C:Aj):Prop where
 pg:PySem.W.plainGet K C Str.empty=true
 hd:PySem.W.hasDictIn K C=true
 po:PySem.W.plainOver K C=true
 sa:PySem.W.findIn K (.ref C) "__setattr__" = some (some (.builtin "object.__setattr__"))
theorem Cls.get {K:Aa}{C:Aj}(c:Cls K C)(f:Str):PySem.W.plainGet K C f=true:=c.pg
def NoAttr (K:Aa)(C:Aj)(f:Str):Prop:=PySem.W.findIn K (.ref C) f=some none
theorem NoAttr.taker {K:Aa}{C:Aj}{f:Str}(n:NoAttr K C f):PySem.W.takerIn K C f=some none:=by
 unfold PySem.W.takerIn
 rw [show PySem.W.findIn K (.ref C) f=some none from n]
 rfl
structure Con (K:Aa)(C:Aj)(f:Str)(v:V)(u:Ag):Prop where
 at_:PySem.W.findIn K (.ref C) f=some (some u)
 rel:RelV v u
 get:PySem.W.specialIn K u "__get__" = some none
 cp:PySem.W.copiedNames.contains f=false
structure Meth (K:Aa)(C:Aj)(m:Str)(f:Aj):Prop where
 at_:PySem.W.findIn K (.ref C) m=some (some (.ref f))
 fn:PySem.W.isFn K (.ref f)=true
 kp:PySem.W.keepIn K (.ref f)=true
section
variable {X:Cx}{pins:List (Aj×Obj)}{σ:St}{H:Hp}{s:Ab}{a C dx:Aj}{fs:List (Str×V)}{f:Str}{v:V}{A:Ae}{E:Ag→Ab→Prop}
theorem qkx {b:Bool}{Q:Ag→Ab→Prop}(I:Inv X pins σ H s)(e:H a=some (.ins C dx fs))(c:Cls X.K C)(n:NoAttr X.K C f)(l:fs.lookup f=some v)
  (h:∀u s',Inv X pins σ H s'→RelV v u→Q u s'):wpAny (model X.prog X.w) A (getAttr (.ref a) f b) Q E s:=by
 obtain ⟨mA,O,r,_,_,_⟩:=qwv I.hok e
 obtain ⟨u,hu,ru⟩:=RelO.some_of (v:=v) (o:=mA f) (by rw [←l];exact r f)
 exact wwu I.kIn O (c.get f) c.hd n hu (qyv ru) (h u _ (I.tok _) ru)
theorem Yg {m:Str}{g:Aj}{pl:Sem Bool}{Q:Ag×List Ag→Ab→Prop}(I:Inv X pins σ H s)(e:H a=some (.ins C dx fs))(c:Cls X.K C)(k:Meth X.K C m g)(l:fs.lookup m=none)
  (h:Q (.ref g,[.ref a]) s):wpAny (model X.prog X.w) A (getMethod (.ref a) m pl) Q E s:=by
 obtain ⟨mA,O,r,_,_,_⟩:=qwv I.hok e
 have hn:mA m=none:=RelO.none_of (by rw [←l];exact r m)
 exact qyt I.kIn O (c.get m) k.at_ k.fn hn h
theorem qvw {y:V}{u:Ag}{Q:Unit→Ab→Prop}(I:Inv X pins σ H s)(e:H a=some (.ins C dx fs))(c:Cls X.K C)(n:NoAttr X.K C f)(hl:fs.length<1000)(ry:RelV y u)
  (h:∀s',Inv X pins σ (upd H a (.ins C dx (zg f y fs))) s'→Q () s'):wpAny (model X.prog X.w) A (setAttr (.ref a) f u) Q E s:=by
 obtain ⟨mA,O,r,wi,_,ho⟩:=qwv I.hok e
 have hz:(fs.map (·.1)).length≤sizeLine:=by rw [ae,sizeLine_eq];lia
 refine qq8 I.kIn O c.sa c.po n.taker c.hd wi hz λh' O' sb=>h _ ?_
 have hd:∃o,h'.get? dx=some o:=let ⟨o,_,_,e',_⟩:=O'.ns;⟨o,e'⟩
 refine I.write (x:=a) (e:=dx) (by rw [e];exact True.intro) (.inr ho) (λb q hb z=>(sb.2 b hb).trans z) hd ?_
 refine ⟨by rw [wx O.ne];exact ho,?_,O.ne,O'.obj,_,O'.ns,λg=>?_,λg hg=>?_⟩
 ·have:=Ww f y fs;lia
 ·show RelO ((zg f y fs).lookup g) (if g=f then some u else mA g)
  rw [Wq]
  by_cases q:g=f
  ·rw [am q,am q];exact ry
  ·rw [aj q,aj q];exact r g
 ·by_cases q:g=f
  ·rw [q];exact (Qr f y fs).1
  ·refine (Qr f y fs).2 g (wi g λz=>hg ?_)
   show (if g=f then some u else mA g)=none
   rw [aj q];exact z
theorem Inv.made (I:Inv X pins σ H s):Inv X pins σ (upd (upd H s.heap.objs.size (.own (s.heap.objs.size+1))) (s.heap.objs.size+1) (.ins C s.heap.objs.size []))
  { s with heap:=(s.heap.push PySem.W.emptyDict).push (PySem.W.instObj C s.heap.objs.size) }:=by
 have e1:(s.heap.push PySem.W.emptyDict).get? s.heap.objs.size=some PySem.W.emptyDict:=ak s.heap rfl
 have e2:((s.heap.push PySem.W.emptyDict).push (PySem.W.instObj C s.heap.objs.size)).get? (s.heap.objs.size+1)=some (PySem.W.instObj C s.heap.objs.size):=by
  have:=ak (s.heap.push PySem.W.emptyDict) (o:=PySem.W.instObj C s.heap.objs.size) rfl
  rwa [dP] at this
 have e3:(s.heap.push PySem.W.emptyDict).Ns s.heap.objs.size (λ_=>none):=⟨PySem.W.emptyDict,#[],_,e1,rfl,(λe he=>absurd he (by simp)),λ_=>rfl⟩
 have I1:=I.laid (a:=s.heap.objs.size) (o:=.own (s.heap.objs.size+1)) (h':=s.heap.push PySem.W.emptyDict) (t':=s.toks) (λb u q=>ac _ q) (af _) ⟨_,e1⟩
 refine I1.laid (a:=s.heap.objs.size+1) (o:=.ins C s.heap.objs.size []) (t':=s.toks) (λb u q=>ac _ q) (Nat.le_of_eq (dP _ _)) ?_
 have ne:s.heap.objs.size≠s.heap.objs.size+1:=ax (Nat.lt_succ_self _)
 refine ⟨by rw [wx ne,qb],az _,ne,e2,λ_=>none,(Heap.Ns1.of_empty e3).at λo q=>ac _ q,λ_=>True.intro,λy hy=>absurd rfl hy⟩
theorem wxm {prog:Ac}{w:Ah}{env:Env}{e:Expr}{f:Str}{pos:Pos}{s:Ab}{Q:Ag→Ab→Prop}(hb:attributeBase e f env (eval e env)=eval e env)
  (h:wpAny (model prog w) A (eval e env) (λo s₁=>wpAny (model prog w) A (getAttr o f true) Q E s₁) E s):wpAny (model prog w) A (eval (.Attribute e f pos) env) Q E s :=
 Attribute_any_ h (by rw [arm_eval_Attribute,hb])
end
def tFld (K:Aa)(ta:TE)(f:Str):TE:=λσ H Q=>ta σ H λx H1=>∃a C dx fs v,x=.ref a∧H1 a=some (.ins C dx fs)∧Cls K C∧NoAttr K C f∧fs.lookup f=some v∧Q v H1
def sFld (K:Aa)(ta tv:TE)(f:Str):TS:=λD σ H=>tv σ H λy H1=>ta σ H1 λx H2=>∃a C dx fs,x=.ref a∧H2 a=some (.ins C dx fs)∧Cls K C∧NoAttr K C f∧fs.length<1000 ∧
 D.nx σ (upd H2 a (.ins C dx (zg f y fs)))
section
variable {X:Cx}{o e value:Expr}{f:Str}{pos pos' tpos:Pos}{ta tv:TE}
theorem xm (he:PE X e ta)(hb:attributeBase e f X.env (eval e X.env)=eval e X.env):PE X (.Attribute e f pos) (tFld X.K ta f):=by
 intro pins s σ H Q I h
 refine wxm hb (thn (he pins s σ H _ I h) λu s1 ⟨x,H1,I1,rx,a,C,dx,fs,v,ex,ea,c,n,l,q⟩=>?_)
 subst ex
 obtain rfl:u=Value.ref a:=rx
 exact qkx I1 ea c n l λu' s2 I2 ru=>⟨v,H1,I2,ru,q⟩
theorem yt (ha:PE X o ta)(hv:PE X value tv)(hs:swapsWith value (some (.Attribute o f pos')) pos.line X.env=pure false):PS X (.Assign [.Attribute o f pos'] value pos) (sFld X.K ta tv f):=by
 intro pins s σ H D I h
 refine plainObj_wpAny_Assign_Attribute (thn (hv pins s σ H _ I h) λu s1 ⟨y,H1,I1,ry,q⟩=>thn (ha pins s1 σ H1 _ I1 q) λov s2 ⟨x,H2,I2,rx,a,C,dx,fs,ex,ea,c,n,l,q2⟩=>?_) hs
 subst ex
 obtain rfl:ov=Value.ref a:=rx
 exact qvw I2 ea c n l ry λs3 I3=>⟨σ,_,I3,q2⟩
end
section
variable {X:Cx}{pins:List (Aj×Obj)}{σ:St}{H:Hp}{s:Ab}{A:Ae}{E:Ag→Ab→Prop}{Q:Ag→Ab→Prop}{c:Ag}{b:Bool}
inductive TyOf (K:Aa) (H:Hp):V→Ag→Prop where
 |non:TyOf K H .non (.type "NoneType")
 |bl (x:Bool):TyOf K H (.bl x) (.type "bool")
 |int (i:Int):TyOf K H (.int i) (.type "int")
 |str (x:Str):TyOf K H (.str x) (.type "str")
 |flt (x:UInt64):TyOf K H (.flt x) (.type "float")
 |lst {a:Aj} {xs:List V} (e:H a=some (.lst xs)):TyOf K H (.ref a) (.type "list")
 |frz {a:Aj} {o:Obj} {xs:List V} (e:H a=some (.frz o (.lst xs))):TyOf K H (.ref a) (.type "list")
 |tup {a:Aj} {xs:List V} (e:H a=some (.tup xs)):TyOf K H (.ref a) (.type "tuple")
 |dK {a:Aj} {kvs:List (Key×V)} (e:H a=some (.dK kvs)):TyOf K H (.ref a) (.type "dict")
 |dT {a:Aj} {kvs:List (List Key×V)} (e:H a=some (.dT kvs)):TyOf K H (.ref a) (.type "dict")
 |ins {a C dx:Aj} {fs:List (Str×V)} (e:H a=some (.ins C dx fs)) (cl:Cls K C) (ha:PySem.W.findIn K (.ref C) "__class__" = some (some (.builtin "object.__class__")))
   (hn:PySem.W.specialIn K (.builtin "object.__class__") "__get__" = some (some (.builtin "getset_descriptor.__get__"))) (htk:PySem.W.takesIn K (.builtin "object.__class__")=some true)
   (hm:PySem.W.mroIn K C (.type "object")=some true):TyOf K H (.ref a) (.ref C)
end
structure Room (k:Nat)(A:Ae):Prop where
 hd:A.handled=none
 dp:A.depth+3*k+5<recursionLimit
 un:A.units+16*k+200<cLine
theorem Room.mono {j k:Nat}{A:Ae}(r:Room k A)(h:j≤k):Room j A:=⟨r.hd,by have:=r.dp;lia,by have:=r.un;lia⟩
theorem Room.deeper {k:Nat}{A:Ae}(r:Room (k+1) A)(env:Env):Room k (A.deeper env) :=
 ⟨r.hd,by have:=r.dp;show A.depth+1+3*k+5<_;lia,by have:=r.un;show A.units+3+16*k+200<_;lia⟩
theorem qkv {A:Ae}{C:Aj}{us:List Ag}{kw:List (Str×Ag)}:(A.under (.builtin "type.__call__" ⟨.ref C::us,kw⟩)).depth=A.depth+1:=by
 first | rfl | simp [Around.under,Code.weight,Code.isCreation,Code.isGuard,Code.isCaller,Code.frames,Code.isFrame,guardIds]
theorem qvx {A:Ae}{C:Aj}{us:List Ag}{kw:List (Str×Ag)}:(A.under (.builtin "type.__call__" ⟨.ref C::us,kw⟩)).units=A.units+1:=by
 first | rfl | simp [Around.under,Code.cUnits,Code.frames,Code.isFrame]
theorem Room.make {k:Nat}{A:Ae}(r:Room (k+1) A)(C:Aj)(us:List Ag)(kw:List (Str×Ag)):Room k (A.under (.builtin "type.__call__" ⟨.ref C::us,kw⟩)) :=
 ⟨r.hd,by have:=r.dp;rw [qkv];lia,by have:=r.un;rw [qvx];lia⟩
theorem Room.depth {k:Nat}{A:Ae}(r:Room k A):A.depth<recursionLimit:=by have:=r.dp;lia
theorem Room.units {k:Nat}{A:Ae}(r:Room k A):A.units+64<cLine:=by have:=r.un;lia
theorem Room.units0 {k:Nat}{A:Ae}(r:Room k A):A.units<cLine:=by have:=r.un;lia
def uy:TA:=λ_ H Q=>Q [] H
def kh (ta:TE)(tr:TA):TA:=λσ H Q=>ta σ H λx H1=>tr σ H1 λxs H2=>Q (x::xs) H2
section
variable {X:Cx}{e:Expr}{es:List Expr}{te:TE}{t:TA}{pos:Pos}
theorem qj:PA X [] uy:=λ_ _ _ _ H Q I h=>dY ⟨[],H,I,.nil,h⟩
theorem qq (ha:PE X e te)(hr:PA X es t)(hs:starEach (e::es) X.env=(false,eval e X.env)::starEach es X.env:=by rfl):PA X (e::es) (kh te t):=by
 intro pos pins s σ H Q I h
 rw [hs]
 show wpAny _ _ (spliced ((false,eval e X.env)::backTo pos (starEach es X.env))) _ _ s
 refine cT (thn (ha pins s σ H _ I h) λu s1 ⟨x,H1,I1,r1,q1⟩=>?_)
 exact thn (hr pos pins s1 σ H1 _ I1 q1) λus s2 ⟨xs,H2,I2,r2,q2⟩=>⟨x::xs,H2,I2,.cons r1 r2,q2⟩
def tTup (t:TA):TE:=λσ H Q=>t σ H λxs H1=>xs.length≤sizeLine∧∀p,H1 p=none→Q (.ref p) (upd H1 p (.tup xs))
def tLst (t:TA):TE:=λσ H Q=>t σ H λxs H1=>xs.length≤sizeLine∧∀p,H1 p=none→Q (.ref p) (upd H1 p (.lst xs))
theorem zq {x1}(h:PA X es t):PE X (.Tuple es x1 pos) (tTup t):=by
 intro pins s σ H Q I hq
 refine wpAny_Tuple_spliced (thn (h pos pins s σ H _ I hq) λus s1 ⟨xs,H1,I1,r,z,q⟩=>⟨by rw [←r.length];exact z,?_⟩)
 have hf:H1 s1.heap.objs.size=none:=I1.hok.fresh (af _)
 refine ⟨.ref s1.heap.objs.size,upd H1 s1.heap.objs.size (.tup xs),I1.laid (t':=s1.toks) (λb u e=>ac _ e) (af _) ?_,rfl,q _ hf⟩
 exact ⟨z,us,r,⟨_,ak _ rfl,rfl,_,rfl⟩⟩
theorem k6 (h:PA X es t):PE X (.List es pos) (tLst t):=by
 intro pins s σ H Q I hq
 refine wpAny_List_spliced (thn (h pos pins s σ H _ I hq) λus s1 ⟨xs,H1,I1,r,z,q⟩=>⟨by rw [←r.length];exact z,?_⟩)
 have hf:H1 s1.heap.objs.size=none:=I1.hok.fresh (af _)
 refine ⟨.ref s1.heap.objs.size,upd H1 s1.heap.objs.size (.lst xs),I1.laid (t':=s1.toks) (λb u e=>ac _ e) (af _) ?_,rfl,q _ hf⟩
 exact ⟨z,us,0,r,ak _ rfl⟩
end
abbrev Sp:=List V→Hp→VK→XK→Prop
abbrev CXT:=List Env→Hp→Ab→XK→Ag→Ab→Prop
structure Env0 (P:Ac)(w:Ah)(K:Aa)(mg:Str→Option Ag)(base:Heap)(A:Ae)(outer:List Env)(s:Ab)(H:Hp):Prop where
 frames:A.frames=some outer
 mod:Mod K mg base
 bs:∀b o,base.get? b=some o→s.heap.get? b=some o∧H b=none
 bsz:base.objs.size≤s.heap.objs.size
 funs:s.heap.FunFrames base outer
 frf:∀b∈frs outer,H b=none
 hok:HOk P w H s.heap
 bare:AllBare s.gens
def CE (outer:List Env)(P:Ac)(w:Ah)(H:Hp)(s:Ab)(Q:VK)(u:Ag)(s':Ab):Prop :=
 ∃v H',s'.os=s.os∧AllBare s'.gens∧Un (frs outer) [] H H' s.heap s'.heap∧HOk P w H' s'.heap∧RelV v u∧Q v H'
def CR (CX:CXT)(outer:List Env)(P:Ac)(w:Ah)(H:Hp)(s:Ab)(Q:VK)(E:XK)(r:Result)(s':Ab):Prop :=
 match r with
 |.ok (.ret u)=>CE outer P w H s Q u s'
 |.ok _=>False
 |.error e=>CX outer H s E e s'
structure FnOk (P:Ac)(w:Ah)(K:Aa)(mg:Str→Option Ag)(base:Heap)(CX:CXT)(k:Nat)(f:Aj)(fd:Ad)(ps:List Str)(sp:Sp):Prop where
 len:∀vs H Q E,sp vs H Q E→vs.length=ps.length
 run:∀(A:Ae) (outer:List Env) (s:Ab) (H:Hp) (args:Args) (us:List Ag) (vs:List V) (Q:VK) (E:XK),Room k A→Env0 P w K mg base A outer s H→BindsTo s fd args (ps.zip us)→Vals vs us→sp vs H Q E →
  codeAny (model P w) A (.call (.ref f) args) (CR CX outer P w H s Q E) s
theorem Env0.make {P:Ac}{w:Ah}{K:Aa}{mg:Str→Option Ag}{base:Heap}{A:Ae}{outer:List Env}{s:Ab}{H:Hp}(e:Env0 P w K mg base A outer s H)(C:Aj)(us:List Ag)(kw:List (Str×Ag)) :
  Env0 P w K mg base (A.under (.builtin "type.__call__" ⟨.ref C::us,kw⟩)) outer s H:=⟨by first | exact e.frames | (simpa [Around.under,Code.envs,Code.isFrame,pushEnvs] using e.frames),e.mod,e.bs,e.bsz,e.funs,e.frf,e.hok,e.bare⟩
section
variable {X:Cx}{pins:List (Aj×Obj)}{σ:St}{H:Hp}{s s':Ab}
theorem Inv.env0 (I:Inv X pins σ H s):Env0 X.prog X.w X.K X.mg X.base X.A X.stack s H :=
 ⟨I.ok.frames,I.ok.mod,I.bs,bu I.ok.bsz I.sz,I.stack,I.stkFree,I.hok,I.bare⟩
theorem Inv.after {Q:VK}{u:Ag}(I:Inv X pins σ H s)(h:CE X.stack X.prog X.w H s Q u s'):EP X pins σ Q u s':=by
 obtain ⟨v,H',os,bare,un,hok,r,q⟩:=h
 obtain ⟨hh,g,d,t,os'⟩:=s'
 obtain rfl:os'=s.os:=os
 exact ⟨v,H',I.call (h':=hh) (g':=g) (d':=d) (t':=t) (ch:=[]) un hok bare (λb z=>absurd z (by simp)),r,q⟩
end
def Binds (K:Aa)(fd:Ad)(ps:List Str)(ds:List Ag):Prop :=
 ∀(s:Ab) (us:List Ag),K.In s.heap→(us++ds).length=ps.length→BindsTo s fd ⟨us,[]⟩ (ps.zip (us++ds))
theorem Binds.all {K:Aa}{fd:Ad}{ps:List Str}(h:∀us:List Ag,us.length=ps.length→bindArgs fd ⟨us,[]⟩=pure (ps.zip us)):Binds K fd ps []:=λs us _ hl=>by
 rw [cz] at hl ⊢
 exact .of_eq (h us hl)
section
variable {X:Cx}{CX:CXT}{k:Nat}{f C:Aj}{fd:Ad}{ps:List Str}{sp:Sp}{dvs:List V}{ds:List Ag}{E:XK}{x m:Str}{p pos apos:Pos}{e o:Expr}{es:List Expr}{ta:TE}{t:TA}
structure Mk (K:Aa)(C f:Aj):Prop where
 makes:PySem.W.makesIn K C=true
 init:PySem.W.findIn K (.ref C) "__init__" = some (some (.ref f))
 fn:PySem.W.isFn K (.ref f)=true
 kp:PySem.W.keepIn K (.ref C)=true
end
section
variable {X:Cx}{CX:CXT}{k:Nat}{f C:Aj}{fd:Ad}{ps ks:List Str}{sp:Sp}{E:XK}{x m:Str}{p pos apos kpos:Pos}{e o:Expr}{es:List Expr}{kws:List Keyword}{te ta:TE}{t tk:TA}{nm:Option Str}
structure KBinds (K:Aa)(fd:Ad)(ps ks:List Str)(g:List Ag→List Ag→List Ag)(gV:List V→List V→List V):Prop where
 to:∀(s:Ab) (us ws:List Ag),K.In s.heap→(g us ws).length=ps.length→BindsTo s fd ⟨us,ks.zip ws⟩ (ps.zip (g us ws))
 rel:∀ {vs:List V} {us:List Ag} {zs:List V} {ws:List Ag},Vals vs us→Vals zs ws→Vals (gV vs zs) (g us ws)
variable {g:List Ag→List Ag→List Ag}{gV:List V→List V→List V}
end
structure FnScope (N P:List Str)(sc:Scope):Prop where
 kind:sc.kind=.function
 co:sc.isCoroutine=false
 gen:sc.isGenerator=false
 nd:N.Nodup
 pre:N.take P.length=P
 par:∀x∈P,sc.names.lookup x=some .local∨sc.names.lookup x=some .cell
 nofree:∀y∈sc.names,y.2≠.free
theorem qqk {kindOf:Str→Option NameKind}{x:Str}:∀ {binds:List (Str×Ag)} {m:Str→Option Ag},(∀v,(x,v)∉binds)→bindL kindOf binds m x=m x
 |[],_,_=>rfl
 |(n,v)::r,m,h=>by
  unfold bindL
  rw [qqk λw hw=>h w (aV _ hw)]
  split
  ·have:x≠n:=by rintro rfl;exact h v bt
   simp [this]
  ·rfl
theorem qqu {kindOf:Str→Option NameKind}{x:Str}:∀ {binds:List (Str×Ag)} {m:Str→Option Ag},(∀v,(x,v)∉binds)→bindC kindOf binds m x=m x
 |[],_,_=>rfl
 |(n,v)::r,m,h=>by
  unfold bindC
  rw [qqu λw hw=>h w (aV _ hw)]
  split
  ·rfl
  ·have:x≠n:=by rintro rfl;exact h v bt
   simp [this]
theorem qqv {kindOf:Str→Option NameKind}{x:Str}{v:Ag}:∀ {P:List Str} {vs:List Ag} {i:Nat} {m:Str→Option Ag},P.Nodup→P[i]?=some x→vs[i]?=some v→kindOf x=some .local →
  bindL kindOf (P.zip vs) m x=some v
 |[],_,_,_,_,h,_,_=>by simp at h
 |_::_,[],_,_,_,_,h,_=>by simp at h
 |p::P,w::vs,0,m,nd,h1,h2,hk=>by
  simp at h1 h2;subst h1;subst h2
  show bindL kindOf ((p,w)::P.zip vs) m p=_
  unfold bindL
  rw [qqk λv hv=>(aQ.mp nd).1 (eG hv).1,am hk]
  simp
 |p::P,w::vs,i+1,m,nd,h1,h2,hk=>by
  show bindL kindOf ((p,w)::P.zip vs) m x=_
  unfold bindL
  exact qqv (i:=i) (aQ.mp nd).2 (by simpa using h1) (by simpa using h2) hk
theorem qqj {kindOf:Str→Option NameKind}{x:Str}{v:Ag}:∀ {P:List Str} {vs:List Ag} {i:Nat} {m:Str→Option Ag},P.Nodup→P[i]?=some x→vs[i]?=some v→kindOf x≠some .local →
  bindC kindOf (P.zip vs) m x=some v
 |[],_,_,_,_,h,_,_=>by simp at h
 |_::_,[],_,_,_,_,h,_=>by simp at h
 |p::P,w::vs,0,m,nd,h1,h2,hk=>by
  simp at h1 h2;subst h1;subst h2
  show bindC kindOf ((p,w)::P.zip vs) m p=_
  unfold bindC
  rw [qqu λv hv=>(aQ.mp nd).1 (eG hv).1,aj hk]
  simp
 |p::P,w::vs,i+1,m,nd,h1,h2,hk=>by
  show bindC kindOf ((p,w)::P.zip vs) m x=_
  unfold bindC
  exact qqj (i:=i) (aQ.mp nd).2 (by simpa using h1) (by simpa using h2) hk
def Qg (N:List Str)(vs:List V):St:=vs.map some++List.replicate (N.length-vs.length) none
def qwm (CX:CXT)(P:Ac)(w:Ah)(K:Aa)(mg:Str→Option Ag)(base:Heap)(N:List Str)(qual:Str)(scope:Scope)(f:Aj)(cd:Ag)(A:Ae)(outer:List Env)(s:Ab)(H:Hp)(E:XK):Cx where
 prog:=P
 w:=w
 K:=K
 mg:=mg
 base:=base
 A:=A.deeper (envOfC qual scope s.heap.objs.size f cd)
 N:=N
 s₀:=s
 H₀:=H
 env:=envOfC qual scope s.heap.objs.size f cd
 outer:=outer
 stack:=envOfC qual scope s.heap.objs.size f cd::outer
 ex:=[]
 calm:=true
 fn:=λ_=>true
 pn:=[]
 xe:=λe s'=>wpAny (model P w) (A.deeper (envOfC qual scope s.heap.objs.size f cd)) (leaving (envOfC qual scope s.heap.objs.size f cd) e) (λ_ s''=>CX outer H s E e s'') (λe' s''=>CX outer H s E e' s'') s'
theorem qx3 {sc:Scope}{n:Nat}{x:Str}(h:sc.names.lookup x=some .cell):∃c,(cellsFrom n sc.names []).lookup x=some c:=by
 have q:=PySem.W.cellsFrom_some sc.names n [] (.inl h)
 exact Option.isSome_iff_exists.mp q
theorem qyz {CX:CXT}{P:Ac}{w:Ah}{K:Aa}{mg:Str→Option Ag}{base:Heap}{N ps:List Str}{qual:Str}{scope:Scope}{f:Aj}{cd:Ag}{A:Ae}{outer:List Env}{s s1:Ab}{H:Hp}{E:XK}{us:List Ag}{vs:List V}
  (S:FnScope N ps scope) (hd:A.handled=none) (e0:Env0 P w K mg base A outer s H) (hl:vs.length=ps.length) (r:Vals vs us)
  (x:InCallC s s.heap.objs.size (bindL (envOfC qual scope s.heap.objs.size f cd).kindOf (ps.zip us) λ_=>none) (cellsFrom (s.heap.objs.size+1) scope.names []) (bindC (envOfC qual scope s.heap.objs.size f cd).kindOf (ps.zip us) λ_=>none) s1) :
  Inv (qwm CX P w K mg base N qual scope f cd A outer s H E) [] (Qg N vs) H s1:=by
 have hpl:ps.length≤N.length:=by have:=cg List.length S.pre;rw [ck] at this;lia
 obtain ⟨h1,tk,rfl,hk⟩:=x.done
 have noA:∀b:Aj,b∉(qwm CX P w K mg base N qual scope f cd A outer s H E).ex:=λb z=>absurd (show b∈([]:List Aj) from z) (by simp)
 refine ⟨⟨e0.mod,S.kind,rfl,rfl,af _,λy z c h1 h2=>?_,λy hy=>?_,λy c _ h=>?_,λ_=>hd,Around.frames_deeper e0.frames,.inr ⟨rfl,rfl⟩,λb z=>absurd z (noA b),e0.bs,e0.bsz,λb _ _=>noA b,λb z=>absurd z (noA b),e0.funs,e0.frf⟩,
  rfl,e0.bare,Un.kept hk,⟨_,x.toInCall.ns,λi y v h1 h2 h3=>?_⟩,λy c h=>⟨_,x.cell y c h⟩,e0.hok.fresh (af _),λy c h=>?_,λp hp=>absurd (show p∈([]:List (Aj×Obj)) from hp) (by simp),e0.hok.kept hk,?_⟩
 ·exact name_of_addr x.apart (ce h1) (ce h2)
 ·have hy:scope.names.lookup y=some .cell∨scope.names.lookup y=some .free:=hy
  rcases hy with hy|hy
  ·exact qx3 hy
  ·exact absurd rfl (S.nofree _ (ce hy))
 ·exact bC (x.above y c (ce h))
 ·have hi:i<vs.length:=by
   unfold Qg at h2
   by_cases hi:i<vs.length
   ·exact hi
   ·rw [cE (by simpa using hi)] at h2
    rw [List.getElem?_replicate] at h2
    split at h2 <;> cases h2
  have ha:vs[i]?=some v:=by
   unfold Qg at h2
   rw [dS (by simpa using hi),aM] at h2
   cases e:vs[i]? with
   |none=>rw [e] at h2;cases h2
   |some a=>rw [e] at h2;cases h2;rfl
  obtain ⟨u,hu,rv⟩:=r.get ha
  have hp:ps[i]?=some y:=by
   rw [←S.pre,List.getElem?_take_of_lt (by lia)];exact h1
  have ndP:ps.Nodup:=by rw [←S.pre];exact S.nd.sublist (List.take_sublist _ _)
  refine ⟨u,rv,?_⟩
  rcases S.par y (bx hp) with k|k
  ·exact .inl ⟨k,qqv ndP hp hu k⟩
  ·obtain ⟨c,e⟩:=qx3 (n:=s.heap.objs.size+1) k
   refine .inr ⟨.inl k,c,e,?_⟩
   have q:=x.cell y c e
   rw [qqj ndP hp hu (by show scope.names.lookup y≠_;rw [k];decide)] at q
   exact q
 ·exact e0.hok.fresh (bC (x.above y c (ce h)))
 ·unfold Qg
  show _=N.length
  rw [aN,ae,List.length_replicate]
  lia
theorem fn_of {CX:CXT}{P:Ac}{w:Ah}{K:Aa}{mg:Str→Option Ag}{base:Heap}{k:Nat}{f:Aj}{name qual:Str}{params:Arguments}{body:List Stmt}{scope:Scope}{dV kV doc pm cdv ct oc:Ag}{an od:Option Aj}
  {osl:Array (Option Ag)} {N ps:List Str} {sp:Sp} (lk:K.lookup f=some ⟨oc,od,.func (PySem.W.fnOf name qual params body scope dV kV doc pm an cdv ct),osl⟩) (hcd:PySem.W.codeIn K cdv qual=true) (S:FnScope N ps scope)
  (len:∀vs H Q E,sp vs H Q E→vs.length=ps.length)
  (hbody:∀(A:Ae) (outer:List Env) (s:Ab) (H:Hp) (vs:List V) (Q:VK) (E:XK),Room k (A.deeper (envOfC qual scope s.heap.objs.size f cdv))→sp vs H Q E →
   ∃t,PSs (qwm CX P w K mg base N qual scope f cdv A outer s H E) body t∧t { nx:=λ_ H'=>Q .non H',rt:=Q } (Qg N vs) H) :
  FnOk P w K mg base CX (k+1) f (PySem.W.fnOf name qual params body scope dV kV doc pm an cdv ct) ps sp:=by
 refine ⟨len,λA outer s H args us vs Q E hr e0 hb r hsp=>?_⟩
 have hl:=len _ _ _ _ hsp
 have KX:K.In s.heap:=e0.mod.kin.keeps λb o e=>(e0.bs b o e).1
 have lim:s.heap.NoLimit:=e0.mod.nolimit.keeps λb o e=>(e0.bs b o e).1
 have hkind:∀y∈ps.zip us,scope.names.lookup y.1=some .local∨(scope.names.lookup y.1=some .cell∧((cellsFrom (s.heap.objs.size+1) scope.names []).lookup y.1).isSome=true):=λ⟨n,v⟩ hy=>by
  rcases S.par n (eG hy).1 with q|q
  ·exact .inl q
  ·exact .inr ⟨q,PySem.W.cellsFrom_some _ _ _ (.inl q)⟩
 refine codeAny_call_function hr.depth (KX _ _ lk) rfl S.co S.gen rfl (PySem.W.codeRec_of KX hcd) (hb _ _ _ _ ?_)
 refine wpAny_newFunctionEnv_cells S.kind hkind λenv he s1 x=>?_
 subst he
 refine ⟨lim.keeps x.toInCall.keep,codeAny_func ?_⟩
 obtain ⟨t,ht,hq⟩:=hbody A outer s H vs Q E (hr.deeper _) hsp
 have I:Inv (qwm CX P w K mg base N qual scope f cdv A outer s H E) [] (Qg N vs) H s1:=qyz S hr.hd e0 hl r x
 refine aP (ht [] s1 (Qg N vs) H _ I hq) (λfl s' hs=>?_) λe s' hs=>hs
 have fin:∀ {σ':St} {H':Hp} {v:V} {u:Ag},Inv (qwm CX P w K mg base N qual scope f cdv A outer s H E) [] σ' H' s'→RelV v u→Q v H'→CE outer P w H s Q u s' :=
  λ{σ' H' v u} J rv q=>⟨v,H',J.os,J.bare,J.base,J.hok,rv,q⟩
 cases fl with
 |ret u =>
  obtain ⟨v,σ',H',J,rv,q⟩:=hs
  exact fin J rv q
 |next =>
  obtain ⟨σ',H',J,q⟩:=hs
  exact fin (v:=V.non) (u:=Value.none) J rfl q
 |brk =>
  obtain ⟨_,_,_,q⟩:=hs
  exact False.elim q
 |cont =>
  obtain ⟨_,_,_,q⟩:=hs
  exact False.elim q
section
variable {X:Cx}{x:Str}{p pos:Pos}{e:Expr}{es:List Expr}{t:TA}{id T:String}{r:List V→Hp→VK→Prop}
def tCB (r:List V→Hp→VK→Prop)(t:TA):TE:=λσ H Q=>t σ H λvs H1=>r vs H1 Q
theorem wn (hc:vp X (.builtin id) r)(hg:Gl X x)(hm:X.mg x=none)(hv:bootBuiltins x=some (.builtin id))(ha:PA X (e::es) t)(hn:x ≠ "__name__" := by decide)(hdb:(x==("__debug__" : Str))=false:=by decide)
  (he:starEach (e::es) X.env=(false,eval e X.env)::starEach es X.env:=by rfl) (hpl:(backTo pos (starEach es X.env)).any (·.1)=false:=by rfl):PE X (.Call (.Name x p) (e::es) [] pos) (tCB r t):=by
 intro pins s σ H Q I h
 refine cv (qws I hg hm hv ?_ hn hdb)
 exact PyProof.Rows.callWith_builtin1 (thn (ha pos pins s σ H _ I h) λus s1 ⟨vs,H1,I1,r1,q1⟩=>hc pins s1 σ H1 vs us Q I1 r1 q1) he hpl
theorem k9 (hc:vp X (.type T) r)(hg:Gl X x)(hm:X.mg x=none)(hv:bootBuiltins x=some (.type T))(ha:PA X (e::es) t)(hn:x ≠ "__name__" := by decide)(hdb:(x==("__debug__" : Str))=false:=by decide)
  (he:starEach (e::es) X.env=(false,eval e X.env)::starEach es X.env:=by rfl) (hpl:(backTo pos (starEach es X.env)).any (·.1)=false:=by rfl):PE X (.Call (.Name x p) (e::es) [] pos) (tCB r t):=by
 intro pins s σ H Q I h
 refine cv (qws I hg hm hv ?_ hn hdb)
 exact cC (thn (ha pos pins s σ H _ I h) λus s1 ⟨vs,H1,I1,r1,q1⟩=>hc pins s1 σ H1 vs us Q I1 r1 q1) he hpl
end
end L2
namespace HT
open PySem PyProof.Rows
section
open PySem.SeqAt
open PySem.AutoSeq1 (wpAny_loadPart')
open PySem.MeetsSeq PySem.MeetsSeq2 PySem.MeetsSeq3
end
section
variable {prog:Ac}{w:Ah}{A:Ae}{E:Ag→Ab→Prop}{s:Ab}
def sIx (n d:Nat):Option Int→Nat
 |none=>d
 |some v=>if v<0 then (v+(n:Int)).toNat else min v.toNat n
theorem sIx_none (n d:Nat):sIx n d none=d:=rfl
theorem sIx_nat (n d k:Nat):sIx n d (some (k:Int))=min k n:=by
 show (if (k:Int)<0 then ((k:Int)+(n:Int)).toNat else min (k:Int).toNat n)=min k n
 rw [aj (by lia),bV]
end
end HT
namespace L2
open PySem PySem.Spec PyProof.Rows
abbrev TO:=St→Hp→(Option Int→Hp→Prop)→Prop
def PO (X:Cx)(e:Option Expr)(t:TO):Prop :=
 ∀(pins:List (Aj×Obj)) (s:Ab) (σ:St) (H:Hp) (Q:Option Int→Hp→Prop),Inv X pins σ H s→t σ H Q →
  wpAny (model X.prog X.w) X.A (evalPart e X.env) (λu s'=>∃o H',Inv X pins σ H' s'∧IsPart u o∧Q o H') X.xe s
def wzw:TO:=λ_ H Q=>Q none H
def tPart (t:TE):TO:=λσ H Q=>t σ H λx H1=>∃i,x=.int i∧Q (some i) H1
theorem qvc {ns:List Int}:∀ {us:List Ag},Vals (ns.map V.int) us→IntsAre us ns:=by
 induction ns with
 |nil=>intro us r;rw [bD] at r;cases r;exact .nil
 |cons n ns ih =>
  intro us r
  rw [aD] at r
  cases r with
  |cons r1 r2 =>
   obtain ⟨t,e⟩:=r1
   subst e
   exact .cons n t (ih r2)
section
variable {X:Cx}{e:Expr}{te:TE}{lo hi:Option Expr}{tl th:TO}{pos p2:Pos}
theorem u9:PO X none wzw:=by
 intro pins s σ H Q I h
 rw [evalPart_none]
 exact ag ⟨none,H,I,.none,h⟩
theorem Qx (h:PE X e te):PO X (some e) (tPart te):=by
 intro pins s σ H Q I hw
 rw [evalPart_some]
 refine thn (h pins s σ H _ I hw) λu s1 ⟨x,H1,I1,r1,q1⟩=>?_
 obtain ⟨i,rfl,q⟩:=q1
 obtain ⟨t,rfl⟩:=r1
 exact ⟨some i,H1,I1,.int i t,q⟩
def SlR (X:Cx)(r:V→Option Int→Option Int→Hp→VK→Prop):Prop :=
 ∀(pins:List (Aj×Obj)) (s:Ab) (σ:St) (H:Hp) (x:V) (v vl vu:Ag) (lo hi:Option Int) (sl:Aj) (Q:VK),Inv X pins σ H s→RelV x v→s.heap.IsSliceOf sl vl vu .none→IsPart vl lo→IsPart vu hi→r x lo hi H Q →
  ∃T id,typeLookup (.type T) "__getitem__" = pure (some (.builtin id))∧s.TypeIs v T∧wpAny (model X.prog X.w) X.A (getItem v (.ref sl)) (EP X pins σ Q) X.xe s
def tSl (r:V→Option Int→Option Int→Hp→VK→Prop)(te:TE)(tl th:TO):TE:=λσ H Q=>te σ H λx H1=>tl σ H1 λl H2=>th σ H2 λu H3=>r x l u H3 Q
theorem j4 {r:V→Option Int→Option Int→Hp→VK→Prop}(hr:SlR X r)(he:PE X e te)(hl:PO X lo tl)(hu:PO X hi th):PE X (.Subscript e (.Slice lo hi none p2) pos) (tSl r te tl th):=by
 intro pins s σ H Q I h
 refine Subscript_ (thn (he pins s σ H _ I h) λv s1 ⟨x,H1,I1,r1,q1⟩=>?_)
 refine wpAny_Slice (thn (hl pins s1 σ H1 _ I1 q1) λvl s2 ⟨l,H2,I2,pl,q2⟩=>thn (hu pins s2 σ H2 _ I2 q2) λvu s3 ⟨u,H3,I3,pu,q3⟩=>?_)
 rw [evalPart_none]
 refine ag ?_
 have I4:Inv X pins σ H3 { s3 with heap:=s3.heap.push { cls:=.type "slice",data:=.fields #[vl,vu,.none] } }:=I3.kept (t':=s3.toks) λb ob q=>ac _ q
 obtain ⟨T,id,hT,ht,hg⟩:=hr pins { s3 with heap:=s3.heap.push { cls:=.type "slice",data:=.fields #[vl,vu,.none] } } σ H3 x v vl vu l u s3.heap.objs.size Q I4 r1 (Heap.IsSliceOf.new ..) pl pu q3
 show wpAny (model X.prog X.w) X.A (subscriptTail e (.Slice lo hi none p2) v (.ref s3.heap.objs.size)) (EP X pins σ Q) X.xe { s3 with heap:=s3.heap.push { cls:=.type "slice",data:=.fields #[vl,vu,.none] } }
 exact tail_any (ops:=[.ref s3.heap.objs.size,v]) ht hT hg (by with_unfolding_all rfl)
def vj (xs:List V)(lo hi:Option Int):List V:=(xs.drop (HT.sIx xs.length 0 lo)).take (HT.sIx xs.length xs.length hi-HT.sIx xs.length 0 lo)
theorem jr (xs:List V)(lo hi:Option Int):(vj xs lo hi).length≤xs.length:=by
 unfold vj
 rw [ck,List.length_drop]
 lia
end
def ixN (n:Nat)(i:Int):Option Nat:=if 0≤i then (if i<n then some i.toNat else none) else if -(n:Int)≤i then some (i+n).toNat else none
def atI {α:Type}(xs:List α)(i:Int):Option α:=(ixN xs.length i).bind λj=>xs[j]?
theorem qk6 {n:Nat}{i:Int}{j:Nat}(h:ixN n i=some j):seqIndex? i n=some j∧j<n∧-(n:Int)≤i∧i<n:=by
 unfold ixN at h
 by_cases h0:0≤i
 ·rw [am h0] at h
  by_cases h1:i<n
  ·rw [am h1] at h
   have e:i.toNat=j:=ar h
   exact ⟨by rw [seqIndex_of h0 h1,e],by lia,by lia,h1⟩
  ·rw [aj h1] at h;cases h
 ·rw [aj h0] at h
  by_cases h1:-(n:Int)≤i
  ·rw [am h1] at h
   have e:(i+n).toNat=j:=ar h
   exact ⟨by rw [seqIndex_neg (by lia) h1,e],by lia,h1,by lia⟩
  ·rw [aj h1] at h;cases h
theorem qkc {α:Type}{xs:List α}{i:Int}{v:α}(h:atI xs i=some v):∃j,seqIndex? i xs.length=some j∧xs[j]?=some v∧j<xs.length∧-(xs.length:Int)≤i∧i<xs.length:=by
 unfold atI at h
 cases e:ixN xs.length i with
 |none=>rw [e] at h;cases h
 |some j =>
  rw [e] at h
  obtain ⟨h1,h2,h3,h4⟩:=qk6 e
  exact ⟨j,h1,h,h2,h3,h4⟩
theorem W8 {α:Type}{xs:List α}{j:Nat}{v:α}(h:xs[j]?=some v):atI xs (j:Int)=some v:=by
 have hj:j<xs.length:=(aU.mp h).1
 have e:ixN xs.length (j:Int)=some j:=by
  unfold ixN
  rw [am (by lia),am (by lia)];simp
 unfold atI;rw [e];exact h
theorem wqx {α:Type}(xs:List α)(v:α):atI (xs++[v]) (-1)=some v:=by
 have hl:(xs++[v]).length=xs.length+1:=by simp
 have e:ixN (xs++[v]).length (-1)=some xs.length:=by
  unfold ixN
  rw [hl,aj (by decide),am (by lia)]
  congr 1
  lia
 unfold atI
 rw [e]
 show (xs++[v])[xs.length]?=some v
 simp
def wxz (b:Expr):Prop:=∀o i,subscripted b false o i=operate [o,i] (getItem o i)
def IxR (X:Cx)(r:R2):Prop :=
 ∀(value slice:Expr) (pins:List (Aj×Obj)) (s:Ab) (σ:St) (H:Hp) (x y:V) (v u:Ag) (Q:VK),Inv X pins σ H s→RelV x v→RelV y u→r x y H Q →
  subscripted slice false v u=operate [v,u] (getItem v u)→wpAny (model X.prog X.w) X.A (subscriptTail value slice v u) (EP X pins σ Q) X.xe s
def MtR (X:Cx)(id:String)(r:V→List V→Hp→VK→Prop):Prop :=
 ∀(pins:List (Aj×Obj)) (s:Ab) (σ:St) (H:Hp) (x:V) (xs:List V) (v:Ag) (us:List Ag) (Q:VK),Inv X pins σ H s→RelV x v→Vals xs us→r x xs H Q →
  wpAny (model X.prog X.w) X.A (call (.builtin id) (v::us)) (EP X pins σ Q) X.xe s
section
variable {X:Cx}{a b:Expr}{ta tb:TE}{pos:Pos}
theorem zx {r:R2}(hr:IxR X r)(ha:PE X a ta)(hb:PE X b tb)(hs:wxz b):PE X (.Subscript a b pos) (tOp r ta tb):=by
 intro pins s σ H Q I h
 exact Subscript_ (binT ha hb I h λv u s2 x y H2 I2 rx ry q=>hr a b pins s2 σ H2 x y v u Q I2 rx ry q (hs _ _))
def rIxL (K:Aa):R2:=λx y H Q=>∃p xs i v,x=.ref p∧y=.int i∧SqL K H p xs∧atI xs i=some v∧Q v H
def rIxT (K:Aa):R2:=λx y H Q=>∃p xs i v,x=.ref p∧y=.int i∧SqT K H p xs∧atI xs i=some v∧Q v H
theorem zy:IxR X (rIxL X.K):=by
 intro value slice pins s σ H x y v u Q I rx ry h hs
 obtain ⟨p,xs,i,z,rfl,rfl,hq,he,q⟩:=h
 cases rx
 obtain ⟨t,rfl⟩:=ry
 obtain ⟨its,r,pl,hz⟩:=I.list hq
 obtain ⟨j,h1,h2,h3,h4,h5⟩:=qkc he
 obtain ⟨w,ew,rw'⟩:=r.get h2
 have hl:=r.length
 have hn:=Q3
 have fin:EP X pins σ Q w s:=⟨z,H,I,rw',q⟩
 by_cases h0:0≤i
 ·have hj:i.toNat=j:=by
   rw [seqIndex_of h0 h5] at h1
   exact ar h1
  exact item_listR pl.isList h0 (by lia) (by rw [hj];simpa using ew) fin hs
 ·have hj:(i+(its.toArray.size:Int)).toNat=j:=by
   rw [seqIndex_neg (by lia) h4] at h1
   rw [aw,←hl]
   exact ar h1
  exact subscriptTail_builtinR (x:=w) pl.isList.typeIs dZ.lookup
   (wpAny_getItem_list_neg (Q:=λr s'=>r=w∧EP X pins σ Q r s') pl.isList (by lia) (by rw [aw] <;> lia) (by lia) (by rw [hj];simpa using ew) ⟨rfl,fin⟩) hs
theorem vf:IxR X (rIxT X.K):=by
 intro value slice pins s σ H x y v u Q I rx ry h hs
 obtain ⟨p,xs,i,z,rfl,rfl,hq,he,q⟩:=h
 cases rx
 obtain ⟨t,rfl⟩:=ry
 obtain ⟨its,r,pl,hz⟩:=I.tuple hq
 obtain ⟨j,h1,h2,h3,h4,h5⟩:=qkc he
 obtain ⟨w,ew,rw'⟩:=r.get h2
 have hl:=r.length
 have hn:=Q3
 have fin:EP X pins σ Q w s:=⟨z,H,I,rw',q⟩
 exact subscriptTail_builtinR (x:=w) pl.typeIs slot_tuple_getitem.lookup
  (getItem_tuple (j:=j) (Q:=λr s'=>r=w∧EP X pins σ Q r s') pl (by lia) (by lia) (by rw [aw,←hl];exact h1) (by simpa using ew) ⟨rfl,fin⟩) hs
theorem qvg (its:List Ag)(n j:Nat)(u:Ag):Obj.mapSeq (·.setIfInBounds j u) { cls:=.type "list",data:=.seq its.toArray n }={ cls:=.type "list",data:=.seq (its.set j u).toArray n }:=by
 simp [Obj.mapSeq]
theorem Inv.lst {pins:List (Aj×Obj)}{σ:St}{H:Hp}{s:Ab}{p:Aj}{xs:List V}(I:Inv X pins σ H s)(h:H p=some (.lst xs)) :
  ∃(its:List Ag) (n:Nat),Vals xs its∧s.heap.get? p=some { cls:=.type "list",data:=.seq its.toArray n }∧xs.length≤sizeLine:=by
 obtain ⟨z,its,n,r,e⟩:=I.hok p _ h
 exact ⟨its,n,r,e,z⟩
theorem Inv.lstUpd {pins:List (Aj×Obj)}{σ:St}{H:Hp}{s:Ab}{p:Aj}{xs ys:List V}{its its':List Ag}{n n':Nat}{f:Obj→Obj}(I:Inv X pins σ H s)(h:H p=some (.lst xs))
  (ho:s.heap.get? p=some { cls:=.type "list",data:=.seq its.toArray n }) (hf:f { cls:=.type "list",data:=.seq its.toArray n }={ cls:=.type "list",data:=.seq its'.toArray n' }) (r:Vals ys its') (hz:ys.length≤sizeLine) (t:Nat) :
  Inv X pins σ (upd H p (.lst ys)) { s with heap:=s.heap.update p f,toks:=t }:=by
 have e:(s.heap.update p f).get? p=some { cls:=.type "list",data:=.seq its'.toArray n' }:=by
  rw [de f ho (by rw [hf] <;> rfl),hf]
 refine I.write (x:=p) (e:=p) (by rw [h];trivial) (.inl rfl) (λb u hb q=>(Heap.get?_update_other _ _ (aT hb)).trans q) ⟨_,e⟩ ?_
 exact ⟨hz,its',n',r,e⟩
def rSetL:V→V→V→Hp→(Hp→Prop)→Prop:=λo i v H Q=>∃p xs k j,o=.ref p∧i=.int k∧H p=some (.lst xs)∧ixN xs.length k=some j∧Q (upd H p (.lst (xs.set j v)))
theorem qy4:PSet X rSetL:=by
 intro pins s σ H o i v ov iv u Q I ro ri rv h
 obtain ⟨p,xs,k,j,rfl,rfl,hp,hj,q⟩:=h
 cases ro
 obtain ⟨t,rfl⟩:=ri
 obtain ⟨its,n,r,ho,hz⟩:=I.lst hp
 obtain ⟨h1,h2,h3,h4⟩:=qk6 hj
 have hl:=r.length
 have hn:=Q3
 have I':Inv X pins σ (upd H p (.lst (xs.set j v))) { s with heap:=s.heap.update p (Obj.mapSeq (·.setIfInBounds j u)) } :=
  I.lstUpd hp ho (qvg its n j u) (r.set rv j) (by rw [cR];exact hz) s.toks
 by_cases h0:0≤k
 ·have hk:k.toNat=j:=by
   rw [seqIndex_of h0 h4] at h1
   exact ar h1
  exact PySem.W.ki_setAt ho h0 (by lia) (by rw [aw,←hl];exact h4) (by rw [hk];exact ⟨_,I',q⟩)
 ·have hk:(k+(its.toArray.size:Int)).toNat=j:=by
   rw [seqIndex_neg (by lia) h3] at h1
   rw [aw,←hl]
   exact ar h1
  exact PySem.W.ki_setBack ho (by lia) (by rw [aw,←hl];exact h3) (by lia) (by rw [hk];exact ⟨_,I',q⟩)
theorem qwf (lo hi:Option Int)(n:Nat):(sliceBounds lo hi none n).1=((HT.sIx n 0 lo:Nat):Int)∧(sliceBounds lo hi none n).2.1=((HT.sIx n n hi:Nat):Int)∧(sliceBounds lo hi none n).2.2=1:=by
 refine ⟨?_,?_,rfl⟩
 ·cases lo with
  |none=>simp [sliceBounds,HT.sIx]
  |some i =>
   simp only [sliceBounds,HT.sIx,Option.getD_none,show (1:Int)>0 by decide,eF]
   by_cases h:i<0
   ·simp only [h,eF] <;> lia
   ·simp only [h,cX] <;> lia
 ·cases hi with
  |none=>simp [sliceBounds,HT.sIx]
  |some i =>
   simp only [sliceBounds,HT.sIx,Option.getD_none,show (1:Int)>0 by decide,eF]
   by_cases h:i<0
   ·simp only [h,eF] <;> lia
   ·simp only [h,cX] <;> lia
theorem Y5 (its:List Ag)(lo hi:Option Int):slicePick its.toArray lo hi none=((its.drop (HT.sIx its.length 0 lo)).take (HT.sIx its.length its.length hi-HT.sIx its.length 0 lo)).toArray:=by
 obtain ⟨h1,h2,h3⟩:=qwf lo hi its.toArray.size
 unfold slicePick
 rw [h1,h2,h3]
 simp only [sliceRange_one,pick_run,aw] <;> rfl
def rSlL (K:Aa):V→Option Int→Option Int→Hp→VK→Prop:=λx lo hi H Q=>∃a xs,x=.ref a∧SqL K H a xs∧∀p,H p=none→Q (.ref p) (upd H p (.lst (vj xs lo hi)))
theorem Qc:SlR X (rSlL X.K):=by
 intro pins s σ H x v vl vu lo hi sl Q I rx hs pl pu h
 obtain ⟨a,xs,rfl,hx,q⟩:=h
 cases rx
 obtain ⟨its,r,ht,hz⟩:=I.list hx
 have hlen:=r.length
 refine ⟨"list",_,dZ.lookup,ht.isList.typeIs,?_⟩
 refine wpAny_getItem_list_slice ht.isList hs pl pu .none (by simp) ?_ (by rw [aw] <;> lia)
 rw [Y5,←hlen]
 refine ⟨.ref s.heap.objs.size,_,I.laid (t':=s.toks) (o:=.lst (vj xs lo hi)) (λb ob q=>ac _ q) (af _) ?_,rfl,q _ (I.hok.fresh (af _))⟩
 exact ⟨bu (jr xs lo hi) hz,_,0,(r.drop (HT.sIx xs.length 0 lo)).take (HT.sIx xs.length xs.length hi-HT.sIx xs.length 0 lo),ak _ rfl⟩
theorem w6:vp X (.builtin "len") (λxs H Q=>∃p ys,xs=[.ref p]∧(SqL X.K H p ys∨SqT X.K H p ys)∧Q (.int ys.length) H):=by
 intro pins s σ H xs us Q I r h
 obtain ⟨p,ys,rfl,hq,q⟩:=h
 obtain ⟨u,rfl,rx⟩:=jm r
 cases rx
 have hn:=Q3
 rcases hq with hq|hq
 ·obtain ⟨its,r',pl,hz⟩:=I.list hq
  have hlen:=r'.length
  exact Calls.call_len_list pl.isList (by simp only [aw] <;> lia) ⟨.int ys.length,H,I.tok _,⟨s.toks+1,by rw [aw,hlen]⟩,q⟩
 ·obtain ⟨its,r',pl,hz⟩:=I.tuple hq
  have hlen:=r'.length
  exact len_tuple pl (by simp only [aw] <;> lia) ⟨.int ys.length,H,I.tok _,⟨s.toks+1,by rw [aw,hlen]⟩,q⟩
theorem u6:vp X (.builtin "len") (λxs H Q=>∃z,xs=[.str z]∧z.length≤sizeLine∧Q (.int z.length) H):=by
 intro pins s σ H xs us Q I r h
 obtain ⟨z,rfl,hz,q⟩:=h
 obtain ⟨u,rfl,t,rfl⟩:=jm r
 have hn:=Q3
 exact len_str (by lia) ⟨.int z.length,H,I.tok _,⟨_,rfl⟩,q⟩
theorem jc:vp X (.type "list") (λxs H Q=>∃p ys,xs=[.ref p]∧(SqL X.K H p ys∨SqT X.K H p ys)∧∀l,H l=none→Q (.ref l) (upd H l (.lst ys))):=by
 intro pins s σ H xs us Q I r h
 obtain ⟨p,ys,rfl,hq,q⟩:=h
 obtain ⟨u,rfl,rx⟩:=jm r
 cases rx
 have fin:∀(its:List Ag),Vals ys its→ys.length≤sizeLine→∀(h':Heap) (c':Nat),(∀b o',s.heap.get? b=some o'→h'.get? b=some o') →
   h'.get? s.heap.objs.size=some { cls:=.type "list",dict:=none,data:=.seq its.toArray c',slots:=#[] }→EP X pins σ Q (.ref s.heap.objs.size) { s with heap:=h' }:=λits r' hz h' c' kp e =>
  ⟨.ref s.heap.objs.size,_,I.laid (t':=s.toks) kp (af _) (show ObjOk X.prog X.w _ h' _ (.lst ys) from ⟨hz,its,c',r',e⟩),rfl,q _ (I.hok.fresh (af _))⟩
 rcases hq with hq|hq
 ·obtain ⟨its,r',pl,hz⟩:=I.list hq
  have hlen:=r'.length
  obtain ⟨o,ho,hc,n,hd⟩:=pl.isList
  exact call_list_seq p (.inl rfl) ho hc hd (λh' c' kp e=>fin its r' hz h' c' kp e) (by simp only [aw] <;> lia)
 ·obtain ⟨its,r',pl,hz⟩:=I.tuple hq
  have hlen:=r'.length
  obtain ⟨o,ho,hc,n,hd⟩:=pl
  exact call_list_seq p (.inr rfl) ho hc hd (λh' c' kp e=>fin its r' hz h' c' kp e) (by simp only [aw] <;> lia)
def tyV (K:Aa)(T:String)(x:V)(H:Hp):Prop:=match x with
 |.str _=>T = "str"
 |.int _=>T = "int"
 |.ref p=>(T = "list" ∧ ∃xs,SqL K H p xs)∨(T = "tuple" ∧ ∃o,K.lookup p=some o∧o.cls=.type "tuple" ∧ o.dict=none) ∨
   (T = "dict" ∧ ((∃kvs,H p=some (.dK kvs))∨∃kvs,H p=some (.dT kvs)))∨(T = "set" ∧ ∃S n,H p=some (.set S n))
 |_=>False
theorem wqm {pins:List (Aj×Obj)}{σ:St}{H:Hp}{s:Ab}{T:String}{x:V}{v:Ag}(I:Inv X pins σ H s)(r:RelV x v)(ty:tyV X.K T x H) :
  s.TypeIs v T∧∀a,v=.ref a→∃ob,s.heap.get? a=some ob∧ob.dict=none:=by
 cases x with
 |str z =>
  obtain ⟨t,rfl⟩:=r
  cases (show T = "str" from ty)
  exact ⟨typeIs_str s z t,λ_ e=>nomatch e⟩
 |int i =>
  obtain ⟨t,rfl⟩:=r
  cases (show T = "int" from ty)
  exact ⟨typeIs_int s i t,λ_ e=>nomatch e⟩
 |ref p =>
  cases r
  rcases ty with ⟨rfl,xs,hq⟩|⟨rfl,o,hk,hc,hd⟩|⟨rfl,hk⟩|⟨rfl,S,n,hk⟩
  ·obtain ⟨its,_,pl,_⟩:=I.list hq
   refine ⟨pl.isList.typeIs,λa e=>?_⟩
   cases e
   obtain ⟨o,n,e,c,hd,_⟩:=pl
   exact ⟨o,e,hd⟩
  ·refine ⟨⟨o,I.kIn p o hk,hc⟩,λa e=>?_⟩
   cases e
   exact ⟨o,I.kIn _ o hk,hd⟩
  ·have z:∃o,s.heap.get? p=some o∧o.ExactDict:=by
    rcases hk with ⟨kvs,hk⟩|⟨kvs,hk⟩
    ·obtain ⟨_,_,_,_,o,_,_,e,ex,_⟩:=I.hok p _ hk
     exact ⟨o,e,ex⟩
    ·obtain ⟨_,_,_,_,o,_,_,e,ex,_⟩:=I.hok p _ hk
     exact ⟨o,e,ex⟩
   obtain ⟨o,e,ex⟩:=z
   refine ⟨⟨o,e,ex.1⟩,λa e2=>?_⟩
   cases e2
   exact ⟨o,e,ex.2.1⟩
  ·obtain ⟨o,_,_,_,e,ex,_⟩:=I.hok p _ hk
   refine ⟨⟨o,e,ex.1⟩,λa e2=>?_⟩
   cases e2
   exact ⟨o,e,ex.2.1⟩
 |_=>exact False.elim ty
def tBM0 (K:Aa)(T:String)(r:V→List V→Hp→VK→Prop)(to:TE):TE:=λσ H Q=>to σ H λx H1=>tyV K T x H1∧r x [] H1 Q
def tBM (K:Aa)(T:String)(r:V→List V→Hp→VK→Prop)(to:TE)(t:TA):TE:=λσ H Q=>to σ H λx H1=>tyV K T x H1∧t σ H1 λxs H2=>r x xs H2 Q
variable {o e:Expr}{es:List Expr}{to:TE}{t:TA}{name:Str}{apos cpos:Pos}{T id:String}{r:V→List V→Hp→VK→Prop}
theorem pe_bm0 (pa:PlainAttrs T)(slot:Slot T name id)(hty:typeOf (.builtin id)=pure (.type "method_descriptor"))(hm:MtR X id r)(ho:PE X o to)
  (hbase:attributeBase o name X.env (eval o X.env)=eval o X.env:=by rfl) (hline:(apos.endLine==cpos.line)=true:=by rfl):PE X (.Call (.Attribute o name apos) [] [] cpos) (tBM0 X.K T r to):=by
 intro pins s σ H Q I h
 refine wpAny_Call_method0_late hbase hline (thn (ho pins s σ H _ I h) λv s1 ⟨x,H1,I1,r1,ty,q1⟩=>?_)
 obtain ⟨h1,h2⟩:=wqm I1 r1 ty
 exact ⟨T,id,pa,slot,hty,h1,h2,bE rfl (PySem.evalArgs_none (hm pins s1 σ H1 x [] v [] Q I1 r1 .nil q1))⟩
theorem qkf (pa:PlainAttrs T)(slot:Slot T name id)(hty:typeOf (.builtin id)=pure (.type "method_descriptor"))(hm:MtR X id r)(ho:PE X o to)(ha:PA X (e::es) t)
  (hbase:attributeBase o name X.env (eval o X.env)=eval o X.env:=by rfl)
  (hfew:((backTo cpos (starEach (e::es) X.env)).all (λx=>!x.1)&&(backToKw cpos (keywordEach [] X.env)).all (λx=>x.1.isSome)
   && decide ((e::es).length+([]:List Keyword).length+(if ([]:List Keyword).isEmpty then 0 else 1)<30))=true:=by rfl)
  (hline:(apos.endLine==cpos.line)=true:=by rfl) (hs:starEach (e::es) X.env=(false,eval e X.env)::starEach es X.env:=by rfl) (hplain:(backTo cpos (starEach es X.env)).any (·.1)=false:=by rfl) :
  PE X (.Call (.Attribute o name apos) (e::es) [] cpos) (tBM X.K T r to t):=by
 intro pins s σ H Q I h
 refine wpAny_Call_method_late hbase hfew hline rfl (thn (ho pins s σ H _ I h) λv s1 ⟨x,H1,I1,r1,ty,q1⟩=>?_)
 obtain ⟨h1,h2⟩:=wqm I1 r1 ty
 refine ⟨T,id,pa,slot,hty,h1,h2,?_⟩
 have hA:=ha cpos pins s1 σ H1 _ I1 q1
 rw [hs] at hA ⊢
 refine bE (by show (false||(backTo cpos (starEach es X.env)).any (·.1))=false;rw [hplain] <;> rfl) (cF ?_)
 exact thn hA λus s2 ⟨vs,H2,I2,r2,q2⟩=>hm pins s2 σ H2 x vs v us Q I2 r1 r2 q2
end
def MtM (X:Cx)(id:String)(r:V→List V→Hp→VK→Prop):Prop :=
 ∀(pins:List (Aj×Obj)) (s:Ab) (σ:St) (H:Hp) (x:V) (xs:List V) (v:Ag) (us:List Ag) (Q:VK),Inv X pins σ H s→RelV x v→Vals xs us→r x xs H Q →
  wpAny (model X.prog X.w) X.A (call (.builtin id) (v::us)) (EP X pins σ Q) X.xe s
theorem Vals.one:∀ {x:V} {us:List Ag},Vals [x] us→∃u,us=[u]∧RelV x u
 |_,_,.cons r .nil=>⟨_,rfl,r⟩
theorem Vals.zero:∀ {us:List Ag},Vals [] us→us=[]
 |_,.nil=>rfl
theorem Vals.dropLast {xs:List V}{us:List Ag}(h:Vals xs us):Vals xs.dropLast us.dropLast:=by
 induction h with
 |nil=>exact .nil
 |cons r t ih =>
  cases t with
  |nil=>exact .nil
  |cons q t'=>exact .cons r ih
theorem Vals.reverse {xs:List V}{us:List Ag}(h:Vals xs us):Vals xs.reverse us.reverse:=by
 induction h with
 |nil=>exact .nil
 |cons r t ih=>rw [cY,cY];exact Vals.append ih (.cons r .nil)
theorem qvu {α:Type}(l:List α):l.eraseIdx (l.length-1)=l.dropLast:=by
 induction l with
 |nil=>rfl
 |cons a r ih =>
  cases r with
  |nil=>rfl
  |cons b r =>
   have e:(a::b::r).length-1=((b::r).length-1)+1:=by
    have h1:(a::b::r).length=r.length+2:=rfl
    have h2:(b::r).length=r.length+1:=rfl
    lia
   rw [e,List.eraseIdx_cons_succ,ih]
   all_goals rfl
section
variable {X:Cx}{pins:List (Aj×Obj)}{σ:St}{H:Hp}{s:Ab}{l b:Aj}{xs ys zs:List V}
theorem Inv.lset {its its':List Ag}{n:Nat}{f:Array Ag→Array Ag}{t':Nat}(I:Inv X pins σ H s)(hH:H l=some (.lst xs))
  (e:s.heap.get? l=some { cls:=.type "list",data:=.seq its.toArray n }) (hf:f its.toArray=its'.toArray) (hv:Vals ys its') (hz:ys.length≤sizeLine) :
  Inv X pins σ (upd H l (.lst ys)) { s with heap:=s.heap.update l (Obj.mapSeq f),toks:=t' }:=by
 have q:=PySem.IsL.update e f
 rw [hf] at q
 refine I.write (x:=l) (e:=l) (by rw [hH];exact trivial) (.inl rfl) (λb' u hb hu=>(Heap.get?_update_other s.heap (Obj.mapSeq f) (aT hb)).trans hu) ⟨_,q⟩ ?_
 exact ⟨hz,its',_,hv,q⟩
theorem Inv.lnew {its:List Ag}{t':Nat}(I:Inv X pins σ H s)(hv:Vals ys its)(hz:ys.length≤sizeLine) :
  Inv X pins σ (upd H s.heap.objs.size (.lst ys)) { s with heap:=s.heap.push { cls:=.type "list",data:=.seq its.toArray },toks:=t' } :=
 I.laid (λ_ _ q=>ac _ q) (af _) ⟨hz,its,0,hv,ak _ rfl⟩
theorem Inv.fresh (I:Inv X pins σ H s):H s.heap.objs.size=none:=I.hok.fresh (af _)
theorem Inv.lstM (I:Inv X pins σ H s)(hH:H l=some (.lst xs)):xs.length≤sizeLine∧∃(its:List Ag) (n:Nat),Vals xs its∧xs.length=its.length∧s.heap.get? l=some { cls:=.type "list",data:=.seq its.toArray n }:=by
 obtain ⟨z,its,n,r,e⟩:=I.hok l _ hH
 exact ⟨z,its,n,r,r.length,e⟩
end
section
variable {X:Cx}
def wx1:V→List V→Hp→VK→Prop:=λx vs H Q=>∃l xs y,x=.ref l∧vs=[y]∧H l=some (.lst xs)∧xs.length<sizeLine∧Q .non (upd H l (.lst (xs++[y])))
theorem jw:MtM X "list.append" wx1:=by
 intro pins s σ H x vs v us Q I rx rv h
 obtain ⟨l,xs,y,rfl,rfl,hH,hz,q⟩:=h
 cases rx
 obtain ⟨u,rfl,ru⟩:=rv.one
 obtain ⟨z,its,n,r,hl,e⟩:=I.lstM hH
 refine call_meets F.slot_list_append ⟨_,e,rfl⟩ F.entry_list_append (F.args_list_append_2 _ _) (PySem.list_append l its.toArray n u (by rw [aw];lia)) ⟨e,?_⟩
 refine ⟨.non,_,I.lset (its':=its++[u]) hH e (by simp) (r.append (.cons ru .nil)) ?_,rfl,q⟩
 rw [aN,bq]
 lia
def rPop:V→List V→Hp→VK→Prop:=λx vs H Q=>∃l xs y,x=.ref l∧vs=[]∧H l=some (.lst xs)∧xs[xs.length-1]?=some y∧Q y (upd H l (.lst xs.dropLast))
theorem mt_pop:MtM X "list.pop" rPop:=by
 intro pins s σ H x vs v us Q I rx rv h
 obtain ⟨l,xs,y,rfl,rfl,hH,hy,q⟩:=h
 cases rx
 have hus:=rv.zero
 subst hus
 obtain ⟨z,its,n,r,hl,e⟩:=I.lstM hH
 obtain ⟨u,hu,ru⟩:=r.get hy
 have hy':its.toArray[its.toArray.size-1]?=some u:=by
  show its.toArray[its.length-1]?=some u
  rw [←bL,←hl]
  exact hu
 refine call_meets F.slot_list_pop ⟨_,e,rfl⟩ F.entry_list_pop (F.args_list_pop_1 _) (MeetsSeq.list_pop_last l its.toArray n u hy' (by rw [aw];lia)) ⟨e,?_⟩
 refine ⟨y,_,I.lset (its':=its.dropLast) hH e ?_ r.dropLast ?_,ru,q⟩
 ·show its.toArray.eraseIdxIfInBounds (its.toArray.size-1)=its.dropLast.toArray
  rw [aw,List.eraseIdxIfInBounds_toArray,qvu]
 ·rw [dq]
  lia
def rCat:R2:=λx y H Q=>∃l b xs zs,x=.ref l∧y=.ref b∧H l=some (.lst xs)∧H b=some (.lst zs)∧xs.length+zs.length≤sizeLine∧∀p,H p=none→Q (.ref p) (upd H p (.lst (xs++zs)))
theorem qwt:OpR X (binaryOp .Add) rCat:=by
 intro pins s σ H x y v u Q I rx ry h
 obtain ⟨l,b,xs,zs,rfl,rfl,hH,hB,hz,q⟩:=h
 cases rx
 cases ry
 obtain ⟨z,its,n,r,hl,e⟩:=I.lstM hH
 obtain ⟨z2,its2,n2,r2,hl2,e2⟩:=I.lstM hB
 refine PySem.P.add_list e e2 ?_ (by rw [aw,aw];lia)
 have ea:its.toArray++its2.toArray=(its++its2).toArray:=by simp
 rw [ea]
 exact ⟨.ref _,_,I.lnew (t':=s.toks) (r.append r2) (by rw [aN];lia),rfl,q _ I.fresh⟩
end
section
variable {prog:Ac}{w:Ah}{A:Ae}{E:Ag→Ab→Prop}{s:Ab}
end
section
variable {X:Cx}
end
end L2
namespace Att
open PySem PySem.W PySem.Calls PyProof.Rows
theorem Wz {P:Params}{h:Heap}:∀(ns:List Int) (vs:List Ag),WellAll P h vs (ns.map WData.int)→IntsAre vs ns:=by
 intro ns
 induction ns with
 |nil =>
  intro vs w
  rw [bD] at w
  cases w
  exact .nil
 |cons n ns ih =>
  intro vs w
  rw [aD] at w
  cases w with
  |cons a b =>
   cases a
   exact .cons _ _ (ih _ b)
theorem qjk {l:OpenLaw}{n:Nat}(hn:l.most=some n){P:Params}{h:Heap}{args:List WData}{vals:List Ag}
  (hpre:l.row.toRowW.claim.pre args=true) (hwl:WellAll P h vals args) :
  ∃a vs ns,vals=[Value.ref a]∧args=[WData.list (ns.map WData.int)]∧h.get? a=some { cls:=.type "list",data:=.seq vs.toArray }∧IntsAre vs ns∧ns.length≤n:=by
 have hsh:WShape.hasAll [] args [.list .int]=true:=(pre_splitW hpre).1
 have hc:l.pre.holds [] { args:=args }=true:=(pre_splitW hpre).2
 obtain ⟨d,r,rfl,h1,h2⟩:=hasAllW_cons hsh
 obtain rfl:=hasAllW_nil h2
 obtain ⟨xs,rfl,h3⟩:=hasW_list h1
 obtain ⟨ns,rfl⟩:=items_int h3
 have hlen:ns.length≤n:=by
  unfold OpenLaw.pre at hc
  have h4:(WTm.not (.lt (.lit (.int (n:Int))) (.len (.arg 0)))).holds [] { args:=[.list (ns.map .int)] }=true:=by
   have h4:=(holds_andW hc).1
   rw [hn] at h4
   exact h4
  have h5:=condW_of h4 (w_not (w_lt w_lit (w_len_list (w_arg rfl))))
  rw [ae] at h5
  refine Nat.le_of_not_lt λq=>?_
  have q':(n:Int)<((ns.length:Nat):Int):=by lia
  first
   |(rw [aZ q'] at h5;exact absurd h5 (by decide))
   |(simp at h5;lia)
 cases hwl with
 |cons w1 w2 =>
  cases w2
  cases w1 with
  |list ho hall=>exact ⟨_,_,ns,rfl,rfl,ho,Wz ns _ hall,hlen⟩
theorem qjh (l:OpenLaw)(args:List WData):l.row.toRowW.claim.post args (.bool true) args=true :=
 postW_of (r:=l.row.toRowW) (X:=(true==true))
  (show WShape.has [] (.bool true) .bool=true by first | rfl | decide | simp [WShape.has,WShape.arms,WShape.armsAll])
  (show (WTm.eq .res (.lit (.bool true))).value [] { args:=args,res:=some (.bool true),after:=args }=some (.bool (true==true)) from w_eq_bool (w_res rfl) w_lit) rfl
theorem attach_call {l:OpenLaw}{n:Nat}{q:Ac}{loose:List Str}{XP:(Str→Option Ag)→Heap→Prop}{YP:Ah→Heap→Prop}{d:DefRec}
  (hn:l.most=some n) (hdf:d.params.defaults=[])
  (call:∀(w:Ah) (s₀ s₁:Ab) (mg mb:Str→Option Ag) (fa:Aj) (o:Obj) (pm cd doc:Ag) (a:Aj) (vs:List Ag) (ns:List Int),
   Ground q loose [] XP w s₀ mg mb s₁.heap→YP w s₁.heap →
   s₁.heap.get? fa=some o→o.data=.func (docDef d.name d.params d.body d.scope pm cd doc)→s₁.heap.CodeRec cd d.name→mg d.name=some (.ref fa) →
   s₁.heap.get? a=some { cls:=.type "list",data:=.seq vs.toArray }→IntsAre vs ns→ns.length≤n→s₁.gens=#[] →
   codeAny (model l.prog w) callerA (.call (.ref fa) ⟨[.ref a],[]⟩) (λr s'=>r=.ok (.ret (.bool true))∧OldK s₁.heap s'.heap∧s'.os=s₁.os∧AllBare s'.gens) s₁) :
  WalkO q loose XP YP l.row.toRowW d [] (λf vs=>PySem.call f vs):=by
 intro w s₀ s₁ mg mb G Y fa o pm cd doc dV kV ho hd hcd hD hmg hg args vals as hpre hlay hrd hwl hlo
 obtain rfl:dV=.none:=Dflts.none hD hdf
 obtain rfl:kV=.none:=Dflts.noKw hD
 obtain ⟨a,vs,ns,rfl,rfl,hobj,hints,hlen⟩:=qjk hn hpre hwl
 refine enter_call (dI (call w s₀ s₁ mg mb fa o pm cd doc a vs ns G Y ho (fd_plain hd) hcd hmg hobj hints hlen hg) λr s' hq=>?_)
 obtain ⟨rfl,h2,h3,h4⟩:=hq
 exact ⟨.inl ⟨.bool true,.bool true,[],rfl,λ_=>rfl,.bool true,qjh l _,λ_=>⟨List.Pairwise.nil,λ_ hm=>(nomatch hm)⟩⟩,h2,h3,h4⟩
section
variable {prog:Ac}{w:Ah}{A:Ae}{E:Ag→Ab→Prop}{s:Ab}{K:Frag}
end
end Att
namespace L2
open PySem PySem.Spec PyProof.Rows
theorem qqb:∀ {vs:List Ag} {ns:List Int},IntsAre vs ns→Vals (ns.map V.int) vs
 |_,_,.nil=>.nil
 |_,_,.cons n t h=>.cons ⟨t,rfl⟩ (qqb h)
def Only (H:Hp):Prop:=∀b,H b=none∨∃o xs,H b=some (.frz o (.lst xs))
theorem qys {P:Ac}{w:Ah}{K:Aa}{mg mb:Str→Option Ag}{CX:CXT}{k:Nat}{fa a:Aj}{fd:Ad}{x:Str}{sp:Sp}{s₁:Ab}{vs:List Ag}{ns:List Int}
  (KX:K.In s₁.heap) (hns:s₁.heap.Ns mainGlobals mg) (hb:s₁.heap.Ns builtinsNs mb) (hbb:∀x:Str,x ≠ "__name__" → mb x=bootBuiltins x) (hlim:s₁.heap.NoLimit) (hg:s₁.gens=#[])
  (ha:s₁.heap.get? a=some { cls:=.type "list",data:=.seq vs.toArray }) (hi:IntsAre vs ns) (hl:ns.length≤sizeLine) (hr:Room k callerA)
  (F:∀base:Heap,K.In base→base.Ns mainGlobals mg→FnOk P w K mg base CX k fa fd [x] sp) (hbind:∀(s:Ab) (u:Ag),BindsTo s fd ⟨[u],[]⟩ [(x,u)])
  (hsp:∀H:Hp,Only H→SqL K H a (ns.map V.int)→sp [.ref a] H (λv _=>v=.bl true) λ_ _ _=>False)
  (hCX:∀H e s',CX [] H s₁ (λ_ _ _=>False) e s'→False) :
  codeAny (model P w) callerA (.call (.ref fa) ⟨[.ref a],[]⟩) (λr s'=>r=.ok (.ret (.bool true))∧OldK s₁.heap s'.heap∧s'.os=s₁.os∧AllBare s'.gens) s₁:=by
 have rv:=qqb hi
 have lenV:=hi.length
 have core:∀H:Hp,Only H→SqL K H a (ns.map V.int)→HOk P w H s₁.heap→(∀b,H b≠none→b=a)→(H a≠none→K.lookup a=none) →
   codeAny (model P w) callerA (.call (.ref fa) ⟨[.ref a],[]⟩) (λr s'=>r=.ok (.ret (.bool true))∧OldK s₁.heap s'.heap∧s'.os=s₁.os∧AllBare s'.gens) s₁:=by
  intro H hO hS hok hA hK
  have base_of:∀ {b:Aj} {o:Obj},s₁.heap.get? b=some o→H b=none→(qww s₁.heap H).get? b=some o:=λe n=>wqu e n
  have noA:∀ {b:Aj} {o:Obj} {es:Array DictEntry} {ep:Nat},s₁.heap.get? b=some o→o.data=.dict es ep→H b=none:=λ{b o es ep} e d=>by
   cases q:H b with
   |none=>rfl
   |some u =>
    have e':b=a:=hA b (by rw [q];simp)
    subst e'
    rw [ha] at e;cases e
    have d':Data.seq vs.toArray _=Data.dict es ep:=d
    cases d'
  have nsK:∀ {b:Aj} {m:Str→Option Ag},s₁.heap.Ns b m→(qww s₁.heap H).Ns b m:=λ{b m} ⟨o,es,ep,e,d,r⟩=>⟨o,es,ep,base_of e (noA e d),d,r⟩
  have hKb:K.In (qww s₁.heap H):=λb o e=>base_of (KX b o e) (by
   cases q:H b with
   |none=>rfl
   |some u =>
    have e':b=a:=hA b (by rw [q];simp)
    subst e'
    rw [hK (by rw [q];simp)] at e;cases e)
  have hM:Mod K mg (qww s₁.heap H):=⟨hKb,nsK hns,⟨mb,nsK hb,hbb⟩,let ⟨mc,h1,h2⟩:=hlim;⟨mc,nsK h1,h2⟩⟩
  have e0:Env0 P w K mg (qww s₁.heap H) callerA [] s₁ H:=⟨rfl,hM,λb o e=>wwt e,Nat.le_of_eq (qyg _ _),trivial,λb hb=>absurd (show b∈([]:List Aj) from hb) (by simp),hok,.of_eq hg⟩
  refine dI ((F _ hKb (nsK hns)).run callerA [] s₁ H ⟨[.ref a],[]⟩ [.ref a] [.ref a] _ _ hr e0 (hbind s₁ (.ref a)) (.cons rfl .nil) (hsp H hO hS)) λr s' h=>?_
  cases r with
  |error e=>exact (hCX H e s' h).elim
  |ok fl =>
   cases fl with
   |next=>exact False.elim h
   |brk=>exact False.elim h
   |cont=>exact False.elim h
   |ret u =>
    obtain ⟨v,H',os,bare,un,hok',r',q⟩:=h
    have q':v=.bl true:=q
    subst q'
    obtain rfl:u=Value.bool true:=r'
    refine ⟨rfl,OldK.of_keep λb o e=>?_,os,bare⟩
    cases q:H b with
    |none=>exact un.keep b o e q (by intro z;exact absurd (show b∈([]:List Aj) from z) (by simp)) (by simp)
    |some u =>
     rcases hO b with z|⟨ob,xs,z⟩
     ·rw [q] at z;cases z
     ·have z2:=un.frzs b ob _ z
      obtain ⟨e1,_⟩:=hok b _ z
      obtain ⟨e2,_⟩:=hok' b _ z2
      rw [e] at e1;cases e1
      exact e2
 cases hk:K.lookup a with
 |some o =>
  have e:=KX a o hk
  rw [ha] at e
  cases e
  refine core (λ_=>none) (λ_=>.inl rfl) (.inr ⟨_,vs.toArray,_,hk,rfl,rfl,rfl,by rw [aw,lenV];exact hl,by simpa using rv⟩) (λb u z=>by have z':(none:Option HO)=some u:=z;cases z') (λb z=>absurd rfl z) λz=>absurd rfl z
 |none =>
  refine core (λb=>if b=a then some (.frz { cls:=.type "list",data:=.seq vs.toArray } (.lst (ns.map V.int))) else none) (λb=>?_) (.inl (.inr ⟨{ cls:=.type "list",data:=.seq vs.toArray },am rfl⟩)) (λb u z=>?_) (λb z=>?_) λ_=>hk
  ·by_cases hb:b=a
   ·exact .inr ⟨_,_,am hb⟩
   ·exact .inl (aj hb)
  ·by_cases hb:b=a
   ·have z':=(am hb).symm.trans z
    cases z'
    subst hb
    exact ⟨ha,by rw [ae];exact hl,vs,_,rv,ha⟩
   ·have z':=(aj hb).symm.trans z
    cases z'
  ·by_cases hb:b=a
   ·exact hb
   ·exact absurd (aj hb) z
theorem wws {l:PySem.W.OpenLaw}{n k:Nat}{q:Ac}{loose:List Str}{XP:(Str→Option Ag)→Heap→Prop}{YP:Ah→Heap→Prop}{d:DefRec}{K:Params→Aa}{CX:Ah→CXT}{sp:Ah→Sp}{x:Str}
  (hn:l.most=some n) (hn2:n≤sizeLine) (hdf:d.params.defaults=[]) (hr:Room k callerA)
  (hY:∀(w:Ah) (h:Heap),YP w h→(K w.params).In h)
  (F:∀(w:Ah) (mg:Str→Option Ag) (fa:Aj) (h:Heap),(K w.params).In h→h.Ns mainGlobals mg→mg d.name=some (.ref fa) →
   ∃fd:Ad,(∀(s:Ab) (u:Ag),BindsTo s fd ⟨[u],[]⟩ [(x,u)]) ∧
    ∀base:Heap,(K w.params).In base→base.Ns mainGlobals mg→FnOk l.prog w (K w.params) mg base (CX w) k fa fd [x] (sp w))
  (hsp:∀(w:Ah) (H:Hp) (a:Aj) (ns:List Int),ns.length≤n→Only H→SqL (K w.params) H a (ns.map V.int)→sp w [.ref a] H (λv _=>v=.bl true) λ_ _ _=>False)
  (hCX:∀(w:Ah) (H:Hp) (s:Ab) (e:Ag) (s':Ab),CX w [] H s (λ_ _ _=>False) e s'→False) :
  PySem.W.WalkO q loose XP YP l.row.toRowW d [] (λf vs=>PySem.call f vs):=by
 refine Att.attach_call hn hdf λw s₀ s₁ mg mb fa o pm cd doc a vs ns G Y ho hd hcd hmg hobj hints hlen hg=>?_
 have KX:=hY w _ Y
 obtain ⟨fd,hb,hF⟩:=F w mg fa _ KX G.T.g hmg
 exact qys KX G.T.g G.T.b G.T.builtins G.T.nolimit hg hobj hints (bu hlen hn2) hr hF hb (λH hO hS=>hsp w H a ns hlen hO hS) λH e s'=>hCX w H s₁ e s'
def xh (s:Stmt)(j:Nat):Stmt:=match s with
 |.ClassDef _ _ _ body _ _ _ _ _ _ _=>body.getD j (.Pass ⟨0,0,0,0⟩)
 |_=>.Pass ⟨0,0,0,0⟩
def z0 (s:Stmt):Arguments:=match s with
 |.FunctionDef _ a _ _ _ _ _ _ _ _=>a
 |_=>{ posonlyargs:=[],args:=[],vararg:=none,kwonlyargs:=[],kw_defaults:=[],kwarg:=none,defaults:=[] }
def zh (s:Stmt):List Stmt:=match s with
 |.FunctionDef _ _ b _ _ _ _ _ _ _=>b
 |_=>[]
def wz (s:Stmt):Scope:=match s with
 |.FunctionDef _ _ _ _ _ _ sc _ _ _=>sc
 |_=>{ kind:=.function,names:=[],isGenerator:=false,isCoroutine:=false }
abbrev E0:XK:=λ_ _ _=>False
structure Fun (K:Aa)(x qual:Str)(st:Stmt)(f:Aj)(fd:Ad):Prop where
 ex:∃(oc:Ag) (od:Option Aj) (kV doc pm:Ag) (an:Option Aj) (cdv ct:Ag) (osl:Array (Option Ag)),
  fd=PySem.W.fnOf x qual (z0 st) (zh st) (wz st) .none kV doc pm an cdv ct∧K.lookup f=some ⟨oc,od,.func fd,osl⟩∧PySem.W.codeIn K cdv qual=true
 kp:PySem.W.keepIn K (.ref f)=true
section
variable {P:Ac}{w:Ah}{K:Aa}{mg:Str→Option Ag}{base:Heap}
theorem Fun.binds {x qual:Str}{st:Stmt}{f:Aj}{fd:Ad}{ps:List Str}(F:Fun K x qual st f fd)
  (h:∀(kV doc pm:Ag) (an:Option Aj) (cdv ct:Ag) (us:List Ag),us.length=ps.length→bindArgs (PySem.W.fnOf x qual (z0 st) (zh st) (wz st) .none kV doc pm an cdv ct) ⟨us,[]⟩=pure (ps.zip us)):Binds K fd ps []:=by
 obtain ⟨oc,od,kV,doc,pm,an,cdv,ct,osl,rfl,lk,hcd⟩:=F.ex
 exact .all (h kV doc pm an cdv ct)
theorem wqg {x qual:Str}{st:Stmt}{f:Aj}{oc:Ag}{od an:Option Aj}{osl:Array (Option Ag)}{kV doc pm cdv ct:Ag}(l:K.lookup f=some ⟨oc,od,.func (PySem.W.fnOf x qual (z0 st) (zh st) (wz st) .none kV doc pm an cdv ct),osl⟩)
  (c:PySem.W.codeIn K cdv qual=true) (k:PySem.W.keepIn K (.ref f)=true):Fun K x qual st f (PySem.W.fnOf x qual (z0 st) (zh st) (wz st) .none kV doc pm an cdv ct):=⟨⟨oc,od,kV,doc,pm,an,cdv,ct,osl,rfl,l,c⟩,k⟩
end
theorem vd {A:Ae}{k:Nat}(hr:Room k A):A.units+1<cLine:=cU (Nat.add_le_add_left (by decide:1≤64) _) hr.units
theorem qju {n:Nat}(h:n≤1000):n<sizeLine:=cU h (by decide)
section
variable {X:Cx}
theorem pv (i:Nat){x:Str}{pos:Pos}(hN:X.N[i]?=some x:=by rfl)(hv:Vis X.env.scope x:=by first | exact Or.inl rfl | exact Or.inr (Or.inl rfl) | exact Or.inr (Or.inr rfl))(hd:(x==("__debug__" : Str))=false:=by decide)
  (hcd:(x==("__classdict__" : Str))=false:=by decide):PE X (.Name x pos) (uf i):=pe_var hN hv hd hcd
end
theorem uc {A B:Prop}(h:B):if false=true then A else B:=by
 rw [aj ay]
 exact h
theorem k4 {A B:Prop}(h:A):if true=true then A else B:=by
 rw [am rfl]
 exact h
def Same (H H':Hp):Prop:=∀b o,H b=some o→H' b=some o
theorem Same.refl (H:Hp):Same H H:=λ_ _ h=>h
theorem Same.trans {H H1 H2:Hp}(a:Same H H1)(b:Same H1 H2):Same H H2:=λc o h=>b c o (a c o h)
theorem Same.seq {K:Aa}{H H':Hp}{a:Aj}{xs:List V}(e:Same H H')(h:SqL K H a xs):SqL K H' a xs:=by
 rcases h with (h|⟨o,h⟩)|h
 ·exact .inl (.inl (e _ _ h))
 ·exact .inl (.inr ⟨o,e _ _ h⟩)
 ·exact .inr h
set_option maxHeartbeats 4000000
theorem nin {b:Aj}:b∉([]:List Aj):=λz=>nomatch z
theorem qw6 {K:Aa}{h:Heap}{C:Aj}{bmB:List Ag}{newId:String}(X:K.In h)(q:PySem.W.excIn K C bmB newId=true) :
  ∃tl N a1 a2 a3 a4 a5 a6 a7 a8 a9 b0 b1 b2 b3 b5 mN,h.get? C=some (excClassObj a1 a2 C N a3 tl a4 a5 a6 a7 a8 a9 b0 b1 b2 b3 b5 newId) ∧
   h.Ns N mN∧mN "__init__" = none∧OwnTail h bmB tl:=by
 unfold PySem.W.excIn at q
 split at q
 ·next dd cd sl ho =>
  split at q
  ·next C1 tl x0 x1 x2 x3 nn x5 hm hs =>
   rw [ba,ba,ba,ba,ba] at q
   obtain ⟨⟨⟨⟨⟨p1,p2⟩,p3⟩,p4⟩,p5⟩,p6⟩:=q
   have p1':=eq_of_beq p1
   have p2':=eq_of_beq p2
   have p6':=eq_of_beq p6
   have p3':cd.hasDel=false:=by simpa using p3
   subst p1' p2'
   obtain ⟨f1,f2,f3,f4,f5,f6,f7,f8,f9,f10,f11⟩:=cd
   have hm':f3=Value.ref C1::tl:=hm
   have p3'':f11=false:=p3'
   subst hm' p3''
   have hsl:sl=#[x0,x1,x2,x3,some (.builtin nn),x5]:=by
    cases sl with
    |mk l =>
     have:l=[x0,x1,x2,x3,some (.builtin nn),x5]:=hs
     rw [this]
   subst hsl
   have nsok:=PySem.W.isNs_of_in X p5
   exact ⟨tl,f4,f1,f5,f2,f6,f7,f8,f9,f10,dd,x0,x1,x2,x3,x5,_,X _ _ ho,.of_isNs nsok,PySem.W.nsMap_none_of_in X p5 p6',PySem.W.tail_of_in X p4⟩
  ·exact absurd q (by decide)
 ·exact absurd q (by decide)
def CXE (P:Ac)(w:Ah):CXT:=λouter H s E e s' =>
 ∃(a C:Aj) (a0:Ag) (B:Heap) (H':Hp),e=.ref a∧s'.os=s.os∧AllBare s'.gens∧Un (frs outer) [] H H' s.heap s'.heap∧HOk P w H' B ∧
  Heap.FlyingW B outer a (.ref C) a0 s'.heap∧(∀b o,s.heap.get? b=some o→b∉frs outer→∃o',B.get? b=some o'∧(H b=none→o'=o))∧E (.ref C) none H'
theorem CXE.no {P:Ac}{w:Ah}{outer:List Env}{H:Hp}{s s':Ab}{e:Ag}(h:CXE P w outer H s E0 e s'):False:=by
 obtain ⟨_,_,_,_,_,_,_,_,_,_,_,_,q⟩:=h
 exact q
def v6 (X:Cx)(E:St→XK):Prop:=∀(pins:List (Aj×Obj)) (σ:St) (H:Hp) (s:Ab) (e:Ag) (s':Ab),Inv X pins σ H s→CXE X.prog X.w X.stack H s (E σ) e s'→X.xe e s'
theorem qux {X:Cx}:v6 X (λ_=>E0):=λ_ _ _ _ _ _ _ h=>h.no.elim
def wqy (X:Cx)(E:St→XK):Prop:=∀(pins:List (Aj×Obj)) (σ:St) (H:Hp) (s:Ab) (h':Heap) (e C:Aj) (vs:List Ag),Inv X pins σ H s→Heap.MadeExcOf s.heap h' e (.ref C) vs→E σ (.ref C) none H→X.xe (.ref e) { s with heap:=h' }
theorem qxr {env:Env}{L:Aj}{outer:List Env}(h:env.frame=some L):frs (env::outer)=L::frs outer:=by
 unfold frs
 rw [cM,h]
section
variable {P:Ac}{w:Ah}{K:Aa}{mg:Str→Option Ag}{base:Heap}{N:List Str}{qual:Str}{scope:Scope}{f:Aj}{cdv:Ag}{A:Ae}{outer:List Env}{s0:Ab}{H0:Hp}{E:XK}
theorem qc:v6 (qwm (CXE P w) P w K mg base N qual scope f cdv A outer s0 H0 E) (λ_=>E):=by
 intro pins σ H s e s' I hx
 obtain ⟨a,C,a0,B,H',rfl,hos,hba,un,hokB,hfl,old,q⟩:=hx
 have ub:=I.base
 have hL:∀b o,s0.heap.get? b=some o→b≠s0.heap.objs.size:=λb o e z=>aW _ (z▸ah e)
 have hfs:frs (envOfC qual scope s0.heap.objs.size f cdv::outer)=s0.heap.objs.size::frs outer:=qxr rfl
 have hmem:∀b o,s0.heap.get? b=some o→b∉frs outer→b∉frs (envOfC qual scope s0.heap.objs.size f cdv::outer):=λb o e n=>by
  rw [hfs]
  intro z
  rcases ai.mp z with z|z
  ·exact hL b o e z
  ·exact n z
 have hold:∀b o,s0.heap.get? b=some o→b∉frs outer→∃o',B.get? b=some o'∧(H0 b=none→o'=o):=λb o e n=>by
  obtain ⟨o1,e1⟩:=ub.there b o e nin
  obtain ⟨o2,e2,e3⟩:=old b o1 e1 (hmem b o e n)
  refine ⟨o2,e2,λz=>?_⟩
  have e4:=ub.keep b o e z n nin
  have e5:=ub.free b o e z nin
  rw [e1] at e4
  rw [e3 e5]
  exact ar e4
 refine wpAny_leaves_onW I.ok.frames rfl hfl λh' hf' hup=>?_
 have toH:∀b,b∈frs outer→∀o,s0.heap.get? b=some o→H0 b=none→∃sl,h'.get? b=some { o with slots:=sl }:=λb hb o e n=>by
  obtain ⟨sl,e1⟩:=ub.slot b o e n hb nin
  obtain ⟨sl2,e2⟩:=un.slot b _ e1 (ub.free b o e n nin) (by show b∈frs (envOfC qual scope s0.heap.objs.size f cdv::outer);rw [hfs];exact .tail _ hb) nin
  obtain ⟨_,o3,e3,nf⟩:=hfl.2.2.1.mem (b:=b) (by show b∈frs (envOfC qual scope s0.heap.objs.size f cdv::outer);rw [hfs];exact .tail _ hb)
  obtain ⟨sl4,e4⟩:=hup b o3 e3 nf
  rw [e2] at e3
  have e5:=ar e3
  exact ⟨sl4,by rw [e4,←e5]⟩
 refine ⟨a,C,a0,B,H',rfl,hos.trans I.os,hba,⟨λb o e n nb _=>?_,λb o e n hb _=>toH b hb o e n,λb o e n _=>?_,λb o e _=>?_,λb xs e=>un.tups b xs (ub.tups b xs e),λb o u e=>un.frzs b o u (ub.frzs b o u e),λb ps e=>?_⟩,hokB,hf',hold,q⟩
 ·obtain ⟨o',e1,e2⟩:=hold b o e nb
  rw [e2 n] at e1
  exact hf'.1 b o e1
 ·obtain ⟨o1,e1⟩:=ub.there b o e nin
  exact un.free b o1 e1 (ub.free b o e n nin) nin
 ·by_cases hb:b∈frs outer
  ·obtain ⟨o1,e1⟩:=ub.there b o e nin
   obtain ⟨o2,e2⟩:=un.there b o1 e1 nin
   obtain ⟨_,o3,e3,nf⟩:=hfl.2.2.1.mem (b:=b) (by show b∈frs (envOfC qual scope s0.heap.objs.size f cdv::outer);rw [hfs];exact .tail _ hb)
   obtain ⟨sl4,e4⟩:=hup b o3 e3 nf
   exact ⟨_,e4⟩
  ·obtain ⟨o',e1,_⟩:=hold b o e hb
   exact ⟨o',hf'.1 b o' e1⟩
 ·obtain ⟨m1,e1⟩:=ub.tbls b ps e
  obtain ⟨m2,e2⟩:=un.tbls b _ e1
  exact ⟨m1++m2,by rw [e2,Array.append_assoc]⟩
theorem xn:wqy (qwm (CXE P w) P w K mg base N qual scope f cdv A outer s0 H0 E) (λ_=>E):=by
 intro pins σ H s h' e C vs I hx q
 have ub:=I.base
 have hfs:frs (envOfC qual scope s0.heap.objs.size f cdv::outer)=s0.heap.objs.size::frs outer:=qxr rfl
 have hmem:∀b o,s0.heap.get? b=some o→b∉frs outer→b∉frs (envOfC qual scope s0.heap.objs.size f cdv::outer):=λb o e n=>by
  rw [hfs]
  intro z
  rcases ai.mp z with z|z
  ·exact aW _ (z▸ah e)
  ·exact n z
 have hfree:∀b∈frs (envOfC qual scope s0.heap.objs.size f cdv::outer),H b=none:=I.stkFree
 have hB:∀b o,s.heap.get? b=some o→b∉frs (envOfC qual scope s0.heap.objs.size f cdv::outer)→(PySem.W.hideAll s.heap (frs (envOfC qual scope s0.heap.objs.size f cdv::outer))).get? b=some o:=λb o e n=>PySem.W.hideAll_get _ e n
 have hokB:HOk P w H (PySem.W.hideAll s.heap (frs (envOfC qual scope s0.heap.objs.size f cdv::outer))):=λb u hb=>by
  refine (I.hok b u hb).stay (λc v hc ec=>hB c v ec λhm=>?_) (λ_ z=>z) (λ_ _ z=>z)
  have hn:=hfree c hm
  rcases hc with rfl|hc
  ·rw [hn] at hb;cases hb
  ·rw [hn] at hc;cases hc
 have hold:∀b o,s0.heap.get? b=some o→b∉frs outer→∃o',(PySem.W.hideAll s.heap (frs (envOfC qual scope s0.heap.objs.size f cdv::outer))).get? b=some o'∧(H0 b=none→o'=o):=λb o e n=>by
  obtain ⟨o1,e1⟩:=ub.there b o e nin
  refine ⟨o1,hB b o1 e1 (hmem b o e n),λz=>?_⟩
  have e4:=ub.keep b o e z n nin
  rw [e1] at e4
  exact ar e4
 have hst:s.heap.FunFrames base (envOfC qual scope s0.heap.objs.size f cdv::outer):=I.stack
 have hff:=PySem.W.funFrames_hide (as:=frs (envOfC qual scope s0.heap.objs.size f cdv::outer)) hst (λenv he b hb=>dO.mpr ⟨env,he,hb⟩)
 refine wpAny_leaves_madeW (base:=PySem.W.hideAll s.heap (frs (envOfC qual scope s0.heap.objs.size f cdv::outer))) (h:=s.heap) I.ok.frames rfl (λb o e=>PySem.W.of_hideAll _ e) hff hx λh'' t hf' _ _ hup=>?_
 have toF:∀b,b∈frs outer→∃o,s.heap.get? b=some o∧∃sl,h''.get? b=some { o with slots:=sl }:=λb hb=>by
  obtain ⟨_,o3,e3,nf⟩:=hst.mem (b:=b) (by show b∈frs (envOfC qual scope s0.heap.objs.size f cdv::outer);rw [hfs];exact .tail _ hb)
  exact ⟨o3,e3,hup b o3 (hx.keeps b o3 e3) nf⟩
 refine ⟨e,C,.ref t,_,H,rfl,I.os,I.bare,⟨λb o e1 n nb _=>?_,λb o e1 n hb _=>?_,λb o e1 n _=>ub.free b o e1 n nin,λb o e1 _=>?_,ub.tups,ub.frzs,ub.tbls⟩,hokB,hf',hold,q⟩
 ·obtain ⟨o',e2,e3⟩:=hold b o e1 nb
  rw [e3 n] at e2
  exact hf'.1 b o e2
 ·obtain ⟨sl,e2⟩:=ub.slot b o e1 n hb nin
  obtain ⟨o3,e3,sl3,e4⟩:=toF b hb
  rw [e2] at e3
  have e5:=ar e3
  exact ⟨sl3,by rw [e4,←e5]⟩
 ·by_cases hb:b∈frs outer
  ·obtain ⟨o3,e3,sl3,e4⟩:=toF b hb
   exact ⟨_,e4⟩
  ·obtain ⟨o',e2,_⟩:=hold b o e1 hb
   exact ⟨o',hf'.1 b o' e2⟩
end
section
variable {P:Ac}{w:Ah}{K:Aa}{mg:Str→Option Ag}{base:Heap}
end
def qqm (sp:Sp)(E:St→XK)(t:TA):TE:=λσ H Q=>t σ H λvs H1=>sp vs H1 Q (E σ)
def qw2 (C:Aj)(m:Str)(sp:Sp)(E:St→XK)(ta:TE)(t:TA):TE:=λσ H Q=>ta σ H λx H1=>∃a dx fs,x=.ref a∧H1 a=some (.ins C dx fs)∧fs.lookup m=none ∧
 t σ H1 λvs H2=>sp (x::vs) H2 Q (E σ)
def qvp (C:Aj)(sp:Sp)(E:St→XK)(t:TA):TE:=λσ H Q=>t σ H λvs H1=>∀x dx,H1 x=none→H1 dx=none→dx≠x →
 sp (.ref x::vs) (upd (upd H1 dx (.own x)) x (.ins C dx [])) (λv H2=>v=.non∧Q (.ref x) H2) (E σ)
section
variable {X:Cx}{k:Nat}{f C:Aj}{fd:Ad}{ps:List Str}{sp:Sp}{E:St→XK}{x m:Str}{p pos apos:Pos}{e o:Expr}{es:List Expr}{ta:TE}{t:TA}
theorem qw8 {pins:List (Aj×Obj)}{σ:St}{H:Hp}{s:Ab}{Q:VK}{us:List Ag}{vs:List V}(F:FnOk X.prog X.w X.K X.mg X.base (CXE X.prog X.w) k f fd ps sp)(hr:Room k X.A)(hb:Binds X.K fd ps [])(hx:v6 X E)
  (I:Inv X pins σ H s) (r:Vals vs us) (h:sp vs H Q (E σ)):wpAny (model X.prog X.w) X.A (call (.ref f) us) (EP X pins σ Q) X.xe s:=by
 have hl:(us++[]).length=ps.length:=by rw [cz,←r.length];exact F.len _ _ _ _ h
 have hb':=hb s us I.kIn hl
 rw [cz] at hb'
 refine wpAny_call (dI (F.run X.A X.stack s H ⟨us,[]⟩ us vs Q (E σ) hr I.env0 hb' r h) λr s' hq=>?_)
 cases r with
 |error e=>exact hx pins σ H s e s' I hq
 |ok fl =>
  cases fl with
  |ret u=>exact I.after hq
  |next=>exact False.elim hq
  |brk=>exact False.elim hq
  |cont=>exact False.elim hq
theorem qu8 (F:FnOk X.prog X.w X.K X.mg X.base (CXE X.prog X.w) k f fd ps sp)(hr:Room k X.A)(hg:Gl X x)(hm:X.mg x=some (.ref f))(hk:PySem.W.keepIn X.K (.ref f)=true)(hb:Binds X.K fd ps [])(hx:v6 X E)
  (ha:PA X (e::es) t) (hdb:(x==("__debug__" : Str))=false:=by decide) (he:starEach (e::es) X.env=(false,eval e X.env)::starEach es X.env:=by rfl) (hpl:(backTo pos (starEach es X.env)).any (·.1)=false:=by rfl) :
  PE X (.Call (.Name x p) (e::es) [] pos) (qqm sp E t):=by
 intro pins s σ H Q I h
 refine cv (kf I hg hm ?_ hdb)
 refine dQ (h₀:=X.base) I.ok.mod.kin hk (thn (ha pos pins s σ H _ I h) λus s1 ⟨vs,H1,I1,r,q⟩=>⟨I1.kIn,?_⟩) he hpl
 exact qw8 F hr hb hx I1 r q
theorem quu {pl:Sem Bool}(he:PE X o ta)(c:Cls X.K C)(hm:Meth X.K C m f)(F:FnOk X.prog X.w X.K X.mg X.base (CXE X.prog X.w) k f fd ps sp)(hr:Room k X.A)(hb:Binds X.K fd ps [])(hx:v6 X E)(ha:PA X (e::es) t)
  (hst:starEach (e::es) X.env=(false,eval e X.env)::starEach es X.env:=by rfl) (hpl:(backTo pos (starEach es X.env)).any (·.1)=false:=by rfl)
  (ht:eval (.Call (.Attribute o m apos) (e::es) [] pos) X.env=(do
   let ov ←eval o X.env
   standAt apos.atName
   let (f,first) ←holding [ov] (getMethod ov m pl)
   callWith pos f first (backTo pos (starEach (e::es) X.env)) (backToKw pos (keywordEach [] X.env))):=by rfl) :
  PE X (.Call (.Attribute o m apos) (e::es) [] pos) (qw2 C m sp E ta t):=by
 intro pins s σ H Q I h
 refine PySem.W.methodCall_KW (pl:=pl) (thn (he pins s σ H _ I h) λu s1 ⟨x,H1,I1,rx,a,dx,fs,ex,ea,l,q⟩=>?_) ht
 subst ex
 obtain rfl:u=Value.ref a:=rx
 refine Yg I1 ea c hm l ?_
 refine dQ (first:=[.ref a]) (h₀:=X.base) I.ok.mod.kin hm.kp (thn (ha pos pins s1 σ H1 _ I1 q) λus s2 ⟨vs,H2,I2,r,q2⟩=>⟨I2.kIn,?_⟩) hst hpl
 exact qw8 (us:=.ref a::us) (vs:=.ref a::vs) F hr hb hx I2 (.cons rfl r) q2
theorem qj0 {pl:Sem Bool}(he:PE X o ta)(c:Cls X.K C)(hm:Meth X.K C m f)(F:FnOk X.prog X.w X.K X.mg X.base (CXE X.prog X.w) k f fd ps sp)(hr:Room k X.A)(hb:Binds X.K fd ps [])(hx:v6 X E)
  (ht:eval (.Call (.Attribute o m apos) [] [] pos) X.env=(do
   let ov ←eval o X.env
   standAt apos.atName
   let (f,first) ←holding [ov] (getMethod ov m pl)
   callWith pos f first (backTo pos (starEach [] X.env)) (backToKw pos (keywordEach [] X.env))):=by rfl) :
  PE X (.Call (.Attribute o m apos) [] [] pos) (qw2 C m sp E ta uy):=by
 intro pins s σ H Q I h
 refine PySem.W.methodCall_KW (pl:=pl) (thn (he pins s σ H _ I h) λu s1 ⟨x,H1,I1,rx,a,dx,fs,ex,ea,l,q⟩=>?_) ht
 subst ex
 obtain rfl:u=Value.ref a:=rx
 refine Yg I1 ea c hm l ?_
 exact PySem.W.callWith_K0 (first:=[.ref a]) I1.kIn hm.kp (qw8 (us:=[.ref a]) (vs:=[.ref a]) F hr hb hx I1 (.cons rfl .nil) q)
theorem Jn {pins:List (Aj×Obj)}{σ:St}{H:Hp}{s:Ab}{Q:VK}{us:List Ag}{vs:List V}(M:Mk X.K C f)(F:FnOk X.prog X.w X.K X.mg X.base (CXE X.prog X.w) k f fd ps sp)(hr:Room (k+1) X.A)(hb:Binds X.K fd ps [])
  (hx:v6 X E) (I:Inv X pins σ H s) (r:Vals vs us)
  (h:∀x dx,H x=none→H dx=none→dx≠x→sp (.ref x::vs) (upd (upd H dx (.own x)) x (.ins C dx [])) (λv H2=>v=.non∧Q (.ref x) H2) (E σ)) :
  wpAny (model X.prog X.w) X.A (call (.ref C) us) (EP X pins σ Q) X.xe s:=by
 have hq:=h (s.heap.objs.size+1) s.heap.objs.size (I.hok.fresh (Nat.le_succ _)) (I.hok.fresh (af _)) (ax (Nat.lt_succ_self _))
 have I2:=Inv.made (C:=C) I
 have r2:Vals (V.ref (s.heap.objs.size+1)::vs) (Value.ref (s.heap.objs.size+1)::us):=.cons rfl r
 have hl:((Value.ref (s.heap.objs.size+1)::us)++[]).length=ps.length:=by
  rw [cz,←r2.length]
  exact F.len _ _ _ _ hq
 have hb':=hb _ (Value.ref (s.heap.objs.size+1)::us) I2.kIn hl
 rw [cz] at hb'
 refine wpAny_call (wwx (f:=f) I.kIn M.makes M.init (dj.mp M.fn) (dI (F.run _ X.stack _ _ ⟨Value.ref (s.heap.objs.size+1)::us,[]⟩ (Value.ref (s.heap.objs.size+1)::us) _ _ (E σ) (hr.make C us [])
  (I2.env0.make C us []) hb' r2 hq) λr s' hq'=>?_))
 cases r with
 |error e=>exact hx pins σ _ _ e s' I2 hq'
 |ok fl =>
  cases fl with
  |ret u =>
   obtain ⟨v,H',I3,rv,ev,q3⟩:=I2.after hq'
   subst ev
   exact ⟨rv,⟨V.ref (s.heap.objs.size+1),H',I3,rfl,q3⟩⟩
  |next=>exact False.elim hq'
  |brk=>exact False.elim hq'
  |cont=>exact False.elim hq'
theorem wqn (M:Mk X.K C f)(F:FnOk X.prog X.w X.K X.mg X.base (CXE X.prog X.w) k f fd ps sp)(hr:Room (k+1) X.A)(hg:Gl X x)(hm:X.mg x=some (.ref C))(hb:Binds X.K fd ps [])(hx:v6 X E)
  (ha:PA X (e::es) t) (hdb:(x==("__debug__" : Str))=false:=by decide) (he:starEach (e::es) X.env=(false,eval e X.env)::starEach es X.env:=by rfl) (hpl:(backTo pos (starEach es X.env)).any (·.1)=false:=by rfl) :
  PE X (.Call (.Name x p) (e::es) [] pos) (qvp C sp E t):=by
 intro pins s σ H Q I h
 refine cv (kf I hg hm ?_ hdb)
 refine dQ (h₀:=X.base) I.ok.mod.kin M.kp (thn (ha pos pins s σ H _ I h) λus s1 ⟨vs,H1,I1,r,q⟩=>⟨I1.kIn,?_⟩) he hpl
 exact Jn M F hr hb hx I1 r q
end
structure ExcC (K:Aa)(C:Aj):Prop where
 q:PySem.W.excIn K C [.type "ValueError",.type "Exception",.type "BaseException",.type "object"] "ValueError.__new__" = true
def tRaise (C:Aj)(E:St→XK)(t:TA):TS:=λD σ H=>t σ H λvs H1=>vs.length≤sizeLine∧E σ (.ref C) none H1
section
variable {X:Cx}{C:Aj}{E:St→XK}{x:Str}{np cpos pos:Pos}{e:Expr}{es:List Expr}{t:TA}
theorem zw (hc:X.calm=true)(c:ExcC X.K C)(hR:wqy X E)(hg:Gl X x)(hm:X.mg x=some (.ref C))(ha:PA X (e::es) t)(hdb:(x==("__debug__" : Str))=false:=by decide)
  (he:starEach (e::es) X.env=(false,eval e X.env)::starEach es X.env:=by rfl) (hpl:(backTo cpos (starEach es X.env)).any (·.1)=false:=by rfl) :
  PS X (.Raise (some (.Call (.Name x np) (e::es) [] cpos)) none pos) (tRaise C E t):=by
 intro pins s σ H D I h
 obtain ⟨tl,N,a1,a2,a3,a4,a5,a6,a7,a8,a9,b0,b1,b2,b3,b5,mN,hC,hN,hni,T⟩:=qw6 I.ok.mod.kin c.q
 refine wpAny_Raise_call_subT (C:=C) (nm:=a1) (q:=a2) (N:=N) (bs:=a3) (bm:=tl) (hdct:=a4) (sn:=a5) (sub:=a6) (ab:=a7) (col:=a8) (dd:=a9) (k0:=b0) (k1:=b1) (k2:=b2) (k3:=b3) (k5:=b5)
  bH (mN:=mN) (T.hasType bH.hasBase) (I.ok.hd hc) (by rw [he];show (false||(backTo cpos (starEach es X.env)).any (·.1))=false;rw [hpl];rfl) hni (kf I hg hm ⟨rfl,?_⟩ hdb)
 have hw:=ha cpos pins s σ H _ I h
 rw [he] at hw ⊢
 refine cF (aP hw (λus s1 ⟨vs,H1,I1,r,hl,q⟩=>⟨rfl,by rw [←r.length];exact hl,I1.bk _ _ hC,hN.keeps I1.bk,T.keeps I1.bk,λh' e hx=>hR pins σ H1 s1 h' e C us I1 hx q⟩) λ_ _ z=>z)
end
abbrev Cx.handling (X:Cx)(e:Aj):Cx:={ X with A:=X.A.mark (some (.ref e)),calm:=false,xe:=λ_ _=>False }
abbrev Cx.trying (X:Cx)(pn:List (Aj×Obj))(xe:Ag→Ab→Prop):Cx:={ X with pn:=pn,xe:=xe }
section
variable {X:Cx}{pins:List (Aj×Obj)}{σ:St}{H H':Hp}{s s':Ab}{e:Aj}
theorem Cx.Ok.handling (o:X.Ok)(e:Aj):(X.handling e).Ok :=
 ⟨o.mod,o.kind,o.glob,o.blt,o.above,o.inj,o.has,o.cab,λz=>(ay z).elim,o.frames,o.stk,o.exf,o.bs,o.bsz,o.noex,o.exfs,o.funs,o.frf⟩
theorem Cx.Ok.trying (o:X.Ok)(pn:List (Aj×Obj))(xe:Ag→Ab→Prop):(X.trying pn xe).Ok :=
 ⟨o.mod,o.kind,o.glob,o.blt,o.above,o.inj,o.has,o.cab,o.hd,o.frames,o.stk,o.exf,o.bs,o.bsz,o.noex,o.exfs,o.funs,o.frf⟩
theorem Inv.handling (I:Inv X pins σ H s)(e:Aj):Inv (X.handling e) pins σ H s:=⟨I.ok.handling e,I.os,I.bare,I.base,I.loc,I.cell,I.free,I.freeC,I.pin,I.hok,I.len⟩
theorem Inv.unhandling (o:X.Ok)(I:Inv (X.handling e) pins σ H s):Inv X pins σ H s:=⟨o,I.os,I.bare,I.base,I.loc,I.cell,I.free,I.freeC,I.pin,I.hok,I.len⟩
theorem Inv.trying (I:Inv X pins σ H s)(xe:Ag→Ab→Prop):Inv (X.trying (X.pn++pins) xe) [] σ H s :=
 ⟨I.ok.trying _ _,I.os,I.bare,I.base,I.loc,I.cell,I.free,I.freeC,λp hp=>I.pin p ((bj.mp hp).elim (λz=>z) λz=>nomatch z),I.hok,I.len⟩
theorem Inv.untrying {pins':List (Aj×Obj)}{xe:Ag→Ab→Prop}(o:X.Ok)(I:Inv (X.trying (X.pn++pins) xe) pins' σ H s):Inv X pins σ H s :=
 ⟨o,I.os,I.bare,I.base,I.loc,I.cell,I.free,I.freeC,λp hp=>I.pin p (cD _ hp),I.hok,I.len⟩
theorem SP.untrying {pins':List (Aj×Obj)}{xe:Ag→Ab→Prop}{D:Ends}{f:Flow}(o:X.Ok)(h:SP (X.trying (X.pn++pins) xe) pins' D f s'):SP X pins D f s':=by
 cases f with
 |next=>obtain ⟨a,b,c,d⟩:=h;exact ⟨a,b,c.untrying o,d⟩
 |brk=>obtain ⟨a,b,c,d⟩:=h;exact ⟨a,b,c.untrying o,d⟩
 |cont=>obtain ⟨a,b,c,d⟩:=h;exact ⟨a,b,c.untrying o,d⟩
 |ret u=>obtain ⟨v,a,b,c,d⟩:=h;exact ⟨v,a,b,c.untrying o,d⟩
theorem SP.unhandling {D:Ends}{f:Flow}(o:X.Ok)(h:SP (X.handling e) pins D f s'):SP X pins D f s':=by
 cases f with
 |next=>obtain ⟨a,b,c,d⟩:=h;exact ⟨a,b,c.unhandling o,d⟩
 |brk=>obtain ⟨a,b,c,d⟩:=h;exact ⟨a,b,c.unhandling o,d⟩
 |cont=>obtain ⟨a,b,c,d⟩:=h;exact ⟨a,b,c.unhandling o,d⟩
 |ret u=>obtain ⟨v,a,b,c,d⟩:=h;exact ⟨v,a,b,c.unhandling o,d⟩
def qwp (K:Aa)(C D:Aj):Prop:=∀ {M:Model} {A:Ae} {E:Ag→Ab→Prop} {h:Heap} {g:Array GenState} {d:Drawn} {t:Nat} {os:OsState} {e:Aj} {oe:Obj} {Q:Bool→Ab→Prop},
 K.In h→h.get? e=some oe→oe.cls=.ref C→Q true ⟨h,g,d,t,os⟩→wpAny M A (excMatches (.ref e) (.ref D)) Q E ⟨h,g,d,t,os⟩
theorem jj {K:Aa}{C:Aj}(c:ExcC K C):qwp K C C:=by
 intro M A E h g d t os e oe Q X he hc q
 obtain ⟨tl,N,a1,a2,a3,a4,a5,a6,a7,a8,a9,b0,b1,b2,b3,b5,mN,hC,hN,hni,T⟩:=qw6 X c.q
 exact wpAny_excMatches_sub_self hC he hc (T.hasType bH.hasBase) q
theorem land {E:XK}{ev:Ag}{x:Str}{D0:Aj}{np hpos:Pos}{b₀:Stmt}{suite:List Stmt}{rest:List ExceptHandler}{th:TS}{D:Ends}(I:Inv X pins σ H s)(hst:X.stack=X.env::X.outer)(hfr:X.env.frame=some X.env.locals)
  (hg:Gl X x) (hm:X.mg x=some (.ref D0)) (hdb:(x==("__debug__" : Str))=false) (hx:CXE X.prog X.w X.stack H s E ev s') (hE:∀c d H',E c d H'→∃C,c=.ref C∧qwp X.K C D0∧th D σ H') (hh:∀e,PSs (X.handling e) (b₀::suite) th) :
  wpAny (model X.prog X.w) X.A (noteFrame ev X.env) (λ_ s2=>wpAny (model X.prog X.w) X.A (setFlight ev none) (λ_ s3 =>
   wpAny (model X.prog X.w) X.A (handleBy ev X.env (.ExceptHandler (some (.Name x np)) none (b₀::suite) hpos::rest)) (SP X pins D) X.xe s3) X.xe s2) X.xe s':=by
 obtain ⟨a,C,a0,B,H',rfl,hos,hba,un,hokB,hfl,old,q⟩:=hx
 obtain ⟨C1,e1,hcat,hth⟩:=hE _ _ _ q
 cases e1
 have mk:∀(h6:Heap),Heap.FlyingW B X.stack a (.ref C) a0 h6→s'.heap.UpToSlots h6→Inv X pins σ H' { s' with heap:=h6 }:=λh6 fl up=>by
  refine I.call' (s':={ s' with heap:=h6 }) (ch:=[]) hos ⟨λb o e n nb _=>?_,λb o e n hb _=>?_,λb o e n _=>un.free b o e n nin,λb o e _=>?_,un.tups,un.frzs,un.tbls⟩ (hokB.kept fl.1) hba (λb z=>nomatch z)
  ·obtain ⟨o',e1,e2⟩:=old b o e nb
   rw [e2 n] at e1
   exact fl.1 b o e1
  ·obtain ⟨sl,e2⟩:=un.slot b o e n hb nin
   obtain ⟨_,o3,e3,nf⟩:=hfl.2.2.1.mem (b:=b) hb
   obtain ⟨sl4,e4⟩:=up b o3 e3 nf
   rw [e2] at e3
   have e5:=ar e3
   exact ⟨sl4,by show h6.get? b=_;rw [e4,←e5]⟩
  ·by_cases hb:b∈frs X.stack
   ·obtain ⟨_,o3,e3,nf⟩:=hfl.2.2.1.mem (b:=b) hb
    obtain ⟨sl4,e4⟩:=up b o3 e3 nf
    exact ⟨_,e4⟩
   ·obtain ⟨o',e1,_⟩:=old b o e hb
    exact ⟨o',fl.1 b o' e1⟩
 have hfrm:X.A.frames=some (X.env::X.outer):=by rw [←hst];exact I.ok.frames
 have hfl':Heap.FlyingW B (X.env::X.outer) a (.ref C) a0 s'.heap:=by rw [←hst];exact hfl
 refine wpAny_looks_onW hfrm hfr hfl' λh4 held4 up4=>?_
 refine wpAny_landsW held4 λh5 fl5 up5=>?_
 have I5:=mk h5 (by rw [hst];exact fl5) (up4.trans up5)
 have I5h:=I5.handling a
 obtain ⟨ob,hob,hobc⟩:=fl5.there
 refine dE (df (kf (X:=X.handling a) I5h hg hm ?_ hdb)) (by intro z;cases z)
 obtain ⟨hp,gg,dd,tk,os⟩:=s'
 refine hcat (h:=h5) I5.kIn hob hobc ?_
 refine codeAny_handlers_suite ?_
 refine lands_againW fl5 λh6 fl6 up6=>?_
 have I6:=(mk h6 (by rw [hst];exact fl6) ((up4.trans up5).trans up6)).handling a
 exact aP (hh a pins _ σ H' D I6 hth) (λf s2 h2=>h2.unhandling I.ok) λ_ _ z=>z.elim
end
def tTry (K:Aa)(D0:Aj)(tb:(St→XK)→TS)(th:TS):TS:=λD σ H=>tb (λσ' c _ H'=>∃C,c=.ref C∧qwp K C D0∧th D σ' H') D σ H
section
variable {X:Cx}{x:Str}{D0:Aj}{np hpos pos:Pos}{b₀:Stmt}{body suite:List Stmt}{tb:(St→XK)→TS}{th:TS}
theorem ps_try (hst:X.stack=X.env::X.outer)(hfr:X.env.frame=some X.env.locals)(hg:Gl X x)(hm:X.mg x=some (.ref D0))
  (hb:∀(pn:List (Aj×Obj)) (xe:Ag→Ab→Prop) (E:St→XK),v6 (X.trying pn xe) E→PassesOwn (model X.prog X.w) X.A X.env xe→PSs (X.trying pn xe) body (tb E))
  (hh:∀e,PSs (X.handling e) (b₀::suite) th) (hdb:(x==("__debug__" : Str))=false:=by decide) :
  PS X (.Try body [.ExceptHandler (some (.Name x np)) none (b₀::suite) hpos] [] [] pos) (tTry X.K D0 tb th):=by
 intro pins s σ H D I h
 refine wpAny_Try_except ?_
 refine aP (hb (X.pn++pins) (λe s₁=>wpAny (model X.prog X.w) X.A (noteFrame e X.env) (λ_ s₂=>wpAny (model X.prog X.w) X.A (setFlight e none) (λ_ s₃ =>
   wpAny (model X.prog X.w) X.A (handleBy e X.env [.ExceptHandler (some (.Name x np)) none (b₀::suite) hpos]) (SP X pins D) X.xe s₃) X.xe s₂) X.xe s₁) _ ?_ PassesOwn.looking [] s σ H D (I.trying _) h) (λf s1 h1=>?_) λ_ _ z=>z
 ·intro pins' σ' H1 s1 e s1' I1 hx
  exact land (X:=X) (I1.untrying I.ok) hst hfr hg hm hdb hx (λc d H' q=>q) hh
 ·have h2:=h1.untrying I.ok
  cases f with
  |next=>exact cy h2
  |brk=>exact h2
  |cont=>exact h2
  |ret u=>exact h2
end
def Sm (n:Nat)(i:Int):Prop:=i.natAbs<2 ^ n
theorem Sm.bits {n:Nat}{i:Int}(h:Sm n i):Builtin.Int.intBits i≤n:=PyProof.Rows.intBits_le h
theorem Sm.mono {n m:Nat}{i:Int}(h:Sm n i)(hm:n≤m):Sm m i:=aB h (Nat.pow_le_pow_right (by decide) hm)
theorem Sm.of_le {n:Nat}{i j:Int}(h:Sm n j)(e:i.natAbs≤j.natAbs):Sm n i:=cU e h
theorem Sm.ok {n m:Nat}{i j:Int}(h:Sm n i)(h':Sm m j)(e:n+m≤134217728):IntMulOk i j:=IntMulOk.of_le h.bits h'.bits e
theorem Sm.log {n:Nat}{i:Int}(h:Sm n i)(hn:n≤9000):i.natAbs.log2<9000:=by
 by_cases h0:i.natAbs=0
 ·rw [h0]
  decide
 ·exact aB ((Nat.log2_lt h0).mpr h) hn
theorem Sm.noPl {n:Nat}{i j:Int}(h:Sm n j)(hn:n≤9000):Builtin.divisionGoesByPylong i j=false:=PyProof.noPylong_of_log2 (h.log hn)
section
variable {X:Cx}
theorem xy:OpR X (binaryOp .Mult) (rI IntMulOk λi j=>.int (i*j)):=opI λ_ _ _ _ _ _ _ hc q=>mul_int q hc
theorem zd:OpR X (binaryOp .FloorDiv) (rI (λ_ j=>0<j∧Sm 9000 j) λi j=>.int (i/j)):=opI λi j _ _ _ _ _ hc q =>
 floordiv_int (by lia) (by rw [Int.fdiv_eq_ediv_of_nonneg i (Int.le_of_lt hc.1)];exact q) (.inl (hc.2.noPl (af _)))
end
mutual
def RD (K:Aa)(H:Hp):PyData→V→Prop
 |.none,v=>v=.non
 |.bool b,v=>v=.bl b
 |.int i,v=>v=.int i
 |.str x,v=>v=.str x
 |.list ds,v=>∃a xs,v=.ref a∧SqL K H a xs∧RDs K H ds xs
 |.tuple ds,v=>∃a xs,v=.ref a∧SqT K H a xs∧RDs K H ds xs
 |.dict _,_=>False
def RDs (K:Aa)(H:Hp):List PyData→List V→Prop
 |[],xs=>xs=[]
 |d::ds,xs=>∃y ys,xs=y::ys∧RD K H d y∧RDs K H ds ys
end
section
variable {X:Cx}{pins:List (Aj×Obj)}{σ:St}{H:Hp}{s:Ab}
mutual
theorem jt (I:Inv X pins σ H s):∀(d:PyData) (v:V) (u:Ag),RD X.K H d v→RelV v u→∃as,Reads s.heap u d as
 |.none,v,u,h,r=>by
  rw [RD] at h;subst h
  cases (show u=Value.none from r)
  exact ⟨_,.none⟩
 |.bool b,v,u,h,r=>by
  rw [RD] at h;subst h
  cases (show u=Value.bool b from r)
  exact ⟨_,.bool b⟩
 |.int i,v,u,h,r=>by
  rw [RD] at h;subst h
  obtain ⟨t,rfl⟩:=(show ∃t,u=Value.int i t from r)
  exact ⟨_,.int i t⟩
 |.str x,v,u,h,r=>by
  rw [RD] at h;subst h
  obtain ⟨t,rfl⟩:=(show ∃t,u=Value.str x t from r)
  exact ⟨_,.str x t⟩
 |.list ds,v,u,h,r=>by
  rw [RD] at h
  obtain ⟨a,xs,rfl,hs,hd⟩:=h
  cases (show u=Value.ref a from r)
  obtain ⟨its,rv,⟨o,n,e1,e2,_,e3⟩,_⟩:=I.list hs
  obtain ⟨as,ha⟩:=Q8 I ds xs its hd rv
  exact ⟨_,.list e1 e2 e3 (by simpa using ha)⟩
 |.tuple ds,v,u,h,r=>by
  rw [RD] at h
  obtain ⟨a,xs,rfl,hs,hd⟩:=h
  cases (show u=Value.ref a from r)
  obtain ⟨its,rv,⟨o,e1,e2,n,e3⟩,_⟩:=I.tuple hs
  obtain ⟨as,ha⟩:=Q8 I ds xs its hd rv
  exact ⟨_,.tuple e1 e2 e3 (by simpa using ha)⟩
 |.dict _,_,_,h,_=>by
  rw [RD] at h
  exact h.elim
theorem Q8 (I:Inv X pins σ H s):∀(ds:List PyData) (vs:List V) (us:List Ag),RDs X.K H ds vs→Vals vs us→∃as,ReadsAll s.heap us ds as
 |[],vs,us,h,r=>by
  rw [RDs] at h;subst h
  cases r
  exact ⟨_,.nil⟩
 |d::ds,vs,us,h,r=>by
  rw [RDs] at h
  obtain ⟨y,ys,rfl,h1,h2⟩:=h
  cases r with
  |cons r1 r2 =>
   obtain ⟨as,a1⟩:=jt I d y _ h1 r1
   obtain ⟨bs,a2⟩:=Q8 I ds ys _ h2 r2
   exact ⟨_,.cons a1 a2⟩
end
def rEqD (K:Aa)(neg:Bool):R2:=λx y H Q=>∃d e,RD K H d x∧RD K H e y∧d.canLay0=true∧e.canLay0=true∧min d.depth e.depth≤60∧Q (.bl (if neg then !PyData.eqv d e else PyData.eqv d e)) H
theorem op_eqD (hu:X.A.units+64<cLine):OpR X (compareOp .Eq) (rEqD X.K false):=by
 intro pins s σ H x y v u Q I rx ry h
 obtain ⟨d,e,h1,h2,c1,c2,dp,q⟩:=h
 obtain ⟨as,a1⟩:=jt I d x v h1 rx
 obtain ⟨bs,a2⟩:=jt I e y u h2 ry
 exact PySem.SeqAt.compareEq_reads a1 a2 c1 c2 (by lia) ⟨.bl _,H,I,rfl,q⟩
theorem Zn (hu:X.A.units+64<cLine):OpR X (compareOp .NotEq) (rEqD X.K true):=by
 intro pins s σ H x y v u Q I rx ry h
 obtain ⟨d,e,h1,h2,c1,c2,dp,q⟩:=h
 obtain ⟨as,a1⟩:=jt I d x v h1 rx
 obtain ⟨bs,a2⟩:=jt I e y u h2 ry
 exact PySem.SeqAt.compareNe_reads a1 a2 c1 c2 (by lia) ⟨.bl _,H,I,rfl,q⟩
end
def ptD (p:Int×Int):PyData:=.tuple [.int p.1,.int p.2]
theorem Zu:∀(xs ys:List Int),PyData.eqvAll (xs.map .int) (ys.map .int)=decide (xs=ys)
 |[],[]=>rfl
 |[],_::_=>rfl
 |_::_,[]=>rfl
 |x::xs,y::ys=>by
  rw [aD,aD,PyData.eqvAll,Zu xs ys,PyData.eqv]
  by_cases h:x=y
  ·subst h;simp
  ·simp [h]
theorem eqv_pt (p q:Int×Int):PyData.eqv (ptD p) (ptD q)=decide (p=q):=by
 obtain ⟨a,b⟩:=p
 obtain ⟨c,d⟩:=q
 unfold ptD
 rw [PyData.eqv]
 have:=Zu [a,b] [c,d]
 rw [aD,aD,bD,aD,aD,bD] at this
 rw [this]
 simp
theorem qxg:∀(xs:List Int),PyData.canLayAll0 (xs.map .int)=true
 |[]=>rfl
 |x::xs=>by rw [aD,PyData.canLayAll0,qxg xs];rfl
theorem qx7:∀(xs:List Int),PyData.depthAll (xs.map .int)≤1
 |[]=>by simp [PyData.depthAll]
 |x::xs=>by
  have:=qx7 xs
  simp only [aD,PyData.depthAll,PyData.depth]
  lia
theorem qkh {K:Aa}{H:Hp}:∀(xs:List Int),RDs K H (xs.map .int) (xs.map V.int)
 |[]=>by rw [bD,bD,RDs]
 |x::xs=>by
  rw [aD,aD,RDs]
  exact ⟨_,_,rfl,by rw [RD],qkh xs⟩
end L2
namespace L2
open PySem PySem.Spec PyProof.Rows
section
variable {P:Ac}{w:Ah}{K:Aa}{mg:Str→Option Ag}{base:Heap}
theorem Fun.okX {x qual:Str}{st:Stmt}{f:Aj}{fd:Ad}{N ps:List Str}{k:Nat}{sp:Sp}(F:Fun K x qual st f fd)(S:FnScope N ps (wz st))(len:∀vs H Q E,sp vs H Q E→vs.length=ps.length)
  (body:∀(cdv:Ag) (A:Ae) (outer:List Env) (s:Ab) (H:Hp) (vs:List V) (Q:VK) (E:XK),Room k (A.deeper (envOfC qual (wz st) s.heap.objs.size f cdv))→sp vs H Q E →
   ∃t,PSs (qwm (CXE P w) P w K mg base N qual (wz st) f cdv A outer s H E) (zh st) t∧t { nx:=λ_ H'=>Q .non H',rt:=Q } (Qg N vs) H):FnOk P w K mg base (CXE P w) (k+1) f fd ps sp:=by
 obtain ⟨oc,od,kV,doc,pm,an,cdv,ct,osl,rfl,lk,hcd⟩:=F.ex
 exact fn_of lk hcd S len λA outer s H vs Q E hr hsp=>body cdv A outer s H vs Q E hr hsp
structure DefIn (K:Aa)(x:Str)(st:Stmt):Prop where
 ex:∃f fd,PySem.W.nsIn K mainGlobals x=some (some (.ref f))∧Fun K x x st f fd
theorem def_mk {x:Str}{st:Stmt}{f:Aj}{oc:Ag}{od an:Option Aj}{osl:Array (Option Ag)}{kV doc pm cdv ct:Ag}(a:PySem.W.nsIn K mainGlobals x=some (some (.ref f)))
  (l:K.lookup f=some ⟨oc,od,.func (PySem.W.fnOf x x (z0 st) (zh st) (wz st) .none kV doc pm an cdv ct),osl⟩) (c:PySem.W.codeIn K cdv x=true) (k:PySem.W.keepIn K (.ref f)=true):DefIn K x st:=⟨_,_,a,wqg l c k⟩
def x4 (x:Str)(st:Stmt)(ps:List Str):Prop:=∀(kV doc pm:Ag) (an:Option Aj) (cdv ct:Ag) (us:List Ag),us.length=ps.length→bindArgs (PySem.W.fnOf x x (z0 st) (zh st) (wz st) .none kV doc pm an cdv ct) ⟨us,[]⟩=pure (ps.zip us)
structure Cal (P:Ac)(w:Ah)(K:Aa)(mg:Str→Option Ag)(base:Heap)(x:Str)(k:Nat)(sp:Sp):Prop where
 ex:∃f fd ps,mg x=some (.ref f)∧FnOk P w K mg base (CXE P w) k f fd ps sp∧PySem.W.keepIn K (.ref f)=true∧Binds K fd ps []
theorem DefIn.cal {x:Str}{st:Stmt}{ps:List Str}{k:Nat}{sp:Sp}{h:Heap}(d:DefIn K x st)(KX:K.In h)(G:h.Ns mainGlobals mg)(b:x4 x st ps)(ok:∀f fd,Fun K x x st f fd→FnOk P w K mg base (CXE P w) k f fd ps sp):Cal P w K mg base x k sp:=by
 obtain ⟨f,fd,a,F⟩:=d.ex
 exact ⟨f,fd,ps,aF KX G a,ok f fd F,F.kp,F.binds b⟩
end
section
variable {X:Cx}{x:Str}{k:Nat}{sp:Sp}{E:St→XK}{p pos:Pos}{e:Expr}{es:List Expr}{t:TA}
theorem wb (c:Cal X.prog X.w X.K X.mg X.base x k sp)(hr:Room k X.A)(hg:Gl X x)(hx:v6 X E)
  (ha:PA X (e::es) t) (hdb:(x==("__debug__" : Str))=false:=by decide) (he:starEach (e::es) X.env=(false,eval e X.env)::starEach es X.env:=by rfl) (hpl:(backTo pos (starEach es X.env)).any (·.1)=false:=by rfl) :
  PE X (.Call (.Name x p) (e::es) [] pos) (qqm sp E t):=by
 obtain ⟨f,fd,ps,hm,F,kp,b⟩:=c.ex
 exact qu8 F hr hg hm kp b hx ha hdb he hpl
end
def tCut (t u:TS):TS:=λD σ H=>∃R:St→Hp→Prop,t { D with nx:=R } σ H∧∀σ' H',R σ' H'→u D σ' H'
theorem qxq {X:Cx}{st:Stmt}{rest:List Stmt}{t u:TS}(h1:PS X st t)(h2:PSs X rest u):PSs X (st::rest) (tCut t u):=by
 intro pins s σ H D I ⟨R,h,hR⟩
 refine ed (thn (h1 pins s σ H { D with nx:=R } I h) λf s1 q=>?_)
 cases f with
 |next =>
  obtain ⟨σ1,H1,I1,q1⟩:=q
  exact h2 pins s1 σ1 H1 D I1 (hR σ1 H1 q1)
 |brk=>exact q
 |cont=>exact q
 |ret u=>exact q
theorem zm {c A B:Prop}[Decidable c](h1:c→A)(h2:¬ c→B):if decide c=true then A else B:=by
 by_cases h:c
 ·rw [aZ h]
  exact k4 (h1 h)
 ·rw [bi h]
  exact uc (h2 h)
theorem iteND {c A B:Prop}[Decidable c](h1:¬ c→A)(h2:c→B):if (!decide c)=true then A else B:=by
 by_cases h:c
 ·rw [aZ h]
  exact uc (h2 h)
 ·rw [bi h]
  exact k4 (h1 h)
theorem deqI {i j:Int}:decide (V.int i=V.int j)=decide (i=j):=by
 by_cases h:i=j
 ·subst h;simp
 ·simp [h]
theorem z5 {i j:Int}{A B:Prop}(h1:i=j→A)(h2:i≠j→B):if decide (V.int i=V.int j)=true then A else B:=by
 rw [deqI]
 exact zm h1 h2
theorem iteNDV {i j:Int}{A B:Prop}(h1:i≠j→A)(h2:i=j→B):if (!decide (V.int i=V.int j))=true then A else B:=by
 rw [deqI]
 exact iteND h1 h2
theorem Same.upd {H:Hp}{p:Aj}{o:HO}(n:H p=none):Same H (upd H p o):=λb u e=>by
 rw [wx (qf e n)]
 exact e
theorem Same.sql {K:Aa}{H H':Hp}{a:Aj}{xs:List V}(h:Same H H')(s:SqL K H a xs):SqL K H' a xs:=h.seq s
theorem SqT.new {K:Aa}{H:Hp}{p:Aj}{xs:List V}:SqT K (upd H p (.tup xs)) p xs:=SqT.of qb
theorem SqL.new {K:Aa}{H:Hp}{p:Aj}{xs:List V}:SqL K (upd H p (.lst xs)) p xs:=SqL.of qb
theorem Qj:bootBuiltins "abs" = some (.builtin "abs"):=by decide +kernel
theorem quz:bootBuiltins "all" = some (.builtin "all"):=by decide +kernel
theorem W5 {ns:List Int}{i:Int}(h0:0≤i)(h1:i<ns.length):atI (ns.map V.int) i=some (V.int (ns.getD i.toNat 0)):=by
 have hl:i.toNat<ns.length:=by lia
 have e:(ns.map V.int)[i.toNat]?=some (V.int (ns.getD i.toNat 0)):=by
  rw [aM,al,au hl]
  rfl
 have:=W8 e
 rwa [dF h0] at this
def qxs (ns:List Int)(i:Int):Int:=if i<ns.length then ns.getD i.toNat 0 else if (ns.length:Int)=0 then 7*i+3 else ns.getD (i%ns.length).toNat 0+1009*i
def divs (c:Int):Nat→Int
 |0=>c
 |n+1=>divs c n/1000
def qvs (K:Aa):Sp:=λvs H Q _=>∃(a:Aj) (ns:List Int) (i:Int),vs=[.ref a,.int i]∧SqL K H a (ns.map V.int)∧0≤i∧∀r,r=qxs ns i→Q (.int r) H
def jn (c:Int):Int:=if c<0 then -c else c
def qq2 (c t:Int):Int:=(c%1000003*48271+t*7919+101)%999983
def qx0 (c t:Int):Int:=(qq2 c t*qq2 c t+c%1000003*31+t*104729)%1000033
def qzg (c t:Int):Int:=if 10 ^ 18≤jn c then (if c<0 then divs (jn c) t.toNat%1000 else divs (jn c) t.toNat) else (qx0 c t*qx0 c t+qq2 c t*17+t*30011)%999979
def qxp (ns:List Int)(i t m:Int):Int:=qzg (qxs ns i) t%m
theorem wqr (ns:List Int)(i t m:Int)(h:0<m):0≤qxp ns i t m:=bf _ (by lia)
theorem wqd (ns:List Int)(i t m:Int)(h:0<m):qxp ns i t m<m:=aX _ h
theorem qy1 {c t:Int}(h:10 ^ 18≤jn c)(n:c<0):qzg c t=divs (jn c) t.toNat%1000:=by rw [qzg,am h,am n]
theorem qj8 {c t:Int}(h:10 ^ 18≤jn c)(n:¬ c<0):qzg c t=divs (jn c) t.toNat:=by rw [qzg,am h,aj n]
theorem wwq {c t:Int}(h:¬ 10 ^ 18≤jn c):qzg c t=(qx0 c t*qx0 c t+qq2 c t*17+t*30011)%999979:=by rw [qzg,aj h]
def uj (K:Aa):Sp:=λvs H Q _=>∃(a:Aj) (ns:List Int) (i t m:Int),vs=[.ref a,.int i,.int t,.int m]∧SqL K H a (ns.map V.int)∧0≤i∧0≤t∧t<1000000∧0<m ∧
 ∀r,r=qxp ns i t m→0≤r→r<m→Q (.int r) H
theorem Sm.small {n:Nat}{i:Int}(h1:-(2 ^ 64)≤i)(h2:i≤2 ^ 64)(hn:65≤n):Sm n i:=by
 refine Sm.mono (n:=65) ?_ hn
 unfold Sm
 lia
def qk8 (K:Aa):Sp:=λvs H Q _=>∃(a:Aj) (ns:List Int),vs=[.ref a]∧SqL K H a (ns.map V.int)∧ns.length≤63∧∀H',Q (.bl true) H'
theorem sz1 {x:V}:[x].length≤sizeLine:=by show 1≤sizeLine;decide
theorem sz2 {x y:V}:[x,y].length≤sizeLine:=by show 2≤sizeLine;decide
theorem sz0:([]:List V).length≤sizeLine:=by show 0≤sizeLine;decide
end L2
namespace L2
open PySem
def Wj (x y:Int):Int:=((Nat.gcd x.toNat y.toNat:Nat):Int)
theorem qyh {x:Int}(h:0≤x):Wj x 0=x:=by
 unfold Wj
 have:(0:Int).toNat=0:=rfl
 rw [this,Nat.gcd_zero_right]
 lia
theorem qjj {x y:Int}(hx:0≤x)(hy:0<y):Wj y (x%y)=Wj x y:=by
 unfold Wj
 have e:(x%y).toNat=x.toNat%y.toNat:=by
  have h1:x=(x.toNat:Int):=by lia
  have h2:y=(y.toNat:Int):=by lia
  have h3:x%y=((x.toNat%y.toNat:Nat):Int):=by
   conv=>lhs;rw [h1,h2]
   exact (Int.natCast_emod _ _).symm
  rw [h3]
  exact bV _
 rw [e,Nat.gcd_comm y.toNat,←Nat.gcd_rec,Nat.gcd_comm]
theorem qkg (t:Int):jn t=(t.natAbs:Int):=by
 unfold jn
 split <;> lia
theorem qkr (t:Int):0≤jn t:=by
 rw [qkg]
 lia
theorem vq (t b:Int):Wj (jn t) b=((Nat.gcd t.natAbs b.toNat:Nat):Int):=by
 unfold Wj
 rw [qkg,bV]
def gOf (t b:Int):Int:=Wj (jn t) b
def wu (t b:Int):Int×Int:=(t/gOf t b,b/gOf t b)
theorem zt {t b:Int}(h:1≤b):1≤gOf t b:=by
 unfold gOf
 rw [vq]
 have:0<Nat.gcd t.natAbs b.toNat:=Nat.gcd_pos_of_pos_right _ (by lia)
 lia
theorem quy {t b:Int}(h:1≤b):gOf t b≤b:=by
 unfold gOf
 rw [vq]
 have:Nat.gcd t.natAbs b.toNat≤b.toNat:=Nat.gcd_le_right _ (by lia)
 lia
theorem qj7 {t b:Int}(h:1≤b):gOf t b∣b:=by
 unfold gOf
 rw [vq]
 have h1:((Nat.gcd t.natAbs b.toNat:Nat):Int)∣(b.toNat:Int):=ef.mpr (Nat.gcd_dvd_right _ _)
 have h2:(b.toNat:Int)=b:=by lia
 rwa [h2] at h1
theorem qyb {t b:Int}:gOf t b∣t:=by
 unfold gOf
 rw [vq]
 have h1:((Nat.gcd t.natAbs b.toNat:Nat):Int)∣(t.natAbs:Int):=ef.mpr (Nat.gcd_dvd_left _ _)
 exact Int.dvd_natAbs.mp h1
theorem Js {t b:Int}:gOf t b*(t/gOf t b)=t:=du qyb
theorem uh {t b:Int}(h:1≤b):gOf t b*(b/gOf t b)=b:=du (qj7 h)
theorem qjb {t b:Int}(h:1≤b):(wu t b).1*b=t*(wu t b).2:=by
 unfold wu
 dsimp only
 have h1:=Js (t:=t) (b:=b)
 have h2:=uh (t:=t) (b:=b) h
 conv=>lhs;rw [←h2]
 conv=>rhs;rw [←h1]
 rw [h1,h2]
 have e1:t/gOf t b*b=t/gOf t b*(gOf t b*(b/gOf t b)):=by rw [h2]
 have e2:t*(b/gOf t b)=gOf t b*(t/gOf t b)*(b/gOf t b):=by rw [h1]
 rw [e1,e2,←d8,dJ (t/gOf t b)]
theorem ur {t b:Int}(h:1≤b):1≤(wu t b).2:=by
 show 1≤b/gOf t b
 have h2:=uh (t:=t) (b:=b) h
 have h3:=zt (t:=t) h
 have:0<b/gOf t b:=by
  rcases bW 0 (b/gOf t b) with z|z
  ·exact z
  ·have:=bg z (show 0≤gOf t b by lia)
   rw [h2,Int.mul_zero] at this
   lia
 lia
theorem Zj {t b:Int}(h:1≤b):(wu t b).2≤b:=Int.ediv_le_self _ (by lia)
theorem qwz {t b:Int}(h:1≤b):gOf (wu t b).1 (wu t b).2=1:=by
 have h3:=zt (t:=t) h
 have hb:=ur (t:=t) h
 obtain ⟨g,hg⟩:∃g:Nat,gOf t b=(g:Int):=⟨_,by unfold gOf;exact vq t b⟩
 have g1:0<g:=by lia
 have hgg:g=Nat.gcd t.natAbs b.toNat:=by
  have:(g:Int)=((Nat.gcd t.natAbs b.toNat:Nat):Int):=by rw [←hg];unfold gOf;exact vq t b
  lia
 have et:g*(wu t b).1.natAbs=t.natAbs:=by
  have:=Js (t:=t) (b:=b)
  have e:=cg Int.natAbs this
  rw [Int.natAbs_mul,hg] at e
  simpa [wu,hg] using e
 have eb:g*(wu t b).2.toNat=b.toNat:=by
  have:=uh (t:=t) (b:=b) h
  rw [hg] at this
  have q:(wu t b).2=b/(g:Int):=by unfold wu;rw [hg]
  have q2:b/(g:Int)=((b/(g:Int)).toNat:Int):=by rw [←q];lia
  rw [q]
  rw [q2] at this
  have:((g*(b/(g:Int)).toNat:Nat):Int)=b:=by rw [eI];exact this
  lia
 unfold gOf
 rw [vq]
 have key:g*Nat.gcd (wu t b).1.natAbs (wu t b).2.toNat=g*1:=by
  rw [←Nat.gcd_mul_left,et,eb,←hgg,Nat.mul_one]
 have:=Nat.eq_of_mul_eq_mul_left g1 key
 rw [this]
 rfl
theorem wxx {t b c:Int}(h:1≤b)(hc:1≤c):gOf (t*c) (b*c)=gOf t b*c:=by
 unfold gOf
 rw [vq,vq]
 have e1:(t*c).natAbs=t.natAbs*c.toNat:=by
  rw [Int.natAbs_mul]
  have:c.natAbs=c.toNat:=by lia
  rw [this]
 have e2:(b*c).toNat=b.toNat*c.toNat:=by
  have hb:b=(b.toNat:Int):=by lia
  have hc':c=(c.toNat:Int):=by lia
  have:b*c=((b.toNat*c.toNat:Nat):Int):=by
   rw [eI,←hb,←hc']
  lia
 rw [e1,e2,Nat.gcd_mul_right,eI]
 have:(c.toNat:Int)=c:=by lia
 rw [this]
theorem wx0 {t b c:Int}(h:1≤b)(hc:1≤c):wu (t*c) (b*c)=wu t b:=by
 unfold wu
 rw [wxx h hc]
 have hg:=zt (t:=t) h
 rw [cA _ _ (show 0<c by lia),cA _ _ (show 0<c by lia)]
end L2
namespace L2
open PySem PySem.Spec PyProof.Rows
def CapAll (env:Env):List (Str×Aj)→Prop
 |[]=>True
 |(y,c)::r=>env.cells.lookup y=some c∧CapAll env r
theorem CapAll.look {env:Env}:∀ {cl:List (Str×Aj)},CapAll env cl→∀ {y:Str} {c:Aj},cl.lookup y=some c→env.cells.lookup y=some c
 |[],_,_,_,e=>by cases e
 |(z,d)::r,h,y,c,e=>by
  rw [aA] at e
  cases hb:y==z with
  |true =>
   rw [hb] at e
   rw [eq_of_beq hb]
   exact h.1.trans e
  |false =>
   rw [hb] at e
   exact CapAll.look h.2 e
def HasAll (cl:List (Str×Aj)):List (Str×NameKind)→Prop
 |[]=>True
 |(n,k)::r=>(k=.free→∃c,cl.lookup n=some c)∧k≠.cell∧HasAll cl r
theorem HasAll.nocell {cl:List (Str×Aj)}:∀ {ns:List (Str×NameKind)},HasAll cl ns→∀y∈ns,y.2≠.cell
 |(n,k)::r,h,y,hy=>by
  rcases ai.mp hy with rfl|hy
  ·exact h.2.1
  ·exact HasAll.nocell h.2.2 y hy
theorem HasAll.has {cl:List (Str×Aj)}{env:Env}:∀ {ns:List (Str×NameKind)},HasAll cl ns→∀ {x:Str} {q:NameKind},q=.cell∨q=.free →
  (ns.map λ(n,k)=>if (k==NameKind.free&&env.scope.kind==.function&&env.kindOf n==some .cell) then (n,NameKind.cell) else (n,k)).lookup x=some q→∃c,cl.lookup x=some c
 |[],_,_,_,_,e=>by cases e
 |(n,k)::r,h,x,q,hq,e=>by
  have ih:=HasAll.has (env:=env) h.2.2 (x:=x) hq
  rw [aD] at e
  by_cases hc:(k==NameKind.free&&env.scope.kind==.function&&env.kindOf n==some .cell)=true
  ·have e':=e
   dsimp only at e'
   rw [am hc,aA] at e'
   cases hb:x==n with
   |true =>
    rw [ba,ba] at hc
    obtain ⟨c,hcc⟩:=h.1 (eq_of_beq hc.1.1)
    exact ⟨c,by rw [eq_of_beq hb];exact hcc⟩
   |false =>
    rw [hb] at e'
    exact ih e'
  ·have e':=e
   dsimp only at e'
   rw [aj hc,aA] at e'
   cases hb:x==n with
   |true =>
    rw [hb] at e'
    have ek:k=q:=ar e'
    rcases hq with rfl|rfl
    ·exact absurd ek h.2.1
    ·obtain ⟨c,hcc⟩:=h.1 ek
     exact ⟨c,by rw [eq_of_beq hb];exact hcc⟩
   |false =>
    rw [hb] at e'
    exact ih e'
def CapIx (X:Cx)(scope:Scope)(cl:List (Str×Aj)):List Nat→Prop
 |[]=>True
 |j::r=>(∃y c,X.N[j]?=some y∧X.env.scope.names.lookup y=some .cell∧(relabel scope X.env).names.lookup y=some .cell∧cl.lookup y=some c)∧CapIx X scope cl r
theorem CapIx.get {X:Cx}{scope:Scope}{cl:List (Str×Aj)}:∀ {M:List Nat},CapIx X scope cl M→∀ {k j:Nat},M[k]?=some j →
  ∃y c,X.N[j]?=some y∧X.env.scope.names.lookup y=some .cell∧(relabel scope X.env).names.lookup y=some .cell∧cl.lookup y=some c
 |[],_,k,j,e=>by cases e
 |i::r,h,0,j,e=>by
  cases e
  exact h.1
 |i::r,h,k+1,j,e=>CapIx.get h.2 (k:=k) e
def Yc (X:Cx)(x:Str)(M:List Nat):List Str:=x::M.map λj=>X.N.getD j Str.empty
def zu (M:List Nat)(σ:St)(o:Option V):St:=o::M.map λj=>(σ[j]?).join
abbrev zk (X:Cx)(scope:Scope)(cl:List (Str×Aj))(x:Str)(M:List Nat)(C:Aj)(s2:Ab)(H2:Hp)(fp:List Aj)(pn:List (Aj×Obj)):Cx :=
 { X with N:=Yc X x M,s₀:=s2,H₀:=H2,env:=compEnvC scope cl C X.env,outer:=X.stack,ex:=fp,fn:=λ_=>false,pn:=pn,xe:=λ_ _=>False }
section
variable {X:Cx}{pins:List (Aj×Obj)}{σ:St}{H:Hp}{s2:Ab}{scope:Scope}{cl:List (Str×Aj)}{x:Str}{M:List Nat}{fp:List Aj}{C:Aj}{h1:Heap}{tk:Nat}
theorem Inv.compG {oo:HO}{xs:List Str}(I:Inv X pins σ H s2)(hc:CapAll X.env cl)(hh:HasAll cl scope.names)(hm:CapIx X scope cl M)(hk:scope.kind=.function)(hC:s2.heap.objs.size<C)
  (keep:∀b o,s2.heap.get? b=some o→h1.get? b=some o) (hn:h1.Ns C λ_=>none) (hD:ObjOk X.prog X.w (upd H s2.heap.objs.size oo) h1 s2.heap.objs.size oo)
  (hfp:∀b∈fp,k7 X pins H b) (hob:∀b∈fp,∃o,s2.heap.get? b=some o) :
  Inv { X with N:=xs++M.map λj=>X.N.getD j Str.empty,s₀:=s2,H₀:=H,env:=compEnvC scope cl C X.env,outer:=X.stack,ex:=fp,fn:=λ_=>false,pn:=X.pn++pins,xe:=λ_ _=>False } [] ((xs.map λ_=>none)++M.map λj=>(σ[j]?).join) (upd H s2.heap.objs.size oo) { s2 with heap:=h1,toks:=tk }:=by
 have hfr:=I.hok.fresh (a:=s2.heap.objs.size) (af _)
 have o:=I.ok
 have hcc:∀y c,cl.lookup y=some c→X.env.cells.lookup y=some c:=λy c e=>hc.look e
 have hlt:∀b∈fp,b<s2.heap.objs.size:=λb hb=>by
  obtain ⟨ob,e⟩:=hob b hb
  exact ah e
 have hstk:∀b∈fp,b∉frs X.stack:=λb hb z=>by
  rcases ai.mp (I.stkSub b z) with z|z
  ·exact (hfp b hb).2.1 z
  ·exact (hfp b hb).2.2.1 z
 have hCn:H C=none:=I.hok.fresh (bC hC)
 refine ⟨⟨o.mod,hk,o.glob,o.blt,bC hC,λy z c e1 e2=>o.inj y z c (hcc y c e1) (hcc z c e2),λy hy=>?_,λy c z=>(ay z).elim,o.hd,o.frames,.inl rfl,λb hb=>⟨ax (bv (hlt b hb) hC),λy c e=>(hfp b hb).2.2.2.2.1 y c (hcc y c e)⟩,
  λb ob e=>I.bs b ob e,bu o.bsz I.sz,λb ob e z=>?_,hstk,I.stack,I.stkFree⟩,rfl,I.bare,?_,?_,λy c e=>?_,?_,λy c e=>?_,λp hp=>?_,?_,?_⟩
 ·rcases hy with hy|hy
  ·exact hh.has (.inl rfl) hy
  ·exact hh.has (.inr rfl) hy
 ·obtain ⟨e1,e2⟩:=I.bs b ob e
  exact (hfp b z).2.2.2.1.elim (λq=>o.noex b ob e q) λq=>by
   have:=o.bs b ob e
   exact aW _ (aB (ah this.1) q)
 ·exact (Un.laid (fs:=frs X.stack) (ex:=fp) (o:=oo) keep (af _) hfr)
 ·refine ⟨_,hn,λi z v e1 e2 e3=>?_⟩
  rcases Nat.lt_or_ge i xs.length with hi|hi
  ·have e2:((xs.map λ_=>(none:Option V))++M.map λj=>(σ[j]?).join)[i]?=some (some v):=e2
   rw [dS (by rw [ae];exact hi),aM,au hi] at e2
   cases e2
  have e1':(xs++M.map λj=>X.N.getD j Str.empty)[i]?=some z:=e1
  have e2':((xs.map λ_=>(none:Option V))++M.map λj=>(σ[j]?).join)[i]?=some (some v):=e2
  rw [cE hi] at e1'
  rw [cE (by rw [ae];exact hi),ae] at e2'
  generalize i-xs.length=k at e1' e2'
  rw [aM] at e1' e2'
  cases hj:M[k]? with
  |none=>rw [hj] at e1';cases e1'
  |some j =>
   rw [hj] at e1' e2'
   obtain ⟨y,c,f1,f2,f3,f4⟩:=hm.get hj
   have ez:X.N.getD j Str.empty=z:=ar e1'
   rw [al,f1] at ez
   have ez':y=z:=ez
   subst ez'
   have ev:(σ[j]?).join=some v:=ar e2'
   have ev':σ[j]?=some (some v):=by
    cases hs:σ[j]? with
    |none=>rw [hs] at ev;cases ev
    |some w' =>
     rw [hs] at ev
     have:w'=some v:=ev
     rw [this]
   obtain ⟨m,hns,hl⟩:=I.loc
   obtain ⟨u,r,l⟩:=hl j y v f1 ev' (.inr (.inl f2))
   refine ⟨u,r,.inr ⟨.inl f3,c,f4,?_⟩⟩
   rcases l with ⟨lk,_⟩|⟨_,c',lc,li⟩
   ·have:X.env.scope.names.lookup y=some .local:=lk
    rw [f2] at this
    cases this
   ·rw [hcc y c f4] at lc
    have:=ar lc
    subst this
    exact li.keeps keep
 ·obtain ⟨v,hv⟩:=I.cell y c (hcc y c e)
  exact ⟨v,hv.keeps keep⟩
 ·show upd H s2.heap.objs.size oo C=none
  rw [wx (dH hC)]
  exact hCn
 ·show upd H s2.heap.objs.size oo c=none
  obtain ⟨v,ob,e1,e2⟩:=I.cell y c (hcc y c e)
  rw [wx (ax (ah e1))]
  exact I.freeC y c (hcc y c e)
 ·have hp':p∈X.pn++pins:=(bj.mp hp).elim (λz=>z) λz=>nomatch z
  obtain ⟨e1,e2,e3,e4,e5⟩:=I.pin p hp'
  refine ⟨keep _ _ e1,?_,ax (bv (ah e1) hC),λz=>?_,e5⟩
  ·rw [wx (ax (ah e1))]
   exact e2
  ·rcases ai.mp (I.stkSub p.1 z) with z|z
   ·exact e3 z
   ·exact e4 z
 ·exact I.hok.laid keep (af _) hD
 ·show ((xs.map λ_=>(none:Option V))++M.map λj=>(σ[j]?).join).length=(xs++M.map λj=>X.N.getD j Str.empty).length
  simp only [aN,ae]
theorem Inv.comp (I:Inv X pins σ H s2)(hc:CapAll X.env cl)(hh:HasAll cl scope.names)(hm:CapIx X scope cl M)(hk:scope.kind=.function)(hC:s2.heap.objs.size<C)
  (keep:∀b o,s2.heap.get? b=some o→h1.get? b=some o) (hn:h1.Ns C λ_=>none) (hD:h1.get? s2.heap.objs.size=some { cls:=.type "list",data:=.seq #[] 0 })
  (hfp:∀b∈fp,k7 X pins H b) (hob:∀b∈fp,∃o,s2.heap.get? b=some o) :
  Inv (zk X scope cl x M C s2 H fp (X.pn++pins)) [] (zu M σ none) (upd H s2.heap.objs.size (.lst [])) { s2 with heap:=h1,toks:=tk }:=I.compG (xs:=[x]) hc hh hm hk hC keep hn ⟨az _,[],0,.nil,hD⟩ hfp hob
theorem Inv.uncomp {pins':List (Aj×Obj)}{σ':St}{H':Hp}{s':Ab}{h':Heap}(I:Inv X pins σ H s2)(hC:s2.heap.objs.size≤C)(hfp:∀b∈fp,k7 X pins H b)
  (J:Inv (zk X scope cl x M C s2 H fp (X.pn++pins)) pins' σ' H' s') (hs:Heap.SameBut C s'.heap h'):Inv X pins σ H' { s' with heap:=h' }:=by
 have hb:=J.base
 have nC:∀b o,s2.heap.get? b=some o→b≠C:=λb o e=>ax (aB (ah e) hC)
 have st:∀b o,b≠C→s'.heap.get? b=some o→h'.get? b=some o:=λb o n e=>(hs.2 b n).trans e
 refine I.call' (s':={ s' with heap:=h' }) (ch:=fp) J.os ⟨λb o e n nb nx=>st b o (nC b o e) (hb.keep b o e n nb nx),λb o e n hb' nx=>?_,hb.free,λb o e nx=>?_,hb.tups,hb.frzs,hb.tbls⟩ ?_ J.bare λb hbf=>?_
 ·obtain ⟨sl,e1⟩:=hb.slot b o e n hb' nx
  exact ⟨sl,st b _ (nC b o e) e1⟩
 ·obtain ⟨o',e1⟩:=hb.there b o e nx
  exact ⟨o',st b _ (nC b o e) e1⟩
 ·intro b u hu
  have fr:H' C=none:=J.free
  refine (J.hok b u hu).stay (λc v hc e=>st c v ?_ e) (λ_ z=>z) λ_ _ z=>z
  rcases hc with rfl|hc
  ·intro z;rw [z,fr] at hu;cases hu
  ·intro z;rw [z,fr] at hc;cases hc
 ·obtain ⟨q1,q2,q3,q4,q5,q6⟩:=hfp b hbf
  exact ⟨q4,q2,q5,q6⟩
end
def qx1 (J:It)(M:List Nat)(te:TE)(σ:St)(H1:Hp)(Q:VK):Prop:=∀p,H1 p=none→∃W:Nat→Nat→List V→Hp→Prop,(∃m,W 0 m [] (upd H1 p (.lst []))) ∧
 ∀i m ys H2,W i m ys H2→H2 p=some (.lst ys)∧ys.length<sizeLine∧((J.stop i H2∧Q (.ref p) H2)∨(J.go i H2∧∀v H3,J.yld i H2 v H3 →
  te (zu M σ (some v)) H3 λy H4=>H4 p=some (.lst ys)∧∃m',m'<m∧W (i+1) m' (ys++[y]) (upd H4 p (.lst (ys++[y])))))
def tComp (M:List Nat)(wi:TI)(te:TE):TE:=λσ H Q=>wi σ H λJ H1=>qx1 J M te σ H1 Q
theorem Qn {Y:Cx}{tg e:Expr}{k:Nat}{acc:Ag}{it:Aj}{fp:List Aj}{tn:Nat→Heap→Prop}{J:It}{ps:Pos}{REST:Sem PySem.Fin}{post:Result→Ab→Prop}{gg:TG}{pins:List (Aj×Obj)}{σ:St}{V:Nat→Nat→Hp→Prop}{Qd:Hp→Prop}{s0:Ab}{H0:Hp}{n0:Nat}
  (T:Turn Y.prog Y.w Y.K tg J fp it tn) (hc:Y.calm=true) (hx:∀v s,Y.xe v s→False)
  (hturn:compTurn e k (.ref it) acc Y.env=(standAt ps >>= λ_=>pyNext (.ref it) >>= λr=>match r with|none=>pure (.done .next)|some v=>letOwnedTupleGo tg (.ref it) v >>= λ_=>assign tg Y.env v >>= λ_=>REST))
  (hun:Y.A.under (.compLoop e k (.ref it) acc Y.env)=Y.A) (hden:(model Y.prog Y.w).den (.compLoop e k (.ref it) acc Y.env)=((compTurn e k (.ref it) acc Y.env).onRaise λz=>do noteFrame z Y.env;theTreesLotGoes z))
  (hg:PG Y tg gg) (fok:∀H2:Hp,(∀b∈fp,H2 b=none)→∀b∈fp,k7 Y pins H2 b)
  (hV:∀i n H2,V i n H2→(J.stop i H2∧Qd H2)∨(J.go i H2∧∀v H3,J.yld i H2 v H3→∃Z:St→Hp→Prop,gg v σ H3 Z∧∀σ4 H4,Z σ4 H4→(σ.length=σ4.length∧∀(k:Nat) z,σ[k]?=some (some z)→σ4[k]?=some (some z))∧∀pins' s',Inv Y pins' σ4 H4 s' →
   wpAny (model Y.prog Y.w) Y.A REST (λr s5=>r=Fin.again (.compLoop e k (.ref it) acc Y.env)∧∃H5,Inv Y pins' σ4 H5 s5∧∃n',n'<n∧V (i+1) n' H5) Y.xe s'))
  (fin:∀H2 s4,Inv Y pins σ H2 s4→Qd H2→post (.ok .next) s4) (I:Inv Y pins σ H0 s0) (v0:V 0 n0 H0) (t0:tn 0 s0.heap) (nf:∀b∈fp,H0 b=none) :
  codeAny (model Y.prog Y.w) Y.A (.compLoop e k (.ref it) acc Y.env) post s0:=by
 refine codeAny_loop rfl (λn s3=>∃i H2,V i n H2∧Inv Y pins σ H2 s3∧tn i s3.heap∧∀b∈fp,H2 b=none) (λn s3 hI=>?_) n0 ⟨0,H0,v0,I,t0,nf⟩
 obtain ⟨i,H2,w,J2,t,nf2⟩:=hI
 rw [hun,hden]
 refine wpAny_noted ?_
 rw [hturn]
 refine aa (dn (aa ?_))
 rcases hV i n H2 w with ⟨hst,hq⟩|⟨hgo,hy⟩
 ·refine aP (T.done Y rfl rfl rfl hc i pins s3 _ H2 (λ_ _=>False) J2 (fok H2 nf2) t hst) (λr s4 hr=>?_) λ_ _ z=>z.elim
  obtain ⟨rfl,J4⟩:=hr
  exact ag (fin H2 s4 J4 hq)
 ·refine aP (T.item Y rfl rfl rfl hc i pins s3 _ H2 (λ_ _=>False) J2 (fok H2 nf2) t hgo) (λr s4 hr=>?_) λ_ _ z=>z.elim
  obtain ⟨u,rfl,hw⟩:=hr
  refine aa (aP hw (λ_ s5 hr5=>?_) λ_ _ z=>z.elim)
  obtain ⟨v,H3,J5,rv,yl,t5,nf⟩:=hr5
  obtain ⟨Z,hz,hZ⟩:=hy v H3 yl
  refine aa (aP (hg _ s5 _ H3 v u _ (J5.pinned (fok H3 nf) (T.obj _ _ t5)) rv hz) (λ_ s6 hr6=>?_) λv s z=>(hx v s z).elim)
  obtain ⟨σ6,H6,J6,z6⟩:=hr6
  obtain ⟨⟨hl,hw6⟩,hR⟩:=hZ σ6 H6 z6
  refine aP (hR _ s6 J6) (λr s7 hr7=>?_) λv s z=>(hx v s z).elim
  obtain ⟨rfl,H7,J7,n',hn',v7⟩:=hr7
  refine ⟨rfl,n',hn',i+1,H7,v7,(J7.unpinned (pins:=pins)).weak hl hw6,?_,?_⟩
  ·exact T.keep _ _ _ t5 λb hb o e=>(J7.pin (b,o) (aJ _ (aJ _ (jd hb e)))).1
  ·intro b hb
   obtain ⟨o,e,_⟩:=T.obj _ _ t5 b hb
   exact (J7.pin (b,o) (aJ _ (aJ _ (jd hb e)))).2.1
section
variable {Y:Cx}{elt cd:Expr}{te:TE}{tt:TT}{c:Code}{p:Aj}{σ:St}{H:Hp}{pins:List (Aj×Obj)}{s:Ab}
def appS (elt:Expr)(acc:Ag)(env:Env)(c:Code):Sem PySem.Fin:=(eval elt env >>= λx=>call (.builtin "list.append") [acc,x] >>= λ_=>pure ()) >>= λ_=>again c
theorem qzq {ys:List V}{N:List V→Hp→Prop}(hx:∀v s,Y.xe v s→False)(he:PE Y elt te)(J:Inv Y pins σ H s)(hz:ys.length<sizeLine)(h:te σ H λy H4=>H4 p=some (.lst ys)∧N (ys++[y]) (upd H4 p (.lst (ys++[y])))) :
  wpAny (model Y.prog Y.w) Y.A (appS elt (.ref p) Y.env c) (λr s5=>r=Fin.again c∧∃H5,Inv Y pins σ H5 s5∧∃zs,N zs H5) Y.xe s:=by
 refine aa (aa (aP (he _ s _ H _ J h) (λyv s7 hr7=>?_) λ_ _ z=>z))
 obtain ⟨y,H4,J7,ry,hp4,n4⟩:=hr7
 refine aa (aP (jw (X:=Y) _ s7 _ H4 (.ref p) [y] (.ref p) [yv] (λ_ H8=>H8=upd H4 p (.lst (ys++[y]))) J7 rfl (.cons ry .nil) ⟨_,ys,y,rfl,rfl,hp4,hz,rfl⟩) (λ_ s8 hr8=>?_) λ_ _ z=>z)
 obtain ⟨_,H8,J8,_,rfl⟩:=hr8
 exact ag (ag ⟨rfl,_,J8,_,n4⟩)
def tstS (cd:Expr)(env:Env)(a b:Sem PySem.Fin):Sem PySem.Fin:=(forIn [cd] true λc r=>if r=true then do let ok ←isTrue c env (eval c env);pure (ForInStep.yield ok) else pure (ForInStep.yield r)) >>= λok=>if ok=true then a else b
theorem wqc {a b:Sem PySem.Fin}{F:Hp→Prop}{G:Hp→Prop}{R:PySem.Fin→Ab→Prop}(ht:PT Y cd tt)(J:Inv Y pins σ H s)(h:tt σ H λok H4=>if ok=true then F H4 else G H4)
  (ha:∀s' H4,Inv Y pins σ H4 s'→F H4→wpAny (model Y.prog Y.w) Y.A a R Y.xe s') (hb:∀s' H4,Inv Y pins σ H4 s'→G H4→wpAny (model Y.prog Y.w) Y.A b R Y.xe s') :
  wpAny (model Y.prog Y.w) Y.A (tstS cd Y.env a b) R Y.xe s:=by
 refine aa (wpAny_tests_one (aP (ht _ s _ H _ J h) (λok s6 hr6=>?_) λ_ _ z=>z))
 obtain ⟨H6,J6,hok⟩:=hr6
 cases ok with
 |false=>exact hb s6 H6 J6 hok
 |true=>exact ha s6 H6 J6 hok
end
section
variable {X:Cx}{elt iter cd:Expr}{x:Str}{px pos:Pos}{scope:Scope}{cl:List (Str×Aj)}{M:List Nat}{wi:TI}{te:TE}{tt:TT}{pins:List (Aj×Obj)}{σ:St}
theorem qqr {N:List Str}{C:Aj}{s2:Ab}{H1:Hp}{fp:List Aj}(hcap:CapAll X.env cl)(I2:Inv X pins σ H1 s2)(hlt:s2.heap.objs.size<C)(hfp:∀b∈fp,k7 X pins H1 b)(hbl:∀b∈fp,b<s2.heap.objs.size)(H2:Hp)(hn:∀b∈fp,H2 b=none) :
  ∀b∈fp,k7 { X with N:=N,s₀:=s2,H₀:=H1,env:=compEnvC scope cl C X.env,outer:=X.stack,ex:=fp,fn:=λ_=>false,pn:=X.pn++pins,xe:=λ_ _=>False } [] H2 b:=λb hb=>by
 obtain ⟨q1,q2,q3,q4,q5,q6⟩:=hfp b hb
 refine ⟨hn b hb,ax (bv (hbl b hb) hlt),λz=>?_,.inl hb,λy c e=>q5 y c (hcap.look e),λp hp=>q6 p ((bj.mp hp).elim (λz=>z) λz=>nomatch z)⟩
 rcases ai.mp (I2.stkSub b z) with z|z
 ·exact q2 z
 ·exact q3 z
theorem qqx {tg:Expr}{ifs:List Expr}{rest:List Comprehension}(hclos:closureFor scope X.env=pure cl)(hhas:HasAll cl scope.names)(hk:scope.kind=.function)
  (hnames:∀y∈scope.names,y.2=.local→scope.names.lookup y.1=some .local) (hi:PI X tg iter wi) (hs:∀z,foldedSetIterable iter X.env z=pure z)
  {use:Option (Ag→Sem Unit)} {QQ:Ag→Ab→Prop} {s:Ab} {H:Hp} {ps:Pos} {R:It→Hp→Prop} (I:Inv X pins σ H s) (h:wi σ H R)
  (go:∀(it:Aj) (fp:List Aj) (tn:Nat→Heap→Prop) (J:It) (H1:Hp) (s2:Ab) (C:Aj) (h3:Heap) (tk:Nat),Inv X pins σ H1 s2→Turn X.prog X.w X.K tg J fp it tn→tn 0 h3→(∀b∈fp,k7 X pins H1 b)→(∀b∈fp,b<s2.heap.objs.size)→(∀b∈fp,∃o,s2.heap.get? b=some o)→R J H1→s2.heap.objs.size<C →
   (∀b o,s2.heap.get? b=some o→h3.get? b=some o)→(h3.Ns C λ_=>none)→h3.get? s2.heap.objs.size=some { cls:=.type "list",data:=.seq #[] 0 } →
   codeAny (model X.prog X.w) X.A (.compLoop (.ListComp elt (⟨tg,iter,ifs,0⟩::rest) scope pos) 0 (.ref it) (.ref s2.heap.objs.size) (compEnvC scope cl C X.env)) (compPost (model X.prog X.w) X.A X.xe use QQ (.ref s2.heap.objs.size) C) { s2 with heap:=h3,toks:=tk }) :
  wpAny (model X.prog X.w) X.A (comprehension (.ListComp elt (⟨tg,iter,ifs,0⟩::rest) scope pos) scope X.env ps (newList []) false (eval iter X.env) use) QQ X.xe s:=by
 refine wpAny_comprehension_free (use:=use) rfl hs hclos hk hnames ?_
 refine thn (hi pins s σ H _ I h) λv s1 h1=>thn h1 λitv s2 h2=>?_
 obtain ⟨it,fp,tn,J,H1,rfl,I2,T,t0,hfp,hR⟩:=h2
 refine bU ?_
 refine wpAny_newFunctionEnv hhas.nocell (by intro y hy;cases hy) (λh3 hns hsb=>?_) hk
 dsimp only at hns hsb ⊢
 generalize hH2:s2.heap.push { cls:=.type "list",dict:=none,data:=.seq ([]:List Ag).toArray }=G2 at hns hsb ⊢
 have hC:G2.objs.size=s2.heap.objs.size+1:=by rw [←hH2,dP]
 have hlt:s2.heap.objs.size<G2.objs.size:=by lia
 have keep:∀b o,s2.heap.get? b=some o→h3.get? b=some o:=λb o e=>by
  rw [hsb.2 b (ax (bv (ah e) hlt))]
  exact ac _ (hH2▸ac _ e)
 have hD:h3.get? s2.heap.objs.size=some { cls:=.type "list",data:=.seq #[] 0 }:=by
  rw [hsb.2 _ (ax hlt)]
  exact ac _ (hH2▸ak _ rfl)
 have t3:=T.keep 0 _ _ t0 λb _ o e=>keep b o e
 have loop:=λtk=>go it fp tn J H1 s2 G2.objs.size h3 tk I2 T t3 hfp (λb hb=>let ⟨o,e,_⟩:=T.obj 0 _ t0 b hb;ah e) (λb hb=>let ⟨o,e,_⟩:=T.obj 0 _ t0 b hb;⟨o,e⟩) hR hlt keep hns hD
 exact codeAny_compStart_list (loop _) (T.self _ 0 _ _ _ t3 (loop _))
theorem uq (M:List Nat)(σ:St)(v:V):(zu M σ none).length=(zu M σ (some v)).length∧∀(k:Nat) z,(zu M σ none)[k]?=some (some z)→(zu M σ (some v))[k]?=some (some z):=⟨rfl,λk z ez=>by
 cases k with
 |zero=>cases ez
 |succ k=>exact ez⟩
end
section
variable {X:Cx}{elt iter:Expr}{x:Str}{px pos:Pos}{scope:Scope}{cl:List (Str×Aj)}{M:List Nat}{wi:TI}{te:TE}
theorem wq4 (hc:X.calm=true)(hclos:closureFor scope X.env=pure cl)(hcap:CapAll X.env cl)(hhas:HasAll cl scope.names)(hix:CapIx X scope cl M)(hk:scope.kind=.function)
  (hnames:∀y∈scope.names,y.2=.local→scope.names.lookup y.1=some .local) (hx:scope.names.lookup x=some .local) (hnd:(Yc X x M).Nodup) (hi:PI X (.Name x px) iter wi)
  (he:∀C s2 H2 fp pn,PE (zk X scope cl x M C s2 H2 fp pn) elt te) (hs:∀z,foldedSetIterable iter X.env z=pure z)
  {use:Option (Ag→Sem Unit)} {QQ:Ag→Ab→Prop} {pins:List (Aj×Obj)} {s:Ab} {σ:St} {H:Hp} {Q:VK} {ps:Pos} (I:Inv X pins σ H s) (h:wi σ H λJ H1=>qx1 J M te σ H1 Q)
  (fin:∀(C:Aj) (s2 s4:Ab) (H1 H2:Hp) (fp:List Aj),Inv X pins σ H1 s2→s2.heap.objs.size<C→(∀b∈fp,k7 X pins H1 b)→Inv (zk X scope cl x M C s2 H1 fp (X.pn++pins)) [] (zu M σ none) H2 s4→Q (.ref s2.heap.objs.size) H2 →
   compPost (model X.prog X.w) X.A X.xe use QQ (.ref s2.heap.objs.size) C (.ok .next) s4) :
  wpAny (model X.prog X.w) X.A (comprehension (.ListComp elt [⟨.Name x px,iter,[],0⟩] scope pos) scope X.env ps (newList []) false (eval iter X.env) use) QQ X.xe s:=by
 refine qqx hclos hhas hk hnames hi hs I h λit fp tn J H1 s2 C h3 tk I2 T t3 hfp hbl hob hR hlt keep hns hD=>?_
 obtain ⟨W,⟨m0,w0⟩,hW⟩:=hR s2.heap.objs.size (I2.hok.fresh (af _))
 have hxl:(relabel scope X.env).names.lookup x=some .local:=dv hx
 refine Qn (Y:=zk X scope cl x M C s2 H1 fp (X.pn++pins)) (V:=λi n H2=>∃ys,W i n ys H2) (Qd:=Q (.ref s2.heap.objs.size)) (REST:=appS elt (.ref s2.heap.objs.size) (compEnvC scope cl C X.env) _) T hc (λ_ _ z=>z) (compTurn_list1 ..) rfl rfl (xk (i:=0) hnd rfl (.inl hxl) (.inr hxl)) (qqr hcap I2 hlt hfp hbl) (λi n H2 ⟨ys,w⟩=>?_) (λH2 s4 J4 q=>fin C s2 s4 H1 H2 fp I2 hlt hfp J4 q) (I2.comp hcap hhas hix hk hlt keep hns hD hfp hob) ⟨[],w0⟩ t3 λb hb=>by rw [wx (ax (hbl b hb))];exact (hfp b hb).1
 obtain ⟨hp,hz,hcase⟩:=hW i n ys H2 w
 refine hcase.imp id λ⟨hgo,hy⟩=>⟨hgo,λv H3 yl=>⟨λσ4 H4=>σ4=zu M σ (some v)∧H3=H4,⟨rfl,rfl⟩,λ_ _ e=>?_⟩⟩
 obtain ⟨rfl,rfl⟩:=e
 refine ⟨uq M σ v,λpins' s' J=>?_⟩
 refine aP (qzq (N:=λzs H5=>∃m',m'<n∧W (i+1) m' zs H5) (λ_ _ z=>z) (he _ _ _ _ _) J hz (hy v H3 yl)) (λr s5 ⟨e,H5,J5,zs,m',hm,w'⟩=>⟨e,H5,J5,m',hm,zs,w'⟩) λ_ _ z=>z
theorem jg (hc:X.calm=true)(hclos:closureFor scope X.env=pure cl)(hcap:CapAll X.env cl)(hhas:HasAll cl scope.names)(hix:CapIx X scope cl M)(hk:scope.kind=.function)
  (hnames:∀y∈scope.names,y.2=.local→scope.names.lookup y.1=some .local) (hx:scope.names.lookup x=some .local) (hnd:(Yc X x M).Nodup) (hi:PI X (.Name x px) iter wi)
  (he:∀C s2 H2 fp pn,PE (zk X scope cl x M C s2 H2 fp pn) elt te) (hs:∀z,foldedSetIterable iter X.env z=pure z:=by intro _;rfl) :
  PE X (.ListComp elt [⟨.Name x px,iter,[],0⟩] scope pos) (tComp M wi te):=by
 intro pins s σ H Q I h
 rw [eval_ListComp]
 refine wq4 hc hclos hcap hhas hix hk hnames hx hnd hi he hs (use:=none) I h λC s2 s4 H1 H2 fp I2 hlt hfp J4 hq=>?_
 obtain ⟨m,hn,_⟩:=J4.loc
 exact ⟨m,hn,λh' hs'=>⟨.ref s2.heap.objs.size,H2,I2.uncomp (bC hlt) hfp J4 hs',rfl,hq⟩⟩
theorem Inv.but {pins:List (Aj×Obj)}{σ:St}{H:Hp}{s:Ab}{h':Heap}{C:Aj}(I:Inv X pins σ H s)(hn:H C=none)(h1:X.s₀.heap.objs.size≤C)(h2:C≠X.env.locals)(h3:∀y c,X.env.cells.lookup y=some c→c≠C)(h4:∀p∈X.pn++pins,p.1≠C)
  (hs:Heap.SameBut C s.heap h'):Inv X pins σ H { s with heap:=h' }:=by
 have st:∀b o,b≠C→s.heap.get? b=some o→h'.get? b=some o:=λb o n e=>(hs.2 b n).trans e
 have nc:∀b,b∉[C]→b≠C:=λb z e=>z (by rw [e];exact .head _)
 refine I.call' (s':={ s with heap:=h' }) (ch:=[C]) rfl ⟨λb o e n _ nx=>st b o (nc b nx) e,λb o e n _ nx=>⟨o.slots,st b o (nc b nx) e⟩,λb o e n _=>n,λb o e nx=>⟨o,st b o (nc b nx) e⟩,λ_ _ e=>e,λ_ _ _ e=>e,λb ps e=>⟨#[],by rw [e];simp⟩⟩ ?_ I.bare λb hb=>?_
 ·intro b u hu
  refine (I.hok b u hu).stay (λc v hc e=>st c v ?_ e) (λ_ z=>z) λ_ _ z=>z
  rcases hc with rfl|hc
  ·intro z;rw [z,hn] at hu;cases hu
  ·intro z;rw [z,hn] at hc;cases hc
 ·rw [aC.mp hb]
  exact ⟨.inr h1,h2,h3,h4⟩
end
theorem v9 {M:List Nat}{lo:Int}{n:Nat}{te:TE}{σ:St}{H:Hp}{Q:VK}(f:Nat→V)(hn:n≤1000000)(he:∀(i:Nat) (H':Hp) (R:VK),i<n→Same H H'→R (f i) H'→te (zu M σ (some (.int (lo+i)))) H' R)
  (k:∀p,H p=none→Q (.ref p) (upd H p (.lst ((List.range n).map f)))):qx1 (Itr lo n) M te σ H Q:=by
 intro p np
 refine ⟨λi m ys H2=>i≤n∧m=n-i∧ys=(List.range i).map f∧H2=upd H p (.lst ys),⟨n,az _,rfl,rfl,rfl⟩,?_⟩
 rintro i m ys H2 ⟨hi,rfl,rfl,rfl⟩
 refine ⟨qb,?_,?_⟩
 ·rw [ae,aG]
  have:(1000000:Nat)<sizeLine:=by decide
  lia
 ·by_cases hlt:i<n
  ·refine .inr ⟨hlt,?_⟩
   rintro v H3 ⟨rfl,rfl⟩
   refine he i (upd H p (.lst ((List.range i).map f))) _ hlt (Same.upd np) ⟨qb,n-(i+1),by lia,by lia,rfl,?_,?_⟩
   ·rw [bR,aR]
    rfl
   ·rw [jb]
  ·have:i=n:=by lia
   subst this
   exact .inl ⟨af _,k p np⟩
theorem qj1 {K:Aa}{M:List Nat}{a:Aj}{xs:List V}{te:TE}{σ:St}{H:Hp}{Q:VK}(f:V→V)(hS:SqL K H a xs)(hn:xs.length≤1000000)(he:∀(x:V) (H':Hp) (R:VK),x∈xs→Same H H'→R (f x) H'→te (zu M σ (some x)) H' R)
  (k:∀p,H p=none→Q (.ref p) (upd H p (.lst (xs.map f)))):qx1 (Itl K a) M te σ H Q:=by
 intro p np
 refine ⟨λi m ys H2=>i≤xs.length∧m=xs.length-i∧ys=(xs.take i).map f∧H2=upd H p (.lst ys),⟨xs.length,az _,rfl,rfl,rfl⟩,?_⟩
 rintro i m ys H2 ⟨hi,rfl,rfl,rfl⟩
 have hS':SqL K (upd H p (.lst ((xs.take i).map f))) a xs:=Same.sql (Same.upd np) hS
 refine ⟨qb,?_,?_⟩
 ·rw [ae,ck]
  have:(1000000:Nat)<sizeLine:=by decide
  lia
 ·by_cases hlt:i<xs.length
  ·have hx:xs[i]?=some xs[i]:=au hlt
   refine .inr ⟨⟨xs,_,hS',hx⟩,?_⟩
   rintro v H3 ⟨rfl,hv⟩
   have e:=hv xs hS'
   rw [hx] at e
   have e':=ar e
   subst e'
   refine he _ _ _ (cJ hlt) (Same.upd np) ⟨qb,xs.length-(i+1),by lia,by lia,rfl,?_,?_⟩
   ·rw [List.take_succ,hx,aR]
    rfl
   ·rw [jb]
  ·have hi':i=xs.length:=by lia
   subst hi'
   refine .inl ⟨⟨xs,hS',af _⟩,?_⟩
   rw [ei]
   exact k p np
end L2
namespace L2
open PySem PySem.Spec PyProof.Rows
section
variable {X:Cx}
theorem qqg {pins:List (Aj×Obj)}{σ:St}{H:Hp}{s:Ab}{p:Aj}{ns:List Int}(I:Inv X pins σ H s)(hS:SqL X.K H p (ns.map V.int)) :
  ∃ts:Array (Int×Tok),s.heap.IsList p (intItems ts)∧ns=ts.toList.map (·.1):=by
 obtain ⟨its,rv,⟨o,n,e1,e2,e3,e4⟩,hz⟩:=I.list hS
 have hi:=qvc rv
 obtain ⟨ts,ht⟩:=hi.allInts.items
 refine ⟨ts,⟨o,e1,e2,n,by rw [←ht];exact e4⟩,?_⟩
 have a1:=hi.numsOf
 have a2:=nums_intItems (xs:=ts)
 rw [←ht] at a2
 exact a1.symm.trans a2
theorem Jx (hc:X.calm=true):vp X (.builtin "min") (λxs H Q=>∃(p:Aj) (ns:List Int),xs=[.ref p]∧SqL X.K H p (ns.map V.int)∧0<ns.length∧∀m,m∈ns→(∀a∈ns,m≤a)→Q (.int m) H):=by
 intro pins s σ H xs us Q I r h
 obtain ⟨p,ns,rfl,hS,hne,q⟩:=h
 obtain ⟨u,rfl,ru⟩:=jm r
 cases (show u=Value.ref p from ru)
 obtain ⟨ts,hl,he⟩:=qqg I hS
 have hsz:ts.size=ns.length:=by rw [he,ae,aS]
 refine min_intList (I.ok.hd hc) hl (by lia) λv h' tk hv hk=>?_
 obtain ⟨t,rfl⟩:=intItems_at hv
 obtain ⟨b1,b2⟩:=argBest_lt (numAt ts) (ts.size-1)
 refine ⟨.int _,H,I.kept hk,⟨t,rfl⟩,q _ ?_ λa ha=>?_⟩
 ·rw [he,numAt_eq]
  refine getD_mem ?_
  rw [←he,←hsz]
  lia
 ·rw [he] at ha
  obtain ⟨j,hj,rfl⟩:=mem_getD ha
  rw [←he,←hsz] at hj
  rw [←numAt_eq]
  exact b2 j (by lia)
theorem yn (hc:X.calm=true):vp X (.builtin "max") (λxs H Q=>∃(p:Aj) (ns:List Int),xs=[.ref p]∧SqL X.K H p (ns.map V.int)∧0<ns.length∧∀m,m∈ns→(∀a∈ns,a≤m)→Q (.int m) H):=by
 intro pins s σ H xs us Q I r h
 obtain ⟨p,ns,rfl,hS,hne,q⟩:=h
 obtain ⟨u,rfl,ru⟩:=jm r
 cases (show u=Value.ref p from ru)
 obtain ⟨ts,hl,he⟩:=qqg I hS
 have hsz:ts.size=ns.length:=by rw [he,ae,aS]
 refine max_intList (I.ok.hd hc) hl (by lia) λv h' tk hv hk=>?_
 obtain ⟨t,rfl⟩:=intItems_at hv
 obtain ⟨b1,b2⟩:=argBest_gt (numAt ts) (ts.size-1)
 refine ⟨.int _,H,I.kept hk,⟨t,rfl⟩,q _ ?_ λa ha=>?_⟩
 ·rw [he,numAt_eq]
  refine getD_mem ?_
  rw [←he,←hsz]
  lia
 ·rw [he] at ha
  obtain ⟨j,hj,rfl⟩:=mem_getD ha
  rw [←he,←hsz] at hj
  rw [←numAt_eq]
  exact b2 j (by lia)
theorem Zx:∀ {bs:List Bool} {its:List Ag},Vals (bs.map V.bl) its→its=bs.map Value.bool
 |[],_,.nil=>rfl
 |b::bs,_,.cons r t=>by
  have e:_=Value.bool b:=r
  rw [aD,←Zx t,e]
theorem qjr (bs:List Bool):(List.range bs.length).all (λi=>bs.getD i true)=bs.all id:=by
 rw [bQ,cm,cm]
 constructor
 ·intro h b hb
  obtain ⟨i,hi,rfl⟩:=dG hb
  have:=h i (aL.mpr hi)
  rw [al,au hi] at this
  exact this
 ·intro h i hi
  have hi':=aL.mp hi
  rw [al,au hi']
  exact h _ (cJ hi')
theorem Jy (hc:X.calm=true):vp X (.builtin "all") (λxs H Q=>∃(p:Aj) (bs:List Bool),xs=[.ref p]∧SqL X.K H p (bs.map V.bl)∧Q (.bl (bs.all id)) H):=by
 intro pins s σ H xs us Q I r h
 obtain ⟨p,bs,rfl,hS,q⟩:=h
 obtain ⟨u,rfl,ru⟩:=jm r
 cases (show u=Value.ref p from ru)
 obtain ⟨its,rv,⟨o,n,e1,e2,e3,e4⟩,hz⟩:=I.list hS
 have hits:=Zx rv
 have hl:s.heap.IsList p its.toArray:=⟨o,e1,e2,n,e4⟩
 have hlt:p<s.heap.objs.size:=ah e1
 refine call_all_walk (dX hl ?_)
 refine ⟨s.heap.objs.size,_,_,_,_,_,λi=>bs.getD i true,rfl,Walks.list (A:=X.A.in1) (I.ok.hd hc) _ p (ax hlt) its.toArray,⟨⟨_,ak _ rfl,rfl,rfl⟩,hl.push _⟩,λi v s' Q' E' hP hQ=>?_,λh' tk hk=>?_⟩
 ·have hv:its[i]?=some v:=by simpa using hP
  rw [hits,aM] at hv
  cases hb:bs[i]? with
  |none=>rw [hb] at hv;cases hv
  |some b =>
   rw [hb] at hv
   have ev:Value.bool b=v:=ar hv
   subst ev
   refine bT ?_
   have e2:bs.getD i true=b:=by rw [al,hb];rfl
   have hQ':Q' (bs.getD i true) s':=hQ
   rw [e2] at hQ'
   exact hQ'
 ·have hlen:its.toArray.size=bs.length:=by rw [hits];simp
  rw [hlen,qjr]
  refine ⟨.bl _,H,I.kept λb ob e=>hk b ob (λhm=>?_) (ac _ e),rfl,q⟩
  have z:b=s.heap.objs.size:=by simpa using hm
  exact aW _ (z▸ah e)
end
structure MCal (P:Ac)(w:Ah)(K:Aa)(mg:Str→Option Ag)(base:Heap)(C:Aj)(m:Str)(k:Nat)(sp:Sp):Prop where
 ex:∃f fd ps,Meth K C m f∧FnOk P w K mg base (CXE P w) k f fd ps sp∧Binds K fd ps []
structure CCal (P:Ac)(w:Ah)(K:Aa)(mg:Str→Option Ag)(base:Heap)(x:Str)(C:Aj)(k:Nat)(sp:Sp):Prop where
 ex:∃f fd ps,mg x=some (.ref C)∧Mk K C f∧FnOk P w K mg base (CXE P w) k f fd ps sp∧Binds K fd ps []
structure MethIn (K:Aa)(C:Aj)(m qual:Str)(st:Stmt):Prop where
 ex:∃f fd,PySem.W.findIn K (.ref C) m=some (some (.ref f))∧PySem.W.isFn K (.ref f)=true∧Fun K m qual st f fd
theorem wxh {K:Aa}{C:Aj}{m qual:Str}{st:Stmt}{f:Aj}{oc:Ag}{od an:Option Aj}{osl:Array (Option Ag)}{kV doc pm cdv ct:Ag}(a:PySem.W.findIn K (.ref C) m=some (some (.ref f)))(i:PySem.W.isFn K (.ref f)=true)
  (l:K.lookup f=some ⟨oc,od,.func (PySem.W.fnOf m qual (z0 st) (zh st) (wz st) .none kV doc pm an cdv ct),osl⟩) (c:PySem.W.codeIn K cdv qual=true) (k:PySem.W.keepIn K (.ref f)=true):MethIn K C m qual st:=⟨_,_,a,i,wqg l c k⟩
def xf (x qual:Str)(st:Stmt)(ps:List Str):Prop:=∀(kV doc pm:Ag) (an:Option Aj) (cdv ct:Ag) (us:List Ag),us.length=ps.length→bindArgs (PySem.W.fnOf x qual (z0 st) (zh st) (wz st) .none kV doc pm an cdv ct) ⟨us,[]⟩=pure (ps.zip us)
section
variable {P:Ac}{w:Ah}{K:Aa}{mg:Str→Option Ag}{base:Heap}{C:Aj}
theorem MethIn.cal {m qual:Str}{st:Stmt}{ps:List Str}{k:Nat}{sp:Sp}(d:MethIn K C m qual st)(b:xf m qual st ps)(ok:∀f fd,Fun K m qual st f fd→FnOk P w K mg base (CXE P w) k f fd ps sp):MCal P w K mg base C m k sp:=by
 obtain ⟨f,fd,a,i,F⟩:=d.ex
 exact ⟨f,fd,ps,⟨a,i,F.kp⟩,ok f fd F,F.binds b⟩
theorem MethIn.ccal {x qual:Str}{st:Stmt}{ps:List Str}{k:Nat}{sp:Sp}(d:MethIn K C "__init__" qual st)(hm:mg x=some (.ref C))(mk:PySem.W.makesIn K C=true)(kc:PySem.W.keepIn K (.ref C)=true)(b:xf "__init__" qual st ps)
  (ok:∀f fd,Fun K "__init__" qual st f fd→FnOk P w K mg base (CXE P w) k f fd ps sp):CCal P w K mg base x C k sp:=by
 obtain ⟨f,fd,a,i,F⟩:=d.ex
 exact ⟨f,fd,ps,hm,⟨mk,a,i,kc⟩,ok f fd F,F.binds b⟩
end
section
variable {X:Cx}{C:Aj}{x m:Str}{k:Nat}{sp:Sp}{E:St→XK}{p pos apos:Pos}{e o:Expr}{es:List Expr}{ta:TE}{t:TA}
theorem k8 (c:CCal X.prog X.w X.K X.mg X.base x C k sp)(hr:Room (k+1) X.A)(hg:Gl X x)(hx:v6 X E)
  (ha:PA X (e::es) t) (hdb:(x==("__debug__" : Str))=false:=by decide) (he:starEach (e::es) X.env=(false,eval e X.env)::starEach es X.env:=by rfl) (hpl:(backTo pos (starEach es X.env)).any (·.1)=false:=by rfl) :
  PE X (.Call (.Name x p) (e::es) [] pos) (qvp C sp E t):=by
 obtain ⟨f,fd,ps,hm,M,F,b⟩:=c.ex
 exact wqn M F hr hg hm b hx ha hdb he hpl
theorem w8 {pl:Sem Bool}(he:PE X o ta)(cl:Cls X.K C)(c:MCal X.prog X.w X.K X.mg X.base C m k sp)(hr:Room k X.A)(hx:v6 X E)(ha:PA X (e::es) t)
  (hst:starEach (e::es) X.env=(false,eval e X.env)::starEach es X.env:=by rfl) (hpl:(backTo pos (starEach es X.env)).any (·.1)=false:=by rfl)
  (ht:eval (.Call (.Attribute o m apos) (e::es) [] pos) X.env=(do
   let ov ←eval o X.env
   standAt apos.atName
   let (f,first) ←holding [ov] (getMethod ov m pl)
   callWith pos f first (backTo pos (starEach (e::es) X.env)) (backToKw pos (keywordEach [] X.env))):=by rfl) :
  PE X (.Call (.Attribute o m apos) (e::es) [] pos) (qw2 C m sp E ta t):=by
 obtain ⟨f,fd,ps,hm,F,b⟩:=c.ex
 exact quu he cl hm F hr b hx ha hst hpl ht
theorem xp {pl:Sem Bool}(he:PE X o ta)(cl:Cls X.K C)(c:MCal X.prog X.w X.K X.mg X.base C m k sp)(hr:Room k X.A)(hx:v6 X E)
  (ht:eval (.Call (.Attribute o m apos) [] [] pos) X.env=(do
   let ov ←eval o X.env
   standAt apos.atName
   let (f,first) ←holding [ov] (getMethod ov m pl)
   callWith pos f first (backTo pos (starEach [] X.env)) (backToKw pos (keywordEach [] X.env))):=by rfl) :
  PE X (.Call (.Attribute o m apos) [] [] pos) (qw2 C m sp E ta uy):=by
 obtain ⟨f,fd,ps,hm,F,b⟩:=c.ex
 exact qj0 he cl hm F hr b hx ht
end
end L2
namespace L2
open PySem
def hAt (hs:List Int)(k:Int):Int:=hs.getD k.toNat 0
def kF (hs:List Int)(t b:Int):Int:=if (hs.length:Int)-1-1<t/b then (hs.length:Int)-1-1 else t/b
def vg (hs:List Int)(t b:Int):Int:=hAt hs (kF hs t b)*b+(hAt hs (kF hs t b+1)-hAt hs (kF hs t b))*(t-kF hs t b*b)
theorem wq8 {hs:List Int}{t b:Int}(hl:2≤hs.length)(hb:1≤b)(h0:0≤t):0≤kF hs t b∧kF hs t b<(hs.length:Int)-1:=by
 have h:=eJ h0 (show (0:Int)≤b by lia)
 unfold kF
 split <;> lia
theorem qy3 {hs:List Int}{t b c:Int}(hc:1≤c):kF hs (t*c) (b*c)=kF hs t b:=by
 unfold kF
 rw [cA _ _ (show 0<c by lia)]
theorem qzk {hs:List Int}{t b c:Int}(hc:1≤c):vg hs (t*c) (b*c)=vg hs t b*c:=by
 unfold vg
 rw [qy3 hc]
 generalize hAt hs (kF hs t b)=u
 generalize hAt hs (kF hs t b+1)=v
 generalize kF hs t b=k
 grind
theorem div_in {k t b:Int}(hb:1≤b)(h1:k*b≤t)(h2:t<(k+1)*b):t/b=k:=by
 have a1:k≤t/b:=(Int.le_ediv_iff_mul_le (by lia)).mpr h1
 have a2:t/b<k+1:=(Int.ediv_lt_iff_lt_mul (by lia)).mpr h2
 lia
theorem qxn {hs:List Int}{k t b:Int}(hk:0≤k)(hk2:k<(hs.length:Int)-1)(hb:1≤b)(h1:k*b≤t)(h2:t≤(k+1)*b) :
  vg hs t b=hAt hs k*b+(hAt hs (k+1)-hAt hs k)*(t-k*b):=by
 by_cases hlt:t<(k+1)*b
 ·have e:=div_in hb h1 hlt
  have ek:kF hs t b=k:=by
   unfold kF
   rw [e]
   split <;> lia
  unfold vg
  rw [ek]
 ·have et:t=(k+1)*b:=by lia
  have e:t/b=k+1:=by
   rw [et]
   exact Int.mul_ediv_cancel _ (by lia)
  by_cases hn:(hs.length:Int)-1-1<k+1
  ·have ek:kF hs t b=k:=by
    unfold kF
    rw [e,am hn]
    lia
   unfold vg
   rw [ek]
  ·have ek:kF hs t b=k+1:=by
    unfold kF
    rw [e,aj hn]
   unfold vg
   rw [ek,et]
   generalize hAt hs k=u
   generalize hAt hs (k+1)=v
   generalize hAt hs (k+1+1)=z
   grind
def j8 (hs:List Int)(t b:Int):Int×Int:=wu (vg hs t b) b
theorem qqc {hs:List Int}{t b:Int}(hb:1≤b):j8 hs (wu t b).1 (wu t b).2=j8 hs t b:=by
 unfold j8
 have hg:=zt (t:=t) hb
 have e1:(wu t b).1*gOf t b=t:=by rw [dJ];exact Js
 have e2:(wu t b).2*gOf t b=b:=by rw [dJ];exact uh hb
 have h:=qzk (hs:=hs) (t:=(wu t b).1) (b:=(wu t b).2) hg
 rw [e1,e2] at h
 rw [h]
 conv=>rhs;rw [←e2]
 rw [e2]
 have:=wx0 (t:=vg hs (wu t b).1 (wu t b).2) (b:=(wu t b).2) (ur hb) hg
 rw [e2] at this
 exact this.symm
theorem Wp {t b:Int}(hb:1≤b):(wu t b).1<0↔t<0:=by
 have hg:=zt (t:=t) hb
 have e1:gOf t b*(wu t b).1=t:=Js
 constructor
 ·intro h
  have:=cG h (show 0<gOf t b by lia)
  rw [e1,Int.mul_zero] at this
  exact this
 ·intro h
  rcases bW (wu t b).1 0 with z|z
  ·exact z
  ·have:=bg z (show 0≤gOf t b by lia)
   rw [e1,Int.mul_zero] at this
   lia
theorem qvk {t b n:Int}(hb:1≤b):n*(wu t b).2<(wu t b).1↔n*b<t:=by
 have hg:=zt (t:=t) hb
 have e1:gOf t b*(wu t b).1=t:=Js
 have e2:gOf t b*(wu t b).2=b:=uh hb
 have e3:gOf t b*(n*(wu t b).2)=n*b:=by
  generalize gOf t b=g at *
  generalize (wu t b).2=y at *
  grind
 constructor
 ·intro h
  have:=cG h (show 0<gOf t b by lia)
  rw [e1,e3] at this
  exact this
 ·intro h
  rcases bW (n*(wu t b).2) (wu t b).1 with z|z
  ·exact z
  ·have:=bg z (show 0≤gOf t b by lia)
   rw [e1,e3] at this
   lia
theorem Jr {N b:Int}(hb:1≤b):b%(wu N b).2=0∧(wu N b).1*(b/(wu N b).2)=N:=by
 have hy:=ur (t:=N) hb
 have cr:=qjb (t:=N) hb
 have hd:(wu N b).2∣b:=⟨gOf N b,by rw [dJ];exact (uh hb).symm⟩
 refine ⟨Int.emod_eq_zero_of_dvd hd,?_⟩
 have e:=du hd
 generalize b/(wu N b).2=q at *
 generalize (wu N b).1=x at *
 generalize (wu N b).2=y at *
 have:y*(x*q-N)=0:=by grind
 rcases Int.mul_eq_zero.mp this with h|h <;> lia
def qk4 (hs:List Int)(t b:Int):Int:=if t/b*b=t then hAt hs (t/b)*b else hAt hs (t/b)*b+(hAt hs (t/b+1)-hAt hs (t/b))*(t-t/b*b)
theorem wwz {hs:List Int}{t b:Int}(hl:2≤hs.length)(hb:1≤b)(h0:0≤t)(h1:t≤((hs.length:Int)-1)*b):qk4 hs t b=vg hs t b:=by
 have k0:=eJ h0 (show (0:Int)≤b by lia)
 have k1:t/b*b≤t:=eK t (by lia)
 have k2:t<(t/b+1)*b:=by
  have:=dC t (show 0<b by lia)
  exact this
 unfold qk4
 by_cases hlt:t/b<(hs.length:Int)-1
 ·rw [qxn k0 hlt hb k1 (Int.le_of_lt k2)]
  split
  ·next e=>rw [e];simp
  ·rfl
 ·have ge:(hs.length:Int)-1≤t/b:=by lia
  have m1:=aI ge (show 0≤b by lia)
  have et:t/b*b=t:=by lia
  have ek:t/b=(hs.length:Int)-1:=by
   have:t/b*b=((hs.length:Int)-1)*b:=by lia
   exact Int.eq_of_mul_eq_mul_right (by lia) this
  rw [am et]
  have et2:t=((hs.length:Int)-1)*b:=by rw [←ek];exact et.symm
  rw [qxn (k:=(hs.length:Int)-1-1) (by lia) (by lia) hb (by rw [et2];exact aI (by lia) (by lia)) (by rw [et2];exact aI (by lia) (by lia)),ek]
  have e5:(hs.length:Int)-1-1+1=(hs.length:Int)-1:=by lia
  rw [e5,et2]
  generalize hAt hs ((hs.length:Int)-1)=u
  generalize hAt hs ((hs.length:Int)-1-1)=v
  generalize (hs.length:Int)-1=n
  grind
theorem qub {u v b d:Int}(hb:0≤d)(hd:d≤b):(if v<u then v else u)*b≤u*b+(v-u)*d∧u*b+(v-u)*d≤(if v>u then v else u)*b:=by
 by_cases h:v<u
 ·rw [am h,aj (by lia)]
  have a1:=bg hd (show 0≤u-v by lia)
  have a2:=cZ (show 0≤u-v by lia) hb
  constructor <;> grind
 ·rw [aj h]
  have a1:=bg hd (show 0≤v-u by lia)
  have a2:=cZ (show 0≤v-u by lia) hb
  by_cases h2:v>u
  ·rw [am h2]
   constructor <;> grind
  ·rw [aj h2]
   have:v=u:=by lia
   subst this
   constructor <;> grind
end L2
namespace L2
open PySem PySem.Spec PyProof.Rows
def qvn (J:It)(M:List Nat)(tt:TT)(te:TE)(σ:St)(H1:Hp)(Q:VK):Prop:=∀p,H1 p=none→∃W:Nat→Nat→List V→Hp→Prop,(∃m,W 0 m [] (upd H1 p (.lst []))) ∧
 ∀i m ys H2,W i m ys H2→H2 p=some (.lst ys)∧ys.length<sizeLine∧((J.stop i H2∧Q (.ref p) H2)∨(J.go i H2∧∀v H3,J.yld i H2 v H3 →
  tt (zu M σ (some v)) H3 λb H4=>if b=true then te (zu M σ (some v)) H4 (λy H5=>H5 p=some (.lst ys)∧∃m',m'<m∧W (i+1) m' (ys++[y]) (upd H5 p (.lst (ys++[y])))) else H4 p=some (.lst ys)∧∃m',m'<m∧W (i+1) m' ys H4))
def tCompI (M:List Nat)(wi:TI)(tt:TT)(te:TE):TE:=λσ H Q=>wi σ H λJ H1=>qvn J M tt te σ H1 Q
section
variable {X:Cx}{elt iter cd:Expr}{x:Str}{px pos:Pos}{scope:Scope}{cl:List (Str×Aj)}{M:List Nat}{wi:TI}{tt:TT}{te:TE}
theorem qjp (hc:X.calm=true)(hclos:closureFor scope X.env=pure cl)(hcap:CapAll X.env cl)(hhas:HasAll cl scope.names)(hix:CapIx X scope cl M)(hk:scope.kind=.function)
  (hnames:∀y∈scope.names,y.2=.local→scope.names.lookup y.1=some .local) (hx:scope.names.lookup x=some .local) (hnd:(Yc X x M).Nodup) (hi:PI X (.Name x px) iter wi)
  (ht:∀C s2 H2 fp pn,PT (zk X scope cl x M C s2 H2 fp pn) cd tt) (he:∀C s2 H2 fp pn,PE (zk X scope cl x M C s2 H2 fp pn) elt te) (hs:∀z,foldedSetIterable iter X.env z=pure z)
  {use:Option (Ag→Sem Unit)} {QQ:Ag→Ab→Prop} {pins:List (Aj×Obj)} {s:Ab} {σ:St} {H:Hp} {Q:VK} {ps:Pos} (I:Inv X pins σ H s) (h:wi σ H λJ H1=>qvn J M tt te σ H1 Q)
  (fin:∀(C:Aj) (s2 s4:Ab) (H1 H2:Hp) (fp:List Aj),Inv X pins σ H1 s2→s2.heap.objs.size<C→(∀b∈fp,k7 X pins H1 b)→Inv (zk X scope cl x M C s2 H1 fp (X.pn++pins)) [] (zu M σ none) H2 s4→Q (.ref s2.heap.objs.size) H2 →
   compPost (model X.prog X.w) X.A X.xe use QQ (.ref s2.heap.objs.size) C (.ok .next) s4) :
  wpAny (model X.prog X.w) X.A (comprehension (.ListComp elt [⟨.Name x px,iter,[cd],0⟩] scope pos) scope X.env ps (newList []) false (eval iter X.env) use) QQ X.xe s:=by
 refine qqx hclos hhas hk hnames hi hs I h λit fp tn J H1 s2 C h3 tk I2 T t3 hfp hbl hob hR hlt keep hns hD=>?_
 obtain ⟨W,⟨m0,w0⟩,hW⟩:=hR s2.heap.objs.size (I2.hok.fresh (af _))
 have hxl:(relabel scope X.env).names.lookup x=some .local:=dv hx
 refine Qn (Y:=zk X scope cl x M C s2 H1 fp (X.pn++pins)) (V:=λi n H2=>∃ys,W i n ys H2) (Qd:=Q (.ref s2.heap.objs.size)) (REST:=tstS cd (compEnvC scope cl C X.env) (appS elt (.ref s2.heap.objs.size) (compEnvC scope cl C X.env) _) (again _)) T hc (λ_ _ z=>z) (compTurn_list ..) rfl rfl (xk (i:=0) hnd rfl (.inl hxl) (.inr hxl)) (qqr hcap I2 hlt hfp hbl) (λi n H2 ⟨ys,w⟩=>?_) (λH2 s4 J4 q=>fin C s2 s4 H1 H2 fp I2 hlt hfp J4 q) (I2.comp hcap hhas hix hk hlt keep hns hD hfp hob) ⟨[],w0⟩ t3 λb hb=>by rw [wx (ax (hbl b hb))];exact (hfp b hb).1
 obtain ⟨hp,hz,hcase⟩:=hW i n ys H2 w
 refine hcase.imp id λ⟨hgo,hy⟩=>⟨hgo,λv H3 yl=>⟨λσ4 H4=>σ4=zu M σ (some v)∧H3=H4,⟨rfl,rfl⟩,λ_ _ e=>?_⟩⟩
 obtain ⟨rfl,rfl⟩:=e
 refine ⟨uq M σ v,λpins' s' J=>?_⟩
 exact wqc (ht _ _ _ _ _) J (hy v H3 yl) (λs6 H6 J6 h6=>aP (qzq (N:=λzs H5=>∃m',m'<n∧W (i+1) m' zs H5) (λ_ _ z=>z) (he _ _ _ _ _) J6 hz h6) (λr s5 ⟨e,H5,J5,zs,m',hm,w'⟩=>⟨e,H5,J5,m',hm,zs,w'⟩) λ_ _ z=>z)
  λs6 H6 J6 ⟨_,m',hm,w'⟩=>ag ⟨rfl,H6,J6,m',hm,ys,w'⟩
theorem quk (hc:X.calm=true)(hclos:closureFor scope X.env=pure cl)(hcap:CapAll X.env cl)(hhas:HasAll cl scope.names)(hix:CapIx X scope cl M)(hk:scope.kind=.function)
  (hnames:∀y∈scope.names,y.2=.local→scope.names.lookup y.1=some .local) (hx:scope.names.lookup x=some .local) (hnd:(Yc X x M).Nodup) (hi:PI X (.Name x px) iter wi)
  (ht:∀C s2 H2 fp pn,PT (zk X scope cl x M C s2 H2 fp pn) cd tt) (he:∀C s2 H2 fp pn,PE (zk X scope cl x M C s2 H2 fp pn) elt te) (hs:∀z,foldedSetIterable iter X.env z=pure z:=by intro _;rfl) :
  PE X (.ListComp elt [⟨.Name x px,iter,[cd],0⟩] scope pos) (tCompI M wi tt te):=by
 intro pins s σ H Q I h
 rw [eval_ListComp]
 refine qjp hc hclos hcap hhas hix hk hnames hx hnd hi ht he hs (use:=none) I h λC s2 s4 H1 H2 fp I2 hlt hfp J4 hq=>?_
 obtain ⟨m,hn,_⟩:=J4.loc
 exact ⟨m,hn,λh' hs'=>⟨.ref s2.heap.objs.size,H2,I2.uncomp (bC hlt) hfp J4 hs',rfl,hq⟩⟩
end
end L2
namespace L2
open PySem PySem.Spec PyProof.Rows
structure FunD (K:Aa)(x:Str)(st:Stmt)(f:Aj)(fd:Ad):Prop where
 ex:∃(oc:Ag) (od:Option Aj) (T:Aj) (kV doc pm:Ag) (an:Option Aj) (cdv ct:Ag) (osl:Array (Option Ag)),
  fd=PySem.W.fnOf x x (z0 st) (zh st) (wz st) (.ref T) kV doc pm an cdv ct∧K.lookup f=some ⟨oc,od,.func fd,osl⟩∧PySem.W.codeIn K cdv x=true∧∃o n,K.lookup T=some o∧o.data=.seq #[.none] n
 kp:PySem.W.keepIn K (.ref f)=true
structure DefInD (K:Aa)(x:Str)(st:Stmt):Prop where
 ex:∃f fd,PySem.W.nsIn K mainGlobals x=some (some (.ref f))∧FunD K x st f fd
section
variable {P:Ac}{w:Ah}{K:Aa}{mg:Str→Option Ag}{base:Heap}
theorem wxw {x:Str}{st:Stmt}{f T:Aj}{oc:Ag}{od an:Option Aj}{osl:Array (Option Ag)}{kV doc pm cdv ct:Ag}(a:PySem.W.nsIn K mainGlobals x=some (some (.ref f)))
  (l:K.lookup f=some ⟨oc,od,.func (PySem.W.fnOf x x (z0 st) (zh st) (wz st) (.ref T) kV doc pm an cdv ct),osl⟩) (c:PySem.W.codeIn K cdv x=true) (k:PySem.W.keepIn K (.ref f)=true) {tc:Ag} {td:Option Aj} {tn:Nat} {ts:Array (Option Ag)} (t:K.lookup T=some ⟨tc,td,.seq #[.none] tn,ts⟩):DefInD K x st:=⟨_,_,a,⟨oc,od,T,kV,doc,pm,an,cdv,ct,osl,rfl,l,c,_,_,t,rfl⟩,k⟩
theorem FunD.okX {x:Str}{st:Stmt}{f:Aj}{fd:Ad}{N ps:List Str}{k:Nat}{sp:Sp}(F:FunD K x st f fd)(S:FnScope N ps (wz st))(len:∀vs H Q E,sp vs H Q E→vs.length=ps.length)
  (body:∀(cdv:Ag) (A:Ae) (outer:List Env) (s:Ab) (H:Hp) (vs:List V) (Q:VK) (E:XK),Room k (A.deeper (envOfC x (wz st) s.heap.objs.size f cdv))→sp vs H Q E →
   ∃t,PSs (qwm (CXE P w) P w K mg base N x (wz st) f cdv A outer s H E) (zh st) t∧t { nx:=λ_ H'=>Q .non H',rt:=Q } (Qg N vs) H):FnOk P w K mg base (CXE P w) (k+1) f fd ps sp:=by
 obtain ⟨oc,od,T,kV,doc,pm,an,cdv,ct,osl,rfl,lk,hcd,_⟩:=F.ex
 exact fn_of lk hcd S len λA outer s H vs Q E hr hsp=>body cdv A outer s H vs Q E hr hsp
def ut (x:Str)(st:Stmt)(ps:List Str)(ds:List Ag):Prop:=∀(T:Aj) (kV doc pm:Ag) (an:Option Aj) (cdv ct:Ag) (us:List Ag),(us++ds).length=ps.length →
 ∃kk,bindArgs (PySem.W.fnOf x x (z0 st) (zh st) (wz st) (.ref T) kV doc pm an cdv ct) ⟨us,[]⟩=seqItems? (.ref T) >>= kk∧kk (some #[.none])=pure (ps.zip (us++ds))
structure CalD (P:Ac)(w:Ah)(K:Aa)(mg:Str→Option Ag)(base:Heap)(x:Str)(k:Nat)(sp:Sp):Prop where
 ex:∃f fd ps,mg x=some (.ref f)∧FnOk P w K mg base (CXE P w) k f fd ps sp∧PySem.W.keepIn K (.ref f)=true∧Binds K fd ps []∧Binds K fd ps [.none]
theorem FunD.binds {x:Str}{st:Stmt}{f:Aj}{fd:Ad}{ps:List Str}{ds:List Ag}(F:FunD K x st f fd)(b:ut x st ps ds):Binds K fd ps ds:=by
 obtain ⟨oc,od,T,kV,doc,pm,an,cdv,ct,osl,rfl,lk,hcd,o,n,e1,e2⟩:=F.ex
 intro s us X hl
 obtain ⟨kk,h1,h2⟩:=b T kV doc pm an cdv ct us hl
 exact PySem.W.binds_K X rfl e1 e2 h1 h2
theorem DefInD.cal {x:Str}{st:Stmt}{ps:List Str}{k:Nat}{sp:Sp}{h:Heap}(d:DefInD K x st)(KX:K.In h)(G:h.Ns mainGlobals mg)(b:ut x st ps [])(b':ut x st ps [.none])(ok:∀f fd,FunD K x st f fd→FnOk P w K mg base (CXE P w) k f fd ps sp):CalD P w K mg base x k sp:=by
 obtain ⟨f,fd,a,F⟩:=d.ex
 exact ⟨f,fd,ps,aF KX G a,ok f fd F,F.kp,F.binds b,F.binds b'⟩
theorem CalD.all {x:Str}{k:Nat}{sp:Sp}(c:CalD P w K mg base x k sp):Cal P w K mg base x k sp:=by
 obtain ⟨f,fd,ps,h1,h2,h3,h4,_⟩:=c.ex
 exact ⟨f,fd,ps,h1,h2,h3,h4⟩
end
section
variable {X:Cx}{x:Str}{k:Nat}{sp:Sp}{E:St→XK}{p pos:Pos}{e:Expr}{es:List Expr}{t:TA}
end
end L2
namespace L2
open PySem PySem.Spec PyProof.Rows
def tRev (K:Aa)(te:TE)(ts:TE):TE:=λσ H Q=>te σ H λx H1=>ts σ H1 λy H2=>y=.int (-1)∧∃a xs,x=.ref a∧SqL K H2 a xs∧∀p,H2 p=none→Q (.ref p) (upd H2 p (.lst xs.reverse))
theorem pe_rev {X:Cx}{e st:Expr}{te ts:TE}{p2 pos:Pos}{ops:Ag→Ag→List Ag}(he:PE X e te)(hs:PE X st ts)(hsub:∀ov iv,subscripted (.Slice none none (some st) p2) false ov iv=operate (ops ov iv) (getItem ov iv):=by intros;rfl):PE X (.Subscript e (.Slice none none (some st) p2) pos) (tRev X.K te ts):=by
 intro pins s σ H Q I h
 refine Subscript_ (thn (he pins s σ H _ I h) λv s1 ⟨x,H1,I1,r1,q1⟩=>?_)
 refine wpAny_Slice ?_
 rw [evalPart_none]
 refine ag (ag ?_)
 rw [evalPart_some]
 refine thn (hs pins s1 σ H1 _ I1 q1) λvs s3 ⟨y,H3,I3,r3,e3,a,xs,ex,hq,q⟩=>?_
 subst e3 ex
 cases r1
 obtain ⟨t,rfl⟩:=r3
 have I4:Inv X pins σ H3 { s3 with heap:=s3.heap.push { cls:=.type "slice",data:=.fields #[.none,.none,.int (-1) t] } }:=I3.kept (t':=s3.toks) λb ob q=>ac _ q
 obtain ⟨its,r,ht,hz⟩:=I4.list hq
 have hlen:=r.length
 show wpAny (model X.prog X.w) X.A (subscriptTail e (.Slice none none (some st) p2) (.ref a) (.ref s3.heap.objs.size)) (EP X pins σ Q) X.xe { s3 with heap:=s3.heap.push { cls:=.type "slice",data:=.fields #[.none,.none,.int (-1) t] } }
 refine tail_any (ops:=ops (.ref a) (.ref s3.heap.objs.size)) ht.isList.typeIs dZ.lookup ?_ (hsub _ _)
 refine wpAny_getItem_list_slice ht.isList (Heap.IsSliceOf.new ..) .none .none (.int (-1) t) (by simp) ?_ (by rw [aw] <;> lia)
 rw [PySem.W.krv_pick]
 refine ⟨.ref _,_,I4.laid (t':=s3.toks) (o:=.lst xs.reverse) (λb ob q=>ac _ q) (af _) ?_,rfl,q _ (I4.hok.fresh (af _))⟩
 exact ⟨by rw [cf];exact hz,_,0,r.reverse,ak _ rfl⟩
end L2
namespace L2
open PySem PySem.Spec PyProof.Rows
section
variable {κ:Type}[DecidableEq κ]
def w9 (kvs:List (κ×V))(k:κ):Option V:=(kvs.find? λkv=>decide (kv.1=k)).map (·.2)
def zf (kvs:List (κ×V))(k:κ)(v:V):List (κ×V) :=
 if (kvs.any λkv=>decide (kv.1=k))=true then kvs.map (λkv=>if kv.1=k then (kv.1,v) else kv) else kvs++[(k,v)]
def Zr (kvs:List (κ×V))(k:κ):List (κ×V):=kvs.filter λkv=>decide (kv.1≠k)
theorem kj {p:κ×V}{r:List (κ×V)}{k:κ}(e:p.1=k):w9 (p::r) k=some p.2:=by simp [w9,bS,e]
theorem v4 {p:κ×V}{r:List (κ×V)}{k:κ}(e:¬ p.1=k):w9 (p::r) k=w9 r k:=by simp [w9,bS,e]
theorem Zy (k:κ):∀kvs:List (κ×V),(kvs.any λkv=>decide (kv.1=k))=(w9 kvs k).isSome
 |[]=>rfl
 |p::r=>by
  rw [eQ]
  by_cases e:p.1=k
  ·simp only [kj e,aZ e,Bool.true_or,Option.isSome_some]
  ·rw [v4 e,bi e,Bool.false_or];exact Zy k r
theorem qqq (k j:κ)(y:V):∀kvs:List (κ×V),w9 kvs k=none→w9 (kvs++[(k,y)]) j=if j=k then some y else w9 kvs j
 |[],_=>by
  by_cases e:k=j
  ·rw [am e.symm];exact kj (p:=(k,y)) e
  ·rw [aj (λz=>e z.symm)];exact v4 (p:=(k,y)) e
 |p::r,hn=>by
  rw [List.cons_append]
  have hk:¬ p.1=k:=λz=>by rw [kj z] at hn;cases hn
  rw [v4 hk] at hn
  have ih:=qqq k j y r hn
  by_cases e:p.1=j
  ·rw [kj e,kj e,aj (λz=>hk (e.trans z))]
  ·rw [v4 e,v4 e,ih]
theorem vm (kvs:List (κ×V))(k:κ)(v:V):(zf kvs k v).length≤kvs.length+1:=by
 unfold zf
 split
 ·rw [ae];lia
 ·rw [aN,aK,cS];lia
theorem Zm {kvs:List (κ×V)}{k:κ}(v:V)(h:w9 kvs k=none):zf kvs k v=kvs++[(k,v)]:=by
 unfold zf
 rw [Zy,h]
 exact aj (by decide)
theorem RelO.isSome_eq {o:Option V}{u:Option Ag}(r:RelO o u):o.isSome=u.isSome:=by
 cases o with
 |none=>cases u with
  |none=>rfl
  |some _=>exact (show False from r).elim
 |some _=>cases u with
  |none=>exact (show False from r).elim
  |some _=>rfl
theorem RelO.getD {o:Option V}{u:Option Ag}{d:V}{d':Ag}(r:RelO o u)(rd:RelV d d'):RelV (o.getD d) (u.getD d'):=by
 cases o with
 |none=>cases u with
  |none=>exact rd
  |some _=>exact (show False from r).elim
 |some _=>cases u with
  |none=>exact (show False from r).elim
  |some _=>exact r
theorem KV.val {kvs:List (κ×V)}{vs:List (κ×Ag)}(r:KV kvs vs)(k:κ):RelO (w9 kvs k) (valueAt vs k):=by
 unfold KV at r
 induction r with
 |nil=>exact True.intro
 |@cons p q ps qs h t ih =>
  obtain ⟨h1,h2⟩:=h
  by_cases e:p.1=k
  ·have e':q.1=k:=h1.symm.trans e
   have b:valueAt (q::qs) k=some q.2:=by simp [valueAt,bS,e']
   rw [kj e,b];exact h2
  ·have e':¬ q.1=k:=λz=>e (h1.trans z)
   have b:valueAt (q::qs) k=valueAt qs k:=by simp [valueAt,bS,e']
   rw [v4 e,b];exact ih
theorem KV.any {kvs:List (κ×V)}{vs:List (κ×Ag)}(r:KV kvs vs)(k:κ):(kvs.any λkv=>decide (kv.1=k))=vs.any λkv=>decide (kv.1=k):=by
 unfold KV at r
 induction r with
 |nil=>rfl
 |cons h t ih=>rw [eQ,eQ,ih,h.1]
theorem KV.repl {kvs:List (κ×V)}{vs:List (κ×Ag)}(r:KV kvs vs)(k:κ){y:V}{u:Ag}(ry:RelV y u) :
  KV (kvs.map λkv=>if kv.1=k then (kv.1,y) else kv) (vs.map λkv=>if kv.1=k then (kv.1,u) else kv):=by
 unfold KV at r ⊢
 induction r with
 |nil=>exact .nil
 |@cons p q ps qs h t ih =>
  rw [aD,aD]
  refine .cons ?_ ih
  obtain ⟨h1,h2⟩:=h
  by_cases e:p.1=k
  ·rw [am e,am (h1.symm.trans e)];exact ⟨h1,ry⟩
  ·rw [aj e,aj (λz=>e (h1.trans z))];exact ⟨h1,h2⟩
theorem KV.put {kvs:List (κ×V)}{vs:List (κ×Ag)}(r:KV kvs vs)(k:κ){y:V}{u:Ag}(ry:RelV y u):KV (zf kvs k y) (stored vs k u):=by
 unfold zf stored
 rw [r.any k]
 by_cases e:(vs.any λkv=>decide (kv.1=k))=true
 ·rw [am e,am e];exact r.repl k ry
 ·rw [aj e,aj e];exact Paired.snoc r ⟨rfl,ry⟩
theorem KV.drop {kvs:List (κ×V)}{vs:List (κ×Ag)}(r:KV kvs vs)(k:κ):KV (Zr kvs k) (without vs k):=by
 unfold KV at r ⊢
 unfold Zr without
 induction r with
 |nil=>exact .nil
 |@cons p q ps qs h t ih =>
  obtain ⟨h1,h2⟩:=h
  rw [cn,cn]
  by_cases e:p.1=k
  ·have a:¬ decide (p.1≠k)=true:=by simp [e]
   have b:¬ decide (q.1≠k)=true:=by simp [h1.symm.trans e]
   rw [aj a,aj b];exact ih
  ·have e':¬ q.1=k:=λz=>e (h1.trans z)
   have a:decide (p.1≠k)=true:=by simp [e]
   have b:decide (q.1≠k)=true:=by simp [e']
   rw [am a,am b];exact .cons ⟨h1,h2⟩ ih
theorem KV.length {kvs:List (κ×V)}{vs:List (κ×Ag)}(r:KV kvs vs):kvs.length=vs.length:=bc r
theorem qzf (kvs:List (κ×V))(k:κ):(Zr kvs k).length≤kvs.length:=cB _ _
end
theorem yh {P:Ac}{w:Ah}{k:Key}{u:Ag}(r:RelV (kV k) u):(xq P w).is k u=true:=by
 cases k with
 |inl i=>obtain ⟨t,e⟩:=(show ∃t,u=Value.int i t from r);subst e;exact qzx P w i t
 |inr x=>obtain ⟨t,e⟩:=(show ∃t,u=Value.str x t from r);subst e;exact qzp P w x t
theorem Jm {P:Ac}{w:Ah}:∀ {ks:List Key} {us:List Ag},Vals (ks.map kV) us→ItemsAre (xq P w) ks us
 |[],_,r=>by rw [bD] at r;cases r;exact .nil
 |k::ks,_,r=>by
  rw [aD] at r
  cases r with
  |cons h t=>exact .cons (yh h) (Jm t)
abbrev KT (H:Hp):List (List Key×V)→List (List Key×Aj×Ag)→Prop:=Paired λp q=>p.1=q.1∧H q.2.1=some (.tup (p.1.map kV))∧RelV p.2 q.2.2
theorem KT.val {H:Hp}{kvs:List (List Key×V)}{xs:List (List Key×Aj×Ag)}(r:KT H kvs xs)(k:List Key):RelO (w9 kvs k) ((atKey xs k).map (·.2)):=by
 induction r with
 |nil=>exact True.intro
 |@cons p q ps qs h t ih =>
  obtain ⟨h1,_,h2⟩:=h
  by_cases e:p.1=k
  ·have e':q.1=k:=h1.symm.trans e
   have b:atKey (q::qs) k=some q.2:=by simp [atKey,bS,e']
   rw [kj e,b];exact h2
  ·have e':¬ q.1=k:=λz=>e (h1.trans z)
   have b:atKey (q::qs) k=atKey qs k:=by simp [atKey,bS,e']
   rw [v4 e,b];exact ih
theorem KT.repl {H:Hp}{kvs:List (List Key×V)}{xs:List (List Key×Aj×Ag)}(r:KT H kvs xs)(k:List Key){y:V}{u:Ag}(ry:RelV y u) :
  KT H (kvs.map λkv=>if kv.1=k then (kv.1,y) else kv) (xs.map (putAt k u)):=by
 induction r with
 |nil=>exact .nil
 |@cons p q ps qs h t ih =>
  rw [aD,aD]
  refine .cons ?_ ih
  obtain ⟨h1,h2,h3⟩:=h
  unfold putAt
  by_cases e:p.1=k
  ·rw [am e,am (h1.symm.trans e)];exact ⟨h1,h2,ry⟩
  ·rw [aj e,aj (λz=>e (h1.trans z))];exact ⟨h1,h2,h3⟩
theorem KT.put {H:Hp}{kvs:List (List Key×V)}{xs:List (List Key×Aj×Ag)}(r:KT H kvs xs)(k:List Key){b:Aj}{y:V}{u:Ag}(hb:H b=some (.tup (k.map kV)))(ry:RelV y u) :
  KT H (zf kvs k y) (storedH xs k b u):=by
 have e:(kvs.any λkv=>decide (kv.1=k))=(atKey xs k).isSome:=by
  rw [Zy,(r.val k).isSome_eq,d3]
 unfold zf storedH
 rw [e]
 by_cases q:(atKey xs k).isSome=true
 ·rw [am q,am q];exact r.repl k ry
 ·rw [aj q,aj q];exact Paired.snoc r ⟨rfl,hb,ry⟩
theorem KT.keeps {H H':Hp}{kvs:List (List Key×V)}{xs:List (List Key×Aj×Ag)}(r:KT H kvs xs)(ht:∀b ys,H b=some (.tup ys)→H' b=some (.tup ys)):KT H' kvs xs :=
 Paired.mapP r λ_ _ z=>⟨z.1,ht _ _ z.2.1,z.2.2⟩
section
variable {P:Ac}{w:Ah}{H:Hp}{h:Heap}{a:Aj}
theorem rd_of {u:HO}(ok:HOk P w H h)(e:Rd H a u):ObjOk P w H h a u:=e.ok ok
theorem ud {kvs:List (Key×V)}(ok:HOk P w H h)(e:Rd H a (.dK kvs)):kvs.length≤sizeLine∧(a==sysModules)=false∧∃vs,KV kvs vs∧h.DictOf (xq P w) a vs :=
 show ObjOk P w H h a (.dK kvs) from rd_of ok e
theorem qqz {kvs:List (Key×V)}(ok:HOk P w H h)(e:H a=some (.dK kvs)):kvs.length≤sizeLine∧(a==sysModules)=false∧∃vs,KV kvs vs∧h.DictOf (xq P w) a vs:=ud ok (.inl e)
theorem j7 {ks:List Key}(ok:HOk P w H h)(e:H a=some (.tup (ks.map kV))):(tupleKind (xq P w)).is h ks a:=by
 obtain ⟨_,its,r,o,h1,h2,n,h3⟩:=(show ObjOk P w H h a (.tup (ks.map kV)) from ok a _ e)
 exact ⟨o,its.toArray,n,h1,h2,h3,by simpa using Jm r⟩
theorem Qf {kvs:List (List Key×V)}(ok:HOk P w H h)(e:Rd H a (.dT kvs)):kvs.length≤sizeLine∧(a==sysModules)=false ∧
  ∃xs,KT H kvs xs∧h.DictOfH (tupleKind (xq P w)) a xs:=by
 obtain ⟨z,y,xs,r,o,es,ep,h1,h2,h3,h4,h5⟩:=(show ObjOk P w H h a (.dT kvs) from rd_of ok e)
 refine ⟨z,y,xs,r,o,es,ep,h1,h2,h3,h4,λx hx=>?_,h5⟩
 have all:∀ {l:List (List Key×V)} {m:List (List Key×Aj×Ag)},KT H l m→∀x∈m,(tupleKind (xq P w)).is h x.1 x.2.1:=by
  intro l m q
  induction q with
  |nil=>intro x hx;exact nomatch hx
  |@cons p q ps qs hq t ih =>
   intro x hx
   rcases ai.mp hx with e|hx
   ·subst e
    exact j7 ok (by rw [←hq.1];exact hq.2.1)
   ·exact ih x hx
 exact all r x hx
theorem dt_of {kvs:List (List Key×V)}(ok:HOk P w H h)(e:H a=some (.dT kvs)):kvs.length≤sizeLine∧(a==sysModules)=false ∧
  ∃xs,KT H kvs xs∧h.DictOfH (tupleKind (xq P w)) a xs:=Qf ok (.inl e)
end
def DGet (H:Hp)(a:Aj)(y:V)(r:Option V):Prop :=
 (∃kvs k,Rd H a (.dK kvs)∧y=kV k∧r=w9 kvs k)∨∃kvs k b,Rd H a (.dT kvs)∧y=.ref b∧H b=some (.tup (k.map kV))∧r=w9 kvs k
def DPut (H:Hp)(a:Aj)(y v:V)(H':Hp):Prop :=
 (∃kvs k,H a=some (.dK kvs)∧y=kV k∧kvs.length<sizeLine∧H'=upd H a (.dK (zf kvs k v))) ∨
 ∃kvs k b,H a=some (.dT kvs)∧y=.ref b∧H b=some (.tup (k.map kV))∧kvs.length<sizeLine∧H'=upd H a (.dT (zf kvs k v))
theorem DGet.k {H:Hp}{a:Aj}{kvs:List (Key×V)}{k:Key}(e:H a=some (.dK kvs)):DGet H a (kV k) (w9 kvs k):=.inl ⟨kvs,k,.inl e,rfl,rfl⟩
theorem DGet.t {H:Hp}{a b:Aj}{kvs:List (List Key×V)}{k:List Key}(e:H a=some (.dT kvs))(eb:H b=some (.tup (k.map kV))):DGet H a (.ref b) (w9 kvs k):=.inr ⟨kvs,k,b,.inl e,rfl,eb,rfl⟩
theorem DPut.k {H:Hp}{a:Aj}{kvs:List (Key×V)}{k:Key}{v:V}(e:H a=some (.dK kvs))(hl:kvs.length<sizeLine):DPut H a (kV k) v (upd H a (.dK (zf kvs k v))):=.inl ⟨kvs,k,e,rfl,hl,rfl⟩
theorem DPut.t {H:Hp}{a b:Aj}{kvs:List (List Key×V)}{k:List Key}{v:V}(e:H a=some (.dT kvs))(eb:H b=some (.tup (k.map kV)))(hl:kvs.length<sizeLine) :
  DPut H a (.ref b) v (upd H a (.dT (zf kvs k v))):=.inr ⟨kvs,k,b,e,rfl,eb,hl,rfl⟩
section
variable {X:Cx}{pins:List (Aj×Obj)}{σ:St}{H:Hp}{s:Ab}{a:Aj}{y v:V}{u r:Ag}{o:Option V}{A:Ae}{E:Ag→Ab→Prop}
theorem Inv.big (I:Inv X pins σ H s):sysModules<s.heap.objs.size:=by
 have h:mainGlobals<s.heap.objs.size:=(I.mod.glob.keeps I.bk).lt
 exact bv (by decide) h
theorem qjt {Q:Ag→Ab→Prop}(hu:A.units+1<cLine)(I:Inv X pins σ H s)(g:DGet H a y (some v))(ry:RelV y u)(h:∀w' s',Inv X pins σ H s'→RelV v w'→Q w' s') :
  wpAny (model X.prog X.w) A (getItem (.ref a) u) Q E s:=by
 rcases g with ⟨kvs,k,e,ey,l⟩|⟨kvs,k,b,e,ey,eb,l⟩
 ·subst ey
  obtain ⟨z,hd,vs,rel,dd⟩:=ud I.hok e
  obtain ⟨w',hw,rw'⟩:=RelO.some_of (v:=v) (o:=valueAt vs k) (by rw [l];exact rel.val k)
  exact wpAny_getItem_of (yh ry) dd.mapOf hw (h w' _ (I.tok _) rw')
 ·subst ey
  cases (show u=Value.ref b from ry)
  obtain ⟨z,hd,xs,rel,dd⟩:=Qf I.hok e
  obtain ⟨w',hw,rw'⟩:=RelO.some_of (v:=v) (o:=(atKey xs k).map (·.2)) (by rw [l];exact rel.val k)
  obtain ⟨p,hp,hp2⟩:=Option.map_eq_some_iff.mp hw
  refine wpAny_getItem_heap (bI hu) (j7 I.hok eb) dd hp ?_
  rw [hp2]
  exact h w' _ (I.tok _) rw'
theorem d_in {Q:Ag→Ab→Prop}(hu:A.units+1<cLine)(I:Inv X pins σ H s)(g:DGet H a y o)(ry:RelV y u)(h:∀s',Inv X pins σ H s'→Q (.bool o.isSome) s') :
  wpAny (model X.prog X.w) A (compareOp .In u (.ref a)) Q E s:=by
 rcases g with ⟨kvs,k,e,ey,l⟩|⟨kvs,k,b,e,ey,eb,l⟩
 ·subst ey
  obtain ⟨z,hd,vs,rel,dd⟩:=ud I.hok e
  refine wpAny_in_of (yh ry) hd dd.mapOf ?_
  rw [← (rel.val k).isSome_eq,←l]
  exact h _ (I.tok _)
 ·subst ey
  cases (show u=Value.ref b from ry)
  obtain ⟨z,hd,xs,rel,dd⟩:=Qf I.hok e
  refine wpAny_in_heap (bI hu) (j7 I.hok eb) hd dd ?_
  have q:=(rel.val k).isSome_eq
  rw [d3] at q
  rw [←q,←l]
  exact h _ (I.tok _)
theorem wx9 {Q:Ag→Ab→Prop}(hu:A.units+1<cLine)(I:Inv X pins σ H s)(g:DGet H a y o)(ry:RelV y u)(h:∀s',Inv X pins σ H s'→Q (.bool (!o.isSome)) s') :
  wpAny (model X.prog X.w) A (compareOp .NotIn u (.ref a)) Q E s:=by
 rcases g with ⟨kvs,k,e,ey,l⟩|⟨kvs,k,b,e,ey,eb,l⟩
 ·subst ey
  obtain ⟨z,hd,vs,rel,dd⟩:=ud I.hok e
  refine wpAny_notIn_of (yh ry) hd dd.mapOf ?_
  rw [← (rel.val k).isSome_eq,←l]
  exact h _ (I.tok _)
 ·subst ey
  cases (show u=Value.ref b from ry)
  obtain ⟨z,hd,xs,rel,dd⟩:=Qf I.hok e
  refine wpAny_notIn_heap (bI hu) (j7 I.hok eb) hd dd ?_
  have q:=(rel.val k).isSome_eq
  rw [d3] at q
  rw [←q,←l]
  exact h _ (I.tok _)
theorem yb {h':Heap}{t':Nat}{ob:HO}(I:Inv X pins σ H s)(mu:Mut (H a))(hs:Heap.SameBut a s.heap h')(he:∃q,h'.get? a=some q)(new:ObjOk X.prog X.w (upd H a ob) h' a ob) :
  Inv X pins σ (upd H a ob) { s with heap:=h',toks:=t' } :=
 I.write (x:=a) (e:=a) mu (.inl rfl) (λb q hb z=>(hs.2 b hb).trans z) he new
theorem Yk {P:Ac}{w:Ah}{H':Hp}{h':Heap}{kvs:List (Key×V)}{vs:List (Key×Ag)}(z:kvs.length≤sizeLine)(hd:(a==sysModules)=false)(rel:KV kvs vs)(dd:h'.DictOf (xq P w) a vs) :
  ObjOk P w H' h' a (.dK kvs):=⟨z,hd,vs,rel,dd⟩
theorem qjf {H':Hp}{Q:Unit→Ab→Prop}(hu:A.units+1<cLine)(I:Inv X pins σ H s)(g:DPut H a y v H')(ry:RelV y u)(rv:RelV v r)(h:∀s',Inv X pins σ H' s'→Q () s') :
  wpAny (model X.prog X.w) A (setItem (.ref a) u r) Q E s:=by
 rcases g with ⟨kvs,k,e,ey,l,eH⟩|⟨kvs,k,b,e,ey,eb,l,eH⟩
 ·subst ey eH
  obtain ⟨z,hd,vs,rel,dd⟩:=qqz I.hok e
  have hz:vs.length≤sizeLine:=by rw [←rel.length];exact z
  have hl:(zf kvs k v).length≤sizeLine:=by have:=vm kvs k v;lia
  refine wpAny_setItem_pairs (hsz:=hz) (yh ry) dd λh' dd' hs=>h _ ?_
  have he:∃q,h'.get? a=some q:=let ⟨q,_,_,hq,_⟩:=dd';⟨q,hq⟩
  exact yb I (by rw [e];exact True.intro) hs he (Yk hl hd (rel.put k rv) dd')
 ·subst ey eH
  cases (show u=Value.ref b from ry)
  obtain ⟨z,hd,xs,rel,dd⟩:=dt_of I.hok e
  have hz:xs.length≤sizeLine:=by rw [←bc rel];exact z
  have hl:(zf kvs k v).length≤sizeLine:=by have:=vm kvs k v;lia
  refine wpAny_setItem_heap (hsz:=hz) (bI hu) (j7 I.hok eb) dd λh' dd' hs=>h _ ?_
  obtain ⟨q,es,ep,hq,h2,h3,h4,_,h5⟩:=dd'
  refine yb I (by rw [e];exact True.intro) hs ⟨q,hq⟩ ⟨hl,hd,_,(rel.put k eb rv).keeps λc ys ec=>?_,q,es,ep,hq,h2,h3,h4,h5⟩
  rw [wx (ne_of ec e (λz=>nomatch z))]
  exact ec
end
section
variable {X:Cx}{pins:List (Aj×Obj)}{σ:St}{H:Hp}{s:Ab}{a:Aj}{kvs:List (Key×V)}{k:Key}{u:Ag}{A:Ae}{E:Ag→Ab→Prop}
theorem qyj {Q:Unit→Ab→Prop}(I:Inv X pins σ H s)(e:H a=some (.dK kvs))(ry:RelV (kV k) u)(l:(w9 kvs k).isSome=true)(h:∀s',Inv X pins σ (upd H a (.dK (Zr kvs k))) s'→Q () s') :
  wpAny (model X.prog X.w) A (delItem (.ref a) u) Q E s:=by
 obtain ⟨z,hd,vs,rel,dd⟩:=qqz I.hok e
 refine wpAny_delItem_slot dd.typeIs (by decide) dU
  (cK dU dd.typeIs PySem.F.entry_dict_delitem (PySem.F.args_dict_delitem_2 _ _) (meets_dict_delitem_pairs (xq X.prog X.w) a (yh ry)) ⟨vs,dd,by rw [←rel.length];exact z,by rw [← (rel.val k).isSome_eq];exact l,λh' dd' hs=>h _ ?_⟩)
 have he:∃q,h'.get? a=some q:=let ⟨q,_,_,hq,_⟩:=dd';⟨q,hq⟩
 exact yb I (by rw [e];exact True.intro) hs he (Yk (bu (qzf kvs k) z) hd (rel.drop k) dd')
end
def NoSl (i:Expr):Prop:=∀ov iv,subscripted i false ov iv=operate [ov,iv] (getItem ov iv)
theorem wwm {prog:Ac}{w:Ah}{A:Ae}{E:Ag→Ab→Prop}{s:Ab}{env:Env}{value slice:Expr}{pos:Pos}{T id:String}{Q:Ag→Ab→Prop}
  (hl:typeLookup (.type T) "__getitem__" = pure (some (.builtin id))) (hs:NoSl slice)
  (h:wpAny (model prog w) A (eval value env) (λo s₁=>wpAny (model prog w) A (eval slice env) (λi s₂=>s₂.TypeIs o T∧wpAny (model prog w) A (getItem o i) Q E s₂) E s₁) E s) :
  wpAny (model prog w) A (eval (.Subscript value slice pos) env) Q E s:=by
 refine Subscript_ (aP h (λo s₁ h₁=>aP h₁ (λi s₂ h₂=>?_) λ_ _ x=>x) λ_ _ x=>x)
 obtain ⟨hT,h₂⟩:=h₂
 unfold subscriptTail
 refine aa ?_
 rw [getitemInPython_of_ne hT.not_modules]
 refine aa (eM hT hl ?_)
 have fin:wpAny (model prog w) A (subscripted slice false o i) (λr s₃=>wpAny (model prog w) A (letTemporaryGo value o r >>= λ_=>pure r) Q E s₃) E s₂:=by
  rw [hs o i]
  exact wpAny_operating (aP h₂ (λr s₃ h₃=>aa (wpAny_letTemporaryGo (ag h₃))) λ_ _ x=>x)
 first
  |exact ag (aa fin)
  |exact aa (ag (aa fin))
  |exact aa fin
theorem qxh {X:Cx}{pins:List (Aj×Obj)}{σ:St}{H:Hp}{s:Ab}{a:Aj}{y:V}{o:Option V}(I:Inv X pins σ H s)(g:DGet H a y o):s.TypeIs (.ref a) "dict" := by
 rcases g with ⟨kvs,k,e,_,_⟩|⟨kvs,k,b,e,_,_,_⟩
 ·obtain ⟨_,_,vs,_,dd⟩:=ud I.hok e
  exact dd.typeIs
 ·obtain ⟨_,_,xs,_,dd⟩:=Qf I.hok e
  exact dd.typeIs
def tDGet (td ty:TE):TE:=λσ H Q=>td σ H λx H1=>ty σ H1 λy H2=>∃a v,x=.ref a∧DGet H2 a y (some v)∧Q v H2
def tDIn (ty td:TE):TE:=λσ H Q=>ty σ H λy H1=>td σ H1 λx H2=>∃a o,x=.ref a∧DGet H2 a y o∧Q (.bl o.isSome) H2
def wxv (ty td:TE):TE:=λσ H Q=>ty σ H λy H1=>td σ H1 λx H2=>∃a o,x=.ref a∧DGet H2 a y o∧Q (.bl (!o.isSome)) H2
def sDPut (td ty tv:TE):TS:=λD σ H=>tv σ H λv H1=>td σ H1 λx H2=>ty σ H2 λy H3=>∃a H4,x=.ref a∧DPut H3 a y v H4∧D.nx σ H4
def sDDel (td ty:TE):TS:=λD σ H=>td σ H λx H1=>ty σ H1 λy H2=>∃a kvs k,x=.ref a∧H2 a=some (.dK kvs)∧y=kV k∧(w9 kvs k).isSome=true∧D.nx σ (upd H2 a (.dK (Zr kvs k)))
section
variable {X:Cx}{o i e value:Expr}{pos pos' tpos:Pos}{td ty tv:TE}
theorem jz (hu:X.A.units+1<cLine)(ho:PE X o td)(hi:PE X i ty)(hs:NoSl i):PE X (.Subscript o i pos) (tDGet td ty):=by
 intro pins s σ H Q I h
 refine wwm PySem.F.slot_dict_getitem.lookup hs (thn (ho pins s σ H _ I h) λu s1 ⟨x,H1,I1,rx,q1⟩=>thn (hi pins s1 σ H1 _ I1 q1) λiv s2 ⟨y,H2,I2,ry,a,v,ex,g,q2⟩=>?_)
 subst ex
 obtain rfl:u=Value.ref a:=rx
 exact ⟨qxh I2 g,qjt hu I2 g ry λw' s3 I3 rw'=>⟨v,H2,I3,rw',q2⟩⟩
theorem pc_din (hu:X.A.units+1<cLine)(hi:PE X i ty)(ho:PE X o td):PC X .In i o (tDIn ty td):=by
 intro pins s σ H Q I h
 refine thn (hi pins s σ H _ I h) λiv s1 ⟨y,H1,I1,ry,q1⟩=>thn (ho pins s1 σ H1 _ I1 q1) λu s2 ⟨x,H2,I2,rx,a,ov,ex,g,q2⟩=>?_
 subst ex
 obtain rfl:u=Value.ref a:=rx
 exact d_in hu I2 g ry λs3 I3=>⟨.bl ov.isSome,H2,I3,rfl,q2⟩
theorem yx (hu:X.A.units+1<cLine)(hi:PE X i ty)(ho:PE X o td):PC X .NotIn i o (wxv ty td):=by
 intro pins s σ H Q I h
 refine thn (hi pins s σ H _ I h) λiv s1 ⟨y,H1,I1,ry,q1⟩=>thn (ho pins s1 σ H1 _ I1 q1) λu s2 ⟨x,H2,I2,rx,a,ov,ex,g,q2⟩=>?_
 subst ex
 obtain rfl:u=Value.ref a:=rx
 exact wx9 hu I2 g ry λs3 I3=>⟨.bl (!ov.isSome),H2,I3,rfl,q2⟩
theorem W0 (hu:X.A.units+1<cLine)(ho:PE X o td)(hi:PE X i ty)(hv:PE X value tv)(hs:swapsWith value (some (.Subscript o i pos')) pos.line X.env=pure false) :
  PS X (.Assign [.Subscript o i pos'] value pos) (sDPut td ty tv):=by
 intro pins s σ H D I h
 refine wpAny_Assign_Subscript (thn (hv pins s σ H _ I h) λr s1 ⟨v,H1,I1,rv,q1⟩=>thn (ho pins s1 σ H1 _ I1 q1) λu s2 ⟨x,H2,I2,rx,q2⟩=>thn (hi pins s2 σ H2 _ I2 q2) λiv s3 ⟨y,H3,I3,ry,a,H4,ex,g,q3⟩=>?_) hs
 subst ex
 obtain rfl:u=Value.ref a:=rx
 exact qjf hu I3 g ry rv λs4 I4=>⟨σ,H4,I4,q3⟩
theorem wwg (ho:PE X o td)(hi:PE X i ty):PS X (.Delete [.Subscript o i tpos] pos) (sDDel td ty):=by
 intro pins s σ H D I h
 refine wpAny_Delete (wpAny_deleteEach_cons (wpAny_delete_Subscript (thn (ho pins s σ H _ I h) λu s1 ⟨x,H1,I1,rx,q1⟩=>thn (hi pins s1 σ H1 _ I1 q1) λiv s2 ⟨y,H2,I2,ry,a,kvs,k,ex,e,ey,l,q2⟩=>?_)))
 subst ex ey
 obtain rfl:u=Value.ref a:=rx
 exact qyj I2 e ry l λs3 I3=>wpAny_deleteEach_nil ⟨σ,_,I3,q2⟩
end
theorem qzh {P:Ac}{w:Ah}{H:Hp}(h:Heap)(hb:sysModules<h.objs.size):ObjOk P w H (h.push { cls:=.type "dict",data:=.dict #[] }) h.objs.size (.dK []) :=
 ⟨az _,aH.mpr (aT (ax hb)),[],.nil,Heap.DictOf.new h⟩
theorem qxm {P:Ac}{w:Ah}{H:Hp}(h:Heap)(hb:sysModules<h.objs.size):ObjOk P w H (h.push { cls:=.type "dict",data:=.dict #[] }) h.objs.size (.dT []) :=
 ⟨az _,aH.mpr (aT (ax hb)),[],.nil,_,#[],0,ak _ rfl,⟨rfl,rfl,rfl⟩,rfl,rfl,bb⟩
def tDNewK:TE:=λ_ H Q=>∀p,H p=none→Q (.ref p) (upd H p (.dK []))
def tDNewT:TE:=λ_ H Q=>∀p,H p=none→Q (.ref p) (upd H p (.dT []))
section
variable {X:Cx}{pos:Pos}
theorem vz:PE X (.Dict [] [] pos) tDNewK:=λpins s σ H Q I h =>
 wpAny_Dict_empty ⟨.ref s.heap.objs.size,_,I.laid (a:=s.heap.objs.size) (o:=.dK []) (t':=s.toks) (λ_ _ q=>ac _ q) (af _) (qzh s.heap I.big),rfl,h _ (I.hok.fresh (af _))⟩
theorem wqt:PE X (.Dict [] [] pos) tDNewT:=λpins s σ H Q I h =>
 wpAny_Dict_empty ⟨.ref s.heap.objs.size,_,I.laid (a:=s.heap.objs.size) (o:=.dT []) (t':=s.toks) (λ_ _ q=>ac _ q) (af _) (qxm s.heap I.big),rfl,h _ (I.hok.fresh (af _))⟩
end
end L2
namespace L2
open PySem PySem.Spec PyProof.Rows
def qvt:List (TE×TE)→St→Hp→(List (V×V)→Hp→Prop)→Prop
 |[],_,H,Q=>Q [] H
 |(tk,tv)::r,σ,H,Q=>tk σ H λx H1=>tv σ H1 λy H2=>qvt r σ H2 λps H3=>Q ((x,y)::ps) H3
abbrev VV:List (V×V)→List (Ag×Ag)→Prop:=Paired λp q=>RelV p.1 q.1∧RelV p.2 q.2
def PPs (X:Cx)(pos:Pos)(keys:List (Option Expr))(values:List Expr)(trs:List (TE×TE)):Prop :=
 ∀(pins:List (Aj×Obj)) (s:Ab) (σ:St) (H:Hp) (Q:List (V×V)→Hp→Prop),Inv X pins σ H s→qvt trs σ H Q →
  wpAny (model X.prog X.w) X.A (evalPairs (pairTrees keys values X.env pos)) (λvs s'=>∃ps H',Inv X pins σ H' s'∧VV ps vs∧Q ps H') X.xe s
theorem yj {X:Cx}{pos:Pos}:PPs X pos [] [] []:=λpins s σ H Q I h=>pairTrees_nil_walk ⟨[],H,I,.nil,h⟩
theorem jq {X:Cx}{pos:Pos}{k v:Expr}{ks:List (Option Expr)}{vs:List Expr}{tk tv:TE}{trs:List (TE×TE)}(hk:PE X k tk)(hv:PE X v tv)(hr:PPs X pos ks vs trs) :
  PPs X pos (some k::ks) (v::vs) ((tk,tv)::trs):=λpins s σ H Q I h =>
 pairTrees_cons_walk (thn (hk pins s σ H _ I h) λu s1 ⟨x,H1,I1,rx,q1⟩=>thn (hv pins s1 σ H1 _ I1 q1) λw2 s2 ⟨y,H2,I2,ry,q2⟩ =>
  thn (hr pins s2 σ H2 _ I2 q2) λws s3 ⟨ps,H3,I3,rel,q3⟩=>⟨(x,y)::ps,H3,I3,.cons ⟨rx,ry⟩ rel,q3⟩)
def y7 (kvs more:List (Key×V)):List (Key×V):=more.foldl (λacc kv=>zf acc kv.1 kv.2) kvs
theorem KV.merge:∀ {more:List (Key×V)} {rs:List (Key×Ag)} {kvs:List (Key×V)} {vs:List (Key×Ag)},KV more rs→KV kvs vs→KV (y7 kvs more) (merged vs rs):=by
 intro more rs kvs vs r
 unfold KV at r
 induction r generalizing kvs vs with
 |nil=>intro q;exact q
 |@cons p q ps qs h t ih =>
  intro r0
  have e:KV (zf kvs p.1 p.2) (stored vs q.1 q.2):=by
   have:=r0.put p.1 h.2
   rw [←h.1];exact this
  exact ih e
theorem ym:∀(more kvs:List (Key×V)),(y7 kvs more).length≤kvs.length+more.length
 |[],kvs=>by show kvs.length≤kvs.length+0;lia
 |p::r,kvs=>by
  have h1:=ym r (zf kvs p.1 p.2)
  have h2:=vm kvs p.1 p.2
  show (y7 (zf kvs p.1 p.2) r).length≤_
  rw [aK];lia
theorem Zk {P:Ac}{w:Ah}:∀ {kvs:List (Key×V)} {ws:List (Ag×Ag)},VV (kvs.map λkv=>(kV kv.1,kv.2)) ws→∃rs,Carries (xq P w) ws rs∧KV kvs rs
 |[],_,r=>by rw [bD] at r;cases r;exact ⟨[],True.intro,.nil⟩
 |p::kvs,_,r=>by
  rw [aD] at r
  cases r with
  |@cons a b as bs h t =>
   obtain ⟨rs,c,q⟩:=Zk (P:=P) (w:=w) t
   obtain ⟨b1,b2⟩:=b
   exact ⟨(p.1,b2)::rs,⟨yh h.1,rfl,c⟩,.cons ⟨rfl,h.2⟩ q⟩
def tDisp (trs:List (TE×TE)):TE:=λσ H Q=>∀p,H p=none→qvt trs σ (upd H p (.dK [])) λps H2=>H2 p=some (.dK [])∧∃kvs:List (Key×V),ps=kvs.map (λkv=>(kV kv.1,kv.2))∧kvs.length≤15∧Q (.ref p) (upd H2 p (.dK (y7 [] kvs)))
theorem yy {X:Cx}{pos:Pos}{keys:List (Option Expr)}{values:List Expr}{trs:List (TE×TE)}(h:PPs X pos keys values trs)(hall:keys.all (·.isSome)=true)(hl:keys.length=values.length)(h0:keys≠[])
  (h15:keys.length≤15):PE X (.Dict keys values pos) (tDisp trs):=by
 intro pins s σ H Q I q
 have hn:=I.hok.fresh (af s.heap.objs.size)
 have I1:=I.laid (a:=s.heap.objs.size) (o:=.dK []) (h':=s.heap.push { cls:=.type "dict",data:=.dict #[] }) (t':=s.toks) (λ_ _ q=>ac _ q) (af _) (qzh s.heap I.big)
 refine wpAny_Dict_walk (knd:=xq X.prog X.w) hall hl h0 h15 (thn (h pins _ σ _ _ I1 (q _ hn)) λws s2 ⟨ps,H2,I2,rel,e,kvs,ep,lk,q2⟩=>?_)
 subst ep
 obtain ⟨rs,c,rk⟩:=Zk (P:=X.prog) (w:=X.w) rel
 obtain ⟨z,hd,vs0,r0,dd⟩:=qqz I2.hok e
 cases r0
 refine ⟨rs,c,dd,λh' dd' hs=>⟨.ref s.heap.objs.size,_,?_,rfl,q2⟩⟩
 have hz:(y7 [] kvs).length≤sizeLine:=by
  have h1:=ym kvs []
  rw [cS] at h1
  rw [sizeLine_eq];lia
 have he:∃q,h'.get? s.heap.objs.size=some q:=let ⟨q,_,_,hq,_⟩:=dd';⟨q,hq⟩
 exact yb I2 (by rw [e];exact True.intro) hs he (Yk hz hd (rk.merge .nil) dd')
structure M1 (X:Cx)(o:Expr)(m:Str)(apos:Pos)(e:Expr)(cpos:Pos):Prop where
 base:attributeBase o m X.env (eval o X.env)=eval o X.env
 few:((backTo cpos (starEach [e] X.env)).all (λx=>!x.1)&&(backToKw cpos (keywordEach [] X.env)).all (λx=>x.1.isSome)
  && decide (([e]:List Expr).length+([]:List Keyword).length+(if ([]:List Keyword).isEmpty then 0 else 1)<30))=true
 line:(apos.endLine==cpos.line)=true
 trees:backTo cpos (starEach [e] X.env)=[(false,eval e X.env)]
structure M2 (X:Cx)(o:Expr)(m:Str)(apos:Pos)(e f:Expr)(cpos:Pos):Prop where
 base:attributeBase o m X.env (eval o X.env)=eval o X.env
 few:((backTo cpos (starEach [e,f] X.env)).all (λx=>!x.1)&&(backToKw cpos (keywordEach [] X.env)).all (λx=>x.1.isSome)
  && decide (([e,f]:List Expr).length+([]:List Keyword).length+(if ([]:List Keyword).isEmpty then 0 else 1)<30))=true
 line:(apos.endLine==cpos.line)=true
 trees:backTo cpos (starEach [e,f] X.env)=[(false,eval e X.env),(false,eval f X.env)]
def IsD (H:Hp)(a:Aj):Prop:=(∃kvs,Rd H a (.dK kvs))∨∃kvs,Rd H a (.dT kvs)
theorem qz5 {X:Cx}{pins:List (Aj×Obj)}{σ:St}{H:Hp}{s:Ab}{a:Aj}(I:Inv X pins σ H s)(d:IsD H a) :
  s.TypeIs (.ref a) "dict" ∧ (∀b,Value.ref a=.ref b→∃ob,s.heap.get? b=some ob∧ob.dict=none)∧(a==sysModules)=false:=by
 rcases d with ⟨kvs,e⟩|⟨kvs,e⟩
 ·obtain ⟨_,hd,vs,_,dd⟩:=ud I.hok e
  refine ⟨dd.typeIs,λb q=>?_,hd⟩
  cases q
  obtain ⟨ob,_,_,h1,h2,_⟩:=dd
  exact ⟨ob,h1,h2.2.1⟩
 ·obtain ⟨_,hd,xs,_,dd⟩:=Qf I.hok e
  refine ⟨dd.typeIs,λb q=>?_,hd⟩
  cases q
  obtain ⟨ob,_,_,h1,h2,_⟩:=dd
  exact ⟨ob,h1,h2.2.1⟩
section
variable {X:Cx}{pins:List (Aj×Obj)}{σ:St}{H:Hp}{s:Ab}{a:Aj}{y d:V}{u r:Ag}{o:Option V}{A:Ae}{E:Ag→Ab→Prop}
theorem d_get1 {Q:Ag→Ab→Prop}(hu:A.units+1<cLine)(I:Inv X pins σ H s)(g:DGet H a y o)(ry:RelV y u)(h:∀w' s',Inv X pins σ H s'→RelV (o.getD .non) w'→Q w' s') :
  wpAny (model X.prog X.w) A (call (.builtin "dict.get") [.ref a,u]) Q E s:=by
 rcases g with ⟨kvs,k,e,ey,l⟩|⟨kvs,k,b,e,ey,eb,l⟩
 ·subst ey
  obtain ⟨z,hd,vs,rel,dd⟩:=ud I.hok e
  refine cK br dd.typeIs cw (el _ _) (meets_dict_get (xq X.prog X.w) a (yh ry) hd) ⟨_,dd.mapOf,h _ _ (I.tok _) ?_⟩
  rw [l]
  exact (rel.val k).getD rfl
 ·subst ey
  cases (show u=Value.ref b from ry)
  obtain ⟨z,hd,xs,rel,dd⟩:=Qf I.hok e
  refine cK br dd.typeIs cw (el _ _) (meetsH_dict_get (tupleKind (xq X.prog X.w)) a b hd) ⟨bI hu,k,xs,j7 I.hok eb,dd,h _ _ (I.tok _) ?_⟩
  rw [l]
  exact (rel.val k).getD rfl
theorem d_get2 {Q:Ag→Ab→Prop}(hu:A.units+1<cLine)(I:Inv X pins σ H s)(g:DGet H a y o)(ry:RelV y u)(rd:RelV d r)(h:∀w' s',Inv X pins σ H s'→RelV (o.getD d) w'→Q w' s') :
  wpAny (model X.prog X.w) A (call (.builtin "dict.get") [.ref a,u,r]) Q E s:=by
 rcases g with ⟨kvs,k,e,ey,l⟩|⟨kvs,k,b,e,ey,eb,l⟩
 ·subst ey
  obtain ⟨z,hd,vs,rel,dd⟩:=ud I.hok e
  refine cK br dd.typeIs cw (eu _ _ _) (meets_dict_get_default (xq X.prog X.w) a (yh ry) hd r) ⟨_,dd.mapOf,h _ _ (I.tok _) ?_⟩
  rw [l]
  exact (rel.val k).getD rd
 ·subst ey
  cases (show u=Value.ref b from ry)
  obtain ⟨z,hd,xs,rel,dd⟩:=Qf I.hok e
  refine cK br dd.typeIs cw (eu _ _ _) (meetsH_dict_get_default (tupleKind (xq X.prog X.w)) a b hd r) ⟨bI hu,k,xs,j7 I.hok eb,dd,h _ _ (I.tok _) ?_⟩
  rw [l]
  exact (rel.val k).getD rd
end
def tDGet1 (td ty:TE):TE:=λσ H Q=>td σ H λx H1=>∃a,x=.ref a∧IsD H1 a∧ty σ H1 λy H2=>∃o,DGet H2 a y o∧Q (o.getD .non) H2
def tDGet2 (td ty tx:TE):TE:=λσ H Q=>td σ H λx H1=>∃a,x=.ref a∧IsD H1 a∧ty σ H1 λy H2=>tx σ H2 λz H3=>∃o,DGet H3 a y o∧Q (o.getD z) H3
section
variable {X:Cx}{o e f:Expr}{apos cpos:Pos}{td ty tx:TE}
theorem qum (hu:X.A.units+1<cLine)(ho:PE X o td)(he:PE X e ty)(m:M1 X o "get" apos e cpos):PE X (.Call (.Attribute o "get" apos) [e] [] cpos) (tDGet1 td ty):=by
 intro pins s σ H Q I h
 refine wpAny_Call_method m.base m.few m.line cV br PySem.F.type_dict_get (thn (ho pins s σ H _ I h) λu s1 ⟨x,H1,I1,rx,a,ex,d,q1⟩=>?_)
 subst ex
 obtain rfl:u=Value.ref a:=rx
 obtain ⟨t1,t2,_⟩:=qz5 I1 d
 refine ⟨t1,t2,?_⟩
 rw [m.trees]
 refine bE rfl (cF (cT (thn (he pins s1 σ H1 _ I1 q1) λiv s2 ⟨y,H2,I2,ry,ov,g,q2⟩=>dY ?_)))
 exact d_get1 hu I2 g ry λw' s3 I3 rw'=>⟨_,H2,I3,rw',q2⟩
theorem qyp (hu:X.A.units+1<cLine)(ho:PE X o td)(he:PE X e ty)(hf:PE X f tx)(m:M2 X o "get" apos e f cpos):PE X (.Call (.Attribute o "get" apos) [e,f] [] cpos) (tDGet2 td ty tx):=by
 intro pins s σ H Q I h
 refine wpAny_Call_method m.base m.few m.line cV br PySem.F.type_dict_get (thn (ho pins s σ H _ I h) λu s1 ⟨x,H1,I1,rx,a,ex,d,q1⟩=>?_)
 subst ex
 obtain rfl:u=Value.ref a:=rx
 obtain ⟨t1,t2,_⟩:=qz5 I1 d
 refine ⟨t1,t2,?_⟩
 rw [m.trees]
 refine bE rfl (cF (cT (thn (he pins s1 σ H1 _ I1 q1) λiv s2 ⟨y,H2,I2,ry,q2⟩ =>
  cT (thn (hf pins s2 σ H2 _ I2 q2) λfv s3 ⟨z,H3,I3,rz,ov,g,q3⟩=>dY ?_))))
 exact d_get2 hu I3 g ry rz λw' s4 I4 rw'=>⟨_,H3,I4,rw',q3⟩
end
section
variable {X:Cx}{pins:List (Aj×Obj)}{σ:St}{H:Hp}{s:Ab}{a:Aj}{kvs:List (Key×V)}{A:Ae}{E:Ag→Ab→Prop}
end
section
variable {X:Cx}{pins:List (Aj×Obj)}{σ:St}{H:Hp}{s:Ab}{a:Aj}{y:V}{u:Ag}{A:Ae}{E:Ag→Ab→Prop}
end
end L2
namespace L2
open PySem PySem.Spec PyProof.Rows PySem.W
def RawD (h:Heap)(d:Aj)(es:Array DictEntry)(ep:Nat):Prop:=∃o,h.get? d=some o∧o.ExactDict∧o.data=.dict es ep
section
variable {prog:Ac}{w:Ah}{A:Ae}{E:Ag→Ab→Prop}{s:Ab}{d:Aj}{es:Array DictEntry}{ep:Nat}
theorem RawD.ty {s:Ab}(x:RawD s.heap d es ep):s.TypeIs (.ref d) "dict" := let ⟨o,ho,hc,_⟩:=x;⟨o,ho,hc.1⟩
theorem RawD.lt {h:Heap}(x:RawD h d es ep):d<h.objs.size:=let ⟨_,ho,_⟩:=x;ah ho
theorem RawD.at {h h':Heap}(x:RawD h d es ep)(k:∀o,h.get? d=some o→h'.get? d=some o):RawD h' d es ep:=let ⟨o,ho,r⟩:=x;⟨o,k o ho,r⟩
theorem qu9 {Q:Ag→Ab→Prop}(hd:(d==sysModules)=false)(hm:RawD s.heap d es ep)
  (hQ:Q (.ref s.heap.objs.size) { s with heap:=s.heap.push { cls:=.type "dict_keyiterator",data:=.fields #[.ref d,.int 0 0,.int es.size 0,.int ep 0] } }):wpAny (model prog w) A (pyIter (.ref d)) Q E s:=by
 obtain ⟨o,ho,hc,hdat⟩:=id hm
 (refine wpAny_pyIter_slot hm.ty F.slot_dict_iter (dk F.slot_dict_iter hm.ty F.entry_dict_iter ?_ (F.args_dict_iter_1 _)) ;unfold Builtin.«dict.__iter__» ;refine aa ?_ ;unfold Builtin.Dict.dictSlotNone ;refine aa (wpAny_notOrdered_dict hm.ty ?_))
 (show wpAny _ _ (pure (Value.ref d)) _ _ s ;refine ag ?_ ;show wpAny _ _ (Builtin.Dict.showsAll d >>= _) _ _ s ;unfold Builtin.Dict.showsAll ;rw [aj (by rw [hd];exact ay)])
 (refine aa (ag ?_) ;refine aa (bA ho hdat ?_) ;refine aa (eN ho hdat ?_))
 refine aa (bU (ag ⟨_,rfl,"dict_keyiterator",_,⟨_,ak _ rfl,rfl⟩,bn.lookup,?_⟩)) ;simpa [rawInt] using hQ
theorem wq0 {it:Aj}{i:Nat}{e:DictEntry}{Q:Option Ag→Ab→Prop}(hit:s.heap.IsKeyIter it d i es.size ep)(hm:RawD s.heap d es ep)(hx:es[i]?=some e)
  (hQ:∀h',h'.IsKeyIter it d (i+1) es.size ep→Heap.SameBut it s.heap h'→Q (some e.key) { s with heap:=h' }):wpAny (model prog w) A (pyNext (.ref it)) Q E s:=by
 obtain ⟨o,ho,hc,hd⟩:=id hit ;obtain ⟨od,hod,hcd,hdd⟩:=id hm
 (unfold pyNext ;refine aa (wpAny_attempt (cW (name:=Str.ofString "__next__") hit.typeIs bn (dk bn hit.typeIs dz ?_ (dm _)))) ;refine aa (ag ?_) ;refine aa ?_ ;refine aa ?_)
 ((first | refine aa (bz hit.typeIs (ag ?_)) | refine aa (bZ hit.typeIs (ag ?_))) ;refine aa (wpAny_fieldsOf ho hd ?_) ;simp only [show Builtin.Dict_items.ownsTuple "dict_keyiterator" = false by decide,bJ,cX] ;show wpAny _ _ (if (Value.ref d==Value.none)=true then _ else _) _ _ s ;rw [aj (show ¬ ((Value.ref d==Value.none)=true) from ay)] ;refine aa (ag ?_) ;refine aa (bA hod hdd ?_) ;rw [aj (by simp)] ;refine aa (ag ?_) ;refine aa (eN hod hdd ?_) ;rw [aj (by simp)] ;refine ag ?_)
 have hlt:i<es.size:=(dR.mp hx).1 ;have he:es[i]=e:=(dR.mp hx).2
 (simp only [show ¬ ((i:Int)<0) from by lia,cX,bV,bp hlt] ;refine aa ?_ ;(first | refine aa (bz hit.typeIs (ag ?_)) | refine aa (bZ hit.typeIs (ag ?_))) ;refine aa (wpAny_isOneOf_keyiter hit.typeIs ?_) ;show wpAny _ _ (setField (.ref it) 1 (rawInt ((i:Int)+1)) >>= _) _ _ s ;refine aa (wpAny_setField ho hd (by simp) ?_))
 have hit':(s.heap.update it (Obj.mapFields (·.setIfInBounds 1 (rawInt ((i:Int)+1))))).IsKeyIter it d (i+1) es.size ep:=⟨_,de _ ho (Obj.isFreed_of_fields (Obj.data_mapFields hd _)),(Obj.cls_mapFields ..).trans hc,by rw [Obj.data_mapFields hd];simp [rawInt]⟩
 (refine aa (bG ?_) ;refine aa (wpAny_isOneOf_keyiter (s:={ s with heap:=s.heap.update it (Obj.mapFields (·.setIfInBounds 1 (rawInt ((i:Int)+1)))) }) hit'.typeIs ?_) ;show wpAny _ _ (pure es[i].key) _ _ _ ;rw [he])
 exact ag (ag ⟨_,rfl,ag (hQ _ hit' (cN ..))⟩)
theorem ww4 {it:Aj}{i:Nat}{Q:Option Ag→Ab→Prop}(hh:A.handled=none)(hit:s.heap.IsKeyIter it d i es.size ep)(hm:RawD s.heap d es ep)(hx:es.size≤i)(hQ:∀h',Heap.ExtBut it s.heap h'→Q none { s with heap:=h' }):wpAny (model prog w) A (pyNext (.ref it)) Q E s:=by
 obtain ⟨o,ho,hc,hd⟩:=id hit ;obtain ⟨od,hod,hcd,hdd⟩:=id hm
 (unfold pyNext ;refine aa (wpAny_attempt (cW (name:=Str.ofString "__next__") hit.typeIs bn (dk bn hit.typeIs dz ?_ (dm _)))) ;refine aa (ag ?_) ;refine aa ?_ ;refine aa ?_)
 ((first | refine aa (bz hit.typeIs (ag ?_)) | refine aa (bZ hit.typeIs (ag ?_))) ;refine aa (wpAny_fieldsOf ho hd ?_) ;simp only [show Builtin.Dict_items.ownsTuple "dict_keyiterator" = false by decide,bJ,cX] ;show wpAny _ _ (if (Value.ref d==Value.none)=true then _ else _) _ _ s ;rw [aj (show ¬ ((Value.ref d==Value.none)=true) from ay)] ;refine aa (ag ?_) ;refine aa (bA hod hdd ?_) ;rw [aj (by simp)] ;refine aa (ag ?_) ;refine aa (eN hod hdd ?_) ;rw [aj (by simp)] ;refine ag ?_)
 (simp only [show ¬ ((i:Int)<0) from by lia,cX,bV,bF hx] ;refine aa ?_ ;(first | refine aa (bz hit.typeIs (ag ?_)) | refine aa (bZ hit.typeIs (ag ?_))) ;show wpAny _ _ (setField (.ref it) 0 .none >>= _) _ _ s ;refine aa (wpAny_setField ho hd (by simp) ?_) ;show wpAny _ _ (newExc (.type "StopIteration") [] >>= _) _ _ _ ;refine aa ?_ ;simp only [newExc,newTuple])
 (refine aa (bU ?_ (by size_fits)) ;refine aa (m:=firstArgMember _ _) (wpAny_of_eq (a:=Value.none) (by first | rfl | (simp only [firstArgMember];rfl)) ?_) ;refine bU ?_ (by size_fits) ;simp only [raiseNew] ;refine aa (wpAny_handled ?_) ;rw [show A.in1.handled=none from hh] ;refine aa (ag (wpAny_throw ?_)))
 refine aa (wpAny_isInstance (T := "StopIteration") (b:=true) ⟨_,ak _ rfl,rfl⟩ isSubtype_stop (ag (hQ _ (((cN ..).extBut.push _).push _))))
theorem qj4 (hh:A.handled=none)(I:Aj)(hne:d≠I):Walks prog w A I [I,d] [I] es.size (λi v=>∃e,es[i]?=some e∧v=e.key) (λi h=>h.IsKeyIter I d i es.size ep∧RawD h d es ep) where
 sub:=λb hb=>by simp at hb;simp [hb]
 frame:=λ_ _ _ st hk=>⟨st.1.at λo e=>hk I (by simp) o e,st.2.at λo e=>hk d (by simp) o e⟩
 item:=λi s Q E hi st hQ=>wq0 st.1 st.2 (bp hi) λh' it' sb=>hQ _ h' s.toks ⟨_,bp hi,rfl⟩ ⟨it',st.2.at λo e=>sb.extBut d o hne e⟩ λb o hb e=>sb.extBut b o (λh=>hb (by simp [h])) e
 done:=λs Q E st hQ=>ww4 hh st.1 st.2 (af _) λh' eb=>hQ h' s.toks λb o hb e=>eb b o (λh=>hb (by simp [h])) e
 self:=λ_ _ _ _ st hQ=>wpAny_pyIter_keyiter st.1 hQ
theorem wzq (lo:(d==sysModules)=false):KdlSrc prog w "dict" d d es.size (λi v=>∃e,es[i]?=some e∧v=e.key) (λh=>RawD h d es ep) where
 type:=λ_ hm=>hm.ty
 there:=λ_ hm=>⟨hm.lt,hm.lt⟩
 keep:=λ_ _ hm hk=>hm.at λo e=>hk d (.inl rfl) o e
 notList:=by decide
 notTuple:=by decide
 hint:=λ_ _ _ _ hm hq=>kdl_hint_dict hm.ty hq
 iter:=λ_ _ hh hm=>⟨_,_,(λ_ _ hq=>qu9 lo hm hq),qj4 hh _ (ax hm.lt),⟨⟨_,ak _ rfl,rfl,rfl⟩,hm.at λo e=>ac _ e⟩⟩
theorem Y8 (hd:(d==sysModules)=false):MeetsIn prog w (Builtin.«dict.__len__» ⟨[.ref d],[]⟩) (λ_ R s=>∃es ep,RawD s.heap d es ep∧R (.ok (.ret (.int es.size s.toks))) { s with toks:=s.toks+1 }) :=
 .of_wp λA R s ⟨es,ep,hm,h⟩=>by
  obtain ⟨o,ho,hc,hdat⟩:=hm
  (show wpAny _ _ (dictSize d >>= _) _ _ s ;unfold dictSize ;refine aa (aa (bA ho hdat (ag ?_))) ;show wpAny _ _ (Builtin.Dict.pendingCount d >>= _) _ _ s ;refine aa (wpAny_pendingCount_other hd ?_) ;refine wpAny_ret_mkInt ?_ ;rw [Nat.add_zero] ;exact h)
theorem wwb {Q:Ag→Ab→Prop}(hd:(d==sysModules)=false)(hm:RawD s.heap d es ep)(hfit:(es.size:Int)<2 ^ 63)(h:Q (.int es.size (s.toks+1)) { s with toks:=s.toks+1+1 }):wpAny (model prog w) A (call (.builtin "len") [.ref d]) Q E s:=by
 refine Calls.call_function_entry kind_len plain_len entry_len (args_len1 _) ?_ ;unfold Builtin.«len» ;refine aa (m:=oneArg "len" _) (ag ?_)
 refine aa (m:=callSpecial? (.ref d) (Str.ofString "__len__")) (cW (name:=Str.ofString "__len__") hm.ty F.slot_dict_len (cK F.slot_dict_len hm.ty F.entry_dict_len (F.args_dict_len_1 _) (Y8 hd) ⟨es,ep,hm,?_⟩))
 (show wpAny _ _ _ _ _ { s with toks:=s.toks+1 } ;refine aa (bG (ag ?_)) ;refine aa (wpAny_letGo ?_) ;show wpAny _ _ (if ((es.size:Nat):Int)<0 then _ else _) _ _ _ ;rw [aj (by lia)] ;show wpAny _ _ (if ((es.size:Nat):Int)≥2 ^ 63 then _ else _) _ _ _ ;rw [aj (by lia)])
 exact aa (wpAny_mkInt (ag ⟨_,rfl,h⟩))
end
section
variable {X:Cx}
theorem wq7 {P:Ac}{w:Ah}{H:Hp}{h:Heap}{a:Aj}{kvs:List (List Key×V)}(ok:HOk P w H h)(e:H a=some (.dT kvs)) :
  kvs.length≤sizeLine∧(a==sysModules)=false∧∃(xs:List (List Key×Aj×Ag)) (es:Array DictEntry) (ep:Nat),KT H kvs xs∧RawD h a es ep∧es.toList=xs.map (entryOfKey (tupleKind (xq P w))):=by
 obtain ⟨z,y,xs,r,o,es,ep,h1,h2,h3,h4,h5⟩:=(show ObjOk P w H h a (.dT kvs) from ok a _ e)
 exact ⟨z,y,xs,es,ep,r,⟨o,h1,h2,h3⟩,h4⟩
theorem qqd:vp X (.builtin "len") (λxs H Q=>∃a kvs,xs=[V.ref a]∧H a=some (.dT kvs)∧Q (.int kvs.length) H):=by
 intro pins s σ H xs us Q I r h
 obtain ⟨a,kvs,rfl,e,q⟩:=h
 obtain ⟨u,rfl,rx⟩:=jm r
 cases rx
 obtain ⟨z,hd,ys,es,ep,rel,raw,hes⟩:=wq7 I.hok e
 have hl:es.size=kvs.length:=by rw [←aS,hes,ae,bc rel]
 have hn:=Q3
 exact wwb hd raw (by rw [hl];lia) ⟨.int kvs.length,H,I.tok _,⟨_,by rw [hl]⟩,q⟩
def qy5 (H:Hp)(kvs:List (List Key×V))(vs:List V):Prop:=Paired (λv (p:List Key×V)=>∃b,v=V.ref b∧H b=some (.tup (p.1.map kV))) vs kvs
theorem qvy (hc:X.calm=true):vp X (.type "list") (λxs H Q=>∃a kvs,xs=[V.ref a]∧H a=some (.dT kvs)∧∀p vs,H p=none→qy5 H kvs vs→Q (.ref p) (upd H p (.lst vs))):=by
 intro pins s σ H xs us Q I r h
 obtain ⟨a,kvs,rfl,e,q⟩:=h
 obtain ⟨u,rfl,rx⟩:=jm r
 cases rx
 obtain ⟨z,hd,ys,es,ep,rel,raw,hes⟩:=wq7 I.hok e
 have hl:es.size=kvs.length:=by rw [←aS,hes,ae,bc rel]
 refine kdl_call (wzq hd) (I.ok.hd hc) raw (by rw [hl];exact z) λh' tk acc' c' hk hD hacc=>?_
 have key:∀(l:List Ag) (kvs':List (List Key×V)) (ys':List (List Key×Aj×Ag)),KT H kvs' ys'→l.length=kvs'.length→(∀(j:Nat) v,l[j]?=some v→∃y,ys'[j]?=some y∧v=.ref y.2.1)→∃vs,Vals vs l∧qy5 H kvs' vs:=by
  intro l kvs' ys' rr
  induction rr generalizing l with
  |nil =>
   intro hl' _
   cases l with
   |nil=>exact ⟨[],.nil,.nil⟩
   |cons _ _=>simp at hl'
  |@cons p y ps yss hp t ih =>
   intro hl' hj
   cases l with
   |nil=>simp at hl'
   |cons v l =>
    obtain ⟨y',ey,rfl⟩:=hj 0 v rfl
    cases ey
    obtain ⟨vs,v1,v2⟩:=ih l (by simpa using hl') λj u hu=>by
     obtain ⟨y2,e2,e3⟩:=hj (j+1) u (by simpa using hu)
     exact ⟨y2,by simpa using e2,e3⟩
    exact ⟨.ref y.2.1::vs,.cons rfl v1,.cons ⟨_,rfl,hp.2.1⟩ v2⟩
 obtain ⟨vs,v1,v2⟩:=key acc'.toList kvs ys rel (by rw [aS,hacc.1,hl]) λj v ev=>by
  obtain ⟨en,e1,rfl⟩:=hacc.2 j v (by rw [←bL];exact ev)
  rw [←bL,hes,aM] at e1
  cases hy:ys[j]? with
  |none=>rw [hy] at e1;cases e1
  |some y =>
   rw [hy] at e1
   have e2:=ar e1
   exact ⟨y,rfl,by rw [←e2];rfl⟩
 have hv:vs.length≤sizeLine:=by rw [v1.length,aS,hacc.1,hl];exact z
 exact ⟨.ref _,_,I.laid (t':=tk) hk (af _) (show ObjOk X.prog X.w _ h' _ (.lst vs) from ⟨hv,acc'.toList,c',v1,by simpa using hD⟩),rfl,q _ _ (I.hok.fresh (af _)) v2⟩
end
end L2
namespace L2
open PySem PySem.Spec PyProof.Rows
section
variable {X:Cx}{pins:List (Aj×Obj)}{σ:St}{H:Hp}{s:Ab}{h':Heap}{ch:List Aj}
theorem Inv.turnedL {tk:Nat}(I:Inv X pins σ H s)(hk:∀b u,b∉ch→s.heap.get? b=some u→h'.get? b=some u)(hf:∀b∈ch,k7 X pins H b):Inv X pins σ H { s with heap:=h',toks:=tk }:=by
 refine I.call' (s':={ s with heap:=h',toks:=tk }) (ch:=ch) rfl ⟨λb o e n _ nx=>hk b o nx e,λb o e n _ nx=>⟨o.slots,hk b o nx e⟩,λb o e n _=>n,λb o e nx=>⟨o,hk b o nx e⟩,λ_ _ e=>e,λ_ _ _ e=>e,λb ps e=>⟨#[],by rw [e];simp⟩⟩ ?_ I.bare λb hb=>?_
 ·intro b u hu
  refine (I.hok b u hu).stay (λc v hc e=>hk c v (λz=>?_) e) (λ_ z=>z) λ_ _ z=>z
  have:=(hf c z).1
  rcases hc with rfl|hc
  ·rw [this] at hu;cases hu
  ·rw [this] at hc;cases hc
 ·obtain ⟨q1,q2,q3,q4,q5,q6⟩:=hf b hb
  exact ⟨q4,q2,q5,q6⟩
theorem Inv.turnedT {tk:Nat}{o:HO}{ob:Obj}(I:Inv X pins σ H s)(hk:∀b u,b∉ch→s.heap.get? b=some u→h'.get? b=some u)(hn:h'.get? s.heap.objs.size=some ob)(hf:∀b∈ch,k7 X pins H b)(hc:∀b∈ch,b≠s.heap.objs.size)
  (ok:ObjOk X.prog X.w (upd H s.heap.objs.size o) (s.heap.push ob) s.heap.objs.size o) (fr:ob.isFreed=false):Inv X pins σ (upd H s.heap.objs.size o) { s with heap:=h',toks:=tk }:=by
 have I1:Inv X pins σ (upd H s.heap.objs.size o) { s with heap:=s.heap.push ob,toks:=tk }:=I.laid (t':=tk) (λb u e=>ac _ e) (af _) ok
 refine Inv.turnedL (s:={ s with heap:=s.heap.push ob,toks:=tk }) (ch:=ch) I1 (λb u nb e=>?_) λb hb=>?_
 ·rcases Heap.get?_push_cases e with ⟨rfl,rfl⟩|e
  ·exact hn
  ·exact hk b u nb e
 ·obtain ⟨q1,q⟩:=hf b hb
  exact ⟨by rw [wx (hc b hb)];exact q1,q⟩
theorem qkp {x y:V}{u v:Ag}(I:Inv X pins σ H s)(rx:RelV x u)(ry:RelV y v):ObjOk X.prog X.w (upd H s.heap.objs.size (.tup [x,y])) (s.heap.push { cls:=.type "tuple",data:=.seq #[u,v] }) s.heap.objs.size (.tup [x,y]):=by
 refine ⟨by show 2≤sizeLine;decide,[u,v],.cons rx (.cons ry .nil),?_⟩
 exact ⟨_,ak _ rfl,rfl,_,rfl⟩
end
section
variable {X:Cx}
end
def ItE (K:Aa)(a:Aj)(xs:List V):It :=
 ⟨λi H=>SqL K H a xs∧i<xs.length,λi H v H'=>∃q x,H q=none∧v=.ref q∧xs[i]?=some x∧H'=upd H q (.tup [.int (i:Nat),x]),λi H=>SqL K H a xs∧xs.length≤i⟩
theorem qjs {P:Ac}{w:Ah}{K:Aa}{es:List Expr}{k:Nat}{pos:Pos}(a z it:Aj)(xs:List V)(ap:z≠it):Turn P w K (.Tuple es k pos) (ItE K a xs) [z,it] z
  (λi h=>i≤xs.length∧(∃old,IsEnum h z it (i:Nat) old)∧h.IsListIter it a i) where
 mem:=by simp
 obj:=λi h st c hc=>by
  obtain ⟨_,⟨old,h1⟩,⟨o4,h4,c4,d4⟩⟩:=st
  have hc':c=z∨c=it:=by simpa using hc
  rcases hc' with rfl|rfl
  ·exact ⟨_,h1,λv z=>by cases z⟩
  ·exact ⟨_,h4,λv z=>by rw [d4] at z;cases z⟩
 keep:=λi h h' st k=>by
  obtain ⟨l,⟨old,h1⟩,h4⟩:=st
  exact ⟨l,⟨old,k z (by simp) _ h1⟩,h4.at λo e=>k it (by simp) o e⟩
 item:=by
  intro X hP hw hK hc i pins s σ H E I hf st hg
  subst hP hw hK
  obtain ⟨hq1,l1⟩:=hg
  obtain ⟨its,rv,p,hz⟩:=I.list hq1
  have e1:xs[i]?=some xs[i]:=au l1
  obtain ⟨u,hu,ru⟩:=rv.get e1
  obtain ⟨_,⟨old,h1⟩,h4⟩:=st
  refine wpAny_pyNext_enum_item h1 h4 p.isList (x:=u) (by simpa using hu) ap λh' g1 g2 g3 g4 g5=>?_
  refine ⟨_,rfl,wpAny_letOwnedTupleGo_enum (s:={ s with heap:=h',toks:=s.toks+1 }) g1 λh'' f1 f2=>?_⟩
  have hsz:∀c,c∈[z,it]→c≠s.heap.objs.size:=λc hc e=>by
   have hc':c=z∨c=it:=by simpa using hc
   have hlt:c<s.heap.objs.size:=by
    rcases hc' with rfl|rfl
    ·exact ah h1
    ·obtain ⟨o,e,_⟩:=h4;exact ah e
   exact aW _ (e▸hlt)
  have keepz:∀c o,c≠z→h'.get? c=some o→h''.get? c=some o:=λc o nc e=>(f2.2 c nc).trans e
  have keep:∀c o,c∉[z,it]→s.heap.get? c=some o→h''.get? c=some o:=λc o nc e=>by
   simp only [ai,av,cu,not_or] at nc
   exact keepz c o nc.1 (g5 c o nc.1 nc.2 e)
  have new:h''.get? s.heap.objs.size=some { cls:=.type "tuple",data:=.seq #[.int (i:Nat) s.toks,u] }:=keepz _ _ (aT (hsz z (by simp))) g3
  refine ⟨.ref s.heap.objs.size,_,Inv.turnedT (s:=s) (ch:=[z,it]) (tk:=s.toks+1) I keep new hf hsz (qkp I (show RelV (.int (i:Nat)) (.int (i:Nat) s.toks) from ⟨_,rfl⟩) ru) rfl,rfl,⟨_,_,I.hok.fresh (af _),rfl,e1,rfl⟩,⟨by lia,⟨u,?_⟩,g2.at λo e=>keepz _ _ (aT ap) e⟩,λc hc=>?_⟩
  ·rw [show (((i+1:Nat):Nat):Int)=(i:Int)+1 by lia]
   exact f1
  ·rw [wx (hsz c hc)]
   exact (hf c hc).1
 done:=by
  intro X hP hw hK hc i pins s σ H E I hf st hg
  subst hP hw hK
  obtain ⟨hq1,le⟩:=hg
  obtain ⟨its,rv,p,hz⟩:=I.list hq1
  have hl:=rv.length
  obtain ⟨_,⟨old,h1⟩,h4⟩:=st
  refine wpAny_pyNext_enum_end (I.ok.hd hc) h1 h4 p.isList (bF (by rw [aw];lia)) λh' g=>⟨rfl,Inv.turnedL (ch:=[z,it]) (tk:=s.toks) I (λc o nc e=>?_) hf⟩
  simp only [ai,av,cu,not_or] at nc
  exact g c o nc.2 e
 self:=λ_ _ _ _ _ st h=>let ⟨_,⟨_,e⟩,_⟩:=st;wpAny_pyIter_enum e h
section
variable {X:Cx}
def iEnum (K:Aa)(ta:TA):TI:=λσ H R=>ta σ H λvs H1=>∃a xs,vs=[.ref a]∧SqL K H1 a xs∧R (ItE K a xs) H1
theorem wxk {a:Expr}{ta:TA}{p pos:Pos}{es:List Expr}{k:Nat}{tpos:Pos}(hg:Gl X "enumerate")(hm:X.mg "enumerate" = none)(ha:PA X [a] ta)(hv:bootBuiltins "enumerate" = some (.type "enumerate"):=by rfl)
  (hs:starEach [a] X.env=[(false,eval a X.env)]:=by rfl):PI X (.Tuple es k tpos) (.Call (.Name "enumerate" p) [a] [] pos) (iEnum X.K ta):=by
 intro pins s σ H R I h
 refine Call_ (qws I hg hm hv (cC (thn (ha pos pins s σ H _ I h) λus s1 ⟨vs,H1,I1,r1,q1⟩=>?_) hs rfl))
 obtain ⟨a,xs,e,hq1,q⟩:=q1
 subst e
 cases r1 with
 |cons r rr =>
   cases rr
   cases r
   obtain ⟨its,rv,p,hz⟩:=I1.list hq1
   refine call_enumerate_list p.isList λh' g1 g4 g6 g7=>?_
   refine wpAny_pyIter_enum g1 ?_
   have I2:Inv X pins σ H1 { s1 with heap:=h' }:=I1.kept (t':=s1.toks) g7
   refine ⟨s1.heap.objs.size+1,[s1.heap.objs.size+1,s1.heap.objs.size],_,_,H1,rfl,I2,qjs a _ _ xs (Nat.succ_ne_self _),⟨az _,⟨_,g1⟩,g4⟩,λc hc=>?_,q⟩
   have hc':s1.heap.objs.size≤c:=by
    have:c=s1.heap.objs.size+1∨c=s1.heap.objs.size:=by simpa using hc
    rcases this with e | e <;> (rw [e];first | exact af _ | exact Nat.le_add_right _ _)
   exact I1.fpOk hc' (I1.hok.fresh hc')
end
section
variable {X:Cx}{elt iter tg:Expr}{x y2:Str}{pos:Pos}{scope:Scope}{cl:List (Str×Aj)}{M:List Nat}{wi:TI}{gg:TG}{te:TE}
end
end L2
namespace L2
open PySem PySem.Spec PyProof.Rows PySem.W
def Fz (H:Hp)(d:Aj)(o:Obj)(kvs:List (Key×V))(H':Hp):Prop:=H' d=some (.frz o (.dK kvs))∧∀b,b≠d→H' b=H b
section
variable {X:Cx}{pins:List (Aj×Obj)}{σ:St}{H:Hp}{s:Ab}{d:Aj}{kvs:List (Key×V)}
theorem Inv.freeze {o:Obj}(I:Inv X pins σ H s)(e:H d=some (.dK kvs))(ho:s.heap.get? d=some o):Inv X pins σ (upd H d (.frz o (.dK kvs))) s:=by
 obtain ⟨z,hd,vs,rel,dd⟩:=qqz I.hok e
 exact Inv.write (t':=s.toks) (h':=s.heap) I (by rw [e];exact trivial) (.inl rfl) (λ_ _ _ e=>e) ⟨o,ho⟩ ⟨ho,Yk z hd rel dd⟩
theorem Qt {o:Obj}(I:Inv X pins σ H s)(e:H d=some (.frz o (.dK kvs))):kvs.length≤sizeLine∧(d==sysModules)=false∧s.heap.get? d=some o∧∃vs es ep,KV kvs vs∧o.data=.dict es ep∧s.heap.DictAt (xq X.prog X.w) d vs ep:=by
 obtain ⟨ho,z,hd,vs,rel,dd⟩:=(show ObjOk X.prog X.w H s.heap d (.frz o (.dK kvs)) from I.hok d _ e)
 obtain ⟨o',es,ep,h1,h2,h3,h4⟩:=id dd
 have:o'=o:=ar (h1.symm.trans ho)
 subst this
 exact ⟨z,hd,ho,vs,es,ep,rel,h3,o',es,h1,h2,h3,h4⟩
theorem Inv.freezeRd (I:Inv X pins σ H s)(e:Rd H d (.dK kvs)):∃o H',Fz H d o kvs H'∧Inv X pins σ H' s:=by
 rcases e with e|⟨o,e⟩
 ·obtain ⟨z,hd,vs,rel,o,es,ep,ho,r⟩:=qqz I.hok e
  exact ⟨o,_,⟨qb,λb nb=>wx nb⟩,I.freeze e ho⟩
 ·exact ⟨o,H,⟨e,λ_ _=>rfl⟩,I⟩
theorem qy2 {P:Ac}{w:Ah}{k:Key}{u:Ag}(h:(xq P w).is k u=true):RelV (kV k) u:=by
 rcases x9 (show Zd k u=true from h) with ⟨i,t,rfl,rfl⟩|⟨x,t,rfl,rfl⟩
 ·exact ⟨t,rfl⟩
 ·exact ⟨t,rfl⟩
end
def ItD (d:Aj)(o:Obj)(kvs:List (Key×V)):It :=
 ⟨λi H=>H d=some (.frz o (.dK kvs))∧i<kvs.length,λi H v H'=>H'=H∧∃p,kvs[i]?=some p∧v=kV p.1,λi H=>H d=some (.frz o (.dK kvs))∧kvs.length≤i⟩
theorem qv7 {kvs:List (Key×V)}{vs:List (Key×Ag)}(r:KV kvs vs){i:Nat}{p:Key×V}(e:kvs[i]?=some p):∃q,vs[i]?=some (p.1,q)∧RelV p.2 q:=by
 induction r generalizing i with
 |nil=>cases e
 |cons h t ih =>
  cases i with
  |zero =>
   cases e
   obtain ⟨h1,h2⟩:=h
   rename_i b _ _
   exact ⟨b.2,by show some b=some (_,b.2);rw [h1],h2⟩
  |succ i=>exact ih e
theorem ww6 {P:Ac}{w:Ah}{K:Aa}{tg:Expr}{d it:Aj}{o:Obj}{kvs:List (Key×V)}{ep:Nat}(hep:∃es,o.data=.dict es ep):Turn P w K tg (ItD d o kvs) [it] it (λi h=>h.IsKeyIter it d i kvs.length ep) where
 mem:=by simp
 obj:=λi h st b hb=>by
  have e:b=it:=by simpa using hb
  subst e
  obtain ⟨ob,e,c,dd⟩:=st
  exact ⟨ob,e,λv z=>by rw [dd] at z;cases z⟩
 keep:=λi h h' st k=>st.at λob e=>k it (by simp) ob e
 item:=by
  intro X hP hw hK hc i pins s σ H E I hf st hg
  subst hP hw hK
  obtain ⟨hq,hi⟩:=hg
  obtain ⟨z,hd,ho,vs,es,ep',rel,h3,dd⟩:=Qt I hq
  obtain ⟨es2,h4⟩:=hep
  have:ep'=ep:=by rw [h3] at h4;cases h4;rfl
  subst this
  have e1:kvs[i]?=some kvs[i]:=au hi
  obtain ⟨q,eq,rq⟩:=qv7 rel e1
  have hl:vs.length=kvs.length:=(bc rel).symm
  obtain ⟨f0,f1,f2,f3,f4,f5⟩:=hf it (by simp)
  refine wpAny_pyNext_dict_item (by rw [hl];exact st) dd eq λkey h' hk st' sb=>?_
  have I1:Inv X pins σ H { s with heap:=h' }:=I.turned (t':=s.toks) (λb o hb e=>(sb.2 b hb).trans e) f0 f1 f3 f4 f5
  rw [hl] at st'
  obtain ⟨ob,e,c,d'⟩:=id st'
  exact ⟨key,rfl,qzv (s:={ s with heap:=h' }) e c d' (by decide) ⟨_,H,I1,qy2 hk,⟨rfl,_,e1,rfl⟩,st',λb hb=>(hf b hb).1⟩⟩
 done:=by
  intro X hP hw hK hc i pins s σ H E I hf st hg
  subst hP hw hK
  obtain ⟨hq,hi⟩:=hg
  obtain ⟨z,hd,ho,vs,es,ep',rel,h3,dd⟩:=Qt I hq
  obtain ⟨es2,h4⟩:=hep
  have:ep'=ep:=by rw [h3] at h4;cases h4;rfl
  subst this
  have hl:vs.length=kvs.length:=(bc rel).symm
  obtain ⟨f0,f1,f2,f3,f4,f5⟩:=hf it (by simp)
  exact wpAny_pyNext_dict_end (I.ok.hd hc) (by rw [hl];exact st) dd (bM (by lia)) λh' eb=>⟨rfl,I.turned (t':=s.toks) (λb o hb e=>eb b o hb e) f0 f1 f3 f4 f5⟩
 self:=λ_ _ _ _ _ st h=>wpAny_pyIter_keyiter st h
def ItDI (d:Aj)(o:Obj)(kvs:List (Key×V)):It :=
 ⟨λi H=>H d=some (.frz o (.dK kvs))∧i<kvs.length,λi H v H'=>∃q p,H q=none∧v=.ref q∧kvs[i]?=some p∧H'=upd H q (.tup [kV p.1,p.2]),λi H=>H d=some (.frz o (.dK kvs))∧kvs.length≤i⟩
theorem wx4 {P:Ac}{w:Ah}{K:Aa}{xs:List Expr}{k:Nat}{pos:Pos}{d it:Aj}{o:Obj}{kvs:List (Key×V)}{ep:Nat}(hep:∃es,o.data=.dict es ep):Turn P w K (.Tuple xs k pos) (ItDI d o kvs) [it] it (λi h=>∃ok ov,IsItemIter h it d i kvs.length ep ok ov) where
 mem:=by simp
 obj:=λi h st b hb=>by
  have e:b=it:=by simpa using hb
  subst e
  obtain ⟨ok,ov,e⟩:=st
  exact ⟨_,e,λv z=>by cases z⟩
 keep:=λi h h' st k=>by
  obtain ⟨ok,ov,e⟩:=st
  exact ⟨ok,ov,k it (by simp) _ e⟩
 item:=by
  intro X hP hw hK hc i pins s σ H E I hf st hg
  subst hP hw hK
  obtain ⟨hq,hi⟩:=hg
  obtain ⟨z,hd,ho,vs,es,ep',rel,h3,dd⟩:=Qt I hq
  obtain ⟨es2,h4⟩:=hep
  have:ep'=ep:=by rw [h3] at h4;cases h4;rfl
  subst this
  have e1:kvs[i]?=some kvs[i]:=au hi
  obtain ⟨q,eq,rq⟩:=qv7 rel e1
  have hl:vs.length=kvs.length:=(bc rel).symm
  obtain ⟨ok,ov,st⟩:=st
  refine wpAny_pyNext_items_item (by rw [hl];exact st) dd eq λkey h' hk g1 g2 g3 g4=>?_
  refine ⟨_,rfl,wpAny_letOwnedTupleGo_items (s:={ s with heap:=h' }) g1 λh'' j1 j2=>?_⟩
  have ne:it≠s.heap.objs.size:=ax (ah st)
  have new:h''.get? s.heap.objs.size=some { cls:=.type "tuple",data:=.seq #[key,q] }:=(j2.2 _ (aT ne)).trans g2
  refine ⟨.ref s.heap.objs.size,_,Inv.turnedT (s:=s) (ch:=[it]) (tk:=s.toks) I (λb u nb e=>?_) new hf (λb hb=>?_) (qkp I (qy2 hk) rq) rfl,rfl,⟨_,_,I.hok.fresh (af _),rfl,e1,rfl⟩,⟨_,_,by rw [←hl];exact j1⟩,λb hb=>?_⟩
  ·have nb:b≠it:=by simpa using nb
   exact (j2.2 b nb).trans (g4 b u nb e)
  ·have e:b=it:=by simpa using hb
   rw [e];exact ne
  ·have e:b=it:=by simpa using hb
   rw [e,wx ne];exact (hf it (by simp)).1
 done:=by
  intro X hP hw hK hc i pins s σ H E I hf st hg
  subst hP hw hK
  obtain ⟨hq,hi⟩:=hg
  obtain ⟨z,hd,ho,vs,es,ep',rel,h3,dd⟩:=Qt I hq
  obtain ⟨es2,h4⟩:=hep
  have:ep'=ep:=by rw [h3] at h4;cases h4;rfl
  subst this
  have hl:vs.length=kvs.length:=(bc rel).symm
  obtain ⟨f0,f1,f2,f3,f4,f5⟩:=hf it (by simp)
  obtain ⟨ok,ov,st⟩:=st
  exact wpAny_pyNext_items_end (I.ok.hd hc) (by rw [hl];exact st) dd (bM (by lia)) λh' eb=>⟨rfl,I.turned (t':=s.toks) (λb o hb e=>eb b o hb e) f0 f1 f3 f4 f5⟩
 self:=λ_ _ _ _ _ st h=>by
  obtain ⟨ok,ov,e⟩:=st
  exact kcp_self e h
section
variable {X:Cx}{tg l:Expr}{tl:TE}
def iDk (tl:TE):TI:=λσ H R=>tl σ H λx H1=>∃d kvs,x=.ref d∧Rd H1 d (.dK kvs)∧∀o H2,Fz H1 d o kvs H2→R (ItD d o kvs) H2
theorem pi_dk (hl:PE X l tl):PI X tg l (iDk tl):=by
 intro pins s σ H R I h
 refine thn (hl pins s σ H _ I h) λv s1 ⟨x,H1,I1,r1,q1⟩=>?_
 obtain ⟨d,kvs,e,rd,q⟩:=q1
 subst e
 cases r1
 obtain ⟨o,H2,fz,I2⟩:=I1.freezeRd rd
 obtain ⟨z,hd,ho,vs,es,ep,rel,h3,dd⟩:=Qt I2 fz.1
 have hl:vs.length=kvs.length:=(bc rel).symm
 refine wpAny_pyIter_dict hd dd ?_
 refine ⟨s1.heap.objs.size,[s1.heap.objs.size],_,_,H2,rfl,I2.kept (t':=s1.toks) λb o e=>ac _ e,ww6 ⟨es,h3⟩,⟨_,ak _ rfl,rfl,by rw [hl];rfl⟩,λb hb=>?_,q o H2 fz⟩
 have e:b=s1.heap.objs.size:=by simpa using hb
 subst e
 exact I2.fpOk (af _) (I2.hok.fresh (af _))
def iDi (tl:TE):TI:=λσ H R=>tl σ H λx H1=>∃d kvs,x=.ref d∧Rd H1 d (.dK kvs)∧∀o H2,Fz H1 d o kvs H2→R (ItDI d o kvs) H2
theorem pi_di {apos cpos tpos:Pos}{xs:List Expr}{k:Nat}(hl:PE X l tl)(hbase:attributeBase l "items" X.env (eval l X.env)=eval l X.env:=by rfl)(hline:(apos.endLine==cpos.line)=true:=by rfl) :
  PI X (.Tuple xs k tpos) (.Call (.Attribute l "items" apos) [] [] cpos) (iDi tl):=by
 intro pins s σ H R I h
 refine wpAny_Call_method0_late hbase hline (thn (hl pins s σ H _ I h) λv s1 ⟨x,H1,I1,r1,q1⟩=>?_)
 obtain ⟨d,kvs,e,rd,q⟩:=q1
 subst e
 cases r1
 obtain ⟨o,H2,fz,I2⟩:=I1.freezeRd rd
 obtain ⟨t1,t2,_⟩:=qz5 I1 (.inl ⟨kvs,rd⟩)
 obtain ⟨z,hd,ho,vs,es,ep,rel,h3,dd⟩:=Qt I2 fz.1
 have hl:vs.length=kvs.length:=(bc rel).symm
 refine ⟨"dict","dict.items",cV,eA,PySem.F.type_dict_items,t1,t2,bE rfl (PySem.evalArgs_none ?_)⟩
 refine cK eA t1 PySem.F.entry_dict_items (PySem.F.args_dict_items_1 _) (meets_dict_items (xq X.prog X.w) d hd) ⟨⟨vs,dd.dictOf⟩,?_⟩
 have I3:Inv X pins σ H2 { s1 with heap:=s1.heap.push { cls:=.type "dict_items",data:=.fields #[.ref d] } }:=I2.kept (t':=s1.toks) λb o e=>ac _ e
 refine wpAny_pyIter_items (s:={ s1 with heap:=s1.heap.push { cls:=.type "dict_items",data:=.fields #[.ref d] } }) ⟨_,ak _ rfl,rfl,rfl⟩ (dd.push _) ?_
 refine ⟨_,[_],_,_,H2,rfl,I3.kept (t':=s1.toks) λb o e=>ac _ e,wx4 ⟨es,h3⟩,⟨.none,.none,?_⟩,λb hb=>?_,q o H2 fz⟩
 ·rw [hl]
  exact ak _ rfl
 ·have e:=aC.mp hb
  subst e
  exact I3.fpOk (af _) (I3.hok.fresh (af _))
def ItS (x:Str):It:=⟨λi _=>i<x.cps.size,λi H v H'=>H'=H∧v=.str ⟨#[x.cps.getD i 0]⟩,λi _=>x.cps.size≤i⟩
theorem qjv {P:Ac}{w:Ah}{K:Aa}{it:Aj}{x:Str}{t:Tok}:Turn P w K tg (ItS x) [it] it (λi h=>h.IsStrIter it "str_ascii_iterator" x t i) where
 mem:=by simp
 obj:=λi h st b hb=>by
  have e:b=it:=by simpa using hb
  subst e
  obtain ⟨ob,e,c,dd⟩:=st
  exact ⟨ob,e,λv z=>by rw [dd] at z;cases z⟩
 keep:=λi h h' st k=>by
  obtain ⟨ob,e,r⟩:=st
  exact ⟨ob,k it (by simp) ob e,r⟩
 item:=by
  intro X hP hw hK hc i pins s σ H E I hf st hg
  subst hP hw hK
  have hg:i<x.cps.size:=hg
  obtain ⟨f0,f1,f2,f3,f4,f5⟩:=hf it (by simp)
  refine wpAny_pyNext_ascii_item st (c:=x.cps.getD i 0) (by rw [dL,bp hg];rfl) λh' st' sb=>?_
  have I1:Inv X pins σ H { s with heap:=h',toks:=s.toks+1 }:=I.turned (t':=s.toks+1) (λb o hb e=>(sb.2 b hb).trans e) f0 f1 f3 f4 f5
  obtain ⟨ob,e,c,d'⟩:=id st'
  exact ⟨_,rfl,qzv (s:={ s with heap:=h',toks:=s.toks+1 }) e c d' (by decide) ⟨.str ⟨#[x.cps.getD i 0]⟩,H,I1,⟨_,rfl⟩,⟨rfl,rfl⟩,st',λb hb=>(hf b hb).1⟩⟩
 done:=by
  intro X hP hw hK hc i pins s σ H E I hf st hg
  subst hP hw hK
  obtain ⟨f0,f1,f2,f3,f4,f5⟩:=hf it (by simp)
  exact wpAny_pyNext_ascii_end (I.ok.hd hc) st (bF hg) λh' eb=>⟨rfl,I.turned (t':=s.toks) (λb o hb e=>eb b o hb e) f0 f1 f3 f4 f5⟩
 self:=λ_ _ _ _ _ st h=>wpAny_pyIter_striter_ascii st h
theorem qj5 {P:Ac}{w:Ah}{K:Aa}{it:Aj}{x:Str}{t:Tok}:Turn P w K tg (ItS x) [it] it (λi h=>h.IsStrIter it "str_iterator" x t i) where
 mem:=by simp
 obj:=λi h st b hb=>by
  have e:b=it:=by simpa using hb
  subst e
  obtain ⟨ob,e,c,dd⟩:=st
  exact ⟨ob,e,λv z=>by rw [dd] at z;cases z⟩
 keep:=λi h h' st k=>by
  obtain ⟨ob,e,r⟩:=st
  exact ⟨ob,k it (by simp) ob e,r⟩
 item:=by
  intro X hP hw hK hc i pins s σ H E I hf st hg
  subst hP hw hK
  have hg:i<x.cps.size:=hg
  obtain ⟨f0,f1,f2,f3,f4,f5⟩:=hf it (by simp)
  refine wpAny_pyNext_wide_item st (c:=x.cps.getD i 0) (by rw [dL,bp hg];rfl) λh' st' sb=>?_
  have I1:Inv X pins σ H { s with heap:=h',toks:=s.toks+1 }:=I.turned (t':=s.toks+1) (λb o hb e=>(sb.2 b hb).trans e) f0 f1 f3 f4 f5
  obtain ⟨ob,e,c,d'⟩:=id st'
  exact ⟨_,rfl,qzv (s:={ s with heap:=h',toks:=s.toks+1 }) e c d' (by decide) ⟨.str ⟨#[x.cps.getD i 0]⟩,H,I1,⟨_,rfl⟩,⟨rfl,rfl⟩,st',λb hb=>(hf b hb).1⟩⟩
 done:=by
  intro X hP hw hK hc i pins s σ H E I hf st hg
  subst hP hw hK
  obtain ⟨f0,f1,f2,f3,f4,f5⟩:=hf it (by simp)
  exact wpAny_pyNext_wide_end (I.ok.hd hc) st (bF hg) λh' eb=>⟨rfl,I.turned (t':=s.toks) (λb o hb e=>eb b o hb e) f0 f1 f3 f4 f5⟩
 self:=λ_ _ _ _ _ st h=>wpAny_pyIter_striter_wide st h
def iStr (tl:TE):TI:=λσ H R=>tl σ H λv H1=>∃x,v=.str x∧R (ItS x) H1
theorem pi_str (hl:PE X l tl):PI X tg l (iStr tl):=by
 intro pins s σ H R I h
 refine thn (hl pins s σ H _ I h) λv s1 ⟨v',H1,I1,r1,x,e,q⟩=>?_
 subst e
 obtain ⟨t,rfl⟩:=(show ∃t,v=Value.str x t from r1)
 cases ha:x.cps.all (·<128)
 ·refine wpAny_pyIter_wide ha ⟨s1.heap.objs.size,[s1.heap.objs.size],_,_,H1,rfl,I1.kept (t':=s1.toks) λb o e=>ac _ e,qj5 (t:=t),⟨_,ak _ rfl,rfl,rfl⟩,λb hb=>?_,q⟩
  have e:=aC.mp hb
  subst e
  exact I1.fpOk (af _) (I1.hok.fresh (af _))
 ·refine wpAny_pyIter_ascii ha ⟨s1.heap.objs.size,[s1.heap.objs.size],_,_,H1,rfl,I1.kept (t':=s1.toks) λb o e=>ac _ e,qjv (t:=t),⟨_,ak _ rfl,rfl,rfl⟩,λb hb=>?_,q⟩
  have e:=aC.mp hb
  subst e
  exact I1.fpOk (af _) (I1.hok.fresh (af _))
end
end L2
namespace L2
open PySem
def rs (mask:Nat)(q:Nat×Nat):SetTable.Probe:={ j:=q.1,more:=SetTable.runEnd mask q.1-q.1,i:=q.1,perturb:=q.2,dummy:=none }
theorem qq3:∀(l l':List Nat),l.Nodup→(∀a∈l,a∈l')→l.length≤l'.length
 |[],_,_,_=>az _
 |a::l,l',hn,hs=>by
  have hn':=aQ.mp hn
  have ha:=hs a (.head _)
  have:=qq3 l (l'.erase a) hn'.2 λb hb=>(List.mem_erase_of_ne (λz=>by subst z;exact hn'.1 hb)).mpr (hs b (.tail _ hb))
  rw [d5,am ha] at this
  have hp:0<l'.length:=List.length_pos_of_mem ha
  rw [aK]
  lia
def liveL (mask:Nat)(owner:Array (Option Nat)):List (Nat×Nat):=(List.range (mask+1)).filterMap λj=>(owner.getD j none).map (j,·)
structure OwnI (mask:Nat)(owner:Array (Option Nat))(k:Nat):Prop where
 size:owner.size=mask+1
 len:(liveL mask owner).length=k
 low:∀j v:Nat,owner[j]?=some (some v)→v<k
end L2
namespace L2
open PySem PySem.Spec PyProof.Rows
def Rows (q:Aj)(B:Hp)(L:List (List V))(ys:List V)(H:Hp):Prop:=Paired (λv xs=>∃a,v=.ref a∧a≠q∧B a=none∧H a=some (.lst xs)) ys L
theorem xg {H H':Hp}(s:Same H H'){a:Aj}(n:H' a=none):H a=none:=by
 cases e:H a with
 |none=>rfl
 |some o=>rw [s _ _ e] at n;cases n
def Yp (c:Nat→Bool)(xs:List V)(n:Nat):List V:=((List.range n).filter c).map λi=>xs.getD i .non
theorem qvh {K:Aa}{M:List Nat}{a:Aj}{xs:List V}{tt:TT}{te:TE}{σ:St}{H:Hp}{Q:VK}(c:Nat→Bool)(hS:SqL K H a xs)(hn:xs.length≤1000000)
  (ht:∀(i:Nat) (x:V) (H':Hp) (R:Bool→Hp→Prop),xs[i]?=some x→Same H H'→(∀H'',Same H' H''→R (c i) H'')→tt (zu M σ (some x)) H' R)
  (he:∀(i:Nat) (x:V) (H':Hp) (R:VK),xs[i]?=some x→c i=true→Same H H'→(∀H'',Same H' H''→R x H'')→te (zu M σ (some x)) H' R)
  (k:∀p H',H p=none→Same H H'→H' p=some (.lst (Yp c xs xs.length))→Q (.ref p) H'):qvn (Itl K a) M tt te σ H Q:=by
 intro p np
 refine ⟨λi m ys H2=>i≤xs.length∧m=xs.length-i∧ys=Yp c xs i∧Same H H2∧H2 p=some (.lst ys),⟨xs.length,az _,rfl,rfl,Same.upd np,qb⟩,?_⟩
 rintro i m ys H2 ⟨hi,rfl,rfl,sm,hp⟩
 refine ⟨hp,?_,?_⟩
 ·unfold Yp
  rw [ae]
  have:=cB c (List.range i)
  rw [aG] at this
  have:(1000000:Nat)<sizeLine:=by decide
  lia
 ·by_cases hlt:i<xs.length
  ·have hx:xs[i]?=some xs[i]:=au hlt
   refine .inr ⟨⟨xs,_,sm.sql hS,hx⟩,?_⟩
   rintro v H3 ⟨rfl,hv⟩
   have e:=ar (hx.symm.trans (hv xs (sm.sql hS)))
   subst e
   refine ht i _ _ _ hx sm λH4 s4=>?_
   have hp4:=s4 _ _ hp
   have hg:xs.getD i .non=xs[i]:=by rw [al,hx];rfl
   cases hc:c i with
   |true =>
    refine k4 ?_
    refine he i _ _ _ hx hc (sm.trans s4) λH5 s5=>⟨s5 _ _ hp4,xs.length-(i+1),by lia,by lia,rfl,?_,λb o e=>?_,qb⟩
    ·unfold Yp
     rw [bR,List.filter_append,aR]
     simp only [cn,hc,eF,List.filter_nil,aD,bD,hg]
    ·rw [wx (qf e np)]
     exact s5 _ _ (s4 _ _ (sm _ _ e))
   |false =>
    refine uc ?_
    refine ⟨hp4,xs.length-(i+1),by lia,by lia,rfl,?_,sm.trans s4,hp4⟩
    unfold Yp
    rw [bR,List.filter_append,aR]
    simp only [cn,hc,bJ,cX,List.filter_nil,bD,cz]
  ·have:i=xs.length:=by lia
   subst this
   exact .inl ⟨⟨xs,sm.sql hS,af _⟩,k p H2 np sm hp⟩
end L2
namespace L2
open PySem PySem.Spec PyProof.Rows
def Bef (a:Array Ai)(p q:Nat):Prop:=K a p<K a q∨(K a p=K a q∧p<q)
structure From (a xs:Array Ai)(k:Nat)(ix:Nat→Nat):Prop where
 at_:∀i,xs[i]?=a[ix i]?
 rest:∀i,k≤i→ix i=i
 low:∀i,i<k→ix i<k
theorem From.key {a xs:Array Ai}{k:Nat}{ix:Nat→Nat}(f:From a xs k ix)(i:Nat):K xs i=K a (ix i):=K_congr (f.at_ i)
theorem From.more {a xs:Array Ai}{k:Nat}{ix:Nat→Nat}(f:From a xs k ix):From a xs (k+1) ix :=
 ⟨f.at_,λi h=>f.rest i (by lia),λi h=>by
  by_cases e:i<k
  ·have:=f.low i e;lia
  ·have:=f.rest i (by lia);lia⟩
theorem From.mirror {a xs:Array Ai}{k b:Nat}{ix:Nat→Nat}(f:From a xs k ix)(hk:k≤xs.size):From a (mirror xs b k ((k-b)/2)) k (λi=>if b≤i∧i<k then ix (b+k-1-i) else ix i):=by
 refine ⟨λi=>?_,λi h=>?_,λi h=>?_⟩
 ·rw [getElem?_mirror_all hk]
  by_cases c:b≤i∧i<k
  ·simp only [am c]
   exact f.at_ _
  ·simp only [aj c]
   exact f.at_ _
 ·simp only [aj (show ¬ (b≤i∧i<k) by lia)]
  exact f.rest i h
 ·by_cases c:b≤i∧i<k
  ·simp only [am c]
   exact f.low _ (by lia)
  ·simp only [aj c]
   exact f.low i h
def Up (a xs:Array Ai)(k:Nat):Prop:=∃ix,From a xs k ix∧∀i j,i<j→j<k→Bef a (ix i) (ix j)
def Dr (a xs:Array Ai)(k:Nat):Prop:=∃ix,From a xs k ix∧∀i j,i<j→j<k→Bef a (ix j) (ix i)
def Dn (a xs:Array Ai)(k e:Nat):Prop:=e+1≤k∧∃ix,From a xs k ix∧(∀i j,i<j→j<k-(e+1)→Bef a (ix j) (ix i))∧(∀i j,i<k-(e+1)→k-(e+1)≤j→j<k→K a (ix j)<K a (ix i)) ∧
 ∀i j,k-(e+1)≤i→i<j→j<k→K a (ix i)=K a (ix j)∧ix i<ix j
section
variable {a xs:Array Ai}{k e:Nat}
theorem Up.le (h:Up a xs k){i j:Nat}(hij:i≤j)(hj:j<k):K xs i≤K xs j:=by
 obtain ⟨ix,f,o⟩:=h
 rw [f.key,f.key]
 by_cases c:i=j
 ·subst c;exact Int.le_refl _
 ·rcases o i j (by lia) hj with h|h <;> lia
theorem Up.grow (h:Up a xs k)(hk:1≤k)(hn:¬ K xs k<K xs (k-1)):Up a xs (k+1):=by
 obtain ⟨ix,f,o⟩:=h
 rw [f.key,f.key,f.rest k (af _)] at hn
 refine ⟨ix,f.more,λi j hij hj=>?_⟩
 by_cases c:j<k
 ·exact o i j hij c
 ·obtain rfl:j=k:=by lia
  have hl:=f.low i hij
  rw [f.rest j (af _)]
  unfold Bef
  by_cases c2:i=j-1
  ·subst c2;lia
  ·rcases o i (j-1) (by lia) (by lia) with h|h <;> lia
theorem Dr.up (h:Dr a xs k)(hk:k≤xs.size):Up a (mirror xs 0 k ((k-0)/2)) k:=by
 obtain ⟨ix,f,o⟩:=h
 refine ⟨_,f.mirror hk,λi j hij hj=>?_⟩
 simp only [am (show 0≤i∧i<k by lia),am (show 0≤j∧j<k by lia)]
 exact o _ _ (by lia) (by lia)
theorem Dn.flat (h:Dn a xs k 0):Dr a xs k:=by
 obtain ⟨h0,ix,f,o1,o2,o3⟩:=h
 refine ⟨ix,f,λi j hij hj=>?_⟩
 by_cases c:j<k-(0+1)
 ·exact o1 i j hij c
 ·exact .inl (o2 i j (by lia) (by lia) hj)
theorem Dn.turn (h:Dn a xs k e)(hk:k≤xs.size):Dr a (mirror xs (k-(e+1)) k ((k-(k-(e+1)))/2)) k:=by
 obtain ⟨h0,ix,f,o1,o2,o3⟩:=h
 refine ⟨_,f.mirror hk,λi j hij hj=>?_⟩
 by_cases c1:k-(e+1)≤i
 ·simp only [am (show k-(e+1)≤i∧i<k by lia),am (show k-(e+1)≤j∧j<k by lia)]
  exact .inr (o3 _ _ (by lia) (by lia) (by lia))
 ·simp only [aj (show ¬ (k-(e+1)≤i∧i<k) by lia)]
  by_cases c2:k-(e+1)≤j
  ·simp only [am (show k-(e+1)≤j∧j<k by lia)]
   exact .inl (o2 _ _ (by lia) (by lia) (by lia))
  ·simp only [aj (show ¬ (k-(e+1)≤j∧j<k) by lia)]
   exact o1 i j hij (by lia)
theorem Dr.grow (h:Dr a xs k)(hk:1≤k)(hn:K xs k<K xs (k-1)):Dn a xs (k+1) 0:=by
 obtain ⟨ix,f,o⟩:=h
 rw [f.key,f.key,f.rest k (af _)] at hn
 refine ⟨by lia,ix,f.more,λi j hij hj=>o i j hij (by lia),λi j hi h1 h2=>?_,λi j h1 h2 h3=>by lia⟩
 obtain rfl:j=k:=by lia
 rw [f.rest j (af _)]
 by_cases c:i=j-1
 ·subst c;exact hn
 ·rcases o i (j-1) (by lia) (by lia) with h|h <;> lia
theorem Dn.grow (h:Dn a xs k e)(h1:¬ K xs k<K xs (k-1))(h2:¬ K xs (k-1)<K xs k):Dn a xs (k+1) (e+1):=by
 obtain ⟨h0,ix,f,o1,o2,o3⟩:=h
 rw [f.key,f.key,f.rest k (af _)] at h1 h2
 have hk1:k+1-(e+1+1)=k-(e+1):=by lia
 refine ⟨by lia,ix,f.more,?_,?_,?_⟩
 ·rw [hk1];exact o1
 ·rw [hk1]
  intro i j hi hj1 hj2
  by_cases c:j<k
  ·exact o2 i j hi hj1 c
  ·obtain rfl:j=k:=by lia
   rw [f.rest j (af _)]
   have:=o2 i (j-1) hi (by lia) (by lia)
   lia
 ·rw [hk1]
  intro i j hi hij hj
  by_cases c:j<k
  ·exact o3 i j hi hij c
  ·obtain rfl:j=k:=by lia
   rw [f.rest j (af _)]
   refine ⟨?_,f.low i hij⟩
   by_cases c2:i=j-1
   ·subst c2;lia
   ·have:=(o3 i (j-1) hi (by lia) (by lia)).1
    lia
theorem Up.even (h:Up a xs k)(hk:1≤k)(hz:k≤xs.size)(hr:¬ K xs 0<K xs (k-1)):Dr a (mirror xs 0 k ((k-0)/2)) k:=by
 have hle:=@Up.le a xs k h
 obtain ⟨ix,f,o⟩:=h
 have hall:∀i,i<k→K a (ix i)=K a (ix 0):=λi hi=>by
  have e1:=hle (i:=0) (j:=i) (by lia) hi
  have e2:=hle (i:=i) (j:=k-1) (by lia) (by lia)
  rw [f.key,f.key] at e1 e2 hr
  lia
 refine ⟨_,f.mirror hz,λi j hij hj=>?_⟩
 simp only [am (show 0≤i∧i<k by lia),am (show 0≤j∧j<k by lia)]
 have e1:=hall (0+k-1-i) (by lia)
 have e2:=hall (0+k-1-j) (by lia)
 rcases o (0+k-1-j) (0+k-1-i) (by lia) (by lia) with h|h
 ·exact .inl h
 ·exact .inr h
theorem Up.put (h:Up a xs k)(hk:k<xs.size){l:Nat}(hl:l≤k)(h1:∀i,i<l→K xs i≤K xs k)(h2:∀i,l≤i→i<k→K xs k<K xs i):Up a (bubble xs k (k-l)) (k+1):=by
 obtain ⟨ix,f,o⟩:=h
 have hkk:k-(k-l)=l:=by lia
 have hr:=f.rest k (af _)
 refine ⟨λi=>if i=l then k else if l<i∧i≤k then ix (i-1) else ix i,⟨λi=>?_,λi hi=>?_,λi hi=>?_⟩,λi j hij hj=>?_⟩
 ·rw [getElem?_bubble hk _ (by lia),hkk]
  by_cases c:i=l
  ·simp only [am c]
   rw [f.at_,hr]
  ·simp only [aj c]
   by_cases c2:l<i∧i≤k
   ·simp only [am c2]
    exact f.at_ _
   ·simp only [aj c2]
    exact f.at_ _
 ·simp only [aj (show ¬ i=l by lia),aj (show ¬ (l<i∧i≤k) by lia)]
  exact f.rest i (by lia)
 ·by_cases c:i=l
  ·simp only [am c];lia
  ·simp only [aj c]
   by_cases c2:l<i∧i≤k
   ·simp only [am c2]
    have:=f.low (i-1) (by lia)
    lia
   ·simp only [aj c2]
    have:=f.low i (by lia)
    lia
 ·have key:∀i,i<k→(i<l→K a (ix i)≤K a k)∧(l≤i→K a k<K a (ix i)):=λi hi=>by
   refine ⟨λc=>?_,λc=>?_⟩
   ·have:=h1 i c
    rw [f.key,f.key,hr] at this
    exact this
   ·have:=h2 i c hi
    rw [f.key,f.key,hr] at this
    exact this
  by_cases ci:i=l
  ·simp only [am ci,aj (show ¬ j=l by lia),am (show l<j∧j≤k by lia)]
   exact .inl ((key (j-1) (by lia)).2 (by lia))
  ·by_cases cj:j=l
   ·simp only [aj ci,am cj,aj (show ¬ (l<i∧i≤k) by lia)]
    have a1:=(key i (by lia)).1 (by lia)
    have a2:=f.low i (by lia)
    unfold Bef
    lia
   ·simp only [aj ci,aj cj]
    by_cases c3:l<i
    ·simp only [am (show l<i∧i≤k by lia),am (show l<j∧j≤k by lia)]
     exact o _ _ (by lia) (by lia)
    ·simp only [aj (show ¬ (l<i∧i≤k) by lia)]
     by_cases c4:l<j
     ·simp only [am (show l<j∧j≤k by lia)]
      exact o _ _ (by lia) (by lia)
     ·simp only [aj (show ¬ (l<j∧j≤k) by lia)]
      exact o _ _ hij (by lia)
end
section
variable {prog:Ac}{w:Ah}{A:Ae}{E:Ag→Ab→Prop}{s:Ab}{a₀:Array Ai}
end
end L2
namespace L2
open PySem PySem.Spec PyProof.Rows
theorem Jg:∀(n:Nat) (l:List Nat),l.Nodup→(∀x∈l,x<n)→l.length≤n
 |0,l,_,h=>by
  cases l with
  |nil=>exact af _
  |cons x l=>exact absurd (h x (bt ..)) (Nat.not_lt_zero _)
 |n+1,l,hn,h=>by
  have a1:=Jg n (l.erase n) (hn.erase n) λx hx=>by
   have hm:=List.mem_of_mem_erase hx
   have:=h x hm
   by_cases e:x=n
   ·subst e
    exact absurd hx (hn.not_mem_erase)
   ·lia
  have a2:l.length≤(l.erase n).length+1:=by
   rw [d5]
   split <;> lia
  lia
theorem J0:∀(n:Nat) (l:List Nat),l.Nodup→(∀x∈l,x<n)→l.length=n→l.Perm (List.range n)
 |0,l,_,_,e=>by rw [List.length_eq_zero_iff.mp e];exact List.Perm.refl _
 |n+1,l,hn,h,e=>by
  have hm:n∈l:=by
   apply bN
   intro c
   have:=Jg n l hn λx hx=>by
    have:=h x hx
    by_cases e:x=n
    ·subst e;exact absurd hx c
    ·lia
   lia
  have a1:=J0 n (l.erase n) (hn.erase n) (λx hx=>by
   have:=h x (List.mem_of_mem_erase hx)
   by_cases e:x=n
   ·subst e;exact absurd hx hn.not_mem_erase
   ·lia) (by rw [d5,am (by simpa using hm)];lia)
  rw [bR]
  exact (List.perm_cons_erase hm).trans ((a1.cons n).trans (List.perm_append_comm (l₁:=[n])))
theorem Up.places {a xs:Array Ai}(h:Up a xs a.size)(hz:xs.size=a.size):∃il:List Nat,il.Perm (List.range a.size)∧il.Pairwise (Bef a)∧xs.toList=il.map λi=>a.getD i (.none,.none):=by
 obtain ⟨ix,f,o⟩:=h
 have pw:((List.range a.size).map ix).Pairwise (Bef a):=by
  rw [bX]
  refine bw (R:=(·<·)) (λ{i j} hi hj hij=>?_) dc
  exact o i j hij (aL.mp hj)
 refine ⟨(List.range a.size).map ix,J0 _ _ ?_ ?_ (by rw [ae,aG]),pw,?_⟩
 ·refine pw.imp λ{i j} h e=>?_
  subst e
  unfold Bef at h
  lia
 ·intro x hx
  obtain ⟨i,hi,rfl⟩:=aO.mp hx
  exact f.low i (aL.mp hi)
 ·refine List.ext_getElem? λi=>?_
  rw [bY,aM,bL,f.at_]
  by_cases c:i<a.size
  ·rw [cO c]
   have:=f.low i c
   simp [Array.getD,this]
  ·rw [f.rest i (by lia),bF (by lia),bM (by rw [aG];lia)]
   rfl
end L2
namespace L2
open PySem PySem.Spec PySem.W PyProof.Rows
section
variable {n:Nat}{im:Nat→Ai}{kz:Nat→Int}{ask:Nat→Nat→(Bool→Ab→Prop)→Ab→Prop}{s:Ab}
def Gd (n:Nat)(p:Array Nat):Prop:=p.Perm (List.toArray (List.range n))
theorem Gd.size {p:Array Nat}(h:Gd n p):p.size=n:=by
 have:=Array.Perm.size_eq h
 simpa using this
theorem Gd.lt {p:Array Nat}(h:Gd n p){i:Nat}(hi:i<n):p.getD i 0<n:=by
 have hs:=h.size
 have m:p[i]'(by lia)∈p:=Array.getElem_mem _
 have:=(Array.Perm.mem_iff h).mp m
 have e:p.getD i 0=p[i]'(by lia):=by simp [Array.getD,hs,hi]
 rw [e]
 simpa using this
theorem Gd.rev {p:Array Nat}(h:Gd n p)(i j:Nat):Gd n (kas_rev p i j):=(mirror_perm _ _ _ _).trans h
theorem Gd.bub {p:Array Nat}(h:Gd n p)(i j:Nat):Gd n (bubble p i j):=(bubble_perm _ _ _).trans h
def ixA (n:Nat)(im:Nat→Ai):Array Ai:=(List.toArray (List.range n)).map im
theorem W2 (p:Array Nat)(i j:Nat):(kas_rev p i j).map im=mirror (p.map im) i j ((j-i)/2):=by
 unfold kas_rev mirror
 exact (kas_swaps_map im _ _ _ p).symm
theorem wxr (p:Array Nat)(i j:Nat):(bubble p i j).map im=bubble (p.map im) i j:=by
 unfold bubble
 exact (kas_swaps_map im _ _ _ p).symm
def KyI (im:Nat→Ai)(kz:Nat→Int):Prop:=∀(p:Array Nat) i,i<p.size→K (p.map im) i=kz (p.getD i 0)
def Ym (n:Nat)(kz:Nat→Int)(ask:Nat→Nat→(Bool→Ab→Prop)→Ab→Prop)(s:Ab):Prop:=∀i j C,i<n→j<n→C (decide (kz i<kz j)) s→ask i j C s
theorem Z8 {p:Array Nat}{i j:Nat}{C:Bool→Ab→Prop}(ha:Ym n kz ask s)(hk:KyI im kz)(g:Gd n p)(hi:i<n)(hj:j<n)
  (h1:K (p.map im) i<K (p.map im) j→C true s) (h2:¬ K (p.map im) i<K (p.map im) j→C false s):ask (p.getD i 0) (p.getD j 0) C s:=by
 refine ha _ _ _ (g.lt hi) (g.lt hj) ?_
 rw [hk p i (by rw [g.size];exact hi),hk p j (by rw [g.size];exact hj)] at h1 h2
 by_cases c:kz (p.getD i 0)<kz (p.getD j 0)
 ·simp only [c,decide_true];exact h1 c
 ·simp only [c,decide_false];exact h2 c
theorem qkz {p:Array Nat}{e:Nat}{Q:Nat→Ab→Prop}(ha:Ym n kz ask s)(hk:KyI im kz)(g:Gd n p)(he:e≤n):∀(f b:Nat),1≤b→b+f=e→Up (ixA n im) (p.map im) b →
  (∀m,b≤m→m≤e→Up (ixA n im) (p.map im) m→(m=e∨K (p.map im) m<K (p.map im) (m-1))→Q m s)→(kas_asc p f b).kasWp ask Q s
 |0,b,_,hb,u,h=>h b (af _) (by lia) u (.inl (by lia))
 |f+1,b,h1,hb,u,h=>by
  refine Z8 ha hk g (by lia) (by lia) (λc=>?_) λc=>?_
  ·exact h b (af _) (by lia) u (.inr c)
  ·exact qkz ha hk g he f (b+1) (by lia) (by lia) (u.grow h1 c) λm a1 a2 a3 a4=>h m (by lia) a2 a3 a4
theorem qk9 {p:Array Nat}{k e:Nat}{Q:Nat×Array Nat→Ab→Prop}(ha:Ym n kz ask s)(hk:KyI im kz)(g:Gd n p)(he:e≤n)(h1:1≤k)(hke:k≤e)(d:Dr (ixA n im) (p.map im) k)
  (h:∀m q,Gd n q→1≤m→m≤e→Up (ixA n im) (q.map im) m→Q (m,q) s):(kas_tail3 k e p).kasWp ask Q s:=by
 unfold kas_tail3
 rw [KasT.kasWp_bind]
 refine qkz ha hk (g.rev 0 k) he (e-k) k h1 (by lia) ?_ λm a1 a2 a3 _=>h m _ (g.rev 0 k) (by lia) a2 a3
 rw [W2]
 exact d.up (by rw [cH,g.size];lia)
theorem W6 {e:Nat}{Q:Array Nat×Nat×Nat→Ab→Prop}(ha:Ym n kz ask s)(hk:KyI im kz)(he:e≤n):∀(f:Nat) (p:Array Nat) (x q:Nat),Gd n p→x+f=e→Dn (ixA n im) (p.map im) x q →
  (∀m r p',Gd n p'→x≤m→m≤e→Dn (ixA n im) (p'.map im) m r→Q (p',m,r) s)→(kas_desc f p x q).kasWp ask Q s
 |0,p,x,q,g,hx,d,h=>h x q p g (af _) (by lia) d
 |f+1,p,x,q,g,hx,d,h=>by
  have hx1:1≤x:=by have:=d.1;lia
  have hz:x≤(p.map im).size:=by rw [cH,g.size];lia
  refine Z8 ha hk g (by lia) (by lia) (λc=>?_) λc=>?_
  ·show KasT.kasWp ask (if q>0 then kas_desc f (kas_rev p (x-(q+1)) x) (x+1) 0 else kas_desc f p (x+1) 0) Q s
   by_cases c2:q>0
   ·rw [am c2]
    refine W6 ha hk he f _ (x+1) 0 (g.rev _ _) (by lia) ?_ λm r p' a1 a2 a3 a4=>h m r p' a1 (by lia) a3 a4
    rw [W2]
    refine (d.turn hz).grow hx1 ?_
    rw [K_mirror hz,K_mirror hz,aj (by lia),am (by have:=d.1;lia)]
    obtain ⟨hq,ix,f',_,_,o3⟩:=id d
    by_cases c3:x-(q+1)+x-1-(x-1)=x-1
    ·rw [c3];exact c
    ·have:=(o3 (x-(q+1)+x-1-(x-1)) (x-1) (by lia) (by lia) (by lia)).1
     rw [←f'.key,←f'.key] at this
     lia
   ·rw [aj c2]
    obtain rfl:q=0:=by lia
    exact W6 ha hk he f p (x+1) 0 g (by lia) (d.flat.grow hx1 c) λm r p' a1 a2 a3 a4=>h m r p' a1 (by lia) a3 a4
  ·refine Z8 ha hk g (by lia) (by lia) (λc2=>?_) λc2=>?_
   ·exact h x q p g (af _) (by lia) d
   ·exact W6 ha hk he f p (x+1) (q+1) g (by lia) (d.grow c c2) λm r p' a1 a2 a3 a4=>h m r p' a1 (by lia) a3 a4
theorem qjx {p:Array Nat}{k e:Nat}{Q:Nat×Array Nat→Ab→Prop}(ha:Ym n kz ask s)(hk:KyI im kz)(g:Gd n p)(he:e≤n)(hke:k+1≤e)(d:Dn (ixA n im) (p.map im) (k+1) 0)
  (h:∀m q,Gd n q→1≤m→m≤e→Up (ixA n im) (q.map im) m→Q (m,q) s):(kas_descPart k e p).kasWp ask Q s:=by
 unfold kas_descPart
 rw [KasT.kasWp_bind]
 refine W6 ha hk he (e-(k+1)) p (k+1) 0 g (by lia) d λm r p' g' a1 a2 d'=>?_
 have hz:m≤(p'.map im).size:=by rw [cH,g'.size];lia
 dsimp only
 by_cases c:r>0
 ·rw [am c]
  refine qk9 ha hk (g'.rev _ _) he (by lia) a2 ?_ h
  rw [W2]
  exact d'.turn hz
 ·rw [aj c]
  obtain rfl:r=0:=by lia
  exact qk9 ha hk g' he (by lia) a2 d'.flat h
theorem wqp {e:Nat}{Q:Nat×Array Nat→Ab→Prop}(ha:Ym n kz ask s)(hk:KyI im kz)(he:e≤n)(h1:1≤e)
  (h:∀m q,Gd n q→1≤m→m≤e→Up (ixA n im) (q.map im) m→Q (m,q) s):(kas_count e (List.toArray (List.range n))).kasWp ask Q s:=by
 have g:Gd n (List.toArray (List.range n)):=Array.Perm.refl _
 have u1:Up (ixA n im) ((List.toArray (List.range n)).map im) 1:=⟨id,⟨λi=>rfl,λi _=>rfl,λi z=>z⟩,λi j a b=>by lia⟩
 unfold kas_count
 rw [KasT.kasWp_bind]
 refine qkz ha hk g he (e-1) 1 (af _) (by lia) u1 λm m1 m2 u hor=>?_
 have hz:m≤((List.toArray (List.range n)).map im).size:=by rw [cH,g.size];lia
 by_cases c:m=e
 ·rw [am (dj.mpr c)]
  exact h m _ g m1 m2 u
 ·have hlt:=hor.resolve_left c
  rw [aj (λz=>c (dj.mp z))]
  by_cases c2:m>1
  ·rw [am c2]
   refine Z8 ha hk g (by lia) (by lia) (λc3=>?_) λc3=>?_
   ·exact h m _ g m1 m2 u
   ·refine qjx ha hk (g.rev 0 m) he (by lia) ?_ h
    rw [W2]
    refine (u.even m1 hz c3).grow m1 ?_
    rw [K_mirror hz,K_mirror hz,aj (by lia),am (by lia)]
    have e1:=u.le (i:=0) (j:=0+m-1-(m-1)) (by lia) (by lia)
    have e2:=u.le (i:=0+m-1-(m-1)) (j:=m-1) (by lia) (by lia)
    lia
  ·rw [aj c2]
   obtain rfl:m=1:=by lia
   obtain ⟨ix,f,o⟩:=u
   exact qjx ha hk g he (by lia) (Dr.grow ⟨ix,f,λi j a b=>by lia⟩ (by lia) hlt) h
theorem W9 {p:Array Nat}{k:Nat}{Q:Nat→Ab→Prop}(ha:Ym n kz ask s)(hk:KyI im kz)(g:Gd n p)(hkn:k<n)(u:Up (ixA n im) (p.map im) k)
  (h:∀l,l≤k→(∀i,i<l→K (p.map im) i≤K (p.map im) k)→(∀i,l≤i→i<k→K (p.map im) k<K (p.map im) i)→Q l s):∀(f l r:Nat),l≤r→r≤k→r-l≤f→(∀i,i<l→K (p.map im) i≤K (p.map im) k)→(∀i,r≤i→i<k→K (p.map im) k<K (p.map im) i) →
  (kas_place p k f l r).kasWp ask Q s
 |0,l,r,a1,a2,a3,a4,a5=>by
  obtain rfl:l=r:=by lia
  exact h l a2 a4 a5
 |f+1,l,r,a1,a2,a3,a4,a5=>by
  unfold kas_place
  by_cases c1:l≥r
  ·rw [am c1]
   obtain rfl:l=r:=by lia
   exact h l a2 a4 a5
  ·rw [aj c1]
   refine Z8 ha hk g (by lia) (by lia) (λc2=>?_) λc2=>?_
   ·exact W9 ha hk g hkn u h f l ((l+r)/2) (by lia) (by lia) (by lia) a4 λi z1 z2=>by have:=u.le z1 z2;lia
   ·exact W9 ha hk g hkn u h f ((l+r)/2+1) r (by lia) (by lia) (by lia) (λi z=>by have:=u.le (i:=i) (j:=(l+r)/2) (by lia) (by lia);lia) a5
theorem wqw {Q:Array Nat→Ab→Prop}(ha:Ym n kz ask s)(hk:KyI im kz)(h:∀q,Gd n q→Up (ixA n im) (q.map im) n→Q q s):∀(f:Nat) (p:Array Nat) (k:Nat),Gd n p→1≤k→k+f=n→Up (ixA n im) (p.map im) k →
  (kas_bin f p k).kasWp ask Q s
 |0,p,k,g,_,e,u=>by
  obtain rfl:k=n:=by lia
  exact h p g u
 |f+1,p,k,g,k1,e,u=>by
  unfold kas_bin
  rw [KasT.kasWp_bind]
  refine W9 ha hk g (by lia) u (λl a2 a4 a5=>?_) k 0 k (az _) (af _) (by lia) (λi z=>by lia) λi z1 z2=>by lia
  refine wqw ha hk h f _ (k+1) (g.bub _ _) (by lia) (by lia) ?_
  rw [wxr]
  exact u.put (by rw [cH,g.size];lia) a2 a4 a5
theorem wxf {Q:Array Nat→Ab→Prop}(ha:Ym n kz ask s)(hk:KyI im kz)(h1:1≤n)(h:∀q,Gd n q→Up (ixA n im) (q.map im) n→Q q s):(kas_sort n).kasWp ask Q s:=by
 unfold kas_sort
 rw [KasT.kasWp_bind]
 refine wqp ha hk (af _) h1 λm q g m1 m2 u=>?_
 dsimp only
 have em:max m 1=m:=by lia
 by_cases c:m<n
 ·rw [am c,em]
  exact wqw ha hk h (n-m) q m g m1 (by lia) u
 ·rw [aj c]
  obtain rfl:m=n:=by lia
  exact h q g u
def imI (kz:Nat→Int)(t:Tok)(i:Nat):Ai:=(.int (kz i) t,.int (i:Int) t)
theorem imI_ky (kz:Nat→Int)(t:Tok):KyI (imI kz t) kz:=λp i hi=>by
 unfold K
 simp [hi,imI,numOf,Array.getD]
theorem tr_out {t:Tok}{Q:Array Nat→Ab→Prop}(ha:Ym n kz ask s)(h1:1≤n)
  (h:∀il:List Nat,il.Perm (List.range n)→il.Pairwise (λi j=>kz i<kz j∨(kz i=kz j∧i<j))→Q il.toArray s):(kas_sort n).kasWp ask Q s:=by
 refine wxf ha (imI_ky kz t) h1 λq g u=>?_
 have hz:(ixA n (imI kz t)).size=n:=by simp [ixA]
 have hzq:(q.map (imI kz t)).size=(ixA n (imI kz t)).size:=by rw [hz,cH,g.size]
 obtain ⟨il,p,o,e⟩:=Up.places (by rw [hz];exact u) hzq
 rw [hz] at p
 have hin:∀i∈il,i<n:=λi hi=>aL.mp (p.mem_iff.mp hi)
 have at_:∀i,i<n→(ixA n (imI kz t)).getD i (.none,.none)=imI kz t i:=λi hi=>by
  simp [ixA,Array.getD,hi]
 have ky:∀i,i<n→K (ixA n (imI kz t)) i=kz i:=λi hi=>by
  unfold K
  simp [ixA,hi,imI,numOf]
 have e2:q.toList.map (imI kz t)=il.map (imI kz t):=by
  rw [←Array.toList_map,e]
  exact cP λi hi=>at_ i (hin i hi)
 have inj:∀i j,imI kz t i=imI kz t j→i=j:=λi j e=>by
  simp only [imI,Prod.mk.injEq,Value.int.injEq] at e
  lia
 have e3:q.toList=il:=(List.map_inj_right (λi j e=>inj i j e)).mp e2
 have e4:q=il.toArray:=by rw [←e3]
 rw [e4]
 exact h il p (o.imp_of_mem λ{i j} hi hj hb=>by
  unfold Bef at hb
  rw [ky i (hin i hi),ky j (hin j hj)] at hb
  exact hb)
end
end L2
namespace L2
open PySem PySem.Spec PySem.Calls PySem.W PyProof.Rows
section
variable {prog:Ac}{w:Ah}{A:Ae}{E:Ag→Ab→Prop}{s:Ab}
theorem Ju {h:Heap}{a:Aj}{vs:List Ag}{k:Nat}(ho:h.get? a=some (seqObj "list" vs.toArray k))(out:Array Ag):∃e,(sortedHeap h a vs out).get? a=some (seqObj "list" out e):=by
 obtain ⟨e1,ho1⟩:∃e1,(h.update a (Obj.mapSeq λ_=>(#[]:Array Ag))).get? a=some (seqObj "list" #[] e1):=⟨_,get?_update_seq ho λ_=>#[]⟩
 exact ⟨_,get?_update_seq (ac _ (ac _ ho1)) λ_=>out⟩
theorem Yz {h:Heap}{a b:Aj}{vs:List Ag}{o:Obj}(e:h.get? b=some o)(hb:b≠a)(out:Array Ag):(sortedHeap h a vs out).get? b=some o:=by
 unfold sortedHeap
 rw [Heap.get?_update_ne _ _ _ _ hb]
 refine ac _ (ac _ ?_)
 rw [Heap.get?_update_ne _ _ _ _ hb]
 exact e
end
section
variable {X:Cx}
end
end L2
namespace L2
open PySem PySem.Spec PySem.Calls PySem.W PyProof.Rows
def kzS (ss:List Str)(x:Str):Int:=((ss.filter λy=>decide (y.cps.toList<x.cps.toList)).length:Nat)
theorem qy6 {ss:List Str}{x y:Str}(h:¬ y.cps.toList<x.cps.toList):kzS ss x≤kzS ss y:=by
 unfold kzS
 have:(ss.filter λz=>decide (z.cps.toList<x.cps.toList)).length≤(ss.filter λz=>decide (z.cps.toList<y.cps.toList)).length:=by
  refine (List.Sublist.length_le ?_)
  have e:(ss.filter λz=>decide (z.cps.toList<x.cps.toList))=(ss.filter λz=>decide (z.cps.toList<y.cps.toList)).filter λz=>decide (z.cps.toList<x.cps.toList):=by
   rw [List.filter_filter]
   refine List.filter_congr λz _=>?_
   by_cases c:z.cps.toList<x.cps.toList
   ·have:z.cps.toList<y.cps.toList:=by
     apply bN
     intro n
     exact absurd c (List.not_lt.mpr (List.le_trans (List.not_lt.mp h) (List.not_lt.mp n)))
    simp [c,this]
   ·simp [c]
  rw [e]
  exact List.filter_sublist
 lia
theorem wqj {ss:List Str}{x y:Str}(hx:x∈ss)(h:x.cps.toList<y.cps.toList):kzS ss x<kzS ss y:=by
 unfold kzS
 have sub:(ss.filter λz=>decide (z.cps.toList<x.cps.toList)).length<(ss.filter λz=>decide (z.cps.toList<y.cps.toList)).length:=by
  have e:(ss.filter λz=>decide (z.cps.toList<x.cps.toList))=(ss.filter λz=>decide (z.cps.toList<y.cps.toList)).filter λz=>decide (z.cps.toList<x.cps.toList):=by
   rw [List.filter_filter]
   refine List.filter_congr λz _=>?_
   by_cases c:z.cps.toList<x.cps.toList
   ·have:z.cps.toList<y.cps.toList:=List.lt_trans c h
    simp [c,this]
   ·simp [c]
  rw [e]
  have mem:x∈ss.filter λz=>decide (z.cps.toList<y.cps.toList):=bO.mpr ⟨hx,aZ h⟩
  refine Nat.lt_of_le_of_ne (cB _ _) λz=>?_
  have:=(List.length_filter_eq_length_iff).mp z x mem
  exact List.lt_irrefl _ (d6 this)
 lia
theorem ww0 {ss:List Str}{x y:Str}(hx:x∈ss):kzS ss x<kzS ss y↔x.cps.toList<y.cps.toList:=by
 constructor
 ·intro h
  apply bN
  intro n
  have:=qy6 (ss:=ss) n
  lia
 ·exact wqj hx
section
variable {prog:Ac}{w:Ah}{A:Ae}{E:Ag→Ab→Prop}{s:Ab}
def StrsR (vs:List Ag)(ss:List Str):Prop:=Paired (λv x=>∃t,v=Value.str x t) vs ss
theorem StrsR.at {vs:List Ag}{ss:List Str}(h:StrsR vs ss):∀ {i:Nat},i<ss.length→∃x t,ss[i]?=some x∧vs.getD i Value.none=Value.str x t:=by
 induction h with
 |nil=>intro i hi;exact absurd hi (Nat.not_lt_zero _)
 |@cons a b l m hd tl ih =>
  intro i hi
  cases i with
  |zero=>obtain ⟨t,rfl⟩:=hd;exact ⟨b,t,rfl,rfl⟩
  |succ i=>exact ih (i:=i) (by simpa using hi)
theorem StrsR.mem {vs:List Ag}{ss:List Str}(h:StrsR vs ss):∀v∈vs,∃x t,v=Value.str x t:=by
 induction h with
 |nil=>intro v hv;cases hv
 |@cons a b l m hd tl ih =>
  intro v hv
  rcases ai.mp hv with rfl|hv
  ·obtain ⟨t,e⟩:=hd;exact ⟨b,t,e⟩
  ·exact ih v hv
theorem qv2 {a:Aj}{vs:List Ag}{k:Nat}{ss:List Str}{P:PySem.Fin→Ab→Prop}(ho:s.heap.get? a=some (seqObj "list" vs.toArray k))(h64:vs.length<64)(t:StrsR vs ss)
  (h:∀il:List Nat,il.Perm (List.range vs.length)→il.Pairwise (λi j=>¬ (ss.getD j Str.empty).cps.toList<(ss.getD i Str.empty).cps.toList)→P (.done (.ret .none)) { s with heap:=sortedHeap s.heap a vs (il.map λi=>vs.getD i Value.none).toArray }) :
  wpAny (model prog w) A (Builtin.«list.sort» ⟨[.ref a],[]⟩) P E s:=by
 have hkl:vs.length=ss.length:=bc t
 have ha:a<s.heap.objs.size:=ah ho
 obtain ⟨e1,ho1⟩:∃e1,(s.heap.update a (Obj.mapSeq λ_=>(#[]:Array Ag))).get? a=some (seqObj "list" #[] e1):=⟨_,get?_update_seq ho λ_=>#[]⟩
 have sz:(1000001:Nat)<sizeLine:=by decide
 rw [list_sort_plain]
 refine aa (listItems_at ho rfl ?_)
 refine aa (listUpdate_at ho rfl ?_ (by rw [aw];lia) (az _))
 refine aa (seqEpoch_at ho1 rfl ?_)
 refine aa (wpAny_newTuple ?_ (by show vs.length≤_;lia))
 refine aa (wpAny_newList ?_ (az _))
 refine bG ?_
 show wpAny (model prog w) A _ P E { s with heap:=((s.heap.update a (Obj.mapSeq λ_=>(#[]:Array Ag))).push (seqObj "tuple" vs.toArray 0)).push (seqObj "list" #[] 0) }
 have ho6:(((s.heap.update a (Obj.mapSeq λ_=>(#[]:Array Ag))).push (seqObj "tuple" vs.toArray 0)).push (seqObj "list" #[] 0)).get? a=some (seqObj "list" #[] e1):=ac _ (ac _ ho1)
 have fin:∀(h':Heap) (il:List Nat),h'=((s.heap.update a (Obj.mapSeq λ_=>(#[]:Array Ag))).push (seqObj "tuple" vs.toArray 0)).push (seqObj "list" #[] 0)→il.Perm (List.range vs.length)→il.Pairwise (λi j=>¬ (ss.getD j Str.empty).cps.toList<(ss.getD i Str.empty).cps.toList)→P (.done (.ret .none)) { s with heap:=h'.update a (Obj.mapSeq λ_=>(il.map λi=>vs.getD i Value.none).toArray) }:=λh' il e a1 a2=>by
  subst e
  exact h il a1 a2
 generalize ((s.heap.update a (Obj.mapSeq λ_=>(#[]:Array Ag))).push (seqObj "tuple" vs.toArray 0)).push (seqObj "list" #[] 0)=h6' at ho6 fin ⊢
 have fin:=λil=>fin h6' il rfl
 dsimp only
 by_cases h2:vs.toArray.size<2
 ·rw [am h2,am h2]
  refine aa (ag ?_)
  rw [StateT.run_pure]
  refine aa (ag ?_)
  dsimp only
  have h2':vs.length<2:=by simpa using h2
  have e:(arrOf (SortSt.mk' general' (vs.toArray.zip vs.toArray) #[] 7 none)).map (·.2)=((List.range vs.length).map λi=>vs.getD i Value.none).toArray:=by
   show (vs.toArray.zip vs.toArray).map (·.2)=_
   match vs,h2' with
   |[],_=>simp
   |[v],_=>simp
   |_::_::_,h2=>simp at h2;lia
  rw [e]
  refine aa (seqEpoch_at ho6 rfl ?_)
  refine aa (listUpdate_at ho6 rfl ?_ (az _) (by rw [aw,ae,aG];lia))
  simp only [bne_self_eq_false,bJ,cX]
  refine ag (fin (List.range vs.length) (.refl _) ?_)
  rcases (by lia:vs.length=0∨vs.length=1) with z|z
  ·rw [z];exact .nil
  ·rw [z];exact eB _ _
 ·rw [aj h2,aj h2]
  have hv2:2≤vs.length:=by simpa using h2
  refine aa (kas_kind (T:=.type "str") hv2 (λv hv=>?_) rfl rfl ?_)
  ·obtain ⟨x,tk,rfl⟩:=t.mem v hv
   exact Looks.of_pure rfl
  let kz:Nat→Int:=λi=>kzS ss (ss.getD i Str.empty)
  have gd:∀ {i x},ss[i]?=some x→ss.getD i Str.empty=x:=λe=>by rw [al,e];rfl
  have ask:Ym vs.length kz (kas_ask prog w A oneType' vs) { s with heap:=h6' }:=λi j C hi hj hC=>by
   obtain ⟨x,tx,ex,vx⟩:=t.at (i:=i) (by lia)
   obtain ⟨y,ty,ey,vy⟩:=t.at (i:=j) (by lia)
   unfold kas_ask
   rw [vx,vy]
   refine kas_lt_str ?_
   have e:decide (kz i<kz j)=decide (x.cps.toList<y.cps.toList):=by
    rw [bQ,decide_eq_true_eq,decide_eq_true_eq]
    show kzS ss (ss.getD i Str.empty)<kzS ss (ss.getD j Str.empty)↔_
    rw [gd ex,gd ey]
    exact ww0 (bx ex)
   rw [←e]
   exact hC
  have tree:(kas_sort vs.length).kasWp (kas_cmp prog w A oneType' (pairsOf vs)) (λp s'=>s'={ s with heap:=h6' }∧p.toList.Perm (List.range vs.length)∧p.toList.Pairwise (λi j=>¬ (ss.getD j Str.empty).cps.toList<(ss.getD i Str.empty).cps.toList)) { s with heap:=h6' }:=by
   rw [←kas_ask_eq]
   refine tr_out (t:=0) ask (by lia) λil pm up=>⟨rfl,pm,up.imp_of_mem λ{i j} hi hj hb n=>?_⟩
   have hj:=aL.mp (pm.mem_iff.mp hj)
   obtain ⟨y,ty,ey,vy⟩:=t.at (i:=j) (by lia)
   have:kz j<kz i:=by
    show kzS ss (ss.getD j Str.empty)<kzS ss (ss.getD i Str.empty)
    rw [gd ey] at n ⊢
    exact wqj (bx ey) n
   lia
  have est:SortSt.mk' oneType' (vs.toArray.zip vs.toArray) #[] 7 none=kas_st oneType' (pairsOf vs) (List.toArray (List.range vs.length)):=by
   have e:=kas_range (pairsOf vs)
   rw [pairsOf_size] at e
   show SortSt.mk' oneType' (pairsOf vs) #[] 7 none=SortSt.mk' oneType' ((List.toArray (List.range vs.length)).map (kas_item (pairsOf vs))) #[] 7 none
   rw [e]
  have run:=kas_runs (E:=E) (Q:=λ_ st' s'=>∃p:Array Nat,p.size=vs.length∧arrOf st'=p.map (kas_item (pairsOf vs))∧failedOf st'=none∧s'={ s with heap:=h6' }∧p.toList.Perm (List.range vs.length)∧p.toList.Pairwise (λi j=>¬ (ss.getD j Str.empty).cps.toList<(ss.getD i Str.empty).cps.toList))
   hv2 h64 (λp' st' s' a1 a2 a3 a4=>⟨p',a1,a2,a3,a4⟩) tree
  rw [←est] at run
  refine aa (aP run ?_ λ_ _ e=>e)
  rintro ⟨⟨⟩,st'⟩ s' ⟨p,hp,har,hf,rfl,pm,up⟩
  dsimp only
  have hout:(arrOf st').map (·.2)=List.toArray (p.toList.map λi=>vs.getD i Value.none):=by
   apply Array.toList_inj.mp
   rw [har,Array.map_map,Array.toList_map]
   exact cP λi _=>by show (kas_item (pairsOf vs) i).2=_;rw [kas_item_eq]
  rw [hout]
  refine aa (seqEpoch_at ho6 rfl ?_)
  refine aa (listUpdate_at ho6 rfl ?_ (az _) (by rw [aw,ae,aS];lia))
  rw [hf]
  simp only [bne_self_eq_false,bJ,cX]
  exact ag (fin p.toList pm up)
theorem qwc {d:Aj}{vs:List (Key×Ag)}{ep:Nat}{Q:List Ag→Ab→Prop}(hh:A.handled=none)(lo:(d==sysModules)=false)(dd:s.heap.DictAt (xq prog w) d vs ep)(hn:vs.length≤sizeLine)
  (h:∀h' tk (qs:List Ag),(∀b o,s.heap.get? b=some o→h'.get? b=some o)→qs.length=vs.length→(∀(i:Nat) v,qs[i]?=some v→∃k x,vs[i]?=some (k,x)∧(xq prog w).is k v=true)→s.heap.objs.size≤h'.objs.size→Q qs { s with heap:=h',toks:=tk }):wpAny (model prog w) A (collect (.ref d)) Q E s:=by
 have hS:d<s.heap.objs.size:=dd.lt_size
 have R:(s.heap.push (seqObj "list" #[] 0)).DictAt (xq prog w) d vs ep:=dd.push _
 have run:codeAny (model prog w) A (.builtin "proto.collect" ⟨[.ref d],[]⟩) (λr s'=>r=.ok (.ret (.ref s.heap.objs.size))∧∃h' tk acc' c',s'={ s with heap:=h',toks:=tk }∧(∀b o,b≠s.heap.objs.size→(s.heap.push (seqObj "list" #[] 0)).get? b=some o→h'.get? b=some o) ∧
   h'.get? s.heap.objs.size=some { cls:=.type "list",dict:=none,data:=.seq acc' c',slots:=#[] }∧ItemsOf (λi v=>∃k x,vs[i]?=some (k,x)∧(xq prog w).is k v=true) acc' vs.length) s:=by
  refine codeAny_builtin entry_proto_collect' ?_
  show wpAny _ _ (do again (.builtin "list.__iadd__" ⟨[←newList [],.ref d],[]⟩)) _ _ s
  (refine aa (wpAny_newList (ag ⟨Code.quiet_builtin _ (by decide +kernel),codeAny_builtin entry_list_iadd' ?_⟩)) ;rw [Around.under_plainId (show plainId "list.__iadd__" = true by decide +kernel) _])
  show wpAny _ _ (Builtin.List.listExtendWith (.ref s.heap.objs.size) (.ref d) (.ref s.heap.objs.size)) _ _ _
  exact kdl_extend (s:={ s with heap:=s.heap.push (seqObj "list" #[] 0) }) (R:=λr s'=>r=.ok (.ret (.ref s.heap.objs.size))∧∃h' tk acc' c',s'={ s with heap:=h',toks:=tk }∧(∀b o,b≠s.heap.objs.size→(s.heap.push (seqObj "list" #[] 0)).get? b=some o→h'.get? b=some o) ∧
   h'.get? s.heap.objs.size=some { cls:=.type "list",dict:=none,data:=.seq acc' c',slots:=#[] }∧ItemsOf (λi v=>∃k x,vs[i]?=some (k,x)∧(xq prog w).is k v=true) acc' vs.length) (kdl_dict lo) (by simpa using hh) R s.heap.objs.size (dH hS) (dH hS) (.ref s.heap.objs.size) 0 (ak _ rfl) (λh' tk acc' c' hk hS' hacc=>⟨rfl,h',tk,acc',c',rfl,hk,hS',hacc⟩) hn
 unfold collect
 refine aa (wpAny_runValue (dI run λr s' hr=>?_))
 obtain ⟨rfl,h',tk,acc',c',rfl,hk,hS',hacc⟩:=hr
 dsimp only
 refine aa (wpAny_load hS' ?_)
 refine ag ?_
 refine h h' tk _ (λb o e=>hk b o (ax (ah e)) (ac _ e)) (by rw [aS];exact hacc.1) (λi v e=>hacc.2 i v (by rw [←bL];exact e)) ?_
 exact bC (ah hS')
end
section
variable {X:Cx}
theorem km (hc:X.calm=true):vp X (.builtin "sorted") (λxs H Q=>∃(d:Aj) (kvs:List (Key×V)) (ss:List Str),xs=[.ref d]∧Rd H d (.dK kvs)∧kvs.map (·.1)=ss.map Sum.inr∧kvs.length<64 ∧
  ∀(l:Aj) (ms:List Str),H l=none→ms.Perm ss→ms.Pairwise (λx y=>¬ y.cps.toList<x.cps.toList)→Q (.ref l) (upd H l (.lst (ms.map V.str)))):=by
 intro pins s σ H xs us Q I r h
 obtain ⟨d,kvs,ss,rfl,hd,hk,hn,q⟩:=h
 obtain ⟨u,rfl,ru⟩:=jm r
 cases (show u=Value.ref d from ru)
 have sz:(100001:Nat)<sizeLine:=by decide
 obtain ⟨z,lo,vs,rel,dd⟩:=ud I.hok hd
 obtain ⟨ep,dd⟩:=dd.dictAt
 have hl:vs.length=kvs.length:=(bc rel).symm
 have hls:kvs.length=ss.length:=by have:=cg List.length hk;simpa using this
 refine Calls.call_function_entry kind_sorted plain_sorted entry_sorted (args_sorted1 _) ?_
 unfold Builtin.«sorted»
 refine aa (m:=checkCount "sorted" 1 1 _) (ag ?_)
 refine aa (qwc (by simpa using I.ok.hd hc) lo dd (by lia) λh' tk qs hk' hlq hq hz=>?_)
 refine aa (wpAny_newList ?_ (by lia))
 have hoL:(h'.push (seqObj "list" qs.toArray 0)).get? h'.objs.size=some (seqObj "list" qs.toArray 0):=ak _ rfl
 have tS:StrsR qs ss:=by
  have key:∀(qs:List Ag) (ss:List Str),qs.length=ss.length→(∀(i:Nat) v,qs[i]?=some v→∃x t,ss[i]?=some x∧v=Value.str x t)→StrsR qs ss:=by
   intro qs
   induction qs with
   |nil =>
    intro ss e _
    cases ss with
    |nil=>exact .nil
    |cons _ _=>simp at e
   |cons v qs ih =>
    intro ss e hh
    cases ss with
    |nil=>simp at e
    |cons x ss =>
     obtain ⟨x',t,e1,e2⟩:=hh 0 v rfl
     cases e1
     exact .cons ⟨t,e2⟩ (ih ss (by simpa using e) λi v ev=>hh (i+1) v ev)
  refine key qs ss (by lia) λi v ev=>?_
  obtain ⟨k,x,e1,e2⟩:=hq i v ev
  have hi:=(aU.mp e1).1
  have ek:kvs[i]?=some kvs[i]:=au (by lia)
  obtain ⟨qv,e3,_⟩:=qv7 rel ek
  rw [e1] at e3
  have e4:=cg (λl=>l[i]?) hk
  simp only [aM,ek,Option.map_some] at e4
  have hs:ss[i]?=some ss[i]:=au (by lia)
  rw [hs,Option.map_some] at e4
  have e5:=ar e4
  have e6:k=kvs[i].1:=cg Prod.fst (ar e3)
  rw [e6,e5] at e2
  obtain ⟨t,rfl⟩:=(show ∃t,v=Value.str ss[i] t from qy2 e2)
  exact ⟨ss[i],t,hs,rfl⟩
 refine aa (bG (dk slot_list_sort ⟨_,hoL,rfl⟩ entry_list_sort ?_ (args_list_sort _)))
 refine qv2 (s:={ s with heap:=h'.push (seqObj "list" qs.toArray 0),toks:=tk }) hoL (by lia) tS λil pm up=>⟨_,rfl,ag ⟨_,rfl,?_⟩⟩
 obtain ⟨e,he⟩:=Ju hoL (il.map λi=>qs.getD i Value.none).toArray
 have nl:H h'.objs.size=none:=I.hok.fresh hz
 have hin:∀i∈il,i<ss.length:=λi hi=>by have:=aL.mp (pm.mem_iff.mp hi);lia
 have vals:∀(il:List Nat),(∀i∈il,i<ss.length)→Vals ((il.map λi=>ss.getD i Str.empty).map V.str) (il.map λi=>qs.getD i Value.none):=by
  intro il
  induction il with
  |nil=>intro _;exact .nil
  |cons i il ih =>
   intro hh
   obtain ⟨x,t,e1,e2⟩:=tS.at (hh i (.head _))
   refine .cons ?_ (ih λj hj=>hh j (.tail _ hj))
   show RelV (V.str (ss.getD i Str.empty)) (qs.getD i Value.none)
   rw [e2,al,e1]
   exact ⟨t,rfl⟩
 have pms:(il.map λi=>ss.getD i Str.empty).Perm ss:=by
  have h1:=pm.map λi=>ss.getD i Str.empty
  have h2:((List.range qs.length).map λi=>ss.getD i Str.empty)=ss:=by
   refine List.ext_getElem? λi=>?_
   rw [aM]
   by_cases c:i<ss.length
   ·rw [cO (by lia),au c]
    show some (ss.getD i Str.empty)=_
    rw [al,au c]
    rfl
   ·rw [bM (by rw [aG];lia),bM (by lia)]
    rfl
  rw [h2] at h1
  exact h1
 refine ⟨.ref _,_,I.laid (t':=tk) (λb u hb=>Yz (ac _ (hk' b u hb)) (ax (aB (ah hb) hz)) _) hz (show ObjOk X.prog X.w _ _ _ (.lst ((il.map λi=>ss.getD i Str.empty).map V.str)) from ⟨?_,_,e,vals il hin,he⟩),rfl,q _ _ nl pms (bX.mpr up)⟩
 rw [ae,pms.length_eq]
 lia
end
end L2
namespace L2
open PySem PySem.Spec PySem.Calls PyProof.Rows PySem.W
section
variable {prog:Ac}{w:Ah}{A:Ae}{E:Ag→Ab→Prop}{s:Ab}{K:Type}[DecidableEq K]{knd:KeyKind prog w K}
theorem Yj {α:Type}{f:α→Int}:∀ {l:List α} (x:Int),(l.map f).Nodup→(l.filter λe=>f e==x).length≤1
 |[],_,_=>az _
 |a::l,x,h=>by
  rw [aD,aQ] at h
  have ih:=Yj (l:=l) x h.2
  by_cases c:(f a==x)=true
  ·rw [cn,am c]
   have:l.filter (λe=>f e==x)=[]:=List.filter_eq_nil_iff.mpr λe he hx=>h.1 (aO.mpr ⟨e,he,by rw [eq_of_beq hx,eq_of_beq c]⟩)
   rw [this]
   exact af _
  ·rw [cn,aj c]
   exact ih
theorem qxu {id:String}{d:Aj}{o:Obj}{es:Array DictEntry}{ep:Nat}{xs:List (List K×Aj×Ag)}{Q:Array DictEntry→Ab→Prop}(ho:s.heap.get? d=some o)(hd:o.data=.dict es ep)
  (he:es.toList=xs.map (entryOfKey (tupleKind knd))) (his:∀x∈xs,(tupleKind knd).is s.heap x.1 x.2.1) (hh:(xs.map λx=>(tupleKind knd).hash x.1).Nodup) (h:Q es s) :
  wpAny (model prog w) A (Builtin.Dict.entriesForEmpty id d) Q E s:=by
 unfold Builtin.Dict.entriesForEmpty
 refine aa (bA ho hd ?_)
 refine aa (aP (Q:=λ_ s'=>s'=s) ?_ (λ_ s' e=>by subst e;exact ag h) λ_ _ e=>e)
 rw [←Array.forIn_toList]
 refine wpAny_forIn_list _ (λrest _ s'=>s'=s∧∀e∈rest,e∈es.toList) _ ?_ (λ_ _ e=>e.1) _ _ ⟨rfl,λ_ h=>h⟩
 rintro e rest b s' ⟨rfl,hr⟩
 obtain ⟨x,hx,ex⟩:=aO.mp (he▸hr e (.head _))
 have hi:=his x hx
 have tl:s'.TypeIs (.ref x.2.1) "tuple" := by
  obtain ⟨o',its,n,h1,h2,_⟩:=hi
  exact ⟨o',h1,h2⟩
 have ek:e.key=.ref x.2.1:=by rw [←ex];rfl
 have hsz:¬ (es.filter (·.hash==e.hash)).size>1:=by
  have h1:=Yj (f:=λe:DictEntry=>e.hash) (l:=es.toList) e.hash (by rw [he,bY];exact hh)
  have h2:(es.filter (·.hash==e.hash)).size=(es.toList.filter (·.hash==e.hash)).length:=by rw [←aS,Array.toList_filter]
  lia
 have tailok:∀e∈rest,e∈es.toList:=λe h=>hr e (.tail _ h)
 unfold Builtin.Dict.quietEq
 rw [ek]
 dsimp only
 refine aa (aa (eM tl PySem.F.slot_tuple_eq.lookup (ag ?_)))
 rw [aj hsz]
 show wpAny _ _ (if (!(_:Bool))=true then _ else _) _ _ _
 split
 ·exact ag ⟨rfl,tailok⟩
 ·exact ag ⟨rfl,tailok⟩
theorem qur {o:Aj}{xs:List (List K×Aj×Ag)}{Q:Ag→Ab→Prop}(hoS:(o==sysModules)=false)(ho:s.heap.DictOfH (tupleKind knd) o xs)(hsz:xs.length≤sizeLine)(h0:xs≠[])(hh:(xs.map λx=>(tupleKind knd).hash x.1).Nodup)
  (h:∀h',h'.DictOfH (tupleKind knd) s.heap.objs.size xs→Heap.SameBut s.heap.objs.size (s.heap.push { cls:=.type "dict",data:=.dict #[] }) h'→Q (.ref s.heap.objs.size) { s with heap:=h' }) :
  wpAny (model prog w) A (call (.type "dict") [.ref o]) Q E s:=by
 refine callType_codes (Q₁:=λobj s₁=>obj=.ref s.heap.objs.size∧s₁={ s with heap:=s.heap.push { cls:=.type "dict",data:=.dict #[] } }) PySem.F.kt_called_dict (PySem.F.kt_typeCall_dict_1 _) PySem.F.entry_dict_init (kt_code_dict_new _ ⟨rfl,rfl⟩) ?_
 rintro obj s₁ ⟨rfl,rfl⟩
 obtain ⟨oo,es,ep,hoo,hc,hd,he,his,hn⟩:=ho
 have hlt:o<s.heap.objs.size:=ah hoo
 have hnew:(s.heap.push { cls:=.type "dict",data:=.dict #[] }).get? s.heap.objs.size=some { cls:=.type "dict",data:=.dict #[] }:=ak _ rfl
 have tn:Shared.TypeIs { s with heap:=s.heap.push { cls:=.type "dict",data:=.dict #[] } } (.ref s.heap.objs.size) "dict" := ⟨_,hnew,rfl⟩
 have hoo':(s.heap.push { cls:=.type "dict",data:=.dict #[] }).get? o=some oo:=ac _ hoo
 have to:Shared.TypeIs { s with heap:=s.heap.push { cls:=.type "dict",data:=.dict #[] } } (.ref o) "dict" := ⟨_,hoo',hc.1⟩
 have hdo:s.heap.objs.size≠o:=dH hlt
 refine ⟨tn,PySem.F.args_dict_init_2 _ _,?_⟩
 unfold Builtin.«dict.__init__»
 refine aa ?_
 unfold Builtin.Dict.selfAndRest
 refine aa (wpAny_notOrdered_dict tn ?_)
 show wpAny _ _ (pure (s.heap.objs.size,[Value.ref o])) _ _ _
 refine ag ?_
 show wpAny _ _ (Builtin.Dict.updateFrom "dict.__init__" s.heap.objs.size (.ref o) [] .none) _ _ _
 unfold Builtin.Dict.updateFrom
 refine aa (wpAny_typeOf to ?_)
 rw [aj (by decide)]
 refine aa ?_
 unfold Builtin.Dict.merge
 refine aa ?_
 unfold Builtin.Dict.readDirectly
 refine aa (wpAny_isInstance to isSubtype_dict_dict ?_)
 simp only [Bool.not_true,bJ,cX]
 refine aa (eM to PySem.F.slot_dict_iter.lookup (ag ?_))
 simp only [beq_self_eq_true,eF]
 refine aa (ag ?_)
 unfold Builtin.Dict.mergeDict
 rw [aj (by simpa using hdo)]
 unfold Builtin.Dict.showsAll
 rw [aj (by rw [hoS];exact ay)]
 refine aa (ag ?_)
 refine aa (bA hoo' hd ?_)
 have hne:es.toList≠[]:=by rw [he];intro z;exact h0 (List.map_eq_nil_iff.mp z)
 have hall:(es.all λe=>(keyPart e.key).isSome)=false:=by
  obtain ⟨x,ys,rfl⟩:∃x ys,xs=x::ys:=by
   cases xs with
   |nil=>exact absurd rfl h0
   |cons x ys=>exact ⟨x,ys,rfl⟩
  rw [←Array.all_toList,he]
  rfl
 have his':∀x∈xs,(tupleKind knd).is (s.heap.push { cls:=.type "dict",data:=.dict #[] }) x.1 x.2.1:=λx hx=>by
  obtain ⟨o',its,n,h1,r⟩:=his x hx
  exact ⟨o',its,n,ac _ h1,r⟩
 dsimp only
 rw [hall,Bool.and_false]
 simp only [Bool.not_false,eF]
 refine aa (bA hnew rfl ?_)
 rw [am (show (#[]:Array DictEntry).isEmpty=true from rfl)]
 refine aa (qxu (knd:=knd) hoo' hd he his' hh ?_)
 have hem:es.isEmpty=false:=by
  rw [←Array.isEmpty_toList]
  cases hz:es.toList with
  |nil=>exact absurd hz hne
  |cons _ _=>rfl
 rw [hem]
 simp only [Bool.not_false,eF]
 have hsize:es.size=xs.length:=by rw [←aS,he,ae]
 refine aa (wpAny_updateDictKeysTo hnew rfl (ag ?_) (by show es.size≤_;lia))
 show wpAny _ _ (Builtin.Dict.addKeywords s.heap.objs.size [] >>= _) _ _ _
 refine aa (ag (ag ⟨rfl,h _ ⟨_,es,1,de _ hnew (Obj.isFreed_of_dict (Obj.data_mapDictKeys rfl _)),⟨rfl,rfl,rfl⟩,rfl,he,λx hx=>?_,hn⟩ (cN ..)⟩))
 exact (tupleKind knd).keeps (his' x hx) hnew rfl (cN ..)
end
section
variable {X:Cx}
def yr (P:Ac)(w:Ah)(k:List Key):Int:=(tupleKind (xq P w)).hash k
theorem qz1:vp X (.type "dict") (λxs H Q=>∃a kvs,xs=[V.ref a]∧H a=some (.dT kvs)∧kvs≠[]∧(kvs.map λp=>yr X.prog X.w p.1).Nodup∧∀p,H p=none→Q (.ref p) (upd H p (.dT kvs))):=by
 intro pins s σ H xs us Q I r h
 obtain ⟨a,kvs,rfl,e,h0,hh,q⟩:=h
 obtain ⟨u,rfl,rx⟩:=jm r
 cases rx
 obtain ⟨z,hd,xs,rel,dd⟩:=Qf I.hok (.inl e)
 have hl:xs.length=kvs.length:=(bc rel).symm
 have hm:∀ {kvs:List (List Key×V)} {xs:List (List Key×Aj×Ag)},KT H kvs xs→xs.map (λx=>(tupleKind (xq X.prog X.w)).hash x.1)=kvs.map λp=>yr X.prog X.w p.1:=by
  intro kvs xs r
  induction r with
  |nil=>rfl
  |cons h t ih=>rw [aD,aD,ih,h.1];rfl
 refine qur hd dd (by rw [hl];exact z) (λz=>h0 (dA (by rw [←hl,z];rfl))) (by rw [hm rel];exact hh) λh' dd' hs=>?_
 obtain ⟨o',es,ep,h1,h2,h3,h4,h5,h6⟩:=dd'
 refine ⟨.ref _,_,I.laid (a:=s.heap.objs.size) (o:=.dT kvs) (t':=s.toks) (λb q hq=>?_) (af _) ⟨z,aH.mpr (aT (ax I.big)),xs,rel.keeps λc ys ec=>?_,o',es,ep,h1,h2,h3,h4,h6⟩,rfl,q _ (I.hok.fresh (af _))⟩
 ·exact (hs.2 b (ax (ah hq))).trans (ac _ hq)
 ·rw [wx (qf ec (I.hok.fresh (af _)))]
  exact ec
def tDispT (tk tv:TE):TE:=λσ H Q=>∀p,H p=none→tk σ (upd H p (.dT [])) λx H1=>tv σ H1 λv H2=>∃b ks,x=.ref b∧H2 b=some (.tup (ks.map kV))∧H2 p=some (.dT [])∧Q (.ref p) (upd H2 p (.dT [(ks,v)]))
theorem qy7 {k v:Expr}{pos:Pos}{tk tv:TE}(hu:X.A.units<cLine)(hk:PE X k tk)(hv:PE X v tv):PE X (.Dict [some k] [v] pos) (tDispT tk tv):=by
 intro pins s σ H Q I q
 have hn:=I.hok.fresh (af s.heap.objs.size)
 have I1:=I.laid (a:=s.heap.objs.size) (o:=.dT []) (h':=s.heap.push { cls:=.type "dict",data:=.dict #[] }) (t':=s.toks) (λ_ _ q=>ac _ q) (af _) (qxm s.heap I.big)
 refine wpAny_Dict_any rfl rfl (λz=>by cases z) (show 1≤15 by decide) ?_
 refine pairTrees_cons_walk (thn (hk pins _ σ _ _ I1 (q _ hn)) λu s1 ⟨x,H1,I2,rx,q1⟩=>thn (hv pins s1 σ H1 _ I2 q1) λw2 s2 ⟨y,H2,I3,ry,b,ks,ex,eb,ep,q2⟩=>pairTrees_nil_walk ?_)
 subst ex
 cases (show u=Value.ref b from rx)
 obtain ⟨z,hd,xs,rel,dd⟩:=dt_of I3.hok ep
 cases rel
 unfold storeAll
 rw [List.forIn_cons]
 refine aa (aa (wpAny_dictSet_heap (knd:=tupleKind (xq X.prog X.w)) (hsz:=az _) hu (j7 I3.hok eb) dd λh' dd' hs=>ag ?_))
 refine ag ?_
 obtain ⟨o',es,ep',h1,h2,h3,h4,_,h6⟩:=dd'
 refine ⟨.ref _,_,yb I3 (by rw [ep];exact True.intro) hs ⟨o',h1⟩ (show ObjOk X.prog X.w (upd H2 s.heap.objs.size (.dT [(ks,y)])) h' s.heap.objs.size (.dT [(ks,y)]) from ⟨by show 1≤sizeLine;decide,hd,[(ks,b,w2)],.cons ⟨rfl,?_,ry⟩ .nil,o',es,ep',h1,h2,h3,h4,h6⟩),rfl,q2⟩
 rw [wx (ne_of eb ep (λz=>nomatch z))]
 exact eb
theorem Ws {K:Aa}(hK:X.K=K){e:Expr}{f:Str}{pos:Pos}{ta:TE}(he:PE X e ta)(hb:attributeBase e f X.env (eval e X.env)=eval e X.env):PE X (.Attribute e f pos) (tFld K ta f):=by
 subst hK
 exact xm he hb
end
end L2
namespace L2
open PySem
namespace Hs
def rot (a:Nat):Nat:=(a*2 ^ 31)%18446744073709551616+a/2 ^ 33
def lane (a x:Nat):Nat:=(rot ((a+x*14029467366897019727)%18446744073709551616)*11400714785074694791)%18446744073709551616
def dOf (x:Nat):Nat:=(lane 2870177450012600261 x*839798700976720815)%18446744073709551616
def byD:List Nat:=[732,925,295,798,488,178,681,694,887,760,450,140,643,849,722,412,915,102,605,928,811,684,374,877,64,567,257,130,13,956,646,336,839,26,529,219,92,918,608,298,801,491,181,54,247,570,260,763,453,326,143,16,209,532,222,725,415,288,171,494,687,377,880,250,443,133,959,649,339,842,405,95,921,611,804,677,367,57,560,883,573,766,639,456,329,19,522,212,845,911,728,601,291,794,484,174,807,873,690,563,253,756,446,136,9,525,215,718,408,98,924,487,177,680,370,60,886,449,952,139,642,332,835,205,22,88,914,101,604,294,797,50,876,566,256,759,322,12,838,528,218,721,411,284,167,800,490,683,556,373,246,439,129,762,452,955,645,518,335,208,401,91,724,917,607,480,170,363,53,686,879,569,442,132,635,325,15,648,841,404,94,597,287,803,869,56,559,249,752,765,958,831,18,521,211,714,920,793,483,173,676,366,882,755,445,948,135,638,328,201,84,717,407,910,97,600,290,163,46,679,369,872,562,252,125,318,8,641,331,834,524,397,214,87,280,603,293,796,486,359,49,242,565,758,448,951,11,514,204,720,410,913,476,166,682,875,748,438,128,631,321,954,644,837,710,527,400,90,593,283,916,799,672,362,865,52,555,245,878,944,761,634,324,827,14,517,207,596,286,789,479,169,42,558,248,751,441,131,4,957,520,210,713,403,906,93,159,172,675,365,868,55,121,947,637,327,830,393,83,276,909,599,289,792,482,355,45,238,871,561,754,627,444,317,7,510,200,833,523,716,589,406,279,472,162,795,678,551,241,434,124,757,950,640,513,203,706,396,86,719,912,475,165,668,358,48,874,940,127,630,320,823,10,836,902,89,592,282,785,38,864,554,244,747,437,0,953,826,516,206,709,399,272,155,788,478,168,671,361,234,51,117,750,440,943,633,323,196,389,79,712,402,905,595,468,285,158,351,41,674,364,867,557,430,120,313,3,829,519,82,585,275,791,481,44,547,237,753,946,819,636,509,199,702,392,715,908,781,598,471,161,664,354,870,743,433,936,123,626,316,6,949,832,705,395,898,85,588,278,34,667,357,860,47,550,240,113,629,319,822,512,202,75,281,784,474,164,37,230,243,746,436,939,126,192,708,398,901,591,464,154,347,670,360,863,553,426,116,309,942,632,825,698,515,388,78,581,271,904,594,787,660,477,350,40,543,233,866,749,622,312,2,505,195,828,711,584,274,777,467,157,673,236,739,429,119,945,198,701,391,894,81,907,790,160,663,353,856,43,546,109,935,625,315,818,5,508,71,897,587,277,780,470,343,33,226,859,549,239,742,432,305,122,188,821,511,704,394,267,460,150,783,473,666,539,356,229,422,112,435,938,628,191,384,74,900,590,153,656,346,36,862,552,745,115,618,308,501,824,890,707,580,270,773,463,786,852,669,542,232,735,425,941,814,504,194,697,387,77,903,776,466,156,659,349,39,105,738,428,931,118,621,311,184,1,67,390,893,80,583,273,146,29,352,855,545,235,108,301,314,817,507,197,700,70,263,779,469,662,535,225,418,741,431,934,624,497,187,380,703,896,769,586,459,149,652,342,32,665,858,731,548,421,111,614,304,937,820,693,383,73,576,266,899,782,345,848,35,538,228,744,307,810,500,190,63,269,772,462,152,655,25,861,734,424,927,114,617,180,696,386,889,76,579,142,658,348,851,541,414,231,104,297,930,620,310,813,503,376,193,66,259,892,582,775,465,338,28,531,221,854,544,737,610,427,300,493,183,506,699,262,455,145,661,224,727,417,107,933,623,816,689,379,69,572,895,778,651,341,844,31,534,857,923,740,613,303,806,496,186,59,885,575,265,768,458,148,21,847,537,227,730,420,110,176,809,499,189,692,382,255,72,138,461,151,654,344,217,100,423,926,616,306,179,372,62,385,888,578,268,771,334,24,850,540,733,606,296,489,812,502,695,568,258,451,141,774,840,657,530,220,723,413,103,736,929,802,619,492,182,685,375,65,891,764,454,144,647,337,27,853,416,919,106,609,299,815,378,881,68,571,261,134,17,340,843,30,533,223,726,932,805,495,185,688,251,767,457,960,147,650,213,96,729,419,922,612,485,302,175,368,58,691,381,884,574,447,264,137,330,20,653,846,536,409,99,602,292,615,808,498,371,61,564,254,577,770,333,23,526,216]
def apart:List Nat→Bool
 |[]=>true
 |[_]=>true
 |x::y::l=>Nat.ble (dOf x+40) (dOf y)&&apart (y::l)
theorem Jt:apart byD=true:=by decide +kernel
theorem byD_lt:(byD.all λx=>Nat.blt x 961)=true:=by decide +kernel
theorem wxu:byD.length=961:=by decide +kernel
theorem Z2:(byD.all λx=>Nat.ble 40 (dOf x)&&Nat.ble (dOf x+40) 18446744073709551616&&!(Nat.ble (dOf x) 15746002411462551884&&Nat.ble 15746002411462551884 (dOf x+40)))=true:=by decide +kernel
theorem Yw:∀ {l:List Nat},apart l=true→l.Pairwise λx y=>dOf x+40≤dOf y
 |[],_=>.nil
 |[_],_=>eB _ _
 |x::y::l,h=>by
  have h:(Nat.ble (dOf x+40) (dOf y)&&apart (y::l))=true:=h
  rw [ba] at h
  have ih:=Yw h.2
  have a:=bh h.1
  refine List.pairwise_cons.mpr ⟨λz hz=>?_,ih⟩
  rcases ai.mp hz with rfl|hz
  ·exact a
  ·have:=(List.pairwise_cons.mp ih).1 z hz
   lia
theorem pw_two {l:List Nat}(h:l.Pairwise λx y=>dOf x+40≤dOf y):∀x∈l,∀y∈l,x≠y→dOf x+40≤dOf y∨dOf y+40≤dOf x:=by
 induction h with
 |nil=>intro x hx;cases hx
 |@cons b l a t ih =>
  intro x hx y hy ne
  rcases ai.mp hx with hx|hx
  ·rcases ai.mp hy with hy|hy
   ·exact absurd (hx.trans hy.symm) ne
   ·rw [hx];exact .inl (a y hy)
  ·rcases ai.mp hy with hy|hy
   ·rw [hy];exact .inr (a x hx)
   ·exact ih x hx y hy ne
theorem Zs {x:Nat}(h:x<961):x∈byD:=by
 apply bN
 intro n
 have nd:byD.Nodup:=(Yw Jt).imp λ{a b} q e=>by rw [e] at q;lia
 have:=L2.qq3 (x::byD) (List.range 961) (aQ.mpr ⟨n,nd⟩) λv hv=>by
  rcases ai.mp hv with rfl|hv
  ·exact aL.mpr h
  ·exact aL.mpr (Nat.blt_eq.mp (cm.mp byD_lt v hv))
 rw [aK,wxu,aG] at this
 lia
theorem qky (a:Nat):rot a=(a%8589934592)*2147483648+a/8589934592:=by
 unfold rot
 rw [show (18446744073709551616:Nat)=8589934592*2147483648 from rfl,show (2:Nat) ^ 31=2147483648 from rfl,Nat.mul_mod_mul_right]
theorem wwh {a b:Nat}(ha:a<18446744073709551616)(hb:b<18446744073709551616)(h:rot a=rot b):a=b:=by
 rw [qky,qky] at h
 have a1:a/8589934592<2147483648:=dB ha
 have b1:b/8589934592<2147483648:=dB hb
 have a2:=Nat.div_add_mod a 8589934592
 have b2:=Nat.div_add_mod b 8589934592
 generalize a/8589934592=q at *
 generalize b/8589934592=q' at *
 generalize a%8589934592=r at *
 generalize b%8589934592=r' at *
 lia
theorem quf {a:Nat}(ha:a<18446744073709551616):rot a<18446744073709551616:=by
 rw [qky]
 have a1:a/8589934592<2147483648:=dB ha
 have a2:=cI a (show 0<8589934592 by decide)
 lia
theorem qzw {a:Nat}(ha:a<18446744073709551616):((a*11400714785074694791)%18446744073709551616*614540362697595703)%18446744073709551616=a:=by
 have h:(a*11400714785074694791*614540362697595703)%18446744073709551616=a:=by
  rw [Nat.mul_assoc,show 11400714785074694791*614540362697595703=1+18446744073709551616*379806830464837242 from rfl,Nat.mul_add,Nat.mul_one,show a*(18446744073709551616*379806830464837242)=18446744073709551616*(a*379806830464837242) by rw [Nat.mul_left_comm],Nat.add_mul_mod_self_left]
  exact Nat.mod_eq_of_lt ha
 rw [Nat.mul_mod,Nat.mod_mod,←Nat.mul_mod]
 exact h
theorem wx2 {a b:Nat}(ha:a<18446744073709551616)(hb:b<18446744073709551616)(h:(a*11400714785074694791)%18446744073709551616=(b*11400714785074694791)%18446744073709551616):a=b:=by
 rw [←qzw ha,←qzw hb,h]
theorem qk5 {u x:Nat}:((u+x*14029467366897019727)%18446744073709551616*839798700976720815)%18446744073709551616=((u*839798700976720815)%18446744073709551616+x)%18446744073709551616:=by lia
theorem qzr {u v x y:Nat}(h:lane u x=lane v y):(u+x*14029467366897019727)%18446744073709551616=(v+y*14029467366897019727)%18446744073709551616:=by
 unfold lane at h
 have a:=cI (u+x*14029467366897019727) (show 0<18446744073709551616 by decide)
 have b:=cI (v+y*14029467366897019727) (show 0<18446744073709551616 by decide)
 exact wwh a b (wx2 (quf a) (quf b) h)
theorem two_inj {x y x' y':Nat}(hx:x<961)(hx':x'<961)(hy:y≤40)(hy':y'≤40)(y1:1≤y)(y1':1≤y')(h:lane (lane 2870177450012600261 x) y=lane (lane 2870177450012600261 x') y'):x=x'∧y=y':=by
 have e:=qzr h
 have e1:=qk5 (u:=lane 2870177450012600261 x) (x:=y)
 have e2:=qk5 (u:=lane 2870177450012600261 x') (x:=y')
 have d1:dOf x=(lane 2870177450012600261 x*839798700976720815)%18446744073709551616:=by unfold dOf;rfl
 have d2:dOf x'=(lane 2870177450012600261 x'*839798700976720815)%18446744073709551616:=by unfold dOf;rfl
 rw [e,e2,←d1,←d2] at e1
 clear e e2 h d1 d2
 have q:=cm.mp Z2 x (Zs hx)
 have q':=cm.mp Z2 x' (Zs hx')
 rw [ba,ba] at q q'
 have q1:=bh q.1.1
 have q2:=bh q.1.2
 have q1':=bh q'.1.1
 have q2':=bh q'.1.2
 by_cases ne:x=x'
 ·subst ne
  exact ⟨rfl,by lia⟩
 ·have:=pw_two (Yw Jt) x (Zs hx) x' (Zs hx') ne
  lia
theorem not_end {x y:Nat}(hx:x<961)(y1:1≤y)(hy:y≤40):(lane (lane 2870177450012600261 x) y+2870177450013471924)%18446744073709551616≠18446744073709551615:=by
 intro h
 have l1:lane (lane 2870177450012600261 x) y<18446744073709551616:=cI _ (by decide)
 have l2:lane (lane 2870177450012600261 x) y=lane 9148689060682678900 0:=by
  have:lane 9148689060682678900 0=15576566623696079691:=by decide +kernel
  rw [this]
  lia
 have e:=qzr l2
 have e1:=qk5 (u:=lane 2870177450012600261 x) (x:=y)
 have e2:=qk5 (u:=9148689060682678900) (x:=0)
 have d1:dOf x=(lane 2870177450012600261 x*839798700976720815)%18446744073709551616:=by unfold dOf;rfl
 rw [e,e2,←d1,show (9148689060682678900*839798700976720815)%18446744073709551616=15746002411462551884 by decide +kernel] at e1
 clear e e2 h d1 l1 l2
 have q:=cm.mp Z2 x (Zs hx)
 rw [ba,ba] at q
 have q1:=bh q.1.1
 have q2:=bh q.1.2
 have q3:=q.2
 have a:Nat.ble (dOf x) 15746002411462551884=true:=Nat.ble_eq_true_of_le (by lia)
 have b:Nat.ble 15746002411462551884 (dOf x+40)=true:=Nat.ble_eq_true_of_le (by lia)
 rw [a,b] at q3
 cases q3
end Hs
def thG (M P1 P2 P5 C:Nat)(hashes:List Int):Int:=(λacc:Nat=>if acc==M-1 then 1546275796 else if acc<2 ^ 63 then (acc:Int) else (acc:Int)-M) ((hashes.foldl (λacc h=>((((acc+(h%(M:Int)).toNat*P2)%M)*2 ^ 31)%M+((acc+(h%(M:Int)).toNat*P2)%M)/2 ^ 33)*P1%M) P5+(hashes.length ^^^ (P5 ^^^ C)))%M)
theorem th_eq (hs:List Int):Builtin.Tuple.tupleHashOf hs=thG (2 ^ 64) 11400714785074694791 14029467366897019727 2870177450012600261 3527539 hs:=rfl
def laM (M P1 P2 a x:Nat):Nat:=(((a+x*P2)%M)*2 ^ 31%M+((a+x*P2)%M)/2 ^ 33)*P1%M
def finM (M:Nat)(acc:Nat):Int:=if acc==M-1 then (1546275796:Int) else if acc<2 ^ 63 then (acc:Int) else (acc:Int)-M
theorem wxq (M P1 P2 P5 C:Nat)(a b:Int):thG M P1 P2 P5 C [a,b]=finM M ((laM M P1 P2 (laM M P1 P2 P5 (a%(M:Int)).toNat) (b%(M:Int)).toNat+([a,b].length ^^^ (P5 ^^^ C)))%M):=by
 unfold thG laM finM
 rw [List.foldl_cons,List.foldl_cons,List.foldl_nil]
theorem p64:(2:Nat) ^ 64=18446744073709551616:=rfl
theorem qy0 (a x:Nat):laM (2 ^ 64) 11400714785074694791 14029467366897019727 a x=Hs.lane a x:=by
 unfold laM Hs.lane Hs.rot
 rw [p64]
theorem xc:(0+1+1 ^^^ (2870177450012600261 ^^^ 3527539):Nat)=2870177450013471924:=by decide +kernel
theorem ww7 {u:Nat}(ne:u≠18446744073709551615)(lu:u<18446744073709551616):reduceHash (finM (2 ^ 64) u)=if u<9223372036854775808 then (u:Int) else (u:Int)-18446744073709551616:=by
 unfold finM
 rw [p64,aj (by simpa using ne),show (2:Nat) ^ 63=9223372036854775808 from rfl]
 unfold reduceHash
 by_cases c:u<9223372036854775808
 ·rw [am c,am (by simp;lia),aj (by simp),am c]
 ·rw [aj c,am (by simp;lia),aj (by simp;lia),aj c]
  lia
theorem hashI:∀x:Int,0≤x→x≤960→hashInt x=x:=λx h1 h2=>by
 have r:rawHash x=x:=by
  unfold rawHash
  dsimp only
  have e:((x.natAbs:Int)%((2 ^ 61-1:Nat):Int))=x:=by
   rw [show (2 ^ 61-1:Nat)=2305843009213693951 from rfl]
   lia
  rw [e,aj (show ¬ x<0 by lia),aj (by simp;lia)]
 unfold hashInt
 rw [r,aj (by simp;lia)]
theorem qx2 {P:Ac}{w:Ah}{a b:Int}(a0:0≤a)(a1:a≤960)(b0:1≤b)(b1:b≤40):yr P w [.inl a,.inl b] =
  if (Hs.lane (Hs.lane 2870177450012600261 a.toNat) b.toNat+2870177450013471924)%18446744073709551616<9223372036854775808 then (((Hs.lane (Hs.lane 2870177450012600261 a.toNat) b.toNat+2870177450013471924)%18446744073709551616:Nat):Int) else (((Hs.lane (Hs.lane 2870177450012600261 a.toNat) b.toNat+2870177450013471924)%18446744073709551616:Nat):Int)-18446744073709551616:=by
 have ne:=Hs.not_end (x:=a.toNat) (y:=b.toNat) (by lia) (by lia) (by lia)
 have e0:yr P w [.inl a,.inl b]=reduceHash (Builtin.Tuple.tupleHashOf [hashInt a,hashInt b]):=by
  unfold yr
  rfl
 have ea:(a%((2 ^ 64:Nat):Int)).toNat=a.toNat:=by rw [p64];lia
 have eb:(b%((2 ^ 64:Nat):Int)).toNat=b.toNat:=by rw [p64];lia
 rw [e0,hashI a a0 a1,hashI b (by lia) (by lia),th_eq,wxq,ea,eb,qy0,qy0,aK,aK,cS,xc]
 have lu:=cI (Hs.lane (Hs.lane 2870177450012600261 a.toNat) b.toNat+2870177450013471924) (show 0<18446744073709551616 by decide)
 rw [show (Hs.lane (Hs.lane 2870177450012600261 a.toNat) b.toNat+2870177450013471924)%2 ^ 64=(Hs.lane (Hs.lane 2870177450012600261 a.toNat) b.toNat+2870177450013471924)%18446744073709551616 by rw [p64]]
 exact ww7 ne lu
theorem qyr {P:Ac}{w:Ah}{a b a' b':Int}(a0:0≤a)(a1:a≤960)(b0:1≤b)(b1:b≤40)(a0':0≤a')(a1':a'≤960)(b0':1≤b')(b1':b'≤40)
  (h:yr P w [.inl a,.inl b]=yr P w [.inl a',.inl b']):a=a'∧b=b':=by
 rw [qx2 a0 a1 b0 b1,qx2 a0' a1' b0' b1'] at h
 have l1:Hs.lane (Hs.lane 2870177450012600261 a.toNat) b.toNat<18446744073709551616:=cI _ (by decide)
 have l2:Hs.lane (Hs.lane 2870177450012600261 a'.toNat) b'.toNat<18446744073709551616:=cI _ (by decide)
 have e:Hs.lane (Hs.lane 2870177450012600261 a.toNat) b.toNat=Hs.lane (Hs.lane 2870177450012600261 a'.toNat) b'.toNat:=by
  generalize Hs.lane (Hs.lane 2870177450012600261 a.toNat) b.toNat=u at *
  generalize Hs.lane (Hs.lane 2870177450012600261 a'.toNat) b'.toNat=v at *
  split at h <;> split at h <;> lia
 have:=Hs.two_inj (x:=a.toNat) (x':=a'.toNat) (y:=b.toNat) (y':=b'.toNat) (by lia) (by lia) (by lia) (by lia) (by lia) (by lia) e
 lia
end L2
namespace L2
open PySem PySem.Spec PySem.Calls PyProof.Rows
section
variable {Y:Cx}{kx vx:Expr}{tk te:TE}{c:Code}{p:Aj}{σ:St}{H:Hp}{pins:List (Aj×Obj)}{s:Ab}
def dctS (kx vx:Expr)(D:Aj)(env:Env)(c:Code):Sem PySem.Fin:=(eval kx env >>= λkv=>holding [kv] (eval vx env) >>= λvv=>standAt { kx.pos with endLine:=vx.pos.endLine,endCol:=vx.pos.endCol } >>= λ_=>holding [kv,vv] (dictSet D kv vv)) >>= λ_=>again c
theorem qu6 (kx vx target iter:Expr)(scope:Scope)(pos:Pos)(it:Ag)(D:Aj)(env:Env) :
  compTurn (.DictComp kx vx [⟨target,iter,[],0⟩] scope pos) 0 it (.ref D) env=(standAt iter.pos >>= λ_=>pyNext it >>= λr=>match r with|none=>pure (.done .next)|some v=>letOwnedTupleGo target it v >>= λ_=>assign target env v >>= λ_=>dctS kx vx D env (.compLoop (.DictComp kx vx [⟨target,iter,[],0⟩] scope pos) 0 it (.ref D) env)):=by rfl
theorem qy8 {ys:List (Key×V)}{N:List (Key×V)→Hp→Prop}(hk:PE Y kx tk)(hv:PE Y vx te)(J:Inv Y pins σ H s)(hz:ys.length<sizeLine)
  (h:tk σ H λy H4=>te σ H4 λz H5=>∃k,y=kV k∧H5 p=some (.dK ys)∧N (zf ys k z) (upd H5 p (.dK (zf ys k z)))) :
  wpAny (model Y.prog Y.w) Y.A (dctS kx vx p Y.env c) (λr s5=>r=Fin.again c∧∃H5,Inv Y pins σ H5 s5∧∃zs,N zs H5) Y.xe s:=by
 refine aa (aa (aP (hk _ s _ H _ J h) (λkv s6 hr6=>?_) λ_ _ z=>z))
 obtain ⟨y,H4,J6,ry,h4⟩:=hr6
 refine aa (bG (aP (hv _ s6 _ H4 _ J6 h4) (λvv s7 hr7=>?_) λ_ _ z=>z))
 obtain ⟨z,H5,J7,rz,k,rfl,e5,n5⟩:=hr7
 refine aa (dn (bG ?_))
 obtain ⟨zz,hd,vs,rel,dd⟩:=qqz J7.hok e5
 have hl:(zf ys k z).length≤sizeLine:=by have:=vm ys k z;lia
 refine wpAny_dictSet_pairs (hsz:=by rw [←rel.length];exact zz) (yh ry) dd λh' dd' hs=>ag ⟨rfl,_,?_,_,n5⟩
 have he:∃q,h'.get? p=some q:=let ⟨q,_,_,hq,_⟩:=dd';⟨q,hq⟩
 exact yb J7 (by rw [e5];exact True.intro) hs he (Yk hl hd (rel.put k rz) dd')
end
section
variable {X:Cx}{pins:List (Aj×Obj)}{σ:St}{H:Hp}{s2:Ab}{scope:Scope}{cl:List (Str×Aj)}{x:Str}{M:List Nat}{fp:List Aj}{C:Aj}{h1:Heap}{tk:Nat}
theorem Inv.compD (I:Inv X pins σ H s2)(hc:CapAll X.env cl)(hh:HasAll cl scope.names)(hm:CapIx X scope cl M)(hk:scope.kind=.function)(hC:s2.heap.objs.size<C)
  (keep:∀b o,s2.heap.get? b=some o→h1.get? b=some o) (hn:h1.Ns C λ_=>none) (hD:h1.get? s2.heap.objs.size=some { cls:=.type "dict",data:=.dict #[] })
  (hfp:∀b∈fp,k7 X pins H b) (hob:∀b∈fp,∃o,s2.heap.get? b=some o) :
  Inv (zk X scope cl x M C s2 H fp (X.pn++pins)) [] (zu M σ none) (upd H s2.heap.objs.size (.dK [])) { s2 with heap:=h1,toks:=tk } :=
 I.compG (xs:=[x]) hc hh hm hk hC keep hn ⟨az _,aH.mpr (aT (ax I.big)),[],.nil,by
  obtain ⟨o,es,ep,ho,r⟩:=Heap.DictOf.new (knd:=xq X.prog X.w) s2.heap
  have:o={ cls:=.type "dict",data:=.dict #[] }:=ar (ho.symm.trans (ak _ rfl))
  exact ⟨o,es,ep,by rw [this];exact hD,r⟩⟩ hfp hob
end
def qv9 (J:It)(M:List Nat)(tk te:TE)(σ:St)(H1:Hp)(Q:VK):Prop:=∀p,H1 p=none→∃W:Nat→Nat→List (Key×V)→Hp→Prop,(∃m,W 0 m [] (upd H1 p (.dK []))) ∧
 ∀i m ys H2,W i m ys H2→H2 p=some (.dK ys)∧ys.length<sizeLine∧((J.stop i H2∧Q (.ref p) H2)∨(J.go i H2∧∀v H3,J.yld i H2 v H3 →
  tk (zu M σ (some v)) H3 λy H4=>te (zu M σ (some v)) H4 λz H5=>∃k,y=kV k∧H5 p=some (.dK ys)∧∃m',m'<m∧W (i+1) m' (zf ys k z) (upd H5 p (.dK (zf ys k z)))))
def tDComp (M:List Nat)(wi:TI)(tk te:TE):TE:=λσ H Q=>wi σ H λJ H1=>qv9 J M tk te σ H1 Q
section
variable {X:Cx}{kx vx iter:Expr}{x:Str}{px pos:Pos}{scope:Scope}{cl:List (Str×Aj)}{M:List Nat}{wi:TI}{tk te:TE}{pins:List (Aj×Obj)}{σ:St}
theorem qv0 {tg:Expr}(hclos:closureFor scope X.env=pure cl)(hhas:HasAll cl scope.names)(hk:scope.kind=.function)
  (hnames:∀y∈scope.names,y.2=.local→scope.names.lookup y.1=some .local) (hi:PI X tg iter wi) (hs:∀z,foldedSetIterable iter X.env z=pure z)
  {use:Option (Ag→Sem Unit)} {QQ:Ag→Ab→Prop} {s:Ab} {H:Hp} {ps:Pos} {R:It→Hp→Prop} (I:Inv X pins σ H s) (h:wi σ H R)
  (go:∀(it:Aj) (fp:List Aj) (tn:Nat→Heap→Prop) (J:It) (H1:Hp) (s2:Ab) (C:Aj) (h3:Heap) (tn2:Nat),Inv X pins σ H1 s2→Turn X.prog X.w X.K tg J fp it tn→tn 0 h3→(∀b∈fp,k7 X pins H1 b)→(∀b∈fp,b<s2.heap.objs.size)→(∀b∈fp,∃o,s2.heap.get? b=some o)→R J H1→s2.heap.objs.size<C →
   (∀b o,s2.heap.get? b=some o→h3.get? b=some o)→(h3.Ns C λ_=>none)→h3.get? s2.heap.objs.size=some { cls:=.type "dict",data:=.dict #[] } →
   codeAny (model X.prog X.w) X.A (.compLoop (.DictComp kx vx [⟨tg,iter,[],0⟩] scope pos) 0 (.ref it) (.ref s2.heap.objs.size) (compEnvC scope cl C X.env)) (compPost (model X.prog X.w) X.A X.xe use QQ (.ref s2.heap.objs.size) C) { s2 with heap:=h3,toks:=tn2 }) :
  wpAny (model X.prog X.w) X.A (comprehension (.DictComp kx vx [⟨tg,iter,[],0⟩] scope pos) scope X.env ps newDict false (eval iter X.env) use) QQ X.xe s:=by
 refine wpAny_comprehension_free (use:=use) rfl hs hclos hk hnames ?_
 refine thn (hi pins s σ H _ I h) λv s1 h1=>thn h1 λitv s2 h2=>?_
 obtain ⟨it,fp,tn,J,H1,rfl,I2,T,t0,hfp,hR⟩:=h2
 refine bU ?_
 refine wpAny_newFunctionEnv hhas.nocell (by intro y hy;cases hy) (λh3 hns hsb=>?_) hk
 dsimp only at hns hsb ⊢
 generalize hH2:s2.heap.push { cls:=.type "dict",dict:=none,data:=.dict #[] }=G2 at hns hsb ⊢
 have hC:G2.objs.size=s2.heap.objs.size+1:=by rw [←hH2,dP]
 have hlt:s2.heap.objs.size<G2.objs.size:=by lia
 have keep:∀b o,s2.heap.get? b=some o→h3.get? b=some o:=λb o e=>by
  rw [hsb.2 b (ax (bv (ah e) hlt))]
  exact ac _ (hH2▸ac _ e)
 have hD:h3.get? s2.heap.objs.size=some { cls:=.type "dict",data:=.dict #[] }:=by
  rw [hsb.2 _ (ax hlt)]
  exact ac _ (hH2▸ak _ rfl)
 have t3:=T.keep 0 _ _ t0 λb _ o e=>keep b o e
 have loop:=λtn2=>go it fp tn J H1 s2 G2.objs.size h3 tn2 I2 T t3 hfp (λb hb=>let ⟨o,e,_⟩:=T.obj 0 _ t0 b hb;ah e) (λb hb=>let ⟨o,e,_⟩:=T.obj 0 _ t0 b hb;⟨o,e⟩) hR hlt keep hns hD
 exact codeAny_compStart_dict (loop _) (T.self _ 0 _ _ _ t3 (loop _))
end
section
variable {X:Cx}{kx vx iter:Expr}{x:Str}{px pos:Pos}{scope:Scope}{cl:List (Str×Aj)}{M:List Nat}{wi:TI}{tk te:TE}
theorem qj2 (hc:X.calm=true)(hclos:closureFor scope X.env=pure cl)(hcap:CapAll X.env cl)(hhas:HasAll cl scope.names)(hix:CapIx X scope cl M)(hk:scope.kind=.function)
  (hnames:∀y∈scope.names,y.2=.local→scope.names.lookup y.1=some .local) (hx:scope.names.lookup x=some .local) (hnd:(Yc X x M).Nodup) (hi:PI X (.Name x px) iter wi)
  (hkx:∀C s2 H2 fp pn,PE (zk X scope cl x M C s2 H2 fp pn) kx tk) (he:∀C s2 H2 fp pn,PE (zk X scope cl x M C s2 H2 fp pn) vx te) (hs:∀z,foldedSetIterable iter X.env z=pure z)
  {use:Option (Ag→Sem Unit)} {QQ:Ag→Ab→Prop} {pins:List (Aj×Obj)} {s:Ab} {σ:St} {H:Hp} {Q:VK} {ps:Pos} (I:Inv X pins σ H s) (h:wi σ H λJ H1=>qv9 J M tk te σ H1 Q)
  (fin:∀(C:Aj) (s2 s4:Ab) (H1 H2:Hp) (fp:List Aj),Inv X pins σ H1 s2→s2.heap.objs.size<C→(∀b∈fp,k7 X pins H1 b)→Inv (zk X scope cl x M C s2 H1 fp (X.pn++pins)) [] (zu M σ none) H2 s4→Q (.ref s2.heap.objs.size) H2 →
   compPost (model X.prog X.w) X.A X.xe use QQ (.ref s2.heap.objs.size) C (.ok .next) s4) :
  wpAny (model X.prog X.w) X.A (comprehension (.DictComp kx vx [⟨.Name x px,iter,[],0⟩] scope pos) scope X.env ps newDict false (eval iter X.env) use) QQ X.xe s:=by
 refine qv0 hclos hhas hk hnames hi hs I h λit fp tn J H1 s2 C h3 tn2 I2 T t3 hfp hbl hob hR hlt keep hns hD=>?_
 obtain ⟨W,⟨m0,w0⟩,hW⟩:=hR s2.heap.objs.size (I2.hok.fresh (af _))
 have hxl:(relabel scope X.env).names.lookup x=some .local:=dv hx
 refine Qn (Y:=zk X scope cl x M C s2 H1 fp (X.pn++pins)) (V:=λi n H2=>∃ys,W i n ys H2) (Qd:=Q (.ref s2.heap.objs.size)) (REST:=dctS kx vx s2.heap.objs.size (compEnvC scope cl C X.env) _) T hc (λ_ _ z=>z) (qu6 ..) rfl rfl (xk (i:=0) hnd rfl (.inl hxl) (.inr hxl)) (qqr hcap I2 hlt hfp hbl) (λi n H2 ⟨ys,w⟩=>?_) (λH2 s4 J4 q=>fin C s2 s4 H1 H2 fp I2 hlt hfp J4 q) (I2.compD hcap hhas hix hk hlt keep hns hD hfp hob) ⟨[],w0⟩ t3 λb hb=>by rw [wx (ax (hbl b hb))];exact (hfp b hb).1
 obtain ⟨hp,hz,hcase⟩:=hW i n ys H2 w
 refine hcase.imp id λ⟨hgo,hy⟩=>⟨hgo,λv H3 yl=>⟨λσ4 H4=>σ4=zu M σ (some v)∧H3=H4,⟨rfl,rfl⟩,λ_ _ e=>?_⟩⟩
 obtain ⟨rfl,rfl⟩:=e
 refine ⟨uq M σ v,λpins' s' J=>?_⟩
 refine aP (qy8 (N:=λzs H5=>∃m',m'<n∧W (i+1) m' zs H5) (hkx _ _ _ _ _) (he _ _ _ _ _) J hz (hy v H3 yl)) (λr s5 ⟨e,H5,J5,zs,m',hm,w'⟩=>⟨e,H5,J5,m',hm,zs,w'⟩) λ_ _ z=>z
theorem qzb {i:Nat}{y:Str}{py spos:Pos}(hN:X.N.Nodup)(hyi:X.N[i]?=some y)(hyl:Loc X.env.scope y)(hc:X.calm=true)(hclos:closureFor scope X.env=pure cl)(hcap:CapAll X.env cl)(hhas:HasAll cl scope.names)(hix:CapIx X scope cl M)(hk:scope.kind=.function)
  (hnames:∀y∈scope.names,y.2=.local→scope.names.lookup y.1=some .local) (hx:scope.names.lookup x=some .local) (hnd:(Yc X x M).Nodup) (hi:PI X (.Name x px) iter wi)
  (hkx:∀C s2 H2 fp pn,PE (zk X scope cl x M C s2 H2 fp pn) kx tk) (he:∀C s2 H2 fp pn,PE (zk X scope cl x M C s2 H2 fp pn) vx te) (hs:∀z,foldedSetIterable iter X.env z=pure z:=by intro _;rfl)
  (hsw:swapsWith (.DictComp kx vx [⟨.Name x px,iter,[],0⟩] scope pos) (some (.Name y py)) spos.line X.env=pure true:=by rfl) (hyf:X.fn y=true∨X.env.scope.names.lookup y=some .local:=by first | exact .inl rfl | exact .inr rfl | assumption) :
  PS X (.Assign [.Name y py] (.DictComp kx vx [⟨.Name x px,iter,[],0⟩] scope pos) spos) (tAsg (tDComp M wi tk te) (qy9 i)):=by
 intro pins s σ H D I h
 rw [exec_Assign_Name_used _ _ _ _ hsw]
 refine aa (dn (aa ?_))
 refine aa (aP (qj2 hc hclos hcap hhas hix hk hnames hx hnd hi hkx he hs (use:=some (assign (.Name y py) X.env)) (QQ:=λ_ s'=>SP X pins D .next s') I h λC s2 s4 H1 H2 fp I2 hlt hfp J4 hq=>?_) (λ_ s' hq=>ag (ag hq)) λ_ _ e=>e)
 have I4:Inv X pins σ H2 s4:=I2.uncomp (h':=s4.heap) (bC hlt) hfp J4 (Heap.SameBut.refl _ _)
 have hCn:H2 C=none:=J4.free
 obtain ⟨mC,hnC,_⟩:=J4.loc
 obtain ⟨oC,esC,epC,hoC,hdC⟩:=id hnC
 have hCl:C≠X.env.locals:=λz=>aW _ (bv hlt (z▸I2.lt))
 have hCs:X.s₀.heap.objs.size≤C:=bu I2.sz (bC hlt)
 have hCc:∀y c,X.env.cells.lookup y=some c→c≠C:=λy c e z=>by
  obtain ⟨v,o,e1,_⟩:=I2.cell y c e
  exact aW _ (bv hlt (z▸ah e1))
 have hCp:∀p∈X.pn++pins,p.1≠C:=λp hp z=>aW _ (bv hlt (z▸ah (I2.pin p hp).1))
 have hCf:C∉frs X.stack:=λz=>by
  rcases ai.mp (I2.stkSub C z) with q|q
  ·exact hCl q
  ·obtain ⟨_,o,e1,_⟩:=I2.funs.mem (b:=C) q
   exact aW _ (bv hlt (ah e1))
 have hCx:C∉X.fs:=λz=>by
  obtain ⟨_,o,e1,_⟩:=I2.funs.mem (b:=C) z
  exact aW _ (bv hlt (ah e1))
 have I4p:Inv X (pins++[(C,oC)]) σ H2 s4:=⟨I4.ok,I4.os,I4.bare,I4.base,I4.loc,I4.cell,I4.free,I4.freeC,λp hp=>by
  rcases bj.mp hp with q|q
  ·exact I4.pin p (cD _ q)
  ·rcases bj.mp q with q|q
   ·exact I4.pin p (aJ _ q)
   ·rw [aC.mp q]
    exact ⟨hoC,hCn,hCl,hCx,λv z=>by rw [hdC.1] at z;cases z⟩,I4.hok,I4.len⟩
 show wpAny _ _ (assign (.Name y py) X.env (.ref s2.heap.objs.size)) _ _ _
 refine wpAny_assign_Name (jp I4p hN hyi hyl (show RelV (.ref s2.heap.objs.size) (.ref s2.heap.objs.size) from rfl) (λs5 I5=>?_) hyf)
 have hC5:=(I5.pin (C,oC) (aJ _ (aJ _ (.head _)))).1
 exact ⟨mC,⟨oC,esC,epC,hC5,hdC⟩,λh' hs'=>⟨_,H2,I5.unpinned.but hCn hCs hCl hCc hCp hs',hq⟩⟩
end
end L2
namespace L2
open PySem PySem.Spec PyProof.Rows
def MissR (K:Aa)(C D:Aj):Prop:=∀ {M:Model} {A:Ae} {E:Ag→Ab→Prop} {h:Heap} {g:Array GenState} {d:Drawn} {t:Nat} {os:OsState} {e:Aj} {oe:Obj} {Q:Bool→Ab→Prop},
 K.In h→h.get? e=some oe→oe.cls=.ref C→Q false ⟨h,g,d,t,os⟩→wpAny M A (excMatches (.ref e) (.ref D)) Q E ⟨h,g,d,t,os⟩
theorem qv3 {K:Aa}{C D:Aj}(d:ExcC K D)(hm:PySem.W.mroIn K C (.ref D)=some false):MissR K C D:=by
 intro M A E h g dr t os e oe Q X he hc q
 obtain ⟨tl,N,a1,a2,a3,a4,a5,a6,a7,a8,a9,b0,b1,b2,b3,b5,mN,hC,hN,hni,T⟩:=qw6 X d.q
 have hbase:=T.hasType bH.hasBase
 have hcB:(Value.ref D::tl).contains (.type "BaseException")=true:=by rw [List.contains_cons,hbase,Bool.or_true]
 have L:PySem.W.Looks M h (isSubtype (.ref C) (.ref D)) false:=PySem.W.looks_mroIn X hm
 have f:=tc_notTuple
 unfold excMatches
 repeat (first | (with_reducible refine wpAny_loadPart_at he ?_;rw [hc]) | with_reducible refine wpAny_loadPart_at hC ?_ | (with_reducible refine wpAny_isSubtype_exc hC ?_;rw [hcB]) | with_reducible refine L.at ?_ | wp_step)
 exact q
section
variable {X:Cx}{pins:List (Aj×Obj)}{σ:St}{H H':Hp}{s s':Ab}{e:Aj}
end
section
variable {X:Cx}{x x1:Str}{D0 D1:Aj}{np hpos np1 hpos1 pos:Pos}{b₀ b₁:Stmt}{body suite suite1:List Stmt}{tb:(St→XK)→TS}{th th1:TS}
end
end L2
namespace L2
open PySem PySem.Spec PyProof.Rows
inductive PHs (X:Cx):List ExceptHandler→List (Aj×TS)→Prop
 |nil:PHs X [] []
 |cons {x:Str} {D0:Aj} {np hpos:Pos} {b₀:Stmt} {suite:List Stmt} {th:TS} {hs:List ExceptHandler} {trs:List (Aj×TS)} (hg:Gl X x) (hm:X.mg x=some (.ref D0)) (hh:∀e,PSs (X.handling e) (b₀::suite) th) (r:PHs X hs trs) (hdb:(x==("__debug__" : Str))=false) :
  PHs X (.ExceptHandler (some (.Name x np)) none (b₀::suite) hpos::hs) ((D0,th)::trs)
def CatL (K:Aa)(C:Aj)(D:Ends)(σ:St)(H:Hp):List (Aj×TS)→Prop
 |[]=>False
 |p::t=>(qwp K C p.1∧p.2 D σ H)∨(MissR K C p.1∧CatL K C D σ H t)
section
variable {X:Cx}{pins:List (Aj×Obj)}{σ:St}{H H':Hp}{s s':Ab}{e:Aj}
theorem landN {E:XK}{ev:Ag}{hs:List ExceptHandler}{trs:List (Aj×TS)}{D:Ends}(I:Inv X pins σ H s)(hst:X.stack=X.env::X.outer)(hfr:X.env.frame=some X.env.locals)
  (hx:CXE X.prog X.w X.stack H s E ev s') (hE:∀c d H',E c d H'→∃C,c=.ref C∧CatL X.K C D σ H' trs) (hP:PHs X hs trs) :
  wpAny (model X.prog X.w) X.A (noteFrame ev X.env) (λ_ s2=>wpAny (model X.prog X.w) X.A (setFlight ev none) (λ_ s3 =>
   wpAny (model X.prog X.w) X.A (handleBy ev X.env hs) (SP X pins D) X.xe s3) X.xe s2) X.xe s':=by
 obtain ⟨a,C,a0,B,H',rfl,hos,hba,un,hokB,hfl,old,q⟩:=hx
 obtain ⟨C1,e1,hcase⟩:=hE _ _ _ q
 cases e1
 have mk:∀(h6:Heap),Heap.FlyingW B X.stack a (.ref C) a0 h6→s'.heap.UpToSlots h6→Inv X pins σ H' { s' with heap:=h6 }:=λh6 fl up=>by
  refine I.call' (s':={ s' with heap:=h6 }) (ch:=[]) hos ⟨λb o e n nb _=>?_,λb o e n hb _=>?_,λb o e n _=>un.free b o e n nin,λb o e _=>?_,un.tups,un.frzs,un.tbls⟩ (hokB.kept fl.1) hba (λb z=>nomatch z)
  ·obtain ⟨o',e1,e2⟩:=old b o e nb
   rw [e2 n] at e1
   exact fl.1 b o e1
  ·obtain ⟨sl,e2⟩:=un.slot b o e n hb nin
   obtain ⟨_,o3,e3,nf⟩:=hfl.2.2.1.mem (b:=b) hb
   obtain ⟨sl4,e4⟩:=up b o3 e3 nf
   rw [e2] at e3
   have e5:=ar e3
   exact ⟨sl4,by show h6.get? b=_;rw [e4,←e5]⟩
  ·by_cases hb:b∈frs X.stack
   ·obtain ⟨_,o3,e3,nf⟩:=hfl.2.2.1.mem (b:=b) hb
    obtain ⟨sl4,e4⟩:=up b o3 e3 nf
    exact ⟨_,e4⟩
   ·obtain ⟨o',e1,_⟩:=old b o e hb
    exact ⟨o',fl.1 b o' e1⟩
 have hfrm:X.A.frames=some (X.env::X.outer):=by rw [←hst];exact I.ok.frames
 have hfl':Heap.FlyingW B (X.env::X.outer) a (.ref C) a0 s'.heap:=by rw [←hst];exact hfl
 refine wpAny_looks_onW hfrm hfr hfl' λh4 held4 up4=>?_
 refine wpAny_landsW held4 λh5 fl5 up5=>?_
 have I5:=mk h5 (by rw [hst];exact fl5) (up4.trans up5)
 have I5h:=I5.handling a
 obtain ⟨ob,hob,hobc⟩:=fl5.there
 obtain ⟨hp,gg,dd,tk,os⟩:=s'
 clear hE
 induction hP with
 |nil=>exact hcase.elim
 |@cons x D0 np hpos b₀ suite th hs trs hg hm hh r hdb ih =>
  rcases hcase with ⟨hcat,hth⟩|⟨hmiss,hcase⟩
  ·refine dE (df (kf (X:=X.handling a) I5h hg hm ?_ hdb)) (by intro z;cases z)
   refine hcat (h:=h5) I5.kIn hob hobc ?_
   refine codeAny_handlers_suite ?_
   refine lands_againW fl5 λh6 fl6 up6=>?_
   have I6:=(mk h6 (by rw [hst];exact fl6) ((up4.trans up5).trans up6)).handling a
   exact aP (hh a pins _ σ H' D I6 hth) (λf s2 h2=>h2.unhandling I.ok) λ_ _ z=>z.elim
  ·refine dE (df (kf (X:=X.handling a) I5h hg hm ?_ hdb)) (by intro z;cases z)
   refine hmiss (h:=h5) I5.kIn hob hobc ?_
   exact ih hcase
end
def tTryN (K:Aa)(trs:List (Aj×TS))(tb:(St→XK)→TS):TS:=λD σ H=>tb (λσ' c _ H'=>∃C,c=.ref C∧CatL K C D σ' H' trs) D σ H
section
variable {X:Cx}{pos:Pos}{body:List Stmt}{tb:(St→XK)→TS}{h1:ExceptHandler}{hs1:List ExceptHandler}{trs:List (Aj×TS)}
theorem wwd (hst:X.stack=X.env::X.outer)(hfr:X.env.frame=some X.env.locals)
  (hb:∀(pn:List (Aj×Obj)) (xe:Ag→Ab→Prop) (E:St→XK),v6 (X.trying pn xe) E→PassesOwn (model X.prog X.w) X.A X.env xe→PSs (X.trying pn xe) body (tb E)) (hP:PHs X (h1::hs1) trs) :
  PS X (.Try body (h1::hs1) [] [] pos) (tTryN X.K trs tb):=by
 intro pins s σ H D I h
 refine wpAny_Try_except ?_
 refine aP (hb (X.pn++pins) (λe s₁=>wpAny (model X.prog X.w) X.A (noteFrame e X.env) (λ_ s₂=>wpAny (model X.prog X.w) X.A (setFlight e none) (λ_ s₃ =>
   wpAny (model X.prog X.w) X.A (handleBy e X.env (h1::hs1)) (SP X pins D) X.xe s₃) X.xe s₂) X.xe s₁) _ ?_ PassesOwn.looking [] s σ H D (I.trying _) h) (λf s1 hf=>?_) λ_ _ z=>z
 ·intro pins' σ' H1 s1 e s1' I1 hx
  exact landN (X:=X) (I1.untrying I.ok) hst hfr hx (λc d H' q=>q) hP
 ·have h2:=hf.untrying I.ok
  cases f with
  |next=>exact cy h2
  |brk=>exact h2
  |cont=>exact h2
  |ret u=>exact h2
end
end L2
namespace L2
open PySem PySem.Spec PyProof.Rows
theorem qyw (bs:List Bool):(List.range bs.length).any (λi=>bs.getD i false)=bs.any id:=by
 rw [bQ,cL,cL]
 constructor
 ·rintro ⟨i,hi,h⟩
  have hi':=aL.mp hi
  rw [al,au hi'] at h
  exact ⟨bs[i],cJ hi',h⟩
 ·rintro ⟨b,hb,h⟩
  obtain ⟨i,hi,rfl⟩:=dG hb
  refine ⟨i,aL.mpr hi,?_⟩
  rw [al,au hi]
  exact h
section
variable {X:Cx}{K:Aa}
theorem Y3 (hc:X.calm=true)(hK:X.K=K):vp X (.builtin "any") (λxs H Q=>∃(p:Aj) (bs:List Bool),xs=[.ref p]∧SqL K H p (bs.map V.bl)∧Q (.bl (bs.any id)) H):=by
 subst hK
 intro pins s σ H xs us Q I r h
 obtain ⟨p,bs,rfl,hS,q⟩:=h
 obtain ⟨u,rfl,ru⟩:=jm r
 cases (show u=Value.ref p from ru)
 obtain ⟨its,rv,⟨o,n,e1,e2,e3,e4⟩,hz⟩:=I.list hS
 have hits:=Zx rv
 have hl:s.heap.IsList p its.toArray:=⟨o,e1,e2,n,e4⟩
 have hlt:p<s.heap.objs.size:=ah e1
 refine call_any_walk (dX hl ?_)
 refine ⟨s.heap.objs.size,_,_,_,_,_,λi=>bs.getD i false,rfl,Walks.list (A:=X.A.in1) (I.ok.hd hc) _ p (ax hlt) its.toArray,⟨⟨_,ak _ rfl,rfl,rfl⟩,hl.push _⟩,λi v s' Q' E' hP hQ=>?_,λh' tk hk=>?_⟩
 ·have hv:its[i]?=some v:=by simpa using hP
  rw [hits,aM] at hv
  cases hb:bs[i]? with
  |none=>rw [hb] at hv;cases hv
  |some b =>
   rw [hb] at hv
   have ev:Value.bool b=v:=ar hv
   subst ev
   refine bT ?_
   have e2:bs.getD i false=b:=by rw [al,hb];rfl
   have hQ':Q' (bs.getD i false) s':=hQ
   rw [e2] at hQ'
   exact hQ'
 ·have hlen:its.toArray.size=bs.length:=by rw [hits];simp
  rw [hlen,qyw]
  refine ⟨.bl _,H,I.kept λb ob e=>hk b ob (λhm=>?_) (ac _ e),rfl,q⟩
  have z:b=s.heap.objs.size:=by simpa using hm
  exact aW _ (z▸ah e)
end
end L2
namespace L2
open PySem
theorem quc {M:List Nat}{x:Str}{te:TE}{σ:St}{H:Hp}{Q:VK}(f:Nat→V)(hn:x.cps.size≤1000000)(he:∀(i:Nat) (H':Hp) (R:VK),i<x.cps.size→Same H H'→R (f i) H'→te (zu M σ (some (.str ⟨#[x.cps.getD i 0]⟩))) H' R)
  (k:∀p,H p=none→Q (.ref p) (upd H p (.lst ((List.range x.cps.size).map f)))):qx1 (ItS x) M te σ H Q:=by
 intro p np
 refine ⟨λi m ys H2=>i≤x.cps.size∧m=x.cps.size-i∧ys=(List.range i).map f∧H2=upd H p (.lst ys),⟨x.cps.size,az _,rfl,rfl,rfl⟩,?_⟩
 rintro i m ys H2 ⟨hi,rfl,rfl,rfl⟩
 refine ⟨qb,?_,?_⟩
 ·rw [ae,aG]
  have:(1000000:Nat)<sizeLine:=by decide
  lia
 ·by_cases hlt:i<x.cps.size
  ·refine .inr ⟨hlt,?_⟩
   rintro v H3 ⟨rfl,rfl⟩
   refine he i (upd H p (.lst ((List.range i).map f))) _ hlt (Same.upd np) ⟨qb,x.cps.size-(i+1),by lia,by lia,rfl,?_,?_⟩
   ·rw [bR,aR]
    rfl
   ·rw [jb]
  ·refine .inl ⟨by show x.cps.size≤i;lia,?_⟩
   have:i=x.cps.size:=by lia
   subst this
   exact k p np
theorem qu7 {M:List Nat}{d:Aj}{o:Obj}{cs:List (Key×V)}{tk te:TE}{σ:St}{H:Hp}{Q:VK}(f:Key→V)(hz:cs.length≤1000000)(nd:(cs.map (·.1)).Nodup)(hd:H d=some (.frz o (.dK cs)))
  (he:∀(k:Key) (H':Hp) (R:V→V→Hp→Prop),Same H H'→R (kV k) (f k) H'→tk (zu M σ (some (kV k))) H' λy H4=>te (zu M σ (some (kV k))) H4 λz H5=>R y z H5)
  (k:∀p,H p=none→Q (.ref p) (upd H p (.dK (cs.map λc=>(c.1,f c.1))))):qv9 (ItD d o cs) M tk te σ H Q:=by
 intro p np
 have big:(1000000:Nat)<sizeLine:=by decide
 refine ⟨λi m ys H2=>i≤cs.length∧m=cs.length-i∧ys=(cs.take i).map (λc=>(c.1,f c.1))∧H2=upd H p (.dK ys),⟨cs.length,az _,rfl,rfl,rfl⟩,?_⟩
 rintro i m ys H2 ⟨hi,rfl,rfl,rfl⟩
 have dp:d≠p:=qf hd np
 refine ⟨qb,by rw [ae,ck];lia,?_⟩
 by_cases hlt:i<cs.length
 ·refine .inr ⟨⟨by rw [wx dp];exact hd,hlt⟩,?_⟩
  rintro v H3 ⟨rfl,c,ec,rfl⟩
  refine he c.1 _ _ (Same.upd np) ⟨c.1,rfl,qb,cs.length-(i+1),by lia,by lia,rfl,?_,?_⟩
  ·have hn:w9 ((cs.take i).map λc=>(c.1,f c.1)) c.1=none:=by
    unfold w9
    rw [List.find?_eq_none.mpr]
    ·rfl
    ·intro x hx
     obtain ⟨y,hy,rfl⟩:=aO.mp hx
     have hy2:y.1∈(cs.map (·.1)).take i:=by rw [←eU];exact aO.mpr ⟨y,hy,rfl⟩
     intro z
     have z:y.1=c.1:=by simpa using z
     obtain ⟨j,hj,ej⟩:=dG hy2
     rw [ck,ae] at hj
     rw [List.getElem_take] at ej
     have e2:(cs.map (·.1))[i]'(by rw [ae];exact hlt)=c.1:=by
      rw [List.getElem_map]
      rw [au hlt] at ec
      rw [ar ec]
     have:=(List.getElem_inj nd).mp (ej.trans (z.trans e2.symm))
     lia
   rw [Zm _ hn,List.take_add_one,aR,ec]
   rfl
  ·rw [jb]
 ·refine .inl ⟨⟨by rw [wx dp];exact hd,by lia⟩,?_⟩
  have:i=cs.length:=by lia
  subst this
  rw [ei]
  exact k p np
theorem for_di {d:Aj}{o:Obj}{cs:List (Key×V)}{g:TG}{tb:TS}{D:Ends}{σ:St}{H:Hp}(Pv:Nat→St→Hp→Prop)(h0:Pv 0 σ H)(hl:∀i σ H,i≤cs.length→Pv i σ H→H d=some (.frz o (.dK cs)))
  (hs:∀i c q σ H,cs[i]?=some c→H q=none→Pv i σ H→g (.ref q) σ (upd H q (.tup [kV c.1,c.2])) λσ2 H2=>tb { D with nx:=Pv (i+1),ct:=Pv (i+1),bk:=D.nx } σ2 H2) (hd:∀σ H,Pv cs.length σ H→D.nx σ H) :
  ∃W:Nat→Nat→St→Hp→Prop,(∃m,W 0 m σ H)∧∀i m σ H,W i m σ H →
   ((ItDI d o cs).stop i H∧D.nx σ H)∨((ItDI d o cs).go i H∧∃N:St→Hp→Prop,(∀σ' H',N σ' H'→∃m',m'<m∧W (i+1) m' σ' H')∧∀x H',(ItDI d o cs).yld i H x H'→g x σ H' λσ2 H2=>tb { D with nx:=N,ct:=N,bk:=D.nx } σ2 H2):=by
 refine ⟨λi m σ H=>m=cs.length-i∧i≤cs.length∧Pv i σ H,⟨cs.length,by simp,az _,h0⟩,?_⟩
 rintro i m σ H ⟨rfl,hi,p⟩
 have q:=hl i σ H hi p
 by_cases hlt:i<cs.length
 ·refine .inr ⟨⟨q,hlt⟩,Pv (i+1),λσ' H' p'=>⟨cs.length-(i+1),by lia,rfl,hlt,p'⟩,?_⟩
  rintro x H' ⟨z,c,nz,rfl,ec,rfl⟩
  exact hs i c z σ H ec nz p
 ·have e:i=cs.length:=by lia
  subst e
  exact .inl ⟨⟨q,af _⟩,hd σ H p⟩
def ex1 (R:List (Key×V))(c:Key×V):List (Key×V):=if c.2=.non then Zr R c.1 else zf R c.1 c.2
def exK (R cs:List (Key×V)):List (Key×V):=cs.foldl ex1 R
def bfK (R cs:List (Key×V)):List (Key×V):=cs.map λc=>(c.1,(w9 R c.1).getD .non)
def Y2 (R cs:List (Key×V)):Prop:=∀(i:Nat) c,cs[i]?=some c→c.2=.non→(w9 (exK R (cs.take i)) c.1).isSome=true
theorem wxj (R:List (Key×V)){cs:List (Key×V)}{i:Nat}{c:Key×V}(h:cs[i]?=some c):exK R (cs.take (i+1))=ex1 (exK R (cs.take i)) c:=by
 unfold exK
 rw [List.take_add_one,h,List.foldl_append]
 rfl
theorem wwr (R:List (Key×V))(c:Key×V):(ex1 R c).length≤R.length+1:=by
 unfold ex1
 split
 ·have:=qzf R c.1
  lia
 ·exact vm R c.1 c.2
theorem ww8 (R cs:List (Key×V)):(exK R cs).length≤R.length+cs.length:=by
 induction cs generalizing R with
 |nil=>exact af _
 |cons c cs ih =>
  have h1:=ih (ex1 R c)
  have h2:=wwr R c
  show (exK (ex1 R c) cs).length≤_
  rw [aK]
  lia
def Kb (ch:List Aj)(H H':Hp):Prop:=∀b o,b∉ch→H b=some o→H' b=some o
section
variable {X:Cx}{C:Aj}{x:Str}{k:Nat}{sp:Sp}{E:St→XK}{p pos:Pos}
theorem qjn (c:CCal X.prog X.w X.K X.mg X.base x C k sp)(hr:Room (k+1) X.A)(hg:Gl X x)(hx:v6 X E)(hdb:(x==("__debug__" : Str))=false:=by decide) :
  PE X (.Call (.Name x p) [] [] pos) (qvp C sp E uy):=by
 obtain ⟨f,fd,ps,hm,M,F,b⟩:=c.ex
 intro pins s σ H Q I h
 refine cv (kf I hg hm ?_ hdb)
 exact PySem.W.callWith_K0 I.kIn M.kp (Jn (us:=[]) M F hr b hx I .nil h)
end
theorem Kb.rd {ch:List Aj}{H H':Hp}(k:Kb ch H H'){d:Aj}{kvs:List (Key×V)}(n:d∉ch)(h:Rd H d (.dK kvs)):Rd H' d (.dK kvs):=by
 rcases h with h|⟨o,h⟩
 ·exact .inl (k _ _ n h)
 ·exact .inr ⟨o,k _ _ n h⟩
theorem Kb.trans {ch:List Aj}{H H' H'':Hp}(a:Kb ch H H')(b:Kb ch H' H''):Kb ch H H'':=λc o n e=>b c o n (a c o n e)
theorem Kb.of {ch:List Aj}{H H':Hp}(s:Same H H'):Kb ch H H':=λc o _ e=>s c o e
theorem for_en {K:Aa}{a:Aj}{xs:List V}{g:TG}{tb:TS}{D:Ends}{σ:St}{H:Hp}(Pv:Nat→St→Hp→Prop)(h0:Pv 0 σ H)(hl:∀i σ H,i≤xs.length→Pv i σ H→SqL K H a xs)
  (hs:∀i x q σ H,xs[i]?=some x→H q=none→Pv i σ H→g (.ref q) σ (upd H q (.tup [.int (i:Nat),x])) λσ2 H2=>tb { D with nx:=Pv (i+1),ct:=Pv (i+1),bk:=D.nx } σ2 H2) (hd:∀σ H,Pv xs.length σ H→D.nx σ H) :
  ∃W:Nat→Nat→St→Hp→Prop,(∃m,W 0 m σ H)∧∀i m σ H,W i m σ H →
   ((ItE K a xs).stop i H∧D.nx σ H)∨((ItE K a xs).go i H∧∃N:St→Hp→Prop,(∀σ' H',N σ' H'→∃m',m'<m∧W (i+1) m' σ' H')∧∀x H',(ItE K a xs).yld i H x H'→g x σ H' λσ2 H2=>tb { D with nx:=N,ct:=N,bk:=D.nx } σ2 H2):=by
 refine ⟨λi m σ H=>m=xs.length-i∧i≤xs.length∧Pv i σ H,⟨xs.length,by simp,az _,h0⟩,?_⟩
 rintro i m σ H ⟨rfl,hi,p⟩
 have q:=hl i σ H hi p
 by_cases hlt:i<xs.length
 ·refine .inr ⟨⟨q,hlt⟩,Pv (i+1),λσ' H' p'=>⟨xs.length-(i+1),by lia,rfl,hlt,p'⟩,?_⟩
  rintro x H' ⟨z,c,nz,rfl,ec,rfl⟩
  exact hs i c z σ H ec nz p
 ·have e:i=xs.length:=by lia
  subst e
  exact .inl ⟨⟨q,af _⟩,hd σ H p⟩
end L2
namespace My
open PySem L2
def top (i:Nat):Stmt:=PySem.Challenge.pw_crookroad_k63_whole_many_deeds.main.body.getD i (.Pass ⟨0,0,0,0⟩)
abbrev s_check_count:Stmt:=top 16
theorem Yb:FnScope ["number","fewest","most"] ["number","fewest","most"] (wz s_check_count):=⟨rfl,rfl,rfl,by decide +kernel,rfl,by decide +kernel,by decide +kernel⟩
theorem Z4:ut "check_count" s_check_count ["number","fewest","most"] []:=λ_ _ _ _ _ _ _ us hl=>match us,hl with | [_,_,_],_=>exI rfl rfl
theorem Zh:ut "check_count" s_check_count ["number","fewest","most"] [.none]:=λ_ _ _ _ _ _ _ us hl=>by
 have h2:us.length=2:=by simpa using hl
 match us,h2 with
 |[_,_],_=>exact exI rfl rfl
abbrev s_check_bottom:Stmt:=top 18
theorem Wx:FnScope ["bottom"] ["bottom"] (wz s_check_bottom):=⟨rfl,rfl,rfl,by decide +kernel,rfl,by decide +kernel,by decide +kernel⟩
theorem Wv:x4 "check_bottom" s_check_bottom ["bottom"]:=λ_ _ _ _ _ _ us hl=>match us,hl with | [_],_=>rfl
abbrev s_common_divisor:Stmt:=top 19
theorem Qz:FnScope ["one","other"] ["one","other"] (wz s_common_divisor):=⟨rfl,rfl,rfl,by decide +kernel,rfl,by decide +kernel,by decide +kernel⟩
theorem Qy:x4 "common_divisor" s_common_divisor ["one","other"]:=λ_ _ _ _ _ _ us hl=>match us,hl with | [_,_],_=>rfl
abbrev s_lowest:Stmt:=top 20
theorem qyd:FnScope ["top","bottom","divisor"] ["top","bottom"] (wz s_lowest):=⟨rfl,rfl,rfl,by decide +kernel,rfl,by decide +kernel,by decide +kernel⟩
theorem qyu:x4 "lowest" s_lowest ["top","bottom"]:=λ_ _ _ _ _ _ us hl=>match us,hl with | [_,_],_=>rfl
abbrev s_less:Stmt:=top 21
theorem ww1:FnScope ["one","other"] ["one","other"] (wz s_less):=⟨rfl,rfl,rfl,by decide +kernel,rfl,by decide +kernel,by decide +kernel⟩
theorem wxs:x4 "less" s_less ["one","other"]:=λ_ _ _ _ _ _ us hl=>match us,hl with | [_,_],_=>rfl
abbrev s_trace:Stmt:=top 25
theorem wqb:FnScope ["road","start","places","here"] ["road","start"] (wz s_trace):=⟨rfl,rfl,rfl,by decide +kernel,rfl,by decide +kernel,by decide +kernel⟩
theorem wq3:x4 "trace" s_trace ["road","start"]:=λ_ _ _ _ _ _ us hl=>match us,hl with | [_,_],_=>rfl
abbrev s_spot:Stmt:=top 26
theorem wx3:FnScope ["points","turn","many"] ["points","turn","many"] (wz s_spot):=⟨rfl,rfl,rfl,by decide +kernel,rfl,by decide +kernel,by decide +kernel⟩
theorem wxy:x4 "spot" s_spot ["points","turn","many"]:=λ_ _ _ _ _ _ us hl=>match us,hl with | [_,_,_],_=>rfl
abbrev s_led_to:Stmt:=top 27
theorem qym:FnScope ["place","turn","size","many","times"] ["place","turn","size","many"] (wz s_led_to):=⟨rfl,rfl,rfl,by decide +kernel,rfl,by decide +kernel,by decide +kernel⟩
theorem qyc:x4 "led_to" s_led_to ["place","turn","size","many"]:=λ_ _ _ _ _ _ us hl=>match us,hl with | [_,_,_,_],_=>rfl
abbrev s_is_line:Stmt:=top 30
theorem qz7:FnScope ["heights","width"] ["heights"] (wz s_is_line):=⟨rfl,rfl,rfl,by decide +kernel,rfl,by decide +kernel,by decide +kernel⟩
theorem qkw:x4 "is_line" s_is_line ["heights"]:=λ_ _ _ _ _ _ us hl=>match us,hl with | [_],_=>rfl
abbrev s_Road___init__:Stmt:=xh (top 31) 0
theorem Q7:FnScope ["self","heights"] ["self","heights"] (wz s_Road___init__):=⟨rfl,rfl,rfl,by decide +kernel,rfl,by decide +kernel,by decide +kernel⟩
theorem Q5:xf "__init__" "Road.__init__" s_Road___init__ ["self","heights"]:=λ_ _ _ _ _ _ us hl=>match us,hl with | [_,_],_=>rfl
abbrev s_Road_width:Stmt:=xh (top 31) 1
theorem Jk:FnScope ["self"] ["self"] (wz s_Road_width):=⟨rfl,rfl,rfl,by decide +kernel,rfl,by decide +kernel,by decide +kernel⟩
theorem Jq:xf "width" "Road.width" s_Road_width ["self"]:=λ_ _ _ _ _ _ us hl=>match us,hl with | [_],_=>rfl
abbrev s_Road_corners:Stmt:=xh (top 31) 2
theorem Wc:FnScope ["self"] ["self"] (wz s_Road_corners):=⟨rfl,rfl,rfl,by decide +kernel,rfl,by decide +kernel,by decide +kernel⟩
theorem Wy:xf "corners" "Road.corners" s_Road_corners ["self"]:=λ_ _ _ _ _ _ us hl=>match us,hl with | [_],_=>rfl
abbrev s_Road_ends:Stmt:=xh (top 31) 3
theorem qwn:FnScope ["self","stretch"] ["self","stretch"] (wz s_Road_ends):=⟨rfl,rfl,rfl,by decide +kernel,rfl,by decide +kernel,by decide +kernel⟩
theorem qwu:xf "ends" "Road.ends" s_Road_ends ["self","stretch"]:=λ_ _ _ _ _ _ us hl=>match us,hl with | [_,_],_=>rfl
abbrev s_Road_on_road:Stmt:=xh (top 31) 6
theorem Wb:FnScope ["self","point","top","bottom"] ["self","point"] (wz s_Road_on_road):=⟨rfl,rfl,rfl,by decide +kernel,rfl,by decide +kernel,by decide +kernel⟩
theorem Wk:xf "on_road" "Road.on_road" s_Road_on_road ["self","point"]:=λ_ _ _ _ _ _ us hl=>match us,hl with | [_,_],_=>rfl
abbrev s_Road_at:Stmt:=xh (top 31) 7
theorem qku:FnScope ["self","point","top","bottom","stretch","left","right","beyond"] ["self","point"] (wz s_Road_at):=⟨rfl,rfl,rfl,by decide +kernel,rfl,by decide +kernel,by decide +kernel⟩
theorem qkk:xf "at" "Road.at" s_Road_at ["self","point"]:=λ_ _ _ _ _ _ us hl=>match us,hl with | [_,_],_=>rfl
abbrev s_Walker___init__:Stmt:=xh (top 33) 0
theorem uz:FnScope ["self","whose","point","times"] ["self","whose","point","times"] (wz s_Walker___init__):=⟨rfl,rfl,rfl,by decide +kernel,rfl,by decide +kernel,by decide +kernel⟩
theorem uw:xf "__init__" "Walker.__init__" s_Walker___init__ ["self","whose","point","times"]:=λ_ _ _ _ _ _ us hl=>match us,hl with | [_,_,_,_],_=>rfl
abbrev s_Walker_gone:Stmt:=xh (top 33) 1
theorem Z1:FnScope ["self","road","many","points","turn","times","place","point","led"] ["self","road","many"] (wz s_Walker_gone):=⟨rfl,rfl,rfl,by decide +kernel,rfl,by decide +kernel,by decide +kernel⟩
theorem Zb:xf "gone" "Walker.gone" s_Walker_gone ["self","road","many"]:=λ_ _ _ _ _ _ us hl=>match us,hl with | [_,_,_],_=>rfl
abbrev s_set_down:Stmt:=top 34
theorem qzy:FnScope ["whose","point"] ["whose","point"] (wz s_set_down):=⟨rfl,rfl,rfl,by decide +kernel,rfl,by decide +kernel,by decide +kernel⟩
theorem qzz:x4 "set_down" s_set_down ["whose","point"]:=λ_ _ _ _ _ _ us hl=>match us,hl with | [_,_],_=>rfl
abbrev s_is_name:Stmt:=top 39
theorem qvm:FnScope ["name"] ["name"] (wz s_is_name):=⟨rfl,rfl,rfl,by decide +kernel,rfl,by decide +kernel,by decide +kernel⟩
theorem qv5:x4 "is_name" s_is_name ["name"]:=λ_ _ _ _ _ _ us hl=>match us,hl with | [_],_=>rfl
abbrev s_check_new_name:Stmt:=top 40
theorem Qv:FnScope ["name","things"] ["name","things"] (wz s_check_new_name):=⟨rfl,rfl,rfl,by decide +kernel,rfl,by decide +kernel,by decide +kernel⟩
theorem ug:x4 "check_new_name" s_check_new_name ["name","things"]:=λ_ _ _ _ _ _ us hl=>match us,hl with | [_,_],_=>rfl
abbrev s_exchange:Stmt:=top 41
theorem qzn:FnScope ["things","changes","before","name","thing"] ["things","changes"] (wz s_exchange):=⟨rfl,rfl,rfl,by decide +kernel,rfl,by decide +kernel,by decide +kernel⟩
theorem qxw:x4 "exchange" s_exchange ["things","changes"]:=λ_ _ _ _ _ _ us hl=>match us,hl with | [_,_],_=>rfl
abbrev s_House___init__:Stmt:=xh (top 42) 0
theorem Qb:FnScope ["self"] ["self"] (wz s_House___init__):=⟨rfl,rfl,rfl,by decide +kernel,rfl,by decide +kernel,by decide +kernel⟩
theorem u8:xf "__init__" "House.__init__" s_House___init__ ["self"]:=λ_ _ _ _ _ _ us hl=>match us,hl with | [_],_=>rfl
abbrev s_House_road_called:Stmt:=xh (top 42) 1
theorem j3:FnScope ["self","name"] ["self","name"] (wz s_House_road_called):=⟨rfl,rfl,rfl,by decide +kernel,rfl,by decide +kernel,by decide +kernel⟩
theorem j5:xf "road_called" "House.road_called" s_House_road_called ["self","name"]:=λ_ _ _ _ _ _ us hl=>match us,hl with | [_,_],_=>rfl
abbrev s_House_walker_called:Stmt:=xh (top 42) 2
theorem jh:FnScope ["self","name"] ["self","name"] (wz s_House_walker_called):=⟨rfl,rfl,rfl,by decide +kernel,rfl,by decide +kernel,by decide +kernel⟩
theorem jx:xf "walker_called" "House.walker_called" s_House_walker_called ["self","name"]:=λ_ _ _ _ _ _ us hl=>match us,hl with | [_,_],_=>rfl
abbrev s_House_walkers_on:Stmt:=xh (top 42) 3
theorem yg:FnScope ["self","whose"] ["self","whose"] (wz s_House_walkers_on):=⟨rfl,rfl,rfl,by decide +kernel,rfl,by decide +kernel,by decide +kernel⟩
theorem yf:xf "walkers_on" "House.walkers_on" s_House_walkers_on ["self","whose"]:=λ_ _ _ _ _ _ us hl=>match us,hl with | [_,_],_=>rfl
abbrev s_House_do:Stmt:=xh (top 42) 4
theorem qzj:FnScope ["self","roads","walkers"] ["self","roads","walkers"] (wz s_House_do):=⟨rfl,rfl,rfl,by decide +kernel,rfl,by decide +kernel,by decide +kernel⟩
theorem qxt:xf "do" "House.do" s_House_do ["self","roads","walkers"]:=λ_ _ _ _ _ _ us hl=>match us,hl with | [_,_,_],_=>rfl
abbrev s_House_lay:Stmt:=xh (top 42) 5
theorem qw3:FnScope ["self","name","heights"] ["self","name","heights"] (wz s_House_lay):=⟨rfl,rfl,rfl,by decide +kernel,rfl,by decide +kernel,by decide +kernel⟩
theorem qqp:xf "lay" "House.lay" s_House_lay ["self","name","heights"]:=λ_ _ _ _ _ _ us hl=>match us,hl with | [_,_,_],_=>rfl
abbrev s_House_bend:Stmt:=xh (top 42) 6
theorem Jd:FnScope ["self","name","corner","height","heights"] ["self","name","corner","height"] (wz s_House_bend):=⟨rfl,rfl,rfl,by decide +kernel,rfl,by decide +kernel,by decide +kernel⟩
theorem Y6:xf "bend" "House.bend" s_House_bend ["self","name","corner","height"]:=λ_ _ _ _ _ _ us hl=>match us,hl with | [_,_,_,_],_=>rfl
abbrev s_House_widen:Stmt:=xh (top 42) 7
theorem Z5:FnScope ["self","name","height","heights"] ["self","name","height"] (wz s_House_widen):=⟨rfl,rfl,rfl,by decide +kernel,rfl,by decide +kernel,by decide +kernel⟩
theorem Zp:xf "widen" "House.widen" s_House_widen ["self","name","height"]:=λ_ _ _ _ _ _ us hl=>match us,hl with | [_,_,_],_=>rfl
abbrev s_House_narrow:Stmt:=xh (top 42) 8
theorem Wd:FnScope ["self","name","left","end"] ["self","name"] (wz s_House_narrow):=⟨rfl,rfl,rfl,by decide +kernel,rfl,by decide +kernel,by decide +kernel⟩
theorem Wu:xf "narrow" "House.narrow" s_House_narrow ["self","name"]:=λ_ _ _ _ _ _ us hl=>match us,hl with | [_,_],_=>rfl
abbrev s_House_place:Stmt:=xh (top 42) 10
theorem Zq:FnScope ["self","name","whose","point","road","here"] ["self","name","whose","point"] (wz s_House_place):=⟨rfl,rfl,rfl,by decide +kernel,rfl,by decide +kernel,by decide +kernel⟩
theorem Yn:xf "place" "House.place" s_House_place ["self","name","whose","point"]:=λ_ _ _ _ _ _ us hl=>match us,hl with | [_,_,_,_],_=>rfl
abbrev s_House_go:Stmt:=xh (top 42) 12
theorem qx5:FnScope ["self","name","many","walker","gone"] ["self","name","many"] (wz s_House_go):=⟨rfl,rfl,rfl,by decide +kernel,rfl,by decide +kernel,by decide +kernel⟩
theorem qzu:xf "go" "House.go" s_House_go ["self","name","many"]:=λ_ _ _ _ _ _ us hl=>match us,hl with | [_,_,_],_=>rfl
abbrev s_House_take_back:Stmt:=xh (top 42) 14
theorem y9:FnScope ["self","roads","walkers"] ["self"] (wz s_House_take_back):=⟨rfl,rfl,rfl,by decide +kernel,rfl,by decide +kernel,by decide +kernel⟩
theorem ux:xf "take_back" "House.take_back" s_House_take_back ["self"]:=λ_ _ _ _ _ _ us hl=>match us,hl with | [_],_=>rfl
abbrev s_House_deeds:Stmt:=xh (top 42) 16
theorem Zz:FnScope ["self"] ["self"] (wz s_House_deeds):=⟨rfl,rfl,rfl,by decide +kernel,rfl,by decide +kernel,by decide +kernel⟩
theorem Yt:xf "deeds" "House.deeds" s_House_deeds ["self"]:=λ_ _ _ _ _ _ us hl=>match us,hl with | [_],_=>rfl
abbrev s_House_names:Stmt:=xh (top 42) 17
theorem Zg:FnScope ["self"] ["self"] (wz s_House_names):=⟨rfl,rfl,rfl,by decide +kernel,rfl,by decide +kernel,by decide +kernel⟩
theorem Zv:xf "names" "House.names" s_House_names ["self"]:=λ_ _ _ _ _ _ us hl=>match us,hl with | [_],_=>rfl
abbrev s_House_corners_of:Stmt:=xh (top 42) 18
theorem yc:FnScope ["self","name"] ["self","name"] (wz s_House_corners_of):=⟨rfl,rfl,rfl,by decide +kernel,rfl,by decide +kernel,by decide +kernel⟩
theorem yd:xf "corners_of" "House.corners_of" s_House_corners_of ["self","name"]:=λ_ _ _ _ _ _ us hl=>match us,hl with | [_,_],_=>rfl
abbrev s_House_where:Stmt:=xh (top 42) 19
theorem Ys:FnScope ["self","name","walker"] ["self","name"] (wz s_House_where):=⟨rfl,rfl,rfl,by decide +kernel,rfl,by decide +kernel,by decide +kernel⟩
theorem Z9:xf "where" "House.where" s_House_where ["self","name"]:=λ_ _ _ _ _ _ us hl=>match us,hl with | [_,_],_=>rfl
abbrev s__law_cell:Stmt:=top 44
theorem qwh:FnScope ["_law_script","_law_at"] ["_law_script","_law_at"] (wz s__law_cell):=⟨rfl,rfl,rfl,by decide +kernel,rfl,by decide +kernel,by decide +kernel⟩
theorem qq5:x4 "_law_cell" s__law_cell ["_law_script","_law_at"]:=λ_ _ _ _ _ _ us hl=>match us,hl with | [_,_],_=>rfl
abbrev s__law_pick:Stmt:=top 45
theorem qw9:FnScope ["_law_script","_law_at","_law_turn","_law_many","_law_cell_here","_law_left","_law_k","_law_low_here","_law_one","_law_two"] ["_law_script","_law_at","_law_turn","_law_many"] (wz s__law_pick):=⟨rfl,rfl,rfl,by decide +kernel,rfl,by decide +kernel,by decide +kernel⟩
theorem qw1:x4 "_law_pick" s__law_pick ["_law_script","_law_at","_law_turn","_law_many"]:=λ_ _ _ _ _ _ us hl=>match us,hl with | [_,_,_,_],_=>rfl
abbrev s__law_climb:Stmt:=top 46
theorem Jj:FnScope ["_law_script","_law_at","_law_wide","_law_row","_law_k"] ["_law_script","_law_at","_law_wide"] (wz s__law_climb):=⟨rfl,rfl,rfl,by decide +kernel,rfl,by decide +kernel,by decide +kernel⟩
theorem Jc:x4 "_law_climb" s__law_climb ["_law_script","_law_at","_law_wide"]:=λ_ _ _ _ _ _ us hl=>match us,hl with | [_,_,_],_=>rfl
abbrev s__law_heights:Stmt:=top 47
theorem Wg:FnScope ["_law_script","_law_at","_law_most","_law_wide","_law_kind"] ["_law_script","_law_at","_law_most"] (wz s__law_heights):=⟨rfl,rfl,rfl,by decide +kernel,rfl,by decide +kernel,by decide +kernel⟩
theorem Wf:x4 "_law_heights" s__law_heights ["_law_script","_law_at","_law_most"]:=λ_ _ _ _ _ _ us hl=>match us,hl with | [_,_,_],_=>rfl
abbrev s__law_spot:Stmt:=top 48
theorem qwg:FnScope ["_law_script","_law_at","_law_wide","_law_most","_law_bottom","_law_top","_law_by"] ["_law_script","_law_at","_law_wide","_law_most"] (wz s__law_spot):=⟨rfl,rfl,rfl,by decide +kernel,rfl,by decide +kernel,by decide +kernel⟩
theorem qwr:x4 "_law_spot" s__law_spot ["_law_script","_law_at","_law_wide","_law_most"]:=λ_ _ _ _ _ _ us hl=>match us,hl with | [_,_,_,_],_=>rfl
abbrev s__law_step:Stmt:=top 49
theorem qqh:FnScope ["_law_heights_here","_law_top","_law_bottom","_law_k"] ["_law_heights_here","_law_top","_law_bottom"] (wz s__law_step):=⟨rfl,rfl,rfl,by decide +kernel,rfl,by decide +kernel,by decide +kernel⟩
theorem qwj:x4 "_law_step" s__law_step ["_law_heights_here","_law_top","_law_bottom"]:=λ_ _ _ _ _ _ us hl=>match us,hl with | [_,_,_],_=>rfl
abbrev s__law_trace:Stmt:=top 50
theorem Jz:FnScope ["_law_heights_here","_law_top","_law_bottom","_law_seen","_law_tops"] ["_law_heights_here","_law_top","_law_bottom"] (wz s__law_trace):=⟨rfl,rfl,rfl,by decide +kernel,rfl,by decide +kernel,by decide +kernel⟩
theorem Jv:x4 "_law_trace" s__law_trace ["_law_heights_here","_law_top","_law_bottom"]:=λ_ _ _ _ _ _ us hl=>match us,hl with | [_,_,_],_=>rfl
abbrev s__law_after:Stmt:=top 51
theorem Jf:FnScope ["_law_tops","_law_start","_law_many"] ["_law_tops","_law_start","_law_many"] (wz s__law_after):=⟨rfl,rfl,rfl,by decide +kernel,rfl,by decide +kernel,by decide +kernel⟩
theorem Y7:x4 "_law_after" s__law_after ["_law_tops","_law_start","_law_many"]:=λ_ _ _ _ _ _ us hl=>match us,hl with | [_,_,_],_=>rfl
abbrev s__law_common:Stmt:=top 52
theorem Zt:FnScope ["_law_one","_law_other"] ["_law_one","_law_other"] (wz s__law_common):=⟨rfl,rfl,rfl,by decide +kernel,rfl,by decide +kernel,by decide +kernel⟩
theorem Yr:x4 "_law_common" s__law_common ["_law_one","_law_other"]:=λ_ _ _ _ _ _ us hl=>match us,hl with | [_,_],_=>rfl
abbrev s__law_low:Stmt:=top 53
theorem qxy:FnScope ["_law_top","_law_bottom","_law_by"] ["_law_top","_law_bottom"] (wz s__law_low):=⟨rfl,rfl,rfl,by decide +kernel,rfl,by decide +kernel,by decide +kernel⟩
theorem qx9:x4 "_law_low" s__law_low ["_law_top","_law_bottom"]:=λ_ _ _ _ _ _ us hl=>match us,hl with | [_,_],_=>rfl
abbrev s__law_told:Stmt:=top 54
theorem qwy:FnScope ["_law_house","_law_kind","_law_one","_law_two","_law_told_here"] ["_law_house","_law_kind","_law_one","_law_two"] (wz s__law_told):=⟨rfl,rfl,rfl,by decide +kernel,rfl,by decide +kernel,by decide +kernel⟩
theorem qwd:x4 "_law_told" s__law_told ["_law_house","_law_kind","_law_one","_law_two"]:=λ_ _ _ _ _ _ us hl=>match us,hl with | [_,_,_,_],_=>rfl
abbrev s__law_due:Stmt:=top 55
theorem qxx:FnScope ["_law_kind","_law_one","_law_two","_law_row","_law_top","_law_bottom","_law_wide","_law_tops","_law_start"] ["_law_kind","_law_one","_law_two","_law_row","_law_top","_law_bottom"] (wz s__law_due):=⟨rfl,rfl,rfl,by decide +kernel,rfl,by decide +kernel,by decide +kernel⟩
theorem qxd:x4 "_law_due" s__law_due ["_law_kind","_law_one","_law_two","_law_row","_law_top","_law_bottom"]:=λ_ _ _ _ _ _ us hl=>match us,hl with | [_,_,_,_,_,_],_=>rfl
abbrev s__law_is:Stmt:=top 56
theorem qz2:FnScope ["_law_house","_law_row","_law_top","_law_bottom","_law_deeds"] ["_law_house","_law_row","_law_top","_law_bottom","_law_deeds"] (wz s__law_is):=⟨rfl,rfl,rfl,by decide +kernel,rfl,by decide +kernel,by decide +kernel⟩
theorem qv8:x4 "_law_is" s__law_is ["_law_house","_law_row","_law_top","_law_bottom","_law_deeds"]:=λ_ _ _ _ _ _ us hl=>match us,hl with | [_,_,_,_,_],_=>rfl
abbrev s_law:Stmt:=top 57
theorem sc_law:FnScope ["_law_script","_law_row","_law_point","_law_top","_law_bottom","_law_house","_law_past","_law_k","_law_at","_law_kind","_law_one","_law_two","_law_due_here","_law_line","_law_place","_law_told_here"] ["_law_script"] (wz s_law):=⟨rfl,rfl,rfl,by decide +kernel,rfl,by decide +kernel,by decide +kernel⟩
local macro_rules | `(tactic| walk_at "sq")=>`(tactic| first | assumption | exact SqT.new | exact SqL.new | ((with_reducible refine Same.sqt (Same.upd (by assumption)) ?_);walk_at "sq") | ((with_reducible refine Same.sql (Same.upd (by assumption)) ?_);walk_at "sq"))
local macro_rules | `(tactic| walk_at "at")=>`(tactic| first | rfl | exact W5 (by lia) (by lia))
local macro_rules | `(tactic| walk_at "mul")=>`(tactic| first | assumption | exact IntMulOk.of_left (intBits_le_64 (by lia) (by lia)) | exact IntMulOk.of_right (intBits_le_64 (by lia) (by lia)) | exact Sm.ok (by assumption) (by assumption) (by decide))
local macro_rules | `(tactic| walk_at "pos")=>`(tactic| first | lia | decide +kernel)
local macro_rules | `(tactic| walk_at "div")=>`(tactic| exact ⟨by first | lia | decide +kernel,by unfold Sm;decide +kernel⟩)
local macro_rules | `(tactic| walk_at "loc")=>`(tactic| first | exact Or.inl rfl | exact Or.inr rfl)
local macro_rules | `(tactic| walk_at "cap")=>`(tactic| repeat (first | exact trivial | refine ⟨rfl,?_⟩))
local macro_rules | `(tactic| walk_at "has")=>`(tactic| repeat (first | exact trivial | (refine ⟨λz=>?_,by decide,?_⟩;(first | exact ⟨_,rfl⟩ | cases z))))
local macro_rules | `(tactic| walk_at "cix")=>`(tactic| repeat (first | exact trivial | refine ⟨⟨_,_,rfl,rfl,rfl,rfl⟩,?_⟩))
local macro_rules | `(tactic| walk_at "hasK")=>`(tactic| repeat (first | exact trivial | (refine ⟨λz=>?_,λz=>?_,?_⟩;(first | exact ⟨_,rfl⟩ | cases z);(first | rfl | cases z))))
structure Txt (K:Aa)(mg:Str→Option Ag)(qg:Aj)(qh:Aj)(qz:Aj)(qt:Aj)(qm:Aj)(wq:Aj)(ww:Aj)(q8:Aj)(wv:Aj)(q9:Aj)(qd:Aj)(wj:Aj)(qk:Aj)(qu:Aj)(qx:Aj)(qw:Aj):Prop where
 len_:mg "len" = none
 abs_:mg "abs" = none
 range_:mg "range" = none
 list_:mg "list" = none
 min_:mg "min" = none
 max_:mg "max" = none
 all_:mg "all" = none
 any_:mg "any" = none
 sorted_:mg "sorted" = none
 enumerate_:mg "enumerate" = none
 dict_:mg "dict" = none
 g_RoadError:mg "RoadError" = some (.ref qg)
 x_RoadError:ExcC K qg
 g_BadLine:mg "BadLine" = some (.ref qh)
 x_BadLine:ExcC K qh
 g_BadBottom:mg "BadBottom" = some (.ref qz)
 x_BadBottom:ExcC K qz
 g_OffRoad:mg "OffRoad" = some (.ref qt)
 x_OffRoad:ExcC K qt
 g_BadCount:mg "BadCount" = some (.ref qm)
 x_BadCount:ExcC K qm
 g_TooLong:mg "TooLong" = some (.ref wq)
 x_TooLong:ExcC K wq
 g_BadRow:mg "BadRow" = some (.ref ww)
 x_BadRow:ExcC K ww
 g_BadName:mg "BadName" = some (.ref q8)
 x_BadName:ExcC K q8
 g_Taken:mg "Taken" = some (.ref wv)
 x_Taken:ExcC K wv
 g_NoRoad:mg "NoRoad" = some (.ref q9)
 x_NoRoad:ExcC K q9
 g_NoWalker:mg "NoWalker" = some (.ref qd)
 x_NoWalker:ExcC K qd
 g_Stood:mg "Stood" = some (.ref wj)
 x_Stood:ExcC K wj
 g_NothingDone:mg "NothingDone" = some (.ref qk)
 x_NothingDone:ExcC K qk
 cl:Cls K qu
 na:NoAttr K qu "heights"
 g_WIDEST:∃t,mg "WIDEST" = some (.int 24 t)
 g_Road:mg "Road" = some (.ref qu)
 clW:Cls K qx
 clH:Cls K qw
 naWw:NoAttr K qx "whose"
 naWp:NoAttr K qx "point"
 naWt:NoAttr K qx "times"
 naHr:NoAttr K qw "roads"
 naHw:NoAttr K qw "walkers"
 naHd:NoAttr K qw "done"
 g_Walker:mg "Walker" = some (.ref qx)
 g_House:mg "House" = some (.ref qw)
 g_LONGEST_TRACE:∃t,mg "LONGEST_TRACE" = some (.int 1000 t)
 g_FARTHEST:∃t,mg "FARTHEST" = some (.int 1000000000000000000000000000000000000000000000000000000000000 t)
 g_LONGEST_NAME:∃t,mg "LONGEST_NAME" = some (.int 12 t)
 g_GREATEST_BOTTOM:∃t,mg "GREATEST_BOTTOM" = some (.int 40 t)
 g_LETTERS:∃t,mg "LETTERS" = some (.str "abcdefghijklmnopqrstuvwxyz" t)
 ms:PySem.W.mroIn K wj (.ref qh)=some false
section
variable {P:Ac}{w:Ah}{K:Aa}{mg:Str→Option Ag}{base:Heap}{qg:Aj}{qh:Aj}{qz:Aj}{qt:Aj}{qm:Aj}{wq:Aj}{ww:Aj}{q8:Aj}{wv:Aj}{q9:Aj}{qd:Aj}{wj:Aj}{qk:Aj}{qu:Aj}{qx:Aj}{qw:Aj}
def Wh (C:Aj):Sp:=λvs H Q E=>∃b:Int,vs=[.int b]∧(1≤b→Q .non H)∧(b<1→E (.ref C) none H)
theorem wqh {f:Aj}{fd:Ad}(F:Fun K "check_bottom" "check_bottom" s_check_bottom f fd)(T:Txt K mg qg qh qz qt qm wq ww q8 wv q9 qd wj qk qu qx qw):FnOk P w K mg base (CXE P w) 1 f fd ["bottom"] (Wh qz):=by
 have sc:=Wx
 refine F.okX sc (λvs H Q E h=>by obtain ⟨b,rfl,_⟩:=h;rfl) (λcdv A outer s H vs Q E hr h=>?_)
 obtain ⟨b,rfl,h1,h2⟩:=h
 refine ⟨_,(qp (xv (wf vn (pv 0) qr (wg _)) (qp (zw rfl T.x_BadBottom xn rfl T.g_BadBottom (qq xx qj))) wp)),?_⟩
 refine exI rfl (wc rfl rfl (exI rfl ?_))
 refine zm (λq1=>?_) (λq1=>?_)
 ·exact ⟨by decide,h2 q1⟩
 ·exact h1 (by lia)
theorem wwc {f:Aj}{fd:Ad}(F:Fun K "_law_cell" "_law_cell" s__law_cell f fd)(T:Txt K mg qg qh qz qt qm wq ww q8 wv q9 qd wj qk qu qx qw):FnOk P w K mg base (CXE P w) 1 f fd ["_law_script","_law_at"] (qvs K):=by
 have sc:=qwh
 refine F.okX sc (λvs H Q E h=>by obtain ⟨a,ns,i,rfl,_⟩:=h;rfl) (λcdv A outer s H vs Q E hr h=>?_)
 obtain ⟨a,ns,i,rfl,hS,h0,k⟩:=h
 have hlen:(ns.map V.int).length=ns.length:=ae _
 refine ⟨_,(qy (xv (wf vn (pv 1) (wn w6 rfl T.len_ aE (qq (pv 0) qj)) (wg _)) (qp (wm (zx zy (pv 0) (pv 1) (λ_ _=>rfl)))) wp)
   (qy (xv (wf zn (wn w6 rfl T.len_ aE (qq (pv 0) qj)) qr (wg _)) (qp (wm (wy xz (wy xy qr (pv 1)) qr))) wp)
   (qp (wm (wy xz (zx zy (pv 0) (wy zc (pv 1) (wn w6 rfl T.len_ aE (qq (pv 0) qj))) (λ_ _=>rfl)) (wy xy qr (pv 1))))))),?_⟩
 refine exI rfl (exI rfl ⟨_,_,rfl,.inl hS,wc rfl rfl (exI rfl ?_)⟩)
 refine zm (λq1=>?_) (λq1=>?_)
 ·rw [hlen] at q1
  refine exI rfl (exI rfl (exX rfl rfl hS (W5 h0 q1) ?_))
  exact k _ (by rw [qxs,am q1])
 ·rw [hlen] at q1
  refine exI rfl ⟨_,_,rfl,.inl hS,rfl,_,rfl,?_⟩
  rw [hlen]
  refine z5 (λq2=>?_) (λq2=>?_)
  ·refine exI rfl (wc rfl rfl ⟨(by walk_at "mul"),wc rfl rfl ?_⟩)
   exact k _ (by rw [qxs,aj q1,am q2])
  ·refine exI rfl (exI rfl (exI rfl ⟨_,_,rfl,.inl hS,wc rfl rfl ⟨(by rw [hlen];lia),?_⟩⟩))
   rw [hlen]
   refine exX rfl rfl hS (W5 (bf _ q2) (aX _ (by lia))) (exI rfl (wc rfl rfl ⟨(by walk_at "mul"),wc rfl rfl ?_⟩))
   exact k _ (by rw [qxs,aj q1,aj q2])
theorem wxg {f:Aj}{fd:Ad}(F:Fun K "_law_pick" "_law_pick" s__law_pick f fd)(T:Txt K mg qg qh qz qt qm wq ww q8 wv q9 qd wj qk qu qx qw)(c__law_cell:Cal P w K mg base "_law_cell" 1 (qvs K)):FnOk P w K mg base (CXE P w) 2 f fd ["_law_script","_law_at","_law_turn","_law_many"] (uj K):=by
 have sc:=qw9
 refine F.okX sc (λvs H Q E h=>by obtain ⟨a,ns,i,t,m,rfl,_⟩:=h;rfl) (λcdv A outer s H vs Q E hr h=>?_)
 obtain ⟨a,ns,i,t,m,rfl,hS,h0,t0,t1,m0,k⟩:=h
 refine ⟨_,(qy (wr (i:=4) sc.nd rfl (by walk_at "loc") (wb c__law_cell (hr.mono (by decide)) rfl qc (qq (pv 0) (qq (pv 1) qj))))
   (qy (xv (wf qk7 (wn uu rfl T.abs_ Qj (qq (pv 4) qj)) (wy op_pow qr qr) (wg _)) (qy (wr (i:=5) sc.nd rfl (by walk_at "loc") (wn uu rfl T.abs_ Qj (qq (pv 4) qj)))
   (qy (Q0 bd rfl (zr rfl T.range_ (qq (pv 2) qj)) (xk (i:=6) sc.nd rfl (by walk_at "loc")) (qp (wr (i:=5) sc.nd rfl (by walk_at "loc") (wy zd (pv 5) qr))))
   (qy (xv (wf vn (pv 4) qr (wg _)) (qp (wr (i:=5) sc.nd rfl (by walk_at "loc") (wy zc (pv 5) qr))) wp)
   (qp (wm (wy zc (pv 5) (pv 3))))))) wp)
   (qy (wr (i:=7) sc.nd rfl (by walk_at "loc") (wy zc (pv 4) qr))
   (qy (wr (i:=8) sc.nd rfl (by walk_at "loc") (wy zc (wy xz (wy xz (wy xy (pv 7) qr) (wy xy (pv 2) qr)) qr) qr))
   (qy (wr (i:=9) sc.nd rfl (by walk_at "loc") (wy zc (wy xz (wy xz (wy xy (pv 8) (pv 8)) (wy xy (pv 7) qr)) (wy xy (pv 2) qr)) qr))
   (qp (wm (wy zc (wy zc (wy xz (wy xz (wy xy (pv 9) (pv 9)) (wy xy (pv 8) qr)) (wy xy (pv 2) qr)) qr) (pv 3))))))))),?_⟩
 refine exI rfl (exI rfl ?_)
 refine ⟨a,ns,i,rfl,hS,h0,λc hc=>?_⟩
 have fin:∀v,v=qzg c t%m→Q (.int v) H:=λv hv=>by
  refine k v (by rw [hv,qxp,hc]) ?_ ?_
  ·rw [hv];exact bf _ (by lia)
  ·rw [hv];exact aX _ m0
 refine exI rfl (exI rfl (wc rfl rfl ⟨⟨by decide,by decide,by decide⟩,wc rfl rfl (exI rfl ?_)⟩))
 refine zm (λq1=>?_) (λq1=>?_)
 ·have q1':10 ^ 18≤jn c:=q1
  refine exI rfl (exI rfl ?_)
  refine exI rfl ⟨t,rfl,(by lia),(by lia),Q4 (λj σ H1=>H1=H∧∃z,σ=[some (.ref a),some (.int i),some (.int t),some (.int m),some (.int c),some (.int (divs (jn c) j)),z,none,none,none]) ⟨rfl,_,rfl⟩ ?_ ?_⟩
  ·rintro j σ H1 hj ⟨rfl,z,rfl⟩
   exact exI rfl (wc rfl rfl ⟨(by walk_at "div"),rfl,_,rfl⟩)
  ·rintro σ H1 ⟨rfl,z,rfl⟩
   refine exI rfl (wc rfl rfl (exI rfl ?_))
   refine zm (λq2=>?_) (λq2=>?_)
   ·refine exI rfl (wc rfl rfl ⟨(by walk_at "pos"),exI rfl (exI rfl (wc rfl rfl ⟨(by walk_at "pos"),?_⟩))⟩)
    exact fin _ (by rw [qy1 q1' q2])
   ·refine exI rfl (exI rfl (wc rfl rfl ⟨(by walk_at "pos"),?_⟩))
    exact fin _ (by rw [qj8 q1' q2])
 ·have q1':¬ 10 ^ 18≤jn c:=q1
  have l0:=bf c (show (1000003:Int)≠0 by decide)
  have l1:=aX c (show (0:Int)<1000003 by decide)
  refine exI rfl (wc rfl rfl ⟨(by walk_at "pos"),exI rfl (wc rfl rfl ⟨(by walk_at "mul"),exI rfl (wc rfl rfl ⟨(by walk_at "mul"),wc rfl rfl (wc rfl rfl (wc rfl rfl ⟨(by walk_at "pos"),?_⟩))⟩)⟩)⟩)
  have o0:0≤qq2 c t:=bf _ (by decide)
  have o1:qq2 c t<999983:=aX _ (by decide)
  refine ⟨V.int (qq2 c t),rfl,V.int (qq2 c t),rfl,wc rfl rfl ⟨(by walk_at "mul"),exI rfl (wc rfl rfl ⟨(by walk_at "mul"),wc rfl rfl (exI rfl (wc rfl rfl ⟨(by walk_at "mul"),wc rfl rfl (wc rfl rfl ⟨(by walk_at "pos"),?_⟩)⟩))⟩)⟩⟩
  have w0:0≤qx0 c t:=bf _ (by decide)
  have w1:qx0 c t<1000033:=aX _ (by decide)
  refine ⟨V.int (qx0 c t),rfl,V.int (qx0 c t),rfl,wc rfl rfl ⟨(by walk_at "mul"),V.int (qq2 c t),rfl,wc rfl rfl ⟨(by walk_at "mul"),wc rfl rfl (exI rfl (wc rfl rfl ⟨(by walk_at "mul"),wc rfl rfl (wc rfl rfl ⟨(by walk_at "pos"),exI rfl (wc rfl rfl ⟨(by walk_at "pos"),?_⟩)⟩)⟩))⟩⟩⟩
  exact fin _ (by rw [wwq q1'])
def Within (n f:Int)(m:Option Int):Prop:=f≤n∧∀b,m=some b→n≤b
def qw7 (C:Aj):Sp:=λvs H Q E=>∃(n f:Int) (m:V) (o:Option Int),vs=[.int n,.int f,m]∧(m=.non∧o=none∨∃b,m=.int b∧o=some b)∧(Within n f o→Q .non H)∧(¬ Within n f o→E (.ref C) none H)
theorem wq5 {f:Aj}{fd:Ad}(F:FunD K "check_count" s_check_count f fd)(T:Txt K mg qg qh qz qt qm wq ww q8 wv q9 qd wj qk qu qx qw):FnOk P w K mg base (CXE P w) 1 f fd ["number","fewest","most"] (qw7 qm):=by
 have sc:=Yb
 refine F.okX sc (λvs H Q E h=>by obtain ⟨n,f,m,o,rfl,_⟩:=h;rfl) (λcdv A outer s H vs Q E hr h=>?_)
 obtain ⟨n,fe,m,o,rfl,hm,k,x⟩:=h
 refine ⟨_,(qp (xv (PW.pt (js (wf vn (pv 0) (pv 1) (wg _)) (v5 (PW.pt (pw_and (wf wx5 (pv 2) wq1 (wg _)) (wxb (wf j9 (pv 0) (pv 2) (wg _)))))))) (qp (zw rfl T.x_BadCount xn rfl T.g_BadCount (qq xx qj))) wp)),?_⟩
 refine exI rfl (exI rfl (wc rfl rfl (exI rfl ?_)))
 refine zm (λq1=>?_) (λq1=>?_)
 ·refine k4 ?_
  exact ⟨sz1,x (λz=>by have:=z.1;lia)⟩
 ·rcases hm with ⟨rfl,rfl⟩|⟨b,rfl,rfl⟩
  ·refine exI rfl ⟨rfl,_,rfl,?_⟩
   refine uc ?_
   exact k ⟨by lia,λb e=>nomatch e⟩
  ·refine exI rfl ⟨rfl,_,rfl,?_⟩
   refine k4 ?_
   refine exI rfl (exI rfl (wc rfl rfl (exI rfl ?_)))
   refine zm (λq2=>?_) (λq2=>?_)
   ·exact ⟨sz1,x (λz=>by have:=z.2 b rfl;lia)⟩
   ·exact k ⟨by lia,λb' e=>by cases e;lia⟩
def wt (ns:List Int):Prop:=2≤ns.length∧ns.length≤25∧∀h∈ns,0≤h∧h≤(ns.length:Int)-1
def Yf (K:Aa):Sp:=λvs H Q _=>∃(p:Aj) (ns:List Int),vs=[.ref p]∧SqL K H p (ns.map V.int)∧(wt ns→Q (.bl true) H)∧(¬ wt ns→Q (.bl false) H)
theorem qz6 {f:Aj}{fd:Ad}(F:Fun K "is_line" "is_line" s_is_line f fd)(T:Txt K mg qg qh qz qt qm wq ww q8 wv q9 qd wj qk qu qx qw):FnOk P w K mg base (CXE P w) 1 f fd ["heights"] (Yf K):=by
 have sc:=qz7
 refine F.okX sc (λvs H Q E h=>by obtain ⟨p,ns,rfl,_⟩:=h;rfl) (λcdv A outer s H vs Q E hr h=>?_)
 obtain ⟨p,ns,rfl,hS,k1,k2⟩:=h
 have hlen:(ns.map V.int).length=ns.length:=ae _
 obtain ⟨tw,g_WIDEST⟩:=T.g_WIDEST
 refine ⟨_,(qy (wr (i:=1) sc.nd rfl (by walk_at "loc") (wy zv (wn w6 rfl T.len_ aE (qq (pv 0) qj)) qr))
   (qy (xv (PW.pt (js (wf vn (pv 1) qr (wg _)) (v5 (wf j9 (pv 1) (yu (v:=V.int 24) rfl g_WIDEST ⟨_,rfl⟩) (wg _))))) (qp (wm yp)) wp)
   (qp (wm (qv1 (jk qk7 (wn (Jx rfl) rfl T.min_ dh (qq (pv 0) qj)) qr (wg _)) (quw (jk op_le (wn (yn rfl) rfl T.max_ di (qq (pv 0) qj)) (pv 1) (wg _)))))))),?_⟩
 refine exI rfl ⟨_,_,rfl,.inl hS,wc rfl rfl ?_⟩
 refine exI rfl (wc rfl rfl (exI rfl ?_))
 rw [hlen]
 refine zm (λq1=>?_) (λq1=>?_)
 ·refine k4 ?_
  exact k2 (λz=>by have:=z.1;lia)
 ·refine exI rfl (wc rfl rfl (exI rfl ?_))
  refine zm (λq2=>?_) (λq2=>?_)
  ·exact k2 (λz=>by have:=z.2.1;lia)
  ·refine exI rfl ⟨p,ns,rfl,hS,(by lia),λm hm hle=>(wc rfl rfl (exI rfl ?_))⟩
   refine zm (λq3=>?_) (λq3=>?_)
   ·refine exI rfl ⟨p,ns,rfl,hS,(by lia),λm2 hm2 hle2=>(exI rfl (wc rfl rfl ?_))⟩
    show Q (.bl (decide (m2≤(ns.length:Int)-1))) H
    by_cases q4:m2≤(ns.length:Int)-1
    ·rw [aZ q4]
     exact k1 ⟨by lia,by lia,λh hh=>by have:=hle h hh;have:=hle2 h hh;lia⟩
    ·rw [bi q4]
     exact k2 (λz=>q4 (z.2.2 m2 hm2).2)
   ·exact k2 (λz=>q3 (z.2.2 m hm).1)
def RoadAt (C:Aj)(H:Hp)(r:Aj)(ns:List Int):Prop:=∃dx q,H r=some (.ins C dx [("heights",.ref q)])∧H q=some (.lst (ns.map V.int))
theorem RoadAt.same {C:Aj}{H H':Hp}{r:Aj}{ns:List Int}(h:RoadAt C H r ns)(s:Same H H'):RoadAt C H' r ns:=by
 obtain ⟨dx,q,h1,h2⟩:=h
 exact ⟨dx,q,s _ _ h1,s _ _ h2⟩
theorem vt {q:Aj}:([("heights",V.ref q)]:List (Str×V)).lookup ("heights" : Str)=some (.ref q):=by
 rw [aA]
 simp
theorem x6 {q:Aj}{m:Str}(h:¬ m = "heights"):([("heights",V.ref q)]:List (Str×V)).lookup m=none:=by
 rw [aA]
 have:(m==("heights" : Str))=false:=aH.mpr h
 rw [this]
 rfl
def y0 (K:Aa)(CB C:Aj):Sp:=λvs H Q E=>∃(r dx p:Aj) (ns:List Int),vs=[.ref r,.ref p]∧H r=some (.ins C dx [])∧SqL K H p (ns.map V.int) ∧
 (wt ns→∀H' q,H q=none→(∀b o,H b=some o→b≠r→H' b=some o)→H' r=some (.ins C dx [("heights",.ref q)])→H' q=some (.lst (ns.map V.int))→Q .non H')∧(¬ wt ns→E (.ref CB) none H)
theorem ww2 {f:Aj}{fd:Ad}(F:Fun K "__init__" "Road.__init__" s_Road___init__ f fd)(T:Txt K mg qg qh qz qt qm wq ww q8 wv q9 qd wj qk qu qx qw)(c_is_line:Cal P w K mg base "is_line" 1 (Yf K)):FnOk P w K mg base (CXE P w) 2 f fd ["self","heights"] (y0 K qh qu):=by
 have sc:=Q7
 refine F.okX sc (λvs H Q E h=>by obtain ⟨r,dx,p,ns,rfl,_⟩:=h;rfl) (λcdv A outer s H vs Q E hr h=>?_)
 obtain ⟨r,dx,p,ns,rfl,hr0,hS,k,x⟩:=h
 refine ⟨_,(qy (xv (qq4 (Z6 (wb c_is_line (hr.mono (by decide)) rfl qc (qq (pv 1) qj)))) (qp (zw rfl T.x_BadLine xn rfl T.g_BadLine (qq xx qj))) wp)
   (qp (yt (pv 0) (k9 jc rfl T.list_ cx (qq (pv 1) qj)) rfl))),?_⟩
 refine ⟨_,rfl,p,ns,rfl,hS,λok=>(exI rfl ?_),λbad=>(exI rfl ?_)⟩
 ·refine uc ?_
  refine exI rfl ⟨_,_,rfl,.inl hS,λq nq=>?_⟩
  have hr1:upd H q (.lst (ns.map V.int)) r=some (.ins qu dx []):=by rw [wx (qf hr0 nq)];exact hr0
  refine exI rfl ⟨r,qu,dx,[],rfl,hr1,T.cl,T.na,(by show 0<1000;decide),?_⟩
  refine k ok _ q nq (λb o e n=>?_) qb ?_
  ·rw [wx n,wx (qf e nq)]
   exact e
  ·rw [wx (qf hr0 nq).symm,qb]
 ·refine k4 ?_
  exact ⟨sz1,x bad⟩
def yq (C:Aj):Sp:=λvs H Q _=>∃(r:Aj) (ns:List Int),vs=[.ref r]∧RoadAt C H r ns∧Q (.int ((ns.length:Int)-1)) H
theorem qu1 {f:Aj}{fd:Ad}(F:Fun K "width" "Road.width" s_Road_width f fd)(T:Txt K mg qg qh qz qt qm wq ww q8 wv q9 qd wj qk qu qx qw):FnOk P w K mg base (CXE P w) 1 f fd ["self"] (yq qu):=by
 have sc:=Jk
 refine F.okX sc (λvs H Q E h=>by obtain ⟨r,ns,rfl,_⟩:=h;rfl) (λcdv A outer s H vs Q E hr h=>?_)
 obtain ⟨r,ns,rfl,⟨dx,q,h1,h2⟩,k⟩:=h
 refine ⟨_,(qp (wm (wy zv (wn w6 rfl T.len_ aE (qq (xm (pv 0) rfl) qj)) qr))),?_⟩
 refine exI rfl ⟨r,qu,dx,_,_,rfl,h1,T.cl,T.na,vt,q,exI rfl ⟨.inl (SqL.of h2),wc rfl rfl ?_⟩⟩
 rw [ae]
 exact k
def v3 (C:Aj):Sp:=λvs H Q _=>∃(r:Aj) (ns:List Int),vs=[.ref r]∧RoadAt C H r ns∧∀p,H p=none→Q (.ref p) (upd H p (.lst (ns.map V.int)))
theorem qvr {f:Aj}{fd:Ad}(F:Fun K "corners" "Road.corners" s_Road_corners f fd)(T:Txt K mg qg qh qz qt qm wq ww q8 wv q9 qd wj qk qu qx qw):FnOk P w K mg base (CXE P w) 1 f fd ["self"] (v3 qu):=by
 have sc:=Wc
 refine F.okX sc (λvs H Q E h=>by obtain ⟨r,ns,rfl,_⟩:=h;rfl) (λcdv A outer s H vs Q E hr h=>?_)
 obtain ⟨r,ns,rfl,⟨dx,q,h1,h2⟩,k⟩:=h
 refine ⟨_,(qp (wm (k9 jc rfl T.list_ cx (qq (xm (pv 0) rfl) qj)))),?_⟩
 exact exI rfl ⟨r,qu,dx,_,_,rfl,h1,T.cl,T.na,vt,q,exI rfl ⟨.inl (SqL.of h2),λp np=>k p np⟩⟩
def InW (ns:List Int)(wd:Int):Prop:=(ns.length:Int)=wd+1∧∀h∈ns,0≤h∧h≤wd
def Wt (K:Aa):Sp:=λvs H Q _=>∃(a:Aj) (ns:List Int) (i wd:Int),vs=[.ref a,.int i,.int wd]∧SqL K H a (ns.map V.int)∧0≤i∧1≤wd∧wd≤24 ∧
 ∀p hs,H p=none→InW hs wd→Q (.ref p) (upd H p (.lst (hs.map V.int)))
theorem wqz {f:Aj}{fd:Ad}(F:Fun K "_law_climb" "_law_climb" s__law_climb f fd)(T:Txt K mg qg qh qz qt qm wq ww q8 wv q9 qd wj qk qu qx qw)(c__law_pick:Cal P w K mg base "_law_pick" 2 (uj K)):FnOk P w K mg base (CXE P w) 3 f fd ["_law_script","_law_at","_law_wide"] (Wt K):=by
 have sc:=Jj
 refine F.okX sc (λvs H Q E h=>by obtain ⟨a,ns,i,wd,rfl,_⟩:=h;rfl) (λcdv A outer s H vs Q E hr h=>?_)
 obtain ⟨a,ns,i,wd,rfl,hS,h0,w1,w2,k⟩:=h
 refine ⟨_,(qy (wr (i:=3) sc.nd rfl (by walk_at "loc") (k6 (qq (wb c__law_pick (hr.mono (by decide)) rfl qc (qq (pv 0) (qq (pv 1) (qq qr (qq (wy xz (pv 2) qr) qj))))) qj)))
   (qy (Q0 bd rfl (zr rfl T.range_ (qq (pv 2) qj)) (xk (i:=4) sc.nd rfl (by walk_at "loc")) (qp (xj (qkf bB ca cb jw (pv 3) (qq (wn (qjg rfl) rfl T.max_ di (qq qr (qq (wn (J1 rfl) rfl T.min_ dh (qq (pv 2) (qq (wy zv (wy xz (zx zy (pv 3) (qxz Yv qr) (λ_ _=>rfl)) (wy xy qr (wb c__law_pick (hr.mono (by decide)) rfl qc (qq (pv 0) (qq (pv 1) (qq (wy xz qr (pv 4)) (qq qr qj))))))) qr) qj))) qj))) qj)))))
   (qp (wm (pv 3))))),?_⟩
 refine exI rfl (exI rfl (exI rfl (wc rfl rfl ⟨a,ns,_,_,_,rfl,hS,h0,(by lia),(by lia),(by lia),λr1 _ l1 u1=>⟨sz1,λp np=>?_⟩⟩)))
 refine ⟨_,rfl,wd,rfl,(by lia),(by lia),Q4 (λj σ H1=>∃(ys:List Int) (l:Int) (z:Option V),ys.length=j∧(∀h∈ys++[l],0≤h∧h≤wd)∧H1=upd H p (.lst ((ys++[l]).map V.int))∧σ=[some (.ref a),some (.int i),some (.int wd),some (.ref p),z])
  ⟨[],r1,none,rfl,(λh hh=>by have e:=aC.mp hh;subst e;lia),rfl,rfl⟩ ?_ ?_⟩
 ·rintro j σ H1 hj ⟨ys,l,z,hy,hb,rfl,rfl⟩
  have hp:upd H p (.lst ((ys++[l]).map V.int)) p=some (.lst ((ys++[l]).map V.int)):=qb
  have hS1:SqL K (upd H p (.lst ((ys++[l]).map V.int))) a (ns.map V.int):=Same.sql (Same.upd np) hS
  have hlast:atI ((ys++[l]).map V.int) (-1)=some (V.int l):=by
   rw [aR]
   exact wqx _ _
  have hl:=hb l (by simp)
  refine exI rfl ⟨.inl ⟨rfl,_,SqL.of hp⟩,exI rfl (exI rfl (exI rfl (exX rfl rfl (SqL.of hp) hlast (exI rfl (exI rfl (exI rfl (wc rfl rfl ⟨a,ns,_,_,_,rfl,hS1,h0,(by lia),(by lia),(by lia),λr2 _ l2 u2=>?_⟩)))))))⟩
  refine wc rfl rfl ⟨(by walk_at "mul"),wc rfl rfl (wc rfl rfl ⟨_,_,rfl,_,_,rfl,_,_,_,rfl,rfl,hp,?_,?_⟩)⟩
  ·rw [ae,aN,hy]
   have:(1000000:Nat)<sizeLine:=by decide
   simp only [aK,cS]
   lia
  ·refine ⟨ys++[l],(if (if l+2*r2-1<wd then l+2*r2-1 else wd)>0 then (if l+2*r2-1<wd then l+2*r2-1 else wd) else 0),_,by rw [aN,hy];rfl,λh hh=>?_,?_,rfl⟩
   ·rcases bj.mp hh with hh|hh
    ·exact hb h hh
    ·have e:=aC.mp hh
     subst e
     by_cases g1:l+2*r2-1<wd
     ·rw [am g1]
      by_cases g2:l+2*r2-1>0
      ·rw [am g2];lia
      ·rw [aj g2];lia
     ·rw [aj g1,am (show wd>0 by lia)];lia
   ·rw [jb,aR (l₁:=ys++[l])]
    rfl
 ·rintro σ H1 ⟨ys,l,z,hy,hb,rfl,rfl⟩
  refine exI rfl (k p _ np ⟨?_,hb⟩)
  rw [aN,hy]
  simp only [aK,cS]
  lia
def Qm (K:Aa):Sp:=λvs H Q _=>∃(a:Aj) (ns:List Int) (i m:Int),vs=[.ref a,.int i,.int m]∧SqL K H a (ns.map V.int)∧0≤i∧1≤m∧m≤24 ∧
 ∀p hs wd,H p=none→1≤wd→wd≤m→InW hs wd→Q (.ref p) (upd H p (.lst (hs.map V.int)))
theorem qyq {wd:Int}{n:Nat}(g:Nat→Int)(h1:(n:Int)=wd+1)(h2:∀i,i<n→0≤g i∧g i≤wd):InW ((List.range n).map g) wd:=by
 refine ⟨by rw [ae,aG];exact h1,λh hh=>?_⟩
 obtain ⟨i,hi,rfl⟩:=aO.mp hh
 exact h2 i (aL.mp hi)
theorem Y9 (n:Nat)(g:Nat→Int):(List.range n).map (λi=>V.int (g i))=((List.range n).map g).map V.int:=by
 rw [bY]
 rfl
theorem qkq {f:Aj}{fd:Ad}(F:Fun K "_law_heights" "_law_heights" s__law_heights f fd)(T:Txt K mg qg qh qz qt qm wq ww q8 wv q9 qd wj qk qu qx qw)(c__law_pick:Cal P w K mg base "_law_pick" 2 (uj K))(c__law_climb:Cal P w K mg base "_law_climb" 3 (Wt K)) :
  FnOk P w K mg base (CXE P w) 4 f fd ["_law_script","_law_at","_law_most"] (Qm K):=by
 have sc:=Wg
 refine F.okX sc (λvs H Q E h=>by obtain ⟨a,ns,i,m,rfl,_⟩:=h;rfl) (λcdv A outer s H vs Q E hr h=>?_)
 obtain ⟨a,ns,i,m,rfl,hS,h0,m1,m2,k⟩:=h
 refine ⟨_,(qy (wr (i:=3) sc.nd rfl (by walk_at "loc") (wy xz qr (wb c__law_pick (hr.mono (by decide)) rfl qc (qq (pv 0) (qq (pv 1) (qq qr (qq (pv 2) qj)))))))
   (qy (wr (i:=4) sc.nd rfl (by walk_at "loc") (wb c__law_pick (hr.mono (by decide)) rfl qc (qq (pv 0) (qq (pv 1) (qq qr (qq qr qj))))))
   (qy (xv (wf zn (pv 4) qr (wg _)) (qp (wm (jg (M:=[3]) rfl rfl (by walk_at "cap") (by walk_at "has") (by walk_at "cix") rfl (by decide +kernel) rfl (show List.Nodup (["_law_k","_law_wide"]:List Str) by decide +kernel) (zr rfl T.range_ (qq (wy xz (pv 3) qr) qj)) (λ_ _ _ _ _=>(wy xy (pv 1) (wy zc (pv 0) qr)))))) wp)
   (qy (xv (wf zn (pv 4) qr (wg _)) (qp (wm (jg (M:=[]) rfl rfl (by walk_at "cap") (by walk_at "has") (by walk_at "cix") rfl (by decide +kernel) rfl (show List.Nodup (["_law_k"]:List Str) by decide +kernel) (zr rfl T.range_ (qq (wy xz (pv 3) qr) qj)) (λ_ _ _ _ _=>(pv 0))))) wp)
   (qy (xv (wf zn (pv 4) qr (wg _)) (qp (wm (jg (M:=[3]) rfl rfl (by walk_at "cap") (by walk_at "has") (by walk_at "cix") rfl (by decide +kernel) rfl (show List.Nodup (["_law_k","_law_wide"]:List Str) by decide +kernel) (zr rfl T.range_ (qq (wy xz (pv 3) qr) qj)) (λ_ _ _ _ _=>(wy zv (pv 1) (pv 0)))))) wp)
   (qy (xv (wf zn (pv 4) qr (wg _)) (qp (wm (jg (M:=[3]) rfl rfl (by walk_at "cap") (by walk_at "has") (by walk_at "cix") rfl (by decide +kernel) rfl (show List.Nodup (["_law_k","_law_wide"]:List Str) by decide +kernel) (zr rfl T.range_ (qq (wy xz (pv 3) qr) qj)) (λ_ _ _ _ _=>(wy zc (wy xz (wy xy qr (pv 0)) qr) (wy xz (pv 1) qr)))))) wp)
   (qy (xv (PW.pt (js (wf zn (pv 4) qr (wg _)) (v5 (wf zn (pv 4) qr (wg _))))) (qp (wm (wb c__law_climb (hr.mono (by decide)) rfl qc (qq (pv 0) (qq (pv 1) (qq (pv 3) qj)))))) wp)
   (qp (wm (jg (M:=[0,1,3]) rfl rfl (by walk_at "cap") (by walk_at "has") (by walk_at "cix") rfl (by decide +kernel) rfl (show List.Nodup (["_law_k","_law_script","_law_at","_law_wide"]:List Str) by decide +kernel) (zr rfl T.range_ (qq (wy xz (pv 3) qr) qj)) (λ_ _ _ _ _=>(wb c__law_pick (hr.mono (by decide)) rfl qux (qq (pv 1) (qq (pv 2) (qq (wy xz qr (pv 0)) (qq (wy xz (pv 3) qr) qj)))))))))))))))),?_⟩
 refine exI rfl (exI rfl (exI rfl ⟨a,ns,_,_,_,rfl,hS,h0,(by lia),(by lia),(by lia),λr1 _ l1 u1=>?_⟩))
 refine wc rfl rfl (exI rfl (exI rfl ⟨a,ns,_,_,_,rfl,hS,h0,(by lia),(by lia),(by lia),λkd _ l2 u2=>?_⟩))
 have hn:((1+r1+1).toNat:Int)=1+r1+1:=by lia
 have hn2:(1+r1+1).toNat≤1000000:=by lia
 have fin:∀(g:Nat→Int) (p:Aj),(∀j,j<(1+r1+1).toNat→0≤g j∧g j≤1+r1)→H p=none→Q (.ref p) (upd H p (.lst ((List.range (1+r1+1).toNat).map λj=>V.int (g j)))):=λg p hg np=>by
  rw [Y9]
  exact k p _ (1+r1) np (by lia) (by lia) (qyq g hn hg)
 refine exI rfl ⟨rfl,_,rfl,z5 (λq1=>?_) (λq1=>?_)⟩
 ·refine exI rfl (wc rfl rfl ⟨1+r1+1,rfl,(by lia),(by lia),v9 (λj=>V.int ((1+r1)*(((0:Int)+j)%2))) hn2 (λj H' R hj hs hR=>?_) λp np=>fin _ p (λj hj=>?_) np⟩)
  ·exact exI rfl (exI rfl (wc rfl rfl ⟨(by walk_at "pos"),wc rfl rfl ⟨(by walk_at "mul"),hR⟩⟩))
  ·have a1:=bf ((0:Int)+j) (show (2:Int)≠0 by decide)
   have a2:=aX ((0:Int)+j) (show (0:Int)<2 by decide)
   rcases (by lia:((0:Int)+j)%2=0∨((0:Int)+j)%2=1) with e|e <;> rw [e] <;> lia
 ·refine exI rfl ⟨rfl,_,rfl,z5 (λq2=>?_) (λq2=>?_)⟩
  ·refine exI rfl (wc rfl rfl ⟨1+r1+1,rfl,(by lia),(by lia),v9 (λj=>V.int ((0:Int)+j)) hn2 (λj H' R hj hs hR=>?_) λp np=>fin _ p (λj hj=>by lia) np⟩)
   exact exI rfl hR
  ·refine exI rfl ⟨rfl,_,rfl,z5 (λq3=>?_) (λq3=>?_)⟩
   ·refine exI rfl (wc rfl rfl ⟨1+r1+1,rfl,(by lia),(by lia),v9 (λj=>V.int (1+r1-((0:Int)+j))) hn2 (λj H' R hj hs hR=>?_) λp np=>fin _ p (λj hj=>by lia) np⟩)
    exact exI rfl (exI rfl (wc rfl rfl hR))
   ·refine exI rfl ⟨rfl,_,rfl,z5 (λq4=>?_) (λq4=>?_)⟩
    ·refine exI rfl (wc rfl rfl ⟨1+r1+1,rfl,(by lia),(by lia),v9 (λj=>V.int ((2*((0:Int)+j)+1)%(1+r1+1))) hn2 (λj H' R hj hs hR=>?_) λp np=>fin _ p (λj hj=>?_) np⟩)
     ·exact exI rfl (wc rfl rfl ⟨(by walk_at "mul"),wc rfl rfl (exI rfl (wc rfl rfl (wc rfl rfl ⟨(by walk_at "pos"),hR⟩)))⟩)
     ·have a1:=bf (2*((0:Int)+j)+1) (show 1+r1+1≠0 by lia)
      have a2:=aX (2*((0:Int)+j)+1) (show 0<1+r1+1 by lia)
      lia
    ·have last:tRet (tComp [0,1,3] (iRng1 (kh (tOp (rI0 λi j=>.int (i+j)) (uf 3) (tC (.int 1))) uy)) (qqm (uj K) (λ_=>E0) (kh (uf 1) (kh (uf 2) (kh (tOp (rI0 λi j=>.int (i+j)) (tC (.int 3)) (uf 0)) (kh (tOp (rI0 λi j=>.int (i+j)) (uf 3) (tC (.int 1))) uy))))))
       { nx:=λ_ H'=>Q .non H',rt:=Q } [some (.ref a),some (.int i),some (.int m),some (.int (1+r1)),some (.int kd)] H:=by
      refine exI rfl (wc rfl rfl ⟨1+r1+1,rfl,(by lia),(by lia),v9 (λj=>V.int (qxp ns i (3+((0:Int)+j)) (1+r1+1))) hn2 (λj H' R hj hs hR=>?_) λp np=>fin _ p (λj hj=>?_) np⟩)
      ·refine exI rfl (exI rfl (exI rfl (wc rfl rfl (exI rfl (wc rfl rfl ⟨a,ns,_,_,_,rfl,Same.sql hs hS,h0,(by lia),(by lia),(by lia),λr e _ _=>?_⟩)))))
       rw [e]
       exact hR
      ·have a1:=wqr ns i (3+((0:Int)+j)) (1+r1+1) (by lia)
       have a2:=wqd ns i (3+((0:Int)+j)) (1+r1+1) (by lia)
       lia
     have climb:tRet (qqm (Wt K) (λ_=>E) (kh (uf 0) (kh (uf 1) (kh (uf 3) uy)))) { nx:=λ_ H'=>Q .non H',rt:=Q } [some (.ref a),some (.int i),some (.int m),some (.int (1+r1)),some (.int kd)] H :=
      (exI rfl (exI rfl (exI rfl ⟨a,ns,i,1+r1,rfl,hS,h0,(by lia),(by lia),λp hs np hw=>k p hs (1+r1) np (by lia) (by lia) hw⟩)))
     refine exI rfl ⟨rfl,_,rfl,z5 (λq5=>k4 climb) (λq5=>?_)⟩
     exact exI rfl ⟨rfl,_,rfl,z5 (λq6=>climb) (λq6=>last)⟩
def qqy:Sp:=λvs H Q _=>∃x y:Int,vs=[.int x,.int y]∧0≤x∧0≤y∧Q (.int (Wj x y)) H
theorem qxc {tb:TS}{c:TT}{D:Ends}{H:Hp}{x y:Int}(hx:0≤x)(hy:0≤y)(hc:c=tTest (tOp (rI0 λi j=>.bl (decide (j<i))) (uf 1) (tC (.int 0))))(hb:tb=tPar 0 1 (kh (uf 1) (kh (tOp (rI (λ_ j=>0<j) λi j=>.int (i%j)) (uf 0) (uf 1)) uy)))
  (hD:D.nx [some (.int (Wj x y)),some (.int 0)] H):qvv c tb D [some (.int x),some (.int y)] H:=by
 subst hc hb
 refine Yq (λσ H1=>H1=H∧∃u v:Int,σ=[some (.int u),some (.int v)]∧0≤u∧0≤v∧Wj u v=Wj x y) (λσ _=>match σ with|[_,some (.int v)]=>v.toNat|_=>0) ⟨rfl,x,y,rfl,hx,hy,rfl⟩ ?_ λσ H Q Q' h ⟨v,e,i,j,e1,e2,k,e3,q⟩=>⟨v,e,i,j,e1,e2,k,e3,h _ _ q⟩
 rintro σ H1 ⟨rfl,u,v,rfl,hu,hv,e⟩
 refine exI rfl (wc rfl rfl (exI rfl ?_))
 refine zm (λq=>?_) (λq=>?_)
 ·have h1:=bf u (show v≠0 by lia)
  have h2:=aX u q
  refine exI rfl (exI rfl (exI rfl (wc rfl rfl ⟨q,_,_,rfl,⟨rfl,v,u%v,rfl,hv,h1,?_⟩,?_⟩)))
  ·rw [qjj hu q,e]
  ·show (u%v).toNat<v.toNat
   lia
 ·have z:v=0:=by lia
  subst z
  rw [qyh hu] at e
  subst e
  exact hD
theorem ok_gcd {f:Aj}{fd:Ad}(F:Fun K "common_divisor" "common_divisor" s_common_divisor f fd)(T:Txt K mg qg qh qz qt qm wq ww q8 wv q9 qd wj qk qu qx qw):FnOk P w K mg base (CXE P w) 1 f fd ["one","other"] qqy:=by
 have sc:=Qz
 refine F.okX sc (λvs H Q E h=>by obtain ⟨x,y,rfl,_⟩:=h;rfl) (λcdv A outer s H vs Q E hr h=>?_)
 obtain ⟨x,y,rfl,hx,hy,k⟩:=h
 refine ⟨_,(qy (Qu bd (wf j9 (pv 1) qr (wg _)) (qp (wwj (i:=0) (j:=1) rfl sc.nd rfl rfl (by decide) rfl rfl (qq (pv 1) (qq (wy zc (pv 0) (pv 1)) qj)) rfl)))
   (qp (wm (pv 0)))),?_⟩
 exact qxc hx hy rfl rfl (exI rfl k)
theorem qj3 {f:Aj}{fd:Ad}(F:Fun K "_law_common" "_law_common" s__law_common f fd)(T:Txt K mg qg qh qz qt qm wq ww q8 wv q9 qd wj qk qu qx qw):FnOk P w K mg base (CXE P w) 1 f fd ["_law_one","_law_other"] qqy:=by
 have sc:=Zt
 refine F.okX sc (λvs H Q E h=>by obtain ⟨x,y,rfl,_⟩:=h;rfl) (λcdv A outer s H vs Q E hr h=>?_)
 obtain ⟨x,y,rfl,hx,hy,k⟩:=h
 refine ⟨_,(qy (Qu bd (wf j9 (pv 1) qr (wg _)) (qp (wwj (i:=0) (j:=1) rfl sc.nd rfl rfl (by decide) rfl rfl (qq (pv 1) (qq (wy zc (pv 0) (pv 1)) qj)) rfl)))
   (qp (wm (pv 0)))),?_⟩
 exact qxc hx hy rfl rfl (exI rfl k)
def ptV (p:Int×Int):List V:=[.int p.1,.int p.2]
def j0 (C:Aj):Sp:=λvs H Q E=>∃t b:Int,vs=[.int t,.int b]∧(1≤b→Sm 9000 b∧∀p,H p=none→Q (.ref p) (upd H p (.tup (ptV (wu t b)))))∧(b<1→E (.ref C) none H)
theorem qyk {f:Aj}{fd:Ad}(F:Fun K "lowest" "lowest" s_lowest f fd)(T:Txt K mg qg qh qz qt qm wq ww q8 wv q9 qd wj qk qu qx qw)(c_check_bottom:Cal P w K mg base "check_bottom" 1 (Wh qz))(c_common_divisor:Cal P w K mg base "common_divisor" 1 qqy) :
  FnOk P w K mg base (CXE P w) 2 f fd ["top","bottom"] (j0 qz):=by
 have sc:=qyd
 refine F.okX sc (λvs H Q E h=>by obtain ⟨t,b,rfl,_⟩:=h;rfl) (λcdv A outer s H vs Q E hr h=>?_)
 obtain ⟨t,b,rfl,k,x⟩:=h
 refine ⟨_,(qy (xj (wb c_check_bottom (hr.mono (by decide)) rfl qc (qq (pv 1) qj)))
   (qy (wr (i:=2) sc.nd rfl (by walk_at "loc") (wb c_common_divisor (hr.mono (by decide)) rfl qc (qq (wn uu rfl T.abs_ Qj (qq (pv 0) qj)) (qq (pv 1) qj))))
   (qp (wm (zq (qq (wy zd (pv 0) (pv 2)) (qq (wy zd (pv 1) (pv 2)) qj))))))),?_⟩
 refine ⟨_,rfl,b,rfl,λg1=>?_,λg1=>x g1⟩
 obtain ⟨sb,k⟩:=k g1
 have hg:=zt (t:=t) g1
 have hs:Sm 9000 (gOf t b):=sb.of_le (by have:=quy (t:=t) g1;lia)
 refine exI rfl (exI rfl (exI rfl ⟨jn t,b,rfl,qkr t,(by lia),?_⟩))
 refine exI rfl ⟨V.int (gOf t b),rfl,wc rfl rfl ⟨⟨by lia,hs⟩,exI rfl ⟨V.int (gOf t b),rfl,wc rfl rfl ⟨⟨by lia,hs⟩,sz2,λp n=>?_⟩⟩⟩⟩
 exact k p n
def qkt:Sp:=λvs H Q _=>∃t b:Int,vs=[.int t,.int b]∧1≤b∧Sm 9000 b∧∀p,H p=none→Q (.ref p) (upd H p (.tup (ptV (wu t b))))
theorem ok_low {f:Aj}{fd:Ad}(F:Fun K "_law_low" "_law_low" s__law_low f fd)(T:Txt K mg qg qh qz qt qm wq ww q8 wv q9 qd wj qk qu qx qw)(c__law_common:Cal P w K mg base "_law_common" 1 qqy):FnOk P w K mg base (CXE P w) 2 f fd ["_law_top","_law_bottom"] qkt:=by
 have sc:=qxy
 refine F.okX sc (λvs H Q E h=>by obtain ⟨t,b,rfl,_⟩:=h;rfl) (λcdv A outer s H vs Q E hr h=>?_)
 obtain ⟨t,b,rfl,g1,sb,k⟩:=h
 have hg:=zt (t:=t) g1
 have hs:Sm 9000 (gOf t b):=sb.of_le (by have:=quy (t:=t) g1;lia)
 refine ⟨_,(qy (wr (i:=2) sc.nd rfl (by walk_at "loc") (wb c__law_common (hr.mono (by decide)) rfl qc (qq (wn uu rfl T.abs_ Qj (qq (pv 0) qj)) (qq (pv 1) qj))))
   (qp (wm (zq (qq (wy zd (pv 0) (pv 2)) (qq (wy zd (pv 1) (pv 2)) qj)))))),?_⟩
 refine exI rfl (exI rfl (exI rfl ⟨jn t,b,rfl,qkr t,(by lia),?_⟩))
 refine exI rfl ⟨V.int (gOf t b),rfl,wc rfl rfl ⟨⟨by lia,hs⟩,exI rfl ⟨V.int (gOf t b),rfl,wc rfl rfl ⟨⟨by lia,hs⟩,sz2,λp n=>?_⟩⟩⟩⟩
 exact k p n
theorem at_h {hs:List Int}{k:Int}(h0:0≤k)(h1:k<hs.length):atI (hs.map V.int) k=some (V.int (hAt hs k)):=W5 h0 h1
theorem qks {hs:List Int}(ok:wt hs)(k:Int):0≤hAt hs k∧hAt hs k≤24:=by
 unfold hAt
 rw [al]
 cases e:hs[k.toNat]? with
 |none=>exact ⟨by decide,by decide⟩
 |some v =>
  have hm:=ok.2.2 v (bx e)
  have:=ok.2.1
  show 0≤v∧v≤24
  lia
def qvz (C CR:Aj):Sp:=λvs H Q E=>∃(r:Aj) (hs:List Int) (k:Int),vs=[.ref r,.int k]∧RoadAt C H r hs∧(0≤k→k<(hs.length:Int)-1→∀p,H p=none→Q (.ref p) (upd H p (.tup [.int (hAt hs k),.int (hAt hs (k+1))]))) ∧
 (k<0∨(hs.length:Int)-1≤k→E (.ref CR) none H)
theorem wwp {f:Aj}{fd:Ad}(F:Fun K "ends" "Road.ends" s_Road_ends f fd)(T:Txt K mg qg qh qz qt qm wq ww q8 wv q9 qd wj qk qu qx qw)(c_width:MCal P w K mg base qu "width" 1 (yq qu)):FnOk P w K mg base (CXE P w) 2 f fd ["self","stretch"] (qvz qu ww):=by
 have sc:=qwn
 refine F.okX sc (λvs H Q E h=>by obtain ⟨r,hs,k,rfl,_⟩:=h;rfl) (λcdv A outer s H vs Q E hr h=>?_)
 obtain ⟨r,hs,k,rfl,hR,kq,x⟩:=h
 obtain ⟨dx,q,h1,h2⟩:=id hR
 refine ⟨_,(qy (xv (PW.pt (js (wf vn (pv 1) qr (wg _)) (v5 (wf qk7 (pv 1) (xp (pv 0) T.cl c_width (hr.mono (by decide)) qc) (wg _))))) (qp (zw rfl T.x_BadRow xn rfl T.g_BadRow (qq xx qj))) wp)
   (qp (wm (zq (qq (zx zy (xm (pv 0) rfl) (pv 1) (λ_ _=>rfl)) (qq (zx zy (xm (pv 0) rfl) (wy xz (pv 1) qr) (λ_ _=>rfl)) qj)))))),?_⟩
 refine exI rfl (wc rfl rfl (exI rfl ?_))
 refine zm (λq1=>?_) (λq1=>?_)
 ·refine k4 ?_
  exact ⟨sz1,x (.inl q1)⟩
 ·refine exI rfl (exI rfl ⟨r,dx,exI rfl ⟨h1,x6 (by decide +kernel),r,hs,rfl,hR,wc rfl rfl (exI rfl ?_)⟩⟩)
  refine zm (λq2=>?_) (λq2=>?_)
  ·exact ⟨sz1,x (.inr q2)⟩
  ·refine exI rfl ⟨r,qu,dx,_,_,rfl,h1,T.cl,T.na,vt,exI rfl (exX rfl rfl (SqL.of h2) (at_h (by lia) (by lia)) (exI rfl ⟨r,qu,dx,_,_,rfl,h1,T.cl,T.na,vt,exI rfl (wc rfl rfl (exX rfl rfl (SqL.of h2) (at_h (by lia) (by lia)) ⟨sz2,λp np=>?_⟩))⟩))⟩
   exact kq (by lia) (by lia) p np
def xt (hs:List Int)(t b:Int):Prop:=0≤t∧t≤((hs.length:Int)-1)*b
def Qw (K:Aa)(C CB CO:Aj):Sp:=λvs H Q E=>∃(r p:Aj) (hs:List Int) (t b:Int),vs=[.ref r,.ref p]∧RoadAt C H r hs∧wt hs∧SqT K H p [.int t,.int b] ∧
 (1≤b→Sm 8000 b∧(xt hs t b→∀q H',Same H H'→H' q=some (.tup (ptV (wu t b)))→Q (.ref q) H')∧(¬ xt hs t b→∀H',Same H H'→E (.ref CO) none H'))∧(b<1→E (.ref CB) none H)
theorem qkj {f:Aj}{fd:Ad}(F:Fun K "on_road" "Road.on_road" s_Road_on_road f fd)(T:Txt K mg qg qh qz qt qm wq ww q8 wv q9 qd wj qk qu qx qw)(c_width:MCal P w K mg base qu "width" 1 (yq qu))(c_lowest:Cal P w K mg base "lowest" 2 (j0 qz)) :
  FnOk P w K mg base (CXE P w) 3 f fd ["self","point"] (Qw K qu qz qt):=by
 have sc:=Wb
 refine F.okX sc (λvs H Q E h=>by obtain ⟨r,p,hs,t,b,rfl,_⟩:=h;rfl) (λcdv A outer s H vs Q E hr h=>?_)
 obtain ⟨r,p,hs,t,b,rfl,hR,hok,hp,kq,x⟩:=h
 obtain ⟨dx,q,h1,h2⟩:=id hR
 refine ⟨_,(qy (jv (wb c_lowest (hr.mono (by decide)) rfl qc (qq (zx vf (pv 1) qr (λ_ _=>rfl)) (qq (zx vf (pv 1) qr (λ_ _=>rfl)) qj))) (v8 rfl (xu (xk (i:=2) sc.nd rfl (by walk_at "loc")) (xu (xk (i:=3) sc.nd rfl (by walk_at "loc")) vk))))
   (qy (xv (PW.pt (js (wf vn (pv 2) qr (wg _)) (v5 (wf j9 (pv 2) (wy xy (xp (pv 0) T.cl c_width (hr.mono (by decide)) qc) (pv 3)) (wg _))))) (qp (zw rfl T.x_OffRoad xn rfl T.g_OffRoad (qq xx qj))) wp)
   (qp (wm (zq (qq (pv 2) (qq (pv 3) qj))))))),?_⟩
 refine ⟨_,rfl,_,_,_,_,rfl,rfl,hp,rfl,_,rfl,_,_,_,_,rfl,rfl,hp,rfl,t,b,rfl,λhb=>⟨(kq hb).1.mono (by decide),λp1 n1=>?_⟩,λz=>x z⟩
 obtain ⟨sb,k1,k2⟩:=kq hb
 have s1:Same H (upd H p1 (.tup (ptV (wu t b)))):=Same.upd n1
 have hl:=hok.2.1
 refine ⟨p1,exI rfl ⟨SqT.new,rfl,_,_,rfl,_,_,rfl,rfl,?_⟩⟩
 refine exI rfl (wc rfl rfl (exI rfl ?_))
 refine zm (λq1=>?_) (λq1=>?_)
 ·refine k4 ?_
  exact ⟨sz1,k2 (λz=>by have:=(Wp hb).mp q1;have:=z.1;lia) _ s1⟩
 ·refine exI rfl (exI rfl ⟨r,dx,exI rfl ⟨s1 _ _ h1,x6 (by decide +kernel),r,hs,rfl,hR.same s1,exI rfl (wc rfl rfl ⟨IntMulOk.of_left (intBits_le_64 (by lia) (by lia)),wc rfl rfl (exI rfl ?_)⟩)⟩⟩)
  refine zm (λq2=>?_) (λq2=>?_)
  ·exact ⟨sz1,k2 (λz=>by have:=(qvk hb).mp q2;have:=z.2;lia) _ s1⟩
  ·refine exI rfl (exI rfl ⟨sz2,λp2 n2=>?_⟩)
   refine k1 ⟨?_,?_⟩ p2 _ (s1.trans (Same.upd n2)) qb
   ·rcases bW t 0 with z|z
    ·exact absurd ((Wp hb).mpr z) q1
    ·exact z
   ·rcases bW (((hs.length:Int)-1)*b) t with z|z
    ·exact absurd ((qvk hb).mpr z) q2
    ·exact z
def spAt (K:Aa)(C CB CO:Aj):Sp:=λvs H Q E=>∃(r p:Aj) (hs:List Int) (t b:Int),vs=[.ref r,.ref p]∧RoadAt C H r hs∧wt hs∧SqT K H p [.int t,.int b] ∧
 (1≤b→Sm 8000 b∧(xt hs t b→∀q H',Same H H'→H' q=some (.tup (ptV (j8 hs t b)))→Q (.ref q) H')∧(¬ xt hs t b→∀H',Same H H'→E (.ref CO) none H'))∧(b<1→E (.ref CB) none H)
theorem ok_at {f:Aj}{fd:Ad}(F:Fun K "at" "Road.at" s_Road_at f fd)(T:Txt K mg qg qh qz qt qm wq ww q8 wv q9 qd wj qk qu qx qw)(c_width:MCal P w K mg base qu "width" 1 (yq qu))(c_lowest:Cal P w K mg base "lowest" 2 (j0 qz))(c_ends:MCal P w K mg base qu "ends" 2 (qvz qu ww))
  (c_on_road:MCal P w K mg base qu "on_road" 3 (Qw K qu qz qt)):FnOk P w K mg base (CXE P w) 4 f fd ["self","point"] (spAt K qu qz qt):=by
 have sc:=qku
 refine F.okX sc (λvs H Q E h=>by obtain ⟨r,p,hs,t,b,rfl,_⟩:=h;rfl) (λcdv A outer s H vs Q E hr h=>?_)
 obtain ⟨r,p,hs,t,b,rfl,hR,hok,hp,kq,x⟩:=h
 obtain ⟨dx,q,h1,h2⟩:=id hR
 refine ⟨_,(qy (jv (w8 (pv 0) T.cl c_on_road (hr.mono (by decide)) qc (qq (pv 1) qj)) (v8 rfl (xu (xk (i:=2) sc.nd rfl (by walk_at "loc")) (xu (xk (i:=3) sc.nd rfl (by walk_at "loc")) vk))))
   (qy (wr (i:=4) sc.nd rfl (by walk_at "loc") (wn (J1 rfl) rfl T.min_ dh (qq (wy zd (pv 2) (pv 3)) (qq (wy zv (xp (pv 0) T.cl c_width (hr.mono (by decide)) qc) qr) qj))))
   (qy (jv (w8 (pv 0) T.cl c_ends (hr.mono (by decide)) qc (qq (pv 4) qj)) (v8 rfl (xu (xk (i:=5) sc.nd rfl (by walk_at "loc")) (xu (xk (i:=6) sc.nd rfl (by walk_at "loc")) vk))))
   (qy (wr (i:=7) sc.nd rfl (by walk_at "loc") (wy zv (pv 2) (wy xy (pv 4) (pv 3))))
   (qp (wm (wb c_lowest (hr.mono (by decide)) rfl qc (qq (wy xz (wy xy (pv 5) (pv 3)) (wy xy (wy zv (pv 6) (pv 5)) (pv 7))) (qq (pv 3) qj))))))))),?_⟩
 refine ⟨_,rfl,r,dx,_,rfl,h1,x6 (by decide +kernel),_,rfl,r,p,hs,t,b,rfl,hR,hok,hp,λhb=>⟨(kq hb).1,λhon p1 H1 s1 f1=>?_,λhoff H1 s1=>(kq hb).2.2 hoff H1 s1⟩,λz=>x z⟩
 obtain ⟨sb,k1,k2⟩:=kq hb
 have hl1:=hok.1
 have hl2:=hok.2.1
 have hy:=ur (t:=t) hb
 have hyb:=Zj (t:=t) hb
 have hx:0≤(wu t b).1:=by
  rcases bW (wu t b).1 0 with z|z
  ·have:=(Wp hb).mp z
   have:=hon.1
   lia
  ·exact z
 have hk:=wq8 (hs:=hs) hl1 hy hx
 have sy:Sm 9000 (wu t b).2:=(sb.of_le (by lia)).mono (by decide)
 refine ⟨p1,exI rfl ⟨SqT.of f1,rfl,_,_,rfl,_,_,rfl,rfl,?_⟩⟩
 refine exI rfl (exI rfl (wc rfl rfl ⟨⟨by lia,sy⟩,exI rfl ⟨r,dx,exI rfl ⟨s1 _ _ h1,x6 (by decide +kernel),r,hs,rfl,hR.same s1,wc rfl rfl ⟨_,_,rfl,?_⟩⟩⟩⟩))
 refine ⟨_,rfl,r,dx,_,rfl,s1 _ _ h1,x6 (by decide +kernel),V.int (kF hs (wu t b).1 (wu t b).2),rfl,r,hs,kF hs (wu t b).1 (wu t b).2,rfl,hR.same s1,λ_ _ p2 n2=>?_,λz=>absurd z (by lia)⟩
 have g1:=qks hok (kF hs (wu t b).1 (wu t b).2)
 have g2:=qks hok (kF hs (wu t b).1 (wu t b).2+1)
 refine ⟨p2,exI rfl ⟨SqT.new,rfl,_,_,rfl,_,_,rfl,rfl,?_⟩⟩
 refine exI rfl ⟨V.int (kF hs (wu t b).1 (wu t b).2),rfl,exI rfl (wc rfl rfl ⟨IntMulOk.of_left (intBits_le_64 (by lia) (by lia)),wc rfl rfl ?_⟩)⟩
 refine exI rfl (exI rfl (wc rfl rfl ⟨IntMulOk.of_left (intBits_le_64 (by lia) (by lia)),exI rfl (exI rfl (wc rfl rfl (exI rfl (wc rfl rfl ⟨IntMulOk.of_left (intBits_le_64 (by lia) (by lia)),wc rfl rfl (exI rfl ?_)⟩))))⟩))
 refine ⟨vg hs (wu t b).1 (wu t b).2,(wu t b).2,rfl,λ_=>⟨sy,λp3 n3=>?_⟩,λz=>absurd z (by lia)⟩
 have e:wu (vg hs (wu t b).1 (wu t b).2) (wu t b).2=j8 hs t b:=qqc hb
 rw [e]
 exact k1 hon p3 _ (s1.trans ((Same.upd n2).trans (Same.upd n3))) qb
theorem wwn {hs:List Int}{wd:Int}(h:InW hs wd)(w1:1≤wd)(w2:wd≤24):wt hs:=by
 refine ⟨by have:=h.1;lia,by have:=h.1;lia,λx hx=>?_⟩
 have h1:=h.1
 have h2:=h.2 x hx
 lia
theorem qyn {H H':Hp}{x dx C:Aj}(nx:H x=none)(nd:H dx=none)(h:∀b o,upd (upd H dx (.own x)) x (.ins C dx []) b=some o→b≠x→H' b=some o):Same H H':=λb o e =>
 h b o (by rw [wx (qf e nx),wx (qf e nd)];exact e) (qf e nx)
theorem Same.upd2 {H H':Hp}{p:Aj}{o:HO}(s:Same H H')(n:H p=none):Same H (L2.upd H' p o):=λb u e=>by
 rw [wx (qf e n)]
 exact s b u e
theorem rd_pt {K:Aa}{H:Hp}{p:Aj}{q:Int×Int}(h:SqT K H p [.int q.1,.int q.2]):RD K H (ptD q) (.ref p):=by
 unfold ptD
 rw [RD]
 exact ⟨p,exI rfl ⟨h,by rw [RDs];exact ⟨_,_,rfl,by rw [RD],by rw [RDs];exact ⟨_,_,rfl,by rw [RD],by rw [RDs]⟩⟩⟩⟩
theorem Wn {CB C:Aj}{H:Hp}{p x dx:Aj}{hs:List Int}{Pp:Hp→Prop}{E:XK}(f:H p=some (.lst (hs.map V.int)))(nx:H x=none)(nd:H dx=none)(k:wt hs→∀H',Same H H'→RoadAt C H' x hs→Pp H')(bad:¬ wt hs→∀H',Same H H'→E (.ref CB) none H') :
  y0 K CB C [.ref x,.ref p] (upd (upd H dx (.own x)) x (.ins C dx [])) (λr H2=>r=.non∧Pp H2) E:=by
 refine ⟨x,dx,p,hs,rfl,qb,SqL.of (by rw [wx (qf f nx),wx (qf f nd)];exact f),λok H4 q nq kp r l=>⟨rfl,k ok H4 (qyn nx nd kp) ⟨dx,q,r,l⟩⟩,λz=>bad z _ ?_⟩
 exact λb o e=>by rw [wx (qf e nx),wx (qf e nd)];exact e
theorem quv {hs:List Int}(ok:wt hs)(k:Int):0≤hAt hs k∧hAt hs k≤(hs.length:Int)-1:=by
 unfold hAt
 rw [al]
 have:=ok.1
 cases e:hs[k.toNat]? with
 |none=>exact ⟨by decide,by show (0:Int)≤_;lia⟩
 |some v=>exact ok.2.2 v (bx e)
theorem qk3 {hs:List Int}{t b:Int}(hok:wt hs)(hb:1≤b)(hon:xt hs t b):xt hs (vg hs t b) b:=by
 have hl1:=hok.1
 have hk:=wq8 (hs:=hs) hl1 hb hon.1
 have g1:=quv hok (kF hs t b)
 have g2:=quv hok (kF hs t b+1)
 have e1:0≤t-kF hs t b*b∧t-kF hs t b*b≤b:=by
  have h1:t/b*b≤t:=eK t (by lia)
  have h2:=dC t (show 0<b by lia)
  unfold kF
  split
  ·next z =>
   have h3:=aI (show (hs.length:Int)-1-1≤t/b by lia) (show 0≤b by lia)
   have h4:=hon.2
   constructor
   ·lia
   ·have:((hs.length:Int)-1)*b=((hs.length:Int)-1-1)*b+b:=by grind
    lia
  ·have:(t/b+1)*b=t/b*b+b:=by grind
   constructor <;> lia
 have r:=qub (u:=hAt hs (kF hs t b)) (v:=hAt hs (kF hs t b+1)) e1.1 e1.2
 refine ⟨Int.le_trans ?_ r.1,Int.le_trans r.2 ?_⟩
 ·refine cZ ?_ (by lia)
  split <;> lia
 ·refine aI ?_ (by lia)
  split <;> lia
theorem qq0 {hs:List Int}{t b:Int}(hb:1≤b)(hon:xt hs t b):xt hs (wu t b).1 (wu t b).2:=by
 constructor
 ·rcases bW (wu t b).1 0 with z|z
  ·have:=(Wp hb).mp z
   have:=hon.1
   lia
  ·exact z
 ·rcases bW (((hs.length:Int)-1)*(wu t b).2) (wu t b).1 with z|z
  ·have:=(qvk hb).mp z
   have:=hon.2
   lia
  ·exact z
def itP (hs:List Int)(p:Int×Int):Nat→Int×Int
 |0=>p
 |n+1=>j8 hs (itP hs p n).1 (itP hs p n).2
def Pt (hs:List Int)(c:Int)(p:Int×Int):Prop:=1≤p.2∧p.2≤c∧gOf p.1 p.2=1∧xt hs p.1 p.2
theorem pt_low {hs:List Int}{t b:Int}(hb:1≤b)(hon:xt hs t b):Pt hs b (wu t b):=⟨ur hb,Zj hb,qwz hb,qq0 hb hon⟩
theorem ww5 {hs:List Int}{c:Int}{p:Int×Int}(hok:wt hs)(h:Pt hs c p):Pt hs c (j8 hs p.1 p.2):=by
 have a:=pt_low h.1 (qk3 hok h.1 h.2.2.2)
 exact ⟨a.1,Int.le_trans a.2.1 h.2.1,a.2.2.1,a.2.2.2⟩
theorem qud {hs:List Int}{c:Int}{p:Int×Int}(hok:wt hs)(h:Pt hs c p):∀n,Pt hs c (itP hs p n)
 |0=>h
 |n+1=>ww5 hok (qud hok h n)
def trT (hs:List Int)(t b:Int):Nat→Int
 |0=>t
 |n+1=>vg hs (trT hs t b n) b
theorem uk {hs:List Int}{t b:Int}(hok:wt hs)(hb:1≤b)(hon:xt hs t b):∀n,xt hs (trT hs t b n) b
 |0=>hon
 |n+1=>qk3 hok hb (uk hok hb hon n)
theorem qq7 {hs:List Int}{t b:Int}(hb:1≤b):∀n,wu (trT hs t b n) b=itP hs (wu t b) n
 |0=>rfl
 |n+1=>by
  show j8 hs (trT hs t b n) b=j8 hs (itP hs (wu t b) n).1 (itP hs (wu t b) n).2
  rw [←qq7 hb n,qqc hb]
def ptsL (hs:List Int)(p:Int×Int)(n:Nat):List (Int×Int):=(List.range n).map (itP hs p)
theorem qzd (hs:List Int)(p:Int×Int)(n:Nat):(ptsL hs p n).length=n:=by
 unfold ptsL
 rw [ae,aG]
def PtR (H:Hp)(v:V)(p:Int×Int):Prop:=∃a,v=.ref a∧H a=some (.tup [.int p.1,.int p.2])
theorem PtR.same {H H':Hp}{v:V}{p:Int×Int}(h:PtR H v p)(s:Same H H'):PtR H' v p:=by
 obtain ⟨a,e,f⟩:=h
 exact ⟨a,e,s _ _ f⟩
theorem Yx {α β:Type}{F G:α→β→Prop}(h:∀a b,F a b→G a b):∀ {l:List α} {m:List β},Paired F l m→Paired G l m
 |_,_,.nil=>.nil
 |_,_,.cons a t=>.cons (h _ _ a) (Yx h t)
theorem qxf {α β:Type}{F:α→β→Prop}:∀ {l:List α} {m:List β} {i:Nat} {a:α},Paired F l m→l[i]?=some a→∃b,m[i]?=some b∧F a b
 |_,_,0,_,.cons a _,e=>by cases e;exact exI rfl a
 |_,_,i+1,_,.cons _ t,e=>qxf (i:=i) t e
theorem qqf {α β:Type}{F:α→β→Prop}:∀ {l:List α} {m:List β} {i:Nat} {b:β},Paired F l m→m[i]?=some b→∃a,l[i]?=some a∧F a b
 |_,_,0,_,.cons a _,e=>by cases e;exact exI rfl a
 |_,_,i+1,_,.cons _ t,e=>qqf (i:=i) t e
theorem qx6 {α β:Type}{F:α→β→Prop}:∀ {l:List α} {m:List β} {a:α},Paired F l m→a∈l→∃b,b∈m∧F a b
 |_,_,_,.cons a t,e=>by
  rcases ai.mp e with rfl|e
  ·exact ⟨_,.head _,a⟩
  ·obtain ⟨b,hb,fb⟩:=qx6 t e
   exact ⟨b,.tail _ hb,fb⟩
def PtsAt (H:Hp)(q:Aj)(ps:List (Int×Int)):Prop:=∃vs,H q=some (.lst vs)∧Paired (PtR H) vs ps
theorem PtsAt.same {H H':Hp}{q:Aj}{ps:List (Int×Int)}(h:PtsAt H q ps)(s:Same H H'):PtsAt H' q ps:=by
 obtain ⟨vs,f,r⟩:=h
 exact ⟨vs,s _ _ f,Yx (λ_ _ z=>z.same s) r⟩
def Dist {α:Type}(f:Nat→α)(n:Nat):Prop:=∀i j,i<j→j<n→f i≠f j
theorem Dist.mono {α:Type}{f:Nat→α}{m n:Nat}(h:Dist f n)(le:m≤n):Dist f m:=λi j a b=>h i j a (by lia)
theorem Dist.succ {α:Type}{f:Nat→α}{n:Nat}(h:Dist f n)(h':∀j,j<n→f j≠f n):Dist f (n+1):=λi j a b=>by
 rcases (by lia:j<n∨j=n) with z|z
 ·exact h i j a z
 ·subst z
  exact h' i a
theorem shift {α:Type}{f:Nat→α}(st:∀i j,f i=f j→f (i+1)=f (j+1)){n u:Nat}(e:f n=f u):∀k,f (n+k)=f (u+k)
 |0=>e
 |k+1=>st _ _ (shift st e k)
theorem per {α:Type}{f:Nat→α}(st:∀i j,f i=f j→f (i+1)=f (j+1)){n u:Nat}(hu:u<n)(e:f n=f u)(m:Nat):u≤m→f m=f (u+(m-u)%(n-u)):=by
 induction m using Nat.strongRecOn with
 |_ m ih =>
  intro hm
  rcases Nat.lt_or_ge m n with z|z
  ·rw [Nat.mod_eq_of_lt (by lia)]
   congr 1
   lia
  ·have h1:=shift st e (m-n)
   rw [show n+(m-n)=m by lia] at h1
   have h2:=ih (u+(m-n)) (by lia) (by lia)
   rw [h1,h2,show u+(m-n)-u=m-u-(n-u) by lia,←Nat.mod_eq_sub_mod (by lia)]
theorem qkd {m:Int}{n u:Nat}(h:(u:Int)≤m)(hu:u<n):(u:Int)+(m-u)%((n:Int)-u)=((u+(m.toNat-u)%(n-u):Nat):Int):=by
 have e1:m-(u:Int)=((m.toNat-u:Nat):Int):=by lia
 have e2:(n:Int)-(u:Int)=((n-u:Nat):Int):=by lia
 rw [e1,e2]
 push_cast
 rfl
theorem pig (N:Nat):∀l:List Nat,l.Nodup→(∀x∈l,x<N)→l.length≤N:=by
 induction N with
 |zero =>
  intro l _ h
  cases l with
  |nil=>exact af _
  |cons a r=>exact absurd (h a (.head _)) (by lia)
 |succ N ih =>
  intro l nd h
  by_cases m:N∈l
  ·have h1:=ih (l.erase N) (nd.erase N) λx hx=>by
    have a:=(nd.mem_erase_iff.mp hx)
    have b:=h x a.2
    lia
   rw [List.length_erase_of_mem m] at h1
   lia
  ·have:=ih l nd λx hx=>by
    have b:=h x hx
    have:x≠N:=λz=>m (z▸hx)
    lia
   lia
theorem pigI {f:Nat→Int}{n:Nat}{B:Int}(h:Dist f n)(b:∀i,0≤f i∧f i≤B):(n:Int)≤B+1:=by
 have h1:=pig (B+1).toNat ((List.range n).map λi=>(f i).toNat) (by
  rw [List.nodup_iff_pairwise_ne,bX]
  refine bw ?_ (dc (n:=n))
  intro i j hi hj hij e
  have:=b i
  have:=b j
  exact h i j hij (aL.mp hj) (by lia)) λx hx=>by
   obtain ⟨i,_,rfl⟩:=aO.mp hx
   have:=b i
   lia
 rw [ae,aG] at h1
 have:=b 0
 lia
theorem it_st {hs:List Int}{p:Int×Int}:∀i j,itP hs p i=itP hs p j→itP hs p (i+1)=itP hs p (j+1):=λi j e=>by
 show j8 hs (itP hs p i).1 (itP hs p i).2=j8 hs (itP hs p j).1 (itP hs p j).2
 rw [e]
theorem qwx {t b:Int}(hb:1≤b)(g:gOf t b=1):wu t b=(t,b):=by
 unfold wu
 rw [g,Int.ediv_one,Int.ediv_one]
theorem it_tr {hs:List Int}{c:Int}{p:Int×Int}(h:Pt hs c p)(n:Nat):itP hs p n=wu (trT hs p.1 p.2 n) p.2:=by
 rw [qq7 h.1,qwx h.1 h.2.2.1]
theorem wxc {x y b:Int}(hb:1≤b)(e:wu x b=wu y b):x=y:=by
 have h1:=(Jr (N:=x) hb).2
 have h2:=(Jr (N:=y) hb).2
 rw [e] at h1
 lia
theorem it_eq {hs:List Int}{c:Int}{p:Int×Int}(h:Pt hs c p)(i j:Nat):itP hs p i=itP hs p j↔trT hs p.1 p.2 i=trT hs p.1 p.2 j:=by
 rw [it_tr h,it_tr h]
 exact ⟨λe=>wxc h.1 e,λe=>by rw [e]⟩
def jf (p:Int×Int):List Key:=[.inl p.1,.inl p.2]
theorem qx8 {p q:Int×Int}(e:jf p=jf q):p=q:=by
 unfold jf at e
 simp only [List.cons.injEq,Sum.inl.injEq,and_true] at e
 exact Prod.ext e.1 e.2
def vb {κ:Type}(k:Nat→κ)(n:Nat):List (κ×V):=(List.range n).map λi=>(k i,V.int i)
theorem Qh {κ:Type}(k:Nat→κ)(n:Nat):vb k (n+1)=vb k n++[(k n,V.int n)]:=by
 unfold vb
 rw [bR,aR]
 rfl
theorem vh {κ:Type}(k:Nat→κ)(n:Nat):(vb k n).length=n:=by
 unfold vb
 rw [ae,aG]
theorem Qp {κ:Type}[DecidableEq κ]{k:Nat→κ}{q:κ}{n:Nat}(h:∀j,j<n→k j≠q):w9 (vb k n) q=none:=by
 unfold w9 vb
 rw [List.find?_eq_none.mpr]
 ·rfl
 ·intro x hx
  obtain ⟨i,hi,rfl⟩:=aO.mp hx
  simpa using h i (aL.mp hi)
theorem Qs {κ:Type}[DecidableEq κ]{k:Nat→κ}{j:Nat}:∀ {n:Nat},Dist k n→j<n→w9 (vb k n) (k j)=some (.int j)
 |0,_,h=>absurd h (by lia)
 |n+1,d,h=>by
  rw [Qh,qqq _ _ _ _ (Qp λi hi=>d i n hi (by lia))]
  rcases (by lia:j<n∨j=n) with z|z
  ·rw [aj (d j n z (by lia)),Qs (d.mono (by lia)) z]
  ·subst z
   rw [am rfl]
theorem qk0 {α β γ δ:Type}{F:α→β→Prop}{G:α→γ→Prop}(g:δ→β)(f:δ→γ)(h:∀a x,F a (g x)→G a (f x)):∀ {l:List δ} {vs:List α},Paired F vs (l.map g)→Paired G vs (l.map f)
 |[],_,.nil=>.nil
 |_::_,_,.cons a t=>.cons (h _ _ a) (qk0 g f h t)
end
section
variable {P:Ac}{w:Ah}{K:Aa}{mg:Str→Option Ag}{base:Heap}{qg:Aj}{qh:Aj}{qz:Aj}{qt:Aj}{qm:Aj}{wq:Aj}{ww:Aj}{q8:Aj}{wv:Aj}{q9:Aj}{qd:Aj}{wj:Aj}{qk:Aj}{qu:Aj}{qx:Aj}{qw:Aj}
def qwb (C CT:Aj):Sp:=λvs H Q E=>∃(r a:Aj) (hs:List Int) (p:Int×Int) (c:Int),vs=[.ref r,.ref a]∧RoadAt C H r hs∧wt hs∧H a=some (.tup [.int p.1,.int p.2])∧Pt hs c p∧Sm 8000 c ∧
 (∀n u q l H',n≤1000→Dist (itP hs p) n→u<n→itP hs p n=itP hs p u→Same H H'→H l=none→H' q=some (.tup [.ref l,.int ((u:Nat):Int)])→PtsAt H' l (ptsL hs p n)→Q (.ref q) H')∧(Dist (itP hs p) 1001→∀H',Same H H'→E (.ref CT) none H')
theorem qug {f:Aj}{fd:Ad}(F:Fun K "trace" "trace" s_trace f fd)(T:Txt K mg qg qh qz qt qm wq ww q8 wv q9 qd wj qk qu qx qw)(c_at:MCal P w K mg base qu "at" 4 (spAt K qu qz qt)):FnOk P w K mg base (CXE P w) 5 f fd ["road","start"] (qwb qu wq):=by
 have sc:=wqb
 refine F.okX sc (λvs H Q E h=>by obtain ⟨r,a,hs,p,c,rfl,_⟩:=h;rfl) (λcdv A outer s H vs Q E hr h=>?_)
 obtain ⟨r,a,hs,p,c,rfl,hR,hok,ha,hP,sc8,k,x⟩:=h
 obtain ⟨dx,q0,h1,h2⟩:=id hR
 obtain ⟨tm,g_LONGEST_TRACE⟩:=T.g_LONGEST_TRACE
 refine ⟨_,(qy (wr (i:=2) sc.nd rfl (by walk_at "loc") wqt)
   (qy (wr (i:=3) sc.nd rfl (by walk_at "loc") (pv 1))
   (qy (Qu bd (Z7 (yx (vd hr) (pv 3) (pv 2))) (qy (xv (wf zn (wn qqd rfl T.len_ aE (qq (pv 2) qj)) (yu (v:=V.int 1000) rfl g_LONGEST_TRACE ⟨_,rfl⟩) (wg _)) (qp (zw rfl T.x_TooLong xn rfl T.g_TooLong (qq xx qj))) wp)
   (qy (W0 (vd hr) (pv 2) (pv 3) (wn qqd rfl T.len_ aE (qq (pv 2) qj)) rfl)
   (qp (wr (i:=3) sc.nd rfl (by walk_at "loc") (w8 (pv 0) T.cl c_at (hr.mono (by decide)) qc (qq (pv 3) qj)))))))
   (qp (wm (zq (qq (k9 (qvy rfl) rfl T.list_ cx (qq (pv 2) qj)) (qq (jz (vd hr) (pv 2) (pv 3) (λ_ _=>rfl)) qj)))))))),?_⟩
 refine λD nD=>exI rfl ?_
 refine Yq (λσ H2=>∃(i:Nat) (b:Aj),σ=[some (.ref r),some (.ref a),some (.ref D),some (.ref b)]∧i≤1000∧Dist (itP hs p) i∧Same H H2∧H2 D=some (.dT (vb (λj=>jf (itP hs p j)) i))∧H2 b=some (.tup [.int (itP hs p i).1,.int (itP hs p i).2]))
  (λ_ H2=>match H2 D with|some (.dT kvs)=>1001-kvs.length|_=>0) ⟨0,a,rfl,by lia,λi j _ z=>absurd z (by lia),Same.upd nD,qb,by rw [wx (qf ha nD)];exact ha⟩ ?_ λσ H Q Q' h ⟨v,e,v2,e2,a',o,e3,g,kk,e4,q⟩=>⟨v,e,v2,e2,a',o,e3,g,kk,e4,h _ _ q⟩
 rintro σ H2 ⟨i,b,rfl,hi,hd,s2,f2,fb⟩
 have hd':Dist (λj=>jf (itP hs p j)) i:=λu v uv vi e=>hd u v uv vi (qx8 e)
 have fb':H2 b=some (.tup ((jf (itP hs p i)).map kV)):=fb
 by_cases hj:∃j,j<i∧itP hs p j=itP hs p i
 ·obtain ⟨j,ji,je⟩:=hj
  have hv:w9 (vb (λj=>jf (itP hs p j)) i) (jf (itP hs p i))=some (.int j):=by
   rw [←je]
   exact Qs hd' ji
  have dg:DGet H2 D (.ref b) (some (.int j)):=by
   have:=DGet.t f2 fb'
   rwa [hv] at this
  refine exI rfl (exI rfl ⟨D,exI rfl ⟨dg,_,rfl,?_⟩⟩)
  refine uc ?_
  refine exI rfl ⟨D,exI rfl ⟨f2,λl vs nl kat=>?_⟩⟩
  have s3:=Same.upd (o:=.lst vs) nl
  have dg3:DGet (upd H2 l (.lst vs)) D (.ref b) (some (.int j)):=by
   have:=DGet.t (s3 _ _ f2) (s3 _ _ fb')
   rwa [hv] at this
  refine exI rfl (exI rfl ⟨D,exI rfl ⟨dg3,sz2,λq nq=>?_⟩⟩)
  have s4:=s3.trans (Same.upd (o:=.tup [.ref l,.int j]) nq)
  have nl0:H l=none:=by
   cases e:H l with
   |none=>rfl
   |some o=>rw [s2 _ _ e] at nl;cases nl
  refine k i j q l _ hi hd ji je.symm (s2.trans s4) nl0 qb ⟨vs,Same.upd nq _ _ qb,?_⟩
  refine qk0 (l:=List.range i) (λj=>(jf (itP hs p j),V.int j)) (itP hs p) (λv j hv=>?_) kat
  obtain ⟨b',rfl,fb2⟩:=hv
  exact ⟨b',rfl,s4 _ _ fb2⟩
 ·have hn:∀j,j<i→itP hs p j≠itP hs p i:=λj a b=>hj ⟨j,a,b⟩
  have hv:w9 (vb (λj=>jf (itP hs p j)) i) (jf (itP hs p i))=none:=Qp λj a b=>hn j a (qx8 b)
  have dg:DGet H2 D (.ref b) none:=by
   have:=DGet.t f2 fb'
   rwa [hv] at this
  have hd1:=hd.succ hn
  refine exI rfl (exI rfl ⟨D,exI rfl ⟨dg,_,rfl,?_⟩⟩)
  refine k4 ?_
  refine exI rfl ⟨D,exI rfl ⟨f2,rfl,_,rfl,?_⟩⟩
  rw [vh]
  refine z5 (λq1=>?_) (λq1=>?_)
  ·have:i=1000:=by lia
   subst this
   exact ⟨sz1,x hd1 _ s2⟩
  ·refine exI rfl ⟨D,exI rfl ⟨f2,exI rfl (exI rfl ⟨D,exI rfl ⟨DPut.t f2 fb' (qju (by rw [vh];lia)),?_⟩⟩)⟩⟩
   rw [Zm _ hv,vh,←Qh (λj=>jf (itP hs p j)) i]
   have s3:Same H (upd H2 D (.dT (vb (λj=>jf (itP hs p j)) (i+1)))):=Same.upd2 s2 nD
   have db:b≠D:=λz=>by rw [z,f2] at fb;cases fb
   have fb3:upd H2 D (.dT (vb (λj=>jf (itP hs p j)) (i+1))) b=some (.tup [.int (itP hs p i).1,.int (itP hs p i).2]):=by rw [wx db];exact fb
   have f3:upd H2 D (.dT (vb (λj=>jf (itP hs p j)) (i+1))) D=some (.dT (vb (λj=>jf (itP hs p j)) (i+1))):=qb
   generalize upd H2 D (.dT (vb (λj=>jf (itP hs p j)) (i+1)))=H3 at s3 fb3 f3
   have Pn:=qud hok hP i
   refine ⟨_,rfl,r,dx,_,rfl,s3 _ _ h1,x6 (by decide +kernel),_,rfl,r,b,hs,(itP hs p i).1,(itP hs p i).2,rfl,hR.same s3,hok,SqT.of fb3,λ_=>⟨(sc8.of_le (by have:=Pn.2.1;have:=Pn.1;lia)),λ_ p4 H4 s4 f4=>?_,λz=>absurd Pn.2.2.2 z⟩,λz=>absurd Pn.1 (by lia)⟩
   refine ⟨⟨i+1,p4,rfl,by lia,hd1,s3.trans s4,s4 _ _ f3,f4⟩,?_⟩
   show (match H4 D with|some (.dT kvs)=>1001-kvs.length|_=>0)<(match H2 D with|some (.dT kvs)=>1001-kvs.length|_=>0)
   rw [s4 _ _ f3,f2]
   show 1001-(vb (λj=>jf (itP hs p j)) (i+1)).length<1001-(vb (λj=>jf (itP hs p j)) i).length
   rw [vh,vh]
   lia
def TrAt (H:Hp)(l:Aj)(hs:List Int)(p:Int×Int)(n u:Nat):Prop:=n≤1000∧Dist (itP hs p) n∧u<n∧itP hs p n=itP hs p u∧PtsAt H l (ptsL hs p n)
def qvb:Sp:=λvs H Q _=>∃(l:Aj) (hs:List Int) (p:Int×Int) (n u:Nat) (m:Int),vs=[.ref l,.int u,.int m]∧TrAt H l hs p n u∧0≤m∧∀a,H a=some (.tup [.int (itP hs p m.toNat).1,.int (itP hs p m.toNat).2])→Q (.ref a) H
theorem qvd {H:Hp}{hs:List Int}{p:Int×Int}{n i:Nat}{vs:List V}(h:Paired (PtR H) vs (ptsL hs p n))(hi:i<n):∃a,vs[i]?=some (.ref a)∧H a=some (.tup [.int (itP hs p i).1,.int (itP hs p i).2]):=by
 obtain ⟨v,ev,⟨a,rfl,fa⟩⟩:=qqf (i:=i) (b:=itP hs p i) h (by
  unfold ptsL
  rw [aM,cO hi]
  rfl)
 exact ⟨a,ev,fa⟩
theorem wxn {f:Aj}{fd:Ad}(F:Fun K "spot" "spot" s_spot f fd)(T:Txt K mg qg qh qz qt qm wq ww q8 wv q9 qd wj qk qu qx qw):FnOk P w K mg base (CXE P w) 1 f fd ["points","turn","many"] qvb:=by
 have sc:=wx3
 refine F.okX sc (λvs H Q E h=>by obtain ⟨l,hs,p,n,u,m,rfl,_⟩:=h;rfl) (λcdv A outer s H vs Q E hr h=>?_)
 obtain ⟨l,hs,p,n,u,m,rfl,⟨n1,hd,hu,e,vs,fl,pr⟩,m0,k⟩:=h
 have hlen:vs.length=n:=by rw [pr.length,qzd]
 refine ⟨_,(qy (xv (wf vn (pv 2) (pv 1) (wg _)) (qp (wm (zx zy (pv 0) (pv 2) (λ_ _=>rfl)))) wp)
   (qp (wm (zx zy (pv 0) (wy xz (pv 1) (wy zc (wy zv (pv 2) (pv 1)) (wy zv (wn w6 rfl T.len_ aE (qq (pv 0) qj)) (pv 1)))) (λ_ _=>rfl))))),?_⟩
 refine exI rfl (exI rfl (wc rfl rfl (exI rfl ?_)))
 refine zm (λq1=>?_) (λq1=>?_)
 ·obtain ⟨a,ea,fa⟩:=qvd (i:=m.toNat) pr (by lia)
  refine exI rfl (exI rfl (exX rfl rfl (SqL.of fl) ?_ (k a fa)))
  have:=W8 ea
  rwa [dF m0] at this
 ·have hm:(u:Int)≤m:=by lia
  have lt:=cI (m.toNat-u) (show 0<n-u by lia)
  obtain ⟨a,ea,fa⟩:=qvd (i:=u+(m.toNat-u)%(n-u)) pr (by lia)
  rw [←per it_st hu e m.toNat (by lia)] at fa
  refine exI rfl (exI rfl (exI rfl (exI rfl (wc rfl rfl (exI rfl ⟨_,_,rfl,.inl (SqL.of fl),exI rfl (wc rfl rfl (wc rfl rfl ⟨?_,wc rfl rfl (exX rfl rfl (SqL.of fl) ?_ (k a fa))⟩))⟩)))))
  ·rw [hlen]
   show (0:Int)<(n:Int)-u
   lia
  ·rw [hlen,qkd hm hu]
   exact W8 ea
def qz8 (K:Aa):Sp:=λvs H Q _=>∃(p:Aj) (hs:List Int) (t b:Int),vs=[.ref p,.int t,.int b]∧SqL K H p (hs.map V.int)∧wt hs∧1≤b∧Sm 4000 b∧xt hs t b∧Q (.int (vg hs t b)) H
theorem ww9 {f:Aj}{fd:Ad}(F:Fun K "_law_step" "_law_step" s__law_step f fd)(T:Txt K mg qg qh qz qt qm wq ww q8 wv q9 qd wj qk qu qx qw):FnOk P w K mg base (CXE P w) 1 f fd ["_law_heights_here","_law_top","_law_bottom"] (qz8 K):=by
 have sc:=qqh
 refine F.okX sc (λvs H Q E h=>by obtain ⟨p,hs,t,b,rfl,_⟩:=h;rfl) (λcdv A outer s H vs Q E hr h=>?_)
 obtain ⟨p,hs,t,b,rfl,hS,hok,hb,sb,hon,k⟩:=h
 rw [←wwz hok.1 hb hon.1 hon.2] at k
 have hl:=hok.2.1
 have k0:=eJ hon.1 (show (0:Int)≤b by lia)
 have k1:t/b≤(hs.length:Int)-1:=by
  have:=Int.ediv_le_ediv (show 0<b by lia) hon.2
  rwa [Int.mul_ediv_cancel _ (show b≠0 by lia)] at this
 have g1:=qks hok (t/b)
 have g2:=qks hok (t/b+1)
 refine ⟨_,(qy (wr (i:=3) sc.nd rfl (by walk_at "loc") (wy zd (pv 1) (pv 2)))
   (qy (xv (wf zn (wy xy (pv 3) (pv 2)) (pv 1) (wg _)) (qp (wm (wy xy (zx zy (pv 0) (pv 3) (λ_ _=>rfl)) (pv 2)))) wp)
   (qp (wm (wy xz (wy xy (zx zy (pv 0) (pv 3) (λ_ _=>rfl)) (pv 2)) (wy xy (wy zv (zx zy (pv 0) (wy xz (pv 3) qr) (λ_ _=>rfl)) (zx zy (pv 0) (pv 3) (λ_ _=>rfl))) (wy zv (pv 1) (wy xy (pv 3) (pv 2))))))))),?_⟩
 refine exI rfl (exI rfl (wc rfl rfl ⟨⟨by lia,sb.mono (by decide)⟩,exI rfl (exI rfl (wc rfl rfl ⟨IntMulOk.of_left (intBits_le_64 (by lia) (by lia)),exI rfl ⟨rfl,_,rfl,?_⟩⟩))⟩))
 refine z5 (λq1=>?_) (λq1=>?_)
 ·refine exI rfl (exI rfl (exX rfl rfl hS (at_h k0 (by lia)) (exI rfl (wc rfl rfl ⟨IntMulOk.of_left (intBits_le_64 (by lia) (by lia)),?_⟩))))
  rw [qk4,am q1] at k
  exact k
 ·have k2:t/b<(hs.length:Int)-1:=by
   rcases bW (t/b) ((hs.length:Int)-1) with z|z
   ·exact z
   ·have e:t/b=(hs.length:Int)-1:=by lia
    have h1:t/b*b≤t:=eK t (by lia)
    have h2:=hon.2
    rw [←e] at h2
    exact absurd (by lia) q1
  refine exI rfl (exI rfl (exX rfl rfl hS (at_h k0 (by lia)) (exI rfl (wc rfl rfl ⟨IntMulOk.of_left (intBits_le_64 (by lia) (by lia)),exI rfl (exI rfl (wc rfl rfl (exX rfl rfl hS (at_h (by lia) (by lia)) (exI rfl (exI rfl (exX rfl rfl hS (at_h k0 (by lia)) (wc rfl rfl (exI rfl (exI rfl (exI rfl (wc rfl rfl ⟨IntMulOk.of_left (intBits_le_64 (by lia) (by lia)),wc rfl rfl (wc rfl rfl ⟨IntMulOk.of_left (intBits_le_64 (by lia) (by lia)),wc rfl rfl ?_⟩)⟩)))))))))))⟩))))
  rw [qk4,aj q1] at k
  exact k
theorem Yu {H:Hp}{D:Aj}{kvs:List (Key×V)}{i:Int}{o:Option V}(f:H D=some (.dK kvs))(e:w9 kvs (.inl i)=o):DGet H D (.int i) o:=by
 have:=DGet.k (k:=.inl i) f
 rwa [e] at this
def Y0 (K:Aa):Sp:=λvs H Q _=>∃(p:Aj) (hs:List Int) (t b:Int),vs=[.ref p,.int t,.int b]∧SqL K H p (hs.map V.int)∧wt hs∧1≤b∧b≤10000∧xt hs t b ∧
 (∀n u q l H',Dist (trT hs t b) n→u<n→trT hs t b n=trT hs t b u→n≤300000→Same H H'→H l=none→H' q=some (.tup [.ref l,.int ((u:Nat):Int)])→H' l=some (.lst (((List.range n).map (trT hs t b)).map V.int))→Q (.ref q) H')
theorem J9 {n:Nat}(h:n≤1000000):n<sizeLine:=cU h (by decide)
theorem qjy {f:Aj}{fd:Ad}(F:Fun K "_law_trace" "_law_trace" s__law_trace f fd)(T:Txt K mg qg qh qz qt qm wq ww q8 wv q9 qd wj qk qu qx qw)(c__law_step:Cal P w K mg base "_law_step" 1 (qz8 K)):FnOk P w K mg base (CXE P w) 2 f fd ["_law_heights_here","_law_top","_law_bottom"] (Y0 K):=by
 have sc:=Jz
 refine F.okX sc (λvs H Q E h=>by obtain ⟨p,hs,t,b,rfl,_⟩:=h;rfl) (λcdv A outer s H vs Q E hr h=>?_)
 obtain ⟨p,hs,t,b,rfl,hS,hok,hb,hb2,hon,k⟩:=h
 have hl:=hok.2.1
 have sb:Sm 4000 b:=(Sm.small (n:=65) (by lia) (by lia) (by decide)).mono (by decide)
 have bnd:∀n,Dist (trT hs t b) n→n≤250000:=λn d=>by
  have h1:=pigI d λi=>uk hok hb hon i
  have h2:=Int.mul_le_mul (show (hs.length:Int)-1≤24 by lia) hb2 (by lia) (by decide)
  lia
 refine ⟨_,(qy (wr (i:=3) sc.nd rfl (by walk_at "loc") vz)
   (qy (wr (i:=4) sc.nd rfl (by walk_at "loc") (k6 qj))
   (qy (Qu bd (Z7 (yx (vd hr) (pv 1) (pv 3))) (qy (W0 (vd hr) (pv 3) (pv 1) (wn w6 rfl T.len_ aE (qq (pv 4) qj)) rfl)
   (qy (xj (qkf bB ca cb jw (pv 4) (qq (pv 1) qj)))
   (qp (wr (i:=1) sc.nd rfl (by walk_at "loc") (wb c__law_step (hr.mono (by decide)) rfl qc (qq (pv 0) (qq (pv 1) (qq (pv 2) qj)))))))))
   (qp (wm (zq (qq (pv 4) (qq (jz (vd hr) (pv 3) (pv 1) (λ_ _=>rfl)) qj)))))))),?_⟩
 refine λD nD=>⟨sz0,λl nl=>?_⟩
 have dDl:D≠l:=qf (show upd H D (.dK []) D=some (.dK []) from qb) nl
 have nl0:H l=none:=by
  cases e:H l with
  |none=>rfl
  |some o=>rw [Same.upd nD _ _ e] at nl;cases nl
 refine Yq (λσ H2=>∃(i:Nat),σ=[some (.ref p),some (.int (trT hs t b i)),some (.int b),some (.ref D),some (.ref l)]∧Dist (trT hs t b) i∧Same H H2∧H2 D=some (.dK (vb (λj=>Sum.inl (trT hs t b j)) i))∧H2 l=some (.lst (((List.range i).map (trT hs t b)).map V.int)))
  (λ_ H2=>match H2 D with|some (.dK kvs)=>250001-kvs.length|_=>0) ⟨0,rfl,λi j _ z=>absurd z (by lia),(Same.upd nD).trans (Same.upd nl),by rw [wx dDl,qb];rfl,qb⟩ ?_ λσ H Q Q' h ⟨v,e,v2,e2,a',o,e3,g,kk,e4,q⟩=>⟨v,e,v2,e2,a',o,e3,g,kk,e4,h _ _ q⟩
 rintro σ H2 ⟨i,rfl,hd,s2,f2,fl⟩
 have hd':Dist (λj=>(Sum.inl (trT hs t b j):Key)) i:=λu v uv vi e=>hd u v uv vi (Sum.inl.inj e)
 have hbi:=bnd i hd
 have hlen:(((List.range i).map (trT hs t b)).map V.int).length=i:=by rw [ae,ae,aG]
 by_cases hj:∃j,j<i∧trT hs t b j=trT hs t b i
 ·obtain ⟨j,ji,je⟩:=hj
  have hv:w9 (vb (λj=>(Sum.inl (trT hs t b j):Key)) i) (.inl (trT hs t b i))=some (.int j):=by
   rw [←je]
   exact Qs hd' ji
  refine exI rfl (exI rfl ⟨D,exI rfl ⟨Yu f2 hv,_,rfl,?_⟩⟩)
  refine uc ?_
  refine exI rfl (exI rfl (exI rfl ⟨D,exI rfl ⟨Yu f2 hv,sz2,λq nq=>?_⟩⟩))
  have s3:=Same.upd (o:=.tup [.ref l,.int j]) nq
  exact k i j q l _ hd ji je.symm (by lia) (s2.trans s3) nl0 qb (s3 _ _ fl)
 ·have hn:∀j,j<i→trT hs t b j≠trT hs t b i:=λj a b=>hj ⟨j,a,b⟩
  have hv:w9 (vb (λj=>(Sum.inl (trT hs t b j):Key)) i) (.inl (trT hs t b i))=none:=Qp λj a b=>hn j a (Sum.inl.inj b)
  have hd1:=hd.succ hn
  have hb1:=bnd (i+1) hd1
  refine exI rfl (exI rfl ⟨D,exI rfl ⟨Yu f2 hv,_,rfl,?_⟩⟩)
  refine k4 ?_
  refine exI rfl ⟨_,_,rfl,.inl (SqL.of fl),exI rfl (exI rfl ⟨D,exI rfl ⟨DPut.k (k:=.inl (trT hs t b i)) f2 (J9 (by rw [vh];lia)),?_⟩⟩)⟩
  rw [Zm _ hv,hlen,←Qh (λj=>(Sum.inl (trT hs t b j):Key)) i]
  have s3:Same H (upd H2 D (.dK (vb (λj=>(Sum.inl (trT hs t b j):Key)) (i+1)))):=Same.upd2 s2 nD
  have fl3:upd H2 D (.dK (vb (λj=>(Sum.inl (trT hs t b j):Key)) (i+1))) l=some (.lst (((List.range i).map (trT hs t b)).map V.int)):=by rw [wx dDl.symm];exact fl
  have f3:upd H2 D (.dK (vb (λj=>(Sum.inl (trT hs t b j):Key)) (i+1))) D=some (.dK (vb (λj=>(Sum.inl (trT hs t b j):Key)) (i+1))):=qb
  generalize upd H2 D (.dK (vb (λj=>(Sum.inl (trT hs t b j):Key)) (i+1)))=H3 at s3 fl3 f3
  refine exI rfl ⟨.inl ⟨rfl,_,SqL.of fl3⟩,exI rfl ⟨_,_,_,rfl,rfl,fl3,J9 (by rw [hlen];lia),?_⟩⟩
  have s4:Same H (upd H3 l (.lst (((List.range i).map (trT hs t b)).map V.int++[V.int (trT hs t b i)]))):=Same.upd2 s3 nl0
  refine exI rfl (exI rfl (exI rfl ⟨p,hs,trT hs t b i,b,rfl,s4.sql hS,hok,hb,sb,uk hok hb hon i,⟨i+1,rfl,hd1,s4,by rw [wx dDl];exact f3,?_⟩,?_⟩))
  ·rw [qb,bR,aR,aR]
   rfl
  ·show (match upd H3 l (.lst (((List.range i).map (trT hs t b)).map V.int++[V.int (trT hs t b i)])) D with|some (.dK kvs)=>250001-kvs.length|_=>0)<(match H2 D with|some (.dK kvs)=>250001-kvs.length|_=>0)
   rw [wx dDl,f3,f2]
   show 250001-(vb (λj=>(Sum.inl (trT hs t b j):Key)) (i+1)).length<250001-(vb (λj=>(Sum.inl (trT hs t b j):Key)) i).length
   rw [vh,vh]
   lia
def qw5 (K:Aa):Sp:=λvs H Q _=>∃(l:Aj) (g:Nat→Int) (n u:Nat) (m:Int),vs=[.ref l,.int u,.int m]∧H l=some (.lst (((List.range n).map g).map V.int))∧u<n∧g n=g u∧(∀i j,g i=g j→g (i+1)=g (j+1))∧0≤m∧Q (.int (g m.toNat)) H
theorem qk1 {g:Nat→Int}{n i:Nat}(h:i<n):atI (((List.range n).map g).map V.int) ((i:Nat):Int)=some (V.int (g i)):=by
 refine W8 ?_
 rw [aM,aM,cO h]
 rfl
theorem wwy {f:Aj}{fd:Ad}(F:Fun K "_law_after" "_law_after" s__law_after f fd)(T:Txt K mg qg qh qz qt qm wq ww q8 wv q9 qd wj qk qu qx qw):FnOk P w K mg base (CXE P w) 1 f fd ["_law_tops","_law_start","_law_many"] (qw5 K):=by
 have sc:=Jf
 refine F.okX sc (λvs H Q E h=>by obtain ⟨l,g,n,u,m,rfl,_⟩:=h;rfl) (λcdv A outer s H vs Q E hr h=>?_)
 obtain ⟨l,g,n,u,m,rfl,fl,hu,e,st,m0,k⟩:=h
 have hlen:(((List.range n).map g).map V.int).length=n:=by rw [ae,ae,aG]
 refine ⟨_,(qy (xv (wf vn (pv 2) (wn w6 rfl T.len_ aE (qq (pv 0) qj)) (wg _)) (qp (wm (zx zy (pv 0) (pv 2) (λ_ _=>rfl)))) wp)
   (qp (wm (zx zy (pv 0) (wy xz (pv 1) (wy zc (wy zv (pv 2) (pv 1)) (wy zv (wn w6 rfl T.len_ aE (qq (pv 0) qj)) (pv 1)))) (λ_ _=>rfl))))),?_⟩
 refine exI rfl (exI rfl ⟨_,_,rfl,.inl (SqL.of fl),wc rfl rfl (exI rfl ?_)⟩)
 rw [hlen]
 refine zm (λq1=>?_) (λq1=>?_)
 ·have ea:=qk1 (g:=g) (n:=n) (i:=m.toNat) (by lia)
  rw [dF m0] at ea
  exact exI rfl (exI rfl (exX rfl rfl (SqL.of fl) ea k))
 ·have hm:(u:Int)≤m:=by lia
  have lt:=cI (m.toNat-u) (show 0<n-u by lia)
  have ea:=qk1 (g:=g) (n:=n) (i:=u+(m.toNat-u)%(n-u)) (by lia)
  rw [←per st hu e m.toNat (by lia)] at ea
  refine exI rfl (exI rfl (exI rfl (exI rfl (wc rfl rfl (exI rfl ⟨_,_,rfl,.inl (SqL.of fl),exI rfl (wc rfl rfl (wc rfl rfl ⟨?_,wc rfl rfl (exX rfl rfl (SqL.of fl) ?_ k)⟩))⟩)))))
  ·rw [hlen]
   show (0:Int)<(n:Int)-u
   lia
  ·rw [hlen,qkd hm hu]
   exact ea
def qqt (K:Aa):Sp:=λvs H Q _=>∃(a:Aj) (ns:List Int) (i wd mo:Int),vs=[.ref a,.int i,.int wd,.int mo]∧SqL K H a (ns.map V.int)∧0≤i∧1≤wd∧wd≤24∧6≤mo∧mo≤1000 ∧
 ∀p t b c,H p=none→1≤b→b≤mo→1≤c→c≤3→0≤t→t≤wd*b→Q (.ref p) (upd H p (.tup [.int (t*c),.int (b*c)]))
theorem wqf {f:Aj}{fd:Ad}(F:Fun K "_law_spot" "_law_spot" s__law_spot f fd)(T:Txt K mg qg qh qz qt qm wq ww q8 wv q9 qd wj qk qu qx qw)(c__law_pick:Cal P w K mg base "_law_pick" 2 (uj K)):FnOk P w K mg base (CXE P w) 3 f fd ["_law_script","_law_at","_law_wide","_law_most"] (qqt K):=by
 have sc:=qwg
 refine F.okX sc (λvs H Q E h=>by obtain ⟨a,ns,i,wd,mo,rfl,_⟩:=h;rfl) (λcdv A outer s H vs Q E hr h=>?_)
 obtain ⟨a,ns,i,wd,mo,rfl,hS,i0,w1,w2,o1,o2,k⟩:=h
 refine ⟨_,(qy (wr (i:=4) sc.nd rfl (by walk_at "loc") (wy xz qr (wb c__law_pick (hr.mono (by decide)) rfl qc (qq (pv 0) (qq (pv 1) (qq qr (qq (pv 3) qj)))))))
   (qxq (xv (wf zn (wb c__law_pick (hr.mono (by decide)) rfl qc (qq (pv 0) (qq (pv 1) (qq qr (qq qr qj))))) qr (wg _)) (qp (wr (i:=4) sc.nd rfl (by walk_at "loc") (wy xz qr (wy zc (pv 4) qr)))) wp)
   (qy (wr (i:=5) sc.nd rfl (by walk_at "loc") (wy xz (wy xy (wb c__law_pick (hr.mono (by decide)) rfl qc (qq (pv 0) (qq (pv 1) (qq qr (qq (pv 2) qj))))) (pv 4)) (wb c__law_pick (hr.mono (by decide)) rfl qc (qq (pv 0) (qq (pv 1) (qq qr (qq (wy xz (pv 4) qr) qj)))))))
   (qy (wr (i:=6) sc.nd rfl (by walk_at "loc") (wy xz qr (wb c__law_pick (hr.mono (by decide)) rfl qc (qq (pv 0) (qq (pv 1) (qq qr (qq qr qj)))))))
   (qp (wm (zq (qq (wy xy (pv 5) (pv 6)) (qq (wy xy (pv 4) (pv 6)) qj))))))))),?_⟩
 refine exI rfl (exI rfl (exI rfl ⟨a,ns,_,_,_,rfl,hS,i0,(by lia),(by lia),(by lia),λr1 _ l1 u1=>?_⟩))
 refine ⟨_,_,rfl,rfl,λσ H'=>∃b,σ=[some (.ref a),some (.int i),some (.int wd),some (.int mo),some (.int b),none,none]∧1≤b∧b≤mo∧H'=H,?_,?_⟩
 ·refine exI rfl (exI rfl ⟨a,ns,_,_,_,rfl,hS,i0,(by lia),(by lia),(by lia),λr2 _ l2 u2=>?_⟩)
  refine ⟨rfl,_,rfl,z5 (λq1=>?_) (λq1=>?_)⟩
  ·have e1:=bf (1+r1) (show (6:Int)≠0 by decide)
   have e2:=aX (1+r1) (show (0:Int)<6 by decide)
   exact ⟨_,rfl,_,_,rfl,rfl,(by walk_at "pos"),_,_,rfl,rfl,_,rfl,by lia,by lia,rfl⟩
  ·exact ⟨_,rfl,by lia,by lia,rfl⟩
 ·rintro σ Hx ⟨b,rfl,b1,b2,rfl⟩
  refine exI rfl (exI rfl (exI rfl ⟨a,ns,_,_,_,rfl,hS,i0,(by lia),(by lia),(by lia),λr3 _ l3 u3=>?_⟩))
  refine exI rfl (wc rfl rfl ⟨(by walk_at "mul"),exI rfl (exI rfl (exI rfl (wc rfl rfl ⟨a,ns,_,_,_,rfl,hS,i0,(by lia),(by lia),(by lia),λr4 _ l4 u4=>?_⟩)))⟩)
  refine wc rfl rfl ?_
  refine exI rfl (exI rfl ⟨a,ns,_,_,_,rfl,hS,i0,(by lia),(by lia),(by lia),λr5 _ l5 u5=>?_⟩)
  refine wc rfl rfl ?_
  have h1:=aI (show r3≤wd-1 by lia) (show 0≤b by lia)
  have h2:(wd-1)*b=wd*b-b:=by rw [Int.sub_mul,Int.one_mul]
  have h3:=cZ l3 (show 0≤b by lia)
  refine exI rfl ⟨V.int (1+r5),rfl,wc rfl rfl ⟨(by walk_at "mul"),exI rfl ⟨V.int (1+r5),rfl,wc rfl rfl ⟨(by walk_at "mul"),sz2,λp np=>?_⟩⟩⟩⟩
  exact k p _ b (1+r5) np b1 b2 (by lia) (by lia) (by lia) (by lia)
end
section
variable {P:Ac}{w:Ah}{K:Aa}{mg:Str→Option Ag}{base:Heap}{qg:Aj}{qh:Aj}{qz:Aj}{qt:Aj}{qm:Aj}{wq:Aj}{ww:Aj}{q8:Aj}{wv:Aj}{q9:Aj}{qd:Aj}{wj:Aj}{qk:Aj}{qu:Aj}{qx:Aj}{qw:Aj}
def qjq (c:Nat):Bool:=!(Builtin.Str.occurrences (Str.ofString "abcdefghijklmnopqrstuvwxyz") ⟨#[c]⟩ 0 (Str.ofString "abcdefghijklmnopqrstuvwxyz").length 1).isEmpty
def vc (x:Str):Bool:=decide (1≤x.length∧x.length≤12)&&(List.range x.cps.size).all λi=>qjq (x.cps.getD i 0)
def Yh:Sp:=λvs H Q _=>∃x:Str,vs=[.str x]∧x.length≤1000∧∀H',Same H H'→Q (.bl (vc x)) H'
theorem qz0 {f:Aj}{fd:Ad}(F:Fun K "is_name" "is_name" s_is_name f fd)(T:Txt K mg qg qh qz qt qm wq ww q8 wv q9 qd wj qk qu qx qw):FnOk P w K mg base (CXE P w) 1 f fd ["name"] Yh:=by
 have sc:=qvm
 refine F.okX sc (λvs H Q E h=>by obtain ⟨x,rfl,_⟩:=h;rfl) (λcdv A outer s H vs Q E hr h=>?_)
 obtain ⟨x,rfl,hx,k⟩:=h
 obtain ⟨tn,g_LONGEST_NAME⟩:=T.g_LONGEST_NAME
 obtain ⟨tl,g_LETTERS⟩:=T.g_LETTERS
 have big:(1000000:Nat)<sizeLine:=by decide
 refine ⟨_,(qy (xv (PW.pt (js (wf vn (wn u6 rfl T.len_ aE (qq (pv 0) qj)) qr (wg _)) (v5 (wf j9 (wn u6 rfl T.len_ aE (qq (pv 0) qj)) (yu (v:=V.int 12) rfl g_LONGEST_NAME ⟨_,rfl⟩) (wg _))))) (qp (wm yp)) wp)
   (qp (wm (wn (Jy rfl) rfl T.all_ quz (qq (jg (M:=[]) rfl rfl (by walk_at "cap") (by walk_at "has") (by walk_at "cix") rfl (by decide +kernel) rfl (show List.Nodup (["sign"]:List Str) by decide +kernel) (pi_str (pv 0)) (λ_ _ _ _ _=>(jk qyy (pv 0) (yu (v:=V.str "abcdefghijklmnopqrstuvwxyz") rfl g_LETTERS ⟨_,rfl⟩) rfl))) qj))))),?_⟩
 refine ⟨_,rfl,x,rfl,by lia,_,_,rfl,rfl,_,rfl,?_⟩
 have no:∀z:¬ (1≤x.length∧x.length≤12),vc x=false:=λz=>by unfold vc;rw [bi z];rfl
 refine zm (λq1=>?_) (λq1=>?_)
 ·refine k4 ?_
  have:=k H (Same.refl _)
  rw [no (by lia)] at this
  exact this
 ·refine ⟨_,rfl,x,rfl,by lia,_,_,rfl,rfl,_,rfl,zm (λq2=>?_) (λq2=>?_)⟩
  ·have:=k H (Same.refl _)
   rw [no (by lia)] at this
   exact this
  ·refine exI rfl ⟨x,rfl,quc (λi=>.bl (qjq (x.cps.getD i 0))) (by show x.length≤1000000;lia) (λi H' R hi hs hR=>?_) λp np=>?_⟩
   ·exact exI rfl (wc rfl rfl hR)
   ·have e:vc x=((List.range x.cps.size).map λi=>qjq (x.cps.getD i 0)).all id:=by
     unfold vc
     rw [aZ (show 1≤x.length∧x.length≤12 by lia),List.all_map]
     rfl
    refine ⟨p,(List.range x.cps.size).map λi=>qjq (x.cps.getD i 0),rfl,?_,?_⟩
    ·rw [bY]
     exact SqL.new
    ·rw [←e]
     exact k _ (Same.upd np)
def yk (CN CT:Aj):Sp:=λvs H Q E=>∃(x:Str) (d:Aj) (kvs:List (Key×V)),vs=[.str x,.ref d]∧x.length≤1000∧H d=some (.dK kvs) ∧
 (vc x=true→w9 kvs (.inr x)=none→∀H',Same H H'→Q .non H')∧(vc x=false→∀H',Same H H'→E (.ref CN) none H')∧(vc x=true→(w9 kvs (.inr x)).isSome=true→∀H',Same H H'→E (.ref CT) none H')
theorem qx4 {f:Aj}{fd:Ad}(F:Fun K "check_new_name" "check_new_name" s_check_new_name f fd)(T:Txt K mg qg qh qz qt qm wq ww q8 wv q9 qd wj qk qu qx qw)(c_is_name:Cal P w K mg base "is_name" 1 Yh):FnOk P w K mg base (CXE P w) 2 f fd ["name","things"] (yk q8 wv):=by
 have sc:=Qv
 refine F.okX sc (λvs H Q E h=>by obtain ⟨x,d,kvs,rfl,_⟩:=h;rfl) (λcdv A outer s H vs Q E hr h=>?_)
 obtain ⟨x,d,kvs,rfl,hx,hd,k,kn,kt⟩:=h
 refine ⟨_,(qy (xv (qq4 (Z6 (wb c_is_name (hr.mono (by decide)) rfl qc (qq (pv 0) qj)))) (qp (zw rfl T.x_BadName xn rfl T.g_BadName (qq xx qj))) wp)
   (qp (xv (Z7 (pc_din (vd hr) (pv 0) (pv 1))) (qp (zw rfl T.x_Taken xn rfl T.g_Taken (qq xx qj))) wp))),?_⟩
 refine exI rfl ⟨x,rfl,hx,λH1 s1=>(exI rfl ?_)⟩
 have dg:DGet H1 d (.str x) (w9 kvs (.inr x)):=DGet.k (k:=.inr x) (s1 _ _ hd)
 cases hn:vc x with
 |false=>exact k4 ⟨sz1,kn hn H1 s1⟩
 |true =>
  refine uc (exI rfl (exI rfl ⟨d,exI rfl ⟨dg,_,rfl,?_⟩⟩))
  cases hv:w9 kvs (.inr x) with
  |none=>exact uc (k hn hv H1 s1)
  |some v=>exact k4 ⟨sz1,kt hn (by rw [hv];rfl) H1 s1⟩
def qqs:Sp:=λvs H Q _=>∃(t c:Aj) (R cs:List (Key×V)),vs=[.ref t,.ref c]∧t≠c∧H t=some (.dK R)∧Rd H c (.dK cs)∧(cs.map (·.1)).Nodup∧R.length≤1000∧cs.length≤1000∧Y2 R cs ∧
 ∀q H',H q=none→H' q=some (.dK (bfK R cs))→H' t=some (.dK (exK R cs))→Rd H' c (.dK cs)→Kb [t,c] H H'→Q (.ref q) H'
theorem wwf {f:Aj}{fd:Ad}(F:Fun K "exchange" "exchange" s_exchange f fd)(T:Txt K mg qg qh qz qt qm wq ww q8 wv q9 qd wj qk qu qx qw):FnOk P w K mg base (CXE P w) 1 f fd ["things","changes"] qqs:=by
 have sc:=qzn
 refine F.okX sc (λvs H Q E h=>by obtain ⟨t,c,R,cs,rfl,_⟩:=h;rfl) (λcdv A outer s H vs Q E hr h=>?_)
 obtain ⟨t,c,R,cs,rfl,tc,ht,hc,nd,lR,lc,ok,k⟩:=h
 have big:(1000000:Nat)<sizeLine:=by decide
 refine ⟨_,(qy (qzb (i:=2) (M:=[0]) sc.nd rfl (by walk_at "loc") rfl rfl (by walk_at "cap") (by walk_at "has") (by walk_at "cix") rfl (by decide +kernel) rfl (show List.Nodup (["name","things"]:List Str) by decide +kernel) (pi_dk (pv 1)) (λ_ _ _ _ _=>(pv 0)) (λ_ _ _ _ _=>(qum (vd hr) (pv 1) (pv 0) ⟨rfl,rfl,rfl,rfl⟩)))
   (qy (Q0 bd rfl (pi_di (pv 1)) (v8 rfl (xu (xk (i:=3) sc.nd rfl (by walk_at "loc")) (xu (xk (i:=4) sc.nd rfl (by walk_at "loc")) vk))) (qp (xv (wf op_isN (pv 4) wq1 (wg _)) (qp (wwg (pv 0) (pv 3))) (qp (W0 (vd hr) (pv 0) (pv 3) (pv 4) rfl)))))
   (qp (wm (pv 2))))),?_⟩
 refine exI rfl ⟨c,cs,rfl,hc,λo H1 fz=>?_⟩
 have ht1:H1 t=some (.dK R):=by rw [fz.2 t tc];exact ht
 refine qu7 (λk=>(w9 R k).getD .non) (by lia) nd fz.1 (λk H' RR s' hR=>(exI rfl (exI rfl ⟨t,rfl,.inl ⟨R,.inl (s' _ _ ht1)⟩,exI rfl ⟨_,DGet.k (k:=k) (s' _ _ ht1),hR⟩⟩))) λq nq=>?_
 have nq0:H q=none:=by
  cases e:H q with
  |none=>rfl
  |some ob =>
   by_cases z:q=c
   ·rw [z,fz.1] at nq;cases nq
   ·rw [fz.2 q z,e] at nq;cases nq
 have s2:Same H1 (upd H1 q (.dK (bfK R cs))):=Same.upd nq
 have fq:upd H1 q (.dK (bfK R cs)) q=some (.dK (bfK R cs)):=qb
 have c2:upd H1 q (.dK (bfK R cs)) c=some (.frz o (.dK cs)):=s2 _ _ fz.1
 have t2:upd H1 q (.dK (bfK R cs)) t=some (.dK R):=s2 _ _ ht1
 have tq:t≠q:=qf ht1 nq
 have kb:Kb [t,c] H (upd H1 q (.dK (bfK R cs))):=λb ob nb e=>s2 _ _ (by rw [fz.2 b (λz=>nb (by simp [z]))];exact e)
 have sel:(cs.map λc=>(c.1,(w9 R c.1).getD .non))=bfK R cs:=rfl
 rw [sel]
 generalize upd H1 q (.dK (bfK R cs))=H2 at fq c2 t2 kb
 refine exI rfl ⟨c,cs,rfl,.inr ⟨o,c2⟩,λo' H3 fz3=>?_⟩
 have cq:q≠c:=λz=>by rw [z,c2] at fq;cases fq
 have t3:H3 t=some (.dK R):=by rw [fz3.2 t tc];exact t2
 have q3:H3 q=some (.dK (bfK R cs)):=by rw [fz3.2 q cq];exact fq
 have kb3:Kb [t,c] H H3:=λb ob nb e=>by rw [fz3.2 b (λz=>nb (by simp [z]))];exact kb b ob nb e
 refine for_di (λi σ H'=>(∃z3 z4,σ=[some (.ref t),some (.ref c),some (.ref q),z3,z4])∧H' c=some (.frz o' (.dK cs))∧H' q=some (.dK (bfK R cs))∧H' t=some (.dK (exK R (cs.take i)))∧Kb [t,c] H H') ⟨⟨_,_,rfl⟩,fz3.1,q3,t3,kb3⟩ (λi σ H' hi h=>h.2.1) ?_ ?_
 ·rintro i cc z σ H' ec nz ⟨⟨z3,z4,rfl⟩,a1,a2,a3,a4⟩
  have s4:Same H' (upd H' z (.tup [kV cc.1,cc.2])):=Same.upd nz
  refine ⟨z,exI rfl ⟨SqT.new,rfl,_,_,rfl,_,_,rfl,rfl,?_⟩⟩
  have b1:=s4 _ _ a1
  have b2:=s4 _ _ a2
  have b3:=s4 _ _ a3
  have b4:Kb [t,c] H (upd H' z (.tup [kV cc.1,cc.2])):=λb ob nb e=>s4 _ _ (a4 b ob nb e)
  generalize upd H' z (.tup [kV cc.1,cc.2])=H4 at b1 b2 b3 b4
  have le:=ww8 R (cs.take i)
  have lt:(cs.take i).length≤1000:=by rw [ck];lia
  have et:=wxj R ec
  have tq':t≠q:=tq
  have step:∀R',ex1 (exK R (cs.take i)) cc=R'→(∃z3' z4',[some (V.ref t),some (V.ref c),some (V.ref q),some (kV cc.1),some cc.2]=[some (V.ref t),some (V.ref c),some (V.ref q),z3',z4'])∧upd H4 t (.dK R') c=some (.frz o' (.dK cs))∧upd H4 t (.dK R') q=some (.dK (bfK R cs))∧upd H4 t (.dK R') t=some (.dK (exK R (cs.take (i+1))))∧Kb [t,c] H (upd H4 t (.dK R')):=λR' e=>by
   refine ⟨⟨_,_,rfl⟩,?_,?_,?_,λb ob nb e'=>?_⟩
   ·rw [wx (aT tc)];exact b1
   ·rw [wx (aT tq')];exact b2
   ·rw [qb,et,e]
   ·rw [wx (λz=>nb (by simp [z]))];exact b4 b ob nb e'
  refine exI rfl ⟨rfl,_,rfl,zm (λhn=>?_) (λhn=>?_)⟩
  ·exact exI rfl (exI rfl ⟨t,_,cc.1,rfl,b3,rfl,ok i cc ec hn,step _ (by unfold ex1;rw [am hn])⟩)
  ·exact exI rfl (exI rfl (exI rfl ⟨t,exI rfl ⟨DPut.k (k:=cc.1) b3 (by lia),step _ (by unfold ex1;rw [aj hn])⟩⟩))
 ·rintro σ H' ⟨⟨z3,z4,rfl⟩,a1,a2,a3,a4⟩
  rw [ei] at a3
  exact exI rfl (k q H' nq0 a2 a3 (.inr ⟨o',a1⟩) a4)
end
section
variable {P:Ac}{w:Ah}{K:Aa}{mg:Str→Option Ag}{base:Heap}{qg:Aj}{qh:Aj}{qz:Aj}{qt:Aj}{qm:Aj}{wq:Aj}{ww:Aj}{q8:Aj}{wv:Aj}{q9:Aj}{qd:Aj}{wj:Aj}{qk:Aj}{qu:Aj}{qx:Aj}{qw:Aj}
def hF (dr dw dd:Aj):List (Str×V):=[("roads",.ref dr),("walkers",.ref dw),("done",.ref dd)]
theorem zp {dr dw dd:Aj}:(hF dr dw dd).lookup ("roads" : Str)=some (.ref dr):=by unfold hF;rw [aA];simp
theorem x8 {dr dw dd:Aj}:(hF dr dw dd).lookup ("walkers" : Str)=some (.ref dw):=by
 unfold hF
 rw [aA,show (("walkers" : Str)==("roads" : Str))=false by decide +kernel]
 dsimp only
 rw [aA]
 simp
theorem yz {dr dw dd:Aj}:(hF dr dw dd).lookup ("done" : Str)=some (.ref dd):=by
 unfold hF
 rw [aA,show (("done" : Str)==("roads" : Str))=false by decide +kernel]
 dsimp only
 rw [aA,show (("done" : Str)==("walkers" : Str))=false by decide +kernel]
 dsimp only
 rw [aA]
 simp
theorem w4 {dr dw dd:Aj}{m:Str}(h1:¬ m = "roads")(h2:¬ m = "walkers")(h3:¬ m = "done"):(hF dr dw dd).lookup m=none:=by
 unfold hF
 rw [aA,aH.mpr h1]
 dsimp only
 rw [aA,aH.mpr h2]
 dsimp only
 rw [aA,aH.mpr h3]
 rfl
structure Hse (C:Aj)(H:Hp)(x dr dw dd:Aj)(R W:List (Key×V))(D:List V):Prop where
 ob:∃dx,H x=some (.ins C dx (hF dr dw dd))
 r:H dr=some (.dK R)
 w:H dw=some (.dK W)
 d:H dd=some (.lst D)
 ne:dr≠dw
theorem Hse.kb {C:Aj}{H H':Hp}{x dr dw dd:Aj}{R W:List (Key×V)}{D:List V}(h:Hse C H x dr dw dd R W D){ch:List Aj}(k:Kb ch H H')(n:x∉ch∧dr∉ch∧dw∉ch∧dd∉ch):Hse C H' x dr dw dd R W D:=by
 obtain ⟨dx,e⟩:=h.ob
 exact ⟨⟨dx,k _ _ n.1 e⟩,k _ _ n.2.1 h.r,k _ _ n.2.2.1 h.w,k _ _ n.2.2.2 h.d,h.ne⟩
theorem Hse.same {C:Aj}{H H':Hp}{x dr dw dd:Aj}{R W:List (Key×V)}{D:List V}(h:Hse C H x dr dw dd R W D)(s:Same H H'):Hse C H' x dr dw dd R W D:=h.kb (ch:=[]) (Kb.of s) ⟨av,av,av,av⟩
def qwq (C:Aj):Sp:=λvs H Q _=>∃x dx,vs=[.ref x]∧H x=some (.ins C dx [])∧∀H' dr dw dd,H dr=none→H dw=none→H dd=none→Hse C H' x dr dw dd [] [] []→Kb [x] H H'→Q .non H'
theorem qu2 {f:Aj}{fd:Ad}(F:Fun K "__init__" "House.__init__" s_House___init__ f fd)(T:Txt K mg qg qh qz qt qm wq ww q8 wv q9 qd wj qk qu qx qw):FnOk P w K mg base (CXE P w) 1 f fd ["self"] (qwq qw):=by
 have sc:=Qb
 refine F.okX sc (λvs H Q E h=>by obtain ⟨x,dx,rfl,_⟩:=h;rfl) (λcdv A outer s H vs Q E hr h=>?_)
 obtain ⟨x,dx,rfl,hx,k⟩:=h
 refine ⟨_,(qy (yt (pv 0) vz rfl)
   (qy (yt (pv 0) vz rfl)
   (qp (yt (pv 0) (k6 qj) rfl)))),?_⟩
 refine λdr n1=>exI rfl ⟨x,qw,dx,[],rfl,(by rw [wx (qf hx n1)];exact hx),T.clH,T.naHr,(by show 0<1000;decide),?_⟩
 have e1:∀b o,b≠x→H b=some o→upd (upd H dr (.dK [])) x (.ins qw dx (zg "roads" (.ref dr) [])) b=some o:=λb o nb e=>by rw [wx nb,wx (qf e n1)];exact e
 have x1:upd (upd H dr (.dK [])) x (.ins qw dx (zg "roads" (.ref dr) [])) x=some (.ins qw dx (zg "roads" (.ref dr) [])):=qb
 have r1:upd (upd H dr (.dK [])) x (.ins qw dx (zg "roads" (.ref dr) [])) dr=some (.dK []):=by rw [wx (qf hx n1).symm,qb]
 generalize upd (upd H dr (.dK [])) x (.ins qw dx (zg "roads" (.ref dr) []))=H1 at e1 x1 r1
 refine λdw n2=>exI rfl ⟨x,qw,dx,exI rfl ⟨(by rw [wx (qf x1 n2)];exact x1),T.clH,T.naHw,(by show 1<1000;decide),?_⟩⟩
 have xr:x≠dr:=qf hx n1
 have e2:∀b o,b≠x→H1 b=some o→upd (upd H1 dw (.dK [])) x (.ins qw dx (zg "walkers" (.ref dw) (zg "roads" (.ref dr) []))) b=some o:=λb o nb e=>by rw [wx nb,wx (qf e n2)];exact e
 have x2:upd (upd H1 dw (.dK [])) x (.ins qw dx (zg "walkers" (.ref dw) (zg "roads" (.ref dr) []))) x=some (.ins qw dx (zg "walkers" (.ref dw) (zg "roads" (.ref dr) []))):=qb
 have w2:upd (upd H1 dw (.dK [])) x (.ins qw dx (zg "walkers" (.ref dw) (zg "roads" (.ref dr) []))) dw=some (.dK []):=by rw [wx (qf x1 n2).symm,qb]
 have r2:=e2 dr _ xr.symm r1
 generalize upd (upd H1 dw (.dK [])) x (.ins qw dx (zg "walkers" (.ref dw) (zg "roads" (.ref dr) [])))=H2 at e2 x2 w2 r2
 have xw:x≠dw:=qf x1 n2
 refine ⟨sz0,λdd n3=>(exI rfl ⟨x,qw,dx,exI rfl ⟨(by rw [wx (qf x2 n3)];exact x2),T.clH,T.naHd,(by show 2<1000;decide),?_⟩⟩)⟩
 have xd:x≠dd:=qf x2 n3
 have e3:∀b o,b≠x→H2 b=some o→upd (upd H2 dd (.lst [])) x (.ins qw dx (zg "done" (.ref dd) (zg "walkers" (.ref dw) (zg "roads" (.ref dr) [])))) b=some o:=λb o nb e=>by rw [wx nb,wx (qf e n3)];exact e
 have old:∀b o,b≠x→H b=some o→H2 b=some o:=λb o nb e=>e2 b o nb (e1 b o nb e)
 have non:∀b,b≠x→H2 b=none→H b=none:=λb nb e=>by
  cases q:H b with
  |none=>rfl
  |some o=>rw [old b o nb q] at e;cases e
 refine k _ dr dw dd n1 (by
  cases q:H dw with
  |none=>rfl
  |some o=>rw [e1 dw o xw.symm q] at n2;cases n2) (non dd xd.symm n3) ⟨⟨dx,qb⟩,e3 _ _ xr.symm r2,e3 _ _ xw.symm w2,?_,qf r1 n2⟩ λb o nb e=>e3 b o (λz=>nb (by simp [z])) (old b o (λz=>nb (by simp [z])) e)
 rw [wx xd.symm,qb]
def zb (C CN:Aj)(roads:Bool):Sp:=λvs H Q E=>∃(x dr dw dd:Aj) (R W:List (Key×V)) (D:List V) (n:Str),vs=[.ref x,.str n]∧Hse C H x dr dw dd R W D ∧
 (∀v,w9 (if roads then R else W) (.inr n)=some v→Q v H)∧(w9 (if roads then R else W) (.inr n)=none→E (.ref CN) none H)
theorem Yd {f:Aj}{fd:Ad}(F:Fun K "road_called" "House.road_called" s_House_road_called f fd)(T:Txt K mg qg qh qz qt qm wq ww q8 wv q9 qd wj qk qu qx qw):FnOk P w K mg base (CXE P w) 1 f fd ["self","name"] (zb qw q9 true):=by
 have sc:=j3
 refine F.okX sc (λvs H Q E h=>by obtain ⟨x,dr,dw,dd,R,W,D,n,rfl,_⟩:=h;rfl) (λcdv A outer s H vs Q E hr h=>?_)
 obtain ⟨x,dr,dw,dd,R,W,D,n,rfl,hh,k,kx⟩:=h
 obtain ⟨dx,hx⟩:=hh.ob
 have dg:DGet H dr (.str n) (w9 R (.inr n)):=DGet.k (k:=.inr n) hh.r
 refine ⟨_,(qy (xv (Z7 (yx (vd hr) (pv 1) (xm (pv 0) rfl))) (qp (zw rfl T.x_NoRoad xn rfl T.g_NoRoad (qq xx qj))) wp)
   (qp (wm (jz (vd hr) (xm (pv 0) rfl) (pv 1) (λ_ _=>rfl))))),?_⟩
 refine exI rfl (exI rfl ⟨x,qw,dx,_,_,rfl,hx,T.clH,T.naHr,zp,dr,exI rfl ⟨dg,_,rfl,?_⟩⟩)
 cases e:w9 R (.inr n) with
 |none=>exact k4 ⟨sz1,kx e⟩
 |some v =>
  rw [e] at dg
  exact uc (exI rfl ⟨x,qw,dx,_,_,rfl,hx,T.clH,T.naHr,zp,exI rfl ⟨dr,v,rfl,dg,k v e⟩⟩)
theorem Q1 {f:Aj}{fd:Ad}(F:Fun K "walker_called" "House.walker_called" s_House_walker_called f fd)(T:Txt K mg qg qh qz qt qm wq ww q8 wv q9 qd wj qk qu qx qw):FnOk P w K mg base (CXE P w) 1 f fd ["self","name"] (zb qw qd false):=by
 have sc:=jh
 refine F.okX sc (λvs H Q E h=>by obtain ⟨x,dr,dw,dd,R,W,D,n,rfl,_⟩:=h;rfl) (λcdv A outer s H vs Q E hr h=>?_)
 obtain ⟨x,dr,dw,dd,R,W,D,n,rfl,hh,k,kx⟩:=h
 obtain ⟨dx,hx⟩:=hh.ob
 have dg:DGet H dw (.str n) (w9 W (.inr n)):=DGet.k (k:=.inr n) hh.w
 refine ⟨_,(qy (xv (Z7 (yx (vd hr) (pv 1) (xm (pv 0) rfl))) (qp (zw rfl T.x_NoWalker xn rfl T.g_NoWalker (qq xx qj))) wp)
   (qp (wm (jz (vd hr) (xm (pv 0) rfl) (pv 1) (λ_ _=>rfl))))),?_⟩
 refine exI rfl (exI rfl ⟨x,qw,dx,_,_,rfl,hx,T.clH,T.naHw,x8,dw,exI rfl ⟨dg,_,rfl,?_⟩⟩)
 cases e:w9 W (.inr n) with
 |none=>exact k4 ⟨sz1,kx e⟩
 |some v =>
  rw [e] at dg
  exact uc (exI rfl ⟨x,qw,dx,_,_,rfl,hx,T.clH,T.naHw,x8,exI rfl ⟨dw,v,rfl,dg,k v e⟩⟩)
def Wr (C:Aj):Sp:=λvs H Q _=>∃(x dr dw dd:Aj) (R W:List (Key×V)) (D:List V),vs=[.ref x]∧Hse C H x dr dw dd R W D∧Q (.int D.length) H
theorem wwk {f:Aj}{fd:Ad}(F:Fun K "deeds" "House.deeds" s_House_deeds f fd)(T:Txt K mg qg qh qz qt qm wq ww q8 wv q9 qd wj qk qu qx qw):FnOk P w K mg base (CXE P w) 1 f fd ["self"] (Wr qw):=by
 have sc:=Zz
 refine F.okX sc (λvs H Q E h=>by obtain ⟨x,dr,dw,dd,R,W,D,rfl,_⟩:=h;rfl) (λcdv A outer s H vs Q E hr h=>?_)
 obtain ⟨x,dr,dw,dd,R,W,D,rfl,hh,k⟩:=h
 obtain ⟨dx,hx⟩:=hh.ob
 refine ⟨_,(qp (wm (wn w6 rfl T.len_ aE (qq (xm (pv 0) rfl) qj)))),?_⟩
 exact exI rfl ⟨x,qw,dx,_,_,rfl,hx,T.clH,T.naHd,yz,dd,exI rfl ⟨.inl (SqL.of hh.d),k⟩⟩
def Y4 (C:Aj):Sp:=λvs H Q _=>∃(x dr dw dd c1 c2:Aj) (R W cs1 cs2:List (Key×V)) (D:List V),vs=[.ref x,.ref c1,.ref c2]∧Hse C H x dr dw dd R W D∧Rd H c1 (.dK cs1)∧Rd H c2 (.dK cs2)∧c1≠c2∧c1≠dr∧c1≠dw∧c2≠dr∧c2≠dw ∧
 (cs1.map (·.1)).Nodup∧(cs2.map (·.1)).Nodup∧R.length≤1000∧W.length≤1000∧cs1.length≤1000∧cs2.length≤1000∧D.length≤1000000∧Y2 R cs1∧Y2 W cs2 ∧
 ∀H' tp q1 q2,H tp=none→H q1=none→H q2=none→Hse C H' x dr dw dd (exK R cs1) (exK W cs2) (D++[.ref tp])→H' tp=some (.tup [.ref q1,.ref q2])→H' q1=some (.dK (bfK R cs1))→H' q2=some (.dK (bfK W cs2))→q1≠q2→Kb [dr,dw,dd,c1,c2] H H'→Q .non H'
theorem ok_do {f:Aj}{fd:Ad}(F:Fun K "do" "House.do" s_House_do f fd)(T:Txt K mg qg qh qz qt qm wq ww q8 wv q9 qd wj qk qu qx qw)(c_exchange:Cal P w K mg base "exchange" 1 qqs):FnOk P w K mg base (CXE P w) 2 f fd ["self","roads","walkers"] (Y4 qw):=by
 have sc:=qzj
 refine F.okX sc (λvs H Q E h=>by obtain ⟨x,dr,dw,dd,c1,c2,R,W,cs1,cs2,D,rfl,_⟩:=h;rfl) (λcdv A outer s H vs Q E hr h=>?_)
 obtain ⟨x,dr,dw,dd,c1,c2,R,W,cs1,cs2,D,rfl,hh,h1,h2,n12,n1r,n1w,n2r,n2w,nd1,nd2,lR,lW,l1,l2,lD,ok1,ok2,k⟩:=h
 obtain ⟨dx,hx⟩:=hh.ob
 have big:(1000000:Nat)<sizeLine:=by decide
 have isI:∀ {b o},Rd H b (.dK o)→x≠b:=λ{b o} hb z=>by
  rcases hb with hb|⟨u,hb⟩ <;> (rw [←z,hx] at hb;cases hb)
 have isD:∀ {b o},Rd H b (.dK o)→dd≠b:=λ{b o} hb z=>by
  rcases hb with hb|⟨u,hb⟩ <;> (rw [←z,hh.d] at hb;cases hb)
 have xr:=isI (.inl hh.r)
 have xw:=isI (.inl hh.w)
 have x1:=isI h1
 have x2:=isI h2
 have dr':=isD (.inl hh.r)
 have dw':=isD (.inl hh.w)
 have d1:=isD h1
 have d2:=isD h2
 refine ⟨_,(qp (xj (qkf bB ca cb jw (xm (pv 0) rfl) (qq (zq (qq (wb c_exchange (hr.mono (by decide)) rfl qc (qq (xm (pv 0) rfl) (qq (pv 1) qj))) (qq (wb c_exchange (hr.mono (by decide)) rfl qc (qq (xm (pv 0) rfl) (qq (pv 2) qj))) qj))) qj)))),?_⟩
 refine exI rfl ⟨x,qw,dx,_,_,rfl,hx,T.clH,T.naHd,yz,.inl ⟨rfl,_,SqL.of hh.d⟩,?_⟩
 refine exI rfl ⟨x,qw,dx,_,_,rfl,hx,T.clH,T.naHr,zp,exI rfl ⟨dr,c1,R,cs1,rfl,aT n1r,hh.r,h1,nd1,lR,l1,ok1,λq1 H1 nq1 fq1 fr1 fc1 kb1=>?_⟩⟩
 have m1:∀b,b≠dr→b≠c1→b∉[dr,c1]:=λb a1 a2 z=>by
  rcases ai.mp z with z|z
  ·exact a1 z
  ·exact a2 (aC.mp z)
 have hx1:=kb1 _ _ (m1 x xr x1) hx
 have hw1:=kb1 _ _ (m1 dw (aT hh.ne) (aT n1w)) hh.w
 have hd1:=kb1 _ _ (m1 dd dr' d1) hh.d
 have hc2:=kb1.rd (m1 c2 n2r (aT n12)) h2
 refine exI rfl ⟨x,qw,dx,_,_,rfl,hx1,T.clH,T.naHw,x8,exI rfl ⟨dw,c2,W,cs2,rfl,aT n2w,hw1,hc2,nd2,lW,l2,ok2,λq2 H2 nq2 fq2 fw2 fc2 kb2=>?_⟩⟩
 have m2:∀b,b≠dw→b≠c2→b∉[dw,c2]:=λb a1 a2 z=>by
  rcases ai.mp z with z|z
  ·exact a1 z
  ·exact a2 (aC.mp z)
 have q1w:q1≠dw:=λz=>by rw [z,hh.w] at nq1;cases nq1
 have q1c:q1≠c2:=λz=>by rcases h2 with h2|⟨u,h2⟩ <;> (rw [z,h2] at nq1;cases nq1)
 have fq1':=kb2 _ _ (m2 q1 q1w q1c) fq1
 have q12:q1≠q2:=qf fq1 nq2
 have nq2':H q2=none:=by
  cases e:H q2 with
  |none=>rfl
  |some o =>
   by_cases z:q2=dr∨q2=c1
   ·rcases z with z|z
    ·rw [z,fr1] at nq2;cases nq2
    ·rcases fc1 with g|⟨u,g⟩ <;> (rw [z,g] at nq2;cases nq2)
   ·rw [kb1 _ _ (m1 q2 (λy=>z (.inl y)) (λy=>z (.inr y))) e] at nq2;cases nq2
 refine ⟨sz2,λtp ntp=>?_⟩
 have hx2:=kb2 _ _ (m2 x xw x2) hx1
 have hr2:=kb2 _ _ (m2 dr hh.ne (aT n2r)) fr1
 have hd2:=kb2 _ _ (m2 dd dw' d2) hd1
 have old:∀b o,b∉[dr,dw,dd,c1,c2]→H b=some o→H2 b=some o:=λb o nb e=>by
  simp only [ai,av,cu,not_or] at nb
  exact kb2 _ _ (m2 b nb.2.1 nb.2.2.2.2) (kb1 _ _ (m1 b nb.1 nb.2.2.2.1) e)
 have rd2:∀b,b=dr∨b=dw∨b=dd∨b=c1∨b=c2→H2 b≠none:=λb h z=>by
  rcases h with h|h|h|h|h
  ·rw [h,hr2] at z;cases z
  ·rw [h,fw2] at z;cases z
  ·rw [h,hd2] at z;cases z
  ·by_cases y:c1=dw
   ·exact n1w y
   ·rcases fc1 with g|⟨u,g⟩ <;> (rw [h,kb2 _ _ (m2 c1 n1w n12) g] at z;cases z)
  ·rcases fc2 with g|⟨u,g⟩ <;> (rw [h,g] at z;cases z)
 have ntp0:H tp=none:=by
  cases e:H tp with
  |none=>rfl
  |some o =>
   by_cases z:tp=dr∨tp=dw∨tp=dd∨tp=c1∨tp=c2
   ·exact absurd ntp (rd2 tp z)
   ·rw [old tp o (by simp only [ai,av,cu];exact z) e] at ntp;cases ntp
 have s3:Same H2 (upd H2 tp (.tup [.ref q1,.ref q2])):=Same.upd ntp
 have ft:upd H2 tp (.tup [.ref q1,.ref q2]) tp=some (.tup [.ref q1,.ref q2]):=qb
 generalize upd H2 tp (.tup [.ref q1,.ref q2])=H3 at s3 ft
 have hd3:=s3 _ _ hd2
 refine ⟨dd,D,_,rfl,rfl,hd3,by lia,?_⟩
 have ne3:∀b o,b≠dd→H3 b=some o→upd H3 dd (.lst (D++[.ref tp])) b=some o:=λb o nb e=>by rw [wx nb];exact e
 have kq:∀b kv,H3 b=some (.dK kv)→b≠dd:=λb kv e z=>by rw [z,hd3] at e;cases e
 refine k _ tp q1 q2 ntp0 nq1 nq2' ⟨⟨dx,ne3 _ _ (λz=>by rw [z] at hx;rw [hh.d] at hx;cases hx) (s3 _ _ hx2)⟩,ne3 _ _ (aT dr') (s3 _ _ hr2),ne3 _ _ (aT dw') (s3 _ _ fw2),qb,hh.ne⟩ (ne3 _ _ (λz=>by rw [z,hd3] at ft;cases ft) ft) (ne3 _ _ (kq _ _ (s3 _ _ fq1')) (s3 _ _ fq1')) (ne3 _ _ (kq _ _ (s3 _ _ fq2)) (s3 _ _ fq2)) q12 λb o nb e=>?_
 exact ne3 _ _ (λz=>nb (by simp [z])) (s3 _ _ (old b o nb e))
end
section
variable {P:Ac}{w:Ah}{K:Aa}{mg:Str→Option Ag}{base:Heap}{qg:Aj}{qh:Aj}{qz:Aj}{qt:Aj}{qm:Aj}{wq:Aj}{ww:Aj}{q8:Aj}{wv:Aj}{q9:Aj}{qd:Aj}{wj:Aj}{qk:Aj}{qu:Aj}{qx:Aj}{qw:Aj}
def Qk (D:List V):Prop:=∀v∈D,∃a,v=V.ref a
theorem RoadAt.kb {C CH:Aj}{H H':Hp}{r:Aj}{hs:List Int}(h:RoadAt C H r hs)(ok:wt hs){ch:List Aj}{D:List V}(k:Kb ch H H')(rf:Qk D)(hc:∀b∈ch,(∃kv,Rd H b (.dK kv))∨H b=some (.lst D)):RoadAt C H' r hs:=by
 obtain ⟨dx,q,h1,h2⟩:=h
 refine ⟨dx,q,k _ _ (λz=>?_) h1,k _ _ (λz=>?_) h2⟩
 ·rcases hc r z with ⟨kv,e|⟨o,e⟩⟩|e <;> (rw [h1] at e;cases e)
 ·rcases hc q z with ⟨kv,e|⟨o,e⟩⟩|e
  ·rw [h2] at e;cases e
  ·rw [h2] at e;cases e
  ·rw [h2] at e
   have e:hs.map V.int=D:=by cases e;rfl
   have l:=ok.1
   have m:V.int (hs[0]'(by lia))∈hs.map V.int:=aO.mpr ⟨_,cJ _,rfl⟩
   rw [e] at m
   obtain ⟨a,ea⟩:=rf _ m
   cases ea
theorem qus {H H3:Hp}{c1 c2:Aj}{o1 o2 o3:HO}(n1:H c1=none)(s3:Same (upd H c1 o1) H3)(n2:upd H3 c1 o2 c2=none):Same H (upd (upd H3 c1 o2) c2 o3):=λb o e=>by
 have b1:b≠c1:=qf e n1
 have e3:H3 b=some o:=s3 _ _ (by rw [wx b1];exact e)
 have e4:upd H3 c1 o2 b=some o:=by rw [wx b1];exact e3
 rw [wx (qf e4 n2)]
 exact e4
theorem Wm {C CR:Aj}{H H3:Hp}{x dr dw dd c1 r:Aj}{R W:List (Key×V)}{D:List V}{n:Str}{hs:List Int}{Q:VK}{E:XK}(hh:Hse C H x dr dw dd R W D)(n1:H c1=none)(s3:Same (upd H c1 (.dK [])) H3)(R3:RoadAt CR H3 r hs)(okl:wt hs)(rf:Qk D)(lR:R.length≤1000)(lW:W.length≤1000)(lD:D.length≤1000000)
  (k:∀H' tp q1 q2,H tp=none→H q1=none→H q2=none→Hse C H' x dr dw dd (zf R (.inr n) (.ref r)) W (D++[.ref tp])→H' tp=some (.tup [.ref q1,.ref q2])→H' q1=some (.dK [(.inr n,(w9 R (.inr n)).getD .non)])→H' q2=some (.dK [])→q1≠q2→RoadAt CR H' r hs→Kb [dr,dw,dd] H H'→Q .non H') :
  ∀c2,upd H3 c1 (.dK [(.inr n,.ref r)]) c2=none→Y4 C [.ref x,.ref c1,.ref c2] (upd (upd H3 c1 (.dK [(.inr n,.ref r)])) c2 (.dK [])) Q E:=by
 intro c2 n2
 have s4:Same H (upd (upd H3 c1 (.dK [(.inr n,.ref r)])) c2 (.dK [])):=qus n1 s3 n2
 have c12:c1≠c2:=λz=>by rw [←z,qb] at n2;cases n2
 have e1:upd (upd H3 c1 (.dK [(.inr n,.ref r)])) c2 (.dK []) c1=some (.dK [(.inr n,.ref r)]):=by rw [wx c12,qb]
 have e2:upd (upd H3 c1 (.dK [(.inr n,.ref r)])) c2 (.dK []) c2=some (.dK []):=qb
 have h31:H3 c1=some (.dK []):=s3 _ _ qb
 have R4:RoadAt CR (upd (upd H3 c1 (.dK [(.inr n,.ref r)])) c2 (.dK [])) r hs:=by
  obtain ⟨dx,q,a1,a2⟩:=R3
  have keep:∀b o,(∀kv,o≠HO.dK kv)→H3 b=some o→upd (upd H3 c1 (.dK [(.inr n,.ref r)])) c2 (.dK []) b=some o:=λb o no e=>by
   have b1:b≠c1:=λz=>by rw [z,h31] at e;cases e;exact no _ rfl
   have e4:upd H3 c1 (.dK [(.inr n,.ref r)]) b=some o:=by rw [wx b1];exact e
   rw [wx (qf e4 n2)]
   exact e4
  exact ⟨dx,q,keep _ _ (λkv z=>by cases z) a1,keep _ _ (λkv z=>by cases z) a2⟩
 have n20:H c2=none:=by
  cases q:H c2 with
  |none=>rfl
  |some o =>
   have b1:c2≠c1:=aT c12
   rw [wx b1,s3 _ _ (show upd H c1 (.dK []) c2=some o by rw [wx b1];exact q)] at n2
   cases n2
 generalize upd (upd H3 c1 (.dK [(.inr n,.ref r)])) c2 (.dK [])=H4 at s4 e1 e2 R4
 have hh4:=hh.same s4
 refine ⟨x,dr,dw,dd,c1,c2,R,W,[(.inr n,.ref r)],[],D,rfl,hh4,.inl e1,.inl e2,c12,(qf hh.r n1).symm,(qf hh.w n1).symm,(qf hh.r n20).symm,(qf hh.w n20).symm,aQ.mpr ⟨av,bb⟩,bb,lR,lW,by show 1≤1000;decide,az _,lD,λi c ec hc=>?_,(λi c ec hc=>nomatch ec),λH' tp q1 q2 a1 a2 a3 a4 a5 a6 a7 a8 a9=>?_⟩
 ·cases i with
  |zero=>cases ec;cases hc
  |succ i=>cases ec
 ·have no:∀b,H4 b=none→H b=none:=λb e=>xg s4 e
  have rd:RoadAt CR H' r hs:=R4.kb (CH:=C) okl a9 rf λb hb=>by
   simp only [ai,av,cu] at hb
   rcases hb with rfl|rfl|rfl|rfl|rfl
   ·exact .inl ⟨_,.inl hh4.r⟩
   ·exact .inl ⟨_,.inl hh4.w⟩
   ·exact .inr hh4.d
   ·exact .inl ⟨_,.inl e1⟩
   ·exact .inl ⟨_,.inl e2⟩
  refine k H' tp q1 q2 (no _ a1) (no _ a2) (no _ a3) a4 a5 a6 a7 a8 rd λb o nb e=>a9 b o (λz=>?_) (s4 _ _ e)
  simp only [ai,av,cu] at z nb
  rcases z with z|z|z|z|z
  ·exact nb (.inl z)
  ·exact nb (.inr (.inl z))
  ·exact nb (.inr (.inr z))
  ·rw [z,n1] at e;cases e
  ·rw [z,n20] at e;cases e
def RDeed (C CR:Aj)(H H':Hp)(x dr dw dd:Aj)(R W:List (Key×V))(D:List V)(n:Str)(hs:List Int):Prop:=∃r tp q1 q2,H tp=none∧H q1=none∧H q2=none∧Hse C H' x dr dw dd (zf R (.inr n) (.ref r)) W (D++[.ref tp])∧H' tp=some (.tup [.ref q1,.ref q2])∧H' q1=some (.dK [(.inr n,(w9 R (.inr n)).getD .non)])∧H' q2=some (.dK [])∧q1≠q2∧RoadAt CR H' r hs∧Kb [dr,dw,dd] H H'
theorem RDeed.pre {C CR:Aj}{H0 H H':Hp}{x dr dw dd:Aj}{R W:List (Key×V)}{D:List V}{n:Str}{hs:List Int}(h:RDeed C CR H H' x dr dw dd R W D n hs)(s:Same H0 H):RDeed C CR H0 H' x dr dw dd R W D n hs:=by
 obtain ⟨r,tp,q1,q2,a1,a2,a3,a4,a5,a6,a7,a8,a9,b1⟩:=h
 exact ⟨r,tp,q1,q2,xg s a1,xg s a2,xg s a3,a4,a5,a6,a7,a8,a9,λb o nb e=>b1 b o nb (s _ _ e)⟩
def qu0 (K:Aa)(C CR CN CT CL:Aj):Sp:=λvs H Q E=>∃(x dr dw dd p:Aj) (R W:List (Key×V)) (D:List V) (n:Str) (hs:List Int),vs=[.ref x,.str n,.ref p]∧Hse C H x dr dw dd R W D∧Qk D∧R.length≤1000∧W.length≤1000∧D.length≤1000000∧n.length≤1000∧H p=some (.lst (hs.map V.int)) ∧
 (vc n=true→w9 R (.inr n)=none→wt hs→∀H',RDeed C CR H H' x dr dw dd R W D n hs→Q .non H')∧(vc n=false→∀H',Same H H'→E (.ref CN) none H')∧(vc n=true→(w9 R (.inr n)).isSome=true→∀H',Same H H'→E (.ref CT) none H')∧(vc n=true→w9 R (.inr n)=none→¬ wt hs→∀H',Same H H'→E (.ref CL) none H')
theorem ok_lay {f:Aj}{fd:Ad}(F:Fun K "lay" "House.lay" s_House_lay f fd)(T:Txt K mg qg qh qz qt qm wq ww q8 wv q9 qd wj qk qu qx qw)(c_check_new_name:Cal P w K mg base "check_new_name" 2 (yk q8 wv))(c_Road:CCal P w K mg base "Road" qu 2 (y0 K qh qu))(c_do:MCal P w K mg base qw "do" 2 (Y4 qw)) :
  FnOk P w K mg base (CXE P w) 4 f fd ["self","name","heights"] (qu0 K qw qu q8 wv qh):=by
 have sc:=qw3
 refine F.okX sc (λvs H Q E h=>by obtain ⟨x,dr,dw,dd,p,R,W,D,n,hs,rfl,_⟩:=h;rfl) (λcdv A outer s H vs Q E hr h=>?_)
 obtain ⟨x,dr,dw,dd,p,R,W,D,n,hs,rfl,hh,rf,lR,lW,lD,ln,hp,k,kn,kt,kl⟩:=h
 obtain ⟨dx,hx⟩:=hh.ob
 refine ⟨_,(qy (xj (wb c_check_new_name (hr.mono (by decide)) rfl qc (qq (pv 1) (qq (xm (pv 0) rfl) qj))))
   (qp (xj (w8 (pv 0) T.clH c_do (hr.mono (by decide)) qc (qq (yy (jq (pv 1) (k8 c_Road (hr.mono (by decide)) rfl qc (qq (pv 2) qj)) yj) rfl rfl (λz=>nomatch z) (by decide)) (qq vz qj)))))),?_⟩
 refine ⟨_,rfl,_,rfl,x,qw,dx,_,_,rfl,hx,T.clH,T.naHr,zp,n,dr,R,rfl,ln,hh.r,λa1 a2 H1 s1=>?_,kn,kt⟩
 have hh1:=hh.same s1
 refine exI rfl ⟨x,dx,exI rfl ⟨s1 _ _ hx,w4 (by decide +kernel) (by decide +kernel) (by decide +kernel),λc1 n1=>(exI rfl (exI rfl (λr d0 nr nd0 ne0=>Wn (H:=upd H1 c1 (.dK [])) (hs:=hs) (by rw [wx (qf (s1 _ _ hp) n1)];exact s1 _ _ hp) nr nd0 (λokl H3 s3 R3=>?_) λz H3 s3=>kl a1 a2 z H3 (s1.trans (λb o e=>s3 _ _ (by rw [wx (qf e n1)];exact e))))))⟩⟩
 refine ⟨s3 _ _ qb,[(.inr n,.ref r)],rfl,(show 1≤15 by decide),?_⟩
 exact Wm (E:=E) hh1 n1 s3 R3 okl rf lR lW lD λH' tp q1 q2 b1 b2 b3 b4 b5 b6 b7 b8 b9 kb=>k a1 a2 okl H' (RDeed.pre ⟨r,tp,q1,q2,b1,b2,b3,b4,b5,b6,b7,b8,b9,kb⟩ s1)
def ku (C CR CN:Aj):Sp:=λvs H Q E=>∃(x dr dw dd:Aj) (R W:List (Key×V)) (D:List V) (n:Str),vs=[.ref x,.str n]∧Hse C H x dr dw dd R W D ∧
 (∀v,w9 R (.inr n)=some v→∃r hs,v=.ref r∧RoadAt CR H r hs∧∀p,H p=none→Q (.ref p) (upd H p (.lst (hs.map V.int))))∧(w9 R (.inr n)=none→E (.ref CN) none H)
theorem Jb {f:Aj}{fd:Ad}(F:Fun K "corners_of" "House.corners_of" s_House_corners_of f fd)(T:Txt K mg qg qh qz qt qm wq ww q8 wv q9 qd wj qk qu qx qw)(c_road_called:MCal P w K mg base qw "road_called" 1 (zb qw q9 true))(c_corners:MCal P w K mg base qu "corners" 1 (v3 qu)) :
  FnOk P w K mg base (CXE P w) 2 f fd ["self","name"] (ku qw qu q9):=by
 have sc:=yc
 refine F.okX sc (λvs H Q E h=>by obtain ⟨x,dr,dw,dd,R,W,D,n,rfl,_⟩:=h;rfl) (λcdv A outer s H vs Q E hr h=>?_)
 obtain ⟨x,dr,dw,dd,R,W,D,n,rfl,hh,k,kx⟩:=h
 obtain ⟨dx,hx⟩:=hh.ob
 refine ⟨_,(qp (wm (xp (w8 (pv 0) T.clH c_road_called (hr.mono (by decide)) qc (qq (pv 1) qj)) T.cl c_corners (hr.mono (by decide)) qc))),?_⟩
 refine ⟨_,rfl,x,dx,_,rfl,hx,w4 (by decide +kernel) (by decide +kernel) (by decide +kernel),_,rfl,x,dr,dw,dd,R,W,D,n,rfl,hh,λv e=>?_,kx⟩
 obtain ⟨r,hs,rfl,hR,q⟩:=k v e
 obtain ⟨dy,l,h1,h2⟩:=id hR
 exact ⟨r,dy,exI rfl ⟨h1,x6 (by decide +kernel),r,hs,rfl,hR,q⟩⟩
def Zf (C CN:Aj):Sp:=λvs H Q E=>∃(x dr dw dd:Aj) (R W:List (Key×V)) (D:List V),vs=[.ref x]∧Hse C H x dr dw dd R W D∧R.length≤1000∧W.length≤1000∧(D=[]→E (.ref CN) none H) ∧
 (∀D' v,D=D'++[v]→∃tp c1 c2 cs1 cs2,v=.ref tp∧H tp=some (.tup [.ref c1,.ref c2])∧Rd H c1 (.dK cs1)∧Rd H c2 (.dK cs2)∧c1≠c2∧c1≠dr∧c1≠dw∧c2≠dr∧c2≠dw∧(cs1.map (·.1)).Nodup∧(cs2.map (·.1)).Nodup∧cs1.length≤1000∧cs2.length≤1000∧Y2 R cs1∧Y2 W cs2 ∧
  ∀H',Hse C H' x dr dw dd (exK R cs1) (exK W cs2) D'→Rd H' c1 (.dK cs1)→Rd H' c2 (.dK cs2)→Kb [dr,dw,dd,c1,c2] H H'→Q .non H')
theorem ww3 {f:Aj}{fd:Ad}(F:Fun K "take_back" "House.take_back" s_House_take_back f fd)(T:Txt K mg qg qh qz qt qm wq ww q8 wv q9 qd wj qk qu qx qw)(c_exchange:Cal P w K mg base "exchange" 1 qqs):FnOk P w K mg base (CXE P w) 2 f fd ["self"] (Zf qw qk):=by
 have sc:=y9
 refine F.okX sc (λvs H Q E h=>by obtain ⟨x,dr,dw,dd,R,W,D,rfl,_⟩:=h;rfl) (λcdv A outer s H vs Q E hr h=>?_)
 obtain ⟨x,dr,dw,dd,R,W,D,rfl,hh,lR,lW,kx,k⟩:=h
 obtain ⟨dx,hx⟩:=hh.ob
 refine ⟨_,(qy (xv (wf zn (wn w6 rfl T.len_ aE (qq (xm (pv 0) rfl) qj)) qr (wg _)) (qp (zw rfl T.x_NothingDone xn rfl T.g_NothingDone (qq xx qj))) wp)
   (qy (jv (pe_bm0 bB PySem.F.slot_list_pop PySem.F.type_list_pop mt_pop (xm (pv 0) rfl)) (v8 rfl (xu (xk (i:=1) sc.nd rfl (by walk_at "loc")) (xu (xk (i:=2) sc.nd rfl (by walk_at "loc")) vk))))
   (qy (xj (wb c_exchange (hr.mono (by decide)) rfl qc (qq (xm (pv 0) rfl) (qq (pv 1) qj))))
   (qp (xj (wb c_exchange (hr.mono (by decide)) rfl qc (qq (xm (pv 0) rfl) (qq (pv 2) qj)))))))),?_⟩
 refine exI rfl ⟨x,qw,dx,_,_,rfl,hx,T.clH,T.naHd,yz,dd,exI rfl ⟨.inl (SqL.of hh.d),rfl,_,rfl,z5 (λz=>?_) (λz=>?_)⟩⟩
 ·exact ⟨sz1,kx (dA (by lia))⟩
 ·have ne:D≠[]:=λy=>z (by rw [y];rfl)
  have eD:D=D.dropLast++[D.getLast ne]:=(List.dropLast_concat_getLast ne).symm
  obtain ⟨tp,c1,c2,cs1,cs2,ev,ht,h1,h2,n12,n1r,n1w,n2r,n2w,nd1,nd2,l1,l2,ok1,ok2,k⟩:=k _ _ eD
  have eL:D[D.length-1]?=some (.ref tp):=by rw [←List.getLast?_eq_getElem?,List.getLast?_eq_getLast ne,ev]
  refine exI rfl ⟨x,qw,dx,_,_,rfl,hx,T.clH,T.naHd,yz,.inl ⟨rfl,_,SqL.of hh.d⟩,dd,D,exI rfl ⟨rfl,hh.d,eL,?_⟩⟩
  have k0:∀b o,b≠dd→H b=some o→upd H dd (.lst D.dropLast) b=some o:=λb o nb e=>by rw [wx nb];exact e
  have d0:upd H dd (.lst D.dropLast) dd=some (.lst D.dropLast):=qb
  have kd:∀b kv,Rd H b (.dK kv)→b≠dd:=λb kv hb y=>by rcases hb with hb|⟨o,hb⟩ <;> (rw [y,hh.d] at hb;cases hb)
  have kx':x≠dd:=λy=>by rw [y,hh.d] at hx;cases hx
  have kt:tp≠dd:=λy=>by rw [y,hh.d] at ht;cases ht
  have rd0:∀b kv,Rd H b (.dK kv)→Rd (upd H dd (.lst D.dropLast)) b (.dK kv):=λb kv hb=>by
   have nb:=kd b kv hb
   rcases hb with hb|⟨o,hb⟩
   ·exact .inl (k0 _ _ nb hb)
   ·exact .inr ⟨o,k0 _ _ nb hb⟩
  have r0:=k0 _ _ (kd _ _ (.inl hh.r)) hh.r
  have w0:=k0 _ _ (kd _ _ (.inl hh.w)) hh.w
  have x0:=k0 _ _ kx' hx
  have t0:=k0 _ _ kt ht
  have h10:=rd0 _ _ h1
  have h20:=rd0 _ _ h2
  have kb0:Kb [dd] H (upd H dd (.lst D.dropLast)):=λb o nb e=>k0 b o (λy=>nb (by simp [y])) e
  have dd1:=kd _ _ h1
  have dd2:=kd _ _ h2
  have ddr:=kd _ _ (.inl hh.r)
  have ddw:=kd _ _ (.inl hh.w)
  generalize upd H dd (.lst D.dropLast)=H0 at d0 r0 w0 x0 t0 h10 h20 kb0
  refine ⟨tp,exI rfl ⟨SqT.of t0,rfl,_,_,rfl,_,_,rfl,rfl,?_⟩⟩
  have isI:∀ {b o},Rd H0 b (.dK o)→x≠b:=λ{b o} hb y=>by rcases hb with hb|⟨u,hb⟩ <;> (rw [←y,x0] at hb;cases hb)
  have xr:=isI (.inl r0)
  have xw:=isI (.inl w0)
  have x1:=isI h10
  have x2:=isI h20
  have m1:∀b,b≠dr→b≠c1→b∉[dr,c1]:=λb a1 a2 y=>by
   rcases ai.mp y with y|y
   ·exact a1 y
   ·exact a2 (aC.mp y)
  have m2:∀b,b≠dw→b≠c2→b∉[dw,c2]:=λb a1 a2 y=>by
   rcases ai.mp y with y|y
   ·exact a1 y
   ·exact a2 (aC.mp y)
  refine exI rfl ⟨x,qw,dx,_,_,rfl,x0,T.clH,T.naHr,zp,exI rfl ⟨dr,c1,R,cs1,rfl,aT n1r,r0,h10,nd1,lR,l1,ok1,λq1 H1 nq1 fq1 fr1 fc1 kb1=>?_⟩⟩
  have hx1:=kb1 _ _ (m1 x xr x1) x0
  have hw1:=kb1 _ _ (m1 dw (aT hh.ne) (aT n1w)) w0
  have hd1:=kb1 _ _ (m1 dd (aT ddr) (aT dd1)) d0
  have hc2:=kb1.rd (m1 c2 n2r (aT n12)) h20
  refine exI rfl ⟨x,qw,dx,_,_,rfl,hx1,T.clH,T.naHw,x8,exI rfl ⟨dw,c2,W,cs2,rfl,aT n2w,hw1,hc2,nd2,lW,l2,ok2,λq2 H2 nq2 fq2 fw2 fc2 kb2=>?_⟩⟩
  refine k H2 ⟨⟨dx,kb2 _ _ (m2 x xw x2) hx1⟩,kb2 _ _ (m2 dr hh.ne (aT n2r)) fr1,fw2,kb2 _ _ (m2 dd (aT ddw) (aT dd2)) hd1,hh.ne⟩ (kb2.rd (m2 c1 n1w n12) fc1) fc2 λb o nb e=>?_
  simp only [ai,av,cu,not_or] at nb
  exact kb2 _ _ (m2 b nb.2.1 nb.2.2.2.2) (kb1 _ _ (m1 b nb.1 nb.2.2.2.1) (kb0 b o (by simpa using nb.2.2.1) e))
end
section
variable {P:Ac}{w:Ah}{K:Aa}{mg:Str→Option Ag}{base:Heap}{qg:Aj}{qh:Aj}{qz:Aj}{qt:Aj}{qm:Aj}{wq:Aj}{ww:Aj}{q8:Aj}{wv:Aj}{q9:Aj}{qd:Aj}{wj:Aj}{qk:Aj}{qu:Aj}{qx:Aj}{qw:Aj}
theorem qq8 (hs:List Int)(j:Nat)(h:Int):(hs.map V.int).set j (.int h)=(hs.set j h).map V.int:=by rw [List.map_set]
theorem ix_of {n:Nat}{c:Int}(h0:0≤c)(h1:c<n):ixN n c=some c.toNat:=by
 unfold ixN
 rw [am h0,am h1]
def qkb (C CR CN CL:Aj):Sp:=λvs H Q E=>∃(x dr dw dd:Aj) (R W:List (Key×V)) (D:List V) (n:Str) (c h:Int),vs=[.ref x,.str n,.int c,.int h]∧Hse C H x dr dw dd R W D∧Qk D∧R.length≤1000∧W.length≤1000∧D.length≤1000000∧(w9 R (.inr n)=none→E (.ref CN) none H) ∧
 (∀v,w9 R (.inr n)=some v→∃r hs,v=.ref r∧RoadAt CR H r hs∧wt hs∧(¬ (0≤c∧c<(hs.length:Int))→∀H',Same H H'→E (.ref CL) none H')∧(0≤c→c<(hs.length:Int)→(wt (hs.set c.toNat h)→∀H',RDeed C CR H H' x dr dw dd R W D n (hs.set c.toNat h)→Q .non H')∧(¬ wt (hs.set c.toNat h)→∀H',Same H H'→E (.ref CL) none H')))
theorem wx7 {f:Aj}{fd:Ad}(F:Fun K "bend" "House.bend" s_House_bend f fd)(T:Txt K mg qg qh qz qt qm wq ww q8 wv q9 qd wj qk qu qx qw)(c_road_called:MCal P w K mg base qw "road_called" 1 (zb qw q9 true))(c_corners:MCal P w K mg base qu "corners" 1 (v3 qu))(c_Road:CCal P w K mg base "Road" qu 2 (y0 K qh qu))(c_do:MCal P w K mg base qw "do" 2 (Y4 qw)) :
  FnOk P w K mg base (CXE P w) 4 f fd ["self","name","corner","height"] (qkb qw qu q9 qh):=by
 have sc:=Jd
 refine F.okX sc (λvs H Q E h=>by obtain ⟨x,dr,dw,dd,R,W,D,n,c,h,rfl,_⟩:=h;rfl) (λcdv A outer s H vs Q E hr h=>?_)
 obtain ⟨x,dr,dw,dd,R,W,D,n,c,h,rfl,hh,rf,lR,lW,lD,kx,k⟩:=h
 obtain ⟨dx,hx⟩:=hh.ob
 refine ⟨_,(qy (wr (i:=4) sc.nd rfl (by walk_at "loc") (xp (w8 (pv 0) T.clH c_road_called (hr.mono (by decide)) qc (qq (pv 1) qj)) T.cl c_corners (hr.mono (by decide)) qc))
   (qy (xv (PW.pt (js (wf vn (pv 2) qr (wg _)) (v5 (wf qk7 (pv 2) (wn w6 rfl T.len_ aE (qq (pv 4) qj)) (wg _))))) (qp (zw rfl T.x_BadLine xn rfl T.g_BadLine (qq xx qj))) wp)
   (qy (jv (pv 3) (pg_sub (pv 4) (pv 2) qy4))
   (qp (xj (w8 (pv 0) T.clH c_do (hr.mono (by decide)) qc (qq (yy (jq (pv 1) (k8 c_Road (hr.mono (by decide)) rfl qc (qq (pv 4) qj)) yj) rfl rfl (λz=>nomatch z) (by decide)) (qq vz qj)))))))),?_⟩
 refine ⟨_,rfl,x,dx,_,rfl,hx,w4 (by decide +kernel) (by decide +kernel) (by decide +kernel),_,rfl,x,dr,dw,dd,R,W,D,n,rfl,hh,λv e=>?_,kx⟩
 obtain ⟨r0,hs,rfl,hR,okl,kb,k⟩:=k v e
 obtain ⟨dy,l,h1,h2⟩:=id hR
 refine ⟨r0,dy,exI rfl ⟨h1,x6 (by decide +kernel),r0,hs,rfl,hR,λp np=>?_⟩⟩
 have s1:Same H (upd H p (.lst (hs.map V.int))):=Same.upd np
 have f1:upd H p (.lst (hs.map V.int)) p=some (.lst (hs.map V.int)):=qb
 have lm:(hs.map V.int).length=hs.length:=ae _
 refine exI rfl (wc rfl rfl (exI rfl (zm (λz=>k4 ⟨sz1,kb (by lia) _ s1⟩) (λz=>?_))))
 refine exI rfl (exI rfl ⟨_,_,rfl,.inl (SqL.of f1),wc rfl rfl (exI rfl ?_)⟩)
 rw [lm]
 refine zm (λy=>⟨sz1,kb (by lia) _ s1⟩) (λy=>?_)
 obtain ⟨kg,kl⟩:=k (by lia) (by lia)
 refine exI rfl (exI rfl (exI rfl ⟨p,_,c,c.toNat,rfl,rfl,f1,ix_of (by lia) (by rw [lm];lia),?_⟩))
 rw [qq8]
 have s2:Same H (upd (upd H p (.lst (hs.map V.int))) p (.lst ((hs.set c.toNat h).map V.int))):=by
  rw [jb]
  exact Same.upd np
 have f2:upd (upd H p (.lst (hs.map V.int))) p (.lst ((hs.set c.toNat h).map V.int)) p=some (.lst ((hs.set c.toNat h).map V.int)):=qb
 generalize upd (upd H p (.lst (hs.map V.int))) p (.lst ((hs.set c.toNat h).map V.int))=H2 at s2 f2
 refine exI rfl ⟨x,dx,exI rfl ⟨s2 _ _ hx,w4 (by decide +kernel) (by decide +kernel) (by decide +kernel),λc1 n1=>(exI rfl (exI rfl (λr d0 nr nd0 ne0=>Wn (H:=upd H2 c1 (.dK [])) (hs:=hs.set c.toNat h) (by rw [wx (qf f2 n1)];exact f2) nr nd0 (λokl' H3 s3 R3=>?_) λz H3 s3=>kl z H3 (s2.trans (λb o e=>s3 _ _ (by rw [wx (qf e n1)];exact e))))))⟩⟩
 refine ⟨s3 _ _ qb,[(.inr n,.ref r)],rfl,(show 1≤15 by decide),?_⟩
 exact Wm (E:=E) (hh.same s2) n1 s3 R3 okl' rf lR lW lD λH' tp q1 q2 b1 b2 b3 b4 b5 b6 b7 b8 b9 kb=>kg okl' H' (RDeed.pre ⟨r,tp,q1,q2,b1,b2,b3,b4,b5,b6,b7,b8,b9,kb⟩ s2)
def qw0 (C CR CN CL:Aj):Sp:=λvs H Q E=>∃(x dr dw dd:Aj) (R W:List (Key×V)) (D:List V) (n:Str) (h:Int),vs=[.ref x,.str n,.int h]∧Hse C H x dr dw dd R W D∧Qk D∧R.length≤1000∧W.length≤1000∧D.length≤1000000∧(w9 R (.inr n)=none→E (.ref CN) none H) ∧
 (∀v,w9 R (.inr n)=some v→∃r hs,v=.ref r∧RoadAt CR H r hs∧wt hs∧(wt (hs++[h])→∀H',RDeed C CR H H' x dr dw dd R W D n (hs++[h])→Q .non H')∧(¬ wt (hs++[h])→∀H',Same H H'→E (.ref CL) none H'))
theorem qun {f:Aj}{fd:Ad}(F:Fun K "widen" "House.widen" s_House_widen f fd)(T:Txt K mg qg qh qz qt qm wq ww q8 wv q9 qd wj qk qu qx qw)(c_road_called:MCal P w K mg base qw "road_called" 1 (zb qw q9 true))(c_corners:MCal P w K mg base qu "corners" 1 (v3 qu))(c_Road:CCal P w K mg base "Road" qu 2 (y0 K qh qu))(c_do:MCal P w K mg base qw "do" 2 (Y4 qw)) :
  FnOk P w K mg base (CXE P w) 4 f fd ["self","name","height"] (qw0 qw qu q9 qh):=by
 have sc:=Z5
 refine F.okX sc (λvs H Q E h=>by obtain ⟨x,dr,dw,dd,R,W,D,n,h,rfl,_⟩:=h;rfl) (λcdv A outer s H vs Q E hr h=>?_)
 obtain ⟨x,dr,dw,dd,R,W,D,n,h,rfl,hh,rf,lR,lW,lD,kx,k⟩:=h
 obtain ⟨dx,hx⟩:=hh.ob
 have big:(1000000:Nat)<sizeLine:=by decide
 refine ⟨_,(qy (wr (i:=3) sc.nd rfl (by walk_at "loc") (xp (w8 (pv 0) T.clH c_road_called (hr.mono (by decide)) qc (qq (pv 1) qj)) T.cl c_corners (hr.mono (by decide)) qc))
   (qp (xj (w8 (pv 0) T.clH c_do (hr.mono (by decide)) qc (qq (yy (jq (pv 1) (k8 c_Road (hr.mono (by decide)) rfl qc (qq (wy qwt (pv 3) (k6 (qq (pv 2) qj))) qj)) yj) rfl rfl (λz=>nomatch z) (by decide)) (qq vz qj)))))),?_⟩
 refine ⟨_,rfl,x,dx,_,rfl,hx,w4 (by decide +kernel) (by decide +kernel) (by decide +kernel),_,rfl,x,dr,dw,dd,R,W,D,n,rfl,hh,λv e=>?_,kx⟩
 obtain ⟨r0,hs,rfl,hR,okl,kg,kl⟩:=k v e
 obtain ⟨dy,l,h1,h2⟩:=id hR
 have ol:=okl.2.1
 refine ⟨r0,dy,exI rfl ⟨h1,x6 (by decide +kernel),r0,hs,rfl,hR,λp np=>?_⟩⟩
 have s1:Same H (upd H p (.lst (hs.map V.int))):=Same.upd np
 have f1:upd H p (.lst (hs.map V.int)) p=some (.lst (hs.map V.int)):=qb
 generalize upd H p (.lst (hs.map V.int))=H1 at s1 f1
 refine exI rfl ⟨x,dx,exI rfl ⟨s1 _ _ hx,w4 (by decide +kernel) (by decide +kernel) (by decide +kernel),λc1 n1=>(exI rfl (exI rfl (exI rfl ⟨sz1,λp2 n2=>?_⟩)))⟩⟩
 have sa:Same (upd H1 c1 (.dK [])) (upd (upd H1 c1 (.dK [])) p2 (.lst [.int h])):=Same.upd n2
 have fa:=sa _ _ (show upd H1 c1 (.dK []) p=some (.lst (hs.map V.int)) by rw [wx (qf f1 n1)];exact f1)
 refine ⟨p,p2,_,_,rfl,rfl,fa,qb,by rw [ae];show hs.length+1≤_;lia,λp3 n3=>?_⟩
 have sb:=sa.trans (Same.upd (o:=.lst (hs.map V.int++[.int h])) n3)
 have fb:upd (upd (upd H1 c1 (.dK [])) p2 (.lst [.int h])) p3 (.lst (hs.map V.int++[.int h])) p3=some (.lst ((hs++[h]).map V.int)):=by rw [qb,aR];rfl
 generalize upd (upd (upd H1 c1 (.dK [])) p2 (.lst [.int h])) p3 (.lst (hs.map V.int++[.int h]))=H2 at sb fb
 have s12:Same H1 H2:=λb o e=>sb _ _ (by rw [wx (qf e n1)];exact e)
 refine λr d0 nr nd0 ne0=>Wn (H:=H2) (hs:=hs++[h]) fb nr nd0 (λokl' H3 s3 R3=>?_) λz H3 s3=>kl z H3 ((s1.trans s12).trans s3)
 refine ⟨s3 _ _ (sb _ _ qb),[(.inr n,.ref r)],rfl,(show 1≤15 by decide),?_⟩
 exact Wm (E:=E) (hh.same s1) n1 (sb.trans s3) R3 okl' rf lR lW lD λH' tp q1 q2 b1 b2 b3 b4 b5 b6 b7 b8 b9 kb=>kg okl' H' (RDeed.pre ⟨r,tp,q1,q2,b1,b2,b3,b4,b5,b6,b7,b8,b9,kb⟩ s1)
def wF (n:Str)(p t:Aj):List (Str×V):=[("whose",.str n),("point",.ref p),("times",.ref t)]
theorem ju {n:Str}{p t:Aj}:(wF n p t).lookup ("whose" : Str)=some (.str n):=by unfold wF;rw [aA];simp
theorem jy {n:Str}{p t:Aj}:(wF n p t).lookup ("point" : Str)=some (.ref p):=by
 unfold wF
 rw [aA,show (("point" : Str)==("whose" : Str))=false by decide +kernel]
 dsimp only
 rw [aA]
 simp
theorem qv4 {n:Str}{p t:Aj}:(wF n p t).lookup ("times" : Str)=some (.ref t):=by
 unfold wF
 rw [aA,show (("times" : Str)==("whose" : Str))=false by decide +kernel]
 dsimp only
 rw [aA,show (("times" : Str)==("point" : Str))=false by decide +kernel]
 dsimp only
 rw [aA]
 simp
theorem wqs {n:Str}{p t:Aj}{m:Str}(h1:¬ m = "whose")(h2:¬ m = "point")(h3:¬ m = "times"):(wF n p t).lookup m=none:=by
 unfold wF
 rw [aA,aH.mpr h1]
 dsimp only
 rw [aA,aH.mpr h2]
 dsimp only
 rw [aA,aH.mpr h3]
 rfl
structure WkAt (C:Aj)(H:Hp)(y:Aj)(n:Str)(p:Aj)(pt:Int×Int)(t:Aj)(tv:List (List Key×V)):Prop where
 ob:∃dx,H y=some (.ins C dx (wF n p t))
 pt:H p=some (.tup [.int pt.1,.int pt.2])
 tm:H t=some (.dT tv)
theorem WkAt.kb {C:Aj}{H H':Hp}{y:Aj}{n:Str}{p:Aj}{pt:Int×Int}{t:Aj}{tv:List (List Key×V)}(h:WkAt C H y n p pt t tv){ch:List Aj}(k:Kb ch H H')(hc:∀b∈ch,(∃kv,Rd H b (.dK kv))∨∃D,H b=some (.lst D)):WkAt C H' y n p pt t tv:=by
 have no:∀b o,(∀kv,o≠HO.dK kv)→(∀u kv,o≠HO.frz u (.dK kv))→(∀D,o≠HO.lst D)→H b=some o→H' b=some o:=λb o a1 a2 a3 e=>k _ _ (λz=>by
  rcases hc b z with ⟨kv,q|⟨u,q⟩⟩|⟨D,q⟩
  ·rw [e] at q;cases q;exact a1 _ rfl
  ·rw [e] at q;cases q;exact a2 _ _ rfl
  ·rw [e] at q;cases q;exact a3 _ rfl) e
 obtain ⟨dx,e⟩:=h.ob
 exact ⟨⟨dx,no _ _ (λ_ z=>by cases z) (λ_ _ z=>by cases z) (λ_ z=>by cases z) e⟩,no _ _ (λ_ z=>by cases z) (λ_ _ z=>by cases z) (λ_ z=>by cases z) h.pt,no _ _ (λ_ z=>by cases z) (λ_ _ z=>by cases z) (λ_ z=>by cases z) h.tm⟩
theorem WkAt.same {C:Aj}{H H':Hp}{y:Aj}{n:Str}{p:Aj}{pt:Int×Int}{t:Aj}{tv:List (List Key×V)}(h:WkAt C H y n p pt t tv)(s:Same H H'):WkAt C H' y n p pt t tv:=h.kb (ch:=[]) (Kb.of s) λb z=>nomatch z
def TmOk (tv:List (List Key×V)):Prop:=tv≠[]∧(tv.map (·.1)).Nodup∧∀q∈tv,∃a b c:Int,q=([.inl a,.inl b],.int c)∧0≤a∧a≤960∧1≤b∧b≤40
theorem TmOk.hash {P:Ac}{w:Ah}{tv:List (List Key×V)}(h:TmOk tv):(tv.map λp=>yr P w p.1).Nodup:=by
 obtain ⟨_,nd,all⟩:=h
 have e:(tv.map λp=>yr P w p.1)=(tv.map (·.1)).map (yr P w):=by rw [bY];rfl
 rw [e]
 refine bX.mpr (bw (λ{x y} hx hy hne z=>hne ?_) nd)
 obtain ⟨p,hp,rfl⟩:=aO.mp hx
 obtain ⟨q,hq,rfl⟩:=aO.mp hy
 obtain ⟨a,b,c,rfl,a0,a1,b0,b1⟩:=all p hp
 obtain ⟨a',b',c',rfl,a0',a1',b0',b1'⟩:=all q hq
 obtain ⟨e1,e2⟩:=qyr a0 a1 b0 b1 a0' a1' b0' b1' z
 show ([.inl a,.inl b]:List Key)=[.inl a',.inl b']
 rw [e1,e2]
theorem TmOk.len {tv:List (List Key×V)}(h:TmOk tv):tv.length≤40000:=by
 obtain ⟨_,nd,all⟩:=h
 let g:List Key→Nat:=λk=>match k with|[.inl a,.inl b]=>a.toNat*41+b.toNat|_=>0
 have m:∀x∈tv.map (·.1),∃a b:Int,x=[.inl a,.inl b]∧0≤a∧a≤960∧1≤b∧b≤40:=λx hx=>by
  obtain ⟨p,hp,rfl⟩:=aO.mp hx
  obtain ⟨a,b,c,rfl,r⟩:=all p hp
  exact ⟨a,b,rfl,r⟩
 have nd2:((tv.map (·.1)).map g).Nodup:=by
  refine bX.mpr (bw (λ{x y} hx hy hne z=>hne ?_) nd)
  obtain ⟨a,b,rfl,a0,a1,b0,b1⟩:=m x hx
  obtain ⟨a',b',rfl,a0',a1',b0',b1'⟩:=m y hy
  have z:a.toNat*41+b.toNat=a'.toNat*41+b'.toNat:=z
  have e1:a=a':=by lia
  have e2:b=b':=by lia
  rw [e1,e2]
 have:=L2.qq3 ((tv.map (·.1)).map g) (List.range 39401) nd2 λv hv=>?_
 ·rw [ae,ae,aG] at this
  lia
 ·obtain ⟨x,hx,rfl⟩:=aO.mp hv
  obtain ⟨a,b,rfl,a0,a1,b0,b1⟩:=m x hx
  refine aL.mpr ?_
  show a.toNat*41+b.toNat<39401
  lia
theorem TmOk.one {a b:Int}(a0:0≤a)(a1:a≤960)(b0:1≤b)(b1:b≤40):TmOk [([.inl a,.inl b],.int 1)]:=⟨λz=>(nomatch z),aQ.mpr ⟨av,bb⟩,λq hq=>⟨a,b,1,aC.mp hq,a0,a1,b0,b1⟩⟩
theorem TmOk.put {tv:List (List Key×V)}(h:TmOk tv){a b c:Int}(a0:0≤a)(a1:a≤960)(b0:1≤b)(b1:b≤40):TmOk (zf tv [.inl a,.inl b] (.int c)):=by
 obtain ⟨ne,nd,all⟩:=h
 unfold zf
 split
 ·refine ⟨λz=>ne (List.map_eq_nil_iff.mp z),?_,λq hq=>?_⟩
  ·have:(tv.map λkv=>if kv.1=[Sum.inl a,Sum.inl b] then (kv.1,V.int c) else kv).map (·.1)=tv.map (·.1):=by
    rw [bY]
    refine cP λx _=>?_
    show (if x.1=[Sum.inl a,Sum.inl b] then (x.1,V.int c) else x).1=x.1
    split <;> rfl
   rw [this]
   exact nd
  ·obtain ⟨x,hx,rfl⟩:=aO.mp hq
   obtain ⟨a',b',c',rfl,r⟩:=all x hx
   show ∃a_1 b_1 c_1:Int,(if ([Sum.inl a',Sum.inl b']:List Key)=[Sum.inl a,Sum.inl b] then (([Sum.inl a',Sum.inl b']:List Key),V.int c) else ([Sum.inl a',Sum.inl b'],V.int c'))=([.inl a_1,.inl b_1],.int c_1)∧_
   split
   ·exact ⟨a',b',c,rfl,r⟩
   ·exact ⟨a',b',c',rfl,r⟩
 ·rename_i hn
  refine ⟨bK _ (eC _ _),?_,λq hq=>?_⟩
  ·rw [aR,List.nodup_append]
   refine ⟨nd,aQ.mpr ⟨av,bb⟩,λx hx y hy z=>hn ?_⟩
   obtain ⟨p,hp,rfl⟩:=aO.mp hx
   have hy:y=[Sum.inl a,Sum.inl b]:=aC.mp hy
   exact cL.mpr ⟨p,hp,aZ (z.trans hy)⟩
  ·rcases bj.mp hq with hq|hq
   ·exact all q hq
   ·exact ⟨a,b,c,aC.mp hq,a0,a1,b0,b1⟩
end
section
variable {P:Ac}{w:Ah}{K:Aa}{mg:Str→Option Ag}{base:Heap}{qg:Aj}{qh:Aj}{qz:Aj}{qt:Aj}{qm:Aj}{wq:Aj}{ww:Aj}{q8:Aj}{wv:Aj}{q9:Aj}{qd:Aj}{wj:Aj}{qk:Aj}{qu:Aj}{qx:Aj}{qw:Aj}
def stN (n u m f:Nat):Nat:=if m<f then 0 else (if f<u then 1 else (m-f)/(n-u)+1)-(if f=0 then 1 else 0)
theorem quh {m:Int}{t L:Nat}(h:(t:Int)≤m):(m-t)/(L:Int)=(((m.toNat-t)/L:Nat):Int):=by
 rw [show m-(t:Int)=((m.toNat-t:Nat):Int) by lia]
 push_cast
 rfl
def wqk:Sp:=λvs H Q _=>∃(f u n:Nat) (m:Int),vs=[.int f,.int u,.int n,.int m]∧f<n∧u<n∧n≤1000∧0≤m∧Q (.int (stN n u m.toNat f)) H
theorem ok_led {f:Aj}{fd:Ad}(F:Fun K "led_to" "led_to" s_led_to f fd)(T:Txt K mg qg qh qz qt qm wq ww q8 wv q9 qd wj qk qu qx qw):FnOk P w K mg base (CXE P w) 1 f fd ["place","turn","size","many"] wqk:=by
 have sc:=qym
 refine F.okX sc (λvs H Q E h=>by obtain ⟨f,u,n,m,rfl,_⟩:=h;rfl) (λcdv A outer s H vs Q E hr h=>?_)
 obtain ⟨f,u,n,m,rfl,hf,u1,n1,m0,k⟩:=h
 refine ⟨_,(qy (xv (wf j9 (pv 0) (pv 3) (wg _)) (qp (wm qr)) wp)
   (qy (wr (i:=4) sc.nd rfl (by walk_at "loc") (qzs (wf vn (pv 0) (pv 1) (wg _)) qr (wy xz (wy zd (wy zv (pv 3) (pv 0)) (wy zv (pv 2) (pv 1))) qr)))
   (qp (wm (qzs (wf zn (pv 0) qr (wg _)) (wy zv (pv 4) qr) (pv 4)))))),?_⟩
 refine exI rfl (exI rfl (wc rfl rfl (exI rfl (zm (λz=>?_) (λz=>?_)))))
 ·unfold stN at k
  rw [am (by lia)] at k
  exact k
 ·have fm:(f:Int)≤m:=by lia
  have res:∀x:Int,x=(if f<u then 1 else (((m.toNat-f)/(n-u):Nat):Int)+1)-(if f=0 then 1 else 0)→Q (.int x) H:=λx hx=>by
   have e:x=(stN n u m.toNat f:Nat):=by
    unfold stN
    rw [aj (by lia),hx]
    generalize (m.toNat-f)/(n-u)=D
    by_cases y1:f<u <;> by_cases y2:f=0
    ·simp only [am y1,am y2];lia
    ·simp only [am y1,aj y2];lia
    ·simp only [aj y1,am y2];lia
    ·simp only [aj y1,aj y2];lia
   rw [e]
   exact k
  refine exI rfl (exI rfl (wc rfl rfl (exI rfl (zm (λy1=>?_) (λy1=>?_)))))
  ·refine exI rfl ⟨rfl,_,rfl,z5 (λy2=>?_) (λy2=>?_)⟩
   ·refine exI rfl (wc rfl rfl (res _ ?_))
    rw [am (by lia),am (by lia)]
   ·refine exI rfl (res _ ?_)
    rw [am (by lia),aj (by lia)]
    rfl
  ·refine exI rfl (exI rfl (wc rfl rfl (exI rfl (exI rfl (wc rfl rfl ?_)))))
   refine wc rfl rfl ⟨⟨(by lia),(Sm.small (n:=65) (by lia) (by lia) (by decide)).mono (by decide)⟩,wc rfl rfl ?_⟩
   have ev:(m-(f:Int))/((n:Int)-u)=(((m.toNat-f)/(n-u):Nat):Int):=by
    rw [←quh fm,show ((n-u:Nat):Int)=(n:Int)-u by lia]
   rw [ev]
   refine exI rfl ⟨rfl,_,rfl,z5 (λy2=>?_) (λy2=>?_)⟩
   ·refine exI rfl (wc rfl rfl (res _ ?_))
    rw [aj (by lia),am (by lia)]
   ·refine exI rfl (res _ ?_)
    rw [aj (by lia),aj (by lia)]
    lia
def Qq (C:Aj):Sp:=λvs H Q _=>∃(y dx p t:Aj) (n:Str),vs=[.ref y,.str n,.ref p,.ref t]∧H y=some (.ins C dx [])∧∀H',H' y=some (.ins C dx (wF n p t))→Kb [y] H H'→Q .non H'
theorem qut {f:Aj}{fd:Ad}(F:Fun K "__init__" "Walker.__init__" s_Walker___init__ f fd)(T:Txt K mg qg qh qz qt qm wq ww q8 wv q9 qd wj qk qu qx qw):FnOk P w K mg base (CXE P w) 1 f fd ["self","whose","point","times"] (Qq qx):=by
 have sc:=uz
 refine F.okX sc (λvs H Q E h=>by obtain ⟨y,dx,p,t,n,rfl,_⟩:=h;rfl) (λcdv A outer s H vs Q E hr h=>?_)
 obtain ⟨y,dx,p,t,n,rfl,hy,k⟩:=h
 refine ⟨_,(qy (yt (pv 0) (pv 1) rfl)
   (qy (yt (pv 0) (pv 2) rfl)
   (qp (yt (pv 0) (pv 3) rfl)))),?_⟩
 refine exI rfl (exI rfl ⟨y,qx,dx,[],rfl,hy,T.clW,T.naWw,(by show 0<1000;decide),?_⟩)
 refine exI rfl (exI rfl ⟨y,qx,dx,exI rfl ⟨qb,T.clW,T.naWp,(by show 1<1000;decide),?_⟩⟩)
 refine exI rfl (exI rfl ⟨y,qx,dx,exI rfl ⟨qb,T.clW,T.naWt,(by show 2<1000;decide),?_⟩⟩)
 refine k _ qb λb o nb e=>?_
 have nb:b≠y:=λz=>nb (by simp [z])
 rw [wx nb,wx nb,wx nb]
 exact e
theorem Jh {C:Aj}{H:Hp}{n:Str}{p t y dx:Aj}{Pp:Hp→Prop}{E:XK}(ny:H y=none)(nd:H dx=none)(k:∀H',Same H H'→(∃dx,H' y=some (.ins C dx (wF n p t)))→Pp H') :
  Qq C [.ref y,.str n,.ref p,.ref t] (upd (upd H dx (.own y)) y (.ins C dx [])) (λr H2=>r=.non∧Pp H2) E:=by
 refine ⟨y,dx,p,t,n,rfl,qb,λH' e kb=>⟨rfl,k H' (λb o eb=>kb b o (λz=>?_) ?_) ⟨dx,e⟩⟩⟩
 ·rw [aC.mp z,ny] at eb;cases eb
 ·rw [wx (qf eb ny),wx (qf eb nd)]
  exact eb
def Q6 (C:Aj):Sp:=λvs H Q _=>∃(n:Str) (p:Aj) (pt:Int×Int),vs=[.str n,.ref p]∧H p=some (.tup [.int pt.1,.int pt.2])∧∀H' y t,H y=none→Same H H'→WkAt C H' y n p pt t [([.inl pt.1,.inl pt.2],.int 1)]→Q (.ref y) H'
theorem qxk {f:Aj}{fd:Ad}(F:Fun K "set_down" "set_down" s_set_down f fd)(T:Txt K mg qg qh qz qt qm wq ww q8 wv q9 qd wj qk qu qx qw)(c_Walker:CCal P w K mg base "Walker" qx 1 (Qq qx)):FnOk P w K mg base (CXE P w) 3 f fd ["whose","point"] (Q6 qx):=by
 have sc:=qzy
 refine F.okX sc (λvs H Q E h=>by obtain ⟨n,p,pt,rfl,_⟩:=h;rfl) (λcdv A outer s H vs Q E hr h=>?_)
 obtain ⟨n,p,pt,rfl,hp,k⟩:=h
 refine ⟨_,(qp (wm (k8 c_Walker (hr.mono (by decide)) rfl qc (qq (pv 0) (qq (pv 1) (qq (qy7 hr.units0 (pv 1) qr) qj)))))),?_⟩
 refine exI rfl (exI rfl (λt nt=>(exI rfl ⟨p,[.inl pt.1,.inl pt.2],rfl,(by rw [wx (qf hp nt)];exact hp),qb,?_⟩)))
 have s1:Same H (upd (upd H t (.dT [])) t (.dT [([.inl pt.1,.inl pt.2],.int 1)])):=by
  rw [jb]
  exact Same.upd nt
 have f1:upd (upd H t (.dT [])) t (.dT [([.inl pt.1,.inl pt.2],.int 1)]) t=some (.dT [([.inl pt.1,.inl pt.2],.int 1)]):=qb
 generalize upd (upd H t (.dT [])) t (.dT [([.inl pt.1,.inl pt.2],.int 1)])=H1 at s1 f1
 exact λy dx ny nd ne=>Jh ny nd λH' s2 e=>k H' y t (xg s1 ny) (s1.trans s2) ⟨e,s2 _ _ (s1 _ _ hp),s2 _ _ f1⟩
def HPt (hs:List Int)(pt:Int×Int):Prop:=wt hs∧Pt hs pt.2 pt∧pt.2≤40
theorem HPt.rng {hs:List Int}{pt:Int×Int}(h:HPt hs pt):0≤pt.1∧pt.1≤960∧1≤pt.2∧pt.2≤40:=by
 obtain ⟨ok,⟨h1,_,_,h0,h2⟩,h3⟩:=h
 have ol:=ok.2.1
 have o1:=ok.1
 have:((hs.length:Int)-1)*pt.2≤24*pt.2:=aI (by lia) (by lia)
 lia
theorem HPt.it {hs:List Int}{pt:Int×Int}(h:HPt hs pt)(n:Nat):HPt hs (itP hs pt n):=by
 have a:=qud h.1 h.2.1 n
 have:=h.2.2
 have:=a.2.1
 exact ⟨h.1,⟨a.1,Int.le_refl _,a.2.2.1,a.2.2.2⟩,by lia⟩
theorem HPt.short {hs:List Int}{pt:Int×Int}(h:HPt hs pt):¬ Dist (itP hs pt) 1001:=λd=>by
 have r:=h.rng
 obtain ⟨ok,hp,h3⟩:=h
 have ol:=ok.2.1
 have o1:=ok.1
 have inj:∀i j,trT hs pt.1 pt.2 i=trT hs pt.1 pt.2 j→itP hs pt i=itP hs pt j:=λi j e=>(it_eq hp i j).mpr e
 have nd:((List.range 1001).map λi=>(trT hs pt.1 pt.2 i).toNat).Nodup:=by
  refine bX.mpr (bw (λ{i j} hi hj hij z=>?_) (dc (n:=1001)))
  have a:=uk ok hp.1 hp.2.2.2 i
  have b:=uk ok hp.1 hp.2.2.2 j
  have a0:=a.1
  have b0:=b.1
  exact d i j hij (aL.mp hj) (inj i j (by lia))
 have:=L2.qq3 _ (List.range 961) nd λv hv=>by
  obtain ⟨i,_,rfl⟩:=aO.mp hv
  have a:=uk ok hp.1 hp.2.2.2 i
  have a0:=a.1
  have a1:=a.2
  have:((hs.length:Int)-1)*pt.2≤24*pt.2:=aI (by lia) (by lia)
  exact aL.mpr (by lia)
 rw [ae,aG,aG] at this
 lia
def qv6 (C CR:Aj):Sp:=λvs H Q _=>∃(y r p t:Aj) (n:Str) (hs:List Int) (pt:Int×Int) (tv:List (List Key×V)) (m:Int),vs=[.ref y,.ref r,.int m]∧WkAt C H y n p pt t tv∧TmOk tv∧RoadAt CR H r hs∧HPt hs pt∧0≤m ∧
 ∀H' y' p' t' tv',H y'=none→Same H H'→WkAt C H' y' n p' (itP hs pt m.toNat) t' tv'→TmOk tv'→Q (.ref y') H'
theorem wxt {f:Aj}{fd:Ad}(F:Fun K "gone" "Walker.gone" s_Walker_gone f fd)(T:Txt K mg qg qh qz qt qm wq ww q8 wv q9 qd wj qk qu qx qw)(c_trace:Cal P w K mg base "trace" 5 (qwb qu wq))(c_led_to:Cal P w K mg base "led_to" 1 wqk)(c_spot:Cal P w K mg base "spot" 1 qvb)(c_Walker:CCal P w K mg base "Walker" qx 1 (Qq qx)) :
  FnOk P w K mg base (CXE P w) 6 f fd ["self","road","many"] (qv6 qx qu):=by
 have sc:=Z1
 refine F.okX sc (λvs H Q E h=>by obtain ⟨y,r,p,t,n,hs,pt,tv,m,rfl,_⟩:=h;rfl) (λcdv A outer s H vs Q E hr h=>?_)
 obtain ⟨y,r,p,t,n,hs,pt,tv,m,rfl,hW,hT,hR,hP,m0,k⟩:=h
 obtain ⟨dy,hy⟩:=hW.ob
 have rg:=hP.rng
 have big:(1000000:Nat)<sizeLine:=by decide
 refine ⟨_,(qy (jv (wb c_trace (hr.mono (by decide)) rfl qc (qq (pv 1) (qq (xm (pv 0) rfl) qj))) (v8 rfl (xu (xk (i:=3) sc.nd rfl (by walk_at "loc")) (xu (xk (i:=4) sc.nd rfl (by walk_at "loc")) vk))))
   (qy (wr (i:=5) sc.nd rfl (by walk_at "loc") (k9 qz1 rfl T.dict_ PyProof.Rows.boot_dict (qq (xm (pv 0) rfl) qj)))
   (qy (Q0 bd rfl (wxk rfl T.enumerate_ (qq (pv 3) qj)) (v8 rfl (xu (xk (i:=6) sc.nd rfl (by walk_at "loc")) (xu (xk (i:=7) sc.nd rfl (by walk_at "loc")) vk))) (qy (wr (i:=8) sc.nd rfl (by walk_at "loc") (wb c_led_to (hr.mono (by decide)) rfl qc (qq (pv 6) (qq (pv 4) (qq (wn w6 rfl T.len_ aE (qq (pv 3) qj)) (qq (pv 2) qj))))))
   (qp (xv (wf j9 (pv 8) qr (wg _)) (qp (W0 (vd hr) (pv 5) (pv 7) (wy xz (qyp (vd hr) (pv 5) (pv 7) qr ⟨rfl,rfl,rfl,rfl⟩) (pv 8)) rfl)) wp))))
   (qp (wm (k8 c_Walker (hr.mono (by decide)) rfl qc (qq (xm (pv 0) rfl) (qq (wb c_spot (hr.mono (by decide)) rfl qc (qq (pv 3) (qq (pv 4) (qq (pv 2) qj)))) (qq (pv 5) qj))))))))),?_⟩
 refine ⟨_,rfl,_,rfl,y,qx,dy,_,_,rfl,hy,T.clW,T.naWp,jy,r,p,hs,pt,pt.2,rfl,hR,hP.1,hW.pt,hP.2.1,(Sm.small (n:=65) (by lia) (by lia) (by decide)).mono (by decide),λnn u q l H1 n1 d1 u1 e1 s1 nl fq pa=>?_,λd=>absurd d hP.short⟩
 refine ⟨q,exI rfl ⟨SqT.of fq,rfl,_,_,rfl,_,_,rfl,rfl,?_⟩⟩
 obtain ⟨ys,fl,pr⟩:=id pa
 have hl:ys.length=nn:=by rw [pr.length,qzd]
 have y1:=s1 _ _ hy
 refine exI rfl ⟨y,qx,dy,_,_,rfl,y1,T.clW,T.naWt,qv4,t,tv,rfl,s1 _ _ hW.tm,hT.1,hT.hash,λt2 nt2=>?_⟩
 have s2:Same H1 (upd H1 t2 (.dT tv)):=Same.upd nt2
 have f2:upd H1 t2 (.dT tv) t2=some (.dT tv):=qb
 have nt20:H t2=none:=xg s1 nt2
 have tl:t2≠l:=(qf fl nt2).symm
 generalize hH2:upd H1 t2 (.dT tv)=H2 at s2 f2
 refine exI rfl ⟨l,ys,rfl,SqL.of (s2 _ _ fl),?_⟩
 refine for_en (λi σ H'=>(∃z6 z7 z8,σ=[some (.ref y),some (.ref r),some (.int m),some (.ref l),some (.int ((u:Nat):Int)),some (.ref t2),z6,z7,z8])∧(∃tv',H' t2=some (.dT tv')∧TmOk tv')∧Kb [t2] H1 H') ⟨⟨_,_,_,rfl⟩,⟨tv,f2,hT⟩,Kb.of s2⟩ (λi σ H' hi h=>SqL.of (h.2.2 _ _ (by simpa using tl.symm) fl)) ?_ ?_
 ·rintro i v z σ H' ev nz ⟨⟨z6,z7,z8,rfl⟩,⟨tv',ft,hT'⟩,kb⟩
  have hi:i<nn:=by rw [←hl];exact (aU.mp ev).1
  obtain ⟨a,ea,fa⟩:=qvd (i:=i) pr hi
  rw [ev] at ea
  cases ea
  have sz:Same H' (upd H' z (.tup [.int ((i:Nat):Int),.ref a])):=Same.upd nz
  refine ⟨z,exI rfl ⟨SqT.new,rfl,_,_,rfl,_,_,rfl,rfl,?_⟩⟩
  have ft3:=sz _ _ ft
  have kb3:Kb [t2] H1 (upd H' z (.tup [.int ((i:Nat):Int),.ref a])):=kb.trans (Kb.of sz)
  generalize upd H' z (.tup [.int ((i:Nat):Int),.ref a])=H3 at ft3 kb3
  have at2:a≠t2:=qf fa nt2
  have fl3:=kb3 _ _ (by simpa using tl.symm) fl
  have fa3:H3 a=some (.tup (([.inl (itP hs pt i).1,.inl (itP hs pt i).2]:List Key).map kV)):=kb3 _ _ (by simpa using at2) fa
  have rgi:=(hP.it i).rng
  refine exI rfl (exI rfl (exI rfl ⟨_,_,rfl,.inl (SqL.of fl3),exI rfl ⟨i,u,nn,m,?_,hi,u1,n1,m0,exI rfl (wc rfl rfl (exI rfl (zm (λg=>?_) (λg=>?_))))⟩⟩))
  ·rw [hl]
  ·have dg:=DGet.t ft3 fa3
   have key:∃c:Int,(w9 tv' [.inl (itP hs pt i).1,.inl (itP hs pt i).2]).getD (.int 0)=.int c:=by
    cases e:w9 tv' [.inl (itP hs pt i).1,.inl (itP hs pt i).2] with
    |none=>exact ⟨0,rfl⟩
    |some v =>
     have hm:∃kv∈tv',kv.2=v:=by
      unfold w9 at e
      cases hf:tv'.find? λkv=>decide (kv.1=[Sum.inl (itP hs pt i).1,Sum.inl (itP hs pt i).2]) with
      |none=>rw [hf] at e;cases e
      |some kv =>
       rw [hf] at e
       exact ⟨kv,List.mem_of_find?_eq_some hf,ar e⟩
     obtain ⟨kv,hk,rfl⟩:=hm
     obtain ⟨a',b',c',rfl,_⟩:=hT'.2.2 kv hk
     exact ⟨c',rfl⟩
   obtain ⟨c,ec⟩:=key
   refine exI rfl ⟨t2,rfl,.inr ⟨_,.inl ft3⟩,exI rfl ⟨_,dg,_,rfl,?_⟩⟩
   rw [ec]
   refine wc rfl rfl (exI rfl (exI rfl ⟨t2,exI rfl ⟨DPut.t ft3 fa3 (by have:=hT'.len;lia),⟨_,_,_,rfl⟩,⟨_,qb,hT'.put rgi.1 rgi.2.1 rgi.2.2.1 rgi.2.2.2⟩,λb o nb e=>?_⟩⟩))
   rw [wx (by simpa using nb)]
   exact kb3 b o nb e
  ·exact ⟨⟨_,_,_,rfl⟩,⟨tv',ft3,hT'⟩,kb3⟩
 ·rintro σ H' ⟨⟨z6,z7,z8,rfl⟩,⟨tv',ft,hT'⟩,kb⟩
  have keep:∀b o,H1 b=some o→H' b=some o:=λb o e=>kb b o (by simpa using qf e nt2) e
  refine exI rfl ⟨y,qx,dy,_,_,rfl,keep _ _ y1,T.clW,T.naWw,ju,exI rfl (exI rfl (exI rfl ⟨l,hs,pt,nn,u,m,rfl,⟨n1,d1,u1,e1,pa.same keep⟩,m0,λa fa=>(exI rfl (λy' dx' ny' nd' ne'=>Jh ny' nd' λH4 s4 e4=>?_))⟩))⟩
  have sk:Same H H':=s1.trans keep
  exact k H4 y' a t2 tv' (xg sk ny') (sk.trans s4) ⟨e4,s4 _ _ fa,s4 _ _ ft⟩ hT'
end
section
variable {P:Ac}{w:Ah}{K:Aa}{mg:Str→Option Ag}{base:Heap}{qg:Aj}{qh:Aj}{qz:Aj}{qt:Aj}{qm:Aj}{wq:Aj}{ww:Aj}{q8:Aj}{wv:Aj}{q9:Aj}{qd:Aj}{wj:Aj}{qk:Aj}{qu:Aj}{qx:Aj}{qw:Aj}
def qzt (K:Aa)(C:Aj):Sp:=λvs H Q E=>∃p q t b t' b',vs=[.ref p,.ref q]∧SqT K H p [.int t,.int b]∧SqT K H q [.int t',.int b']∧IntMulOk t b'∧IntMulOk t' b ∧
 (1≤b→1≤b'→Q (.bl (decide (t*b'<t'*b))) H)∧(b<1∨b'<1→E (.ref C) none H)
theorem wxp {f:Aj}{fd:Ad}(F:Fun K "less" "less" s_less f fd)(T:Txt K mg qg qh qz qt qm wq ww q8 wv q9 qd wj qk qu qx qw)(c_check_bottom:Cal P w K mg base "check_bottom" 1 (Wh qz)):FnOk P w K mg base (CXE P w) 2 f fd ["one","other"] (qzt K qz):=by
 have sc:=ww1
 refine F.okX sc (λvs H Q E h=>by obtain ⟨p,q,t,b,t',b',rfl,_⟩:=h;rfl) (λcdv A outer s H vs Q E hr h=>?_)
 obtain ⟨p,q,t,b,t',b',rfl,hp,hq,m1,m2,k,x⟩:=h
 refine ⟨_,(qy (xj (wb c_check_bottom (hr.mono (by decide)) rfl qc (qq (zx vf (pv 0) qr (λ_ _=>rfl)) qj)))
   (qy (xj (wb c_check_bottom (hr.mono (by decide)) rfl qc (qq (zx vf (pv 1) qr (λ_ _=>rfl)) qj)))
   (qp (wm (jk vn (wy xy (zx vf (pv 0) qr (λ_ _=>rfl)) (zx vf (pv 1) qr (λ_ _=>rfl))) (wy xy (zx vf (pv 1) qr (λ_ _=>rfl)) (zx vf (pv 0) qr (λ_ _=>rfl))) (wg _)))))),?_⟩
 refine ⟨_,rfl,_,_,_,_,rfl,rfl,hp,rfl,b,rfl,λg1=>?_,λg1=>x (.inl g1)⟩
 refine ⟨_,rfl,_,_,_,_,rfl,rfl,hq,rfl,b',rfl,λg2=>?_,λg2=>x (.inr g2)⟩
 refine exI rfl (exX rfl rfl hp rfl (exI rfl (exX rfl rfl hq rfl (wc rfl rfl ⟨m1,exI rfl (exX rfl rfl hq rfl (exI rfl (exX rfl rfl hp rfl (wc rfl rfl ⟨m2,wc rfl rfl ?_⟩))))⟩))))
 exact k g1 g2
theorem Jp {C CW:Aj}{H H3:Hp}{x dr dw dd c1 c2 y:Aj}{R W:List (Key×V)}{D:List V}{n whose:Str}{p t:Aj}{pt:Int×Int}{tv:List (List Key×V)}{Q:VK}{E:XK}(hh:Hse C H x dr dw dd R W D)(n1:H c1=none)(n2:upd H c1 (.dK []) c2=none)(s3:Same (upd (upd H c1 (.dK [])) c2 (.dK [])) H3)(W3:WkAt CW H3 y whose p pt t tv)(lR:R.length≤1000)(lW:W.length≤1000)(lD:D.length≤1000000)
  (k:∀H' tp q1 q2,H tp=none→H q1=none→H q2=none→Hse C H' x dr dw dd R (zf W (.inr n) (.ref y)) (D++[.ref tp])→H' tp=some (.tup [.ref q1,.ref q2])→H' q1=some (.dK [])→H' q2=some (.dK [(.inr n,(w9 W (.inr n)).getD .non)])→q1≠q2→WkAt CW H' y whose p pt t tv→Kb [dr,dw,dd] H H'→Q .non H') :
  Y4 C [.ref x,.ref c1,.ref c2] (upd H3 c2 (.dK [(.inr n,.ref y)])) Q E:=by
 have c12:c1≠c2:=λz=>by rw [←z,qb] at n2;cases n2
 have n20:H c2=none:=by rw [←n2,wx (aT c12)]
 have s03:Same H H3:=λb o e=>s3 _ _ (by rw [wx (qf e n20),wx (qf e n1)];exact e)
 have h32:H3 c2=some (.dK []):=s3 _ _ qb
 have h31:H3 c1=some (.dK []):=s3 _ _ (by rw [wx c12,qb])
 have keep:∀b o,(∀kv,o≠HO.dK kv)→H3 b=some o→upd H3 c2 (.dK [(.inr n,.ref y)]) b=some o:=λb o no e=>by
  rw [wx (λz=>by rw [z,h32] at e;cases e;exact no _ rfl)]
  exact e
 have W4:WkAt CW (upd H3 c2 (.dK [(.inr n,.ref y)])) y whose p pt t tv:=by
  obtain ⟨dx,e⟩:=W3.ob
  exact ⟨⟨dx,keep _ _ (λkv z=>by cases z) e⟩,keep _ _ (λkv z=>by cases z) W3.pt,keep _ _ (λkv z=>by cases z) W3.tm⟩
 have s4:Same H (upd H3 c2 (.dK [(.inr n,.ref y)])):=λb o e=>by rw [wx (qf e n20)];exact s03 _ _ e
 have e1:upd H3 c2 (.dK [(.inr n,.ref y)]) c1=some (.dK []):=by rw [wx c12];exact h31
 have e2:upd H3 c2 (.dK [(.inr n,.ref y)]) c2=some (.dK [(.inr n,.ref y)]):=qb
 generalize upd H3 c2 (.dK [(.inr n,.ref y)])=H4 at s4 e1 e2 W4
 have hh4:=hh.same s4
 refine ⟨x,dr,dw,dd,c1,c2,R,W,[],[(.inr n,.ref y)],D,rfl,hh4,.inl e1,.inl e2,c12,(qf hh.r n1).symm,(qf hh.w n1).symm,(qf hh.r n20).symm,(qf hh.w n20).symm,bb,aQ.mpr ⟨av,bb⟩,lR,lW,az _,by show 1≤1000;decide,lD,(λi c ec hc=>nomatch ec),λi c ec hc=>?_,λH' tp q1 q2 a1 a2 a3 a4 a5 a6 a7 a8 a9=>?_⟩
 ·cases i with
  |zero=>cases ec;cases hc
  |succ i=>cases ec
 ·have no:∀b,H4 b=none→H b=none:=λb e=>xg s4 e
  have wk:WkAt CW H' y whose p pt t tv:=W4.kb a9 λb hb=>by
   simp only [ai,av,cu] at hb
   rcases hb with rfl|rfl|rfl|rfl|rfl
   ·exact .inl ⟨_,.inl hh4.r⟩
   ·exact .inl ⟨_,.inl hh4.w⟩
   ·exact .inr ⟨_,hh4.d⟩
   ·exact .inl ⟨_,.inl e1⟩
   ·exact .inl ⟨_,.inl e2⟩
  refine k H' tp q1 q2 (no _ a1) (no _ a2) (no _ a3) a4 a5 a6 a7 a8 wk λb o nb e=>a9 b o (λz=>?_) (s4 _ _ e)
  simp only [ai,av,cu] at z nb
  rcases z with z|z|z|z|z
  ·exact nb (.inl z)
  ·exact nb (.inr (.inl z))
  ·exact nb (.inr (.inr z))
  ·rw [z,n1] at e;cases e
  ·rw [z,n20] at e;cases e
def WDeed (C CW:Aj)(H H':Hp)(x dr dw dd:Aj)(R W:List (Key×V))(D:List V)(n whose:Str)(p:Aj)(pt:Int×Int)(t:Aj)(tv:List (List Key×V)):Prop:=∃y tp q1 q2,H tp=none∧H q1=none∧H q2=none∧Hse C H' x dr dw dd R (zf W (.inr n) (.ref y)) (D++[.ref tp])∧H' tp=some (.tup [.ref q1,.ref q2])∧H' q1=some (.dK [])∧H' q2=some (.dK [(.inr n,(w9 W (.inr n)).getD .non)])∧q1≠q2∧WkAt CW H' y whose p pt t tv∧Kb [dr,dw,dd] H H'
theorem WDeed.pre {C CW:Aj}{H0 H H':Hp}{x dr dw dd:Aj}{R W:List (Key×V)}{D:List V}{n whose:Str}{p:Aj}{pt:Int×Int}{t:Aj}{tv:List (List Key×V)}(h:WDeed C CW H H' x dr dw dd R W D n whose p pt t tv)(s:Same H0 H):WDeed C CW H0 H' x dr dw dd R W D n whose p pt t tv:=by
 obtain ⟨y,tp,q1,q2,a1,a2,a3,a4,a5,a6,a7,a8,a9,b1⟩:=h
 exact ⟨y,tp,q1,q2,xg s a1,xg s a2,xg s a3,a4,a5,a6,a7,a8,a9,λb o nb e=>b1 b o nb (s _ _ e)⟩
def u7 (C CW CN:Aj):Sp:=λvs H Q E=>∃(x dr dw dd:Aj) (R W:List (Key×V)) (D:List V) (n:Str),vs=[.ref x,.str n]∧Hse C H x dr dw dd R W D∧(w9 W (.inr n)=none→E (.ref CN) none H) ∧
 (∀v,w9 W (.inr n)=some v→∃y whose p pt t tv,v=.ref y∧WkAt CW H y whose p pt t tv∧∀q,H q=none→Q (.ref q) (upd H q (.tup [.str whose,.ref p])))
theorem wwv {f:Aj}{fd:Ad}(F:Fun K "where" "House.where" s_House_where f fd)(T:Txt K mg qg qh qz qt qm wq ww q8 wv q9 qd wj qk qu qx qw)(c_walker_called:MCal P w K mg base qw "walker_called" 1 (zb qw qd false)) :
  FnOk P w K mg base (CXE P w) 2 f fd ["self","name"] (u7 qw qx qd):=by
 have sc:=Ys
 refine F.okX sc (λvs H Q E h=>by obtain ⟨x,dr,dw,dd,R,W,D,n,rfl,_⟩:=h;rfl) (λcdv A outer s H vs Q E hr h=>?_)
 obtain ⟨x,dr,dw,dd,R,W,D,n,rfl,hh,kx,k⟩:=h
 obtain ⟨dx,hx⟩:=hh.ob
 refine ⟨_,(qy (wr (i:=2) sc.nd rfl (by walk_at "loc") (w8 (pv 0) T.clH c_walker_called (hr.mono (by decide)) qc (qq (pv 1) qj)))
   (qp (wm (zq (qq (xm (pv 2) rfl) (qq (xm (pv 2) rfl) qj)))))),?_⟩
 refine ⟨_,rfl,x,dx,_,rfl,hx,w4 (by decide +kernel) (by decide +kernel) (by decide +kernel),_,rfl,x,dr,dw,dd,R,W,D,n,rfl,hh,λv e=>?_,kx⟩
 obtain ⟨y,whose,p,pt,t,tv,rfl,hW,q⟩:=k v e
 obtain ⟨dy,hy⟩:=hW.ob
 exact exI rfl ⟨y,qx,dy,_,_,rfl,hy,T.clW,T.naWw,ju,exI rfl ⟨y,qx,dy,_,_,rfl,hy,T.clW,T.naWp,jy,sz2,q⟩⟩
def qq6 (K:Aa)(C CR CW CN CT CNR CB CO:Aj):Sp:=λvs H Q E=>∃(x dr dw dd a:Aj) (R W:List (Key×V)) (D:List V) (n whose:Str) (t b:Int),vs=[.ref x,.str n,.str whose,.ref a]∧Hse C H x dr dw dd R W D∧R.length≤1000∧W.length≤1000∧D.length≤1000000∧n.length≤1000∧H a=some (.tup [.int t,.int b]) ∧
 (vc n=false→∀H',Same H H'→E (.ref CN) none H')∧(vc n=true→(w9 W (.inr n)).isSome=true→∀H',Same H H'→E (.ref CT) none H')∧(vc n=true→w9 W (.inr n)=none→(w9 R (.inr whose)=none→∀H',Same H H'→E (.ref CNR) none H') ∧
  ∀v,w9 R (.inr whose)=some v→∃r hs,v=.ref r∧RoadAt CR H r hs∧wt hs∧(b<1→∀H',Same H H'→E (.ref CB) none H')∧(1≤b→Sm 8000 b∧(40<(wu t b).2→∀H',Same H H'→E (.ref CB) none H')∧((wu t b).2≤40 →
   (¬ xt hs (wu t b).1 (wu t b).2→∀H',Same H H'→E (.ref CO) none H')∧(xt hs (wu t b).1 (wu t b).2→∀H' p t',WDeed C CW H H' x dr dw dd R W D n whose p (wu t b) t' [([.inl (wu t b).1,.inl (wu t b).2],.int 1)]→Q .non H'))))
theorem low1 {t b:Int}(h:1≤b):1≤(wu t b).2:=by
 have e:=uh (t:=t) h
 have g:=zt (t:=t) h
 show 1≤b/gOf t b
 by_cases z:1≤b/gOf t b
 ·exact z
 ·have:gOf t b*(b/gOf t b)≤0:=Int.mul_nonpos_of_nonneg_of_nonpos (by lia) (by lia)
  lia
theorem qu3 {f:Aj}{fd:Ad}(F:Fun K "place" "House.place" s_House_place f fd)(T:Txt K mg qg qh qz qt qm wq ww q8 wv q9 qd wj qk qu qx qw)(c_check_new_name:Cal P w K mg base "check_new_name" 2 (yk q8 wv))(c_road_called:MCal P w K mg base qw "road_called" 1 (zb qw q9 true))(c_lowest:Cal P w K mg base "lowest" 2 (j0 qz))(c_on_road:MCal P w K mg base qu "on_road" 3 (Qw K qu qz qt))(c_set_down:Cal P w K mg base "set_down" 3 (Q6 qx))(c_do:MCal P w K mg base qw "do" 2 (Y4 qw)) :
  FnOk P w K mg base (CXE P w) 5 f fd ["self","name","whose","point"] (qq6 K qw qu qx q8 wv q9 qz qt):=by
 have sc:=Zq
 refine F.okX sc (λvs H Q E h=>by obtain ⟨x,dr,dw,dd,a,R,W,D,n,whose,t,b,rfl,_⟩:=h;rfl) (λcdv A outer s H vs Q E hr h=>?_)
 obtain ⟨x,dr,dw,dd,a,R,W,D,n,whose,t,b,rfl,hh,lR,lW,lD,ln,ha,kn,kt,k⟩:=h
 obtain ⟨dx,hx⟩:=hh.ob
 obtain ⟨tg,g_GREATEST_BOTTOM⟩:=T.g_GREATEST_BOTTOM
 refine ⟨_,(qy (xj (wb c_check_new_name (hr.mono (by decide)) rfl qc (qq (pv 1) (qq (xm (pv 0) rfl) qj))))
   (qy (wr (i:=4) sc.nd rfl (by walk_at "loc") (w8 (pv 0) T.clH c_road_called (hr.mono (by decide)) qc (qq (pv 2) qj)))
   (qy (wr (i:=5) sc.nd rfl (by walk_at "loc") (wb c_lowest (hr.mono (by decide)) rfl qc (qq (zx vf (pv 3) qr (λ_ _=>rfl)) (qq (zx vf (pv 3) qr (λ_ _=>rfl)) qj))))
   (qy (xv (wf j9 (zx vf (pv 5) qr (λ_ _=>rfl)) (yu (v:=V.int 40) rfl g_GREATEST_BOTTOM ⟨_,rfl⟩) (wg _)) (qp (zw rfl T.x_BadBottom xn rfl T.g_BadBottom (qq xx qj))) wp)
   (qp (xj (w8 (pv 0) T.clH c_do (hr.mono (by decide)) qc (qq vz (qq (yy (jq (pv 1) (wb c_set_down (hr.mono (by decide)) rfl qc (qq (pv 2) (qq (w8 (pv 4) T.cl c_on_road (hr.mono (by decide)) qc (qq (pv 5) qj)) qj))) yj) rfl rfl (λz=>nomatch z) (by decide)) qj))))))))),?_⟩
 refine ⟨_,rfl,_,rfl,x,qw,dx,_,_,rfl,hx,T.clH,T.naHw,x8,n,dw,W,rfl,ln,hh.w,λa1 a2 H1 s1=>?_,kn,kt⟩
 obtain ⟨kr,k⟩:=k a1 a2
 have hh1:=hh.same s1
 refine ⟨_,rfl,x,dx,_,rfl,s1 _ _ hx,w4 (by decide +kernel) (by decide +kernel) (by decide +kernel),_,rfl,x,dr,dw,dd,R,W,D,whose,rfl,hh1,λv e=>?_,λe=>kr e H1 s1⟩
 obtain ⟨r,hs,rfl,hR,okl,kb,k⟩:=k v e
 refine ⟨_,rfl,_,_,_,_,rfl,rfl,SqT.of (s1 _ _ ha),rfl,_,rfl,_,_,_,_,rfl,rfl,SqT.of (s1 _ _ ha),rfl,t,b,rfl,λb1=>?_,λb1=>kb b1 H1 s1⟩
 obtain ⟨sm,kg,k⟩:=k b1
 refine ⟨sm.mono (by decide),λp np=>?_⟩
 have s2:Same H (upd H1 p (.tup (ptV (wu t b)))):=s1.trans (Same.upd np)
 have f2:upd H1 p (.tup (ptV (wu t b))) p=some (.tup [.int (wu t b).1,.int (wu t b).2]):=qb
 generalize upd H1 p (.tup (ptV (wu t b)))=H2 at s2 f2
 have l1:=low1 (t:=t) b1
 refine exI rfl (exX rfl rfl (SqT.of f2) rfl (wc rfl rfl (exI rfl (zm (λz=>⟨sz1,kg (by lia) H2 s2⟩) (λz=>?_)))))
 obtain ⟨ko,k⟩:=k (by lia)
 refine exI rfl ⟨x,dx,exI rfl ⟨s2 _ _ hx,w4 (by decide +kernel) (by decide +kernel) (by decide +kernel),λc1 n1=>λc2 n2=>(exI rfl (exI rfl (exI rfl ?_)))⟩⟩
 obtain ⟨dy,l,h1,h2⟩:=id hR
 have sc2:Same H2 (upd (upd H2 c1 (.dK [])) c2 (.dK [])):=λb o e=>by
  have e4:upd H2 c1 (.dK []) b=some o:=by rw [wx (qf e n1)];exact e
  rw [wx (qf e4 n2)]
  exact e4
 have s3:=s2.trans sc2
 refine ⟨r,dy,_,rfl,s3 _ _ h1,x6 (by decide +kernel),_,rfl,r,p,hs,(wu t b).1,(wu t b).2,rfl,hR.same s3,okl,SqT.of (sc2 _ _ f2),λ_=>⟨(Sm.small (n:=65) (by lia) (by lia) (by decide)).mono (by decide),λon q H3 s4 fq=>?_,λon H3 s4=>ko on H3 (s3.trans s4)⟩,λz=>absurd z (by lia)⟩
 have e3:wu (wu t b).1 (wu t b).2=wu t b:=qwx l1 (qwz b1)
 rw [e3] at fq
 refine ⟨whose,q,wu t b,rfl,fq,λH4 y t' ny s5 w5=>?_⟩
 refine ⟨s5 _ _ (s4 _ _ qb),[(.inr n,.ref y)],rfl,(show 1≤15 by decide),?_⟩
 exact Jp (E:=E) (hh.same s2) n1 n2 (s4.trans s5) w5 lR lW lD λH' tp q1 q2 b1 b2 b3 b4 b5 b6 b7 b8 b9 kb=>k on H' q t' (WDeed.pre ⟨y,tp,q1,q2,b1,b2,b3,b4,b5,b6,b7,b8,b9,kb⟩ s2)
def spGo (C CR CW CN CC:Aj):Sp:=λvs H Q E=>∃(x dr dw dd:Aj) (R W:List (Key×V)) (D:List V) (n:Str) (m:Int),vs=[.ref x,.str n,.int m]∧Hse C H x dr dw dd R W D∧R.length≤1000∧W.length≤1000∧D.length≤1000000∧(w9 W (.inr n)=none→E (.ref CN) none H) ∧
 (∀v,w9 W (.inr n)=some v→∃y whose p pt t tv r hs,v=.ref y∧WkAt CW H y whose p pt t tv∧TmOk tv∧w9 R (.inr whose)=some (.ref r)∧RoadAt CR H r hs∧HPt hs pt∧(¬ Within m 0 (some 1000000000000000000000000000000000000000000000000000000000000)→E (.ref CC) none H) ∧
  (Within m 0 (some 1000000000000000000000000000000000000000000000000000000000000)→∀H' p' t' tv',WDeed C CW H H' x dr dw dd R W D n whose p' (itP hs pt m.toNat) t' tv'→TmOk tv'→Q (.ref p') H'))
theorem ok_go {f:Aj}{fd:Ad}(F:Fun K "go" "House.go" s_House_go f fd)(T:Txt K mg qg qh qz qt qm wq ww q8 wv q9 qd wj qk qu qx qw)(c_walker_called:MCal P w K mg base qw "walker_called" 1 (zb qw qd false))(c_check_count:CalD P w K mg base "check_count" 1 (qw7 qm))(c_gone:MCal P w K mg base qx "gone" 6 (qv6 qx qu))(c_do:MCal P w K mg base qw "do" 2 (Y4 qw)) :
  FnOk P w K mg base (CXE P w) 8 f fd ["self","name","many"] (spGo qw qu qx qd qm):=by
 have sc:=qx5
 refine F.okX sc (λvs H Q E h=>by obtain ⟨x,dr,dw,dd,R,W,D,n,m,rfl,_⟩:=h;rfl) (λcdv A outer s H vs Q E hr h=>?_)
 obtain ⟨x,dr,dw,dd,R,W,D,n,m,rfl,hh,lR,lW,lD,kx,k⟩:=h
 obtain ⟨dx,hx⟩:=hh.ob
 obtain ⟨tg,g_FARTHEST⟩:=T.g_FARTHEST
 refine ⟨_,(qy (wr (i:=3) sc.nd rfl (by walk_at "loc") (w8 (pv 0) T.clH c_walker_called (hr.mono (by decide)) qc (qq (pv 1) qj)))
   (qy (xj (wb c_check_count.all (hr.mono (by decide)) rfl qc (qq (pv 2) (qq qr (qq (yu (v:=V.int 1000000000000000000000000000000000000000000000000000000000000) rfl g_FARTHEST ⟨_,rfl⟩) qj)))))
   (qy (wr (i:=4) sc.nd rfl (by walk_at "loc") (w8 (pv 3) T.clW c_gone (hr.mono (by decide)) qc (qq (jz (vd hr) (xm (pv 0) rfl) (xm (pv 3) rfl) (λ_ _=>rfl)) (qq (pv 2) qj))))
   (qy (xj (w8 (pv 0) T.clH c_do (hr.mono (by decide)) qc (qq vz (qq (yy (jq (pv 1) (pv 4) yj) rfl rfl (λz=>nomatch z) (by decide)) qj))))
   (qp (wm (xm (pv 4) rfl))))))),?_⟩
 refine ⟨_,rfl,x,dx,_,rfl,hx,w4 (by decide +kernel) (by decide +kernel) (by decide +kernel),_,rfl,x,dr,dw,dd,R,W,D,n,rfl,hh,λv e=>?_,kx⟩
 obtain ⟨y,whose,p,pt,t,tv,r,hs,rfl,hW,hT,er,hR,hP,kc,k⟩:=k v e
 obtain ⟨dy,hy⟩:=hW.ob
 refine ⟨_,rfl,m,0,.int (1000000000000000000000000000000000000000000000000000000000000),some (1000000000000000000000000000000000000000000000000000000000000),rfl,.inr ⟨1000000000000000000000000000000000000000000000000000000000000,rfl,rfl⟩,λwi=>?_,kc⟩
 have dg:DGet H dr (.str whose) (w9 R (.inr whose)):=DGet.k (k:=.inr whose) hh.r
 rw [er] at dg
 refine exI rfl ⟨y,dy,exI rfl ⟨hy,wqs (by decide +kernel) (by decide +kernel) (by decide +kernel),exI rfl ⟨x,qw,dx,_,_,rfl,hx,T.clH,T.naHr,zp,exI rfl ⟨y,qx,dy,_,_,rfl,hy,T.clW,T.naWw,ju,dr,exI rfl ⟨dg,exI rfl ⟨y,r,p,t,whose,hs,pt,tv,m,rfl,hW,hT,hR,hP,wi.1,λH1 y' p' t' tv' ny s1 w1 hT'=>?_⟩⟩⟩⟩⟩⟩
 refine exI rfl ⟨x,dx,exI rfl ⟨s1 _ _ hx,w4 (by decide +kernel) (by decide +kernel) (by decide +kernel),λc1 n1=>λc2 n2=>(exI rfl (exI rfl ⟨qb,[(.inr n,.ref y')],rfl,(show 1≤15 by decide),?_⟩))⟩⟩
 have sc2:Same H1 (upd (upd H1 c1 (.dK [])) c2 (.dK [])):=λb o e=>by
  have e4:upd H1 c1 (.dK []) b=some o:=by rw [wx (qf e n1)];exact e
  rw [wx (qf e4 n2)]
  exact e4
 have w3:=w1.same sc2
 obtain ⟨H3,hH3⟩:∃H3,H3=upd (upd H1 c1 (.dK [])) c2 (.dK []):=⟨_,rfl⟩
 have s3:Same (upd (upd H1 c1 (.dK [])) c2 (.dK [])) H3:=by rw [hH3];exact Same.refl _
 rw [←hH3] at w3 ⊢
 have e0:y7 [] [((Sum.inr n:Key),V.ref y')]=[((Sum.inr n:Key),V.ref y')]:=rfl
 rw [e0]
 dsimp only [uy]
 refine Jp (n:=n) (E:=E) (hh.same s1) n1 n2 s3 w3 lR lW lD λH' tp q1 q2 b1 b2 b3 b4 b5 b6 b7 b8 b9 kb=>?_
 obtain ⟨dy',hy'⟩:=b9.ob
 exact exI rfl ⟨y',qx,dy',_,_,rfl,hy',T.clW,T.naWp,jy,k wi H' p' t' tv' (WDeed.pre ⟨y',tp,q1,q2,b1,b2,b3,b4,b5,b6,b7,b8,b9,kb⟩ s1) hT'⟩
end
section
variable {P:Ac}{w:Ah}{K:Aa}{mg:Str→Option Ag}{base:Heap}{qg:Aj}{qh:Aj}{qz:Aj}{qt:Aj}{qm:Aj}{wq:Aj}{ww:Aj}{q8:Aj}{wv:Aj}{q9:Aj}{qd:Aj}{wj:Aj}{qk:Aj}{qu:Aj}{qx:Aj}{qw:Aj}
theorem qzc {α:Type}(ms:List α)(d:α)(f:α→V)(p:α→Bool):Yp (λi=>p (ms.getD i d)) (ms.map f) (ms.map f).length=(ms.filter p).map f:=by
 unfold Yp
 rw [ae]
 have e:ms=(List.range ms.length).map λi=>ms.getD i d:=by
  refine List.ext_getElem (by rw [ae,aG]) λi h1 h2=>?_
  rw [List.getElem_map,List.getElem_range,al,au h1]
  rfl
 have e2:(ms.filter p).map f=(((List.range ms.length).map λi=>ms.getD i d).filter p).map f:=by rw [←e]
 rw [e2,List.filter_map,bY]
 refine cP λi hi=>?_
 have hi:=aL.mp (bO.mp hi).1
 show (ms.map f).getD i .non=f (ms.getD i d)
 rw [al,al,aM,au hi]
 rfl
def WksAt (CW:Aj)(H:Hp)(W:List (Key×V))(ss:List Str)(wh:Str→Str)(ps:Str→Int×Int):Prop:=W.map (·.1)=ss.map Sum.inr∧W.length<64∧∀s∈ss,∃y p t tv,w9 W (.inr s)=some (.ref y)∧WkAt CW H y (wh s) p (ps s) t tv
theorem WksAt.same {CW:Aj}{H H':Hp}{W:List (Key×V)}{ss:List Str}{wh:Str→Str}{ps:Str→Int×Int}(h:WksAt CW H W ss wh ps)(s:Same H H'):WksAt CW H' W ss wh ps:=⟨h.1,h.2.1,λn hn=>by
 obtain ⟨y,p,t,tv,e,a⟩:=h.2.2 n hn
 exact ⟨y,p,t,tv,e,a.same s⟩⟩
def spOn (C CW:Aj):Sp:=λvs H Q _=>∃(x dr dw dd:Aj) (R W:List (Key×V)) (D:List V) (n:Str) (ss:List Str) (wh:Str→Str) (ps:Str→Int×Int),vs=[.ref x,.str n]∧Hse C H x dr dw dd R W D∧WksAt CW H W ss wh ps ∧
 ∀(l:Aj) (H':Hp) (ms:List Str),H l=none→Same H H'→ms.Perm ss→H' l=some (.lst ((ms.filter λs=>decide (V.str (wh s)=V.str n)).map V.str))→Q (.ref l) H'
theorem Jw {f:Aj}{fd:Ad}(F:Fun K "walkers_on" "House.walkers_on" s_House_walkers_on f fd)(T:Txt K mg qg qh qz qt qm wq ww q8 wv q9 qd wj qk qu qx qw):FnOk P w K mg base (CXE P w) 1 f fd ["self","whose"] (spOn qw qx):=by
 have sc:=yg
 refine F.okX sc (λvs H Q E h=>by obtain ⟨x,dr,dw,dd,R,W,D,n,ss,wh,ps,rfl,_⟩:=h;rfl) (λcdv A outer s H vs Q E hr h=>?_)
 obtain ⟨x,dr,dw,dd,R,W,D,n,ss,wh,ps,rfl,hh,hw,k⟩:=h
 obtain ⟨dx,hx⟩:=hh.ob
 refine ⟨_,(qp (wm (quk (M:=[0,1]) rfl rfl (by walk_at "cap") (by walk_at "has") (by walk_at "cix") rfl (by decide +kernel) rfl (show List.Nodup (["name","self","whose"]:List Str) by decide +kernel) (qq1 (wn (km rfl) rfl T.sorted_ cQ (qq (xm (pv 0) rfl) qj))) (λ_ _ _ _ _=>(wf zn (Ws (K:=K) rfl (jz (vd hr) (Ws (K:=K) rfl (pv 1) rfl) (pv 0) (λ_ _=>rfl)) rfl) (pv 2) (wg _))) (λ_ _ _ _ _=>(pv 0))))),?_⟩
 refine exI rfl ⟨x,qw,dx,_,_,rfl,hx,T.clH,T.naHw,x8,dw,W,ss,rfl,.inl hh.w,hw.1,hw.2.1,λl ms nl pm srt=>?_⟩
 have s1:Same H (upd H l (.lst (ms.map V.str))):=Same.upd nl
 have f1:upd H l (.lst (ms.map V.str)) l=some (.lst (ms.map V.str)):=qb
 have lm:ms.length<64:=by
  have a:=cg List.length hw.1
  rw [ae,ae] at a
  have b:=pm.length_eq
  have c:=hw.2.1
  lia
 generalize upd H l (.lst (ms.map V.str))=H1 at s1 f1
 refine ⟨l,rfl,⟨_,SqL.of f1⟩,qvh (λi=>decide (V.str (wh (ms.getD i ""))=V.str n)) (SqL.of f1) (by rw [ae];lia) (λi v H' RR ev s' hR=>?_) (λi v H' RR ev ci s' hR=>(exI rfl (hR H' (Same.refl _)))) λp H' np s' fp=>?_⟩
 ·rw [aM] at ev
  cases em:ms[i]? with
  |none=>rw [em] at ev;cases ev
  |some m =>
   rw [em] at ev
   cases ev
   have eg:ms.getD i "" = m:=by rw [al,em];rfl
   obtain ⟨y,p,t,tv,e,a⟩:=hw.2.2 m (pm.mem_iff.mp (bx em))
   obtain ⟨dy,hy⟩:=a.ob
   have sa:=s1.trans s'
   have dg:DGet H' dw (.str m) (w9 W (.inr m)):=DGet.k (k:=.inr m) (sa _ _ hh.w)
   rw [e] at dg
   rw [eg] at hR
   exact exI rfl ⟨x,qw,dx,_,_,rfl,sa _ _ hx,T.clH,T.naHw,x8,exI rfl ⟨dw,exI rfl ⟨dg,y,qx,dy,_,_,rfl,sa _ _ hy,T.clW,T.naWw,ju,exI rfl ⟨rfl,_,rfl,hR H' (Same.refl _)⟩⟩⟩⟩
 ·rw [qzc ms "" V.str λs=>decide (V.str (wh s)=V.str n)] at fp
  exact k p H' ms (xg s1 np) (s1.trans s') pm fp
theorem Yy (hs:List Int):vj (hs.map V.int) none (some (-1))=hs.dropLast.map V.int:=by
 unfold vj
 rw [ae]
 have e:HT.sIx hs.length hs.length (some (-1))=hs.length-1:=by
  show (if (-1:Int)<0 then ((-1:Int)+(hs.length:Int)).toNat else min (-1:Int).toNat hs.length)=hs.length-1
  rw [am (by decide)]
  lia
 rw [e,HT.sIx_none,List.drop_zero,Nat.sub_zero,←eU,←List.dropLast_eq_take]
def Zc (C CR CW CN CL CS:Aj):Sp:=λvs H Q E=>∃(x dr dw dd:Aj) (R W:List (Key×V)) (D:List V) (n:Str) (ss:List Str) (wh:Str→Str) (ps:Str→Int×Int),vs=[.ref x,.str n]∧Hse C H x dr dw dd R W D∧Qk D∧R.length≤1000∧D.length≤1000000∧WksAt CW H W ss wh ps∧(∀s∈ss,0≤(ps s).1∧(ps s).1≤1000000∧1≤(ps s).2∧(ps s).2≤1000000)∧(w9 R (.inr n)=none→E (.ref CN) none H) ∧
 (∀v,w9 R (.inr n)=some v→∃r hs,v=.ref r∧RoadAt CR H r hs∧(¬ wt hs.dropLast→∀H',Same H H'→E (.ref CL) none H')∧(wt hs.dropLast →
  ((∃s∈ss,wh s=n∧((hs.dropLast.length:Int)-1)*(ps s).2<(ps s).1)→∀H',Same H H'→E (.ref CS) none H')∧((∀s∈ss,wh s=n→¬ ((hs.dropLast.length:Int)-1)*(ps s).2<(ps s).1)→∀H',RDeed C CR H H' x dr dw dd R W D n hs.dropLast→Q .non H')))
theorem qjc {f:Aj}{fd:Ad}(F:Fun K "narrow" "House.narrow" s_House_narrow f fd)(T:Txt K mg qg qh qz qt qm wq ww q8 wv q9 qd wj qk qu qx qw)(c_road_called:MCal P w K mg base qw "road_called" 1 (zb qw q9 true))(c_corners:MCal P w K mg base qu "corners" 1 (v3 qu))(c_Road:CCal P w K mg base "Road" qu 2 (y0 K qh qu))(c_width:MCal P w K mg base qu "width" 1 (yq qu))(c_walkers_on:MCal P w K mg base qw "walkers_on" 1 (spOn qw qx))(c_less:Cal P w K mg base "less" 2 (qzt K qz))(c_do:MCal P w K mg base qw "do" 2 (Y4 qw)) :
  FnOk P w K mg base (CXE P w) 4 f fd ["self","name"] (Zc qw qu qx q9 qh wj):=by
 have sc:=Wd
 refine F.okX sc (λvs H Q E h=>by obtain ⟨x,dr,dw,dd,R,W,D,n,ss,wh,ps,rfl,_⟩:=h;rfl) (λcdv A outer s H vs Q E hr h=>?_)
 obtain ⟨x,dr,dw,dd,R,W,D,n,ss,wh,ps,rfl,hh,rf,lR,lD,hw,hps,kx,k⟩:=h
 obtain ⟨dx,hx⟩:=hh.ob
 refine ⟨_,(qy (wr (i:=2) sc.nd rfl (by walk_at "loc") (k8 c_Road (hr.mono (by decide)) rfl qc (qq (j4 Qc (xp (w8 (pv 0) T.clH c_road_called (hr.mono (by decide)) qc (qq (pv 1) qj)) T.cl c_corners (hr.mono (by decide)) qc) u9 (Qx (qxz Yv qr))) qj)))
   (qy (wr (i:=3) sc.nd rfl (by walk_at "loc") (zq (qq (xp (pv 2) T.cl c_width (hr.mono (by decide)) qc) (qq qr qj))))
   (qy (xv (Z6 (wn (Y3 (K:=K) rfl rfl) rfl T.any_ PyProof.Rows.boot_any (qq (jg (M:=[0,3]) rfl rfl (by walk_at "cap") (by walk_at "has") (by walk_at "cix") rfl (by decide +kernel) rfl (show List.Nodup (["walker","self","end"]:List Str) by decide +kernel) (qq1 (w8 (pv 0) T.clH c_walkers_on (hr.mono (by decide)) qc (qq (pv 1) qj))) (λ_ _ _ _ _=>(wb c_less (hr.mono (by decide)) rfl qux (qq (pv 2) (qq (Ws (K:=K) rfl (jz (vd hr) (Ws (K:=K) rfl (pv 1) rfl) (pv 0) (λ_ _=>rfl)) rfl) qj))))) qj))) (qp (zw rfl T.x_Stood xn rfl T.g_Stood (qq xx qj))) wp)
   (qp (xj (w8 (pv 0) T.clH c_do (hr.mono (by decide)) qc (qq (yy (jq (pv 1) (pv 2) yj) rfl rfl (λz=>nomatch z) (by decide)) (qq vz qj)))))))),?_⟩
 refine ⟨_,rfl,x,dx,_,rfl,hx,w4 (by decide +kernel) (by decide +kernel) (by decide +kernel),_,rfl,x,dr,dw,dd,R,W,D,n,rfl,hh,λv e=>?_,kx⟩
 obtain ⟨r0,hs,rfl,hR,kl,k⟩:=k v e
 obtain ⟨dy,l,h1,h2⟩:=id hR
 refine ⟨r0,dy,exI rfl ⟨h1,x6 (by decide +kernel),r0,hs,rfl,hR,λp np=>?_⟩⟩
 have s1:Same H (upd H p (.lst (hs.map V.int))):=Same.upd np
 have f1:upd H p (.lst (hs.map V.int)) p=some (.lst (hs.map V.int)):=qb
 generalize upd H p (.lst (hs.map V.int))=H1 at s1 f1
 refine exI rfl (exI rfl ⟨p,exI rfl ⟨SqL.of f1,λp2 n2=>?_⟩⟩)
 have s2:Same H (upd H1 p2 (.lst (vj (hs.map V.int) none (some (-1))))):=s1.trans (Same.upd n2)
 have f2:upd H1 p2 (.lst (vj (hs.map V.int) none (some (-1)))) p2=some (.lst (hs.dropLast.map V.int)):=by rw [qb,Yy]
 generalize upd H1 p2 (.lst (vj (hs.map V.int) none (some (-1))))=H2 at s2 f2
 refine λr d0 nr nd0 ne0=>Wn (H:=H2) (hs:=hs.dropLast) f2 nr nd0 (λokl H3 s3 R3=>?_) λz H3 s3=>kl z H3 (s2.trans s3)
 obtain ⟨ks,kg⟩:=k okl
 have s23:=s2.trans s3
 obtain ⟨dr3,l3,r31,r32⟩:=id R3
 refine exI rfl ⟨r,dr3,exI rfl ⟨r31,x6 (by decide +kernel),r,hs.dropLast,rfl,R3,sz2,λe1 ne1=>?_⟩⟩
 have s4:Same H3 (upd H3 e1 (.tup [.int ((hs.dropLast.length:Int)-1),.int 1])):=Same.upd ne1
 have f4:upd H3 e1 (.tup [.int ((hs.dropLast.length:Int)-1),.int 1]) e1=some (.tup [.int ((hs.dropLast.length:Int)-1),.int 1]):=qb
 generalize upd H3 e1 (.tup [.int ((hs.dropLast.length:Int)-1),.int 1])=H4 at s4 f4
 have s24:=s23.trans s4
 refine exI rfl ⟨x,dx,exI rfl ⟨s24 _ _ hx,w4 (by decide +kernel) (by decide +kernel) (by decide +kernel),exI rfl ⟨x,dr,dw,dd,R,W,D,n,ss,wh,ps,rfl,hh.same s24,hw.same s24,λq H5 ms nq s5 pm fq=>?_⟩⟩⟩
 have s25:=s24.trans s5
 have ol:=okl.2.1
 have o2:=okl.1
 have lm:ms.length<64:=by
  have a:=cg List.length hw.1
  rw [ae,ae] at a
  have b:=pm.length_eq
  have c:=hw.2.1
  lia
 have lf:=cB (λs=>decide (V.str (wh s)=V.str n)) ms
 let g:Str→Bool:=λs=>decide (((hs.dropLast.length:Int)-1)*(ps s).2<(ps s).1*1)
 let gv:V→V:=λv=>match v with|.str s=>.bl (g s)|_=>.non
 refine ⟨q,rfl,⟨_,SqL.of fq⟩,qj1 gv (SqL.of fq) (by rw [ae];lia) (λv H' RR hv s' hR=>?_) λp6 n6=>?_⟩
 ·obtain ⟨m,hm,rfl⟩:=aO.mp hv
  have mm:m∈ss:=pm.mem_iff.mp (bO.mp hm).1
  obtain ⟨y,p,t,tv,e,a⟩:=hw.2.2 m mm
  obtain ⟨b0,b1,b2,b3⟩:=hps m mm
  obtain ⟨dy,hy⟩:=a.ob
  have sa:=s25.trans s'
  have dg:DGet H' dw (.str m) (w9 W (.inr m)):=DGet.k (k:=.inr m) (sa _ _ hh.w)
  rw [e] at dg
  have sm:∀z:Int,-(2 ^ 64)≤z→z≤2 ^ 64→Sm 65 z:=λz z1 z2=>Sm.small z1 z2 (by decide)
  exact ⟨_,rfl,_,rfl,x,qw,dx,_,_,rfl,sa _ _ hx,T.clH,T.naHw,x8,_,rfl,dw,_,rfl,dg,y,qx,dy,_,_,rfl,sa _ _ hy,T.clW,T.naWp,jy,e1,p,_,_,_,_,rfl,SqT.of (s' _ _ (s5 _ _ f4)),SqT.of (sa _ _ a.pt),(sm _ (by lia) (by lia)).ok (sm _ (by lia) (by lia)) (by decide),(sm _ (by lia) (by lia)).ok (sm 1 (by decide) (by decide)) (by decide),λ_ _=>hR,λz=>absurd z (by lia)⟩
 ·have s6:Same H5 (upd H5 p6 (.lst ((((ms.filter λs=>decide (V.str (wh s)=V.str n)).map V.str).map gv)))):=Same.upd n6
  have e6:(((ms.filter λs=>decide (V.str (wh s)=V.str n)).map V.str).map gv)=((ms.filter λs=>decide (V.str (wh s)=V.str n)).map g).map V.bl:=by
   rw [bY,bY]
   rfl
  have f6:upd H5 p6 (.lst ((((ms.filter λs=>decide (V.str (wh s)=V.str n)).map V.str).map gv))) p6=some (.lst (((ms.filter λs=>decide (V.str (wh s)=V.str n)).map g).map V.bl)):=by rw [qb,e6]
  generalize upd H5 p6 (.lst ((((ms.filter λs=>decide (V.str (wh s)=V.str n)).map V.str).map gv)))=H6 at s6 f6
  have s26:=s25.trans s6
  refine ⟨p6,(ms.filter λs=>decide (V.str (wh s)=V.str n)).map g,rfl,SqL.of f6,_,rfl,?_⟩
  cases ea:((ms.filter λs=>decide (V.str (wh s)=V.str n)).map g).any id with
  |true =>
   refine k4 ⟨sz1,ks ?_ H6 s26⟩
   obtain ⟨b,hb,hb1⟩:=cL.mp ea
   obtain ⟨s,hs',rfl⟩:=aO.mp hb
   obtain ⟨hs1,hs2⟩:=bO.mp hs'
   have hs2:=d6 hs2
   have:=d6 (show g s=true from hb1)
   exact ⟨s,pm.mem_iff.mp hs1,by cases hs2;rfl,by rw [Int.mul_one] at this;exact this⟩
  |false =>
   refine uc ?_
   refine exI rfl ⟨x,dx,exI rfl ⟨s26 _ _ hx,w4 (by decide +kernel) (by decide +kernel) (by decide +kernel),λc1 n1=>(exI rfl (exI rfl ⟨qb,[(.inr n,.ref r)],rfl,(show 1≤15 by decide),?_⟩))⟩⟩
   have R6:RoadAt qu H6 r hs.dropLast:=R3.same (s4.trans (s5.trans s6))
   have R7:RoadAt qu (upd H6 c1 (.dK [])) r hs.dropLast:=R6.same (Same.upd n1)
   obtain ⟨H7,hH7⟩:∃H7,H7=upd H6 c1 (.dK []):=⟨_,rfl⟩
   have s7:Same (upd H6 c1 (.dK [])) H7:=by rw [hH7];exact Same.refl _
   rw [←hH7] at R7 ⊢
   have e0:y7 [] [((Sum.inr n:Key),V.ref r)]=[((Sum.inr n:Key),V.ref r)]:=rfl
   rw [e0]
   have lW:W.length≤1000:=by have:=hw.2.1;lia
   refine Wm (E:=E) (hh.same s26) n1 s7 R7 okl rf lR lW lD λH' tp q1 q2 b1 b2 b3 b4 b5 b6 b7 b8 b9 kb=>kg (λs hs1 hs2 z=>?_) H' (RDeed.pre ⟨r,tp,q1,q2,b1,b2,b3,b4,b5,b6,b7,b8,b9,kb⟩ s26)
   have:((ms.filter λs=>decide (V.str (wh s)=V.str n)).map g).any id=true:=cL.mpr ⟨g s,aO.mpr ⟨s,bO.mpr ⟨pm.mem_iff.mpr hs1,aZ (by rw [hs2])⟩,rfl⟩,aZ (by rw [Int.mul_one];exact z)⟩
   rw [ea] at this
   cases this
def qwk (C:Aj):Sp:=λvs H Q _=>∃(x dr dw dd:Aj) (R W:List (Key×V)) (D:List V) (rs ws:List Str),vs=[.ref x]∧Hse C H x dr dw dd R W D∧R.map (·.1)=rs.map Sum.inr∧R.length<64∧W.map (·.1)=ws.map Sum.inr∧W.length<64 ∧
 ∀(q l1 l2:Aj) (ms1 ms2:List Str) (H':Hp),Same H H'→ms1.Perm rs→ms1.Pairwise (λx y=>¬ y.cps.toList<x.cps.toList)→ms2.Perm ws→ms2.Pairwise (λx y=>¬ y.cps.toList<x.cps.toList)→H' l1=some (.lst (ms1.map V.str))→H' l2=some (.lst (ms2.map V.str))→H' q=some (.tup [.ref l1,.ref l2])→Q (.ref q) H'
theorem qu4 {f:Aj}{fd:Ad}(F:Fun K "names" "House.names" s_House_names f fd)(T:Txt K mg qg qh qz qt qm wq ww q8 wv q9 qd wj qk qu qx qw):FnOk P w K mg base (CXE P w) 1 f fd ["self"] (qwk qw):=by
 have sc:=Zg
 refine F.okX sc (λvs H Q E h=>by obtain ⟨x,dr,dw,dd,R,W,D,rs,ws,rfl,_⟩:=h;rfl) (λcdv A outer s H vs Q E hr h=>?_)
 obtain ⟨x,dr,dw,dd,R,W,D,rs,ws,rfl,hh,eR,lR,eW,lW,k⟩:=h
 obtain ⟨dx,hx⟩:=hh.ob
 refine ⟨_,(qp (wm (zq (qq (wn (km rfl) rfl T.sorted_ cQ (qq (xm (pv 0) rfl) qj)) (qq (wn (km rfl) rfl T.sorted_ cQ (qq (xm (pv 0) rfl) qj)) qj))))),?_⟩
 refine exI rfl ⟨x,qw,dx,_,_,rfl,hx,T.clH,T.naHr,zp,dr,R,rs,rfl,.inl hh.r,eR,lR,λl1 ms1 n1 pm1 st1=>?_⟩
 have s1:Same H (upd H l1 (.lst (ms1.map V.str))):=Same.upd n1
 have f1:upd H l1 (.lst (ms1.map V.str)) l1=some (.lst (ms1.map V.str)):=qb
 generalize upd H l1 (.lst (ms1.map V.str))=H1 at s1 f1
 refine exI rfl ⟨x,qw,dx,_,_,rfl,s1 _ _ hx,T.clH,T.naHw,x8,dw,W,ws,rfl,.inl (s1 _ _ hh.w),eW,lW,λl2 ms2 n2 pm2 st2=>?_⟩
 have s2:Same H1 (upd H1 l2 (.lst (ms2.map V.str))):=Same.upd n2
 have f2:upd H1 l2 (.lst (ms2.map V.str)) l2=some (.lst (ms2.map V.str)):=qb
 generalize upd H1 l2 (.lst (ms2.map V.str))=H2 at s2 f2
 refine ⟨sz2,λq nq=>?_⟩
 have s3:Same H2 (upd H2 q (.tup [.ref l1,.ref l2])):=Same.upd nq
 exact k q l1 l2 ms1 ms2 _ (s1.trans (s2.trans s3)) pm1 st1 pm2 st2 (s3 _ _ (s2 _ _ f1)) (s3 _ _ f2) qb
end
section
variable {P:Ac}{w:Ah}{K:Aa}{mg:Str→Option Ag}{base:Heap}{qg:Aj}{qh:Aj}{qz:Aj}{qt:Aj}{qm:Aj}{wq:Aj}{ww:Aj}{q8:Aj}{wv:Aj}{q9:Aj}{qd:Aj}{wj:Aj}{qk:Aj}{qu:Aj}{qx:Aj}{qw:Aj}
def Due (k one two:Int)(row:List Int)(top b:Int)(o:Str×List Int×Int):Prop :=
 (k<3∧o=(("" : Str),row,trT row top b one.toNat))∨(k=3∧o=(("" : Str),row.set one.toNat two,top))∨(3<k∧k<6∧row.length=25∧o=(("line" : Str),row,top))∨(3<k∧k<6∧row.length≠25∧o=(("" : Str),row++[two],top)) ∨
 (6≤k∧¬ wt row.dropLast∧o=(("line" : Str),row,top))∨(6≤k∧wt row.dropLast∧((row.length:Int)-2)*b<top∧o=(("stood" : Str),row,top))∨(6≤k∧wt row.dropLast∧¬ ((row.length:Int)-2)*b<top∧o=(("" : Str),row.dropLast,top))
def wq2:Sp:=λvs H Q _=>∃(p:Aj) (row:List Int) (k one two top b:Int),vs=[.int k,.int one,.int two,.ref p,.int top,.int b]∧H p=some (.lst (row.map V.int))∧wt row∧1≤b∧b≤40∧xt row top b∧0≤one∧one≤1000∧(k=3→one<row.length) ∧
 ∀o q p' H',Due k one two row top b o→Same H H'→H' q=some (.tup [.str o.1,.ref p',.int o.2.2])→H' p'=some (.lst (o.2.1.map V.int))→Q (.ref q) H'
theorem sz3 {x y z:V}:[x,y,z].length≤sizeLine:=by show 3≤sizeLine;decide
theorem wx6 (hs:List Int)(i:Nat)(v:Int)(h:i<hs.length):(vj (hs.map V.int) none (some (i:Int))++[V.int v])++vj (hs.map V.int) (some ((i:Int)+1)) none=(hs.set i v).map V.int:=by
 unfold vj
 rw [HT.sIx_nat,show ((i:Int)+1)=((i+1:Nat):Int) by lia,HT.sIx_nat,HT.sIx_none,HT.sIx_none,ae,Nat.min_eq_left (by lia),Nat.min_eq_left (by lia),List.drop_zero,Nat.sub_zero,List.take_of_length_le (l:=(hs.map V.int).drop (i+1)) (by rw [List.length_drop,ae];exact af _)]
 rw [List.set_eq_take_append_cons_drop,am h,aR,eU,aD,List.map_drop,List.append_assoc]
 rfl
theorem ok_due {f:Aj}{fd:Ad}(F:Fun K "_law_due" "_law_due" s__law_due f fd)(T:Txt K mg qg qh qz qt qm wq ww q8 wv q9 qd wj qk qu qx qw)(c__law_trace:Cal P w K mg base "_law_trace" 2 (Y0 K))(c__law_after:Cal P w K mg base "_law_after" 1 (qw5 K)) :
  FnOk P w K mg base (CXE P w) 3 f fd ["_law_kind","_law_one","_law_two","_law_row","_law_top","_law_bottom"] wq2:=by
 have sc:=qxx
 refine F.okX sc (λvs H Q E h=>by obtain ⟨p,row,k,one,two,top,b,rfl,_⟩:=h;rfl) (λcdv A outer s H vs Q E hr h=>?_)
 obtain ⟨p,row,k,one,two,top,b,rfl,hp,ok,b1,b2,on,o1,o2,o3,kk⟩:=h
 have ol:=ok.2.1
 have o0:=ok.1
 have lm:(row.map V.int).length=row.length:=ae _
 have big:(1000000:Nat)<sizeLine:=by decide
 have sm:∀z:Int,-(2 ^ 64)≤z→z≤2 ^ 64→Sm 65 z:=λz z1 z2=>Sm.small z1 z2 (by decide)
 refine ⟨_,(qy (wr (i:=6) sc.nd rfl (by walk_at "loc") (wy zv (wn w6 rfl T.len_ aE (qq (pv 3) qj)) qr))
   (qy (xv (wf vn (pv 0) qr (wg _)) (qy (jv (wb c__law_trace (hr.mono (by decide)) rfl qc (qq (pv 3) (qq (pv 4) (qq (pv 5) qj)))) (v8 rfl (xu (xk (i:=7) sc.nd rfl (by walk_at "loc")) (xu (xk (i:=8) sc.nd rfl (by walk_at "loc")) vk))))
   (qp (wm (zq (qq xx (qq (pv 3) (qq (wb c__law_after (hr.mono (by decide)) rfl qc (qq (pv 7) (qq (pv 8) (qq (pv 1) qj)))) qj))))))) wp)
   (qy (xv (wf zn (pv 0) qr (wg _)) (qp (wm (zq (qq xx (qq (wy qwt (wy qwt (j4 Qc (pv 3) u9 (Qx (pv 1))) (k6 (qq (pv 2) qj))) (j4 Qc (pv 3) (Qx (wy xz (pv 1) qr)) u9)) (qq (pv 4) qj)))))) wp)
   (qy (xv (wf vn (pv 0) qr (wg _)) (qy (xv (wf zn (pv 6) qr (wg _)) (qp (wm (zq (qq xx (qq (pv 3) (qq (pv 4) qj)))))) wp)
   (qp (wm (zq (qq xx (qq (wy qwt (pv 3) (k6 (qq (pv 2) qj))) (qq (pv 4) qj))))))) wp)
   (qy (xv (PW.pt (js (wf zn (pv 6) qr (wg _)) (v5 (wf j9 (wn (yn rfl) rfl T.max_ di (qq (j4 Qc (pv 3) u9 (Qx (qxz Yv qr))) qj)) (wy zv (pv 6) qr) (wg _))))) (qp (wm (zq (qq xx (qq (pv 3) (qq (pv 4) qj)))))) wp)
   (qy (xv (wf j9 (pv 4) (wy xy (wy zv (pv 6) qr) (pv 5)) (wg _)) (qp (wm (zq (qq xx (qq (pv 3) (qq (pv 4) qj)))))) wp)
   (qp (wm (zq (qq xx (qq (j4 Qc (pv 3) u9 (Qx (qxz Yv qr))) (qq (pv 4) qj)))))))))))),?_⟩
 refine exI rfl ⟨p,exI rfl ⟨.inl (SqL.of hp),wc rfl rfl ?_⟩⟩
 rw [lm]
 refine exI rfl (wc rfl rfl (exI rfl (zm (λq1=>?_) (λq1=>?_))))
 ·refine ⟨_,rfl,_,rfl,_,rfl,p,row,top,b,rfl,SqL.of hp,ok,b1,by lia,on,λn u q l H1 d1 u1 e1 nl s1 ll fq fl=>?_⟩
  refine ⟨q,exI rfl ⟨SqT.of fq,rfl,_,_,rfl,_,_,rfl,rfl,?_⟩⟩
  refine ⟨_,rfl,_,rfl,_,rfl,_,rfl,l,trT row top b,n,u,one,rfl,fl,u1,e1,λi j e=>?_,o1,sz3,λz nz=>?_⟩
  ·show vg row (trT row top b i) b=vg row (trT row top b j) b
   rw [e]
  ·exact kk (("" : Str),row,trT row top b one.toNat) z p _ (.inl ⟨by lia,rfl⟩) (s1.trans (Same.upd nz)) qb ((Same.upd nz) _ _ (s1 _ _ hp))
 ·refine exI rfl ⟨rfl,_,rfl,z5 (λq2=>?_) (λq2=>?_)⟩
  ·have oi:one=((one.toNat:Nat):Int):=by lia
   have lt:=o3 (by lia)
   refine exI rfl (exI rfl (exI rfl ⟨p,exI rfl ⟨SqL.of hp,λp1 n1=>?_⟩⟩))
   have s1:Same H (upd H p1 (.lst (vj (row.map V.int) none (some one)))):=Same.upd n1
   have f1:upd H p1 (.lst (vj (row.map V.int) none (some one))) p1=some (.lst (vj (row.map V.int) none (some one))):=qb
   generalize upd H p1 (.lst (vj (row.map V.int) none (some one)))=H1 at s1 f1
   refine exI rfl ⟨sz1,λp2 n2=>?_⟩
   have s2:=s1.trans (Same.upd (o:=.lst [.int two]) n2)
   have f12:=(Same.upd (H:=H1) (o:=.lst [.int two]) n2) _ _ f1
   have f2:upd H1 p2 (.lst [.int two]) p2=some (.lst [.int two]):=qb
   generalize upd H1 p2 (.lst [.int two])=H2 at s2 f12 f2
   have lc:=jr (row.map V.int) none (some one)
   rw [lm] at lc
   refine ⟨p1,p2,wc rfl rfl ⟨f12,f2,(by show (vj (row.map V.int) none (some one)).length+1≤_;lia),λp3 n3=>?_⟩⟩
   have s3:=s2.trans (Same.upd (o:=.lst (vj (row.map V.int) none (some one)++[.int two])) n3)
   have f3:upd H2 p3 (.lst (vj (row.map V.int) none (some one)++[.int two])) p3=some (.lst (vj (row.map V.int) none (some one)++[.int two])):=qb
   generalize upd H2 p3 (.lst (vj (row.map V.int) none (some one)++[.int two]))=H3 at s3 f3
   refine exI rfl (exI rfl (wc rfl rfl (exI rfl ⟨p,exI rfl ⟨SqL.of (s3 _ _ hp),λp4 n4=>?_⟩⟩)))
   have s4:=s3.trans (Same.upd (o:=.lst (vj (row.map V.int) (some (one+1)) none)) n4)
   have f34:=(Same.upd (H:=H3) (o:=.lst (vj (row.map V.int) (some (one+1)) none)) n4) _ _ f3
   have f4:upd H3 p4 (.lst (vj (row.map V.int) (some (one+1)) none)) p4=some (.lst (vj (row.map V.int) (some (one+1)) none)):=qb
   generalize upd H3 p4 (.lst (vj (row.map V.int) (some (one+1)) none))=H4 at s4 f34 f4
   have lc2:=jr (row.map V.int) (some (one+1)) none
   rw [lm] at lc2
   refine ⟨p3,p4,wc rfl rfl ⟨f34,f4,(by rw [aN];show (vj (row.map V.int) none (some one)).length+1+_≤_;lia),λp5 n5=>?_⟩⟩
   have e5:(vj (row.map V.int) none (some one)++[V.int two])++vj (row.map V.int) (some (one+1)) none=(row.set one.toNat two).map V.int:=by
    rw [oi]
    have:=wx6 row one.toNat two (by lia)
    rw [bV]
    exact this
   rw [e5]
   have s5:=s4.trans (Same.upd (o:=.lst ((row.set one.toNat two).map V.int)) n5)
   have f5:upd H4 p5 (.lst ((row.set one.toNat two).map V.int)) p5=some (.lst ((row.set one.toNat two).map V.int)):=qb
   generalize upd H4 p5 (.lst ((row.set one.toNat two).map V.int))=H5 at s5 f5
   exact exI rfl ⟨sz3,λz nz=>kk (("" : Str),row.set one.toNat two,top) z p5 _ (.inr (.inl ⟨by lia,rfl⟩)) (s5.trans (Same.upd nz)) qb ((Same.upd nz) _ _ f5)⟩
  ·refine exI rfl (wc rfl rfl (exI rfl (zm (λq3=>?_) (λq3=>?_))))
   ·refine exI rfl ⟨rfl,_,rfl,z5 (λq4=>?_) (λq4=>?_)⟩
    ·exact exI rfl (exI rfl ⟨sz3,λz nz=>kk (("line" : Str),row,top) z p _ (.inr (.inr (.inl ⟨by lia,by lia,by lia,rfl⟩))) (Same.upd nz) qb ((Same.upd nz) _ _ hp)⟩)
    ·refine exI rfl (exI rfl ⟨sz1,λp2 n2=>?_⟩)
     have s2:=Same.upd (o:=.lst [.int two]) n2
     have f2:upd H p2 (.lst [.int two]) p2=some (.lst [.int two]):=qb
     generalize upd H p2 (.lst [.int two])=H2 at s2 f2
     refine ⟨p,p2,wc rfl rfl ⟨s2 _ _ hp,f2,(by rw [lm];show row.length+1≤_;lia),λp3 n3=>?_⟩⟩
     rw [show row.map V.int++[V.int two]=(row++[two]).map V.int by rw [aR];rfl]
     have s3:=s2.trans (Same.upd (o:=.lst ((row++[two]).map V.int)) n3)
     have f3:upd H2 p3 (.lst ((row++[two]).map V.int)) p3=some (.lst ((row++[two]).map V.int)):=qb
     generalize upd H2 p3 (.lst ((row++[two]).map V.int))=H3 at s3 f3
     exact exI rfl ⟨sz3,λz nz=>kk (("" : Str),row++[two],top) z p3 _ (.inr (.inr (.inr (.inl ⟨by lia,by lia,by lia,rfl⟩)))) (s3.trans (Same.upd nz)) qb ((Same.upd nz) _ _ f3)⟩
   ·have dl:row.dropLast.length=row.length-1:=dq
    refine exI rfl ⟨rfl,_,rfl,z5 (λq4=>?_) (λq4=>?_)⟩
    ·refine k4 ?_
     exact exI rfl (exI rfl ⟨sz3,λz nz=>kk (("line" : Str),row,top) z p _ (.inr (.inr (.inr (.inr (.inl ⟨by lia,λy=>by have:=y.1;lia,rfl⟩))))) (Same.upd nz) qb ((Same.upd nz) _ _ hp)⟩)
    ·refine exI rfl (exI rfl (exI rfl ⟨p,exI rfl ⟨SqL.of hp,λp1 n1=>?_⟩⟩))
     rw [Yy]
     have s1:Same H (upd H p1 (.lst (row.dropLast.map V.int))):=Same.upd n1
     have f1:upd H p1 (.lst (row.dropLast.map V.int)) p1=some (.lst (row.dropLast.map V.int)):=qb
     generalize upd H p1 (.lst (row.dropLast.map V.int))=H1 at s1 f1
     refine ⟨p1,row.dropLast,rfl,SqL.of f1,by lia,λm hm hmx=>?_⟩
     refine exI rfl (wc rfl rfl (wc rfl rfl (exI rfl (zm (λq5=>?_) (λq5=>?_)))))
     ·exact exI rfl (exI rfl ⟨sz3,λz nz=>kk (("line" : Str),row,top) z p _ (.inr (.inr (.inr (.inr (.inl ⟨by lia,λy=>by have:=(y.2.2 m hm).2;lia,rfl⟩))))) (s1.trans (Same.upd nz)) qb ((Same.upd nz) _ _ (s1 _ _ hp))⟩)
     ·have lk:wt row.dropLast:=⟨by lia,by lia,λh hh=>by
       have a:=ok.2.2 h (List.dropLast_subset _ hh)
       have c:=hmx h hh
       lia⟩
      refine exI rfl (exI rfl (wc rfl rfl (exI rfl (wc rfl rfl ⟨(sm _ (by lia) (by lia)).ok (sm _ (by lia) (by lia)) (by decide),wc rfl rfl (exI rfl (zm (λq6=>?_) (λq6=>?_)))⟩))))
      ·exact exI rfl (exI rfl ⟨sz3,λz nz=>kk (("stood" : Str),row,top) z p _ (.inr (.inr (.inr (.inr (.inr (.inl ⟨by lia,lk,by rw [show (row.length:Int)-2=(row.length:Int)-1-1 by lia];exact q6,rfl⟩)))))) (s1.trans (Same.upd nz)) qb ((Same.upd nz) _ _ (s1 _ _ hp))⟩)
      ·refine exI rfl (exI rfl (exI rfl ⟨p,exI rfl ⟨SqL.of (s1 _ _ hp),λp2 n2=>?_⟩⟩))
       rw [Yy]
       have s2:=s1.trans (Same.upd (o:=.lst (row.dropLast.map V.int)) n2)
       have f2:upd H1 p2 (.lst (row.dropLast.map V.int)) p2=some (.lst (row.dropLast.map V.int)):=qb
       generalize upd H1 p2 (.lst (row.dropLast.map V.int))=H2 at s2 f2
       exact exI rfl ⟨sz3,λz nz=>kk (("" : Str),row.dropLast,top) z p2 _ (.inr (.inr (.inr (.inr (.inr (.inr ⟨by lia,lk,by rw [show (row.length:Int)-2=(row.length:Int)-1-1 by lia];exact q6,rfl⟩)))))) (s2.trans (Same.upd nz)) qb ((Same.upd nz) _ _ f2)⟩
end
section
variable {P:Ac}{w:Ah}{K:Aa}{mg:Str→Option Ag}{base:Heap}{qg:Aj}{qh:Aj}{qz:Aj}{qt:Aj}{qm:Aj}{wq:Aj}{ww:Aj}{q8:Aj}{wv:Aj}{q9:Aj}{qd:Aj}{wj:Aj}{qk:Aj}{qu:Aj}{qx:Aj}{qw:Aj}
theorem Z3 {k:Key}{v:V}:w9 [(k,v)] k=some v:=by
 unfold w9
 rw [bS,aZ rfl]
 rfl
theorem put1 {k:Key}{v v':V}:zf [(k,v)] k v'=[(k,v')]:=by
 unfold zf
 simp
def R1 (r:Aj):List (Key×V):=[(.inr ("r" : Str),.ref r)]
def W1 (y:Aj):List (Key×V):=[(.inr ("w" : Str),.ref y)]
def TOut (C CR CW:Aj)(H H':Hp)(x dr dw dd r y:Aj)(D:List V)(row:List Int)(top b:Int)(o:Str×List Int×Int):Prop :=
 (o.1≠("" : Str)∧Same H H')∨(o.1=("" : Str)∧xt o.2.1 o.2.2 b∧wt o.2.1∧((o.2.2=top∧RDeed C CR H H' x dr dw dd (R1 r) (W1 y) D "r" o.2.1)∨(o.2.1=row∧∃p t tv,WDeed C CW H H' x dr dw dd (R1 r) (W1 y) D "w" "r" p (wu o.2.2 b) t tv∧TmOk tv)))
def qz4 (C CR CW:Aj):Sp:=λvs H Q _=>∃(x dr dw dd r y p t:Aj) (tv:List (List Key×V)) (D:List V) (row:List Int) (k one two top b:Int) (o:Str×List Int×Int),vs=[.ref x,.int k,.int one,.int two]∧Hse C H x dr dw dd (R1 r) (W1 y) D∧Qk D∧D.length≤1000000∧RoadAt CR H r row∧wt row∧WkAt CW H y "r" p (wu top b) t tv∧TmOk tv∧1≤b∧b≤40∧xt row top b∧0≤one∧one≤1000∧(k=3→one<row.length)∧0≤two∧two<row.length∧Due k one two row top b o ∧
 ∀H',TOut C CR CW H H' x dr dw dd r y D row top b o→Q (.str o.1) H'
theorem Zj {t b:Int}(h:1≤b):(wu t b).2≤b:=by
 have e:=uh (t:=t) h
 have g:=zt (t:=t) h
 have l:=low1 (t:=t) h
 show b/gOf t b≤b
 exact Int.ediv_le_self _ (by lia)
theorem qvq {row:List Int}{top b:Int}(ok:wt row)(b1:1≤b)(b2:b≤40)(on:xt row top b):HPt row (wu top b):=⟨ok,⟨low1 b1,Int.le_refl _,qwz b1,qq0 b1 on⟩,by have:=Zj (t:=top) b1;lia⟩
theorem beyond {top b w:Int}(b1:1≤b):w*b<top↔w*(wu top b).2<(wu top b).1:=by
 have g:=zt (t:=top) b1
 have e1:=uh (t:=top) b1
 have e2:=Js (t:=top) (b:=b)
 have e3:w*b=gOf top b*(w*(wu top b).2):=by
  conv=>lhs;rw [←e1]
  show w*(gOf top b*(b/gOf top b))=gOf top b*(w*(b/gOf top b))
  rw [←d8,dJ w,d8]
 have e4:top=gOf top b*(wu top b).1:=e2.symm
 rw [e3]
 conv=>lhs;rhs;rw [e4]
 generalize w*(wu top b).2=u
 generalize (wu top b).1=v
 constructor
 ·intro h
  exact Int.lt_of_mul_lt_mul_left h (by lia)
 ·intro h
  exact cG h (by lia)
theorem wqq {row:List Int}(ok:wt row){i:Nat}{v:Int}(h0:0≤v)(h1:v<row.length):wt (row.set i v):=by
 refine ⟨by rw [cR];exact ok.1,by rw [cR];exact ok.2.1,λh hh=>?_⟩
 rw [cR]
 rcases List.mem_or_eq_of_mem_set hh with hh|hh
 ·exact ok.2.2 h hh
 ·lia
theorem qxv {row:List Int}(ok:wt row){v:Int}(h0:0≤v)(h1:v<row.length):wt (row++[v])↔row.length≠25:=by
 have a:=ok.1
 have b:=ok.2.1
 constructor
 ·intro h
  have:=h.2.1
  rw [aN,bq] at this
  lia
 ·intro h
  refine ⟨by rw [aN,bq];lia,by rw [aN,bq];lia,λz hz=>?_⟩
  rw [aN,bq]
  rcases bj.mp hz with hz|hz
  ·have:=ok.2.2 z hz
   lia
  ·have:=aC.mp hz
   lia
theorem wxd {f:Aj}{fd:Ad}(F:Fun K "_law_told" "_law_told" s__law_told f fd)(T:Txt K mg qg qh qz qt qm wq ww q8 wv q9 qd wj qk qu qx qw)(c_go:MCal P w K mg base qw "go" 8 (spGo qw qu qx qd qm))(c_bend:MCal P w K mg base qw "bend" 4 (qkb qw qu q9 qh))(c_widen:MCal P w K mg base qw "widen" 4 (qw0 qw qu q9 qh))(c_narrow:MCal P w K mg base qw "narrow" 4 (Zc qw qu qx q9 qh wj)) :
  FnOk P w K mg base (CXE P w) 9 f fd ["_law_house","_law_kind","_law_one","_law_two"] (qz4 qw qu qx):=by
 have sc:=qwy
 refine F.okX sc (λvs H Q E h=>by obtain ⟨x,dr,dw,dd,r,y,p,t,tv,D,row,k,one,two,top,b,o,rfl,_⟩:=h;rfl) (λcdv A outer s H vs Q E hr h=>?_)
 obtain ⟨x,dr,dw,dd,r,y,p,t,tv,D,row,k,one,two,top,b,o,rfl,hh,rf,lD,hR,ok,hW,hT,b1,b2,on,o1,o2,o3,t1,t2,due,kk⟩:=h
 obtain ⟨dx,hx⟩:=hh.ob
 have lR:(R1 r).length≤1000:=by show 1≤1000;decide
 have lW:(W1 y).length≤1000:=by show 1≤1000;decide
 have vr:w9 (R1 r) (.inr ("r" : Str))=some (.ref r):=Z3
 have vw:w9 (W1 y) (.inr ("w" : Str))=some (.ref y):=Z3
 have nsm:("line" : Str) ≠ "" := by decide +kernel
 have nss:("stood" : Str) ≠ "" := by decide +kernel
 have ao:=ok.1
 have bo:=ok.2.1
 refine ⟨_,(qy (wr (i:=4) sc.nd rfl (by walk_at "loc") xx)
   (qy (wwd rfl rfl (λpn xe E hE hO=>(qp (xv (wf vn (pv 1) qr (wg _)) (qp (xj (w8 (pv 0) T.clH c_go (hr.mono (by decide)) hE (qq xx (qq (pv 2) qj))))) (qp (xv (wf zn (pv 1) qr (wg _)) (qp (xj (w8 (pv 0) T.clH c_bend (hr.mono (by decide)) hE (qq xx (qq (pv 2) (qq (pv 3) qj)))))) (qp (xv (wf vn (pv 1) qr (wg _)) (qp (xj (w8 (pv 0) T.clH c_widen (hr.mono (by decide)) hE (qq xx (qq (pv 3) qj))))) (qp (xj (w8 (pv 0) T.clH c_narrow (hr.mono (by decide)) hE (qq xx qj))))))))))) (.cons rfl T.g_BadLine (λe=>(qp (wr (i:=4) sc.nd rfl (by walk_at "loc") xx))) (.cons rfl T.g_Stood (λe=>(qp (wr (i:=4) sc.nd rfl (by walk_at "loc") xx))) (.cons rfl T.g_RoadError (λe=>(qp (wr (i:=4) sc.nd rfl (by walk_at "loc") xx))) .nil (by decide)) (by decide)) (by decide)))
   (qp (wm (pv 4))))),?_⟩
 refine exI rfl (wc rfl rfl (exI rfl (zm (λq1=>?_) (λq1=>?_))))
 ·refine exI rfl ⟨x,dx,exI rfl ⟨hx,w4 (by decide +kernel) (by decide +kernel) (by decide +kernel),exI rfl ⟨x,dr,dw,dd,_,_,D,"w",one,rfl,hh,lR,lW,lD,(λe=>by rw [vw] at e;cases e),λv e=>?_⟩⟩⟩
  rw [vw] at e
  cases e
  refine ⟨y,"r",p,wu top b,t,tv,r,row,rfl,hW,hT,vr,hR,qvq ok b1 b2 on,(λz=>absurd ⟨o1,λm hm=>by cases hm;lia⟩ z),λ_ H' p' t' tv' wd hT'=>(exI rfl ?_)⟩
  rcases due with ⟨_,rfl⟩|⟨z,_⟩|⟨z,_⟩|⟨z,_⟩|⟨z,_⟩|⟨z,_⟩|⟨z,_⟩
  ·refine kk H' (.inr ⟨rfl,uk ok b1 on _,ok,.inr ⟨rfl,p',t',tv',?_,hT'⟩⟩)
   show WDeed _ _ _ _ _ _ _ _ _ _ _ _ _ _ (wu (trT row top b one.toNat) b) _ _
   rw [qq7 b1]
   exact wd
  all_goals lia
 ·refine exI rfl ⟨rfl,_,rfl,z5 (λq2=>?_) (λq2=>?_)⟩
  ·refine exI rfl ⟨x,dx,exI rfl ⟨hx,w4 (by decide +kernel) (by decide +kernel) (by decide +kernel),exI rfl (exI rfl ⟨x,dr,dw,dd,_,_,D,"r",one,two,rfl,hh,rf,lR,lW,lD,(λe=>by rw [vr] at e;cases e),λv e=>?_⟩)⟩⟩
   rw [vr] at e
   cases e
   have lt:=o3 (by lia)
   have ls:=wqq ok (i:=one.toNat) t1 t2
   refine ⟨r,row,rfl,hR,ok,(λz=>absurd ⟨o1,lt⟩ z),λ_ _=>⟨λ_ H' rd=>(exI rfl ?_),λz=>absurd ls z⟩⟩
   rcases due with ⟨z,_⟩|⟨_,rfl⟩|⟨z,_⟩|⟨z,_⟩|⟨z,_⟩|⟨z,_⟩|⟨z,_⟩
   ·lia
   ·refine kk H' (.inr ⟨rfl,?_,ls,.inl ⟨rfl,rd⟩⟩)
    show xt (row.set one.toNat two) top b
    unfold xt
    rw [cR]
    exact on
   all_goals lia
  ·refine exI rfl (wc rfl rfl (exI rfl (zm (λq3=>?_) (λq3=>?_))))
   ·refine exI rfl ⟨x,dx,exI rfl ⟨hx,w4 (by decide +kernel) (by decide +kernel) (by decide +kernel),exI rfl ⟨x,dr,dw,dd,_,_,D,"r",two,rfl,hh,rf,lR,lW,lD,(λe=>by rw [vr] at e;cases e),λv e=>?_⟩⟩⟩
    rw [vr] at e
    cases e
    refine ⟨r,row,rfl,hR,ok,λla H' rd=>(exI rfl ?_),λla H' s1=>(exI rfl (.inl ⟨jj T.x_BadLine,_,rfl,?_⟩))⟩
    ·have ne:=(qxv ok t1 t2).mp la
     rcases due with ⟨z,_⟩|⟨z,_⟩|⟨_,_,z,_⟩|⟨_,_,_,rfl⟩|⟨z,_⟩|⟨z,_⟩|⟨z,_⟩
     ·lia
     ·lia
     ·lia
     ·refine kk H' (.inr ⟨rfl,?_,la,.inl ⟨rfl,rd⟩⟩)
      refine ⟨on.1,?_⟩
      show top≤(((row++[two]).length:Int)-1)*b
      rw [aN,bq]
      have:=on.2
      have e:(((row.length+1:Nat):Int)-1)*b=((row.length:Int)-1)*b+b:=by
       rw [show (((row.length+1:Nat):Int)-1)=((row.length:Int)-1)+1 by lia,Int.add_mul,Int.one_mul]
      lia
     all_goals lia
    ·have ne:¬ row.length≠25:=λz=>la ((qxv ok t1 t2).mpr z)
     rcases due with ⟨z,_⟩|⟨z,_⟩|⟨_,_,_,rfl⟩|⟨_,_,z,_⟩|⟨z,_⟩|⟨z,_⟩|⟨z,_⟩
     ·lia
     ·lia
     ·exact kk H' (.inl ⟨nsm,s1⟩)
     all_goals lia
   ·have wks:WksAt qx H (W1 y) ["w"] (λ_ => "r") (λ_=>wu top b):=⟨rfl,by show 1<64;decide,λs hs=>by
     rw [aC.mp hs]
     exact ⟨y,p,t,tv,vw,hW⟩⟩
    have hp:=qvq ok b1 b2 on
    have rg:=hp.rng
    have dl:row.dropLast.length=row.length-1:=dq
    refine exI rfl ⟨x,dx,exI rfl ⟨hx,w4 (by decide +kernel) (by decide +kernel) (by decide +kernel),x,dr,dw,dd,_,_,D,"r",["w"],_,_,rfl,hh,rf,lR,lD,wks,(λs hs=>⟨rg.1,by lia,rg.2.2.1,by lia⟩),(λe=>by rw [vr] at e;cases e),λv e=>?_⟩⟩
    rw [vr] at e
    cases e
    have be:=beyond (top:=top) (w:=(row.length:Int)-2) b1
    have ew:(row.dropLast.length:Int)-1=(row.length:Int)-2:=by lia
    refine ⟨r,row,rfl,hR,λla H' s1=>(exI rfl (.inl ⟨jj T.x_BadLine,_,rfl,?_⟩)),λla=>⟨λ⟨s,_,_,bs⟩ H' s1=>(exI rfl (.inr ⟨qv3 T.x_BadLine T.ms,.inl ⟨jj T.x_Stood,_,rfl,?_⟩⟩)),λbs H' rd=>(exI rfl ?_)⟩⟩
    ·rcases due with ⟨z,_⟩|⟨z,_⟩|⟨_,z,_⟩|⟨_,z,_⟩|⟨_,_,rfl⟩|⟨_,z,_⟩|⟨_,z,_⟩
     ·lia
     ·lia
     ·lia
     ·lia
     ·exact kk H' (.inl ⟨nsm,s1⟩)
     ·exact absurd z la
     ·exact absurd z la
    ·rw [ew] at bs
     rcases due with ⟨z,_⟩|⟨z,_⟩|⟨_,z,_⟩|⟨_,z,_⟩|⟨_,z,_⟩|⟨_,_,_,rfl⟩|⟨_,_,z,_⟩
     ·lia
     ·lia
     ·lia
     ·lia
     ·exact absurd la z
     ·exact kk H' (.inl ⟨nss,s1⟩)
     ·exact absurd (be.mpr bs) z
    ·have bs:=bs "w" (aC.mpr rfl) rfl
     rw [ew] at bs
     rcases due with ⟨z,_⟩|⟨z,_⟩|⟨_,z,_⟩|⟨_,z,_⟩|⟨_,z,_⟩|⟨_,_,z,_⟩|⟨_,_,z,rfl⟩
     ·lia
     ·lia
     ·lia
     ·lia
     ·exact absurd la z
     ·exact absurd (be.mp z) bs
     ·refine kk H' (.inr ⟨rfl,⟨on.1,?_⟩,la,.inl ⟨rfl,rd⟩⟩)
      show top≤((row.dropLast.length:Int)-1)*b
      rw [ew]
      lia
end
section
variable {P:Ac}{w:Ah}{K:Aa}{mg:Str→Option Ag}{base:Heap}{qg:Aj}{qh:Aj}{qz:Aj}{qt:Aj}{qm:Aj}{wq:Aj}{ww:Aj}{q8:Aj}{wv:Aj}{q9:Aj}{qd:Aj}{wj:Aj}{qk:Aj}{qu:Aj}{qx:Aj}{qw:Aj}
theorem qqw (ns:List Int):PyData.eqv (.list (ns.map .int)) (.list (ns.map .int))=true:=by
 rw [PyData.eqv,Zu,aZ rfl]
theorem W7 {K:Aa}{H:Hp}{p:Aj}{ns:List Int}(h:SqL K H p (ns.map V.int)):RD K H (.list (ns.map .int)) (.ref p):=by
 rw [RD]
 exact ⟨p,exI rfl ⟨h,qkh ns⟩⟩
theorem um (ns:List Int):(PyData.list (ns.map .int)).canLay0=true:=by
 rw [PyData.canLay0]
 exact qxg ns
theorem qxb (ns ms:List Int):min (PyData.list (ns.map .int)).depth (PyData.list (ms.map .int)).depth≤60:=by
 have h1:=qx7 ns
 simp only [PyData.depth]
 lia
structure Deed where
 tp:Aj
 q1:Aj
 q2:Aj
 cs1:List (Key×V)
 cs2:List (Key×V)
def DeedAt (H:Hp)(d:Deed):Prop:=H d.tp=some (.tup [.ref d.q1,.ref d.q2])∧Rd H d.q1 (.dK d.cs1)∧Rd H d.q2 (.dK d.cs2)
def y8 (ds:List Deed):List Aj:=ds.flatMap λd=>[d.q1,d.q2]
def j6 (ds:List Deed):List V:=ds.reverse.map λd=>V.ref d.tp
theorem qzm (d:Deed)(ds:List Deed):j6 (d::ds)=j6 ds++[.ref d.tp]:=by
 unfold j6
 rw [cY,aR]
 rfl
theorem qkn (ds:List Deed):(j6 ds).length=ds.length:=by
 unfold j6
 rw [ae,cf]
theorem zj (ds:List Deed):Qk (j6 ds):=λv hv=>by
 obtain ⟨d,_,rfl⟩:=aO.mp hv
 exact ⟨_,rfl⟩
theorem qz3 {d:Deed}{ds:List Deed}(h:d∈ds):d.q1∈y8 ds∧d.q2∈y8 ds:=⟨eE.mpr ⟨d,h,by simp⟩,eE.mpr ⟨d,h,by simp⟩⟩
structure HAt (C:Aj)(H:Hp)(x dr dw dd:Aj)(R W:List (Key×V))(ds:List Deed):Prop where
 hs:Hse C H x dr dw dd R W (j6 ds)
 da:∀d∈ds,DeedAt H d
 nd:(y8 ds).Nodup
 nr:dr∉y8 ds
 nw:dw∉y8 ds
theorem HAt.same {C:Aj}{H H':Hp}{x dr dw dd:Aj}{R W:List (Key×V)}{ds:List Deed}(h:HAt C H x dr dw dd R W ds)(s:Same H H'):HAt C H' x dr dw dd R W ds:=⟨h.hs.same s,λd hd=>by
 obtain ⟨a,b,c⟩:=h.da d hd
 exact ⟨s _ _ a,(Kb.of (ch:=[]) s).rd av b,(Kb.of (ch:=[]) s).rd av c⟩,h.nd,h.nr,h.nw⟩
def KC (dd:Aj)(H H':Hp):Prop:=∀b o,H b=some o→b≠dd→(∀kv,o≠HO.dK kv)→(∀u kv,o≠HO.frz u (.dK kv))→H' b=some o
theorem KC.of {dd:Aj}{H H':Hp}(s:Same H H'):KC dd H H':=λb o e _ _ _=>s b o e
theorem KC.kb {ch:List Aj}{dd:Aj}{H H':Hp}(k:Kb ch H H')(hc:∀b∈ch,b=dd∨∃kv,Rd H b (.dK kv)):KC dd H H':=λb o e n1 n2 n3=>k b o (λz=>by
 rcases hc b z with y|⟨kv,y|⟨u,y⟩⟩
 ·exact n1 y
 ·rw [e] at y;cases y;exact n2 _ rfl
 ·rw [e] at y;cases y;exact n3 _ _ rfl) e
theorem KC.tup {dd:Aj}{H H':Hp}(k:KC dd H H'){D:List V}(hd:H dd=some (.lst D)){a:Aj}{xs:List V}(e:H a=some (.tup xs)):H' a=some (.tup xs):=k a _ e (λz=>by rw [z,hd] at e;cases e) (λ_ z=>by cases z) (λ_ _ z=>by cases z)
theorem KC.row {dd:Aj}{H H':Hp}(k:KC dd H H'){D:List V}(hd:H dd=some (.lst D))(rf:Qk D){a:Aj}{hs:List Int}(ok:wt hs)(e:H a=some (.lst (hs.map V.int))):H' a=some (.lst (hs.map V.int)):=k a _ e (λz=>by
 rw [z,hd] at e
 have e:D=hs.map V.int:=by cases e;rfl
 have l:=ok.1
 have m:V.int (hs[0]'(by lia))∈hs.map V.int:=aO.mpr ⟨_,cJ _,rfl⟩
 rw [←e] at m
 obtain ⟨c,ec⟩:=rf _ m
 cases ec) (λ_ z=>by cases z) (λ_ _ z=>by cases z)
theorem RoadAt.kc {C dd:Aj}{H H':Hp}{r:Aj}{hs:List Int}(h:RoadAt C H r hs)(ok:wt hs)(k:KC dd H H'){D:List V}(hd:H dd=some (.lst D))(rf:Qk D):RoadAt C H' r hs:=by
 obtain ⟨dx,q,h1,h2⟩:=h
 exact ⟨dx,q,k _ _ h1 (λz=>by rw [z,hd] at h1;cases h1) (λ_ z=>by cases z) (λ_ _ z=>by cases z),k.row hd rf ok h2⟩
theorem WkAt.kc {C dd:Aj}{H H':Hp}{y:Aj}{n:Str}{p:Aj}{pt:Int×Int}{t:Aj}{tv:List (List Key×V)}(h:WkAt C H y n p pt t tv)(k:KC dd H H'){D:List V}(hd:H dd=some (.lst D)):WkAt C H' y n p pt t tv:=by
 obtain ⟨dx,e⟩:=h.ob
 have e2:=h.tm
 exact ⟨⟨dx,k _ _ e (λz=>by rw [z,hd] at e;cases e) (λ_ z=>by cases z) (λ_ _ z=>by cases z)⟩,k.tup hd h.pt,k _ _ e2 (λz=>by rw [z,hd] at e2;cases e2) (λ_ z=>by cases z) (λ_ _ z=>by cases z)⟩
theorem HAt.add {C:Aj}{H H':Hp}{x dr dw dd:Aj}{R W R' W':List (Key×V)}{ds:List Deed}(h:HAt C H x dr dw dd R W ds){tp q1 q2:Aj}{cs1 cs2:List (Key×V)}(n0:H tp=none)(n1:H q1=none)(n2:H q2=none)(hs':Hse C H' x dr dw dd R' W' (j6 ds++[.ref tp]))(ft:H' tp=some (.tup [.ref q1,.ref q2]))(f1:H' q1=some (.dK cs1))(f2:H' q2=some (.dK cs2))(ne:q1≠q2)(kb:Kb [dr,dw,dd] H H') :
  HAt C H' x dr dw dd R' W' (⟨tp,q1,q2,cs1,cs2⟩::ds)∧KC dd H H':=by
 have kc:KC dd H H':=KC.kb kb λb hb=>by
  simp only [ai,av,cu] at hb
  rcases hb with rfl|rfl|rfl
  ·exact .inr ⟨_,.inl h.hs.r⟩
  ·exact .inr ⟨_,.inl h.hs.w⟩
  ·exact .inl rfl
 have some_:∀q∈y8 ds,∃kv,Rd H q (.dK kv):=λq hq=>by
  obtain ⟨d,hd,hq⟩:=eE.mp hq
  obtain ⟨_,a,b⟩:=h.da d hd
  simp only [ai,av,cu] at hq
  rcases hq with rfl|rfl
  ·exact ⟨_,a⟩
  ·exact ⟨_,b⟩
 have notin:∀q∈y8 ds,q∉[dr,dw,dd]:=λq hq z=>by
  simp only [ai,av,cu] at z
  rcases z with rfl|rfl|rfl
  ·exact h.nr hq
  ·exact h.nw hq
  ·obtain ⟨kv,e|⟨u,e⟩⟩:=some_ _ hq <;> (rw [h.hs.d] at e;cases e)
 have fresh:∀q∈y8 ds,q≠q1∧q≠q2:=λq hq=>by
  obtain ⟨kv,e|⟨u,e⟩⟩:=some_ _ hq <;> exact ⟨qf e n1,qf e n2⟩
 have eq:y8 (⟨tp,q1,q2,cs1,cs2⟩::ds)=q1::q2::y8 ds:=rfl
 refine ⟨⟨by rw [qzm];exact hs',λd hd=>?_,?_,λz=>?_,λz=>?_⟩,kc⟩
 ·rcases ai.mp hd with rfl|hd
  ·exact ⟨ft,.inl f1,.inl f2⟩
  ·obtain ⟨a,b,c⟩:=h.da d hd
   obtain ⟨m1,m2⟩:=qz3 hd
   exact ⟨kc.tup h.hs.d a,kb.rd (notin _ m1) b,kb.rd (notin _ m2) c⟩
 ·rw [eq]
  exact aQ.mpr ⟨λz=>by
   rcases ai.mp z with z|z
   ·exact ne z
   ·exact (fresh _ z).1 rfl,aQ.mpr ⟨λz=>(fresh _ z).2 rfl,h.nd⟩⟩
 ·rw [eq] at z
  rcases ai.mp z with z|z
  ·exact qf h.hs.r n1 z
  ·rcases ai.mp z with z|z
   ·exact qf h.hs.r n2 z
   ·exact h.nr z
 ·rw [eq] at z
  rcases ai.mp z with z|z
  ·exact qf h.hs.w n1 z
  ·rcases ai.mp z with z|z
   ·exact qf h.hs.w n2 z
   ·exact h.nw z
theorem HAt.take {C CN:Aj}{H:Hp}{x dr dw dd:Aj}{R W:List (Key×V)}{d:Deed}{ds:List Deed}{Q:VK}{E:XK}(h:HAt C H x dr dw dd R W (d::ds))(lR:R.length≤1000)(lW:W.length≤1000)(nd1:(d.cs1.map (·.1)).Nodup)(nd2:(d.cs2.map (·.1)).Nodup)(l1:d.cs1.length≤1000)(l2:d.cs2.length≤1000)(ok1:Y2 R d.cs1)(ok2:Y2 W d.cs2)
  (k:∀H',HAt C H' x dr dw dd (exK R d.cs1) (exK W d.cs2) ds→KC dd H H'→Q .non H'):Zf C CN [.ref x] H Q E:=by
 have eq:y8 (d::ds)=d.q1::d.q2::y8 ds:=rfl
 have nd:=h.nd
 rw [eq] at nd
 obtain ⟨a1,nd'⟩:=aQ.mp nd
 obtain ⟨a2,nd''⟩:=aQ.mp nd'
 have hh:=h.hs
 rw [qzm] at hh
 obtain ⟨dt,d1,d2⟩:=h.da d (bt ..)
 have m:=qz3 (ds:=d::ds) (d:=d) (bt ..)
 have nr:=h.nr
 have nw:=h.nw
 refine ⟨x,dr,dw,dd,R,W,exI rfl ⟨hh,lR,lW,(λz=>absurd z (bK _ (eC _ _))),λD' v e=>?_⟩⟩
 obtain ⟨e1,e2⟩:=List.append_inj' e rfl
 cases e2
 refine ⟨d.tp,d.q1,d.q2,d.cs1,d.cs2,rfl,dt,d1,d2,λz=>a1 (by rw [z];exact bt ..),λz=>nr (z▸m.1),λz=>nw (z▸m.1),λz=>nr (z▸m.2),λz=>nw (z▸m.2),nd1,nd2,l1,l2,ok1,ok2,λH' hs' r1 r2 kb=>?_⟩
 have kc:KC dd H H':=KC.kb kb λb hb=>by
  simp only [ai,av,cu] at hb
  rcases hb with rfl|rfl|rfl|rfl|rfl
  ·exact .inr ⟨_,.inl hh.r⟩
  ·exact .inr ⟨_,.inl hh.w⟩
  ·exact .inl rfl
  ·exact .inr ⟨_,d1⟩
  ·exact .inr ⟨_,d2⟩
 rw [←e1] at hs'
 have sub:∀q∈y8 ds,q∈y8 (d::ds):=λq hq=>by rw [eq];exact aV _ (aV _ hq)
 have notin:∀q,q∈y8 ds→(∃kv,Rd H q (.dK kv))→q∉[dr,dw,dd,d.q1,d.q2]:=λq hq ⟨kv,e⟩ z=>by
  simp only [ai,av,cu] at z
  rcases z with z|z|z|z|z
  ·exact nr (z▸sub q hq)
  ·exact nw (z▸sub q hq)
  ·rcases e with e|⟨u,e⟩ <;> (rw [z,hh.d] at e;cases e)
  ·exact a1 (aV _ (z▸hq))
  ·exact a2 (z▸hq)
 refine k H' ⟨hs',λd' hd'=>?_,nd'',λz=>nr (sub _ z),λz=>nw (sub _ z)⟩ kc
 obtain ⟨b0,b1,b2⟩:=h.da d' (aV _ hd')
 obtain ⟨m1,m2⟩:=qz3 hd'
 exact ⟨kc.tup hh.d b0,kb.rd (notin _ m1 ⟨_,b1⟩) b1,kb.rd (notin _ m2 ⟨_,b2⟩) b2⟩
def Chain (CR CW:Aj)(b:Int)(H:Hp):List (List Int×Int)→List Deed→Aj→Aj→Prop
 |[],ds,_,_=>∃d0 d1,ds=[d1,d0]∧d1.cs1=[]∧d1.cs2=[(.inr ("w" : Str),.non)]∧d0.cs1=[(.inr ("r" : Str),.non)]∧d0.cs2=[]
 |h::hs,ds,r,y=>∃d ds',ds=d::ds'∧∃r' y',((d.cs1=R1 r'∧d.cs2=[]∧y'=y)∨(d.cs1=[]∧d.cs2=W1 y'∧r'=r))∧RoadAt CR H r' h.1∧wt h.1∧xt h.1 h.2 b∧(∃pp t tv,WkAt CW H y' "r" pp (wu h.2 b) t tv)∧Chain CR CW b H hs ds' r' y'
theorem Chain.len {CR CW:Aj}{b:Int}{H:Hp}:∀ {hist:List (List Int×Int)} {ds:List Deed} {r y:Aj},Chain CR CW b H hist ds r y→ds.length=hist.length+2
 |[],ds,r,y,h=>by obtain ⟨d0,d1,rfl,_⟩:=h;rfl
 |_::_,ds,r,y,h=>by
  obtain ⟨d,ds',rfl,r',y',_,_,_,_,_,c⟩:=h
  rw [aK,Chain.len c,aK]
theorem Chain.kc {CR CW:Aj}{b:Int}{H H':Hp}{dd:Aj}(k:KC dd H H'){D:List V}(hd:H dd=some (.lst D))(rf:Qk D):∀ {hist:List (List Int×Int)} {ds:List Deed} {r y:Aj},Chain CR CW b H hist ds r y→Chain CR CW b H' hist ds r y
 |[],ds,r,y,h=>h
 |_::_,ds,r,y,h=>by
  obtain ⟨d,ds',rfl,r',y',a1,a2,a3,a4,⟨pp,t,tv,a5⟩,c⟩:=h
  exact ⟨d,ds',rfl,r',y',a1,a2.kc a3 k hd rf,a3,a4,⟨pp,t,tv,a5.kc k hd⟩,Chain.kc k hd rf c⟩
def Zw (H:Hp)(v:V)(h:List Int×Int):Prop:=∃a p,v=.ref a∧H a=some (.tup [.ref p,.int h.2])∧H p=some (.lst (h.1.map V.int))∧wt h.1
theorem yw {H H':Hp}{dd:Aj}(k:KC dd H H'){D:List V}(hd:H dd=some (.lst D))(rf:Qk D){vs:List V}{hist:List (List Int×Int)}(h:Paired (Zw H) vs hist):Paired (Zw H') vs hist:=Yx (λv h ⟨a,p,e,h1,h2,ok⟩=>⟨a,p,e,k.tup hd h1,k.row hd rf ok h2,ok⟩) h
def whD (pt:Int×Int):PyData:=.tuple [.str "r",ptD pt]
theorem J3 {K:Aa}{H:Hp}{q p:Aj}{pt:Int×Int}(h:H q=some (.tup [.str "r",.ref p]))(h2:H p=some (.tup [.int pt.1,.int pt.2])):RD K H (whD pt) (.ref q):=by
 unfold whD
 rw [RD]
 refine ⟨q,exI rfl ⟨SqT.of h,?_⟩⟩
 rw [RDs]
 refine ⟨_,_,rfl,?_,?_⟩
 ·rw [RD]
 ·rw [RDs]
  refine ⟨_,_,rfl,rd_pt (SqT.of h2),?_⟩
  rw [RDs]
theorem qvj (pt:Int×Int):PyData.eqv (whD pt) (whD pt)=true:=by
 unfold whD
 rw [PyData.eqv,PyData.eqvAll,PyData.eqvAll,PyData.eqvAll,eqv_pt,aZ rfl,PyData.eqv]
 simp
theorem Q9 (pt:Int×Int):(whD pt).canLay0=true:=by
 simp only [whD,ptD,PyData.canLay0,PyData.canLayAll0]
 decide +kernel
theorem qvf (pt:Int×Int):min (whD pt).depth (whD pt).depth≤60:=by
 simp [whD,ptD,PyData.depth,PyData.depthAll]
theorem Z0 {A B:Prop}{d e:PyData}(h:PyData.eqv d e=true)(k:B):if (if true=true then !PyData.eqv d e else PyData.eqv d e)=true then A else B:=by
 rw [h]
 exact k
theorem Y1 {C CW CN dr dw dd x y pp t:Aj}{tv:List (List Key×V)}{H:Hp}{R:List (Key×V)}{D:List V}{pt:Int×Int}{Q:VK}{E:XK}(hh:Hse C H x dr dw dd R (W1 y) D)(hW:WkAt CW H y "r" pp pt t tv)(k:∀q,H q=none→Q (.ref q) (upd H q (.tup [.str "r",.ref pp]))):u7 C CW CN [.ref x,.str "w"] H Q E :=
 ⟨x,dr,dw,dd,R,W1 y,D,"w",rfl,hh,(λe=>by rw [show w9 (W1 y) (.inr ("w" : Str))=some (.ref y) from Z3] at e;cases e),λv e=>by
  rw [show w9 (W1 y) (.inr ("w" : Str))=some (.ref y) from Z3] at e
  cases e
  exact ⟨y,"r",pp,pt,t,tv,rfl,hW,k⟩⟩
def spIs (C CR CW:Aj):Sp:=λvs H Q _=>∃(x dr dw dd r y p pp t:Aj) (tv:List (List Key×V)) (D:List V) (row:List Int) (top b n:Int),vs=[.ref x,.ref p,.int top,.int b,.int n]∧n=D.length∧Hse C H x dr dw dd (R1 r) (W1 y) D∧RoadAt CR H r row∧WkAt CW H y "r" pp (wu top b) t tv∧1≤b∧b≤40∧H p=some (.lst (row.map V.int))∧∀H',Same H H'→Q (.bl true) H'
theorem ok_is {f:Aj}{fd:Ad}(F:Fun K "_law_is" "_law_is" s__law_is f fd)(T:Txt K mg qg qh qz qt qm wq ww q8 wv q9 qd wj qk qu qx qw)(c_corners_of:MCal P w K mg base qw "corners_of" 2 (ku qw qu q9))(c_where:MCal P w K mg base qw "where" 2 (u7 qw qx qd))(c__law_low:Cal P w K mg base "_law_low" 2 qkt)(c_deeds:MCal P w K mg base qw "deeds" 1 (Wr qw)) :
  FnOk P w K mg base (CXE P w) 3 f fd ["_law_house","_law_row","_law_top","_law_bottom","_law_deeds"] (spIs qw qu qx):=by
 have sc:=qz2
 refine F.okX sc (λvs H Q E h=>by obtain ⟨x,dr,dw,dd,r,y,p,pp,t,tv,D,row,top,b,n,rfl,_⟩:=h;rfl) (λcdv A outer s H vs Q E hr h=>?_)
 obtain ⟨x,dr,dw,dd,r,y,p,pp,t,tv,D,row,top,b,n,rfl,rfl,hh,hR,hW,b1,b2,hp,k⟩:=h
 obtain ⟨dx,hx⟩:=hh.ob
 have hno:∀ {m:Str},¬ m = "roads" → ¬ m = "walkers" → ¬ m = "done" → (hF dr dw dd).lookup m=none:=λa b c=>w4 a b c
 have vr:w9 (R1 r) (.inr ("r" : Str))=some (.ref r):=Z3
 refine ⟨_,(qy (xv (PW.pt (js (wf (Zn hr.units) (w8 (pv 0) T.clH c_corners_of (hr.mono (by decide)) qc (qq xx qj)) (pv 1) (wg _)) (v5 (wf (Zn hr.units) (w8 (pv 0) T.clH c_where (hr.mono (by decide)) qc (qq xx qj)) (zq (qq xx (qq (wb c__law_low (hr.mono (by decide)) rfl qc (qq (pv 2) (qq (pv 3) qj))) qj))) (wg _))))) (qp (wm yp)) wp)
   (qp (wm (jk zn (xp (pv 0) T.clH c_deeds (hr.mono (by decide)) qc) (pv 4) (wg _))))),?_⟩
 refine ⟨_,rfl,x,dx,_,rfl,hx,w4 (by decide +kernel) (by decide +kernel) (by decide +kernel),x,dr,dw,dd,_,_,D,"r",rfl,hh,λv e=>?_,λe=>by rw [vr] at e;cases e⟩
 rw [vr] at e
 cases e
 refine ⟨r,row,rfl,hR,λp1 n1=>?_⟩
 have s1:Same H (upd H p1 (.lst (row.map V.int))):=Same.upd n1
 have f1:upd H p1 (.lst (row.map V.int)) p1=some (.lst (row.map V.int)):=qb
 generalize upd H p1 (.lst (row.map V.int))=H1 at s1 f1
 refine exI rfl ⟨.list (row.map .int),.list (row.map .int),W7 (SqL.of f1),W7 (SqL.of (s1 _ _ hp)),um row,um row,qxb row row,_,rfl,Z0 (qqw row) ?_⟩
 refine exI rfl ⟨x,dx,exI rfl ⟨s1 _ _ hx,w4 (by decide +kernel) (by decide +kernel) (by decide +kernel),?_⟩⟩
 dsimp only [kh,uy,tC]
 refine Y1 (hh.same s1) (hW.same s1) λq nq=>?_
 have s2:Same H (upd H1 q (.tup [.str "r",.ref pp])):=s1.trans (Same.upd nq)
 have f2:upd H1 q (.tup [.str "r",.ref pp]) q=some (.tup [.str "r",.ref pp]):=qb
 generalize upd H1 q (.tup [.str "r",.ref pp])=H2 at s2 f2
 refine exI rfl (exI rfl ⟨top,b,rfl,b1,(Sm.small (n:=65) (by lia) (by lia) (by decide)).mono (by decide),λp3 n3=>?_⟩)
 have s3:=s2.trans (Same.upd (o:=.tup (ptV (wu top b))) n3)
 have f23:=(Same.upd (H:=H2) (o:=.tup (ptV (wu top b))) n3) _ _ f2
 have f3:upd H2 p3 (.tup (ptV (wu top b))) p3=some (.tup [.int (wu top b).1,.int (wu top b).2]):=qb
 generalize upd H2 p3 (.tup (ptV (wu top b)))=H3 at s3 f23 f3
 refine ⟨sz2,λq4 n4=>?_⟩
 have s34:=Same.upd (H:=H3) (o:=.tup [.str "r",.ref p3]) n4
 have f4:upd H3 q4 (.tup [.str "r",.ref p3]) q4=some (.tup [.str "r",.ref p3]):=qb
 generalize upd H3 q4 (.tup [.str "r",.ref p3])=H4 at s34 f4
 have s4:=s3.trans s34
 refine ⟨whD (wu top b),whD (wu top b),J3 (s34 _ _ f23) (s4 _ _ hW.pt),J3 f4 (s34 _ _ f3),Q9 _,Q9 _,qvf _,_,rfl,Z0 (qvj _) ?_⟩
 refine exI rfl ⟨x,dx,exI rfl ⟨s4 _ _ hx,w4 (by decide +kernel) (by decide +kernel) (by decide +kernel),x,dr,dw,dd,_,_,D,rfl,hh.same s4,exI rfl ⟨rfl,?_⟩⟩⟩
 rw [aZ rfl]
 exact k H4 s4
theorem KC.sql {K:Aa}{a dd:Aj}{xs:List V}{H H':Hp}(h:(∀H,SqL K H a xs)∨a≠dd)(k:KC dd H H')(s:SqL K H a xs):SqL K H' a xs:=by
 rcases h with h|h
 ·exact h H'
 ·rcases s with (s|⟨u,s⟩)|s
  ·exact .inl (.inl (k _ _ s h (λ_ z=>by cases z) (λ_ _ z=>by cases z)))
  ·exact .inl (.inr ⟨u,k _ _ s h (λ_ z=>by cases z) (λ_ _ z=>by cases z)⟩)
  ·exact .inr s
theorem HAt.upd {C:Aj}{H:Hp}{x dr dw dd:Aj}{R W:List (Key×V)}{ds:List Deed}(h:HAt C H x dr dw dd R W ds){l:Aj}{L L':List V}(hl:H l=some (.lst L))(n:l≠dd):HAt C (L2.upd H l (.lst L')) x dr dw dd R W ds:=by
 obtain ⟨dx,hx⟩:=h.hs.ob
 have ne:∀b o,(∀D,o≠HO.lst D)→H b=some o→L2.upd H l (.lst L') b=some o:=λb o no e=>by
  rw [wx (λz=>by rw [z,hl] at e;cases e;exact no _ rfl)]
  exact e
 have rd:∀b kv,Rd H b (.dK kv)→Rd (L2.upd H l (.lst L')) b (.dK kv):=λb kv e=>by
  rcases e with e|⟨u,e⟩
  ·exact .inl (ne _ _ (λ_ z=>by cases z) e)
  ·exact .inr ⟨u,ne _ _ (λ_ z=>by cases z) e⟩
 refine ⟨⟨⟨dx,ne _ _ (λ_ z=>by cases z) hx⟩,ne _ _ (λ_ z=>by cases z) h.hs.r,ne _ _ (λ_ z=>by cases z) h.hs.w,by rw [wx (aT n)];exact h.hs.d,h.hs.ne⟩,λd hd=>?_,h.nd,h.nr,h.nw⟩
 obtain ⟨a,b,c⟩:=h.da d hd
 exact ⟨ne _ _ (λ_ z=>by cases z) a,rd _ _ b,rd _ _ c⟩
theorem KC.upd {l:Aj}{H:Hp}{o:HO}:KC l H (L2.upd H l o):=λb ob e n _ _=>by rw [wx n];exact e
structure LSt (K:Aa)(C CR CW:Aj)(H:Hp)(a:Aj)(ns:List Int)(x dr dw dd:Aj)(b:Int)(p lp r y:Aj)(row:List Int)(top:Int)(hist:List (List Int×Int))(vs:List V)(ds:List Deed):Prop where
 ha:HAt C H x dr dw dd (R1 r) (W1 y) ds
 rd:RoadAt CR H r row
 ok:wt row
 on:xt row top b
 wk:∃pp t tv,WkAt CW H y "r" pp (wu top b) t tv∧TmOk tv
 pr:H p=some (.lst (row.map V.int))
 pl:H lp=some (.lst vs.reverse)
 ln:lp≠dd
 pa:Paired (Zw H) vs hist
 ch:Chain CR CW b H hist ds r y
 sc:SqL K H a (ns.map V.int)
section
variable {C CR CW:Aj}{H H':Hp}{a:Aj}{ns:List Int}{x dr dw dd:Aj}{b:Int}{p lp r y:Aj}{row:List Int}{top:Int}{hist:List (List Int×Int)}{vs:List V}{ds:List Deed}
theorem LSt.same (h:LSt K C CR CW H a ns x dr dw dd b p lp r y row top hist vs ds)(s:Same H H'):LSt K C CR CW H' a ns x dr dw dd b p lp r y row top hist vs ds:=by
 obtain ⟨pp,t,tv,a1,a2⟩:=h.wk
 exact ⟨h.ha.same s,h.rd.same s,h.ok,h.on,⟨pp,t,tv,a1.same s,a2⟩,s _ _ h.pr,s _ _ h.pl,h.ln,yw (KC.of s) h.ha.hs.d (zj _) h.pa,Chain.kc (KC.of s) h.ha.hs.d (zj _) h.ch,s.sql h.sc⟩
theorem qyf {H:Hp}{vs:List V}{hist:List (List Int×Int)}(h:Paired (Zw H) vs hist):Qk vs.reverse:=λv hv=>by
 obtain ⟨_,_,a,_,e,_⟩:=qx6 h (List.mem_reverse.mp hv)
 exact ⟨a,e⟩
theorem LSt.lens (h:LSt K C CR CW H a ns x dr dw dd b p lp r y row top hist vs ds):(j6 ds).length=hist.length+2∧vs.length=hist.length:=⟨by rw [qkn];exact h.ch.len,h.pa.length⟩
theorem LSt.deed {o:Str×List Int×Int}(h:LSt K C CR CW H a ns x dr dw dd b p lp r y row top hist vs ds)(ha:(∀H,SqL K H a (ns.map V.int))∨a≠dd)(hT:TOut C CR CW H H' x dr dw dd r y (j6 ds) row top b o)(e:o.1=("" : Str)) :
  ∃r' y' d,HAt C H' x dr dw dd (R1 r') (W1 y') (d::ds)∧RoadAt CR H' r' o.2.1∧wt o.2.1∧xt o.2.1 o.2.2 b∧(∃pp t tv,WkAt CW H' y' "r" pp (wu o.2.2 b) t tv∧TmOk tv)∧Chain CR CW b H' ((row,top)::hist) (d::ds) r' y'∧KC dd H H':=by
 obtain ⟨pp,t,tv,w1,w2⟩:=h.wk
 rcases hT with ⟨z,_⟩|⟨_,on',ok',⟨et,rd⟩|⟨er,p',t',tv',wd,tm'⟩⟩
 ·exact absurd e z
 ·obtain ⟨r',tp,q1,q2,n0,n1,n2,hs',ft,f1,f2,ne,ra,kb⟩:=rd
  rw [show zf (R1 r) (.inr ("r" : Str)) (.ref r')=R1 r' from put1] at hs'
  rw [show w9 (R1 r) (.inr ("r" : Str))=some (.ref r) from Z3] at f1
  obtain ⟨hA,kc⟩:=h.ha.add n0 n1 n2 hs' ft f1 f2 ne kb
  have hd:=h.ha.hs.d
  have rf:=zj ds
  refine ⟨r',y,_,hA,ra,ok',on',⟨pp,t,tv,by rw [et];exact w1.kc kc hd,w2⟩,⟨_,_,rfl,r,y,.inl ⟨rfl,rfl,rfl⟩,h.rd.kc h.ok kc hd rf,h.ok,h.on,⟨pp,t,tv,w1.kc kc hd⟩,Chain.kc kc hd rf h.ch⟩,kc⟩
 ·obtain ⟨y',tp,q1,q2,n0,n1,n2,hs',ft,f1,f2,ne,wa,kb⟩:=wd
  rw [show zf (W1 y) (.inr ("w" : Str)) (.ref y')=W1 y' from put1] at hs'
  rw [show w9 (W1 y) (.inr ("w" : Str))=some (.ref y) from Z3] at f2
  obtain ⟨hA,kc⟩:=h.ha.add n0 n1 n2 hs' ft f1 f2 ne kb
  have hd:=h.ha.hs.d
  have rf:=zj ds
  refine ⟨r,y',_,hA,by rw [er];exact h.rd.kc h.ok kc hd rf,ok',on',⟨p',t',tv',wa,tm'⟩,⟨_,_,rfl,r,y,.inr ⟨rfl,rfl,rfl⟩,h.rd.kc h.ok kc hd rf,h.ok,h.on,⟨pp,t,tv,w1.kc kc hd⟩,Chain.kc kc hd rf h.ch⟩,kc⟩
end
theorem qup {k:Key}{v:V}{r:Aj}:exK [(k,v)] [(k,.ref r)]=[(k,.ref r)]:=by
 show ex1 [(k,v)] (k,.ref r)=_
 unfold ex1
 rw [aj (λz=>by cases z)]
 exact put1
theorem qu5 {k:Key}{v:V}:exK [(k,v)] [(k,.non)]=[]:=by
 show ex1 [(k,v)] (k,.non)=_
 unfold ex1
 rw [am rfl]
 unfold Zr
 simp
theorem wq6 {R:List (Key×V)}{k:Key}{r:Aj}:Y2 R [(k,.ref r)]:=λi c ec hc=>by
 cases i with
 |zero=>cases ec;cases hc
 |succ i=>cases ec
theorem quq {k:Key}{v:V}:Y2 [(k,v)] [(k,.non)]:=λi c ec hc=>by
 cases i with
 |zero=>cases ec;show (w9 [(k,v)] k).isSome=true;rw [Z3];rfl
 |succ i=>cases ec
theorem qqn {R:List (Key×V)}:Y2 R []:=λi c ec hc=>nomatch ec
theorem qq9 {k:Key}{v:V}:(([(k,v)]:List (Key×V)).map (·.1)).Nodup:=aQ.mpr ⟨av,bb⟩
end
section
variable {P:Ac}{w:Ah}{K:Aa}{mg:Str→Option Ag}{base:Heap}{qg:Aj}{qh:Aj}{qz:Aj}{qt:Aj}{qm:Aj}{wq:Aj}{ww:Aj}{q8:Aj}{wv:Aj}{q9:Aj}{qd:Aj}{wj:Aj}{qk:Aj}{qu:Aj}{qx:Aj}{qw:Aj}
theorem at_two {r:Int}(x y:Int)(h0:0≤r)(h1:r<2):atI [V.int x,V.int y] r=some (.int (if r=1 then y else x)):=by
 have:r=0∨r=1:=by lia
 rcases this with rfl|rfl <;> rfl
theorem name_r:vc ("r" : Str)=true:=by decide +kernel
theorem name_w:vc ("w" : Str)=true:=by decide +kernel
theorem len_r:("r" : Str).length≤1000:=by decide +kernel
theorem len_w:("w" : Str).length≤1000:=by decide +kernel
def nmD:PyData:=.tuple [.list [],.list []]
theorem rd_nm {K:Aa}{H:Hp}{q l1 l2:Aj}(h:H q=some (.tup [.ref l1,.ref l2]))(f1:H l1=some (.lst []))(f2:H l2=some (.lst [])):RD K H nmD (.ref q):=by
 unfold nmD
 rw [RD]
 refine ⟨q,exI rfl ⟨SqT.of h,?_⟩⟩
 rw [RDs]
 refine ⟨_,_,rfl,?_,?_⟩
 ·rw [RD]
  exact ⟨l1,[],rfl,SqL.of f1,by rw [RDs]⟩
 ·rw [RDs]
  refine ⟨_,_,rfl,?_,?_⟩
  ·rw [RD]
   exact ⟨l2,[],rfl,SqL.of f2,by rw [RDs]⟩
  ·rw [RDs]
theorem eqv_nm:(if false=true then !PyData.eqv nmD nmD else PyData.eqv nmD nmD)=true:=by
 rw [aj (by decide)]
 unfold nmD
 rw [PyData.eqv,PyData.eqvAll,PyData.eqvAll,PyData.eqvAll,PyData.eqv,PyData.eqvAll]
 rfl
theorem quj:nmD.canLay0=true:=by
 simp [nmD,PyData.canLay0,PyData.canLayAll0]
theorem dep_nm:min nmD.depth nmD.depth≤60:=by
 simp [nmD,PyData.depth,PyData.depthAll]
set_option maxHeartbeats 0 in
theorem ok_law {f:Aj}{fd:Ad}(F:Fun K "law" "law" s_law f fd)(T:Txt K mg qg qh qz qt qm wq ww q8 wv q9 qd wj qk qu qx qw)(c__law_pick:Cal P w K mg base "_law_pick" 2 (uj K))(c__law_heights:Cal P w K mg base "_law_heights" 4 (Qm K))(c__law_spot:Cal P w K mg base "_law_spot" 3 (qqt K))(c__law_low:Cal P w K mg base "_law_low" 2 qkt)
  (c_House:CCal P w K mg base "House" qw 1 (qwq qw)) (c_lay:MCal P w K mg base qw "lay" 4 (qu0 K qw qu q8 wv qh)) (c_place:MCal P w K mg base qw "place" 5 (qq6 K qw qu qx q8 wv q9 qz qt))
  (c__law_due:Cal P w K mg base "_law_due" 3 wq2) (c__law_told:Cal P w K mg base "_law_told" 9 (qz4 qw qu qx)) (c_where:MCal P w K mg base qw "where" 2 (u7 qw qx qd)) (c_deeds:MCal P w K mg base qw "deeds" 1 (Wr qw)) (c__law_is:Cal P w K mg base "_law_is" 3 (spIs qw qu qx))
  (c_take_back:MCal P w K mg base qw "take_back" 2 (Zf qw qk)) (c_corners_of:MCal P w K mg base qw "corners_of" 2 (ku qw qu q9)) (c_names:MCal P w K mg base qw "names" 1 (qwk qw)):FnOk P w K mg base (CXE P w) 10 f fd ["_law_script"] (qk8 K):=by
 have sc:=sc_law
 refine F.okX sc (λvs H Q E h=>by obtain ⟨a,ns,rfl,_⟩:=h;rfl) (λcdv A outer s H vs Q E hr h=>?_)
 obtain ⟨a,ns,rfl,hS,hl,k⟩:=h
 have big:(1000000:Nat)<sizeLine:=by decide
 refine ⟨_,(qy (wr (i:=1) sc.nd rfl (by walk_at "loc") (wb c__law_heights (hr.mono (by decide)) rfl qc (qq (pv 0) (qq qr (qq (zx zy (k6 (qq qr (qq qr qj))) (wb c__law_pick (hr.mono (by decide)) rfl qc (qq (pv 0) (qq qr (qq qr (qq qr qj))))) (λ_ _=>rfl)) qj)))))
   (qy (wr (i:=2) sc.nd rfl (by walk_at "loc") (wb c__law_spot (hr.mono (by decide)) rfl qc (qq (pv 0) (qq qr (qq (wy zv (wn w6 rfl T.len_ aE (qq (pv 1) qj)) qr) (qq qr qj))))))
   (qy (jv (wb c__law_low (hr.mono (by decide)) rfl qc (qq (zx vf (pv 2) qr (λ_ _=>rfl)) (qq (zx vf (pv 2) qr (λ_ _=>rfl)) qj))) (v8 rfl (xu (xk (i:=3) sc.nd rfl (by walk_at "loc")) (xu (xk (i:=4) sc.nd rfl (by walk_at "loc")) vk))))
   (qy (wr (i:=5) sc.nd rfl (by walk_at "loc") (qjn c_House (hr.mono (by decide)) rfl qc))
   (qy (xj (w8 (pv 5) T.clH c_lay (hr.mono (by decide)) qc (qq xx (qq (k9 jc rfl T.list_ cx (qq (pv 1) qj)) qj))))
   (qy (xj (w8 (pv 5) T.clH c_place (hr.mono (by decide)) qc (qq xx (qq xx (qq (pv 2) qj)))))
   (qy (wr (i:=6) sc.nd rfl (by walk_at "loc") (k6 qj))
   (qy (Q0 bd rfl (zr rfl T.range_ (qq (wb c__law_pick (hr.mono (by decide)) rfl qc (qq (pv 0) (qq qr (qq qr (qq qr qj))))) qj)) (xk (i:=7) sc.nd rfl (by walk_at "loc")) (qy (wr (i:=8) sc.nd rfl (by walk_at "loc") (wy xz qr (wy zc (pv 7) qr)))
   (qy (wr (i:=9) sc.nd rfl (by walk_at "loc") (wb c__law_pick (hr.mono (by decide)) rfl qc (qq (pv 0) (qq (pv 8) (qq (wy zd (pv 7) qr) (qq qr qj))))))
   (qy (wr (i:=10) sc.nd rfl (by walk_at "loc") (wb c__law_pick (hr.mono (by decide)) rfl qc (qq (pv 0) (qq (pv 8) (qq (wy xz qr (wy zd (pv 7) qr)) (qq qr qj))))))
   (qy (wr (i:=11) sc.nd rfl (by walk_at "loc") (wb c__law_pick (hr.mono (by decide)) rfl qc (qq (pv 0) (qq (pv 8) (qq (wy xz qr (wy zd (pv 7) qr)) (qq (wn w6 rfl T.len_ aE (qq (pv 1) qj)) qj))))))
   (qxq (xv (wf zn (pv 9) qr (wg _)) (qp (wr (i:=10) sc.nd rfl (by walk_at "loc") (wy zc (pv 10) (wn w6 rfl T.len_ aE (qq (pv 1) qj))))) wp)
   (qy (jv (wb c__law_due (hr.mono (by decide)) rfl qc (qq (pv 9) (qq (pv 10) (qq (pv 11) (qq (pv 1) (qq (pv 3) (qq (pv 4) qj))))))) (v8 rfl (xu (xk (i:=12) sc.nd rfl (by walk_at "loc")) (xu (xk (i:=13) sc.nd rfl (by walk_at "loc")) (xu (xk (i:=14) sc.nd rfl (by walk_at "loc")) vk)))))
   (qy (xv (wf op_ne (wb c__law_told (hr.mono (by decide)) rfl qc (qq (pv 5) (qq (pv 9) (qq (pv 10) (qq (pv 11) qj))))) (pv 12) (wg _)) (qp (wm yp)) wp)
   (qxq (xv (wf zn (pv 12) xx (wg _)) (qy (xj (qkf bB ca cb jw (pv 6) (qq (zq (qq (pv 1) (qq (pv 3) qj))) qj)))
   (qy (wr (i:=1) sc.nd rfl (by walk_at "loc") (pv 13))
   (qp (wr (i:=3) sc.nd rfl (by walk_at "loc") (pv 14))))) wp)
   (qp (xv (PW.pt (js (wf (Zn hr.units) (w8 (pv 5) T.clH c_where (hr.mono (by decide)) qc (qq xx qj)) (zq (qq xx (qq (wb c__law_low (hr.mono (by decide)) rfl qc (qq (pv 3) (qq (pv 4) qj))) qj))) (wg _)) (v5 (wf op_ne (xp (pv 5) T.clH c_deeds (hr.mono (by decide)) qc) (wy xz qr (wn w6 rfl T.len_ aE (qq (pv 6) qj))) (wg _))))) (qp (wm yp)) wp)))))))))))
   (qy (xv (qq4 (Z6 (wb c__law_is (hr.mono (by decide)) rfl qc (qq (pv 5) (qq (pv 1) (qq (pv 3) (qq (pv 4) (qq (wy xz qr (wn w6 rfl T.len_ aE (qq (pv 6) qj))) qj)))))))) (qp (wm yp)) wp)
   (qy (Q0 bd rfl (qq1 (pe_rev (pv 6) (qxz Yv qr))) (v8 rfl (xu (xk (i:=1) sc.nd rfl (by walk_at "loc")) (xu (xk (i:=3) sc.nd rfl (by walk_at "loc")) vk))) (qy (xj (xp (pv 5) T.clH c_take_back (hr.mono (by decide)) qc))
   (qp (xv (PW.pt (js (wf (Zn hr.units) (w8 (pv 5) T.clH c_where (hr.mono (by decide)) qc (qq xx qj)) (zq (qq xx (qq (wb c__law_low (hr.mono (by decide)) rfl qc (qq (pv 3) (qq (pv 4) qj))) qj))) (wg _)) (v5 (wf (Zn hr.units) (w8 (pv 5) T.clH c_corners_of (hr.mono (by decide)) qc (qq xx qj)) (pv 1) (wg _))))) (qp (wm yp)) wp))))
   (qy (xv (qq4 (Z6 (wb c__law_is (hr.mono (by decide)) rfl qc (qq (pv 5) (qq (pv 1) (qq (pv 3) (qq (pv 4) (qq qr qj)))))))) (qp (wm yp)) wp)
   (qy (xj (xp (pv 5) T.clH c_take_back (hr.mono (by decide)) qc))
   (qy (xj (xp (pv 5) T.clH c_take_back (hr.mono (by decide)) qc))
   (qy (wr (i:=15) sc.nd rfl (by walk_at "loc") yp)
   (qy (ps_try rfl rfl rfl T.g_NothingDone (λpn xe E hE hO=>(qp (xj (xp (pv 5) T.clH c_take_back (hr.mono (by decide)) hE)))) (λe=>(qp (wr (i:=15) sc.nd rfl (by walk_at "loc") yp))))
   (qp (wm (qv1 (pv 15) (qv1 (jk zn (xp (pv 5) T.clH c_deeds (hr.mono (by decide)) qc) qr (wg _)) (quw (jk (op_eqD hr.units) (xp (pv 5) T.clH c_names (hr.mono (by decide)) qc) (zq (qq (k6 qj) (qq (k6 qj) qj))) (wg _)))))))))))))))))))))),?_⟩
 refine exI rfl ⟨sz2,λp0 n0=>?_⟩
 have s0:Same H (upd H p0 (.lst [.int 4,.int 24])):=Same.upd n0
 refine exI rfl ⟨a,ns,_,_,_,rfl,s0.sql hS,(by lia),(by lia),(by lia),(by lia),λr0 er0 l0 u0=>?_⟩
 refine exX rfl rfl SqL.new (at_two 4 24 l0 u0) ?_
 generalize upd H p0 (.lst [.int 4,.int 24])=H0 at s0
 refine ⟨a,ns,_,_,rfl,s0.sql hS,(by lia),(by split <;> lia),(by split <;> lia),λp1 hs w1 n1 a1 b1 i1=>?_⟩
 have ok1:wt hs:=wwn i1 a1 (by split at b1 <;> lia)
 have s1:Same H (upd H0 p1 (.lst (hs.map V.int))):=s0.trans (Same.upd n1)
 have f1:upd H0 p1 (.lst (hs.map V.int)) p1=some (.lst (hs.map V.int)):=qb
 generalize upd H0 p1 (.lst (hs.map V.int))=H1 at s1 f1
 have ol:=ok1.2.1
 have o2:=ok1.1
 have lm:(hs.map V.int).length=hs.length:=ae _
 refine exI rfl (exI rfl ⟨p1,exI rfl ⟨.inl (SqL.of f1),wc rfl rfl ?_⟩⟩)
 rw [lm]
 refine ⟨a,ns,_,_,_,rfl,s1.sql hS,(by lia),(by lia),(by lia),(by lia),(by lia),λp2 t0 b0 c0 n2 y1 y2 y3 y4 y5 y6=>?_⟩
 have s2:Same H1 (upd H1 p2 (.tup [.int (t0*c0),.int (b0*c0)])):=Same.upd n2
 have f2:upd H1 p2 (.tup [.int (t0*c0),.int (b0*c0)]) p2=some (.tup [.int (t0*c0),.int (b0*c0)]):=qb
 generalize upd H1 p2 (.tup [.int (t0*c0),.int (b0*c0)])=H2 at s2 f2
 have bc1:1≤b0*c0:=Int.mul_pos (by lia) (by lia)
 have bc2:b0*c0≤6*3:=Int.mul_le_mul y2 y4 (by lia) (by lia)
 have onp:xt hs (t0*c0) (b0*c0):=⟨cZ y5 (by lia),by
  rw [←d8]
  exact aI y6 (by lia)⟩
 generalize hT0:t0*c0=T0 at f2 onp
 generalize hB0:b0*c0=B0 at f2 onp bc1 bc2
 refine exI rfl (exX rfl rfl (SqT.of f2) rfl (exI rfl (exX rfl rfl (SqT.of f2) rfl ⟨T0,B0,rfl,bc1,(Sm.small (n:=65) (by lia) (by lia) (by decide)).mono (by decide),λp3 n3=>?_⟩)))
 have s3:Same H2 (upd H2 p3 (.tup (ptV (wu T0 B0)))):=Same.upd n3
 have f3:upd H2 p3 (.tup (ptV (wu T0 B0))) p3=some (.tup [.int (wu T0 B0).1,.int (wu T0 B0).2]):=qb
 generalize upd H2 p3 (.tup (ptV (wu T0 B0)))=H3 at s3 f3
 have lb1:=low1 (t:=T0) bc1
 have lb2:=Zj (t:=T0) bc1
 have lon:=qq0 bc1 onp
 have lll:wu (wu T0 B0).1 (wu T0 B0).2=wu T0 B0:=qwx lb1 (qwz bc1)
 refine ⟨p3,exI rfl ⟨SqT.of f3,rfl,_,_,rfl,_,_,rfl,rfl,?_⟩⟩
 have s03:Same H H3:=s1.trans (s2.trans s3)
 have f13:=s3 _ _ (s2 _ _ f1)
 have f23:=s3 _ _ f2
 generalize hb:(wu T0 B0).2=b at lb1 lb2 lon lll f3
 have lT:wu T0 B0=((wu T0 B0).1,b):=by rw [←hb]
 generalize ht:(wu T0 B0).1=tt at lon lll f3 lT
 refine λx d0 nx nd0 ne0=>⟨x,d0,rfl,qb,λH4 dr dw dd m1 m2 m3 hse kb4=>⟨rfl,?_⟩⟩
 have s4:Same H3 H4:=λz o e=>kb4 z o (λy=>by rw [aC.mp y,nx] at e;cases e) (by rw [wx (qf e nx),wx (qf e nd0)];exact e)
 have m3':H3 dd=none:=by
  cases e:H3 dd with
  |none=>rfl
  |some o=>rw [wx (qf e nx),wx (qf e nd0),e] at m3;cases m3
 obtain ⟨dx,hx⟩:=hse.ob
 have hA0:HAt qw H4 x dr dw dd [] [] []:=⟨hse,(λd hd=>nomatch hd),bb,av,av⟩
 refine exI rfl ⟨x,dx,exI rfl ⟨hx,w4 (by decide +kernel) (by decide +kernel) (by decide +kernel),exI rfl ⟨p1,exI rfl ⟨.inl (SqL.of (s4 _ _ f13)),λp5 n5=>?_⟩⟩⟩⟩
 have s5:Same H4 (upd H4 p5 (.lst (hs.map V.int))):=Same.upd n5
 have f5:upd H4 p5 (.lst (hs.map V.int)) p5=some (.lst (hs.map V.int)):=qb
 generalize upd H4 p5 (.lst (hs.map V.int))=H5 at s5 f5
 have hA5:=hA0.same s5
 refine ⟨x,dr,dw,dd,p5,[],[],[],"r",hs,rfl,hA5.hs,(λv hv=>nomatch hv),az _,az _,az _,len_r,f5,λ_ _ _ H6 rd=>?_,(λz=>by rw [name_r] at z;cases z),(λ_ z=>by cases z),λ_ _ z=>absurd ok1 z⟩
 obtain ⟨r,tp,q1,q2,g0,g1,g2,hs6,ft,fq1,fq2,nq,ra,kb6⟩:=rd
 obtain ⟨hA6,kc6⟩:=hA5.add g0 g1 g2 hs6 ft fq1 fq2 nq kb6
 have rf0:Qk ([]:List V):=λv hv=>nomatch hv
 have s35:Same H3 H5:=s4.trans s5
 have f26:=kc6.tup hA5.hs.d (s35 _ _ f23)
 have f16:=kc6.row hA5.hs.d rf0 ok1 (s35 _ _ f13)
 have hdis:(∀H,SqL K H a (ns.map V.int))∨∃o,H3 a=some o:=by
  rcases s03.sql hS with (e|⟨u,e⟩)|e
  ·exact .inr ⟨_,e⟩
  ·exact .inr ⟨_,e⟩
  ·exact .inl λ_=>.inr e
 have hdd:(∀H,SqL K H a (ns.map V.int))∨a≠dd:=by
  rcases hdis with e|⟨o,e⟩
  ·exact .inl e
  ·exact .inr (qf e m3')
 have sc6:=kc6.sql hdd ((s03.trans s35).sql hS)
 obtain ⟨dx6,hx6⟩:=hA6.hs.ob
 refine exI rfl ⟨x,dx6,exI rfl ⟨hx6,w4 (by decide +kernel) (by decide +kernel) (by decide +kernel),exI rfl ⟨x,dr,dw,dd,p2,R1 r,[],_,"w","r",T0,B0,rfl,hA6.hs,(by show 1≤1000;decide),az _,(by rw [qkn];show 1≤1000000;decide),len_w,f26,(λz=>by rw [name_w] at z;cases z),(λ_ z=>by cases z),λ_ _=>⟨(λz=>by rw [show w9 (R1 r) (.inr ("r" : Str))=some (.ref r) from Z3] at z;cases z),λv e=>?_⟩⟩⟩⟩
 rw [show w9 (R1 r) (.inr ("r" : Str))=some (.ref r) from Z3] at e
 cases e
 refine ⟨r,hs,rfl,ra,ok1,(λz=>absurd z (by lia)),λ_=>⟨(Sm.small (n:=65) (by lia) (by lia) (by decide)).mono (by decide),(λz=>absurd z (by lia)),λ_=>⟨(λz=>absurd (qq0 bc1 onp) z),λ_ H7 pp t7 wd=>?_⟩⟩⟩
 obtain ⟨y,tp',q1',q2',g0',g1',g2',hs7,ft',fq1',fq2',nq',wa,kb7⟩:=wd
 obtain ⟨hA7,kc7⟩:=hA6.add g0' g1' g2' hs7 ft' fq1' fq2' nq' kb7
 have rf6:=zj ([⟨tp,q1,q2,[(.inr ("r" : Str),.non)],[]⟩]:List Deed)
 have hd6:=hA6.hs.d
 have sc7:=kc7.sql hdd sc6
 have f17:=kc7.row hd6 rf6 ok1 f16
 have ra7:=ra.kc ok1 kc7 hd6 rf6
 refine ⟨sz0,λlp nlp=>?_⟩
 have s8:Same H7 (upd H7 lp (.lst [])):=Same.upd nlp
 have f8:upd H7 lp (.lst []) lp=some (.lst []):=qb
 have lnd:lp≠dd:=(qf hA7.hs.d nlp).symm
 have hdl:(∀H,SqL K H a (ns.map V.int))∨a≠lp:=by
  rcases sc7 with (e|⟨u,e⟩)|e
  ·exact .inr (qf e nlp)
  ·exact .inr (qf e nlp)
  ·exact .inl λ_=>.inr e
 generalize upd H7 lp (.lst [])=H8 at s8 f8
 have on8:xt hs tt b:=lon
 have hp8:=qvq ok1 lb1 (by lia) on8
 have rg8:=hp8.rng
 have tm8:TmOk [([.inl (wu T0 B0).1,.inl (wu T0 B0).2],.int 1)]:=by
  rw [←lll]
  exact TmOk.one rg8.1 rg8.2.1 rg8.2.2.1 rg8.2.2.2
 have L8:LSt K qw qu qx H8 a ns x dr dw dd b p1 lp r y hs tt [] [] [⟨tp',q1',q2',[],[(.inr ("w" : Str),.non)]⟩,⟨tp,q1,q2,[(.inr ("r" : Str),.non)],[]⟩]:=⟨hA7.same s8,ra7.same s8,ok1,on8,⟨pp,t7,_,by rw [lll];exact wa.same s8,tm8⟩,s8 _ _ f17,f8,lnd,.nil,⟨⟨tp,q1,q2,_,_⟩,⟨tp',q1',q2',_,_⟩,rfl,rfl,rfl,rfl,rfl⟩,s8.sql sc7⟩
 refine exI rfl ⟨a,ns,_,_,_,rfl,L8.sc,(by lia),(by lia),(by lia),(by lia),λn en n0' n1'=>?_⟩
 clear s8 f8 wa hA7 kc7 kb7 hs7 hA6 kc6 kb6 hs6 ra ra7 f16 f17 sc7 sc6 f26 hA5 hA0 hse hx hx6 s5 f5 s4
 have sm:∀z:Int,-(2 ^ 64)≤z→z≤2 ^ 64→Sm 65 z:=λz z1 z2=>Sm.small z1 z2 (by decide)
 refine ⟨n,rfl,(by lia),(by lia),?_⟩
 refine Q4 (n:=n.toNat) (λi σ H'=>∃(p r y:Aj) (row:List Int) (top:Int) (hist:List (List Int×Int)) (vs:List V) (ds:List Deed),(∃z7 z8 z9 z10 z11 z12 z13 z14 z15,σ=[some (.ref a),some (.ref p),some (.ref p2),some (.int top),some (.int b),some (.ref x),some (.ref lp),z7,z8,z9,z10,z11,z12,z13,z14,z15])∧hist.length≤i∧LSt K qw qu qx H' a ns x dr dw dd b p lp r y row top hist vs ds) ⟨p1,r,y,hs,tt,[],[],_,⟨_,_,_,_,_,_,_,_,_,rfl⟩,af _,L8⟩ ?_ ?_
 ·rintro i σ H9 hi ⟨p,r,y,row,top,hist,vs,ds,⟨z7,z8,z9,z10,z11,z12,z13,z14,z15,rfl⟩,hl9,L9⟩
  have hi2:i≤200:=by lia
  have ra1:=L9.ok.1
  have ra2:=L9.ok.2.1
  have lmr:(row.map V.int).length=row.length:=ae _
  refine exI rfl (wc rfl rfl ⟨(show (0:Int)<40 by decide),wc rfl rfl ?_⟩)
  refine exI rfl (exI rfl (exI rfl (wc rfl rfl ⟨⟨(by decide),(sm 40 (by decide) (by decide)).mono (by decide)⟩,a,ns,_,_,_,rfl,L9.sc,(by lia),(by lia),(by lia),(by lia),λkind ek k0 k1=>?_⟩)))
  refine exI rfl (exI rfl (exI rfl (wc rfl rfl ⟨⟨(by decide),(sm 40 (by decide) (by decide)).mono (by decide)⟩,wc rfl rfl ⟨a,ns,_,_,_,rfl,L9.sc,(by lia),(by lia),(by lia),(by lia),λone eo o0 o1=>?_⟩⟩)))
  refine exI rfl (exI rfl (exI rfl (wc rfl rfl ⟨⟨(by decide),(sm 40 (by decide) (by decide)).mono (by decide)⟩,wc rfl rfl (exI rfl ⟨p,exI rfl ⟨.inl (SqL.of L9.pr),?_⟩⟩)⟩)))
  rw [lmr]
  refine ⟨a,ns,_,_,_,rfl,L9.sc,(by lia),(by lia),(by lia),(by lia),λtwo et t0' t1'=>?_⟩
  refine ⟨λσ H'=>∃one',(∃z7 z8 z12 z13 z14 z15,σ=[some (.ref a),some (.ref p),some (.ref p2),some (.int top),some (.int b),some (.ref x),some (.ref lp),z7,z8,some (.int kind),some (.int one'),some (.int two),z12,z13,z14,z15])∧0≤one'∧one'≤1000∧(kind=3→one'<row.length)∧H'=H9,?_,?_⟩
  ·refine exI rfl ⟨rfl,_,rfl,z5 (λz=>?_) (λz=>?_)⟩
   ·refine exI rfl (exI rfl ⟨p,exI rfl ⟨.inl (SqL.of L9.pr),wc rfl rfl ⟨(by rw [lmr];lia),?_⟩⟩⟩)
    rw [lmr]
    have h1:=bf one (b:=(row.length:Int)) (by lia)
    have h2:=aX one (b:=(row.length:Int)) (by lia)
    exact ⟨_,⟨_,_,_,_,_,_,rfl⟩,h1,by lia,λ_=>h2,rfl⟩
   ·exact ⟨_,⟨_,_,_,_,_,_,rfl⟩,o0,by lia,λy=>absurd y z,rfl⟩
  ·rintro σ H' ⟨one',⟨z7,z8,z12,z13,z14,z15,rfl⟩,w0,w1',w2,rfl⟩
   refine exI rfl (exI rfl (exI rfl (exI rfl (exI rfl (exI rfl ⟨p,row,kind,one',two,top,b,rfl,L9.pr,L9.ok,lb1,(by lia),L9.on,w0,w1',w2,λo q p' H10 due s10 fq fp'=>?_⟩)))))
   refine ⟨q,exI rfl ⟨SqT.of fq,rfl,_,_,rfl,_,_,rfl,_,_,rfl,rfl,?_⟩⟩
   have L10:=L9.same s10
   obtain ⟨pp,t9,tv9,wk1,wk2⟩:=L10.wk
   obtain ⟨ln1,ln2⟩:=L10.lens
   refine exI rfl (exI rfl (exI rfl (exI rfl ⟨x,dr,dw,dd,r,y,pp,t9,tv9,_,row,kind,one',two,top,b,o,rfl,L10.ha.hs,zj ds,(by lia),L10.rd,L10.ok,wk1,wk2,lb1,(by lia),L10.on,w0,w1',w2,t0',t1',due,λH11 tout=>?_⟩)))
   refine exI rfl ⟨rfl,_,rfl,iteND (λz=>absurd rfl z) (λ_=>?_)⟩
   have hx11:∀ {H:Hp} {dr dw dd:Aj} {R W:List (Key×V)} {D:List V},Hse qw H x dr dw dd R W D→∃dx,H x=some (.ins qw dx (hF dr dw dd)):=λh=>h.ob
   refine ⟨λσ H'=>∃(p r y:Aj) (row:List Int) (top:Int) (hist:List (List Int×Int)) (vs:List V) (ds:List Deed),(∃z7 z8 z9 z10 z11 z12 z13 z14 z15,σ=[some (.ref a),some (.ref p),some (.ref p2),some (.int top),some (.int b),some (.ref x),some (.ref lp),z7,z8,z9,z10,z11,z12,z13,z14,z15])∧hist.length≤i+1∧LSt K qw qu qx H' a ns x dr dw dd b p lp r y row top hist vs ds,?_,?_⟩
   ·refine exI rfl ⟨rfl,_,rfl,zm (λz=>?_) (λz=>?_)⟩
    ·have e0:o.1=("" : Str):=by injection z
     obtain ⟨r',y',d,hA,ra',ok',on',wk',ch',kc⟩:=L10.deed hdd tout e0
     have hd10:=L10.ha.hs.d
     have rf10:=zj ds
     have pl11:=kc lp _ L10.pl lnd (λ_ z=>by cases z) (λ_ _ z=>by cases z)
     have pa11:=yw kc hd10 rf10 L10.pa
     have pr11:=kc.row hd10 rf10 L10.ok L10.pr
     have fp11:=kc.row hd10 rf10 ok' fp'
     have sc11:=kc.sql hdd L10.sc
     refine exI rfl ⟨.inl ⟨rfl,_,SqL.of pl11⟩,exI rfl (exI rfl ⟨sz2,λtq ntq=>?_⟩)⟩
     have s12:Same H11 (upd H11 tq (.tup [.ref p,.int top])):=Same.upd ntq
     have f12:upd H11 tq (.tup [.ref p,.int top]) tq=some (.tup [.ref p,.int top]):=qb
     generalize upd H11 tq (.tup [.ref p,.int top])=H12 at s12 f12
     have pl12:=s12 _ _ pl11
     have hA12:=hA.same s12
     have pa12:=yw (KC.of (dd:=dd) s12) hA.hs.d (zj _) pa11
     have rfv:=qyf pa12
     refine ⟨lp,wc rfl rfl ⟨pl12,(by rw [cf];lia),?_⟩⟩
     have kl:KC lp H12 (upd H12 lp (.lst (vs.reverse++[.ref tq]))):=KC.upd
     have hA13:=hA12.upd (L':=vs.reverse++[.ref tq]) pl12 lnd
     have pl13:upd H12 lp (.lst (vs.reverse++[.ref tq])) lp=some (.lst (V.ref tq::vs).reverse):=by rw [qb,cY]
     generalize upd H12 lp (.lst (vs.reverse++[.ref tq]))=H13 at kl hA13 pl13
     obtain ⟨pp',t',tv',wk1',wk2'⟩:=wk'
     refine ⟨_,rfl,_,rfl,p',r',y',o.2.1,o.2.2,(row,top)::hist,V.ref tq::vs,d::ds,⟨_,_,_,_,_,_,_,_,_,rfl⟩,by rw [aK];lia,?_⟩
     refine ⟨hA13,(ra'.same s12).kc ok' kl pl12 rfv,ok',on',⟨pp',t',tv',(wk1'.same s12).kc kl pl12,wk2'⟩,kl.row pl12 rfv ok' (s12 _ _ fp11),pl13,lnd,.cons ⟨tq,p,rfl,kl.tup pl12 f12,kl.row pl12 rfv L10.ok (s12 _ _ pr11),L10.ok⟩ (yw kl pl12 rfv pa12),Chain.kc kl pl12 rfv (Chain.kc (KC.of (dd:=dd) s12) hA.hs.d (zj _) ch'),kl.sql hdl (s12.sql sc11)⟩
    ·rcases tout with ⟨_,s11⟩|⟨e,_⟩
     ·exact ⟨p,r,y,row,top,hist,vs,ds,⟨_,_,_,_,_,_,_,_,_,rfl⟩,by lia,L10.same s11⟩
     ·exact absurd (by rw [e]) z
   ·rintro σ H' ⟨p,r,y,row,top,hist,vs,ds,⟨z7,z8,z9,z10,z11,z12,z13,z14,z15,rfl⟩,hl11,L11⟩
    obtain ⟨dx1,hx1⟩:=L11.ha.hs.ob
    obtain ⟨pp,t1,tv1,wk1,wk2⟩:=L11.wk
    refine exI rfl ⟨x,dx1,exI rfl ⟨hx1,w4 (by decide +kernel) (by decide +kernel) (by decide +kernel),?_⟩⟩
    dsimp only [kh,uy,tC]
    refine Y1 L11.ha.hs wk1 λq1 nq1=>?_
    have s12:Same H' (upd H' q1 (.tup [.str "r",.ref pp])):=Same.upd nq1
    have f12:upd H' q1 (.tup [.str "r",.ref pp]) q1=some (.tup [.str "r",.ref pp]):=qb
    generalize upd H' q1 (.tup [.str "r",.ref pp])=H12 at s12 f12
    refine exI rfl (exI rfl ⟨top,b,rfl,lb1,(sm b (by lia) (by lia)).mono (by decide),λp3 n3=>?_⟩)
    have s13:=Same.upd (H:=H12) (o:=.tup (ptV (wu top b))) n3
    have f13:upd H12 p3 (.tup (ptV (wu top b))) p3=some (.tup [.int (wu top b).1,.int (wu top b).2]):=qb
    generalize upd H12 p3 (.tup (ptV (wu top b)))=H13 at s13 f13
    refine ⟨sz2,λq4 n4=>?_⟩
    have s14:=Same.upd (H:=H13) (o:=.tup [.str "r",.ref p3]) n4
    have f14:upd H13 q4 (.tup [.str "r",.ref p3]) q4=some (.tup [.str "r",.ref p3]):=qb
    generalize upd H13 q4 (.tup [.str "r",.ref p3])=H14 at s14 f14
    have s4':=s12.trans (s13.trans s14)
    refine ⟨whD (wu top b),whD (wu top b),J3 (s14 _ _ (s13 _ _ f12)) (s4' _ _ wk1.pt),J3 f14 (s14 _ _ f13),Q9 _,Q9 _,qvf _,_,rfl,Z0 (qvj _) ?_⟩
    have L14:=L11.same s4'
    obtain ⟨ln1,ln2⟩:=L14.lens
    refine exI rfl ⟨x,dx1,exI rfl ⟨s4' _ _ hx1,w4 (by decide +kernel) (by decide +kernel) (by decide +kernel),x,dr,dw,dd,_,_,_,rfl,L14.ha.hs,exI rfl ⟨lp,exI rfl ⟨.inl (SqL.of L14.pl),wc rfl rfl ⟨rfl,_,rfl,iteNDV (λz=>absurd (by rw [cf];lia) z) (λ_=>?_)⟩⟩⟩⟩⟩
    exact ⟨p,r,y,row,top,hist,vs,ds,⟨_,_,_,_,_,_,_,_,_,rfl⟩,hl11,L14⟩
 ·rintro σ H9 ⟨p,r,y,row,top,hist,vs,ds,⟨z7,z8,z9,z10,z11,z12,z13,z14,z15,rfl⟩,hl9,L9⟩
  obtain ⟨pp,t1,tv1,wk1,wk2⟩:=L9.wk
  obtain ⟨ln1,ln2⟩:=L9.lens
  refine exI rfl (exI rfl (exI rfl (exI rfl (exI rfl ⟨lp,exI rfl ⟨.inl (SqL.of L9.pl),wc rfl rfl ⟨x,dr,dw,dd,r,y,p,pp,t1,tv1,j6 ds,row,top,b,exI rfl ⟨(by rw [cf];lia),L9.ha.hs,L9.rd,wk1,lb1,(by lia),L9.pr,λH10 s10=>(exI rfl (uc ?_))⟩⟩⟩⟩))))
  have L10:=L9.same s10
  refine exI rfl (exI rfl ⟨rfl,lp,exI rfl ⟨SqL.of L10.pl,λlq nlq=>?_⟩⟩)
  rw [List.reverse_reverse]
  have s11:Same H10 (upd H10 lq (.lst vs)):=Same.upd nlq
  have f11:upd H10 lq (.lst vs) lq=some (.lst vs):=qb
  have lqd:lq≠dd:=(qf L10.ha.hs.d nlq).symm
  generalize upd H10 lq (.lst vs)=H11 at s11 f11
  have L11:=L10.same s11
  obtain ⟨pp,t1,tv1,wk1,wk2⟩:=L11.wk
  refine ⟨lq,rfl,⟨_,SqL.of f11⟩,?_⟩
  refine www (K:=K) (a:=lq) (xs:=vs) (λj σ H'=>∃(p r y:Aj) (row:List Int) (top:Int) (ds:List Deed),(∃z7 z8 z9 z10 z11 z12 z13 z14 z15,σ=[some (.ref a),some (.ref p),some (.ref p2),some (.int top),some (.int b),some (.ref x),some (.ref lp),z7,z8,z9,z10,z11,z12,z13,z14,z15])∧HAt qw H' x dr dw dd (R1 r) (W1 y) ds∧RoadAt qu H' r row∧wt row∧(∃pp t tv,WkAt qx H' y "r" pp (wu top b) t tv)∧H' p=some (.lst (row.map V.int))∧H' lq=some (.lst vs)∧Paired (Zw H') vs hist∧Chain qu qx b H' (hist.drop j) ds r y) ⟨p,r,y,row,top,ds,⟨_,_,_,_,_,_,_,_,_,rfl⟩,L11.ha,L11.rd,L11.ok,⟨pp,t1,tv1,wk1⟩,L11.pr,f11,L11.pa,L11.ch⟩ ?_ ?_ ?_
  ·rintro j σ H' hj ⟨p,r,y,row,top,ds,_,_,_,_,_,_,a1,_⟩
   exact SqL.of a1
  ·rintro j v σ H' ev ⟨p,r,y,row,top,ds,⟨z7,z8,z9,z10,z11,z12,z13,z14,z15,rfl⟩,hA,hR,okr,⟨pp,t1,tv1,hW⟩,hp,hq,pa,ch⟩
   obtain ⟨h,eh,⟨aq,ph,rfl,fa,fph,okh⟩⟩:=qxf pa ev
   have hj:j<hist.length:=(aU.mp eh).1
   rw [List.drop_eq_getElem_cons hj,show hist[j]=h from (aU.mp eh).2] at ch
   obtain ⟨d,ds',rfl,r',y',cse,rr,ok',on',⟨pp',t',tv',wk'⟩,ch'⟩:=ch
   refine ⟨aq,exI rfl ⟨SqT.of fa,rfl,_,_,rfl,_,_,rfl,rfl,?_⟩⟩
   obtain ⟨dx1,hx1⟩:=hA.hs.ob
   have rest:∀H2,HAt qw H2 x dr dw dd (R1 r') (W1 y') ds'→KC dd H' H2→HAt qw H2 x dr dw dd (R1 r') (W1 y') ds'∧RoadAt qu H2 r' h.1∧WkAt qx H2 y' "r" pp' (wu h.2 b) t' tv'∧H2 ph=some (.lst (h.1.map V.int))∧H2 lq=some (.lst vs)∧Paired (Zw H2) vs hist∧Chain qu qx b H2 (hist.drop (j+1)) ds' r' y':=λH2 hA2 kc=>by
    have hd:=hA.hs.d
    have rf:=zj (d::ds')
    exact ⟨hA2,rr.kc ok' kc hd rf,wk'.kc kc hd,kc.row hd rf okh fph,kc lq _ hq lqd (λ_ z=>by cases z) (λ_ _ z=>by cases z),yw kc hd rf pa,Chain.kc kc hd rf ch'⟩
   have fin:∀(Pp:Hp→Prop) H2,(HAt qw H2 x dr dw dd (R1 r') (W1 y') ds'∧RoadAt qu H2 r' h.1∧WkAt qx H2 y' "r" pp' (wu h.2 b) t' tv'∧H2 ph=some (.lst (h.1.map V.int))∧H2 lq=some (.lst vs)∧Paired (Zw H2) vs hist∧Chain qu qx b H2 (hist.drop (j+1)) ds' r' y'→Pp H2)→HAt qw H2 x dr dw dd (R1 r') (W1 y') ds'→KC dd H' H2→Pp H2:=λPp H2 g hA2 kc=>g (rest H2 hA2 kc)
   refine exI rfl ⟨x,dx1,exI rfl ⟨hx1,w4 (by decide +kernel) (by decide +kernel) (by decide +kernel),?_⟩⟩
   dsimp only [uy]
   have tk:∀(Q2:VK) (E2:XK),(∀H2,HAt qw H2 x dr dw dd (R1 r') (W1 y') ds'→KC dd H' H2→Q2 .non H2)→Zf qw qk [.ref x] H' Q2 E2:=λQ2 E2 kk=>by
    have o1:(1:Nat)≤1000:=by decide
    rcases cse with ⟨e1,e2,rfl⟩|⟨e1,e2,rfl⟩
    ·refine hA.take o1 o1 (by rw [e1];exact qq9) (by rw [e2];exact bb) (by rw [e1];exact o1) (by rw [e2];exact az _) (by rw [e1];exact wq6) (by rw [e2];exact qqn) λH2 hA2 kc=>kk H2 ?_ kc
     rw [e1,e2,show exK (R1 r) (R1 r')=R1 r' from qup] at hA2
     exact hA2
    ·refine hA.take o1 o1 (by rw [e1];exact bb) (by rw [e2];exact qq9) (by rw [e1];exact az _) (by rw [e2];exact o1) (by rw [e1];exact qqn) (by rw [e2];exact wq6) λH2 hA2 kc=>kk H2 ?_ kc
     rw [e1,e2,show exK (W1 y) (W1 y')=W1 y' from qup] at hA2
     exact hA2
   refine tk _ _ λH2 hA2' kc=>?_
   obtain ⟨hA2,hR2,hW2,hp2,hq2,pa2,ch2⟩:=rest H2 hA2' kc
   obtain ⟨dx2,hx2⟩:=hA2.hs.ob
   refine exI rfl ⟨x,dx2,exI rfl ⟨hx2,w4 (by decide +kernel) (by decide +kernel) (by decide +kernel),?_⟩⟩
   dsimp only [kh,uy,tC]
   refine Y1 hA2.hs hW2 λq1 nq1=>?_
   have s12:Same H2 (upd H2 q1 (.tup [.str "r",.ref pp'])):=Same.upd nq1
   have f12:upd H2 q1 (.tup [.str "r",.ref pp']) q1=some (.tup [.str "r",.ref pp']):=qb
   generalize upd H2 q1 (.tup [.str "r",.ref pp'])=H12 at s12 f12
   refine exI rfl (exI rfl ⟨h.2,b,rfl,lb1,(sm b (by lia) (by lia)).mono (by decide),λp3 n3=>?_⟩)
   have s13:=Same.upd (H:=H12) (o:=.tup (ptV (wu h.2 b))) n3
   have f13:upd H12 p3 (.tup (ptV (wu h.2 b))) p3=some (.tup [.int (wu h.2 b).1,.int (wu h.2 b).2]):=qb
   generalize upd H12 p3 (.tup (ptV (wu h.2 b)))=H13 at s13 f13
   refine ⟨sz2,λq4 n4=>?_⟩
   have s14:=Same.upd (H:=H13) (o:=.tup [.str "r",.ref p3]) n4
   have f14:upd H13 q4 (.tup [.str "r",.ref p3]) q4=some (.tup [.str "r",.ref p3]):=qb
   generalize upd H13 q4 (.tup [.str "r",.ref p3])=H14 at s14 f14
   have s4':=s12.trans (s13.trans s14)
   refine ⟨whD (wu h.2 b),whD (wu h.2 b),J3 (s14 _ _ (s13 _ _ f12)) (s4' _ _ hW2.pt),J3 f14 (s14 _ _ f13),Q9 _,Q9 _,qvf _,_,rfl,Z0 (qvj _) ?_⟩
   have vr:w9 (R1 r') (.inr ("r" : Str))=some (.ref r'):=Z3
   refine ⟨_,rfl,x,dx2,_,rfl,s4' _ _ hx2,w4 (by decide +kernel) (by decide +kernel) (by decide +kernel),x,dr,dw,dd,_,_,_,"r",rfl,hA2.hs.same s4',λv e=>?_,λe=>by rw [vr] at e;cases e⟩
   rw [vr] at e
   cases e
   refine ⟨r',h.1,rfl,hR2.same s4',λp5 n5=>?_⟩
   have s15:=Same.upd (H:=H14) (o:=.lst (h.1.map V.int)) n5
   have f15:upd H14 p5 (.lst (h.1.map V.int)) p5=some (.lst (h.1.map V.int)):=qb
   generalize upd H14 p5 (.lst (h.1.map V.int))=H15 at s15 f15
   have s5':=s4'.trans s15
   refine exI rfl ⟨.list (h.1.map .int),.list (h.1.map .int),W7 (SqL.of f15),W7 (SqL.of (s5' _ _ hp2)),um h.1,um h.1,qxb h.1 h.1,_,rfl,Z0 (qqw h.1) ?_⟩
   exact ⟨ph,r',y',h.1,h.2,ds',⟨_,_,_,_,_,_,_,_,_,rfl⟩,hA2.same s5',hR2.same s5',okh,⟨pp',t',tv',hW2.same s5'⟩,s5' _ _ hp2,s5' _ _ hq2,yw (KC.of (dd:=dd) s5') hA2.hs.d (zj _) pa2,Chain.kc (KC.of (dd:=dd) s5') hA2.hs.d (zj _) ch2⟩
  ·rintro σ H' ⟨p,r,y,row,top,ds,⟨z7,z8,z9,z10,z11,z12,z13,z14,z15,rfl⟩,hA,hR,okr,⟨pp,t1,tv1,hW⟩,hp,hq,pa,ch⟩
   rw [List.drop_of_length_le (by rw [pa.length];exact af _)] at ch
   obtain ⟨d0,d1,rfl,c1,c2,c3,c4⟩:=ch
   refine exI rfl (exI rfl (exI rfl (exI rfl ⟨x,dr,dw,dd,r,y,p,pp,t1,tv1,_,row,top,b,2,rfl,rfl,hA.hs,hR,hW,lb1,(by lia),hp,λH10 s10=>(exI rfl (uc ?_))⟩)))
   have hA10:=hA.same s10
   obtain ⟨dx1,hx1⟩:=hA10.hs.ob
   have o1:(1:Nat)≤1000:=by decide
   refine exI rfl ⟨x,dx1,exI rfl ⟨hx1,w4 (by decide +kernel) (by decide +kernel) (by decide +kernel),?_⟩⟩
   dsimp only [uy]
   refine hA10.take o1 o1 (by rw [c1];exact bb) (by rw [c2];exact qq9) (by rw [c1];exact az _) (by rw [c2];exact o1) (by rw [c1];exact qqn) (by rw [c2];exact quq) λH12 hA12 kc12=>?_
   rw [c1,c2,show exK (W1 y) [(.inr ("w" : Str),.non)]=[] from qu5] at hA12
   obtain ⟨dx2,hx2⟩:=hA12.hs.ob
   refine exI rfl ⟨x,dx2,exI rfl ⟨hx2,w4 (by decide +kernel) (by decide +kernel) (by decide +kernel),?_⟩⟩
   dsimp only [uy]
   refine hA12.take o1 (az _) (by rw [c3];exact qq9) (by rw [c4];exact bb) (by rw [c3];exact o1) (by rw [c4];exact az _) (by rw [c3];exact quq) (by rw [c4];exact qqn) λH13 hA13 kc13=>?_
   rw [c3,c4,show exK (exK (R1 r) []) [(.inr ("r" : Str),.non)]=[] from qu5] at hA13
   have hh:Hse qw H13 x dr dw dd [] [] []:=hA13.hs
   obtain ⟨dx3,hx3⟩:=hh.ob
   refine ⟨_,rfl,x,dx3,_,rfl,hx3,w4 (by decide +kernel) (by decide +kernel) (by decide +kernel),x,dr,dw,dd,[],[],[],rfl,hh,az _,az _,λ_=>⟨qk,rfl,jj T.x_NothingDone,?_⟩,λD' v e=>absurd e.symm (bK _ (eC _ _))⟩
   refine exI rfl (exI rfl (k4 ?_))
   refine exI rfl ⟨x,dx3,exI rfl ⟨hx3,w4 (by decide +kernel) (by decide +kernel) (by decide +kernel),x,dr,dw,dd,[],[],[],rfl,hh,rfl,_,rfl,z5 (λ_=>?_) (λz=>absurd rfl z)⟩⟩
   refine ⟨_,rfl,x,dx3,_,rfl,hx3,w4 (by decide +kernel) (by decide +kernel) (by decide +kernel),x,dr,dw,dd,[],[],[],[],[],rfl,hh,rfl,by decide,rfl,by decide,λq l1 l2 ms1 ms2 H14 s14 pm1 st1 pm2 st2 f1 f2 fq=>?_⟩
   cases pm1.eq_nil
   cases pm2.eq_nil
   refine ⟨sz0,λe1 n1=>?_⟩
   have t1:=Same.upd (H:=H14) (o:=.lst []) n1
   have g1:upd H14 e1 (.lst []) e1=some (.lst []):=qb
   generalize upd H14 e1 (.lst [])=H15 at t1 g1
   refine ⟨sz0,λe2 n2=>?_⟩
   have t2:=Same.upd (H:=H15) (o:=.lst []) n2
   have g2:upd H15 e2 (.lst []) e2=some (.lst []):=qb
   generalize upd H15 e2 (.lst [])=H16 at t2 g2
   refine ⟨sz2,λq2 n2'=>?_⟩
   have t3:=Same.upd (H:=H16) (o:=.tup [.ref e1,.ref e2]) n2'
   have g3:upd H16 q2 (.tup [.ref e1,.ref e2]) q2=some (.tup [.ref e1,.ref e2]):=qb
   generalize upd H16 q2 (.tup [.ref e1,.ref e2])=H17 at t3 g3
   have t4:=t1.trans (t2.trans t3)
   refine ⟨nmD,nmD,rd_nm (t4 _ _ fq) (t4 _ _ f1) (t4 _ _ f2),rd_nm g3 (t3 _ _ (t2 _ _ g1)) (t3 _ _ g2),quj,quj,dep_nm,?_⟩
   rw [eqv_nm]
   exact k _
end
section
theorem all_mk {l:PySem.W.OpenLaw}{w:Ah}{K:Aa}{h:Heap}{mg:Str→Option Ag}{fa:Aj}{qg:Aj}{qh:Aj}{qz:Aj}{qt:Aj}{qm:Aj}{wq:Aj}{ww:Aj}{q8:Aj}{wv:Aj}{q9:Aj}{qd:Aj}{wj:Aj}{qk:Aj}{qu:Aj}{qx:Aj}{qw:Aj}{t_WIDEST:Tok}{t_LONGEST_TRACE:Tok}{t_FARTHEST:Tok}{t_LONGEST_NAME:Tok}{t_GREATEST_BOTTOM:Tok}{t_LETTERS:Tok}(X:K.In h)(G:h.Ns mainGlobals mg)(hfa:mg "law" = some (.ref fa))
  (d__law_cell:DefIn K "_law_cell" s__law_cell)
  (d__law_pick:DefIn K "_law_pick" s__law_pick)
  (d_check_bottom:DefIn K "check_bottom" s_check_bottom)
  (d_common_divisor:DefIn K "common_divisor" s_common_divisor)
  (d_lowest:DefIn K "lowest" s_lowest)
  (d_check_count:DefInD K "check_count" s_check_count)
  (d_is_line:DefIn K "is_line" s_is_line)
  (d_trace:DefIn K "trace" s_trace)
  (d_spot:DefIn K "spot" s_spot)
  (d_led_to:DefIn K "led_to" s_led_to)
  (d_less:DefIn K "less" s_less)
  (d_set_down:DefIn K "set_down" s_set_down)
  (d_is_name:DefIn K "is_name" s_is_name)
  (d_check_new_name:DefIn K "check_new_name" s_check_new_name)
  (d_exchange:DefIn K "exchange" s_exchange)
  (d__law_climb:DefIn K "_law_climb" s__law_climb)
  (d__law_heights:DefIn K "_law_heights" s__law_heights)
  (d__law_step:DefIn K "_law_step" s__law_step)
  (d__law_trace:DefIn K "_law_trace" s__law_trace)
  (d__law_after:DefIn K "_law_after" s__law_after)
  (d__law_common:DefIn K "_law_common" s__law_common)
  (d__law_low:DefIn K "_law_low" s__law_low)
  (d__law_spot:DefIn K "_law_spot" s__law_spot)
  (d__law_due:DefIn K "_law_due" s__law_due)
  (d__law_told:DefIn K "_law_told" s__law_told)
  (d__law_is:DefIn K "_law_is" s__law_is)
  (d_law:DefIn K "law" s_law)
  (a_RoadError:PySem.W.nsIn K mainGlobals "RoadError" = some (some (.ref qg)))
  (x_RoadError:PySem.W.excIn K qg [.type "ValueError",.type "Exception",.type "BaseException",.type "object"] "ValueError.__new__" = true)
  (a_BadLine:PySem.W.nsIn K mainGlobals "BadLine" = some (some (.ref qh)))
  (x_BadLine:PySem.W.excIn K qh [.type "ValueError",.type "Exception",.type "BaseException",.type "object"] "ValueError.__new__" = true)
  (a_BadBottom:PySem.W.nsIn K mainGlobals "BadBottom" = some (some (.ref qz)))
  (x_BadBottom:PySem.W.excIn K qz [.type "ValueError",.type "Exception",.type "BaseException",.type "object"] "ValueError.__new__" = true)
  (a_OffRoad:PySem.W.nsIn K mainGlobals "OffRoad" = some (some (.ref qt)))
  (x_OffRoad:PySem.W.excIn K qt [.type "ValueError",.type "Exception",.type "BaseException",.type "object"] "ValueError.__new__" = true)
  (a_BadCount:PySem.W.nsIn K mainGlobals "BadCount" = some (some (.ref qm)))
  (x_BadCount:PySem.W.excIn K qm [.type "ValueError",.type "Exception",.type "BaseException",.type "object"] "ValueError.__new__" = true)
  (a_TooLong:PySem.W.nsIn K mainGlobals "TooLong" = some (some (.ref wq)))
  (x_TooLong:PySem.W.excIn K wq [.type "ValueError",.type "Exception",.type "BaseException",.type "object"] "ValueError.__new__" = true)
  (a_BadRow:PySem.W.nsIn K mainGlobals "BadRow" = some (some (.ref ww)))
  (x_BadRow:PySem.W.excIn K ww [.type "ValueError",.type "Exception",.type "BaseException",.type "object"] "ValueError.__new__" = true)
  (a_BadName:PySem.W.nsIn K mainGlobals "BadName" = some (some (.ref q8)))
  (x_BadName:PySem.W.excIn K q8 [.type "ValueError",.type "Exception",.type "BaseException",.type "object"] "ValueError.__new__" = true)
  (a_Taken:PySem.W.nsIn K mainGlobals "Taken" = some (some (.ref wv)))
  (x_Taken:PySem.W.excIn K wv [.type "ValueError",.type "Exception",.type "BaseException",.type "object"] "ValueError.__new__" = true)
  (a_NoRoad:PySem.W.nsIn K mainGlobals "NoRoad" = some (some (.ref q9)))
  (x_NoRoad:PySem.W.excIn K q9 [.type "ValueError",.type "Exception",.type "BaseException",.type "object"] "ValueError.__new__" = true)
  (a_NoWalker:PySem.W.nsIn K mainGlobals "NoWalker" = some (some (.ref qd)))
  (x_NoWalker:PySem.W.excIn K qd [.type "ValueError",.type "Exception",.type "BaseException",.type "object"] "ValueError.__new__" = true)
  (a_Stood:PySem.W.nsIn K mainGlobals "Stood" = some (some (.ref wj)))
  (x_Stood:PySem.W.excIn K wj [.type "ValueError",.type "Exception",.type "BaseException",.type "object"] "ValueError.__new__" = true)
  (a_NothingDone:PySem.W.nsIn K mainGlobals "NothingDone" = some (some (.ref qk)))
  (x_NothingDone:PySem.W.excIn K qk [.type "ValueError",.type "Exception",.type "BaseException",.type "object"] "ValueError.__new__" = true)
  (a_Road:PySem.W.nsIn K mainGlobals "Road" = some (some (.ref qu)))
  (pg_Road:PySem.W.plainGet K qu Str.empty=true)
  (hd_Road:PySem.W.hasDictIn K qu=true)
  (po_Road:PySem.W.plainOver K qu=true)
  (sa_Road:PySem.W.findIn K (.ref qu) "__setattr__" = some (some (.builtin "object.__setattr__")))
  (mk_Road:PySem.W.makesIn K qu=true)
  (kc_Road:PySem.W.keepIn K (.ref qu)=true)
  (m_Road___init__:MethIn K qu "__init__" "Road.__init__" s_Road___init__)
  (m_Road_width:MethIn K qu "width" "Road.width" s_Road_width)
  (m_Road_ends:MethIn K qu "ends" "Road.ends" s_Road_ends)
  (m_Road_corners:MethIn K qu "corners" "Road.corners" s_Road_corners)
  (m_Road_on_road:MethIn K qu "on_road" "Road.on_road" s_Road_on_road)
  (m_Road_at:MethIn K qu "at" "Road.at" s_Road_at)
  (a_Walker:PySem.W.nsIn K mainGlobals "Walker" = some (some (.ref qx)))
  (pg_Walker:PySem.W.plainGet K qx Str.empty=true)
  (hd_Walker:PySem.W.hasDictIn K qx=true)
  (po_Walker:PySem.W.plainOver K qx=true)
  (sa_Walker:PySem.W.findIn K (.ref qx) "__setattr__" = some (some (.builtin "object.__setattr__")))
  (mk_Walker:PySem.W.makesIn K qx=true)
  (kc_Walker:PySem.W.keepIn K (.ref qx)=true)
  (m_Walker___init__:MethIn K qx "__init__" "Walker.__init__" s_Walker___init__)
  (m_Walker_gone:MethIn K qx "gone" "Walker.gone" s_Walker_gone)
  (a_House:PySem.W.nsIn K mainGlobals "House" = some (some (.ref qw)))
  (pg_House:PySem.W.plainGet K qw Str.empty=true)
  (hd_House:PySem.W.hasDictIn K qw=true)
  (po_House:PySem.W.plainOver K qw=true)
  (sa_House:PySem.W.findIn K (.ref qw) "__setattr__" = some (some (.builtin "object.__setattr__")))
  (mk_House:PySem.W.makesIn K qw=true)
  (kc_House:PySem.W.keepIn K (.ref qw)=true)
  (m_House___init__:MethIn K qw "__init__" "House.__init__" s_House___init__)
  (m_House_road_called:MethIn K qw "road_called" "House.road_called" s_House_road_called)
  (m_House_walker_called:MethIn K qw "walker_called" "House.walker_called" s_House_walker_called)
  (m_House_deeds:MethIn K qw "deeds" "House.deeds" s_House_deeds)
  (m_House_do:MethIn K qw "do" "House.do" s_House_do)
  (m_House_lay:MethIn K qw "lay" "House.lay" s_House_lay)
  (m_House_corners_of:MethIn K qw "corners_of" "House.corners_of" s_House_corners_of)
  (m_House_take_back:MethIn K qw "take_back" "House.take_back" s_House_take_back)
  (m_House_bend:MethIn K qw "bend" "House.bend" s_House_bend)
  (m_House_widen:MethIn K qw "widen" "House.widen" s_House_widen)
  (m_House_where:MethIn K qw "where" "House.where" s_House_where)
  (m_House_place:MethIn K qw "place" "House.place" s_House_place)
  (m_House_go:MethIn K qw "go" "House.go" s_House_go)
  (m_House_walkers_on:MethIn K qw "walkers_on" "House.walkers_on" s_House_walkers_on)
  (m_House_narrow:MethIn K qw "narrow" "House.narrow" s_House_narrow)
  (m_House_names:MethIn K qw "names" "House.names" s_House_names)
  (na_Road_heights:PySem.W.findIn K (.ref qu) "heights" = some none)
  (na_Walker_whose:PySem.W.findIn K (.ref qx) "whose" = some none)
  (na_Walker_point:PySem.W.findIn K (.ref qx) "point" = some none)
  (na_Walker_times:PySem.W.findIn K (.ref qx) "times" = some none)
  (na_House_roads:PySem.W.findIn K (.ref qw) "roads" = some none)
  (na_House_walkers:PySem.W.findIn K (.ref qw) "walkers" = some none)
  (na_House_done:PySem.W.findIn K (.ref qw) "done" = some none)
  (g_WIDEST:PySem.W.nsIn K mainGlobals "WIDEST" = some (some (.int 24 t_WIDEST)))
  (g_LONGEST_TRACE:PySem.W.nsIn K mainGlobals "LONGEST_TRACE" = some (some (.int 1000 t_LONGEST_TRACE)))
  (g_FARTHEST:PySem.W.nsIn K mainGlobals "FARTHEST" = some (some (.int 1000000000000000000000000000000000000000000000000000000000000 t_FARTHEST)))
  (g_LONGEST_NAME:PySem.W.nsIn K mainGlobals "LONGEST_NAME" = some (some (.int 12 t_LONGEST_NAME)))
  (g_GREATEST_BOTTOM:PySem.W.nsIn K mainGlobals "GREATEST_BOTTOM" = some (some (.int 40 t_GREATEST_BOTTOM)))
  (g_LETTERS:PySem.W.nsIn K mainGlobals "LETTERS" = some (some (.str "abcdefghijklmnopqrstuvwxyz" t_LETTERS)))
  (ms:PySem.W.mroIn K wj (.ref qh)=some false)
  (z_len:PySem.W.nsIn K mainGlobals "len" = some none)
  (z_abs:PySem.W.nsIn K mainGlobals "abs" = some none)
  (z_range:PySem.W.nsIn K mainGlobals "range" = some none)
  (z_list:PySem.W.nsIn K mainGlobals "list" = some none)
  (z_min:PySem.W.nsIn K mainGlobals "min" = some none)
  (z_max:PySem.W.nsIn K mainGlobals "max" = some none)
  (z_all:PySem.W.nsIn K mainGlobals "all" = some none)
  (z_any:PySem.W.nsIn K mainGlobals "any" = some none)
  (z_sorted:PySem.W.nsIn K mainGlobals "sorted" = some none)
  (z_enumerate:PySem.W.nsIn K mainGlobals "enumerate" = some none)
  (z_dict:PySem.W.nsIn K mainGlobals "dict" = some none) :
  ∃fd:Ad,(∀(s:Ab) (v:Ag),BindsTo s fd ⟨[v],[]⟩ [("_law_script",v)])∧∀base:Heap,K.In base→base.Ns mainGlobals mg→FnOk l.prog w K mg base (CXE l.prog w) 10 fa fd ["_law_script"] (qk8 K):=by
 have T:Txt K mg qg qh qz qt qm wq ww q8 wv q9 qd wj qk qu qx qw:=⟨aY X G z_len,aY X G z_abs,aY X G z_range,aY X G z_list,aY X G z_min,aY X G z_max,aY X G z_all,aY X G z_any,aY X G z_sorted,aY X G z_enumerate,aY X G z_dict,aF X G a_RoadError,⟨x_RoadError⟩,aF X G a_BadLine,⟨x_BadLine⟩,aF X G a_BadBottom,⟨x_BadBottom⟩,aF X G a_OffRoad,⟨x_OffRoad⟩,aF X G a_BadCount,⟨x_BadCount⟩,aF X G a_TooLong,⟨x_TooLong⟩,aF X G a_BadRow,⟨x_BadRow⟩,aF X G a_BadName,⟨x_BadName⟩,aF X G a_Taken,⟨x_Taken⟩,aF X G a_NoRoad,⟨x_NoRoad⟩,aF X G a_NoWalker,⟨x_NoWalker⟩,aF X G a_Stood,⟨x_Stood⟩,aF X G a_NothingDone,⟨x_NothingDone⟩,⟨pg_Road,hd_Road,po_Road,sa_Road⟩,na_Road_heights,⟨t_WIDEST,aF X G g_WIDEST⟩,aF X G a_Road,⟨pg_Walker,hd_Walker,po_Walker,sa_Walker⟩,⟨pg_House,hd_House,po_House,sa_House⟩,na_Walker_whose,na_Walker_point,na_Walker_times,na_House_roads,na_House_walkers,na_House_done,aF X G a_Walker,aF X G a_House,⟨t_LONGEST_TRACE,aF X G g_LONGEST_TRACE⟩,⟨t_FARTHEST,aF X G g_FARTHEST⟩,⟨t_LONGEST_NAME,aF X G g_LONGEST_NAME⟩,⟨t_GREATEST_BOTTOM,aF X G g_GREATEST_BOTTOM⟩,⟨t_LETTERS,aF X G g_LETTERS⟩,ms⟩
 obtain ⟨f,fd,a,F⟩:=d_law.ex
 have e:=hfa.symm.trans (aF X G a)
 cases e
 refine ⟨fd,λs v=>?_,λbase kb nb=>?_⟩
 ·obtain ⟨oc,od,kV,doc,pm,an,cdv,ct,osl,rfl,lk,hcd⟩:=F.ex
  exact .of_eq rfl
 ·have c1:Cal l.prog w K mg base "_law_cell" 1 (qvs K):=d__law_cell.cal X G qq5 λf fd F=>wwc F T
  have c2:Cal l.prog w K mg base "_law_pick" 2 (uj K):=d__law_pick.cal X G qw1 λf fd F=>wxg F T c1
  have c3:Cal l.prog w K mg base "check_bottom" 1 (Wh qz):=d_check_bottom.cal X G Wv λf fd F=>wqh F T
  have c4:Cal l.prog w K mg base "common_divisor" 1 qqy:=d_common_divisor.cal X G Qy λf fd F=>ok_gcd F T
  have c5:Cal l.prog w K mg base "lowest" 2 (j0 qz):=d_lowest.cal X G qyu λf fd F=>qyk F T c3 c4
  have c6:CalD l.prog w K mg base "check_count" 1 (qw7 qm):=d_check_count.cal X G Z4 Zh λf fd F=>wq5 F T
  have c7:Cal l.prog w K mg base "is_line" 1 (Yf K):=d_is_line.cal X G qkw λf fd F=>qz6 F T
  have c8:CCal l.prog w K mg base "Road" qu 2 (y0 K qh qu):=m_Road___init__.ccal T.g_Road mk_Road kc_Road Q5 λf fd F=>ww2 F T c7
  have c9:MCal l.prog w K mg base qu "width" 1 (yq qu):=m_Road_width.cal Jq λf fd F=>qu1 F T
  have c10:MCal l.prog w K mg base qu "ends" 2 (qvz qu ww):=m_Road_ends.cal qwu λf fd F=>wwp F T c9
  have c11:MCal l.prog w K mg base qu "corners" 1 (v3 qu):=m_Road_corners.cal Wy λf fd F=>qvr F T
  have c12:MCal l.prog w K mg base qu "on_road" 3 (Qw K qu qz qt):=m_Road_on_road.cal Wk λf fd F=>qkj F T c9 c5
  have c13:MCal l.prog w K mg base qu "at" 4 (spAt K qu qz qt):=m_Road_at.cal qkk λf fd F=>ok_at F T c9 c5 c10 c12
  have c14:Cal l.prog w K mg base "trace" 5 (qwb qu wq):=d_trace.cal X G wq3 λf fd F=>qug F T c13
  have c15:Cal l.prog w K mg base "spot" 1 qvb:=d_spot.cal X G wxy λf fd F=>wxn F T
  have c16:Cal l.prog w K mg base "led_to" 1 wqk:=d_led_to.cal X G qyc λf fd F=>ok_led F T
  have c17:Cal l.prog w K mg base "less" 2 (qzt K qz):=d_less.cal X G wxs λf fd F=>wxp F T c3
  have c18:CCal l.prog w K mg base "Walker" qx 1 (Qq qx):=m_Walker___init__.ccal T.g_Walker mk_Walker kc_Walker uw λf fd F=>qut F T
  have c19:Cal l.prog w K mg base "set_down" 3 (Q6 qx):=d_set_down.cal X G qzz λf fd F=>qxk F T c18
  have c20:MCal l.prog w K mg base qx "gone" 6 (qv6 qx qu):=m_Walker_gone.cal Zb λf fd F=>wxt F T c14 c16 c15 c18
  have c21:Cal l.prog w K mg base "is_name" 1 Yh:=d_is_name.cal X G qv5 λf fd F=>qz0 F T
  have c22:Cal l.prog w K mg base "check_new_name" 2 (yk q8 wv):=d_check_new_name.cal X G ug λf fd F=>qx4 F T c21
  have c23:Cal l.prog w K mg base "exchange" 1 qqs:=d_exchange.cal X G qxw λf fd F=>wwf F T
  have c24:CCal l.prog w K mg base "House" qw 1 (qwq qw):=m_House___init__.ccal T.g_House mk_House kc_House u8 λf fd F=>qu2 F T
  have c25:MCal l.prog w K mg base qw "road_called" 1 (zb qw q9 true):=m_House_road_called.cal j5 λf fd F=>Yd F T
  have c26:MCal l.prog w K mg base qw "walker_called" 1 (zb qw qd false):=m_House_walker_called.cal jx λf fd F=>Q1 F T
  have c27:MCal l.prog w K mg base qw "deeds" 1 (Wr qw):=m_House_deeds.cal Yt λf fd F=>wwk F T
  have c28:MCal l.prog w K mg base qw "do" 2 (Y4 qw):=m_House_do.cal qxt λf fd F=>ok_do F T c23
  have c29:MCal l.prog w K mg base qw "lay" 4 (qu0 K qw qu q8 wv qh):=m_House_lay.cal qqp λf fd F=>ok_lay F T c22 c8 c28
  have c30:MCal l.prog w K mg base qw "corners_of" 2 (ku qw qu q9):=m_House_corners_of.cal yd λf fd F=>Jb F T c25 c11
  have c31:MCal l.prog w K mg base qw "take_back" 2 (Zf qw qk):=m_House_take_back.cal ux λf fd F=>ww3 F T c23
  have c32:MCal l.prog w K mg base qw "bend" 4 (qkb qw qu q9 qh):=m_House_bend.cal Y6 λf fd F=>wx7 F T c25 c11 c8 c28
  have c33:MCal l.prog w K mg base qw "widen" 4 (qw0 qw qu q9 qh):=m_House_widen.cal Zp λf fd F=>qun F T c25 c11 c8 c28
  have c34:MCal l.prog w K mg base qw "where" 2 (u7 qw qx qd):=m_House_where.cal Z9 λf fd F=>wwv F T c26
  have c35:MCal l.prog w K mg base qw "place" 5 (qq6 K qw qu qx q8 wv q9 qz qt):=m_House_place.cal Yn λf fd F=>qu3 F T c22 c25 c5 c12 c19 c28
  have c36:MCal l.prog w K mg base qw "go" 8 (spGo qw qu qx qd qm):=m_House_go.cal qzu λf fd F=>ok_go F T c26 c6 c20 c28
  have c37:MCal l.prog w K mg base qw "walkers_on" 1 (spOn qw qx):=m_House_walkers_on.cal yf λf fd F=>Jw F T
  have c38:MCal l.prog w K mg base qw "narrow" 4 (Zc qw qu qx q9 qh wj):=m_House_narrow.cal Wu λf fd F=>qjc F T c25 c11 c8 c9 c37 c17 c28
  have c39:MCal l.prog w K mg base qw "names" 1 (qwk qw):=m_House_names.cal Zv λf fd F=>qu4 F T
  have c40:Cal l.prog w K mg base "_law_climb" 3 (Wt K):=d__law_climb.cal X G Jc λf fd F=>wqz F T c2
  have c41:Cal l.prog w K mg base "_law_heights" 4 (Qm K):=d__law_heights.cal X G Wf λf fd F=>qkq F T c2 c40
  have c42:Cal l.prog w K mg base "_law_step" 1 (qz8 K):=d__law_step.cal X G qwj λf fd F=>ww9 F T
  have c43:Cal l.prog w K mg base "_law_trace" 2 (Y0 K):=d__law_trace.cal X G Jv λf fd F=>qjy F T c42
  have c44:Cal l.prog w K mg base "_law_after" 1 (qw5 K):=d__law_after.cal X G Y7 λf fd F=>wwy F T
  have c45:Cal l.prog w K mg base "_law_common" 1 qqy:=d__law_common.cal X G Yr λf fd F=>qj3 F T
  have c46:Cal l.prog w K mg base "_law_low" 2 qkt:=d__law_low.cal X G qx9 λf fd F=>ok_low F T c45
  have c47:Cal l.prog w K mg base "_law_spot" 3 (qqt K):=d__law_spot.cal X G qwr λf fd F=>wqf F T c2
  have c48:Cal l.prog w K mg base "_law_due" 3 wq2:=d__law_due.cal X G qxd λf fd F=>ok_due F T c43 c44
  have c49:Cal l.prog w K mg base "_law_told" 9 (qz4 qw qu qx):=d__law_told.cal X G qwd λf fd F=>wxd F T c36 c32 c33 c38
  have c50:Cal l.prog w K mg base "_law_is" 3 (spIs qw qu qx):=d__law_is.cal X G qv8 λf fd F=>ok_is F T c30 c34 c46 c27
  exact ok_law F T c2 c41 c47 c46 c24 c29 c35 c48 c49 c34 c27 c50 c31 c30 c39
theorem walk {l:PySem.W.OpenLaw}{q:Ac}{loose:List Str}{XP:(Str→Option Ag)→Heap→Prop}{YP:Ah→Heap→Prop}{d:DefRec}{K:Params→Aa}(hn:l.most=some 63)(hdf:d.params.defaults=[])
  (hY:∀(w:Ah) (h:Heap),YP w h→(K w.params).In h)
  (F:∀(w:Ah) (mg:Str→Option Ag) (fa:Aj) (h:Heap),(K w.params).In h→h.Ns mainGlobals mg→mg d.name=some (.ref fa) →
   ∃fd:Ad,(∀(s:Ab) (u:Ag),BindsTo s fd ⟨[u],[]⟩ [("_law_script",u)])∧∀base:Heap,(K w.params).In base→base.Ns mainGlobals mg→FnOk l.prog w (K w.params) mg base (CXE l.prog w) 10 fa fd ["_law_script"] (qk8 (K w.params))) :
  PySem.W.WalkO q loose XP YP l.row.toRowW d [] (λf vs=>PySem.call f vs) :=
 L2.wws (n:=63) (k:=10) (x := "_law_script") (CX:=λw=>CXE l.prog w) (sp:=λw=>qk8 (K w.params)) hn (by decide) hdf ⟨rfl,by decide,by decide⟩ hY F (λ_ _ a ns hl _ hS=>⟨a,ns,rfl,hS,hl,λ_=>rfl⟩) λ_ _ _ _ _ z=>CXE.no z
end
end My
open PySem PySem.W PyProof.Rows
local macro_rules | `(tactic| walk_at "def")=>`(tactic| (refine' L2.def_mk ?a ?l ?c ?k;(case a=>k_is);(case l=>k_is);(case c=>k_is);(case k=>k_is)))
local macro_rules | `(tactic| walk_at "defD")=>`(tactic| (refine' L2.wxw ?a ?l ?c ?k ?t;(case a=>k_is);(case l=>k_is);(case c=>k_is);(case k=>k_is);(case t=>k_is)))
local macro_rules | `(tactic| walk_at "meth")=>`(tactic| (refine' L2.wxh ?a ?i ?l ?c ?k;(case a=>k_is);(case i=>k_is);(case l=>k_is);(case c=>k_is);(case k=>k_is)))
namespace PySem.W.Fast
theorem tw5755494633303518826:True:=trivial
theorem tw221846608841364276:True:=trivial
theorem tw16393137673101384969:True:=trivial
theorem tw18231870868014231542:True:=trivial
theorem tw5784037485061359848:True:=trivial
theorem tw13971315445337606128:True:=trivial
theorem tw6553234043576412635:True:=trivial
theorem tw15250697105543453085:True:=trivial
theorem tw4296531590590472120:True:=trivial
theorem tw13407901648660604165:True:=trivial
theorem tw16922608293661219402:True:=trivial
theorem tw10346762648241302767:True:=trivial
theorem tw2459307952382681159:True:=trivial
theorem tw15102076890437966006:True:=trivial
theorem tw3057083186969987986:True:=trivial
theorem tw3948293501750074026:True:=trivial
theorem tw4192916749487722800:True:=trivial
theorem tw12409940018071065063:True:=trivial
theorem tw12762728091186224331:True:=trivial
theorem tw8984567115906287334:True:=trivial
theorem tw13341932752814394879:True:=trivial
theorem tw10844650004913447138:True:=trivial
theorem tw17793274182648313168:True:=trivial
theorem tw9868383136331897762:True:=trivial
theorem tw2460129802166537736:True:=trivial
theorem tw11539388726932646792:True:=trivial
theorem tw17302798582288092299:True:=trivial
theorem tw5356292773728691582:True:=trivial
theorem tw9660781592527277758:True:=trivial
theorem tw2296825523521447922:True:=trivial
theorem tw7088868427738833002:True:=trivial
theorem tw8293535182116213012:True:=trivial
theorem tw11245533264763238095:True:=trivial
theorem tw11637119155469804792:True:=trivial
theorem tw13118797054688111360:True:=trivial
theorem tw14899500576485411510:True:=trivial
theorem tw2259571214781103478:True:=trivial
theorem tw1857882308979266615:True:=trivial
theorem tw6645130315454847628:True:=trivial
theorem tw16775436182282530852:True:=trivial
theorem tw14050120430183927826:True:=trivial
theorem tw8386624294078267415:True:=trivial
theorem tw11560920644261285880:True:=trivial
theorem tw15856531157603346111:True:=trivial
theorem tw443651986337397771:True:=trivial
theorem tw17050773589059751193:True:=trivial
theorem tw6266435887210637536:True:=trivial
theorem tw13978858544471373130:True:=trivial
theorem tw14089942618199606392:True:=trivial
theorem tw10193390570309989333:True:=trivial
theorem tw5211533610971647680:True:=trivial
theorem tw17895703721060640075:True:=trivial
theorem tw11945848540470985933:True:=trivial
theorem tw13372231088433865098:True:=trivial
theorem tw12880054733342450761:True:=trivial
theorem tw4610770209225790210:True:=trivial
theorem tw67355429577979580:True:=trivial
theorem tw14046176086902481269:True:=trivial
theorem tw14082939287524262770:True:=trivial
theorem tw16272409900035705532:True:=trivial
theorem tw12393294643749249951:True:=trivial
theorem tw13961933144066753180:True:=trivial
theorem tw16778333192502816673:True:=trivial
theorem tw390217925064352603:True:=trivial
theorem tw17067590358237789072:True:=trivial
theorem tw17962434819410715551:True:=trivial
theorem tw4186733467213375043:True:=trivial
theorem tw13838865706562313002:True:=trivial
theorem tw13754772649404402298:True:=trivial
theorem tw14018923606455018680:True:=trivial
theorem tw12851122168329365320:True:=trivial
theorem tw1957912180161740228:True:=trivial
theorem tw2267797731899770727:True:=trivial
theorem tw9676674244569256820:True:=trivial
theorem tw7082426387005413601:True:=trivial
theorem tw7349704462171887919:True:=trivial
theorem tw4899038819896189479:True:=trivial
theorem tw4880997763230159034:True:=trivial
theorem tw7621340724099629090:True:=trivial
theorem tw13862360939117650339:True:=trivial
theorem tw11923182937511802618:True:=trivial
theorem tw7456242535388207439:True:=trivial
theorem tw16670963116294552046:True:=trivial
theorem tw13832449844257270176:True:=trivial
theorem tw5054391627720675318:True:=trivial
theorem tw12883362784804543266:True:=trivial
theorem tw5614922144525829273:True:=trivial
theorem tw7322671190721271671:True:=trivial
theorem tw15050151376545563777:True:=trivial
theorem tw4436410005495247958:True:=trivial
theorem tw10675264867256453834:True:=trivial
theorem tw15863768039888141513:True:=trivial
theorem tw2282350111888620590:True:=trivial
theorem tw5644030058435440508:True:=trivial
theorem tw1025043013515264118:True:=trivial
theorem tw10922827907486847908:True:=trivial
theorem tw7534754462178277247:True:=trivial
theorem tw16268329644360079635:True:=trivial
theorem tw12590167951880975632:True:=trivial
theorem tw8289126272848165413:True:=trivial
theorem tw11787042645638532401:True:=trivial
theorem tw2795237749940835484:True:=trivial
theorem tw5273243968051017288:True:=trivial
theorem tw15618436185672361029:True:=trivial
theorem tw18012198945308782731:True:=trivial
theorem tw4786036340187168354:True:=trivial
theorem tw4437892072293767790:True:=trivial
theorem tw12617084310697381339:True:=trivial
theorem tw7999281477230420957:True:=trivial
theorem tw4700274648115046887:True:=trivial
theorem tw8910468970014580494:True:=trivial
theorem tw220653743929288296:True:=trivial
theorem tw10422325685325138390:True:=trivial
theorem tw2223190347415584322:True:=trivial
theorem tw12525939693768016765:True:=trivial
theorem tw9318261369174835236:True:=trivial
theorem tw18406809924279031422:True:=trivial
theorem tw16963208375792205510:True:=trivial
theorem tw17215918614473880075:True:=trivial
theorem tw13009023101150312289:True:=trivial
theorem tw8026542729712589451:True:=trivial
theorem tw17232058143154123461:True:=trivial
theorem tw4570771768284883473:True:=trivial
theorem tw17926831685571325595:True:=trivial
theorem tw15568426549114857145:True:=trivial
theorem tw4615037103643902943:True:=trivial
theorem tw2069714944407031197:True:=trivial
theorem tw13896561645200252779:True:=trivial
theorem tw8561716921239390091:True:=trivial
theorem tw9489280403201436106:True:=trivial
theorem tw14606961889607542562:True:=trivial
theorem tw14844311344305951421:True:=trivial
theorem tw3225047088251037001:True:=trivial
theorem tw13161941222256752338:True:=trivial
theorem tw2274577051129961969:True:=trivial
theorem tw2675647661741710934:True:=trivial
theorem tw347695021862997211:True:=trivial
theorem tw2235821569623094394:True:=trivial
theorem tw16803248661997942022:True:=trivial
theorem tw4377643131864273901:True:=trivial
theorem tw18162666581353023877:True:=trivial
theorem tw16614816529407522184:True:=trivial
theorem tw6485412442853175526:True:=trivial
theorem tw1160152665530857732:True:=trivial
theorem tw15637850754361437788:True:=trivial
theorem tw7075095220061949739:True:=trivial
theorem tw8339820054058839316:True:=trivial
theorem tw13953314236418911773:True:=trivial
theorem tw2685049947415834566:True:=trivial
theorem tw1785663908164141753:True:=trivial
theorem tw5289196770349078803:True:=trivial
theorem tw18212744630080088465:True:=trivial
theorem tw18048341599182475966:True:=trivial
theorem tw17951311267615683949:True:=trivial
theorem tw8875882274683770880:True:=trivial
theorem tw8007428796718646432:True:=trivial
theorem tw3576216573597337659:True:=trivial
theorem tw12211867174576755164:True:=trivial
theorem tw12505290531781469506:True:=trivial
theorem tw9330873910085268578:True:=trivial
theorem tw6551080753400785093:True:=trivial
theorem tw827928959538118290:True:=trivial
theorem tw11983178583496570932:True:=trivial
theorem tw4093841811530260143:True:=trivial
theorem tw15799677292481932840:True:=trivial
theorem tw1731917108486643175:True:=trivial
theorem tw1789854835975752625:True:=trivial
theorem tw2461174866679832332:True:=trivial
theorem tw10221468519665855044:True:=trivial
theorem tw3863874590707111691:True:=trivial
theorem tw9718189878943386831:True:=trivial
theorem tw7672119215095142916:True:=trivial
theorem tw4761762517599025140:True:=trivial
theorem tw5003112144230670308:True:=trivial
theorem tw12505433550891094390:True:=trivial
theorem tw2138300729006300442:True:=trivial
theorem tw15075146155802689741:True:=trivial
theorem tw13065319178658245059:True:=trivial
theorem tw9788431846587372014:True:=trivial
theorem tw9760239534099619519:True:=trivial
theorem tw10216474718536488786:True:=trivial
theorem tw3494852500673542364:True:=trivial
theorem tw17927751620815010194:True:=trivial
theorem tw7026551522975533051:True:=trivial
theorem tw16083389345367081613:True:=trivial
theorem tw8948199728096346363:True:=trivial
theorem tw4861430673101812499:True:=trivial
theorem tw9783278076257459132:True:=trivial
theorem tw8184404164444620047:True:=trivial
theorem tw1736756219353788908:True:=trivial
theorem tw14803819049959656212:True:=trivial
theorem tw10011620956668089749:True:=trivial
theorem tw13464801087610440031:True:=trivial
theorem tw15419781801360495491:True:=trivial
theorem tw10273952635064041410:True:=trivial
theorem tw13060193130413296695:True:=trivial
theorem tw10212368644961033724:True:=trivial
theorem tw12840016734682014943:True:=trivial
theorem tw14391550643521975384:True:=trivial
theorem tw1746903910349849558:True:=trivial
theorem tw13913976628896138186:True:=trivial
theorem tw375581508435841083:True:=trivial
theorem tw3001310142283412413:True:=trivial
theorem tw8136954903440753771:True:=trivial
theorem tw4222561499832278093:True:=trivial
theorem tw12722754678778125974:True:=trivial
theorem tw11720840470891962923:True:=trivial
theorem tw9820621371453345243:True:=trivial
theorem tw1873812022915280166:True:=trivial
theorem tw12106980693356332474:True:=trivial
theorem tw13239999149867262183:True:=trivial
theorem tw5758451910998649771:True:=trivial
theorem tw8369055290211964315:True:=trivial
theorem tw12420908415818816685:True:=trivial
theorem tw14313803414777539863:True:=trivial
theorem tw13032248989084936127:True:=trivial
theorem tw12032668859489143824:True:=trivial
theorem tw11500562957276702583:True:=trivial
theorem tw757688309523608800:True:=trivial
theorem tw11479241870905607311:True:=trivial
theorem tw16661068196949312687:True:=trivial
theorem tw7201303010080369353:True:=trivial
theorem tw1485103131709665633:True:=trivial
theorem tw2238030131012354827:True:=trivial
theorem tw2095205841121998204:True:=trivial
theorem tw3646338394165119186:True:=trivial
theorem tw11284924299785586093:True:=trivial
theorem tw12955513581950540663:True:=trivial
theorem tw10243501942277061411:True:=trivial
theorem tw118468274769108691:True:=trivial
theorem tw321132211036531764:True:=trivial
theorem tw12130071862879129166:True:=trivial
theorem tw12233450694426054949:True:=trivial
theorem tw6330951041250243223:True:=trivial
theorem tw5531031528379478373:True:=trivial
theorem tw18437010568604476112:True:=trivial
theorem tw16106983657856426895:True:=trivial
theorem tw11927194224988752837:True:=trivial
theorem tw18045545106618374821:True:=trivial
theorem tw5724563730429041717:True:=trivial
theorem tw7119180750832188136:True:=trivial
theorem tw965598657447546023:True:=trivial
theorem tw13538149103231212289:True:=trivial
theorem tw3370773412589558186:True:=trivial
theorem tw12194607299022432464:True:=trivial
theorem tw15523897388907111310:True:=trivial
theorem tw13643832807476372107:True:=trivial
theorem tw12779107652639580181:True:=trivial
theorem tw5001579127519197643:True:=trivial
theorem tw15174359872153540251:True:=trivial
theorem tw16601273437611393087:True:=trivial
theorem tw7378178144080611588:True:=trivial
theorem tw5531703017664293598:True:=trivial
theorem tw17617781257111610760:True:=trivial
theorem tw10408699922872923731:True:=trivial
theorem tw8571774778088753282:True:=trivial
theorem tw612787433596240484:True:=trivial
theorem tw13692083001959153173:True:=trivial
theorem tw272036169213748130:True:=trivial
theorem tw12954951883582557648:True:=trivial
theorem tw7825167010169346928:True:=trivial
theorem tw8436549933037591777:True:=trivial
theorem tw16230758846538278805:True:=trivial
theorem tw15949951359967608232:True:=trivial
theorem tw3774693288814211697:True:=trivial
theorem tw15815177265501782329:True:=trivial
theorem tw7127519592023213889:True:=trivial
theorem tw13288518151199341696:True:=trivial
theorem tw12013664274718039042:True:=trivial
theorem tw12545692597388257690:True:=trivial
theorem tw988297081935333129:True:=trivial
theorem tw16271702821650794490:True:=trivial
theorem tw2363273016831596114:True:=trivial
theorem tw9541254877496585219:True:=trivial
theorem tw6619026025892065489:True:=trivial
theorem tw4779865734078219255:True:=trivial
theorem tw3867320233334072679:True:=trivial
theorem tw16086385792207601306:True:=trivial
theorem tw10441044585994842217:True:=trivial
theorem tw14499481410108517274:True:=trivial
theorem tw16897904118796917484:True:=trivial
theorem tw12695446001127833027:True:=trivial
theorem tw18221195771346297737:True:=trivial
theorem tw5667743996816555895:True:=trivial
theorem tw1428587810974125357:True:=trivial
theorem tw5787467032680905088:True:=trivial
theorem tw6585144176003292132:True:=trivial
theorem tw17489653303949286413:True:=trivial
theorem tw4356887972441008669:True:=trivial
theorem tw5808511727201327105:True:=trivial
theorem tw14061339828414768311:True:=trivial
theorem tw227609689537155539:True:=trivial
theorem tw15936755180599572256:True:=trivial
theorem tw3231925489141408240:True:=trivial
theorem tw7542561192716943868:True:=trivial
theorem tw7651826368448274310:True:=trivial
theorem tw7776552438080683510:True:=trivial
theorem tw5993186839615199286:True:=trivial
theorem tw13025922526016698854:True:=trivial
theorem tw10891395674159214784:True:=trivial
theorem tw700129856276383143:True:=trivial
theorem tw778767638910135944:True:=trivial
theorem tw3891691730578074386:True:=trivial
theorem tw9044458270979773470:True:=trivial
theorem tw10330970046634078056:True:=trivial
theorem tw9911997202739910188:True:=trivial
theorem tw310295040957026326:True:=trivial
theorem tw16478464051685746475:True:=trivial
theorem tw4974432173856015213:True:=trivial
theorem tw6587834771605416201:True:=trivial
theorem tw10019248785495739783:True:=trivial
theorem tw4401322928152709285:True:=trivial
theorem tw9326069966584515167:True:=trivial
theorem tw10255710741737905035:True:=trivial
theorem tw17734124382450484658:True:=trivial
theorem tw9453619054644091716:True:=trivial
theorem tw14304940982596684476:True:=trivial
theorem tw16431022921483368187:True:=trivial
theorem tw734685471935647469:True:=trivial
theorem tw7220844122861338839:True:=trivial
theorem tw8458526895555670813:True:=trivial
theorem tw3903311928193967492:True:=trivial
theorem tw1316460508301871063:True:=trivial
theorem tw7131967678021740253:True:=trivial
theorem tw12988486062799922841:True:=trivial
theorem tw1466492175282106687:True:=trivial
theorem tw18154294045751679628:True:=trivial
theorem tw12051817121175057567:True:=trivial
theorem tw16846278686121122080:True:=trivial
theorem tw5871206496189703461:True:=trivial
theorem tw10071854130179773249:True:=trivial
theorem tw15254506438457468195:True:=trivial
theorem tw721054270448329684:True:=trivial
theorem tw14891678187285175737:True:=trivial
theorem tw17073969461142431225:True:=trivial
theorem tw2151868061982788939:True:=trivial
theorem tw1938404196551612654:True:=trivial
theorem tw8259537056809090336:True:=trivial
theorem tw18284361508852042603:True:=trivial
theorem tw1957057307504463499:True:=trivial
theorem tw14608314764763079912:True:=trivial
theorem tw14995864034895922333:True:=trivial
theorem tw6647630222344137977:True:=trivial
theorem tw12896370835957756403:True:=trivial
theorem tw1085606214620843029:True:=trivial
theorem tw3007264983267461257:True:=trivial
theorem tw8456038624664840642:True:=trivial
theorem tw12332481662826424561:True:=trivial
theorem tw12626394595241511405:True:=trivial
theorem tw5109548213260103740:True:=trivial
theorem tw3741577210304810121:True:=trivial
theorem tw13485352234050040467:True:=trivial
theorem tw18324071306173962089:True:=trivial
theorem tw12753246531177748989:True:=trivial
theorem tw9600140422522234884:True:=trivial
theorem tw16006497748227046500:True:=trivial
theorem tw17093224714384439273:True:=trivial
theorem tw16292906363913263971:True:=trivial
theorem tw15389835391909546542:True:=trivial
theorem tw6198619639829108357:True:=trivial
theorem tw9408092720219699494:True:=trivial
theorem tw15013014324199790984:True:=trivial
theorem tw15773223764896032439:True:=trivial
theorem tw11041533768055109094:True:=trivial
theorem tw12684319753050550845:True:=trivial
theorem tw18025827483438541282:True:=trivial
theorem tw8164975754708735374:True:=trivial
theorem tw165839152268311350:True:=trivial
theorem tw1488359254642178084:True:=trivial
theorem tw96514208082660929:True:=trivial
theorem tw12954099369540051967:True:=trivial
theorem tw14071624176713993781:True:=trivial
theorem tw11243405350321797779:True:=trivial
theorem tw14635288960496917538:True:=trivial
theorem tw849757440883584374:True:=trivial
theorem tw806050610292053470:True:=trivial
theorem tw7535682022024503730:True:=trivial
theorem tw16354705824183957941:True:=trivial
theorem tw5334130162070536637:True:=trivial
theorem tw10345574979632155314:True:=trivial
theorem tw16102961872041652459:True:=trivial
theorem tw4547348556095198630:True:=trivial
theorem tw7990803502169525567:True:=trivial
theorem tw12932780626435312227:True:=trivial
theorem tw8658634523196930252:True:=trivial
theorem tw3824931335399054318:True:=trivial
theorem tw15658162493094807066:True:=trivial
theorem tw6342758548807404556:True:=trivial
theorem tw5565968915320310078:True:=trivial
theorem tw6936288050413579575:True:=trivial
theorem tw6260002490453965264:True:=trivial
theorem tw7481970382669577649:True:=trivial
theorem tw15452573263518640508:True:=trivial
theorem tw6223649897377655428:True:=trivial
theorem tw17360084119499508616:True:=trivial
theorem tw1832902892323081007:True:=trivial
theorem tw14244328067717848883:True:=trivial
theorem tw2529044010634459613:True:=trivial
theorem tw270084927317162954:True:=trivial
theorem tw6987462126905634784:True:=trivial
theorem tw17847881494497749515:True:=trivial
theorem tw18365743104346433013:True:=trivial
theorem tw6335192021275904456:True:=trivial
theorem tw16511726111676485419:True:=trivial
theorem tw8513484185378706531:True:=trivial
theorem tw10719339480744700316:True:=trivial
theorem tw12777081550850901135:True:=trivial
theorem tw16575392324579034126:True:=trivial
theorem tw2722047843307175869:True:=trivial
theorem tw6333790663037781790:True:=trivial
theorem tw11585462156881730967:True:=trivial
theorem tw16327480567598338026:True:=trivial
theorem tw6453774485057290938:True:=trivial
theorem tw10324374278916465738:True:=trivial
theorem tw61401790655256253:True:=trivial
theorem tw168365258797294452:True:=trivial
theorem tw352776159230353021:True:=trivial
theorem tw1037332922204325955:True:=trivial
theorem tw2859103568186579946:True:=trivial
theorem tw2489086265617018708:True:=trivial
theorem tw18430119441270376134:True:=trivial
theorem tw16855555494913526008:True:=trivial
theorem tw7967830081225407477:True:=trivial
theorem tw3097951047778680025:True:=trivial
theorem tw9311095593257696475:True:=trivial
theorem tw16353846045118283137:True:=trivial
theorem tw10357547599872101643:True:=trivial
theorem tw16657465674861741397:True:=trivial
theorem tw7268118745955108452:True:=trivial
theorem tw13425172736208186370:True:=trivial
theorem tw11441821528162063122:True:=trivial
theorem tw7424665789257259995:True:=trivial
theorem tw17026496637819336755:True:=trivial
theorem tw12706608373319906128:True:=trivial
theorem tw17546966829512424326:True:=trivial
theorem tw16210765568525411143:True:=trivial
theorem tw12410230999102576971:True:=trivial
theorem tw13284638078072950950:True:=trivial
theorem tw2105255477987721108:True:=trivial
theorem tw18402646876798269801:True:=trivial
theorem tw1975383095945806776:True:=trivial
theorem tw10365957225343455860:True:=trivial
theorem tw8512709506662100645:True:=trivial
theorem tw12444427898006783739:True:=trivial
theorem tw1593994100179059206:True:=trivial
theorem tw11773004064974634231:True:=trivial
theorem tw2550215765315391228:True:=trivial
theorem tw5796675648502671862:True:=trivial
theorem tw18306080648610088492:True:=trivial
theorem tw4298283374972210005:True:=trivial
theorem tw6391730910532385195:True:=trivial
theorem tw14365754418138314355:True:=trivial
theorem tw9444735374678536342:True:=trivial
theorem tw1575749638021398696:True:=trivial
theorem tw2948082941606162121:True:=trivial
theorem tw12695721169250852215:True:=trivial
theorem tw7935849351540696174:True:=trivial
theorem tw12061827237745547010:True:=trivial
theorem tw3924202988049327229:True:=trivial
theorem tw18443027183590596130:True:=trivial
theorem tw8605905202124121968:True:=trivial
theorem tw374198906895806486:True:=trivial
theorem tw8271497557214546115:True:=trivial
theorem tw11188383875690778182:True:=trivial
theorem tw10351877847471799549:True:=trivial
theorem tw1306766446815316204:True:=trivial
theorem tw15096192198852454004:True:=trivial
theorem tw9462251474555792948:True:=trivial
theorem tw9885110526591279979:True:=trivial
theorem tw46422219168748666:True:=trivial
theorem tw7872962098987760445:True:=trivial
theorem tw4465027329453419780:True:=trivial
theorem tw7604897724681953308:True:=trivial
theorem tw1577507809793854001:True:=trivial
theorem tw3356661576806500527:True:=trivial
theorem tw15011909528849787074:True:=trivial
theorem tw18152064789077554851:True:=trivial
theorem tw9223520318733099962:True:=trivial
theorem tw8535965120703035165:True:=trivial
theorem tw12573463759169078641:True:=trivial
theorem tw16871869054395899862:True:=trivial
theorem tw331095658279097688:True:=trivial
theorem tw14676438747405985687:True:=trivial
theorem tw13235253263138921838:True:=trivial
theorem tw13216670645958941965:True:=trivial
theorem tw18197477194571156166:True:=trivial
theorem tw9532709938776103622:True:=trivial
theorem tw14845285566893269255:True:=trivial
theorem tw17979855087079460896:True:=trivial
theorem tw5300052551178810343:True:=trivial
theorem tw8398532122998228649:True:=trivial
theorem tw7231810020792716011:True:=trivial
theorem tw15854441948088471137:True:=trivial
theorem tw9594448401196568106:True:=trivial
theorem tw10215706743271839350:True:=trivial
theorem tw18347503485243775091:True:=trivial
theorem tw7334536158453397565:True:=trivial
theorem tw13253837803200603542:True:=trivial
theorem tw2982884042595765202:True:=trivial
theorem tw1448216283902563586:True:=trivial
theorem tw10525866403284412259:True:=trivial
theorem tw4324155585810722519:True:=trivial
theorem tw12573906767185201598:True:=trivial
theorem tw6529988114089228651:True:=trivial
theorem tw296939807860047988:True:=trivial
theorem tw14228256024290048847:True:=trivial
theorem tw3650976168039069827:True:=trivial
theorem tw17885029109981530894:True:=trivial
theorem tw11400331483650209353:True:=trivial
theorem tw10185533404485400752:True:=trivial
theorem tw2872602484006774464:True:=trivial
theorem tw453748572505506233:True:=trivial
theorem tw640802867566803846:True:=trivial
theorem tw6734775312898800659:True:=trivial
theorem tw13036093723891190259:True:=trivial
theorem tw13420465699313678648:True:=trivial
theorem tw16690039279297907954:True:=trivial
theorem tw3954971537525835587:True:=trivial
theorem tw15991316862837792977:True:=trivial
theorem tw6803744757126455516:True:=trivial
theorem tw9870972215428141151:True:=trivial
theorem tw14359963101438950445:True:=trivial
theorem tw11295733733901400205:True:=trivial
theorem tw18296310509782605770:True:=trivial
theorem tw11939047893071293462:True:=trivial
theorem tw7870829650996609600:True:=trivial
theorem tw5965314814360710954:True:=trivial
theorem tw13948199860483112088:True:=trivial
theorem tw13040180747729377076:True:=trivial
theorem tw5693794075250669052:True:=trivial
theorem tw728070087609187267:True:=trivial
theorem tw10747066467089842484:True:=trivial
theorem tw8508086393762655372:True:=trivial
theorem tw14428140821534078093:True:=trivial
theorem tw16913430432340472476:True:=trivial
theorem tw6322630468019273743:True:=trivial
theorem tw10593120226900006780:True:=trivial
theorem tw15086085579171988968:True:=trivial
theorem tw5501530709353499452:True:=trivial
theorem tw2591654944992605481:True:=trivial
theorem tw5968492869679872178:True:=trivial
theorem tw3859340563454718941:True:=trivial
theorem tw4878694176077921933:True:=trivial
theorem tw16181364471359433832:True:=trivial
theorem tw13287930946677499210:True:=trivial
theorem tw2656651888584573331:True:=trivial
theorem tw4471239626475735549:True:=trivial
theorem tw10528496528331420600:True:=trivial
theorem tw150857116270143448:True:=trivial
theorem tw8106231989770124304:True:=trivial
theorem tw1897902157697476411:True:=trivial
theorem tw14180230873241541888:True:=trivial
theorem tw472346734291733878:True:=trivial
theorem tw2305337378203123489:True:=trivial
theorem tw3122430881155797249:True:=trivial
theorem tw11114573181320001263:True:=trivial
theorem tw2881838539610425219:True:=trivial
theorem tw12558549867583141314:True:=trivial
theorem tw15702515340491375983:True:=trivial
theorem tw16915892769102866389:True:=trivial
theorem tw14843668514172426856:True:=trivial
theorem tw15758519612033023818:True:=trivial
theorem tw12004701396651888344:True:=trivial
theorem tw12688855834800615222:True:=trivial
theorem tw13948347623532068394:True:=trivial
theorem tw3278140765723460968:True:=trivial
theorem tw17559936997923215040:True:=trivial
theorem tw16371150612827840853:True:=trivial
theorem tw10663629623311370739:True:=trivial
theorem tw2812275288899691456:True:=trivial
theorem tw14514634448644471790:True:=trivial
theorem tw13163132234844551889:True:=trivial
theorem tw4952824251994976126:True:=trivial
theorem tw14806971580394401955:True:=trivial
theorem tw17843006375971434675:True:=trivial
theorem tw7659610819514484126:True:=trivial
theorem tw7569750469866390654:True:=trivial
theorem tw12254346140040989648:True:=trivial
theorem tw5423203915368466068:True:=trivial
theorem tw17418712351633299253:True:=trivial
theorem tw16128723481396259642:True:=trivial
theorem tw16518724990932135192:True:=trivial
theorem tw5827205663679659806:True:=trivial
theorem tw1364651543357381078:True:=trivial
theorem tw17075982797944863871:True:=trivial
theorem tw6258983337391407233:True:=trivial
theorem tw16411440694388332672:True:=trivial
theorem tw8285206015743050879:True:=trivial
theorem tw1403336080441662847:True:=trivial
theorem tw1671805184013869781:True:=trivial
theorem tw10175479400211391995:True:=trivial
theorem tw1164555637361807004:True:=trivial
theorem tw14661001701012023476:True:=trivial
theorem tw17868989554488890281:True:=trivial
theorem tw4663125958672706880:True:=trivial
theorem tw2643549565040205230:True:=trivial
theorem tw18256437951140968043:True:=trivial
theorem tw15568210924159700237:True:=trivial
theorem tw5015849363192305410:True:=trivial
theorem tw6994510365545750460:True:=trivial
theorem tw5705526307992662713:True:=trivial
theorem tw14919683581855807273:True:=trivial
theorem tw13010103551206818648:True:=trivial
theorem tw12564348632749059586:True:=trivial
theorem tw2103170568867865881:True:=trivial
theorem tw16911354513103623185:True:=trivial
theorem tw11749601635930251709:True:=trivial
theorem tw488314569745682828:True:=trivial
theorem tw14673766956819103177:True:=trivial
theorem tw10250172518019424356:True:=trivial
theorem tw3557295111861977643:True:=trivial
theorem tw1858559595335515541:True:=trivial
theorem tw2996969743973808253:True:=trivial
theorem tw8341404389847254931:True:=trivial
theorem tw4977756599481403071:True:=trivial
theorem tw2818969501729033158:True:=trivial
theorem tw9123889397198037349:True:=trivial
theorem tw11394357413906277386:True:=trivial
theorem tw16041025920444763780:True:=trivial
theorem tw9391620331051126916:True:=trivial
theorem tw5655205913708984346:True:=trivial
theorem tw11178802726042672717:True:=trivial
theorem tw10524392849953939349:True:=trivial
theorem tw17743398126926705509:True:=trivial
theorem tw2768475982664030607:True:=trivial
theorem tw13393512006264690642:True:=trivial
theorem tw41518085289526119:True:=trivial
theorem tw13140022779879306282:True:=trivial
theorem tw16017891390102540559:True:=trivial
theorem tw3207508709788290674:True:=trivial
theorem tw12054697828419208842:True:=trivial
theorem tw7223042539095175626:True:=trivial
theorem tw8428667390223854138:True:=trivial
theorem tw1816844160376057881:True:=trivial
theorem tw4045188442514313881:True:=trivial
theorem tw2834822133304466381:True:=trivial
theorem tw17674502734303058870:True:=trivial
theorem tw6283916613081429279:True:=trivial
theorem tw6823261514833339147:True:=trivial
theorem tw1122605793007549439:True:=trivial
theorem tw13211540511559757678:True:=trivial
theorem tw13915359151083996978:True:=trivial
theorem tw7208779411120214066:True:=trivial
theorem tw15019397256396551002:True:=trivial
theorem tw3437771865277060168:True:=trivial
theorem tw18254034388472331558:True:=trivial
theorem tw6065318179571016555:True:=trivial
theorem tw4142347655003014969:True:=trivial
theorem tw480445089077760342:True:=trivial
theorem tw1890975571030855245:True:=trivial
theorem tw15620589728701914258:True:=trivial
theorem tw14484234249902237943:True:=trivial
theorem tw16298950692519137416:True:=trivial
theorem tw11152586146575519934:True:=trivial
theorem tw6847643772322695074:True:=trivial
theorem tw13998186867619682701:True:=trivial
theorem tw2136061138081894328:True:=trivial
theorem tw10265275089670509451:True:=trivial
theorem tw1735732788116653894:True:=trivial
theorem tw17123801897970243067:True:=trivial
theorem tw837940052344166797:True:=trivial
theorem tw12671115279671660268:True:=trivial
theorem tw12964771559376884480:True:=trivial
theorem tw16436229179642160992:True:=trivial
theorem tw10355449524222989033:True:=trivial
theorem tw1651034967822583516:True:=trivial
theorem tw2058084044529295297:True:=trivial
theorem tw8970188637084233688:True:=trivial
theorem tw16292758377058811901:True:=trivial
theorem tw17649047902741293924:True:=trivial
theorem tw3539358885530140311:True:=trivial
theorem tw4453006881471545781:True:=trivial
theorem tw12031369469273734269:True:=trivial
theorem tw16887391048717697035:True:=trivial
theorem tw15874551626739474002:True:=trivial
theorem tw8233251243420979667:True:=trivial
theorem tw7730555104170939595:True:=trivial
theorem tw6037354281651600318:True:=trivial
theorem tw4406827088500560746:True:=trivial
theorem tw5514871492831842520:True:=trivial
theorem tw5685612958399634378:True:=trivial
theorem tw11999532108877450208:True:=trivial
theorem tw16819095479201773126:True:=trivial
theorem tw3866889265825433978:True:=trivial
theorem tw10453006112099730447:True:=trivial
theorem tw13579234392232031955:True:=trivial
theorem tw12361369873540657993:True:=trivial
theorem tw3262327497276428691:True:=trivial
theorem tw11974241545327936160:True:=trivial
theorem tw5333130360713683877:True:=trivial
theorem tw11365468506113483521:True:=trivial
theorem tw10797576649467633203:True:=trivial
theorem tw1517858016006157910:True:=trivial
theorem tw5773905458513537626:True:=trivial
theorem tw1450589441662747041:True:=trivial
theorem tw956505542130006135:True:=trivial
theorem tw10924526674286079007:True:=trivial
theorem tw5647641161244466708:True:=trivial
end PySem.W.Fast
set_option maxRecDepth 100000 in
set_option maxHeartbeats 0 in
theorem PySem.Challenge.cw_crookroad_k63_whole_many_deeds_holds : PySem.Challenge.rw_crookroad_k63_whole_many_deeds.Holds := by
 w_on;o_law;k_head;(case hw=>w_witness2)
 k_fill
 refine My.walk (l:=PySem.Challenge.rw_crookroad_k63_whole_many_deeds) rfl rfl (fun w h Y=>PySem.W.kIn_of Y) ?F
 case F =>
  intro w mg fa h KX G hmg
  refine' My.all_mk KX G hmg ?d__law_cell ?d__law_pick ?d_check_bottom ?d_common_divisor ?d_lowest ?d_check_count ?d_is_line ?d_trace ?d_spot ?d_led_to ?d_less ?d_set_down ?d_is_name ?d_check_new_name ?d_exchange ?d__law_climb ?d__law_heights ?d__law_step ?d__law_trace ?d__law_after ?d__law_common ?d__law_low ?d__law_spot ?d__law_due ?d__law_told ?d__law_is ?d_law ?a_RoadError ?x_RoadError ?a_BadLine ?x_BadLine ?a_BadBottom ?x_BadBottom ?a_OffRoad ?x_OffRoad ?a_BadCount ?x_BadCount ?a_TooLong ?x_TooLong ?a_BadRow ?x_BadRow ?a_BadName ?x_BadName ?a_Taken ?x_Taken ?a_NoRoad ?x_NoRoad ?a_NoWalker ?x_NoWalker ?a_Stood ?x_Stood ?a_NothingDone ?x_NothingDone ?a_Road ?pg_Road ?hd_Road ?po_Road ?sa_Road ?mk_Road ?kc_Road ?m_Road___init__ ?m_Road_width ?m_Road_ends ?m_Road_corners ?m_Road_on_road ?m_Road_at ?a_Walker ?pg_Walker ?hd_Walker ?po_Walker ?sa_Walker ?mk_Walker ?kc_Walker ?m_Walker___init__ ?m_Walker_gone ?a_House ?pg_House ?hd_House ?po_House ?sa_House ?mk_House ?kc_House ?m_House___init__ ?m_House_road_called ?m_House_walker_called ?m_House_deeds ?m_House_do ?m_House_lay ?m_House_corners_of ?m_House_take_back ?m_House_bend ?m_House_widen ?m_House_where ?m_House_place ?m_House_go ?m_House_walkers_on ?m_House_narrow ?m_House_names ?na_Road_heights ?na_Walker_whose ?na_Walker_point ?na_Walker_times ?na_House_roads ?na_House_walkers ?na_House_done ?g_WIDEST ?g_LONGEST_TRACE ?g_FARTHEST ?g_LONGEST_NAME ?g_GREATEST_BOTTOM ?g_LETTERS ?ms ?z_len ?z_abs ?z_range ?z_list ?z_min ?z_max ?z_all ?z_any ?z_sorted ?z_enumerate ?z_dict
  (case d__law_cell=>walk_at "def")
  (case d__law_pick=>walk_at "def")
  (case d_check_bottom=>walk_at "def")
  (case d_common_divisor=>walk_at "def")
  (case d_lowest=>walk_at "def")
  (case d_check_count=>walk_at "defD")
  (case d_is_line=>walk_at "def")
  (case d_trace=>walk_at "def")
  (case d_spot=>walk_at "def")
  (case d_led_to=>walk_at "def")
  (case d_less=>walk_at "def")
  (case d_set_down=>walk_at "def")
  (case d_is_name=>walk_at "def")
  (case d_check_new_name=>walk_at "def")
  (case d_exchange=>walk_at "def")
  (case d__law_climb=>walk_at "def")
  (case d__law_heights=>walk_at "def")
  (case d__law_step=>walk_at "def")
  (case d__law_trace=>walk_at "def")
  (case d__law_after=>walk_at "def")
  (case d__law_common=>walk_at "def")
  (case d__law_low=>walk_at "def")
  (case d__law_spot=>walk_at "def")
  (case d__law_due=>walk_at "def")
  (case d__law_told=>walk_at "def")
  (case d__law_is=>walk_at "def")
  (case d_law=>walk_at "def")
  (case a_RoadError=>k_is)
  (case x_RoadError=>k_exc)
  (case a_BadLine=>k_is)
  (case x_BadLine=>k_exc)
  (case a_BadBottom=>k_is)
  (case x_BadBottom=>k_exc)
  (case a_OffRoad=>k_is)
  (case x_OffRoad=>k_exc)
  (case a_BadCount=>k_is)
  (case x_BadCount=>k_exc)
  (case a_TooLong=>k_is)
  (case x_TooLong=>k_exc)
  (case a_BadRow=>k_is)
  (case x_BadRow=>k_exc)
  (case a_BadName=>k_is)
  (case x_BadName=>k_exc)
  (case a_Taken=>k_is)
  (case x_Taken=>k_exc)
  (case a_NoRoad=>k_is)
  (case x_NoRoad=>k_exc)
  (case a_NoWalker=>k_is)
  (case x_NoWalker=>k_exc)
  (case a_Stood=>k_is)
  (case x_Stood=>k_exc)
  (case a_NothingDone=>k_is)
  (case x_NothingDone=>k_exc)
  (case a_Road=>k_is)
  (case pg_Road=>k_is)
  (case hd_Road=>k_is)
  (case po_Road=>k_is)
  (case sa_Road=>k_is)
  (case mk_Road=>k_is)
  (case kc_Road=>k_is)
  (case m_Road___init__=>walk_at "meth")
  (case m_Road_width=>walk_at "meth")
  (case m_Road_ends=>walk_at "meth")
  (case m_Road_corners=>walk_at "meth")
  (case m_Road_on_road=>walk_at "meth")
  (case m_Road_at=>walk_at "meth")
  (case a_Walker=>k_is)
  (case pg_Walker=>k_is)
  (case hd_Walker=>k_is)
  (case po_Walker=>k_is)
  (case sa_Walker=>k_is)
  (case mk_Walker=>k_is)
  (case kc_Walker=>k_is)
  (case m_Walker___init__=>walk_at "meth")
  (case m_Walker_gone=>walk_at "meth")
  (case a_House=>k_is)
  (case pg_House=>k_is)
  (case hd_House=>k_is)
  (case po_House=>k_is)
  (case sa_House=>k_is)
  (case mk_House=>k_is)
  (case kc_House=>k_is)
  (case m_House___init__=>walk_at "meth")
  (case m_House_road_called=>walk_at "meth")
  (case m_House_walker_called=>walk_at "meth")
  (case m_House_deeds=>walk_at "meth")
  (case m_House_do=>walk_at "meth")
  (case m_House_lay=>walk_at "meth")
  (case m_House_corners_of=>walk_at "meth")
  (case m_House_take_back=>walk_at "meth")
  (case m_House_bend=>walk_at "meth")
  (case m_House_widen=>walk_at "meth")
  (case m_House_where=>walk_at "meth")
  (case m_House_place=>walk_at "meth")
  (case m_House_go=>walk_at "meth")
  (case m_House_walkers_on=>walk_at "meth")
  (case m_House_narrow=>walk_at "meth")
  (case m_House_names=>walk_at "meth")
  (case na_Road_heights=>k_is)
  (case na_Walker_whose=>k_is)
  (case na_Walker_point=>k_is)
  (case na_Walker_times=>k_is)
  (case na_House_roads=>k_is)
  (case na_House_walkers=>k_is)
  (case na_House_done=>k_is)
  (case g_WIDEST=>k_is)
  (case g_LONGEST_TRACE=>k_is)
  (case g_FARTHEST=>k_is)
  (case g_LONGEST_NAME=>k_is)
  (case g_GREATEST_BOTTOM=>k_is)
  (case g_LETTERS=>k_is)
  (case ms=>k_is)
  (case z_len=>k_is)
  (case z_abs=>k_is)
  (case z_range=>k_is)
  (case z_list=>k_is)
  (case z_min=>k_is)
  (case z_max=>k_is)
  (case z_all=>k_is)
  (case z_any=>k_is)
  (case z_sorted=>k_is)
  (case z_enumerate=>k_is)
  (case z_dict=>k_is)
