import PyProof.Rows.All
import Wide.All
import OpenK.AllK
import Wide.FinOn
import Lean
import PyProof.EqAt
import PyProof.EqKinds
import PyProof.TupleCall
import PyProof.NeData
import KE.IntBitsLaws
import KE.KDictList
import KE.KRevIter
import PySem.Challenge.RW_crookroad_k64_whole_made_roads_asked_fur
set_option Elab.async false
set_option linter.all false
set_option maxRecDepth 100000
local macro_rules|`(tactic|lia)=>`(tactic|first|lia +splitIte|omega)
def aa:=@PySem.wpAny_bind
def ac:=@List.length_map
def ae:=@List.mem_append_right
def af:=@PySem.Heap.lt_size
def ag:=@List.getElem?_eq_getElem
def ah:=@PySem.Heap.get?_push_of_some
def ai:=@PySem.wpAny_pure
def aj:=@Option.some.inj
def ak:=@List.getD_eq_getElem?_getD
def al:=@Nat.le_refl
def am:=@if_neg
def ao:=@Int.mul_le_mul_of_nonneg_right
def aq:=@Nat.ne_of_lt
def ar:=@List.length_append
def au:=@if_pos
def av:=@List.map_append
def aw:=@List.mem_cons
def ax:=@PySem.wpAny_mono
def ay:=@List.map_map
def az:=@List.length_range
def aA:=@Bool.false_ne_true
def aB:=@List.getElem?_map
def aC:=@List.size_toArray
def aD:=@PySem.Heap.get?_push_size
def aE:=@Nat.lt_irrefl
def aF:=@List.map_congr_left
def aG:=@Nat.lt_of_lt_of_le
def aH:=@List.getElem?_append_right
def aI:=@Nat.lt_trans
def aJ:=@Int.emod_lt_of_pos
def aK:=@List.map_cons
def aL:=@List.getElem?_eq_some_iff
def aM:=@List.getElem?_append_left
def aN:=@List.length_cons
def aO:=@PySem.W.mg_none_of
def aP:=@List.mem_append
def aQ:=@Int.emod_nonneg
def aR:=@List.range_succ
def aS:=@List.mem_range
def aT:=@List.mem_singleton
def aU:=@Int.mul_le_mul
def aV:=@List.mem_map
def aW:=@PyProof.Rows.callWith_type1
def aX:=@decide_eq_false
def aY:=@PySem.boot_len
def aZ:=@PySem.W.mg_of
def ba:=@Nat.zero_le
def bb:=@Int.mul_le_mul_of_nonneg_left
def bc:=@List.append_nil
def bd:=@Int.mul_one
def be:=@List.getElem?_range
def bf:=@Int.mul_comm
def bg:=@List.mem_cons_of_mem
def bh:=@PySem.W.kia_one
def bi:=@Array.length_toList
def bj:=@List.getElem?_eq_none
def bn:=@decide_eq_true
def bo:=@Int.mul_nonneg
def bp:=@Nat.le_trans
def bq:=@Nat.le_of_lt
def br:=@Nat.lt_or_ge
def bt:=@PySem.F.slot_dict_keyiterator_next
def bu:=@List.mem_of_getElem?
def bv:=@PySem.wpAny_standAt
def bw:=@PySem.wpAny_newObj_type
def bx:=@PyProof.Rows.boot_list
def bz:=@Int.add_zero
def bA:=@Int.lt_or_le
def bB:=@PySem.wpAny_typeNameOfWhole_keyiter
def bC:=@PySem.PassesOwn.leaving
def bD:=@beq_eq_false_iff_ne
def bE:=@Int.zero_mul
def bF:=@List.length_drop
def bG:=@Bool.and_eq_true
def bH:=@Nat.mod_eq_of_lt
def bI:=@PySem.Heap.size_push
def bJ:=@PySem.wpAny_Call_Name_kw
def bK:=@Int.mul_lt_mul_of_pos_left
def bL:=@PySem.wpAny_passesOwn
def bM:=@Bool.eq_iff_iff
def bN:=@List.length_nil
def bO:=@List.mem_append_left
def bP:=@PySem.wpAny_truthy_bool
def bQ:=@congrArg
def bR:=@PySem.wpAny_comprehension_free
def bS:=@PySem.wpAny_typeNameOf_keyiter
def bT:=@PySem.mem_of_lookup
def bU:=@List.flatten_append
def bV:=@List.replicate_succ
def bW:=@List.getLast?_eq_some_getLast
def bX:=@PySem.codeAny_compStart_list
def bY:=@Array.getElem?_eq_none
def bZ:=@Int.mul_ediv_mul_of_pos_left
def b4:=@List.find?_cons
def b7:=@PySem.Paired.length
def b8:=@Int.mul_ediv_add_emod
def b9:=@Int.toNat_natCast
def ca:=@PySem.wpAny_newFunctionEnv
def cb:=@List.getLast?_append
def cc:=@List.lookup_cons
def ce:=@Array.getElem?_eq_getElem
def cf:=@List.getLast?_eq_getElem?
def cg:=@List.getLast?_eq_none_iff
def ci:=@List.filterMap_cons
def cj:=@Int.toNat_of_nonneg
def ck:=@List.mem_cons_self
def cm:=@PySem.W.callWith_K
def cn:=@List.getElem?_drop
def cq:=@PySem.wpAny_callSpecial?_slot
def cu:=@PySem.F.plainAttrs_list
def cv:=@Ne.symm
def cw:=@PySem.wpAny_assign_Name
def cx:=@PySem.codeAny_mono
def cA:=@PySem.wpAny_dictEntries
def cB:=@Int.zero_add
def cC:=@List.range_succ_eq_map
def cD:=@Int.lt_trichotomy
def cE:=@PySem.exec_Assign_Name_used
def cF:=@PyProof.Rows.boot_min
def cG:=@PyProof.Rows.boot_max
def cH:=@PySem.F.args_dict_keyiterator_next_1
def cI:=@List.not_mem_nil
def cJ:=@List.map_flatten
def cK:=@Int.mul_assoc
def cL:=@Int.mul_ediv_cancel'
def cM:=@PySem.lookup_relabel_local
def cN:=@PySem.F.entry_dict_keyiterator_next
def cO:=@PySem.wpAny_execs_nil
def cP:=@List.nodup_cons
def cQ:=@PyProof.Rows.boot_isinstance
def cR:=@List.dropLast_concat_getLast
def cS:=@PySem.W.plainGet_of
def cT:=@List.map_nil
def cU:=@PySem.codeAny_loop
def cV:=@Nat.mul_comm
def cX:=@PyProof.Rows.assignInOrder_cons
def cY:=@List.mem_filterMap
def cZ:=@Nat.lt_of_le_of_lt
def da:=@PySem.F.excBase_ValueError
def dc:=@PySem.tupleKind_room_in1
def de:=@Bool.false_eq_true
def df:=@Array.getElem?_eq_some_iff
def dh:=@Nat.mod_lt
def di:=@Int.eq_of_mul_eq_mul_left
def dj:=@Int.le_of_mul_le_mul_left
def dn:=@PySem.wpAny_pyIter_list
def dq:=@PySem.wpAny_noted
def dr:=@PySem.Heap.SameBut.refl
def dt:=@List.any_cons
def du:=@PySem.wpAny_execs_cons
def dv:=@Nat.lt_succ_self
def dw:=@List.length_take
def dy:=@if_false
def dz:=@Int.natCast_dvd_natCast
def dA:=@List.take_length
def dB:=@List.cons_append
def dC:=@PySem.wpAny_call_entry
def dD:=@List.filter_cons
def dE:=@Prod.ext
def dF:=@beq_iff_eq
def dG:=@Int.mul_zero
def dH:=@Nat.succ_mul
def dJ:=@Int.le_trans
def dL:=@List.of_mem_zip
def dM:=@Int.natCast_mul
def dN:=@Int.ediv_nonneg
def dO:=@PySem.wpAny_dictEpoch
def dQ:=@Int.natAbs_mul
def dR:=@List.take_succ
def dS:=@Nat.mul_le_mul
def dU:=@Int.add_mul
def dX:=@Nat.mul_assoc
section
open PySem PySem.Spec PyProof.Rows
abbrev Aa:=PySem.W.Frag
abbrev Ab:=PySem.Shared
abbrev Ac:=PySem.Program
abbrev Ad:=PySem.FuncData
abbrev Ae:=Around
abbrev Af:=SortSt
abbrev Ag:=Value
abbrev Ah:=World
abbrev Ai:=Keyed
abbrev Aj:=Addr
end
namespace L2
theorem exI {α:Sort _}{A K:α→Prop}{v:α}(e:A v)(h:K v):∃x,A x∧K x:=⟨v,e,h⟩
theorem wz {α β:Sort _}{A:α→Prop}{B:β→Prop}{K:α→β→Prop}{u:α}{v:β}(a:A u)(b:B v)(h:K u v):∃x y,A x∧B y∧K x y:=⟨u,v,a,b,h⟩
theorem exX {α β γ δ:Sort _}{A:α→Prop}{B:γ→Prop}{C:α→β→Prop}{D:β→γ→δ→Prop}{K:δ→Prop}{p:α}{xs:β}{i:γ}{v:δ}(a:A p)(b:B i)(c:C p xs)(d:D xs i v)(h:K v):∃p xs i v,A p∧B i∧C p xs∧D xs i v∧K v:=⟨p,xs,i,v,a,b,c,d,h⟩
end L2
namespace L2
open PySem PySem.Spec PyProof.Rows
abbrev Key:=Sum Int Str
def Z2:Key→Ag→Bool
 |.inl k,v=>Value.isInt k v
 |.inr x,v=>Value.isStrOf x v
def keyH (w:Ah):Key→Int
 |.inl k=>hashInt k
 |.inr x=>hashStr w x
theorem xh:∀ {k:Key} {v:Ag},Z2 k v=true→(∃i t,k=Sum.inl i∧v=Value.int i t)∨(∃x t,k=Sum.inr x∧v=Value.str x t)
 |.inl i,v,h=>by
  obtain ⟨t,e⟩:=Value.isInt_shape (k:=i) (v:=v) h
  exact .inl ⟨i,t,rfl,e⟩
 |.inr x,v,h=>by
  obtain ⟨t,e⟩:=Value.isStrOf_shape (x:=x) (v:=v) h
  exact .inr ⟨x,t,rfl,e⟩
theorem qjv (i:Int)(t:Tok):Z2 (.inl i) (.int i t)=true:=by simp [Z2,Value.isInt]
theorem qkd (x:Str)(t:Tok):Z2 (.inr x) (.str x t)=true:=by simp [Z2,Value.isStrOf]
theorem key_ll (a b:Int):decide ((Sum.inl a:Key)=Sum.inl b)=(a==b):=by
 by_cases e:a=b
 ·subst e;simp
 ·have h:¬ (Sum.inl a:Key)=Sum.inl b:=λq=>e (Sum.inl.inj q)
  rw [aX h]
  exact (bD.mpr e).symm
theorem key_rr (a b:Str):decide ((Sum.inr a:Key)=Sum.inr b)=decide (a=b):=by
 by_cases e:a=b
 ·subst e;simp
 ·have h:¬ (Sum.inr a:Key)=Sum.inr b:=λq=>e (Sum.inr.inj q)
  rw [aX h,aX e]
theorem key_lr (a:Int)(b:Str):decide ((Sum.inl a:Key)=Sum.inr b)=false:=aX (λq=>nomatch q)
theorem key_rl (a:Str)(b:Int):decide ((Sum.inr a:Key)=Sum.inl b)=false:=aX (λq=>nomatch q)
def x6 (prog:Ac)(w:Ah):PySem.KeyKind prog w Key where
 is:=Z2
 hash:=keyH w
 inj:=λv a b ha hb=>by
  rcases xh ha with ⟨i,t,rfl,rfl⟩|⟨x,t,rfl,rfl⟩
  ·rcases xh hb with ⟨j,u,rfl,e⟩|⟨y,u,rfl,e⟩
   ·injection e with e1 _;rw [e1]
   ·exact nomatch e
  ·rcases xh hb with ⟨j,u,rfl,e⟩|⟨y,u,rfl,e⟩
   ·exact nomatch e
   ·injection e with e1 _;rw [e1]
 byValue:=λk v h=>by
  rcases xh h with ⟨i,t,rfl,rfl⟩|⟨x,t,rfl,rfl⟩ <;> rfl
 pyHash:=λhv h=>by
  rcases xh hv with ⟨i,t,rfl,rfl⟩|⟨x,t,rfl,rfl⟩
  ·exact wpAny_pyHash_int h
  ·exact wpAny_pyHash_str h
 eqBool:=λhu hv h=>by
  rcases xh hu with ⟨i,t,rfl,rfl⟩|⟨x,t,rfl,rfl⟩
  ·rcases xh hv with ⟨j,u,rfl,rfl⟩|⟨y,u,rfl,rfl⟩
   ·rw [key_ll] at h;exact wpAny_eqBool_int h
   ·rw [key_lr] at h;exact SeqAt.EqAt.int_str i t y u _ _ _ _ h
  ·rcases xh hv with ⟨j,u,rfl,rfl⟩|⟨y,u,rfl,rfl⟩
   ·rw [key_rl] at h;exact SeqAt.EqAt.str_int x t j u _ _ _ _ h
   ·rw [key_rr] at h;exact wpAny_eqBool_str h
 «strs»:=λk x t v h=>by
  rcases xh h with ⟨i,u,rfl,e⟩|⟨y,u,rfl,e⟩
  ·exact nomatch e
  ·injection e with e1 _
   subst e1
   cases v <;> rfl
theorem qw0 (prog:Ac)(w:Ah)(i:Int)(t:Tok):(x6 prog w).is (.inl i) (.int i t)=true:=qjv i t
theorem qwh (prog:Ac)(w:Ah)(x:Str)(t:Tok):(x6 prog w).is (.inr x) (.str x t)=true:=qkd x t
inductive V where
 |non|bl (b:Bool)|int (i:Int)|str (x:Str)|byt (b:Array UInt8)|flt (b:UInt64)|ref (a:Aj)|ty (n:String)
 deriving DecidableEq
def RelV:V→Ag→Prop
 |.non,u=>u=Value.none
 |.bl b,u=>u=Value.bool b
 |.int i,u=>∃t,u=Value.int i t
 |.str x,u=>∃t,u=Value.str x t
 |.byt b,u=>∃t,u=Value.bytes b t
 |.flt b,u=>∃t,u=Value.float b t
 |.ref a,u=>u=Value.ref a
 |.ty n,u=>u=Value.type n
abbrev Vals:List V→List Ag→Prop:=Paired RelV
theorem Vals.length {xs:List V}{us:List Ag}(r:Vals xs us):xs.length=us.length:=b7 r
theorem Vals.get:∀ {xs:List V} {us:List Ag} {i:Nat} {x:V},Vals xs us→xs[i]?=some x→∃u,us[i]?=some u∧RelV x u
 |_,_,_,_,.nil,e=>by simp at e
 |_,_,0,_,.cons r _,e=>by simp at e;subst e;exact ⟨_,rfl,r⟩
 |_,_,i+1,x,.cons _ t,e=>by
  obtain ⟨u,h1,h2⟩:=Vals.get (i:=i) (x:=x) t (by simpa using e)
  exact ⟨u,by simpa using h1,h2⟩
theorem Vals.append:∀ {xs ys:List V} {us ws:List Ag},Vals xs us→Vals ys ws→Vals (xs++ys) (us++ws)
 |_,_,_,_,.nil,s=>s
 |_,_,_,_,.cons r t,s=>.cons r (Vals.append t s)
theorem Vals.take:∀ {xs:List V} {us:List Ag} (n:Nat),Vals xs us→Vals (xs.take n) (us.take n)
 |_,_,0,_=>.nil
 |_,_,_+1,.nil=>.nil
 |_,_,n+1,.cons r t=>.cons r (Vals.take n t)
theorem Vals.drop:∀ {xs:List V} {us:List Ag} (n:Nat),Vals xs us→Vals (xs.drop n) (us.drop n)
 |_,_,0,r=>r
 |_,_,_+1,.nil=>.nil
 |_,_,n+1,.cons _ t=>Vals.drop n t
def RelO:Option V→Option Ag→Prop
 |some v,some u=>RelV v u
 |none,none=>True
 |_,_=>False
def KV {κ:Type}:List (κ×V)→List (κ×Ag)→Prop:=Paired λ(p:κ×V) (q:κ×Ag)=>p.1=q.1∧RelV p.2 q.2
def kV:Key→V
 |.inl i=>.int i
 |.inr x=>.str x
inductive HO where
 |lst (xs:List V)
 |tup (xs:List V)
 |dK (kvs:List (Key×V))|dT (kvs:List (List Key×V))
 |set (S:Int→Bool) (n:Nat)
 |ins (C dx:Aj) (fs:List (Str×V))
 |own (x:Aj)
 |xd (fs:List (Str×V))
 |met (f x:Aj)
 |rng (lo hi:Int)
 |frz (o:Obj) (u:HO)
 |tbl (ps:Array Ag)
 |ext (φ:Heap→Prop)
abbrev Hp:=Aj→Option HO
def upd (H:Hp)(a:Aj)(o:HO):Hp:=λb=>if b=a then some o else H b
theorem qm {H:Hp}{a:Aj}{o:HO}:upd H a o a=some o:=by unfold upd;rw [au rfl]
theorem wb {H:Hp}{a b:Aj}{o:HO}(h:b≠a):upd H a o b=H b:=by unfold upd;rw [am h]
theorem Jq {H:Hp}{a:Aj}{o u:HO}:upd (upd H a o) a u=upd H a u:=by
 funext b;unfold upd;split <;> rfl
theorem ne_of {H:Hp}{a b:Aj}{o u:HO}(h:H a=some o)(h':H b=some u)(d:o≠u):a≠b:=by
 intro e;subst e;rw [h] at h';exact d (aj h')
theorem wu {H:Hp}{a b:Aj}{o:HO}(h:H a=some o)(h':H b=none):a≠b:=by
 intro e;subst e;rw [h] at h';cases h'
section
variable (P:Ac)(w:Ah)
def ObjOk (H:Hp)(h:Heap)(a:Aj):HO→Prop
 |.lst xs=>xs.length≤sizeLine∧∃(its:List Ag) (n:Nat),Vals xs its∧h.get? a=some { cls:=.type "list",data:=.seq its.toArray n }
 |.tup xs=>xs.length≤sizeLine∧∃its:List Ag,Vals xs its∧IsTup h a its.toArray
 |.dK kvs=>kvs.length≤sizeLine∧(a==sysModules)=false∧∃vs,KV kvs vs∧h.DictOf (x6 P w) a vs
 |.dT kvs=>kvs.length≤sizeLine∧(a==sysModules)=false∧∃xs:List (List Key×Aj×Ag),
   Paired (λ(p:List Key×V) (q:List Key×Aj×Ag)=>p.1=q.1∧H q.2.1=some (.tup (p.1.map kV))∧RelV p.2 q.2.2) kvs xs ∧
   ∃o es ep,h.get? a=some o∧o.ExactDict∧o.data=.dict es ep∧es.toList=xs.map (entryOfKey (tupleKind (x6 P w)))∧(xs.map (·.1)).Nodup
 |.set S n=>h.SetOf (intKind P w) a S n
 |.ins C dx fs=>H dx=some (.own a)∧fs.length≤1000∧dx≠a∧h.get? a=some (PySem.W.instObj C dx) ∧
   ∃mA,h.Ns1 dx mA∧(∀f,RelO (fs.lookup f) (mA f))∧PySem.Within mA (fs.map (·.1))
 |.own _=>∃o,h.get? a=some o
 |.xd fs=>∃mA,h.Ns1 a mA∧∀f,RelO (fs.lookup f) (mA f)
 |.rng lo hi=>∃t u v,h.get? a=some { cls:=.type "range",data:=.fields #[.int lo t,.int hi u,.int 1 v] }
 |.frz o u=>h.get? a=some o∧ObjOk H h a u
 |.tbl ps=>h.get? a=some { cls:=.none,data:=.fields ps }
 |.met f x=>h.get? a=some (PySem.W.methodObj (.ref f) (.ref x))
 |.ext φ=>φ h∧(∃o,h.get? a=some o)∧∀h1 h2:Heap,φ h1→(∀o,h1.get? a=some o→h2.get? a=some o)→φ h2
def HOk (H:Hp)(h:Heap):Prop:=∀a o,H a=some o→ObjOk P w H h a o
end
section
variable {P:Ac}{w:Ah}{H H':Hp}{h h':Heap}{a:Aj}{o:HO}
theorem ObjOk.lt (x:ObjOk P w H h a o):a<h.objs.size:=by
 cases o with
 |lst xs=>obtain ⟨_,_,_,_,e⟩:=x;exact af e
 |tup xs=>obtain ⟨_,_,_,p⟩:=x;exact p.lt
 |dK kvs=>obtain ⟨_,_,_,_,o,_,_,e,_⟩:=x;exact af e
 |dT kvs=>obtain ⟨_,_,_,_,o,_,_,e,_⟩:=x;exact af e
 |set S n=>obtain ⟨o,_,_,_,e,_⟩:=x;exact af e
 |ins C dx fs=>obtain ⟨_,_,_,e,_⟩:=x;exact af e
 |own y=>obtain ⟨_,e⟩:=x;exact af e
 |xd fs=>obtain ⟨_,⟨_,_,_,e,_⟩,_⟩:=x;exact af e
 |rng lo hi=>obtain ⟨_,_,_,e⟩:=x;exact af e
 |frz ob u=>obtain ⟨e,_⟩:=x;exact af e
 |tbl ps=>exact af (show h.get? a=some _ from x)
 |met f y=>exact af (show h.get? a=some _ from x)
 |ext φ=>obtain ⟨_,⟨_,e⟩,_⟩:=x;exact af e
theorem Paired.mapP {α β:Type}{F G:α→β→Prop}:∀ {l₁:List α} {l₂:List β},Paired F l₁ l₂→(∀a b,F a b→G a b)→Paired G l₁ l₂
 |_,_,.nil,_=>.nil
 |_,_,.cons r t,f=>.cons (f _ _ r) (Paired.mapP t f)
theorem ObjOk.stay (x:ObjOk P w H h a o)(k:∀b u,(b=a∨H b=some (.own a))→h.get? b=some u→h'.get? b=some u)
  (ho:∀b,H b=some (.own a)→H' b=some (.own a)) (ht:∀b xs,H b=some (.tup xs)→H' b=some (.tup xs)):ObjOk P w H' h' a o:=by
 induction o with
 |lst xs=>obtain ⟨z,its,n,r,e⟩:=x;exact ⟨z,its,n,r,k _ _ (.inl rfl) e⟩
 |tup xs=>obtain ⟨z,its,r,ob,e,c⟩:=x;exact ⟨z,its,r,ob,k _ _ (.inl rfl) e,c⟩
 |dK kvs=>obtain ⟨z,y,vs,r,ob,es,ep,e,c⟩:=x;exact ⟨z,y,vs,r,ob,es,ep,k _ _ (.inl rfl) e,c⟩
 |dT kvs =>
  obtain ⟨z,y,xs,r,ob,es,ep,e,c⟩:=x
  exact ⟨z,y,xs,Paired.mapP r λp q z=>⟨z.1,ht _ _ z.2.1,z.2.2⟩,ob,es,ep,k _ _ (.inl rfl) e,c⟩
 |set S n=>obtain ⟨ob,es,ep,t,e,c⟩:=x;exact ⟨ob,es,ep,t,k _ _ (.inl rfl) e,c⟩
 |ins C dx fs =>
  obtain ⟨d,z,ne,e,mA,⟨od,es,ep,e2,c⟩,r⟩:=x
  exact ⟨ho _ d,z,ne,k _ _ (.inl rfl) e,mA,⟨od,es,ep,k _ _ (.inr d) e2,c⟩,r⟩
 |own y=>obtain ⟨ob,e⟩:=x;exact ⟨ob,k _ _ (.inl rfl) e⟩
 |xd fs=>obtain ⟨mA,⟨od,es,ep,e,c⟩,r⟩:=x;exact ⟨mA,⟨od,es,ep,k _ _ (.inl rfl) e,c⟩,r⟩
 |rng lo hi=>obtain ⟨t,u,v,e⟩:=x;exact ⟨t,u,v,k _ _ (.inl rfl) e⟩
 |frz ob u ih=>obtain ⟨e,q⟩:=x;exact ⟨k _ _ (.inl rfl) e,ih q⟩
 |tbl ps =>
  have e:h.get? a=some { cls:=.none,data:=.fields ps }:=x
  show h'.get? a=some { cls:=.none,data:=.fields ps }
  exact k a _ (.inl rfl) e
 |met f y =>
  have e:h.get? a=some (PySem.W.methodObj (.ref f) (.ref y)):=x
  show h'.get? a=some (PySem.W.methodObj (.ref f) (.ref y))
  exact k a _ (.inl rfl) e
 |ext φ=>obtain ⟨p,⟨o,e⟩,st⟩:=x;exact ⟨st _ _ p λo q=>k _ _ (.inl rfl) q,⟨o,k _ _ (.inl rfl) e⟩,st⟩
theorem HOk.lt (x:HOk P w H h)(e:H a=some o):a<h.objs.size:=(x a o e).lt
theorem HOk.fresh (x:HOk P w H h)(e:h.objs.size≤a):H a=none:=by
 cases q:H a with
 |none=>rfl
 |some u=>exact absurd (aG (x.lt q) e) (aE _)
theorem HOk.kept (x:HOk P w H h)(k:∀b u,h.get? b=some u→h'.get? b=some u):HOk P w H h':=λa o e =>
 (x a o e).stay (λb u _ q=>k b u q) (λ_ q=>q) λ_ _ q=>q
theorem HOk.laid (x:HOk P w H h)(k:∀b u,h.get? b=some u→h'.get? b=some u)(hp:h.objs.size≤a)(new:ObjOk P w (upd H a o) h' a o):HOk P w (upd H a o) h':=λb u e=>by
 have hn:=x.fresh hp
 by_cases hb:b=a
 ·subst hb;rw [qm] at e;cases e;exact new
 ·rw [wb hb] at e
  exact (x b u e).stay (λc v _ q=>k c v q) (λc q=>by rw [wb (wu q hn)];exact q) λc xs q=>by rw [wb (wu q hn)];exact q
end
def Rd (H:Hp)(a:Aj)(u:HO):Prop:=H a=some u∨∃o,H a=some (.frz o u)
theorem Rd.ok {P:Ac}{w:Ah}{H:Hp}{h:Heap}{a:Aj}{u:HO}(r:Rd H a u)(x:HOk P w H h):ObjOk P w H h a u:=by
 rcases r with r|⟨o,r⟩
 ·exact x a u r
 ·obtain ⟨_,q⟩:=x a _ r
  exact q
def Mut:Option HO→Prop
 |some (.lst _)=>True
 |some (.dK _)=>True
 |some (.dT _)=>True
 |some (.set _ _)=>True
 |some (.ins _ _ _)=>True
 |some (.ext _)=>True
 |_=>False
section
variable {P:Ac}{w:Ah}{H:Hp}{h h':Heap}{x e:Aj}{o':HO}
theorem HOk.write (ok:HOk P w H h)(mu:Mut (H x))(he:e=x∨H e=some (.own x))(k:∀b u,b≠e→h.get? b=some u→h'.get? b=some u)(heo:∃u,h'.get? e=some u)
  (new:ObjOk P w (upd H x o') h' x o'):HOk P w (upd H x o') h':=λb u q=>by
 have nown:∀c y,H c=some (.own y)→c≠x:=λc y r z=>by subst z;rw [r] at mu;exact mu
 have ntup:∀c xs,H c=some (.tup xs)→c≠x:=λc xs r z=>by subst z;rw [r] at mu;exact mu
 by_cases hb:b=x
 ·subst hb;rw [qm] at q;cases q;exact new
 ·rw [wb hb] at q
  by_cases hbe:b=e
  ·have q':H b=some (.own x):=by
    rcases he with z|z
    ·exact absurd (hbe.trans z) hb
    ·rw [hbe];exact z
   rw [q] at q';cases q'
   obtain ⟨v,hv⟩:=heo
   exact ⟨v,by rw [hbe];exact hv⟩
  ·refine (ok b u q).stay (λc v hc r=>k c v ?_ r) (λc r=>by rw [wb (nown c b r)];exact r) λc xs r=>by rw [wb (ntup c xs r)];exact r
   rcases hc with rfl|hc
   ·exact hbe
   ·rintro rfl
    rcases he with z|z
    ·exact nown c b hc z
    ·rw [hc] at z;cases z;exact hb rfl
end
structure Un (fs ex:List Aj)(H H':Hp)(h h':Heap):Prop where
 keep:∀b o,h.get? b=some o→H b=none→b∉fs→b∉ex→h'.get? b=some o
 slot:∀b o,h.get? b=some o→H b=none→b∈fs→b∉ex→∃sl,h'.get? b=some { o with slots:=sl }
 free:∀b o,h.get? b=some o→H b=none→b∉ex→H' b=none
 there:∀b o,h.get? b=some o→b∉ex→∃o',h'.get? b=some o'
 tups:∀b xs,H b=some (.tup xs)→H' b=some (.tup xs)
 frzs:∀b o u,H b=some (.frz o u)→H' b=some (.frz o u)
 tbls:∀b ps,H b=some (.tbl ps)→∃more,H' b=some (.tbl (ps++more))
section
variable {fs fs' ex ex':List Aj}{H H1 H2:Hp}{h h1 h2 h':Heap}{a x e:Aj}{o:HO}
theorem Un.any (u:Un fs ex H H1 h h1){b:Aj}{ob:Obj}(q:h.get? b=some ob)(n:H b=none)(hx:b∉ex):∃sl,h1.get? b=some { ob with slots:=sl }:=by
 by_cases hb:b∈fs
 ·exact u.slot b ob q n hb hx
 ·exact ⟨ob.slots,u.keep b ob q n hb hx⟩
theorem Un.kept (k:∀b u,h.get? b=some u→h'.get? b=some u):Un fs ex H H h h' :=
 ⟨λb ob q _ _ _=>k b ob q,λb ob q _ _ _=>⟨ob.slots,k b ob q⟩,λ_ _ _ n _=>n,λb ob q _=>⟨ob,k b ob q⟩,λ_ _ q=>q,λ_ _ _ q=>q,λ_ ps q=>⟨#[],by rw [q];simp⟩⟩
theorem Un.refl:Un fs ex H H h h:=Un.kept λ_ _ q=>q
theorem Un.laid (k:∀b u,h.get? b=some u→h'.get? b=some u)(hp:h.objs.size≤a)(hn:H a=none):Un fs ex H (upd H a o) h h' where
 keep:=λb u q _ _ _=>k b u q
 slot:=λb u q _ _ _=>⟨u.slots,k b u q⟩
 free:=λb u q n _=>by rw [wb (aq (aG (af q) hp))];exact n
 there:=λb u q _=>⟨u,k b u q⟩
 tups:=λb xs q=>by rw [wb (wu q hn)];exact q
 frzs:=λb u xs q=>by rw [wb (wu q hn)];exact q
 tbls:=λb ps q=>⟨#[],by rw [wb (wu q hn),q];simp⟩
theorem Un.write (mu:Mut (H x))(he:e=x∨H e=some (.own x))(k:∀b u,b≠e→h.get? b=some u→h'.get? b=some u)(heo:∃u,h'.get? e=some u):Un fs ex H (upd H x o) h h':=by
 have hx:∀b,H b=none→b≠x:=λb n z=>by subst z;rw [n] at mu;exact mu
 have hb:∀b,H b=none→b≠e:=λb n z=>by
  subst z
  rcases he with r|r
  ·exact hx b n r
  ·rw [n] at r;cases r
 have hm:∀b u,H b=some u→¬ Mut (some u)→b≠x:=λb u q nm z=>by subst z;rw [q] at mu;exact nm mu
 refine ⟨λb u q n _ _=>k b u (hb b n) q,λb u q n _ _=>⟨u.slots,k b u (hb b n) q⟩,λb u q n _=>by rw [wb (hx b n)];exact n,λb u q _=>?_,
  λb xs q=>by rw [wb (hm b _ q λz=>z)];exact q,λb u xs q=>by rw [wb (hm b _ q λz=>z)];exact q,λb ps q=>⟨#[],by rw [wb (hm b _ q λz=>z),q];simp⟩⟩
 by_cases hbe:b=e
 ·subst hbe;exact heo
 ·exact ⟨u,k b u hbe q⟩
end
def trk (h:Heap)(H:Hp):List Aj:=(List.range h.objs.size).filter λa=>(H a).isSome
def Y3 (h:Heap)(H:Hp):Heap:=PySem.W.hideAll h (trk h H)
theorem qkw (h:Heap)(H:Hp):(Y3 h H).objs.size=h.objs.size:=PySem.W.hideAll_size _ _
theorem qux {h:Heap}{H:Hp}{b:Aj}{o:Obj}(e:h.get? b=some o)(n:H b=none):(Y3 h H).get? b=some o :=
 PySem.W.hideAll_get _ e λhm=>by
  have q:(H b).isSome=true:=(List.mem_filter.mp hm).2
  rw [n] at q;simp at q
theorem wwk {h:Heap}{H:Hp}{b:Aj}{o:Obj}(e:(Y3 h H).get? b=some o):h.get? b=some o∧H b=none:=by
 have e':h.get? b=some o:=PySem.W.of_hideAll (trk h H) e
 refine ⟨e',?_⟩
 cases q:H b with
 |none=>rfl
 |some x =>
  have hm:b∈trk h H:=List.mem_filter.mpr ⟨aS.mpr (af e'),by simp [q]⟩
  have z:(Y3 h H).get? b=none:=PySem.W.hideAll_none (trk h H) hm
  rw [z] at e;cases e
def wwb (g h:Heap)(L:Aj):List (Aj×Obj):=(List.range h.objs.size).filterMap λa=>if a=L∨(g.get? a).isSome=true then none else (h.get? a).map λo=>(a,o)
def rest (g h:Heap)(L d:Aj):List (Aj×Obj):=(wwb g h L).filter λp=>decide (p.1≠d)
structure Mod (K:Aa)(mg:Str→Option Ag)(base:Heap):Prop where
 kin:K.In base
 glob:base.Ns mainGlobals mg
 blt:∃mb,base.Ns builtinsNs mb∧∀x:Str,x ≠ "__name__" → mb x=bootBuiltins x
 nolimit:base.NoLimit
structure Cx where
 prog:Ac
 w:Ah
 K:Aa
 mg:Str→Option Ag
 base:Heap
 A:Ae
 N:List Str
 s₀:Ab
 H₀:Hp
 env:Env
 outer:List Env
 stack:List Env
 ex:List Aj
 fn:Str→Bool
 calm:Bool
 pn:List (Aj×Obj)
 xe:Ag→Ab→Prop
def frs (l:List Env):List Aj:=l.filterMap (·.frame)
abbrev Cx.fs (X:Cx):List Aj:=frs X.outer
def Vis (sc:Scope)(x:Str):Prop:=sc.names.lookup x=some .local∨sc.names.lookup x=some .cell∨sc.names.lookup x=some .free
def Loc (sc:Scope)(x:Str):Prop:=sc.names.lookup x=some .local∨sc.names.lookup x=some .cell
def Look (env:Env)(h:Heap)(m:Str→Option Ag)(x:Str)(u:Ag):Prop :=
 (env.kindOf x=some .local∧m x=some u)∨((env.kindOf x=some .cell∨env.kindOf x=some .free)∧∃c,env.cells.lookup x=some c∧h.IsCell c (some u))
structure Cx.Ok (X:Cx):Prop where
 mod:Mod X.K X.mg X.base
 kind:X.env.scope.kind=.function
 glob:X.env.globals=mainGlobals
 blt:X.env.builtins=builtinsNs
 above:X.s₀.heap.objs.size≤X.env.locals
 inj:∀x y c,X.env.cells.lookup x=some c→X.env.cells.lookup y=some c→x=y
 has:∀x,(X.env.kindOf x=some .cell∨X.env.kindOf x=some .free)→∃c,X.env.cells.lookup x=some c
 cab:∀x c,X.fn x=true→X.env.cells.lookup x=some c→X.s₀.heap.objs.size≤c
 hd:X.calm=true→X.A.handled=none
 frames:X.A.frames=some X.stack
 stk:X.stack=X.outer∨(X.stack=X.env::X.outer∧X.env.frame=some X.env.locals)
 exf:∀b∈X.ex,b≠X.env.locals∧∀x c,X.env.cells.lookup x=some c→c≠b
 bs:∀b o,X.base.get? b=some o→X.s₀.heap.get? b=some o∧X.H₀ b=none
 bsz:X.base.objs.size≤X.s₀.heap.objs.size
 noex:∀b o,X.base.get? b=some o→b∉X.ex
 exfs:∀b∈X.ex,b∉X.fs
 funs:X.s₀.heap.FunFrames X.base X.outer
 frf:∀b∈X.fs,X.H₀ b=none
structure Inv (X:Cx)(pins:List (Aj×Obj))(σ:List (Option V))(H:Hp)(s:Ab):Prop where
 ok:X.Ok
 os:s.os=X.s₀.os
 bare:AllBare s.gens
 base:Un X.fs X.ex X.H₀ H X.s₀.heap s.heap
 loc:∃m,s.heap.Ns X.env.locals m∧∀(i:Nat) (x:Str) (v:V),X.N[i]?=some x→σ[i]?=some (some v)→Vis X.env.scope x→∃u,RelV v u∧Look X.env s.heap m x u
 cell:∀x c,X.env.cells.lookup x=some c→∃v,s.heap.IsCell c v
 free:H X.env.locals=none
 freeC:∀x c,X.env.cells.lookup x=some c→H c=none
 pin:∀p∈X.pn++pins,s.heap.get? p.1=some p.2∧H p.1=none∧p.1≠X.env.locals∧p.1∉X.fs∧∀v,p.2.data≠.cell v
 hok:HOk X.prog X.w H s.heap
 len:σ.length=X.N.length
section
variable {X:Cx}{pins:List (Aj×Obj)}{σ:List (Option V)}{H H':Hp}{s:Ab}{h':Heap}
theorem Cx.Ok.nofr (ok:X.Ok){b:Aj}{o:Obj}(e:X.base.get? b=some o):b∉X.fs:=λhb=>by
 have:=(ok.funs.mem hb).1
 rw [e] at this;cases this
theorem Inv.bs (I:Inv X pins σ H s):∀b o,X.base.get? b=some o→s.heap.get? b=some o∧H b=none:=λb o e =>
 ⟨I.base.keep b o (I.ok.bs b o e).1 (I.ok.bs b o e).2 (I.ok.nofr e) (I.ok.noex b o e),I.base.free b o (I.ok.bs b o e).1 (I.ok.bs b o e).2 (I.ok.noex b o e)⟩
theorem Inv.bk (I:Inv X pins σ H s):∀b o,X.base.get? b=some o→s.heap.get? b=some o:=λb o e=>(I.bs b o e).1
theorem Inv.mod (I:Inv X pins σ H s):Mod X.K X.mg X.base:=I.ok.mod
theorem Inv.kIn (I:Inv X pins σ H s):X.K.In s.heap:=I.ok.mod.kin.keeps I.bk
theorem Inv.lt (I:Inv X pins σ H s):X.env.locals<s.heap.objs.size:=let ⟨_,hn,_⟩:=I.loc;hn.lt
theorem Inv.sz (I:Inv X pins σ H s):X.s₀.heap.objs.size≤s.heap.objs.size:=bp I.ok.above (bq I.lt)
theorem Inv.nofs (I:Inv X pins σ H s){a:Aj}(h:s.heap.objs.size≤a):a∉X.fs:=λhb=>by
 obtain ⟨_,o,ho,_⟩:=I.ok.funs.mem hb
 exact absurd (aG (af ho) (bp I.sz h)) (aE _)
theorem Inv.cne (I:Inv X pins σ H s):∀x c,X.env.cells.lookup x=some c→c≠X.env.locals:=λx c e z=>by
 obtain ⟨v,o,ho,hd⟩:=I.cell x c e
 obtain ⟨m,⟨o',es,ep,ho',hd',_⟩,_⟩:=I.loc
 rw [z,ho'] at ho;cases ho;rw [hd'] at hd;cases hd
theorem Inv.funs (I:Inv X pins σ H s):s.heap.FunFrames X.base X.outer:=by
 have all:∀(l:List Env),(∀b∈frs l,b∈X.fs)→X.s₀.heap.FunFrames X.base l→s.heap.FunFrames X.base l:=by
  intro l
  induction l with
  |nil=>intro _ _;trivial
  |cons env r ih =>
   intro hs hl
   obtain ⟨hk,⟨L,o,hf,hn,ho,hd⟩,hr⟩:=hl
   have hL:L∈X.fs:=hs L (by unfold frs;rw [ci,hf];exact ck)
   obtain ⟨sl,e⟩:=I.base.slot L o ho (I.ok.frf L hL) hL λz=>I.ok.exfs L z hL
   exact ⟨hk,⟨L,_,hf,hn,e,hd⟩,ih (λb hb=>hs b (by unfold frs;rw [ci,hf];exact bg _ hb)) hr⟩
 exact all X.outer (λ_ hb=>hb) I.ok.funs
theorem Inv.stack (I:Inv X pins σ H s):s.heap.FunFrames X.base X.stack:=by
 rcases I.ok.stk with e|⟨e,hf⟩
 ·rw [e];exact I.funs
 ·rw [e]
  obtain ⟨m,hn,_⟩:=I.loc
  refine .cons (by rw [I.ok.kind];decide) hf hn ?_ I.funs
  exact Heap.get?_none_of_le (bp I.ok.bsz I.ok.above)
theorem Inv.stkSub (I:Inv X pins σ H s):∀b∈frs X.stack,b∈X.env.locals::X.fs:=λb hb=>by
 rcases I.ok.stk with e|⟨e,hf⟩
 ·rw [e] at hb;exact bg _ hb
 ·rw [e] at hb
  unfold frs at hb
  rw [ci,hf] at hb
  exact hb
theorem Inv.stkFree (I:Inv X pins σ H s):∀b∈frs X.stack,H b=none:=λb hb=>by
 rcases aw.mp (I.stkSub b hb) with e|hb
 ·rw [e];exact I.free
 ·obtain ⟨_,o,ho,_⟩:=I.ok.funs.mem hb
  exact I.base.free b o ho (I.ok.frf b hb) λz=>I.ok.exfs b z hb
theorem Inv.step {g':Array GenState}{t':Nat}{d':Drawn}{ch:List Aj}(I:Inv X pins σ H s)
  (hch:∀b∈ch,(b∈X.ex∨X.s₀.heap.objs.size≤b)∧b≠X.env.locals∧(∀x c,X.env.cells.lookup x=some c→c≠b)∧∀p∈X.pn++pins,p.1≠b)
  (keep:∀b o,b≠X.env.locals→b∉X.fs→b∉ch→s.heap.get? b=some o→H b=none→h'.get? b=some o)
  (slot:∀b o,b≠X.env.locals→b∈X.fs→b∉ch→s.heap.get? b=some o→H b=none→∃sl,h'.get? b=some { o with slots:=sl }) (free:∀b o,b∉ch→s.heap.get? b=some o→H b=none→H' b=none)
  (there:∀b o,b∉ch→s.heap.get? b=some o→∃o',h'.get? b=some o')
  (tups:∀b xs,H b=some (.tup xs)→H' b=some (.tup xs)) (frzs:∀b o u,H b=some (.frz o u)→H' b=some (.frz o u)) (tbls:∀b ps,H b=some (.tbl ps)→∃more,H' b=some (.tbl (ps++more)))
  (ns:∀m,s.heap.Ns X.env.locals m→h'.Ns X.env.locals m) (hok:HOk X.prog X.w H' h') (hg:AllBare g') :
  Inv X pins σ H' { s with heap:=h',gens:=g',drawn:=d',toks:=t' }:=by
 have neL:∀b o,X.s₀.heap.get? b=some o→b≠X.env.locals:=λb o e=>aq (aG (af e) I.ok.above)
 have neC:∀b o,X.s₀.heap.get? b=some o→b∉X.ex→b∉ch:=λb o e hx hb=>by
  rcases (hch b hb).1 with z|z
  ·exact hx z
  ·exact absurd (aG (af e) z) (aE _)
 have cellK:∀x c,X.env.cells.lookup x=some c→∀v,s.heap.IsCell c v→h'.IsCell c v:=λx c e v ⟨o,ho,hd⟩=>by
  have nch:c∉ch:=λz=>(hch c z).2.2.1 x c e rfl
  by_cases hc:c∈X.fs
  ·obtain ⟨sl,q⟩:=slot c o (I.cne x c e) hc nch ho (I.freeC x c e)
   exact ⟨_,q,hd⟩
  ·exact ⟨o,keep c o (I.cne x c e) hc nch ho (I.freeC x c e),hd⟩
 refine ⟨I.ok,I.os,hg,⟨λb o e n hb hx=>?_,λb o e n hb hx=>?_,λb o e n hx=>?_,λb o e hx=>?_,λb xs e=>tups b xs (I.base.tups b xs e),λb o xs e=>frzs b o xs (I.base.frzs b o xs e),λb ps e=>?_⟩,?_,λx c e=>?_,?_,λx c e=>?_,λp hp=>?_,hok,I.len⟩
 ·exact keep b o (neL b o e) hb (neC b o e hx) (I.base.keep b o e n hb hx) (I.base.free b o e n hx)
 ·obtain ⟨sl,e1⟩:=I.base.slot b o e n hb hx
  obtain ⟨sl',e2⟩:=slot b _ (neL b o e) hb (neC b o e hx) e1 (I.base.free b o e n hx)
  exact ⟨sl',e2⟩
 ·obtain ⟨o',e1⟩:=I.base.there b o e hx
  exact free b o' (neC b o e hx) e1 (I.base.free b o e n hx)
 ·obtain ⟨o',e1⟩:=I.base.there b o e hx
  exact there b o' (neC b o e hx) e1
 ·obtain ⟨m1,e1⟩:=I.base.tbls b ps e
  obtain ⟨m2,e2⟩:=tbls b _ e1
  exact ⟨m1++m2,by rw [e2,Array.append_assoc]⟩
 ·obtain ⟨m,hn,hl⟩:=I.loc
  refine ⟨m,ns m hn,λi x v e1 e2 e3=>?_⟩
  obtain ⟨u,r,l⟩:=hl i x v e1 e2 e3
  refine ⟨u,r,?_⟩
  rcases l with l|⟨k,c,e,z⟩
  ·exact .inl l
  ·exact .inr ⟨k,c,e,cellK x c e _ z⟩
 ·obtain ⟨v,z⟩:=I.cell x c e
  exact ⟨v,cellK x c e v z⟩
 ·obtain ⟨m,⟨o,_,_,ho,_⟩,_⟩:=I.loc
  exact free _ o (λz=>(hch _ z).2.1 rfl) ho I.free
 ·obtain ⟨v,o,ho,hd⟩:=I.cell x c e
  exact free c o (λz=>(hch c z).2.2.1 x c e rfl) ho (I.freeC x c e)
 ·obtain ⟨e,n,ne,nf,d⟩:=I.pin p hp
  have nch:p.1∉ch:=λz=>(hch p.1 z).2.2.2 p hp rfl
  exact ⟨keep p.1 p.2 ne nf nch e n,free p.1 p.2 nch e n,ne,nf,d⟩
theorem Inv.un {t':Nat}(I:Inv X pins σ H s)(u:Un X.fs [] H H' s.heap h')(hok:HOk X.prog X.w H' h'):Inv X pins σ H' { s with heap:=h',toks:=t' }:=by
 obtain ⟨m,⟨o,es,ep,ho,r⟩,_⟩:=id I.loc
 obtain ⟨sl,hL⟩:=u.any ho I.free (by simp)
 exact I.step (g':=s.gens) (d':=s.drawn) (ch:=[]) (λ_ z=>nomatch z) (λb o _ hb _ e n=>u.keep b o e n hb (by simp)) (λb o _ hb _ e n=>u.slot b o e n hb (by simp)) (λb o _ e n=>u.free b o e n (by simp)) (λb o _ e=>u.there b o e (by simp)) u.tups u.frzs u.tbls (λm' hm=>by
  obtain ⟨o',es',ep',ho',r'⟩:=hm
  rw [ho] at ho';cases ho'
  exact ⟨_,es',ep',hL,r'⟩) hok I.bare
theorem Inv.call {g':Array GenState}{t':Nat}{d':Drawn}{ch:List Aj}(I:Inv X pins σ H s)(u:Un (frs X.stack) ch H H' s.heap h')(hok:HOk X.prog X.w H' h')(hg:AllBare g')
  (hch:∀b∈ch,(b∈X.ex∨X.s₀.heap.objs.size≤b)∧b≠X.env.locals∧(∀x c,X.env.cells.lookup x=some c→c≠b)∧∀p∈X.pn++pins,p.1≠b) :
  Inv X pins σ H' { s with heap:=h',gens:=g',drawn:=d',toks:=t' }:=by
 obtain ⟨m,⟨o,es,ep,ho,r⟩,_⟩:=id I.loc
 obtain ⟨sl,hL⟩:=u.any ho I.free λz=>(hch _ z).2.1 rfl
 exact I.step (ch:=ch) hch (λb o hL hb hc e n=>u.keep b o e n (λz=>(aw.mp (I.stkSub b z)).elim hL hb) hc) (λb o _ _ hc e n=>u.any e n hc) (λb o hc e n=>u.free b o e n hc) (λb o hc e=>u.there b o e hc) u.tups u.frzs u.tbls (λm' hm=>by
  obtain ⟨o',es',ep',ho',r'⟩:=hm
  rw [ho] at ho';cases ho'
  exact ⟨_,es',ep',hL,r'⟩) hok hg
theorem Inv.turned {t':Nat}{it:Aj}(I:Inv X pins σ H s)(k:∀b o,b≠it→s.heap.get? b=some o→h'.get? b=some o)(hn:H it=none)(hL:it≠X.env.locals)
  (h1:it∈X.ex∨X.s₀.heap.objs.size≤it) (h2:∀x c,X.env.cells.lookup x=some c→c≠it) (h3:∀p∈X.pn++pins,p.1≠it):Inv X pins σ H { s with heap:=h',toks:=t' }:=by
 have nit:∀b u,H b=some u→b≠it:=λb u e z=>by rw [z,hn] at e;cases e
 refine I.step (g':=s.gens) (d':=s.drawn) (ch:=[it]) (λb hb=>?_) (λb o _ _ hc e _=>k b o (λz=>hc (by simp [z])) e) (λb o _ _ hc e _=>⟨o.slots,k b o (λz=>hc (by simp [z])) e⟩) (λ_ _ _ _ n=>n)
  (λb o hc e=>⟨o,k b o (λz=>hc (by simp [z])) e⟩) (λ_ _ e=>e) (λ_ _ _ e=>e) (λb ps e=>⟨#[],by rw [e];simp⟩) (λm hm=>?_) (λb u e=>?_) I.bare
 ·have e:b=it:=by simpa using hb
  subst e
  exact ⟨h1,hL,h2,h3⟩
 ·obtain ⟨o,es,ep,ho,r⟩:=hm
  exact ⟨o,es,ep,k _ o (cv hL) ho,r⟩
 ·refine (I.hok b u e).stay (λc v hc q=>k c v ?_ q) (λ_ q=>q) λ_ _ q=>q
  rcases hc with z|z
  ·rw [z];exact nit b u e
  ·exact nit c _ z
theorem Inv.tok (I:Inv X pins σ H s)(t:Nat):Inv X pins σ H { s with toks:=t }:=I.un (h':=s.heap) (t':=t) Un.refl I.hok
theorem Inv.kept {t':Nat}(I:Inv X pins σ H s)(k:∀b u,s.heap.get? b=some u→h'.get? b=some u):Inv X pins σ H { s with heap:=h',toks:=t' }:=I.un (Un.kept k) (I.hok.kept k)
theorem Inv.laid {a:Aj}{o:HO}{t':Nat}(I:Inv X pins σ H s)(k:∀b u,s.heap.get? b=some u→h'.get? b=some u)(hp:s.heap.objs.size≤a)(new:ObjOk X.prog X.w (upd H a o) h' a o) :
  Inv X pins σ (upd H a o) { s with heap:=h',toks:=t' }:=I.un (Un.laid k hp (I.hok.fresh hp)) (I.hok.laid k hp new)
theorem Inv.write {x e:Aj}{o:HO}{t':Nat}(I:Inv X pins σ H s)(mu:Mut (H x))(he:e=x∨H e=some (.own x))(k:∀b u,b≠e→s.heap.get? b=some u→h'.get? b=some u)(heo:∃u,h'.get? e=some u)
  (new:ObjOk X.prog X.w (upd H x o) h' x o):Inv X pins σ (upd H x o) { s with heap:=h',toks:=t' }:=I.un (Un.write mu he k heo) (I.hok.write mu he k heo new)
theorem Inv.weak {σ':List (Option V)}(I:Inv X pins σ H s)(hl:σ'.length=σ.length)(w:∀(i:Nat) v,σ'[i]?=some (some v)→σ[i]?=some (some v)):Inv X pins σ' H s :=
 ⟨I.ok,I.os,I.bare,I.base,let ⟨m,hn,hl'⟩:=I.loc;⟨m,hn,λi x v e1 e2 e3=>hl' i x v e1 (w i v e2) e3⟩,I.cell,I.free,I.freeC,I.pin,I.hok,hl.trans I.len⟩
theorem Inv.pins_of {pins':List (Aj×Obj)}(I:Inv X pins σ H s)(h:∀p∈pins',s.heap.get? p.1=some p.2∧H p.1=none∧p.1≠X.env.locals∧p.1∉X.fs∧∀v,p.2.data≠.cell v):Inv X pins' σ H s :=
 ⟨I.ok,I.os,I.bare,I.base,I.loc,I.cell,I.free,I.freeC,λp hp=>(aP.mp hp).elim (λz=>I.pin p (bO _ z)) (h p),I.hok,I.len⟩
theorem qq2 {N:List Str}(hN:N.Nodup){i j:Nat}{x:Str}(a:N[i]?=some x)(b:N[j]?=some x):i=j:=by
 obtain ⟨h1,e1⟩:=aL.mp a
 obtain ⟨h2,e2⟩:=aL.mp b
 exact (List.getElem_inj hN).mp (e1.trans e2.symm)
theorem qkf {M:Model}{A:Ae}{E:Ag→Ab→Prop}{i:Nat}{x:Str}{v:V}{u:Ag}{Q:Unit→Ab→Prop}(I:Inv X pins σ H s)(hN:X.N.Nodup)(hi:X.N[i]?=some x)(hx:Loc X.env.scope x)(r:RelV v u)
  (h:∀s',Inv X pins (σ.set i (some v)) H s'→(∃a,Heap.SameBut a s.heap s'.heap∧(a=X.env.locals∨X.env.cells.lookup x=some a))→Q () s') (hf:X.fn x=true∨X.env.scope.names.lookup x=some .local:=by first | exact .inl rfl | exact .inr rfl | assumption):wpAny M A (storeName X.env x u) Q E s:=by
 obtain ⟨m,hn,hl⟩:=id I.loc
 have hcls:(X.env.scope.kind==.class||(X.env.scope.kind==.module&&X.env.locals != X.env.globals))=false:=by rw [I.ok.kind];rfl
 have hiσ:i<σ.length:=by rw [I.len];exact (aL.mp hi).1
 have cne:=I.cne
 have tracked:∀ {a:Aj} {h':Heap},(∃o,s.heap.get? a=some o∧H a=none)→Heap.SameBut a s.heap h'→HOk X.prog X.w H h':=λ{a h'} ha hs b ob e=>by
  obtain ⟨_,_,hfree⟩:=ha
  refine (I.hok b ob e).stay (λc w' hc q=>(hs.2 c ?_).trans q) (λ_ q=>q) λ_ _ q=>q
  rintro rfl
  rcases hc with rfl|hc
  ·rw [hfree] at e;cases e
  ·rw [hfree] at hc;cases hc
 rcases hx with hk|hk
 ·refine wpAny_storeName_local hk hn (λh' hn' hs=>?_) hcls
  obtain ⟨oL,_,_,hoL,_⟩:=id hn
  refine h _ ⟨I.ok,I.os,I.bare,⟨λb o e n hb hx=>?_,λb o e n hb hx=>?_,I.base.free,λb o e hx=>?_,I.base.tups,I.base.frzs,I.base.tbls⟩,⟨_,hn',λj y v' e1 e2 e3=>?_⟩,λy c e=>?_,I.free,I.freeC,λp hp=>?_,tracked ⟨oL,hoL,I.free⟩ hs,by simpa using I.len⟩ ⟨_,hs,.inl rfl⟩
  ·exact (hs.2 b (aq (aG (af e) I.ok.above))).trans (I.base.keep b o e n hb hx)
  ·obtain ⟨sl,e1⟩:=I.base.slot b o e n hb hx
   exact ⟨sl,(hs.2 b (aq (aG (af e) I.ok.above))).trans e1⟩
  ·obtain ⟨o',e1⟩:=I.base.there b o e hx
   exact ⟨o',(hs.2 b (aq (aG (af e) I.ok.above))).trans e1⟩
  ·by_cases hj:j=i
   ·subst hj
    rw [hi] at e1;cases e1
    rw [List.getElem?_set_self hiσ] at e2
    cases e2
    exact ⟨u,r,.inl ⟨hk,by simp⟩⟩
   ·rw [List.getElem?_set_ne (cv hj)] at e2
    obtain ⟨u',r',q⟩:=hl j y v' e1 e2 e3
    refine ⟨u',r',?_⟩
    rcases q with ⟨k,e⟩|⟨k,c,e,z⟩
    ·refine .inl ⟨k,?_⟩
     have:y≠x:=λe=>hj (qq2 hN e1 (e▸hi))
     simp [this,e]
    ·exact .inr ⟨k,c,e,z.sameBut hs (cne y c e)⟩
  ·obtain ⟨w',z⟩:=I.cell y c e
   exact ⟨w',z.sameBut hs (cne y c e)⟩
  ·obtain ⟨e,n,ne,nf,d⟩:=I.pin p hp
   exact ⟨(hs.2 p.1 ne).trans e,n,ne,nf,d⟩
 ·have hfn:X.fn x=true:=by
   rcases hf with z|z
   ·exact z
   ·rw [z] at hk;cases hk
  obtain ⟨c,hc⟩:=I.ok.has x (.inl hk)
  obtain ⟨w',z⟩:=I.cell x c hc
  refine wpAny_storeName_cell I.ok.kind hk hc z (λh' hc' hs=>?_)
  obtain ⟨oc,hoc,hocd⟩:=id z
  refine h { s with heap:=h' } ⟨I.ok,I.os,I.bare,⟨λb o e n hb hx=>?_,λb o e n hb hx=>?_,I.base.free,λb o e hx=>?_,I.base.tups,I.base.frzs,I.base.tbls⟩,⟨m,hn.sameBut hs (cv (cne x c hc)),λj y v' e1 e2 e3=>?_⟩,λy c' e=>?_,I.free,I.freeC,λp hp=>?_,tracked ⟨oc,hoc,I.freeC x c hc⟩ hs,by simpa using I.len⟩ ⟨c,hs,.inr hc⟩
  ·exact (hs.2 b (aq (aG (af e) (I.ok.cab x c hfn hc)))).trans (I.base.keep b o e n hb hx)
  ·obtain ⟨sl,e1⟩:=I.base.slot b o e n hb hx
   exact ⟨sl,(hs.2 b (aq (aG (af e) (I.ok.cab x c hfn hc)))).trans e1⟩
  ·obtain ⟨o',e1⟩:=I.base.there b o e hx
   exact ⟨o',(hs.2 b (aq (aG (af e) (I.ok.cab x c hfn hc)))).trans e1⟩
  ·by_cases hj:j=i
   ·subst hj
    rw [hi] at e1;cases e1
    rw [List.getElem?_set_self hiσ] at e2
    cases e2
    exact ⟨u,r,.inr ⟨.inl hk,c,hc,hc'⟩⟩
   ·rw [List.getElem?_set_ne (cv hj)] at e2
    obtain ⟨u',r',q⟩:=hl j y v' e1 e2 e3
    refine ⟨u',r',?_⟩
    rcases q with q|⟨k,c',e,z'⟩
    ·exact .inl q
    ·refine .inr ⟨k,c',e,z'.sameBut hs ?_⟩
     rintro rfl
     exact hj (qq2 hN e1 (I.ok.inj _ _ _ e hc▸hi))
  ·by_cases hcc:c'=c
   ·subst hcc;exact ⟨_,hc'⟩
   ·obtain ⟨w2,z2⟩:=I.cell y c' e
    exact ⟨w2,z2.sameBut hs hcc⟩
  ·obtain ⟨e,n,ne,nf,d⟩:=I.pin p hp
   refine ⟨(hs.2 p.1 ?_).trans e,n,ne,nf,d⟩
   intro q
   rw [q,hoc] at e
   have q':oc=p.2:=aj e
   exact d w' (by rw [←q'];exact hocd)
theorem vf {M:Model}{A:Ae}{E:Ag→Ab→Prop}{i:Nat}{x:Str}{v:V}{u:Ag}{Q:Unit→Ab→Prop}(I:Inv X pins σ H s)(hN:X.N.Nodup)(hi:X.N[i]?=some x)(hx:Loc X.env.scope x)(r:RelV v u)
  (h:∀s',Inv X pins (σ.set i (some v)) H s'→Q () s') (hf:X.fn x=true∨X.env.scope.names.lookup x=some .local:=by first | exact .inl rfl | exact .inr rfl | assumption):wpAny M A (storeName X.env x u) Q E s :=
 qkf I hN hi hx r (λs' I' _=>h s' I') hf
theorem Inv.call' {s':Ab}{ch:List Aj}(I:Inv X pins σ H s)(ho:s'.os=s.os)(u:Un (frs X.stack) ch H H' s.heap s'.heap)(hok:HOk X.prog X.w H' s'.heap)(hg:AllBare s'.gens)
  (hch:∀b∈ch,(b∈X.ex∨X.s₀.heap.objs.size≤b)∧b≠X.env.locals∧(∀x c,X.env.cells.lookup x=some c→c≠b)∧∀p∈X.pn++pins,p.1≠b):Inv X pins σ H' s':=by
 obtain ⟨h',g',d',t',o'⟩:=s'
 have e:o'=s.os:=ho
 subst e
 exact I.call (g':=g') (t':=t') (d':=d') u hok hg hch
end
abbrev XK:=Ag→Option Aj→Hp→Prop
abbrev St:=List (Option V)
abbrev VK:=V→Hp→Prop
abbrev TE:=St→Hp→VK→Prop
abbrev TT:=St→Hp→(Bool→Hp→Prop)→Prop
abbrev TA:=St→Hp→(List V→Hp→Prop)→Prop
structure Ends where
 nx:St→Hp→Prop
 rt:VK
 bk:St→Hp→Prop:=λ_ _=>False
 ct:St→Hp→Prop:=λ_ _=>False
abbrev TS:=Ends→St→Hp→Prop
def EP (X:Cx)(pins:List (Aj×Obj))(σ:St)(Q:VK)(u:Ag)(s':Ab):Prop:=∃v H',Inv X pins σ H' s'∧RelV v u∧Q v H'
def TP (X:Cx)(pins:List (Aj×Obj))(σ:St)(Q:Bool→Hp→Prop)(b:Bool)(s':Ab):Prop:=∃H',Inv X pins σ H' s'∧Q b H'
def AP (X:Cx)(pins:List (Aj×Obj))(σ:St)(Q:List V→Hp→Prop)(us:List Ag)(s':Ab):Prop:=∃vs H',Inv X pins σ H' s'∧Vals vs us∧Q vs H'
def SP (X:Cx)(pins:List (Aj×Obj))(D:Ends)(f:Flow)(s':Ab):Prop :=
 match f with
 |.next=>∃σ' H',Inv X pins σ' H' s'∧D.nx σ' H'
 |.brk=>∃σ' H',Inv X pins σ' H' s'∧D.bk σ' H'
 |.cont=>∃σ' H',Inv X pins σ' H' s'∧D.ct σ' H'
 |.ret u=>∃v σ' H',Inv X pins σ' H' s'∧RelV v u∧D.rt v H'
def PE (X:Cx)(e:Expr)(t:TE):Prop :=
 ∀(pins:List (Aj×Obj)) (s:Ab) (σ:St) (H:Hp) (Q:VK),Inv X pins σ H s→t σ H Q→wpAny (model X.prog X.w) X.A (eval e X.env) (EP X pins σ Q) X.xe s
def PT (X:Cx)(e:Expr)(t:TT):Prop :=
 ∀(pins:List (Aj×Obj)) (s:Ab) (σ:St) (H:Hp) (Q:Bool→Hp→Prop),Inv X pins σ H s→t σ H Q→wpAny (model X.prog X.w) X.A (isTrue e X.env (eval e X.env)) (TP X pins σ Q) X.xe s
def PW (X:Cx)(e:Expr)(t:TT):Prop :=
 ∀(whole:Sem Ag) (pins:List (Aj×Obj)) (s:Ab) (σ:St) (H:Hp) (Q:Bool→Hp→Prop),Inv X pins σ H s→t σ H Q→wpAny (model X.prog X.w) X.A (isTrue e X.env whole) (TP X pins σ Q) X.xe s
theorem PW.pt {X:Cx}{e:Expr}{t:TT}(h:PW X e t):PT X e t:=h _
def PA (X:Cx)(es:List Expr)(t:TA):Prop :=
 ∀(pos:Pos) (pins:List (Aj×Obj)) (s:Ab) (σ:St) (H:Hp) (Q:List V→Hp→Prop),Inv X pins σ H s→t σ H Q→wpAny (model X.prog X.w) X.A (spliced (backTo pos (starEach es X.env))) (AP X pins σ Q) X.xe s
def PS (X:Cx)(st:Stmt)(t:TS):Prop :=
 ∀(pins:List (Aj×Obj)) (s:Ab) (σ:St) (H:Hp) (D:Ends),Inv X pins σ H s→t D σ H→wpAny (model X.prog X.w) X.A (exec st X.env) (SP X pins D) X.xe s
def PSs (X:Cx)(st:List Stmt)(t:TS):Prop :=
 ∀(pins:List (Aj×Obj)) (s:Ab) (σ:St) (H:Hp) (D:Ends),Inv X pins σ H s→t D σ H→wpAny (model X.prog X.w) X.A (execs st X.env) (SP X pins D) X.xe s
theorem thn {α:Type}{t:Sem α}{Q Q':α→Ab→Prop}{M:Model}{A:Ae}{E:Ag→Ab→Prop}{s:Ab}(h:wpAny M A t Q E s)(hQ:∀a s,Q a s→Q' a s):wpAny M A t Q' E s:=ax h hQ λ_ _ x=>x
section
variable {X:Cx}
def ku (i:Nat):TE:=λσ H Q=>∃v,σ[i]?=some (some v)∧Q v H
def tC (v:V):TE:=λ_ H Q=>Q v H
theorem pe_var {i:Nat}{x:Str}{pos:Pos}(hN:X.N[i]?=some x)(hv:Vis X.env.scope x)(hd:(x==("__debug__" : Str))=false:=by decide)(hcd:(x==("__classdict__" : Str))=false:=by decide):PE X (.Name x pos) (ku i):=by
 intro pins s σ H Q I h
 obtain ⟨v,e,h⟩:=h
 obtain ⟨m,hn,hl⟩:=I.loc
 obtain ⟨u,r,l⟩:=hl i x v hN e hv
 have fin:EP X pins σ Q u s:=⟨v,H,I,r,h⟩
 rcases l with ⟨hk,hm⟩|⟨hk,c,hc,hcell⟩
 ·exact wpAny_Name (wpAny_loadName_local I.ok.kind hk hn hm fin) hd
 ·rcases hk with hk|hk
  ·exact wpAny_Name (wpAny_loadName_cell I.ok.kind hk hc hcell fin) hd
  ·exact wpAny_Name (wpAny_loadName_free I.ok.kind hk hc hcell fin hcd) hd
theorem qz {i j pos}:PE X (.Constant (.int i) j pos) (tC (.int i)):=λ_ _ _ H _ I h=>wpAny_Constant_int ⟨.int i,H,I.tok _,⟨_,rfl⟩,h⟩
theorem jf {b j pos}:PE X (.Constant (.bool b) j pos) (tC (.bl b)):=λ_ _ _ H _ I h=>Constant_bool ⟨.bl b,H,I,rfl,h⟩
theorem yj {j pos}:PE X (.Constant .none j pos) (tC .non):=λ_ _ _ H _ I h=>Constant_none ⟨.non,H,I,rfl,h⟩
theorem jb {x j pos}:PE X (.Constant (.str x) j pos) (tC (.str x)):=λ_ _ _ H _ I h=>Calls.Constant_str ⟨.str x,H,I.tok _,⟨_,rfl⟩,h⟩
def Gl (X:Cx)(x:Str):Prop:=X.env.kindOf x=some .globalImplicit
theorem yg {E:Ag→Ab→Prop}{pins:List (Aj×Obj)}{s:Ab}{σ:St}{H:Hp}{x:Str}{u:Ag}{pos:Pos}{Q:Ag→Ab→Prop}(I:Inv X pins σ H s)(hg:Gl X x)(hm:X.mg x=some u)(h:Q u s)
  (hd:(x==("__debug__" : Str))=false:=by decide):wpAny (model X.prog X.w) X.A (eval (.Name x pos) X.env) Q E s :=
 Calls.Name_function_global I.ok.kind hg (Calls.loadGlobal_global (by rw [I.ok.glob];exact I.mod.glob.keeps I.bk) hm h) hd
theorem kh {E:Ag→Ab→Prop}{pins:List (Aj×Obj)}{s:Ab}{σ:St}{H:Hp}{x:Str}{u:Ag}{pos:Pos}{Q:Ag→Ab→Prop}(I:Inv X pins σ H s)(hg:Gl X x)(hm:X.mg x=none)(hv:bootBuiltins x=some u)(h:Q u s)
  (hn:x ≠ "__name__" := by decide) (hd:(x==("__debug__" : Str))=false:=by decide):wpAny (model X.prog X.w) X.A (eval (.Name x pos) X.env) Q E s:=by
 obtain ⟨mb,h1,h2⟩:=I.mod.blt
 exact Calls.Name_function_global I.ok.kind hg (Calls.loadGlobal_builtin (by rw [I.ok.glob];exact I.mod.glob.keeps I.bk) hm (by rw [I.ok.blt];exact h1.keeps I.bk) ((h2 x hn).trans hv) h) hd
theorem j5 {x:Str}{v:V}{u:Ag}{pos:Pos}(hg:Gl X x)(hm:X.mg x=some u)(r:RelV v u)(hd:(x==("__debug__" : Str))=false:=by decide):PE X (.Name x pos) (tC v) :=
 λ_ _ _ H _ I h=>yg I hg hm ⟨v,H,I,r,h⟩ hd
theorem qvb {x:Str}{v:V}{u:Ag}{pos:Pos}(hg:Gl X x)(hm:X.mg x=none)(hv:bootBuiltins x=some u)(r:RelV v u)(hn:x ≠ "__name__" := by decide)(hd:(x==("__debug__" : Str))=false:=by decide):PE X (.Name x pos) (tC v) :=
 λ_ _ _ H _ I h=>kh I hg hm hv ⟨v,H,I,r,h⟩ hn hd
variable {a b:Expr}{ta tb:TE}{pos:Pos}
def PC (X:Cx)(op:CmpOp)(a b:Expr)(t:TE):Prop :=
 ∀(pins:List (Aj×Obj)) (s:Ab) (σ:St) (H:Hp) (Q:VK),Inv X pins σ H s→t σ H Q →
  wpAny (model X.prog X.w) X.A (eval a X.env) (λv s₁=>wpAny (model X.prog X.w) X.A (eval b X.env) (λu s₂=>wpAny (model X.prog X.w) X.A (compareOp op v u) (EP X pins σ Q) X.xe s₂) X.xe s₁) X.xe s
def tB (t:TE):TT:=λσ H Q=>t σ H λx H1=>∃c,x=.bl c∧Q c H1
theorem pt_cmp {op:CmpOp}{t:TE}(h:PC X op a b t)(h1:behindInMarks op b=false:=by first | exact nobehind _ (by decide) (by decide) | rfl):PT X (.Compare a [op] [b] pos) (tB t):=by
 intro pins s σ H Q I hw
 refine wpAny_isTrue_Compare1 (thn (h pins s σ H _ I hw) λv s1 h1=>thn h1 λu s2 h2=>thn h2 λc s3 ⟨x,H1,I1,r1,q1⟩=>?_) h1
 obtain ⟨d,rfl,q⟩:=q1
 cases r1
 exact bP ⟨H1,I1,q⟩
theorem z5 {e:Expr}{t:TE}(h:PE X e t)(he:∀whole,isTrue e X.env whole=(do let v ←whole;standAt e.pos;holding [v] (truthy v)):=by intro _;rfl):PT X e (tB t):=by
 intro pins s σ H Q I hw
 refine isTrue_plain (thn (h pins s σ H _ I hw) λv s1 ⟨x,H1,I1,r1,q1⟩=>?_) (he _)
 obtain ⟨d,rfl,q⟩:=q1
 cases r1
 exact bP ⟨H1,I1,q⟩
variable {tA tB':TT}{rest:List Expr}
def tAnd (t u:TT):TT:=λσ H Q=>t σ H λc H1=>if c=true then u σ H1 Q else Q false H1
def tOr (t u:TT):TT:=λσ H Q=>t σ H λc H1=>if c=true then Q true H1 else u σ H1 Q
def tNot (t:TT):TT:=λσ H Q=>t σ H λc H1=>Q (!c) H1
theorem qzt (ha:PT X a tA):PW X (.BoolOp .And [a] pos) tA:=by
 intro wh pins s σ H Q I h
 refine isTrue_and (thn (ha pins s σ H Q I h) λc s1 e=>?_)
 cases c with
 |true=>exact isTrue_and_nil e
 |false=>exact e
theorem uy (ha:PT X a tA):PW X (.BoolOp .Or [a] pos) tA:=by
 intro wh pins s σ H Q I h
 refine isTrue_or (thn (ha pins s σ H Q I h) λc s1 e=>?_)
 cases c with
 |false=>exact isTrue_or_nil e
 |true=>exact e
theorem qug (ha:PT X a tA)(hb:PW X (.BoolOp .And (b::rest) pos) tB'):PW X (.BoolOp .And (a::b::rest) pos) (tAnd tA tB'):=by
 intro wh pins s σ H Q I h
 refine isTrue_and (thn (ha pins s σ H _ I h) λc s1 ⟨H1,I1,q1⟩=>?_)
 cases c with
 |true=>exact hb wh pins s1 σ H1 Q I1 q1
 |false=>exact ⟨H1,I1,q1⟩
theorem Yj (ha:PT X a tA)(hb:PW X (.BoolOp .Or (b::rest) pos) tB'):PW X (.BoolOp .Or (a::b::rest) pos) (tOr tA tB'):=by
 intro wh pins s σ H Q I h
 refine isTrue_or (thn (ha pins s σ H _ I h) λc s1 ⟨H1,I1,q1⟩=>?_)
 cases c with
 |true=>exact ⟨H1,I1,q1⟩
 |false=>exact hb wh pins s1 σ H1 Q I1 q1
theorem zt (ha:PT X a tA):PT X (.UnaryOp .Not a pos) (tNot tA):=by
 intro pins s σ H Q I h
 exact isTrue_not (ha pins s σ H (λc H1=>Q (!c) H1) I h)
def tAndV (ta tb:TE):TE:=λσ H Q=>ta σ H λx H1=>∃c,x=.bl c∧if c=true then tb σ H1 Q else Q (.bl false) H1
def tNotV (ta:TE):TE:=λσ H Q=>ta σ H λx H1=>∃c,x=.bl c∧Q (.bl (!c)) H1
theorem qqk {op}{t:TE}(h:PE X a t):PE X (.BoolOp op [a] pos) t:=λpins s σ H Q I hw=>BoolOp_one (h pins s σ H Q I hw)
theorem Jx (ha:PE X a ta)(hb:PE X (.BoolOp .And (b::rest) pos) tb):PE X (.BoolOp .And (a::b::rest) pos) (tAndV ta tb):=by
 intro pins s σ H Q I h
 refine BoolOp_and (thn (ha pins s σ H _ I h) λv s1 ⟨x,H1,I1,r1,q1⟩=>?_)
 obtain ⟨c,rfl,q1⟩:=q1
 cases r1
 refine bP ?_
 cases c with
 |true=>exact hb pins s1 σ H1 Q I1 q1
 |false=>exact ⟨.bl false,H1,I1,rfl,q1⟩
theorem pe_not (ha:PE X a ta):PE X (.UnaryOp .Not a pos) (tNotV ta):=by
 intro pins s σ H Q I h
 refine UnaryOp_ (thn (ha pins s σ H _ I h) λv s1 ⟨x,H1,I1,r1,q1⟩=>?_)
 obtain ⟨c,rfl,q1⟩:=q1
 cases r1
 exact not_of (bP ⟨.bl (!c),H1,I1,rfl,q1⟩)
def tIf (t:TT)(ta tb:TE):TE:=λσ H Q=>t σ H λc H1=>if c=true then ta σ H1 Q else tb σ H1 Q
theorem yr {c:Expr}(hc:PT X c tA)(ha:PE X a ta)(hb:PE X b tb):PE X (.IfExp c a b pos) (tIf tA ta tb):=by
 intro pins s σ H Q I h
 refine wpAny_IfExp (thn (hc pins s σ H _ I h) λd s1 ⟨H1,I1,q1⟩=>?_)
 cases d with
 |true=>exact ha pins s1 σ H1 Q I1 q1
 |false=>exact hb pins s1 σ H1 Q I1 q1
end
def SqL (K:Aa)(H:Hp)(a:Aj)(xs:List V):Prop :=
 Rd H a (.lst xs) ∨
  ∃(o:Obj) (its:Array Ag) (n:Nat),K.lookup a=some o∧o.cls=.type "list" ∧ o.dict=none∧o.data=.seq its n∧its.size≤sizeLine∧Vals xs its.toList
def SqT (K:Aa)(H:Hp)(a:Aj)(xs:List V):Prop :=
 Rd H a (.tup xs) ∨
  ∃(o:Obj) (its:Array Ag) (n:Nat),K.lookup a=some o∧o.cls=.type "tuple" ∧ o.data=.seq its n∧its.size≤sizeLine∧Vals xs its.toList
def absV:Ag→Option V
 |.none=>some .non
 |.bool b=>some (.bl b)
 |.int i _=>some (.int i)
 |.str x _=>some (.str x)
 |.bytes b _=>some (.byt b)
 |.float b _=>some (.flt b)
 |.ref a=>some (.ref a)
 |.type n=>some (.ty n)
 |_=>none
theorem RelV.abs {x:V}{u:Ag}(r:RelV x u):absV u=some x:=by
 cases x with
 |non=>cases r;rfl
 |bl _=>cases r;rfl
 |int _=>obtain ⟨t,rfl⟩:=r;rfl
 |str _=>obtain ⟨t,rfl⟩:=r;rfl
 |byt _=>obtain ⟨t,rfl⟩:=r;rfl
 |flt _=>obtain ⟨t,rfl⟩:=r;rfl
 |ref _=>cases r;rfl
 |ty _=>cases r;rfl
theorem RelV.inj {x y:V}{u:Ag}(r:RelV x u)(q:RelV y u):x=y:=aj (r.abs.symm.trans q.abs)
theorem Vals.inj:∀ {xs ys:List V} {us:List Ag},Vals xs us→Vals ys us→xs=ys
 |_,_,_,.nil,.nil=>rfl
 |_,_,_,.cons r t,.cons r' t'=>by rw [r.inj r',Vals.inj t t']
section
variable {X:Cx}{pins:List (Aj×Obj)}{σ:St}{H:Hp}{s:Ab}{a:Aj}{xs ys:List V}
theorem SqL.of {K:Aa}(h:H a=some (.lst xs)):SqL K H a xs:=.inl (.inl h)
theorem SqT.of {K:Aa}(h:H a=some (.tup xs)):SqT K H a xs:=.inl (.inl h)
theorem Inv.list (I:Inv X pins σ H s)(h:SqL X.K H a xs):∃its:List Ag,Vals xs its∧PlainL s.heap a its.toArray∧xs.length≤sizeLine:=by
 rcases h with h|⟨o,its,n,hk,hc,hd,hs,hz,r⟩
 ·obtain ⟨z,its,n,r,e⟩:=h.ok I.hok
  exact ⟨its,r,⟨_,n,e,rfl,rfl,rfl⟩,z⟩
 ·refine ⟨its.toList,r,⟨o,n,I.kIn a o hk,hc,hd,by simpa using hs⟩,?_⟩
  have e:=r.length
  simp only [bi] at e
  lia
theorem Inv.tuple (I:Inv X pins σ H s)(h:SqT X.K H a xs):∃its:List Ag,Vals xs its∧IsTup s.heap a its.toArray∧xs.length≤sizeLine:=by
 rcases h with h|⟨o,its,n,hk,hc,hs,hz,r⟩
 ·obtain ⟨z,its,r,p⟩:=h.ok I.hok
  exact ⟨its,r,p,z⟩
 ·refine ⟨its.toList,r,⟨o,I.kIn a o hk,hc,n,by simpa using hs⟩,?_⟩
  have e:=r.length
  simp only [bi] at e
  lia
theorem Inv.list_inj (I:Inv X pins σ H s)(h:SqL X.K H a xs)(h':SqL X.K H a ys):xs=ys:=by
 obtain ⟨its,r,⟨o,n,e,_,_,d⟩,_⟩:=I.list h
 obtain ⟨its',r',⟨o',n',e',_,_,d'⟩,_⟩:=I.list h'
 rw [e] at e';cases e'
 rw [d] at d'
 injection d' with d1 _
 have:its=its':=by simpa using bQ Array.toList d1
 subst this
 exact r.inj r'
end
abbrev Cx.wish (X:Cx)(E:Ag→Ab→Prop):Cx:={ X with xe:=E }
section
variable {X:Cx}{pins:List (Aj×Obj)}{σ:St}{H:Hp}{s:Ab}{E:Ag→Ab→Prop}
end
section
variable {X:Cx}{st:Stmt}{rest:List Stmt}{t u:TS}{e:Expr}{te:TE}{pos:Pos}
def tNext:TS:=λD σ H=>D.nx σ H
def tSeq (t u:TS):TS:=λD σ H=>t { D with nx:=u D } σ H
theorem wm:PSs X [] tNext:=λ_ _ σ H _ I h=>cO ⟨σ,H,I,h⟩
theorem qu (h1:PS X st t)(h2:PSs X rest u):PSs X (st::rest) (tSeq t u):=by
 intro pins s σ H D I h
 refine du (thn (h1 pins s σ H { D with nx:=u D } I h) λf s1 q=>?_)
 cases f with
 |next =>
  obtain ⟨σ',H',I',q⟩:=q
  exact h2 pins s1 σ' H' D I' q
 |ret v=>exact q
 |brk=>exact q
 |cont=>exact q
theorem qp (h1:PS X st t):PSs X [st] t:=by
 intro pins s σ H D I h
 refine du (thn (h1 pins s σ H D I h) λf s1 q=>?_)
 cases f with
 |next=>exact cO q
 |ret v=>exact q
 |brk=>exact q
 |cont=>exact q
theorem Inv.quiet {pins:List (Aj×Obj)}{σ:St}{H:Hp}{s:Ab}(I:Inv X pins σ H s):interactive X.env=false:=by simp [interactive,I.ok.kind]
def tDrop (te:TE):TS:=λD σ H=>te σ H λ_ H1=>D.nx σ H1
theorem j3 (he:PE X e te)(hs:swapsWith e none pos.line X.env=pure false:=by rfl):PS X (.Expr e pos) (tDrop te):=by
 intro pins s σ H D I h
 exact wpAny_Expr_any (thn (he pins s σ H _ I h) λv s1 ⟨x,H1,I1,r1,q1⟩=>⟨σ,H1,I1,q1⟩) I.quiet hs
def tRet (te:TE):TS:=λD σ H=>te σ H D.rt
theorem wv (he:PE X e te):PS X (.Return (some e) pos) (tRet te):=by
 intro pins s σ H D I h
 exact wpAny_Return_some (thn (he pins s σ H _ I h) λv s1 ⟨x,H1,I1,r1,q1⟩=>⟨x,σ,H1,I1,r1,q1⟩)
def tIfS (c:TT)(t u:TS):TS:=λD σ H=>c σ H λb H1=>if b=true then t D σ H1 else u D σ H1
theorem xk {c:Expr}{a b:List Stmt}{tc:TT}(hc:PT X c tc)(ha:PSs X a t)(hb:PSs X b u):PS X (.If c a b pos) (tIfS tc t u):=by
 intro pins s σ H D I h
 refine wpAny_If (thn (hc pins s σ H _ I h) λd s1 ⟨H1,I1,q1⟩=>?_)
 cases d with
 |true=>exact ha pins s1 σ H1 D I1 q1
 |false=>exact hb pins s1 σ H1 D I1 q1
end
abbrev TG:=V→St→Hp→(St→Hp→Prop)→Prop
abbrev TGs:=List V→St→Hp→(St→Hp→Prop)→Prop
def PG (X:Cx)(target:Expr)(t:TG):Prop :=
 ∀(pins:List (Aj×Obj)) (s:Ab) (σ:St) (H:Hp) (v:V) (u:Ag) (Q:St→Hp→Prop),Inv X pins σ H s→RelV v u→t v σ H Q →
  wpAny (model X.prog X.w) X.A (assign target X.env u) (λ_ s'=>∃σ' H',Inv X pins σ' H' s'∧Q σ' H') X.xe s
def PGs (X:Cx)(ts:List Expr)(t:TGs):Prop :=
 ∀(pins:List (Aj×Obj)) (s:Ab) (σ:St) (H:Hp) (vs:List V) (us:List Ag) (Q:St→Hp→Prop),Inv X pins σ H s→Vals vs us→t vs σ H Q →
  wpAny (model X.prog X.w) X.A (assignInOrder ((assignEach ts X.env).map (·.2)) us) (λ_ s'=>∃σ' H',Inv X pins σ' H' s'∧Q σ' H') X.xe s
section
variable {X:Cx}{pos:Pos}
def uk (i:Nat):TG:=λv σ H Q=>Q (σ.set i (some v)) H
theorem wt {i:Nat}{x:Str}(hN:X.N.Nodup)(hi:X.N[i]?=some x)(hx:Loc X.env.scope x)(hf:X.fn x=true∨X.env.scope.names.lookup x=some .local:=by first | exact .inl rfl | exact .inr rfl | assumption):PG X (.Name x pos) (uk i):=by
 intro pins s σ H v u Q I r h
 exact cw (vf I hN hi hx r (λs' I'=>⟨_,H,I',h⟩) hf)
def gNil:TGs:=λvs σ H Q=>vs=[]∧Q σ H
def qwb (t:TG)(u:TGs):TGs:=λvs σ H Q=>∃v r,vs=v::r∧t v σ H λσ' H'=>u r σ' H' Q
theorem x4:PGs X [] gNil:=by
 intro pins s σ H vs us Q I r h
 obtain ⟨e,h⟩:=h
 subst e
 cases r
 exact assignInOrder_nil ⟨σ,H,I,h⟩
theorem w8 {e:Expr}{es:List Expr}{t:TG}{u:TGs}(h1:PG X e t)(h2:PGs X es u)
  (hs:(assignEach (e::es) X.env).map (·.2)=assign e X.env::(assignEach es X.env).map (·.2):=by rfl):PGs X (e::es) (qwb t u):=by
 intro pins s σ H vs us Q I r h
 obtain ⟨v,vr,e1,h⟩:=h
 subst e1
 cases r with
 |cons r rr =>
  rw [hs]
  refine cX (thn (h1 pins s σ H _ _ _ I r h) λ_ s1 ⟨σ1,H1,I1,q1⟩=>?_)
  exact h2 pins s1 σ1 H1 _ _ Q I1 rr q1
def gTup (K:Aa)(n:Nat)(t:TGs):TG:=λv σ H Q=>∃a xs,v=.ref a∧SqT K H a xs∧xs.length=n∧t xs σ H Q
theorem vg {es:List Expr}{k:Nat}{t:TGs}{n:Nat}(hc:X.calm=true)(h:PGs X es t)
  (hn:(assignEach es X.env).length=n:=by rfl) (hst:(assignEach es X.env).findIdx? (·.1)=none:=by rfl):PG X (.Tuple es k pos) (gTup X.K n t):=by
 intro pins s σ H v u Q I r hw
 obtain ⟨a,xs,e1,hq,hl,hw⟩:=hw
 subst e1
 cases r
 obtain ⟨its,rv,ht,hz⟩:=I.tuple hq
 refine assign_Tuple_tuple (I.ok.hd hc) ht (by simp [hn,←hl,rv.length]) hst λh' hx=>?_
 have I1:Inv X pins σ H { s with heap:=h' }:=I.kept (t':=s.toks) λb o e=>hx b o (aq (af e)) e
 exact h pins _ σ H xs _ Q I1 (by simpa using rv) hw
def tAsg (te:TE)(g:TG):TS:=λD σ H=>te σ H λx H1=>g x σ H1 D.nx
theorem k8 {tg e:Expr}{te:TE}{g:TG}(he:PE X e te)(hg:PG X tg g)(hs:swapsWithSole [tg] e pos.line X.env=pure false:=by rfl)(hw:swappedStores [tg] e X.env=pure none:=by rfl)
  (h1:(assignEach [tg] X.env).map (·.2)=[assign tg X.env]:=by rfl):PS X (.Assign [tg] e pos) (tAsg te g):=by
 intro pins s σ H D I h
 refine wpAny_Assign_stores (thn (he pins s σ H _ I h) λv s1 ⟨x,H1,I1,r1,q1⟩=>?_) hs hw
 rw [h1]
 exact thn (hg pins s1 σ H1 x v _ I1 r1 q1) λ_ s2 q=>q
theorem wj {i:Nat}{x:Str}{e:Expr}{te:TE}{pos':Pos}(hN:X.N.Nodup)(hi:X.N[i]?=some x)(hx:Loc X.env.scope x)(he:PE X e te)(hs:swapsWith e (some (.Name x pos')) pos.line X.env=pure false:=by rfl)(hf:X.fn x=true∨X.env.scope.names.lookup x=some .local:=by first | exact .inl rfl | exact .inr rfl | assumption) :
  PS X (.Assign [.Name x pos'] e pos) (tAsg te (uk i)):=by
 intro pins s σ H D I h
 refine wpAny_Assign_Name (thn (he pins s σ H _ I h) λv s1 ⟨y,H1,I1,r1,q1⟩=>?_) hs
 exact vf I1 hN hi hx r1 (λs2 I2=>⟨_,H1,I2,q1⟩) hf
def tPar (i j:Nat)(ta:TA):TS:=λD σ H=>ta σ H λvs H1=>∃v w,vs=[v,w]∧D.nx ((σ.set i (some v)).set j (some w)) H1
theorem ps_par {i j:Nat}{x y:Str}{a b:Expr}{ta:TA}{px py pt:Pos}{kt k2 pt2}(hc:X.calm=true)(hN:X.N.Nodup)(hi:X.N[i]?=some x)(hj:X.N[j]?=some y)(hij:i≠j)
  (hx:X.env.scope.names.lookup x=some .local) (hy:X.env.scope.names.lookup y=some .local) (ha:PA X [a,b] ta)
  (hw:swappedStores [.Tuple [.Name x px,.Name y py] kt pt] (.Tuple [a,b] k2 pt2) X.env=pure (some [x,y]))
  (hs:swapsWithSole [.Tuple [.Name x px,.Name y py] kt pt] (.Tuple [a,b] k2 pt2) pos.line X.env=pure false:=by rfl) :
  PS X (.Assign [.Tuple [.Name x px,.Name y py] kt pt] (.Tuple [a,b] k2 pt2) pos) (tPar i j ta):=by
 intro pins s σ H D I h
 rw [exec_Assign_arm]
 refine aa (bv ?_)
 rw [hs]
 refine aa (ai ?_)
 rw [am (by decide)]
 refine aa (Tuple_ (thn (ha _ pins s σ H _ I h) λus s1 ⟨vs,H1,I1,r1,q1⟩=>?_))
 obtain ⟨v,w,e1,q1⟩:=q1
 subst e1
 obtain ⟨u1,u2,rfl,rv,rw'⟩:∃u1 u2,us=[u1,u2]∧RelV v u1∧RelV w u2:=by
  cases r1 with
  |cons p q =>
   cases q with
   |cons p' q' =>
    cases q'
    exact ⟨_,_,rfl,p,p'⟩
 refine bw ?_ (by show 2≤sizeLine;decide)
 have I2:Inv X pins σ H1 { s1 with heap:=s1.heap.push { cls:=.type "tuple",data:=.seq [u1,u2].toArray } }:=I1.kept (t':=s1.toks) λb o e=>ah _ e
 rw [hw]
 refine aa (ai ?_)
 show wpAny (model X.prog X.w) X.A (do rule "assign.swapped-stores";let items ←unpackItems (.ref s1.heap.objs.size) 2 none;assignInOrder [λv=>bindName X.env y v,λv=>bindName X.env x v] items.reverse;pure Flow.next) _ _ _
 refine aa (wpAny_rule (aa (unpackItems_tuple (items:=#[u1,u2]) (I.ok.hd hc) (IsTup.new s1.heap _) λh' hx'=>?_)))
 have I3:=I2.kept (h':=h') (t':=s1.toks) λb o e=>hx' b o (aq (af e)) e
 show wpAny _ _ (assignInOrder [λv=>bindName X.env y v,λv=>bindName X.env x v] [u2,u1] >>= λ_=>pure Flow.next) _ _ _
 refine aa (cX (wpAny_bindName (vf I3 hN hj (.inl hy) rw' (λs2 I4=>?_) (.inr hy))))
 refine cX (wpAny_bindName (vf I4 hN hi (.inl hx) rv (λs3 I5=>assignInOrder_nil (ai ?_)) (.inr hx)))
 rw [List.set_comm _ _ (cv hij)] at I5
 exact ⟨_,H1,I5,q1⟩
end
section
variable {X:Cx}{pos:Pos}
def qw6 (c:TT)(tb:TS):TS:=λD σ H=>∃W:Nat→St→Hp→Prop,(∃m,W m σ H)∧∀m σ H,W m σ H →
 c σ H λb H1=>if b=true then ∃N:St→Hp→Prop,(∀σ' H',N σ' H'→∃m',m'<m∧W m' σ' H')∧tb { D with nx:=N,ct:=N,bk:=D.nx } σ H1 else D.nx σ H1
theorem qq1 {c:Expr}{body:List Stmt}{tc:TT}{tb:TS}(hp:PassesOwn (model X.prog X.w) X.A X.env X.xe)(hc:PT X c tc)(hb:PSs X body tb):PS X (.While c body [] pos) (qw6 tc tb):=by
 intro pins s σ H D I h
 obtain ⟨W,⟨m0,w0⟩,turn⟩:=h
 refine wpAny_While (codeAny_whileLoop (λn s'=>∃σ' H',Inv X pins σ' H' s'∧W n σ' H') ?_ m0 ⟨σ,H,I,w0⟩)
 rintro n s1 ⟨σ1,H1,I1,w1⟩
 refine bL hp (thn (hc pins s1 σ1 H1 _ I1 (turn n σ1 H1 w1)) λb s2 ⟨H2,I2,q2⟩=>?_)
 cases b with
 |true =>
  obtain ⟨N,hN,q2⟩:=q2
  rw [au rfl]
  refine bL hp (thn (hb pins s2 σ1 H2 _ I2 q2) λf s3 q3=>?_)
  cases f with
  |next =>
   obtain ⟨σ3,H3,I3,n3⟩:=q3
   obtain ⟨m',hm,w3⟩:=hN σ3 H3 n3
   exact ⟨m',hm,σ3,H3,I3,w3⟩
  |cont =>
   obtain ⟨σ3,H3,I3,n3⟩:=q3
   obtain ⟨m',hm,w3⟩:=hN σ3 H3 n3
   exact ⟨m',hm,σ3,H3,I3,w3⟩
  |brk=>exact q3
  |ret v=>exact q3
 |false =>
  rw [am aA]
  exact cO ⟨σ1,H2,I2,q2⟩
end
structure It where
 go:Nat→Hp→Prop
 yld:Nat→Hp→V→Hp→Prop
 stop:Nat→Hp→Prop
def z4 (X:Cx)(pins:List (Aj×Obj))(H:Hp)(b:Aj):Prop :=
 H b=none∧b≠X.env.locals∧b∉X.fs∧(b∈X.ex∨X.s₀.heap.objs.size≤b)∧(∀x c,X.env.cells.lookup x=some c→c≠b)∧∀p∈X.pn++pins,p.1≠b
theorem Inv.fpOk {X:Cx}{pins:List (Aj×Obj)}{σ:St}{H H':Hp}{s:Ab}{b:Aj}(I:Inv X pins σ H s)(hb:s.heap.objs.size≤b)(hn:H' b=none):z4 X pins H' b:=by
 refine ⟨hn,Nat.ne_of_gt (aG I.lt hb),I.nofs hb,.inr (bp I.sz hb),λx c e z=>?_,λp hp z=>?_⟩
 ·obtain ⟨v,q⟩:=I.cell x c e
  exact absurd (aG q.lt (by rw [z];exact hb)) (aE _)
 ·exact absurd (aG (af (I.pin p hp).1) (by rw [z];exact hb)) (aE _)
structure Turn (P:Ac)(w:Ah)(K:Aa)(tg:Expr)(J:It)(fp:List Aj)(it:Aj)(tn:Nat→Heap→Prop):Prop where
 mem:it∈fp
 obj:∀i h,tn i h→∀b∈fp,∃o,h.get? b=some o∧∀v,o.data≠.cell v
 keep:∀i h h',tn i h→(∀b∈fp,∀o,h.get? b=some o→h'.get? b=some o)→tn i h'
 item:∀(X:Cx),X.prog=P→X.w=w→X.K=K→X.calm=true→∀(i:Nat) (pins:List (Aj×Obj)) (s:Ab) (σ:St) (H:Hp) (E:Ag→Ab→Prop),Inv X pins σ H s→(∀b∈fp,z4 X pins H b)→tn i s.heap→J.go i H →
  wpAny (model P w) X.A (pyNext (.ref it)) (λr s1=>∃u,r=some u ∧
   wpAny (model P w) X.A (letOwnedTupleGo tg (.ref it) u) (λ_ s2=>∃x H',Inv X pins σ H' s2∧RelV x u∧J.yld i H x H'∧tn (i+1) s2.heap∧∀b∈fp,H' b=none) E s1) E s
 done:∀(X:Cx),X.prog=P→X.w=w→X.K=K→X.calm=true→∀(i:Nat) (pins:List (Aj×Obj)) (s:Ab) (σ:St) (H:Hp) (E:Ag→Ab→Prop),Inv X pins σ H s→(∀b∈fp,z4 X pins H b)→tn i s.heap→J.stop i H →
  wpAny (model P w) X.A (pyNext (.ref it)) (λr s1=>r=none∧Inv X pins σ H s1) E s
 self:∀(A:Ae) (i:Nat) (s:Ab) (Q:Ag→Ab→Prop) (E:Ag→Ab→Prop),tn i s.heap→Q (.ref it) s→wpAny (model P w) A (pyIter (.ref it)) Q E s
abbrev TI:=St→Hp→(It→Hp→Prop)→Prop
def PIE (X:Cx)(pins:List (Aj×Obj))(σ:St)(tg:Expr)(R:It→Hp→Prop)(itv:Ag)(s2:Ab):Prop :=
 ∃(it:Aj) (fp:List Aj) (tn:Nat→Heap→Prop) (J:It) (H':Hp),itv=.ref it∧Inv X pins σ H' s2∧Turn X.prog X.w X.K tg J fp it tn∧tn 0 s2.heap∧(∀b∈fp,z4 X pins H' b)∧R J H'
def PI (X:Cx)(tg iter:Expr)(wi:TI):Prop :=
 ∀(pins:List (Aj×Obj)) (s:Ab) (σ:St) (H:Hp) (R:It→Hp→Prop),Inv X pins σ H s→wi σ H R →
  wpAny (model X.prog X.w) X.A (eval iter X.env) (λv s1=>wpAny (model X.prog X.w) X.A (pyIter v) (PIE X pins σ tg R) X.xe s1) X.xe s
theorem go_of {M:Model}{A:Ae}{E:Ag→Ab→Prop}{s:Ab}{tg:Expr}{it:Aj}{u:Ag}{o:Obj}{n:String}{vs:Array Ag}{Q:Unit→Ab→Prop}(ho:s.heap.get? it=some o)(hc:o.cls=.type n)(hd:o.data=.fields vs)
  (hn:["enumerate","zip","dict_itemiterator","dict_reverseitemiterator","odict_iterator","itertools.zip_longest","itertools.pairwise"].contains n=false) (hQ:Q () s):wpAny M A (letOwnedTupleGo tg (.ref it) u) Q E s:=by
 unfold letOwnedTupleGo
 cases tg <;> first
  |exact ai hQ
  |(cases u <;> first
    |exact ai hQ
    |(refine aa (wpAny_load ho ?_)
      rw [hc,hd]
      show wpAny M A (if (["enumerate","zip","dict_itemiterator","dict_reverseitemiterator","odict_iterator","itertools.zip_longest","itertools.pairwise"].contains n&&vs[0]?==some (rawInt _))=true then _ else _) Q E s
      rw [am (by intro h;rw [hn,Bool.false_and] at h;cases h)]
      exact ai hQ))
def Itl (K:Aa)(a:Aj):It :=
 ⟨λi H=>∃xs x,SqL K H a xs∧xs[i]?=some x,λi H x H'=>H'=H∧∀xs,SqL K H a xs→xs[i]?=some x,λi H=>∃xs,SqL K H a xs∧xs.length≤i⟩
def Itr (lo:Int)(n:Nat):It:=⟨λi _=>i<n,λi H x H'=>H'=H∧x=.int (lo+i),λi _=>n≤i⟩
theorem qk4 {P:Ac}{w:Ah}{K:Aa}{tg:Expr}(a it:Aj):Turn P w K tg (Itl K a) [it] it (λi h=>h.IsListIter it a i) where
 mem:=by simp
 obj:=λi h st b hb=>by
  have e:b=it:=by simpa using hb
  subst e
  obtain ⟨o,e,c,d⟩:=st
  exact ⟨o,e,λv z=>by rw [d] at z;cases z⟩
 keep:=λi h h' st k=>st.at λo e=>k it (by simp) o e
 item:=by
  intro X hP hw hK hc i pins s σ H E I hf st hg
  subst hP hw hK
  obtain ⟨xs,x,hq,hx⟩:=hg
  obtain ⟨its,rv,p,hz⟩:=I.list hq
  obtain ⟨u,hu,ru⟩:=rv.get hx
  obtain ⟨f0,f1,f2,f3,f4,f5⟩:=hf it (by simp)
  refine wpAny_pyNext_list_item st p.isList (x:=u) (by simpa using hu) λh' st' sb=>?_
  have I1:Inv X pins σ H { s with heap:=h' }:=I.turned (t':=s.toks) (λb o hb e=>(sb.2 b hb).trans e) f0 f1 f3 f4 f5
  obtain ⟨o,e,c,d⟩:=id st'
  exact ⟨u,rfl,go_of (s:={ s with heap:=h' }) e c d (by decide) ⟨x,H,I1,ru,⟨rfl,λys hy=>by rw [I.list_inj hy hq];exact hx⟩,st',λb hb=>(hf b hb).1⟩⟩
 done:=by
  intro X hP hw hK hc i pins s σ H E I hf st hg
  subst hP hw hK
  obtain ⟨xs,hq,hx⟩:=hg
  obtain ⟨its,rv,p,hz⟩:=I.list hq
  obtain ⟨f0,f1,f2,f3,f4,f5⟩:=hf it (by simp)
  have hl:=rv.length
  exact wpAny_pyNext_list_end (I.ok.hd hc) st p.isList (by simp;lia) λh' eb=>⟨rfl,I.turned (t':=s.toks) (λb o hb e=>eb b o hb e) f0 f1 f3 f4 f5⟩
 self:=λ_ _ _ _ _ st h=>wpAny_pyIter_listiter st h
theorem qx2 {P:Ac}{w:Ah}{K:Aa}{tg:Expr}(it:Aj)(lo:Int)(n:Nat):Turn P w K tg (Itr lo n) [it] it (λi h=>IsRangeIter h it (lo+(i:Nat)*1) ((n:Int)-(i:Nat)) 1) where
 mem:=by simp
 obj:=λi h st b hb=>by
  have e:b=it:=by simpa using hb
  subst e
  exact ⟨_,st,λv z=>by
   have z':Data.fields _=Data.cell v:=z
   cases z'⟩
 keep:=λi h h' st k=>k it (by simp) _ st
 item:=by
  intro X hP hw hK hc i pins s σ H E I hf st hg
  subst hP hw hK
  obtain ⟨f0,f1,f2,f3,f4,f5⟩:=hf it (by simp)
  have W:=Walks.range (prog:=X.prog) (w:=X.w) (I.ok.hd hc) it lo 1 n
  refine W.item i s _ _ hg st λv h' tk hv st' kk=>?_
  obtain ⟨t,rfl⟩:=hv
  have I1:Inv X pins σ H { s with heap:=h',toks:=tk }:=I.turned (λb o hb e=>kk b o (by simpa using hb) e) f0 f1 f3 f4 f5
  refine ⟨_,rfl,go_of (s:={ s with heap:=h',toks:=tk }) (n := "range_iterator") st' rfl rfl (by decide) ⟨.int (lo+i),H,I1,⟨t,?_⟩,⟨rfl,rfl⟩,st',λb hb=>(hf b hb).1⟩⟩
  rw [bd]
 done:=by
  intro X hP hw hK hc i pins s σ H E I hf st hg
  subst hP hw hK
  obtain ⟨f0,f1,f2,f3,f4,f5⟩:=hf it (by simp)
  exact wpAny_pyNext_range_end (I.ok.hd hc) st (by have:n≤i:=hg;lia) λh' eb=>⟨rfl,I.turned (t':=s.toks) (λb o hb e=>eb b o hb e) f0 f1 f3 f4 f5⟩
 self:=λ_ _ _ _ _ st h=>wpAny_pyIter_rangeiter st h
section
variable {X:Cx}{tg:Expr}
def iList (K:Aa)(tl:TE):TI:=λσ H R=>tl σ H λx H1=>∃a,x=.ref a∧(∃xs,SqL K H1 a xs)∧R (Itl K a) H1
theorem yf {l:Expr}{tl:TE}(hl:PE X l tl):PI X tg l (iList X.K tl):=by
 intro pins s σ H R I h
 refine thn (hl pins s σ H _ I h) λv s1 ⟨x,H1,I1,r1,q1⟩=>?_
 obtain ⟨a,e,⟨xs,hq⟩,q⟩:=q1
 subst e
 cases r1
 obtain ⟨its,rv,p,hz⟩:=I1.list hq
 refine dn p.isList ?_
 refine ⟨s1.heap.objs.size,[s1.heap.objs.size],_,_,H1,rfl,I1.kept (t':=s1.toks) λb o e=>ah _ e,qk4 a _,⟨_,aD _ rfl,rfl,rfl⟩,λb hb=>?_,q⟩
 have e:b=s1.heap.objs.size:=by simpa using hb
 subst e
 exact I1.fpOk (al _) (I1.hok.fresh (al _))
theorem qwp {pins:List (Aj×Obj)}{σ:St}{H:Hp}{s:Ab}{R:It→Hp→Prop}{E:Ag→Ab→Prop}{lo hi:Int}{t u v:Tok}{tk:Nat}(I:Inv X pins σ H s)(h1:-(2 ^ 62)≤lo)(h2:lo<2 ^ 62)(h3:-(2 ^ 62)≤hi)(h4:hi<2 ^ 62)
  (q:R (Itr lo (hi-lo).toNat) H):wpAny (model X.prog X.w) X.A (pyIter (.ref s.heap.objs.size)) (PIE X pins σ tg R) E { s with heap:=s.heap.push { cls:=.type "range",data:=.fields #[.int lo t,.int hi u,.int 1 v] },toks:=tk }:=by
 refine wpAny_pyIter_range (IsRange.new ..) (small_one h1 h2 h3 h4) ?_
 have I1:Inv X pins σ H { s with heap:=s.heap.push { cls:=.type "range",data:=.fields #[.int lo t,.int hi u,.int 1 v] },toks:=tk }:=I.kept λb o e=>ah _ e
 refine ⟨(s.heap.push { cls:=.type "range",data:=.fields #[.int lo t,.int hi u,.int 1 v] }).objs.size,[(s.heap.push { cls:=.type "range",data:=.fields #[.int lo t,.int hi u,.int 1 v] }).objs.size],_,_,H,rfl,
  I1.kept (t':=tk) λb o e=>ah _ e,qx2 _ lo (hi-lo).toNat,?_,λb hb=>?_,q⟩
 ·have e1:lo+((0:Nat):Int)*1=lo:=by simp
  have e2:(((hi-lo).toNat:Nat):Int)-((0:Nat):Int)=Builtin.Range.rangeSize lo hi 1:=by rw [rangeSize_one];split <;> lia
  show IsRangeIter _ _ (lo+((0:Nat):Int)*1) ((((hi-lo).toNat:Nat):Int)-((0:Nat):Int)) 1
  rw [e1,e2]
  exact aD _ rfl
 ·have e:b=(s.heap.push { cls:=.type "range",data:=.fields #[.int lo t,.int hi u,.int 1 v] }).objs.size:=by simpa using hb
  subst e
  exact I1.fpOk (al _) (I1.hok.fresh (al _))
def iRng1 (ta:TA):TI:=λσ H R=>ta σ H λvs H1=>∃j:Int,vs=[.int j]∧-(2 ^ 62)≤j∧j<2 ^ 62∧R (Itr 0 j.toNat) H1
def iRng2 (ta:TA):TI:=λσ H R=>ta σ H λvs H1=>∃i j:Int,vs=[.int i,.int j]∧(-(2 ^ 62)≤i∧i<2 ^ 62∧-(2 ^ 62)≤j∧j<2 ^ 62)∧R (Itr i (j-i).toNat) H1
theorem xr {a:Expr}{ta:TA}{p pos:Pos}(hg:Gl X "range")(hm:X.mg "range" = none)(ha:PA X [a] ta)(hs:starEach [a] X.env=[(false,eval a X.env)]:=by rfl):PI X tg (.Call (.Name "range" p) [a] [] pos) (iRng1 ta):=by
 intro pins s σ H R I h
 refine Call_ (kh I hg hm boot_range (aW (thn (ha pos pins s σ H _ I h) λus s1 ⟨vs,H1,I1,r1,q1⟩=>?_) hs rfl))
 obtain ⟨j,e,q1,q2,q⟩:=q1
 subst e
 cases r1 with
 |cons r rr =>
  cases rr
  obtain ⟨t,rfl⟩:=r
  exact call_range_1 (qwp I1 (by lia) (by lia) q1 q2 (by simpa using q))
theorem Yd {a b:Expr}{ta:TA}{p pos:Pos}(hg:Gl X "range")(hm:X.mg "range" = none)(ha:PA X [a,b] ta)(hs:starEach [a,b] X.env=[(false,eval a X.env),(false,eval b X.env)]:=by rfl)(hs2:starEach [b] X.env=[(false,eval b X.env)]:=by rfl) :
  PI X tg (.Call (.Name "range" p) [a,b] [] pos) (iRng2 ta):=by
 intro pins s σ H R I h
 refine Call_ (kh I hg hm boot_range (aW (thn (ha pos pins s σ H _ I h) λus s1 ⟨vs,H1,I1,r1,q1⟩=>?_) (by rw [hs,hs2]) (by rw [hs2];rfl)))
 obtain ⟨i,j,e,⟨q1,q2,q3,q4⟩,q⟩:=q1
 subst e
 cases r1 with
 |cons r rr =>
  cases rr with
  |cons r' rr =>
   cases rr
   obtain ⟨t,rfl⟩:=r
   obtain ⟨t',rfl⟩:=r'
   exact call_range_2 (qwp I1 q1 q2 q3 q4 q)
def tFor (wi:TI)(g:TG)(tb:TS):TS:=λD σ H=>wi σ H λJ H1=>∃W:Nat→Nat→St→Hp→Prop,(∃m,W 0 m σ H1)∧∀i m σ H,W i m σ H →
 (J.stop i H∧D.nx σ H)∨(J.go i H∧∃N:St→Hp→Prop,(∀σ' H',N σ' H'→∃m',m'<m∧W (i+1) m' σ' H')∧∀x H',J.yld i H x H'→g x σ H' λσ2 H2=>tb { D with nx:=N,ct:=N,bk:=D.nx } σ2 H2)
def yx (fp:List Aj)(h:Heap):List (Aj×Obj):=fp.filterMap λb=>(h.get? b).map λo=>(b,o)
theorem xv {fp:List Aj}{h:Heap}{b:Aj}{o:Obj}(hb:b∈fp)(e:h.get? b=some o):(b,o)∈yx fp h:=cY.mpr ⟨b,hb,by rw [e];rfl⟩
theorem qv2 {fp:List Aj}{h:Heap}{p:Aj×Obj}(hp:p∈yx fp h):p.1∈fp∧h.get? p.1=some p.2:=by
 obtain ⟨b,hb,e⟩:=cY.mp hp
 cases q:h.get? b with
 |none=>rw [q] at e;cases e
 |some o =>
  rw [q] at e
  have e':(b,o)=p:=aj e
  subst e'
  exact ⟨hb,q⟩
theorem Inv.pinned {pins:List (Aj×Obj)}{σ:St}{H:Hp}{s:Ab}{fp:List Aj}(I:Inv X pins σ H s)(hf:∀b∈fp,z4 X pins H b)(ho:∀b∈fp,∃o,s.heap.get? b=some o∧∀v,o.data≠.cell v):Inv X (pins++yx fp s.heap) σ H s :=
 I.pins_of λp hp=>(aP.mp hp).elim (λz=>I.pin p (ae _ z)) λz=>by
  obtain ⟨hb,e⟩:=qv2 z
  obtain ⟨f0,f1,f2,_⟩:=hf p.1 hb
  obtain ⟨o,e',d⟩:=ho p.1 hb
  rw [e] at e';cases e'
  exact ⟨e,f0,f1,f2,d⟩
theorem Inv.unpinned {pins pl:List (Aj×Obj)}{σ:St}{H:Hp}{s:Ab}(I:Inv X (pins++pl) σ H s):Inv X pins σ H s:=I.pins_of λp hp=>I.pin p (ae _ (bO _ hp))
theorem Wp {iter:Expr}{body:List Stmt}{wi:TI}{g:TG}{tb:TS}{pos:Pos}(hp:PassesOwn (model X.prog X.w) X.A X.env X.xe)(hc:X.calm=true)(hi:PI X tg iter wi)(hg:PG X tg g)(hb:PSs X body tb)
  (hs:∀x,foldedSetIterable iter X.env x=pure x:=by intro _;rfl):PS X (.For tg iter body [] pos) (tFor wi g tb):=by
 intro pins s σ H D I h
 refine wpAny_For (thn (hi pins s σ H _ I h) λv s1 h1=>thn h1 λitv s2 h2=>?_) hs
 obtain ⟨it,fp,tn,J,H2,e,I2,T,st2,f2,W,⟨m0,w0⟩,turn⟩:=h2
 subst e
 have stat:∀ {H':Hp},(∀b∈fp,H' b=none)→∀b∈fp,z4 X pins H' b:=λhn b hb=>⟨hn b hb,(f2 b hb).2⟩
 refine codeAny_forLoop_any (λn s'=>∃i σ' H',Inv X pins σ' H' s'∧tn i s'.heap∧(∀b∈fp,H' b=none)∧W i n σ' H') ?_ m0 ⟨0,σ,H2,I2,st2,λb hb=>(f2 b hb).1,w0⟩
 rintro n s3 ⟨i,σ3,H3,I3,st3,fr3,w3⟩
 rcases turn i n σ3 H3 w3 with ⟨stop,qn⟩|⟨go,N,hN,step⟩
 ·refine bL hp (thn (T.done X rfl rfl rfl hc i pins s3 σ3 H3 X.xe I3 (stat fr3) st3 stop) λr s4 ⟨hr,I4⟩=>?_)
  subst hr
  exact cO ⟨σ3,H3,I4,qn⟩
 ·refine bL hp (thn (T.item X rfl rfl rfl hc i pins s3 σ3 H3 X.xe I3 (stat fr3) st3 go) λr s4 ⟨u,hr,h4⟩=>?_)
  subst hr
  refine bL hp (thn h4 λ_ s5 ⟨x,H5,I5,r5,y5,st5,fr5⟩=>?_)
  have I5':=I5.pinned (stat fr5) (T.obj _ _ st5)
  refine bL hp (thn (hg _ s5 σ3 H5 x u _ I5' r5 (step x H5 y5)) λ_ s6 ⟨σ6,H6,I6,q6⟩=>?_)
  refine bL hp (thn (hb _ s6 σ6 H6 _ I6 q6) λf s7 q7=>?_)
  have again:∀ {σ7:St} {H7:Hp},Inv X (pins++yx fp s5.heap) σ7 H7 s7→N σ7 H7→∃m,m<n∧∃i σ' H',Inv X pins σ' H' s7∧tn i s7.heap∧(∀b∈fp,H' b=none)∧W i m σ' H':=λ{σ7 H7} I7 n7=>by
   obtain ⟨m',hm,w7⟩:=hN σ7 H7 n7
   refine ⟨m',hm,i+1,σ7,H7,I7.unpinned,T.keep _ _ _ st5 λb hb o e=>(I7.pin (b,o) (ae _ (ae _ (xv hb e)))).1,λb hb=>?_,w7⟩
   obtain ⟨o,e,d⟩:=T.obj _ _ st5 b hb
   exact (I7.pin (b,o) (ae _ (ae _ (xv hb e)))).2.1
  cases f with
  |next=>obtain ⟨σ7,H7,I7,n7⟩:=q7;exact again I7 n7
  |cont=>obtain ⟨σ7,H7,I7,n7⟩:=q7;exact again I7 n7
  |brk=>obtain ⟨σ7,H7,I7,q7⟩:=q7;exact ⟨σ7,H7,I7.unpinned,q7⟩
  |ret v=>obtain ⟨x7,σ7,H7,I7,r7,q7⟩:=q7;exact ⟨x7,σ7,H7,I7.unpinned,r7,q7⟩
end
theorem jt {lo:Int}{n:Nat}{g:TG}{tb:TS}{D:Ends}{σ:St}{H:Hp}(Pv:Nat→St→Hp→Prop)(h0:Pv 0 σ H)
  (hs:∀i σ H,i<n→Pv i σ H→g (.int (lo+i)) σ H λσ2 H2=>tb { D with nx:=Pv (i+1),ct:=Pv (i+1),bk:=D.nx } σ2 H2) (hd:∀σ H,Pv n σ H→D.nx σ H) :
  ∃W:Nat→Nat→St→Hp→Prop,(∃m,W 0 m σ H)∧∀i m σ H,W i m σ H →
   ((Itr lo n).stop i H∧D.nx σ H)∨((Itr lo n).go i H∧∃N:St→Hp→Prop,(∀σ' H',N σ' H'→∃m',m'<m∧W (i+1) m' σ' H')∧∀x H',(Itr lo n).yld i H x H'→g x σ H' λσ2 H2=>tb { D with nx:=N,ct:=N,bk:=D.nx } σ2 H2):=by
 refine ⟨λi m σ H=>m=n-i∧i≤n∧Pv i σ H,⟨n,by simp,ba _,h0⟩,?_⟩
 rintro i m σ H ⟨rfl,hi,p⟩
 by_cases hlt:i<n
 ·refine .inr ⟨hlt,Pv (i+1),λσ' H' p'=>⟨n-(i+1),by lia,rfl,hlt,p'⟩,λx H' y=>?_⟩
  obtain ⟨e,y⟩:=y
  subst e y
  exact hs i σ _ hlt p
 ·have e:i=n:=by lia
  subst e
  exact .inl ⟨al _,hd σ H p⟩
theorem qq5 {c:TT}{tb:TS}{D:Ends}{σ:St}{H:Hp}(Pv:St→Hp→Prop)(μ:St→Hp→Nat)(h0:Pv σ H)
  (hs:∀σ H,Pv σ H→c σ H λb H1=>if b=true then tb { D with nx:=λσ' H'=>Pv σ' H'∧μ σ' H'<μ σ H,ct:=λσ' H'=>Pv σ' H'∧μ σ' H'<μ σ H,bk:=D.nx } σ H1 else D.nx σ H1)
  (mono:∀σ H Q Q',(∀b H1,Q b H1→Q' b H1)→c σ H Q→c σ H Q'):qw6 c tb D σ H:=by
 refine ⟨λm σ H=>m=μ σ H∧Pv σ H,⟨_,rfl,h0⟩,?_⟩
 rintro m σ H ⟨rfl,p⟩
 refine mono σ H _ _ (λb H1 q=>?_) (hs σ H p)
 cases b with
 |true=>exact ⟨_,λσ' H' ⟨p',l⟩=>⟨_,l,rfl,p'⟩,q⟩
 |false=>exact q
abbrev R2:=V→V→Hp→VK→Prop
def OpR (X:Cx)(f:Ag→Ag→Sem Ag)(r:R2):Prop :=
 ∀(pins:List (Aj×Obj)) (s:Ab) (σ:St) (H:Hp) (x y:V) (v u:Ag) (Q:VK),Inv X pins σ H s→RelV x v→RelV y u→r x y H Q →
  wpAny (model X.prog X.w) X.A (f v u) (EP X pins σ Q) X.xe s
def UnR (X:Cx)(f:Ag→Sem Ag)(r:V→Hp→VK→Prop):Prop :=
 ∀(pins:List (Aj×Obj)) (s:Ab) (σ:St) (H:Hp) (x:V) (v:Ag) (Q:VK),Inv X pins σ H s→RelV x v→r x H Q →
  wpAny (model X.prog X.w) X.A (f v) (EP X pins σ Q) X.xe s
def vm (X:Cx)(f:Ag)(r:List V→Hp→VK→Prop):Prop :=
 ∀(pins:List (Aj×Obj)) (s:Ab) (σ:St) (H:Hp) (xs:List V) (us:List Ag) (Q:VK),Inv X pins σ H s→Vals xs us→r xs H Q →
  wpAny (model X.prog X.w) X.A (call f us) (EP X pins σ Q) X.xe s
def tOp (r:R2)(ta tb:TE):TE:=λσ H Q=>ta σ H λx H1=>tb σ H1 λy H2=>r x y H2 Q
def tUn (r:V→Hp→VK→Prop)(ta:TE):TE:=λσ H Q=>ta σ H λx H1=>r x H1 Q
def rI (C:Int→Int→Prop)(g:Int→Int→V):R2:=λx y H Q=>∃i j,x=.int i∧y=.int j∧C i j∧Q (g i j) H
def rI0 (g:Int→Int→V):R2:=λx y H Q=>∃i j,x=.int i∧y=.int j∧Q (g i j) H
def rU (g:Int→V):V→Hp→VK→Prop:=λx H Q=>∃i,x=.int i∧Q (g i) H
section
variable {X:Cx}{a b c:Expr}{ta tb tc:TE}{pos:Pos}
theorem binT (ha:PE X a ta)(hb:PE X b tb){pins:List (Aj×Obj)}{s:Ab}{σ:St}{H:Hp}{R:V→V→Hp→Prop}(I:Inv X pins σ H s)
  (h:ta σ H λx H1=>tb σ H1 λy H2=>R x y H2) {Q:Ag→Ab→Prop} {f:Ag→Ag→Sem Ag}
  (hf:∀v u s2 x y H2,Inv X pins σ H2 s2→RelV x v→RelV y u→R x y H2→wpAny (model X.prog X.w) X.A (f v u) Q X.xe s2) :
  wpAny (model X.prog X.w) X.A (eval a X.env) (λv s₁=>wpAny (model X.prog X.w) X.A (eval b X.env) (λu s₂=>wpAny (model X.prog X.w) X.A (f v u) Q X.xe s₂) X.xe s₁) X.xe s:=by
 refine thn (ha pins s σ H _ I h) λv s1 ⟨x,H1,I1,r1,q1⟩=>?_
 refine thn (hb pins s1 σ H1 _ I1 q1) λu s2 ⟨y,H2,I2,r2,q2⟩=>?_
 exact hf v u s2 x y H2 I2 r1 r2 q2
theorem q8 {op:Operator}{r:R2}(ho:OpR X (binaryOp op) r)(ha:PE X a ta)(hb:PE X b tb):PE X (.BinOp a op b pos) (tOp r ta tb):=by
 intro pins s σ H Q I h
 exact wpAny_BinOp (binT ha hb I h λv u s2 x y H2 I2 rx ry q=>ho pins s2 σ H2 x y v u Q I2 rx ry q)
theorem qqn {op:UnaryOp}{r:V→Hp→VK→Prop}(ho:UnR X (unaryOp op) r)(ha:PE X a ta):PE X (.UnaryOp op a pos) (tUn r ta):=by
 intro pins s σ H Q I h
 exact UnaryOp_ (thn (ha pins s σ H _ I h) λv s1 ⟨x,H1,I1,r1,q1⟩=>ho pins s1 σ H1 x v Q I1 r1 q1)
theorem opI {f:Ag→Ag→Sem Ag}{C:Int→Int→Prop}{g:Int→Int→Int}
  (rule:∀(i j:Int) (t u:Tok) (s:Ab) (Q:Ag→Ab→Prop) (E:Ag→Ab→Prop),C i j→Q (.int (g i j) s.toks) { s with toks:=s.toks+1 }→wpAny (model X.prog X.w) X.A (f (.int i t) (.int j u)) Q E s) :
  OpR X f (rI C λi j=>.int (g i j)):=by
 intro pins s σ H x y v u Q I rx ry h
 obtain ⟨i,j,rfl,rfl,hc,q⟩:=h
 obtain ⟨t,rfl⟩:=rx
 obtain ⟨t',rfl⟩:=ry
 exact rule i j t t' s _ _ hc ⟨.int (g i j),H,I.tok _,⟨_,rfl⟩,q⟩
theorem opI0 {f:Ag→Ag→Sem Ag}{g:Int→Int→Int}
  (rule:∀(i j:Int) (t u:Tok) (s:Ab) (Q:Ag→Ab→Prop) (E:Ag→Ab→Prop),Q (.int (g i j) s.toks) { s with toks:=s.toks+1 }→wpAny (model X.prog X.w) X.A (f (.int i t) (.int j u)) Q E s) :
  OpR X f (rI0 λi j=>.int (g i j)):=by
 intro pins s σ H x y v u Q I rx ry h
 obtain ⟨i,j,rfl,rfl,q⟩:=h
 obtain ⟨t,rfl⟩:=rx
 obtain ⟨t',rfl⟩:=ry
 exact rule i j t t' s _ _ ⟨.int (g i j),H,I.tok _,⟨_,rfl⟩,q⟩
theorem opB0 {f:Ag→Ag→Sem Ag}{g:Int→Int→Bool}
  (rule:∀(i j:Int) (t u:Tok) (s:Ab) (Q:Ag→Ab→Prop) (E:Ag→Ab→Prop),Q (.bool (g i j)) s→wpAny (model X.prog X.w) X.A (f (.int i t) (.int j u)) Q E s) :
  OpR X f (rI0 λi j=>.bl (g i j)):=by
 intro pins s σ H x y v u Q I rx ry h
 obtain ⟨i,j,rfl,rfl,q⟩:=h
 obtain ⟨t,rfl⟩:=rx
 obtain ⟨t',rfl⟩:=ry
 exact rule i j t t' s _ _ ⟨.bl (g i j),H,I,rfl,q⟩
def CPow (i j:Int):Prop:=0≤j∧j≤1000000∧i.natAbs<2 ^ 64
theorem wp:OpR X (binaryOp .Add) (rI0 λi j=>.int (i+j)):=opI0 λ_ _ _ _ _ _ _ q=>add_int q
theorem xm:OpR X (binaryOp .Sub) (rI0 λi j=>.int (i-j)):=opI0 λ_ _ _ _ _ _ _ q=>sub_int q
theorem zj:OpR X (binaryOp .Mod) (rI (λ_ j=>0<j) λi j=>.int (i%j)):=opI λi j _ _ _ _ _ hc q=>by
 have h1:(0:Int)<j:=hc
 exact mod_int' (by lia) (by rw [Int.fmod_eq_emod_of_nonneg i (by lia)];exact q)
theorem qyx:OpR X (binaryOp .Pow) (rI CPow λi j=>.int (i ^ j.toNat)):=opI λ_ _ _ _ _ _ _ hc q=>pow_int_small hc.1 hc.2.1 hc.2.2 q
theorem unI {f:Ag→Sem Ag}{g:Int→Int}
  (rule:∀(i:Int) (t:Tok) (s:Ab) (Q:Ag→Ab→Prop) (E:Ag→Ab→Prop),Q (.int (g i) s.toks) { s with toks:=s.toks+1 }→wpAny (model X.prog X.w) X.A (f (.int i t)) Q E s) :
  UnR X f (rU λi=>.int (g i)):=by
 intro pins s σ H x v Q I rx h
 obtain ⟨i,rfl,q⟩:=h
 obtain ⟨t,rfl⟩:=rx
 exact rule i t s _ _ ⟨.int (g i),H,I.tok _,⟨_,rfl⟩,q⟩
theorem Wr:UnR X (unaryOp .USub) (rU λi=>.int (-i)):=unI λ_ _ _ _ _ q=>neg_int q
end
def scal:V→V→Bool
 |.non,.non=>true|.non,.int _=>true|.int _,.non=>true|.non,.bl _=>true|.bl _,.non=>true|.non,.str _=>true|.str _,.non=>true
 |.int _,.int _=>true|.bl _,.bl _=>true|.str _,.str _=>true|.byt _,.byt _=>true
 |.int _,.str _=>true|.str _,.int _=>true|.bl _,.str _=>true|.str _,.bl _=>true
 |_,_=>false
def rEq:R2:=λx y H Q=>scal x y=true∧Q (.bl (decide (x=y))) H
def rNe:R2:=λx y H Q=>scal x y=true∧Q (.bl (!decide (x=y))) H
theorem qzf {i j:Int}:decide (V.int i=V.int j)=(i==j):=by
 rw [bM]
 simp
theorem qu5 {i j:Bool}:decide (V.bl i=V.bl j)=(i==j):=by
 rw [bM]
 simp
theorem qvu {i j:Str}:decide (V.str i=V.str j)=(i==j):=by
 rw [bM]
 simp
theorem qvf {i j:Array UInt8}:decide (V.byt i=V.byt j)=(i.toList==j.toList):=by
 rw [bM]
 cases i
 cases j
 simp
section
variable {X:Cx}{a b c:Expr}{ta tb tc:TE}{pos:Pos}
theorem xw {pins:List (Aj×Obj)}{σ:St}{H:Hp}{s:Ab}{Q:VK}{k k':Bool}(I:Inv X pins σ H s)(q:Q (.bl k) H)(e:k=k'):EP X pins σ Q (.bool k') s:=by
 subst e
 exact ⟨.bl k,H,I,rfl,q⟩
theorem jq:OpR X (compareOp .Eq) rEq:=by
 intro pins s σ H x y v u Q I rx ry h
 obtain ⟨hs,q⟩:=h
 cases x with
 |non =>
  cases rx
  cases y with
  |non=>cases ry;exact PySem.EqNone.eq_none_none (xw I q (by simp))
  |bl j=>cases ry;exact PySem.EqNone.eq_none_bool (xw I q (by simp))
  |int j=>obtain ⟨t',rfl⟩:=ry;exact PySem.EqNone.eq_none_int (xw I q (by simp))
  |str j=>obtain ⟨t',rfl⟩:=ry;exact PySem.EqNone.eq_none_str (xw I q (by simp))
  |_=>exact absurd (show false=true from hs) aA
 |bl i =>
  cases rx
  cases y with
  |non=>cases ry;exact PySem.EqNone.eq_bool_none (xw I q (by simp))
  |bl j=>cases ry;exact eq_bool (xw I q qu5)
  |str j=>obtain ⟨t',rfl⟩:=ry;exact PySem.EqMixed.eq_bool_str (xw I q (by simp))
  |_=>exact absurd (show false=true from hs) aA
 |int i =>
  obtain ⟨t,rfl⟩:=rx
  cases y with
  |non=>cases ry;exact PySem.EqNone.eq_int_none (xw I q (by simp))
  |int j=>obtain ⟨t',rfl⟩:=ry;exact eq_int (xw I q qzf)
  |str j=>obtain ⟨t',rfl⟩:=ry;exact PySem.EqMixed.eq_int_str (xw I q (by simp))
  |_=>exact absurd (show false=true from hs) aA
 |str i =>
  obtain ⟨t,rfl⟩:=rx
  cases y with
  |non=>cases ry;exact PySem.EqNone.eq_str_none (xw I q (by simp))
  |bl j=>cases ry;exact PySem.EqMixed.eq_str_bool (xw I q (by simp))
  |int j=>obtain ⟨t',rfl⟩:=ry;exact PySem.EqMixed.eq_str_int (xw I q (by simp))
  |str j=>obtain ⟨t',rfl⟩:=ry;exact eq_str (xw I q qvu)
  |_=>exact absurd (show false=true from hs) aA
 |byt i =>
  obtain ⟨t,rfl⟩:=rx
  cases y with
  |byt j=>obtain ⟨t',rfl⟩:=ry;exact PySem.W.eq_bytes (xw I q qvf)
  |_=>exact absurd (show false=true from hs) aA
 |_=>cases y <;> exact absurd (show false=true from hs) aA
theorem op_ne:OpR X (compareOp .NotEq) rNe:=by
 intro pins s σ H x y v u Q I rx ry h
 obtain ⟨hs,q⟩:=h
 cases x with
 |non =>
  cases rx
  cases y with
  |non=>cases ry;exact PySem.EqNone.ne_none_none (xw I q (by simp))
  |bl j=>cases ry;exact PySem.EqNone.ne_none_bool (xw I q (by simp))
  |int j=>obtain ⟨t',rfl⟩:=ry;exact PySem.EqNone.ne_none_int (xw I q (by simp))
  |str j=>obtain ⟨t',rfl⟩:=ry;exact PySem.EqNone.ne_none_str (xw I q (by simp))
  |_=>exact absurd (show false=true from hs) aA
 |bl i =>
  cases rx
  cases y with
  |non=>cases ry;exact PySem.EqNone.ne_bool_none (xw I q (by simp))
  |bl j=>cases ry;exact ne_bool (xw I q (bQ not qu5))
  |str j=>obtain ⟨t',rfl⟩:=ry;exact PySem.EqMixed.ne_bool_str (xw I q (by simp))
  |_=>exact absurd (show false=true from hs) aA
 |int i =>
  obtain ⟨t,rfl⟩:=rx
  cases y with
  |non=>cases ry;exact PySem.EqNone.ne_int_none (xw I q (by simp))
  |int j=>obtain ⟨t',rfl⟩:=ry;exact ne_int (xw I q (bQ not qzf))
  |str j=>obtain ⟨t',rfl⟩:=ry;exact PySem.EqMixed.ne_int_str (xw I q (by simp))
  |_=>exact absurd (show false=true from hs) aA
 |str i =>
  obtain ⟨t,rfl⟩:=rx
  cases y with
  |non=>cases ry;exact PySem.EqNone.ne_str_none (xw I q (by simp))
  |bl j=>cases ry;exact PySem.EqMixed.ne_str_bool (xw I q (by simp))
  |int j=>obtain ⟨t',rfl⟩:=ry;exact PySem.EqMixed.ne_str_int (xw I q (by simp))
  |str j=>obtain ⟨t',rfl⟩:=ry;exact ne_str (xw I q (bQ not qvu))
  |_=>exact absurd (show false=true from hs) aA
 |byt i =>
  obtain ⟨t,rfl⟩:=rx
  cases y with
  |byt j=>obtain ⟨t',rfl⟩:=ry;exact PySem.W.ne_bytes (xw I q (bQ not qvf))
  |_=>exact absurd (show false=true from hs) aA
 |_=>cases y <;> exact absurd (show false=true from hs) aA
theorem yq:OpR X (compareOp .Lt) (rI0 λi j=>.bl (decide (i<j))):=opB0 λ_ _ _ _ _ _ _ q=>lt_int q
theorem op_le:OpR X (compareOp .LtE) (rI0 λi j=>.bl (decide (i≤j))):=opB0 λ_ _ _ _ _ _ _ q=>le_int q
theorem yw:OpR X (compareOp .Gt) (rI0 λi j=>.bl (decide (j<i))):=opB0 λ_ _ _ _ _ _ _ q=>gt_int q
theorem quf:OpR X (compareOp .GtE) (rI0 λi j=>.bl (decide (j≤i))):=opB0 λ_ _ _ _ _ _ _ q=>ge_int q
theorem Jy:OpR X (compareOp .Is) (λx y H Q=>y=.non∧Q (.bl (decide (x=.non))) H):=by
 intro pins s σ H x y v u Q I rx ry h
 obtain ⟨rfl,q⟩:=h
 cases ry
 refine is_none_gen (xw I q ?_)
 cases x <;> first
  |(cases rx;rfl)
  |(obtain ⟨t,rfl⟩:=rx;rfl)
theorem qvw:OpR X (compareOp .IsNot) (λx y H Q=>y=.non∧Q (.bl (!decide (x=.non))) H):=by
 intro pins s σ H x y v u Q I rx ry h
 obtain ⟨rfl,q⟩:=h
 cases ry
 refine isnot_none_gen (xw I q ?_)
 cases x <;> first
  |(cases rx;rfl)
  |(obtain ⟨t,rfl⟩:=rx;rfl)
theorem wn (b:Expr){op:CmpOp}(h:op≠.In:=by decide)(h2:op≠.NotIn:=by decide):behindInMarks op b=false:=by
 have e1:(op==CmpOp.In)=false:=by cases op <;> first | rfl | exact absurd rfl h
 have e2:(op==CmpOp.NotIn)=false:=by cases op <;> first | rfl | exact absurd rfl h2
 cases b <;> simp [behindInMarks,e1,e2]
theorem k6 {op:CmpOp}{r:R2}(ho:OpR X (compareOp op) r)(ha:PE X a ta)(hb:PE X b tb)(hm:behindInMarks op b=false):PE X (.Compare a [op] [b] pos) (tOp r ta tb):=by
 intro pins s σ H Q I h
 exact wpAny_Compare1 (binT ha hb I h λv u s2 x y H2 I2 rx ry q=>ho pins s2 σ H2 x y v u Q I2 rx ry q) hm
def tTest (t:TE):TT:=λσ H Q=>t σ H λx H'=>∃k,x=.bl k∧Q k H'
theorem wf {op:CmpOp}{r:R2}(ho:OpR X (compareOp op) r)(ha:PE X a ta)(hb:PE X b tb)(hm:behindInMarks op b=false):PT X (.Compare a [op] [b] pos) (tTest (tOp r ta tb)):=by
 intro pins s σ H Q I h
 refine wpAny_isTrue_Compare1 (thn (ha pins s σ H _ I h) λv s1 ⟨x,H1,I1,r1,q1⟩=>thn (hb pins s1 σ H1 _ I1 q1) λu s2 ⟨y,H2,I2,r2,q2⟩ =>
  thn (ho pins s2 σ H2 x y v u _ I2 r1 r2 q2) λc s3 ⟨z,H3,I3,r3,k,e,q3⟩=>?_) hm
 subst e
 cases r3
 exact bP ⟨H3,I3,q3⟩
theorem Jr:(sizeLine:Nat)<2 ^ 63:=by rw [sizeLine_eq];decide
theorem ym {x:V}{us:List Ag}(r:Vals [x] us):∃u,us=[u]∧RelV x u:=by
 cases r with
 |cons r1 r2=>cases r2;exact ⟨_,rfl,r1⟩
theorem qy7 {x y:V}{us:List Ag}(r:Vals [x,y] us):∃u w',us=[u,w']∧RelV x u∧RelV y w':=by
 cases r with
 |cons r1 r2 =>
  cases r2 with
  |cons r3 r4=>cases r4;exact ⟨_,_,rfl,r1,r3⟩
theorem y3:vm X (.builtin "abs") (λxs H Q=>∃i,xs=[.int i]∧Q (.int (if i<0 then -i else i)) H):=by
 intro pins s σ H xs us Q I r h
 obtain ⟨i,rfl,q⟩:=h
 obtain ⟨u,rfl,t,rfl⟩:=ym r
 exact call_abs_int λu tk=>⟨.int (if i<0 then -i else i),H,I.tok _,⟨_,rfl⟩,q⟩
theorem Yu (hc:X.calm=true):vm X (.builtin "max") (λxs H Q=>∃i j,xs=[.int i,.int j]∧Q (.int (if j>i then j else i)) H):=by
 intro pins s σ H xs us Q I r h
 obtain ⟨i,j,rfl,q⟩:=h
 obtain ⟨u,w',rfl,⟨t,rfl⟩,⟨t',rfl⟩⟩:=qy7 r
 refine max_two_ints (I.ok.hd hc) λh' tk k=>⟨_,H,I.kept k,?_,q⟩
 by_cases hj:j>i
 ·rw [au hj,au hj];exact ⟨_,rfl⟩
 ·rw [am hj,am hj];exact ⟨_,rfl⟩
theorem Yv (hc:X.calm=true):vm X (.builtin "min") (λxs H Q=>∃i j,xs=[.int i,.int j]∧Q (.int (if j<i then j else i)) H):=by
 intro pins s σ H xs us Q I r h
 obtain ⟨i,j,rfl,q⟩:=h
 obtain ⟨u,w',rfl,⟨t,rfl⟩,⟨t',rfl⟩⟩:=qy7 r
 refine min_two_ints (I.ok.hd hc) λh' tk k=>⟨_,H,I.kept k,?_,q⟩
 by_cases hj:j<i
 ·rw [au hj,au hj];exact ⟨_,rfl⟩
 ·rw [am hj,am hj];exact ⟨_,rfl⟩
end
structure ObjM (h:Heap)(x dx C:Aj)(mA:Str→Option Ag):Prop where
 obj:h.get? x=some (PySem.W.instObj C dx)
 ns:h.Ns1 dx mA
 ne:dx≠x
theorem qjx {h:Heap}{dx:Aj}{mA:Str→Option Ag}(n:h.Ns1 dx mA):∃od,h.get? dx=some od∧∀name,PySem.W.lookIn name od=some (mA name):=by
 obtain ⟨o,es,ep,ho,hd,hk,_,hm⟩:=n
 refine ⟨o,ho,λname=>?_⟩
 have e:=hm name
 unfold nsFind findBy at e
 rw [←Array.find?_toList] at e
 unfold PySem.W.lookIn
 rw [hd]
 dsimp only
 split
 ·rename_i y q
  rw [q] at e
  exact bQ some e
 ·rename_i q
  rw [q] at e
  have a:es.toList.any (·.refKey)=false:=by
   rw [List.any_eq_false]
   intro y hy
   obtain ⟨z,t,hkey⟩:=hk y (Array.mem_toList_iff.mp hy)
   simp [DictEntry.refKey,hkey]
  have a':¬ es.toList.any (·.refKey)=true:=by rw [a];exact aA
  rw [am a']
  exact bQ some e
theorem ObjM.look {h:Heap}{x dx C:Aj}{mA:Str→Option Ag}(I:ObjM h x dx C mA):∃od,PySem.W.InstAt h x (PySem.W.instObj C dx) C (some od)∧∀name,PySem.W.lookIn name od=some (mA name) :=
 let ⟨od,ho,hl⟩:=qjx I.ns
 ⟨od,⟨I.obj,rfl,rfl,ho⟩,hl⟩
section
variable {prog:Ac}{w:Ah}{A:Ae}{E:Ag→Ab→Prop}{s:Ab}{K:Aa}{x dx C f:Aj}{mA:Str→Option Ag}{name:Str}{v:Ag}
theorem ww4 {expr:Bool}{Q:Ag→Ab→Prop}(X:K.In s.heap)(I:ObjM s.heap x dx C mA)(hg:PySem.W.plainGet K C name=true)(hh:PySem.W.hasDictIn K C=true)
  (ha:PySem.W.findIn K (.ref C) name=some none) (hv:mA name=some v) (hv':PySem.W.handedIn v=true) (h:Q v { s with toks:=s.toks+1 }) :
  wpAny (model prog w) A (getAttr (.ref x) name expr) Q E s:=by
 obtain ⟨od,J,hl⟩:=I.look
 exact PySem.W.get_value X J (cS hg).1 (PySem.W.findObj_own hh ha rfl (by rw [hl,hv])) hv' h
theorem qj7 {pl:Sem Bool}{Q:Ag×List Ag→Ab→Prop}(X:K.In s.heap)(I:ObjM s.heap x dx C mA)(hg:PySem.W.plainGet K C name=true)
  (hf:PySem.W.findIn K (.ref C) name=some (some (.ref f))) (ht:PySem.W.isFn K (.ref f)=true) (hv:mA name=none) (h:Q (.ref f,[.ref x]) s) :
  wpAny (model prog w) A (getMethod (.ref x) name pl) Q E s:=by
 obtain ⟨od,J,hl⟩:=I.look
 exact PySem.W.method_fn X J (cS hg).1 (cS hg).2 hf (dF.mp ht) (by show (PySem.W.lookIn name od).map (·.isSome)=some false;rw [hl,hv];rfl) h
theorem wqh {ns:List Str}{Q:Unit→Ab→Prop}(X:K.In s.heap)(I:ObjM s.heap x dx C mA)
  (hs:PySem.W.findIn K (.ref C) "__setattr__" = some (some (.builtin "object.__setattr__"))) (hp:PySem.W.plainOver K C=true) (ht:PySem.W.takerIn K C name=some none) (hh:PySem.W.hasDictIn K C=true)
  (hw:PySem.Within mA ns) (hsz:ns.length≤sizeLine)
  (h:∀h',ObjM h' x dx C (λy=>if y=name then some v else mA y)→Heap.SameBut dx s.heap h'→Q () { s with heap:=h',toks:=s.toks+2 }) :
  wpAny (model prog w) A (setAttr (.ref x) name v) Q E s:=by
 obtain ⟨od,J,hl⟩:=I.look
 refine PySem.W.set_plain X J hs (PySem.W.osa_open (s:={ s with toks:=s.toks+1 }) (r:=none) X J hp ht λb=>?_)
 obtain ⟨cd,hc,hd'⟩:=PySem.W.any_some hh
 have hx:s.heap.get? x=some ⟨.ref C,some dx,.plain,#[]⟩:=I.obj
 refine aa (ai (aa (aa (wpAny_loadPart hx (aa (PySem.W.Looks.here (s:={ s with toks:=s.toks+1 }) (PySem.W.looks_clsIn X hc) ?_))))))
 rw [hd']
 refine ai (a:=some dx) (aa (ai (aa ?_)))
 refine wpAny_nsSet1 (s:={ s with toks:=s.toks+1 }) I.ns λh' hn2 hs2=>?_
 obtain ⟨oD,esD,epD,hoD,hdD,hcD⟩:=hn2.count (PySem.Within.cons name v hw)
 refine aa (wpAny_lookBehind hoD (by rw [hdD];exact pastItsLine_dict (bp hcD (by rw [aN];lia))) ?_)
 exact ai (h _ ⟨(hs2.2 _ (cv I.ne)).trans I.obj,hn2,I.ne⟩ hs2)
theorem qyr {R:Result→Ab→Prop}{vs:List Ag}{kw:List (Str×Ag)}(X:K.In s.heap)(hm:PySem.W.makesIn K C=true)
  (hi:PySem.W.findIn K (.ref C) "__init__" = some (some (.ref f))) (hf:PySem.W.typeIn K (.ref f)=some (.type "function"))
  (h:codeAny (model prog w) (A.under (.builtin "type.__call__" ⟨.ref C::vs,kw⟩)) (.call (.ref f) ⟨.ref (s.heap.objs.size+1)::vs,kw⟩) (PySem.W.InitBack (s.heap.objs.size+1) R)
   { s with heap:=(s.heap.push PySem.W.emptyDict).push (PySem.W.instObj C s.heap.objs.size) }) :
  codeAny (model prog w) A (.call (.ref C) ⟨vs,kw⟩) R s:=by
 obtain ⟨hh,g,d,t,os⟩:=s
 exact PySem.W.make_core (PySem.W.makes_of X hm) (PySem.W.looks_findIn X hi) (λself=>PySem.W.bind_fn X self hf) (.inl rfl) h
end
def j9 (f:Str)(v:V):List (Str×V)→List (Str×V)
 |[]=>[(f,v)]
 |(g,x)::r=>if g=f then (g,v)::r else (g,x)::j9 f v r
theorem Qy (f g:Str)(v:V):∀fs:List (Str×V),(j9 f v fs).lookup g=if g=f then some v else fs.lookup g
 |[]=>by
  show List.lookup g [(f,v)]=_
  by_cases h:g=f
  ·have hb:(g==f)=true:=dF.mpr h
   simp only [List.lookup,hb,au h]
  ·have hb:(g==f)=false:=bD.mpr h
   simp only [List.lookup,hb,am h]
 |(k,x)::r=>by
  have ih:=Qy f g v r
  rw [show j9 f v ((k,x)::r)=(if k=f then (k,v)::r else (k,x)::j9 f v r) from rfl]
  by_cases hk:k=f
  ·rw [au hk]
   by_cases h:g=k
   ·have hb:(g==k)=true:=dF.mpr h
    simp only [List.lookup,hb,au (h.trans hk)]
   ·have hb:(g==k)=false:=bD.mpr h
    simp only [List.lookup,hb,am (λe:g=f=>h (e.trans hk.symm))]
  ·rw [am hk]
   by_cases h:g=k
   ·have hb:(g==k)=true:=dF.mpr h
    simp only [List.lookup,hb,am (λe:g=f=>hk (h.symm.trans e))]
   ·have hb:(g==k)=false:=bD.mpr h
    simp only [List.lookup,hb]
    exact ih
theorem uh (f:Str)(v:V):∀fs:List (Str×V),f∈(j9 f v fs).map (·.1)∧∀g,g∈fs.map (·.1)→g∈(j9 f v fs).map (·.1)
 |[]=>⟨by simp [j9],λg h=>by simp at h⟩
 |(k,x)::r=>by
  obtain ⟨i1,i2⟩:=uh f v r
  rw [show j9 f v ((k,x)::r)=(if k=f then (k,v)::r else (k,x)::j9 f v r) from rfl]
  by_cases hk:k=f
  ·rw [au hk]
   subst hk
   exact ⟨by simp,λg h=>by simpa using h⟩
  ·rw [am hk]
   refine ⟨?_,λg h=>?_⟩
   ·rw [aK]
    exact bg _ i1
   ·rw [aK] at h ⊢
    rcases aw.mp h with e|e
    ·exact aw.mpr (.inl e)
    ·exact bg _ (i2 g e)
theorem Qz (f:Str)(v:V):∀fs:List (Str×V),(j9 f v fs).length≤fs.length+1
 |[]=>by simp [j9]
 |(k,x)::r=>by
  have ih:=Qz f v r
  rw [show j9 f v ((k,x)::r)=(if k=f then (k,v)::r else (k,x)::j9 f v r) from rfl]
  by_cases hk:k=f
  ·rw [au hk,aN,aN];lia
  ·rw [am hk,aN,aN];lia
theorem RelO.some_of {v:V}{o:Option Ag}(r:RelO (some v) o):∃u,o=some u∧RelV v u:=by
 cases o with
 |none=>exact (show False from r).elim
 |some u=>exact ⟨u,rfl,r⟩
theorem RelO.none_of {o:Option Ag}(r:RelO none o):o=none:=by
 cases o with
 |none=>rfl
 |some u=>exact (show False from r).elim
theorem qv5 {v:V}{u:Ag}(r:RelV v u):PySem.W.handedIn u=true:=by
 cases v with
 |non=>cases (show u=Value.none from r);rfl
 |bl b=>cases (show u=Value.bool b from r);rfl
 |int i=>obtain ⟨t,e⟩:=(show ∃t,u=Value.int i t from r);cases e;rfl
 |str x=>obtain ⟨t,e⟩:=(show ∃t,u=Value.str x t from r);cases e;rfl
 |byt b=>obtain ⟨t,e⟩:=(show ∃t,u=Value.bytes b t from r);cases e;rfl
 |flt b=>obtain ⟨t,e⟩:=(show ∃t,u=Value.float b t from r);cases e;rfl
 |ref a=>cases (show u=Value.ref a from r);rfl
 |ty n=>cases (show u=Value.type n from r);rfl
section
variable {P:Ac}{w:Ah}{H H':Hp}{h h':Heap}{a C dx:Aj}{fs fs':List (Str×V)}
theorem Q0 (hok:HOk P w H h)(e:H a=some (.ins C dx fs)):∃mA,ObjM h a dx C mA∧(∀f,RelO (fs.lookup f) (mA f))∧PySem.Within mA (fs.map (·.1))∧fs.length≤1000∧H dx=some (.own a):=by
 obtain ⟨d,z,ne,ob,mA,n,r,q⟩:=(show ObjOk P w H h a (.ins C dx fs) from hok a _ e)
 exact ⟨mA,⟨ob,n,ne⟩,r,q,z,d⟩
end
structure Cls (K:Aa)(C:Aj):Prop where
 pg:PySem.W.plainGet K C Str.empty=true
 hd:PySem.W.hasDictIn K C=true
 po:PySem.W.plainOver K C=true
 sa:PySem.W.findIn K (.ref C) "__setattr__" = some (some (.builtin "object.__setattr__"))
theorem Cls.get {K:Aa}{C:Aj}(c:Cls K C)(f:Str):PySem.W.plainGet K C f=true:=c.pg
def NoAttr (K:Aa)(C:Aj)(f:Str):Prop:=PySem.W.findIn K (.ref C) f=some none
theorem NoAttr.taker {K:Aa}{C:Aj}{f:Str}(n:NoAttr K C f):PySem.W.takerIn K C f=some none:=by
 unfold PySem.W.takerIn
 rw [show PySem.W.findIn K (.ref C) f=some none from n]
 rfl
structure Con (K:Aa)(C:Aj)(f:Str)(v:V)(u:Ag):Prop where
 at_:PySem.W.findIn K (.ref C) f=some (some u)
 rel:RelV v u
 get:PySem.W.specialIn K u "__get__" = some none
 cp:PySem.W.copiedNames.contains f=false
structure Meth (K:Aa)(C:Aj)(m:Str)(f:Aj):Prop where
 at_:PySem.W.findIn K (.ref C) m=some (some (.ref f))
 fn:PySem.W.isFn K (.ref f)=true
 kp:PySem.W.keepIn K (.ref f)=true
section
variable {X:Cx}{pins:List (Aj×Obj)}{σ:St}{H:Hp}{s:Ab}{a C dx:Aj}{fs:List (Str×V)}{f:Str}{v:V}{A:Ae}{E:Ag→Ab→Prop}
theorem qzy {b:Bool}{Q:Ag→Ab→Prop}(I:Inv X pins σ H s)(e:H a=some (.ins C dx fs))(c:Cls X.K C)(n:NoAttr X.K C f)(l:fs.lookup f=some v)
  (h:∀u s',Inv X pins σ H s'→RelV v u→Q u s'):wpAny (model X.prog X.w) A (getAttr (.ref a) f b) Q E s:=by
 obtain ⟨mA,O,r,_,_,_⟩:=Q0 I.hok e
 obtain ⟨u,hu,ru⟩:=RelO.some_of (v:=v) (o:=mA f) (by rw [←l];exact r f)
 exact ww4 I.kIn O (c.get f) c.hd n hu (qv5 ru) (h u _ (I.tok _) ru)
theorem Wc {m:Str}{g:Aj}{pl:Sem Bool}{Q:Ag×List Ag→Ab→Prop}(I:Inv X pins σ H s)(e:H a=some (.ins C dx fs))(c:Cls X.K C)(k:Meth X.K C m g)(l:fs.lookup m=none)
  (h:Q (.ref g,[.ref a]) s):wpAny (model X.prog X.w) A (getMethod (.ref a) m pl) Q E s:=by
 obtain ⟨mA,O,r,_,_,_⟩:=Q0 I.hok e
 have hn:mA m=none:=RelO.none_of (by rw [←l];exact r m)
 exact qj7 I.kIn O (c.get m) k.at_ k.fn hn h
theorem qzu {y:V}{u:Ag}{Q:Unit→Ab→Prop}(I:Inv X pins σ H s)(e:H a=some (.ins C dx fs))(c:Cls X.K C)(n:NoAttr X.K C f)(hl:fs.length<1000)(ry:RelV y u)
  (h:∀s',Inv X pins σ (upd H a (.ins C dx (j9 f y fs))) s'→Q () s'):wpAny (model X.prog X.w) A (setAttr (.ref a) f u) Q E s:=by
 obtain ⟨mA,O,r,wi,_,ho⟩:=Q0 I.hok e
 have hz:(fs.map (·.1)).length≤sizeLine:=by rw [ac,sizeLine_eq];lia
 refine wqh I.kIn O c.sa c.po n.taker c.hd wi hz λh' O' sb=>h _ ?_
 have hd:∃o,h'.get? dx=some o:=let ⟨o,_,_,e',_⟩:=O'.ns;⟨o,e'⟩
 refine I.write (x:=a) (e:=dx) (by rw [e];exact True.intro) (.inr ho) (λb q hb z=>(sb.2 b hb).trans z) hd ?_
 refine ⟨by rw [wb O.ne];exact ho,?_,O.ne,O'.obj,_,O'.ns,λg=>?_,λg hg=>?_⟩
 ·have:=Qz f y fs;lia
 ·show RelO ((j9 f y fs).lookup g) (if g=f then some u else mA g)
  rw [Qy]
  by_cases q:g=f
  ·rw [au q,au q];exact ry
  ·rw [am q,am q];exact r g
 ·by_cases q:g=f
  ·rw [q];exact (uh f y fs).1
  ·refine (uh f y fs).2 g (wi g λz=>hg ?_)
   show (if g=f then some u else mA g)=none
   rw [am q];exact z
theorem Inv.made (I:Inv X pins σ H s):Inv X pins σ (upd (upd H s.heap.objs.size (.own (s.heap.objs.size+1))) (s.heap.objs.size+1) (.ins C s.heap.objs.size []))
  { s with heap:=(s.heap.push PySem.W.emptyDict).push (PySem.W.instObj C s.heap.objs.size) }:=by
 have e1:(s.heap.push PySem.W.emptyDict).get? s.heap.objs.size=some PySem.W.emptyDict:=aD s.heap rfl
 have e2:((s.heap.push PySem.W.emptyDict).push (PySem.W.instObj C s.heap.objs.size)).get? (s.heap.objs.size+1)=some (PySem.W.instObj C s.heap.objs.size):=by
  have:=aD (s.heap.push PySem.W.emptyDict) (o:=PySem.W.instObj C s.heap.objs.size) rfl
  rwa [bI] at this
 have e3:(s.heap.push PySem.W.emptyDict).Ns s.heap.objs.size (λ_=>none):=⟨PySem.W.emptyDict,#[],_,e1,rfl,(λe he=>absurd he (by simp)),λ_=>rfl⟩
 have I1:=I.laid (a:=s.heap.objs.size) (o:=.own (s.heap.objs.size+1)) (h':=s.heap.push PySem.W.emptyDict) (t':=s.toks) (λb u q=>ah _ q) (al _) ⟨_,e1⟩
 refine I1.laid (a:=s.heap.objs.size+1) (o:=.ins C s.heap.objs.size []) (t':=s.toks) (λb u q=>ah _ q) (Nat.le_of_eq (bI _ _)) ?_
 have ne:s.heap.objs.size≠s.heap.objs.size+1:=aq (dv _)
 refine ⟨by rw [wb ne,qm],ba _,ne,e2,λ_=>none,(Heap.Ns1.of_empty e3).at λo q=>ah _ q,λ_=>True.intro,λy hy=>absurd rfl hy⟩
theorem wqy {prog:Ac}{w:Ah}{env:Env}{e:Expr}{f:Str}{pos:Pos}{s:Ab}{Q:Ag→Ab→Prop}(hb:attributeBase e f env (eval e env)=eval e env)
  (h:wpAny (model prog w) A (eval e env) (λo s₁=>wpAny (model prog w) A (getAttr o f true) Q E s₁) E s):wpAny (model prog w) A (eval (.Attribute e f pos) env) Q E s :=
 Attribute_any_ h (by rw [arm_eval_Attribute,hb])
end
def tFld (K:Aa)(ta:TE)(f:Str):TE:=λσ H Q=>ta σ H λx H1=>∃a C dx fs v,x=.ref a∧H1 a=some (.ins C dx fs)∧Cls K C∧NoAttr K C f∧fs.lookup f=some v∧Q v H1
def sFld (K:Aa)(ta tv:TE)(f:Str):TS:=λD σ H=>tv σ H λy H1=>ta σ H1 λx H2=>∃a C dx fs,x=.ref a∧H2 a=some (.ins C dx fs)∧Cls K C∧NoAttr K C f∧fs.length<1000 ∧
 D.nx σ (upd H2 a (.ins C dx (j9 f y fs)))
section
variable {X:Cx}{o e value:Expr}{f:Str}{pos pos' tpos:Pos}{ta tv:TE}
theorem Jj (he:PE X e ta)(hb:attributeBase e f X.env (eval e X.env)=eval e X.env):PE X (.Attribute e f pos) (tFld X.K ta f):=by
 intro pins s σ H Q I h
 refine wqy hb (thn (he pins s σ H _ I h) λu s1 ⟨x,H1,I1,rx,a,C,dx,fs,v,ex,ea,c,n,l,q⟩=>?_)
 subst ex
 obtain rfl:u=Value.ref a:=rx
 exact qzy I1 ea c n l λu' s2 I2 ru=>⟨v,H1,I2,ru,q⟩
theorem ps_fld (ha:PE X o ta)(hv:PE X value tv)(hs:swapsWith value (some (.Attribute o f pos')) pos.line X.env=pure false):PS X (.Assign [.Attribute o f pos'] value pos) (sFld X.K ta tv f):=by
 intro pins s σ H D I h
 refine plainObj_wpAny_Assign_Attribute (thn (hv pins s σ H _ I h) λu s1 ⟨y,H1,I1,ry,q⟩=>thn (ha pins s1 σ H1 _ I1 q) λov s2 ⟨x,H2,I2,rx,a,C,dx,fs,ex,ea,c,n,l,q2⟩=>?_) hs
 subst ex
 obtain rfl:ov=Value.ref a:=rx
 exact qzu I2 ea c n l ry λs3 I3=>⟨σ,_,I3,q2⟩
end
section
variable {X:Cx}{pins:List (Aj×Obj)}{σ:St}{H:Hp}{s:Ab}{A:Ae}{E:Ag→Ab→Prop}{Q:Ag→Ab→Prop}{c:Ag}{b:Bool}
inductive TyOf (K:Aa) (H:Hp):V→Ag→Prop where
 |non:TyOf K H .non (.type "NoneType")
 |bl (x:Bool):TyOf K H (.bl x) (.type "bool")
 |int (i:Int):TyOf K H (.int i) (.type "int")
 |str (x:Str):TyOf K H (.str x) (.type "str")
 |flt (x:UInt64):TyOf K H (.flt x) (.type "float")
 |lst {a:Aj} {xs:List V} (e:H a=some (.lst xs)):TyOf K H (.ref a) (.type "list")
 |frz {a:Aj} {o:Obj} {xs:List V} (e:H a=some (.frz o (.lst xs))):TyOf K H (.ref a) (.type "list")
 |tup {a:Aj} {xs:List V} (e:H a=some (.tup xs)):TyOf K H (.ref a) (.type "tuple")
 |dK {a:Aj} {kvs:List (Key×V)} (e:H a=some (.dK kvs)):TyOf K H (.ref a) (.type "dict")
 |dT {a:Aj} {kvs:List (List Key×V)} (e:H a=some (.dT kvs)):TyOf K H (.ref a) (.type "dict")
 |ins {a C dx:Aj} {fs:List (Str×V)} (e:H a=some (.ins C dx fs)) (cl:Cls K C) (ha:PySem.W.findIn K (.ref C) "__class__" = some (some (.builtin "object.__class__")))
   (hn:PySem.W.specialIn K (.builtin "object.__class__") "__get__" = some (some (.builtin "getset_descriptor.__get__"))) (htk:PySem.W.takesIn K (.builtin "object.__class__")=some true)
   (hm:PySem.W.mroIn K C (.type "object")=some true):TyOf K H (.ref a) (.ref C)
theorem qvp {x:V}{u t:Ag}(I:Inv X pins σ H s)(rx:RelV x u)(ty:TyOf X.K H x t)(e:PySem.W.kitOne X.K t c=some b)(h:∀tk,Q (.bool b) { s with toks:=tk }) :
  wpAny (model X.prog X.w) A (call (.builtin "isinstance") [u,c]) Q E s:=by
 cases ty with
 |non=>cases (show u=Value.none from rx);exact bh PySem.W.kitx_none I.kIn True.intro e (λz=>nomatch z) h
 |bl y=>cases (show u=Value.bool y from rx);exact bh PySem.W.kitx_bool I.kIn True.intro e (λz=>nomatch z) h
 |int i=>obtain ⟨t,q⟩:=(show ∃t,u=Value.int i t from rx);cases q;exact bh PySem.W.kitx_int I.kIn True.intro e (λz=>nomatch z) h
 |str y=>obtain ⟨t,q⟩:=(show ∃t,u=Value.str y t from rx);cases q;exact bh PySem.W.kitx_str I.kIn True.intro e (λz=>nomatch z) h
 |flt y=>obtain ⟨t,q⟩:=(show ∃t,u=Value.float y t from rx);cases q;exact bh PySem.W.kitx_float I.kIn True.intro e (λz=>nomatch z) h
 |@lst a xs ea =>
  cases (show u=Value.ref a from rx)
  obtain ⟨_,_,n,_,h1⟩:=(show ObjOk X.prog X.w H s.heap a (.lst xs) from I.hok a _ ea)
  exact bh PySem.W.kitx_list I.kIn ⟨_,h1,rfl⟩ e (λz=>nomatch z) h
 |@frz a ob xs ea =>
  cases (show u=Value.ref a from rx)
  obtain ⟨_,_,_,n,_,h1⟩:=(show ObjOk X.prog X.w H s.heap a (.frz ob (.lst xs)) from I.hok a _ ea)
  exact bh PySem.W.kitx_list I.kIn ⟨_,h1,rfl⟩ e (λz=>nomatch z) h
 |@tup a xs ea =>
  cases (show u=Value.ref a from rx)
  obtain ⟨_,_,_,p⟩:=(show ObjOk X.prog X.w H s.heap a (.tup xs) from I.hok a _ ea)
  obtain ⟨o,h1,h2,_⟩:=p
  exact bh PySem.W.kitx_tuple I.kIn ⟨o,h1,h2⟩ e (λz=>nomatch z) h
 |@dK a kvs ea =>
  cases (show u=Value.ref a from rx)
  obtain ⟨_,_,vs,_,p⟩:=(show ObjOk X.prog X.w H s.heap a (.dK kvs) from I.hok a _ ea)
  obtain ⟨o,es,ep,h1,h2,_⟩:=p
  exact bh PySem.W.kitx_dict I.kIn ⟨o,h1,h2.1⟩ e (λz=>nomatch z) h
 |@dT a kvs ea =>
  cases (show u=Value.ref a from rx)
  obtain ⟨_,_,xs,_,o,es,ep,h1,h2,_⟩:=(show ObjOk X.prog X.w H s.heap a (.dT kvs) from I.hok a _ ea)
  exact bh PySem.W.kitx_dict I.kIn ⟨o,h1,h2.1⟩ e (λz=>nomatch z) h
 |@ins a C dx fs ea cl ha hn htk hm =>
  cases (show u=Value.ref a from rx)
  obtain ⟨mA,O,_⟩:=Q0 I.hok ea
  obtain ⟨od,J,_⟩:=O.look
  exact bh (PySem.W.kitx_own (cl.get _) cl.hd ha hn htk hm) I.kIn J e (λz=>nomatch z) h
end
structure Room (k:Nat)(A:Ae):Prop where
 hd:A.handled=none
 dp:A.depth+3*k+5<recursionLimit
 un:A.units+16*k+200<cLine
theorem Room.mono {j k:Nat}{A:Ae}(r:Room k A)(h:j≤k):Room j A:=⟨r.hd,by have:=r.dp;lia,by have:=r.un;lia⟩
theorem Room.deeper {k:Nat}{A:Ae}(r:Room (k+1) A)(env:Env):Room k (A.deeper env) :=
 ⟨r.hd,by have:=r.dp;show A.depth+1+3*k+5<_;lia,by have:=r.un;show A.units+3+16*k+200<_;lia⟩
theorem qx8 {A:Ae}{C:Aj}{us:List Ag}{kw:List (Str×Ag)}:(A.under (.builtin "type.__call__" ⟨.ref C::us,kw⟩)).depth=A.depth+1:=by
 first | rfl | simp [Around.under,Code.weight,Code.isCreation,Code.isGuard,Code.isCaller,Code.frames,Code.isFrame,guardIds]
theorem qx3 {A:Ae}{C:Aj}{us:List Ag}{kw:List (Str×Ag)}:(A.under (.builtin "type.__call__" ⟨.ref C::us,kw⟩)).units=A.units+1:=by
 first | rfl | simp [Around.under,Code.cUnits,Code.frames,Code.isFrame]
theorem Room.make {k:Nat}{A:Ae}(r:Room (k+1) A)(C:Aj)(us:List Ag)(kw:List (Str×Ag)):Room k (A.under (.builtin "type.__call__" ⟨.ref C::us,kw⟩)) :=
 ⟨r.hd,by have:=r.dp;rw [qx8];lia,by have:=r.un;rw [qx3];lia⟩
theorem Room.depth {k:Nat}{A:Ae}(r:Room k A):A.depth<recursionLimit:=by have:=r.dp;lia
theorem Room.units {k:Nat}{A:Ae}(r:Room k A):A.units+64<cLine:=by have:=r.un;lia
def zy:TA:=λ_ H Q=>Q [] H
def xb (ta:TE)(tr:TA):TA:=λσ H Q=>ta σ H λx H1=>tr σ H1 λxs H2=>Q (x::xs) H2
section
variable {X:Cx}{e:Expr}{es:List Expr}{te:TE}{t:TA}{pos:Pos}
theorem qj:PA X [] zy:=λ_ _ _ _ H Q I h=>Calls.spliced_nil ⟨[],H,I,.nil,h⟩
theorem qw (ha:PE X e te)(hr:PA X es t)(hs:starEach (e::es) X.env=(false,eval e X.env)::starEach es X.env:=by rfl):PA X (e::es) (xb te t):=by
 intro pos pins s σ H Q I h
 rw [hs]
 show wpAny _ _ (spliced ((false,eval e X.env)::backTo pos (starEach es X.env))) _ _ s
 refine Calls.spliced_cons (thn (ha pins s σ H _ I h) λu s1 ⟨x,H1,I1,r1,q1⟩=>?_)
 exact thn (hr pos pins s1 σ H1 _ I1 q1) λus s2 ⟨xs,H2,I2,r2,q2⟩=>⟨x::xs,H2,I2,.cons r1 r2,q2⟩
def tTup (t:TA):TE:=λσ H Q=>t σ H λxs H1=>xs.length≤sizeLine∧∀p,H1 p=none→Q (.ref p) (upd H1 p (.tup xs))
def tLst (t:TA):TE:=λσ H Q=>t σ H λxs H1=>xs.length≤sizeLine∧∀p,H1 p=none→Q (.ref p) (upd H1 p (.lst xs))
theorem z7 {x1}(h:PA X es t):PE X (.Tuple es x1 pos) (tTup t):=by
 intro pins s σ H Q I hq
 refine wpAny_Tuple_spliced (thn (h pos pins s σ H _ I hq) λus s1 ⟨xs,H1,I1,r,z,q⟩=>⟨by rw [←r.length];exact z,?_⟩)
 have hf:H1 s1.heap.objs.size=none:=I1.hok.fresh (al _)
 refine ⟨.ref s1.heap.objs.size,upd H1 s1.heap.objs.size (.tup xs),I1.laid (t':=s1.toks) (λb u e=>ah _ e) (al _) ?_,rfl,q _ hf⟩
 exact ⟨z,us,r,⟨_,aD _ rfl,rfl,_,rfl⟩⟩
theorem jg (h:PA X es t):PE X (.List es pos) (tLst t):=by
 intro pins s σ H Q I hq
 refine wpAny_List_spliced (thn (h pos pins s σ H _ I hq) λus s1 ⟨xs,H1,I1,r,z,q⟩=>⟨by rw [←r.length];exact z,?_⟩)
 have hf:H1 s1.heap.objs.size=none:=I1.hok.fresh (al _)
 refine ⟨.ref s1.heap.objs.size,upd H1 s1.heap.objs.size (.lst xs),I1.laid (t':=s1.toks) (λb u e=>ah _ e) (al _) ?_,rfl,q _ hf⟩
 exact ⟨z,us,0,r,aD _ rfl⟩
end
abbrev Sp:=List V→Hp→VK→XK→Prop
abbrev CXT:=List Env→Hp→Ab→XK→Ag→Ab→Prop
structure Env0 (P:Ac)(w:Ah)(K:Aa)(mg:Str→Option Ag)(base:Heap)(A:Ae)(outer:List Env)(s:Ab)(H:Hp):Prop where
 frames:A.frames=some outer
 mod:Mod K mg base
 bs:∀b o,base.get? b=some o→s.heap.get? b=some o∧H b=none
 bsz:base.objs.size≤s.heap.objs.size
 funs:s.heap.FunFrames base outer
 frf:∀b∈frs outer,H b=none
 hok:HOk P w H s.heap
 bare:AllBare s.gens
def CE (outer:List Env)(P:Ac)(w:Ah)(H:Hp)(s:Ab)(Q:VK)(u:Ag)(s':Ab):Prop :=
 ∃v H',s'.os=s.os∧AllBare s'.gens∧Un (frs outer) [] H H' s.heap s'.heap∧HOk P w H' s'.heap∧RelV v u∧Q v H'
def CR (CX:CXT)(outer:List Env)(P:Ac)(w:Ah)(H:Hp)(s:Ab)(Q:VK)(E:XK)(r:Result)(s':Ab):Prop :=
 match r with
 |.ok (.ret u)=>CE outer P w H s Q u s'
 |.ok _=>False
 |.error e=>CX outer H s E e s'
structure FnOk (P:Ac)(w:Ah)(K:Aa)(mg:Str→Option Ag)(base:Heap)(CX:CXT)(k:Nat)(f:Aj)(fd:Ad)(ps:List Str)(sp:Sp):Prop where
 len:∀vs H Q E,sp vs H Q E→vs.length=ps.length
 run:∀(A:Ae) (outer:List Env) (s:Ab) (H:Hp) (args:Args) (us:List Ag) (vs:List V) (Q:VK) (E:XK),Room k A→Env0 P w K mg base A outer s H→BindsTo s fd args (ps.zip us)→Vals vs us→sp vs H Q E →
  codeAny (model P w) A (.call (.ref f) args) (CR CX outer P w H s Q E) s
theorem Env0.make {P:Ac}{w:Ah}{K:Aa}{mg:Str→Option Ag}{base:Heap}{A:Ae}{outer:List Env}{s:Ab}{H:Hp}(e:Env0 P w K mg base A outer s H)(C:Aj)(us:List Ag)(kw:List (Str×Ag)) :
  Env0 P w K mg base (A.under (.builtin "type.__call__" ⟨.ref C::us,kw⟩)) outer s H:=⟨by first | exact e.frames | (simpa [Around.under,Code.envs,Code.isFrame,pushEnvs] using e.frames),e.mod,e.bs,e.bsz,e.funs,e.frf,e.hok,e.bare⟩
section
variable {X:Cx}{pins:List (Aj×Obj)}{σ:St}{H:Hp}{s s':Ab}
theorem Inv.env0 (I:Inv X pins σ H s):Env0 X.prog X.w X.K X.mg X.base X.A X.stack s H :=
 ⟨I.ok.frames,I.ok.mod,I.bs,bp I.ok.bsz I.sz,I.stack,I.stkFree,I.hok,I.bare⟩
theorem Inv.after {Q:VK}{u:Ag}(I:Inv X pins σ H s)(h:CE X.stack X.prog X.w H s Q u s'):EP X pins σ Q u s':=by
 obtain ⟨v,H',os,bare,un,hok,r,q⟩:=h
 obtain ⟨hh,g,d,t,os'⟩:=s'
 obtain rfl:os'=s.os:=os
 exact ⟨v,H',I.call (h':=hh) (g':=g) (d':=d) (t':=t) (ch:=[]) un hok bare (λb z=>absurd z (by simp)),r,q⟩
end
def Binds (K:Aa)(fd:Ad)(ps:List Str)(ds:List Ag):Prop :=
 ∀(s:Ab) (us:List Ag),K.In s.heap→(us++ds).length=ps.length→BindsTo s fd ⟨us,[]⟩ (ps.zip (us++ds))
theorem Binds.all {K:Aa}{fd:Ad}{ps:List Str}(h:∀us:List Ag,us.length=ps.length→bindArgs fd ⟨us,[]⟩=pure (ps.zip us)):Binds K fd ps []:=λs us _ hl=>by
 rw [bc] at hl ⊢
 exact .of_eq (h us hl)
section
variable {X:Cx}{CX:CXT}{k:Nat}{f C:Aj}{fd:Ad}{ps:List Str}{sp:Sp}{dvs:List V}{ds:List Ag}{E:XK}{x m:Str}{p pos apos:Pos}{e o:Expr}{es:List Expr}{ta:TE}{t:TA}
structure Mk (K:Aa)(C f:Aj):Prop where
 makes:PySem.W.makesIn K C=true
 init:PySem.W.findIn K (.ref C) "__init__" = some (some (.ref f))
 fn:PySem.W.isFn K (.ref f)=true
 kp:PySem.W.keepIn K (.ref C)=true
end
section
variable {X:Cx}{CX:CXT}{k:Nat}{f C:Aj}{fd:Ad}{ps ks:List Str}{sp:Sp}{E:XK}{x m:Str}{p pos apos kpos:Pos}{e o:Expr}{es:List Expr}{kws:List Keyword}{te ta:TE}{t tk:TA}{nm:Option Str}
structure KBinds (K:Aa)(fd:Ad)(ps ks:List Str)(g:List Ag→List Ag→List Ag)(gV:List V→List V→List V):Prop where
 to:∀(s:Ab) (us ws:List Ag),K.In s.heap→(g us ws).length=ps.length→BindsTo s fd ⟨us,ks.zip ws⟩ (ps.zip (g us ws))
 rel:∀ {vs:List V} {us:List Ag} {zs:List V} {ws:List Ag},Vals vs us→Vals zs ws→Vals (gV vs zs) (g us ws)
variable {g:List Ag→List Ag→List Ag}{gV:List V→List V→List V}
end
structure FnScope (N P:List Str)(sc:Scope):Prop where
 kind:sc.kind=.function
 co:sc.isCoroutine=false
 gen:sc.isGenerator=false
 nd:N.Nodup
 pre:N.take P.length=P
 par:∀x∈P,sc.names.lookup x=some .local∨sc.names.lookup x=some .cell
 nofree:∀y∈sc.names,y.2≠.free
theorem Z9 {kindOf:Str→Option NameKind}{x:Str}:∀ {binds:List (Str×Ag)} {m:Str→Option Ag},(∀v,(x,v)∉binds)→bindL kindOf binds m x=m x
 |[],_,_=>rfl
 |(n,v)::r,m,h=>by
  unfold bindL
  rw [Z9 λw hw=>h w (bg _ hw)]
  split
  ·have:x≠n:=by rintro rfl;exact h v ck
   simp [this]
  ·rfl
theorem Yz {kindOf:Str→Option NameKind}{x:Str}:∀ {binds:List (Str×Ag)} {m:Str→Option Ag},(∀v,(x,v)∉binds)→bindC kindOf binds m x=m x
 |[],_,_=>rfl
 |(n,v)::r,m,h=>by
  unfold bindC
  rw [Yz λw hw=>h w (bg _ hw)]
  split
  ·rfl
  ·have:x≠n:=by rintro rfl;exact h v ck
   simp [this]
theorem Z0 {kindOf:Str→Option NameKind}{x:Str}{v:Ag}:∀ {P:List Str} {vs:List Ag} {i:Nat} {m:Str→Option Ag},P.Nodup→P[i]?=some x→vs[i]?=some v→kindOf x=some .local →
  bindL kindOf (P.zip vs) m x=some v
 |[],_,_,_,_,h,_,_=>by simp at h
 |_::_,[],_,_,_,_,h,_=>by simp at h
 |p::P,w::vs,0,m,nd,h1,h2,hk=>by
  simp at h1 h2;subst h1;subst h2
  show bindL kindOf ((p,w)::P.zip vs) m p=_
  unfold bindL
  rw [Z9 λv hv=>(cP.mp nd).1 (dL hv).1,au hk]
  simp
 |p::P,w::vs,i+1,m,nd,h1,h2,hk=>by
  show bindL kindOf ((p,w)::P.zip vs) m x=_
  unfold bindL
  exact Z0 (i:=i) (cP.mp nd).2 (by simpa using h1) (by simpa using h2) hk
theorem Z4 {kindOf:Str→Option NameKind}{x:Str}{v:Ag}:∀ {P:List Str} {vs:List Ag} {i:Nat} {m:Str→Option Ag},P.Nodup→P[i]?=some x→vs[i]?=some v→kindOf x≠some .local →
  bindC kindOf (P.zip vs) m x=some v
 |[],_,_,_,_,h,_,_=>by simp at h
 |_::_,[],_,_,_,_,h,_=>by simp at h
 |p::P,w::vs,0,m,nd,h1,h2,hk=>by
  simp at h1 h2;subst h1;subst h2
  show bindC kindOf ((p,w)::P.zip vs) m p=_
  unfold bindC
  rw [Yz λv hv=>(cP.mp nd).1 (dL hv).1,am hk]
  simp
 |p::P,w::vs,i+1,m,nd,h1,h2,hk=>by
  show bindC kindOf ((p,w)::P.zip vs) m x=_
  unfold bindC
  exact Z4 (i:=i) (cP.mp nd).2 (by simpa using h1) (by simpa using h2) hk
def ux (N:List Str)(vs:List V):St:=vs.map some++List.replicate (N.length-vs.length) none
def Y6 (CX:CXT)(P:Ac)(w:Ah)(K:Aa)(mg:Str→Option Ag)(base:Heap)(N:List Str)(qual:Str)(scope:Scope)(f:Aj)(cd:Ag)(A:Ae)(outer:List Env)(s:Ab)(H:Hp)(E:XK):Cx where
 prog:=P
 w:=w
 K:=K
 mg:=mg
 base:=base
 A:=A.deeper (envOfC qual scope s.heap.objs.size f cd)
 N:=N
 s₀:=s
 H₀:=H
 env:=envOfC qual scope s.heap.objs.size f cd
 outer:=outer
 stack:=envOfC qual scope s.heap.objs.size f cd::outer
 ex:=[]
 calm:=true
 fn:=λ_=>true
 pn:=[]
 xe:=λe s'=>wpAny (model P w) (A.deeper (envOfC qual scope s.heap.objs.size f cd)) (leaving (envOfC qual scope s.heap.objs.size f cd) e) (λ_ s''=>CX outer H s E e s'') (λe' s''=>CX outer H s E e' s'') s'
theorem qq0 {sc:Scope}{n:Nat}{x:Str}(h:sc.names.lookup x=some .cell):∃c,(cellsFrom n sc.names []).lookup x=some c:=by
 have q:=PySem.W.cellsFrom_some sc.names n [] (.inl h)
 exact Option.isSome_iff_exists.mp q
theorem qkb {CX:CXT}{P:Ac}{w:Ah}{K:Aa}{mg:Str→Option Ag}{base:Heap}{N ps:List Str}{qual:Str}{scope:Scope}{f:Aj}{cd:Ag}{A:Ae}{outer:List Env}{s s1:Ab}{H:Hp}{E:XK}{us:List Ag}{vs:List V}
  (S:FnScope N ps scope) (hd:A.handled=none) (e0:Env0 P w K mg base A outer s H) (hl:vs.length=ps.length) (r:Vals vs us)
  (x:InCallC s s.heap.objs.size (bindL (envOfC qual scope s.heap.objs.size f cd).kindOf (ps.zip us) λ_=>none) (cellsFrom (s.heap.objs.size+1) scope.names []) (bindC (envOfC qual scope s.heap.objs.size f cd).kindOf (ps.zip us) λ_=>none) s1) :
  Inv (Y6 CX P w K mg base N qual scope f cd A outer s H E) [] (ux N vs) H s1:=by
 have hpl:ps.length≤N.length:=by have:=bQ List.length S.pre;rw [dw] at this;lia
 obtain ⟨h1,tk,rfl,hk⟩:=x.done
 have noA:∀b:Aj,b∉(Y6 CX P w K mg base N qual scope f cd A outer s H E).ex:=λb z=>absurd (show b∈([]:List Aj) from z) (by simp)
 refine ⟨⟨e0.mod,S.kind,rfl,rfl,al _,λy z c h1 h2=>?_,λy hy=>?_,λy c _ h=>?_,λ_=>hd,Around.frames_deeper e0.frames,.inr ⟨rfl,rfl⟩,λb z=>absurd z (noA b),e0.bs,e0.bsz,λb _ _=>noA b,λb z=>absurd z (noA b),e0.funs,e0.frf⟩,
  rfl,e0.bare,Un.kept hk,⟨_,x.toInCall.ns,λi y v h1 h2 h3=>?_⟩,λy c h=>⟨_,x.cell y c h⟩,e0.hok.fresh (al _),λy c h=>?_,λp hp=>absurd (show p∈([]:List (Aj×Obj)) from hp) (by simp),e0.hok.kept hk,?_⟩
 ·exact name_of_addr x.apart (bT h1) (bT h2)
 ·have hy:scope.names.lookup y=some .cell∨scope.names.lookup y=some .free:=hy
  rcases hy with hy|hy
  ·exact qq0 hy
  ·exact absurd rfl (S.nofree _ (bT hy))
 ·exact bq (x.above y c (bT h))
 ·have hi:i<vs.length:=by
   unfold ux at h2
   by_cases hi:i<vs.length
   ·exact hi
   ·rw [aH (by simpa using hi)] at h2
    rw [List.getElem?_replicate] at h2
    split at h2 <;> cases h2
  have ha:vs[i]?=some v:=by
   unfold ux at h2
   rw [aM (by simpa using hi),aB] at h2
   cases e:vs[i]? with
   |none=>rw [e] at h2;cases h2
   |some a=>rw [e] at h2;cases h2;rfl
  obtain ⟨u,hu,rv⟩:=r.get ha
  have hp:ps[i]?=some y:=by
   rw [←S.pre,List.getElem?_take_of_lt (by lia)];exact h1
  have ndP:ps.Nodup:=by rw [←S.pre];exact S.nd.sublist (List.take_sublist _ _)
  refine ⟨u,rv,?_⟩
  rcases S.par y (bu hp) with k|k
  ·exact .inl ⟨k,Z0 ndP hp hu k⟩
  ·obtain ⟨c,e⟩:=qq0 (n:=s.heap.objs.size+1) k
   refine .inr ⟨.inl k,c,e,?_⟩
   have q:=x.cell y c e
   rw [Z4 ndP hp hu (by show scope.names.lookup y≠_;rw [k];decide)] at q
   exact q
 ·exact e0.hok.fresh (bq (x.above y c (bT h)))
 ·unfold ux
  show _=N.length
  rw [ar,ac,List.length_replicate]
  lia
theorem fn_of {CX:CXT}{P:Ac}{w:Ah}{K:Aa}{mg:Str→Option Ag}{base:Heap}{k:Nat}{f:Aj}{name qual:Str}{params:Arguments}{body:List Stmt}{scope:Scope}{dV kV doc pm cdv ct oc:Ag}{an od:Option Aj}
  {osl:Array (Option Ag)} {N ps:List Str} {sp:Sp} (lk:K.lookup f=some ⟨oc,od,.func (PySem.W.fnOf name qual params body scope dV kV doc pm an cdv ct),osl⟩) (hcd:PySem.W.codeIn K cdv qual=true) (S:FnScope N ps scope)
  (len:∀vs H Q E,sp vs H Q E→vs.length=ps.length)
  (hbody:∀(A:Ae) (outer:List Env) (s:Ab) (H:Hp) (vs:List V) (Q:VK) (E:XK),Room k (A.deeper (envOfC qual scope s.heap.objs.size f cdv))→sp vs H Q E →
   ∃t,PSs (Y6 CX P w K mg base N qual scope f cdv A outer s H E) body t∧t { nx:=λ_ H'=>Q .non H',rt:=Q } (ux N vs) H) :
  FnOk P w K mg base CX (k+1) f (PySem.W.fnOf name qual params body scope dV kV doc pm an cdv ct) ps sp:=by
 refine ⟨len,λA outer s H args us vs Q E hr e0 hb r hsp=>?_⟩
 have hl:=len _ _ _ _ hsp
 have KX:K.In s.heap:=e0.mod.kin.keeps λb o e=>(e0.bs b o e).1
 have lim:s.heap.NoLimit:=e0.mod.nolimit.keeps λb o e=>(e0.bs b o e).1
 have hkind:∀y∈ps.zip us,scope.names.lookup y.1=some .local∨(scope.names.lookup y.1=some .cell∧((cellsFrom (s.heap.objs.size+1) scope.names []).lookup y.1).isSome=true):=λ⟨n,v⟩ hy=>by
  rcases S.par n (dL hy).1 with q|q
  ·exact .inl q
  ·exact .inr ⟨q,PySem.W.cellsFrom_some _ _ _ (.inl q)⟩
 refine codeAny_call_function hr.depth (KX _ _ lk) rfl S.co S.gen rfl (PySem.W.codeRec_of KX hcd) (hb _ _ _ _ ?_)
 refine wpAny_newFunctionEnv_cells S.kind hkind λenv he s1 x=>?_
 subst he
 refine ⟨lim.keeps x.toInCall.keep,codeAny_func ?_⟩
 obtain ⟨t,ht,hq⟩:=hbody A outer s H vs Q E (hr.deeper _) hsp
 have I:Inv (Y6 CX P w K mg base N qual scope f cdv A outer s H E) [] (ux N vs) H s1:=qkb S hr.hd e0 hl r x
 refine ax (ht [] s1 (ux N vs) H _ I hq) (λfl s' hs=>?_) λe s' hs=>hs
 have fin:∀ {σ':St} {H':Hp} {v:V} {u:Ag},Inv (Y6 CX P w K mg base N qual scope f cdv A outer s H E) [] σ' H' s'→RelV v u→Q v H'→CE outer P w H s Q u s' :=
  λ{σ' H' v u} J rv q=>⟨v,H',J.os,J.bare,J.base,J.hok,rv,q⟩
 cases fl with
 |ret u =>
  obtain ⟨v,σ',H',J,rv,q⟩:=hs
  exact fin J rv q
 |next =>
  obtain ⟨σ',H',J,q⟩:=hs
  exact fin (v:=V.non) (u:=Value.none) J rfl q
 |brk =>
  obtain ⟨_,_,_,q⟩:=hs
  exact False.elim q
 |cont =>
  obtain ⟨_,_,_,q⟩:=hs
  exact False.elim q
section
variable {X:Cx}{x:Str}{p pos:Pos}{e:Expr}{es:List Expr}{t:TA}{id T:String}{r:List V→Hp→VK→Prop}
def tCB (r:List V→Hp→VK→Prop)(t:TA):TE:=λσ H Q=>t σ H λvs H1=>r vs H1 Q
theorem w6 (hc:vm X (.builtin id) r)(hg:Gl X x)(hm:X.mg x=none)(hv:bootBuiltins x=some (.builtin id))(ha:PA X (e::es) t)(hn:x ≠ "__name__" := by decide)(hdb:(x==("__debug__" : Str))=false:=by decide)
  (he:starEach (e::es) X.env=(false,eval e X.env)::starEach es X.env:=by rfl) (hpl:(backTo pos (starEach es X.env)).any (·.1)=false:=by rfl):PE X (.Call (.Name x p) (e::es) [] pos) (tCB r t):=by
 intro pins s σ H Q I h
 refine bJ (kh I hg hm hv ?_ hn hdb)
 exact PyProof.Rows.callWith_builtin1 (thn (ha pos pins s σ H _ I h) λus s1 ⟨vs,H1,I1,r1,q1⟩=>hc pins s1 σ H1 vs us Q I1 r1 q1) he hpl
theorem kj (hc:vm X (.type T) r)(hg:Gl X x)(hm:X.mg x=none)(hv:bootBuiltins x=some (.type T))(ha:PA X (e::es) t)(hn:x ≠ "__name__" := by decide)(hdb:(x==("__debug__" : Str))=false:=by decide)
  (he:starEach (e::es) X.env=(false,eval e X.env)::starEach es X.env:=by rfl) (hpl:(backTo pos (starEach es X.env)).any (·.1)=false:=by rfl):PE X (.Call (.Name x p) (e::es) [] pos) (tCB r t):=by
 intro pins s σ H Q I h
 refine bJ (kh I hg hm hv ?_ hn hdb)
 exact aW (thn (ha pos pins s σ H _ I h) λus s1 ⟨vs,H1,I1,r1,q1⟩=>hc pins s1 σ H1 vs us Q I1 r1 q1) he hpl
end
end L2
namespace HT
open PySem PyProof.Rows
section
open PySem.SeqAt
open PySem.AutoSeq1 (wpAny_loadPart')
open PySem.MeetsSeq PySem.MeetsSeq2 PySem.MeetsSeq3
end
section
variable {prog:Ac}{w:Ah}{A:Ae}{E:Ag→Ab→Prop}{s:Ab}
def sIx (n d:Nat):Option Int→Nat
 |none=>d
 |some v=>if v<0 then (v+(n:Int)).toNat else min v.toNat n
end
end HT
namespace L2
open PySem PySem.Spec PyProof.Rows
abbrev TO:=St→Hp→(Option Int→Hp→Prop)→Prop
def PO (X:Cx)(e:Option Expr)(t:TO):Prop :=
 ∀(pins:List (Aj×Obj)) (s:Ab) (σ:St) (H:Hp) (Q:Option Int→Hp→Prop),Inv X pins σ H s→t σ H Q →
  wpAny (model X.prog X.w) X.A (evalPart e X.env) (λu s'=>∃o H',Inv X pins σ H' s'∧IsPart u o∧Q o H') X.xe s
def wwc:TO:=λ_ H Q=>Q none H
def tPart (t:TE):TO:=λσ H Q=>t σ H λx H1=>∃i,x=.int i∧Q (some i) H1
theorem qzw {ns:List Int}:∀ {us:List Ag},Vals (ns.map V.int) us→IntsAre us ns:=by
 induction ns with
 |nil=>intro us r;rw [cT] at r;cases r;exact .nil
 |cons n ns ih =>
  intro us r
  rw [aK] at r
  cases r with
  |cons r1 r2 =>
   obtain ⟨t,e⟩:=r1
   subst e
   exact .cons n t (ih r2)
section
variable {X:Cx}{e:Expr}{te:TE}{lo hi:Option Expr}{tl th:TO}{pos p2:Pos}
theorem qqj:PO X none wwc:=by
 intro pins s σ H Q I h
 rw [evalPart_none]
 exact ai ⟨none,H,I,.none,h⟩
theorem Y9 (h:PE X e te):PO X (some e) (tPart te):=by
 intro pins s σ H Q I hw
 rw [evalPart_some]
 refine thn (h pins s σ H _ I hw) λu s1 ⟨x,H1,I1,r1,q1⟩=>?_
 obtain ⟨i,rfl,q⟩:=q1
 obtain ⟨t,rfl⟩:=r1
 exact ⟨some i,H1,I1,.int i t,q⟩
def SlR (X:Cx)(r:V→Option Int→Option Int→Hp→VK→Prop):Prop :=
 ∀(pins:List (Aj×Obj)) (s:Ab) (σ:St) (H:Hp) (x:V) (v vl vu:Ag) (lo hi:Option Int) (sl:Aj) (Q:VK),Inv X pins σ H s→RelV x v→s.heap.IsSliceOf sl vl vu .none→IsPart vl lo→IsPart vu hi→r x lo hi H Q →
  ∃T id,typeLookup (.type T) "__getitem__" = pure (some (.builtin id))∧s.TypeIs v T∧wpAny (model X.prog X.w) X.A (getItem v (.ref sl)) (EP X pins σ Q) X.xe s
def tSl (r:V→Option Int→Option Int→Hp→VK→Prop)(te:TE)(tl th:TO):TE:=λσ H Q=>te σ H λx H1=>tl σ H1 λl H2=>th σ H2 λu H3=>r x l u H3 Q
theorem W5 {r:V→Option Int→Option Int→Hp→VK→Prop}(hr:SlR X r)(he:PE X e te)(hl:PO X lo tl)(hu:PO X hi th):PE X (.Subscript e (.Slice lo hi none p2) pos) (tSl r te tl th):=by
 intro pins s σ H Q I h
 refine Subscript_ (thn (he pins s σ H _ I h) λv s1 ⟨x,H1,I1,r1,q1⟩=>?_)
 refine wpAny_Slice (thn (hl pins s1 σ H1 _ I1 q1) λvl s2 ⟨l,H2,I2,pl,q2⟩=>thn (hu pins s2 σ H2 _ I2 q2) λvu s3 ⟨u,H3,I3,pu,q3⟩=>?_)
 rw [evalPart_none]
 refine ai ?_
 have I4:Inv X pins σ H3 { s3 with heap:=s3.heap.push { cls:=.type "slice",data:=.fields #[vl,vu,.none] } }:=I3.kept (t':=s3.toks) λb ob q=>ah _ q
 obtain ⟨T,id,hT,ht,hg⟩:=hr pins { s3 with heap:=s3.heap.push { cls:=.type "slice",data:=.fields #[vl,vu,.none] } } σ H3 x v vl vu l u s3.heap.objs.size Q I4 r1 (Heap.IsSliceOf.new ..) pl pu q3
 show wpAny (model X.prog X.w) X.A (subscriptTail e (.Slice lo hi none p2) v (.ref s3.heap.objs.size)) (EP X pins σ Q) X.xe { s3 with heap:=s3.heap.push { cls:=.type "slice",data:=.fields #[vl,vu,.none] } }
 exact tail_any (ops:=[.ref s3.heap.objs.size,v]) ht hT hg (by with_unfolding_all rfl)
def cutV (xs:List V)(lo hi:Option Int):List V:=(xs.drop (HT.sIx xs.length 0 lo)).take (HT.sIx xs.length xs.length hi-HT.sIx xs.length 0 lo)
theorem qq9 (xs:List V)(lo hi:Option Int):(cutV xs lo hi).length≤xs.length:=by
 unfold cutV
 rw [dw,bF]
 lia
end
def ixN (n:Nat)(i:Int):Option Nat:=if 0≤i then (if i<n then some i.toNat else none) else if -(n:Int)≤i then some (i+n).toNat else none
def atI {α:Type}(xs:List α)(i:Int):Option α:=(ixN xs.length i).bind λj=>xs[j]?
theorem ww2 {n:Nat}{i:Int}{j:Nat}(h:ixN n i=some j):seqIndex? i n=some j∧j<n∧-(n:Int)≤i∧i<n:=by
 unfold ixN at h
 by_cases h0:0≤i
 ·rw [au h0] at h
  by_cases h1:i<n
  ·rw [au h1] at h
   have e:i.toNat=j:=aj h
   exact ⟨by rw [seqIndex_of h0 h1,e],by lia,by lia,h1⟩
  ·rw [am h1] at h;cases h
 ·rw [am h0] at h
  by_cases h1:-(n:Int)≤i
  ·rw [au h1] at h
   have e:(i+n).toNat=j:=aj h
   exact ⟨by rw [seqIndex_neg (by lia) h1,e],by lia,h1,by lia⟩
  ·rw [am h1] at h;cases h
theorem qvq {α:Type}{xs:List α}{i:Int}{v:α}(h:atI xs i=some v):∃j,seqIndex? i xs.length=some j∧xs[j]?=some v∧j<xs.length∧-(xs.length:Int)≤i∧i<xs.length:=by
 unfold atI at h
 cases e:ixN xs.length i with
 |none=>rw [e] at h;cases h
 |some j =>
  rw [e] at h
  obtain ⟨h1,h2,h3,h4⟩:=ww2 e
  exact ⟨j,h1,h,h2,h3,h4⟩
theorem J1 {α:Type}{xs:List α}{j:Nat}{v:α}(h:xs[j]?=some v):atI xs (j:Int)=some v:=by
 have hj:j<xs.length:=(aL.mp h).1
 have e:ixN xs.length (j:Int)=some j:=by
  unfold ixN
  rw [au (by lia),au (by lia)];simp
 unfold atI;rw [e];exact h
theorem Wn {α:Type}(xs:List α)(v:α):atI (xs++[v]) (-1)=some v:=by
 have hl:(xs++[v]).length=xs.length+1:=by simp
 have e:ixN (xs++[v]).length (-1)=some xs.length:=by
  unfold ixN
  rw [hl,am (by decide),au (by lia)]
  congr 1
  lia
 unfold atI
 rw [e]
 show (xs++[v])[xs.length]?=some v
 simp
def wwj (b:Expr):Prop:=∀o i,subscripted b false o i=operate [o,i] (getItem o i)
def IxR (X:Cx)(r:R2):Prop :=
 ∀(value slice:Expr) (pins:List (Aj×Obj)) (s:Ab) (σ:St) (H:Hp) (x y:V) (v u:Ag) (Q:VK),Inv X pins σ H s→RelV x v→RelV y u→r x y H Q →
  subscripted slice false v u=operate [v,u] (getItem v u)→wpAny (model X.prog X.w) X.A (subscriptTail value slice v u) (EP X pins σ Q) X.xe s
def MtR (X:Cx)(id:String)(r:V→List V→Hp→VK→Prop):Prop :=
 ∀(pins:List (Aj×Obj)) (s:Ab) (σ:St) (H:Hp) (x:V) (xs:List V) (v:Ag) (us:List Ag) (Q:VK),Inv X pins σ H s→RelV x v→Vals xs us→r x xs H Q →
  wpAny (model X.prog X.w) X.A (call (.builtin id) (v::us)) (EP X pins σ Q) X.xe s
section
variable {X:Cx}{a b:Expr}{ta tb:TE}{pos:Pos}
theorem wc {r:R2}(hr:IxR X r)(ha:PE X a ta)(hb:PE X b tb)(hs:wwj b):PE X (.Subscript a b pos) (tOp r ta tb):=by
 intro pins s σ H Q I h
 exact Subscript_ (binT ha hb I h λv u s2 x y H2 I2 rx ry q=>hr a b pins s2 σ H2 x y v u Q I2 rx ry q (hs _ _))
def rIxL (K:Aa):R2:=λx y H Q=>∃p xs i v,x=.ref p∧y=.int i∧SqL K H p xs∧atI xs i=some v∧Q v H
def rIxT (K:Aa):R2:=λx y H Q=>∃p xs i v,x=.ref p∧y=.int i∧SqT K H p xs∧atI xs i=some v∧Q v H
theorem wx:IxR X (rIxL X.K):=by
 intro value slice pins s σ H x y v u Q I rx ry h hs
 obtain ⟨p,xs,i,z,rfl,rfl,hq,he,q⟩:=h
 cases rx
 obtain ⟨t,rfl⟩:=ry
 obtain ⟨its,r,pl,hz⟩:=I.list hq
 obtain ⟨j,h1,h2,h3,h4,h5⟩:=qvq he
 obtain ⟨w,ew,rw'⟩:=r.get h2
 have hl:=r.length
 have hn:=Jr
 have fin:EP X pins σ Q w s:=⟨z,H,I,rw',q⟩
 by_cases h0:0≤i
 ·have hj:i.toNat=j:=by
   rw [seqIndex_of h0 h5] at h1
   exact aj h1
  exact item_listR pl.isList h0 (by lia) (by rw [hj];simpa using ew) fin hs
 ·have hj:(i+(its.toArray.size:Int)).toNat=j:=by
   rw [seqIndex_neg (by lia) h4] at h1
   rw [aC,←hl]
   exact aj h1
  exact subscriptTail_builtinR (x:=w) pl.isList.typeIs slot_list_getitem.lookup
   (wpAny_getItem_list_neg (Q:=λr s'=>r=w∧EP X pins σ Q r s') pl.isList (by lia) (by rw [aC] <;> lia) (by lia) (by rw [hj];simpa using ew) ⟨rfl,fin⟩) hs
theorem zx:IxR X (rIxT X.K):=by
 intro value slice pins s σ H x y v u Q I rx ry h hs
 obtain ⟨p,xs,i,z,rfl,rfl,hq,he,q⟩:=h
 cases rx
 obtain ⟨t,rfl⟩:=ry
 obtain ⟨its,r,pl,hz⟩:=I.tuple hq
 obtain ⟨j,h1,h2,h3,h4,h5⟩:=qvq he
 obtain ⟨w,ew,rw'⟩:=r.get h2
 have hl:=r.length
 have hn:=Jr
 have fin:EP X pins σ Q w s:=⟨z,H,I,rw',q⟩
 exact subscriptTail_builtinR (x:=w) pl.typeIs slot_tuple_getitem.lookup
  (getItem_tuple (j:=j) (Q:=λr s'=>r=w∧EP X pins σ Q r s') pl (by lia) (by lia) (by rw [aC,←hl];exact h1) (by simpa using ew) ⟨rfl,fin⟩) hs
theorem Yr (lo hi:Option Int)(n:Nat):(sliceBounds lo hi none n).1=((HT.sIx n 0 lo:Nat):Int)∧(sliceBounds lo hi none n).2.1=((HT.sIx n n hi:Nat):Int)∧(sliceBounds lo hi none n).2.2=1:=by
 refine ⟨?_,?_,rfl⟩
 ·cases lo with
  |none=>simp [sliceBounds,HT.sIx]
  |some i =>
   simp only [sliceBounds,HT.sIx,Option.getD_none,show (1:Int)>0 by decide,if_true]
   by_cases h:i<0
   ·simp only [h,if_true] <;> lia
   ·simp only [h,dy] <;> lia
 ·cases hi with
  |none=>simp [sliceBounds,HT.sIx]
  |some i =>
   simp only [sliceBounds,HT.sIx,Option.getD_none,show (1:Int)>0 by decide,if_true]
   by_cases h:i<0
   ·simp only [h,if_true] <;> lia
   ·simp only [h,dy] <;> lia
theorem Zg (its:List Ag)(lo hi:Option Int):slicePick its.toArray lo hi none=((its.drop (HT.sIx its.length 0 lo)).take (HT.sIx its.length its.length hi-HT.sIx its.length 0 lo)).toArray:=by
 obtain ⟨h1,h2,h3⟩:=Yr lo hi its.toArray.size
 unfold slicePick
 rw [h1,h2,h3]
 simp only [sliceRange_one,pick_run,aC] <;> rfl
def rSlL (K:Aa):V→Option Int→Option Int→Hp→VK→Prop:=λx lo hi H Q=>∃a xs,x=.ref a∧SqL K H a xs∧∀p,H p=none→Q (.ref p) (upd H p (.lst (cutV xs lo hi)))
theorem Jw:SlR X (rSlL X.K):=by
 intro pins s σ H x v vl vu lo hi sl Q I rx hs pl pu h
 obtain ⟨a,xs,rfl,hx,q⟩:=h
 cases rx
 obtain ⟨its,r,ht,hz⟩:=I.list hx
 have hlen:=r.length
 refine ⟨"list",_,slot_list_getitem.lookup,ht.isList.typeIs,?_⟩
 refine wpAny_getItem_list_slice ht.isList hs pl pu .none (by simp) ?_ (by rw [aC] <;> lia)
 rw [Zg,←hlen]
 refine ⟨.ref s.heap.objs.size,_,I.laid (t':=s.toks) (o:=.lst (cutV xs lo hi)) (λb ob q=>ah _ q) (al _) ?_,rfl,q _ (I.hok.fresh (al _))⟩
 exact ⟨bp (qq9 xs lo hi) hz,_,0,(r.drop (HT.sIx xs.length 0 lo)).take (HT.sIx xs.length xs.length hi-HT.sIx xs.length 0 lo),aD _ rfl⟩
theorem xx:vm X (.builtin "len") (λxs H Q=>∃p ys,xs=[.ref p]∧(SqL X.K H p ys∨SqT X.K H p ys)∧Q (.int ys.length) H):=by
 intro pins s σ H xs us Q I r h
 obtain ⟨p,ys,rfl,hq,q⟩:=h
 obtain ⟨u,rfl,rx⟩:=ym r
 cases rx
 have hn:=Jr
 rcases hq with hq|hq
 ·obtain ⟨its,r',pl,hz⟩:=I.list hq
  have hlen:=r'.length
  exact Calls.call_len_list pl.isList (by simp only [aC] <;> lia) ⟨.int ys.length,H,I.tok _,⟨s.toks+1,by rw [aC,hlen]⟩,q⟩
 ·obtain ⟨its,r',pl,hz⟩:=I.tuple hq
  have hlen:=r'.length
  exact len_tuple pl (by simp only [aC] <;> lia) ⟨.int ys.length,H,I.tok _,⟨s.toks+1,by rw [aC,hlen]⟩,q⟩
theorem vq:vm X (.type "list") (λxs H Q=>∃p ys,xs=[.ref p]∧(SqL X.K H p ys∨SqT X.K H p ys)∧∀l,H l=none→Q (.ref l) (upd H l (.lst ys))):=by
 intro pins s σ H xs us Q I r h
 obtain ⟨p,ys,rfl,hq,q⟩:=h
 obtain ⟨u,rfl,rx⟩:=ym r
 cases rx
 have fin:∀(its:List Ag),Vals ys its→ys.length≤sizeLine→∀(h':Heap) (c':Nat),(∀b o',s.heap.get? b=some o'→h'.get? b=some o') →
   h'.get? s.heap.objs.size=some { cls:=.type "list",dict:=none,data:=.seq its.toArray c',slots:=#[] }→EP X pins σ Q (.ref s.heap.objs.size) { s with heap:=h' }:=λits r' hz h' c' kp e =>
  ⟨.ref s.heap.objs.size,_,I.laid (t':=s.toks) kp (al _) (show ObjOk X.prog X.w _ h' _ (.lst ys) from ⟨hz,its,c',r',e⟩),rfl,q _ (I.hok.fresh (al _))⟩
 rcases hq with hq|hq
 ·obtain ⟨its,r',pl,hz⟩:=I.list hq
  have hlen:=r'.length
  obtain ⟨o,ho,hc,n,hd⟩:=pl.isList
  exact call_list_seq p (.inl rfl) ho hc hd (λh' c' kp e=>fin its r' hz h' c' kp e) (by simp only [aC] <;> lia)
 ·obtain ⟨its,r',pl,hz⟩:=I.tuple hq
  have hlen:=r'.length
  obtain ⟨o,ho,hc,n,hd⟩:=pl
  exact call_list_seq p (.inr rfl) ho hc hd (λh' c' kp e=>fin its r' hz h' c' kp e) (by simp only [aC] <;> lia)
def tyV (K:Aa)(T:String)(x:V)(H:Hp):Prop:=match x with
 |.str _=>T = "str"
 |.int _=>T = "int"
 |.ref p=>(T = "list" ∧ ∃xs,SqL K H p xs)∨(T = "tuple" ∧ ∃o,K.lookup p=some o∧o.cls=.type "tuple" ∧ o.dict=none) ∨
   (T = "dict" ∧ ((∃kvs,H p=some (.dK kvs))∨∃kvs,H p=some (.dT kvs)))∨(T = "set" ∧ ∃S n,H p=some (.set S n))
 |_=>False
theorem tyV_is {pins:List (Aj×Obj)}{σ:St}{H:Hp}{s:Ab}{T:String}{x:V}{v:Ag}(I:Inv X pins σ H s)(r:RelV x v)(ty:tyV X.K T x H) :
  s.TypeIs v T∧∀a,v=.ref a→∃ob,s.heap.get? a=some ob∧ob.dict=none:=by
 cases x with
 |str z =>
  obtain ⟨t,rfl⟩:=r
  cases (show T = "str" from ty)
  exact ⟨typeIs_str s z t,λ_ e=>nomatch e⟩
 |int i =>
  obtain ⟨t,rfl⟩:=r
  cases (show T = "int" from ty)
  exact ⟨typeIs_int s i t,λ_ e=>nomatch e⟩
 |ref p =>
  cases r
  rcases ty with ⟨rfl,xs,hq⟩|⟨rfl,o,hk,hc,hd⟩|⟨rfl,hk⟩|⟨rfl,S,n,hk⟩
  ·obtain ⟨its,_,pl,_⟩:=I.list hq
   refine ⟨pl.isList.typeIs,λa e=>?_⟩
   cases e
   obtain ⟨o,n,e,c,hd,_⟩:=pl
   exact ⟨o,e,hd⟩
  ·refine ⟨⟨o,I.kIn p o hk,hc⟩,λa e=>?_⟩
   cases e
   exact ⟨o,I.kIn _ o hk,hd⟩
  ·have z:∃o,s.heap.get? p=some o∧o.ExactDict:=by
    rcases hk with ⟨kvs,hk⟩|⟨kvs,hk⟩
    ·obtain ⟨_,_,_,_,o,_,_,e,ex,_⟩:=I.hok p _ hk
     exact ⟨o,e,ex⟩
    ·obtain ⟨_,_,_,_,o,_,_,e,ex,_⟩:=I.hok p _ hk
     exact ⟨o,e,ex⟩
   obtain ⟨o,e,ex⟩:=z
   refine ⟨⟨o,e,ex.1⟩,λa e2=>?_⟩
   cases e2
   exact ⟨o,e,ex.2.1⟩
  ·obtain ⟨o,_,_,_,e,ex,_⟩:=I.hok p _ hk
   refine ⟨⟨o,e,ex.1⟩,λa e2=>?_⟩
   cases e2
   exact ⟨o,e,ex.2.1⟩
 |_=>exact False.elim ty
def tBM (K:Aa)(T:String)(r:V→List V→Hp→VK→Prop)(to:TE)(t:TA):TE:=λσ H Q=>to σ H λx H1=>tyV K T x H1∧t σ H1 λxs H2=>r x xs H2 Q
variable {o e:Expr}{es:List Expr}{to:TE}{t:TA}{name:Str}{apos cpos:Pos}{T id:String}{r:V→List V→Hp→VK→Prop}
theorem wqz (pa:PlainAttrs T)(slot:Slot T name id)(hty:typeOf (.builtin id)=pure (.type "method_descriptor"))(hm:MtR X id r)(ho:PE X o to)(ha:PA X (e::es) t)
  (hbase:attributeBase o name X.env (eval o X.env)=eval o X.env:=by rfl)
  (hfew:((backTo cpos (starEach (e::es) X.env)).all (λx=>!x.1)&&(backToKw cpos (keywordEach [] X.env)).all (λx=>x.1.isSome)
   && decide ((e::es).length+([]:List Keyword).length+(if ([]:List Keyword).isEmpty then 0 else 1)<30))=true:=by rfl)
  (hline:(apos.endLine==cpos.line)=true:=by rfl) (hs:starEach (e::es) X.env=(false,eval e X.env)::starEach es X.env:=by rfl) (hplain:(backTo cpos (starEach es X.env)).any (·.1)=false:=by rfl) :
  PE X (.Call (.Attribute o name apos) (e::es) [] cpos) (tBM X.K T r to t):=by
 intro pins s σ H Q I h
 refine wpAny_Call_method_late hbase hfew hline rfl (thn (ho pins s σ H _ I h) λv s1 ⟨x,H1,I1,r1,ty,q1⟩=>?_)
 obtain ⟨h1,h2⟩:=tyV_is I1 r1 ty
 refine ⟨T,id,pa,slot,hty,h1,h2,?_⟩
 have hA:=ha cpos pins s1 σ H1 _ I1 q1
 rw [hs] at hA ⊢
 refine Calls.callWith_builtin (by show (false||(backTo cpos (starEach es X.env)).any (·.1))=false;rw [hplain] <;> rfl) (Calls.evalArgs_plain ?_)
 exact thn hA λus s2 ⟨vs,H2,I2,r2,q2⟩=>hm pins s2 σ H2 x vs v us Q I2 r1 r2 q2
end
def MtM (X:Cx)(id:String)(r:V→List V→Hp→VK→Prop):Prop :=
 ∀(pins:List (Aj×Obj)) (s:Ab) (σ:St) (H:Hp) (x:V) (xs:List V) (v:Ag) (us:List Ag) (Q:VK),Inv X pins σ H s→RelV x v→Vals xs us→r x xs H Q →
  wpAny (model X.prog X.w) X.A (call (.builtin id) (v::us)) (EP X pins σ Q) X.xe s
theorem Vals.one:∀ {x:V} {us:List Ag},Vals [x] us→∃u,us=[u]∧RelV x u
 |_,_,.cons r .nil=>⟨_,rfl,r⟩
theorem Vals.two:∀ {x y:V} {us:List Ag},Vals [x,y] us→∃u v,us=[u,v]∧RelV x u∧RelV y v
 |_,_,_,.cons r (.cons q .nil)=>⟨_,_,rfl,r,q⟩
section
variable {X:Cx}{pins:List (Aj×Obj)}{σ:St}{H:Hp}{s:Ab}{l b:Aj}{xs ys zs:List V}
theorem Inv.lset {its its':List Ag}{n:Nat}{f:Array Ag→Array Ag}{t':Nat}(I:Inv X pins σ H s)(hH:H l=some (.lst xs))
  (e:s.heap.get? l=some { cls:=.type "list",data:=.seq its.toArray n }) (hf:f its.toArray=its'.toArray) (hv:Vals ys its') (hz:ys.length≤sizeLine) :
  Inv X pins σ (upd H l (.lst ys)) { s with heap:=s.heap.update l (Obj.mapSeq f),toks:=t' }:=by
 have q:=PySem.IsL.update e f
 rw [hf] at q
 refine I.write (x:=l) (e:=l) (by rw [hH];exact trivial) (.inl rfl) (λb' u hb hu=>(Heap.get?_update_other s.heap (Obj.mapSeq f) (cv hb)).trans hu) ⟨_,q⟩ ?_
 exact ⟨hz,its',_,hv,q⟩
theorem Inv.lnew {its:List Ag}{t':Nat}(I:Inv X pins σ H s)(hv:Vals ys its)(hz:ys.length≤sizeLine) :
  Inv X pins σ (upd H s.heap.objs.size (.lst ys)) { s with heap:=s.heap.push { cls:=.type "list",data:=.seq its.toArray },toks:=t' } :=
 I.laid (λ_ _ q=>ah _ q) (al _) ⟨hz,its,0,hv,aD _ rfl⟩
theorem Inv.fresh (I:Inv X pins σ H s):H s.heap.objs.size=none:=I.hok.fresh (al _)
theorem Inv.lstM (I:Inv X pins σ H s)(hH:H l=some (.lst xs)):xs.length≤sizeLine∧∃(its:List Ag) (n:Nat),Vals xs its∧xs.length=its.length∧s.heap.get? l=some { cls:=.type "list",data:=.seq its.toArray n }:=by
 obtain ⟨z,its,n,r,e⟩:=I.hok l _ hH
 exact ⟨z,its,n,r,r.length,e⟩
theorem qj0 {n:Nat}(h:n≤sizeLine):Builtin.List.listTooLong n=false:=by
 unfold Builtin.List.listTooLong
 exact aX (by lia)
end
section
variable {X:Cx}
def wqn:V→List V→Hp→VK→Prop:=λx vs H Q=>∃l xs y,x=.ref l∧vs=[y]∧H l=some (.lst xs)∧xs.length<sizeLine∧Q .non (upd H l (.lst (xs++[y])))
theorem v6:MtM X "list.append" wqn:=by
 intro pins s σ H x vs v us Q I rx rv h
 obtain ⟨l,xs,y,rfl,rfl,hH,hz,q⟩:=h
 cases rx
 obtain ⟨u,rfl,ru⟩:=rv.one
 obtain ⟨z,its,n,r,hl,e⟩:=I.lstM hH
 refine call_meets F.slot_list_append ⟨_,e,rfl⟩ F.entry_list_append (F.args_list_append_2 _ _) (PySem.list_append l its.toArray n u (by rw [aC];lia)) ⟨e,?_⟩
 refine ⟨.non,_,I.lset (its':=its++[u]) hH e (by simp) (r.append (.cons ru .nil)) ?_,rfl,q⟩
 rw [ar,List.length_singleton]
 lia
def ww0:V→List V→Hp→VK→Prop:=λx vs H Q=>∃l b xs zs,x=.ref l∧vs=[.ref b]∧H l=some (.lst xs)∧H b=some (.lst zs)∧xs.length+zs.length≤sizeLine∧Q .non (upd H l (.lst (xs++zs)))
theorem qk7:MtM X "list.extend" ww0:=by
 intro pins s σ H x vs v us Q I rx rv h
 obtain ⟨l,b,xs,zs,rfl,rfl,hH,hB,hz,q⟩:=h
 cases rx
 obtain ⟨u,rfl,ru⟩:=rv.one
 cases ru
 obtain ⟨z,its,n,r,hl,e⟩:=I.lstM hH
 obtain ⟨z2,its2,n2,r2,hl2,e2⟩:=I.lstM hB
 have hsz:its.toArray.size+its2.toArray.size≤sizeLine:=by rw [aC,aC];lia
 have hlong:¬ (!its.toArray.isEmpty&&Builtin.List.listTooLong (its.toArray.size+its2.toArray.size))=true:=by
  rw [qj0 hsz,Bool.and_false]
  exact aA
 refine call_meets F.slot_list_extend ⟨_,e,rfl⟩ F.entry_list_extend (F.args_list_extend_2 _ _)
  (AutoSeq1.list_extend_list_list_0 l its.toArray n b its2.toArray n2 hlong (by rw [aC];lia) (by lia)) ⟨e,e2,?_⟩
 refine ⟨.non,_,I.lset (its':=its++its2) hH e (by simp) (r.append r2) ?_,rfl,q⟩
 rw [ar]
 lia
def rCat:R2:=λx y H Q=>∃l b xs zs,x=.ref l∧y=.ref b∧H l=some (.lst xs)∧H b=some (.lst zs)∧xs.length+zs.length≤sizeLine∧∀p,H p=none→Q (.ref p) (upd H p (.lst (xs++zs)))
theorem W1:OpR X (binaryOp .Add) rCat:=by
 intro pins s σ H x y v u Q I rx ry h
 obtain ⟨l,b,xs,zs,rfl,rfl,hH,hB,hz,q⟩:=h
 cases rx
 cases ry
 obtain ⟨z,its,n,r,hl,e⟩:=I.lstM hH
 obtain ⟨z2,its2,n2,r2,hl2,e2⟩:=I.lstM hB
 refine PySem.P.add_list e e2 ?_ (by rw [aC,aC];lia)
 have ea:its.toArray++its2.toArray=(its++its2).toArray:=by simp
 rw [ea]
 exact ⟨.ref _,_,I.lnew (t':=s.toks) (r.append r2) (by rw [ar];lia),rfl,q _ I.fresh⟩
end
section
variable {prog:Ac}{w:Ah}{A:Ae}{E:Ag→Ab→Prop}{s:Ab}
end
section
variable {X:Cx}
end
end L2
namespace Att
open PySem PySem.W PySem.Calls PyProof.Rows
theorem Qp {P:Params}{h:Heap}:∀(ns:List Int) (vs:List Ag),WellAll P h vs (ns.map WData.int)→IntsAre vs ns:=by
 intro ns
 induction ns with
 |nil =>
  intro vs w
  rw [cT] at w
  cases w
  exact .nil
 |cons n ns ih =>
  intro vs w
  rw [aK] at w
  cases w with
  |cons a b =>
   cases a
   exact .cons _ _ (ih _ b)
theorem qkx {l:OpenLaw}{n:Nat}(hn:l.most=some n){P:Params}{h:Heap}{args:List WData}{vals:List Ag}
  (hpre:l.row.toRowW.claim.pre args=true) (hwl:WellAll P h vals args) :
  ∃a vs ns,vals=[Value.ref a]∧args=[WData.list (ns.map WData.int)]∧h.get? a=some { cls:=.type "list",data:=.seq vs.toArray }∧IntsAre vs ns∧ns.length≤n:=by
 have hsh:WShape.hasAll [] args [.list .int]=true:=(pre_splitW hpre).1
 have hc:l.pre.holds [] { args:=args }=true:=(pre_splitW hpre).2
 obtain ⟨d,r,rfl,h1,h2⟩:=hasAllW_cons hsh
 obtain rfl:=hasAllW_nil h2
 obtain ⟨xs,rfl,h3⟩:=hasW_list h1
 obtain ⟨ns,rfl⟩:=items_int h3
 have hlen:ns.length≤n:=by
  unfold OpenLaw.pre at hc
  have h4:(WTm.not (.lt (.lit (.int (n:Int))) (.len (.arg 0)))).holds [] { args:=[.list (ns.map .int)] }=true:=by
   have h4:=(holds_andW hc).1
   rw [hn] at h4
   exact h4
  have h5:=condW_of h4 (w_not (w_lt w_lit (w_len_list (w_arg rfl))))
  rw [ac] at h5
  refine Nat.le_of_not_lt λq=>?_
  have q':(n:Int)<((ns.length:Nat):Int):=by lia
  first
   |(rw [bn q'] at h5;exact absurd h5 (by decide))
   |(simp at h5;lia)
 cases hwl with
 |cons w1 w2 =>
  cases w2
  cases w1 with
  |list ho hall=>exact ⟨_,_,ns,rfl,rfl,ho,Qp ns _ hall,hlen⟩
theorem qk1 (l:OpenLaw)(args:List WData):l.row.toRowW.claim.post args (.bool true) args=true :=
 postW_of (r:=l.row.toRowW) (X:=(true==true))
  (show WShape.has [] (.bool true) .bool=true by first | rfl | decide | simp [WShape.has,WShape.arms,WShape.armsAll])
  (show (WTm.eq .res (.lit (.bool true))).value [] { args:=args,res:=some (.bool true),after:=args }=some (.bool (true==true)) from w_eq_bool (w_res rfl) w_lit) rfl
theorem attach_call {l:OpenLaw}{n:Nat}{q:Ac}{loose:List Str}{XP:(Str→Option Ag)→Heap→Prop}{YP:Ah→Heap→Prop}{d:DefRec}
  (hn:l.most=some n) (hdf:d.params.defaults=[])
  (call:∀(w:Ah) (s₀ s₁:Ab) (mg mb:Str→Option Ag) (fa:Aj) (o:Obj) (pm cd doc:Ag) (a:Aj) (vs:List Ag) (ns:List Int),
   Ground q loose [] XP w s₀ mg mb s₁.heap→YP w s₁.heap →
   s₁.heap.get? fa=some o→o.data=.func (docDef d.name d.params d.body d.scope pm cd doc)→s₁.heap.CodeRec cd d.name→mg d.name=some (.ref fa) →
   s₁.heap.get? a=some { cls:=.type "list",data:=.seq vs.toArray }→IntsAre vs ns→ns.length≤n→s₁.gens=#[] →
   codeAny (model l.prog w) callerA (.call (.ref fa) ⟨[.ref a],[]⟩) (λr s'=>r=.ok (.ret (.bool true))∧OldK s₁.heap s'.heap∧s'.os=s₁.os∧AllBare s'.gens) s₁) :
  WalkO q loose XP YP l.row.toRowW d [] (λf vs=>PySem.call f vs):=by
 intro w s₀ s₁ mg mb G Y fa o pm cd doc dV kV ho hd hcd hD hmg hg args vals as hpre hlay hrd hwl hlo
 obtain rfl:dV=.none:=Dflts.none hD hdf
 obtain rfl:kV=.none:=Dflts.noKw hD
 obtain ⟨a,vs,ns,rfl,rfl,hobj,hints,hlen⟩:=qkx hn hpre hwl
 refine enter_call (cx (call w s₀ s₁ mg mb fa o pm cd doc a vs ns G Y ho (fd_plain hd) hcd hmg hobj hints hlen hg) λr s' hq=>?_)
 obtain ⟨rfl,h2,h3,h4⟩:=hq
 exact ⟨.inl ⟨.bool true,.bool true,[],rfl,λ_=>rfl,.bool true,qk1 l _,λ_=>⟨List.Pairwise.nil,λ_ hm=>(nomatch hm)⟩⟩,h2,h3,h4⟩
section
variable {prog:Ac}{w:Ah}{A:Ae}{E:Ag→Ab→Prop}{s:Ab}{K:Frag}
end
end Att
namespace L2
open PySem PySem.Spec PyProof.Rows
theorem Yk:∀ {vs:List Ag} {ns:List Int},IntsAre vs ns→Vals (ns.map V.int) vs
 |_,_,.nil=>.nil
 |_,_,.cons n t h=>.cons ⟨t,rfl⟩ (Yk h)
def Only (H:Hp):Prop:=∀b,H b=none∨∃o xs,H b=some (.frz o (.lst xs))
theorem qy1 {P:Ac}{w:Ah}{K:Aa}{mg mb:Str→Option Ag}{CX:CXT}{k:Nat}{fa a:Aj}{fd:Ad}{x:Str}{sp:Sp}{s₁:Ab}{vs:List Ag}{ns:List Int}
  (KX:K.In s₁.heap) (hns:s₁.heap.Ns mainGlobals mg) (hb:s₁.heap.Ns builtinsNs mb) (hbb:∀x:Str,x ≠ "__name__" → mb x=bootBuiltins x) (hlim:s₁.heap.NoLimit) (hg:s₁.gens=#[])
  (ha:s₁.heap.get? a=some { cls:=.type "list",data:=.seq vs.toArray }) (hi:IntsAre vs ns) (hl:ns.length≤sizeLine) (hr:Room k callerA)
  (F:∀base:Heap,K.In base→base.Ns mainGlobals mg→FnOk P w K mg base CX k fa fd [x] sp) (hbind:∀(s:Ab) (u:Ag),BindsTo s fd ⟨[u],[]⟩ [(x,u)])
  (hsp:∀H:Hp,Only H→SqL K H a (ns.map V.int)→sp [.ref a] H (λv _=>v=.bl true) λ_ _ _=>False)
  (hCX:∀H e s',CX [] H s₁ (λ_ _ _=>False) e s'→False) :
  codeAny (model P w) callerA (.call (.ref fa) ⟨[.ref a],[]⟩) (λr s'=>r=.ok (.ret (.bool true))∧OldK s₁.heap s'.heap∧s'.os=s₁.os∧AllBare s'.gens) s₁:=by
 have rv:=Yk hi
 have lenV:=hi.length
 have core:∀H:Hp,Only H→SqL K H a (ns.map V.int)→HOk P w H s₁.heap→(∀b,H b≠none→b=a)→(H a≠none→K.lookup a=none) →
   codeAny (model P w) callerA (.call (.ref fa) ⟨[.ref a],[]⟩) (λr s'=>r=.ok (.ret (.bool true))∧OldK s₁.heap s'.heap∧s'.os=s₁.os∧AllBare s'.gens) s₁:=by
  intro H hO hS hok hA hK
  have base_of:∀ {b:Aj} {o:Obj},s₁.heap.get? b=some o→H b=none→(Y3 s₁.heap H).get? b=some o:=λe n=>qux e n
  have noA:∀ {b:Aj} {o:Obj} {es:Array DictEntry} {ep:Nat},s₁.heap.get? b=some o→o.data=.dict es ep→H b=none:=λ{b o es ep} e d=>by
   cases q:H b with
   |none=>rfl
   |some u =>
    have e':b=a:=hA b (by rw [q];simp)
    subst e'
    rw [ha] at e;cases e
    have d':Data.seq vs.toArray _=Data.dict es ep:=d
    cases d'
  have nsK:∀ {b:Aj} {m:Str→Option Ag},s₁.heap.Ns b m→(Y3 s₁.heap H).Ns b m:=λ{b m} ⟨o,es,ep,e,d,r⟩=>⟨o,es,ep,base_of e (noA e d),d,r⟩
  have hKb:K.In (Y3 s₁.heap H):=λb o e=>base_of (KX b o e) (by
   cases q:H b with
   |none=>rfl
   |some u =>
    have e':b=a:=hA b (by rw [q];simp)
    subst e'
    rw [hK (by rw [q];simp)] at e;cases e)
  have hM:Mod K mg (Y3 s₁.heap H):=⟨hKb,nsK hns,⟨mb,nsK hb,hbb⟩,let ⟨mc,h1,h2⟩:=hlim;⟨mc,nsK h1,h2⟩⟩
  have e0:Env0 P w K mg (Y3 s₁.heap H) callerA [] s₁ H:=⟨rfl,hM,λb o e=>wwk e,Nat.le_of_eq (qkw _ _),trivial,λb hb=>absurd (show b∈([]:List Aj) from hb) (by simp),hok,.of_eq hg⟩
  refine cx ((F _ hKb (nsK hns)).run callerA [] s₁ H ⟨[.ref a],[]⟩ [.ref a] [.ref a] _ _ hr e0 (hbind s₁ (.ref a)) (.cons rfl .nil) (hsp H hO hS)) λr s' h=>?_
  cases r with
  |error e=>exact (hCX H e s' h).elim
  |ok fl =>
   cases fl with
   |next=>exact False.elim h
   |brk=>exact False.elim h
   |cont=>exact False.elim h
   |ret u =>
    obtain ⟨v,H',os,bare,un,hok',r',q⟩:=h
    have q':v=.bl true:=q
    subst q'
    obtain rfl:u=Value.bool true:=r'
    refine ⟨rfl,OldK.of_keep λb o e=>?_,os,bare⟩
    cases q:H b with
    |none=>exact un.keep b o e q (by intro z;exact absurd (show b∈([]:List Aj) from z) (by simp)) (by simp)
    |some u =>
     rcases hO b with z|⟨ob,xs,z⟩
     ·rw [q] at z;cases z
     ·have z2:=un.frzs b ob _ z
      obtain ⟨e1,_⟩:=hok b _ z
      obtain ⟨e2,_⟩:=hok' b _ z2
      rw [e] at e1;cases e1
      exact e2
 cases hk:K.lookup a with
 |some o =>
  have e:=KX a o hk
  rw [ha] at e
  cases e
  refine core (λ_=>none) (λ_=>.inl rfl) (.inr ⟨_,vs.toArray,_,hk,rfl,rfl,rfl,by rw [aC,lenV];exact hl,by simpa using rv⟩) (λb u z=>by have z':(none:Option HO)=some u:=z;cases z') (λb z=>absurd rfl z) λz=>absurd rfl z
 |none =>
  refine core (λb=>if b=a then some (.frz { cls:=.type "list",data:=.seq vs.toArray } (.lst (ns.map V.int))) else none) (λb=>?_) (.inl (.inr ⟨{ cls:=.type "list",data:=.seq vs.toArray },au rfl⟩)) (λb u z=>?_) (λb z=>?_) λ_=>hk
  ·by_cases hb:b=a
   ·exact .inr ⟨_,_,au hb⟩
   ·exact .inl (am hb)
  ·by_cases hb:b=a
   ·have z':=(au hb).symm.trans z
    cases z'
    subst hb
    exact ⟨ha,by rw [ac];exact hl,vs,_,rv,ha⟩
   ·have z':=(am hb).symm.trans z
    cases z'
  ·by_cases hb:b=a
   ·exact hb
   ·exact absurd (am hb) z
theorem wwm {l:PySem.W.OpenLaw}{n k:Nat}{q:Ac}{loose:List Str}{XP:(Str→Option Ag)→Heap→Prop}{YP:Ah→Heap→Prop}{d:DefRec}{K:Params→Aa}{CX:Ah→CXT}{sp:Ah→Sp}{x:Str}
  (hn:l.most=some n) (hn2:n≤sizeLine) (hdf:d.params.defaults=[]) (hr:Room k callerA)
  (hY:∀(w:Ah) (h:Heap),YP w h→(K w.params).In h)
  (F:∀(w:Ah) (mg:Str→Option Ag) (fa:Aj) (h:Heap),(K w.params).In h→h.Ns mainGlobals mg→mg d.name=some (.ref fa) →
   ∃fd:Ad,(∀(s:Ab) (u:Ag),BindsTo s fd ⟨[u],[]⟩ [(x,u)]) ∧
    ∀base:Heap,(K w.params).In base→base.Ns mainGlobals mg→FnOk l.prog w (K w.params) mg base (CX w) k fa fd [x] (sp w))
  (hsp:∀(w:Ah) (H:Hp) (a:Aj) (ns:List Int),ns.length≤n→Only H→SqL (K w.params) H a (ns.map V.int)→sp w [.ref a] H (λv _=>v=.bl true) λ_ _ _=>False)
  (hCX:∀(w:Ah) (H:Hp) (s:Ab) (e:Ag) (s':Ab),CX w [] H s (λ_ _ _=>False) e s'→False) :
  PySem.W.WalkO q loose XP YP l.row.toRowW d [] (λf vs=>PySem.call f vs):=by
 refine Att.attach_call hn hdf λw s₀ s₁ mg mb fa o pm cd doc a vs ns G Y ho hd hcd hmg hobj hints hlen hg=>?_
 have KX:=hY w _ Y
 obtain ⟨fd,hb,hF⟩:=F w mg fa _ KX G.T.g hmg
 exact qy1 KX G.T.g G.T.b G.T.builtins G.T.nolimit hg hobj hints (bp hlen hn2) hr hF hb (λH hO hS=>hsp w H a ns hlen hO hS) λH e s'=>hCX w H s₁ e s'
def k7 (s:Stmt)(j:Nat):Stmt:=match s with
 |.ClassDef _ _ _ body _ _ _ _ _ _ _=>body.getD j (.Pass ⟨0,0,0,0⟩)
 |_=>.Pass ⟨0,0,0,0⟩
def zd (s:Stmt):Arguments:=match s with
 |.FunctionDef _ a _ _ _ _ _ _ _ _=>a
 |_=>{ posonlyargs:=[],args:=[],vararg:=none,kwonlyargs:=[],kw_defaults:=[],kwarg:=none,defaults:=[] }
def zw (s:Stmt):List Stmt:=match s with
 |.FunctionDef _ _ b _ _ _ _ _ _ _=>b
 |_=>[]
def q9 (s:Stmt):Scope:=match s with
 |.FunctionDef _ _ _ _ _ _ sc _ _ _=>sc
 |_=>{ kind:=.function,names:=[],isGenerator:=false,isCoroutine:=false }
abbrev E0:XK:=λ_ _ _=>False
structure Fun (K:Aa)(x qual:Str)(st:Stmt)(f:Aj)(fd:Ad):Prop where
 ex:∃(oc:Ag) (od:Option Aj) (kV doc pm:Ag) (an:Option Aj) (cdv ct:Ag) (osl:Array (Option Ag)),
  fd=PySem.W.fnOf x qual (zd st) (zw st) (q9 st) .none kV doc pm an cdv ct∧K.lookup f=some ⟨oc,od,.func fd,osl⟩∧PySem.W.codeIn K cdv qual=true
 kp:PySem.W.keepIn K (.ref f)=true
section
variable {P:Ac}{w:Ah}{K:Aa}{mg:Str→Option Ag}{base:Heap}
theorem Fun.binds {x qual:Str}{st:Stmt}{f:Aj}{fd:Ad}{ps:List Str}(F:Fun K x qual st f fd)
  (h:∀(kV doc pm:Ag) (an:Option Aj) (cdv ct:Ag) (us:List Ag),us.length=ps.length→bindArgs (PySem.W.fnOf x qual (zd st) (zw st) (q9 st) .none kV doc pm an cdv ct) ⟨us,[]⟩=pure (ps.zip us)):Binds K fd ps []:=by
 obtain ⟨oc,od,kV,doc,pm,an,cdv,ct,osl,rfl,lk,hcd⟩:=F.ex
 exact .all (h kV doc pm an cdv ct)
theorem quw {x qual:Str}{st:Stmt}{f:Aj}{oc:Ag}{od an:Option Aj}{osl:Array (Option Ag)}{kV doc pm cdv ct:Ag}(l:K.lookup f=some ⟨oc,od,.func (PySem.W.fnOf x qual (zd st) (zw st) (q9 st) .none kV doc pm an cdv ct),osl⟩)
  (c:PySem.W.codeIn K cdv qual=true) (k:PySem.W.keepIn K (.ref f)=true):Fun K x qual st f (PySem.W.fnOf x qual (zd st) (zw st) (q9 st) .none kV doc pm an cdv ct):=⟨⟨oc,od,kV,doc,pm,an,cdv,ct,osl,rfl,l,c⟩,k⟩
end
theorem wqq {A:Ae}{k:Nat}(hr:Room k A):A.units+1<cLine:=cZ (Nat.add_le_add_left (by decide:1≤64) _) hr.units
theorem qk2 {n:Nat}(h:n≤1000):n<sizeLine:=cZ h (by decide)
section
variable {X:Cx}
theorem pv (i:Nat){x:Str}{pos:Pos}(hN:X.N[i]?=some x:=by rfl)(hv:Vis X.env.scope x:=by first | exact Or.inl rfl | exact Or.inr (Or.inl rfl) | exact Or.inr (Or.inr rfl))(hd:(x==("__debug__" : Str))=false:=by decide)
  (hcd:(x==("__classdict__" : Str))=false:=by decide):PE X (.Name x pos) (ku i):=pe_var hN hv hd hcd
end
theorem kn {A B:Prop}(h:B):if false=true then A else B:=by
 rw [am aA]
 exact h
theorem y6 {A B:Prop}(h:A):if true=true then A else B:=by
 rw [au rfl]
 exact h
def Same (H H':Hp):Prop:=∀b o,H b=some o→H' b=some o
theorem Same.refl (H:Hp):Same H H:=λ_ _ h=>h
theorem Same.trans {H H1 H2:Hp}(a:Same H H1)(b:Same H1 H2):Same H H2:=λc o h=>b c o (a c o h)
theorem Same.free {H H':Hp}(e:Same H H'){l:Aj}(h:H' l=Option.none):H l=Option.none:=by
 cases q:H l with
 |none=>rfl
 |some o =>
  rw [e l o q] at h
  cases h
theorem Same.seq {K:Aa}{H H':Hp}{a:Aj}{xs:List V}(e:Same H H')(h:SqL K H a xs):SqL K H' a xs:=by
 rcases h with (h|⟨o,h⟩)|h
 ·exact .inl (.inl (e _ _ h))
 ·exact .inl (.inr ⟨o,e _ _ h⟩)
 ·exact .inr h
set_option maxHeartbeats 4000000
theorem nin {b:Aj}:b∉([]:List Aj):=λz=>nomatch z
theorem wxx {K:Aa}{h:Heap}{C:Aj}{bmB:List Ag}{newId:String}(X:K.In h)(q:PySem.W.excIn K C bmB newId=true) :
  ∃tl N a1 a2 a3 a4 a5 a6 a7 a8 a9 b0 b1 b2 b3 b5 mN,h.get? C=some (excClassObj a1 a2 C N a3 tl a4 a5 a6 a7 a8 a9 b0 b1 b2 b3 b5 newId) ∧
   h.Ns N mN∧mN "__init__" = none∧OwnTail h bmB tl:=by
 unfold PySem.W.excIn at q
 split at q
 ·next dd cd sl ho =>
  split at q
  ·next C1 tl x0 x1 x2 x3 nn x5 hm hs =>
   rw [bG,bG,bG,bG,bG] at q
   obtain ⟨⟨⟨⟨⟨p1,p2⟩,p3⟩,p4⟩,p5⟩,p6⟩:=q
   have p1':=eq_of_beq p1
   have p2':=eq_of_beq p2
   have p6':=eq_of_beq p6
   have p3':cd.hasDel=false:=by simpa using p3
   subst p1' p2'
   obtain ⟨f1,f2,f3,f4,f5,f6,f7,f8,f9,f10,f11⟩:=cd
   have hm':f3=Value.ref C1::tl:=hm
   have p3'':f11=false:=p3'
   subst hm' p3''
   have hsl:sl=#[x0,x1,x2,x3,some (.builtin nn),x5]:=by
    cases sl with
    |mk l =>
     have:l=[x0,x1,x2,x3,some (.builtin nn),x5]:=hs
     rw [this]
   subst hsl
   have nsok:=PySem.W.isNs_of_in X p5
   exact ⟨tl,f4,f1,f5,f2,f6,f7,f8,f9,f10,dd,x0,x1,x2,x3,x5,_,X _ _ ho,.of_isNs nsok,PySem.W.nsMap_none_of_in X p5 p6',PySem.W.tail_of_in X p4⟩
  ·exact absurd q (by decide)
 ·exact absurd q (by decide)
def CXE (P:Ac)(w:Ah):CXT:=λouter H s E e s' =>
 ∃(a C:Aj) (a0:Ag) (B:Heap) (H':Hp),e=.ref a∧s'.os=s.os∧AllBare s'.gens∧Un (frs outer) [] H H' s.heap s'.heap∧HOk P w H' B ∧
  Heap.FlyingW B outer a (.ref C) a0 s'.heap∧(∀b o,s.heap.get? b=some o→b∉frs outer→∃o',B.get? b=some o'∧(H b=none→o'=o))∧E (.ref C) none H'
theorem CXE.no {P:Ac}{w:Ah}{outer:List Env}{H:Hp}{s s':Ab}{e:Ag}(h:CXE P w outer H s E0 e s'):False:=by
 obtain ⟨_,_,_,_,_,_,_,_,_,_,_,_,q⟩:=h
 exact q
def v9 (X:Cx)(E:St→XK):Prop:=∀(pins:List (Aj×Obj)) (σ:St) (H:Hp) (s:Ab) (e:Ag) (s':Ab),Inv X pins σ H s→CXE X.prog X.w X.stack H s (E σ) e s'→X.xe e s'
theorem kg {X:Cx}:v9 X (λ_=>E0):=λ_ _ _ _ _ _ _ h=>h.no.elim
def wqw (X:Cx)(E:St→XK):Prop:=∀(pins:List (Aj×Obj)) (σ:St) (H:Hp) (s:Ab) (h':Heap) (e C:Aj) (vs:List Ag),Inv X pins σ H s→Heap.MadeExcOf s.heap h' e (.ref C) vs→E σ (.ref C) none H→X.xe (.ref e) { s with heap:=h' }
theorem qqt {env:Env}{L:Aj}{outer:List Env}(h:env.frame=some L):frs (env::outer)=L::frs outer:=by
 unfold frs
 rw [ci,h]
section
variable {P:Ac}{w:Ah}{K:Aa}{mg:Str→Option Ag}{base:Heap}{N:List Str}{qual:Str}{scope:Scope}{f:Aj}{cdv:Ag}{A:Ae}{outer:List Env}{s0:Ab}{H0:Hp}{E:XK}
theorem qk:v9 (Y6 (CXE P w) P w K mg base N qual scope f cdv A outer s0 H0 E) (λ_=>E):=by
 intro pins σ H s e s' I hx
 obtain ⟨a,C,a0,B,H',rfl,hos,hba,un,hokB,hfl,old,q⟩:=hx
 have ub:=I.base
 have hL:∀b o,s0.heap.get? b=some o→b≠s0.heap.objs.size:=λb o e z=>aE _ (z▸af e)
 have hfs:frs (envOfC qual scope s0.heap.objs.size f cdv::outer)=s0.heap.objs.size::frs outer:=qqt rfl
 have hmem:∀b o,s0.heap.get? b=some o→b∉frs outer→b∉frs (envOfC qual scope s0.heap.objs.size f cdv::outer):=λb o e n=>by
  rw [hfs]
  intro z
  rcases aw.mp z with z|z
  ·exact hL b o e z
  ·exact n z
 have hold:∀b o,s0.heap.get? b=some o→b∉frs outer→∃o',B.get? b=some o'∧(H0 b=none→o'=o):=λb o e n=>by
  obtain ⟨o1,e1⟩:=ub.there b o e nin
  obtain ⟨o2,e2,e3⟩:=old b o1 e1 (hmem b o e n)
  refine ⟨o2,e2,λz=>?_⟩
  have e4:=ub.keep b o e z n nin
  have e5:=ub.free b o e z nin
  rw [e1] at e4
  rw [e3 e5]
  exact aj e4
 refine wpAny_leaves_onW I.ok.frames rfl hfl λh' hf' hup=>?_
 have toH:∀b,b∈frs outer→∀o,s0.heap.get? b=some o→H0 b=none→∃sl,h'.get? b=some { o with slots:=sl }:=λb hb o e n=>by
  obtain ⟨sl,e1⟩:=ub.slot b o e n hb nin
  obtain ⟨sl2,e2⟩:=un.slot b _ e1 (ub.free b o e n nin) (by show b∈frs (envOfC qual scope s0.heap.objs.size f cdv::outer);rw [hfs];exact .tail _ hb) nin
  obtain ⟨_,o3,e3,nf⟩:=hfl.2.2.1.mem (b:=b) (by show b∈frs (envOfC qual scope s0.heap.objs.size f cdv::outer);rw [hfs];exact .tail _ hb)
  obtain ⟨sl4,e4⟩:=hup b o3 e3 nf
  rw [e2] at e3
  have e5:=aj e3
  exact ⟨sl4,by rw [e4,←e5]⟩
 refine ⟨a,C,a0,B,H',rfl,hos.trans I.os,hba,⟨λb o e n nb _=>?_,λb o e n hb _=>toH b hb o e n,λb o e n _=>?_,λb o e _=>?_,λb xs e=>un.tups b xs (ub.tups b xs e),λb o u e=>un.frzs b o u (ub.frzs b o u e),λb ps e=>?_⟩,hokB,hf',hold,q⟩
 ·obtain ⟨o',e1,e2⟩:=hold b o e nb
  rw [e2 n] at e1
  exact hf'.1 b o e1
 ·obtain ⟨o1,e1⟩:=ub.there b o e nin
  exact un.free b o1 e1 (ub.free b o e n nin) nin
 ·by_cases hb:b∈frs outer
  ·obtain ⟨o1,e1⟩:=ub.there b o e nin
   obtain ⟨o2,e2⟩:=un.there b o1 e1 nin
   obtain ⟨_,o3,e3,nf⟩:=hfl.2.2.1.mem (b:=b) (by show b∈frs (envOfC qual scope s0.heap.objs.size f cdv::outer);rw [hfs];exact .tail _ hb)
   obtain ⟨sl4,e4⟩:=hup b o3 e3 nf
   exact ⟨_,e4⟩
  ·obtain ⟨o',e1,_⟩:=hold b o e hb
   exact ⟨o',hf'.1 b o' e1⟩
 ·obtain ⟨m1,e1⟩:=ub.tbls b ps e
  obtain ⟨m2,e2⟩:=un.tbls b _ e1
  exact ⟨m1++m2,by rw [e2,Array.append_assoc]⟩
theorem x8:wqw (Y6 (CXE P w) P w K mg base N qual scope f cdv A outer s0 H0 E) (λ_=>E):=by
 intro pins σ H s h' e C vs I hx q
 have ub:=I.base
 have hfs:frs (envOfC qual scope s0.heap.objs.size f cdv::outer)=s0.heap.objs.size::frs outer:=qqt rfl
 have hmem:∀b o,s0.heap.get? b=some o→b∉frs outer→b∉frs (envOfC qual scope s0.heap.objs.size f cdv::outer):=λb o e n=>by
  rw [hfs]
  intro z
  rcases aw.mp z with z|z
  ·exact aE _ (z▸af e)
  ·exact n z
 have hfree:∀b∈frs (envOfC qual scope s0.heap.objs.size f cdv::outer),H b=none:=I.stkFree
 have hB:∀b o,s.heap.get? b=some o→b∉frs (envOfC qual scope s0.heap.objs.size f cdv::outer)→(PySem.W.hideAll s.heap (frs (envOfC qual scope s0.heap.objs.size f cdv::outer))).get? b=some o:=λb o e n=>PySem.W.hideAll_get _ e n
 have hokB:HOk P w H (PySem.W.hideAll s.heap (frs (envOfC qual scope s0.heap.objs.size f cdv::outer))):=λb u hb=>by
  refine (I.hok b u hb).stay (λc v hc ec=>hB c v ec λhm=>?_) (λ_ z=>z) (λ_ _ z=>z)
  have hn:=hfree c hm
  rcases hc with rfl|hc
  ·rw [hn] at hb;cases hb
  ·rw [hn] at hc;cases hc
 have hold:∀b o,s0.heap.get? b=some o→b∉frs outer→∃o',(PySem.W.hideAll s.heap (frs (envOfC qual scope s0.heap.objs.size f cdv::outer))).get? b=some o'∧(H0 b=none→o'=o):=λb o e n=>by
  obtain ⟨o1,e1⟩:=ub.there b o e nin
  refine ⟨o1,hB b o1 e1 (hmem b o e n),λz=>?_⟩
  have e4:=ub.keep b o e z n nin
  rw [e1] at e4
  exact aj e4
 have hst:s.heap.FunFrames base (envOfC qual scope s0.heap.objs.size f cdv::outer):=I.stack
 have hff:=PySem.W.funFrames_hide (as:=frs (envOfC qual scope s0.heap.objs.size f cdv::outer)) hst (λenv he b hb=>cY.mpr ⟨env,he,hb⟩)
 refine wpAny_leaves_madeW (base:=PySem.W.hideAll s.heap (frs (envOfC qual scope s0.heap.objs.size f cdv::outer))) (h:=s.heap) I.ok.frames rfl (λb o e=>PySem.W.of_hideAll _ e) hff hx λh'' t hf' _ _ hup=>?_
 have toF:∀b,b∈frs outer→∃o,s.heap.get? b=some o∧∃sl,h''.get? b=some { o with slots:=sl }:=λb hb=>by
  obtain ⟨_,o3,e3,nf⟩:=hst.mem (b:=b) (by show b∈frs (envOfC qual scope s0.heap.objs.size f cdv::outer);rw [hfs];exact .tail _ hb)
  exact ⟨o3,e3,hup b o3 (hx.keeps b o3 e3) nf⟩
 refine ⟨e,C,.ref t,_,H,rfl,I.os,I.bare,⟨λb o e1 n nb _=>?_,λb o e1 n hb _=>?_,λb o e1 n _=>ub.free b o e1 n nin,λb o e1 _=>?_,ub.tups,ub.frzs,ub.tbls⟩,hokB,hf',hold,q⟩
 ·obtain ⟨o',e2,e3⟩:=hold b o e1 nb
  rw [e3 n] at e2
  exact hf'.1 b o e2
 ·obtain ⟨sl,e2⟩:=ub.slot b o e1 n hb nin
  obtain ⟨o3,e3,sl3,e4⟩:=toF b hb
  rw [e2] at e3
  have e5:=aj e3
  exact ⟨sl3,by rw [e4,←e5]⟩
 ·by_cases hb:b∈frs outer
  ·obtain ⟨o3,e3,sl3,e4⟩:=toF b hb
   exact ⟨_,e4⟩
  ·obtain ⟨o',e2,_⟩:=hold b o e1 hb
   exact ⟨o',hf'.1 b o' e2⟩
end
section
variable {P:Ac}{w:Ah}{K:Aa}{mg:Str→Option Ag}{base:Heap}
end
def Jg (sp:Sp)(E:St→XK)(t:TA):TE:=λσ H Q=>t σ H λvs H1=>sp vs H1 Q (E σ)
def qqd (C:Aj)(m:Str)(sp:Sp)(E:St→XK)(ta:TE)(t:TA):TE:=λσ H Q=>ta σ H λx H1=>∃a dx fs,x=.ref a∧H1 a=some (.ins C dx fs)∧fs.lookup m=none ∧
 t σ H1 λvs H2=>sp (x::vs) H2 Q (E σ)
def quj (C:Aj)(sp:Sp)(E:St→XK)(t:TA):TE:=λσ H Q=>t σ H λvs H1=>∀x dx,H1 x=none→H1 dx=none→dx≠x →
 sp (.ref x::vs) (upd (upd H1 dx (.own x)) x (.ins C dx [])) (λv H2=>v=.non∧Q (.ref x) H2) (E σ)
section
variable {X:Cx}{k:Nat}{f C:Aj}{fd:Ad}{ps:List Str}{sp:Sp}{E:St→XK}{x m:Str}{p pos apos:Pos}{e o:Expr}{es:List Expr}{ta:TE}{t:TA}
theorem Y0 {pins:List (Aj×Obj)}{σ:St}{H:Hp}{s:Ab}{Q:VK}{us:List Ag}{vs:List V}(F:FnOk X.prog X.w X.K X.mg X.base (CXE X.prog X.w) k f fd ps sp)(hr:Room k X.A)(hb:Binds X.K fd ps [])(hx:v9 X E)
  (I:Inv X pins σ H s) (r:Vals vs us) (h:sp vs H Q (E σ)):wpAny (model X.prog X.w) X.A (call (.ref f) us) (EP X pins σ Q) X.xe s:=by
 have hl:(us++[]).length=ps.length:=by rw [bc,←r.length];exact F.len _ _ _ _ h
 have hb':=hb s us I.kIn hl
 rw [bc] at hb'
 refine wpAny_call (cx (F.run X.A X.stack s H ⟨us,[]⟩ us vs Q (E σ) hr I.env0 hb' r h) λr s' hq=>?_)
 cases r with
 |error e=>exact hx pins σ H s e s' I hq
 |ok fl =>
  cases fl with
  |ret u=>exact I.after hq
  |next=>exact False.elim hq
  |brk=>exact False.elim hq
  |cont=>exact False.elim hq
theorem qym (F:FnOk X.prog X.w X.K X.mg X.base (CXE X.prog X.w) k f fd ps sp)(hr:Room k X.A)(hg:Gl X x)(hm:X.mg x=some (.ref f))(hk:PySem.W.keepIn X.K (.ref f)=true)(hb:Binds X.K fd ps [])(hx:v9 X E)
  (ha:PA X (e::es) t) (hdb:(x==("__debug__" : Str))=false:=by decide) (he:starEach (e::es) X.env=(false,eval e X.env)::starEach es X.env:=by rfl) (hpl:(backTo pos (starEach es X.env)).any (·.1)=false:=by rfl) :
  PE X (.Call (.Name x p) (e::es) [] pos) (Jg sp E t):=by
 intro pins s σ H Q I h
 refine bJ (yg I hg hm ?_ hdb)
 refine cm (h₀:=X.base) I.ok.mod.kin hk (thn (ha pos pins s σ H _ I h) λus s1 ⟨vs,H1,I1,r,q⟩=>⟨I1.kIn,?_⟩) he hpl
 exact Y0 F hr hb hx I1 r q
theorem wqk {pl:Sem Bool}(he:PE X o ta)(c:Cls X.K C)(hm:Meth X.K C m f)(F:FnOk X.prog X.w X.K X.mg X.base (CXE X.prog X.w) k f fd ps sp)(hr:Room k X.A)(hb:Binds X.K fd ps [])(hx:v9 X E)(ha:PA X (e::es) t)
  (hst:starEach (e::es) X.env=(false,eval e X.env)::starEach es X.env:=by rfl) (hpl:(backTo pos (starEach es X.env)).any (·.1)=false:=by rfl)
  (ht:eval (.Call (.Attribute o m apos) (e::es) [] pos) X.env=(do
   let ov ←eval o X.env
   standAt apos.atName
   let (f,first) ←holding [ov] (getMethod ov m pl)
   callWith pos f first (backTo pos (starEach (e::es) X.env)) (backToKw pos (keywordEach [] X.env))):=by rfl) :
  PE X (.Call (.Attribute o m apos) (e::es) [] pos) (qqd C m sp E ta t):=by
 intro pins s σ H Q I h
 refine PySem.W.methodCall_KW (pl:=pl) (thn (he pins s σ H _ I h) λu s1 ⟨x,H1,I1,rx,a,dx,fs,ex,ea,l,q⟩=>?_) ht
 subst ex
 obtain rfl:u=Value.ref a:=rx
 refine Wc I1 ea c hm l ?_
 refine cm (first:=[.ref a]) (h₀:=X.base) I.ok.mod.kin hm.kp (thn (ha pos pins s1 σ H1 _ I1 q) λus s2 ⟨vs,H2,I2,r,q2⟩=>⟨I2.kIn,?_⟩) hst hpl
 exact Y0 (us:=.ref a::us) (vs:=.ref a::vs) F hr hb hx I2 (.cons rfl r) q2
theorem qkn {pl:Sem Bool}(he:PE X o ta)(c:Cls X.K C)(hm:Meth X.K C m f)(F:FnOk X.prog X.w X.K X.mg X.base (CXE X.prog X.w) k f fd ps sp)(hr:Room k X.A)(hb:Binds X.K fd ps [])(hx:v9 X E)
  (ht:eval (.Call (.Attribute o m apos) [] [] pos) X.env=(do
   let ov ←eval o X.env
   standAt apos.atName
   let (f,first) ←holding [ov] (getMethod ov m pl)
   callWith pos f first (backTo pos (starEach [] X.env)) (backToKw pos (keywordEach [] X.env))):=by rfl) :
  PE X (.Call (.Attribute o m apos) [] [] pos) (qqd C m sp E ta zy):=by
 intro pins s σ H Q I h
 refine PySem.W.methodCall_KW (pl:=pl) (thn (he pins s σ H _ I h) λu s1 ⟨x,H1,I1,rx,a,dx,fs,ex,ea,l,q⟩=>?_) ht
 subst ex
 obtain rfl:u=Value.ref a:=rx
 refine Wc I1 ea c hm l ?_
 exact PySem.W.callWith_K0 (first:=[.ref a]) I1.kIn hm.kp (Y0 (us:=[.ref a]) (vs:=[.ref a]) F hr hb hx I1 (.cons rfl .nil) q)
theorem qvn {pins:List (Aj×Obj)}{σ:St}{H:Hp}{s:Ab}{Q:VK}{us:List Ag}{vs:List V}(M:Mk X.K C f)(F:FnOk X.prog X.w X.K X.mg X.base (CXE X.prog X.w) k f fd ps sp)(hr:Room (k+1) X.A)(hb:Binds X.K fd ps [])
  (hx:v9 X E) (I:Inv X pins σ H s) (r:Vals vs us)
  (h:∀x dx,H x=none→H dx=none→dx≠x→sp (.ref x::vs) (upd (upd H dx (.own x)) x (.ins C dx [])) (λv H2=>v=.non∧Q (.ref x) H2) (E σ)) :
  wpAny (model X.prog X.w) X.A (call (.ref C) us) (EP X pins σ Q) X.xe s:=by
 have hq:=h (s.heap.objs.size+1) s.heap.objs.size (I.hok.fresh (Nat.le_succ _)) (I.hok.fresh (al _)) (aq (dv _))
 have I2:=Inv.made (C:=C) I
 have r2:Vals (V.ref (s.heap.objs.size+1)::vs) (Value.ref (s.heap.objs.size+1)::us):=.cons rfl r
 have hl:((Value.ref (s.heap.objs.size+1)::us)++[]).length=ps.length:=by
  rw [bc,←r2.length]
  exact F.len _ _ _ _ hq
 have hb':=hb _ (Value.ref (s.heap.objs.size+1)::us) I2.kIn hl
 rw [bc] at hb'
 refine wpAny_call (qyr (f:=f) I.kIn M.makes M.init (dF.mp M.fn) (cx (F.run _ X.stack _ _ ⟨Value.ref (s.heap.objs.size+1)::us,[]⟩ (Value.ref (s.heap.objs.size+1)::us) _ _ (E σ) (hr.make C us [])
  (I2.env0.make C us []) hb' r2 hq) λr s' hq'=>?_))
 cases r with
 |error e=>exact hx pins σ _ _ e s' I2 hq'
 |ok fl =>
  cases fl with
  |ret u =>
   obtain ⟨v,H',I3,rv,ev,q3⟩:=I2.after hq'
   subst ev
   exact ⟨rv,⟨V.ref (s.heap.objs.size+1),H',I3,rfl,q3⟩⟩
  |next=>exact False.elim hq'
  |brk=>exact False.elim hq'
  |cont=>exact False.elim hq'
theorem qu1 (M:Mk X.K C f)(F:FnOk X.prog X.w X.K X.mg X.base (CXE X.prog X.w) k f fd ps sp)(hr:Room (k+1) X.A)(hg:Gl X x)(hm:X.mg x=some (.ref C))(hb:Binds X.K fd ps [])(hx:v9 X E)
  (ha:PA X (e::es) t) (hdb:(x==("__debug__" : Str))=false:=by decide) (he:starEach (e::es) X.env=(false,eval e X.env)::starEach es X.env:=by rfl) (hpl:(backTo pos (starEach es X.env)).any (·.1)=false:=by rfl) :
  PE X (.Call (.Name x p) (e::es) [] pos) (quj C sp E t):=by
 intro pins s σ H Q I h
 refine bJ (yg I hg hm ?_ hdb)
 refine cm (h₀:=X.base) I.ok.mod.kin M.kp (thn (ha pos pins s σ H _ I h) λus s1 ⟨vs,H1,I1,r,q⟩=>⟨I1.kIn,?_⟩) he hpl
 exact qvn M F hr hb hx I1 r q
end
structure ExcC (K:Aa)(C:Aj):Prop where
 q:PySem.W.excIn K C [.type "ValueError",.type "Exception",.type "BaseException",.type "object"] "ValueError.__new__" = true
def tRaise (C:Aj)(E:St→XK)(t:TA):TS:=λD σ H=>t σ H λvs H1=>vs.length≤sizeLine∧E σ (.ref C) none H1
section
variable {X:Cx}{C:Aj}{E:St→XK}{x:Str}{np cpos pos:Pos}{e:Expr}{es:List Expr}{t:TA}
theorem zr (hc:X.calm=true)(c:ExcC X.K C)(hR:wqw X E)(hg:Gl X x)(hm:X.mg x=some (.ref C))(ha:PA X (e::es) t)(hdb:(x==("__debug__" : Str))=false:=by decide)
  (he:starEach (e::es) X.env=(false,eval e X.env)::starEach es X.env:=by rfl) (hpl:(backTo cpos (starEach es X.env)).any (·.1)=false:=by rfl) :
  PS X (.Raise (some (.Call (.Name x np) (e::es) [] cpos)) none pos) (tRaise C E t):=by
 intro pins s σ H D I h
 obtain ⟨tl,N,a1,a2,a3,a4,a5,a6,a7,a8,a9,b0,b1,b2,b3,b5,mN,hC,hN,hni,T⟩:=wxx I.ok.mod.kin c.q
 refine wpAny_Raise_call_subT (C:=C) (nm:=a1) (q:=a2) (N:=N) (bs:=a3) (bm:=tl) (hdct:=a4) (sn:=a5) (sub:=a6) (ab:=a7) (col:=a8) (dd:=a9) (k0:=b0) (k1:=b1) (k2:=b2) (k3:=b3) (k5:=b5)
  da (mN:=mN) (T.hasType da.hasBase) (I.ok.hd hc) (by rw [he];show (false||(backTo cpos (starEach es X.env)).any (·.1))=false;rw [hpl];rfl) hni (yg I hg hm ⟨rfl,?_⟩ hdb)
 have hw:=ha cpos pins s σ H _ I h
 rw [he] at hw ⊢
 refine Calls.evalArgs_plain (ax hw (λus s1 ⟨vs,H1,I1,r,hl,q⟩=>⟨rfl,by rw [←r.length];exact hl,I1.bk _ _ hC,hN.keeps I1.bk,T.keeps I1.bk,λh' e hx=>hR pins σ H1 s1 h' e C us I1 hx q⟩) λ_ _ z=>z)
end
def Sm (n:Nat)(i:Int):Prop:=i.natAbs<2 ^ n
theorem Sm.mono {n m:Nat}{i:Int}(h:Sm n i)(hm:n≤m):Sm m i:=aG h (Nat.pow_le_pow_right (by decide) hm)
theorem Sm.of_le {n:Nat}{i j:Int}(h:Sm n j)(e:i.natAbs≤j.natAbs):Sm n i:=cZ e h
theorem Sm.log {n:Nat}{i:Int}(h:Sm n i)(hn:n≤9000):i.natAbs.log2<9000:=by
 by_cases h0:i.natAbs=0
 ·rw [h0]
  decide
 ·exact aG ((Nat.log2_lt h0).mpr h) hn
theorem Sm.noPl {n:Nat}{i j:Int}(h:Sm n j)(hn:n≤9000):Builtin.divisionGoesByPylong i j=false:=PyProof.noPylong_of_log2 (h.log hn)
section
variable {X:Cx}
theorem w5:OpR X (binaryOp .Mult) (rI IntMulOk λi j=>.int (i*j)):=opI λ_ _ _ _ _ _ _ hc q=>mul_int q hc
theorem v5:OpR X (binaryOp .FloorDiv) (rI (λ_ j=>0<j∧Sm 9000 j) λi j=>.int (i/j)):=opI λi j _ _ _ _ _ hc q =>
 floordiv_int (by lia) (by rw [Int.fdiv_eq_ediv_of_nonneg i (Int.le_of_lt hc.1)];exact q) (.inl (hc.2.noPl (al _)))
theorem Qx:vm X (.builtin "isinstance") (λxs H Q=>∃x T t b,xs=[x,.ty T]∧TyOf X.K H x t∧PySem.W.kitOne X.K t (.type T)=some b∧Q (.bl b) H):=by
 intro pins s σ H xs us Q I r h
 obtain ⟨x,T,t,b,rfl,ty,e,q⟩:=h
 obtain ⟨u,u',rfl,r1,r2⟩:=qy7 r
 cases r2
 exact qvp I r1 ty e λtk=>⟨.bl b,H,I.tok tk,rfl,q⟩
end
mutual
def RD (K:Aa)(H:Hp):PyData→V→Prop
 |.none,v=>v=.non
 |.bool b,v=>v=.bl b
 |.int i,v=>v=.int i
 |.str x,v=>v=.str x
 |.list ds,v=>∃a xs,v=.ref a∧SqL K H a xs∧RDs K H ds xs
 |.tuple ds,v=>∃a xs,v=.ref a∧SqT K H a xs∧RDs K H ds xs
 |.dict _,_=>False
def RDs (K:Aa)(H:Hp):List PyData→List V→Prop
 |[],xs=>xs=[]
 |d::ds,xs=>∃y ys,xs=y::ys∧RD K H d y∧RDs K H ds ys
end
section
variable {X:Cx}{pins:List (Aj×Obj)}{σ:St}{H:Hp}{s:Ab}
mutual
theorem Wg (I:Inv X pins σ H s):∀(d:PyData) (v:V) (u:Ag),RD X.K H d v→RelV v u→∃as,Reads s.heap u d as
 |.none,v,u,h,r=>by
  rw [RD] at h;subst h
  cases (show u=Value.none from r)
  exact ⟨_,.none⟩
 |.bool b,v,u,h,r=>by
  rw [RD] at h;subst h
  cases (show u=Value.bool b from r)
  exact ⟨_,.bool b⟩
 |.int i,v,u,h,r=>by
  rw [RD] at h;subst h
  obtain ⟨t,rfl⟩:=(show ∃t,u=Value.int i t from r)
  exact ⟨_,.int i t⟩
 |.str x,v,u,h,r=>by
  rw [RD] at h;subst h
  obtain ⟨t,rfl⟩:=(show ∃t,u=Value.str x t from r)
  exact ⟨_,.str x t⟩
 |.list ds,v,u,h,r=>by
  rw [RD] at h
  obtain ⟨a,xs,rfl,hs,hd⟩:=h
  cases (show u=Value.ref a from r)
  obtain ⟨its,rv,⟨o,n,e1,e2,_,e3⟩,_⟩:=I.list hs
  obtain ⟨as,ha⟩:=u7 I ds xs its hd rv
  exact ⟨_,.list e1 e2 e3 (by simpa using ha)⟩
 |.tuple ds,v,u,h,r=>by
  rw [RD] at h
  obtain ⟨a,xs,rfl,hs,hd⟩:=h
  cases (show u=Value.ref a from r)
  obtain ⟨its,rv,⟨o,e1,e2,n,e3⟩,_⟩:=I.tuple hs
  obtain ⟨as,ha⟩:=u7 I ds xs its hd rv
  exact ⟨_,.tuple e1 e2 e3 (by simpa using ha)⟩
 |.dict _,_,_,h,_=>by
  rw [RD] at h
  exact h.elim
theorem u7 (I:Inv X pins σ H s):∀(ds:List PyData) (vs:List V) (us:List Ag),RDs X.K H ds vs→Vals vs us→∃as,ReadsAll s.heap us ds as
 |[],vs,us,h,r=>by
  rw [RDs] at h;subst h
  cases r
  exact ⟨_,.nil⟩
 |d::ds,vs,us,h,r=>by
  rw [RDs] at h
  obtain ⟨y,ys,rfl,h1,h2⟩:=h
  cases r with
  |cons r1 r2 =>
   obtain ⟨as,a1⟩:=Wg I d y _ h1 r1
   obtain ⟨bs,a2⟩:=u7 I ds ys _ h2 r2
   exact ⟨_,.cons a1 a2⟩
end
def rEqD (K:Aa)(neg:Bool):R2:=λx y H Q=>∃d e,RD K H d x∧RD K H e y∧d.canLay0=true∧e.canLay0=true∧min d.depth e.depth≤60∧Q (.bl (if neg then !PyData.eqv d e else PyData.eqv d e)) H
theorem qu2 (hu:X.A.units+64<cLine):OpR X (compareOp .Eq) (rEqD X.K false):=by
 intro pins s σ H x y v u Q I rx ry h
 obtain ⟨d,e,h1,h2,c1,c2,dp,q⟩:=h
 obtain ⟨as,a1⟩:=Wg I d x v h1 rx
 obtain ⟨bs,a2⟩:=Wg I e y u h2 ry
 exact PySem.SeqAt.compareEq_reads a1 a2 c1 c2 (by lia) ⟨.bl _,H,I,rfl,q⟩
end
def ptD (p:Int×Int):PyData:=.tuple [.int p.1,.int p.2]
theorem qwx:∀(xs ys:List Int),PyData.eqvAll (xs.map .int) (ys.map .int)=decide (xs=ys)
 |[],[]=>rfl
 |[],_::_=>rfl
 |_::_,[]=>rfl
 |x::xs,y::ys=>by
  rw [aK,aK,PyData.eqvAll,qwx xs ys,PyData.eqv]
  by_cases h:x=y
  ·subst h;simp
  ·simp [h]
theorem eqv_pt (p q:Int×Int):PyData.eqv (ptD p) (ptD q)=decide (p=q):=by
 obtain ⟨a,b⟩:=p
 obtain ⟨c,d⟩:=q
 unfold ptD
 rw [PyData.eqv]
 have:=qwx [a,b] [c,d]
 rw [aK,aK,cT,aK,aK,cT] at this
 rw [this]
 simp
end L2
namespace L2
open PySem PySem.Spec PyProof.Rows
section
variable {P:Ac}{w:Ah}{K:Aa}{mg:Str→Option Ag}{base:Heap}
theorem Fun.okX {x qual:Str}{st:Stmt}{f:Aj}{fd:Ad}{N ps:List Str}{k:Nat}{sp:Sp}(F:Fun K x qual st f fd)(S:FnScope N ps (q9 st))(len:∀vs H Q E,sp vs H Q E→vs.length=ps.length)
  (body:∀(cdv:Ag) (A:Ae) (outer:List Env) (s:Ab) (H:Hp) (vs:List V) (Q:VK) (E:XK),Room k (A.deeper (envOfC qual (q9 st) s.heap.objs.size f cdv))→sp vs H Q E →
   ∃t,PSs (Y6 (CXE P w) P w K mg base N qual (q9 st) f cdv A outer s H E) (zw st) t∧t { nx:=λ_ H'=>Q .non H',rt:=Q } (ux N vs) H):FnOk P w K mg base (CXE P w) (k+1) f fd ps sp:=by
 obtain ⟨oc,od,kV,doc,pm,an,cdv,ct,osl,rfl,lk,hcd⟩:=F.ex
 exact fn_of lk hcd S len λA outer s H vs Q E hr hsp=>body cdv A outer s H vs Q E hr hsp
structure DefIn (K:Aa)(x:Str)(st:Stmt):Prop where
 ex:∃f fd,PySem.W.nsIn K mainGlobals x=some (some (.ref f))∧Fun K x x st f fd
theorem def_mk {x:Str}{st:Stmt}{f:Aj}{oc:Ag}{od an:Option Aj}{osl:Array (Option Ag)}{kV doc pm cdv ct:Ag}(a:PySem.W.nsIn K mainGlobals x=some (some (.ref f)))
  (l:K.lookup f=some ⟨oc,od,.func (PySem.W.fnOf x x (zd st) (zw st) (q9 st) .none kV doc pm an cdv ct),osl⟩) (c:PySem.W.codeIn K cdv x=true) (k:PySem.W.keepIn K (.ref f)=true):DefIn K x st:=⟨_,_,a,quw l c k⟩
def xz (x:Str)(st:Stmt)(ps:List Str):Prop:=∀(kV doc pm:Ag) (an:Option Aj) (cdv ct:Ag) (us:List Ag),us.length=ps.length→bindArgs (PySem.W.fnOf x x (zd st) (zw st) (q9 st) .none kV doc pm an cdv ct) ⟨us,[]⟩=pure (ps.zip us)
structure Cal (P:Ac)(w:Ah)(K:Aa)(mg:Str→Option Ag)(base:Heap)(x:Str)(k:Nat)(sp:Sp):Prop where
 ex:∃f fd ps,mg x=some (.ref f)∧FnOk P w K mg base (CXE P w) k f fd ps sp∧PySem.W.keepIn K (.ref f)=true∧Binds K fd ps []
theorem DefIn.cal {x:Str}{st:Stmt}{ps:List Str}{k:Nat}{sp:Sp}{h:Heap}(d:DefIn K x st)(KX:K.In h)(G:h.Ns mainGlobals mg)(b:xz x st ps)(ok:∀f fd,Fun K x x st f fd→FnOk P w K mg base (CXE P w) k f fd ps sp):Cal P w K mg base x k sp:=by
 obtain ⟨f,fd,a,F⟩:=d.ex
 exact ⟨f,fd,ps,aZ KX G a,ok f fd F,F.kp,F.binds b⟩
end
section
variable {X:Cx}{x:Str}{k:Nat}{sp:Sp}{E:St→XK}{p pos:Pos}{e:Expr}{es:List Expr}{t:TA}
theorem qf (c:Cal X.prog X.w X.K X.mg X.base x k sp)(hr:Room k X.A)(hg:Gl X x)(hx:v9 X E)
  (ha:PA X (e::es) t) (hdb:(x==("__debug__" : Str))=false:=by decide) (he:starEach (e::es) X.env=(false,eval e X.env)::starEach es X.env:=by rfl) (hpl:(backTo pos (starEach es X.env)).any (·.1)=false:=by rfl) :
  PE X (.Call (.Name x p) (e::es) [] pos) (Jg sp E t):=by
 obtain ⟨f,fd,ps,hm,F,kp,b⟩:=c.ex
 exact qym F hr hg hm kp b hx ha hdb he hpl
end
def tCut (t u:TS):TS:=λD σ H=>∃R:St→Hp→Prop,t { D with nx:=R } σ H∧∀σ' H',R σ' H'→u D σ' H'
theorem Y1 {X:Cx}{st:Stmt}{rest:List Stmt}{t u:TS}(h1:PS X st t)(h2:PSs X rest u):PSs X (st::rest) (tCut t u):=by
 intro pins s σ H D I ⟨R,h,hR⟩
 refine du (thn (h1 pins s σ H { D with nx:=R } I h) λf s1 q=>?_)
 cases f with
 |next =>
  obtain ⟨σ1,H1,I1,q1⟩:=q
  exact h2 pins s1 σ1 H1 D I1 (hR σ1 H1 q1)
 |brk=>exact q
 |cont=>exact q
 |ret u=>exact q
theorem zf {c A B:Prop}[Decidable c](h1:c→A)(h2:¬ c→B):if decide c=true then A else B:=by
 by_cases h:c
 ·rw [bn h]
  exact y6 (h1 h)
 ·rw [aX h]
  exact kn (h2 h)
theorem iteND {c A B:Prop}[Decidable c](h1:¬ c→A)(h2:c→B):if (!decide c)=true then A else B:=by
 by_cases h:c
 ·rw [bn h]
  exact kn (h2 h)
 ·rw [aX h]
  exact y6 (h1 h)
theorem deqI {i j:Int}:decide (V.int i=V.int j)=decide (i=j):=by
 by_cases h:i=j
 ·subst h;simp
 ·simp [h]
theorem k9 {i j:Int}{A B:Prop}(h1:i=j→A)(h2:i≠j→B):if decide (V.int i=V.int j)=true then A else B:=by
 rw [deqI]
 exact zf h1 h2
theorem Same.upd {H:Hp}{p:Aj}{o:HO}(n:H p=none):Same H (upd H p o):=λb u e=>by
 rw [wb (wu e n)]
 exact e
theorem Same.rd {H H':Hp}{a:Aj}{o:HO}(h:Same H H')(r:Rd H a o):Rd H' a o:=by
 rcases r with r|⟨u,r⟩
 ·exact .inl (h a _ r)
 ·exact .inr ⟨u,h a _ r⟩
theorem Same.sqt {K:Aa}{H H':Hp}{a:Aj}{xs:List V}(h:Same H H')(s:SqT K H a xs):SqT K H' a xs:=by
 rcases s with s|s
 ·exact .inl (h.rd s)
 ·exact .inr s
theorem Same.sql {K:Aa}{H H':Hp}{a:Aj}{xs:List V}(h:Same H H')(s:SqL K H a xs):SqL K H' a xs:=h.seq s
theorem SqT.new {K:Aa}{H:Hp}{p:Aj}{xs:List V}:SqT K (upd H p (.tup xs)) p xs:=SqT.of qm
theorem SqL.new {K:Aa}{H:Hp}{p:Aj}{xs:List V}:SqL K (upd H p (.lst xs)) p xs:=SqL.of qm
theorem y9:bootBuiltins "abs" = some (.builtin "abs"):=by decide +kernel
theorem qjf:bootBuiltins "all" = some (.builtin "all"):=by decide +kernel
theorem yh {ns:List Int}{i:Int}(h0:0≤i)(h1:i<ns.length):atI (ns.map V.int) i=some (V.int (ns.getD i.toNat 0)):=by
 have hl:i.toNat<ns.length:=by lia
 have e:(ns.map V.int)[i.toNat]?=some (V.int (ns.getD i.toNat 0)):=by
  rw [aB,ak,ag hl]
  rfl
 have:=J1 e
 rwa [cj h0] at this
def qwq (ns:List Int)(i:Int):Int:=if i<ns.length then ns.getD i.toNat 0 else if (ns.length:Int)=0 then 7*i+3 else ns.getD (i%ns.length).toNat 0+1009*i
def divs (c:Int):Nat→Int
 |0=>c
 |n+1=>divs c n/1000
def qqq (K:Aa):Sp:=λvs H Q _=>∃(a:Aj) (ns:List Int) (i:Int),vs=[.ref a,.int i]∧SqL K H a (ns.map V.int)∧0≤i∧∀r,r=qwq ns i→Q (.int r) H
def jr (c:Int):Int:=if c<0 then -c else c
def qqh (c t:Int):Int:=(c%1000003*48271+t*7919+101)%999983
def qwc (c t:Int):Int:=(qqh c t*qqh c t+c%1000003*31+t*104729)%1000033
def qwr (c t:Int):Int:=if 10 ^ 18≤jr c then (if c<0 then divs (jr c) t.toNat%1000 else divs (jr c) t.toNat) else (qwc c t*qwc c t+qqh c t*17+t*30011)%999979
def qw2 (ns:List Int)(i t m:Int):Int:=qwr (qwq ns i) t%m
theorem qjs (ns:List Int)(i t m:Int)(h:0<m):0≤qw2 ns i t m:=aQ _ (by lia)
theorem qu4 (ns:List Int)(i t m:Int)(h:0<m):qw2 ns i t m<m:=aJ _ h
theorem qj9 {c t:Int}(h:10 ^ 18≤jr c)(n:c<0):qwr c t=divs (jr c) t.toNat%1000:=by rw [qwr,au h,au n]
theorem qju {c t:Int}(h:10 ^ 18≤jr c)(n:¬ c<0):qwr c t=divs (jr c) t.toNat:=by rw [qwr,au h,am n]
theorem qj5 {c t:Int}(h:¬ 10 ^ 18≤jr c):qwr c t=(qwc c t*qwc c t+qqh c t*17+t*30011)%999979:=by rw [qwr,am h]
def yz (K:Aa):Sp:=λvs H Q _=>∃(a:Aj) (ns:List Int) (i t m:Int),vs=[.ref a,.int i,.int t,.int m]∧SqL K H a (ns.map V.int)∧0≤i∧0≤t∧t<1000000∧0<m ∧
 ∀r,r=qw2 ns i t m→0≤r→r<m→Q (.int r) H
theorem Sm.small {n:Nat}{i:Int}(h1:-(2 ^ 64)≤i)(h2:i≤2 ^ 64)(hn:65≤n):Sm n i:=by
 refine Sm.mono (n:=65) ?_ hn
 unfold Sm
 lia
def qvk (K:Aa):Sp:=λvs H Q _=>∃(a:Aj) (ns:List Int),vs=[.ref a]∧SqL K H a (ns.map V.int)∧ns.length≤63∧∀H',Q (.bl true) H'
theorem sz1 {x:V}:[x].length≤sizeLine:=by show 1≤sizeLine;decide
theorem sz2 {x y:V}:[x,y].length≤sizeLine:=by show 2≤sizeLine;decide
theorem sz0:([]:List V).length≤sizeLine:=by show 0≤sizeLine;decide
end L2
namespace L2
open PySem
def Qr (x y:Int):Int:=((Nat.gcd x.toNat y.toNat:Nat):Int)
theorem qku {x:Int}(h:0≤x):Qr x 0=x:=by
 unfold Qr
 have:(0:Int).toNat=0:=rfl
 rw [this,Nat.gcd_zero_right]
 lia
theorem qvs {x y:Int}(hx:0≤x)(hy:0<y):Qr y (x%y)=Qr x y:=by
 unfold Qr
 have e:(x%y).toNat=x.toNat%y.toNat:=by
  have h1:x=(x.toNat:Int):=by lia
  have h2:y=(y.toNat:Int):=by lia
  have h3:x%y=((x.toNat%y.toNat:Nat):Int):=by
   conv=>lhs;rw [h1,h2]
   exact (Int.natCast_emod _ _).symm
  rw [h3]
  exact b9 _
 rw [e,Nat.gcd_comm y.toNat,←Nat.gcd_rec,Nat.gcd_comm]
theorem qvx (t:Int):jr t=(t.natAbs:Int):=by
 unfold jr
 split <;> lia
theorem wq9 (t:Int):0≤jr t:=by
 rw [qvx]
 lia
theorem zc (t b:Int):Qr (jr t) b=((Nat.gcd t.natAbs b.toNat:Nat):Int):=by
 unfold Qr
 rw [qvx,b9]
def gOf (t b:Int):Int:=Qr (jr t) b
def qb (t b:Int):Int×Int:=(t/gOf t b,b/gOf t b)
theorem k4 {t b:Int}(h:1≤b):1≤gOf t b:=by
 unfold gOf
 rw [zc]
 have:0<Nat.gcd t.natAbs b.toNat:=Nat.gcd_pos_of_pos_right _ (by lia)
 lia
theorem gOf_le {t b:Int}(h:1≤b):gOf t b≤b:=by
 unfold gOf
 rw [zc]
 have:Nat.gcd t.natAbs b.toNat≤b.toNat:=Nat.gcd_le_right _ (by lia)
 lia
theorem qjw {t b:Int}(h:1≤b):gOf t b∣b:=by
 unfold gOf
 rw [zc]
 have h1:((Nat.gcd t.natAbs b.toNat:Nat):Int)∣(b.toNat:Int):=dz.mpr (Nat.gcd_dvd_right _ _)
 have h2:(b.toNat:Int)=b:=by lia
 rwa [h2] at h1
theorem qv8 {t b:Int}:gOf t b∣t:=by
 unfold gOf
 rw [zc]
 have h1:((Nat.gcd t.natAbs b.toNat:Nat):Int)∣(t.natAbs:Int):=dz.mpr (Nat.gcd_dvd_left _ _)
 exact Int.dvd_natAbs.mp h1
theorem qwz {t b:Int}:gOf t b*(t/gOf t b)=t:=cL qv8
theorem Z1 {t b:Int}(h:1≤b):gOf t b*(b/gOf t b)=b:=cL (qjw h)
theorem vv {t b:Int}(h:1≤b):(qb t b).1*b=t*(qb t b).2:=by
 unfold qb
 dsimp only
 have h1:=qwz (t:=t) (b:=b)
 have h2:=Z1 (t:=t) (b:=b) h
 conv=>lhs;rw [←h2]
 conv=>rhs;rw [←h1]
 rw [h1,h2]
 have e1:t/gOf t b*b=t/gOf t b*(gOf t b*(b/gOf t b)):=by rw [h2]
 have e2:t*(b/gOf t b)=gOf t b*(t/gOf t b)*(b/gOf t b):=by rw [h1]
 rw [e1,e2,←cK,bf (t/gOf t b)]
theorem zb {t b:Int}(h:1≤b):1≤(qb t b).2:=by
 show 1≤b/gOf t b
 have h2:=Z1 (t:=t) (b:=b) h
 have h3:=k4 (t:=t) h
 have:0<b/gOf t b:=by
  rcases bA 0 (b/gOf t b) with z|z
  ·exact z
  ·have:=bb z (show 0≤gOf t b by lia)
   rw [h2,dG] at this
   lia
 lia
theorem Qq {t b:Int}(h:1≤b):(qb t b).2≤b:=Int.ediv_le_self _ (by lia)
theorem low_co {t b:Int}(h:1≤b):gOf (qb t b).1 (qb t b).2=1:=by
 have h3:=k4 (t:=t) h
 have hb:=zb (t:=t) h
 obtain ⟨g,hg⟩:∃g:Nat,gOf t b=(g:Int):=⟨_,by unfold gOf;exact zc t b⟩
 have g1:0<g:=by lia
 have hgg:g=Nat.gcd t.natAbs b.toNat:=by
  have:(g:Int)=((Nat.gcd t.natAbs b.toNat:Nat):Int):=by rw [←hg];unfold gOf;exact zc t b
  lia
 have et:g*(qb t b).1.natAbs=t.natAbs:=by
  have:=qwz (t:=t) (b:=b)
  have e:=bQ Int.natAbs this
  rw [dQ,hg] at e
  simpa [qb,hg] using e
 have eb:g*(qb t b).2.toNat=b.toNat:=by
  have:=Z1 (t:=t) (b:=b) h
  rw [hg] at this
  have q:(qb t b).2=b/(g:Int):=by unfold qb;rw [hg]
  have q2:b/(g:Int)=((b/(g:Int)).toNat:Int):=by rw [←q];lia
  rw [q]
  rw [q2] at this
  have:((g*(b/(g:Int)).toNat:Nat):Int)=b:=by rw [dM];exact this
  lia
 unfold gOf
 rw [zc]
 have key:g*Nat.gcd (qb t b).1.natAbs (qb t b).2.toNat=g*1:=by
  rw [←Nat.gcd_mul_left,et,eb,←hgg,Nat.mul_one]
 have:=Nat.eq_of_mul_eq_mul_left g1 key
 rw [this]
 rfl
theorem wq3 {t b c:Int}(h:1≤b)(hc:1≤c):gOf (t*c) (b*c)=gOf t b*c:=by
 unfold gOf
 rw [zc,zc]
 have e1:(t*c).natAbs=t.natAbs*c.toNat:=by
  rw [dQ]
  have:c.natAbs=c.toNat:=by lia
  rw [this]
 have e2:(b*c).toNat=b.toNat*c.toNat:=by
  have hb:b=(b.toNat:Int):=by lia
  have hc':c=(c.toNat:Int):=by lia
  have:b*c=((b.toNat*c.toNat:Nat):Int):=by
   rw [dM,←hb,←hc']
  lia
 rw [e1,e2,Nat.gcd_mul_right,dM]
 have:(c.toNat:Int)=c:=by lia
 rw [this]
theorem j0 {t b c:Int}(h:1≤b)(hc:1≤c):qb (t*c) (b*c)=qb t b:=by
 unfold qb
 rw [wq3 h hc]
 have hg:=k4 (t:=t) h
 rw [bZ _ _ (show 0<c by lia),bZ _ _ (show 0<c by lia)]
end L2
namespace L2
open PySem PySem.Spec PyProof.Rows
def CapAll (env:Env):List (Str×Aj)→Prop
 |[]=>True
 |(y,c)::r=>env.cells.lookup y=some c∧CapAll env r
theorem CapAll.look {env:Env}:∀ {cl:List (Str×Aj)},CapAll env cl→∀ {y:Str} {c:Aj},cl.lookup y=some c→env.cells.lookup y=some c
 |[],_,_,_,e=>by cases e
 |(z,d)::r,h,y,c,e=>by
  rw [cc] at e
  cases hb:y==z with
  |true =>
   rw [hb] at e
   rw [eq_of_beq hb]
   exact h.1.trans e
  |false =>
   rw [hb] at e
   exact CapAll.look h.2 e
def HasAll (cl:List (Str×Aj)):List (Str×NameKind)→Prop
 |[]=>True
 |(n,k)::r=>(k=.free→∃c,cl.lookup n=some c)∧k≠.cell∧HasAll cl r
theorem HasAll.nocell {cl:List (Str×Aj)}:∀ {ns:List (Str×NameKind)},HasAll cl ns→∀y∈ns,y.2≠.cell
 |(n,k)::r,h,y,hy=>by
  rcases aw.mp hy with rfl|hy
  ·exact h.2.1
  ·exact HasAll.nocell h.2.2 y hy
theorem HasAll.has {cl:List (Str×Aj)}{env:Env}:∀ {ns:List (Str×NameKind)},HasAll cl ns→∀ {x:Str} {q:NameKind},q=.cell∨q=.free →
  (ns.map λ(n,k)=>if (k==NameKind.free&&env.scope.kind==.function&&env.kindOf n==some .cell) then (n,NameKind.cell) else (n,k)).lookup x=some q→∃c,cl.lookup x=some c
 |[],_,_,_,_,e=>by cases e
 |(n,k)::r,h,x,q,hq,e=>by
  have ih:=HasAll.has (env:=env) h.2.2 (x:=x) hq
  rw [aK] at e
  by_cases hc:(k==NameKind.free&&env.scope.kind==.function&&env.kindOf n==some .cell)=true
  ·have e':=e
   dsimp only at e'
   rw [au hc,cc] at e'
   cases hb:x==n with
   |true =>
    rw [bG,bG] at hc
    obtain ⟨c,hcc⟩:=h.1 (eq_of_beq hc.1.1)
    exact ⟨c,by rw [eq_of_beq hb];exact hcc⟩
   |false =>
    rw [hb] at e'
    exact ih e'
  ·have e':=e
   dsimp only at e'
   rw [am hc,cc] at e'
   cases hb:x==n with
   |true =>
    rw [hb] at e'
    have ek:k=q:=aj e'
    rcases hq with rfl|rfl
    ·exact absurd ek h.2.1
    ·obtain ⟨c,hcc⟩:=h.1 ek
     exact ⟨c,by rw [eq_of_beq hb];exact hcc⟩
   |false =>
    rw [hb] at e'
    exact ih e'
def CapIx (X:Cx)(scope:Scope)(cl:List (Str×Aj)):List Nat→Prop
 |[]=>True
 |j::r=>(∃y c,X.N[j]?=some y∧X.env.scope.names.lookup y=some .cell∧(relabel scope X.env).names.lookup y=some .cell∧cl.lookup y=some c)∧CapIx X scope cl r
theorem CapIx.get {X:Cx}{scope:Scope}{cl:List (Str×Aj)}:∀ {M:List Nat},CapIx X scope cl M→∀ {k j:Nat},M[k]?=some j →
  ∃y c,X.N[j]?=some y∧X.env.scope.names.lookup y=some .cell∧(relabel scope X.env).names.lookup y=some .cell∧cl.lookup y=some c
 |[],_,k,j,e=>by cases e
 |i::r,h,0,j,e=>by
  cases e
  exact h.1
 |i::r,h,k+1,j,e=>CapIx.get h.2 (k:=k) e
def qzr (X:Cx)(x:Str)(M:List Nat):List Str:=x::M.map λj=>X.N.getD j Str.empty
def vh (M:List Nat)(σ:St)(o:Option V):St:=o::M.map λj=>(σ[j]?).join
abbrev yu (X:Cx)(scope:Scope)(cl:List (Str×Aj))(x:Str)(M:List Nat)(C:Aj)(s2:Ab)(H2:Hp)(fp:List Aj)(pn:List (Aj×Obj)):Cx :=
 { X with N:=qzr X x M,s₀:=s2,H₀:=H2,env:=compEnvC scope cl C X.env,outer:=X.stack,ex:=fp,fn:=λ_=>false,pn:=pn,xe:=λ_ _=>False }
section
variable {X:Cx}{pins:List (Aj×Obj)}{σ:St}{H:Hp}{s2:Ab}{scope:Scope}{cl:List (Str×Aj)}{x:Str}{M:List Nat}{fp:List Aj}{C:Aj}{h1:Heap}{tk:Nat}
theorem Inv.compG {oo:HO}{xs:List Str}(I:Inv X pins σ H s2)(hc:CapAll X.env cl)(hh:HasAll cl scope.names)(hm:CapIx X scope cl M)(hk:scope.kind=.function)(hC:s2.heap.objs.size<C)
  (keep:∀b o,s2.heap.get? b=some o→h1.get? b=some o) (hn:h1.Ns C λ_=>none) (hD:ObjOk X.prog X.w (upd H s2.heap.objs.size oo) h1 s2.heap.objs.size oo)
  (hfp:∀b∈fp,z4 X pins H b) (hob:∀b∈fp,∃o,s2.heap.get? b=some o) :
  Inv { X with N:=xs++M.map λj=>X.N.getD j Str.empty,s₀:=s2,H₀:=H,env:=compEnvC scope cl C X.env,outer:=X.stack,ex:=fp,fn:=λ_=>false,pn:=X.pn++pins,xe:=λ_ _=>False } [] ((xs.map λ_=>none)++M.map λj=>(σ[j]?).join) (upd H s2.heap.objs.size oo) { s2 with heap:=h1,toks:=tk }:=by
 have hfr:=I.hok.fresh (a:=s2.heap.objs.size) (al _)
 have o:=I.ok
 have hcc:∀y c,cl.lookup y=some c→X.env.cells.lookup y=some c:=λy c e=>hc.look e
 have hlt:∀b∈fp,b<s2.heap.objs.size:=λb hb=>by
  obtain ⟨ob,e⟩:=hob b hb
  exact af e
 have hstk:∀b∈fp,b∉frs X.stack:=λb hb z=>by
  rcases aw.mp (I.stkSub b z) with z|z
  ·exact (hfp b hb).2.1 z
  ·exact (hfp b hb).2.2.1 z
 have hCn:H C=none:=I.hok.fresh (bq hC)
 refine ⟨⟨o.mod,hk,o.glob,o.blt,bq hC,λy z c e1 e2=>o.inj y z c (hcc y c e1) (hcc z c e2),λy hy=>?_,λy c z=>(aA z).elim,o.hd,o.frames,.inl rfl,λb hb=>⟨aq (aI (hlt b hb) hC),λy c e=>(hfp b hb).2.2.2.2.1 y c (hcc y c e)⟩,
  λb ob e=>I.bs b ob e,bp o.bsz I.sz,λb ob e z=>?_,hstk,I.stack,I.stkFree⟩,rfl,I.bare,?_,?_,λy c e=>?_,?_,λy c e=>?_,λp hp=>?_,?_,?_⟩
 ·rcases hy with hy|hy
  ·exact hh.has (.inl rfl) hy
  ·exact hh.has (.inr rfl) hy
 ·obtain ⟨e1,e2⟩:=I.bs b ob e
  exact (hfp b z).2.2.2.1.elim (λq=>o.noex b ob e q) λq=>by
   have:=o.bs b ob e
   exact aE _ (aG (af this.1) q)
 ·exact (Un.laid (fs:=frs X.stack) (ex:=fp) (o:=oo) keep (al _) hfr)
 ·refine ⟨_,hn,λi z v e1 e2 e3=>?_⟩
  rcases br i xs.length with hi|hi
  ·have e2:((xs.map λ_=>(none:Option V))++M.map λj=>(σ[j]?).join)[i]?=some (some v):=e2
   rw [aM (by rw [ac];exact hi),aB,ag hi] at e2
   cases e2
  have e1':(xs++M.map λj=>X.N.getD j Str.empty)[i]?=some z:=e1
  have e2':((xs.map λ_=>(none:Option V))++M.map λj=>(σ[j]?).join)[i]?=some (some v):=e2
  rw [aH hi] at e1'
  rw [aH (by rw [ac];exact hi),ac] at e2'
  generalize i-xs.length=k at e1' e2'
  rw [aB] at e1' e2'
  cases hj:M[k]? with
  |none=>rw [hj] at e1';cases e1'
  |some j =>
   rw [hj] at e1' e2'
   obtain ⟨y,c,f1,f2,f3,f4⟩:=hm.get hj
   have ez:X.N.getD j Str.empty=z:=aj e1'
   rw [ak,f1] at ez
   have ez':y=z:=ez
   subst ez'
   have ev:(σ[j]?).join=some v:=aj e2'
   have ev':σ[j]?=some (some v):=by
    cases hs:σ[j]? with
    |none=>rw [hs] at ev;cases ev
    |some w' =>
     rw [hs] at ev
     have:w'=some v:=ev
     rw [this]
   obtain ⟨m,hns,hl⟩:=I.loc
   obtain ⟨u,r,l⟩:=hl j y v f1 ev' (.inr (.inl f2))
   refine ⟨u,r,.inr ⟨.inl f3,c,f4,?_⟩⟩
   rcases l with ⟨lk,_⟩|⟨_,c',lc,li⟩
   ·have:X.env.scope.names.lookup y=some .local:=lk
    rw [f2] at this
    cases this
   ·rw [hcc y c f4] at lc
    have:=aj lc
    subst this
    exact li.keeps keep
 ·obtain ⟨v,hv⟩:=I.cell y c (hcc y c e)
  exact ⟨v,hv.keeps keep⟩
 ·show upd H s2.heap.objs.size oo C=none
  rw [wb (Nat.ne_of_gt hC)]
  exact hCn
 ·show upd H s2.heap.objs.size oo c=none
  obtain ⟨v,ob,e1,e2⟩:=I.cell y c (hcc y c e)
  rw [wb (aq (af e1))]
  exact I.freeC y c (hcc y c e)
 ·have hp':p∈X.pn++pins:=(aP.mp hp).elim (λz=>z) λz=>nomatch z
  obtain ⟨e1,e2,e3,e4,e5⟩:=I.pin p hp'
  refine ⟨keep _ _ e1,?_,aq (aI (af e1) hC),λz=>?_,e5⟩
  ·rw [wb (aq (af e1))]
   exact e2
  ·rcases aw.mp (I.stkSub p.1 z) with z|z
   ·exact e3 z
   ·exact e4 z
 ·exact I.hok.laid keep (al _) hD
 ·show ((xs.map λ_=>(none:Option V))++M.map λj=>(σ[j]?).join).length=(xs++M.map λj=>X.N.getD j Str.empty).length
  simp only [ar,ac]
theorem Inv.comp (I:Inv X pins σ H s2)(hc:CapAll X.env cl)(hh:HasAll cl scope.names)(hm:CapIx X scope cl M)(hk:scope.kind=.function)(hC:s2.heap.objs.size<C)
  (keep:∀b o,s2.heap.get? b=some o→h1.get? b=some o) (hn:h1.Ns C λ_=>none) (hD:h1.get? s2.heap.objs.size=some { cls:=.type "list",data:=.seq #[] 0 })
  (hfp:∀b∈fp,z4 X pins H b) (hob:∀b∈fp,∃o,s2.heap.get? b=some o) :
  Inv (yu X scope cl x M C s2 H fp (X.pn++pins)) [] (vh M σ none) (upd H s2.heap.objs.size (.lst [])) { s2 with heap:=h1,toks:=tk }:=I.compG (xs:=[x]) hc hh hm hk hC keep hn ⟨ba _,[],0,.nil,hD⟩ hfp hob
theorem Inv.uncomp {pins':List (Aj×Obj)}{σ':St}{H':Hp}{s':Ab}{h':Heap}(I:Inv X pins σ H s2)(hC:s2.heap.objs.size≤C)(hfp:∀b∈fp,z4 X pins H b)
  (J:Inv (yu X scope cl x M C s2 H fp (X.pn++pins)) pins' σ' H' s') (hs:Heap.SameBut C s'.heap h'):Inv X pins σ H' { s' with heap:=h' }:=by
 have hb:=J.base
 have nC:∀b o,s2.heap.get? b=some o→b≠C:=λb o e=>aq (aG (af e) hC)
 have st:∀b o,b≠C→s'.heap.get? b=some o→h'.get? b=some o:=λb o n e=>(hs.2 b n).trans e
 refine I.call' (s':={ s' with heap:=h' }) (ch:=fp) J.os ⟨λb o e n nb nx=>st b o (nC b o e) (hb.keep b o e n nb nx),λb o e n hb' nx=>?_,hb.free,λb o e nx=>?_,hb.tups,hb.frzs,hb.tbls⟩ ?_ J.bare λb hbf=>?_
 ·obtain ⟨sl,e1⟩:=hb.slot b o e n hb' nx
  exact ⟨sl,st b _ (nC b o e) e1⟩
 ·obtain ⟨o',e1⟩:=hb.there b o e nx
  exact ⟨o',st b _ (nC b o e) e1⟩
 ·intro b u hu
  have fr:H' C=none:=J.free
  refine (J.hok b u hu).stay (λc v hc e=>st c v ?_ e) (λ_ z=>z) λ_ _ z=>z
  rcases hc with rfl|hc
  ·intro z;rw [z,fr] at hu;cases hu
  ·intro z;rw [z,fr] at hc;cases hc
 ·obtain ⟨q1,q2,q3,q4,q5,q6⟩:=hfp b hbf
  exact ⟨q4,q2,q5,q6⟩
end
def Qk (J:It)(M:List Nat)(te:TE)(σ:St)(H1:Hp)(Q:VK):Prop:=∀p,H1 p=none→∃W:Nat→Nat→List V→Hp→Prop,(∃m,W 0 m [] (upd H1 p (.lst []))) ∧
 ∀i m ys H2,W i m ys H2→H2 p=some (.lst ys)∧ys.length<sizeLine∧((J.stop i H2∧Q (.ref p) H2)∨(J.go i H2∧∀v H3,J.yld i H2 v H3 →
  te (vh M σ (some v)) H3 λy H4=>H4 p=some (.lst ys)∧∃m',m'<m∧W (i+1) m' (ys++[y]) (upd H4 p (.lst (ys++[y])))))
def quu (M:List Nat)(wi:TI)(te:TE):TE:=λσ H Q=>wi σ H λJ H1=>Qk J M te σ H1 Q
theorem qkk {Y:Cx}{tg e:Expr}{k:Nat}{acc:Ag}{it:Aj}{fp:List Aj}{tn:Nat→Heap→Prop}{J:It}{ps:Pos}{REST:Sem PySem.Fin}{post:Result→Ab→Prop}{gg:TG}{pins:List (Aj×Obj)}{σ:St}{V:Nat→Nat→Hp→Prop}{Qd:Hp→Prop}{s0:Ab}{H0:Hp}{n0:Nat}
  (T:Turn Y.prog Y.w Y.K tg J fp it tn) (hc:Y.calm=true) (hx:∀v s,Y.xe v s→False)
  (hturn:compTurn e k (.ref it) acc Y.env=(standAt ps >>= λ_=>pyNext (.ref it) >>= λr=>match r with|none=>pure (.done .next)|some v=>letOwnedTupleGo tg (.ref it) v >>= λ_=>assign tg Y.env v >>= λ_=>REST))
  (hun:Y.A.under (.compLoop e k (.ref it) acc Y.env)=Y.A) (hden:(model Y.prog Y.w).den (.compLoop e k (.ref it) acc Y.env)=((compTurn e k (.ref it) acc Y.env).onRaise λz=>do noteFrame z Y.env;theTreesLotGoes z))
  (hg:PG Y tg gg) (fok:∀H2:Hp,(∀b∈fp,H2 b=none)→∀b∈fp,z4 Y pins H2 b)
  (hV:∀i n H2,V i n H2→(J.stop i H2∧Qd H2)∨(J.go i H2∧∀v H3,J.yld i H2 v H3→∃Z:St→Hp→Prop,gg v σ H3 Z∧∀σ4 H4,Z σ4 H4→(σ.length=σ4.length∧∀(k:Nat) z,σ[k]?=some (some z)→σ4[k]?=some (some z))∧∀pins' s',Inv Y pins' σ4 H4 s' →
   wpAny (model Y.prog Y.w) Y.A REST (λr s5=>r=Fin.again (.compLoop e k (.ref it) acc Y.env)∧∃H5,Inv Y pins' σ4 H5 s5∧∃n',n'<n∧V (i+1) n' H5) Y.xe s'))
  (fin:∀H2 s4,Inv Y pins σ H2 s4→Qd H2→post (.ok .next) s4) (I:Inv Y pins σ H0 s0) (v0:V 0 n0 H0) (t0:tn 0 s0.heap) (nf:∀b∈fp,H0 b=none) :
  codeAny (model Y.prog Y.w) Y.A (.compLoop e k (.ref it) acc Y.env) post s0:=by
 refine cU rfl (λn s3=>∃i H2,V i n H2∧Inv Y pins σ H2 s3∧tn i s3.heap∧∀b∈fp,H2 b=none) (λn s3 hI=>?_) n0 ⟨0,H0,v0,I,t0,nf⟩
 obtain ⟨i,H2,w,J2,t,nf2⟩:=hI
 rw [hun,hden]
 refine dq ?_
 rw [hturn]
 refine aa (bv (aa ?_))
 rcases hV i n H2 w with ⟨hst,hq⟩|⟨hgo,hy⟩
 ·refine ax (T.done Y rfl rfl rfl hc i pins s3 _ H2 (λ_ _=>False) J2 (fok H2 nf2) t hst) (λr s4 hr=>?_) λ_ _ z=>z.elim
  obtain ⟨rfl,J4⟩:=hr
  exact ai (fin H2 s4 J4 hq)
 ·refine ax (T.item Y rfl rfl rfl hc i pins s3 _ H2 (λ_ _=>False) J2 (fok H2 nf2) t hgo) (λr s4 hr=>?_) λ_ _ z=>z.elim
  obtain ⟨u,rfl,hw⟩:=hr
  refine aa (ax hw (λ_ s5 hr5=>?_) λ_ _ z=>z.elim)
  obtain ⟨v,H3,J5,rv,yl,t5,nf⟩:=hr5
  obtain ⟨Z,hz,hZ⟩:=hy v H3 yl
  refine aa (ax (hg _ s5 _ H3 v u _ (J5.pinned (fok H3 nf) (T.obj _ _ t5)) rv hz) (λ_ s6 hr6=>?_) λv s z=>(hx v s z).elim)
  obtain ⟨σ6,H6,J6,z6⟩:=hr6
  obtain ⟨⟨hl,hw6⟩,hR⟩:=hZ σ6 H6 z6
  refine ax (hR _ s6 J6) (λr s7 hr7=>?_) λv s z=>(hx v s z).elim
  obtain ⟨rfl,H7,J7,n',hn',v7⟩:=hr7
  refine ⟨rfl,n',hn',i+1,H7,v7,(J7.unpinned (pins:=pins)).weak hl hw6,?_,?_⟩
  ·exact T.keep _ _ _ t5 λb hb o e=>(J7.pin (b,o) (ae _ (ae _ (xv hb e)))).1
  ·intro b hb
   obtain ⟨o,e,_⟩:=T.obj _ _ t5 b hb
   exact (J7.pin (b,o) (ae _ (ae _ (xv hb e)))).2.1
section
variable {Y:Cx}{elt cd:Expr}{te:TE}{tt:TT}{c:Code}{p:Aj}{σ:St}{H:Hp}{pins:List (Aj×Obj)}{s:Ab}
def appS (elt:Expr)(acc:Ag)(env:Env)(c:Code):Sem PySem.Fin:=(eval elt env >>= λx=>call (.builtin "list.append") [acc,x] >>= λ_=>pure ()) >>= λ_=>again c
theorem qyw {ys:List V}{N:List V→Hp→Prop}(hx:∀v s,Y.xe v s→False)(he:PE Y elt te)(J:Inv Y pins σ H s)(hz:ys.length<sizeLine)(h:te σ H λy H4=>H4 p=some (.lst ys)∧N (ys++[y]) (upd H4 p (.lst (ys++[y])))) :
  wpAny (model Y.prog Y.w) Y.A (appS elt (.ref p) Y.env c) (λr s5=>r=Fin.again c∧∃H5,Inv Y pins σ H5 s5∧∃zs,N zs H5) Y.xe s:=by
 refine aa (aa (ax (he _ s _ H _ J h) (λyv s7 hr7=>?_) λ_ _ z=>z))
 obtain ⟨y,H4,J7,ry,hp4,n4⟩:=hr7
 refine aa (ax (v6 (X:=Y) _ s7 _ H4 (.ref p) [y] (.ref p) [yv] (λ_ H8=>H8=upd H4 p (.lst (ys++[y]))) J7 rfl (.cons ry .nil) ⟨_,ys,y,rfl,rfl,hp4,hz,rfl⟩) (λ_ s8 hr8=>?_) λ_ _ z=>z)
 obtain ⟨_,H8,J8,_,rfl⟩:=hr8
 exact ai (ai ⟨rfl,_,J8,_,n4⟩)
end
section
variable {X:Cx}{elt iter cd:Expr}{x:Str}{px pos:Pos}{scope:Scope}{cl:List (Str×Aj)}{M:List Nat}{wi:TI}{te:TE}{tt:TT}{pins:List (Aj×Obj)}{σ:St}
theorem wwp {N:List Str}{C:Aj}{s2:Ab}{H1:Hp}{fp:List Aj}(hcap:CapAll X.env cl)(I2:Inv X pins σ H1 s2)(hlt:s2.heap.objs.size<C)(hfp:∀b∈fp,z4 X pins H1 b)(hbl:∀b∈fp,b<s2.heap.objs.size)(H2:Hp)(hn:∀b∈fp,H2 b=none) :
  ∀b∈fp,z4 { X with N:=N,s₀:=s2,H₀:=H1,env:=compEnvC scope cl C X.env,outer:=X.stack,ex:=fp,fn:=λ_=>false,pn:=X.pn++pins,xe:=λ_ _=>False } [] H2 b:=λb hb=>by
 obtain ⟨q1,q2,q3,q4,q5,q6⟩:=hfp b hb
 refine ⟨hn b hb,aq (aI (hbl b hb) hlt),λz=>?_,.inl hb,λy c e=>q5 y c (hcap.look e),λp hp=>q6 p ((aP.mp hp).elim (λz=>z) λz=>nomatch z)⟩
 rcases aw.mp (I2.stkSub b z) with z|z
 ·exact q2 z
 ·exact q3 z
theorem qks {tg:Expr}{ifs:List Expr}{rest:List Comprehension}(hclos:closureFor scope X.env=pure cl)(hhas:HasAll cl scope.names)(hk:scope.kind=.function)
  (hnames:∀y∈scope.names,y.2=.local→scope.names.lookup y.1=some .local) (hi:PI X tg iter wi) (hs:∀z,foldedSetIterable iter X.env z=pure z)
  {use:Option (Ag→Sem Unit)} {QQ:Ag→Ab→Prop} {s:Ab} {H:Hp} {ps:Pos} {R:It→Hp→Prop} (I:Inv X pins σ H s) (h:wi σ H R)
  (go:∀(it:Aj) (fp:List Aj) (tn:Nat→Heap→Prop) (J:It) (H1:Hp) (s2:Ab) (C:Aj) (h3:Heap) (tk:Nat),Inv X pins σ H1 s2→Turn X.prog X.w X.K tg J fp it tn→tn 0 h3→(∀b∈fp,z4 X pins H1 b)→(∀b∈fp,b<s2.heap.objs.size)→(∀b∈fp,∃o,s2.heap.get? b=some o)→R J H1→s2.heap.objs.size<C →
   (∀b o,s2.heap.get? b=some o→h3.get? b=some o)→(h3.Ns C λ_=>none)→h3.get? s2.heap.objs.size=some { cls:=.type "list",data:=.seq #[] 0 } →
   codeAny (model X.prog X.w) X.A (.compLoop (.ListComp elt (⟨tg,iter,ifs,0⟩::rest) scope pos) 0 (.ref it) (.ref s2.heap.objs.size) (compEnvC scope cl C X.env)) (compPost (model X.prog X.w) X.A X.xe use QQ (.ref s2.heap.objs.size) C) { s2 with heap:=h3,toks:=tk }) :
  wpAny (model X.prog X.w) X.A (comprehension (.ListComp elt (⟨tg,iter,ifs,0⟩::rest) scope pos) scope X.env ps (newList []) false (eval iter X.env) use) QQ X.xe s:=by
 refine bR (use:=use) rfl hs hclos hk hnames ?_
 refine thn (hi pins s σ H _ I h) λv s1 h1=>thn h1 λitv s2 h2=>?_
 obtain ⟨it,fp,tn,J,H1,rfl,I2,T,t0,hfp,hR⟩:=h2
 refine bw ?_
 refine ca hhas.nocell (by intro y hy;cases hy) (λh3 hns hsb=>?_) hk
 dsimp only at hns hsb ⊢
 generalize hH2:s2.heap.push { cls:=.type "list",dict:=none,data:=.seq ([]:List Ag).toArray }=G2 at hns hsb ⊢
 have hC:G2.objs.size=s2.heap.objs.size+1:=by rw [←hH2,bI]
 have hlt:s2.heap.objs.size<G2.objs.size:=by lia
 have keep:∀b o,s2.heap.get? b=some o→h3.get? b=some o:=λb o e=>by
  rw [hsb.2 b (aq (aI (af e) hlt))]
  exact ah _ (hH2▸ah _ e)
 have hD:h3.get? s2.heap.objs.size=some { cls:=.type "list",data:=.seq #[] 0 }:=by
  rw [hsb.2 _ (aq hlt)]
  exact ah _ (hH2▸aD _ rfl)
 have t3:=T.keep 0 _ _ t0 λb _ o e=>keep b o e
 have loop:=λtk=>go it fp tn J H1 s2 G2.objs.size h3 tk I2 T t3 hfp (λb hb=>let ⟨o,e,_⟩:=T.obj 0 _ t0 b hb;af e) (λb hb=>let ⟨o,e,_⟩:=T.obj 0 _ t0 b hb;⟨o,e⟩) hR hlt keep hns hD
 exact bX (loop _) (T.self _ 0 _ _ _ t3 (loop _))
theorem qxp (M:List Nat)(σ:St)(v:V):(vh M σ none).length=(vh M σ (some v)).length∧∀(k:Nat) z,(vh M σ none)[k]?=some (some z)→(vh M σ (some v))[k]?=some (some z):=⟨rfl,λk z ez=>by
 cases k with
 |zero=>cases ez
 |succ k=>exact ez⟩
end
section
variable {X:Cx}{elt iter:Expr}{x:Str}{px pos:Pos}{scope:Scope}{cl:List (Str×Aj)}{M:List Nat}{wi:TI}{te:TE}
theorem qqp (hc:X.calm=true)(hclos:closureFor scope X.env=pure cl)(hcap:CapAll X.env cl)(hhas:HasAll cl scope.names)(hix:CapIx X scope cl M)(hk:scope.kind=.function)
  (hnames:∀y∈scope.names,y.2=.local→scope.names.lookup y.1=some .local) (hx:scope.names.lookup x=some .local) (hnd:(qzr X x M).Nodup) (hi:PI X (.Name x px) iter wi)
  (he:∀C s2 H2 fp pn,PE (yu X scope cl x M C s2 H2 fp pn) elt te) (hs:∀z,foldedSetIterable iter X.env z=pure z)
  {use:Option (Ag→Sem Unit)} {QQ:Ag→Ab→Prop} {pins:List (Aj×Obj)} {s:Ab} {σ:St} {H:Hp} {Q:VK} {ps:Pos} (I:Inv X pins σ H s) (h:wi σ H λJ H1=>Qk J M te σ H1 Q)
  (fin:∀(C:Aj) (s2 s4:Ab) (H1 H2:Hp) (fp:List Aj),Inv X pins σ H1 s2→s2.heap.objs.size<C→(∀b∈fp,z4 X pins H1 b)→Inv (yu X scope cl x M C s2 H1 fp (X.pn++pins)) [] (vh M σ none) H2 s4→Q (.ref s2.heap.objs.size) H2 →
   compPost (model X.prog X.w) X.A X.xe use QQ (.ref s2.heap.objs.size) C (.ok .next) s4) :
  wpAny (model X.prog X.w) X.A (comprehension (.ListComp elt [⟨.Name x px,iter,[],0⟩] scope pos) scope X.env ps (newList []) false (eval iter X.env) use) QQ X.xe s:=by
 refine qks hclos hhas hk hnames hi hs I h λit fp tn J H1 s2 C h3 tk I2 T t3 hfp hbl hob hR hlt keep hns hD=>?_
 obtain ⟨W,⟨m0,w0⟩,hW⟩:=hR s2.heap.objs.size (I2.hok.fresh (al _))
 have hxl:(relabel scope X.env).names.lookup x=some .local:=cM hx
 refine qkk (Y:=yu X scope cl x M C s2 H1 fp (X.pn++pins)) (V:=λi n H2=>∃ys,W i n ys H2) (Qd:=Q (.ref s2.heap.objs.size)) (REST:=appS elt (.ref s2.heap.objs.size) (compEnvC scope cl C X.env) _) T hc (λ_ _ z=>z) (compTurn_list1 ..) rfl rfl (wt (i:=0) hnd rfl (.inl hxl) (.inr hxl)) (wwp hcap I2 hlt hfp hbl) (λi n H2 ⟨ys,w⟩=>?_) (λH2 s4 J4 q=>fin C s2 s4 H1 H2 fp I2 hlt hfp J4 q) (I2.comp hcap hhas hix hk hlt keep hns hD hfp hob) ⟨[],w0⟩ t3 λb hb=>by rw [wb (aq (hbl b hb))];exact (hfp b hb).1
 obtain ⟨hp,hz,hcase⟩:=hW i n ys H2 w
 refine hcase.imp id λ⟨hgo,hy⟩=>⟨hgo,λv H3 yl=>⟨λσ4 H4=>σ4=vh M σ (some v)∧H3=H4,⟨rfl,rfl⟩,λ_ _ e=>?_⟩⟩
 obtain ⟨rfl,rfl⟩:=e
 refine ⟨qxp M σ v,λpins' s' J=>?_⟩
 refine ax (qyw (N:=λzs H5=>∃m',m'<n∧W (i+1) m' zs H5) (λ_ _ z=>z) (he _ _ _ _ _) J hz (hy v H3 yl)) (λr s5 ⟨e,H5,J5,zs,m',hm,w'⟩=>⟨e,H5,J5,m',hm,zs,w'⟩) λ_ _ z=>z
theorem vn (hc:X.calm=true)(hclos:closureFor scope X.env=pure cl)(hcap:CapAll X.env cl)(hhas:HasAll cl scope.names)(hix:CapIx X scope cl M)(hk:scope.kind=.function)
  (hnames:∀y∈scope.names,y.2=.local→scope.names.lookup y.1=some .local) (hx:scope.names.lookup x=some .local) (hnd:(qzr X x M).Nodup) (hi:PI X (.Name x px) iter wi)
  (he:∀C s2 H2 fp pn,PE (yu X scope cl x M C s2 H2 fp pn) elt te) (hs:∀z,foldedSetIterable iter X.env z=pure z:=by intro _;rfl) :
  PE X (.ListComp elt [⟨.Name x px,iter,[],0⟩] scope pos) (quu M wi te):=by
 intro pins s σ H Q I h
 rw [eval_ListComp]
 refine qqp hc hclos hcap hhas hix hk hnames hx hnd hi he hs (use:=none) I h λC s2 s4 H1 H2 fp I2 hlt hfp J4 hq=>?_
 obtain ⟨m,hn,_⟩:=J4.loc
 exact ⟨m,hn,λh' hs'=>⟨.ref s2.heap.objs.size,H2,I2.uncomp (bq hlt) hfp J4 hs',rfl,hq⟩⟩
theorem Inv.but {pins:List (Aj×Obj)}{σ:St}{H:Hp}{s:Ab}{h':Heap}{C:Aj}(I:Inv X pins σ H s)(hn:H C=none)(h1:X.s₀.heap.objs.size≤C)(h2:C≠X.env.locals)(h3:∀y c,X.env.cells.lookup y=some c→c≠C)(h4:∀p∈X.pn++pins,p.1≠C)
  (hs:Heap.SameBut C s.heap h'):Inv X pins σ H { s with heap:=h' }:=by
 have st:∀b o,b≠C→s.heap.get? b=some o→h'.get? b=some o:=λb o n e=>(hs.2 b n).trans e
 have nc:∀b,b∉[C]→b≠C:=λb z e=>z (by rw [e];exact .head _)
 refine I.call' (s':={ s with heap:=h' }) (ch:=[C]) rfl ⟨λb o e n _ nx=>st b o (nc b nx) e,λb o e n _ nx=>⟨o.slots,st b o (nc b nx) e⟩,λb o e n _=>n,λb o e nx=>⟨o,st b o (nc b nx) e⟩,λ_ _ e=>e,λ_ _ _ e=>e,λb ps e=>⟨#[],by rw [e];simp⟩⟩ ?_ I.bare λb hb=>?_
 ·intro b u hu
  refine (I.hok b u hu).stay (λc v hc e=>st c v ?_ e) (λ_ z=>z) λ_ _ z=>z
  rcases hc with rfl|hc
  ·intro z;rw [z,hn] at hu;cases hu
  ·intro z;rw [z,hn] at hc;cases hc
 ·rw [aT.mp hb]
  exact ⟨.inr h1,h2,h3,h4⟩
theorem Wy {i:Nat}{y:Str}{py spos:Pos}(hN:X.N.Nodup)(hyi:X.N[i]?=some y)(hyl:Loc X.env.scope y)(hc:X.calm=true)(hclos:closureFor scope X.env=pure cl)(hcap:CapAll X.env cl)(hhas:HasAll cl scope.names)(hix:CapIx X scope cl M)(hk:scope.kind=.function)
  (hnames:∀y∈scope.names,y.2=.local→scope.names.lookup y.1=some .local) (hx:scope.names.lookup x=some .local) (hnd:(qzr X x M).Nodup) (hi:PI X (.Name x px) iter wi)
  (he:∀C s2 H2 fp pn,PE (yu X scope cl x M C s2 H2 fp pn) elt te) (hs:∀z,foldedSetIterable iter X.env z=pure z:=by intro _;rfl)
  (hsw:swapsWith (.ListComp elt [⟨.Name x px,iter,[],0⟩] scope pos) (some (.Name y py)) spos.line X.env=pure true:=by rfl) (hyf:X.fn y=true∨X.env.scope.names.lookup y=some .local:=by first | exact .inl rfl | exact .inr rfl | assumption) :
  PS X (.Assign [.Name y py] (.ListComp elt [⟨.Name x px,iter,[],0⟩] scope pos) spos) (tAsg (quu M wi te) (uk i)):=by
 intro pins s σ H D I h
 rw [cE _ _ _ _ hsw]
 refine aa (bv (aa ?_))
 refine aa (ax (qqp hc hclos hcap hhas hix hk hnames hx hnd hi he hs (use:=some (assign (.Name y py) X.env)) (QQ:=λ_ s'=>SP X pins D .next s') I h λC s2 s4 H1 H2 fp I2 hlt hfp J4 hq=>?_) (λ_ s' hq=>ai (ai hq)) λ_ _ e=>e)
 have I4:Inv X pins σ H2 s4:=I2.uncomp (h':=s4.heap) (bq hlt) hfp J4 (dr _ _)
 have hCn:H2 C=none:=J4.free
 obtain ⟨mC,hnC,_⟩:=J4.loc
 obtain ⟨oC,esC,epC,hoC,hdC⟩:=id hnC
 have hCl:C≠X.env.locals:=λz=>aE _ (aI hlt (z▸I2.lt))
 have hCs:X.s₀.heap.objs.size≤C:=bp I2.sz (bq hlt)
 have hCc:∀y c,X.env.cells.lookup y=some c→c≠C:=λy c e z=>by
  obtain ⟨v,o,e1,_⟩:=I2.cell y c e
  exact aE _ (aI hlt (z▸af e1))
 have hCp:∀p∈X.pn++pins,p.1≠C:=λp hp z=>aE _ (aI hlt (z▸af (I2.pin p hp).1))
 have hCf:C∉frs X.stack:=λz=>by
  rcases aw.mp (I2.stkSub C z) with q|q
  ·exact hCl q
  ·obtain ⟨_,o,e1,_⟩:=I2.funs.mem (b:=C) q
   exact aE _ (aI hlt (af e1))
 have hCx:C∉X.fs:=λz=>by
  obtain ⟨_,o,e1,_⟩:=I2.funs.mem (b:=C) z
  exact aE _ (aI hlt (af e1))
 have I4p:Inv X (pins++[(C,oC)]) σ H2 s4:=⟨I4.ok,I4.os,I4.bare,I4.base,I4.loc,I4.cell,I4.free,I4.freeC,λp hp=>by
  rcases aP.mp hp with q|q
  ·exact I4.pin p (bO _ q)
  ·rcases aP.mp q with q|q
   ·exact I4.pin p (ae _ q)
   ·rw [aT.mp q]
    exact ⟨hoC,hCn,hCl,hCx,λv z=>by rw [hdC.1] at z;cases z⟩,I4.hok,I4.len⟩
 show wpAny _ _ (assign (.Name y py) X.env (.ref s2.heap.objs.size)) _ _ _
 refine cw (vf I4p hN hyi hyl (show RelV (.ref s2.heap.objs.size) (.ref s2.heap.objs.size) from rfl) (λs5 I5=>?_) hyf)
 have hC5:=(I5.pin (C,oC) (ae _ (ae _ (.head _)))).1
 exact ⟨mC,⟨oC,esC,epC,hC5,hdC⟩,λh' hs'=>⟨_,H2,I5.unpinned.but hCn hCs hCl hCc hCp hs',hq⟩⟩
end
theorem vc {M:List Nat}{lo:Int}{n:Nat}{te:TE}{σ:St}{H:Hp}{Q:VK}(f:Nat→V)(hn:n≤1000000)(he:∀(i:Nat) (H':Hp) (R:VK),i<n→Same H H'→R (f i) H'→te (vh M σ (some (.int (lo+i)))) H' R)
  (k:∀p,H p=none→Q (.ref p) (upd H p (.lst ((List.range n).map f)))):Qk (Itr lo n) M te σ H Q:=by
 intro p np
 refine ⟨λi m ys H2=>i≤n∧m=n-i∧ys=(List.range i).map f∧H2=upd H p (.lst ys),⟨n,ba _,rfl,rfl,rfl⟩,?_⟩
 rintro i m ys H2 ⟨hi,rfl,rfl,rfl⟩
 refine ⟨qm,?_,?_⟩
 ·rw [ac,az]
  have:(1000000:Nat)<sizeLine:=by decide
  lia
 ·by_cases hlt:i<n
  ·refine .inr ⟨hlt,?_⟩
   rintro v H3 ⟨rfl,rfl⟩
   refine he i (upd H p (.lst ((List.range i).map f))) _ hlt (Same.upd np) ⟨qm,n-(i+1),by lia,by lia,rfl,?_,?_⟩
   ·rw [aR,av]
    rfl
   ·rw [Jq]
  ·have:i=n:=by lia
   subst this
   exact .inl ⟨al _,k p np⟩
theorem Yf {K:Aa}{M:List Nat}{a:Aj}{xs:List V}{te:TE}{σ:St}{H:Hp}{Q:VK}(f:V→V)(hS:SqL K H a xs)(hn:xs.length≤1000000)(he:∀(x:V) (H':Hp) (R:VK),x∈xs→Same H H'→R (f x) H'→te (vh M σ (some x)) H' R)
  (k:∀p,H p=none→Q (.ref p) (upd H p (.lst (xs.map f)))):Qk (Itl K a) M te σ H Q:=by
 intro p np
 refine ⟨λi m ys H2=>i≤xs.length∧m=xs.length-i∧ys=(xs.take i).map f∧H2=upd H p (.lst ys),⟨xs.length,ba _,rfl,rfl,rfl⟩,?_⟩
 rintro i m ys H2 ⟨hi,rfl,rfl,rfl⟩
 have hS':SqL K (upd H p (.lst ((xs.take i).map f))) a xs:=Same.sql (Same.upd np) hS
 refine ⟨qm,?_,?_⟩
 ·rw [ac,dw]
  have:(1000000:Nat)<sizeLine:=by decide
  lia
 ·by_cases hlt:i<xs.length
  ·have hx:xs[i]?=some xs[i]:=ag hlt
   refine .inr ⟨⟨xs,_,hS',hx⟩,?_⟩
   rintro v H3 ⟨rfl,hv⟩
   have e:=hv xs hS'
   rw [hx] at e
   have e':=aj e
   subst e'
   refine he _ _ _ (List.getElem_mem hlt) (Same.upd np) ⟨qm,xs.length-(i+1),by lia,by lia,rfl,?_,?_⟩
   ·rw [dR,hx,av]
    rfl
   ·rw [Jq]
  ·have hi':i=xs.length:=by lia
   subst hi'
   refine .inl ⟨⟨xs,hS',al _⟩,?_⟩
   rw [dA]
   exact k p np
end L2
namespace L2
open PySem PySem.Spec PyProof.Rows
section
variable {X:Cx}
theorem Z8 {pins:List (Aj×Obj)}{σ:St}{H:Hp}{s:Ab}{p:Aj}{ns:List Int}(I:Inv X pins σ H s)(hS:SqL X.K H p (ns.map V.int)) :
  ∃ts:Array (Int×Tok),s.heap.IsList p (intItems ts)∧ns=ts.toList.map (·.1):=by
 obtain ⟨its,rv,⟨o,n,e1,e2,e3,e4⟩,hz⟩:=I.list hS
 have hi:=qzw rv
 obtain ⟨ts,ht⟩:=hi.allInts.items
 refine ⟨ts,⟨o,e1,e2,n,by rw [←ht];exact e4⟩,?_⟩
 have a1:=hi.numsOf
 have a2:=nums_intItems (xs:=ts)
 rw [←ht] at a2
 exact a1.symm.trans a2
theorem Zj (hc:X.calm=true):vm X (.builtin "min") (λxs H Q=>∃(p:Aj) (ns:List Int),xs=[.ref p]∧SqL X.K H p (ns.map V.int)∧0<ns.length∧∀m,m∈ns→(∀a∈ns,m≤a)→Q (.int m) H):=by
 intro pins s σ H xs us Q I r h
 obtain ⟨p,ns,rfl,hS,hne,q⟩:=h
 obtain ⟨u,rfl,ru⟩:=ym r
 cases (show u=Value.ref p from ru)
 obtain ⟨ts,hl,he⟩:=Z8 I hS
 have hsz:ts.size=ns.length:=by rw [he,ac,bi]
 refine min_intList (I.ok.hd hc) hl (by lia) λv h' tk hv hk=>?_
 obtain ⟨t,rfl⟩:=intItems_at hv
 obtain ⟨b1,b2⟩:=argBest_lt (numAt ts) (ts.size-1)
 refine ⟨.int _,H,I.kept hk,⟨t,rfl⟩,q _ ?_ λa ha=>?_⟩
 ·rw [he,numAt_eq]
  refine getD_mem ?_
  rw [←he,←hsz]
  lia
 ·rw [he] at ha
  obtain ⟨j,hj,rfl⟩:=mem_getD ha
  rw [←he,←hsz] at hj
  rw [←numAt_eq]
  exact b2 j (by lia)
theorem Zk (hc:X.calm=true):vm X (.builtin "max") (λxs H Q=>∃(p:Aj) (ns:List Int),xs=[.ref p]∧SqL X.K H p (ns.map V.int)∧0<ns.length∧∀m,m∈ns→(∀a∈ns,a≤m)→Q (.int m) H):=by
 intro pins s σ H xs us Q I r h
 obtain ⟨p,ns,rfl,hS,hne,q⟩:=h
 obtain ⟨u,rfl,ru⟩:=ym r
 cases (show u=Value.ref p from ru)
 obtain ⟨ts,hl,he⟩:=Z8 I hS
 have hsz:ts.size=ns.length:=by rw [he,ac,bi]
 refine max_intList (I.ok.hd hc) hl (by lia) λv h' tk hv hk=>?_
 obtain ⟨t,rfl⟩:=intItems_at hv
 obtain ⟨b1,b2⟩:=argBest_gt (numAt ts) (ts.size-1)
 refine ⟨.int _,H,I.kept hk,⟨t,rfl⟩,q _ ?_ λa ha=>?_⟩
 ·rw [he,numAt_eq]
  refine getD_mem ?_
  rw [←he,←hsz]
  lia
 ·rw [he] at ha
  obtain ⟨j,hj,rfl⟩:=mem_getD ha
  rw [←he,←hsz] at hj
  rw [←numAt_eq]
  exact b2 j (by lia)
theorem qwd:∀ {bs:List Bool} {its:List Ag},Vals (bs.map V.bl) its→its=bs.map Value.bool
 |[],_,.nil=>rfl
 |b::bs,_,.cons r t=>by
  have e:_=Value.bool b:=r
  rw [aK,←qwd t,e]
theorem qv0 (bs:List Bool):(List.range bs.length).all (λi=>bs.getD i true)=bs.all id:=by
 rw [bM,List.all_eq_true,List.all_eq_true]
 constructor
 ·intro h b hb
  obtain ⟨i,hi,rfl⟩:=List.getElem_of_mem hb
  have:=h i (aS.mpr hi)
  rw [ak,ag hi] at this
  exact this
 ·intro h i hi
  have hi':=aS.mp hi
  rw [ak,ag hi']
  exact h _ (List.getElem_mem hi')
theorem Zq (hc:X.calm=true):vm X (.builtin "all") (λxs H Q=>∃(p:Aj) (bs:List Bool),xs=[.ref p]∧SqL X.K H p (bs.map V.bl)∧Q (.bl (bs.all id)) H):=by
 intro pins s σ H xs us Q I r h
 obtain ⟨p,bs,rfl,hS,q⟩:=h
 obtain ⟨u,rfl,ru⟩:=ym r
 cases (show u=Value.ref p from ru)
 obtain ⟨its,rv,⟨o,n,e1,e2,e3,e4⟩,hz⟩:=I.list hS
 have hits:=qwd rv
 have hl:s.heap.IsList p its.toArray:=⟨o,e1,e2,n,e4⟩
 have hlt:p<s.heap.objs.size:=af e1
 refine call_all_walk (dn hl ?_)
 refine ⟨s.heap.objs.size,_,_,_,_,_,λi=>bs.getD i true,rfl,Walks.list (A:=X.A.in1) (I.ok.hd hc) _ p (aq hlt) its.toArray,⟨⟨_,aD _ rfl,rfl,rfl⟩,hl.push _⟩,λi v s' Q' E' hP hQ=>?_,λh' tk hk=>?_⟩
 ·have hv:its[i]?=some v:=by simpa using hP
  rw [hits,aB] at hv
  cases hb:bs[i]? with
  |none=>rw [hb] at hv;cases hv
  |some b =>
   rw [hb] at hv
   have ev:Value.bool b=v:=aj hv
   subst ev
   refine bP ?_
   have e2:bs.getD i true=b:=by rw [ak,hb];rfl
   have hQ':Q' (bs.getD i true) s':=hQ
   rw [e2] at hQ'
   exact hQ'
 ·have hlen:its.toArray.size=bs.length:=by rw [hits];simp
  rw [hlen,qv0]
  refine ⟨.bl _,H,I.kept λb ob e=>hk b ob (λhm=>?_) (ah _ e),rfl,q⟩
  have z:b=s.heap.objs.size:=by simpa using hm
  exact aE _ (z▸af e)
end
structure MCal (P:Ac)(w:Ah)(K:Aa)(mg:Str→Option Ag)(base:Heap)(C:Aj)(m:Str)(k:Nat)(sp:Sp):Prop where
 ex:∃f fd ps,Meth K C m f∧FnOk P w K mg base (CXE P w) k f fd ps sp∧Binds K fd ps []
structure CCal (P:Ac)(w:Ah)(K:Aa)(mg:Str→Option Ag)(base:Heap)(x:Str)(C:Aj)(k:Nat)(sp:Sp):Prop where
 ex:∃f fd ps,mg x=some (.ref C)∧Mk K C f∧FnOk P w K mg base (CXE P w) k f fd ps sp∧Binds K fd ps []
structure MethIn (K:Aa)(C:Aj)(m qual:Str)(st:Stmt):Prop where
 ex:∃f fd,PySem.W.findIn K (.ref C) m=some (some (.ref f))∧PySem.W.isFn K (.ref f)=true∧Fun K m qual st f fd
theorem wq1 {K:Aa}{C:Aj}{m qual:Str}{st:Stmt}{f:Aj}{oc:Ag}{od an:Option Aj}{osl:Array (Option Ag)}{kV doc pm cdv ct:Ag}(a:PySem.W.findIn K (.ref C) m=some (some (.ref f)))(i:PySem.W.isFn K (.ref f)=true)
  (l:K.lookup f=some ⟨oc,od,.func (PySem.W.fnOf m qual (zd st) (zw st) (q9 st) .none kV doc pm an cdv ct),osl⟩) (c:PySem.W.codeIn K cdv qual=true) (k:PySem.W.keepIn K (.ref f)=true):MethIn K C m qual st:=⟨_,_,a,i,quw l c k⟩
def z9 (x qual:Str)(st:Stmt)(ps:List Str):Prop:=∀(kV doc pm:Ag) (an:Option Aj) (cdv ct:Ag) (us:List Ag),us.length=ps.length→bindArgs (PySem.W.fnOf x qual (zd st) (zw st) (q9 st) .none kV doc pm an cdv ct) ⟨us,[]⟩=pure (ps.zip us)
section
variable {P:Ac}{w:Ah}{K:Aa}{mg:Str→Option Ag}{base:Heap}{C:Aj}
theorem MethIn.cal {m qual:Str}{st:Stmt}{ps:List Str}{k:Nat}{sp:Sp}(d:MethIn K C m qual st)(b:z9 m qual st ps)(ok:∀f fd,Fun K m qual st f fd→FnOk P w K mg base (CXE P w) k f fd ps sp):MCal P w K mg base C m k sp:=by
 obtain ⟨f,fd,a,i,F⟩:=d.ex
 exact ⟨f,fd,ps,⟨a,i,F.kp⟩,ok f fd F,F.binds b⟩
theorem MethIn.ccal {x qual:Str}{st:Stmt}{ps:List Str}{k:Nat}{sp:Sp}(d:MethIn K C "__init__" qual st)(hm:mg x=some (.ref C))(mk:PySem.W.makesIn K C=true)(kc:PySem.W.keepIn K (.ref C)=true)(b:z9 "__init__" qual st ps)
  (ok:∀f fd,Fun K "__init__" qual st f fd→FnOk P w K mg base (CXE P w) k f fd ps sp):CCal P w K mg base x C k sp:=by
 obtain ⟨f,fd,a,i,F⟩:=d.ex
 exact ⟨f,fd,ps,hm,⟨mk,a,i,kc⟩,ok f fd F,F.binds b⟩
end
section
variable {X:Cx}{C:Aj}{x m:Str}{k:Nat}{sp:Sp}{E:St→XK}{p pos apos:Pos}{e o:Expr}{es:List Expr}{ta:TE}{t:TA}
theorem jh (c:CCal X.prog X.w X.K X.mg X.base x C k sp)(hr:Room (k+1) X.A)(hg:Gl X x)(hx:v9 X E)
  (ha:PA X (e::es) t) (hdb:(x==("__debug__" : Str))=false:=by decide) (he:starEach (e::es) X.env=(false,eval e X.env)::starEach es X.env:=by rfl) (hpl:(backTo pos (starEach es X.env)).any (·.1)=false:=by rfl) :
  PE X (.Call (.Name x p) (e::es) [] pos) (quj C sp E t):=by
 obtain ⟨f,fd,ps,hm,M,F,b⟩:=c.ex
 exact qu1 M F hr hg hm b hx ha hdb he hpl
theorem zz {pl:Sem Bool}(he:PE X o ta)(cl:Cls X.K C)(c:MCal X.prog X.w X.K X.mg X.base C m k sp)(hr:Room k X.A)(hx:v9 X E)(ha:PA X (e::es) t)
  (hst:starEach (e::es) X.env=(false,eval e X.env)::starEach es X.env:=by rfl) (hpl:(backTo pos (starEach es X.env)).any (·.1)=false:=by rfl)
  (ht:eval (.Call (.Attribute o m apos) (e::es) [] pos) X.env=(do
   let ov ←eval o X.env
   standAt apos.atName
   let (f,first) ←holding [ov] (getMethod ov m pl)
   callWith pos f first (backTo pos (starEach (e::es) X.env)) (backToKw pos (keywordEach [] X.env))):=by rfl) :
  PE X (.Call (.Attribute o m apos) (e::es) [] pos) (qqd C m sp E ta t):=by
 obtain ⟨f,fd,ps,hm,F,b⟩:=c.ex
 exact wqk he cl hm F hr b hx ha hst hpl ht
theorem xg {pl:Sem Bool}(he:PE X o ta)(cl:Cls X.K C)(c:MCal X.prog X.w X.K X.mg X.base C m k sp)(hr:Room k X.A)(hx:v9 X E)
  (ht:eval (.Call (.Attribute o m apos) [] [] pos) X.env=(do
   let ov ←eval o X.env
   standAt apos.atName
   let (f,first) ←holding [ov] (getMethod ov m pl)
   callWith pos f first (backTo pos (starEach [] X.env)) (backToKw pos (keywordEach [] X.env))):=by rfl) :
  PE X (.Call (.Attribute o m apos) [] [] pos) (qqd C m sp E ta zy):=by
 obtain ⟨f,fd,ps,hm,F,b⟩:=c.ex
 exact qkn he cl hm F hr b hx ht
end
end L2
namespace L2
open PySem
def hAt (hs:List Int)(k:Int):Int:=hs.getD k.toNat 0
def kF (hs:List Int)(t b:Int):Int:=if (hs.length:Int)-1-1<t/b then (hs.length:Int)-1-1 else t/b
def xy (hs:List Int)(t b:Int):Int:=hAt hs (kF hs t b)*b+(hAt hs (kF hs t b+1)-hAt hs (kF hs t b))*(t-kF hs t b*b)
theorem Yt {hs:List Int}{t b:Int}(hl:2≤hs.length)(hb:1≤b)(h0:0≤t):0≤kF hs t b∧kF hs t b<(hs.length:Int)-1:=by
 have h:=dN h0 (show (0:Int)≤b by lia)
 unfold kF
 split <;> lia
theorem qyn {hs:List Int}{t b c:Int}(hc:1≤c):kF hs (t*c) (b*c)=kF hs t b:=by
 unfold kF
 rw [bZ _ _ (show 0<c by lia)]
theorem qq4 {hs:List Int}{t b c:Int}(hc:1≤c):xy hs (t*c) (b*c)=xy hs t b*c:=by
 unfold xy
 rw [qyn hc]
 generalize hAt hs (kF hs t b)=u
 generalize hAt hs (kF hs t b+1)=v
 generalize kF hs t b=k
 grind
theorem div_in {k t b:Int}(hb:1≤b)(h1:k*b≤t)(h2:t<(k+1)*b):t/b=k:=by
 have a1:k≤t/b:=(Int.le_ediv_iff_mul_le (by lia)).mpr h1
 have a2:t/b<k+1:=(Int.ediv_lt_iff_lt_mul (by lia)).mpr h2
 lia
theorem xn {hs:List Int}{k t b:Int}(hk:0≤k)(hk2:k<(hs.length:Int)-1)(hb:1≤b)(h1:k*b≤t)(h2:t≤(k+1)*b) :
  xy hs t b=hAt hs k*b+(hAt hs (k+1)-hAt hs k)*(t-k*b):=by
 by_cases hlt:t<(k+1)*b
 ·have e:=div_in hb h1 hlt
  have ek:kF hs t b=k:=by
   unfold kF
   rw [e]
   split <;> lia
  unfold xy
  rw [ek]
 ·have et:t=(k+1)*b:=by lia
  have e:t/b=k+1:=by
   rw [et]
   exact Int.mul_ediv_cancel _ (by lia)
  by_cases hn:(hs.length:Int)-1-1<k+1
  ·have ek:kF hs t b=k:=by
    unfold kF
    rw [e,au hn]
    lia
   unfold xy
   rw [ek]
  ·have ek:kF hs t b=k+1:=by
    unfold kF
    rw [e,am hn]
   unfold xy
   rw [ek,et]
   generalize hAt hs k=u
   generalize hAt hs (k+1)=v
   generalize hAt hs (k+1+1)=z
   grind
def v8 (hs:List Int)(t b:Int):Int×Int:=qb (xy hs t b) b
theorem Yc {hs:List Int}{t b:Int}(hb:1≤b):v8 hs (qb t b).1 (qb t b).2=v8 hs t b:=by
 unfold v8
 have hg:=k4 (t:=t) hb
 have e1:(qb t b).1*gOf t b=t:=by rw [bf];exact qwz
 have e2:(qb t b).2*gOf t b=b:=by rw [bf];exact Z1 hb
 have h:=qq4 (hs:=hs) (t:=(qb t b).1) (b:=(qb t b).2) hg
 rw [e1,e2] at h
 rw [h]
 conv=>rhs;rw [←e2]
 rw [e2]
 have:=j0 (t:=xy hs (qb t b).1 (qb t b).2) (b:=(qb t b).2) (zb hb) hg
 rw [e2] at this
 exact this.symm
theorem y7 {t b:Int}(hb:1≤b):(qb t b).1<0↔t<0:=by
 have hg:=k4 (t:=t) hb
 have e1:gOf t b*(qb t b).1=t:=qwz
 constructor
 ·intro h
  have:=bK h (show 0<gOf t b by lia)
  rw [e1,dG] at this
  exact this
 ·intro h
  rcases bA (qb t b).1 0 with z|z
  ·exact z
  ·have:=bb z (show 0≤gOf t b by lia)
   rw [e1,dG] at this
   lia
theorem qqg {t b n:Int}(hb:1≤b):n*(qb t b).2<(qb t b).1↔n*b<t:=by
 have hg:=k4 (t:=t) hb
 have e1:gOf t b*(qb t b).1=t:=qwz
 have e2:gOf t b*(qb t b).2=b:=Z1 hb
 have e3:gOf t b*(n*(qb t b).2)=n*b:=by
  generalize gOf t b=g at *
  generalize (qb t b).2=y at *
  grind
 constructor
 ·intro h
  have:=bK h (show 0<gOf t b by lia)
  rw [e1,e3] at this
  exact this
 ·intro h
  rcases bA (n*(qb t b).2) (qb t b).1 with z|z
  ·exact z
  ·have:=bb z (show 0≤gOf t b by lia)
   rw [e1,e3] at this
   lia
theorem Yy {N b:Int}(hb:1≤b):b%(qb N b).2=0∧(qb N b).1*(b/(qb N b).2)=N:=by
 have hy:=zb (t:=N) hb
 have cr:=vv (t:=N) hb
 have hd:(qb N b).2∣b:=⟨gOf N b,by rw [bf];exact (Z1 hb).symm⟩
 refine ⟨Int.emod_eq_zero_of_dvd hd,?_⟩
 have e:=cL hd
 generalize b/(qb N b).2=q at *
 generalize (qb N b).1=x at *
 generalize (qb N b).2=y at *
 have:y*(x*q-N)=0:=by grind
 rcases Int.mul_eq_zero.mp this with h|h <;> lia
theorem quc {u v b d:Int}(hb:0≤d)(hd:d≤b):(if v<u then v else u)*b≤u*b+(v-u)*d∧u*b+(v-u)*d≤(if v>u then v else u)*b:=by
 by_cases h:v<u
 ·rw [au h,am (by lia)]
  have a1:=bb hd (show 0≤u-v by lia)
  have a2:=bo (show 0≤u-v by lia) hb
  constructor <;> grind
 ·rw [am h]
  have a1:=bb hd (show 0≤v-u by lia)
  have a2:=bo (show 0≤v-u by lia) hb
  by_cases h2:v>u
  ·rw [au h2]
   constructor <;> grind
  ·rw [am h2]
   have:v=u:=by lia
   subst this
   constructor <;> grind
end L2
namespace L2
open PySem PySem.Spec PyProof.Rows
section
variable {X:Cx}{elt iter cd:Expr}{x:Str}{px pos:Pos}{scope:Scope}{cl:List (Str×Aj)}{M:List Nat}{wi:TI}{tt:TT}{te:TE}
end
theorem qzk {i:Int}{acc:Array Ag}{n:Nat}(h:ItemsOf (λk v=>∃t,v=.int (i+k*1) t) acc n):Vals ((List.range n).map λk:Nat=>V.int (i+k)) acc.toList:=by
 obtain ⟨h1,h2⟩:=h
 have key:∀(l:List Ag) (b m:Nat),l.length=m→(∀(j:Nat) v,l[j]?=some v→∃t,v=.int (i+((b+j:Nat):Int)*1) t)→Vals ((List.range' b m).map λk:Nat=>V.int (i+k)) l:=by
  intro l
  induction l with
  |nil=>intro b m hm _;subst hm;exact .nil
  |cons x r ih =>
   intro b m hm hj
   subst hm
   rw [aN,List.range'_succ,aK]
   refine .cons ?_ (ih (b+1) r.length rfl λj v e=>?_)
   ·obtain ⟨t,e⟩:=hj 0 x rfl
    refine ⟨t,?_⟩
    rw [e]
    simp
   ·obtain ⟨t,e'⟩:=hj (j+1) v e
    refine ⟨t,?_⟩
    rw [e',show b+1+j=b+(j+1) by lia]
 have:=key acc.toList 0 n (by simpa using h1) (λj v e=>by
  obtain ⟨t,e'⟩:=h2 j v (by simpa using e)
  exact ⟨t,by rw [e'];simp⟩)
 rwa [←List.range_eq_range'] at this
end L2
namespace L2
open PySem PySem.Spec PyProof.Rows
structure FunD (K:Aa)(x:Str)(st:Stmt)(f:Aj)(fd:Ad):Prop where
 ex:∃(oc:Ag) (od:Option Aj) (T:Aj) (kV doc pm:Ag) (an:Option Aj) (cdv ct:Ag) (osl:Array (Option Ag)),
  fd=PySem.W.fnOf x x (zd st) (zw st) (q9 st) (.ref T) kV doc pm an cdv ct∧K.lookup f=some ⟨oc,od,.func fd,osl⟩∧PySem.W.codeIn K cdv x=true∧∃o n,K.lookup T=some o∧o.data=.seq #[.none] n
 kp:PySem.W.keepIn K (.ref f)=true
structure DefInD (K:Aa)(x:Str)(st:Stmt):Prop where
 ex:∃f fd,PySem.W.nsIn K mainGlobals x=some (some (.ref f))∧FunD K x st f fd
section
variable {P:Ac}{w:Ah}{K:Aa}{mg:Str→Option Ag}{base:Heap}
theorem wxy {x:Str}{st:Stmt}{f T:Aj}{oc:Ag}{od an:Option Aj}{osl:Array (Option Ag)}{kV doc pm cdv ct:Ag}(a:PySem.W.nsIn K mainGlobals x=some (some (.ref f)))
  (l:K.lookup f=some ⟨oc,od,.func (PySem.W.fnOf x x (zd st) (zw st) (q9 st) (.ref T) kV doc pm an cdv ct),osl⟩) (c:PySem.W.codeIn K cdv x=true) (k:PySem.W.keepIn K (.ref f)=true) {tc:Ag} {td:Option Aj} {tn:Nat} {ts:Array (Option Ag)} (t:K.lookup T=some ⟨tc,td,.seq #[.none] tn,ts⟩):DefInD K x st:=⟨_,_,a,⟨oc,od,T,kV,doc,pm,an,cdv,ct,osl,rfl,l,c,_,_,t,rfl⟩,k⟩
theorem FunD.okX {x:Str}{st:Stmt}{f:Aj}{fd:Ad}{N ps:List Str}{k:Nat}{sp:Sp}(F:FunD K x st f fd)(S:FnScope N ps (q9 st))(len:∀vs H Q E,sp vs H Q E→vs.length=ps.length)
  (body:∀(cdv:Ag) (A:Ae) (outer:List Env) (s:Ab) (H:Hp) (vs:List V) (Q:VK) (E:XK),Room k (A.deeper (envOfC x (q9 st) s.heap.objs.size f cdv))→sp vs H Q E →
   ∃t,PSs (Y6 (CXE P w) P w K mg base N x (q9 st) f cdv A outer s H E) (zw st) t∧t { nx:=λ_ H'=>Q .non H',rt:=Q } (ux N vs) H):FnOk P w K mg base (CXE P w) (k+1) f fd ps sp:=by
 obtain ⟨oc,od,T,kV,doc,pm,an,cdv,ct,osl,rfl,lk,hcd,_⟩:=F.ex
 exact fn_of lk hcd S len λA outer s H vs Q E hr hsp=>body cdv A outer s H vs Q E hr hsp
def yt (x:Str)(st:Stmt)(ps:List Str)(ds:List Ag):Prop:=∀(T:Aj) (kV doc pm:Ag) (an:Option Aj) (cdv ct:Ag) (us:List Ag),(us++ds).length=ps.length →
 ∃kk,bindArgs (PySem.W.fnOf x x (zd st) (zw st) (q9 st) (.ref T) kV doc pm an cdv ct) ⟨us,[]⟩=seqItems? (.ref T) >>= kk∧kk (some #[.none])=pure (ps.zip (us++ds))
structure CalD (P:Ac)(w:Ah)(K:Aa)(mg:Str→Option Ag)(base:Heap)(x:Str)(k:Nat)(sp:Sp):Prop where
 ex:∃f fd ps,mg x=some (.ref f)∧FnOk P w K mg base (CXE P w) k f fd ps sp∧PySem.W.keepIn K (.ref f)=true∧Binds K fd ps []∧Binds K fd ps [.none]
theorem FunD.binds {x:Str}{st:Stmt}{f:Aj}{fd:Ad}{ps:List Str}{ds:List Ag}(F:FunD K x st f fd)(b:yt x st ps ds):Binds K fd ps ds:=by
 obtain ⟨oc,od,T,kV,doc,pm,an,cdv,ct,osl,rfl,lk,hcd,o,n,e1,e2⟩:=F.ex
 intro s us X hl
 obtain ⟨kk,h1,h2⟩:=b T kV doc pm an cdv ct us hl
 exact PySem.W.binds_K X rfl e1 e2 h1 h2
theorem DefInD.cal {x:Str}{st:Stmt}{ps:List Str}{k:Nat}{sp:Sp}{h:Heap}(d:DefInD K x st)(KX:K.In h)(G:h.Ns mainGlobals mg)(b:yt x st ps [])(b':yt x st ps [.none])(ok:∀f fd,FunD K x st f fd→FnOk P w K mg base (CXE P w) k f fd ps sp):CalD P w K mg base x k sp:=by
 obtain ⟨f,fd,a,F⟩:=d.ex
 exact ⟨f,fd,ps,aZ KX G a,ok f fd F,F.kp,F.binds b,F.binds b'⟩
theorem CalD.all {x:Str}{k:Nat}{sp:Sp}(c:CalD P w K mg base x k sp):Cal P w K mg base x k sp:=by
 obtain ⟨f,fd,ps,h1,h2,h3,h4,_⟩:=c.ex
 exact ⟨f,fd,ps,h1,h2,h3,h4⟩
end
def tCallD (sp:Sp)(E:St→XK)(t:TA):TE:=λσ H Q=>t σ H λvs H1=>sp (vs++[.non]) H1 Q (E σ)
section
variable {X:Cx}{x:Str}{k:Nat}{sp:Sp}{E:St→XK}{p pos:Pos}{e:Expr}{es:List Expr}{t:TA}
theorem qyb (c:CalD X.prog X.w X.K X.mg X.base x k sp)(hr:Room k X.A)(hg:Gl X x)(hx:v9 X E)
  (ha:PA X (e::es) t) (hdb:(x==("__debug__" : Str))=false:=by decide) (he:starEach (e::es) X.env=(false,eval e X.env)::starEach es X.env:=by rfl) (hpl:(backTo pos (starEach es X.env)).any (·.1)=false:=by rfl) :
  PE X (.Call (.Name x p) (e::es) [] pos) (tCallD sp E t):=by
 obtain ⟨f,fd,ps,hm,F,kp,_,b⟩:=c.ex
 intro pins s σ H Q I h
 refine bJ (yg I hg hm ?_ hdb)
 refine cm (h₀:=X.base) I.ok.mod.kin kp (thn (ha pos pins s σ H _ I h) λus s1 ⟨vs,H1,I1,r,q⟩=>⟨I1.kIn,?_⟩) he hpl
 have r2:Vals (vs++[.non]) (us++[.none]):=r.append (.cons rfl .nil)
 have hl:(us++[Value.none]).length=ps.length:=by rw [←r2.length];exact F.len _ _ _ _ q
 refine wpAny_call (cx (F.run X.A X.stack s1 H1 ⟨us,[]⟩ (us++[.none]) (vs++[.non]) Q (E σ) hr I1.env0 (b s1 us I1.kIn hl) r2 q) λr s' hq=>?_)
 cases r with
 |error e=>exact hx pins σ H1 s1 e s' I1 hq
 |ok fl =>
  cases fl with
  |ret u=>exact I1.after hq
  |next=>exact False.elim hq
  |brk=>exact False.elim hq
  |cont=>exact False.elim hq
end
end L2
namespace L2
open PySem PySem.Spec PyProof.Rows
section
variable {κ:Type}[DecidableEq κ]
def v4 (kvs:List (κ×V))(k:κ):Option V:=(kvs.find? λkv=>decide (kv.1=k)).map (·.2)
def uc (kvs:List (κ×V))(k:κ)(v:V):List (κ×V) :=
 if (kvs.any λkv=>decide (kv.1=k))=true then kvs.map (λkv=>if kv.1=k then (kv.1,v) else kv) else kvs++[(k,v)]
theorem vk {p:κ×V}{r:List (κ×V)}{k:κ}(e:p.1=k):v4 (p::r) k=some p.2:=by simp [v4,b4,e]
theorem vd {p:κ×V}{r:List (κ×V)}{k:κ}(e:¬ p.1=k):v4 (p::r) k=v4 r k:=by simp [v4,b4,e]
theorem W9 (k:κ):∀kvs:List (κ×V),(kvs.any λkv=>decide (kv.1=k))=(v4 kvs k).isSome
 |[]=>rfl
 |p::r=>by
  rw [dt]
  by_cases e:p.1=k
  ·simp only [vk e,bn e,Bool.true_or,Option.isSome_some]
  ·rw [vd e,aX e,Bool.false_or];exact W9 k r
theorem Zt (k j:κ)(y:V):∀kvs:List (κ×V),v4 kvs k=none→v4 (kvs++[(k,y)]) j=if j=k then some y else v4 kvs j
 |[],_=>by
  by_cases e:k=j
  ·rw [au e.symm];exact vk (p:=(k,y)) e
  ·rw [am (λz=>e z.symm)];exact vd (p:=(k,y)) e
 |p::r,hn=>by
  rw [dB]
  have hk:¬ p.1=k:=λz=>by rw [vk z] at hn;cases hn
  rw [vd hk] at hn
  have ih:=Zt k j y r hn
  by_cases e:p.1=j
  ·rw [vk e,vk e,am (λz=>hk (e.trans z))]
  ·rw [vd e,vd e,ih]
theorem Qv (kvs:List (κ×V))(k:κ)(v:V):(uc kvs k v).length≤kvs.length+1:=by
 unfold uc
 split
 ·rw [ac];lia
 ·rw [ar,aN,bN];lia
theorem quv {kvs:List (κ×V)}{k:κ}(v:V)(h:v4 kvs k=none):uc kvs k v=kvs++[(k,v)]:=by
 unfold uc
 rw [W9,h]
 exact am (by decide)
theorem RelO.isSome_eq {o:Option V}{u:Option Ag}(r:RelO o u):o.isSome=u.isSome:=by
 cases o with
 |none=>cases u with
  |none=>rfl
  |some _=>exact (show False from r).elim
 |some _=>cases u with
  |none=>exact (show False from r).elim
  |some _=>rfl
theorem KV.val {kvs:List (κ×V)}{vs:List (κ×Ag)}(r:KV kvs vs)(k:κ):RelO (v4 kvs k) (valueAt vs k):=by
 unfold KV at r
 induction r with
 |nil=>exact True.intro
 |@cons p q ps qs h t ih =>
  obtain ⟨h1,h2⟩:=h
  by_cases e:p.1=k
  ·have e':q.1=k:=h1.symm.trans e
   have b:valueAt (q::qs) k=some q.2:=by simp [valueAt,b4,e']
   rw [vk e,b];exact h2
  ·have e':¬ q.1=k:=λz=>e (h1.trans z)
   have b:valueAt (q::qs) k=valueAt qs k:=by simp [valueAt,b4,e']
   rw [vd e,b];exact ih
theorem KV.any {kvs:List (κ×V)}{vs:List (κ×Ag)}(r:KV kvs vs)(k:κ):(kvs.any λkv=>decide (kv.1=k))=vs.any λkv=>decide (kv.1=k):=by
 unfold KV at r
 induction r with
 |nil=>rfl
 |cons h t ih=>rw [dt,dt,ih,h.1]
theorem KV.repl {kvs:List (κ×V)}{vs:List (κ×Ag)}(r:KV kvs vs)(k:κ){y:V}{u:Ag}(ry:RelV y u) :
  KV (kvs.map λkv=>if kv.1=k then (kv.1,y) else kv) (vs.map λkv=>if kv.1=k then (kv.1,u) else kv):=by
 unfold KV at r ⊢
 induction r with
 |nil=>exact .nil
 |@cons p q ps qs h t ih =>
  rw [aK,aK]
  refine .cons ?_ ih
  obtain ⟨h1,h2⟩:=h
  by_cases e:p.1=k
  ·rw [au e,au (h1.symm.trans e)];exact ⟨h1,ry⟩
  ·rw [am e,am (λz=>e (h1.trans z))];exact ⟨h1,h2⟩
theorem KV.put {kvs:List (κ×V)}{vs:List (κ×Ag)}(r:KV kvs vs)(k:κ){y:V}{u:Ag}(ry:RelV y u):KV (uc kvs k y) (stored vs k u):=by
 unfold uc stored
 rw [r.any k]
 by_cases e:(vs.any λkv=>decide (kv.1=k))=true
 ·rw [au e,au e];exact r.repl k ry
 ·rw [am e,am e];exact Paired.snoc r ⟨rfl,ry⟩
theorem KV.length {kvs:List (κ×V)}{vs:List (κ×Ag)}(r:KV kvs vs):kvs.length=vs.length:=b7 r
end
theorem qzh {P:Ac}{w:Ah}{k:Key}{u:Ag}(r:RelV (kV k) u):(x6 P w).is k u=true:=by
 cases k with
 |inl i=>obtain ⟨t,e⟩:=(show ∃t,u=Value.int i t from r);subst e;exact qw0 P w i t
 |inr x=>obtain ⟨t,e⟩:=(show ∃t,u=Value.str x t from r);subst e;exact qwh P w x t
theorem Yn {P:Ac}{w:Ah}:∀ {ks:List Key} {us:List Ag},Vals (ks.map kV) us→ItemsAre (x6 P w) ks us
 |[],_,r=>by rw [cT] at r;cases r;exact .nil
 |k::ks,_,r=>by
  rw [aK] at r
  cases r with
  |cons h t=>exact .cons (qzh h) (Yn t)
abbrev KT (H:Hp):List (List Key×V)→List (List Key×Aj×Ag)→Prop:=Paired λp q=>p.1=q.1∧H q.2.1=some (.tup (p.1.map kV))∧RelV p.2 q.2.2
theorem KT.val {H:Hp}{kvs:List (List Key×V)}{xs:List (List Key×Aj×Ag)}(r:KT H kvs xs)(k:List Key):RelO (v4 kvs k) ((atKey xs k).map (·.2)):=by
 induction r with
 |nil=>exact True.intro
 |@cons p q ps qs h t ih =>
  obtain ⟨h1,_,h2⟩:=h
  by_cases e:p.1=k
  ·have e':q.1=k:=h1.symm.trans e
   have b:atKey (q::qs) k=some q.2:=by simp [atKey,b4,e']
   rw [vk e,b];exact h2
  ·have e':¬ q.1=k:=λz=>e (h1.trans z)
   have b:atKey (q::qs) k=atKey qs k:=by simp [atKey,b4,e']
   rw [vd e,b];exact ih
theorem KT.repl {H:Hp}{kvs:List (List Key×V)}{xs:List (List Key×Aj×Ag)}(r:KT H kvs xs)(k:List Key){y:V}{u:Ag}(ry:RelV y u) :
  KT H (kvs.map λkv=>if kv.1=k then (kv.1,y) else kv) (xs.map (putAt k u)):=by
 induction r with
 |nil=>exact .nil
 |@cons p q ps qs h t ih =>
  rw [aK,aK]
  refine .cons ?_ ih
  obtain ⟨h1,h2,h3⟩:=h
  unfold putAt
  by_cases e:p.1=k
  ·rw [au e,au (h1.symm.trans e)];exact ⟨h1,h2,ry⟩
  ·rw [am e,am (λz=>e (h1.trans z))];exact ⟨h1,h2,h3⟩
theorem KT.put {H:Hp}{kvs:List (List Key×V)}{xs:List (List Key×Aj×Ag)}(r:KT H kvs xs)(k:List Key){b:Aj}{y:V}{u:Ag}(hb:H b=some (.tup (k.map kV)))(ry:RelV y u) :
  KT H (uc kvs k y) (storedH xs k b u):=by
 have e:(kvs.any λkv=>decide (kv.1=k))=(atKey xs k).isSome:=by
  rw [W9,(r.val k).isSome_eq,Option.isSome_map]
 unfold uc storedH
 rw [e]
 by_cases q:(atKey xs k).isSome=true
 ·rw [au q,au q];exact r.repl k ry
 ·rw [am q,am q];exact Paired.snoc r ⟨rfl,hb,ry⟩
theorem KT.keeps {H H':Hp}{kvs:List (List Key×V)}{xs:List (List Key×Aj×Ag)}(r:KT H kvs xs)(ht:∀b ys,H b=some (.tup ys)→H' b=some (.tup ys)):KT H' kvs xs :=
 Paired.mapP r λ_ _ z=>⟨z.1,ht _ _ z.2.1,z.2.2⟩
section
variable {P:Ac}{w:Ah}{H:Hp}{h:Heap}{a:Aj}
theorem rd_of {u:HO}(ok:HOk P w H h)(e:Rd H a u):ObjOk P w H h a u:=e.ok ok
theorem qzg {kvs:List (Key×V)}(ok:HOk P w H h)(e:Rd H a (.dK kvs)):kvs.length≤sizeLine∧(a==sysModules)=false∧∃vs,KV kvs vs∧h.DictOf (x6 P w) a vs :=
 show ObjOk P w H h a (.dK kvs) from rd_of ok e
theorem dk_of {kvs:List (Key×V)}(ok:HOk P w H h)(e:H a=some (.dK kvs)):kvs.length≤sizeLine∧(a==sysModules)=false∧∃vs,KV kvs vs∧h.DictOf (x6 P w) a vs:=qzg ok (.inl e)
theorem Ju {ks:List Key}(ok:HOk P w H h)(e:H a=some (.tup (ks.map kV))):(tupleKind (x6 P w)).is h ks a:=by
 obtain ⟨_,its,r,o,h1,h2,n,h3⟩:=(show ObjOk P w H h a (.tup (ks.map kV)) from ok a _ e)
 exact ⟨o,its.toArray,n,h1,h2,h3,by simpa using Yn r⟩
theorem qzs {kvs:List (List Key×V)}(ok:HOk P w H h)(e:Rd H a (.dT kvs)):kvs.length≤sizeLine∧(a==sysModules)=false ∧
  ∃xs,KT H kvs xs∧h.DictOfH (tupleKind (x6 P w)) a xs:=by
 obtain ⟨z,y,xs,r,o,es,ep,h1,h2,h3,h4,h5⟩:=(show ObjOk P w H h a (.dT kvs) from rd_of ok e)
 refine ⟨z,y,xs,r,o,es,ep,h1,h2,h3,h4,λx hx=>?_,h5⟩
 have all:∀ {l:List (List Key×V)} {m:List (List Key×Aj×Ag)},KT H l m→∀x∈m,(tupleKind (x6 P w)).is h x.1 x.2.1:=by
  intro l m q
  induction q with
  |nil=>intro x hx;exact nomatch hx
  |@cons p q ps qs hq t ih =>
   intro x hx
   rcases aw.mp hx with e|hx
   ·subst e
    exact Ju ok (by rw [←hq.1];exact hq.2.1)
   ·exact ih x hx
 exact all r x hx
theorem dt_of {kvs:List (List Key×V)}(ok:HOk P w H h)(e:H a=some (.dT kvs)):kvs.length≤sizeLine∧(a==sysModules)=false ∧
  ∃xs,KT H kvs xs∧h.DictOfH (tupleKind (x6 P w)) a xs:=qzs ok (.inl e)
end
def DGet (H:Hp)(a:Aj)(y:V)(r:Option V):Prop :=
 (∃kvs k,Rd H a (.dK kvs)∧y=kV k∧r=v4 kvs k)∨∃kvs k b,Rd H a (.dT kvs)∧y=.ref b∧H b=some (.tup (k.map kV))∧r=v4 kvs k
def DPut (H:Hp)(a:Aj)(y v:V)(H':Hp):Prop :=
 (∃kvs k,H a=some (.dK kvs)∧y=kV k∧kvs.length<sizeLine∧H'=upd H a (.dK (uc kvs k v))) ∨
 ∃kvs k b,H a=some (.dT kvs)∧y=.ref b∧H b=some (.tup (k.map kV))∧kvs.length<sizeLine∧H'=upd H a (.dT (uc kvs k v))
theorem DGet.t {H:Hp}{a b:Aj}{kvs:List (List Key×V)}{k:List Key}(e:H a=some (.dT kvs))(eb:H b=some (.tup (k.map kV))):DGet H a (.ref b) (v4 kvs k):=.inr ⟨kvs,k,b,.inl e,rfl,eb,rfl⟩
theorem DPut.t {H:Hp}{a b:Aj}{kvs:List (List Key×V)}{k:List Key}{v:V}(e:H a=some (.dT kvs))(eb:H b=some (.tup (k.map kV)))(hl:kvs.length<sizeLine) :
  DPut H a (.ref b) v (upd H a (.dT (uc kvs k v))):=.inr ⟨kvs,k,b,e,rfl,eb,hl,rfl⟩
section
variable {X:Cx}{pins:List (Aj×Obj)}{σ:St}{H:Hp}{s:Ab}{a:Aj}{y v:V}{u r:Ag}{o:Option V}{A:Ae}{E:Ag→Ab→Prop}
theorem Inv.big (I:Inv X pins σ H s):sysModules<s.heap.objs.size:=by
 have h:mainGlobals<s.heap.objs.size:=(I.mod.glob.keeps I.bk).lt
 exact aI (by decide) h
theorem qv9 {Q:Ag→Ab→Prop}(hu:A.units+1<cLine)(I:Inv X pins σ H s)(g:DGet H a y (some v))(ry:RelV y u)(h:∀w' s',Inv X pins σ H s'→RelV v w'→Q w' s') :
  wpAny (model X.prog X.w) A (getItem (.ref a) u) Q E s:=by
 rcases g with ⟨kvs,k,e,ey,l⟩|⟨kvs,k,b,e,ey,eb,l⟩
 ·subst ey
  obtain ⟨z,hd,vs,rel,dd⟩:=qzg I.hok e
  obtain ⟨w',hw,rw'⟩:=RelO.some_of (v:=v) (o:=valueAt vs k) (by rw [l];exact rel.val k)
  exact wpAny_getItem_of (qzh ry) dd.mapOf hw (h w' _ (I.tok _) rw')
 ·subst ey
  cases (show u=Value.ref b from ry)
  obtain ⟨z,hd,xs,rel,dd⟩:=qzs I.hok e
  obtain ⟨w',hw,rw'⟩:=RelO.some_of (v:=v) (o:=(atKey xs k).map (·.2)) (by rw [l];exact rel.val k)
  obtain ⟨p,hp,hp2⟩:=Option.map_eq_some_iff.mp hw
  refine wpAny_getItem_heap (dc hu) (Ju I.hok eb) dd hp ?_
  rw [hp2]
  exact h w' _ (I.tok _) rw'
theorem wwg {Q:Ag→Ab→Prop}(hu:A.units+1<cLine)(I:Inv X pins σ H s)(g:DGet H a y o)(ry:RelV y u)(h:∀s',Inv X pins σ H s'→Q (.bool (!o.isSome)) s') :
  wpAny (model X.prog X.w) A (compareOp .NotIn u (.ref a)) Q E s:=by
 rcases g with ⟨kvs,k,e,ey,l⟩|⟨kvs,k,b,e,ey,eb,l⟩
 ·subst ey
  obtain ⟨z,hd,vs,rel,dd⟩:=qzg I.hok e
  refine wpAny_notIn_of (qzh ry) hd dd.mapOf ?_
  rw [← (rel.val k).isSome_eq,←l]
  exact h _ (I.tok _)
 ·subst ey
  cases (show u=Value.ref b from ry)
  obtain ⟨z,hd,xs,rel,dd⟩:=qzs I.hok e
  refine wpAny_notIn_heap (dc hu) (Ju I.hok eb) hd dd ?_
  have q:=(rel.val k).isSome_eq
  rw [Option.isSome_map] at q
  rw [←q,←l]
  exact h _ (I.tok _)
theorem qz2 {h':Heap}{t':Nat}{ob:HO}(I:Inv X pins σ H s)(mu:Mut (H a))(hs:Heap.SameBut a s.heap h')(he:∃q,h'.get? a=some q)(new:ObjOk X.prog X.w (upd H a ob) h' a ob) :
  Inv X pins σ (upd H a ob) { s with heap:=h',toks:=t' } :=
 I.write (x:=a) (e:=a) mu (.inl rfl) (λb q hb z=>(hs.2 b hb).trans z) he new
theorem dk_new {P:Ac}{w:Ah}{H':Hp}{h':Heap}{kvs:List (Key×V)}{vs:List (Key×Ag)}(z:kvs.length≤sizeLine)(hd:(a==sysModules)=false)(rel:KV kvs vs)(dd:h'.DictOf (x6 P w) a vs) :
  ObjOk P w H' h' a (.dK kvs):=⟨z,hd,vs,rel,dd⟩
theorem qvh {H':Hp}{Q:Unit→Ab→Prop}(hu:A.units+1<cLine)(I:Inv X pins σ H s)(g:DPut H a y v H')(ry:RelV y u)(rv:RelV v r)(h:∀s',Inv X pins σ H' s'→Q () s') :
  wpAny (model X.prog X.w) A (setItem (.ref a) u r) Q E s:=by
 rcases g with ⟨kvs,k,e,ey,l,eH⟩|⟨kvs,k,b,e,ey,eb,l,eH⟩
 ·subst ey eH
  obtain ⟨z,hd,vs,rel,dd⟩:=dk_of I.hok e
  have hz:vs.length≤sizeLine:=by rw [←rel.length];exact z
  have hl:(uc kvs k v).length≤sizeLine:=by have:=Qv kvs k v;lia
  refine wpAny_setItem_pairs (hsz:=hz) (qzh ry) dd λh' dd' hs=>h _ ?_
  have he:∃q,h'.get? a=some q:=let ⟨q,_,_,hq,_⟩:=dd';⟨q,hq⟩
  exact qz2 I (by rw [e];exact True.intro) hs he (dk_new hl hd (rel.put k rv) dd')
 ·subst ey eH
  cases (show u=Value.ref b from ry)
  obtain ⟨z,hd,xs,rel,dd⟩:=dt_of I.hok e
  have hz:xs.length≤sizeLine:=by rw [←b7 rel];exact z
  have hl:(uc kvs k v).length≤sizeLine:=by have:=Qv kvs k v;lia
  refine wpAny_setItem_heap (hsz:=hz) (dc hu) (Ju I.hok eb) dd λh' dd' hs=>h _ ?_
  obtain ⟨q,es,ep,hq,h2,h3,h4,_,h5⟩:=dd'
  refine qz2 I (by rw [e];exact True.intro) hs ⟨q,hq⟩ ⟨hl,hd,_,(rel.put k eb rv).keeps λc ys ec=>?_,q,es,ep,hq,h2,h3,h4,h5⟩
  rw [wb (ne_of ec e (λz=>nomatch z))]
  exact ec
end
section
variable {X:Cx}{pins:List (Aj×Obj)}{σ:St}{H:Hp}{s:Ab}{a:Aj}{kvs:List (Key×V)}{k:Key}{u:Ag}{A:Ae}{E:Ag→Ab→Prop}
end
def NoSl (i:Expr):Prop:=∀ov iv,subscripted i false ov iv=operate [ov,iv] (getItem ov iv)
theorem wws {prog:Ac}{w:Ah}{A:Ae}{E:Ag→Ab→Prop}{s:Ab}{env:Env}{value slice:Expr}{pos:Pos}{T id:String}{Q:Ag→Ab→Prop}
  (hl:typeLookup (.type T) "__getitem__" = pure (some (.builtin id))) (hs:NoSl slice)
  (h:wpAny (model prog w) A (eval value env) (λo s₁=>wpAny (model prog w) A (eval slice env) (λi s₂=>s₂.TypeIs o T∧wpAny (model prog w) A (getItem o i) Q E s₂) E s₁) E s) :
  wpAny (model prog w) A (eval (.Subscript value slice pos) env) Q E s:=by
 refine Subscript_ (ax h (λo s₁ h₁=>ax h₁ (λi s₂ h₂=>?_) λ_ _ x=>x) λ_ _ x=>x)
 obtain ⟨hT,h₂⟩:=h₂
 unfold subscriptTail
 refine aa ?_
 rw [getitemInPython_of_ne hT.not_modules]
 refine aa (wpAny_specialOf hT hl ?_)
 have fin:wpAny (model prog w) A (subscripted slice false o i) (λr s₃=>wpAny (model prog w) A (letTemporaryGo value o r >>= λ_=>pure r) Q E s₃) E s₂:=by
  rw [hs o i]
  exact wpAny_operating (ax h₂ (λr s₃ h₃=>aa (wpAny_letTemporaryGo (ai h₃))) λ_ _ x=>x)
 first
  |exact ai (aa fin)
  |exact aa (ai (aa fin))
  |exact aa fin
theorem qwf {X:Cx}{pins:List (Aj×Obj)}{σ:St}{H:Hp}{s:Ab}{a:Aj}{y:V}{o:Option V}(I:Inv X pins σ H s)(g:DGet H a y o):s.TypeIs (.ref a) "dict" := by
 rcases g with ⟨kvs,k,e,_,_⟩|⟨kvs,k,b,e,_,_,_⟩
 ·obtain ⟨_,_,vs,_,dd⟩:=qzg I.hok e
  exact dd.typeIs
 ·obtain ⟨_,_,xs,_,dd⟩:=qzs I.hok e
  exact dd.typeIs
def tDGet (td ty:TE):TE:=λσ H Q=>td σ H λx H1=>ty σ H1 λy H2=>∃a v,x=.ref a∧DGet H2 a y (some v)∧Q v H2
def wwd (ty td:TE):TE:=λσ H Q=>ty σ H λy H1=>td σ H1 λx H2=>∃a o,x=.ref a∧DGet H2 a y o∧Q (.bl (!o.isSome)) H2
def sDPut (td ty tv:TE):TS:=λD σ H=>tv σ H λv H1=>td σ H1 λx H2=>ty σ H2 λy H3=>∃a H4,x=.ref a∧DPut H3 a y v H4∧D.nx σ H4
section
variable {X:Cx}{o i e value:Expr}{pos pos' tpos:Pos}{td ty tv:TE}
theorem wq2 (hu:X.A.units+1<cLine)(ho:PE X o td)(hi:PE X i ty)(hs:NoSl i):PE X (.Subscript o i pos) (tDGet td ty):=by
 intro pins s σ H Q I h
 refine wws PySem.F.slot_dict_getitem.lookup hs (thn (ho pins s σ H _ I h) λu s1 ⟨x,H1,I1,rx,q1⟩=>thn (hi pins s1 σ H1 _ I1 q1) λiv s2 ⟨y,H2,I2,ry,a,v,ex,g,q2⟩=>?_)
 subst ex
 obtain rfl:u=Value.ref a:=rx
 exact ⟨qwf I2 g,qv9 hu I2 g ry λw' s3 I3 rw'=>⟨v,H2,I3,rw',q2⟩⟩
theorem qjy (hu:X.A.units+1<cLine)(hi:PE X i ty)(ho:PE X o td):PC X .NotIn i o (wwd ty td):=by
 intro pins s σ H Q I h
 refine thn (hi pins s σ H _ I h) λiv s1 ⟨y,H1,I1,ry,q1⟩=>thn (ho pins s1 σ H1 _ I1 q1) λu s2 ⟨x,H2,I2,rx,a,ov,ex,g,q2⟩=>?_
 subst ex
 obtain rfl:u=Value.ref a:=rx
 exact wwg hu I2 g ry λs3 I3=>⟨.bl (!ov.isSome),H2,I3,rfl,q2⟩
theorem wxz (hu:X.A.units+1<cLine)(ho:PE X o td)(hi:PE X i ty)(hv:PE X value tv)(hs:swapsWith value (some (.Subscript o i pos')) pos.line X.env=pure false) :
  PS X (.Assign [.Subscript o i pos'] value pos) (sDPut td ty tv):=by
 intro pins s σ H D I h
 refine wpAny_Assign_Subscript (thn (hv pins s σ H _ I h) λr s1 ⟨v,H1,I1,rv,q1⟩=>thn (ho pins s1 σ H1 _ I1 q1) λu s2 ⟨x,H2,I2,rx,q2⟩=>thn (hi pins s2 σ H2 _ I2 q2) λiv s3 ⟨y,H3,I3,ry,a,H4,ex,g,q3⟩=>?_) hs
 subst ex
 obtain rfl:u=Value.ref a:=rx
 exact qvh hu I3 g ry rv λs4 I4=>⟨σ,H4,I4,q3⟩
end
theorem qu0 {P:Ac}{w:Ah}{H:Hp}(h:Heap)(hb:sysModules<h.objs.size):ObjOk P w H (h.push { cls:=.type "dict",data:=.dict #[] }) h.objs.size (.dT []) :=
 ⟨ba _,bD.mpr (cv (aq hb)),[],.nil,_,#[],0,aD _ rfl,⟨rfl,rfl,rfl⟩,rfl,rfl,List.nodup_nil⟩
def tDNewT:TE:=λ_ H Q=>∀p,H p=none→Q (.ref p) (upd H p (.dT []))
section
variable {X:Cx}{pos:Pos}
theorem qy0:PE X (.Dict [] [] pos) tDNewT:=λpins s σ H Q I h =>
 wpAny_Dict_empty ⟨.ref s.heap.objs.size,_,I.laid (a:=s.heap.objs.size) (o:=.dT []) (t':=s.toks) (λ_ _ q=>ah _ q) (al _) (qu0 s.heap I.big),rfl,h _ (I.hok.fresh (al _))⟩
end
end L2
namespace L2
open PySem PySem.Spec PyProof.Rows PySem.W
def RawD (h:Heap)(d:Aj)(es:Array DictEntry)(ep:Nat):Prop:=∃o,h.get? d=some o∧o.ExactDict∧o.data=.dict es ep
section
variable {prog:Ac}{w:Ah}{A:Ae}{E:Ag→Ab→Prop}{s:Ab}{d:Aj}{es:Array DictEntry}{ep:Nat}
theorem RawD.ty {s:Ab}(x:RawD s.heap d es ep):s.TypeIs (.ref d) "dict" := let ⟨o,ho,hc,_⟩:=x;⟨o,ho,hc.1⟩
theorem RawD.lt {h:Heap}(x:RawD h d es ep):d<h.objs.size:=let ⟨_,ho,_⟩:=x;af ho
theorem RawD.at {h h':Heap}(x:RawD h d es ep)(k:∀o,h.get? d=some o→h'.get? d=some o):RawD h' d es ep:=let ⟨o,ho,r⟩:=x;⟨o,k o ho,r⟩
theorem wqv {Q:Ag→Ab→Prop}(hd:(d==sysModules)=false)(hm:RawD s.heap d es ep)
  (hQ:Q (.ref s.heap.objs.size) { s with heap:=s.heap.push { cls:=.type "dict_keyiterator",data:=.fields #[.ref d,.int 0 0,.int es.size 0,.int ep 0] } }):wpAny (model prog w) A (pyIter (.ref d)) Q E s:=by
 obtain ⟨o,ho,hc,hdat⟩:=id hm
 (refine wpAny_pyIter_slot hm.ty F.slot_dict_iter (dC F.slot_dict_iter hm.ty F.entry_dict_iter ?_ (F.args_dict_iter_1 _)) ;unfold Builtin.«dict.__iter__» ;refine aa ?_ ;unfold Builtin.Dict.dictSlotNone ;refine aa (wpAny_notOrdered_dict hm.ty ?_))
 (show wpAny _ _ (pure (Value.ref d)) _ _ s ;refine ai ?_ ;show wpAny _ _ (Builtin.Dict.showsAll d >>= _) _ _ s ;unfold Builtin.Dict.showsAll ;rw [am (by rw [hd];exact aA)])
 (refine aa (ai ?_) ;refine aa (cA ho hdat ?_) ;refine aa (dO ho hdat ?_))
 refine aa (bw (ai ⟨_,rfl,"dict_keyiterator",_,⟨_,aD _ rfl,rfl⟩,bt.lookup,?_⟩)) ;simpa [rawInt] using hQ
theorem qud {it:Aj}{i:Nat}{e:DictEntry}{Q:Option Ag→Ab→Prop}(hit:s.heap.IsKeyIter it d i es.size ep)(hm:RawD s.heap d es ep)(hx:es[i]?=some e)
  (hQ:∀h',h'.IsKeyIter it d (i+1) es.size ep→Heap.SameBut it s.heap h'→Q (some e.key) { s with heap:=h' }):wpAny (model prog w) A (pyNext (.ref it)) Q E s:=by
 obtain ⟨o,ho,hc,hd⟩:=id hit ;obtain ⟨od,hod,hcd,hdd⟩:=id hm
 (unfold pyNext ;refine aa (wpAny_attempt (cq (name:=Str.ofString "__next__") hit.typeIs bt (dC bt hit.typeIs cN ?_ (cH _)))) ;refine aa (ai ?_) ;refine aa ?_ ;refine aa ?_)
 ((first | refine aa (bB hit.typeIs (ai ?_)) | refine aa (bS hit.typeIs (ai ?_))) ;refine aa (wpAny_fieldsOf ho hd ?_) ;simp only [show Builtin.Dict_items.ownsTuple "dict_keyiterator" = false by decide,de,dy] ;show wpAny _ _ (if (Value.ref d==Value.none)=true then _ else _) _ _ s ;rw [am (show ¬ ((Value.ref d==Value.none)=true) from aA)] ;refine aa (ai ?_) ;refine aa (cA hod hdd ?_) ;rw [am (by simp)] ;refine aa (ai ?_) ;refine aa (dO hod hdd ?_) ;rw [am (by simp)] ;refine ai ?_)
 have hlt:i<es.size:=(df.mp hx).1 ;have he:es[i]=e:=(df.mp hx).2
 (simp only [show ¬ ((i:Int)<0) from by lia,dy,b9,ce hlt] ;refine aa ?_ ;(first | refine aa (bB hit.typeIs (ai ?_)) | refine aa (bS hit.typeIs (ai ?_))) ;refine aa (wpAny_isOneOf_keyiter hit.typeIs ?_) ;show wpAny _ _ (setField (.ref it) 1 (rawInt ((i:Int)+1)) >>= _) _ _ s ;refine aa (wpAny_setField ho hd (by simp) ?_))
 have hit':(s.heap.update it (Obj.mapFields (·.setIfInBounds 1 (rawInt ((i:Int)+1))))).IsKeyIter it d (i+1) es.size ep:=⟨_,Heap.get?_update_self _ ho (Obj.isFreed_of_fields (Obj.data_mapFields hd _)),(Obj.cls_mapFields ..).trans hc,by rw [Obj.data_mapFields hd];simp [rawInt]⟩
 (refine aa (wpAny_holding ?_) ;refine aa (wpAny_isOneOf_keyiter (s:={ s with heap:=s.heap.update it (Obj.mapFields (·.setIfInBounds 1 (rawInt ((i:Int)+1)))) }) hit'.typeIs ?_) ;show wpAny _ _ (pure es[i].key) _ _ _ ;rw [he])
 exact ai (ai ⟨_,rfl,ai (hQ _ hit' (Heap.SameBut.update ..))⟩)
theorem wxq {it:Aj}{i:Nat}{Q:Option Ag→Ab→Prop}(hh:A.handled=none)(hit:s.heap.IsKeyIter it d i es.size ep)(hm:RawD s.heap d es ep)(hx:es.size≤i)(hQ:∀h',Heap.ExtBut it s.heap h'→Q none { s with heap:=h' }):wpAny (model prog w) A (pyNext (.ref it)) Q E s:=by
 obtain ⟨o,ho,hc,hd⟩:=id hit ;obtain ⟨od,hod,hcd,hdd⟩:=id hm
 (unfold pyNext ;refine aa (wpAny_attempt (cq (name:=Str.ofString "__next__") hit.typeIs bt (dC bt hit.typeIs cN ?_ (cH _)))) ;refine aa (ai ?_) ;refine aa ?_ ;refine aa ?_)
 ((first | refine aa (bB hit.typeIs (ai ?_)) | refine aa (bS hit.typeIs (ai ?_))) ;refine aa (wpAny_fieldsOf ho hd ?_) ;simp only [show Builtin.Dict_items.ownsTuple "dict_keyiterator" = false by decide,de,dy] ;show wpAny _ _ (if (Value.ref d==Value.none)=true then _ else _) _ _ s ;rw [am (show ¬ ((Value.ref d==Value.none)=true) from aA)] ;refine aa (ai ?_) ;refine aa (cA hod hdd ?_) ;rw [am (by simp)] ;refine aa (ai ?_) ;refine aa (dO hod hdd ?_) ;rw [am (by simp)] ;refine ai ?_)
 (simp only [show ¬ ((i:Int)<0) from by lia,dy,b9,bY hx] ;refine aa ?_ ;(first | refine aa (bB hit.typeIs (ai ?_)) | refine aa (bS hit.typeIs (ai ?_))) ;show wpAny _ _ (setField (.ref it) 0 .none >>= _) _ _ s ;refine aa (wpAny_setField ho hd (by simp) ?_) ;show wpAny _ _ (newExc (.type "StopIteration") [] >>= _) _ _ _ ;refine aa ?_ ;simp only [newExc,newTuple])
 (refine aa (bw ?_ (by size_fits)) ;refine aa (m:=firstArgMember _ _) (wpAny_of_eq (a:=Value.none) (by first | rfl | (simp only [firstArgMember];rfl)) ?_) ;refine bw ?_ (by size_fits) ;simp only [raiseNew] ;refine aa (wpAny_handled ?_) ;rw [show A.in1.handled=none from hh] ;refine aa (ai (wpAny_throw ?_)))
 refine aa (wpAny_isInstance (T := "StopIteration") (b:=true) ⟨_,aD _ rfl,rfl⟩ isSubtype_stop (ai (hQ _ (((Heap.SameBut.update ..).extBut.push _).push _))))
theorem qjc (hh:A.handled=none)(I:Aj)(hne:d≠I):Walks prog w A I [I,d] [I] es.size (λi v=>∃e,es[i]?=some e∧v=e.key) (λi h=>h.IsKeyIter I d i es.size ep∧RawD h d es ep) where
 sub:=λb hb=>by simp at hb;simp [hb]
 frame:=λ_ _ _ st hk=>⟨st.1.at λo e=>hk I (by simp) o e,st.2.at λo e=>hk d (by simp) o e⟩
 item:=λi s Q E hi st hQ=>qud st.1 st.2 (ce hi) λh' it' sb=>hQ _ h' s.toks ⟨_,ce hi,rfl⟩ ⟨it',st.2.at λo e=>sb.extBut d o hne e⟩ λb o hb e=>sb.extBut b o (λh=>hb (by simp [h])) e
 done:=λs Q E st hQ=>wxq hh st.1 st.2 (al _) λh' eb=>hQ h' s.toks λb o hb e=>eb b o (λh=>hb (by simp [h])) e
 self:=λ_ _ _ _ st hQ=>wpAny_pyIter_keyiter st.1 hQ
theorem wq4 (lo:(d==sysModules)=false):KdlSrc prog w "dict" d d es.size (λi v=>∃e,es[i]?=some e∧v=e.key) (λh=>RawD h d es ep) where
 type:=λ_ hm=>hm.ty
 there:=λ_ hm=>⟨hm.lt,hm.lt⟩
 keep:=λ_ _ hm hk=>hm.at λo e=>hk d (.inl rfl) o e
 notList:=by decide
 notTuple:=by decide
 hint:=λ_ _ _ _ hm hq=>kdl_hint_dict hm.ty hq
 iter:=λ_ _ hh hm=>⟨_,_,(λ_ _ hq=>wqv lo hm hq),qjc hh _ (aq hm.lt),⟨⟨_,aD _ rfl,rfl,rfl⟩,hm.at λo e=>ah _ e⟩⟩
theorem Zm (hd:(d==sysModules)=false):MeetsIn prog w (Builtin.«dict.__len__» ⟨[.ref d],[]⟩) (λ_ R s=>∃es ep,RawD s.heap d es ep∧R (.ok (.ret (.int es.size s.toks))) { s with toks:=s.toks+1 }) :=
 .of_wp λA R s ⟨es,ep,hm,h⟩=>by
  obtain ⟨o,ho,hc,hdat⟩:=hm
  (show wpAny _ _ (dictSize d >>= _) _ _ s ;unfold dictSize ;refine aa (aa (cA ho hdat (ai ?_))) ;show wpAny _ _ (Builtin.Dict.pendingCount d >>= _) _ _ s ;refine aa (wpAny_pendingCount_other hd ?_) ;refine wpAny_ret_mkInt ?_ ;rw [Nat.add_zero] ;exact h)
theorem wqu {Q:Ag→Ab→Prop}(hd:(d==sysModules)=false)(hm:RawD s.heap d es ep)(hfit:(es.size:Int)<2 ^ 63)(h:Q (.int es.size (s.toks+1)) { s with toks:=s.toks+1+1 }):wpAny (model prog w) A (call (.builtin "len") [.ref d]) Q E s:=by
 refine Calls.call_function_entry kind_len plain_len entry_len (args_len1 _) ?_ ;unfold Builtin.«len» ;refine aa (m:=oneArg "len" _) (ai ?_)
 refine aa (m:=callSpecial? (.ref d) (Str.ofString "__len__")) (cq (name:=Str.ofString "__len__") hm.ty F.slot_dict_len (call_meetsIn F.slot_dict_len hm.ty F.entry_dict_len (F.args_dict_len_1 _) (Zm hd) ⟨es,ep,hm,?_⟩))
 (show wpAny _ _ _ _ _ { s with toks:=s.toks+1 } ;refine aa (wpAny_holding (ai ?_)) ;refine aa (wpAny_letGo ?_) ;show wpAny _ _ (if ((es.size:Nat):Int)<0 then _ else _) _ _ _ ;rw [am (by lia)] ;show wpAny _ _ (if ((es.size:Nat):Int)≥2 ^ 63 then _ else _) _ _ _ ;rw [am (by lia)])
 exact aa (wpAny_mkInt (ai ⟨_,rfl,h⟩))
end
section
variable {X:Cx}
theorem qyv {P:Ac}{w:Ah}{H:Hp}{h:Heap}{a:Aj}{kvs:List (List Key×V)}(ok:HOk P w H h)(e:H a=some (.dT kvs)) :
  kvs.length≤sizeLine∧(a==sysModules)=false∧∃(xs:List (List Key×Aj×Ag)) (es:Array DictEntry) (ep:Nat),KT H kvs xs∧RawD h a es ep∧es.toList=xs.map (entryOfKey (tupleKind (x6 P w))):=by
 obtain ⟨z,y,xs,r,o,es,ep,h1,h2,h3,h4,h5⟩:=(show ObjOk P w H h a (.dT kvs) from ok a _ e)
 exact ⟨z,y,xs,es,ep,r,⟨o,h1,h2,h3⟩,h4⟩
theorem Yx:vm X (.builtin "len") (λxs H Q=>∃a kvs,xs=[V.ref a]∧H a=some (.dT kvs)∧Q (.int kvs.length) H):=by
 intro pins s σ H xs us Q I r h
 obtain ⟨a,kvs,rfl,e,q⟩:=h
 obtain ⟨u,rfl,rx⟩:=ym r
 cases rx
 obtain ⟨z,hd,ys,es,ep,rel,raw,hes⟩:=qyv I.hok e
 have hl:es.size=kvs.length:=by rw [←bi,hes,ac,b7 rel]
 have hn:=Jr
 exact wqu hd raw (by rw [hl];lia) ⟨.int kvs.length,H,I.tok _,⟨_,by rw [hl]⟩,q⟩
def qjn (H:Hp)(kvs:List (List Key×V))(vs:List V):Prop:=Paired (λv (p:List Key×V)=>∃b,v=V.ref b∧H b=some (.tup (p.1.map kV))) vs kvs
theorem qxg (hc:X.calm=true):vm X (.type "list") (λxs H Q=>∃a kvs,xs=[V.ref a]∧H a=some (.dT kvs)∧∀p vs,H p=none→qjn H kvs vs→Q (.ref p) (upd H p (.lst vs))):=by
 intro pins s σ H xs us Q I r h
 obtain ⟨a,kvs,rfl,e,q⟩:=h
 obtain ⟨u,rfl,rx⟩:=ym r
 cases rx
 obtain ⟨z,hd,ys,es,ep,rel,raw,hes⟩:=qyv I.hok e
 have hl:es.size=kvs.length:=by rw [←bi,hes,ac,b7 rel]
 refine kdl_call (wq4 hd) (I.ok.hd hc) raw (by rw [hl];exact z) λh' tk acc' c' hk hD hacc=>?_
 have key:∀(l:List Ag) (kvs':List (List Key×V)) (ys':List (List Key×Aj×Ag)),KT H kvs' ys'→l.length=kvs'.length→(∀(j:Nat) v,l[j]?=some v→∃y,ys'[j]?=some y∧v=.ref y.2.1)→∃vs,Vals vs l∧qjn H kvs' vs:=by
  intro l kvs' ys' rr
  induction rr generalizing l with
  |nil =>
   intro hl' _
   cases l with
   |nil=>exact ⟨[],.nil,.nil⟩
   |cons _ _=>simp at hl'
  |@cons p y ps yss hp t ih =>
   intro hl' hj
   cases l with
   |nil=>simp at hl'
   |cons v l =>
    obtain ⟨y',ey,rfl⟩:=hj 0 v rfl
    cases ey
    obtain ⟨vs,v1,v2⟩:=ih l (by simpa using hl') λj u hu=>by
     obtain ⟨y2,e2,e3⟩:=hj (j+1) u (by simpa using hu)
     exact ⟨y2,by simpa using e2,e3⟩
    exact ⟨.ref y.2.1::vs,.cons rfl v1,.cons ⟨_,rfl,hp.2.1⟩ v2⟩
 obtain ⟨vs,v1,v2⟩:=key acc'.toList kvs ys rel (by rw [bi,hacc.1,hl]) λj v ev=>by
  obtain ⟨en,e1,rfl⟩:=hacc.2 j v (by rw [←Array.getElem?_toList];exact ev)
  rw [←Array.getElem?_toList,hes,aB] at e1
  cases hy:ys[j]? with
  |none=>rw [hy] at e1;cases e1
  |some y =>
   rw [hy] at e1
   have e2:=aj e1
   exact ⟨y,rfl,by rw [←e2];rfl⟩
 have hv:vs.length≤sizeLine:=by rw [v1.length,bi,hacc.1,hl];exact z
 exact ⟨.ref _,_,I.laid (t':=tk) hk (al _) (show ObjOk X.prog X.w _ h' _ (.lst vs) from ⟨hv,acc'.toList,c',v1,by simpa using hD⟩),rfl,q _ _ (I.hok.fresh (al _)) v2⟩
end
end L2
namespace L2
open PySem PySem.Spec PyProof.Rows
def Stay (G:Nat→V→Hp→Prop):Prop:=∀i v H H' p,G i v H→v≠.ref p→(∀b o,b≠p→H b=some o→H' b=some o)→G i v H'
theorem qxw {K:Aa}{M:List Nat}{a:Aj}{xs:List V}{te:TE}{σ:St}{H:Hp}{Q:VK}(G:Nat→V→Hp→Prop)(gs:Stay G)(hS:SqL K H a xs)(hn:xs.length≤1000000)
  (he:∀(i:Nat) (x:V) (H':Hp) (R:VK),xs[i]?=some x→Same H H'→(∀v H'',Same H' H''→G i v H''→(∀b,v=.ref b→H' b=none)→R v H'')→te (vh M σ (some x)) H' R)
  (k:∀p ys H',H p=none→Same H H'→H' p=some (.lst ys)→ys.length=xs.length→(∀j v,ys[j]?=some v→G j v H'∧v≠.ref p)→Q (.ref p) H'):Qk (Itl K a) M te σ H Q:=by
 intro p np
 refine ⟨λi m ys H2=>i≤xs.length∧m=xs.length-i∧ys.length=i∧Same H H2∧H2 p=some (.lst ys)∧∀j v,ys[j]?=some v→G j v H2∧v≠.ref p,⟨xs.length,ba _,rfl,rfl,Same.upd np,qm,λj v e=>by cases e⟩,?_⟩
 rintro i m ys H2 ⟨hi,rfl,hy,sm,hp,hG⟩
 have hS':SqL K H2 a xs:=Same.sql sm hS
 refine ⟨hp,?_,?_⟩
 ·have:(1000000:Nat)<sizeLine:=by decide
  lia
 ·by_cases hlt:i<xs.length
  ·have hx:xs[i]?=some xs[i]:=ag hlt
   refine .inr ⟨⟨xs,_,hS',hx⟩,?_⟩
   rintro v H3 ⟨rfl,hv⟩
   have e:=hv xs hS'
   rw [hx] at e
   have e':=aj e
   subst e'
   refine he i _ _ _ hx sm λv H4 s4 g4 fr=>⟨s4 _ _ hp,xs.length-(i+1),by lia,by lia,rfl,by rw [ar,hy];rfl,λb o e=>?_,qm,λj w e=>?_⟩
   ·rw [wb (wu e np)]
    exact s4 _ _ (sm _ _ e)
   ·have vp:v≠.ref p:=λz=>by
     have:=fr p z
     rw [hp] at this
     cases this
    have st:∀b o,b≠p→H4 b=some o→upd H4 p (.lst (ys++[v])) b=some o:=λb o nb e=>by rw [wb nb];exact e
    rcases (br j ys.length) with z|z
    ·rw [aM z] at e
     obtain ⟨g,nw⟩:=hG j w e
     exact ⟨gs j w _ _ p g nw λb o nb e=>st b o nb (s4 b o e),nw⟩
    ·rw [aH z] at e
     have hj:j=i:=by
      rcases br (j-ys.length) 1 with y|y
      ·lia
      ·rw [bj (by simpa using y)] at e
       cases e
     have e3:[v][j-ys.length]?=some w:=by assumption
     subst hj
     rw [show j-ys.length=0 by lia] at e3
     have:v=w:=aj e3
     subst this
     exact ⟨gs j v H4 _ p g4 vp st,vp⟩
  ·have hi':i=xs.length:=by lia
   subst hi'
   exact .inl ⟨⟨xs,hS',al _⟩,k p ys _ np sm hp hy hG⟩
theorem qxt {K:Aa}{M:List Nat}{a:Aj}{xs:List V}{te:TE}{σ:St}{H:Hp}{Q:VK}(f:V→V)(hf:∀x b,f x≠.ref b)(hS:SqL K H a xs)(hn:xs.length≤1000000)
  (he:∀(x:V) (H':Hp) (R:VK),x∈xs→Same H H'→(∀H'',Same H' H''→R (f x) H'')→te (vh M σ (some x)) H' R)
  (k:∀p H',H p=none→Same H H'→H' p=some (.lst (xs.map f))→Q (.ref p) H'):Qk (Itl K a) M te σ H Q:=by
 refine qxw (λi v _=>∃x,xs[i]?=some x∧v=f x) (λi v H H' p g _ _=>g) hS hn (λi x H' R hx s hR=>he x H' R (bu hx) s λH'' s''=>hR _ _ s'' ⟨x,hx,rfl⟩ λb e=>absurd e (hf x b)) λp ys H' np s hp hl hG=>?_
 have e:ys=xs.map f:=by
  refine List.ext_getElem? λj=>?_
  rw [aB]
  cases hj:ys[j]? with
  |none =>
   have:xs[j]?=none:=bj (by have:=List.getElem?_eq_none_iff.mp hj;lia)
   rw [this]
   rfl
  |some v =>
   obtain ⟨⟨x,hx,rfl⟩,_⟩:=hG j v hj
   rw [hx]
   rfl
 rw [e] at hp
 exact k p H' np s hp
end L2
namespace L2
open PySem PySem.Spec PyProof.Rows
theorem qjq:bootBuiltins "sum" = some (.builtin "sum"):=by decide +kernel
section
variable {X:Cx}{K:Aa}
theorem qyq (hK:X.K=K):IxR X (rIxL K):=by
 subst hK
 exact wx
theorem Z3 (ns:List Int):∀n,preSum (λi=>ns.getD i 0) n=(ns.take n).sum
 |0=>by simp [preSum]
 |n+1=>by
  rw [preSum,Z3 ns n,dR]
  cases e:ns[n]? with
  |none=>simp [ak,e]
  |some v=>simp [ak,e]
theorem Zz (hK:X.K=K)(hc:X.calm=true):vm X (.builtin "sum") (λxs H Q=>∃(p:Aj) (ns:List Int),xs=[.ref p]∧SqL K H p (ns.map V.int)∧Q (.int ns.sum) H):=by
 subst hK
 intro pins s σ H xs us Q I r h
 obtain ⟨p,ns,rfl,hS,q⟩:=h
 obtain ⟨u,rfl,ru⟩:=ym r
 cases (show u=Value.ref p from ru)
 obtain ⟨its,rv,⟨o,n,e1,e2,e3,e4⟩,hz⟩:=I.list hS
 have hl:s.heap.IsList p its.toArray:=⟨o,e1,e2,n,e4⟩
 have hlt:p<s.heap.objs.size:=af e1
 have hlen:its.length=ns.length:=by rw [←rv.length,ac]
 refine call_sum_walkG (dn hl ?_)
 refine ⟨s.heap.objs.size,_,_,_,_,_,λi=>ns.getD i 0,rfl,Walks.list (A:=X.A.in1) (I.ok.hd hc) _ p (aq hlt) its.toArray,⟨⟨_,aD _ rfl,rfl,rfl⟩,hl.push _⟩,λb hb=>?_,λi v hP=>?_,λh' tk t' hk=>?_⟩
 ·rcases aw.mp hb with z|z
  ·rw [z,bI]
   exact dv _
  ·rw [aT.mp z,bI]
   exact Nat.lt_succ_of_lt hlt
 ·have hv:its[i]?=some v:=by simpa using hP
  have hi:i<(ns.map V.int).length:=by
   rw [ac,←hlen]
   exact (aL.mp hv).1
  obtain ⟨u,eu,ru⟩:=rv.get (i:=i) (ag hi)
  rw [hv] at eu
  cases eu
  rw [List.getElem_map] at ru
  obtain ⟨t,rfl⟩:=ru
  rw [ac] at hi
  exact ⟨t,by show Value.int ns[i] t=Value.int (ns.getD i 0) t;rw [ak,ag hi];rfl⟩
 ·have e:preSum (λi=>ns.getD i 0) its.toArray.size=ns.sum:=by
   rw [Z3,aC,hlen,dA]
  rw [e]
  refine ⟨.int _,H,I.kept λb ob e=>hk b ob (λhm=>?_) (ah _ e),⟨t',rfl⟩,q⟩
  have z:b=s.heap.objs.size:=by simpa using hm
  exact aE _ (z▸af e)
end
end L2
namespace L2
open PySem PySem.Spec PyProof.Rows
section
variable {X:Cx}{tg:Expr}
end
end L2
namespace L2
open PySem
end L2
namespace L2
open PySem PySem.Spec PyProof.Rows
def tLR1 (ta:TA):TE:=λσ H Q=>ta σ H λvs H1=>∃j:Int,vs=[.int j]∧(-(2 ^ 40)≤j∧j<2 ^ 40)∧j.toNat≤1000000∧∀q,H1 q=none→Q (.ref q) (upd H1 q (.lst ((List.range j.toNat).map λk:Nat=>V.int ((0:Int)+k))))
theorem Zu {X:Cx}{b:Expr}{ta:TA}{p1 pos1 p2 pos2:Pos}(hc:X.calm=true)(hgl:Gl X "list")(hml:X.mg "list" = none)(hg:Gl X "range")(hm:X.mg "range" = none)(ha:PA X [b] ta)
  (hs:starEach [b] X.env=[(false,eval b X.env)]:=by rfl) (hs3:starEach [(.Call (.Name "range" p1) [b] [] pos1)] X.env=[(false,eval (.Call (.Name "range" p1) [b] [] pos1) X.env)]:=by rfl) :
  PE X (.Call (.Name "list" p2) [.Call (.Name "range" p1) [b] [] pos1] [] pos2) (tLR1 ta):=by
 intro pins s σ H Q I h
 refine bJ (kh I hgl hml bx ?_)
 refine aW (e:=.Call (.Name "range" p1) [b] [] pos1) (rest:=[]) ?_ hs3 rfl
 rw [hs3]
 show wpAny _ _ (spliced ((false,eval (.Call (.Name "range" p1) [b] [] pos1) X.env)::[])) _ _ s
 refine Calls.spliced_cons ?_
 refine Call_ (kh I hg hm boot_range (aW (thn (ha pos1 pins s σ H _ I h) λus s1 ⟨vs,H1,I1,r1,q1⟩=>?_) hs rfl))
 obtain ⟨j,e,⟨q3,q4⟩,q5,q⟩:=q1
 subst e
 cases r1 with
 |cons r rr =>
   cases rr
   obtain ⟨t',rfl⟩:=r
   refine call_range_1 (Calls.spliced_nil ?_)
   have I2:Inv X pins σ H1 { s1 with heap:=s1.heap.push { cls:=.type "range",data:=.fields #[.int 0 s1.toks,.int j t',.int 1 (s1.toks+1)] },toks:=s1.toks+1+1 }:=I1.kept λb o e=>ah _ e
   refine call_list_range (n:=j.toNat) (I2.ok.hd hc) (IsRange.new ..) (small_one (by lia) (by lia) (by lia) (by lia)) (by have:=rangeSize_nat 0 j;simpa using this) (by lia) λh' tk acc' c' kp e hit=>?_
   have hl:((List.range j.toNat).map λk:Nat=>V.int ((0:Int)+k)).length≤sizeLine:=by
    rw [ac,az]
    have:(1000000:Nat)<sizeLine:=by decide
    lia
   exact ⟨.ref _,_,I2.laid (t':=tk) kp (al _) (show ObjOk X.prog X.w _ h' _ (.lst _) from ⟨hl,acc'.toList,c',qzk hit,by simpa using e⟩),rfl,q _ (I2.hok.fresh (al _))⟩
end L2
namespace L2
open PySem PySem.Spec PyProof.Rows
def qzx (X:Cx)(x y:Str)(M:List Nat):List Str:=x::y::M.map λj=>X.N.getD j Str.empty
def xu (M:List Nat)(σ:St)(o o':Option V):St:=o::o'::M.map λj=>(σ[j]?).join
abbrev wk (X:Cx)(scope:Scope)(cl:List (Str×Aj))(x y:Str)(M:List Nat)(C:Aj)(s2:Ab)(H2:Hp)(fp:List Aj)(pn:List (Aj×Obj)):Cx :=
 { X with N:=qzx X x y M,s₀:=s2,H₀:=H2,env:=compEnvC scope cl C X.env,outer:=X.stack,ex:=fp,fn:=λ_=>false,pn:=pn,xe:=λ_ _=>False }
section
variable {X:Cx}{pins:List (Aj×Obj)}{σ:St}{H:Hp}{s2:Ab}{scope:Scope}{cl:List (Str×Aj)}{x y:Str}{M:List Nat}{fp:List Aj}{C:Aj}{h1:Heap}{tk:Nat}
theorem Inv.comp2 (I:Inv X pins σ H s2)(hc:CapAll X.env cl)(hh:HasAll cl scope.names)(hm:CapIx X scope cl M)(hk:scope.kind=.function)(hC:s2.heap.objs.size<C)
  (keep:∀b o,s2.heap.get? b=some o→h1.get? b=some o) (hn:h1.Ns C λ_=>none) (hD:h1.get? s2.heap.objs.size=some { cls:=.type "list",data:=.seq #[] 0 })
  (hfp:∀b∈fp,z4 X pins H b) (hob:∀b∈fp,∃o,s2.heap.get? b=some o) :
  Inv (wk X scope cl x y M C s2 H fp (X.pn++pins)) [] (xu M σ none none) (upd H s2.heap.objs.size (.lst [])) { s2 with heap:=h1,toks:=tk }:=I.compG (xs:=[x,y]) hc hh hm hk hC keep hn ⟨ba _,[],0,.nil,hD⟩ hfp hob
theorem Inv.uncomp2 {pins':List (Aj×Obj)}{σ':St}{H':Hp}{s':Ab}{h':Heap}(I:Inv X pins σ H s2)(hC:s2.heap.objs.size≤C)(hfp:∀b∈fp,z4 X pins H b)
  (J:Inv (wk X scope cl x y M C s2 H fp (X.pn++pins)) pins' σ' H' s') (hs:Heap.SameBut C s'.heap h'):Inv X pins σ H' { s' with heap:=h' }:=by
 have hb:=J.base
 have nC:∀b o,s2.heap.get? b=some o→b≠C:=λb o e=>aq (aG (af e) hC)
 have st:∀b o,b≠C→s'.heap.get? b=some o→h'.get? b=some o:=λb o n e=>(hs.2 b n).trans e
 refine I.call' (s':={ s' with heap:=h' }) (ch:=fp) J.os ⟨λb o e n nb nx=>st b o (nC b o e) (hb.keep b o e n nb nx),λb o e n hb' nx=>?_,hb.free,λb o e nx=>?_,hb.tups,hb.frzs,hb.tbls⟩ ?_ J.bare λb hbf=>?_
 ·obtain ⟨sl,e1⟩:=hb.slot b o e n hb' nx
  exact ⟨sl,st b _ (nC b o e) e1⟩
 ·obtain ⟨o',e1⟩:=hb.there b o e nx
  exact ⟨o',st b _ (nC b o e) e1⟩
 ·intro b u hu
  have fr:H' C=none:=J.free
  refine (J.hok b u hu).stay (λc v hc e=>st c v ?_ e) (λ_ z=>z) λ_ _ z=>z
  rcases hc with rfl|hc
  ·intro z;rw [z,fr] at hu;cases hu
  ·intro z;rw [z,fr] at hc;cases hc
 ·obtain ⟨q1,q2,q3,q4,q5,q6⟩:=hfp b hbf
  exact ⟨q4,q2,q5,q6⟩
end
theorem turn_a (elt t0 i0 t1 i1:Expr)(scope:Scope)(pos:Pos)(it acc:Ag)(env:Env):compTurn (elt.ListComp [⟨t0,i0,[],0⟩,⟨t1,i1,[],0⟩] scope pos) 0 it acc env=(do
 standAt i0.pos
 let r ←pyNext it
 match r with
 |none=>pure (PySem.Fin.done Flow.next)
 |some v=>do
  letOwnedTupleGo t0 it v
  assign t0 env v
  let x ←eval i1 env
  standAt i1.pos
  let x ←foldedSetIterable i1 env x
  let it1 ←holding [x] (pyIter x)
  let _ ←runOwn (Code.compStart (elt.ListComp [⟨t0,i0,[],0⟩,⟨t1,i1,[],0⟩] scope pos) 1 it1 acc env) env
  again (Code.compLoop (elt.ListComp [⟨t0,i0,[],0⟩,⟨t1,i1,[],0⟩] scope pos) 0 it acc env)):=rfl
theorem turn_b (elt t0 i0 t1 i1:Expr)(scope:Scope)(pos:Pos)(it acc:Ag)(env:Env):compTurn (elt.ListComp [⟨t0,i0,[],0⟩,⟨t1,i1,[],0⟩] scope pos) 1 it acc env=(do
 standAt i1.pos
 let r ←pyNext it
 match r with
 |none=>pure (PySem.Fin.done Flow.next)
 |some v=>do
  letOwnedTupleGo t1 it v
  assign t1 env v
  (do
   let x ←eval elt env
   let _ ←call (.builtin "list.append") [acc,x]
   pure ())
  again (Code.compLoop (elt.ListComp [⟨t0,i0,[],0⟩,⟨t1,i1,[],0⟩] scope pos) 1 it acc env)):=rfl
theorem www {prog:Ac}{w:Ah}{A:Ae}{R:Result→Ab→Prop}{s:Ab}{elt t0 i0 t1 i1:Expr}{scope:Scope}{pos:Pos}{it acc:Ag}{env:Env}{ifs:List Expr}
  (h1:codeAny (model prog w) A (Code.compLoop (elt.ListComp [⟨t0,i0,[],0⟩,⟨t1,i1,ifs,0⟩] scope pos) 1 it acc env) R s)
  (h2:∀(E:Ag→Ab→Prop),wpAny (model prog w) A (pyIter it) (λit' s'=>codeAny (model prog w) A (Code.compLoop (elt.ListComp [⟨t0,i0,[],0⟩,⟨t1,i1,ifs,0⟩] scope pos) 1 it' acc env) R s') E s) :
  codeAny (model prog w) A (Code.compStart (elt.ListComp [⟨t0,i0,[],0⟩,⟨t1,i1,ifs,0⟩] scope pos) 1 it acc env) R s:=by
 refine codeAny_of_tree ?_
 show wpAny (model prog w) _ ((compStart (elt.ListComp [⟨t0,i0,[],0⟩,⟨t1,i1,ifs,0⟩] scope pos) 1 it acc env).onRaise (λz=>do noteFrame z env;standAt theWindowsPlace)) _ _ s
 refine wpAny_onRaise ?_
 unfold compStart
 rw [am (show ¬ ((clausesOf (elt.ListComp [⟨t0,i0,[],0⟩,⟨t1,i1,ifs,0⟩] scope pos))[1]?.elim false λx=>x.is_async != 0)=true from aA)]
 refine aa (wpAny_askSetting ?_)
 split
 ·exact ai ⟨rfl,h1⟩
 ·refine aa (wpAny_rule ?_)
  show wpAny _ _ (standAt i1.pos >>= λ_=>pyIter it >>= λz=>again (Code.compLoop (elt.ListComp [⟨t0,i0,[],0⟩,⟨t1,i1,ifs,0⟩] scope pos) 1 z acc env)) _ _ s
  refine aa (bv (aa (ax (h2 _) (λz s' hz=>ai ⟨rfl,hz⟩) λ_ _ e=>e)))
def InnR (J2:It)(M:List Nat)(te:TE)(σ:St)(v:V)(p:Aj)(ys:List V)(H4:Hp)(Wx:List V→Hp→Prop):Prop:=∃W2:Nat→Nat→List V→Hp→Prop,(∃m2,W2 0 m2 ys H4) ∧
 ∀j m2 zs H5,W2 j m2 zs H5→H5 p=some (.lst zs)∧zs.length<sizeLine∧((J2.stop j H5∧Wx zs H5)∨(J2.go j H5∧∀u H6,J2.yld j H5 u H6 →
  te (xu M σ (some v) (some u)) H6 λy H7=>H7 p=some (.lst zs)∧∃m2',m2'<m2∧W2 (j+1) m2' (zs++[y]) (upd H7 p (.lst (zs++[y])))))
def qx6 (J:It)(M:List Nat)(wi2:TI)(te:TE)(σ:St)(H1:Hp)(Q:VK):Prop:=∀p,H1 p=none→∃W:Nat→Nat→List V→Hp→Prop,(∃m,W 0 m [] (upd H1 p (.lst []))) ∧
 ∀i m ys H2,W i m ys H2→H2 p=some (.lst ys)∧((J.stop i H2∧Q (.ref p) H2)∨(J.go i H2∧∀v H3,J.yld i H2 v H3 →
  wi2 (xu M σ (some v) none) H3 λJ2 H4=>InnR J2 M te σ v p ys H4 λzs H5=>∃m',m'<m∧W (i+1) m' zs H5))
def tComp2 (M:List Nat)(wi wi2:TI)(te:TE):TE:=λσ H Q=>wi σ H λJ H1=>qx6 J M wi2 te σ H1 Q
section
variable {X:Cx}{elt iter iter2:Expr}{x y:Str}{px py pos:Pos}{scope:Scope}{cl:List (Str×Aj)}{M:List Nat}{wi wi2:TI}{te:TE}
theorem qkc (hc:X.calm=true)(hclos:closureFor scope X.env=pure cl)(hcap:CapAll X.env cl)(hhas:HasAll cl scope.names)(hix:CapIx X scope cl M)(hk:scope.kind=.function)
  (hnames:∀y∈scope.names,y.2=.local→scope.names.lookup y.1=some .local) (hx:scope.names.lookup x=some .local) (hy:scope.names.lookup y=some .local) (hnd:(qzx X x y M).Nodup) (hi:PI X (.Name x px) iter wi)
  (hi2:∀C s2 H2 fp pn,PI (wk X scope cl x y M C s2 H2 fp pn) (.Name y py) iter2 wi2)
  (he:∀C s2 H2 fp pn,PE (wk X scope cl x y M C s2 H2 fp pn) elt te) (hs:∀z,foldedSetIterable iter X.env z=pure z) (hs2:∀env z,foldedSetIterable iter2 env z=pure z)
  {use:Option (Ag→Sem Unit)} {QQ:Ag→Ab→Prop} {pins:List (Aj×Obj)} {s:Ab} {σ:St} {H:Hp} {Q:VK} {ps:Pos} (I:Inv X pins σ H s) (h:wi σ H λJ H1=>qx6 J M wi2 te σ H1 Q)
  (fin:∀(C:Aj) (s2 s4:Ab) (H1 H2:Hp) (fp:List Aj),Inv X pins σ H1 s2→s2.heap.objs.size<C→(∀b∈fp,z4 X pins H1 b)→Inv (wk X scope cl x y M C s2 H1 fp (X.pn++pins)) [] (xu M σ none none) H2 s4→Q (.ref s2.heap.objs.size) H2 →
   compPost (model X.prog X.w) X.A X.xe use QQ (.ref s2.heap.objs.size) C (.ok .next) s4) :
  wpAny (model X.prog X.w) X.A (comprehension (.ListComp elt [⟨.Name x px,iter,[],0⟩,⟨.Name y py,iter2,[],0⟩] scope pos) scope X.env ps (newList []) false (eval iter X.env) use) QQ X.xe s:=by
 refine bR (use:=use) rfl hs hclos hk hnames ?_
 refine thn (hi pins s σ H _ I h) λv s1 h1=>thn h1 λitv s2 h2=>?_
 obtain ⟨it,fp,tn,J,H1,rfl,I2,T,t0,hfp,hR⟩:=h2
 have hob:∀b∈fp,∃o,s2.heap.get? b=some o∧∀v,o.data≠.cell v:=T.obj 0 _ t0
 obtain ⟨W,⟨m0,w0⟩,hW⟩:=hR s2.heap.objs.size (I2.hok.fresh (al _))
 refine bw ?_
 refine ca hhas.nocell (by intro y hy;cases hy) (λh3 hns hsb=>?_) hk
 dsimp only at hns hsb ⊢
 generalize hH2:s2.heap.push { cls:=.type "list",dict:=none,data:=.seq ([]:List Ag).toArray }=G2 at hns hsb ⊢
 have hC:G2.objs.size=s2.heap.objs.size+1:=by rw [←hH2,bI]
 have hlt:s2.heap.objs.size<G2.objs.size:=by lia
 have keep:∀b o,s2.heap.get? b=some o→h3.get? b=some o:=λb o e=>by
  have hb:b≠G2.objs.size:=aq (aI (af e) hlt)
  rw [hsb.2 b hb]
  exact ah _ (hH2▸ah _ e)
 have hD:h3.get? s2.heap.objs.size=some { cls:=.type "list",data:=.seq #[] 0 }:=by
  rw [hsb.2 _ (aq hlt)]
  exact ah _ (hH2▸aD _ rfl)
 have hns':h3.Ns G2.objs.size λ_=>none:=hns
 have J0:∀tk,Inv (wk X scope cl x y M G2.objs.size s2 H1 fp (X.pn++pins)) [] (xu M σ none none) (upd H1 s2.heap.objs.size (.lst [])) { s2 with heap:=h3,toks:=tk }:=λtk =>
  I2.comp2 hcap hhas hix hk hlt keep hns' hD hfp λb hb=>let ⟨o,e,_⟩:=hob b hb;⟨o,e⟩
 have hbl:∀b∈fp,b<s2.heap.objs.size:=λb hb=>let ⟨o,e,_⟩:=hob b hb;af e
 have fok:∀(H2:Hp),(∀b∈fp,H2 b=none)→∀b∈fp,z4 (wk X scope cl x y M G2.objs.size s2 H1 fp (X.pn++pins)) [] H2 b:=λH2 hn b hb=>by
  obtain ⟨q1,q2,q3,q4,q5,q6⟩:=hfp b hb
  refine ⟨hn b hb,aq (aI (hbl b hb) hlt),λz=>?_,.inl hb,λy c e=>q5 y c (hcap.look e),λp hp=>q6 p ((aP.mp hp).elim (λz=>z) λz=>nomatch z)⟩
  rcases aw.mp (I2.stkSub b z) with z|z
  ·exact q2 z
  ·exact q3 z
 have hxl:(relabel scope X.env).names.lookup x=some .local:=cM hx
 have hyl:(relabel scope X.env).names.lookup y=some .local:=cM hy
 have loop:∀tk,codeAny (model X.prog X.w) X.A (.compLoop (.ListComp elt [⟨.Name x px,iter,[],0⟩,⟨.Name y py,iter2,[],0⟩] scope pos) 0 (.ref it) (.ref s2.heap.objs.size) (compEnvC scope cl G2.objs.size X.env))
   (compPost (model X.prog X.w) X.A X.xe use QQ (.ref s2.heap.objs.size) G2.objs.size) { s2 with heap:=h3,toks:=tk }:=λtk=>by
  refine cU rfl (λn s3=>∃i ys H2,W i n ys H2∧Inv (wk X scope cl x y M G2.objs.size s2 H1 fp (X.pn++pins)) [] (xu M σ none none) H2 s3∧tn i s3.heap∧∀b∈fp,H2 b=none) (λn s3 hI=>?_) m0
   ⟨0,[],_,w0,J0 tk,T.keep 0 _ _ t0 λb _ o e=>keep b o e,λb hb=>by rw [wb (aq (hbl b hb))];exact (hfp b hb).1⟩
  obtain ⟨i,ys,H2,w,J2,t,nf2⟩:=hI
  show wpAny _ _ ((compTurn (.ListComp elt [⟨.Name x px,iter,[],0⟩,⟨.Name y py,iter2,[],0⟩] scope pos) 0 (.ref it) (.ref s2.heap.objs.size) (compEnvC scope cl G2.objs.size X.env)).onRaise λz=>do noteFrame z (compEnvC scope cl G2.objs.size X.env);theTreesLotGoes z) _ _ s3
  refine dq ?_
  rw [turn_a]
  refine aa (bv (aa ?_))
  obtain ⟨hp,hcase⟩:=hW i n ys H2 w
  rcases hcase with ⟨hst,hq⟩|⟨hgo,hyy⟩
  ·refine ax (T.done (wk X scope cl x y M G2.objs.size s2 H1 fp (X.pn++pins)) rfl rfl rfl hc i [] s3 _ H2 (λ_ _=>False) J2 (fok H2 nf2) t hst) (λr s4 hr=>?_) λ_ _ z=>z.elim
   obtain ⟨rfl,J4⟩:=hr
   refine ai ?_
   exact fin G2.objs.size s2 s4 H1 H2 fp I2 hlt hfp J4 hq
  ·refine ax (T.item (wk X scope cl x y M G2.objs.size s2 H1 fp (X.pn++pins)) rfl rfl rfl hc i [] s3 _ H2 (λ_ _=>False) J2 (fok H2 nf2) t hgo) (λr s4 hr=>?_) λ_ _ z=>z.elim
   obtain ⟨u,rfl,hw⟩:=hr
   refine aa (ax hw (λ_ s5 hr5=>?_) λ_ _ z=>z.elim)
   obtain ⟨v,H3,J5,rv,yl,t5,nf⟩:=hr5
   have J5p:=J5.pinned (fok H3 nf) (T.obj _ _ t5)
   refine aa (ax (wt (X:=wk X scope cl x y M G2.objs.size s2 H1 fp (X.pn++pins)) (i:=0) hnd rfl (.inl hxl) (.inr hxl) _ s5 _ H3 v u (λσ' H'=>σ'=xu M σ (some v) none∧H'=H3) J5p rv ⟨rfl,rfl⟩) (λ_ s6 hr6=>?_) λ_ _ z=>z.elim)
   obtain ⟨σ6,H6,J6,rfl,rfl⟩:=hr6
   refine aa (ax (hi2 _ _ _ _ _ _ s6 _ H6 _ J6 (hyy v H6 yl)) (λv1 s7 h7=>?_) λ_ _ z=>z.elim)
   refine aa (bv ?_)
   rw [hs2]
   refine aa (ai (aa (wpAny_holding (ax h7 (λitv2 s8 h8=>?_) λ_ _ z=>z.elim))))
   obtain ⟨it2,fp2,tn2,Jb,H8,rfl,I8,T2,t8,hfp2,W2,⟨m2,w2⟩,hW2⟩:=h8
   have fok2:∀(H9:Hp),(∀b∈fp2,H9 b=none)→∀b∈fp2,z4 (wk X scope cl x y M G2.objs.size s2 H1 fp (X.pn++pins)) ([]++yx fp s5.heap) H9 b:=λH9 hn b hb=>⟨hn b hb,(hfp2 b hb).2⟩
   refine aa (wpAny_runOwn ?_)
   have loop2:codeAny (model X.prog X.w) X.A (.compLoop (.ListComp elt [⟨.Name x px,iter,[],0⟩,⟨.Name y py,iter2,[],0⟩] scope pos) 1 (.ref it2) (.ref s2.heap.objs.size) (compEnvC scope cl G2.objs.size X.env))
     (λr s'=>match r with
      |.ok f=>wpAny (model X.prog X.w) X.A (again (Code.compLoop (elt.ListComp [⟨.Name x px,iter,[],0⟩,⟨.Name y py,iter2,[],0⟩] scope pos) 0 (.ref it) (.ref s2.heap.objs.size) (compEnvC scope cl G2.objs.size X.env))) (λfin s'=>match fin with
        |Fin.done f=>compPost (model X.prog X.w) X.A X.xe use QQ (.ref s2.heap.objs.size) G2.objs.size (.ok f) s'
        |Fin.again c'=>c'=(Code.compLoop (elt.ListComp [⟨.Name x px,iter,[],0⟩,⟨.Name y py,iter2,[],0⟩] scope pos) 0 (.ref it) (.ref s2.heap.objs.size) (compEnvC scope cl G2.objs.size X.env))∧∃m,m<n∧∃i ys H2,W i m ys H2∧Inv (wk X scope cl x y M G2.objs.size s2 H1 fp (X.pn++pins)) [] (xu M σ none none) H2 s'∧tn i s'.heap∧∀b∈fp,H2 b=none) (λ_ _=>False) s'
      |.error _=>False) s8:=by
    refine cU rfl (λn2 s9=>∃j zs H9,W2 j n2 zs H9∧Inv (wk X scope cl x y M G2.objs.size s2 H1 fp (X.pn++pins)) ([]++yx fp s5.heap) (xu M σ (some v) none) H9 s9∧tn2 j s9.heap∧∀b∈fp2,H9 b=none) (λn2 s9 hI2=>?_) m2
     ⟨0,ys,H8,w2,I8,t8,λb hb=>(hfp2 b hb).1⟩
    obtain ⟨j,zs,H9,w9,J9,t9,nf9⟩:=hI2
    show wpAny _ _ ((compTurn (.ListComp elt [⟨.Name x px,iter,[],0⟩,⟨.Name y py,iter2,[],0⟩] scope pos) 1 (.ref it2) (.ref s2.heap.objs.size) (compEnvC scope cl G2.objs.size X.env)).onRaise λz=>do noteFrame z (compEnvC scope cl G2.objs.size X.env);theTreesLotGoes z) _ _ s9
    refine dq ?_
    rw [turn_b]
    refine aa (bv (aa ?_))
    obtain ⟨hp9,hz9,hcase9⟩:=hW2 j n2 zs H9 w9
    rcases hcase9 with ⟨hst9,m',hm',wq⟩|⟨hgo9,hy9⟩
    ·refine ax (T2.done (wk X scope cl x y M G2.objs.size s2 H1 fp (X.pn++pins)) rfl rfl rfl hc j _ s9 _ H9 (λ_ _=>False) J9 (fok2 H9 nf9) t9 hst9) (λr s10 hr=>?_) λ_ _ z=>z.elim
     obtain ⟨rfl,J10⟩:=hr
     refine ai ?_
     refine ai ⟨rfl,m',hm',i+1,zs,H9,wq,?_,?_,?_⟩
     ·refine (J10.unpinned (pins:=[])).weak rfl λk z ez=>?_
      match k,ez with
      |0,ez=>cases ez
      |1,ez=>cases ez
      |k+2,ez=>exact ez
     ·exact T.keep _ _ _ t5 λb hb o e=>(J10.pin (b,o) (ae _ (ae _ (xv hb e)))).1
     ·intro b hb
      obtain ⟨o,e,_⟩:=T.obj _ _ t5 b hb
      exact (J10.pin (b,o) (ae _ (ae _ (xv hb e)))).2.1
    ·refine ax (T2.item (wk X scope cl x y M G2.objs.size s2 H1 fp (X.pn++pins)) rfl rfl rfl hc j _ s9 _ H9 (λ_ _=>False) J9 (fok2 H9 nf9) t9 hgo9) (λr s10 hr=>?_) λ_ _ z=>z.elim
     obtain ⟨u2,rfl,hw2⟩:=hr
     refine aa (ax hw2 (λ_ s11 hr11=>?_) λ_ _ z=>z.elim)
     obtain ⟨vb,H11,J11,rv11,yl11,t11,nf11⟩:=hr11
     have J11p:=J11.pinned (fok2 H11 nf11) (T2.obj _ _ t11)
     refine aa (ax (wt (X:=wk X scope cl x y M G2.objs.size s2 H1 fp (X.pn++pins)) (i:=1) hnd rfl (.inl hyl) (.inr hyl) _ s11 _ H11 vb u2 (λσ' H'=>σ'=xu M σ (some v) (some vb)∧H'=H11) J11p rv11 ⟨rfl,rfl⟩) (λ_ s12 hr12=>?_) λ_ _ z=>z.elim)
     obtain ⟨σ12,H12,J12,rfl,rfl⟩:=hr12
     refine aa (aa (ax (he _ _ _ _ _ _ s12 _ H12 _ J12 (hy9 vb H12 yl11)) (λyv s13 hr13=>?_) λ_ _ z=>z.elim))
     obtain ⟨yy,H13,J13,ry,hp13,m3,hm3,w13⟩:=hr13
     refine aa (ax (v6 (X:=wk X scope cl x y M G2.objs.size s2 H1 fp (X.pn++pins)) _ s13 _ H13 (.ref s2.heap.objs.size) [yy] (.ref s2.heap.objs.size) [yv] (λ_ H8=>H8=upd H13 s2.heap.objs.size (.lst (zs++[yy]))) J13 rfl (.cons ry .nil) ⟨_,zs,yy,rfl,rfl,hp13,hz9,rfl⟩) (λ_ s14 hr14=>?_) λ_ _ z=>z.elim)
     obtain ⟨_,H14,J14,_,rfl⟩:=hr14
     refine ai (ai ⟨rfl,m3,hm3,j+1,zs++[yy],_,w13,?_,?_,?_⟩)
     ·refine (J14.unpinned (pins:=[]++yx fp s5.heap)).weak rfl λk z ez=>?_
      match k,ez with
      |0,ez=>exact ez
      |1,ez=>cases ez
      |k+2,ez=>exact ez
     ·exact T2.keep _ _ _ t11 λb hb o e=>(J14.pin (b,o) (ae _ (ae _ (xv hb e)))).1
     ·intro b hb
      obtain ⟨o,e,_⟩:=T2.obj _ _ t11 b hb
      exact (J14.pin (b,o) (ae _ (ae _ (xv hb e)))).2.1
   refine cx (www loop2 λE2=>T2.self _ 0 _ _ _ t8 loop2) λr s' hr=>?_
   cases r with
   |ok f=>exact ax hr (λ_ _ z=>z) λ_ _ z=>z.elim
   |error e=>exact hr.elim
 exact bX (loop _) (T.self _ 0 _ _ _ (T.keep 0 _ _ t0 λb _ o e=>keep b o e) (loop _))
end
section
variable {X:Cx}{elt iter iter2:Expr}{x y2:Str}{px py2 pos:Pos}{scope:Scope}{cl:List (Str×Aj)}{M:List Nat}{wi wi2:TI}{te:TE}
theorem qwk {i:Nat}{y:Str}{py spos:Pos}(hN:X.N.Nodup)(hyi:X.N[i]?=some y)(hyl:Loc X.env.scope y)(hc:X.calm=true)(hclos:closureFor scope X.env=pure cl)(hcap:CapAll X.env cl)(hhas:HasAll cl scope.names)(hix:CapIx X scope cl M)(hk:scope.kind=.function)
  (hnames:∀y∈scope.names,y.2=.local→scope.names.lookup y.1=some .local) (hx:scope.names.lookup x=some .local) (hy2:scope.names.lookup y2=some .local) (hnd:(qzx X x y2 M).Nodup) (hi:PI X (.Name x px) iter wi) (hi2:∀C s2 H2 fp pn,PI (wk X scope cl x y2 M C s2 H2 fp pn) (.Name y2 py2) iter2 wi2)
  (he:∀C s2 H2 fp pn,PE (wk X scope cl x y2 M C s2 H2 fp pn) elt te) (hs:∀z,foldedSetIterable iter X.env z=pure z:=by intro _;rfl) (hs2:∀env z,foldedSetIterable iter2 env z=pure z:=by intros;rfl)
  (hsw:swapsWith (.ListComp elt [⟨.Name x px,iter,[],0⟩,⟨.Name y2 py2,iter2,[],0⟩] scope pos) (some (.Name y py)) spos.line X.env=pure true:=by rfl) (hyf:X.fn y=true∨X.env.scope.names.lookup y=some .local:=by first | exact .inl rfl | exact .inr rfl | assumption) :
  PS X (.Assign [.Name y py] (.ListComp elt [⟨.Name x px,iter,[],0⟩,⟨.Name y2 py2,iter2,[],0⟩] scope pos) spos) (tAsg (tComp2 M wi wi2 te) (uk i)):=by
 intro pins s σ H D I h
 rw [cE _ _ _ _ hsw]
 refine aa (bv (aa ?_))
 refine aa (ax (qkc hc hclos hcap hhas hix hk hnames hx hy2 hnd hi hi2 he hs hs2 (use:=some (assign (.Name y py) X.env)) (QQ:=λ_ s'=>SP X pins D .next s') I h λC s2 s4 H1 H2 fp I2 hlt hfp J4 hq=>?_) (λ_ s' hq=>ai (ai hq)) λ_ _ e=>e)
 have I4:Inv X pins σ H2 s4:=I2.uncomp2 (h':=s4.heap) (bq hlt) hfp J4 (dr _ _)
 have hCn:H2 C=none:=J4.free
 obtain ⟨mC,hnC,_⟩:=J4.loc
 obtain ⟨oC,esC,epC,hoC,hdC⟩:=id hnC
 have hCl:C≠X.env.locals:=λz=>aE _ (aI hlt (z▸I2.lt))
 have hCs:X.s₀.heap.objs.size≤C:=bp I2.sz (bq hlt)
 have hCc:∀y c,X.env.cells.lookup y=some c→c≠C:=λy c e z=>by
  obtain ⟨v,o,e1,_⟩:=I2.cell y c e
  exact aE _ (aI hlt (z▸af e1))
 have hCp:∀p∈X.pn++pins,p.1≠C:=λp hp z=>aE _ (aI hlt (z▸af (I2.pin p hp).1))
 have hCf:C∉frs X.stack:=λz=>by
  rcases aw.mp (I2.stkSub C z) with q|q
  ·exact hCl q
  ·obtain ⟨_,o,e1,_⟩:=I2.funs.mem (b:=C) q
   exact aE _ (aI hlt (af e1))
 have hCx:C∉X.fs:=λz=>by
  obtain ⟨_,o,e1,_⟩:=I2.funs.mem (b:=C) z
  exact aE _ (aI hlt (af e1))
 have I4p:Inv X (pins++[(C,oC)]) σ H2 s4:=⟨I4.ok,I4.os,I4.bare,I4.base,I4.loc,I4.cell,I4.free,I4.freeC,λp hp=>by
  rcases aP.mp hp with q|q
  ·exact I4.pin p (bO _ q)
  ·rcases aP.mp q with q|q
   ·exact I4.pin p (ae _ q)
   ·rw [aT.mp q]
    exact ⟨hoC,hCn,hCl,hCx,λv z=>by rw [hdC.1] at z;cases z⟩,I4.hok,I4.len⟩
 show wpAny _ _ (assign (.Name y py) X.env (.ref s2.heap.objs.size)) _ _ _
 refine cw (vf I4p hN hyi hyl (show RelV (.ref s2.heap.objs.size) (.ref s2.heap.objs.size) from rfl) (λs5 I5=>?_) hyf)
 have hC5:=(I5.pin (C,oC) (ae _ (ae _ (.head _)))).1
 exact ⟨mC,⟨oC,esC,epC,hC5,hdC⟩,λh' hs'=>⟨_,H2,I5.unpinned.but hCn hCs hCl hCc hCp hs',hq⟩⟩
end
theorem qwj {M:List Nat}{lo lo2:Int}{n k:Nat}{wi2:TI}{te:TE}{σ:St}{H:Hp}{Q:VK}(f:Nat→Nat→V)(hn:n*k≤1000000)(hw:∀(i:Nat) (H':Hp) (R:It→Hp→Prop),i<n→Same H H'→(∀H'',Same H' H''→R (Itr lo2 k) H'')→wi2 (xu M σ (some (.int (lo+i))) none) H' R)
  (he:∀(i j:Nat) (H':Hp) (R:VK),i<n→j<k→Same H H'→(∀H'',Same H' H''→R (f i j) H'')→te (xu M σ (some (.int (lo+i))) (some (.int (lo2+j)))) H' R)
  (kf:∀p H',H p=none→Same H H'→H' p=some (.lst ((List.range n).map λi=>(List.range k).map (f i)).flatten)→Q (.ref p) H'):qx6 (Itr lo n) M wi2 te σ H Q:=by
 have flen:∀i,(((List.range i).map λi=>(List.range k).map (f i)).flatten).length=i*k:=by
  intro i
  induction i with
  |zero=>simp
  |succ i ih =>
   rw [aR,av,bU,ar,ih]
   simp [dH]
 have big:(1000000:Nat)<sizeLine:=by decide
 intro p np
 have upd2:∀ {H':Hp} {o:HO},Same H H'→Same H (upd H' p o):=λs b u e=>by
  rw [wb (wu e np)]
  exact s b u e
 refine ⟨λi m ys H2=>i≤n∧m=n-i∧ys=((List.range i).map λi=>(List.range k).map (f i)).flatten∧Same H H2∧H2 p=some (.lst ys),⟨n,ba _,rfl,rfl,Same.upd np,qm⟩,?_⟩
 rintro i m ys H2 ⟨hi,rfl,rfl,s2,f2⟩
 refine ⟨f2,?_⟩
 by_cases hlt:i<n
 ·refine .inr ⟨hlt,?_⟩
  rintro v H3 ⟨rfl,rfl⟩
  have hik:i*k+k≤n*k:=by
   have:=Nat.mul_le_mul_right k (show i+1≤n by lia)
   rwa [dH] at this
  refine hw i H3 _ hlt s2 λH4 s4=>⟨λj m2 zs H5=>j≤k∧m2=k-j∧zs=((List.range i).map λi=>(List.range k).map (f i)).flatten++(List.range j).map (f i)∧Same H H5∧H5 p=some (.lst zs),⟨k,ba _,rfl,by simp,s2.trans s4,s4 _ _ f2⟩,?_⟩
  rintro j m2 zs H5 ⟨hj,rfl,rfl,s5,f5⟩
  refine ⟨f5,by rw [ar,flen,ac,az];lia,?_⟩
  by_cases hjk:j<k
  ·refine .inr ⟨hjk,?_⟩
   rintro u H6 ⟨rfl,rfl⟩
   refine he i j H6 _ hlt hjk s5 λH7 s7=>⟨s7 _ _ f5,k-(j+1),by lia,by lia,rfl,?_,upd2 (s5.trans s7),qm⟩
   rw [aR,av,List.append_assoc]
   rfl
  ·have:j=k:=by lia
   subst this
   refine .inl ⟨al _,n-(i+1),by lia,by lia,rfl,?_,s5,f5⟩
   rw [aR,av,bU]
   simp
 ·have:i=n:=by lia
  subst this
  exact .inl ⟨al _,kf p H2 np s2 f2⟩
end L2
namespace L2
open PySem PySem.Spec PyProof.Rows
theorem ww5 {X:Cx}{K:Aa}(hK:X.K=K):IxR X (rIxT K):=by
 subst hK
 exact zx
end L2
namespace L2
open PySem PySem.Spec PyProof.Rows
section
variable {X:Cx}{pins:List (Aj×Obj)}{σ:St}{H:Hp}{s:Ab}{h':Heap}{ch:List Aj}
theorem Inv.turnedL {tk:Nat}(I:Inv X pins σ H s)(hk:∀b u,b∉ch→s.heap.get? b=some u→h'.get? b=some u)(hf:∀b∈ch,z4 X pins H b):Inv X pins σ H { s with heap:=h',toks:=tk }:=by
 refine I.call' (s':={ s with heap:=h',toks:=tk }) (ch:=ch) rfl ⟨λb o e n _ nx=>hk b o nx e,λb o e n _ nx=>⟨o.slots,hk b o nx e⟩,λb o e n _=>n,λb o e nx=>⟨o,hk b o nx e⟩,λ_ _ e=>e,λ_ _ _ e=>e,λb ps e=>⟨#[],by rw [e];simp⟩⟩ ?_ I.bare λb hb=>?_
 ·intro b u hu
  refine (I.hok b u hu).stay (λc v hc e=>hk c v (λz=>?_) e) (λ_ z=>z) λ_ _ z=>z
  have:=(hf c z).1
  rcases hc with rfl|hc
  ·rw [this] at hu;cases hu
  ·rw [this] at hc;cases hc
 ·obtain ⟨q1,q2,q3,q4,q5,q6⟩:=hf b hb
  exact ⟨q4,q2,q5,q6⟩
theorem Inv.turnedT {tk:Nat}{o:HO}{ob:Obj}(I:Inv X pins σ H s)(hk:∀b u,b∉ch→s.heap.get? b=some u→h'.get? b=some u)(hn:h'.get? s.heap.objs.size=some ob)(hf:∀b∈ch,z4 X pins H b)(hc:∀b∈ch,b≠s.heap.objs.size)
  (ok:ObjOk X.prog X.w (upd H s.heap.objs.size o) (s.heap.push ob) s.heap.objs.size o) (fr:ob.isFreed=false):Inv X pins σ (upd H s.heap.objs.size o) { s with heap:=h',toks:=tk }:=by
 have I1:Inv X pins σ (upd H s.heap.objs.size o) { s with heap:=s.heap.push ob,toks:=tk }:=I.laid (t':=tk) (λb u e=>ah _ e) (al _) ok
 refine Inv.turnedL (s:={ s with heap:=s.heap.push ob,toks:=tk }) (ch:=ch) I1 (λb u nb e=>?_) λb hb=>?_
 ·rcases Heap.get?_push_cases e with ⟨rfl,rfl⟩|e
  ·exact hn
  ·exact hk b u nb e
 ·obtain ⟨q1,q⟩:=hf b hb
  exact ⟨by rw [wb (hc b hb)];exact q1,q⟩
theorem qz6 {x y:V}{u v:Ag}(I:Inv X pins σ H s)(rx:RelV x u)(ry:RelV y v):ObjOk X.prog X.w (upd H s.heap.objs.size (.tup [x,y])) (s.heap.push { cls:=.type "tuple",data:=.seq #[u,v] }) s.heap.objs.size (.tup [x,y]):=by
 refine ⟨by show 2≤sizeLine;decide,[u,v],.cons rx (.cons ry .nil),?_⟩
 exact ⟨_,aD _ rfl,rfl,_,rfl⟩
end
def ItZ (K:Aa)(a b:Aj)(xs ys:List V):It :=
 ⟨λi H=>SqL K H a xs∧SqL K H b ys∧i<xs.length∧i<ys.length,λi H v H'=>∃q x y,H q=none∧v=.ref q∧xs[i]?=some x∧ys[i]?=some y∧H'=upd H q (.tup [x,y]),λi H=>SqL K H a xs∧SqL K H b ys∧(xs.length≤i∨ys.length≤i)⟩
theorem qun {P:Ac}{w:Ah}{K:Aa}{es:List Expr}{k:Nat}{pos:Pos}(a b z TI TO i1 i2:Aj)(xs ys:List V)(ap:ZipApart z TI TO i1 i2 a b):Turn P w K (.Tuple es k pos) (ItZ K a b xs ys) [z,TI,TO,i1,i2] z
  (λi h=>IsZip h z TI TO .none∧IsPair h TI (.ref i1) (.ref i2)∧(∃u v,IsPair h TO u v)∧h.IsListIter i1 a i∧h.IsListIter i2 b i) where
 mem:=by simp
 obj:=λi h st c hc=>by
  obtain ⟨h1,h2,⟨u,v,h3⟩,⟨o4,h4,c4,d4⟩,⟨o5,h5,c5,d5⟩⟩:=st
  have hc':c=z∨c=TI∨c=TO∨c=i1∨c=i2:=by simpa using hc
  rcases hc' with rfl|rfl|rfl|rfl|rfl
  ·exact ⟨_,h1,λv z=>by cases z⟩
  ·exact ⟨_,h2,λv z=>by cases z⟩
  ·exact ⟨_,h3,λv z=>by cases z⟩
  ·exact ⟨_,h4,λv z=>by rw [d4] at z;cases z⟩
  ·exact ⟨_,h5,λv z=>by rw [d5] at z;cases z⟩
 keep:=λi h h' st k=>by
  obtain ⟨h1,h2,⟨u,v,h3⟩,h4,h5⟩:=st
  exact ⟨k z (by simp) _ h1,k TI (by simp) _ h2,⟨u,v,k TO (by simp) _ h3⟩,h4.at λo e=>k i1 (by simp) o e,h5.at λo e=>k i2 (by simp) o e⟩
 item:=by
  intro X hP hw hK hc i pins s σ H E I hf st hg
  subst hP hw hK
  obtain ⟨hq1,hq2,l1,l2⟩:=hg
  obtain ⟨its,rv,p,hz⟩:=I.list hq1
  obtain ⟨its2,rv2,p2,hz2⟩:=I.list hq2
  have e1:xs[i]?=some xs[i]:=ag l1
  have e2:ys[i]?=some ys[i]:=ag l2
  obtain ⟨u,hu,ru⟩:=rv.get e1
  obtain ⟨v,hv,rv'⟩:=rv2.get e2
  obtain ⟨h1,h2,⟨a0,b0,h3⟩,h4,h5⟩:=st
  refine wpAny_pyNext_zip_item ap h1 h2 h3 h4 h5 p.isList p2.isList (x:=u) (y:=v) (by simpa using hu) (by simpa using hv) λh' g1 g2 g3 g4 g5 g6 g7=>?_
  refine ⟨_,rfl,wpAny_letOwnedTupleGo_zip (s:={ s with heap:=h' }) g1 λh'' f1 f2=>?_⟩
  have hsz:∀c,c∈[z,TI,TO,i1,i2]→c≠s.heap.objs.size:=λc hc e=>by
   have hc':c=z∨c=TI∨c=TO∨c=i1∨c=i2:=by simpa using hc
   have hlt:c<s.heap.objs.size:=by
    rcases hc' with rfl|rfl|rfl|rfl|rfl
    ·exact af h1
    ·exact af h2
    ·exact af h3
    ·obtain ⟨o,e,_⟩:=h4;exact af e
    ·obtain ⟨o,e,_⟩:=h5;exact af e
   exact aE _ (e▸hlt)
  have keep:∀c o,c∉[z,TI,TO,i1,i2]→s.heap.get? c=some o→h''.get? c=some o:=λc o nc e=>by
   simp only [aw,cI,or_false,not_or] at nc
   rw [f2.2 c nc.1]
   exact g7 c o nc.1 nc.2.2.1 nc.2.2.2.1 nc.2.2.2.2 e
  have keepz:∀c o,c≠z→h'.get? c=some o→h''.get? c=some o:=λc o nc e=>(f2.2 c nc).trans e
  have new:h''.get? s.heap.objs.size=some { cls:=.type "tuple",data:=.seq #[u,v] }:=keepz _ _ (cv (hsz z (by simp))) g5
  have hTI:h''.get? TI=some { cls:=.type "tuple",data:=.seq #[.ref i1,.ref i2] }:=by
   refine keepz _ _ ap.TIz ?_
   exact g7 TI _ ap.TIz ap.TITO ap.TIi1 ap.TIi2 h2
  refine ⟨.ref s.heap.objs.size,_,Inv.turnedT (s:=s) (ch:=[z,TI,TO,i1,i2]) (tk:=s.toks) I keep new hf hsz (qz6 I ru rv') rfl,rfl,⟨_,_,_,I.hok.fresh (al _),rfl,e1,e2,rfl⟩,⟨f1,hTI,⟨u,v,keepz _ _ ap.TOz g2⟩,g3.at λo e=>keepz _ _ ap.i1z e,g4.at λo e=>keepz _ _ ap.i2z e⟩,λc hc=>?_⟩
  rw [wb (hsz c hc)]
  exact (hf c hc).1
 done:=by
  intro X hP hw hK hc i pins s σ H E I hf st hg
  subst hP hw hK
  obtain ⟨hq1,hq2,le⟩:=hg
  obtain ⟨its,rv,p,hz⟩:=I.list hq1
  obtain ⟨its2,rv2,p2,hz2⟩:=I.list hq2
  have hl:=rv.length
  have hl2:=rv2.length
  obtain ⟨h1,h2,⟨a0,b0,h3⟩,h4,h5⟩:=st
  refine wpAny_pyNext_zip_end (I.ok.hd hc) ap h1 h2 h3 h4 h5 p.isList p2.isList ?_ λh' g=>⟨rfl,Inv.turnedL (ch:=[z,TI,TO,i1,i2]) (tk:=s.toks) I (λc o nc e=>?_) hf⟩
  ·rcases le with le|le
   ·exact .inl (bY (by rw [aC];lia))
   ·exact .inr (bY (by rw [aC];lia))
  ·simp only [aw,cI,or_false,not_or] at nc
   exact g c o nc.1 nc.2.2.1 nc.2.2.2.1 nc.2.2.2.2 e
 self:=λ_ _ _ _ _ st h=>wpAny_pyIter_zip st.1 h
section
variable {X:Cx}
def iZip (K:Aa)(ta:TA):TI:=λσ H R=>ta σ H λvs H1=>∃a b xs ys,vs=[.ref a,.ref b]∧SqL K H1 a xs∧SqL K H1 b ys∧R (ItZ K a b xs ys) H1
theorem qxn {a b:Expr}{ta:TA}{p pos:Pos}{es:List Expr}{k:Nat}{tpos:Pos}(hg:Gl X "zip")(hm:X.mg "zip" = none)(ha:PA X [a,b] ta)(hv:bootBuiltins "zip" = some (.type "zip"):=by rfl)
  (hs:starEach [a,b] X.env=[(false,eval a X.env),(false,eval b X.env)]:=by rfl) (hs2:starEach [b] X.env=[(false,eval b X.env)]:=by rfl):PI X (.Tuple es k tpos) (.Call (.Name "zip" p) [a,b] [] pos) (iZip X.K ta):=by
 intro pins s σ H R I h
 refine Call_ (kh I hg hm hv (aW (thn (ha pos pins s σ H _ I h) λus s1 ⟨vs,H1,I1,r1,q1⟩=>?_) (by rw [hs,hs2]) (by rw [hs2];rfl)))
 obtain ⟨a,b,xs,ys,e,hq1,hq2,q⟩:=q1
 subst e
 cases r1 with
 |cons r rr =>
  cases rr with
  |cons r' rr =>
   cases rr
   cases r
   cases r'
   obtain ⟨its,rv,p,hz⟩:=I1.list hq1
   obtain ⟨its2,rv2,p2,hz2⟩:=I1.list hq2
   have la:a<s1.heap.objs.size:=by obtain ⟨o,n,e1,_⟩:=p;exact af e1
   have lb:b<s1.heap.objs.size:=by obtain ⟨o,n,e1,_⟩:=p2;exact af e1
   refine call_zip_2 p.isList p2.isList λh' g1 g2 g3 g4 g5 g6 g7=>?_
   refine wpAny_pyIter_zip g1 ?_
   have I2:Inv X pins σ H1 { s1 with heap:=h' }:=I1.kept (t':=s1.toks) g7
   refine ⟨s1.heap.objs.size+4,[s1.heap.objs.size+4,s1.heap.objs.size+2,s1.heap.objs.size+3,s1.heap.objs.size,s1.heap.objs.size+1],_,_,H1,rfl,I2,qun a b _ _ _ _ _ xs ys (zipApart_new la lb),⟨g1,g2,⟨_,_,g3⟩,g4,g5⟩,λc hc=>?_,q⟩
   have hc':s1.heap.objs.size≤c:=by
    have:c=s1.heap.objs.size+4∨c=s1.heap.objs.size+2∨c=s1.heap.objs.size+3∨c=s1.heap.objs.size∨c=s1.heap.objs.size+1:=by simpa using hc
    rcases this with e | e | e | e | e <;> (rw [e];first | exact al _ | exact Nat.le_add_right _ _)
   exact I1.fpOk hc' (I1.hok.fresh hc')
end
def ItE (K:Aa)(a:Aj)(xs:List V):It :=
 ⟨λi H=>SqL K H a xs∧i<xs.length,λi H v H'=>∃q x,H q=none∧v=.ref q∧xs[i]?=some x∧H'=upd H q (.tup [.int (i:Nat),x]),λi H=>SqL K H a xs∧xs.length≤i⟩
theorem qkg {P:Ac}{w:Ah}{K:Aa}{es:List Expr}{k:Nat}{pos:Pos}(a z it:Aj)(xs:List V)(ap:z≠it):Turn P w K (.Tuple es k pos) (ItE K a xs) [z,it] z
  (λi h=>i≤xs.length∧(∃old,IsEnum h z it (i:Nat) old)∧h.IsListIter it a i) where
 mem:=by simp
 obj:=λi h st c hc=>by
  obtain ⟨_,⟨old,h1⟩,⟨o4,h4,c4,d4⟩⟩:=st
  have hc':c=z∨c=it:=by simpa using hc
  rcases hc' with rfl|rfl
  ·exact ⟨_,h1,λv z=>by cases z⟩
  ·exact ⟨_,h4,λv z=>by rw [d4] at z;cases z⟩
 keep:=λi h h' st k=>by
  obtain ⟨l,⟨old,h1⟩,h4⟩:=st
  exact ⟨l,⟨old,k z (by simp) _ h1⟩,h4.at λo e=>k it (by simp) o e⟩
 item:=by
  intro X hP hw hK hc i pins s σ H E I hf st hg
  subst hP hw hK
  obtain ⟨hq1,l1⟩:=hg
  obtain ⟨its,rv,p,hz⟩:=I.list hq1
  have e1:xs[i]?=some xs[i]:=ag l1
  obtain ⟨u,hu,ru⟩:=rv.get e1
  obtain ⟨_,⟨old,h1⟩,h4⟩:=st
  refine wpAny_pyNext_enum_item h1 h4 p.isList (x:=u) (by simpa using hu) ap λh' g1 g2 g3 g4 g5=>?_
  refine ⟨_,rfl,wpAny_letOwnedTupleGo_enum (s:={ s with heap:=h',toks:=s.toks+1 }) g1 λh'' f1 f2=>?_⟩
  have hsz:∀c,c∈[z,it]→c≠s.heap.objs.size:=λc hc e=>by
   have hc':c=z∨c=it:=by simpa using hc
   have hlt:c<s.heap.objs.size:=by
    rcases hc' with rfl|rfl
    ·exact af h1
    ·obtain ⟨o,e,_⟩:=h4;exact af e
   exact aE _ (e▸hlt)
  have keepz:∀c o,c≠z→h'.get? c=some o→h''.get? c=some o:=λc o nc e=>(f2.2 c nc).trans e
  have keep:∀c o,c∉[z,it]→s.heap.get? c=some o→h''.get? c=some o:=λc o nc e=>by
   simp only [aw,cI,or_false,not_or] at nc
   exact keepz c o nc.1 (g5 c o nc.1 nc.2 e)
  have new:h''.get? s.heap.objs.size=some { cls:=.type "tuple",data:=.seq #[.int (i:Nat) s.toks,u] }:=keepz _ _ (cv (hsz z (by simp))) g3
  refine ⟨.ref s.heap.objs.size,_,Inv.turnedT (s:=s) (ch:=[z,it]) (tk:=s.toks+1) I keep new hf hsz (qz6 I (show RelV (.int (i:Nat)) (.int (i:Nat) s.toks) from ⟨_,rfl⟩) ru) rfl,rfl,⟨_,_,I.hok.fresh (al _),rfl,e1,rfl⟩,⟨by lia,⟨u,?_⟩,g2.at λo e=>keepz _ _ (cv ap) e⟩,λc hc=>?_⟩
  ·rw [show (((i+1:Nat):Nat):Int)=(i:Int)+1 by lia]
   exact f1
  ·rw [wb (hsz c hc)]
   exact (hf c hc).1
 done:=by
  intro X hP hw hK hc i pins s σ H E I hf st hg
  subst hP hw hK
  obtain ⟨hq1,le⟩:=hg
  obtain ⟨its,rv,p,hz⟩:=I.list hq1
  have hl:=rv.length
  obtain ⟨_,⟨old,h1⟩,h4⟩:=st
  refine wpAny_pyNext_enum_end (I.ok.hd hc) h1 h4 p.isList (bY (by rw [aC];lia)) λh' g=>⟨rfl,Inv.turnedL (ch:=[z,it]) (tk:=s.toks) I (λc o nc e=>?_) hf⟩
  simp only [aw,cI,or_false,not_or] at nc
  exact g c o nc.2 e
 self:=λ_ _ _ _ _ st h=>let ⟨_,⟨_,e⟩,_⟩:=st;wpAny_pyIter_enum e h
section
variable {X:Cx}
def iEnum (K:Aa)(ta:TA):TI:=λσ H R=>ta σ H λvs H1=>∃a xs,vs=[.ref a]∧SqL K H1 a xs∧R (ItE K a xs) H1
theorem wq8 {a:Expr}{ta:TA}{p pos:Pos}{es:List Expr}{k:Nat}{tpos:Pos}(hg:Gl X "enumerate")(hm:X.mg "enumerate" = none)(ha:PA X [a] ta)(hv:bootBuiltins "enumerate" = some (.type "enumerate"):=by rfl)
  (hs:starEach [a] X.env=[(false,eval a X.env)]:=by rfl):PI X (.Tuple es k tpos) (.Call (.Name "enumerate" p) [a] [] pos) (iEnum X.K ta):=by
 intro pins s σ H R I h
 refine Call_ (kh I hg hm hv (aW (thn (ha pos pins s σ H _ I h) λus s1 ⟨vs,H1,I1,r1,q1⟩=>?_) hs rfl))
 obtain ⟨a,xs,e,hq1,q⟩:=q1
 subst e
 cases r1 with
 |cons r rr =>
   cases rr
   cases r
   obtain ⟨its,rv,p,hz⟩:=I1.list hq1
   refine call_enumerate_list p.isList λh' g1 g4 g6 g7=>?_
   refine wpAny_pyIter_enum g1 ?_
   have I2:Inv X pins σ H1 { s1 with heap:=h' }:=I1.kept (t':=s1.toks) g7
   refine ⟨s1.heap.objs.size+1,[s1.heap.objs.size+1,s1.heap.objs.size],_,_,H1,rfl,I2,qkg a _ _ xs (Nat.succ_ne_self _),⟨ba _,⟨_,g1⟩,g4⟩,λc hc=>?_,q⟩
   have hc':s1.heap.objs.size≤c:=by
    have:c=s1.heap.objs.size+1∨c=s1.heap.objs.size:=by simpa using hc
    rcases this with e | e <;> (rw [e];first | exact al _ | exact Nat.le_add_right _ _)
   exact I1.fpOk hc' (I1.hok.fresh hc')
end
def qxb (J:It)(M:List Nat)(gg:TG)(te:TE)(σ:St)(H1:Hp)(Q:VK):Prop:=∀p,H1 p=none→∃W:Nat→Nat→List V→Hp→Prop,(∃m,W 0 m [] (upd H1 p (.lst []))) ∧
 ∀i m ys H2,W i m ys H2→H2 p=some (.lst ys)∧ys.length<sizeLine∧((J.stop i H2∧Q (.ref p) H2)∨(J.go i H2∧∀v H3,J.yld i H2 v H3 →
  gg v (xu M σ none none) H3 λσ4 H4=>(∃a b,σ4=xu M σ (some a) (some b))∧te σ4 H4 λy H5=>H5 p=some (.lst ys)∧∃m',m'<m∧W (i+1) m' (ys++[y]) (upd H5 p (.lst (ys++[y])))))
def tCompP (M:List Nat)(wi:TI)(gg:TG)(te:TE):TE:=λσ H Q=>wi σ H λJ H1=>qxb J M gg te σ H1 Q
section
variable {X:Cx}{elt iter tg:Expr}{x y2:Str}{pos:Pos}{scope:Scope}{cl:List (Str×Aj)}{M:List Nat}{wi:TI}{gg:TG}{te:TE}
theorem qk8 (hc:X.calm=true)(hclos:closureFor scope X.env=pure cl)(hcap:CapAll X.env cl)(hhas:HasAll cl scope.names)(hix:CapIx X scope cl M)(hk:scope.kind=.function)
  (hnames:∀y∈scope.names,y.2=.local→scope.names.lookup y.1=some .local) (hg:∀C s2 H2 fp pn,PG (wk X scope cl x y2 M C s2 H2 fp pn) tg gg) (hi:PI X tg iter wi)
  (he:∀C s2 H2 fp pn,PE (wk X scope cl x y2 M C s2 H2 fp pn) elt te) (hs:∀z,foldedSetIterable iter X.env z=pure z)
  {use:Option (Ag→Sem Unit)} {QQ:Ag→Ab→Prop} {pins:List (Aj×Obj)} {s:Ab} {σ:St} {H:Hp} {Q:VK} {ps:Pos} (I:Inv X pins σ H s) (h:wi σ H λJ H1=>qxb J M gg te σ H1 Q)
  (fin:∀(C:Aj) (s2 s4:Ab) (H1 H2:Hp) (fp:List Aj),Inv X pins σ H1 s2→s2.heap.objs.size<C→(∀b∈fp,z4 X pins H1 b)→Inv (wk X scope cl x y2 M C s2 H1 fp (X.pn++pins)) [] (xu M σ none none) H2 s4→Q (.ref s2.heap.objs.size) H2 →
   compPost (model X.prog X.w) X.A X.xe use QQ (.ref s2.heap.objs.size) C (.ok .next) s4) :
  wpAny (model X.prog X.w) X.A (comprehension (.ListComp elt [⟨tg,iter,[],0⟩] scope pos) scope X.env ps (newList []) false (eval iter X.env) use) QQ X.xe s:=by
 refine bR (use:=use) rfl hs hclos hk hnames ?_
 refine thn (hi pins s σ H _ I h) λv s1 h1=>thn h1 λitv s2 h2=>?_
 obtain ⟨it,fp,tn,J,H1,rfl,I2,T,t0,hfp,hR⟩:=h2
 have hob:∀b∈fp,∃o,s2.heap.get? b=some o∧∀v,o.data≠.cell v:=T.obj 0 _ t0
 obtain ⟨W,⟨m0,w0⟩,hW⟩:=hR s2.heap.objs.size (I2.hok.fresh (al _))
 refine bw ?_
 refine ca hhas.nocell (by intro y hy;cases hy) (λh3 hns hsb=>?_) hk
 dsimp only at hns hsb ⊢
 generalize hH2:s2.heap.push { cls:=.type "list",dict:=none,data:=.seq ([]:List Ag).toArray }=G2 at hns hsb ⊢
 have hC:G2.objs.size=s2.heap.objs.size+1:=by rw [←hH2,bI]
 have hlt:s2.heap.objs.size<G2.objs.size:=by lia
 have keep:∀b o,s2.heap.get? b=some o→h3.get? b=some o:=λb o e=>by
  have hb:b≠G2.objs.size:=aq (aI (af e) hlt)
  rw [hsb.2 b hb]
  exact ah _ (hH2▸ah _ e)
 have hD:h3.get? s2.heap.objs.size=some { cls:=.type "list",data:=.seq #[] 0 }:=by
  rw [hsb.2 _ (aq hlt)]
  exact ah _ (hH2▸aD _ rfl)
 have hns':h3.Ns G2.objs.size λ_=>none:=hns
 have J0:∀tk,Inv (wk X scope cl x y2 M G2.objs.size s2 H1 fp (X.pn++pins)) [] (xu M σ none none) (upd H1 s2.heap.objs.size (.lst [])) { s2 with heap:=h3,toks:=tk }:=λtk =>
  I2.comp2 hcap hhas hix hk hlt keep hns' hD hfp λb hb=>let ⟨o,e,_⟩:=hob b hb;⟨o,e⟩
 have hbl:∀b∈fp,b<s2.heap.objs.size:=λb hb=>let ⟨o,e,_⟩:=hob b hb;af e
 have fok:∀(H2:Hp),(∀b∈fp,H2 b=none)→∀b∈fp,z4 (wk X scope cl x y2 M G2.objs.size s2 H1 fp (X.pn++pins)) [] H2 b:=λH2 hn b hb=>by
  obtain ⟨q1,q2,q3,q4,q5,q6⟩:=hfp b hb
  refine ⟨hn b hb,aq (aI (hbl b hb) hlt),λz=>?_,.inl hb,λy c e=>q5 y c (hcap.look e),λp hp=>q6 p ((aP.mp hp).elim (λz=>z) λz=>nomatch z)⟩
  rcases aw.mp (I2.stkSub b z) with z|z
  ·exact q2 z
  ·exact q3 z
 have loop:∀tk,codeAny (model X.prog X.w) X.A (.compLoop (.ListComp elt [⟨tg,iter,[],0⟩] scope pos) 0 (.ref it) (.ref s2.heap.objs.size) (compEnvC scope cl G2.objs.size X.env))
   (compPost (model X.prog X.w) X.A X.xe use QQ (.ref s2.heap.objs.size) G2.objs.size) { s2 with heap:=h3,toks:=tk }:=λtk=>by
  refine cU rfl (λn s3=>∃i ys H2,W i n ys H2∧Inv (wk X scope cl x y2 M G2.objs.size s2 H1 fp (X.pn++pins)) [] (xu M σ none none) H2 s3∧tn i s3.heap∧∀b∈fp,H2 b=none) (λn s3 hI=>?_) m0
   ⟨0,[],_,w0,J0 tk,T.keep 0 _ _ t0 λb _ o e=>keep b o e,λb hb=>by rw [wb (aq (hbl b hb))];exact (hfp b hb).1⟩
  obtain ⟨i,ys,H2,w,J2,t,nf2⟩:=hI
  show wpAny _ _ ((compTurn (.ListComp elt [⟨tg,iter,[],0⟩] scope pos) 0 (.ref it) (.ref s2.heap.objs.size) (compEnvC scope cl G2.objs.size X.env)).onRaise λz=>do noteFrame z (compEnvC scope cl G2.objs.size X.env);theTreesLotGoes z) _ _ s3
  refine dq ?_
  rw [compTurn_list1]
  refine aa (bv (aa ?_))
  obtain ⟨hp,hz,hcase⟩:=hW i n ys H2 w
  rcases hcase with ⟨hst,hq⟩|⟨hgo,hy⟩
  ·refine ax (T.done (wk X scope cl x y2 M G2.objs.size s2 H1 fp (X.pn++pins)) rfl rfl rfl hc i [] s3 _ H2 (λ_ _=>False) J2 (fok H2 nf2) t hst) (λr s4 hr=>?_) λ_ _ z=>z.elim
   obtain ⟨rfl,J4⟩:=hr
   refine ai ?_
   exact fin G2.objs.size s2 s4 H1 H2 fp I2 hlt hfp J4 hq
  ·refine ax (T.item (wk X scope cl x y2 M G2.objs.size s2 H1 fp (X.pn++pins)) rfl rfl rfl hc i [] s3 _ H2 (λ_ _=>False) J2 (fok H2 nf2) t hgo) (λr s4 hr=>?_) λ_ _ z=>z.elim
   obtain ⟨u,rfl,hw⟩:=hr
   refine aa (ax hw (λ_ s5 hr5=>?_) λ_ _ z=>z.elim)
   obtain ⟨v,H3,J5,rv,yl,t5,nf⟩:=hr5
   have J5p:=J5.pinned (fok H3 nf) (T.obj _ _ t5)
   refine aa (ax (hg G2.objs.size s2 H1 fp (X.pn++pins) _ s5 _ H3 v u _ J5p rv (hy v H3 yl)) (λ_ s6 hr6=>?_) λ_ _ z=>z.elim)
   obtain ⟨σ6,H6,J6,⟨a6,b6,rfl⟩,hte⟩:=hr6
   refine aa (aa (ax (he _ _ _ _ _ _ s6 _ H6 _ J6 hte) (λyv s7 hr7=>?_) λ_ _ z=>z.elim))
   obtain ⟨y,H4,J7,ry,hp4,m',hm',w'⟩:=hr7
   refine aa (ax (v6 (X:=wk X scope cl x y2 M G2.objs.size s2 H1 fp (X.pn++pins)) _ s7 _ H4 (.ref s2.heap.objs.size) [y] (.ref s2.heap.objs.size) [yv] (λ_ H8=>H8=upd H4 s2.heap.objs.size (.lst (ys++[y]))) J7 rfl (.cons ry .nil) ⟨_,ys,y,rfl,rfl,hp4,hz,rfl⟩) (λ_ s8 hr8=>?_) λ_ _ z=>z.elim)
   obtain ⟨_,H8,J8,_,rfl⟩:=hr8
   refine ai (ai ⟨rfl,m',hm',i+1,ys++[y],_,w',?_,?_,?_⟩)
   ·refine (J8.unpinned (pins:=[])).weak rfl λk z ez=>?_
    match k,ez with
    |0,ez=>cases ez
    |1,ez=>cases ez
    |k+2,ez=>exact ez
   ·exact T.keep _ _ _ t5 λb hb o e=>(J8.pin (b,o) (ae _ (ae _ (xv hb e)))).1
   ·intro b hb
    obtain ⟨o,e,_⟩:=T.obj _ _ t5 b hb
    exact (J8.pin (b,o) (ae _ (ae _ (xv hb e)))).2.1
 exact bX (loop _) (T.self _ 0 _ _ _ (T.keep 0 _ _ t0 λb _ o e=>keep b o e) (loop _))
theorem jp {i:Nat}{y:Str}{py spos:Pos}(hN:X.N.Nodup)(hyi:X.N[i]?=some y)(hyl:Loc X.env.scope y)(hc:X.calm=true)(hclos:closureFor scope X.env=pure cl)(hcap:CapAll X.env cl)(hhas:HasAll cl scope.names)(hix:CapIx X scope cl M)(hk:scope.kind=.function)
  (hnames:∀y∈scope.names,y.2=.local→scope.names.lookup y.1=some .local) (hg:∀C s2 H2 fp pn,PG (wk X scope cl x y2 M C s2 H2 fp pn) tg gg) (hi:PI X tg iter wi)
  (he:∀C s2 H2 fp pn,PE (wk X scope cl x y2 M C s2 H2 fp pn) elt te) (hs:∀z,foldedSetIterable iter X.env z=pure z:=by intro _;rfl)
  (hsw:swapsWith (.ListComp elt [⟨tg,iter,[],0⟩] scope pos) (some (.Name y py)) spos.line X.env=pure true:=by rfl) (hyf:X.fn y=true∨X.env.scope.names.lookup y=some .local:=by first | exact .inl rfl | exact .inr rfl | assumption) :
  PS X (.Assign [.Name y py] (.ListComp elt [⟨tg,iter,[],0⟩] scope pos) spos) (tAsg (tCompP M wi gg te) (uk i)):=by
 intro pins s σ H D I h
 rw [cE _ _ _ _ hsw]
 refine aa (bv (aa ?_))
 refine aa (ax (qk8 hc hclos hcap hhas hix hk hnames hg hi he hs (use:=some (assign (.Name y py) X.env)) (QQ:=λ_ s'=>SP X pins D .next s') I h λC s2 s4 H1 H2 fp I2 hlt hfp J4 hq=>?_) (λ_ s' hq=>ai (ai hq)) λ_ _ e=>e)
 have I4:Inv X pins σ H2 s4:=I2.uncomp2 (h':=s4.heap) (bq hlt) hfp J4 (dr _ _)
 have hCn:H2 C=none:=J4.free
 obtain ⟨mC,hnC,_⟩:=J4.loc
 obtain ⟨oC,esC,epC,hoC,hdC⟩:=id hnC
 have hCl:C≠X.env.locals:=λz=>aE _ (aI hlt (z▸I2.lt))
 have hCs:X.s₀.heap.objs.size≤C:=bp I2.sz (bq hlt)
 have hCc:∀y c,X.env.cells.lookup y=some c→c≠C:=λy c e z=>by
  obtain ⟨v,o,e1,_⟩:=I2.cell y c e
  exact aE _ (aI hlt (z▸af e1))
 have hCp:∀p∈X.pn++pins,p.1≠C:=λp hp z=>aE _ (aI hlt (z▸af (I2.pin p hp).1))
 have hCf:C∉frs X.stack:=λz=>by
  rcases aw.mp (I2.stkSub C z) with q|q
  ·exact hCl q
  ·obtain ⟨_,o,e1,_⟩:=I2.funs.mem (b:=C) q
   exact aE _ (aI hlt (af e1))
 have hCx:C∉X.fs:=λz=>by
  obtain ⟨_,o,e1,_⟩:=I2.funs.mem (b:=C) z
  exact aE _ (aI hlt (af e1))
 have I4p:Inv X (pins++[(C,oC)]) σ H2 s4:=⟨I4.ok,I4.os,I4.bare,I4.base,I4.loc,I4.cell,I4.free,I4.freeC,λp hp=>by
  rcases aP.mp hp with q|q
  ·exact I4.pin p (bO _ q)
  ·rcases aP.mp q with q|q
   ·exact I4.pin p (ae _ q)
   ·rw [aT.mp q]
    exact ⟨hoC,hCn,hCl,hCx,λv z=>by rw [hdC.1] at z;cases z⟩,I4.hok,I4.len⟩
 show wpAny _ _ (assign (.Name y py) X.env (.ref s2.heap.objs.size)) _ _ _
 refine cw (vf I4p hN hyi hyl (show RelV (.ref s2.heap.objs.size) (.ref s2.heap.objs.size) from rfl) (λs5 I5=>?_) hyf)
 have hC5:=(I5.pin (C,oC) (ae _ (ae _ (.head _)))).1
 exact ⟨mC,⟨oC,esC,epC,hC5,hdC⟩,λh' hs'=>⟨_,H2,I5.unpinned.but hCn hCs hCl hCc hCp hs',hq⟩⟩
end
theorem Q2 {X:Cx}{K:Aa}{pos:Pos}{es:List Expr}{k:Nat}{t:TGs}{n:Nat}(hK:X.K=K)(hc:X.calm=true)(h:PGs X es t)(h1:(assignEach es X.env).length=n:=by rfl)(h2:List.findIdx? (λx=>x.fst) (assignEach es X.env)=none:=by rfl):PG X (.Tuple es k pos) (gTup K n t):=by
 subst hK
 exact vg hc h h1 h2
def qu3 (G:Nat→V→Hp→Prop):Prop:=∀i v H H',G i v H→(∀b o,(∀xs,o≠.lst xs)→H b=some o→H' b=some o)→G i v H'
theorem Y2 {K:Aa}{J:It}{M:List Nat}{te:TE}{σ:St}{H:Hp}{Q:VK}(n:Nat)(pr:Nat→V×V)(G:Nat→V→Hp→Prop)(gs:qu3 G)(hn:n≤1000000)
  (hgo:∀i H',i<n→Same H H'→J.go i H') (hst:∀H',Same H H'→J.stop n H') (hy:∀i H2 v H3,i<n→Same H H2→J.yld i H2 v H3→Same H2 H3∧∃a,v=.ref a∧SqT K H3 a [(pr i).1,(pr i).2])
  (he:∀(i:Nat) (H':Hp) (R:VK),i<n→Same H H'→(∀v H'',Same H' H''→G i v H''→R v H'')→te (xu M σ (some (pr i).1) (some (pr i).2)) H' R)
  (k:∀p ys H',H p=none→Same H H'→H' p=some (.lst ys)→ys.length=n→(∀j v,ys[j]?=some v→G j v H')→Q (.ref p) H') :
  qxb J M (gTup K 2 (qwb (uk 0) (qwb (uk 1) gNil))) te σ H Q:=by
 intro p np
 have big:(1000000:Nat)<sizeLine:=by decide
 refine ⟨λi m ys H2=>i≤n∧m=n-i∧ys.length=i∧Same H H2∧H2 p=some (.lst ys)∧∀j v,ys[j]?=some v→G j v H2,⟨n,ba _,rfl,rfl,Same.upd np,qm,λj v e=>by cases e⟩,?_⟩
 rintro i m ys H2 ⟨hi,rfl,hl,sm,hp,hG⟩
 refine ⟨hp,by lia,?_⟩
 by_cases hlt:i<n
 ·refine .inr ⟨hgo i H2 hlt sm,λv H3 yl=>?_⟩
  obtain ⟨s3,a,rfl,hq⟩:=hy i H2 v H3 hlt sm yl
  refine ⟨a,_,rfl,hq,rfl,_,_,rfl,_,_,rfl,rfl,⟨_,_,rfl⟩,?_⟩
  refine he i H3 _ hlt (sm.trans s3) λw H4 s4 g4=>?_
  have hp4:=s4 _ _ (s3 _ _ hp)
  have st:∀b o,(∀xs,o≠.lst xs)→H4 b=some o→upd H4 p (.lst (ys++[w])) b=some o:=λb o no e=>by
   rw [wb]
   ·exact e
   ·intro z
    rw [z,hp4] at e
    exact no _ (aj e).symm
  refine ⟨hp4,n-(i+1),by lia,by lia,rfl,by rw [ar,hl];rfl,λb o e=>?_,qm,λj v e=>?_⟩
  ·rw [wb (wu e np)]
   exact s4 _ _ (s3 _ _ (sm _ _ e))
  ·rcases br j ys.length with z|z
   ·rw [aM z] at e
    exact gs j v _ _ (hG j v e) λb o no e=>st b o no (s4 _ _ (s3 _ _ e))
   ·rw [aH z] at e
    have hj:j=i:=by
     rcases br (j-ys.length) 1 with y|y
     ·lia
     ·rw [bj (by simpa using y)] at e
      cases e
    subst hj
    rw [show j-ys.length=0 by lia] at e
    cases e
    exact gs j _ _ _ g4 st
 ·have:i=n:=by lia
  subst this
  exact .inl ⟨hst H2 sm,k p ys H2 np sm hp hl hG⟩
theorem Qw {M:List Nat}{lo:Int}{n:Nat}{te:TE}{σ:St}{H:Hp}{Q:VK}(G:Nat→V→Hp→Prop)(gs:qu3 G)(hn:n≤1000000)
  (he:∀(i:Nat) (H':Hp) (R:VK),i<n→Same H H'→(∀v H'',Same H' H''→G i v H''→R v H'')→te (vh M σ (some (.int (lo+i)))) H' R)
  (k:∀p ys H',H p=none→Same H H'→H' p=some (.lst ys)→ys.length=n→(∀j v,ys[j]?=some v→G j v H')→Q (.ref p) H'):Qk (Itr lo n) M te σ H Q:=by
 intro p np
 have big:(1000000:Nat)<sizeLine:=by decide
 refine ⟨λi m ys H2=>i≤n∧m=n-i∧ys.length=i∧Same H H2∧H2 p=some (.lst ys)∧∀j v,ys[j]?=some v→G j v H2,⟨n,ba _,rfl,rfl,Same.upd np,qm,λj v e=>by cases e⟩,?_⟩
 rintro i m ys H2 ⟨hi,rfl,hl,sm,hp,hG⟩
 refine ⟨hp,by lia,?_⟩
 by_cases hlt:i<n
 ·refine .inr ⟨hlt,?_⟩
  rintro v H3 ⟨rfl,rfl⟩
  refine he i H3 _ hlt sm λw H4 s4 g4=>?_
  have hp4:=s4 _ _ hp
  have st:∀b o,(∀xs,o≠.lst xs)→H4 b=some o→upd H4 p (.lst (ys++[w])) b=some o:=λb o no e=>by
   rw [wb]
   ·exact e
   ·intro z
    rw [z,hp4] at e
    exact no _ (aj e).symm
  refine ⟨hp4,n-(i+1),by lia,by lia,rfl,by rw [ar,hl];rfl,λb o e=>?_,qm,λj v e=>?_⟩
  ·rw [wb (wu e np)]
   exact s4 _ _ (sm _ _ e)
  ·rcases br j ys.length with z|z
   ·rw [aM z] at e
    exact gs j v _ _ (hG j v e) λb o no e=>st b o no (s4 _ _ e)
   ·rw [aH z] at e
    have hj:j=i:=by
     rcases br (j-ys.length) 1 with y|y
     ·lia
     ·rw [bj (by simpa using y)] at e
      cases e
    subst hj
    rw [show j-ys.length=0 by lia] at e
    cases e
    exact gs j _ _ _ g4 st
 ·have:i=n:=by lia
  subst this
  exact .inl ⟨al _,k p ys H2 np sm hp hl hG⟩
theorem wxk {K:Aa}{a b:Aj}{xs ys:List V}{g:TG}{tb:TS}{D:Ends}{σ:St}{H:Hp}(Pv:Nat→St→Hp→Prop)(h0:Pv 0 σ H)(hl:∀i σ H,Pv i σ H→SqL K H a xs∧SqL K H b ys)
  (hs:∀i x y q σ H,xs[i]?=some x→ys[i]?=some y→H q=none→Pv i σ H→g (.ref q) σ (upd H q (.tup [x,y])) λσ2 H2=>tb { D with nx:=Pv (i+1),ct:=Pv (i+1),bk:=D.nx } σ2 H2) (hd:∀σ H,Pv (min xs.length ys.length) σ H→D.nx σ H) :
  ∃W:Nat→Nat→St→Hp→Prop,(∃m,W 0 m σ H)∧∀i m σ H,W i m σ H →
   ((ItZ K a b xs ys).stop i H∧D.nx σ H)∨((ItZ K a b xs ys).go i H∧∃N:St→Hp→Prop,(∀σ' H',N σ' H'→∃m',m'<m∧W (i+1) m' σ' H')∧∀x H',(ItZ K a b xs ys).yld i H x H'→g x σ H' λσ2 H2=>tb { D with nx:=N,ct:=N,bk:=D.nx } σ2 H2):=by
 refine ⟨λi m σ H=>m=min xs.length ys.length-i∧i≤min xs.length ys.length∧Pv i σ H,⟨_,rfl,ba _,h0⟩,?_⟩
 rintro i m σ H ⟨rfl,hi,p⟩
 have q:=hl i σ H p
 by_cases hlt:i<min xs.length ys.length
 ·refine .inr ⟨⟨q.1,q.2,by lia,by lia⟩,Pv (i+1),λσ' H' p'=>⟨min xs.length ys.length-(i+1),by lia,rfl,hlt,p'⟩,?_⟩
  rintro v H' ⟨q',x,y,nq,rfl,ex,ey,rfl⟩
  exact hs i x y q' σ H ex ey nq p
 ·have:i=min xs.length ys.length:=by lia
  subst this
  refine .inl ⟨⟨q.1,q.2,by lia⟩,hd σ H p⟩
end L2
namespace L2
open PySem PySem.Spec PyProof.Rows
def Jz (J:It)(M:List Nat)(gg:TG)(tt:TT)(te:TE)(σ:St)(H1:Hp)(Q:VK):Prop:=∀p,H1 p=none→∃W:Nat→Nat→List V→Hp→Prop,(∃m,W 0 m [] (upd H1 p (.lst []))) ∧
 ∀i m ys H2,W i m ys H2→H2 p=some (.lst ys)∧ys.length<sizeLine∧((J.stop i H2∧Q (.ref p) H2)∨(J.go i H2∧∀v H3,J.yld i H2 v H3 →
  gg v (xu M σ none none) H3 λσ4 H4=>(∃a b,σ4=xu M σ (some a) (some b))∧tt σ4 H4 λb H4=>if b=true then te σ4 H4 (λy H5=>H5 p=some (.lst ys)∧∃m',m'<m∧W (i+1) m' (ys++[y]) (upd H5 p (.lst (ys++[y])))) else H4 p=some (.lst ys)∧∃m',m'<m∧W (i+1) m' ys H4))
def wq7 (M:List Nat)(wi:TI)(gg:TG)(tt:TT)(te:TE):TE:=λσ H Q=>wi σ H λJ H1=>Jz J M gg tt te σ H1 Q
section
variable {X:Cx}{elt iter tg cd:Expr}{x y2:Str}{pos:Pos}{scope:Scope}{cl:List (Str×Aj)}{M:List Nat}{wi:TI}{gg:TG}{tt:TT}{te:TE}
theorem qxq (hc:X.calm=true)(hclos:closureFor scope X.env=pure cl)(hcap:CapAll X.env cl)(hhas:HasAll cl scope.names)(hix:CapIx X scope cl M)(hk:scope.kind=.function)
  (hnames:∀y∈scope.names,y.2=.local→scope.names.lookup y.1=some .local) (hg:∀C s2 H2 fp pn,PG (wk X scope cl x y2 M C s2 H2 fp pn) tg gg) (hi:PI X tg iter wi)
  (ht:∀C s2 H2 fp pn,PT (wk X scope cl x y2 M C s2 H2 fp pn) cd tt) (he:∀C s2 H2 fp pn,PE (wk X scope cl x y2 M C s2 H2 fp pn) elt te) (hs:∀z,foldedSetIterable iter X.env z=pure z)
  {use:Option (Ag→Sem Unit)} {QQ:Ag→Ab→Prop} {pins:List (Aj×Obj)} {s:Ab} {σ:St} {H:Hp} {Q:VK} {ps:Pos} (I:Inv X pins σ H s) (h:wi σ H λJ H1=>Jz J M gg tt te σ H1 Q)
  (fin:∀(C:Aj) (s2 s4:Ab) (H1 H2:Hp) (fp:List Aj),Inv X pins σ H1 s2→s2.heap.objs.size<C→(∀b∈fp,z4 X pins H1 b)→Inv (wk X scope cl x y2 M C s2 H1 fp (X.pn++pins)) [] (xu M σ none none) H2 s4→Q (.ref s2.heap.objs.size) H2 →
   compPost (model X.prog X.w) X.A X.xe use QQ (.ref s2.heap.objs.size) C (.ok .next) s4) :
  wpAny (model X.prog X.w) X.A (comprehension (.ListComp elt [⟨tg,iter,[cd],0⟩] scope pos) scope X.env ps (newList []) false (eval iter X.env) use) QQ X.xe s:=by
 refine bR (use:=use) rfl hs hclos hk hnames ?_
 refine thn (hi pins s σ H _ I h) λv s1 h1=>thn h1 λitv s2 h2=>?_
 obtain ⟨it,fp,tn,J,H1,rfl,I2,T,t0,hfp,hR⟩:=h2
 have hob:∀b∈fp,∃o,s2.heap.get? b=some o∧∀v,o.data≠.cell v:=T.obj 0 _ t0
 obtain ⟨W,⟨m0,w0⟩,hW⟩:=hR s2.heap.objs.size (I2.hok.fresh (al _))
 refine bw ?_
 refine ca hhas.nocell (by intro y hy;cases hy) (λh3 hns hsb=>?_) hk
 dsimp only at hns hsb ⊢
 generalize hH2:s2.heap.push { cls:=.type "list",dict:=none,data:=.seq ([]:List Ag).toArray }=G2 at hns hsb ⊢
 have hC:G2.objs.size=s2.heap.objs.size+1:=by rw [←hH2,bI]
 have hlt:s2.heap.objs.size<G2.objs.size:=by lia
 have keep:∀b o,s2.heap.get? b=some o→h3.get? b=some o:=λb o e=>by
  have hb:b≠G2.objs.size:=aq (aI (af e) hlt)
  rw [hsb.2 b hb]
  exact ah _ (hH2▸ah _ e)
 have hD:h3.get? s2.heap.objs.size=some { cls:=.type "list",data:=.seq #[] 0 }:=by
  rw [hsb.2 _ (aq hlt)]
  exact ah _ (hH2▸aD _ rfl)
 have hns':h3.Ns G2.objs.size λ_=>none:=hns
 have J0:∀tk,Inv (wk X scope cl x y2 M G2.objs.size s2 H1 fp (X.pn++pins)) [] (xu M σ none none) (upd H1 s2.heap.objs.size (.lst [])) { s2 with heap:=h3,toks:=tk }:=λtk =>
  I2.comp2 hcap hhas hix hk hlt keep hns' hD hfp λb hb=>let ⟨o,e,_⟩:=hob b hb;⟨o,e⟩
 have hbl:∀b∈fp,b<s2.heap.objs.size:=λb hb=>let ⟨o,e,_⟩:=hob b hb;af e
 have fok:∀(H2:Hp),(∀b∈fp,H2 b=none)→∀b∈fp,z4 (wk X scope cl x y2 M G2.objs.size s2 H1 fp (X.pn++pins)) [] H2 b:=λH2 hn b hb=>by
  obtain ⟨q1,q2,q3,q4,q5,q6⟩:=hfp b hb
  refine ⟨hn b hb,aq (aI (hbl b hb) hlt),λz=>?_,.inl hb,λy c e=>q5 y c (hcap.look e),λp hp=>q6 p ((aP.mp hp).elim (λz=>z) λz=>nomatch z)⟩
  rcases aw.mp (I2.stkSub b z) with z|z
  ·exact q2 z
  ·exact q3 z
 have loop:∀tk,codeAny (model X.prog X.w) X.A (.compLoop (.ListComp elt [⟨tg,iter,[cd],0⟩] scope pos) 0 (.ref it) (.ref s2.heap.objs.size) (compEnvC scope cl G2.objs.size X.env))
   (compPost (model X.prog X.w) X.A X.xe use QQ (.ref s2.heap.objs.size) G2.objs.size) { s2 with heap:=h3,toks:=tk }:=λtk=>by
  refine cU rfl (λn s3=>∃i ys H2,W i n ys H2∧Inv (wk X scope cl x y2 M G2.objs.size s2 H1 fp (X.pn++pins)) [] (xu M σ none none) H2 s3∧tn i s3.heap∧∀b∈fp,H2 b=none) (λn s3 hI=>?_) m0
   ⟨0,[],_,w0,J0 tk,T.keep 0 _ _ t0 λb _ o e=>keep b o e,λb hb=>by rw [wb (aq (hbl b hb))];exact (hfp b hb).1⟩
  obtain ⟨i,ys,H2,w,J2,t,nf2⟩:=hI
  show wpAny _ _ ((compTurn (.ListComp elt [⟨tg,iter,[cd],0⟩] scope pos) 0 (.ref it) (.ref s2.heap.objs.size) (compEnvC scope cl G2.objs.size X.env)).onRaise λz=>do noteFrame z (compEnvC scope cl G2.objs.size X.env);theTreesLotGoes z) _ _ s3
  refine dq ?_
  rw [compTurn_list]
  refine aa (bv (aa ?_))
  obtain ⟨hp,hz,hcase⟩:=hW i n ys H2 w
  rcases hcase with ⟨hst,hq⟩|⟨hgo,hy⟩
  ·refine ax (T.done (wk X scope cl x y2 M G2.objs.size s2 H1 fp (X.pn++pins)) rfl rfl rfl hc i [] s3 _ H2 (λ_ _=>False) J2 (fok H2 nf2) t hst) (λr s4 hr=>?_) λ_ _ z=>z.elim
   obtain ⟨rfl,J4⟩:=hr
   refine ai ?_
   exact fin G2.objs.size s2 s4 H1 H2 fp I2 hlt hfp J4 hq
  ·refine ax (T.item (wk X scope cl x y2 M G2.objs.size s2 H1 fp (X.pn++pins)) rfl rfl rfl hc i [] s3 _ H2 (λ_ _=>False) J2 (fok H2 nf2) t hgo) (λr s4 hr=>?_) λ_ _ z=>z.elim
   obtain ⟨u,rfl,hw⟩:=hr
   refine aa (ax hw (λ_ s5 hr5=>?_) λ_ _ z=>z.elim)
   obtain ⟨v,H3,J5,rv,yl,t5,nf⟩:=hr5
   have J5p:=J5.pinned (fok H3 nf) (T.obj _ _ t5)
   refine aa (ax (hg G2.objs.size s2 H1 fp (X.pn++pins) _ s5 _ H3 v u _ J5p rv (hy v H3 yl)) (λ_ s6 hr6=>?_) λ_ _ z=>z.elim)
   obtain ⟨σ6,H6,J6,⟨a6,b6,rfl⟩,hte⟩:=hr6
   refine aa (wpAny_tests_one (ax (ht _ _ _ _ _ _ s6 _ H6 _ J6 hte) (λok s6 hr6=>?_) λ_ _ z=>z.elim))
   obtain ⟨H6',J6',hok⟩:=hr6
   cases ok with
   |false =>
    obtain ⟨hp4,m',hm',w'⟩:H6' s2.heap.objs.size=some (.lst ys)∧∃m',m'<n∧W (i+1) m' ys H6':=hok
    refine ai ⟨rfl,m',hm',i+1,ys,_,w',?_,?_,?_⟩
    ·refine (J6'.unpinned (pins:=[])).weak rfl λk z ez=>?_
     match k,ez with
     |0,ez=>cases ez
     |1,ez=>cases ez
     |k+2,ez=>exact ez
    ·exact T.keep _ _ _ t5 λb hb o e=>(J6'.pin (b,o) (ae _ (ae _ (xv hb e)))).1
    ·intro b hb
     obtain ⟨o,e,_⟩:=T.obj _ _ t5 b hb
     exact (J6'.pin (b,o) (ae _ (ae _ (xv hb e)))).2.1
   |true =>
    have hok':te (xu M σ (some a6) (some b6)) H6' (λy H5=>H5 s2.heap.objs.size=some (.lst ys)∧∃m',m'<n∧W (i+1) m' (ys++[y]) (upd H5 s2.heap.objs.size (.lst (ys++[y])))):=hok
    refine aa (aa (ax (he _ _ _ _ _ _ s6 _ H6' _ J6' hok') (λyv s7 hr7=>?_) λ_ _ z=>z.elim))
    obtain ⟨y,H4,J7,ry,hp4,m',hm',w'⟩:=hr7
    refine aa (ax (v6 (X:=wk X scope cl x y2 M G2.objs.size s2 H1 fp (X.pn++pins)) _ s7 _ H4 (.ref s2.heap.objs.size) [y] (.ref s2.heap.objs.size) [yv] (λ_ H8=>H8=upd H4 s2.heap.objs.size (.lst (ys++[y]))) J7 rfl (.cons ry .nil) ⟨_,ys,y,rfl,rfl,hp4,hz,rfl⟩) (λ_ s8 hr8=>?_) λ_ _ z=>z.elim)
    obtain ⟨_,H8,J8,_,rfl⟩:=hr8
    refine ai (ai ⟨rfl,m',hm',i+1,ys++[y],_,w',?_,?_,?_⟩)
    ·refine (J8.unpinned (pins:=[])).weak rfl λk z ez=>?_
     match k,ez with
     |0,ez=>cases ez
     |1,ez=>cases ez
     |k+2,ez=>exact ez
    ·exact T.keep _ _ _ t5 λb hb o e=>(J8.pin (b,o) (ae _ (ae _ (xv hb e)))).1
    ·intro b hb
     obtain ⟨o,e,_⟩:=T.obj _ _ t5 b hb
     exact (J8.pin (b,o) (ae _ (ae _ (xv hb e)))).2.1
 exact bX (loop _) (T.self _ 0 _ _ _ (T.keep 0 _ _ t0 λb _ o e=>keep b o e) (loop _))
theorem qv1 (hc:X.calm=true)(hclos:closureFor scope X.env=pure cl)(hcap:CapAll X.env cl)(hhas:HasAll cl scope.names)(hix:CapIx X scope cl M)(hk:scope.kind=.function)
  (hnames:∀y∈scope.names,y.2=.local→scope.names.lookup y.1=some .local) (hg:∀C s2 H2 fp pn,PG (wk X scope cl x y2 M C s2 H2 fp pn) tg gg) (hi:PI X tg iter wi)
  (ht:∀C s2 H2 fp pn,PT (wk X scope cl x y2 M C s2 H2 fp pn) cd tt) (he:∀C s2 H2 fp pn,PE (wk X scope cl x y2 M C s2 H2 fp pn) elt te) (hs:∀z,foldedSetIterable iter X.env z=pure z:=by intro _;rfl) :
  PE X (.ListComp elt [⟨tg,iter,[cd],0⟩] scope pos) (wq7 M wi gg tt te):=by
 intro pins s σ H Q I h
 rw [eval_ListComp]
 refine qxq hc hclos hcap hhas hix hk hnames hg hi ht he hs (use:=none) I h λC s2 s4 H1 H2 fp I2 hlt hfp J4 hq=>?_
 obtain ⟨m,hn,_⟩:=J4.loc
 exact ⟨m,hn,λh' hs'=>⟨.ref s2.heap.objs.size,H2,I2.uncomp2 (bq hlt) hfp J4 hs',rfl,hq⟩⟩
end
theorem qy2 {K:Aa}{J:It}{M:List Nat}{tt:TT}{te:TE}{σ:St}{H:Hp}{Q:VK}(n:Nat)(pr:Nat→V×V)(c:Nat→Bool)(f:Nat→V)(hn:n≤1000000)
  (hgo:∀i H',i<n→Same H H'→J.go i H') (hst:∀H',Same H H'→J.stop n H') (hy:∀i H2 v H3,i<n→Same H H2→J.yld i H2 v H3→Same H2 H3∧∃a,v=.ref a∧SqT K H3 a [(pr i).1,(pr i).2])
  (ht:∀(i:Nat) (H':Hp) (R:Bool→Hp→Prop),i<n→Same H H'→(∀H'',Same H' H''→R (c i) H'')→tt (xu M σ (some (pr i).1) (some (pr i).2)) H' R)
  (he:∀(i:Nat) (H':Hp) (R:VK),i<n→c i=true→Same H H'→(∀H'',Same H' H''→R (f i) H'')→te (xu M σ (some (pr i).1) (some (pr i).2)) H' R)
  (k:∀p H',H p=none→Same H H'→H' p=some (.lst (((List.range n).filter c).map f))→Q (.ref p) H') :
  Jz J M (gTup K 2 (qwb (uk 0) (qwb (uk 1) gNil))) tt te σ H Q:=by
 intro p np
 have big:(1000000:Nat)<sizeLine:=by decide
 refine ⟨λi m ys H2=>i≤n∧m=n-i∧ys=((List.range i).filter c).map f∧Same H H2∧H2 p=some (.lst ys),⟨n,ba _,rfl,rfl,Same.upd np,qm⟩,?_⟩
 rintro i m ys H2 ⟨hi,rfl,rfl,sm,hp⟩
 refine ⟨hp,?_,?_⟩
 ·rw [ac]
  have:=List.length_filter_le c (List.range i)
  rw [az] at this
  lia
 ·by_cases hlt:i<n
  ·refine .inr ⟨hgo i H2 hlt sm,λv H3 yl=>?_⟩
   obtain ⟨s3,a,rfl,hq⟩:=hy i H2 v H3 hlt sm yl
   refine ⟨a,_,rfl,hq,rfl,_,_,rfl,_,_,rfl,rfl,⟨_,_,rfl⟩,?_⟩
   refine ht i _ _ hlt (sm.trans s3) λH4 s4=>?_
   cases hc:c i with
   |true =>
    refine y6 ?_
    refine he i _ _ hlt hc ((sm.trans s3).trans s4) λH5 s5=>⟨s5 _ _ (s4 _ _ (s3 _ _ hp)),n-(i+1),by lia,by lia,rfl,?_,λb o e=>?_,qm⟩
    ·rw [aR,List.filter_append,av]
     simp [dD,hc]
    ·rw [wb (wu e np)]
     exact s5 _ _ (s4 _ _ (s3 _ _ (sm _ _ e)))
   |false =>
    refine kn ?_
    refine ⟨s4 _ _ (s3 _ _ hp),n-(i+1),by lia,by lia,rfl,?_,(sm.trans s3).trans s4,s4 _ _ (s3 _ _ hp)⟩
    rw [aR,List.filter_append,av]
    simp [dD,hc]
  ·have:i=n:=by lia
   subst this
   exact .inl ⟨hst H2 sm,k p H2 np sm hp⟩
end L2
namespace L2
open PySem PySem.Spec PyProof.Rows
section
universe u1 u2 u3 u4 u5 u6
variable {α:Sort u1}{β:Sort u2}{γ:Sort u3}{δ:Sort u4}{ε:Sort u5}{ζ:Sort u6}
theorem ex2 {p:α→β→Prop}(a:α)(b:β)(h:p a b):∃x y,p x y:=⟨a,b,h⟩
theorem ex3 {p:α→β→γ→Prop}(a:α)(b:β)(c:γ)(h:p a b c):∃x y z,p x y z:=⟨a,b,c,h⟩
theorem ex4 {p:α→β→γ→δ→Prop}(a:α)(b:β)(c:γ)(d:δ)(h:p a b c d):∃x y z t,p x y z t:=⟨a,b,c,d,h⟩
theorem ex5 {p:α→β→γ→δ→ε→Prop}(a:α)(b:β)(c:γ)(d:δ)(e:ε)(h:p a b c d e):∃x y z t r,p x y z t r:=⟨a,b,c,d,e,h⟩
theorem ex6 {p:α→β→γ→δ→ε→ζ→Prop}(a:α)(b:β)(c:γ)(d:δ)(e:ε)(f:ζ)(h:p a b c d e f):∃x y z t r s,p x y z t r s:=⟨a,b,c,d,e,f,h⟩
end
section
variable {K:Aa}{σ:St}{H:Hp}{Q:VK}{i i2:Nat}{j j2:Int}{p p2:Aj}{xs ys:List V}{v:V}
theorem rdT (e:σ[i]?=some (some (.ref p)))(h:SqT K H p xs)(a:atI xs j=some v)(q:Q v H):tOp (rIxT K) (ku i) (tC (.int j)) σ H Q:=⟨_,e,p,xs,j,v,rfl,rfl,h,a,q⟩
theorem rdTT (e:σ[i]?=some (some (.ref p)))(h:SqT K H p xs)(a:atI xs j=some (.ref p2))(h2:SqT K H p2 ys)(a2:atI ys j2=some v)(q:Q v H):tOp (rIxT K) (tOp (rIxT K) (ku i) (tC (.int j))) (tC (.int j2)) σ H Q:=⟨_,e,p,xs,j,_,rfl,rfl,h,a,p2,ys,j2,v,rfl,rfl,h2,a2,q⟩
theorem rdL (e:σ[i]?=some (some (.ref p)))(e2:σ[i2]?=some (some (.int j)))(h:SqL K H p xs)(a:atI xs j=some v)(q:Q v H):tOp (rIxL K) (ku i) (ku i2) σ H Q:=⟨_,e,_,e2,p,xs,j,v,rfl,rfl,h,a,q⟩
theorem rdLC (e:σ[i]?=some (some (.ref p)))(h:SqL K H p xs)(a:atI xs j=some v)(q:Q v H):tOp (rIxL K) (ku i) (tC (.int j)) σ H Q:=⟨_,e,p,xs,j,v,rfl,rfl,h,a,q⟩
end
theorem tn2 (n:Nat):((n:Int)-1).toNat=n-1:=by lia
theorem tn1 {m:Int}(h:1≤m):(m-1).toNat=m.toNat-1:=by
 obtain ⟨n,rfl⟩:=Int.eq_ofNat_of_zero_le (show 0≤m by lia)
 rw [tn2,b9]
theorem tn3 {m:Int}(h:1≤m):(m-1).toNat+1=m.toNat:=by
 rw [tn1 h]
 exact Nat.sub_add_cancel (Int.lt_toNat.mpr h)
theorem tnlt {m:Int}(h:1≤m):((m.toNat-1:Nat):Int)<m:=by
 rw [←tn1 h,cj (by lia)]
 lia
theorem tnsum {r t:Int}(h0:0≤r)(h1:1+r<t):(1+r).toNat-1+((t-(1+r)).toNat-1+1)=t.toNat-1:=by
 rw [←tn1 (show 1≤1+r by lia),←tn1 (show 1≤t-(1+r) by lia),←tn1 (show 1≤t by lia),tn3 (show 1≤t-(1+r) by lia),←Int.toNat_add (by lia) (by lia)]
 congr 1
 lia
end L2
namespace L2
open PySem PySem.Spec PyProof.Rows
def PtV (H:Hp)(v:V)(p:Int×Int):Prop:=∃a,v=.ref a∧H a=some (.tup [.int p.1,.int p.2])
def qqv (H:Hp)(q:Int×Int):Ag→Bool
 |.ref a=>match H a with
  |some (.tup [.int x,.int y])=>decide ((x,y)=q)
  |_=>false
 |_=>false
theorem Jp {H:Hp}{q p:Int×Int}{a:Aj}(h:H a=some (.tup [.int p.1,.int p.2])):qqv H q (.ref a)=decide (p=q):=by
 simp only [qqv,h]
theorem ww6 {X:Cx}{pins:List (Aj×Obj)}{σ:St}{H:Hp}{s:Ab}{A:Ae}(I:Inv X pins σ H s)(hu:A.units<cLine){a b:Aj}{p q:Int×Int}(ha:H a=some (.tup [.int p.1,.int p.2]))(hb:H b=some (.tup [.int q.1,.int q.2])):SeqAt.EqAt A s (.ref a) (.ref b) (decide (p=q)):=by
 by_cases e:a=b
 ·subst e
  rw [ha] at hb
  have:p=q:=by
   injection hb with hb
   injection hb with hb
   injection hb with h1 h2
   injection h2 with h2 _
   injection h1 with h1
   injection h2 with h2
   exact dE h1 h2
  rw [bn this]
  exact SeqAt.EqAt.same _
 ·refine SeqAt.EqAt.of_refs e ?_
  obtain ⟨its,r1,t1,_⟩:=I.tuple (SqT.of (K:=X.K) ha)
  obtain ⟨its2,r2,t2,_⟩:=I.tuple (SqT.of (K:=X.K) hb)
  obtain ⟨u1,u2,rfl,⟨k1,rfl⟩,⟨k2,rfl⟩⟩:=r1.two
  obtain ⟨w1,w2,rfl,⟨m1,rfl⟩,⟨m2,rfl⟩⟩:=r2.two
  have h:=SeqAt.RcAt.tuples (A:=A) (s:=s) (e:=λj=>if j=0 then p.1==q.1 else p.2==q.2) (show s.heap.IsTuple a _ from t1) (show s.heap.IsTuple b _ from t2) hu λj h1 h2=>by
   have hj:j<2:=by simpa using h1
   rcases (by lia:j=0∨j=1) with z|z
   ·subst z
    exact SeqAt.EqAt.int_int _ _ _ _
   ·subst z
    exact SeqAt.EqAt.int_int _ _ _ _
  have e2:((List.range (min [Value.int p.1 k1,Value.int p.2 k2].toArray.size [Value.int q.1 m1,Value.int q.2 m2].toArray.size)).all (λj=>if j=0 then p.1==q.1 else p.2==q.2)&&[Value.int p.1 k1,Value.int p.2 k2].toArray.size==[Value.int q.1 m1,Value.int q.2 m2].toArray.size)=decide (p=q):=by
   rw [bM]
   simp [aR,Prod.ext_iff]
  rw [e2] at h
  exact h
section
variable {X:Cx}{pins:List (Aj×Obj)}{σ:St}{H:Hp}{s:Ab}
theorem qqm {q:Int×Int}:∀ {vs:List V} {ps:List (Int×Int)} {us:List Ag},Paired (PtV H) vs ps→Vals vs us→us.any (qqv H q)=decide (q∈ps)
 |_,_,_,.nil,.nil=>by simp
 |_,p::ps,_,.cons h t,.cons r rs=>by
  obtain ⟨a,rfl,ha⟩:=h
  cases r
  rw [dt,qqm t rs,Jp ha,bM]
  simp only [Bool.or_eq_true,decide_eq_true_eq,aw]
  exact ⟨λz=>z.elim (λy=>.inl y.symm) .inr,λz=>z.elim (λy=>.inl y.symm) .inr⟩
theorem Wz (I:Inv X pins σ H s){A:Ae}(hu:A.units<cLine){b:Aj}{q:Int×Int}(hb:H b=some (.tup [.int q.1,.int q.2])):∀ {vs:List V} {ps:List (Int×Int)} {us:List Ag},Paired (PtV H) vs ps→Vals vs us→∀u∈us,SeqAt.EqAt A s u (.ref b) (qqv H q u)
 |_,_,_,.nil,.nil,u,hu'=>by cases hu'
 |_,_,_,.cons h t,.cons r rs,u,hu'=>by
  obtain ⟨a,rfl,ha⟩:=h
  cases r
  rcases aw.mp hu' with rfl|hu'
  ·rw [Jp ha]
   exact ww6 I hu ha hb
  ·exact Wz I hu hb t rs u hu'
def wqs:R2:=λx y H Q=>∃l b vs ps q,x=.ref b∧y=.ref l∧H l=some (.lst vs)∧Paired (PtV H) vs ps∧H b=some (.tup [.int q.1,.int q.2])∧Q (.bl (!decide (q∈ps))) H
theorem qvg (hu:X.A.units+64<cLine):OpR X (compareOp .NotIn) wqs:=by
 intro pins s σ H x y v u Q I rx ry h
 obtain ⟨l,b,vs,ps,q,rfl,rfl,hl,hp,hb,k⟩:=h
 cases rx
 cases ry
 obtain ⟨its,r,pl,hz⟩:=I.list (SqL.of (K:=X.K) hl)
 refine SeqAt.notIn_listAt (qqv H q) pl.isList (λw hw=>Wz I (A:=X.A.in1) (by show X.A.units+1<cLine;lia) hb hp r w (by simpa using hw)) ⟨.bl _,H,I,rfl,?_⟩
 rw [show its.toArray.any (qqv H q)=its.any (qqv H q) by simp,qqm hp r]
 exact k
theorem qvz {us:List V}{ps:List (Int×Int)}{ws:List Ag}{q:Int×Int}:∀ {i:Nat},Paired (PtV H) us ps→Vals us ws→(hi:i<ws.length)→qqv H q ws[i]=decide (ps[i]?=some q):=by
 intro i hp hv hi
 have hl:=b7 hp
 have hl2:=hv.length
 have e1:us[i]?=some us[i]:=ag (by lia)
 have e2:ps[i]?=some ps[i]:=ag (by lia)
 obtain ⟨w,ew,rw'⟩:=hv.get e1
 rw [ag hi] at ew
 have ew':=aj ew
 have key:∀ {us:List V} {ps:List (Int×Int)} {i:Nat} {u:V} {p:Int×Int},Paired (PtV H) us ps→us[i]?=some u→ps[i]?=some p→PtV H u p:=by
  intro us ps i u p h
  induction h generalizing i with
  |nil=>intro e;cases e
  |cons a t ih =>
   cases i with
   |zero=>intro x y;cases x;cases y;exact a
   |succ i=>intro x y;exact ih (i:=i) x y
 obtain ⟨a,ea,ha⟩:=key hp e1 e2
 rw [ea] at rw'
 cases rw'
 rw [ew',Jp ha,e2]
 simp
def wwt:V→List V→Hp→VK→Prop:=λx vs H Q=>∃l b us ps q j,x=.ref l∧vs=[.ref b]∧H l=some (.lst us)∧Paired (PtV H) us ps∧H b=some (.tup [.int q.1,.int q.2])∧ps[j]?=some q∧(∀i,i<j→ps[i]?≠some q)∧us.length≤1000000∧Q (.int ((j:Nat):Int)) H
theorem qkm (hu:X.A.units+64<cLine):MtM X "list.index" wwt:=by
 intro pins s σ H x vs v us Q I rx rv h
 obtain ⟨l,b,ys,ps,q,j,rfl,rfl,hl,hp,hb,hj,hno,hn,k⟩:=h
 cases rx
 obtain ⟨u,rfl,ru⟩:=rv.one
 cases ru
 obtain ⟨z,its,n,r,hl',e⟩:=I.lstM hl
 have hlen:=r.length
 have hpl:=b7 hp
 have hjl:j<its.length:=by have:=(aL.mp hj).1;lia
 refine call_meets F.slot_list_index ⟨_,e,rfl⟩ F.entry_list_index (F.args_list_index_2 _ _) (SeqAt.list_indexAt l its.toArray n none #[] (.ref b) (qqv H q) j (by simpa using hjl) (by lia) ?_ ?_) ⟨e,λy hy=>?_,?_⟩
 ·have:=qvz (H:=H) (q:=q) hp r hjl
  rw [hj,bn rfl] at this
  simpa using this
 ·intro m hm hmj
  have hm':m<its.length:=by simpa using hm
  have:=qvz (H:=H) (q:=q) hp r hm'
  rw [aX (hno m hmj)] at this
  simpa using this
 ·exact Wz I (by show X.A.units+1<cLine;lia) hb hp r y (by simpa using hy)
 ·exact ⟨.int _,H,I.tok _,⟨_,rfl⟩,k⟩
end
end L2
namespace L2
open PySem PySem.Spec PyProof.Rows
theorem qxx {K:Aa}{M:List Nat}{a:Aj}{xs:List V}{te:TE}{σ:St}{H:Hp}{Q:VK}(G:Nat→V→Hp→Prop)(gs:qu3 G)(hS:SqL K H a xs)(hn:xs.length≤1000000)
  (he:∀(i:Nat) (x:V) (H':Hp) (R:VK),xs[i]?=some x→Same H H'→(∀v H'',Same H' H''→G i v H''→R v H'')→te (vh M σ (some x)) H' R)
  (k:∀p ys H',H p=none→Same H H'→H' p=some (.lst ys)→ys.length=xs.length→(∀j v,ys[j]?=some v→G j v H')→Q (.ref p) H'):Qk (Itl K a) M te σ H Q:=by
 intro p np
 have big:(1000000:Nat)<sizeLine:=by decide
 refine ⟨λi m ys H2=>i≤xs.length∧m=xs.length-i∧ys.length=i∧Same H H2∧H2 p=some (.lst ys)∧∀j v,ys[j]?=some v→G j v H2,⟨xs.length,ba _,rfl,rfl,Same.upd np,qm,λj v e=>by cases e⟩,?_⟩
 rintro i m ys H2 ⟨hi,rfl,hl,sm,hp,hG⟩
 have hS':SqL K H2 a xs:=Same.sql sm hS
 refine ⟨hp,by lia,?_⟩
 by_cases hlt:i<xs.length
 ·have hx:xs[i]?=some xs[i]:=ag hlt
  refine .inr ⟨⟨xs,_,hS',hx⟩,?_⟩
  rintro v H3 ⟨rfl,hv⟩
  have e0:=hv xs hS'
  rw [hx] at e0
  have e':=aj e0
  subst e'
  clear e0
  refine he i _ _ _ hx sm λw H4 s4 g4=>?_
  have hp4:=s4 _ _ hp
  have st:∀b o,(∀xs,o≠.lst xs)→H4 b=some o→upd H4 p (.lst (ys++[w])) b=some o:=λb o no e=>by
   rw [wb]
   ·exact e
   ·intro z
    rw [z,hp4] at e
    exact no _ (aj e).symm
  refine ⟨hp4,xs.length-(i+1),by lia,by lia,rfl,by rw [ar,hl];rfl,λb o e=>?_,qm,λj v e=>?_⟩
  ·rw [wb (wu e np)]
   exact s4 _ _ (sm _ _ e)
  ·rcases br j ys.length with z|z
   ·rw [aM z] at e
    exact gs j v _ _ (hG j v e) λb o no e=>st b o no (s4 _ _ e)
   ·rw [aH z] at e
    have hj:j=i:=by
     rcases br (j-ys.length) 1 with y|y
     ·lia
     ·rw [bj (by simpa using y)] at e
      cases e
    subst hj
    rw [show j-ys.length=0 by lia] at e
    cases e
    exact gs j _ _ _ g4 st
 ·have:i=xs.length:=by lia
  subst this
  exact .inl ⟨⟨xs,hS',al _⟩,k p ys H2 np sm hp hl hG⟩
end L2
namespace My
open PySem L2
def top (i:Nat):Stmt:=PySem.Challenge.pw_crookroad_k64_whole_made_roads_asked_fur.main.body.getD i (.Pass ⟨0,0,0,0⟩)
abbrev s_check_count:Stmt:=top 10
theorem W6:FnScope ["number","fewest","most"] ["number","fewest","most"] (q9 s_check_count):=⟨rfl,rfl,rfl,by decide +kernel,rfl,by decide +kernel,by decide +kernel⟩
theorem Q6:yt "check_count" s_check_count ["number","fewest","most"] []:=λ_ _ _ _ _ _ _ us hl=>match us,hl with | [_,_,_],_=>exI rfl rfl
theorem Wh:yt "check_count" s_check_count ["number","fewest","most"] [.none]:=λ_ _ _ _ _ _ _ us hl=>by
 have h2:us.length=2:=by simpa using hl
 match us,h2 with
 |[_,_],_=>exact exI rfl rfl
abbrev s_trace:Stmt:=top 14
theorem qu9:FnScope ["road","start","places","here"] ["road","start"] (q9 s_trace):=⟨rfl,rfl,rfl,by decide +kernel,rfl,by decide +kernel,by decide +kernel⟩
theorem qyh:xz "trace" s_trace ["road","start"]:=λ_ _ _ _ _ _ us hl=>match us,hl with | [_,_],_=>rfl
abbrev s_spot:Stmt:=top 15
theorem wwq:FnScope ["points","turn","many"] ["points","turn","many"] (q9 s_spot):=⟨rfl,rfl,rfl,by decide +kernel,rfl,by decide +kernel,by decide +kernel⟩
theorem ww1:xz "spot" s_spot ["points","turn","many"]:=λ_ _ _ _ _ _ us hl=>match us,hl with | [_,_,_],_=>rfl
abbrev s_led_to:Stmt:=top 16
theorem qk5:FnScope ["place","turn","size","many","times"] ["place","turn","size","many"] (q9 s_led_to):=⟨rfl,rfl,rfl,by decide +kernel,rfl,by decide +kernel,by decide +kernel⟩
theorem qkv:xz "led_to" s_led_to ["place","turn","size","many"]:=λ_ _ _ _ _ _ us hl=>match us,hl with | [_,_,_,_],_=>rfl
abbrev s_stands:Stmt:=top 17
theorem qjk:FnScope ["road","point","many","other","here","sought","points","turn"] ["road","point","many","other"] (q9 s_stands):=⟨rfl,rfl,rfl,by decide +kernel,rfl,by decide +kernel,by decide +kernel⟩
theorem qk6:xz "stands" s_stands ["road","point","many","other"]:=λ_ _ _ _ _ _ us hl=>match us,hl with | [_,_,_,_],_=>rfl
abbrev s_meeting:Stmt:=top 18
theorem qxu:FnScope ["road","one","other","here","there","points","turn","others","other_turn","many"] ["road","one","other"] (q9 s_meeting):=⟨rfl,rfl,rfl,by decide +kernel,rfl,by decide +kernel,by decide +kernel⟩
theorem qw9:xz "meeting" s_meeting ["road","one","other"]:=λ_ _ _ _ _ _ us hl=>match us,hl with | [_,_,_],_=>rfl
abbrev s_check_bottom:Stmt:=top 20
theorem Qn:FnScope ["bottom"] ["bottom"] (q9 s_check_bottom):=⟨rfl,rfl,rfl,by decide +kernel,rfl,by decide +kernel,by decide +kernel⟩
theorem Qb:xz "check_bottom" s_check_bottom ["bottom"]:=λ_ _ _ _ _ _ us hl=>match us,hl with | [_],_=>rfl
abbrev s_common_divisor:Stmt:=top 21
theorem uw:FnScope ["one","other"] ["one","other"] (q9 s_common_divisor):=⟨rfl,rfl,rfl,by decide +kernel,rfl,by decide +kernel,by decide +kernel⟩
theorem uz:xz "common_divisor" s_common_divisor ["one","other"]:=λ_ _ _ _ _ _ us hl=>match us,hl with | [_,_],_=>rfl
abbrev s_lowest:Stmt:=top 22
theorem qk9:FnScope ["top","bottom","divisor"] ["top","bottom"] (q9 s_lowest):=⟨rfl,rfl,rfl,by decide +kernel,rfl,by decide +kernel,by decide +kernel⟩
theorem qv4:xz "lowest" s_lowest ["top","bottom"]:=λ_ _ _ _ _ _ us hl=>match us,hl with | [_,_],_=>rfl
abbrev s_is_line:Stmt:=top 25
theorem qxm:FnScope ["heights","width"] ["heights"] (q9 s_is_line):=⟨rfl,rfl,rfl,by decide +kernel,rfl,by decide +kernel,by decide +kernel⟩
theorem qxz:xz "is_line" s_is_line ["heights"]:=λ_ _ _ _ _ _ us hl=>match us,hl with | [_],_=>rfl
abbrev s_Road___init__:Stmt:=k7 (top 26) 0
theorem ud:FnScope ["self","heights"] ["self","heights"] (q9 s_Road___init__):=⟨rfl,rfl,rfl,by decide +kernel,rfl,by decide +kernel,by decide +kernel⟩
theorem ug:z9 "__init__" "Road.__init__" s_Road___init__ ["self","heights"]:=λ_ _ _ _ _ _ us hl=>match us,hl with | [_,_],_=>rfl
abbrev s_Road_width:Stmt:=k7 (top 26) 1
theorem Zx:FnScope ["self"] ["self"] (q9 s_Road_width):=⟨rfl,rfl,rfl,by decide +kernel,rfl,by decide +kernel,by decide +kernel⟩
theorem Zs:z9 "width" "Road.width" s_Road_width ["self"]:=λ_ _ _ _ _ _ us hl=>match us,hl with | [_],_=>rfl
abbrev s_Road_corners:Stmt:=k7 (top 26) 2
theorem Qf:FnScope ["self"] ["self"] (q9 s_Road_corners):=⟨rfl,rfl,rfl,by decide +kernel,rfl,by decide +kernel,by decide +kernel⟩
theorem Qg:z9 "corners" "Road.corners" s_Road_corners ["self"]:=λ_ _ _ _ _ _ us hl=>match us,hl with | [_],_=>rfl
abbrev s_Road_ends:Stmt:=k7 (top 26) 3
theorem qqy:FnScope ["self","stretch"] ["self","stretch"] (q9 s_Road_ends):=⟨rfl,rfl,rfl,by decide +kernel,rfl,by decide +kernel,by decide +kernel⟩
theorem qqz:z9 "ends" "Road.ends" s_Road_ends ["self","stretch"]:=λ_ _ _ _ _ _ us hl=>match us,hl with | [_,_],_=>rfl
abbrev s_Road_slope:Stmt:=k7 (top 26) 4
theorem Zp:FnScope ["self","stretch","left","right"] ["self","stretch"] (q9 s_Road_slope):=⟨rfl,rfl,rfl,by decide +kernel,rfl,by decide +kernel,by decide +kernel⟩
theorem Zv:z9 "slope" "Road.slope" s_Road_slope ["self","stretch"]:=λ_ _ _ _ _ _ us hl=>match us,hl with | [_,_],_=>rfl
abbrev s_Road_on_road:Stmt:=k7 (top 26) 6
theorem Qs:FnScope ["self","point","top","bottom"] ["self","point"] (q9 s_Road_on_road):=⟨rfl,rfl,rfl,by decide +kernel,rfl,by decide +kernel,by decide +kernel⟩
theorem Qm:z9 "on_road" "Road.on_road" s_Road_on_road ["self","point"]:=λ_ _ _ _ _ _ us hl=>match us,hl with | [_,_],_=>rfl
abbrev s_Road_at:Stmt:=k7 (top 26) 7
theorem qxy:FnScope ["self","point","top","bottom","stretch","left","right","beyond"] ["self","point"] (q9 s_Road_at):=⟨rfl,rfl,rfl,by decide +kernel,rfl,by decide +kernel,by decide +kernel⟩
theorem qx0:z9 "at" "Road.at" s_Road_at ["self","point"]:=λ_ _ _ _ _ _ us hl=>match us,hl with | [_,_],_=>rfl
abbrev s_finer:Stmt:=top 28
theorem qj4:FnScope ["road","many","heights"] ["road","many"] (q9 s_finer):=⟨rfl,rfl,rfl,by decide +kernel,rfl,by decide +kernel,by decide +kernel⟩
theorem qup:xz "finer" s_finer ["road","many"]:=λ_ _ _ _ _ _ us hl=>match us,hl with | [_,_],_=>rfl
abbrev s_doubled:Stmt:=top 29
theorem qxd:FnScope ["road","width"] ["road"] (q9 s_doubled):=⟨rfl,rfl,rfl,by decide +kernel,rfl,by decide +kernel,by decide +kernel⟩
theorem qxs:xz "doubled" s_doubled ["road"]:=λ_ _ _ _ _ _ us hl=>match us,hl with | [_],_=>rfl
abbrev s_beside:Stmt:=top 30
theorem qjj:FnScope ["road","other","beyond"] ["road","other"] (q9 s_beside):=⟨rfl,rfl,rfl,by decide +kernel,rfl,by decide +kernel,by decide +kernel⟩
theorem qjd:xz "beside" s_beside ["road","other"]:=λ_ _ _ _ _ _ us hl=>match us,hl with | [_,_],_=>rfl
abbrev s_between:Stmt:=top 34
theorem qzq:FnScope ["left","right","part","many","top"] ["left","right","part","many"] (q9 s_between):=⟨rfl,rfl,rfl,by decide +kernel,rfl,by decide +kernel,by decide +kernel⟩
theorem qxj:xz "between" s_between ["left","right","part","many"]:=λ_ _ _ _ _ _ us hl=>match us,hl with | [_,_,_,_],_=>rfl
abbrev s_parted:Stmt:=top 35
theorem qv7:FnScope ["left","right","start","low","end","high","many","step","put"] ["left","right"] (q9 s_parted):=⟨rfl,rfl,rfl,by decide +kernel,rfl,by decide +kernel,by decide +kernel⟩
theorem qvm:xz "parted" s_parted ["left","right"]:=λ_ _ _ _ _ _ us hl=>match us,hl with | [_,_],_=>rfl
abbrev s_with_whole_heights:Stmt:=top 36
theorem jv:FnScope ["line","put","left","right"] ["line"] (q9 s_with_whole_heights):=⟨rfl,rfl,rfl,by decide +kernel,rfl,by decide +kernel,by decide +kernel⟩
theorem jk:xz "with_whole_heights" s_with_whole_heights ["line"]:=λ_ _ _ _ _ _ us hl=>match us,hl with | [_],_=>rfl
abbrev s_laid:Stmt:=top 37
theorem wxj:FnScope ["road","many","heights","line","taken"] ["road","many"] (q9 s_laid):=⟨rfl,rfl,rfl,by decide +kernel,rfl,by decide +kernel,by decide +kernel⟩
theorem ww7:xz "laid" s_laid ["road","many"]:=λ_ _ _ _ _ _ us hl=>match us,hl with | [_,_],_=>rfl
abbrev s_way:Stmt:=top 38
theorem sc_way:FnScope ["left","right"] ["left","right"] (q9 s_way):=⟨rfl,rfl,rfl,by decide +kernel,rfl,by decide +kernel,by decide +kernel⟩
theorem bd_way:xz "way" s_way ["left","right"]:=λ_ _ _ _ _ _ us hl=>match us,hl with | [_,_],_=>rfl
abbrev s_laps:Stmt:=top 39
theorem ww3:FnScope ["road","many","line","turns"] ["road","many"] (q9 s_laps):=⟨rfl,rfl,rfl,by decide +kernel,rfl,by decide +kernel,by decide +kernel⟩
theorem wwh:xz "laps" s_laps ["road","many"]:=λ_ _ _ _ _ _ us hl=>match us,hl with | [_,_],_=>rfl
abbrev s__law_cell:Stmt:=top 41
theorem Jf:FnScope ["_law_script","_law_at"] ["_law_script","_law_at"] (q9 s__law_cell):=⟨rfl,rfl,rfl,by decide +kernel,rfl,by decide +kernel,by decide +kernel⟩
theorem qqf:xz "_law_cell" s__law_cell ["_law_script","_law_at"]:=λ_ _ _ _ _ _ us hl=>match us,hl with | [_,_],_=>rfl
abbrev s__law_pick:Stmt:=top 42
theorem Yp:FnScope ["_law_script","_law_at","_law_turn","_law_many","_law_cell_here","_law_left","_law_k","_law_low","_law_one","_law_two"] ["_law_script","_law_at","_law_turn","_law_many"] (q9 s__law_pick):=⟨rfl,rfl,rfl,by decide +kernel,rfl,by decide +kernel,by decide +kernel⟩
theorem Jh:xz "_law_pick" s__law_pick ["_law_script","_law_at","_law_turn","_law_many"]:=λ_ _ _ _ _ _ us hl=>match us,hl with | [_,_,_,_],_=>rfl
abbrev s__law_climb:Stmt:=top 43
theorem Zn:FnScope ["_law_script","_law_at","_law_wide","_law_row","_law_k"] ["_law_script","_law_at","_law_wide"] (q9 s__law_climb):=⟨rfl,rfl,rfl,by decide +kernel,rfl,by decide +kernel,by decide +kernel⟩
theorem Zh:xz "_law_climb" s__law_climb ["_law_script","_law_at","_law_wide"]:=λ_ _ _ _ _ _ us hl=>match us,hl with | [_,_,_],_=>rfl
abbrev s__law_heights:Stmt:=top 44
theorem Qu:FnScope ["_law_script","_law_at","_law_most","_law_wide","_law_kind"] ["_law_script","_law_at","_law_most"] (q9 s__law_heights):=⟨rfl,rfl,rfl,by decide +kernel,rfl,by decide +kernel,by decide +kernel⟩
theorem Qt:xz "_law_heights" s__law_heights ["_law_script","_law_at","_law_most"]:=λ_ _ _ _ _ _ us hl=>match us,hl with | [_,_,_],_=>rfl
abbrev s__law_whole:Stmt:=top 45
theorem Zr:FnScope ["_law_found"] ["_law_found"] (q9 s__law_whole):=⟨rfl,rfl,rfl,by decide +kernel,rfl,by decide +kernel,by decide +kernel⟩
theorem Zb:xz "_law_whole" s__law_whole ["_law_found"]:=λ_ _ _ _ _ _ us hl=>match us,hl with | [_],_=>rfl
abbrev s__law_spot:Stmt:=top 46
theorem Jv:FnScope ["_law_script","_law_at","_law_wide","_law_most","_law_bottom","_law_top","_law_by"] ["_law_script","_law_at","_law_wide","_law_most"] (q9 s__law_spot):=⟨rfl,rfl,rfl,by decide +kernel,rfl,by decide +kernel,by decide +kernel⟩
theorem Jk:xz "_law_spot" s__law_spot ["_law_script","_law_at","_law_wide","_law_most"]:=λ_ _ _ _ _ _ us hl=>match us,hl with | [_,_,_,_],_=>rfl
abbrev s__law_moved:Stmt:=top 47
theorem Zy:FnScope ["_law_point","_law_by","_law_on"] ["_law_point","_law_by","_law_on"] (q9 s__law_moved):=⟨rfl,rfl,rfl,by decide +kernel,rfl,by decide +kernel,by decide +kernel⟩
theorem Zc:xz "_law_moved" s__law_moved ["_law_point","_law_by","_law_on"]:=λ_ _ _ _ _ _ us hl=>match us,hl with | [_,_,_],_=>rfl
abbrev s__law_alike:Stmt:=top 48
theorem Zw:FnScope ["_law_found","_law_due"] ["_law_found","_law_due"] (q9 s__law_alike):=⟨rfl,rfl,rfl,by decide +kernel,rfl,by decide +kernel,by decide +kernel⟩
theorem Zf:xz "_law_alike" s__law_alike ["_law_found","_law_due"]:=λ_ _ _ _ _ _ us hl=>match us,hl with | [_,_],_=>rfl
abbrev s__law_finer_alike:Stmt:=top 49
theorem j6:FnScope ["_law_road","_law_by","_law_points","_law_steps","_law_fine","_law_one","_law_other"] ["_law_road","_law_by","_law_points","_law_steps"] (q9 s__law_finer_alike):=⟨rfl,rfl,rfl,by decide +kernel,rfl,by decide +kernel,by decide +kernel⟩
theorem j7:xz "_law_finer_alike" s__law_finer_alike ["_law_road","_law_by","_law_points","_law_steps"]:=λ_ _ _ _ _ _ us hl=>match us,hl with | [_,_,_,_],_=>rfl
abbrev s__law_doubled_alike:Stmt:=top 50
theorem jz:FnScope ["_law_road","_law_points","_law_steps","_law_made","_law_due"] ["_law_road","_law_points","_law_steps"] (q9 s__law_doubled_alike):=⟨rfl,rfl,rfl,by decide +kernel,rfl,by decide +kernel,by decide +kernel⟩
theorem jw:xz "_law_doubled_alike" s__law_doubled_alike ["_law_road","_law_points","_law_steps"]:=λ_ _ _ _ _ _ us hl=>match us,hl with | [_,_,_],_=>rfl
abbrev s__law_beside_alike:Stmt:=top 51
theorem jy:FnScope ["_law_road","_law_other","_law_points","_law_spots","_law_steps","_law_made","_law_on","_law_right"] ["_law_road","_law_other","_law_points","_law_spots","_law_steps"] (q9 s__law_beside_alike):=⟨rfl,rfl,rfl,by decide +kernel,rfl,by decide +kernel,by decide +kernel⟩
theorem jd:xz "_law_beside_alike" s__law_beside_alike ["_law_road","_law_other","_law_points","_law_spots","_law_steps"]:=λ_ _ _ _ _ _ us hl=>match us,hl with | [_,_,_,_,_],_=>rfl
abbrev s_law:Stmt:=top 52
theorem sc_law:FnScope ["_law_script","_law_heights_here","_law_others","_law_road","_law_other","_law_points","_law_spots","_law_by","_law_steps","_law_first"] ["_law_script"] (q9 s_law):=⟨rfl,rfl,rfl,by decide +kernel,rfl,by decide +kernel,by decide +kernel⟩
local macro_rules | `(tactic| walk_at "sq")=>`(tactic| first | assumption | exact SqT.new | exact SqL.new | ((with_reducible refine Same.sqt (Same.upd (by assumption)) ?_);walk_at "sq") | ((with_reducible refine Same.sql (Same.upd (by assumption)) ?_);walk_at "sq"))
local macro_rules | `(tactic| walk_at "at")=>`(tactic| first | rfl | exact yh (by lia) (by lia))
local macro_rules | `(tactic| walk_at "mul")=>`(tactic| first | assumption | exact IntMulOk.of_left (intBits_le_64 (by lia) (by lia)) | exact IntMulOk.of_right (intBits_le_64 (by lia) (by lia)) | exact Sm.ok (by assumption) (by assumption) (by decide))
local macro_rules | `(tactic| walk_at "pos")=>`(tactic| first | lia | decide +kernel)
local macro_rules | `(tactic| walk_at "div")=>`(tactic| exact ⟨by first | lia | decide +kernel,by unfold Sm;decide +kernel⟩)
local macro_rules | `(tactic| walk_at "loc")=>`(tactic| first | exact Or.inl rfl | exact Or.inr rfl)
local macro_rules | `(tactic| walk_at "cap")=>`(tactic| repeat (first | exact trivial | refine ⟨rfl,?_⟩))
local macro_rules | `(tactic| walk_at "has")=>`(tactic| repeat (first | exact trivial | (refine ⟨λz=>?_,by decide,?_⟩;(first | exact ⟨_,rfl⟩ | cases z))))
local macro_rules | `(tactic| walk_at "cix")=>`(tactic| repeat (first | exact trivial | refine ⟨⟨_,_,rfl,rfl,rfl,rfl⟩,?_⟩))
local macro_rules | `(tactic| walk_at "hasK")=>`(tactic| repeat (first | exact trivial | (refine ⟨λz=>?_,λz=>?_,?_⟩;(first | exact ⟨_,rfl⟩ | cases z);(first | rfl | cases z))))
structure Txt (K:Aa)(mg:Str→Option Ag)(qd:Aj)(qy:Aj)(qh:Aj)(qt:Aj)(qc:Aj)(qg:Aj)(qv:Aj):Prop where
 len_:mg "len" = none
 abs_:mg "abs" = none
 range_:mg "range" = none
 isinstance_:mg "isinstance" = none
 int_:mg "int" = none
 bool_:mg "bool" = none
 list_:mg "list" = none
 tuple_:mg "tuple" = none
 min_:mg "min" = none
 max_:mg "max" = none
 sum_:mg "sum" = none
 zip_:mg "zip" = none
 enumerate_:mg "enumerate" = none
 all_:mg "all" = none
 g_BadLine:mg "BadLine" = some (.ref qd)
 x_BadLine:ExcC K qd
 g_BadBottom:mg "BadBottom" = some (.ref qy)
 x_BadBottom:ExcC K qy
 g_OffRoad:mg "OffRoad" = some (.ref qh)
 x_OffRoad:ExcC K qh
 g_BadRow:mg "BadRow" = some (.ref qt)
 x_BadRow:ExcC K qt
 g_BadCount:mg "BadCount" = some (.ref qc)
 x_BadCount:ExcC K qc
 g_TooLong:mg "TooLong" = some (.ref qg)
 x_TooLong:ExcC K qg
 cl:Cls K qv
 na:NoAttr K qv "heights"
 g_WIDEST:∃t,mg "WIDEST" = some (.int 24 t)
 g_Road:mg "Road" = some (.ref qv)
 g_LONGEST_TRACE:∃t,mg "LONGEST_TRACE" = some (.int 1000 t)
 g_FARTHEST:∃t,mg "FARTHEST" = some (.int 1000000000000000000000000000000000000000000000000000000000000 t)
 g_MOST_TAKEN:∃t,mg "MOST_TAKEN" = some (.int 12 t)
 g_MOST_CORNERS:∃t,mg "MOST_CORNERS" = some (.int 1000 t)
section
variable {P:Ac}{w:Ah}{K:Aa}{mg:Str→Option Ag}{base:Heap}{qd:Aj}{qy:Aj}{qh:Aj}{qt:Aj}{qc:Aj}{qg:Aj}{qv:Aj}
def Jt (C:Aj):Sp:=λvs H Q E=>∃b:Int,vs=[.int b]∧(1≤b→Q .non H)∧(b<1→E (.ref C) none H)
theorem qy9 {f:Aj}{fd:Ad}(F:Fun K "check_bottom" "check_bottom" s_check_bottom f fd)(T:Txt K mg qd qy qh qt qc qg qv):FnOk P w K mg base (CXE P w) 1 f fd ["bottom"] (Jt qy):=by
 have sc:=Qn
 refine F.okX sc (λvs H Q E h=>by obtain ⟨b,rfl,_⟩:=h;rfl) (λcdv A outer s H vs Q E hr h=>?_)
 obtain ⟨b,rfl,h1,h2⟩:=h
 refine ⟨_,(qp (xk (wf yq (pv 0) qz (wn _)) (qp (zr rfl T.x_BadBottom x8 rfl T.g_BadBottom (qw jb qj))) wm)),?_⟩
 refine exI rfl (wz rfl rfl (exI rfl ?_))
 refine zf (λq1=>?_) (λq1=>?_)
 ·exact ⟨by decide,h2 q1⟩
 ·exact h1 (by lia)
theorem wwx {f:Aj}{fd:Ad}(F:Fun K "_law_cell" "_law_cell" s__law_cell f fd)(T:Txt K mg qd qy qh qt qc qg qv):FnOk P w K mg base (CXE P w) 1 f fd ["_law_script","_law_at"] (qqq K):=by
 have sc:=Jf
 refine F.okX sc (λvs H Q E h=>by obtain ⟨a,ns,i,rfl,_⟩:=h;rfl) (λcdv A outer s H vs Q E hr h=>?_)
 obtain ⟨a,ns,i,rfl,hS,h0,k⟩:=h
 have hlen:(ns.map V.int).length=ns.length:=ac _
 refine ⟨_,(qu (xk (wf yq (pv 1) (w6 xx rfl T.len_ aY (qw (pv 0) qj)) (wn _)) (qp (wv (wc wx (pv 0) (pv 1) (λ_ _=>rfl)))) wm)
   (qu (xk (wf jq (w6 xx rfl T.len_ aY (qw (pv 0) qj)) qz (wn _)) (qp (wv (q8 wp (q8 w5 qz (pv 1)) qz))) wm)
   (qp (wv (q8 wp (wc wx (pv 0) (q8 zj (pv 1) (w6 xx rfl T.len_ aY (qw (pv 0) qj))) (λ_ _=>rfl)) (q8 w5 qz (pv 1))))))),?_⟩
 refine exI rfl (exI rfl ⟨_,_,rfl,.inl hS,wz rfl rfl (exI rfl ?_)⟩)
 refine zf (λq1=>?_) (λq1=>?_)
 ·rw [hlen] at q1
  refine exI rfl (exI rfl (exX rfl rfl hS (yh h0 q1) ?_))
  exact k _ (by rw [qwq,au q1])
 ·rw [hlen] at q1
  refine exI rfl ⟨_,_,rfl,.inl hS,rfl,_,rfl,?_⟩
  rw [hlen]
  refine k9 (λq2=>?_) (λq2=>?_)
  ·refine exI rfl (wz rfl rfl ⟨(by walk_at "mul"),wz rfl rfl ?_⟩)
   exact k _ (by rw [qwq,am q1,au q2])
  ·refine exI rfl (exI rfl (exI rfl ⟨_,_,rfl,.inl hS,wz rfl rfl ⟨(by rw [hlen];lia),?_⟩⟩))
   rw [hlen]
   refine exX rfl rfl hS (yh (aQ _ q2) (aJ _ (by lia))) (exI rfl (wz rfl rfl ⟨(by walk_at "mul"),wz rfl rfl ?_⟩))
   exact k _ (by rw [qwq,am q1,am q2])
theorem wq6 {f:Aj}{fd:Ad}(F:Fun K "_law_pick" "_law_pick" s__law_pick f fd)(T:Txt K mg qd qy qh qt qc qg qv)(c__law_cell:Cal P w K mg base "_law_cell" 1 (qqq K)):FnOk P w K mg base (CXE P w) 2 f fd ["_law_script","_law_at","_law_turn","_law_many"] (yz K):=by
 have sc:=Yp
 refine F.okX sc (λvs H Q E h=>by obtain ⟨a,ns,i,t,m,rfl,_⟩:=h;rfl) (λcdv A outer s H vs Q E hr h=>?_)
 obtain ⟨a,ns,i,t,m,rfl,hS,h0,t0,t1,m0,k⟩:=h
 refine ⟨_,(qu (wj (i:=4) sc.nd rfl (by walk_at "loc") (qf c__law_cell (hr.mono (by decide)) rfl qk (qw (pv 0) (qw (pv 1) qj))))
   (qu (xk (wf quf (w6 y3 rfl T.abs_ y9 (qw (pv 4) qj)) (q8 qyx qz qz) (wn _)) (qu (wj (i:=5) sc.nd rfl (by walk_at "loc") (w6 y3 rfl T.abs_ y9 (qw (pv 4) qj)))
   (qu (Wp bC rfl (xr rfl T.range_ (qw (pv 2) qj)) (wt (i:=6) sc.nd rfl (by walk_at "loc")) (qp (wj (i:=5) sc.nd rfl (by walk_at "loc") (q8 v5 (pv 5) qz))))
   (qu (xk (wf yq (pv 4) qz (wn _)) (qp (wj (i:=5) sc.nd rfl (by walk_at "loc") (q8 zj (pv 5) qz))) wm)
   (qp (wv (q8 zj (pv 5) (pv 3))))))) wm)
   (qu (wj (i:=7) sc.nd rfl (by walk_at "loc") (q8 zj (pv 4) qz))
   (qu (wj (i:=8) sc.nd rfl (by walk_at "loc") (q8 zj (q8 wp (q8 wp (q8 w5 (pv 7) qz) (q8 w5 (pv 2) qz)) qz) qz))
   (qu (wj (i:=9) sc.nd rfl (by walk_at "loc") (q8 zj (q8 wp (q8 wp (q8 w5 (pv 8) (pv 8)) (q8 w5 (pv 7) qz)) (q8 w5 (pv 2) qz)) qz))
   (qp (wv (q8 zj (q8 zj (q8 wp (q8 wp (q8 w5 (pv 9) (pv 9)) (q8 w5 (pv 8) qz)) (q8 w5 (pv 2) qz)) qz) (pv 3))))))))),?_⟩
 refine exI rfl (exI rfl ?_)
 refine ⟨a,ns,i,rfl,hS,h0,λc hc=>?_⟩
 have fin:∀v,v=qwr c t%m→Q (.int v) H:=λv hv=>by
  refine k v (by rw [hv,qw2,hc]) ?_ ?_
  ·rw [hv];exact aQ _ (by lia)
  ·rw [hv];exact aJ _ m0
 refine exI rfl (exI rfl (wz rfl rfl ⟨⟨by decide,by decide,by decide⟩,wz rfl rfl (exI rfl ?_)⟩))
 refine zf (λq1=>?_) (λq1=>?_)
 ·have q1':10 ^ 18≤jr c:=q1
  refine exI rfl (exI rfl ?_)
  refine exI rfl ⟨t,rfl,(by lia),(by lia),jt (λj σ H1=>H1=H∧∃z,σ=[some (.ref a),some (.int i),some (.int t),some (.int m),some (.int c),some (.int (divs (jr c) j)),z,none,none,none]) ⟨rfl,_,rfl⟩ ?_ ?_⟩
  ·rintro j σ H1 hj ⟨rfl,z,rfl⟩
   exact exI rfl (wz rfl rfl ⟨(by walk_at "div"),rfl,_,rfl⟩)
  ·rintro σ H1 ⟨rfl,z,rfl⟩
   refine exI rfl (wz rfl rfl (exI rfl ?_))
   refine zf (λq2=>?_) (λq2=>?_)
   ·refine exI rfl (wz rfl rfl ⟨(by walk_at "pos"),exI rfl (exI rfl (wz rfl rfl ⟨(by walk_at "pos"),?_⟩))⟩)
    exact fin _ (by rw [qj9 q1' q2])
   ·refine exI rfl (exI rfl (wz rfl rfl ⟨(by walk_at "pos"),?_⟩))
    exact fin _ (by rw [qju q1' q2])
 ·have q1':¬ 10 ^ 18≤jr c:=q1
  have l0:=aQ c (show (1000003:Int)≠0 by decide)
  have l1:=aJ c (show (0:Int)<1000003 by decide)
  refine exI rfl (wz rfl rfl ⟨(by walk_at "pos"),exI rfl (wz rfl rfl ⟨(by walk_at "mul"),exI rfl (wz rfl rfl ⟨(by walk_at "mul"),wz rfl rfl (wz rfl rfl (wz rfl rfl ⟨(by walk_at "pos"),?_⟩))⟩)⟩)⟩)
  have o0:0≤qqh c t:=aQ _ (by decide)
  have o1:qqh c t<999983:=aJ _ (by decide)
  refine ⟨V.int (qqh c t),rfl,V.int (qqh c t),rfl,wz rfl rfl ⟨(by walk_at "mul"),exI rfl (wz rfl rfl ⟨(by walk_at "mul"),wz rfl rfl (exI rfl (wz rfl rfl ⟨(by walk_at "mul"),wz rfl rfl (wz rfl rfl ⟨(by walk_at "pos"),?_⟩)⟩))⟩)⟩⟩
  have w0:0≤qwc c t:=aQ _ (by decide)
  have w1:qwc c t<1000033:=aJ _ (by decide)
  refine ⟨V.int (qwc c t),rfl,V.int (qwc c t),rfl,wz rfl rfl ⟨(by walk_at "mul"),V.int (qqh c t),rfl,wz rfl rfl ⟨(by walk_at "mul"),wz rfl rfl (exI rfl (wz rfl rfl ⟨(by walk_at "mul"),wz rfl rfl (wz rfl rfl ⟨(by walk_at "pos"),exI rfl (wz rfl rfl ⟨(by walk_at "pos"),?_⟩)⟩)⟩))⟩⟩⟩
  exact fin _ (by rw [qj5 q1'])
def Within (n f:Int)(m:Option Int):Prop:=f≤n∧∀b,m=some b→n≤b
def yd (C:Aj):Sp:=λvs H Q E=>∃(n f:Int) (m:V) (o:Option Int),vs=[.int n,.int f,m]∧(m=.non∧o=none∨∃b,m=.int b∧o=some b)∧(Within n f o→Q .non H)∧(¬ Within n f o→E (.ref C) none H)
theorem qyk {f:Aj}{fd:Ad}(F:FunD K "check_count" s_check_count f fd)(T:Txt K mg qd qy qh qt qc qg qv):FnOk P w K mg base (CXE P w) 1 f fd ["number","fewest","most"] (yd qc):=by
 have sc:=W6
 refine F.okX sc (λvs H Q E h=>by obtain ⟨n,f,m,o,rfl,_⟩:=h;rfl) (λcdv A outer s H vs Q E hr h=>?_)
 obtain ⟨n,fe,m,o,rfl,hm,k,x⟩:=h
 refine ⟨_,(qp (xk (PW.pt (Yj (wf yq (pv 0) (pv 1) (wn _)) (uy (PW.pt (qug (wf qvw (pv 2) yj (wn _)) (qzt (wf yw (pv 0) (pv 2) (wn _)))))))) (qp (zr rfl T.x_BadCount x8 rfl T.g_BadCount (qw jb qj))) wm)),?_⟩
 refine exI rfl (exI rfl (wz rfl rfl (exI rfl ?_)))
 refine zf (λq1=>?_) (λq1=>?_)
 ·refine y6 ?_
  exact ⟨sz1,x (λz=>by have:=z.1;lia)⟩
 ·rcases hm with ⟨rfl,rfl⟩|⟨b,rfl,rfl⟩
  ·refine exI rfl ⟨rfl,_,rfl,?_⟩
   refine kn ?_
   exact k ⟨by lia,λb e=>nomatch e⟩
  ·refine exI rfl ⟨rfl,_,rfl,?_⟩
   refine y6 ?_
   refine exI rfl (exI rfl (wz rfl rfl (exI rfl ?_)))
   refine zf (λq2=>?_) (λq2=>?_)
   ·exact ⟨sz1,x (λz=>by have:=z.2 b rfl;lia)⟩
   ·exact k ⟨by lia,λb' e=>by cases e;lia⟩
def ww (ns:List Int):Prop:=2≤ns.length∧ns.length≤25∧∀h∈ns,0≤h∧h≤(ns.length:Int)-1
def W8 (K:Aa):Sp:=λvs H Q _=>∃(p:Aj) (ns:List Int),vs=[.ref p]∧SqL K H p (ns.map V.int)∧(ww ns→Q (.bl true) H)∧(¬ ww ns→Q (.bl false) H)
theorem qxh {f:Aj}{fd:Ad}(F:Fun K "is_line" "is_line" s_is_line f fd)(T:Txt K mg qd qy qh qt qc qg qv):FnOk P w K mg base (CXE P w) 1 f fd ["heights"] (W8 K):=by
 have sc:=qxm
 refine F.okX sc (λvs H Q E h=>by obtain ⟨p,ns,rfl,_⟩:=h;rfl) (λcdv A outer s H vs Q E hr h=>?_)
 obtain ⟨p,ns,rfl,hS,k1,k2⟩:=h
 have hlen:(ns.map V.int).length=ns.length:=ac _
 obtain ⟨tw,g_WIDEST⟩:=T.g_WIDEST
 refine ⟨_,(qu (wj (i:=1) sc.nd rfl (by walk_at "loc") (q8 xm (w6 xx rfl T.len_ aY (qw (pv 0) qj)) qz))
   (qu (xk (PW.pt (Yj (wf yq (pv 1) qz (wn _)) (uy (wf yw (pv 1) (j5 (v:=V.int 24) rfl g_WIDEST ⟨_,rfl⟩) (wn _))))) (qp (wv jf)) wm)
   (qp (wv (Jx (k6 quf (w6 (Zj rfl) rfl T.min_ cF (qw (pv 0) qj)) qz (wn _)) (qqk (k6 op_le (w6 (Zk rfl) rfl T.max_ cG (qw (pv 0) qj)) (pv 1) (wn _)))))))),?_⟩
 refine exI rfl ⟨_,_,rfl,.inl hS,wz rfl rfl ?_⟩
 refine exI rfl (wz rfl rfl (exI rfl ?_))
 rw [hlen]
 refine zf (λq1=>?_) (λq1=>?_)
 ·refine y6 ?_
  exact k2 (λz=>by have:=z.1;lia)
 ·refine exI rfl (wz rfl rfl (exI rfl ?_))
  refine zf (λq2=>?_) (λq2=>?_)
  ·exact k2 (λz=>by have:=z.2.1;lia)
  ·refine exI rfl ⟨p,ns,rfl,hS,(by lia),λm hm hle=>(wz rfl rfl (exI rfl ?_))⟩
   refine zf (λq3=>?_) (λq3=>?_)
   ·refine exI rfl ⟨p,ns,rfl,hS,(by lia),λm2 hm2 hle2=>(exI rfl (wz rfl rfl ?_))⟩
    show Q (.bl (decide (m2≤(ns.length:Int)-1))) H
    by_cases q4:m2≤(ns.length:Int)-1
    ·rw [bn q4]
     exact k1 ⟨by lia,by lia,λh hh=>by have:=hle h hh;have:=hle2 h hh;lia⟩
    ·rw [aX q4]
     exact k2 (λz=>q4 (z.2.2 m2 hm2).2)
   ·exact k2 (λz=>q3 (z.2.2 m hm).1)
def RoadAt (C:Aj)(H:Hp)(r:Aj)(ns:List Int):Prop:=∃dx q,H r=some (.ins C dx [("heights",.ref q)])∧H q=some (.lst (ns.map V.int))
theorem RoadAt.same {C:Aj}{H H':Hp}{r:Aj}{ns:List Int}(h:RoadAt C H r ns)(s:Same H H'):RoadAt C H' r ns:=by
 obtain ⟨dx,q,h1,h2⟩:=h
 exact ⟨dx,q,s _ _ h1,s _ _ h2⟩
theorem vx {q:Aj}:([("heights",V.ref q)]:List (Str×V)).lookup ("heights" : Str)=some (.ref q):=by
 rw [cc]
 simp
theorem wg {q:Aj}{m:Str}(h:¬ m = "heights"):([("heights",V.ref q)]:List (Str×V)).lookup m=none:=by
 rw [cc]
 have:(m==("heights" : Str))=false:=bD.mpr h
 rw [this]
 rfl
def yc (K:Aa)(CB C:Aj):Sp:=λvs H Q E=>∃(r dx p:Aj) (ns:List Int),vs=[.ref r,.ref p]∧H r=some (.ins C dx [])∧SqL K H p (ns.map V.int) ∧
 (ww ns→∀H' q,H q=none→(∀b o,H b=some o→b≠r→H' b=some o)→H' r=some (.ins C dx [("heights",.ref q)])→H' q=some (.lst (ns.map V.int))→Q .non H')∧(¬ ww ns→E (.ref CB) none H)
theorem wwz {f:Aj}{fd:Ad}(F:Fun K "__init__" "Road.__init__" s_Road___init__ f fd)(T:Txt K mg qd qy qh qt qc qg qv)(c_is_line:Cal P w K mg base "is_line" 1 (W8 K)):FnOk P w K mg base (CXE P w) 2 f fd ["self","heights"] (yc K qd qv):=by
 have sc:=ud
 refine F.okX sc (λvs H Q E h=>by obtain ⟨r,dx,p,ns,rfl,_⟩:=h;rfl) (λcdv A outer s H vs Q E hr h=>?_)
 obtain ⟨r,dx,p,ns,rfl,hr0,hS,k,x⟩:=h
 refine ⟨_,(qu (xk (zt (z5 (qf c_is_line (hr.mono (by decide)) rfl qk (qw (pv 1) qj)))) (qp (zr rfl T.x_BadLine x8 rfl T.g_BadLine (qw jb qj))) wm)
   (qp (ps_fld (pv 0) (kj vq rfl T.list_ bx (qw (pv 1) qj)) rfl))),?_⟩
 refine ⟨_,rfl,p,ns,rfl,hS,λok=>(exI rfl ?_),λbad=>(exI rfl ?_)⟩
 ·refine kn ?_
  refine exI rfl ⟨_,_,rfl,.inl hS,λq nq=>?_⟩
  have hr1:upd H q (.lst (ns.map V.int)) r=some (.ins qv dx []):=by rw [wb (wu hr0 nq)];exact hr0
  refine exI rfl ⟨r,qv,dx,[],rfl,hr1,T.cl,T.na,(by show 0<1000;decide),?_⟩
  refine k ok _ q nq (λb o e n=>?_) qm ?_
  ·rw [wb n,wb (wu e nq)]
   exact e
  ·rw [wb (wu hr0 nq).symm,qm]
 ·refine y6 ?_
  exact ⟨sz1,x bad⟩
def vw (C:Aj):Sp:=λvs H Q _=>∃(r:Aj) (ns:List Int),vs=[.ref r]∧RoadAt C H r ns∧Q (.int ((ns.length:Int)-1)) H
theorem qus {f:Aj}{fd:Ad}(F:Fun K "width" "Road.width" s_Road_width f fd)(T:Txt K mg qd qy qh qt qc qg qv):FnOk P w K mg base (CXE P w) 1 f fd ["self"] (vw qv):=by
 have sc:=Zx
 refine F.okX sc (λvs H Q E h=>by obtain ⟨r,ns,rfl,_⟩:=h;rfl) (λcdv A outer s H vs Q E hr h=>?_)
 obtain ⟨r,ns,rfl,⟨dx,q,h1,h2⟩,k⟩:=h
 refine ⟨_,(qp (wv (q8 xm (w6 xx rfl T.len_ aY (qw (Jj (pv 0) rfl) qj)) qz))),?_⟩
 refine exI rfl ⟨r,qv,dx,_,_,rfl,h1,T.cl,T.na,vx,q,exI rfl ⟨.inl (SqL.of h2),wz rfl rfl ?_⟩⟩
 rw [ac]
 exact k
def vz (C:Aj):Sp:=λvs H Q _=>∃(r:Aj) (ns:List Int),vs=[.ref r]∧RoadAt C H r ns∧∀p,H p=none→Q (.ref p) (upd H p (.lst (ns.map V.int)))
theorem qx4 {f:Aj}{fd:Ad}(F:Fun K "corners" "Road.corners" s_Road_corners f fd)(T:Txt K mg qd qy qh qt qc qg qv):FnOk P w K mg base (CXE P w) 1 f fd ["self"] (vz qv):=by
 have sc:=Qf
 refine F.okX sc (λvs H Q E h=>by obtain ⟨r,ns,rfl,_⟩:=h;rfl) (λcdv A outer s H vs Q E hr h=>?_)
 obtain ⟨r,ns,rfl,⟨dx,q,h1,h2⟩,k⟩:=h
 refine ⟨_,(qp (wv (kj vq rfl T.list_ bx (qw (Jj (pv 0) rfl) qj)))),?_⟩
 exact exI rfl ⟨r,qv,dx,_,_,rfl,h1,T.cl,T.na,vx,q,exI rfl ⟨.inl (SqL.of h2),λp np=>k p np⟩⟩
def InW (ns:List Int)(wd:Int):Prop:=(ns.length:Int)=wd+1∧∀h∈ns,0≤h∧h≤wd
def Q1 (K:Aa):Sp:=λvs H Q _=>∃(a:Aj) (ns:List Int) (i wd:Int),vs=[.ref a,.int i,.int wd]∧SqL K H a (ns.map V.int)∧0≤i∧1≤wd∧wd≤24 ∧
 ∀p hs,H p=none→InW hs wd→Q (.ref p) (upd H p (.lst (hs.map V.int)))
theorem qys {f:Aj}{fd:Ad}(F:Fun K "_law_climb" "_law_climb" s__law_climb f fd)(T:Txt K mg qd qy qh qt qc qg qv)(c__law_pick:Cal P w K mg base "_law_pick" 2 (yz K)):FnOk P w K mg base (CXE P w) 3 f fd ["_law_script","_law_at","_law_wide"] (Q1 K):=by
 have sc:=Zn
 refine F.okX sc (λvs H Q E h=>by obtain ⟨a,ns,i,wd,rfl,_⟩:=h;rfl) (λcdv A outer s H vs Q E hr h=>?_)
 obtain ⟨a,ns,i,wd,rfl,hS,h0,w1,w2,k⟩:=h
 refine ⟨_,(qu (wj (i:=3) sc.nd rfl (by walk_at "loc") (jg (qw (qf c__law_pick (hr.mono (by decide)) rfl qk (qw (pv 0) (qw (pv 1) (qw qz (qw (q8 wp (pv 2) qz) qj))))) qj)))
   (qu (Wp bC rfl (xr rfl T.range_ (qw (pv 2) qj)) (wt (i:=4) sc.nd rfl (by walk_at "loc")) (qp (j3 (wqz cu PySem.F.slot_list_append PySem.F.type_list_append v6 (pv 3) (qw (w6 (Yu rfl) rfl T.max_ cG (qw qz (qw (w6 (Yv rfl) rfl T.min_ cF (qw (pv 2) (qw (q8 xm (q8 wp (wc wx (pv 3) (qqn Wr qz) (λ_ _=>rfl)) (q8 w5 qz (qf c__law_pick (hr.mono (by decide)) rfl qk (qw (pv 0) (qw (pv 1) (qw (q8 wp qz (pv 4)) (qw qz qj))))))) qz) qj))) qj))) qj)))))
   (qp (wv (pv 3))))),?_⟩
 refine exI rfl (exI rfl (exI rfl (wz rfl rfl ⟨a,ns,_,_,_,rfl,hS,h0,(by lia),(by lia),(by lia),λr1 _ l1 u1=>⟨sz1,λp np=>?_⟩⟩)))
 refine ⟨_,rfl,wd,rfl,(by lia),(by lia),jt (λj σ H1=>∃(ys:List Int) (l:Int) (z:Option V),ys.length=j∧(∀h∈ys++[l],0≤h∧h≤wd)∧H1=upd H p (.lst ((ys++[l]).map V.int))∧σ=[some (.ref a),some (.int i),some (.int wd),some (.ref p),z])
  ⟨[],r1,none,rfl,(λh hh=>by have e:=aT.mp hh;subst e;lia),rfl,rfl⟩ ?_ ?_⟩
 ·rintro j σ H1 hj ⟨ys,l,z,hy,hb,rfl,rfl⟩
  have hp:upd H p (.lst ((ys++[l]).map V.int)) p=some (.lst ((ys++[l]).map V.int)):=qm
  have hS1:SqL K (upd H p (.lst ((ys++[l]).map V.int))) a (ns.map V.int):=Same.sql (Same.upd np) hS
  have hlast:atI ((ys++[l]).map V.int) (-1)=some (V.int l):=by
   rw [av]
   exact Wn _ _
  have hl:=hb l (by simp)
  refine exI rfl ⟨.inl ⟨rfl,_,SqL.of hp⟩,exI rfl (exI rfl (exI rfl (exX rfl rfl (SqL.of hp) hlast (exI rfl (exI rfl (exI rfl (wz rfl rfl ⟨a,ns,_,_,_,rfl,hS1,h0,(by lia),(by lia),(by lia),λr2 _ l2 u2=>?_⟩)))))))⟩
  refine wz rfl rfl ⟨(by walk_at "mul"),wz rfl rfl (wz rfl rfl ⟨_,_,rfl,_,_,rfl,_,_,_,rfl,rfl,hp,?_,?_⟩)⟩
  ·rw [ac,ar,hy]
   have:(1000000:Nat)<sizeLine:=by decide
   simp only [aN,bN]
   lia
  ·refine ⟨ys++[l],(if (if l+2*r2-1<wd then l+2*r2-1 else wd)>0 then (if l+2*r2-1<wd then l+2*r2-1 else wd) else 0),_,by rw [ar,hy];rfl,λh hh=>?_,?_,rfl⟩
   ·rcases aP.mp hh with hh|hh
    ·exact hb h hh
    ·have e:=aT.mp hh
     subst e
     by_cases g1:l+2*r2-1<wd
     ·rw [au g1]
      by_cases g2:l+2*r2-1>0
      ·rw [au g2];lia
      ·rw [am g2];lia
     ·rw [am g1,au (show wd>0 by lia)];lia
   ·rw [Jq,av (l₁:=ys++[l])]
    rfl
 ·rintro σ H1 ⟨ys,l,z,hy,hb,rfl,rfl⟩
  refine exI rfl (k p _ np ⟨?_,hb⟩)
  rw [ar,hy]
  simp only [aN,bN]
  lia
def ur (K:Aa):Sp:=λvs H Q _=>∃(a:Aj) (ns:List Int) (i m:Int),vs=[.ref a,.int i,.int m]∧SqL K H a (ns.map V.int)∧0≤i∧1≤m∧m≤24 ∧
 ∀p hs wd,H p=none→1≤wd→wd≤m→InW hs wd→Q (.ref p) (upd H p (.lst (hs.map V.int)))
theorem qjz {wd:Int}{n:Nat}(g:Nat→Int)(h1:(n:Int)=wd+1)(h2:∀i,i<n→0≤g i∧g i≤wd):InW ((List.range n).map g) wd:=by
 refine ⟨by rw [ac,az];exact h1,λh hh=>?_⟩
 obtain ⟨i,hi,rfl⟩:=aV.mp hh
 exact h2 i (aS.mp hi)
theorem Zd (n:Nat)(g:Nat→Int):(List.range n).map (λi=>V.int (g i))=((List.range n).map g).map V.int:=by
 rw [ay]
 rfl
theorem qx1 {f:Aj}{fd:Ad}(F:Fun K "_law_heights" "_law_heights" s__law_heights f fd)(T:Txt K mg qd qy qh qt qc qg qv)(c__law_pick:Cal P w K mg base "_law_pick" 2 (yz K))(c__law_climb:Cal P w K mg base "_law_climb" 3 (Q1 K)) :
  FnOk P w K mg base (CXE P w) 4 f fd ["_law_script","_law_at","_law_most"] (ur K):=by
 have sc:=Qu
 refine F.okX sc (λvs H Q E h=>by obtain ⟨a,ns,i,m,rfl,_⟩:=h;rfl) (λcdv A outer s H vs Q E hr h=>?_)
 obtain ⟨a,ns,i,m,rfl,hS,h0,m1,m2,k⟩:=h
 refine ⟨_,(qu (wj (i:=3) sc.nd rfl (by walk_at "loc") (q8 wp qz (qf c__law_pick (hr.mono (by decide)) rfl qk (qw (pv 0) (qw (pv 1) (qw qz (qw (pv 2) qj)))))))
   (qu (wj (i:=4) sc.nd rfl (by walk_at "loc") (qf c__law_pick (hr.mono (by decide)) rfl qk (qw (pv 0) (qw (pv 1) (qw qz (qw qz qj))))))
   (qu (xk (wf jq (pv 4) qz (wn _)) (qp (wv (vn (M:=[3]) rfl rfl (by walk_at "cap") (by walk_at "has") (by walk_at "cix") rfl (by decide +kernel) rfl (show List.Nodup (["_law_k","_law_wide"]:List Str) by decide +kernel) (xr rfl T.range_ (qw (q8 wp (pv 3) qz) qj)) (λ_ _ _ _ _=>(q8 w5 (pv 1) (q8 zj (pv 0) qz)))))) wm)
   (qu (xk (wf jq (pv 4) qz (wn _)) (qp (wv (vn (M:=[]) rfl rfl (by walk_at "cap") (by walk_at "has") (by walk_at "cix") rfl (by decide +kernel) rfl (show List.Nodup (["_law_k"]:List Str) by decide +kernel) (xr rfl T.range_ (qw (q8 wp (pv 3) qz) qj)) (λ_ _ _ _ _=>(pv 0))))) wm)
   (qu (xk (wf jq (pv 4) qz (wn _)) (qp (wv (vn (M:=[3]) rfl rfl (by walk_at "cap") (by walk_at "has") (by walk_at "cix") rfl (by decide +kernel) rfl (show List.Nodup (["_law_k","_law_wide"]:List Str) by decide +kernel) (xr rfl T.range_ (qw (q8 wp (pv 3) qz) qj)) (λ_ _ _ _ _=>(q8 xm (pv 1) (pv 0)))))) wm)
   (qu (xk (wf jq (pv 4) qz (wn _)) (qp (wv (vn (M:=[3]) rfl rfl (by walk_at "cap") (by walk_at "has") (by walk_at "cix") rfl (by decide +kernel) rfl (show List.Nodup (["_law_k","_law_wide"]:List Str) by decide +kernel) (xr rfl T.range_ (qw (q8 wp (pv 3) qz) qj)) (λ_ _ _ _ _=>(q8 zj (q8 wp (q8 w5 qz (pv 0)) qz) (q8 wp (pv 1) qz)))))) wm)
   (qu (xk (PW.pt (Yj (wf jq (pv 4) qz (wn _)) (uy (wf jq (pv 4) qz (wn _))))) (qp (wv (qf c__law_climb (hr.mono (by decide)) rfl qk (qw (pv 0) (qw (pv 1) (qw (pv 3) qj)))))) wm)
   (qp (wv (vn (M:=[0,1,3]) rfl rfl (by walk_at "cap") (by walk_at "has") (by walk_at "cix") rfl (by decide +kernel) rfl (show List.Nodup (["_law_k","_law_script","_law_at","_law_wide"]:List Str) by decide +kernel) (xr rfl T.range_ (qw (q8 wp (pv 3) qz) qj)) (λ_ _ _ _ _=>(qf c__law_pick (hr.mono (by decide)) rfl kg (qw (pv 1) (qw (pv 2) (qw (q8 wp qz (pv 0)) (qw (q8 wp (pv 3) qz) qj)))))))))))))))),?_⟩
 refine exI rfl (exI rfl (exI rfl ⟨a,ns,_,_,_,rfl,hS,h0,(by lia),(by lia),(by lia),λr1 _ l1 u1=>?_⟩))
 refine wz rfl rfl (exI rfl (exI rfl ⟨a,ns,_,_,_,rfl,hS,h0,(by lia),(by lia),(by lia),λkd _ l2 u2=>?_⟩))
 have hn:((1+r1+1).toNat:Int)=1+r1+1:=by lia
 have hn2:(1+r1+1).toNat≤1000000:=by lia
 have fin:∀(g:Nat→Int) (p:Aj),(∀j,j<(1+r1+1).toNat→0≤g j∧g j≤1+r1)→H p=none→Q (.ref p) (upd H p (.lst ((List.range (1+r1+1).toNat).map λj=>V.int (g j)))):=λg p hg np=>by
  rw [Zd]
  exact k p _ (1+r1) np (by lia) (by lia) (qjz g hn hg)
 refine exI rfl ⟨rfl,_,rfl,k9 (λq1=>?_) (λq1=>?_)⟩
 ·refine exI rfl (wz rfl rfl ⟨1+r1+1,rfl,(by lia),(by lia),vc (λj=>V.int ((1+r1)*(((0:Int)+j)%2))) hn2 (λj H' R hj hs hR=>?_) λp np=>fin _ p (λj hj=>?_) np⟩)
  ·exact exI rfl (exI rfl (wz rfl rfl ⟨(by walk_at "pos"),wz rfl rfl ⟨(by walk_at "mul"),hR⟩⟩))
  ·have a1:=aQ ((0:Int)+j) (show (2:Int)≠0 by decide)
   have a2:=aJ ((0:Int)+j) (show (0:Int)<2 by decide)
   rcases (by lia:((0:Int)+j)%2=0∨((0:Int)+j)%2=1) with e|e <;> rw [e] <;> lia
 ·refine exI rfl ⟨rfl,_,rfl,k9 (λq2=>?_) (λq2=>?_)⟩
  ·refine exI rfl (wz rfl rfl ⟨1+r1+1,rfl,(by lia),(by lia),vc (λj=>V.int ((0:Int)+j)) hn2 (λj H' R hj hs hR=>?_) λp np=>fin _ p (λj hj=>by lia) np⟩)
   exact exI rfl hR
  ·refine exI rfl ⟨rfl,_,rfl,k9 (λq3=>?_) (λq3=>?_)⟩
   ·refine exI rfl (wz rfl rfl ⟨1+r1+1,rfl,(by lia),(by lia),vc (λj=>V.int (1+r1-((0:Int)+j))) hn2 (λj H' R hj hs hR=>?_) λp np=>fin _ p (λj hj=>by lia) np⟩)
    exact exI rfl (exI rfl (wz rfl rfl hR))
   ·refine exI rfl ⟨rfl,_,rfl,k9 (λq4=>?_) (λq4=>?_)⟩
    ·refine exI rfl (wz rfl rfl ⟨1+r1+1,rfl,(by lia),(by lia),vc (λj=>V.int ((2*((0:Int)+j)+1)%(1+r1+1))) hn2 (λj H' R hj hs hR=>?_) λp np=>fin _ p (λj hj=>?_) np⟩)
     ·exact exI rfl (wz rfl rfl ⟨(by walk_at "mul"),wz rfl rfl (exI rfl (wz rfl rfl (wz rfl rfl ⟨(by walk_at "pos"),hR⟩)))⟩)
     ·have a1:=aQ (2*((0:Int)+j)+1) (show 1+r1+1≠0 by lia)
      have a2:=aJ (2*((0:Int)+j)+1) (show 0<1+r1+1 by lia)
      lia
    ·have last:tRet (quu [0,1,3] (iRng1 (xb (tOp (rI0 λi j=>.int (i+j)) (ku 3) (tC (.int 1))) zy)) (Jg (yz K) (λ_=>E0) (xb (ku 1) (xb (ku 2) (xb (tOp (rI0 λi j=>.int (i+j)) (tC (.int 3)) (ku 0)) (xb (tOp (rI0 λi j=>.int (i+j)) (ku 3) (tC (.int 1))) zy))))))
       { nx:=λ_ H'=>Q .non H',rt:=Q } [some (.ref a),some (.int i),some (.int m),some (.int (1+r1)),some (.int kd)] H:=by
      refine exI rfl (wz rfl rfl ⟨1+r1+1,rfl,(by lia),(by lia),vc (λj=>V.int (qw2 ns i (3+((0:Int)+j)) (1+r1+1))) hn2 (λj H' R hj hs hR=>?_) λp np=>fin _ p (λj hj=>?_) np⟩)
      ·refine exI rfl (exI rfl (exI rfl (wz rfl rfl (exI rfl (wz rfl rfl ⟨a,ns,_,_,_,rfl,Same.sql hs hS,h0,(by lia),(by lia),(by lia),λr e _ _=>?_⟩)))))
       rw [e]
       exact hR
      ·have a1:=qjs ns i (3+((0:Int)+j)) (1+r1+1) (by lia)
       have a2:=qu4 ns i (3+((0:Int)+j)) (1+r1+1) (by lia)
       lia
     have climb:tRet (Jg (Q1 K) (λ_=>E) (xb (ku 0) (xb (ku 1) (xb (ku 3) zy)))) { nx:=λ_ H'=>Q .non H',rt:=Q } [some (.ref a),some (.int i),some (.int m),some (.int (1+r1)),some (.int kd)] H :=
      (exI rfl (exI rfl (exI rfl ⟨a,ns,i,1+r1,rfl,hS,h0,(by lia),(by lia),λp hs np hw=>k p hs (1+r1) np (by lia) (by lia) hw⟩)))
     refine exI rfl ⟨rfl,_,rfl,k9 (λq5=>y6 climb) (λq5=>?_)⟩
     exact exI rfl ⟨rfl,_,rfl,k9 (λq6=>climb) (λq6=>last)⟩
def Js:Sp:=λvs H Q _=>∃i:Int,vs=[.int i]∧Q (.bl true) H
theorem qut {f:Aj}{fd:Ad}(F:Fun K "_law_whole" "_law_whole" s__law_whole f fd)(T:Txt K mg qd qy qh qt qc qg qv):FnOk P w K mg base (CXE P w) 1 f fd ["_law_found"] Js:=by
 have sc:=Zr
 refine F.okX sc (λvs H Q E h=>by obtain ⟨i,rfl,_⟩:=h;rfl) (λcdv A outer s H vs Q E hr h=>?_)
 obtain ⟨i,rfl,k⟩:=h
 refine ⟨_,(qp (wv (Jx (w6 Qx rfl T.isinstance_ cQ (qw (pv 0) (qw (qvb (v:=V.ty "int") rfl T.int_ PyProof.Rows.boot_int rfl) qj))) (qqk (pe_not (w6 Qx rfl T.isinstance_ cQ (qw (pv 0) (qw (qvb (v:=V.ty "bool") rfl T.bool_ PyProof.Rows.boot_bool rfl) qj)))))))),?_⟩
 refine exI rfl ⟨_,_,_,_,rfl,TyOf.int i,rfl,_,rfl,?_⟩
 refine y6 ?_
 refine exI rfl ⟨_,_,_,_,rfl,TyOf.int i,rfl,_,rfl,?_⟩
 exact k
def qj2:Sp:=λvs H Q _=>∃x y:Int,vs=[.int x,.int y]∧0≤x∧0≤y∧Q (.int (Qr x y)) H
theorem qy3 {tb:TS}{c:TT}{D:Ends}{H:Hp}{x y:Int}(hx:0≤x)(hy:0≤y)(hc:c=tTest (tOp (rI0 λi j=>.bl (decide (j<i))) (ku 1) (tC (.int 0))))(hb:tb=tPar 0 1 (xb (ku 1) (xb (tOp (rI (λ_ j=>0<j) λi j=>.int (i%j)) (ku 0) (ku 1)) zy)))
  (hD:D.nx [some (.int (Qr x y)),some (.int 0)] H):qw6 c tb D [some (.int x),some (.int y)] H:=by
 subst hc hb
 refine qq5 (λσ H1=>H1=H∧∃u v:Int,σ=[some (.int u),some (.int v)]∧0≤u∧0≤v∧Qr u v=Qr x y) (λσ _=>match σ with|[_,some (.int v)]=>v.toNat|_=>0) ⟨rfl,x,y,rfl,hx,hy,rfl⟩ ?_ λσ H Q Q' h ⟨v,e,i,j,e1,e2,k,e3,q⟩=>⟨v,e,i,j,e1,e2,k,e3,h _ _ q⟩
 rintro σ H1 ⟨rfl,u,v,rfl,hu,hv,e⟩
 refine exI rfl (wz rfl rfl (exI rfl ?_))
 refine zf (λq=>?_) (λq=>?_)
 ·have h1:=aQ u (show v≠0 by lia)
  have h2:=aJ u q
  refine exI rfl (exI rfl (exI rfl (wz rfl rfl ⟨q,_,_,rfl,⟨rfl,v,u%v,rfl,hv,h1,?_⟩,?_⟩)))
  ·rw [qvs hu q,e]
  ·show (u%v).toNat<v.toNat
   lia
 ·have z:v=0:=by lia
  subst z
  rw [qku hu] at e
  subst e
  exact hD
theorem ok_gcd {f:Aj}{fd:Ad}(F:Fun K "common_divisor" "common_divisor" s_common_divisor f fd)(T:Txt K mg qd qy qh qt qc qg qv):FnOk P w K mg base (CXE P w) 1 f fd ["one","other"] qj2:=by
 have sc:=uw
 refine F.okX sc (λvs H Q E h=>by obtain ⟨x,y,rfl,_⟩:=h;rfl) (λcdv A outer s H vs Q E hr h=>?_)
 obtain ⟨x,y,rfl,hx,hy,k⟩:=h
 refine ⟨_,(qu (qq1 bC (wf yw (pv 1) qz (wn _)) (qp (ps_par (i:=0) (j:=1) rfl sc.nd rfl rfl (by decide) rfl rfl (qw (pv 1) (qw (q8 zj (pv 0) (pv 1)) qj)) rfl)))
   (qp (wv (pv 0)))),?_⟩
 exact qy3 hx hy rfl rfl (exI rfl k)
def ptV (p:Int×Int):List V:=[.int p.1,.int p.2]
def jc (C:Aj):Sp:=λvs H Q E=>∃t b:Int,vs=[.int t,.int b]∧(1≤b→Sm 9000 b∧∀p,H p=none→Q (.ref p) (upd H p (.tup (ptV (qb t b)))))∧(b<1→E (.ref C) none H)
theorem qkz {f:Aj}{fd:Ad}(F:Fun K "lowest" "lowest" s_lowest f fd)(T:Txt K mg qd qy qh qt qc qg qv)(c_check_bottom:Cal P w K mg base "check_bottom" 1 (Jt qy))(c_common_divisor:Cal P w K mg base "common_divisor" 1 qj2) :
  FnOk P w K mg base (CXE P w) 2 f fd ["top","bottom"] (jc qy):=by
 have sc:=qk9
 refine F.okX sc (λvs H Q E h=>by obtain ⟨t,b,rfl,_⟩:=h;rfl) (λcdv A outer s H vs Q E hr h=>?_)
 obtain ⟨t,b,rfl,k,x⟩:=h
 refine ⟨_,(qu (j3 (qf c_check_bottom (hr.mono (by decide)) rfl qk (qw (pv 1) qj)))
   (qu (wj (i:=2) sc.nd rfl (by walk_at "loc") (qf c_common_divisor (hr.mono (by decide)) rfl qk (qw (w6 y3 rfl T.abs_ y9 (qw (pv 0) qj)) (qw (pv 1) qj))))
   (qp (wv (z7 (qw (q8 v5 (pv 0) (pv 2)) (qw (q8 v5 (pv 1) (pv 2)) qj))))))),?_⟩
 refine ⟨_,rfl,b,rfl,λg1=>?_,λg1=>x g1⟩
 obtain ⟨sb,k⟩:=k g1
 have hg:=k4 (t:=t) g1
 have hs:Sm 9000 (gOf t b):=sb.of_le (by have:=gOf_le (t:=t) g1;lia)
 refine exI rfl (exI rfl (exI rfl ⟨jr t,b,rfl,wq9 t,(by lia),?_⟩))
 refine exI rfl ⟨V.int (gOf t b),rfl,wz rfl rfl ⟨⟨by lia,hs⟩,exI rfl ⟨V.int (gOf t b),rfl,wz rfl rfl ⟨⟨by lia,hs⟩,sz2,λp n=>?_⟩⟩⟩⟩
 exact k p n
theorem at_h {hs:List Int}{k:Int}(h0:0≤k)(h1:k<hs.length):atI (hs.map V.int) k=some (V.int (hAt hs k)):=yh h0 h1
theorem h_rng {hs:List Int}(ok:ww hs)(k:Int):0≤hAt hs k∧hAt hs k≤24:=by
 unfold hAt
 rw [ak]
 cases e:hs[k.toNat]? with
 |none=>exact ⟨by decide,by decide⟩
 |some v =>
  have hm:=ok.2.2 v (bu e)
  have:=ok.2.1
  show 0≤v∧v≤24
  lia
def Wu (C CR:Aj):Sp:=λvs H Q E=>∃(r:Aj) (hs:List Int) (k:Int),vs=[.ref r,.int k]∧RoadAt C H r hs∧(0≤k→k<(hs.length:Int)-1→∀p,H p=none→Q (.ref p) (upd H p (.tup [.int (hAt hs k),.int (hAt hs (k+1))]))) ∧
 (k<0∨(hs.length:Int)-1≤k→E (.ref CR) none H)
theorem wqb {f:Aj}{fd:Ad}(F:Fun K "ends" "Road.ends" s_Road_ends f fd)(T:Txt K mg qd qy qh qt qc qg qv)(c_width:MCal P w K mg base qv "width" 1 (vw qv)):FnOk P w K mg base (CXE P w) 2 f fd ["self","stretch"] (Wu qv qt):=by
 have sc:=qqy
 refine F.okX sc (λvs H Q E h=>by obtain ⟨r,hs,k,rfl,_⟩:=h;rfl) (λcdv A outer s H vs Q E hr h=>?_)
 obtain ⟨r,hs,k,rfl,hR,kq,x⟩:=h
 obtain ⟨dx,q,h1,h2⟩:=id hR
 refine ⟨_,(qu (xk (PW.pt (Yj (wf yq (pv 1) qz (wn _)) (uy (wf quf (pv 1) (xg (pv 0) T.cl c_width (hr.mono (by decide)) qk) (wn _))))) (qp (zr rfl T.x_BadRow x8 rfl T.g_BadRow (qw jb qj))) wm)
   (qp (wv (z7 (qw (wc wx (Jj (pv 0) rfl) (pv 1) (λ_ _=>rfl)) (qw (wc wx (Jj (pv 0) rfl) (q8 wp (pv 1) qz) (λ_ _=>rfl)) qj)))))),?_⟩
 refine exI rfl (wz rfl rfl (exI rfl ?_))
 refine zf (λq1=>?_) (λq1=>?_)
 ·refine y6 ?_
  exact ⟨sz1,x (.inl q1)⟩
 ·refine exI rfl (exI rfl ⟨r,dx,exI rfl ⟨h1,wg (by decide +kernel),r,hs,rfl,hR,wz rfl rfl (exI rfl ?_)⟩⟩)
  refine zf (λq2=>?_) (λq2=>?_)
  ·exact ⟨sz1,x (.inr q2)⟩
  ·refine exI rfl ⟨r,qv,dx,_,_,rfl,h1,T.cl,T.na,vx,exI rfl (exX rfl rfl (SqL.of h2) (at_h (by lia) (by lia)) (exI rfl ⟨r,qv,dx,_,_,rfl,h1,T.cl,T.na,vx,exI rfl (wz rfl rfl (exX rfl rfl (SqL.of h2) (at_h (by lia) (by lia)) ⟨sz2,λp np=>?_⟩))⟩))⟩
   exact kq (by lia) (by lia) p np
def wr (hs:List Int)(t b:Int):Prop:=0≤t∧t≤((hs.length:Int)-1)*b
def jj (K:Aa)(C CB CO:Aj):Sp:=λvs H Q E=>∃(r p:Aj) (hs:List Int) (t b:Int),vs=[.ref r,.ref p]∧RoadAt C H r hs∧ww hs∧SqT K H p [.int t,.int b] ∧
 (1≤b→Sm 8000 b∧(wr hs t b→∀q H',Same H H'→H' q=some (.tup (ptV (qb t b)))→Q (.ref q) H')∧(¬ wr hs t b→∀H',Same H H'→E (.ref CO) none H'))∧(b<1→E (.ref CB) none H)
theorem qx7 {f:Aj}{fd:Ad}(F:Fun K "on_road" "Road.on_road" s_Road_on_road f fd)(T:Txt K mg qd qy qh qt qc qg qv)(c_width:MCal P w K mg base qv "width" 1 (vw qv))(c_lowest:Cal P w K mg base "lowest" 2 (jc qy)) :
  FnOk P w K mg base (CXE P w) 3 f fd ["self","point"] (jj K qv qy qh):=by
 have sc:=Qs
 refine F.okX sc (λvs H Q E h=>by obtain ⟨r,p,hs,t,b,rfl,_⟩:=h;rfl) (λcdv A outer s H vs Q E hr h=>?_)
 obtain ⟨r,p,hs,t,b,rfl,hR,hok,hp,kq,x⟩:=h
 obtain ⟨dx,q,h1,h2⟩:=id hR
 refine ⟨_,(qu (k8 (qf c_lowest (hr.mono (by decide)) rfl qk (qw (wc zx (pv 1) qz (λ_ _=>rfl)) (qw (wc zx (pv 1) qz (λ_ _=>rfl)) qj))) (vg rfl (w8 (wt (i:=2) sc.nd rfl (by walk_at "loc")) (w8 (wt (i:=3) sc.nd rfl (by walk_at "loc")) x4))))
   (qu (xk (PW.pt (Yj (wf yq (pv 2) qz (wn _)) (uy (wf yw (pv 2) (q8 w5 (xg (pv 0) T.cl c_width (hr.mono (by decide)) qk) (pv 3)) (wn _))))) (qp (zr rfl T.x_OffRoad x8 rfl T.g_OffRoad (qw jb qj))) wm)
   (qp (wv (z7 (qw (pv 2) (qw (pv 3) qj))))))),?_⟩
 refine ⟨_,rfl,_,_,_,_,rfl,rfl,hp,rfl,_,rfl,_,_,_,_,rfl,rfl,hp,rfl,t,b,rfl,λhb=>⟨(kq hb).1.mono (by decide),λp1 n1=>?_⟩,λz=>x z⟩
 obtain ⟨sb,k1,k2⟩:=kq hb
 have s1:Same H (upd H p1 (.tup (ptV (qb t b)))):=Same.upd n1
 have hl:=hok.2.1
 refine ⟨p1,exI rfl ⟨SqT.new,rfl,_,_,rfl,_,_,rfl,rfl,?_⟩⟩
 refine exI rfl (wz rfl rfl (exI rfl ?_))
 refine zf (λq1=>?_) (λq1=>?_)
 ·refine y6 ?_
  exact ⟨sz1,k2 (λz=>by have:=(y7 hb).mp q1;have:=z.1;lia) _ s1⟩
 ·refine exI rfl (exI rfl ⟨r,dx,exI rfl ⟨s1 _ _ h1,wg (by decide +kernel),r,hs,rfl,hR.same s1,exI rfl (wz rfl rfl ⟨IntMulOk.of_left (intBits_le_64 (by lia) (by lia)),wz rfl rfl (exI rfl ?_)⟩)⟩⟩)
  refine zf (λq2=>?_) (λq2=>?_)
  ·exact ⟨sz1,k2 (λz=>by have:=(qqg hb).mp q2;have:=z.2;lia) _ s1⟩
  ·refine exI rfl (exI rfl ⟨sz2,λp2 n2=>?_⟩)
   refine k1 ⟨?_,?_⟩ p2 _ (s1.trans (Same.upd n2)) qm
   ·rcases bA t 0 with z|z
    ·exact absurd ((y7 hb).mpr z) q1
    ·exact z
   ·rcases bA (((hs.length:Int)-1)*b) t with z|z
    ·exact absurd ((qqg hb).mpr z) q2
    ·exact z
def spAt (K:Aa)(C CB CO:Aj):Sp:=λvs H Q E=>∃(r p:Aj) (hs:List Int) (t b:Int),vs=[.ref r,.ref p]∧RoadAt C H r hs∧ww hs∧SqT K H p [.int t,.int b] ∧
 (1≤b→Sm 8000 b∧(wr hs t b→∀q H',Same H H'→H' q=some (.tup (ptV (v8 hs t b)))→Q (.ref q) H')∧(¬ wr hs t b→∀H',Same H H'→E (.ref CO) none H'))∧(b<1→E (.ref CB) none H)
theorem ok_at {f:Aj}{fd:Ad}(F:Fun K "at" "Road.at" s_Road_at f fd)(T:Txt K mg qd qy qh qt qc qg qv)(c_width:MCal P w K mg base qv "width" 1 (vw qv))(c_lowest:Cal P w K mg base "lowest" 2 (jc qy))(c_ends:MCal P w K mg base qv "ends" 2 (Wu qv qt))
  (c_on_road:MCal P w K mg base qv "on_road" 3 (jj K qv qy qh)):FnOk P w K mg base (CXE P w) 4 f fd ["self","point"] (spAt K qv qy qh):=by
 have sc:=qxy
 refine F.okX sc (λvs H Q E h=>by obtain ⟨r,p,hs,t,b,rfl,_⟩:=h;rfl) (λcdv A outer s H vs Q E hr h=>?_)
 obtain ⟨r,p,hs,t,b,rfl,hR,hok,hp,kq,x⟩:=h
 obtain ⟨dx,q,h1,h2⟩:=id hR
 refine ⟨_,(qu (k8 (zz (pv 0) T.cl c_on_road (hr.mono (by decide)) qk (qw (pv 1) qj)) (vg rfl (w8 (wt (i:=2) sc.nd rfl (by walk_at "loc")) (w8 (wt (i:=3) sc.nd rfl (by walk_at "loc")) x4))))
   (qu (wj (i:=4) sc.nd rfl (by walk_at "loc") (w6 (Yv rfl) rfl T.min_ cF (qw (q8 v5 (pv 2) (pv 3)) (qw (q8 xm (xg (pv 0) T.cl c_width (hr.mono (by decide)) qk) qz) qj))))
   (qu (k8 (zz (pv 0) T.cl c_ends (hr.mono (by decide)) qk (qw (pv 4) qj)) (vg rfl (w8 (wt (i:=5) sc.nd rfl (by walk_at "loc")) (w8 (wt (i:=6) sc.nd rfl (by walk_at "loc")) x4))))
   (qu (wj (i:=7) sc.nd rfl (by walk_at "loc") (q8 xm (pv 2) (q8 w5 (pv 4) (pv 3))))
   (qp (wv (qf c_lowest (hr.mono (by decide)) rfl qk (qw (q8 wp (q8 w5 (pv 5) (pv 3)) (q8 w5 (q8 xm (pv 6) (pv 5)) (pv 7))) (qw (pv 3) qj))))))))),?_⟩
 refine ⟨_,rfl,r,dx,_,rfl,h1,wg (by decide +kernel),_,rfl,r,p,hs,t,b,rfl,hR,hok,hp,λhb=>⟨(kq hb).1,λhon p1 H1 s1 f1=>?_,λhoff H1 s1=>(kq hb).2.2 hoff H1 s1⟩,λz=>x z⟩
 obtain ⟨sb,k1,k2⟩:=kq hb
 have hl1:=hok.1
 have hl2:=hok.2.1
 have hy:=zb (t:=t) hb
 have hyb:=Qq (t:=t) hb
 have hx:0≤(qb t b).1:=by
  rcases bA (qb t b).1 0 with z|z
  ·have:=(y7 hb).mp z
   have:=hon.1
   lia
  ·exact z
 have hk:=Yt (hs:=hs) hl1 hy hx
 have sy:Sm 9000 (qb t b).2:=(sb.of_le (by lia)).mono (by decide)
 refine ⟨p1,exI rfl ⟨SqT.of f1,rfl,_,_,rfl,_,_,rfl,rfl,?_⟩⟩
 refine exI rfl (exI rfl (wz rfl rfl ⟨⟨by lia,sy⟩,exI rfl ⟨r,dx,exI rfl ⟨s1 _ _ h1,wg (by decide +kernel),r,hs,rfl,hR.same s1,wz rfl rfl ⟨_,_,rfl,?_⟩⟩⟩⟩))
 refine ⟨_,rfl,r,dx,_,rfl,s1 _ _ h1,wg (by decide +kernel),V.int (kF hs (qb t b).1 (qb t b).2),rfl,r,hs,kF hs (qb t b).1 (qb t b).2,rfl,hR.same s1,λ_ _ p2 n2=>?_,λz=>absurd z (by lia)⟩
 have g1:=h_rng hok (kF hs (qb t b).1 (qb t b).2)
 have g2:=h_rng hok (kF hs (qb t b).1 (qb t b).2+1)
 refine ⟨p2,exI rfl ⟨SqT.new,rfl,_,_,rfl,_,_,rfl,rfl,?_⟩⟩
 refine exI rfl ⟨V.int (kF hs (qb t b).1 (qb t b).2),rfl,exI rfl (wz rfl rfl ⟨IntMulOk.of_left (intBits_le_64 (by lia) (by lia)),wz rfl rfl ?_⟩)⟩
 refine exI rfl (exI rfl (wz rfl rfl ⟨IntMulOk.of_left (intBits_le_64 (by lia) (by lia)),exI rfl (exI rfl (wz rfl rfl (exI rfl (wz rfl rfl ⟨IntMulOk.of_left (intBits_le_64 (by lia) (by lia)),wz rfl rfl (exI rfl ?_)⟩))))⟩))
 refine ⟨xy hs (qb t b).1 (qb t b).2,(qb t b).2,rfl,λ_=>⟨sy,λp3 n3=>?_⟩,λz=>absurd z (by lia)⟩
 have e:qb (xy hs (qb t b).1 (qb t b).2) (qb t b).2=v8 hs t b:=Yc hb
 rw [e]
 exact k1 hon p3 _ (s1.trans ((Same.upd n2).trans (Same.upd n3))) qm
theorem qzn {hs:List Int}{wd:Int}(h:InW hs wd)(w1:1≤wd)(w2:wd≤24):ww hs:=by
 refine ⟨by have:=h.1;lia,by have:=h.1;lia,λx hx=>?_⟩
 have h1:=h.1
 have h2:=h.2 x hx
 lia
theorem qkp {H H':Hp}{x dx C:Aj}(nx:H x=none)(nd:H dx=none)(h:∀b o,upd (upd H dx (.own x)) x (.ins C dx []) b=some o→b≠x→H' b=some o):Same H H':=λb o e =>
 h b o (by rw [wb (wu e nx),wb (wu e nd)];exact e) (wu e nx)
theorem Same.upd2 {H H':Hp}{p:Aj}{o:HO}(s:Same H H')(n:H p=none):Same H (L2.upd H' p o):=λb u e=>by
 rw [wb (wu e n)]
 exact s b u e
theorem rd_pt {K:Aa}{H:Hp}{p:Aj}{q:Int×Int}(h:SqT K H p [.int q.1,.int q.2]):RD K H (ptD q) (.ref p):=by
 unfold ptD
 rw [RD]
 exact ⟨p,exI rfl ⟨h,by rw [RDs];exact ⟨_,_,rfl,by rw [RD],by rw [RDs];exact ⟨_,_,rfl,by rw [RD],by rw [RDs]⟩⟩⟩⟩
theorem dep_pt {p q:Int×Int}:min (ptD p).depth (ptD q).depth≤60:=by simp [ptD,PyData.depth,PyData.depthAll]
theorem Wm {x y b d:Int}(hb:1≤b)(hd:1≤d):x*d=y*b↔qb x b=qb y d:=by
 constructor
 ·intro e
  rw [←j0 (t:=x) hb hd,e,bf b d,j0 hd hb]
 ·intro e
  have c1:=vv (t:=x) hb
  have c2:=vv (t:=y) hd
  have v1:=zb (t:=x) hb
  rw [←e] at c2
  have h:x*d*(qb x b).2=y*b*(qb x b).2:=by
   have a1:x*d*(qb x b).2=x*(qb x b).2*d:=by grind
   have a2:y*b*(qb x b).2=y*(qb x b).2*b:=by grind
   rw [a1,a2,←c1,←c2]
   grind
  exact Int.eq_of_mul_eq_mul_right (by lia) h
theorem yn {CB C:Aj}{H:Hp}{p x dx:Aj}{hs:List Int}{Pp:Hp→Prop}{E:XK}(f:H p=some (.lst (hs.map V.int)))(nx:H x=none)(nd:H dx=none)(k:ww hs→∀H',Same H H'→RoadAt C H' x hs→Pp H')(bad:¬ ww hs→∀H',Same H H'→E (.ref CB) none H') :
  yc K CB C [.ref x,.ref p] (upd (upd H dx (.own x)) x (.ins C dx [])) (λr H2=>r=.non∧Pp H2) E:=by
 refine ⟨x,dx,p,hs,rfl,qm,SqL.of (by rw [wb (wu f nx),wb (wu f nd)];exact f),λok H4 q nq kp r l=>⟨rfl,k ok H4 (qkp nx nd kp) ⟨dx,q,r,l⟩⟩,λz=>bad z _ ?_⟩
 exact λb o e=>by rw [wb (wu e nx),wb (wu e nd)];exact e
theorem uj {hs:List Int}(ok:ww hs)(k:Int):0≤hAt hs k∧hAt hs k≤(hs.length:Int)-1:=by
 unfold hAt
 rw [ak]
 have:=ok.1
 cases e:hs[k.toNat]? with
 |none=>exact ⟨by decide,by show (0:Int)≤_;lia⟩
 |some v=>exact ok.2.2 v (bu e)
theorem Y4 {hs:List Int}{t b:Int}(hok:ww hs)(hb:1≤b)(hon:wr hs t b):wr hs (xy hs t b) b:=by
 have hl1:=hok.1
 have hk:=Yt (hs:=hs) hl1 hb hon.1
 have g1:=uj hok (kF hs t b)
 have g2:=uj hok (kF hs t b+1)
 have e1:0≤t-kF hs t b*b∧t-kF hs t b*b≤b:=by
  have h1:t/b*b≤t:=Int.ediv_mul_le t (by lia)
  have h2:=Int.lt_ediv_add_one_mul_self t (show 0<b by lia)
  unfold kF
  split
  ·next z =>
   have h3:=ao (show (hs.length:Int)-1-1≤t/b by lia) (show 0≤b by lia)
   have h4:=hon.2
   constructor
   ·lia
   ·have:((hs.length:Int)-1)*b=((hs.length:Int)-1-1)*b+b:=by grind
    lia
  ·have:(t/b+1)*b=t/b*b+b:=by grind
   constructor <;> lia
 have r:=quc (u:=hAt hs (kF hs t b)) (v:=hAt hs (kF hs t b+1)) e1.1 e1.2
 refine ⟨dJ ?_ r.1,dJ r.2 ?_⟩
 ·refine bo ?_ (by lia)
  split <;> lia
 ·refine ao ?_ (by lia)
  split <;> lia
theorem low_on {hs:List Int}{t b:Int}(hb:1≤b)(hon:wr hs t b):wr hs (qb t b).1 (qb t b).2:=by
 constructor
 ·rcases bA (qb t b).1 0 with z|z
  ·have:=(y7 hb).mp z
   have:=hon.1
   lia
  ·exact z
 ·rcases bA (((hs.length:Int)-1)*(qb t b).2) (qb t b).1 with z|z
  ·have:=(qqg hb).mp z
   have:=hon.2
   lia
  ·exact z
def itP (hs:List Int)(p:Int×Int):Nat→Int×Int
 |0=>p
 |n+1=>v8 hs (itP hs p n).1 (itP hs p n).2
def Pt (hs:List Int)(c:Int)(p:Int×Int):Prop:=1≤p.2∧p.2≤c∧gOf p.1 p.2=1∧wr hs p.1 p.2
theorem Wt {hs:List Int}{t b:Int}(hb:1≤b)(hon:wr hs t b):Pt hs b (qb t b):=⟨zb hb,Qq hb,low_co hb,low_on hb hon⟩
theorem wwf {hs:List Int}{c:Int}{p:Int×Int}(hok:ww hs)(h:Pt hs c p):Pt hs c (v8 hs p.1 p.2):=by
 have a:=Wt h.1 (Y4 hok h.1 h.2.2.2)
 exact ⟨a.1,dJ a.2.1 h.2.1,a.2.2.1,a.2.2.2⟩
theorem pt_it {hs:List Int}{c:Int}{p:Int×Int}(hok:ww hs)(h:Pt hs c p):∀n,Pt hs c (itP hs p n)
 |0=>h
 |n+1=>wwf hok (pt_it hok h n)
def trT (hs:List Int)(t b:Int):Nat→Int
 |0=>t
 |n+1=>xy hs (trT hs t b n) b
theorem vt {hs:List Int}{t b:Int}(hok:ww hs)(hb:1≤b)(hon:wr hs t b):∀n,wr hs (trT hs t b n) b
 |0=>hon
 |n+1=>Y4 hok hb (vt hok hb hon n)
theorem yp {hs:List Int}{t b:Int}(hb:1≤b):∀n,qb (trT hs t b n) b=itP hs (qb t b) n
 |0=>rfl
 |n+1=>by
  show v8 hs (trT hs t b n) b=v8 hs (itP hs (qb t b) n).1 (itP hs (qb t b) n).2
  rw [←yp hb n,Yc hb]
def Wb (hs:List Int)(p:Int×Int)(n:Nat):List (Int×Int):=(List.range n).map (itP hs p)
theorem qw4 (hs:List Int)(p:Int×Int)(n:Nat):(Wb hs p n).length=n:=by
 unfold Wb
 rw [ac,az]
def PtR (H:Hp)(v:V)(p:Int×Int):Prop:=∃a,v=.ref a∧H a=some (.tup [.int p.1,.int p.2])
theorem PtR.same {H H':Hp}{v:V}{p:Int×Int}(h:PtR H v p)(s:Same H H'):PtR H' v p:=by
 obtain ⟨a,e,f⟩:=h
 exact ⟨a,e,s _ _ f⟩
theorem qwg {α β:Type}{F G:α→β→Prop}(h:∀a b,F a b→G a b):∀ {l:List α} {m:List β},Paired F l m→Paired G l m
 |_,_,.nil=>.nil
 |_,_,.cons a t=>.cons (h _ _ a) (qwg h t)
theorem Yw {α β:Type}{F:α→β→Prop}:∀ {l:List α} {m:List β} {i:Nat} {b:β},Paired F l m→m[i]?=some b→∃a,l[i]?=some a∧F a b
 |_,_,0,_,.cons a _,e=>by cases e;exact exI rfl a
 |_,_,i+1,_,.cons _ t,e=>Yw (i:=i) t e
def PtsAt (H:Hp)(q:Aj)(ps:List (Int×Int)):Prop:=∃vs,H q=some (.lst vs)∧Paired (PtR H) vs ps
theorem PtsAt.same {H H':Hp}{q:Aj}{ps:List (Int×Int)}(h:PtsAt H q ps)(s:Same H H'):PtsAt H' q ps:=by
 obtain ⟨vs,f,r⟩:=h
 exact ⟨vs,s _ _ f,qwg (λ_ _ z=>z.same s) r⟩
def Dist {α:Type}(f:Nat→α)(n:Nat):Prop:=∀i j,i<j→j<n→f i≠f j
theorem Dist.mono {α:Type}{f:Nat→α}{m n:Nat}(h:Dist f n)(le:m≤n):Dist f m:=λi j a b=>h i j a (by lia)
theorem Dist.succ {α:Type}{f:Nat→α}{n:Nat}(h:Dist f n)(h':∀j,j<n→f j≠f n):Dist f (n+1):=λi j a b=>by
 rcases (by lia:j<n∨j=n) with z|z
 ·exact h i j a z
 ·subst z
  exact h' i a
theorem shift {α:Type}{f:Nat→α}(st:∀i j,f i=f j→f (i+1)=f (j+1)){n u:Nat}(e:f n=f u):∀k,f (n+k)=f (u+k)
 |0=>e
 |k+1=>st _ _ (shift st e k)
theorem per {α:Type}{f:Nat→α}(st:∀i j,f i=f j→f (i+1)=f (j+1)){n u:Nat}(hu:u<n)(e:f n=f u)(m:Nat):u≤m→f m=f (u+(m-u)%(n-u)):=by
 induction m using Nat.strongRecOn with
 |_ m ih =>
  intro hm
  rcases br m n with z|z
  ·rw [bH (by lia)]
   congr 1
   lia
  ·have h1:=shift st e (m-n)
   rw [show n+(m-n)=m by lia] at h1
   have h2:=ih (u+(m-n)) (by lia) (by lia)
   rw [h1,h2,show u+(m-n)-u=m-u-(n-u) by lia,←Nat.mod_eq_sub_mod (by lia)]
theorem wxv {m:Int}{n u:Nat}(h:(u:Int)≤m)(hu:u<n):(u:Int)+(m-u)%((n:Int)-u)=((u+(m.toNat-u)%(n-u):Nat):Int):=by
 have e1:m-(u:Int)=((m.toNat-u:Nat):Int):=by lia
 have e2:(n:Int)-(u:Int)=((n-u:Nat):Int):=by lia
 rw [e1,e2]
 push_cast
 rfl
theorem pig (N:Nat):∀l:List Nat,l.Nodup→(∀x∈l,x<N)→l.length≤N:=by
 induction N with
 |zero =>
  intro l _ h
  cases l with
  |nil=>exact al _
  |cons a r=>exact absurd (h a (.head _)) (by lia)
 |succ N ih =>
  intro l nd h
  by_cases m:N∈l
  ·have h1:=ih (l.erase N) (nd.erase N) λx hx=>by
    have a:=(nd.mem_erase_iff.mp hx)
    have b:=h x a.2
    lia
   rw [List.length_erase_of_mem m] at h1
   lia
  ·have:=ih l nd λx hx=>by
    have b:=h x hx
    have:x≠N:=λz=>m (z▸hx)
    lia
   lia
theorem pigI {f:Nat→Int}{n:Nat}{B:Int}(h:Dist f n)(b:∀i,0≤f i∧f i≤B):(n:Int)≤B+1:=by
 have h1:=pig (B+1).toNat ((List.range n).map λi=>(f i).toNat) (by
  rw [List.nodup_iff_pairwise_ne,List.pairwise_map]
  refine List.Pairwise.imp_of_mem ?_ (List.pairwise_lt_range (n:=n))
  intro i j hi hj hij e
  have:=b i
  have:=b j
  exact h i j hij (aS.mp hj) (by lia)) λx hx=>by
   obtain ⟨i,_,rfl⟩:=aV.mp hx
   have:=b i
   lia
 rw [ac,az] at h1
 have:=b 0
 lia
theorem qvc {hs:List Int}{p:Int×Int}:∀i j,itP hs p i=itP hs p j→itP hs p (i+1)=itP hs p (j+1):=λi j e=>by
 show v8 hs (itP hs p i).1 (itP hs p i).2=v8 hs (itP hs p j).1 (itP hs p j).2
 rw [e]
theorem wqp {t b:Int}(hb:1≤b)(g:gOf t b=1):qb t b=(t,b):=by
 unfold qb
 rw [g,Int.ediv_one,Int.ediv_one]
theorem it_tr {hs:List Int}{c:Int}{p:Int×Int}(h:Pt hs c p)(n:Nat):itP hs p n=qb (trT hs p.1 p.2 n) p.2:=by
 rw [yp h.1,wqp h.1 h.2.2.1]
theorem ww8 {x y b:Int}(hb:1≤b)(e:qb x b=qb y b):x=y:=by
 have h1:=(Yy (N:=x) hb).2
 have h2:=(Yy (N:=y) hb).2
 rw [e] at h1
 lia
theorem it_eq {hs:List Int}{c:Int}{p:Int×Int}(h:Pt hs c p)(i j:Nat):itP hs p i=itP hs p j↔trT hs p.1 p.2 i=trT hs p.1 p.2 j:=by
 rw [it_tr h,it_tr h]
 exact ⟨λe=>ww8 h.1 e,λe=>by rw [e]⟩
theorem wqt {hs:List Int}{c:Int}{p:Int×Int}(h:Pt hs c p){n:Nat}(d:Dist (itP hs p) n):Dist (trT hs p.1 p.2) n:=λi j a b e=>d i j a b ((it_eq h i j).mpr e)
theorem wq5 {hs:List Int}{c:Int}{p:Int×Int}(hok:ww hs)(h:Pt hs c p){n:Nat}(d:Dist (itP hs p) n):(n:Int)≤((hs.length:Int)-1)*p.2+1 :=
 pigI (wqt h d) λi=>vt hok h.1 h.2.2.2 i
def ky (p:Int×Int):List Key:=[.inl p.1,.inl p.2]
theorem qw5 {p q:Int×Int}(e:ky p=ky q):p=q:=by
 unfold ky at e
 simp only [List.cons.injEq,Sum.inl.injEq,and_true] at e
 exact dE e.1 e.2
def jx {κ:Type}(k:Nat→κ)(n:Nat):List (κ×V):=(List.range n).map λi=>(k i,V.int i)
theorem Z5 {κ:Type}(k:Nat→κ)(n:Nat):jx k (n+1)=jx k n++[(k n,V.int n)]:=by
 unfold jx
 rw [aR,av]
 rfl
theorem jm {κ:Type}(k:Nat→κ)(n:Nat):(jx k n).length=n:=by
 unfold jx
 rw [ac,az]
theorem Yg {κ:Type}[DecidableEq κ]{k:Nat→κ}{q:κ}{n:Nat}(h:∀j,j<n→k j≠q):v4 (jx k n) q=none:=by
 unfold v4 jx
 rw [List.find?_eq_none.mpr]
 ·rfl
 ·intro x hx
  obtain ⟨i,hi,rfl⟩:=aV.mp hx
  simpa using h i (aS.mp hi)
theorem Yh {κ:Type}[DecidableEq κ]{k:Nat→κ}{j:Nat}:∀ {n:Nat},Dist k n→j<n→v4 (jx k n) (k j)=some (.int j)
 |0,_,h=>absurd h (by lia)
 |n+1,d,h=>by
  rw [Z5,Zt _ _ _ _ (Yg λi hi=>d i n hi (by lia))]
  rcases (by lia:j<n∨j=n) with z|z
  ·rw [am (d j n z (by lia)),Yh (d.mono (by lia)) z]
  ·subst z
   rw [au rfl]
theorem qz9 {α β γ δ:Type}{F:α→β→Prop}{G:α→γ→Prop}(g:δ→β)(f:δ→γ)(h:∀a x,F a (g x)→G a (f x)):∀ {l:List δ} {vs:List α},Paired F vs (l.map g)→Paired G vs (l.map f)
 |[],_,.nil=>.nil
 |_::_,_,.cons a t=>.cons (h _ _ a) (qz9 g f h t)
end
section
variable {P:Ac}{w:Ah}{K:Aa}{mg:Str→Option Ag}{base:Heap}{qd:Aj}{qy:Aj}{qh:Aj}{qt:Aj}{qc:Aj}{qg:Aj}{qv:Aj}
def Q5 (C CT:Aj):Sp:=λvs H Q E=>∃(r a:Aj) (hs:List Int) (p:Int×Int) (c:Int),vs=[.ref r,.ref a]∧RoadAt C H r hs∧ww hs∧H a=some (.tup [.int p.1,.int p.2])∧Pt hs c p∧Sm 8000 c ∧
 (∀n u q l H',n≤1000→Dist (itP hs p) n→u<n→itP hs p n=itP hs p u→Same H H'→H l=none→H' q=some (.tup [.ref l,.int ((u:Nat):Int)])→PtsAt H' l (Wb hs p n)→Q (.ref q) H')∧(Dist (itP hs p) 1001→∀H',Same H H'→E (.ref CT) none H')
theorem qub {f:Aj}{fd:Ad}(F:Fun K "trace" "trace" s_trace f fd)(T:Txt K mg qd qy qh qt qc qg qv)(c_at:MCal P w K mg base qv "at" 4 (spAt K qv qy qh)):FnOk P w K mg base (CXE P w) 5 f fd ["road","start"] (Q5 qv qg):=by
 have sc:=qu9
 refine F.okX sc (λvs H Q E h=>by obtain ⟨r,a,hs,p,c,rfl,_⟩:=h;rfl) (λcdv A outer s H vs Q E hr h=>?_)
 obtain ⟨r,a,hs,p,c,rfl,hR,hok,ha,hP,sc8,k,x⟩:=h
 obtain ⟨dx,q0,h1,h2⟩:=id hR
 obtain ⟨tm,g_LONGEST_TRACE⟩:=T.g_LONGEST_TRACE
 refine ⟨_,(qu (wj (i:=2) sc.nd rfl (by walk_at "loc") qy0)
   (qu (wj (i:=3) sc.nd rfl (by walk_at "loc") (pv 1))
   (qu (qq1 bC (pt_cmp (qjy (wqq hr) (pv 3) (pv 2))) (qu (xk (wf jq (w6 Yx rfl T.len_ aY (qw (pv 2) qj)) (j5 (v:=V.int 1000) rfl g_LONGEST_TRACE ⟨_,rfl⟩) (wn _)) (qp (zr rfl T.x_TooLong x8 rfl T.g_TooLong (qw jb qj))) wm)
   (qu (wxz (wqq hr) (pv 2) (pv 3) (w6 Yx rfl T.len_ aY (qw (pv 2) qj)) rfl)
   (qp (wj (i:=3) sc.nd rfl (by walk_at "loc") (zz (pv 0) T.cl c_at (hr.mono (by decide)) qk (qw (pv 3) qj)))))))
   (qp (wv (z7 (qw (kj (qxg rfl) rfl T.list_ bx (qw (pv 2) qj)) (qw (wq2 (wqq hr) (pv 2) (pv 3) (λ_ _=>rfl)) qj)))))))),?_⟩
 refine λD nD=>exI rfl ?_
 refine qq5 (λσ H2=>∃(i:Nat) (b:Aj),σ=[some (.ref r),some (.ref a),some (.ref D),some (.ref b)]∧i≤1000∧Dist (itP hs p) i∧Same H H2∧H2 D=some (.dT (jx (λj=>ky (itP hs p j)) i))∧H2 b=some (.tup [.int (itP hs p i).1,.int (itP hs p i).2]))
  (λ_ H2=>match H2 D with|some (.dT kvs)=>1001-kvs.length|_=>0) ⟨0,a,rfl,by lia,λi j _ z=>absurd z (by lia),Same.upd nD,qm,by rw [wb (wu ha nD)];exact ha⟩ ?_ λσ H Q Q' h ⟨v,e,v2,e2,a',o,e3,g,kk,e4,q⟩=>⟨v,e,v2,e2,a',o,e3,g,kk,e4,h _ _ q⟩
 rintro σ H2 ⟨i,b,rfl,hi,hd,s2,f2,fb⟩
 have hd':Dist (λj=>ky (itP hs p j)) i:=λu v uv vi e=>hd u v uv vi (qw5 e)
 have fb':H2 b=some (.tup ((ky (itP hs p i)).map kV)):=fb
 by_cases hj:∃j,j<i∧itP hs p j=itP hs p i
 ·obtain ⟨j,ji,je⟩:=hj
  have hv:v4 (jx (λj=>ky (itP hs p j)) i) (ky (itP hs p i))=some (.int j):=by
   rw [←je]
   exact Yh hd' ji
  have dg:DGet H2 D (.ref b) (some (.int j)):=by
   have:=DGet.t f2 fb'
   rwa [hv] at this
  refine exI rfl (exI rfl ⟨D,exI rfl ⟨dg,_,rfl,?_⟩⟩)
  refine kn ?_
  refine exI rfl ⟨D,exI rfl ⟨f2,λl vs nl kat=>?_⟩⟩
  have s3:=Same.upd (o:=.lst vs) nl
  have dg3:DGet (upd H2 l (.lst vs)) D (.ref b) (some (.int j)):=by
   have:=DGet.t (s3 _ _ f2) (s3 _ _ fb')
   rwa [hv] at this
  refine exI rfl (exI rfl ⟨D,exI rfl ⟨dg3,sz2,λq nq=>?_⟩⟩)
  have s4:=s3.trans (Same.upd (o:=.tup [.ref l,.int j]) nq)
  have nl0:H l=none:=by
   cases e:H l with
   |none=>rfl
   |some o=>rw [s2 _ _ e] at nl;cases nl
  refine k i j q l _ hi hd ji je.symm (s2.trans s4) nl0 qm ⟨vs,Same.upd nq _ _ qm,?_⟩
  refine qz9 (l:=List.range i) (λj=>(ky (itP hs p j),V.int j)) (itP hs p) (λv j hv=>?_) kat
  obtain ⟨b',rfl,fb2⟩:=hv
  exact ⟨b',rfl,s4 _ _ fb2⟩
 ·have hn:∀j,j<i→itP hs p j≠itP hs p i:=λj a b=>hj ⟨j,a,b⟩
  have hv:v4 (jx (λj=>ky (itP hs p j)) i) (ky (itP hs p i))=none:=Yg λj a b=>hn j a (qw5 b)
  have dg:DGet H2 D (.ref b) none:=by
   have:=DGet.t f2 fb'
   rwa [hv] at this
  have hd1:=hd.succ hn
  refine exI rfl (exI rfl ⟨D,exI rfl ⟨dg,_,rfl,?_⟩⟩)
  refine y6 ?_
  refine exI rfl ⟨D,exI rfl ⟨f2,rfl,_,rfl,?_⟩⟩
  rw [jm]
  refine k9 (λq1=>?_) (λq1=>?_)
  ·have:i=1000:=by lia
   subst this
   exact ⟨sz1,x hd1 _ s2⟩
  ·refine exI rfl ⟨D,exI rfl ⟨f2,exI rfl (exI rfl ⟨D,exI rfl ⟨DPut.t f2 fb' (qk2 (by rw [jm];lia)),?_⟩⟩)⟩⟩
   rw [quv _ hv,jm,←Z5 (λj=>ky (itP hs p j)) i]
   have s3:Same H (upd H2 D (.dT (jx (λj=>ky (itP hs p j)) (i+1)))):=Same.upd2 s2 nD
   have db:b≠D:=λz=>by rw [z,f2] at fb;cases fb
   have fb3:upd H2 D (.dT (jx (λj=>ky (itP hs p j)) (i+1))) b=some (.tup [.int (itP hs p i).1,.int (itP hs p i).2]):=by rw [wb db];exact fb
   have f3:upd H2 D (.dT (jx (λj=>ky (itP hs p j)) (i+1))) D=some (.dT (jx (λj=>ky (itP hs p j)) (i+1))):=qm
   generalize upd H2 D (.dT (jx (λj=>ky (itP hs p j)) (i+1)))=H3 at s3 fb3 f3
   have Pn:=pt_it hok hP i
   refine ⟨_,rfl,r,dx,_,rfl,s3 _ _ h1,wg (by decide +kernel),_,rfl,r,b,hs,(itP hs p i).1,(itP hs p i).2,rfl,hR.same s3,hok,SqT.of fb3,λ_=>⟨(sc8.of_le (by have:=Pn.2.1;have:=Pn.1;lia)),λ_ p4 H4 s4 f4=>?_,λz=>absurd Pn.2.2.2 z⟩,λz=>absurd Pn.1 (by lia)⟩
   refine ⟨⟨i+1,p4,rfl,by lia,hd1,s3.trans s4,s4 _ _ f3,f4⟩,?_⟩
   show (match H4 D with|some (.dT kvs)=>1001-kvs.length|_=>0)<(match H2 D with|some (.dT kvs)=>1001-kvs.length|_=>0)
   rw [s4 _ _ f3,f2]
   show 1001-(jx (λj=>ky (itP hs p j)) (i+1)).length<1001-(jx (λj=>ky (itP hs p j)) i).length
   rw [jm,jm]
   lia
def TrAt (H:Hp)(l:Aj)(hs:List Int)(p:Int×Int)(n u:Nat):Prop:=n≤1000∧Dist (itP hs p) n∧u<n∧itP hs p n=itP hs p u∧PtsAt H l (Wb hs p n)
def qzv:Sp:=λvs H Q _=>∃(l:Aj) (hs:List Int) (p:Int×Int) (n u:Nat) (m:Int),vs=[.ref l,.int u,.int m]∧TrAt H l hs p n u∧0≤m∧∀a,H a=some (.tup [.int (itP hs p m.toNat).1,.int (itP hs p m.toNat).2])→Q (.ref a) H
theorem qy8 {H:Hp}{hs:List Int}{p:Int×Int}{n i:Nat}{vs:List V}(h:Paired (PtR H) vs (Wb hs p n))(hi:i<n):∃a,vs[i]?=some (.ref a)∧H a=some (.tup [.int (itP hs p i).1,.int (itP hs p i).2]):=by
 obtain ⟨v,ev,⟨a,rfl,fa⟩⟩:=Yw (i:=i) (b:=itP hs p i) h (by
  unfold Wb
  rw [aB,be hi]
  rfl)
 exact ⟨a,ev,fa⟩
theorem wqj {f:Aj}{fd:Ad}(F:Fun K "spot" "spot" s_spot f fd)(T:Txt K mg qd qy qh qt qc qg qv):FnOk P w K mg base (CXE P w) 1 f fd ["points","turn","many"] qzv:=by
 have sc:=wwq
 refine F.okX sc (λvs H Q E h=>by obtain ⟨l,hs,p,n,u,m,rfl,_⟩:=h;rfl) (λcdv A outer s H vs Q E hr h=>?_)
 obtain ⟨l,hs,p,n,u,m,rfl,⟨n1,hd,hu,e,vs,fl,pr⟩,m0,k⟩:=h
 have hlen:vs.length=n:=by rw [pr.length,qw4]
 refine ⟨_,(qu (xk (wf yq (pv 2) (pv 1) (wn _)) (qp (wv (wc wx (pv 0) (pv 2) (λ_ _=>rfl)))) wm)
   (qp (wv (wc wx (pv 0) (q8 wp (pv 1) (q8 zj (q8 xm (pv 2) (pv 1)) (q8 xm (w6 xx rfl T.len_ aY (qw (pv 0) qj)) (pv 1)))) (λ_ _=>rfl))))),?_⟩
 refine exI rfl (exI rfl (wz rfl rfl (exI rfl ?_)))
 refine zf (λq1=>?_) (λq1=>?_)
 ·obtain ⟨a,ea,fa⟩:=qy8 (i:=m.toNat) pr (by lia)
  refine exI rfl (exI rfl (exX rfl rfl (SqL.of fl) ?_ (k a fa)))
  have:=J1 ea
  rwa [cj m0] at this
 ·have hm:(u:Int)≤m:=by lia
  have lt:=dh (m.toNat-u) (show 0<n-u by lia)
  obtain ⟨a,ea,fa⟩:=qy8 (i:=u+(m.toNat-u)%(n-u)) pr (by lia)
  rw [←per qvc hu e m.toNat (by lia)] at fa
  refine exI rfl (exI rfl (exI rfl (exI rfl (wz rfl rfl (exI rfl ⟨_,_,rfl,.inl (SqL.of fl),exI rfl (wz rfl rfl (wz rfl rfl ⟨?_,wz rfl rfl (exX rfl rfl (SqL.of fl) ?_ (k a fa))⟩))⟩)))))
  ·rw [hlen]
   show (0:Int)<(n:Int)-u
   lia
  ·rw [hlen,wxv hm hu]
   exact J1 ea
def Jd (K:Aa):Sp:=λvs H Q _=>∃(a:Aj) (ns:List Int) (i wd mo:Int),vs=[.ref a,.int i,.int wd,.int mo]∧SqL K H a (ns.map V.int)∧0≤i∧1≤wd∧wd≤24∧6≤mo∧mo≤1000 ∧
 ∀p t b c,H p=none→1≤b→b≤mo→1≤c→c≤3→0≤t→t≤wd*b→Q (.ref p) (upd H p (.tup [.int (t*c),.int (b*c)]))
theorem qur {f:Aj}{fd:Ad}(F:Fun K "_law_spot" "_law_spot" s__law_spot f fd)(T:Txt K mg qd qy qh qt qc qg qv)(c__law_pick:Cal P w K mg base "_law_pick" 2 (yz K)):FnOk P w K mg base (CXE P w) 3 f fd ["_law_script","_law_at","_law_wide","_law_most"] (Jd K):=by
 have sc:=Jv
 refine F.okX sc (λvs H Q E h=>by obtain ⟨a,ns,i,wd,mo,rfl,_⟩:=h;rfl) (λcdv A outer s H vs Q E hr h=>?_)
 obtain ⟨a,ns,i,wd,mo,rfl,hS,i0,w1,w2,o1,o2,k⟩:=h
 refine ⟨_,(qu (wj (i:=4) sc.nd rfl (by walk_at "loc") (q8 wp qz (qf c__law_pick (hr.mono (by decide)) rfl qk (qw (pv 0) (qw (pv 1) (qw qz (qw (pv 3) qj)))))))
   (Y1 (xk (wf jq (qf c__law_pick (hr.mono (by decide)) rfl qk (qw (pv 0) (qw (pv 1) (qw qz (qw qz qj))))) qz (wn _)) (qp (wj (i:=4) sc.nd rfl (by walk_at "loc") (q8 wp qz (q8 zj (pv 4) qz)))) wm)
   (qu (wj (i:=5) sc.nd rfl (by walk_at "loc") (q8 wp (q8 w5 (qf c__law_pick (hr.mono (by decide)) rfl qk (qw (pv 0) (qw (pv 1) (qw qz (qw (pv 2) qj))))) (pv 4)) (qf c__law_pick (hr.mono (by decide)) rfl qk (qw (pv 0) (qw (pv 1) (qw qz (qw (q8 wp (pv 4) qz) qj)))))))
   (qu (wj (i:=6) sc.nd rfl (by walk_at "loc") (q8 wp qz (qf c__law_pick (hr.mono (by decide)) rfl qk (qw (pv 0) (qw (pv 1) (qw qz (qw qz qj)))))))
   (qp (wv (z7 (qw (q8 w5 (pv 5) (pv 6)) (qw (q8 w5 (pv 4) (pv 6)) qj))))))))),?_⟩
 refine exI rfl (exI rfl (exI rfl ⟨a,ns,_,_,_,rfl,hS,i0,(by lia),(by lia),(by lia),λr1 _ l1 u1=>?_⟩))
 refine ⟨_,_,rfl,rfl,λσ H'=>∃b,σ=[some (.ref a),some (.int i),some (.int wd),some (.int mo),some (.int b),none,none]∧1≤b∧b≤mo∧H'=H,?_,?_⟩
 ·refine exI rfl (exI rfl ⟨a,ns,_,_,_,rfl,hS,i0,(by lia),(by lia),(by lia),λr2 _ l2 u2=>?_⟩)
  refine ⟨rfl,_,rfl,k9 (λq1=>?_) (λq1=>?_)⟩
  ·have e1:=aQ (1+r1) (show (6:Int)≠0 by decide)
   have e2:=aJ (1+r1) (show (0:Int)<6 by decide)
   exact ⟨_,rfl,_,_,rfl,rfl,(by walk_at "pos"),_,_,rfl,rfl,_,rfl,by lia,by lia,rfl⟩
  ·exact ⟨_,rfl,by lia,by lia,rfl⟩
 ·rintro σ Hx ⟨b,rfl,b1,b2,rfl⟩
  refine exI rfl (exI rfl (exI rfl ⟨a,ns,_,_,_,rfl,hS,i0,(by lia),(by lia),(by lia),λr3 _ l3 u3=>?_⟩))
  refine exI rfl (wz rfl rfl ⟨(by walk_at "mul"),exI rfl (exI rfl (exI rfl (wz rfl rfl ⟨a,ns,_,_,_,rfl,hS,i0,(by lia),(by lia),(by lia),λr4 _ l4 u4=>?_⟩)))⟩)
  refine wz rfl rfl ?_
  refine exI rfl (exI rfl ⟨a,ns,_,_,_,rfl,hS,i0,(by lia),(by lia),(by lia),λr5 _ l5 u5=>?_⟩)
  refine wz rfl rfl ?_
  have h1:=ao (show r3≤wd-1 by lia) (show 0≤b by lia)
  have h2:(wd-1)*b=wd*b-b:=by rw [Int.sub_mul,Int.one_mul]
  have h3:=bo l3 (show 0≤b by lia)
  refine exI rfl ⟨V.int (1+r5),rfl,wz rfl rfl ⟨(by walk_at "mul"),exI rfl ⟨V.int (1+r5),rfl,wz rfl rfl ⟨(by walk_at "mul"),sz2,λp np=>?_⟩⟩⟩⟩
  exact k p _ b (1+r5) np b1 b2 (by lia) (by lia) (by lia) (by lia)
end
section
variable {P:Ac}{w:Ah}{K:Aa}{mg:Str→Option Ag}{base:Heap}{qd:Aj}{qy:Aj}{qh:Aj}{qt:Aj}{qc:Aj}{qg:Aj}{qv:Aj}
theorem qu6 {L:Nat}(hL:0<L)(x:Nat):(x+1)/L=x/L+if (x+1)%L=0 then 1 else 0:=by
 have h1:=Nat.div_add_mod x L
 have h2:=dh x hL
 have e:x+1=L*(x/L)+(x%L+1):=by lia
 have d:(x+1)/L=x/L+(x%L+1)/L:=(bQ (·/L) e).trans (Nat.mul_add_div hL _ _)
 have m:(x+1)%L=(x%L+1)%L:=(bQ (·%L) e).trans (Nat.mul_add_mod ..)
 rw [d,m]
 rcases (by lia:x%L+1<L∨x%L+1=L) with z|z
 ·rw [Nat.div_eq_of_lt z,bH z,am (by lia)]
 ·rw [z,Nat.div_self hL,Nat.mod_self,au rfl]
def stN (n u m f:Nat):Nat:=if m<f then 0 else (if f<u then 1 else (m-f)/(n-u)+1)-(if f=0 then 1 else 0)
def fS (n u m:Nat):Nat:=if m<n then m else u+(m-u)%(n-u)
theorem Ym {n u m f:Nat}(h:m<f):stN n u m f=0:=au h
theorem qwm {n u m f:Nat}(h:f≤m)(h2:f<u):stN n u m f=1-(if f=0 then 1 else 0):=by
 unfold stN
 rw [am (by lia),au h2]
theorem quz {n u m f:Nat}(h:f≤m)(h2:u≤f):stN n u m f=(m-f)/(n-u)+1-(if f=0 then 1 else 0):=by
 unfold stN
 rw [am (by lia),am (by lia)]
theorem fS_a {n u m:Nat}(h:m<n):fS n u m=m:=au h
theorem fS_b {n u m:Nat}(h:n≤m):fS n u m=u+(m-u)%(n-u):=am (by lia)
theorem qyy {n u m f:Nat}(hu:u<n)(hf:f<n):stN n u (m+1) f=stN n u m f+if f=fS n u (m+1) then 1 else 0:=by
 have hL:0<n-u:=by lia
 have lt:=dh (m+1-u) hL
 by_cases hfu:f<u
 ·by_cases c1:m+1<n
  ·rw [fS_a c1]
   by_cases c2:f=m+1
   ·rw [au c2,qwm (by lia) hfu,Ym (by lia),am (by lia)]
   ·rw [am c2]
    by_cases c3:m<f
    ·rw [Ym (by lia),Ym c3]
    ·rw [qwm (by lia) hfu,qwm (by lia) hfu]
     rfl
  ·rw [fS_b (by lia),am (show ¬ f=u+(m+1-u)%(n-u) by lia),qwm (by lia) hfu,qwm (by lia) hfu]
   rfl
 ·rcases (by lia:m+1<f∨m+1=f∨f<m+1) with z|z|z
  ·rw [Ym z,Ym (by lia),fS_a (by lia),am (by lia)]
  ·rw [quz (by lia) (by lia),Ym (by lia),fS_a (by lia),au z.symm,am (by lia),show m+1-f=0 by lia,Nat.zero_div]
  ·rw [quz (by lia) (by lia),quz (by lia) (by lia),show m+1-f=m-f+1 by lia,qu6 hL]
   have key:f=fS n u (m+1)↔(m-f+1)%(n-u)=0:=by
    by_cases c1:m+1<n
    ·rw [fS_a c1,bH (by lia)]
     lia
    ·rw [fS_b (by lia)]
     have e:m+1-u=(m-f+1)+(f-u):=by lia
     have e2:(m+1-u)%(n-u)=((m-f+1)%(n-u)+(f-u))%(n-u):=by rw [e,Nat.add_mod,bH (show f-u<n-u by lia)]
     have l2:=dh (m-f+1) hL
     rw [e2]
     rcases (by lia:(m-f+1)%(n-u)+(f-u)<n-u∨n-u≤(m-f+1)%(n-u)+(f-u)) with y|y
     ·rw [bH y]
      lia
     ·rw [Nat.mod_eq_sub_mod y,bH (by lia)]
      lia
   by_cases c:(m-f+1)%(n-u)=0
   ·rw [au c,au (key.mpr c)]
    generalize (m-f)/(n-u)=D
    split <;> lia
   ·rw [am c,am λy=>c (key.mp y)]
    rfl
theorem fS_lt {n u m:Nat}(hu:u<n):fS n u m<n:=by
 have:=dh (m-u) (show 0<n-u by lia)
 unfold fS
 split <;> lia
theorem qu8 {m:Int}{t L:Nat}(h:(t:Int)≤m):(m-t)/(L:Int)=(((m.toNat-t)/L:Nat):Int):=by
 rw [show m-(t:Int)=((m.toNat-t:Nat):Int) by lia]
 push_cast
 rfl
def StR (hs:List Int)(p q:Int×Int)(n u m:Nat)(r:Int):Prop:=(∃f,f<n∧itP hs p f=q∧r=stN n u m f)∨((∀f,f<n→itP hs p f≠q)∧r=0)
def qyc:Sp:=λvs H Q _=>∃(f u n:Nat) (m:Int),vs=[.int f,.int u,.int n,.int m]∧f<n∧u<n∧n≤1000∧0≤m∧Q (.int (stN n u m.toNat f)) H
theorem ok_led {f:Aj}{fd:Ad}(F:Fun K "led_to" "led_to" s_led_to f fd)(T:Txt K mg qd qy qh qt qc qg qv):FnOk P w K mg base (CXE P w) 1 f fd ["place","turn","size","many"] qyc:=by
 have sc:=qk5
 refine F.okX sc (λvs H Q E h=>by obtain ⟨f,u,n,m,rfl,_⟩:=h;rfl) (λcdv A outer s H vs Q E hr h=>?_)
 obtain ⟨f,u,n,m,rfl,hf,u1,n1,m0,k⟩:=h
 refine ⟨_,(qu (xk (wf yw (pv 0) (pv 3) (wn _)) (qp (wv qz)) wm)
   (qu (wj (i:=4) sc.nd rfl (by walk_at "loc") (yr (wf yq (pv 0) (pv 1) (wn _)) qz (q8 wp (q8 v5 (q8 xm (pv 3) (pv 0)) (q8 xm (pv 2) (pv 1))) qz)))
   (qp (wv (yr (wf jq (pv 0) qz (wn _)) (q8 xm (pv 4) qz) (pv 4)))))),?_⟩
 refine exI rfl (exI rfl (wz rfl rfl (exI rfl (zf (λz=>?_) (λz=>?_)))))
 ·unfold stN at k
  rw [au (by lia)] at k
  exact k
 ·have fm:(f:Int)≤m:=by lia
  have res:∀x:Int,x=(if f<u then 1 else (((m.toNat-f)/(n-u):Nat):Int)+1)-(if f=0 then 1 else 0)→Q (.int x) H:=λx hx=>by
   have e:x=(stN n u m.toNat f:Nat):=by
    unfold stN
    rw [am (by lia),hx]
    generalize (m.toNat-f)/(n-u)=D
    by_cases y1:f<u <;> by_cases y2:f=0
    ·simp only [au y1,au y2];lia
    ·simp only [au y1,am y2];lia
    ·simp only [am y1,au y2];lia
    ·simp only [am y1,am y2];lia
   rw [e]
   exact k
  refine exI rfl (exI rfl (wz rfl rfl (exI rfl (zf (λy1=>?_) (λy1=>?_)))))
  ·refine exI rfl ⟨rfl,_,rfl,k9 (λy2=>?_) (λy2=>?_)⟩
   ·refine exI rfl (wz rfl rfl (res _ ?_))
    rw [au (by lia),au (by lia)]
   ·refine exI rfl (res _ ?_)
    rw [au (by lia),am (by lia)]
    rfl
  ·refine exI rfl (exI rfl (wz rfl rfl (exI rfl (exI rfl (wz rfl rfl ?_)))))
   refine wz rfl rfl ⟨⟨(by lia),(Sm.small (n:=65) (by lia) (by lia) (by decide)).mono (by decide)⟩,wz rfl rfl ?_⟩
   have ev:(m-(f:Int))/((n:Int)-u)=(((m.toNat-f)/(n-u):Nat):Int):=by
    rw [←qu8 fm,show ((n-u:Nat):Int)=(n:Int)-u by lia]
   rw [ev]
   refine exI rfl ⟨rfl,_,rfl,k9 (λy2=>?_) (λy2=>?_)⟩
   ·refine exI rfl (wz rfl rfl (res _ ?_))
    rw [am (by lia),au (by lia)]
   ·refine exI rfl (res _ ?_)
    rw [am (by lia),am (by lia)]
    lia
def vy (K:Aa)(C:Aj):Sp:=λvs H Q _=>∃(r p q:Aj) (hs:List Int) (t b t' b' m:Int),vs=[.ref r,.ref p,.int m,.ref q]∧RoadAt C H r hs∧ww hs∧SqT K H p [.int t,.int b]∧SqT K H q [.int t',.int b'] ∧
 (1≤b∧Sm 8000 b∧wr hs t b∧¬ Dist (itP hs (qb t b)) 1001)∧(1≤b'∧Sm 8000 b'∧wr hs t' b')∧Within m 0 (some 1000000000000000000000000000000000000000000000000000000000000) ∧
 ∀n u x H',Same H H'→n≤1000→Dist (itP hs (qb t b)) n→u<n→itP hs (qb t b) n=itP hs (qb t b) u→StR hs (qb t b) (qb t' b') n u m.toNat x→Q (.int x) H'
theorem qjb {f:Aj}{fd:Ad}(F:Fun K "stands" "stands" s_stands f fd)(T:Txt K mg qd qy qh qt qc qg qv)(c_check_count:CalD P w K mg base "check_count" 1 (yd qc))(c_on_road:MCal P w K mg base qv "on_road" 3 (jj K qv qy qh))(c_trace:Cal P w K mg base "trace" 5 (Q5 qv qg))(c_led_to:Cal P w K mg base "led_to" 1 qyc) :
  FnOk P w K mg base (CXE P w) 6 f fd ["road","point","many","other"] (vy K qv):=by
 have sc:=qjk
 refine F.okX sc (λvs H Q E h=>by obtain ⟨r,p,q,hs,t,b,t',b',m,rfl,_⟩:=h;rfl) (λcdv A outer s H vs Q E hr h=>?_)
 obtain ⟨r,p,q,hs,t,b,t',b',m,rfl,hR,hok,hp,hq,⟨hb,sb,hon,nd⟩,⟨hb',sb',hon'⟩,hw,k⟩:=h
 obtain ⟨dx,q0,h1,h2⟩:=id hR
 obtain ⟨tm,g_FARTHEST⟩:=T.g_FARTHEST
 have m0:=hw.1
 refine ⟨_,(qu (wj (i:=4) sc.nd rfl (by walk_at "loc") (zz (pv 0) T.cl c_on_road (hr.mono (by decide)) qk (qw (pv 1) qj)))
   (qu (j3 (qf c_check_count.all (hr.mono (by decide)) rfl qk (qw (pv 2) (qw qz (qw (j5 (v:=V.int 1000000000000000000000000000000000000000000000000000000000000) rfl g_FARTHEST ⟨_,rfl⟩) qj)))))
   (qu (wj (i:=5) sc.nd rfl (by walk_at "loc") (zz (pv 0) T.cl c_on_road (hr.mono (by decide)) qk (qw (pv 3) qj)))
   (qu (k8 (qf c_trace (hr.mono (by decide)) rfl qk (qw (pv 0) (qw (pv 4) qj))) (vg rfl (w8 (wt (i:=6) sc.nd rfl (by walk_at "loc")) (w8 (wt (i:=7) sc.nd rfl (by walk_at "loc")) x4))))
   (qu (xk (wf (qvg hr.units) (pv 5) (pv 6) rfl) (qp (wv qz)) wm)
   (qp (wv (qf c_led_to (hr.mono (by decide)) rfl qk (qw (wqz cu PySem.F.slot_list_index PySem.F.type_list_index (qkm hr.units) (pv 6) (qw (pv 5) qj)) (qw (pv 7) (qw (w6 xx rfl T.len_ aY (qw (pv 6) qj)) (qw (pv 2) qj)))))))))))),?_⟩
 refine ⟨_,rfl,r,dx,_,rfl,h1,wg (by decide +kernel),_,rfl,r,p,hs,t,b,rfl,hR,hok,hp,λ_=>⟨sb,λ_ p1 H1 s1 f1=>?_,λz=>absurd hon z⟩,λz=>absurd hb (by lia)⟩
 refine ⟨_,rfl,m,0,.int 1000000000000000000000000000000000000000000000000000000000000,some 1000000000000000000000000000000000000000000000000000000000000,rfl,.inr ⟨1000000000000000000000000000000000000000000000000000000000000,rfl,rfl⟩,λ_=>?_,λz=>absurd hw z⟩
 refine ⟨_,rfl,r,dx,_,rfl,s1 _ _ h1,wg (by decide +kernel),_,rfl,r,q,hs,t',b',rfl,hR.same s1,hok,s1.sqt hq,λ_=>⟨sb',λ_ p2 H2 s2 f2=>?_,λz=>absurd hon' z⟩,λz=>absurd hb' (by lia)⟩
 have s12:=s1.trans s2
 refine ⟨_,rfl,_,rfl,r,p1,hs,qb t b,b,rfl,hR.same s12,hok,s2 _ _ f1,Wt hb hon,sb,λn u q3 l3 H3 n1 d1 u1 e1 s3 _ f3 pa3=>?_,λd=>absurd d nd⟩
 obtain ⟨ws,fl,pr⟩:=pa3
 have lw:ws.length=n:=by rw [pr.length,qw4]
 refine ⟨q3,exI rfl ⟨SqT.of f3,rfl,_,_,rfl,_,_,rfl,rfl,?_⟩⟩
 have s13:=s12.trans s3
 have fin:=λx hx=>k n u x H3 s13 n1 d1 u1 e1 hx
 have f2':=s3 _ _ f2
 refine exI rfl (exI rfl ⟨l3,p2,ws,Wb hs (qb t b) n,qb t' b',rfl,rfl,fl,pr,f2',_,rfl,?_⟩)
 by_cases mem:qb t' b'∈Wb hs (qb t b) n
 ·rw [bn mem]
  refine kn ?_
  obtain ⟨f,hf,ef⟩:=aV.mp mem
  have hf':=aS.mp hf
  have g1:∀i,i<n→(Wb hs (qb t b) n)[i]?=some (itP hs (qb t b) i):=λi hi=>by
   unfold Wb
   rw [aB,be hi]
   rfl
  refine ⟨_,rfl,.inl ⟨rfl,_,SqL.of fl⟩,_,rfl,l3,p2,ws,Wb hs (qb t b) n,qb t' b',f,rfl,rfl,fl,pr,f2',by rw [g1 f hf',ef],λi hi=>?_,by lia,?_⟩
  ·rw [g1 i (by lia),←ef]
   exact λz=>d1 i f hi hf' (aj z)
  refine ⟨_,rfl,_,rfl,_,_,rfl,.inl (SqL.of fl),_,rfl,f,u,n,m,by rw [lw],hf',u1,n1,m0,fin _ (.inl ⟨f,hf',ef,rfl⟩)⟩
 ·rw [aX mem]
  refine y6 ?_
  refine fin _ (.inr ⟨λf hf ef=>mem (aV.mpr ⟨f,aS.mpr hf,ef⟩),rfl⟩)
end
section
variable {P:Ac}{w:Ah}{K:Aa}{mg:Str→Option Ag}{base:Heap}{qd:Aj}{qy:Aj}{qh:Aj}{qt:Aj}{qc:Aj}{qg:Aj}{qv:Aj}
theorem qvv {α:Type}{f:Nat→α}(st:∀i j,f i=f j→f (i+1)=f (j+1)){n u:Nat}(hu:u<n)(e:f n=f u){x:Nat}(hx:u≤x)(k:Nat):f (x+(n-u)*k)=f x:=by
 have hk:(n-u)*k=(n-u)*k:=rfl
 rw [per st hu e (x+(n-u)*k) (by lia),per st hu e x hx,show x+(n-u)*k-u=x-u+(n-u)*k by lia,Nat.add_mul_mod_self_left]
theorem go_on {α:Type}{f g:Nat→α}(sfg:∀m,f m=g m→f (m+1)=g (m+1)){m:Nat}(h:f m=g m):∀k,f (m+k)=g (m+k)
 |0=>h
 |k+1=>sfg _ (go_on sfg h k)
theorem qxc {α:Type}{f g:Nat→α}(sf:∀i j,f i=f j→f (i+1)=f (j+1))(sg:∀i j,g i=g j→g (i+1)=g (j+1))(sfg:∀m,f m=g m→f (m+1)=g (m+1)){n u n' u' m M:Nat}(hu:u<n)(e:f n=f u)(hu':u'<n')(e':g n'=g u')
  (h:f m=g m) (hM:u≤M) (hM':u'≤M) (hm:M≤m):f M=g M:=by
 have p1:=qvv sf hu e hM ((n'-u')*m)
 have p2:=qvv sg hu' e' hM' ((n-u)*m)
 have e1:(n-u)*((n'-u')*m)=(n'-u')*((n-u)*m):=by rw [←dX,←dX,cV (n-u)]
 have h1:1≤(n-u)*(n'-u'):=dS (show 1≤n-u by lia) (show 1≤n'-u' by lia)
 have h2:m≤(n-u)*((n'-u')*m):=by
  rw [←dX]
  have:=Nat.mul_le_mul_right m h1
  rwa [Nat.one_mul] at this
 have h3:=go_on sfg h (M+(n-u)*((n'-u')*m)-m)
 rw [show m+(M+(n-u)*((n'-u')*m)-m)=M+(n-u)*((n'-u')*m) by lia,p1,e1,p2] at h3
 exact h3
theorem it_two {hs:List Int}{p q:Int×Int}:∀m,itP hs p m=itP hs q m→itP hs p (m+1)=itP hs q (m+1):=λm e=>by
 show v8 hs (itP hs p m).1 (itP hs p m).2=v8 hs (itP hs q m).1 (itP hs q m).2
 rw [e]
theorem never {hs:List Int}{p q:Int×Int}{n u n' u' N:Nat}(hu:u<n)(e:itP hs p n=itP hs p u)(hu':u'<n')(e':itP hs q n'=itP hs q u')(h1:u<N)(h2:u'<N)(h:∀i,i<N→itP hs p i≠itP hs q i):∀j,itP hs p j≠itP hs q j:=λj ej=>by
 rcases br j N with z|z
 ·exact h j z ej
 ·have:=qxc qvc qvc it_two hu e hu' e' ej (M:=N-1) (by lia) (by lia) (by lia)
  exact h (N-1) (by lia) this
def zm (K:Aa)(C:Aj):Sp:=λvs H Q _=>∃(r p q:Aj) (hs:List Int) (t b t' b':Int),vs=[.ref r,.ref p,.ref q]∧RoadAt C H r hs∧ww hs∧SqT K H p [.int t,.int b]∧SqT K H q [.int t',.int b'] ∧
 (1≤b∧Sm 8000 b∧wr hs t b∧¬ Dist (itP hs (qb t b)) 1001)∧(1≤b'∧Sm 8000 b'∧wr hs t' b'∧¬ Dist (itP hs (qb t' b')) 1001) ∧
 (∀m:Nat,(∀j,j<m→itP hs (qb t b) j≠itP hs (qb t' b') j)→itP hs (qb t b) m=itP hs (qb t' b') m→∀H',Same H H'→Q (.int m) H')∧((∀j,itP hs (qb t b) j≠itP hs (qb t' b') j)→∀H',Same H H'→Q .non H')
theorem qxk {f:Aj}{fd:Ad}(F:Fun K "meeting" "meeting" s_meeting f fd)(T:Txt K mg qd qy qh qt qc qg qv)(c_on_road:MCal P w K mg base qv "on_road" 3 (jj K qv qy qh))(c_trace:Cal P w K mg base "trace" 5 (Q5 qv qg))(c_spot:Cal P w K mg base "spot" 1 qzv) :
  FnOk P w K mg base (CXE P w) 6 f fd ["road","one","other"] (zm K qv):=by
 have sc:=qxu
 refine F.okX sc (λvs H Q E h=>by obtain ⟨r,p,q,hs,t,b,t',b',rfl,_⟩:=h;rfl) (λcdv A outer s H vs Q E hr h=>?_)
 obtain ⟨r,p,q,hs,t,b,t',b',rfl,hR,hok,hp,hq,⟨hb,sb,hon,nd⟩,⟨hb',sb',hon',nd'⟩,k1,k2⟩:=h
 obtain ⟨dx,q0,h1,h2⟩:=id hR
 refine ⟨_,(qu (wj (i:=3) sc.nd rfl (by walk_at "loc") (zz (pv 0) T.cl c_on_road (hr.mono (by decide)) qk (qw (pv 1) qj)))
   (qu (wj (i:=4) sc.nd rfl (by walk_at "loc") (zz (pv 0) T.cl c_on_road (hr.mono (by decide)) qk (qw (pv 2) qj)))
   (qu (k8 (qf c_trace (hr.mono (by decide)) rfl qk (qw (pv 0) (qw (pv 3) qj))) (vg rfl (w8 (wt (i:=5) sc.nd rfl (by walk_at "loc")) (w8 (wt (i:=6) sc.nd rfl (by walk_at "loc")) x4))))
   (qu (k8 (qf c_trace (hr.mono (by decide)) rfl qk (qw (pv 0) (qw (pv 4) qj))) (vg rfl (w8 (wt (i:=7) sc.nd rfl (by walk_at "loc")) (w8 (wt (i:=8) sc.nd rfl (by walk_at "loc")) x4))))
   (qu (Wp bC rfl (xr rfl T.range_ (qw (q8 wp (w6 (Yu rfl) rfl T.max_ cG (qw (pv 6) (qw (pv 8) qj))) qz) qj)) (wt (i:=9) sc.nd rfl (by walk_at "loc")) (qp (xk (wf (qu2 hr.units) (qf c_spot (hr.mono (by decide)) rfl qk (qw (pv 5) (qw (pv 6) (qw (pv 9) qj)))) (qf c_spot (hr.mono (by decide)) rfl qk (qw (pv 7) (qw (pv 8) (qw (pv 9) qj)))) (wn _)) (qp (wv (pv 9))) wm)))
   (qp (wv yj))))))),?_⟩
 refine ⟨_,rfl,r,dx,_,rfl,h1,wg (by decide +kernel),_,rfl,r,p,hs,t,b,rfl,hR,hok,hp,λ_=>⟨sb,λ_ p1 H1 s1 f1=>?_,λz=>absurd hon z⟩,λz=>absurd hb (by lia)⟩
 refine ⟨_,rfl,r,dx,_,rfl,s1 _ _ h1,wg (by decide +kernel),_,rfl,r,q,hs,t',b',rfl,hR.same s1,hok,s1.sqt hq,λ_=>⟨sb',λ_ p2 H2 s2 f2=>?_,λz=>absurd hon' z⟩,λz=>absurd hb' (by lia)⟩
 have s12:=s1.trans s2
 refine ⟨_,rfl,_,rfl,r,p1,hs,qb t b,b,rfl,hR.same s12,hok,s2 _ _ f1,Wt hb hon,sb,λn u q3 l3 H3 n1 d1 u1 e1 s3 _ f3 pa3=>?_,λd=>absurd d nd⟩
 refine ⟨q3,exI rfl ⟨SqT.of f3,rfl,_,_,rfl,_,_,rfl,rfl,?_⟩⟩
 have s13:=s12.trans s3
 refine ⟨_,rfl,_,rfl,r,p2,hs,qb t' b',b',rfl,hR.same s13,hok,s3 _ _ f2,Wt hb' hon',sb',λn' u' q4 l4 H4 n1' d1' u1' e1' s4 _ f4 pa4=>?_,λd=>absurd d nd'⟩
 refine ⟨q4,exI rfl ⟨SqT.of f4,rfl,_,_,rfl,_,_,rfl,rfl,?_⟩⟩
 have s14:=s13.trans s4
 have T1:TrAt H4 l3 hs (qb t b) n u:=⟨n1,d1,u1,e1,pa3.same s4⟩
 have T2:TrAt H4 l4 hs (qb t' b') n' u':=⟨n1',d1',u1',e1',pa4⟩
 refine exI rfl (exI rfl ⟨_,_,rfl,_,_,rfl,rfl,exI rfl ⟨?_,?_,jt (λj σ H5=>H5=H4∧(∀i,i<j→itP hs (qb t b) i≠itP hs (qb t' b') i)∧∃z,σ=[some (.ref r),some (.ref p),some (.ref q),some (.ref p1),some (.ref p2),some (.ref l3),some (.int u),some (.ref l4),some (.int u'),z]) ⟨rfl,λi z=>absurd z (by lia),_,rfl⟩ ?_ ?_⟩⟩)
 ·split <;> lia
 ·split <;> lia
 ·rintro j σ H5 hj ⟨rfl,hmin,z,rfl⟩
  have ej:((0:Int)+j).toNat=j:=by lia
  refine exI rfl (exI rfl (exI rfl ⟨l3,hs,qb t b,n,u,exI rfl ⟨T1,(by lia),λa1 fa1=>?_⟩⟩))
  refine exI rfl (exI rfl (exI rfl ⟨l4,hs,qb t' b',n',u',exI rfl ⟨T2,(by lia),λa2 fa2=>?_⟩⟩))
  rw [ej] at fa1 fa2
  refine ⟨_,_,rd_pt (q:=itP hs (qb t b) j) (SqT.of fa1),rd_pt (q:=itP hs (qb t' b') j) (SqT.of fa2),rfl,rfl,dep_pt,_,rfl,?_⟩
  show if PyData.eqv (ptD (itP hs (qb t b) j)) (ptD (itP hs (qb t' b') j))=true then _ else _
  rw [eqv_pt]
  refine zf (λe=>?_) (λe=>?_)
  ·refine exI rfl ?_
   rw [cB]
   exact k1 j hmin e _ s14
  ·refine ⟨rfl,λi hi=>?_,_,rfl⟩
   rcases (by lia:i<j∨i=j) with y|y
   ·exact hmin i y
   ·subst y;exact e
 ·rintro σ H5 ⟨rfl,hmin,z,rfl⟩
  refine k2 (never u1 e1 u1' e1' ?_ ?_ hmin) _ s14
  ·split <;> lia
  ·split <;> lia
end
section
variable {P:Ac}{w:Ah}{K:Aa}{mg:Str→Option Ag}{base:Heap}{qd:Aj}{qy:Aj}{qh:Aj}{qt:Aj}{qc:Aj}{qg:Aj}{qv:Aj}
def Ys (C CR:Aj):Sp:=λvs H Q E=>∃(r:Aj) (hs:List Int) (k:Int),vs=[.ref r,.int k]∧RoadAt C H r hs∧(0≤k→k<(hs.length:Int)-1→∀H',Same H H'→Q (.int (hAt hs (k+1)-hAt hs k)) H') ∧
 (k<0∨(hs.length:Int)-1≤k→E (.ref CR) none H)
theorem qj1 {f:Aj}{fd:Ad}(F:Fun K "slope" "Road.slope" s_Road_slope f fd)(T:Txt K mg qd qy qh qt qc qg qv)(c_ends:MCal P w K mg base qv "ends" 2 (Wu qv qt)):FnOk P w K mg base (CXE P w) 3 f fd ["self","stretch"] (Ys qv qt):=by
 have sc:=Zp
 refine F.okX sc (λvs H Q E h=>by obtain ⟨r,hs,k,rfl,_⟩:=h;rfl) (λcdv A outer s H vs Q E hr h=>?_)
 obtain ⟨r,hs,k,rfl,hR,kq,x⟩:=h
 obtain ⟨dx,q,h1,h2⟩:=id hR
 refine ⟨_,(qu (k8 (zz (pv 0) T.cl c_ends (hr.mono (by decide)) qk (qw (pv 1) qj)) (vg rfl (w8 (wt (i:=2) sc.nd rfl (by walk_at "loc")) (w8 (wt (i:=3) sc.nd rfl (by walk_at "loc")) x4))))
   (qp (wv (q8 xm (pv 3) (pv 2))))),?_⟩
 refine ⟨_,rfl,r,dx,_,rfl,h1,wg (by decide +kernel),V.int k,rfl,r,hs,k,rfl,hR,λa b p n=>?_,λz=>x z⟩
 refine ⟨p,exI rfl ⟨SqT.new,rfl,_,_,rfl,_,_,rfl,rfl,?_⟩⟩
 exact exI rfl (exI rfl (wz rfl rfl (kq a b _ (Same.upd n))))
theorem yb {α:Type}(k:Nat)(hk:0<k)(g:Nat→Nat→α):∀w:Nat,((List.range w).map λi=>(List.range k).map (g i)).flatten=(List.range (w*k)).map λt=>g (t/k) (t%k)
 |0=>by simp
 |w+1=>by
  rw [aR,av,bU,yb k hk g w,dH,List.range_add,av,ay]
  congr 1
  show (List.map (g w) (List.range k)++[])=_
  rw [bc]
  refine aF λj hj=>?_
  have hj':=aS.mp hj
  show g w j=g ((w*k+j)/k) ((w*k+j)%k)
  rw [cV w k,Nat.mul_add_div hk,Nat.div_eq_of_lt hj',Nat.mul_add_mod,bH hj',Nat.add_zero]
def zh (hs:List Int)(m:Int):List Int:=(List.range ((hs.length-1)*m.toNat+1)).map λt:Nat=>xy hs t m
theorem uq (hs:List Int)(m:Int):(zh hs m).length=(hs.length-1)*m.toNat+1:=by unfold zh;rw [ac,az]
theorem fin_at {hs:List Int}{m:Int}(h2:2≤hs.length)(hm:1≤m){t:Nat}(ht:t<(hs.length-1)*m.toNat) :
  xy hs t m=m*hAt hs ((0:Int)+(t/m.toNat:Nat))+(hAt hs ((0:Int)+(t/m.toNat:Nat)+1)-hAt hs ((0:Int)+(t/m.toNat:Nat)))*((0:Int)+(t%m.toNat:Nat)):=by
 have hk:0<m.toNat:=by lia
 have d:=Nat.div_add_mod t m.toNat
 have md:=dh t hk
 have dl:t/m.toNat<hs.length-1:=Nat.div_lt_of_lt_mul (by rw [cV];exact ht)
 have em:((m.toNat:Nat):Int)=m:=by lia
 have dI:(t:Int)=m*(t/m.toNat:Nat)+(t%m.toNat:Nat):=by rw [←em];exact_mod_cast d.symm
 have mdI:((t%m.toNat:Nat):Int)<m:=by lia
 generalize t/m.toNat=q at d dl dI ⊢
 generalize t%m.toNat=r at d md dI mdI ⊢
 rw [xn (k:=(q:Int)) (by lia) (by lia) hm (by rw [dI];grind) (by rw [dI];grind),cB,cB]
 rw [show (t:Int)-(q:Int)*m=r by rw [dI];grind]
 grind
theorem wwv {hs:List Int}{m:Int}(h2:2≤hs.length)(hm:1≤m):xy hs (((hs.length-1)*m.toNat:Nat):Int) m=m*hAt hs ((hs.length:Int)-1):=by
 have em:((m.toNat:Nat):Int)=m:=by lia
 have e:(((hs.length-1)*m.toNat:Nat):Int)=((hs.length:Int)-1)*m:=by
  push_cast
  rw [show ((hs.length-1:Nat):Int)=(hs.length:Int)-1 by lia,em]
 rw [e,xn (k:=(hs.length:Int)-1-1) (by lia) (by lia) hm (by grind) (by grind),show (hs.length:Int)-1-1+1=(hs.length:Int)-1 by lia]
 generalize hAt hs ((hs.length:Int)-1)=v
 generalize hAt hs ((hs.length:Int)-1-1)=u
 grind
theorem wxu {hs:List Int}{m:Int}(h2:2≤hs.length)(hm:1≤m) :
  ((List.range (hs.length-1)).map λi:Nat=>(List.range m.toNat).map λj:Nat=>V.int (m*hAt hs ((0:Int)+i)+(hAt hs ((0:Int)+i+1)-hAt hs ((0:Int)+i))*((0:Int)+j))).flatten++[V.int (m*hAt hs ((hs.length:Int)-1))]=(zh hs m).map V.int:=by
 rw [yb m.toNat (by lia) (λi j:Nat=>V.int (m*hAt hs ((0:Int)+i)+(hAt hs ((0:Int)+i+1)-hAt hs ((0:Int)+i))*((0:Int)+j)))]
 unfold zh
 rw [aR,av,av,ay]
 congr 1
 ·refine aF λt ht=>?_
  exact bQ V.int (fin_at h2 hm (aS.mp ht)).symm
 ·exact bQ (λz=>[V.int z]) (wwv h2 hm).symm
theorem qj3 {hs:List Int}{m:Int}(ok:ww hs)(hm:1≤m)(hs24:((hs.length:Int)-1)*m≤24):ww (zh hs m):=by
 have h1:=ok.1
 have em:((m.toNat:Nat):Int)=m:=by lia
 have e:(((hs.length-1)*m.toNat:Nat):Int)=((hs.length:Int)-1)*m:=by
  push_cast
  rw [show ((hs.length-1:Nat):Int)=(hs.length:Int)-1 by lia,em]
 have p1:1≤(hs.length-1)*m.toNat:=dS (show 1≤hs.length-1 by lia) (show 1≤m.toNat by lia)
 refine ⟨by rw [uq];lia,by rw [uq];lia,λx hx=>?_⟩
 unfold zh at hx
 obtain ⟨t,ht,rfl⟩:=aV.mp hx
 have ht':=aS.mp ht
 have on:wr hs (t:Int) m:=⟨by lia,by rw [←e];lia⟩
 have l:=Y4 ok hm on
 rw [uq]
 refine ⟨l.1,?_⟩
 have:=l.2
 lia
theorem quy {hs:List Int}(h:2≤hs.length):atI (hs.map V.int) (-1)=some (V.int (hAt hs ((hs.length:Int)-1))):=by
 have hne:hs≠[]:=by intro z;rw [z] at h;simp at h
 have e:=cR hne
 have g:hAt hs ((hs.length:Int)-1)=hs.getLast hne:=by
  unfold hAt
  rw [ak,show ((hs.length:Int)-1).toNat=hs.length-1 by lia,←cf,bW hne]
  rfl
 rw [g]
 have:hs.map V.int=hs.dropLast.map V.int++[V.int (hs.getLast hne)]:=by
  conv=>lhs;rw [←e]
  rw [av]
  rfl
 rw [this]
 exact Wn _ _
def Jm (C CB:Aj):Sp:=λvs H Q E=>∃(r:Aj) (hs:List Int) (m:Int),vs=[.ref r,.int m]∧RoadAt C H r hs∧ww hs∧1≤m∧m≤1000∧(((hs.length:Int)-1)*m≤24→∀x H',H x=none→Same H H'→RoadAt C H' x (zh hs m)→Q (.ref x) H')∧(24<((hs.length:Int)-1)*m→∀H',Same H H'→E (.ref CB) none H')
theorem qjg {f:Aj}{fd:Ad}(F:Fun K "finer" "finer" s_finer f fd)(T:Txt K mg qd qy qh qt qc qg qv)(c_check_count:CalD P w K mg base "check_count" 1 (yd qc))(c_Road:CCal P w K mg base "Road" qv 2 (yc K qd qv))(c_width:MCal P w K mg base qv "width" 1 (vw qv))(c_corners:MCal P w K mg base qv "corners" 1 (vz qv))
  (c_ends:MCal P w K mg base qv "ends" 2 (Wu qv qt)) (c_slope:MCal P w K mg base qv "slope" 3 (Ys qv qt)):FnOk P w K mg base (CXE P w) 4 f fd ["road","many"] (Jm qv qd):=by
 have sc:=qj4
 refine F.okX sc (λvs H Q E h=>by obtain ⟨r,hs,m,rfl,_⟩:=h;rfl) (λcdv A outer s H vs Q E hr h=>?_)
 obtain ⟨r,hs,m,rfl,hR,ok,m1,m2,k,kx⟩:=h
 obtain ⟨dx,q,h1,h2⟩:=id hR
 obtain ⟨tw,g_WIDEST⟩:=T.g_WIDEST
 have ol:=ok.2.1
 have ol1:=ok.1
 have big:(1000000:Nat)<sizeLine:=by decide
 refine ⟨_,(qu (j3 (qyb c_check_count (hr.mono (by decide)) rfl qk (qw (pv 1) (qw qz qj))))
   (qu (xk (wf yw (q8 w5 (xg (pv 0) T.cl c_width (hr.mono (by decide)) qk) (pv 1)) (j5 (v:=V.int 24) rfl g_WIDEST ⟨_,rfl⟩) (wn _)) (qp (zr rfl T.x_BadLine x8 rfl T.g_BadLine (qw jb qj))) wm)
   (qu (qwk (i:=2) (M:=[0,1]) sc.nd rfl (by walk_at "loc") rfl rfl (by walk_at "cap") (by walk_at "has") (by walk_at "cix") rfl (by decide +kernel) rfl rfl (show List.Nodup (["stretch","beyond","road","many"]:List Str) by decide +kernel) (xr rfl T.range_ (qw (xg (pv 0) T.cl c_width (hr.mono (by decide)) qk) qj)) (λ_ _ _ _ _=>(xr rfl T.range_ (qw (pv 3) qj))) (λ_ _ _ _ _=>(q8 wp (q8 w5 (pv 3) (wc (ww5 (K:=K) rfl) (zz (pv 2) T.cl c_ends (hr.mono (by decide)) kg (qw (pv 0) qj)) qz (λ_ _=>rfl))) (q8 w5 (zz (pv 2) T.cl c_slope (hr.mono (by decide)) kg (qw (pv 0) qj)) (pv 1)))))
   (qp (wv (jh c_Road (hr.mono (by decide)) rfl qk (qw (q8 W1 (pv 2) (jg (qw (q8 w5 (pv 1) (wc wx (xg (pv 0) T.cl c_corners (hr.mono (by decide)) qk) (qqn Wr qz) (λ_ _=>rfl))) qj))) qj))))))),?_⟩
 refine ⟨_,rfl,m,1,.non,none,rfl,.inl ⟨rfl,rfl⟩,λ_=>?_,λw1=>absurd ⟨m1,λ_ e=>nomatch e⟩ w1⟩
 refine exI rfl ⟨r,dx,exI rfl ⟨h1,wg (by decide +kernel),r,hs,rfl,hR,exI rfl (wz rfl rfl ⟨(by walk_at "mul"),wz rfl rfl (exI rfl (zf (λz=>?_) (λz=>?_)))⟩)⟩⟩
 ·exact ⟨sz1,kx z H (Same.refl _)⟩
 have z24:((hs.length:Int)-1)*m≤24:=by lia
 have m24:m≤24:=by
  have:=ao (show (1:Int)≤(hs.length:Int)-1 by lia) (show (0:Int)≤m by lia)
  lia
 have n24:(hs.length-1)*m.toNat≤1000000:=bp (dS (show hs.length-1≤24 by lia) (show m.toNat≤24 by lia)) (by decide)
 refine ⟨_,rfl,r,dx,_,rfl,h1,wg (by decide +kernel),r,hs,rfl,hR,(hs.length:Int)-1,rfl,by lia,by lia,?_⟩
 have hb:=uj ok
 refine qwj (n:=((hs.length:Int)-1).toNat) (k:=m.toNat) (lo:=0) (lo2:=0) (λi j=>V.int (m*hAt hs ((0:Int)+i)+(hAt hs ((0:Int)+i+1)-hAt hs ((0:Int)+i))*((0:Int)+j))) (by rw [show ((hs.length:Int)-1).toNat=hs.length-1 by lia];exact n24) (λi H' R hi s' hR'=>?_) (λi j H' R hi hj s' hR'=>?_) λp H' np s' f'=>?_
 ·exact ⟨_,rfl,m,rfl,by lia,by lia,hR' H' (Same.refl _)⟩
 ·have b0:=hb ((0:Int)+i)
  have b1:=hb ((0:Int)+i+1)
  refine ⟨_,rfl,_,rfl,r,dx,_,rfl,s' _ _ h1,wg (by decide +kernel),_,rfl,r,hs,_,rfl,hR.same s',λ_ _ p1 n1=>?_,λy=>absurd y (by lia)⟩
  have s1:=Same.upd (o:=.tup [.int (hAt hs ((0:Int)+i)),.int (hAt hs ((0:Int)+i+1))]) n1
  refine exX rfl rfl SqT.new rfl (wz rfl rfl ⟨(by walk_at "mul"),?_⟩)
  refine ⟨_,rfl,r,dx,_,rfl,(s'.trans s1) _ _ h1,wg (by decide +kernel),_,rfl,r,hs,_,rfl,hR.same (s'.trans s1),λ_ _ H2 s2=>?_,λy=>absurd y (by lia)⟩
  exact exI rfl (wz rfl rfl ⟨(by walk_at "mul"),wz rfl rfl (hR' H2 (s1.trans s2))⟩)
 ·rw [show ((hs.length:Int)-1).toNat=hs.length-1 by lia] at f'
  refine exI rfl (exI rfl (exI rfl ⟨r,dx,exI rfl ⟨s' _ _ h1,wg (by decide +kernel),r,hs,rfl,hR.same s',λp2 n2=>?_⟩⟩))
  have s2:=Same.upd (o:=.lst (hs.map V.int)) n2
  have bl:=hb ((hs.length:Int)-1)
  refine exI rfl (exX rfl rfl SqL.new (quy ol1) (wz rfl rfl ⟨(by walk_at "mul"),sz1,λp3 n3=>?_⟩))
  have s3:=Same.upd (o:=.lst [V.int (m*hAt hs ((hs.length:Int)-1))]) n3
  refine ⟨p,p3,wz rfl rfl ⟨(s2.trans s3) _ _ f',qm,?_,λp4 n4=>?_⟩⟩
  ·rw [yb m.toNat (by lia) (λi j:Nat=>V.int (m*hAt hs ((0:Int)+i)+(hAt hs ((0:Int)+i+1)-hAt hs ((0:Int)+i))*((0:Int)+j))),ac,az]
   simp only [aN,bN]
   lia
  rw [wxu ol1 m1]
  have s4:=Same.upd (o:=.lst ((zh hs m).map V.int)) n4
  have t4:=s'.trans (s2.trans (s3.trans s4))
  refine λx d0 nx nd0 ne0=>yn qm nx nd0 (λ_ H5 s5 R=>k z24 x H5 (t4.free nx) (t4.trans s5) R) λy=>absurd (qj3 ok m1 z24) y
def xf (hs:List Int):List Int:=hs.map (λh=>(hs.length:Int)-1+1+h)++(List.range hs.length).map λk:Nat=>(0:Int)+k
theorem zn (hs:List Int):(xf hs).length=hs.length+hs.length:=by unfold xf;rw [ar,ac,ac,az]
theorem wwr {hs:List Int}(h:ww hs):ww (xf hs)↔2*hs.length≤25:=by
 constructor
 ·intro z
  have:=z.2.1
  rw [zn] at this
  lia
 ·intro z
  have h1:=h.1
  refine ⟨by rw [zn];lia,by rw [zn];lia,λx hx=>?_⟩
  rw [zn]
  unfold xf at hx
  rcases aP.mp hx with hx|hx
  ·obtain ⟨y,hy,rfl⟩:=aV.mp hx
   have:=h.2.2 y hy
   lia
  ·obtain ⟨y,hy,rfl⟩:=aV.mp hx
   have:=aS.mp hy
   lia
def Qc (w:Int):V→V
 |.int i=>.int (w+i)
 |v=>v
theorem wqr (hs:List Int):(hs.map V.int).map (Qc ((hs.length:Int)-1+1))++(List.range hs.length).map (λk:Nat=>V.int ((0:Int)+k))=(xf hs).map V.int:=by
 unfold xf
 rw [av,ay,ay,ay]
 rfl
def qjr (C CB:Aj):Sp:=λvs H Q E=>∃(r:Aj) (hs:List Int),vs=[.ref r]∧RoadAt C H r hs∧ww hs∧(ww (xf hs)→∀x H',H x=none→Same H H'→RoadAt C H' x (xf hs)→Q (.ref x) H')∧(¬ ww (xf hs)→∀H',Same H H'→E (.ref CB) none H')
theorem ok_dbl {f:Aj}{fd:Ad}(F:Fun K "doubled" "doubled" s_doubled f fd)(T:Txt K mg qd qy qh qt qc qg qv)(c_Road:CCal P w K mg base "Road" qv 2 (yc K qd qv))(c_width:MCal P w K mg base qv "width" 1 (vw qv))(c_corners:MCal P w K mg base qv "corners" 1 (vz qv)) :
  FnOk P w K mg base (CXE P w) 4 f fd ["road"] (qjr qv qd):=by
 have sc:=qxd
 refine F.okX sc (λvs H Q E h=>by obtain ⟨r,hs,rfl,_⟩:=h;rfl) (λcdv A outer s H vs Q E hr h=>?_)
 obtain ⟨r,hs,rfl,hR,ok,k,kx⟩:=h
 obtain ⟨dx,q,h1,h2⟩:=id hR
 have ol:=ok.2.1
 have ol1:=ok.1
 refine ⟨_,(qu (wj (i:=1) sc.nd rfl (by walk_at "loc") (xg (pv 0) T.cl c_width (hr.mono (by decide)) qk))
   (qp (wv (jh c_Road (hr.mono (by decide)) rfl qk (qw (q8 W1 (vn (M:=[1]) rfl rfl (by walk_at "cap") (by walk_at "has") (by walk_at "cix") rfl (by decide +kernel) rfl (show List.Nodup (["height","width"]:List Str) by decide +kernel) (yf (xg (pv 0) T.cl c_corners (hr.mono (by decide)) qk)) (λ_ _ _ _ _=>(q8 wp (q8 wp (pv 1) qz) (pv 0)))) (Zu rfl rfl T.list_ rfl T.range_ (qw (q8 wp (pv 1) qz) qj))) qj))))),?_⟩
 refine exI rfl ⟨r,dx,exI rfl ⟨h1,wg (by decide +kernel),r,hs,rfl,hR,?_⟩⟩
 refine exI rfl ⟨r,dx,exI rfl ⟨h1,wg (by decide +kernel),r,hs,rfl,hR,λp1 n1=>?_⟩⟩
 have s1:Same H (upd H p1 (.lst (hs.map V.int))):=Same.upd n1
 have f1:upd H p1 (.lst (hs.map V.int)) p1=some (.lst (hs.map V.int)):=qm
 generalize hH1:upd H p1 (.lst (hs.map V.int))=H1 at s1 f1
 refine ⟨p1,rfl,⟨_,SqL.of f1⟩,Yf (K:=K) (a:=p1) (Qc ((hs.length:Int)-1+1)) (SqL.of f1) (by rw [ac];lia) (λx H' R hx hs' hR'=>?_) λp2 n2=>?_⟩
 ·obtain ⟨i,_,rfl⟩:=aV.mp hx
  exact exI rfl (wz rfl rfl (exI rfl (wz rfl rfl hR')))
 ·have s2:=Same.upd (o:=.lst ((hs.map V.int).map (Qc ((hs.length:Int)-1+1)))) n2
  have f2:upd H1 p2 (.lst ((hs.map V.int).map (Qc ((hs.length:Int)-1+1)))) p2=some (.lst ((hs.map V.int).map (Qc ((hs.length:Int)-1+1)))):=qm
  generalize upd H1 p2 (.lst ((hs.map V.int).map (Qc ((hs.length:Int)-1+1))))=H2 at s2 f2
  refine ⟨_,rfl,_,_,rfl,rfl,(hs.length:Int)-1+1,rfl,⟨by lia,by lia⟩,by lia,λp3 n3=>?_⟩
  rw [show ((hs.length:Int)-1+1).toNat=hs.length by lia]
  have s3:=Same.upd (o:=.lst ((List.range hs.length).map λk:Nat=>V.int ((0:Int)+k))) n3
  refine ⟨p2,p3,wz rfl rfl ⟨s3 _ _ f2,qm,?_,λp4 n4=>?_⟩⟩
  ·rw [ac,ac,ac,az]
   have:(1000000:Nat)<sizeLine:=by decide
   lia
  ·rw [wqr]
   have s4:=Same.upd (o:=.lst ((xf hs).map V.int)) n4
   have t4:=s1.trans (s2.trans (s3.trans s4))
   refine λx d0 nx nd0 ne0=>yn qm nx nd0 (λokd H' s5 R=>k okd x H' (t4.free nx) (t4.trans s5) R) λz H' s5=>kx z H' (t4.trans s5)
end
section
variable {P:Ac}{w:Ah}{K:Aa}{mg:Str→Option Ag}{base:Heap}{qd:Aj}{qy:Aj}{qh:Aj}{qt:Aj}{qc:Aj}{qg:Aj}{qv:Aj}
abbrev Cor:=(Int×Int)×Int
structure Cell where
 u:Int
 S:Int
 a:Int
 b:Int
def Cell.D (c:Cell):Nat:=if (c.b-c.a).natAbs=0 then 1 else (c.b-c.a).natAbs
def Cell.sg (c:Cell):Int:=if c.b>c.a then 1 else if c.b<c.a then -1 else 0
def Cell.lft (c:Cell):Cor:=(qb c.u c.S,c.a)
def Cell.rgt (c:Cell):Cor:=(qb (c.u+1) c.S,c.b)
def xq:List Cell→List Cor
 |[]=>[]
 |[c]=>[c.lft,c.rgt]
 |c::d::r=>c.lft::xq (d::r)
def zq (n M:Int):List Cell→Prop
 |[]=>False
 |[c]=>1≤c.S∧c.S≤M∧0≤c.u∧c.u+1≤n*c.S∧(0≤c.a∧c.a≤n)∧0≤c.b∧c.b≤n
 |c::d::r=>(1≤c.S∧c.S≤M∧0≤c.u∧c.u+1≤n*c.S∧(0≤c.a∧c.a≤n)∧0≤c.b∧c.b≤n)∧c.rgt=d.lft∧zq n M (d::r)
def Cell.cut (c:Cell):List Cell:=(List.range c.D).map λk:Nat=>⟨c.u*c.D+k,c.S*c.D,c.a+c.sg*k,c.a+c.sg*(k+1)⟩
def Cell.up (hs:List Int)(c:Cell):Cell:=⟨c.u,c.S,hAt hs c.a,hAt hs c.b⟩
def zg (hs:List Int)(cs:List Cell):List Cell:=(cs.map λc=>c.cut.map (Cell.up hs)).flatten
def zu (hs:List Int):List Cell:=(List.range (hs.length-1)).map λk:Nat=>⟨k,1,hAt hs k,hAt hs (k+1)⟩
def xj (hs:List Int):Nat→List Cell
 |0=>zu hs
 |t+1=>zg hs (xj hs t)
def z8 (l r:Cor):List Cor:=l::(List.range ((r.2-l.2).natAbs-1)).map λk:Nat=>(qb (l.1.1*r.1.2*(((r.2-l.2).natAbs:Int)-(1+k))+r.1.1*l.1.2*(1+k)) (l.1.2*r.1.2*((r.2-l.2).natAbs:Int)),l.2+(if r.2>l.2 then 1 else -1)*(1+k))
def xc:List Cor→List Cor
 |[]=>[]
 |[c]=>[c]
 |l::r::rest=>z8 l r++xc (r::rest)
theorem D_pos (c:Cell):1≤c.D:=by unfold Cell.D;split <;> lia
theorem Wv {c:Cell}(hS:1≤c.S):z8 c.lft c.rgt=c.cut.map Cell.lft:=by
 have hD:=D_pos c
 unfold z8 Cell.cut
 rw [ay]
 have eD:(c.b-c.a).natAbs-1=c.D-1:=by unfold Cell.D;split <;> lia
 show c.lft::(List.range ((c.b-c.a).natAbs-1)).map _=_
 rw [eD]
 obtain ⟨d,hd⟩:∃d,c.D=d+1:=⟨c.D-1,by lia⟩
 rw [hd,Nat.add_sub_cancel,cC,aK,ay]
 have one:c.lft=(Cell.lft∘λk:Nat=>(⟨c.u*((d+1:Nat):Int)+k,c.S*((d+1:Nat):Int),c.a+c.sg*k,c.a+c.sg*(k+1)⟩:Cell)) 0:=by
  show (qb c.u c.S,c.a)=(qb (c.u*((d+1:Nat):Int)+((0:Nat):Int)) (c.S*((d+1:Nat):Int)),c.a+c.sg*((0:Nat):Int))
  rw [show c.u*((d+1:Nat):Int)+((0:Nat):Int)=c.u*((d+1:Nat):Int) by lia,j0 hS (by lia)]
  simp
 rw [←one]
 congr 1
 refine aF λk hk=>?_
 have hk':=aS.mp hk
 have nz:¬ (c.b-c.a).natAbs=0:=λz=>by unfold Cell.D at hd;rw [au z] at hd;lia
 have eN:(c.b-c.a).natAbs=d+1:=by unfold Cell.D at hd;rw [am nz] at hd;exact hd
 have sgE:c.sg=if c.b>c.a then 1 else -1:=by unfold Cell.sg;split;rfl;split;rfl;lia
 have l1:1≤(qb c.u c.S).2:=zb hS
 have l2:1≤(qb (c.u+1) c.S).2:=zb hS
 have x1:=vv (t:=c.u) hS
 have x2:=vv (t:=c.u+1) hS
 show (qb ((qb c.u c.S).1*(qb (c.u+1) c.S).2*(((c.b-c.a).natAbs:Int)-(1+k))+(qb (c.u+1) c.S).1*(qb c.u c.S).2*(1+k)) ((qb c.u c.S).2*(qb (c.u+1) c.S).2*((c.b-c.a).natAbs:Int)),c.a+(if c.b>c.a then 1 else -1)*(1+(k:Int)))=(qb (c.u*((d+1:Nat):Int)+((k+1:Nat):Int)) (c.S*((d+1:Nat):Int)),c.a+c.sg*((k+1:Nat):Int))
 rw [eN,sgE]
 generalize (qb c.u c.S).1=t1 at x1
 generalize (qb c.u c.S).2=b1 at x1 l1
 generalize (qb (c.u+1) c.S).1=t2 at x2
 generalize (qb (c.u+1) c.S).2=b2 at x2 l2
 have p1:1≤b1*b2:=by have:=aU l1 l2 (by lia) (by lia);simpa using this
 have p2:(1:Int)≤b1*b2*((d+1:Nat):Int):=by have:=aU p1 (show (1:Int)≤((d+1:Nat):Int) by lia) (by lia) (by lia);simpa using this
 have p3:(1:Int)≤c.S*((d+1:Nat):Int):=by have:=aU hS (show (1:Int)≤((d+1:Nat):Int) by lia) (by lia) (by lia);simpa using this
 congr 1
 ·refine (Wm p2 p3).mp ?_
  generalize ((d+1:Nat):Int)=E
  push_cast
  grind
 ·push_cast
  grind
theorem W3 {n M:Int}:∀ {cs:List Cell},zq n M cs→xc (xq cs)=(cs.map λc=>c.cut.map Cell.lft).flatten++(match cs.getLast? with|some c=>[c.rgt]|none=>[])
 |[],h=>h.elim
 |[c],h=>by
  show z8 c.lft c.rgt++[c.rgt]=_
  rw [Wv h.1]
  simp
 |c::d::r,h=>by
  have ih:=W3 h.2.2
  have e:∀l:List Cor,xc (c.lft::d.lft::l)=z8 c.lft d.lft++xc (d.lft::l):=λl=>rfl
  cases r with
  |nil =>
   show xc (c.lft::d.lft::[d.rgt])=_
   rw [e,show xc (d.lft::[d.rgt])=xc (xq [d]) from rfl,ih,←h.2.1,Wv h.1.1]
   simp
  |cons g r =>
   show xc (c.lft::d.lft::xq (g::r))=_
   rw [e,show xc (d.lft::xq (g::r))=xc (xq (d::g::r)) from rfl,ih,←h.2.1,Wv h.1.1]
   simp
def Ww (n M:Int)(c:Cell):Prop:=1≤c.S∧c.S≤M∧0≤c.u∧c.u+1≤n*c.S∧(0≤c.a∧c.a≤n)∧0≤c.b∧c.b≤n
theorem qkq {n M:Int}{c:Cell}(h:Ww n M c):zq n M [c]:=h
theorem Q9 {n M:Int}{c d:Cell}{r:List Cell}(h:Ww n M c)(e:c.rgt=d.lft)(t:zq n M (d::r)):zq n M (c::d::r):=⟨h,e,t⟩
theorem u8 {n M:Int}:∀ {xs ys:List Cell},zq n M xs→zq n M ys→xs.getLast?.map Cell.rgt=ys.head?.map Cell.lft→zq n M (xs++ys)
 |[],_,h,_,_=>h.elim
 |[c],[],_,h,_=>h.elim
 |[c],d::r,h,t,e=>Q9 h (aj e) t
 |c::d::r,ys,h,t,e=>Q9 h.1 h.2.1 (u8 (xs:=d::r) h.2.2 t (by simpa using e))
theorem zv {n M:Int}{cs:List Cell}(h:zq n M cs):cs≠[]:=by
 intro z
 rw [z] at h
 exact h
theorem vj {n M:Int}:∀ {cs:List Cell},zq n M cs→∀c∈cs,Ww n M c
 |[],h,_,_=>h.elim
 |[c],h,x,hx=>by rw [aT.mp hx];exact h
 |c::d::r,h,x,hx=>by
  rcases aw.mp hx with rfl|hx
  ·exact h.1
  ·exact vj h.2.2 x hx
theorem ju {n M:Int}(f:Nat→Cell):∀d:Nat,(∀k,k≤d→Ww n M (f k))→(∀k,k<d→(f k).rgt=(f (k+1)).lft)→zq n M ((List.range (d+1)).map f)
 |0,g,_=>g 0 (al _)
 |d+1,g,c=>by
  rw [aR,av]
  refine u8 (ju f d (λk hk=>g k (by lia)) λk hk=>c k (by lia)) (qkq (g (d+1) (al _))) ?_
  rw [aR,av,cb]
  exact bQ some (c d (by lia))
def qqx (hs:List Int)(c:Cor):Cor:=(c.1,hAt hs c.2)
theorem sg_mul (c:Cell):c.a+c.sg*(c.D:Int)=c.b:=by
 unfold Cell.sg Cell.D
 split
 ·rename_i h
  rw [am (by lia)]
  lia
 ·split
  ·rename_i h1 h2
   rw [am (by lia)]
   lia
  ·lia
theorem D_le {c:Cell}{n:Int}(hn:1≤n)(h1:0≤c.a∧c.a≤n)(h2:0≤c.b∧c.b≤n):(c.D:Int)≤n:=by unfold Cell.D;split <;> lia
theorem Q7 {hs:List Int}(ok:ww hs){M:Int}{c:Cell}(h:Ww ((hs.length:Int)-1) M c) :
  zq ((hs.length:Int)-1) (24*M) (c.cut.map (Cell.up hs))∧(c.cut.map (Cell.up hs)).head?.map Cell.lft=some (qqx hs c.lft)∧(c.cut.map (Cell.up hs)).getLast?.map Cell.rgt=some (qqx hs c.rgt):=by
 obtain ⟨g1,g2,g3,g4,g5,g6⟩:=h
 have o1:=ok.1
 have o2:=ok.2.1
 have hD:=D_pos c
 have hDn:=D_le (c:=c) (n:=(hs.length:Int)-1) (by lia) g5 g6
 obtain ⟨d,hd⟩:∃d,c.D=d+1:=⟨c.D-1,by lia⟩
 have e:c.cut.map (Cell.up hs)=(List.range (d+1)).map λk:Nat=>(⟨c.u*c.D+k,c.S*c.D,hAt hs (c.a+c.sg*k),hAt hs (c.a+c.sg*(k+1))⟩:Cell):=by
  unfold Cell.cut
  rw [ay,hd]
  rfl
 rw [e]
 have sD:1≤c.S*(c.D:Int):=by have:=aU g1 (show (1:Int)≤c.D by lia) (by lia) (by lia);simpa using this
 have hr:=uj ok
 refine ⟨ju _ d (λk hk=>⟨sD,?_,?_,?_,⟨(hr _).1,(hr _).2⟩,(hr _).1,(hr _).2⟩) λk hk=>?_,?_,?_⟩
 ·show c.S*(c.D:Int)≤24*M
  have:=aU g2 (show (c.D:Int)≤24 by lia) (by lia) (by lia)
  lia
 ·show 0≤c.u*(c.D:Int)+k
  have:=bo g3 (show (0:Int)≤c.D by lia)
  lia
 ·show c.u*(c.D:Int)+k+1≤((hs.length:Int)-1)*(c.S*(c.D:Int))
  have:=ao g4 (show (0:Int)≤c.D by lia)
  have e2:(c.u+1)*(c.D:Int)=c.u*c.D+c.D:=by grind
  have e3:((hs.length:Int)-1)*c.S*(c.D:Int)=((hs.length:Int)-1)*(c.S*(c.D:Int)):=by grind
  lia
 ·show (qb (c.u*c.D+k+1) (c.S*c.D),hAt hs (c.a+c.sg*(k+1)))=(qb (c.u*c.D+((k+1:Nat):Int)) (c.S*c.D),hAt hs (c.a+c.sg*((k+1:Nat):Int)))
  push_cast
  rw [Int.add_assoc]
 ·rw [cC,aK]
  show some (qb (c.u*c.D+((0:Nat):Int)) (c.S*c.D),hAt hs (c.a+c.sg*((0:Nat):Int)))=some (qb c.u c.S,hAt hs c.a)
  rw [show c.u*(c.D:Int)+((0:Nat):Int)=c.u*(c.D:Int) by lia,j0 g1 (by lia)]
  simp
 ·rw [aR,av,cb]
  show some (qb (c.u*c.D+(d:Int)+1) (c.S*c.D),hAt hs (c.a+c.sg*((d:Int)+1)))=some (qb (c.u+1) c.S,hAt hs c.b)
  have e1:c.u*(c.D:Int)+(d:Int)+1=(c.u+1)*(c.D:Int):=by rw [hd];push_cast;grind
  have e2:c.a+c.sg*((d:Int)+1)=c.b:=by have:=sg_mul c;rw [hd] at this;push_cast at this;exact this
  rw [e1,e2,j0 g1 (by lia)]
theorem qu7 {α:Type}{xs ys:List α}(h:xs≠[]):(xs++ys).head?=xs.head?:=by
 cases xs with
 |nil=>exact absurd rfl h
 |cons x l=>rfl
theorem qyj {α:Type}{xs ys:List α}(h:ys≠[]):(xs++ys).getLast?=ys.getLast?:=by
 rw [cb]
 cases g:ys.getLast? with
 |none=>exact absurd (cg.mp g) h
 |some c=>rfl
theorem yk {hs:List Int}(ok:ww hs){M:Int}:∀ {cs:List Cell},zq ((hs.length:Int)-1) M cs →
  zq ((hs.length:Int)-1) (24*M) (zg hs cs)∧(zg hs cs).head?.map Cell.lft=cs.head?.map (λc=>qqx hs c.lft)∧(zg hs cs).getLast?.map Cell.rgt=cs.getLast?.map (λc=>qqx hs c.rgt)
 |[],h=>h.elim
 |[c],h=>by
  have:=Q7 ok (vj h c (by simp))
  show zq _ _ (c.cut.map (Cell.up hs)++[])∧(c.cut.map (Cell.up hs)++[]).head?.map Cell.lft=_∧(c.cut.map (Cell.up hs)++[]).getLast?.map Cell.rgt=_
  rw [bc]
  exact this
 |c::d::r,h=>by
  have a:=Q7 ok h.1
  have b:=yk ok h.2.2
  have e:zg hs (c::d::r)=c.cut.map (Cell.up hs)++zg hs (d::r):=rfl
  have ne1:=zv a.1
  have ne2:=zv b.1
  rw [e]
  refine ⟨u8 a.1 b.1 ?_,?_,?_⟩
  ·rw [a.2.2,b.2.1,h.2.1]
   rfl
  ·rw [qu7 ne1,a.2.1]
   rfl
  ·rw [qyj ne2,b.2.2]
   rfl
theorem j1:∀ {cs:List Cell} (h:cs≠[]),xq cs=cs.map Cell.lft++(match cs.getLast? with|some c=>[c.rgt]|none=>[])
 |[],h=>absurd rfl h
 |[c],_=>rfl
 |c::d::r,_=>by
  show c.lft::xq (d::r)=_
  rw [j1 (cs:=d::r) (by simp)]
  simp
theorem qkt {hs:List Int}(ok:ww hs){M:Int}{cs:List Cell}(h:zq ((hs.length:Int)-1) M cs):(xc (xq cs)).map (qqx hs)=xq (zg hs cs):=by
 have b:=yk ok h
 rw [W3 h,j1 (zv b.1),av]
 congr 1
 ·unfold zg
  rw [cJ,cJ,ay,ay]
  congr 1
  refine aF λc _=>?_
  show (c.cut.map Cell.lft).map (qqx hs)=(c.cut.map (Cell.up hs)).map Cell.lft
  rw [ay,ay]
  rfl
 ·have e:=b.2.2
  cases g:cs.getLast? with
  |none=>exact absurd (cg.mp g) (zv h)
  |some c =>
   rw [g] at e
   cases g2:(zg hs cs).getLast? with
   |none=>rw [g2] at e;cases e
   |some d =>
    rw [g2] at e
    have e':d.rgt=qqx hs c.rgt:=aj e
    show [qqx hs c.rgt]=[d.rgt]
    rw [e']
theorem qxr {hs:List Int}(ok:ww hs):zq ((hs.length:Int)-1) 1 (zu hs):=by
 have o1:=ok.1
 have hr:=uj ok
 obtain ⟨d,hd⟩:∃d,hs.length-1=d+1:=⟨hs.length-2,(Nat.sub_add_cancel (show 1≤hs.length-1 from Nat.sub_le_sub_right o1 1)).symm⟩
 unfold zu
 rw [hd]
 refine ju _ d (λk hk=>⟨by show (1:Int)≤1;decide,by show (1:Int)≤1;decide,by show (0:Int)≤k;lia,by show (k:Int)+1≤((hs.length:Int)-1)*1;lia,hr _,hr _⟩) λk hk=>?_
 show (qb ((k:Int)+1) 1,hAt hs ((k:Int)+1))=(qb ((k+1:Nat):Int) 1,hAt hs ((k+1:Nat):Int))
 push_cast
 rfl
theorem ut {hs:List Int}(ok:ww hs):∀t:Nat,zq ((hs.length:Int)-1) (24 ^ t) (xj hs t)
 |0=>qxr ok
 |t+1=>by
  have:=(yk ok (ut ok t)).1
  rw [show (24:Int) ^ (t+1)=24*24 ^ t by rw [Int.pow_succ];lia]
  exact this
theorem y4:∀ {cs:List Cell},cs≠[]→(xq cs).length=cs.length+1:=λ{cs} h=>by
 rw [j1 h,ar,ac]
 cases g:cs.getLast? with
 |none=>exact absurd (cg.mp g) h
 |some c=>rfl
def CoR (H:Hp)(v:V)(c:Cor):Prop:=∃q pq,v=.ref q∧H q=some (.tup [.ref pq,.int c.2])∧H pq=some (.tup [.int c.1.1,.int c.1.2])
theorem CoR.keep {H H':Hp}{v:V}{c:Cor}(h:CoR H v c)(k:∀b o,(∀xs,o≠.lst xs)→H b=some o→H' b=some o):CoR H' v c:=by
 obtain ⟨q,pq,e,a,b⟩:=h
 exact ⟨q,pq,e,k _ _ (λxs z=>by cases z) a,k _ _ (λxs z=>by cases z) b⟩
theorem CoR.same {H H':Hp}{v:V}{c:Cor}(h:CoR H v c)(s:Same H H'):CoR H' v c:=h.keep λb o _ e=>s b o e
theorem qum {H:Hp}{p:Aj}{xs:List V}{o':HO}(hp:H p=some (.lst xs)):∀b o,(∀xs,o≠.lst xs)→H b=some o→upd H p o' b=some o:=λb o no e=>by
 rw [wb]
 ·exact e
 ·intro z
  rw [z,hp] at e
  exact no _ (aj e).symm
def CosV (H:Hp)(vs:List V)(cs:List Cor):Prop:=vs.length=cs.length∧∀(i:Nat) v c,vs[i]?=some v→cs[i]?=some c→CoR H v c
theorem CosV.keep {H H':Hp}{vs:List V}{cs:List Cor}(h:CosV H vs cs)(k:∀b o,(∀xs,o≠.lst xs)→H b=some o→H' b=some o):CosV H' vs cs:=⟨h.1,λi v c a b=>(h.2 i v c a b).keep k⟩
theorem CosV.same {H H':Hp}{vs:List V}{cs:List Cor}(h:CosV H vs cs)(s:Same H H'):CosV H' vs cs:=h.keep λb o _ e=>s b o e
theorem CosV.app {H:Hp}{vs ws:List V}{cs ds:List Cor}(h:CosV H vs cs)(g:CosV H ws ds):CosV H (vs++ws) (cs++ds):=by
 refine ⟨by rw [ar,ar,h.1,g.1],λi v c e1 e2=>?_⟩
 rcases br i vs.length with z|z
 ·rw [aM z] at e1
  rw [aM (by rw [←h.1];exact z)] at e2
  exact h.2 i v c e1 e2
 ·rw [aH z] at e1
  rw [aH (by rw [←h.1];exact z),←h.1] at e2
  exact g.2 _ v c e1 e2
theorem CosV.one {H:Hp}{v:V}{c:Cor}(h:CoR H v c):CosV H [v] [c]:=⟨rfl,λi v' c' e1 e2=>by
 rcases i with _|i
 ·cases e1;cases e2;exact h
 ·cases e1⟩
def SzP (p:Int×Int):Prop:=1≤p.2∧p.2≤1000000000000000000∧0≤p.1∧p.1≤1000000000000000000
def SzC (c:Cor):Prop:=SzP c.1∧0≤c.2∧c.2≤24
def um (K:Aa):Sp:=λvs H Q _=>∃(p q:Aj) (l r:Int×Int) (k m:Int),vs=[.ref p,.ref q,.int k,.int m]∧SqT K H p [.int l.1,.int l.2]∧SqT K H q [.int r.1,.int r.2]∧SzP l∧SzP r∧0≤k∧k≤m∧1≤m∧m≤24 ∧
 ∀x H',H x=none→Same H H'→H' x=some (.tup (ptV (qb (l.1*r.2*(m-k)+r.1*l.2*k) (l.2*r.2*m))))→Q (.ref x) H'
theorem ww9 {a b m:Int}(a1:1≤a)(a2:a≤1000000000000000000)(b1:1≤b)(b2:b≤1000000000000000000)(m1:1≤m)(m2:m≤24):1≤a*b*m∧Sm 9000 (a*b*m):=by
 have p1:1≤a*b:=by have:=aU a1 b1 (by lia) (by lia);simpa using this
 have p2:a*b≤1000000000000000000*1000000000000000000:=aU a2 b2 (by lia) (by lia)
 have p3:1≤a*b*m:=by have:=aU p1 m1 (by lia) (by lia);simpa using this
 have p4:a*b*m≤1000000000000000000*1000000000000000000*24:=aU p2 m2 (by lia) (by lia)
 exact ⟨p3,(show Sm 200 (a*b*m) from by unfold Sm;lia).mono (by decide)⟩
theorem qx5 {f:Aj}{fd:Ad}(F:Fun K "between" "between" s_between f fd)(T:Txt K mg qd qy qh qt qc qg qv)(c_lowest:Cal P w K mg base "lowest" 2 (jc qy)):FnOk P w K mg base (CXE P w) 3 f fd ["left","right","part","many"] (um K):=by
 have sc:=qzq
 refine F.okX sc (λvs H Q E h=>by obtain ⟨p,q,l,r,k,m,rfl,_⟩:=h;rfl) (λcdv A outer s H vs Q E hr h=>?_)
 obtain ⟨p,q,l,r,k,m,rfl,hp,hq,⟨l1,l2,l3,l4⟩,⟨r1,r2,r3,r4⟩,k0,km,m1,m2,kq⟩:=h
 have sm:=ww9 l1 l2 r1 r2 m1 m2
 refine ⟨_,(qu (wj (i:=4) sc.nd rfl (by walk_at "loc") (q8 wp (q8 w5 (q8 w5 (wc zx (pv 0) qz (λ_ _=>rfl)) (wc zx (pv 1) qz (λ_ _=>rfl))) (q8 xm (pv 3) (pv 2))) (q8 w5 (q8 w5 (wc zx (pv 1) qz (λ_ _=>rfl)) (wc zx (pv 0) qz (λ_ _=>rfl))) (pv 2))))
   (qp (wv (qf c_lowest (hr.mono (by decide)) rfl qk (qw (pv 4) (qw (q8 w5 (q8 w5 (wc zx (pv 0) qz (λ_ _=>rfl)) (wc zx (pv 1) qz (λ_ _=>rfl))) (pv 3)) qj)))))),?_⟩
 refine (rdT rfl (hp) rfl (rdT rfl (hq) rfl (ex2 _ _ ⟨rfl,rfl,(by walk_at "mul"),exI rfl (exI rfl (ex2 _ _ ⟨rfl,rfl,ex2 _ _ ⟨rfl,rfl,(by walk_at "mul"),?_⟩⟩))⟩)))
 refine (rdT rfl (hq) rfl (rdT rfl (hp) rfl (ex2 _ _ ⟨rfl,rfl,(by walk_at "mul"),_,rfl,ex2 _ _ ⟨rfl,rfl,(by walk_at "mul"),ex2 _ _ ⟨rfl,rfl,?_⟩⟩⟩)))
 refine exI rfl (rdT rfl (hp) rfl (rdT rfl (hq) rfl (ex2 _ _ ⟨rfl,rfl,(by walk_at "mul"),_,rfl,ex2 _ _ ⟨rfl,rfl,(by walk_at "mul"),ex2 _ _ ⟨rfl,λ_=>⟨sm.2,λx nx=>kq x _ nx (Same.upd nx) qm⟩,λz=>absurd sm.1 (by lia)⟩⟩⟩)))
def Wk (K:Aa):Sp:=λvs H Q _=>∃(v w:V) (l r:Cor),vs=[v,w]∧CoR H v l∧CoR H w r∧SzC l∧SzC r∧∀p ys H',H p=none→Same H H'→H' p=some (.lst ys)→CosV H' ys (z8 l r)→Q (.ref p) H'
theorem qv6 {f:Aj}{fd:Ad}(F:Fun K "parted" "parted" s_parted f fd)(T:Txt K mg qd qy qh qt qc qg qv)(c_between:Cal P w K mg base "between" 3 (um K)):FnOk P w K mg base (CXE P w) 4 f fd ["left","right"] (Wk K):=by
 have sc:=qv7
 refine F.okX sc (λvs H Q E h=>by obtain ⟨v,w,l,r,rfl,_⟩:=h;rfl) (λcdv A outer s H vs Q E hr h=>?_)
 obtain ⟨v,w',l,r,rfl,hl,hr',sl,sr,k⟩:=h
 obtain ⟨ql,pl,rfl,a1,a2⟩:=id hl
 obtain ⟨qr,pr,rfl,b1,b2⟩:=id hr'
 have big:(1000000:Nat)<sizeLine:=by decide
 obtain ⟨⟨l1,l2,l3,l4⟩,l5,l6⟩:=id sl
 obtain ⟨⟨r1,r2,r3,r4⟩,r5,r6⟩:=id sr
 refine ⟨_,(qu (k8 (pv 0) (vg rfl (w8 (wt (i:=2) sc.nd rfl (by walk_at "loc")) (w8 (wt (i:=3) sc.nd rfl (by walk_at "loc")) x4))))
   (qu (k8 (pv 1) (vg rfl (w8 (wt (i:=4) sc.nd rfl (by walk_at "loc")) (w8 (wt (i:=5) sc.nd rfl (by walk_at "loc")) x4))))
   (qu (wj (i:=6) sc.nd rfl (by walk_at "loc") (w6 y3 rfl T.abs_ y9 (qw (q8 xm (pv 5) (pv 3)) qj)))
   (qu (wj (i:=7) sc.nd rfl (by walk_at "loc") (yr (wf yw (pv 5) (pv 3) (wn _)) qz (qqn Wr qz)))
   (qu (Wy (i:=8) (M:=[2,3,4,6,7]) sc.nd rfl (by walk_at "loc") rfl rfl (by walk_at "cap") (by walk_at "has") (by walk_at "cix") rfl (by decide +kernel) rfl (show List.Nodup (["part","start","low","end","many","step"]:List Str) by decide +kernel) (Yd rfl T.range_ (qw qz (qw (pv 6) qj))) (λ_ _ _ _ _=>(z7 (qw (qf c_between (hr.mono (by decide)) rfl kg (qw (pv 1) (qw (pv 3) (qw (pv 0) (qw (pv 4) qj))))) (qw (q8 wp (pv 2) (q8 w5 (pv 5) (pv 0))) qj)))))
   (qp (wv (q8 W1 (jg (qw (pv 0) qj)) (pv 8))))))))),?_⟩
 refine exI rfl ⟨ql,exI rfl ⟨SqT.of a1,rfl,ex2 _ _ ⟨rfl,ex2 _ _ ⟨rfl,rfl,?_⟩⟩⟩⟩
 refine exI rfl ⟨qr,exI rfl ⟨SqT.of b1,rfl,ex2 _ _ ⟨rfl,ex2 _ _ ⟨rfl,rfl,?_⟩⟩⟩⟩
 refine exI rfl (exI rfl (ex2 _ _ ⟨rfl,rfl,_,rfl,?_⟩))
 have eD:(if r.2-l.2<0 then -(r.2-l.2) else r.2-l.2)=((r.2-l.2).natAbs:Int):=by split <;> lia
 simp only [eD]
 have dl:(r.2-l.2).natAbs≤24:=by lia
 refine exI rfl (exI rfl (ex2 _ _ ⟨rfl,rfl,_,rfl,zf (λg=>?_) (λg=>?_)⟩))
 ·have sgE:(if r.2>l.2 then (1:Int) else -1)=(1:Int):=by rw [au g]
  refine exI rfl ⟨1,((r.2-l.2).natAbs:Int),rfl,⟨by lia,by lia,by lia,by lia⟩,Qw (λi v H'=>CoR H' v (qb (l.1.1*r.1.2*(((r.2-l.2).natAbs:Int)-(1+i))+r.1.1*l.1.2*(1+i)) (l.1.2*r.1.2*((r.2-l.2).natAbs:Int)),l.2+(1:Int)*(1+i))) (λi v H1 H2 g st=>g.keep st) (by lia) (λi H' R hi s' hR=>?_) λp1 ys H1 np1 s1 f1 ly g1=>?_⟩
  ·refine exI rfl (exI rfl (exI rfl (exI rfl ⟨pl,pr,l.1,r.1,ex2 _ _ ⟨rfl,s'.sqt (SqT.of a2),s'.sqt (SqT.of b2),sl.1,sr.1,by lia,by lia,by lia,by lia,λx H2 nx s2 f2=>?_⟩⟩)))
   refine exI rfl (exI rfl (exI rfl (ex2 _ _ ⟨rfl,rfl,(by walk_at "mul"),ex2 _ _ ⟨rfl,rfl,sz2,λpt nt=>?_⟩⟩)))
   exact hR (.ref pt) _ (s2.trans (Same.upd nt)) ⟨pt,x,rfl,qm,(Same.upd nt) _ _ f2⟩
  ·refine exI rfl ⟨sz1,λp2 n2=>?_⟩
   have s2:=Same.upd (o:=.lst [V.ref ql]) n2
   have f2:=s2 _ _ f1
   have ly':ys.length≤24:=by lia
   refine exI rfl ⟨p2,p1,ex2 _ _ ⟨rfl,rfl,qm,f2,by simp only [aN,bN];lia,λp3 n3=>?_⟩⟩
   have s3:=Same.upd (o:=.lst ([V.ref ql]++ys)) n3
   have t3:=s1.trans (s2.trans s3)
   refine k p3 _ _ ((s1.trans s2).free n3) t3 qm ?_
   refine CosV.app (cs:=[l]) (CosV.one (hl.same t3)) ⟨by rw [ac,az,ly];lia,λi v c e1 e2=>?_⟩
   have hi:i<ys.length:=(aL.mp e1).1
   rw [aB,be (by lia)] at e2
   have e3:=aj e2
   rw [←e3,sgE]
   exact (g1 i v e1).same (s2.trans s3)
 ·have sgE:(if r.2>l.2 then (1:Int) else -1)=(-1:Int):=by rw [am g]
  refine exI rfl ?_
  refine exI rfl ⟨1,((r.2-l.2).natAbs:Int),rfl,⟨by lia,by lia,by lia,by lia⟩,Qw (λi v H'=>CoR H' v (qb (l.1.1*r.1.2*(((r.2-l.2).natAbs:Int)-(1+i))+r.1.1*l.1.2*(1+i)) (l.1.2*r.1.2*((r.2-l.2).natAbs:Int)),l.2+(-1:Int)*(1+i))) (λi v H1 H2 g st=>g.keep st) (by lia) (λi H' R hi s' hR=>?_) λp1 ys H1 np1 s1 f1 ly g1=>?_⟩
  ·refine exI rfl (exI rfl (exI rfl (exI rfl ⟨pl,pr,l.1,r.1,ex2 _ _ ⟨rfl,s'.sqt (SqT.of a2),s'.sqt (SqT.of b2),sl.1,sr.1,by lia,by lia,by lia,by lia,λx H2 nx s2 f2=>?_⟩⟩)))
   refine exI rfl (exI rfl (exI rfl (ex2 _ _ ⟨rfl,rfl,(by walk_at "mul"),ex2 _ _ ⟨rfl,rfl,sz2,λpt nt=>?_⟩⟩)))
   exact hR (.ref pt) _ (s2.trans (Same.upd nt)) ⟨pt,x,rfl,qm,(Same.upd nt) _ _ f2⟩
  ·refine exI rfl ⟨sz1,λp2 n2=>?_⟩
   have s2:=Same.upd (o:=.lst [V.ref ql]) n2
   have f2:=s2 _ _ f1
   have ly':ys.length≤24:=by lia
   refine exI rfl ⟨p2,p1,ex2 _ _ ⟨rfl,rfl,qm,f2,by simp only [aN,bN];lia,λp3 n3=>?_⟩⟩
   have s3:=Same.upd (o:=.lst ([V.ref ql]++ys)) n3
   have t3:=s1.trans (s2.trans s3)
   refine k p3 _ _ ((s1.trans s2).free n3) t3 qm ?_
   refine CosV.app (cs:=[l]) (CosV.one (hl.same t3)) ⟨by rw [ac,az,ly];lia,λi v c e1 e2=>?_⟩
   have hi:i<ys.length:=(aL.mp e1).1
   rw [aB,be (by lia)] at e2
   have e3:=aj e2
   rw [←e3,sgE]
   exact (g1 i v e1).same (s2.trans s3)
theorem W4:∀ {cs:List Cor} (h:cs≠[]),xc cs=((cs.zip cs.tail).map λp=>z8 p.1 p.2).flatten++[cs.getLast h]
 |[],h=>absurd rfl h
 |[c],_=>rfl
 |l::r::rest,_=>by
  show z8 l r++xc (r::rest)=_
  rw [W4 (cs:=r::rest) (by simp)]
  simp
theorem Wq {vs:List V}(h:1≤vs.length):cutV vs (some 1) none=vs.drop 1:=by
 unfold cutV
 have e1:HT.sIx vs.length 0 (some 1)=1:=by unfold HT.sIx;simp;lia
 have e2:HT.sIx vs.length vs.length none=vs.length:=rfl
 rw [e1,e2,List.take_of_length_le (by rw [bF];lia)]
theorem qq3 {l r:Cor}(sl:SzC l)(sr:SzC r):(z8 l r).length≤25:=by
 unfold z8
 rw [aN,ac,az]
 have:=sl.2;have:=sr.2
 lia
def W7 (K:Aa):Sp:=λvs H Q _=>∃(p:Aj) (us:List V) (cs:List Cor),vs=[.ref p]∧H p=some (.lst us)∧CosV H us cs∧1≤cs.length∧cs.length≤1000∧(∀c∈cs,SzC c)∧∀q ys H',H q=none→Same H H'→H' q=some (.lst ys)→CosV H' ys (xc cs)→Q (.ref q) H'
theorem qvt {f:Aj}{fd:Ad}(F:Fun K "with_whole_heights" "with_whole_heights" s_with_whole_heights f fd)(T:Txt K mg qd qy qh qt qc qg qv)(c_parted:Cal P w K mg base "parted" 4 (Wk K)):FnOk P w K mg base (CXE P w) 5 f fd ["line"] (W7 K):=by
 have sc:=jv
 refine F.okX sc (λvs H Q E h=>by obtain ⟨p,us,cs,rfl,_⟩:=h;rfl) (λcdv A outer s H vs Q E hr h=>?_)
 obtain ⟨p,us,cs,rfl,hp,hC,c1,c2,sz,k⟩:=h
 have big:(1000000:Nat)<sizeLine:=by decide
 have lu:us.length=cs.length:=hC.1
 refine ⟨_,(qu (wj (i:=1) sc.nd rfl (by walk_at "loc") (jg qj))
   (qu (Wp bC rfl (qxn rfl T.zip_ (qw (pv 0) (qw (W5 Jw (pv 0) (Y9 qz) qqj) qj))) (vg rfl (w8 (wt (i:=2) sc.nd rfl (by walk_at "loc")) (w8 (wt (i:=3) sc.nd rfl (by walk_at "loc")) x4))) (qp (j3 (wqz cu PySem.F.slot_list_extend PySem.F.type_list_extend qk7 (pv 1) (qw (qf c_parted (hr.mono (by decide)) rfl qk (qw (pv 2) (qw (pv 3) qj))) qj)))))
   (qp (wv (q8 W1 (pv 1) (jg (qw (wc wx (pv 0) (qqn Wr qz) (λ_ _=>rfl)) qj))))))),?_⟩
 refine ⟨sz0,λpp npp=>?_⟩
 have s1:=Same.upd (o:=.lst []) npp
 have f1:upd H pp (.lst []) pp=some (.lst []):=qm
 have pne:p≠pp:=wu hp npp
 generalize upd H pp (.lst [])=H1 at s1 f1
 refine exI rfl (exI rfl (exI rfl ⟨p,us,rfl,SqL.of (s1 _ _ hp),λp2 n2=>?_⟩))
 rw [Wq (by lia)]
 have s2:=Same.upd (o:=.lst (us.drop 1)) n2
 have f2:upd H1 p2 (.lst (us.drop 1)) p2=some (.lst (us.drop 1)):=qm
 have d2:pp≠p2:=wu f1 n2
 have fpp:=s2 _ _ f1
 generalize upd H1 p2 (.lst (us.drop 1))=H2 at s2 f2 fpp
 have hp2:=s2 _ _ (s1 _ _ hp)
 refine ⟨p,p2,us,us.drop 1,rfl,SqL.of hp2,SqL.of f2,wxk (λi σ H'=>(∀b o,b≠pp→H2 b=some o→H' b=some o)∧∃ys z2 z3,σ=[some (.ref p),some (.ref pp),z2,z3]∧H' pp=some (.lst ys)∧CosV H' ys (((cs.zip cs.tail).take i).map λp=>z8 p.1 p.2).flatten∧ys.length≤25*i)
  ⟨λb o _ e=>e,[],_,_,rfl,fpp,⟨rfl,λi v c e=>by cases e⟩,al _⟩ (λi σ H' h=>⟨SqL.of (h.1 _ _ pne hp2),SqL.of (h.1 _ _ (cv d2) f2)⟩) ?_ ?_⟩
 ·rintro i x y q σ H3 ex ey nq ⟨kp,ys,z2,z3,rfl,fy,cy,ly⟩
  have hi:i+1<us.length:=by
   rw [cn] at ey
   have:=(aL.mp ey).1
   lia
  have s3:=Same.upd (o:=.tup [x,y]) nq
  have nt:∀b o,(∀xs,o≠.lst xs)→H b=some o→H3 b=some o:=λb o no e=>kp b o (λz=>by rw [z,npp] at e;cases e) (s2 _ _ (s1 _ _ e))
  have ec:cs[i]?=some cs[i]:=ag (by lia)
  have ec1:cs[i+1]?=some cs[i+1]:=ag (by lia)
  have ey':us[i+1]?=some y:=by rw [cn,Nat.add_comm] at ey;exact ey
  have cl:=((hC.2 i x _ ex ec).keep nt).same s3
  have cr:=((hC.2 (i+1) y _ ey' ec1).keep nt).same s3
  have szl:=sz _ (bu ec)
  have szr:=sz _ (bu ec1)
  have fy3:=s3 _ _ fy
  refine ⟨q,exI rfl ⟨SqT.new,rfl,ex2 _ _ ⟨rfl,ex2 _ _ ⟨rfl,rfl,?_⟩⟩⟩⟩
  refine exI rfl ⟨.inl ⟨rfl,_,SqL.of fy3⟩,exI rfl (exI rfl ⟨x,y,ex2 _ _ ⟨rfl,cl,cr,szl,szr,λp4 zs H4 np4 s4 f4 cz=>?_⟩⟩)⟩
  have fy4:=s4 _ _ fy3
  have lz:zs.length≤25:=by rw [cz.1];exact qq3 szl szr
  refine ⟨pp,p4,ex2 _ _ ⟨rfl,rfl,fy4,f4,by lia,?_⟩⟩
  have kl:=qum (o':=.lst (ys++zs)) fy4
  refine ⟨λb o nb e=>?_,ys++zs,ex2 _ _ ⟨rfl,qm,?_,by rw [ar];lia⟩⟩
  ·rw [wb nb]
   exact s4 _ _ (s3 _ _ (kp b o nb e))
  ·have e:((cs.zip cs.tail).take (i+1)).map (λp=>z8 p.1 p.2)=((cs.zip cs.tail).take i).map (λp=>z8 p.1 p.2)++[z8 cs[i] cs[i+1]]:=by
    have ez:(cs.zip cs.tail)[i]?=some (cs[i],cs[i+1]):=by
     rw [List.getElem?_zip_eq_some]
     refine ⟨ec,?_⟩
     rw [List.getElem?_tail]
     exact ec1
    rw [dR,ez,av]
    rfl
   rw [e,bU]
   refine CosV.app (((cy.same s3).same s4).keep kl) ?_
   simpa using cz.keep kl
 ·rintro σ H3 ⟨kp,ys,z2,z3,rfl,fy,cy,ly⟩
  have ezl:min us.length (us.drop 1).length=(cs.zip cs.tail).length:=by rw [List.length_zip,bF,List.length_tail,hC.1]
  rw [ezl,dA] at cy
  have hne:cs≠[]:=λz=>by rw [z] at c1;simp at c1
  have hnu:us≠[]:=λz=>by rw [z] at lu;simp at lu;lia
  have hp3:=kp _ _ pne hp2
  have el:us[us.length-1]?=some (us.getLast hnu):=by rw [←cf,bW hnu]
  have hlast:atI us (-1)=some (us.getLast hnu):=by
   have e1:us=us.dropLast++[us.getLast hnu]:=(cR hnu).symm
   conv=>lhs;rw [e1]
   exact Wn _ _
  have ecl:cs[us.length-1]?=some (cs.getLast hne):=by rw [lu,←cf,bW hne]
  have lyb:ys.length≤25000:=by
   rw [ezl,List.length_zip,List.length_tail] at ly
   lia
  refine exI rfl (exI rfl (exI rfl (ex4 _ _ _ _ ⟨rfl,rfl,SqL.of hp3,hlast,sz1,λp4 n4=>?_⟩)))
  have s4:=Same.upd (o:=.lst [us.getLast hnu]) n4
  refine ⟨pp,p4,ex2 _ _ ⟨rfl,rfl,s4 _ _ fy,qm,by simp only [aN,bN];lia,λp5 n5=>?_⟩⟩
  have s5:=Same.upd (o:=.lst (ys++[us.getLast hnu])) n5
  have s03:Same H H3:=λb o e=>kp b o (λz=>by rw [z,npp] at e;cases e) (s2 _ _ (s1 _ _ e))
  have t5:=s03.trans (s4.trans s5)
  refine k p5 _ _ ((s03.trans s4).free n5) t5 qm ?_
  rw [W4 hne]
  exact CosV.app ((cy.same s4).same s5) (CosV.one ((hC.2 _ _ _ el ecl).same t5))
end
section
variable {P:Ac}{w:Ah}{K:Aa}{mg:Str→Option Ag}{base:Heap}{qd:Aj}{qy:Aj}{qh:Aj}{qt:Aj}{qc:Aj}{qg:Aj}{qv:Aj}
theorem qzz:∀ {cs:List Cor},(∀c∈cs,SzC c)→cs.length≤1000→(xc cs).length≤30*1000:=λ{cs} h hl=>by
 have key:∀cs:List Cor,(∀c∈cs,SzC c)→(xc cs).length≤25*cs.length:=by
  intro cs
  induction cs with
  |nil=>intro _;exact ba _
  |cons l rest ih =>
   intro h
   cases rest with
   |nil=>show 1≤25*1;decide
   |cons r rest =>
    have:=ih λc hc=>h c (.tail _ hc)
    have p:=qq3 (h l (.head _)) (h r (.tail _ (.head _)))
    show (z8 l r++xc (r::rest)).length≤_
    rw [ar,aN]
    lia
 have:=key cs h
 lia
theorem qkr {n:Int}:∀ {cs:List Cor},(∀c∈cs,0≤c.2∧c.2≤n)→∀c∈xc cs,0≤c.2∧c.2≤n:=by
 intro cs
 induction cs with
 |nil=>intro _ c hc;cases hc
 |cons l rest ih =>
  intro h c hc
  cases rest with
  |nil=>rw [aT.mp hc];exact h l (.head _)
  |cons r rest =>
   have hl:=h l (.head _)
   have hr:=h r (.tail _ (.head _))
   rcases aP.mp (show c∈z8 l r++xc (r::rest) from hc) with hc|hc
   ·rcases aw.mp hc with rfl|hc
    ·exact hl
    ·obtain ⟨k,hk,rfl⟩:=aV.mp hc
     have hk':=aS.mp hk
     show 0≤l.2+(if r.2>l.2 then 1 else -1)*(1+(k:Int))∧l.2+(if r.2>l.2 then 1 else -1)*(1+(k:Int))≤n
     split <;> lia
   ·exact ih (λc hc=>h c (.tail _ hc)) c hc
theorem qy6 {n M:Int}:∀ {cs:List Cell},zq n M cs→∀x∈xq cs,0≤x.2∧x.2≤n
 |[],h,_,_=>h.elim
 |[c],h,x,hx=>by
  obtain ⟨_,_,_,_,a,b⟩:=vj h c (by simp)
  rcases aw.mp hx with rfl|hx
  ·exact a
  ·rw [aT.mp hx];exact b
 |c::d::r,h,x,hx=>by
  rcases aw.mp hx with rfl|hx
  ·exact h.1.2.2.2.2.1
  ·exact qy6 h.2.2 x hx
theorem Z6 {H H':Hp}(s:Same H H'){p:Aj}(n:H' p=none):H p=none:=by
 cases e:H p with
 |none=>rfl
 |some o=>rw [s _ _ e] at n;cases n
theorem qvd (i:Int):qb i 1=(i,1):=by
 have h1:1≤(qb i 1).2:=zb (by decide)
 have h2:(qb i 1).2≤1:=Qq (by decide)
 have e:(qb i 1).2=1:=by lia
 have c:=vv (t:=i) (b:=1) (by decide)
 rw [e,bd,bd] at c
 exact dE c e
theorem cors0 {hs:List Int}(ok:ww hs):xq (zu hs)=(List.range hs.length).map λk:Nat=>(((k:Int),(1:Int)),hAt hs k):=by
 have o1:=ok.1
 obtain ⟨d,hd⟩:∃d,hs.length=d+1+1:=⟨hs.length-2,by lia⟩
 have hne:zu hs≠[]:=zv (qxr ok)
 rw [j1 hne]
 unfold zu
 rw [ay,hd,Nat.add_sub_cancel,aR (n:=d+1),av]
 congr 1
 ·refine aF λk _=>?_
  show (qb (k:Int) 1,hAt hs k)=_
  rw [qvd]
 ·rw [aR,av,cb]
  show [(qb ((d:Int)+1) 1,hAt hs ((d:Int)+1))]=[((((d+1:Nat):Int),(1:Int)),hAt hs ((d+1:Nat):Int))]
  rw [qvd]
  push_cast
  rfl
theorem qz8 {u S n:Int}(hS:1≤S)(h0:0≤u)(h1:u≤n*S):0≤(qb u S).1∧(qb u S).1≤n*(qb u S).2:=by
 constructor
 ·rcases bA (qb u S).1 0 with z|z
  ·have:=(y7 hS).mp z
   lia
  ·exact z
 ·rcases bA (n*(qb u S).2) (qb u S).1 with z|z
  ·have:=(qqg hS).mp z
   lia
  ·exact z
theorem qz4 {n M:Int}(n0:0≤n)(n24:n≤24)(hM:M≤40000000000000000){c:Cell}(h:Ww n M c):SzC c.lft∧SzC c.rgt:=by
 obtain ⟨g1,g2,g3,g4,g5,g6⟩:=h
 have l1:1≤(qb c.u c.S).2:=zb g1
 have l2:(qb c.u c.S).2≤c.S:=Qq g1
 have r1:1≤(qb (c.u+1) c.S).2:=zb g1
 have r2:(qb (c.u+1) c.S).2≤c.S:=Qq g1
 have t1:=qz8 g1 g3 (show c.u≤n*c.S by lia)
 have t2:=qz8 g1 (show 0≤c.u+1 by lia) g4
 have b1:n*(qb c.u c.S).2≤24*40000000000000000:=aU n24 (by lia) (by lia) (by lia)
 have b2:n*(qb (c.u+1) c.S).2≤24*40000000000000000:=aU n24 (by lia) (by lia) (by lia)
 refine ⟨⟨⟨l1,by show (qb c.u c.S).2≤_;lia,t1.1,by show (qb c.u c.S).1≤_;lia⟩,by show 0≤c.a;lia,by show c.a≤24;lia⟩,⟨r1,by show (qb (c.u+1) c.S).2≤_;lia,t2.1,by show (qb (c.u+1) c.S).1≤_;lia⟩,by show 0≤c.b;lia,by show c.b≤24;lia⟩
theorem qvj {n M:Int}(n0:0≤n)(n24:n≤24)(hM:M≤40000000000000000):∀ {cs:List Cell},zq n M cs→∀x∈xq cs,SzC x
 |[],h,_,_=>h.elim
 |[c],h,x,hx=>by
  have:=qz4 n0 n24 hM (vj h c (by simp))
  rcases aw.mp hx with rfl|hx
  ·exact this.1
  ·rw [aT.mp hx];exact this.2
 |c::d::r,h,x,hx=>by
  rcases aw.mp hx with rfl|hx
  ·exact (qz4 n0 n24 hM h.1).1
  ·exact qvj n0 n24 hM h.2.2 x hx
theorem pow24:∀t:Nat,t≤11→(24:Int) ^ t≤40000000000000000:=by decide +kernel
def qzj (H:Hp)(ys:List V)(i:Nat):V×V:=match ys[i]? with|some (.ref q)=>(match H q with|some (.tup [x,y])=>(x,y)|_=>(.non,.non))|_=>(.non,.non)
theorem Yb {H:Hp}{ys:List V}{i:Nat}{q:Aj}{x y:V}(e:ys[i]?=some (.ref q))(f:H q=some (.tup [x,y])):qzj H ys i=(x,y):=by
 unfold qzj
 rw [e]
 show (match H q with|some (.tup [x,y])=>(x,y)|_=>_)=_
 rw [f]
def qw7 (C CT:Aj):Sp:=λvs H Q E=>∃(r:Aj) (hs:List Int) (m:Int),vs=[.ref r,.int m]∧RoadAt C H r hs∧ww hs∧1≤m∧m≤12 ∧
 ((∀t:Nat,(t:Int)<m→(xq (xj hs t)).length≤1000)→∀p us H',H p=none→Same H H'→H' p=some (.lst us)→CosV H' us (xq (xj hs (m.toNat-1)))→Q (.ref p) H') ∧
 ((∃t:Nat,(t:Int)<m∧1000<(xq (xj hs t)).length)→∀H',Same H H'→E (.ref CT) none H')
theorem wwu {f:Aj}{fd:Ad}(F:Fun K "laid" "laid" s_laid f fd)(T:Txt K mg qd qy qh qt qc qg qv)(c_check_count:CalD P w K mg base "check_count" 1 (yd qc))(c_corners:MCal P w K mg base qv "corners" 1 (vz qv))(c_with_whole_heights:Cal P w K mg base "with_whole_heights" 5 (W7 K)) :
  FnOk P w K mg base (CXE P w) 6 f fd ["road","many"] (qw7 qv qg):=by
 have sc:=wxj
 refine F.okX sc (λvs H Q E h=>by obtain ⟨r,hs,m,rfl,_⟩:=h;rfl) (λcdv A outer s H vs Q E hr h=>?_)
 obtain ⟨r,hs,m,rfl,hR,ok,m1,m2,k,kx⟩:=h
 obtain ⟨dx,q0,h1,h2⟩:=id hR
 obtain ⟨tm,g_MOST_TAKEN⟩:=T.g_MOST_TAKEN
 obtain ⟨tc,g_MOST_CORNERS⟩:=T.g_MOST_CORNERS
 have o1:=ok.1
 have o2:=ok.2.1
 refine ⟨_,(qu (j3 (qf c_check_count.all (hr.mono (by decide)) rfl qk (qw (pv 1) (qw qz (qw (j5 (v:=V.int 12) rfl g_MOST_TAKEN ⟨_,rfl⟩) qj)))))
   (qu (wj (i:=2) sc.nd rfl (by walk_at "loc") (xg (pv 0) T.cl c_corners (hr.mono (by decide)) qk))
   (qu (jp (i:=3) (x := "corner") (y2 := "height") (M:=[]) sc.nd rfl (by walk_at "loc") rfl rfl (by walk_at "cap") (by walk_at "has") (by walk_at "cix") rfl (by decide +kernel) (λ_ _ _ _ _=>Q2 (K:=K) (n:=2) rfl rfl (w8 (wt (i:=0) (show List.Nodup (["corner","height"]:List Str) by decide +kernel) rfl (by walk_at "loc")) (w8 (wt (i:=1) (show List.Nodup (["corner","height"]:List Str) by decide +kernel) rfl (by walk_at "loc")) x4))) (wq8 rfl T.enumerate_ (qw (pv 2) qj)) (λ_ _ _ _ _=>(z7 (qw (z7 (qw (pv 0) (qw qz qj))) (qw (pv 1) qj)))))
   (qu (Wp bC rfl (Yd rfl T.range_ (qw qz (qw (pv 1) qj))) (wt (i:=4) sc.nd rfl (by walk_at "loc")) (qu (jp (i:=3) (x := "point") (y2 := "height") (M:=[2]) sc.nd rfl (by walk_at "loc") rfl rfl (by walk_at "cap") (by walk_at "has") (by walk_at "cix") rfl (by decide +kernel) (λ_ _ _ _ _=>Q2 (K:=K) (n:=2) rfl rfl (w8 (wt (i:=0) (show List.Nodup (["point","height","heights"]:List Str) by decide +kernel) rfl (by walk_at "loc")) (w8 (wt (i:=1) (show List.Nodup (["point","height","heights"]:List Str) by decide +kernel) rfl (by walk_at "loc")) x4))) (yf (qf c_with_whole_heights (hr.mono (by decide)) rfl qk (qw (pv 3) qj))) (λ_ _ _ _ _=>(z7 (qw (pv 0) (qw (wc (qyq (K:=K) rfl) (pv 2) (pv 1) (λ_ _=>rfl)) qj)))))
   (qp (xk (wf yw (w6 xx rfl T.len_ aY (qw (pv 3) qj)) (j5 (v:=V.int 1000) rfl g_MOST_CORNERS ⟨_,rfl⟩) (wn _)) (qp (zr rfl T.x_TooLong x8 rfl T.g_TooLong (qw jb qj))) wm))))
   (qp (wv (pv 3))))))),?_⟩
 refine ⟨_,rfl,m,1,.int 12,some 12,rfl,.inr ⟨12,rfl,rfl⟩,λ_=>?_,λw1=>absurd ⟨m1,λ_ e=>by cases e;exact m2⟩ w1⟩
 refine exI rfl ⟨r,dx,exI rfl ⟨h1,wg (by decide +kernel),r,hs,rfl,hR,λph nh=>?_⟩⟩
 have s1:=Same.upd (o:=.lst (hs.map V.int)) nh
 have f1:upd H ph (.lst (hs.map V.int)) ph=some (.lst (hs.map V.int)):=qm
 generalize upd H ph (.lst (hs.map V.int))=H1 at s1 f1
 have lh:(hs.map V.int).length=hs.length:=ac _
 refine exI rfl (ex2 ph _ ⟨rfl,SqL.of f1,Y2 (K:=K) hs.length (λi=>(.int (i:Nat),.int (hAt hs i))) (λi v H'=>CoR H' v (((i:Int),(1:Int)),hAt hs i)) (λi v H1 H2 g st=>g.keep st) (by lia) (λi H' hi s'=>⟨SqL.of (s' _ _ f1),by rw [lh];exact hi⟩) (λH' s'=>⟨SqL.of (s' _ _ f1),by rw [lh];exact al _⟩) ?_ (λi H' R hi s' hR'=>?_) λpl us H2 npl s2 f2 lu g2=>?_⟩)
 ·rintro i H2 v H3 hi s2 ⟨q,x,nq,rfl,ex,rfl⟩
  refine ⟨Same.upd nq,q,rfl,?_⟩
  have:x=.int (hAt hs i):=by
   rw [aB,ag hi] at ex
   have:=aj ex
   rw [←this]
   unfold hAt
   rw [ak,show ((i:Int)).toNat=i by lia,ag hi]
   rfl
  rw [this]
  exact SqT.new
 ·refine exI rfl ⟨sz2,λpa na=>(exI rfl ⟨sz2,λpb nb=>?_⟩)⟩
  exact hR' (.ref pb) _ ((Same.upd na).trans (Same.upd nb)) ⟨pb,pa,rfl,qm,(Same.upd nb) _ _ qm⟩
 have C0:CosV H2 us (xq (xj hs 0)):=by
  show CosV H2 us (xq (zu hs))
  rw [cors0 ok]
  refine ⟨by rw [lu,ac,az],λi v c e1 e2=>?_⟩
  have hi:i<hs.length:=by have:=(aL.mp e1).1;lia
  rw [aB,be hi] at e2
  rw [←aj e2]
  exact g2 i v e1
 have len0:(xq (xj hs 0)).length≤1000:=by rw [←C0.1,lu];lia
 refine ⟨_,rfl,1,m,rfl,⟨by lia,by lia,by lia,by lia⟩,jt (λt σ H'=>Same H1 H'∧∃pl us z,σ=[some (.ref r),some (.int m),some (.ref ph),some (.ref pl),z]∧H1 pl=none∧H' pl=some (.lst us)∧CosV H' us (xq (xj hs t))∧∀s:Nat,s≤t→(xq (xj hs s)).length≤1000)
  ⟨s2,pl,us,exI rfl ⟨npl,f2,C0,λs hs'=>by rw [show s=0 by lia];exact len0⟩⟩ ?_ ?_⟩
 ·rintro t σ H3 ht ⟨s3,pl,us,z,rfl,nl0,fl,Cl,le⟩
  have ht':(t:Int)+1<m:=by lia
  have ch:=ut ok t
  have hn0:(0:Int)≤(hs.length:Int)-1:=by lia
  have szs:=qvj hn0 (by lia) (pow24 t (by lia)) ch
  have lt:=le t (al _)
  have lc:=y4 (zv ch)
  refine ⟨_,rfl,pl,us,_,rfl,fl,Cl,by lia,lt,szs,λq ys H4 nq s4 f4 C4=>?_⟩
  have e34:=s3.trans s4
  refine ⟨q,rfl,⟨_,SqL.of f4⟩,Y2 (K:=K) ys.length (qzj H4 ys) (λi v H'=>∀c,(xc (xq (xj hs t)))[i]?=some c→CoR H' v (qqx hs c)) (λi v H1 H2 g st c e=>(g c e).keep st) ?_ (λi H' hi s'=>⟨ys,ys[i],SqL.of (s' _ _ f4),ag hi⟩) (λH' s'=>⟨ys,SqL.of (s' _ _ f4),al _⟩) ?_ (λi H' R hi s' hR'=>?_) λp5 vs5 H5 np5 s5 f5 l5 g5=>?_⟩
  ·rw [C4.1]
   have:=qzz szs lt
   lia
  ·rintro i H2' v H3' hi s' ⟨rfl,hv⟩
   refine ⟨Same.refl _,?_⟩
   have ev:=hv ys (SqL.of (s' _ _ f4))
   have hc:i<(xc (xq (xj hs t))).length:=by rw [←C4.1];exact hi
   obtain ⟨q',pq,rfl,a1,a2⟩:=C4.2 i v _ ev (ag hc)
   refine ⟨q',rfl,?_⟩
   rw [Yb ev a1]
   exact SqT.of (s' _ _ a1)
  ·have hc:i<(xc (xq (xj hs t))).length:=by rw [←C4.1];exact hi
   have ev:ys[i]?=some ys[i]:=ag hi
   obtain ⟨c,hcc⟩:∃c,c=(xc (xq (xj hs t)))[i]:=⟨_,rfl⟩
   have ec:(xc (xq (xj hs t)))[i]?=some c:=by rw [hcc];exact ag hc
   obtain ⟨q',pq,e',a1,a2⟩:=C4.2 i _ c ev ec
   rw [e'] at ev
   rw [Yb ev a1]
   have sc':=qkr (qy6 ch) c (bu ec)
   refine exI rfl (exI rfl (exI rfl (ex4 _ _ _ _ ⟨rfl,rfl,SqL.of ((e34.trans s') _ _ f1),yh sc'.1 (by lia),sz2,λpt nt=>?_⟩)))
   refine hR' (.ref pt) _ (Same.upd nt) λc' e2=>?_
   rw [ec] at e2
   cases e2
   exact ⟨pt,pq,rfl,qm,(Same.upd nt) _ _ (s' _ _ a2)⟩
  have C5:CosV H5 vs5 (xq (xj hs (t+1))):=by
   show CosV H5 vs5 (xq (zg hs (xj hs t)))
   rw [←qkt ok ch]
   refine ⟨by rw [l5,ac,C4.1],λi v c e1 e2=>?_⟩
   rw [aB] at e2
   cases g:(xc (xq (xj hs t)))[i]? with
   |none=>rw [g] at e2;cases e2
   |some c' =>
    rw [g] at e2
    rw [←aj e2]
    exact g5 i v e1 c' g
  refine exI rfl (ex2 _ _ ⟨rfl,.inl (SqL.of f5),ex2 _ _ ⟨rfl,rfl,_,rfl,zf (λz=>?_) (λz=>?_)⟩⟩)
  ·refine ⟨sz1,kx ⟨t+1,by lia,by rw [←C5.1];lia⟩ _ (s1.trans (e34.trans s5))⟩
  ·refine ⟨e34.trans s5,p5,vs5,exI rfl ⟨Z6 e34 np5,f5,C5,λs hs'=>?_⟩⟩
   rcases (by lia:s≤t∨s=t+1) with y|y
   ·exact le s y
   ·subst y
    rw [←C5.1]
    lia
 ·rintro σ H3 ⟨s3,pl,us,z,rfl,nl0,fl,Cl,le⟩
  rw [tn1 m1] at Cl le
  exact exI rfl (k (λt ht=>le t (by lia)) pl us H3 (Z6 s1 nl0) (s1.trans s3) fl Cl)
end
section
variable {P:Ac}{w:Ah}{K:Aa}{mg:Str→Option Ag}{base:Heap}{qd:Aj}{qy:Aj}{qh:Aj}{qt:Aj}{qc:Aj}{qg:Aj}{qv:Aj}
theorem dec_i {a b:Int}:decide (V.int a=V.int b)=decide (a=b):=by
 by_cases h:a=b
 ·subst h;simp
 ·have h2:¬ V.int a=V.int b:=λz=>h (by injection z)
  simp [h]
theorem qqc {n M:Int}:∀ {cs:List Cell},zq n M cs→∀i c,cs[i]?=some c→(xq cs)[i]?=some c.lft∧(xq cs)[i+1]?=some c.rgt
 |[],h,_,_,_=>h.elim
 |[c],_,0,x,e=>by
  rw [←aj e]
  exact ⟨rfl,rfl⟩
 |[c],_,i+1,x,e=>by cases e
 |c::d::r,h,0,x,e=>by
  rw [←aj e]
  refine ⟨rfl,?_⟩
  have:=(qqc h.2.2 0 d rfl).1
  show (xq (d::r))[0]?=some c.rgt
  rw [this,h.2.1]
 |c::d::r,h,i+1,x,e=>qqc (cs:=d::r) h.2.2 i x e
def qw8 (a b:Int):Int:=if b>a then 1 else if b<a then -1 else 0
def quq:Sp:=λvs H Q _=>∃(v v':V) (l r:Cor),vs=[v,v']∧CoR H v l∧CoR H v' r∧Q (.int (qw8 l.2 r.2)) H
theorem ok_way {f:Aj}{fd:Ad}(F:Fun K "way" "way" s_way f fd)(T:Txt K mg qd qy qh qt qc qg qv):FnOk P w K mg base (CXE P w) 1 f fd ["left","right"] quq:=by
 have sc:=sc_way
 refine F.okX sc (λvs H Q E h=>by obtain ⟨v,v',l,r,rfl,_⟩:=h;rfl) (λcdv A outer s H vs Q E hr h=>?_)
 obtain ⟨_,_,l,r,rfl,⟨p,pp,rfl,p1,p2⟩,⟨q,qq,rfl,q1,q2⟩,k⟩:=h
 refine ⟨_,(qu (xk (wf yw (wc zx (pv 1) qz (λ_ _=>rfl)) (wc zx (pv 0) qz (λ_ _=>rfl)) (wn _)) (qp (wv qz)) wm)
   (qp (wv (yr (wf yq (wc zx (pv 1) qz (λ_ _=>rfl)) (wc zx (pv 0) qz (λ_ _=>rfl)) (wn _)) (qqn Wr qz) qz)))),?_⟩
 refine (rdT rfl (SqT.of q1) rfl (rdT rfl (SqT.of p1) rfl (ex2 _ _ ⟨rfl,rfl,_,rfl,zf (λz=>?_) (λz=>?_)⟩)))
 ·have e:qw8 l.2 r.2=1:=au (by lia)
  rw [e] at k
  exact k
 ·refine (rdT rfl (SqT.of q1) rfl (rdT rfl (SqT.of p1) rfl (ex2 _ _ ⟨rfl,rfl,_,rfl,zf (λy=>?_) (λy=>?_)⟩)))
  ·have e:qw8 l.2 r.2=-1:=by
    unfold qw8
    rw [am (by lia),au (by lia)]
   rw [e] at k
   exact exI rfl k
  ·have e:qw8 l.2 r.2=0:=by
    unfold qw8
    rw [am (by lia),am (by lia)]
   rw [e] at k
   exact k
def hgt (cs:List Cor)(i:Nat):Int:=match cs[i]? with|some c=>c.2|none=>0
def jn (cs:List Cor)(i:Nat):Int:=qw8 (hgt cs i) (hgt cs (i+1))
def qx9 (cs:List Cor):Int:=1+(((List.range (cs.length-2)).filter λi=>!decide (V.int (jn cs i)=V.int (jn cs (i+1)))).map λ_=>(1:Int)).sum
def LongL (hs:List Int)(m:Int):Prop:=∃t:Nat,(t:Int)<m∧1000<(xq (xj hs t)).length
def qzb (hs:List Int)(m:Int):Prop:=∀t:Nat,(t:Int)<m→(xq (xj hs t)).length≤1000
def Y8 (C CT:Aj):Sp:=λvs H Q E=>∃(r:Aj) (hs:List Int) (m:Int),vs=[.ref r,.int m]∧RoadAt C H r hs∧ww hs∧1≤m∧m≤12 ∧
 (qzb hs m→∀H',Same H H'→Q (.int (qx9 (xq (xj hs (m.toNat-1))))) H')∧(LongL hs m→∀H',Same H H'→E (.ref CT) none H')
theorem wq0 {f:Aj}{fd:Ad}(F:Fun K "laps" "laps" s_laps f fd)(T:Txt K mg qd qy qh qt qc qg qv)(c_laid:Cal P w K mg base "laid" 6 (qw7 qv qg))(c_way:Cal P w K mg base "way" 1 quq):FnOk P w K mg base (CXE P w) 7 f fd ["road","many"] (Y8 qv qg):=by
 have sc:=ww3
 refine F.okX sc (λvs H Q E h=>by obtain ⟨r,hs,m,rfl,_⟩:=h;rfl) (λcdv A outer s H vs Q E hr h=>?_)
 obtain ⟨r,hs,m,rfl,hR,ok,m1,m2,k,kx⟩:=h
 refine ⟨_,(qu (wj (i:=2) sc.nd rfl (by walk_at "loc") (qf c_laid (hr.mono (by decide)) rfl qk (qw (pv 0) (qw (pv 1) qj))))
   (qu (jp (i:=3) (x := "left") (y2 := "right") (M:=[]) sc.nd rfl (by walk_at "loc") rfl rfl (by walk_at "cap") (by walk_at "has") (by walk_at "cix") rfl (by decide +kernel) (λ_ _ _ _ _=>Q2 (K:=K) (n:=2) rfl rfl (w8 (wt (i:=0) (show List.Nodup (["left","right"]:List Str) by decide +kernel) rfl (by walk_at "loc")) (w8 (wt (i:=1) (show List.Nodup (["left","right"]:List Str) by decide +kernel) rfl (by walk_at "loc")) x4))) (qxn rfl T.zip_ (qw (pv 2) (qw (W5 Jw (pv 2) (Y9 qz) qqj) qj))) (λ_ _ _ _ _=>(qf c_way (hr.mono (by decide)) rfl kg (qw (pv 0) (qw (pv 1) qj)))))
   (qp (wv (q8 wp qz (w6 (Zz (K:=K) rfl rfl) rfl T.sum_ qjq (qw (qv1 (x := "one") (y2 := "other") (M:=[]) rfl rfl (by walk_at "cap") (by walk_at "has") (by walk_at "cix") rfl (by decide +kernel) (λ_ _ _ _ _=>Q2 (K:=K) (n:=2) rfl rfl (w8 (wt (i:=0) (show List.Nodup (["one","other"]:List Str) by decide +kernel) rfl (by walk_at "loc")) (w8 (wt (i:=1) (show List.Nodup (["one","other"]:List Str) by decide +kernel) rfl (by walk_at "loc")) x4))) (qxn rfl T.zip_ (qw (pv 3) (qw (W5 Jw (pv 3) (Y9 qz) qqj) qj))) (λ_ _ _ _ _=>(wf op_ne (pv 0) (pv 1) (wn _))) (λ_ _ _ _ _=>qz)) qj))))))),?_⟩
 refine ⟨_,rfl,_,rfl,r,hs,m,rfl,hR,ok,m1,m2,λle p us H1 _ s1 f1 C1=>?_,λlo H1 s1=>kx lo H1 s1⟩
 have ll:=le (m.toNat-1) (by lia)
 have l2:2≤(xq (xj hs (m.toNat-1))).length:=by
  rw [y4 (zv (ut ok _))]
  have:=List.length_pos_iff.mpr (zv (ut ok (m.toNat-1)))
  lia
 have kk:=k le
 generalize xq (xj hs (m.toNat-1))=cs at C1 ll l2 kk
 have lu:us.length=cs.length:=C1.1
 refine exI rfl (exI rfl (exI rfl ⟨p,us,rfl,SqL.of f1,λp2 n2=>?_⟩))
 rw [Wq (by lia)]
 have s2:=Same.upd (o:=.lst (us.drop 1)) n2
 have f2:upd H1 p2 (.lst (us.drop 1)) p2=some (.lst (us.drop 1)):=qm
 generalize upd H1 p2 (.lst (us.drop 1))=H2 at s2 f2
 have fp:=s2 _ _ f1
 have gu:∀i,i<us.length→us[i]?=some (us.getD i .non):=λi hi=>by rw [ak,ag hi];rfl
 have gc:∀i,i<us.length→∃c,cs[i]?=some c∧c.2=hgt cs i:=λi hi=>by
  refine ⟨cs[i]'(by lia),ag (by lia),?_⟩
  unfold hgt
  rw [ag (by lia)]
 refine ⟨p,p2,us,us.drop 1,rfl,SqL.of fp,SqL.of f2,Y2 (K:=K) (us.length-1) (λi=>(us.getD i .non,us.getD (i+1) .non)) (λi v _=>v=.int (jn cs i)) (λi v H1 H2 g st=>g) (by lia) (λi H' hi s'=>⟨SqL.of (s' _ _ fp),SqL.of (s' _ _ f2),by lia,by rw [bF];exact hi⟩) (λH' s'=>⟨SqL.of (s' _ _ fp),SqL.of (s' _ _ f2),.inr (by rw [bF];exact al _)⟩) ?_ (λi H' R hi s' hR'=>?_) λp3 ts H3 n3 s3 f3 l3 g3=>?_⟩
 ·rintro i H2' v H3' hi s' ⟨q,x,y,nq,rfl,ex,ey,rfl⟩
  refine ⟨Same.upd nq,q,rfl,?_⟩
  rw [gu i (by lia)] at ex
  rw [cn,Nat.add_comm,gu (i+1) (by lia)] at ey
  rw [aj ex,aj ey]
  exact SqT.new
 ·obtain ⟨c,ec,hc⟩:=gc i (by lia)
  obtain ⟨d,ed,hd⟩:=gc (i+1) (by lia)
  have t:=s2.trans s'
  refine exI rfl (exI rfl (ex2 _ _ ⟨c,d,rfl,(C1.2 i _ c (gu i (by lia)) ec).same t,(C1.2 (i+1) _ d (gu (i+1) (by lia)) ed).same t,hR' _ _ (Same.refl _) ?_⟩))
  rw [hc,hd]
  rfl
 have et:ts=(List.range (us.length-1)).map λi=>V.int (jn cs i):=by
  refine List.ext_getElem? λi=>?_
  rcases br i ts.length with z|z
  ·have e:=ag z
   rw [e,aB,be (by lia)]
   exact bQ some (g3 i _ e)
  ·rw [bj z,bj (by rw [ac,az];lia)]
 subst et
 have gt:∀i,i<us.length-1→((List.range (us.length-1)).map λi=>V.int (jn cs i))[i]?=some (V.int (jn cs i)):=λi hi=>by
  rw [aB,be hi]
  rfl
 generalize hts:((List.range (us.length-1)).map λi=>V.int (jn cs i))=ts at f3 l3 gt
 refine exI rfl (exI rfl (exI rfl ⟨p3,ts,rfl,SqL.of f3,λp4 n4=>?_⟩))
 rw [Wq (by lia)]
 have s4:=Same.upd (o:=.lst (ts.drop 1)) n4
 have f4:upd H3 p4 (.lst (ts.drop 1)) p4=some (.lst (ts.drop 1)):=qm
 generalize upd H3 p4 (.lst (ts.drop 1))=H4 at s4 f4
 have f34:=s4 _ _ f3
 refine ⟨p3,p4,ts,ts.drop 1,rfl,SqL.of f34,SqL.of f4,qy2 (K:=K) (cs.length-2) (λi=>(.int (jn cs i),.int (jn cs (i+1)))) (λi=>!decide (V.int (jn cs i)=V.int (jn cs (i+1)))) (λ_=>.int 1) (by lia) (λi H' hi s'=>⟨SqL.of (s' _ _ f34),SqL.of (s' _ _ f4),by lia,by rw [bF,l3,lu];exact hi⟩) (λH' s'=>⟨SqL.of (s' _ _ f34),SqL.of (s' _ _ f4),.inr (by rw [bF,l3,lu];exact al _)⟩) ?_ (λi H' R hi s' hR'=>(exI rfl (exI rfl ⟨rfl,_,rfl,hR' _ (Same.refl _)⟩))) (λi H' R hi _ s' hR'=>hR' _ (Same.refl _)) λp5 H5 n5 s5 f5=>?_⟩
 ·rintro i H2' v H3' hi s' ⟨q,x,y,nq,rfl,ex,ey,rfl⟩
  refine ⟨Same.upd nq,q,rfl,?_⟩
  rw [gt i (by lia)] at ex
  rw [cn,Nat.add_comm,gt (i+1) (by lia)] at ey
  rw [←aj ex,←aj ey]
  exact SqT.new
 have e5:(((List.range (cs.length-2)).filter λi=>!decide (V.int (jn cs i)=V.int (jn cs (i+1)))).map λ_=>V.int 1)=(((List.range (cs.length-2)).filter λi=>!decide (V.int (jn cs i)=V.int (jn cs (i+1)))).map λ_=>(1:Int)).map V.int:=by
  rw [ay]
  rfl
 rw [e5] at f5
 refine ⟨p5,exI rfl ⟨SqL.of f5,ex2 _ _ ⟨rfl,rfl,?_⟩⟩⟩
 exact kk _ ((s1.trans s2).trans ((s3.trans s4).trans s5))
def j8:List Int→Nat
 |[]=>0
 |[_]=>1
 |x::y::r=>(if x=y then 0 else 1)+j8 (y::r)
theorem uu (x:Int):∀xs:List Int,j8 (x::xs)=(if xs.head?=some x then 0 else 1)+j8 xs
 |[]=>rfl
 |y::r=>by
  show (if x=y then 0 else 1)+j8 (y::r)=_
  by_cases e:x=y
  ·subst e;simp
  ·have e2:¬ y=x:=λz=>e z.symm
   simp [e,e2]
def wy (p:Int×Int):Int:=if p.2>p.1 then 1 else if p.2<p.1 then -1 else 0
def dP (p:Int×Int):Nat:=if (p.2-p.1).natAbs=0 then 1 else (p.2-p.1).natAbs
def v3 (p:Int×Int):List (Int×Int):=(List.range (dP p)).map λk:Nat=>(p.1+wy p*k,p.1+wy p*(k+1))
def hp (h:Int→Int)(p:Int×Int):Int×Int:=(h p.1,h p.2)
def nx (h:Int→Int)(ps:List (Int×Int)):List (Int×Int):=(ps.map λp=>(v3 p).map (hp h)).flatten
def nxT (h:Int→Int):Nat→List (Int×Int)→List (Int×Int)
 |0,ps=>ps
 |k+1,ps=>nxT h k (nx h ps)
theorem qyz (h:Int→Int):∀(k:Nat) (ps:List (Int×Int)),nx h (nxT h k ps)=nxT h (k+1) ps
 |0,_=>rfl
 |k+1,ps=>qyz h k (nx h ps)
theorem wqx (h:Int→Int)(xs ys:List (Int×Int)):nx h (xs++ys)=nx h xs++nx h ys:=by simp [nx]
theorem Jc (h:Int→Int)(p:Int×Int)(ps:List (Int×Int)):nx h (p::ps)=(v3 p).map (hp h)++nx h ps:=by simp [nx]
def upP (a:Int)(n:Nat):List (Int×Int):=(List.range n).map λk:Nat=>(a+k,a+(k+1))
theorem sub_up {p:Int×Int}(h:p.1<p.2):v3 p=upP p.1 (p.2-p.1).toNat:=by
 unfold v3 upP
 have e1:wy p=1:=by unfold wy;rw [au (by lia)]
 have e2:dP p=(p.2-p.1).toNat:=by unfold dP;rw [am (by lia),←Int.natCast_inj,Int.natAbs_of_nonneg (by lia),cj (by lia)]
 rw [e1,e2]
 refine aF λk _=>?_
 rw [Int.one_mul,Int.one_mul]
theorem qjh {p:Int×Int}(h:p.2=p.1):v3 p=[p]:=by
 obtain ⟨a,b⟩:=p
 have h:b=a:=h
 subst h
 have e1:wy (b,b)=0:=by unfold wy;rw [am (by show ¬ b>b;lia),am (by show ¬ b<b;lia)]
 have e2:dP (b,b)=1:=by unfold dP;rw [au (by show (b-b).natAbs=0;lia)]
 unfold v3
 rw [e1,e2]
 show [(b+0*((0:Nat):Int),b+0*(((0:Nat):Int)+1))]=[(b,b)]
 rw [bE,bE,bz]
def sw (p:Int×Int):Int×Int:=(p.2,p.1)
def rv (ps:List (Int×Int)):List (Int×Int):=(ps.map sw).reverse
def prC (c:Cell):Int×Int:=(c.a,c.b)
def Qj (cs:List Cell):List Int:=(cs.map prC).map wy
def qz3 (hs:List Int)(t:Nat):Nat:=j8 (Qj (xj hs t))
theorem cut_pr (hs:List Int)(c:Cell):(c.cut.map (Cell.up hs)).map prC=(v3 (prC c)).map (hp (hAt hs)):=by
 unfold Cell.cut v3
 rw [ay,ay,ay]
 rfl
theorem wxw (hs:List Int)(cs:List Cell):(zg hs cs).map prC=nx (hAt hs) (cs.map prC):=by
 unfold zg nx
 rw [cJ,ay,ay]
 congr 1
 exact aF λc _=>cut_pr hs c
theorem T_pr (hs:List Int)(s:Nat):∀k:Nat,(xj hs (s+k)).map prC=nxT (hAt hs) k ((xj hs s).map prC)
 |0=>rfl
 |k+1=>by
  show (zg hs (xj hs (s+k))).map prC=_
  rw [wxw,T_pr hs s k,qyz]
theorem wqm {hs:List Int}(ok:ww hs):(zu hs).map prC=nx (hAt hs) [(0,(hs.length:Int)-1)]:=by
 have o1:=ok.1
 rw [Jc,sub_up (show ((0,(hs.length:Int)-1):Int×Int).1<(0,(hs.length:Int)-1).2 by show (0:Int)<(hs.length:Int)-1;lia)]
 show _=(upP 0 ((hs.length:Int)-1-0).toNat).map (hp (hAt hs))++[]
 rw [bc,show ((hs.length:Int)-1-0).toNat=hs.length-1 from by rw [Int.sub_zero];exact tn2 _]
 unfold zu upP
 rw [ay,ay]
 refine aF λk _=>?_
 show (hAt hs (k:Int),hAt hs ((k:Int)+1))=(hAt hs ((0:Int)+k),hAt hs ((0:Int)+((k:Int)+1)))
 rw [cB,cB]
theorem qwu {hs:List Int}(ok:ww hs)(k:Nat):(xj hs k).map prC=nxT (hAt hs) (k+1) [(0,(hs.length:Int)-1)]:=by
 have e:=T_pr hs 0 k
 rw [Nat.zero_add] at e
 rw [e]
 show nxT (hAt hs) k ((zu hs).map prC)=nxT (hAt hs) k (nx (hAt hs) [(0,(hs.length:Int)-1)])
 rw [wqm ok]
theorem qwy:∀(xs:List Int),xs≠[]→(j8 xs:Int)=1+(((List.range (xs.length-1)).filter λi=>!decide (xs.getD i 0=xs.getD (i+1) 0)).map λ_=>(1:Int)).sum
 |[],h=>absurd rfl h
 |[_],_=>rfl
 |x::y::r,_=>by
  have ih:=qwy (y::r) (by simp)
  rw [show (x::y::r).length-1=((y::r).length-1)+1 from rfl,cC,dD,List.filter_map]
  have e:((λi=>!decide ((x::y::r).getD i 0=(x::y::r).getD (i+1) 0))∘Nat.succ)=λi=>!decide ((y::r).getD i 0=(y::r).getD (i+1) 0):=funext λi=>rfl
  rw [e]
  have e2:(j8 (x::y::r):Int)=(if x=y then 0 else 1)+(j8 (y::r):Int):=by
   show (((if x=y then 0 else 1)+j8 (y::r):Nat):Int)=_
   split <;> simp
  have e3:(!decide ((x::y::r).getD 0 0=(x::y::r).getD (0+1) 0))=!decide (x=y):=rfl
  rw [e2,ih,e3]
  by_cases z:x=y
  ·rw [au z,bn z]
   simp only [Bool.not_true,de,dy,ay]
   rw [cB]
   rfl
  ·rw [am z,aX z]
   simp only [Bool.not_false,if_true,ay,aK,List.sum_cons]
   rfl
theorem wqc {cs:List Cell}{i:Nat}{c:Cell}(h:cs[i]?=some c):(Qj cs)[i]?=some (wy (prC c)):=by
 unfold Qj
 rw [aB,aB,h]
 rfl
theorem qw3 {n M:Int}{cs:List Cell}(h:zq n M cs){i:Nat}(hi:i<cs.length):jn (xq cs) i=(Qj cs).getD i 0:=by
 have ec:cs[i]?=some cs[i]:=ag hi
 obtain ⟨e1,e2⟩:=qqc h i _ ec
 rw [ak,wqc ec]
 unfold jn hgt
 rw [e1,e2]
 rfl
theorem qkj {n M:Int}{cs:List Cell}(h:zq n M cs):qx9 (xq cs)=(j8 (Qj cs):Int):=by
 have ne:=zv h
 have lw:(Qj cs).length=cs.length:=by unfold Qj;rw [ac,ac]
 have lp:=List.length_pos_iff.mpr ne
 rw [qwy _ (λz=>by rw [z] at lw;simp at lw;lia)]
 unfold qx9
 rw [y4 ne,lw,show cs.length+1-2=cs.length-1 from rfl]
 congr 3
 refine List.filter_congr λi hi=>?_
 have hi:=aS.mp hi
 rw [dec_i,qw3 h (by lia),qw3 h (by lia)]
def z0 (m:Nat)(p:Int×Int):List (Int×Int):=(List.range m).map λj:Nat=>((m:Int)*p.1+(p.2-p.1)*j,(m:Int)*p.1+(p.2-p.1)*(j+1))
def kz (m:Nat)(ps:List (Int×Int)):List (Int×Int):=(ps.map (z0 m)).flatten
theorem qjt (m:Nat)(xs ys:List (Int×Int)):kz m (xs++ys)=kz m xs++kz m ys:=by simp [kz]
theorem j4 (m:Nat)(p:Int×Int)(ps:List (Int×Int)):kz m (p::ps)=z0 m p++kz m ps:=by simp [kz]
theorem Y5 (m:Nat)(p:Int×Int):(z0 m p).map wy=List.replicate m (wy p):=by
 unfold z0
 rw [ay,←az (n:=m),←List.map_const,az]
 refine aF λj _=>?_
 show wy (_,_)=wy p
 obtain ⟨a,b⟩:=p
 unfold wy
 dsimp only
 have e:(m:Int)*a+(b-a)*(j+1)=(m:Int)*a+(b-a)*j+(b-a):=by grind
 rw [e]
 generalize (m:Int)*a+(b-a)*j=z
 rcases cD a b with h|h|h
 ·rw [au (by lia),au h]
 ·rw [am (by lia),am (by lia),am (by lia),am (by lia)]
 ·rw [am (by lia),au (by lia),am (by lia),au (by lia)]
theorem qq8 (x:Int)(xs:List Int):∀m:Nat,j8 (List.replicate (m+1) x++xs)=j8 (x::xs)
 |0=>rfl
 |m+1=>by
  rw [bV,dB,uu,bV,dB]
  rw [List.head?_cons,au rfl,Nat.zero_add]
  exact qq8 x xs m
theorem qk0 (m:Nat)(ps:List (Int×Int)):((kz (m+1) ps).map wy).head?=(ps.map wy).head?:=by
 cases ps with
 |nil=>rfl
 |cons p ps =>
  rw [j4,av,Y5,bV]
  rfl
theorem qwt (m:Nat):∀ps:List (Int×Int),j8 ((kz (m+1) ps).map wy)=j8 (ps.map wy)
 |[]=>rfl
 |p::ps=>by
  rw [j4,av,Y5,qq8,aK,uu,uu,qk0,qwt m ps]
theorem Q4 {α:Type}(g:Nat→α)(k:Nat):∀d:Nat,(List.range (d*k)).map g=((List.range d).map λi=>(List.range k).map λj=>g (i*k+j)).flatten
 |0=>by simp
 |d+1=>by
  rw [dH,List.range_add,av,Q4 g k d,aR,av,bU]
  congr 1
  simp [ay,Function.comp_def]
theorem qqu (p:Int×Int)(h:p.1≠p.2):v3 p=(List.range (p.2-p.1).natAbs).map λk:Nat=>(p.1+wy p*k,p.1+wy p*(k+1)):=by
 unfold v3 dP
 rw [am (by lia)]
theorem wy_abs (p:Int×Int):wy p*((p.2-p.1).natAbs:Int)=p.2-p.1:=by
 unfold wy
 rcases cD p.1 p.2 with h|h|h
 ·rw [au (by lia)];lia
 ·rw [am (by lia),am (by lia)];lia
 ·rw [am (by lia),au (by lia)];lia
theorem ref_in {m:Nat}{p q:Int×Int}(h:q∈z0 m p):wy q=wy p∧q.2-q.1=p.2-p.1:=by
 refine ⟨?_,?_⟩
 ·have:wy q∈(z0 m p).map wy:=aV.mpr ⟨q,h,rfl⟩
  rw [Y5] at this
  exact (List.mem_replicate.mp this).2
 ·unfold z0 at h
  obtain ⟨j,_,rfl⟩:=aV.mp h
  grind
theorem qzm (m:Nat)(p:Int×Int)(h:p.1≠p.2):((z0 m p).map v3).flatten=((v3 p).map (z0 m)).flatten:=by
 obtain ⟨a,b⟩:=p
 have h:a≠b:=h
 have wa:=wy_abs (a,b)
 have wa:wy (a,b)*((b-a).natAbs:Int)=b-a:=wa
 have l:((z0 m (a,b)).map v3).flatten=(List.range (m*(b-a).natAbs)).map λk:Nat=>((m:Int)*a+wy (a,b)*k,(m:Int)*a+wy (a,b)*(k+1)):=by
  rw [Q4]
  congr 1
  unfold z0
  rw [ay]
  refine aF λj hj=>?_
  have hq:(((m:Int)*a+(b-a)*j,(m:Int)*a+(b-a)*(j+1)):Int×Int)∈z0 m (a,b):=aV.mpr ⟨j,hj,rfl⟩
  obtain ⟨w1,w2⟩:=ref_in hq
  show v3 ((m:Int)*a+(b-a)*j,(m:Int)*a+(b-a)*(j+1))=_
  rw [qqu _ (by have:(m:Int)*a+(b-a)*(j+1)-((m:Int)*a+(b-a)*j)=b-a:=w2;show (m:Int)*a+(b-a)*j≠(m:Int)*a+(b-a)*(j+1);lia),w1,w2]
  refine aF λk _=>?_
  show ((m:Int)*a+(b-a)*j+wy (a,b)*k,(m:Int)*a+(b-a)*j+wy (a,b)*(k+1))=((m:Int)*a+wy (a,b)*((j*(b-a).natAbs+k:Nat):Int),(m:Int)*a+wy (a,b)*(((j*(b-a).natAbs+k:Nat):Int)+1))
  push_cast
  generalize wy (a,b)=w0 at wa ⊢
  generalize ((b-a).natAbs:Int)=d at wa ⊢
  rw [←wa]
  clear w1 w2 hq hj h
  refine dE ?_ ?_ <;> (show (_:Int)=_;grind)
 have r:((v3 (a,b)).map (z0 m)).flatten=(List.range ((b-a).natAbs*m)).map λk:Nat=>((m:Int)*a+wy (a,b)*k,(m:Int)*a+wy (a,b)*(k+1)):=by
  rw [Q4,qqu (a,b) h,ay]
  congr 1
  refine aF λi _=>?_
  show z0 m (a+wy (a,b)*i,a+wy (a,b)*(i+1))=_
  unfold z0
  refine aF λj _=>?_
  dsimp only
  push_cast
  generalize wy (a,b)=w0
  refine dE ?_ ?_ <;> (show (_:Int)=_;grind)
 rw [l,r,cV]
theorem qj6 (m:Nat)(p:Int×Int)(h:p.1≠p.2):((z0 m p).map v3).flatten=if m=0 then [] else v3 ((m:Int)*p.1,(m:Int)*p.2):=by
 by_cases z:m=0
 ·subst z;rfl
 ·rw [am z,qzm m p h]
  obtain ⟨a,b⟩:=p
  have h:a≠b:=h
  have m1:1≤(m:Int):=by lia
  have nab:((m:Int)*b-(m:Int)*a).natAbs=(b-a).natAbs*m:=by
   rw [←Int.mul_sub,dQ,Int.natAbs_natCast,cV]
  have ew:wy ((m:Int)*a,(m:Int)*b)=wy (a,b):=by
   unfold wy
   dsimp only
   rcases cD a b with g|g|g
   ·have:=bK g (show 0<(m:Int) by lia)
    rw [au this,au g]
   ·exact absurd g h
   ·have:=bK g (show 0<(m:Int) by lia)
    rw [am (by lia),au this,am (by lia),au g]
  have nm:((m:Int)*a,(m:Int)*b).1≠((m:Int)*a,(m:Int)*b).2:=λe=>h (di (by lia) e)
  rw [qqu _ nm,ew]
  show _=(List.range ((m:Int)*b-(m:Int)*a).natAbs).map _
  rw [nab,Q4,qqu (a,b) h,ay]
  congr 1
  refine aF λi _=>?_
  show z0 m (a+wy (a,b)*i,a+wy (a,b)*(i+1))=_
  unfold z0
  refine aF λj _=>?_
  dsimp only
  push_cast
  generalize wy (a,b)=w0
  refine dE ?_ ?_ <;> (show (_:Int)=_;grind)
def FinH (m:Nat)(n:Int)(h h':Int→Int):Prop:=∀k:Int,0≤k→k<n→∀j:Nat,j≤m→h' ((m:Int)*k+j)=(m:Int)*h k+(h (k+1)-h k)*j
theorem FinH.end_ {m:Nat}{n:Int}{h h':Int→Int}(F:FinH m n h h'){k:Int}(h0:0≤k)(h1:k≤n)(n1:1≤n):h' ((m:Int)*k)=(m:Int)*h k:=by
 rcases bA k n with z|z
 ·have e:=F k h0 z 0 (ba _)
  rw [show (m:Int)*k+((0:Nat):Int)=(m:Int)*k by simp] at e
  rw [e]
  simp
 ·have ek:k=n:=by lia
  subst ek
  have e:=F (k-1) (by lia) (by lia) m (al _)
  rw [show (m:Int)*(k-1)+(m:Int)=(m:Int)*k by grind,show k-1+1=k by lia] at e
  rw [e]
  grind
def InP (n:Int)(p:Int×Int):Prop:=(0≤p.1∧p.1≤n)∧0≤p.2∧p.2≤n
theorem qyp {n:Int}{p u:Int×Int}(hp:InP n p)(hu:u∈v3 p):InP n u∧(p.1≠p.2→u.2=u.1+1∨u.2=u.1-1):=by
 obtain ⟨⟨a0,a1⟩,b0,b1⟩:=hp
 unfold v3 dP at hu
 obtain ⟨k,hk,rfl⟩:=aV.mp hu
 have hk:=aS.mp hk
 show ((0≤p.1+wy p*k∧p.1+wy p*k≤n)∧0≤p.1+wy p*(k+1)∧p.1+wy p*(k+1)≤n)∧(p.1≠p.2→p.1+wy p*(k+1)=p.1+wy p*k+1∨p.1+wy p*(k+1)=p.1+wy p*k-1)
 unfold wy
 rcases cD p.1 p.2 with z|z|z
 ·rw [am (by lia)] at hk
  rw [au (by lia)]
  lia
 ·rw [am (by lia),am (by lia)]
  lia
 ·rw [am (by lia)] at hk
  rw [am (by lia),au (by lia)]
  lia
theorem ref_un {m:Nat}{n:Int}{h h':Int→Int}(F:FinH m n h h'){u:Int×Int}(hu:InP n u)(h1:u.2=u.1+1∨u.2=u.1-1):(z0 m u).map (hp h')=z0 m (hp h u):=by
 obtain ⟨c,c'⟩:=u
 have h1:c'=c+1∨c'=c-1:=h1
 obtain ⟨⟨i0,i1⟩,i2,i3⟩:=hu
 have i0:0≤c:=i0
 have i1:c≤n:=i1
 have i2:0≤c':=i2
 have i3:c'≤n:=i3
 unfold z0
 rw [ay]
 refine aF λj hj=>?_
 have hj:=aS.mp hj
 show (h' ((m:Int)*c+(c'-c)*j),h' ((m:Int)*c+(c'-c)*(j+1)))=((m:Int)*h c+(h c'-h c)*j,(m:Int)*h c+(h c'-h c)*(j+1))
 rcases h1 with rfl|rfl
 ·have e1:=F c i0 (by lia) j (by lia)
  have e2:=F c i0 (by lia) (j+1) (by lia)
  rw [show (m:Int)*c+(c+1-c)*j=(m:Int)*c+j by grind,show (m:Int)*c+(c+1-c)*((j:Int)+1)=(m:Int)*c+((j+1:Nat):Int) by push_cast;grind,e1,e2]
  push_cast
  rfl
 ·have e1:=F (c-1) i2 (by lia) (m-j) (by lia)
  have e2:=F (c-1) i2 (by lia) (m-(j+1)) (by lia)
  have c1:((m-j:Nat):Int)=(m:Int)-j:=by lia
  have c2:((m-(j+1):Nat):Int)=(m:Int)-(j+1):=by lia
  rw [c1] at e1
  rw [c2] at e2
  rw [show (m:Int)*c+(c-1-c)*j=(m:Int)*(c-1)+((m:Int)-j) by grind,show (m:Int)*c+(c-1-c)*((j:Int)+1)=(m:Int)*(c-1)+((m:Int)-(j+1)) by grind,e1,e2,show c-1+1=c by lia]
  generalize h c=x
  generalize h (c-1)=y
  refine dE ?_ ?_ <;> (show (_:Int)=_;grind)
theorem qw1 {α β:Type}(f:α→β)(xs:List (List α)):xs.flatten.map f=(xs.map λx=>x.map f).flatten:=by rw [cJ]
theorem Wj (h:Int→Int)(ps:List (Int×Int)):nx h ps=((ps.map v3).flatten).map (hp h):=by
 unfold nx
 rw [qw1,ay]
 rfl
theorem qjp {m:Nat}{n:Int}{h h':Int→Int}(F:FinH m n h h')(n1:1≤n){p:Int×Int}(hi:InP n p):nx h' (z0 m p)=kz m (nx h [p]):=by
 by_cases e:p.1=p.2
 ·obtain ⟨a,b⟩:=p
  have e:a=b:=e
  subst e
  have ea:=F.end_ hi.1.1 hi.1.2 n1
  have ea:h' ((m:Int)*a)=(m:Int)*h a:=ea
  rw [Jc,qjh rfl]
  show nx h' (z0 m (a,a))=kz m ([(h a,h a)]++nx h [])
  rw [show nx h []=[] from rfl,bc,j4,show kz m []=[] from rfl,bc,Wj]
  have e1:∀x:Int,z0 m (x,x)=List.replicate m ((m:Int)*x,(m:Int)*x):=λx=>by
   unfold z0
   rw [←az (n:=m),←List.map_const,az]
   refine aF λj _=>?_
   show ((m:Int)*x+(x-x)*j,(m:Int)*x+(x-x)*(j+1))=_
   rw [Int.sub_self,bE,bE,bz]
   rfl
  rw [e1,e1,List.map_replicate,qjh rfl]
  have fl:∀(x:Int×Int) (k:Nat),(List.replicate k [x]).flatten=List.replicate k x:=λx k=>by
   induction k with
   |zero=>rfl
   |succ k ih=>rw [bV,bV,List.flatten_cons,ih];rfl
  rw [fl,List.map_replicate]
  show List.replicate m (h' ((m:Int)*a),h' ((m:Int)*a))=_
  rw [ea]
 ·rw [Wj,qzm m p e,qw1,ay,Jc,show nx h []=[] from rfl,bc]
  unfold kz
  rw [ay]
  congr 1
  refine aF λu hu=>?_
  obtain ⟨i,j⟩:=qyp hi hu
  exact ref_un F i (j e)
theorem quk {m:Nat}{n:Int}{h h':Int→Int}(F:FinH m n h h')(n1:1≤n):∀ps:List (Int×Int),(∀p∈ps,InP n p)→nx h' (kz m ps)=kz m (nx h ps)
 |[],_=>rfl
 |p::ps,hi=>by
  rw [j4,wqx,qjp F n1 (hi p (ck ..)),quk F n1 ps λq hq=>hi q (bg _ hq),←qjt,show p::ps=[p]++ps from rfl,wqx]
theorem nx_in {n:Int}{h:Int→Int}(hh:∀k,0≤k→k≤n→0≤h k∧h k≤n){ps:List (Int×Int)}(hi:∀p∈ps,InP n p):∀p∈nx h ps,InP n p:=λp hp'=>by
 rw [Wj] at hp'
 obtain ⟨u,hu,rfl⟩:=aV.mp hp'
 obtain ⟨l,hl,hu⟩:=List.mem_flatten.mp hu
 obtain ⟨q,hq,rfl⟩:=aV.mp hl
 obtain ⟨⟨⟨a0,a1⟩,b0,b1⟩,_⟩:=qyp (hi q hq) hu
 exact ⟨hh _ a0 a1,hh _ b0 b1⟩
theorem qzc {m:Nat}{n:Int}{h h':Int→Int}(F:FinH m n h h')(n1:1≤n)(hh:∀k,0≤k→k≤n→0≤h k∧h k≤n):∀(k:Nat) (ps:List (Int×Int)),(∀p∈ps,InP n p)→nxT h' k (kz m ps)=kz m (nxT h k ps)
 |0,_,_=>rfl
 |k+1,ps,hi=>by
  show nxT h' k (nx h' (kz m ps))=kz m (nxT h k (nx h ps))
  rw [quk F n1 ps hi,qzc F n1 hh k _ (nx_in hh hi)]
end
section
variable {P:Ac}{w:Ah}{K:Aa}{mg:Str→Option Ag}{base:Heap}{qd:Aj}{qy:Aj}{qh:Aj}{qt:Aj}{qc:Aj}{qg:Aj}{qv:Aj}
theorem qxf {hs:List Int}{t b:Int}(h2:2≤hs.length)(hb:1≤b)(on:wr hs t b):∃k:Int,0≤k∧k<(hs.length:Int)-1∧k*b≤t∧t≤(k+1)*b:=by
 obtain ⟨h0,h1⟩:=on
 have m0:=aQ t (show b≠0 by lia)
 have m1:=aJ t (show 0<b by lia)
 have dm:=b8 t b
 have q0:=dN h0 (show (0:Int)≤b by lia)
 generalize t/b=q at dm q0
 generalize t%b=r at dm m0 m1
 by_cases z:q<(hs.length:Int)-1
 ·refine ⟨q,q0,z,?_,?_⟩
  ·rw [bf];lia
  ·rw [dU,bf q b];lia
 ·refine ⟨(hs.length:Int)-1-1,by lia,by lia,?_,by rw [show (hs.length:Int)-1-1+1=(hs.length:Int)-1 by lia];exact h1⟩
  have:((hs.length:Int)-1-1)*b≤q*b:=ao (by lia) (by lia)
  rw [bf q b] at this
  lia
theorem wqd {hs:List Int}{m i:Int}(h2:2≤hs.length)(m1:1≤m)(h0:0≤i)(h1:i≤((hs.length:Int)-1)*m):hAt (zh hs m) i=xy hs i m:=by
 have em:((m.toNat:Nat):Int)=m:=by lia
 have e:(((hs.length-1)*m.toNat:Nat):Int)=((hs.length:Int)-1)*m:=by
  push_cast
  rw [show ((hs.length-1:Nat):Int)=(hs.length:Int)-1 by lia,em]
 have hi:i.toNat<(hs.length-1)*m.toNat+1:=by lia
 unfold hAt zh
 rw [ak,aB,be hi]
 show xy hs (i.toNat:Int) m=_
 rw [show ((i.toNat:Nat):Int)=i by lia]
theorem fin_H {hs:List Int}{m:Int}(h2:2≤hs.length)(m1:1≤m):FinH m.toNat ((hs.length:Int)-1) (hAt hs) (hAt (zh hs m)):=λk k0 k1 j hj=>by
 have em:((m.toNat:Nat):Int)=m:=by lia
 rw [em]
 have hj:(j:Int)≤m:=by lia
 have b1:k*m≤m*k+j:=by rw [bf];lia
 have b2:m*k+j≤(k+1)*m:=by rw [dU,bf k m];lia
 have b3:(k+1)*m≤((hs.length:Int)-1)*m:=ao (by lia) (by lia)
 have b0:0≤m*k:=bo (by lia) k0
 rw [wqd h2 m1 (by lia) (by lia),xn k0 k1 m1 b1 b2]
 generalize hAt hs k=u
 generalize hAt hs (k+1)=v
 grind
theorem js {hs:List Int}{m:Int}(h2:2≤hs.length)(m1:1≤m):((zh hs m).length:Int)-1=((hs.length:Int)-1)*m:=by
 rw [uq]
 push_cast
 rw [show ((hs.length-1:Nat):Int)=(hs.length:Int)-1 by lia,show ((m.toNat:Nat):Int)=m by lia]
 lia
theorem qy4 {hs:List Int}{m t b:Int}(h2:2≤hs.length)(m1:1≤m)(on:wr hs t b):wr (zh hs m) (m*t) b:=by
 obtain ⟨h0,h1⟩:=on
 refine ⟨bo (by lia) h0,?_⟩
 rw [js h2 m1,bf _ m,cK]
 exact bb h1 (by lia)
theorem qy5 {hs:List Int}{m t b:Int}(ok:ww hs)(m1:1≤m)(hb:1≤b)(on:wr hs t b):xy (zh hs m) (m*t) b=m*xy hs t b:=by
 have h2:=ok.1
 have onf:=qy4 h2 m1 on
 have el:=js h2 m1
 have w1:1≤((hs.length:Int)-1)*m:=by
  have:1*1≤((hs.length:Int)-1)*m:=aU (by lia) m1 (by lia) (by lia)
  lia
 obtain ⟨k,k0,k1,l1,l2⟩:=qxf (by lia) hb onf
 have hk2:k<((hs.length:Int)-1)*m:=by lia
 have m0:=aQ k (show m≠0 by lia)
 have mm:=aJ k (show 0<m by lia)
 have dm:=b8 k m
 have q0:=dN k0 (show (0:Int)≤m by lia)
 have q1:k/m<(hs.length:Int)-1:=Int.ediv_lt_of_lt_mul (by lia) hk2
 have F:=fin_H h2 m1
 have em:((m.toNat:Nat):Int)=m:=by lia
 have e1:=F (k/m) q0 q1 (k%m).toNat (by lia)
 have e2:=F (k/m) q0 q1 ((k%m).toNat+1) (by lia)
 rw [xn k0 k1 hb l1 l2]
 generalize k/m=q at *
 generalize k%m=r at *
 have er:((r.toNat:Nat):Int)=r:=by lia
 push_cast at e1 e2
 rw [em,er] at e1 e2
 rw [dm] at e1
 rw [show m*q+(r+1)=k+1 by lia] at e2
 have c1:q*b≤t:=by
  have:m*(q*b)≤m*t:=by
   have:(m*q)*b≤k*b:=ao (by lia) (by lia)
   rw [←cK];lia
  exact dj this (by lia)
 have c2:t≤(q+1)*b:=by
  have:m*t≤m*((q+1)*b):=by
   have:(k+1)*b≤(m*(q+1))*b:=ao (by rw [Int.mul_add];lia) (by lia)
   rw [←cK];lia
  exact dj this (by lia)
 rw [xn q0 q1 hb c1 c2,e1,e2]
 have dk:k=m*q+r:=dm.symm
 subst dk
 generalize hAt hs q=u
 generalize hAt hs (q+1)=v
 grind
theorem qyf {hs:List Int}{m t b:Int}(ok:ww hs)(m1:1≤m)(hb:1≤b)(on:wr hs t b):∀n,trT (zh hs m) (m*t) b n=m*trT hs t b n
 |0=>rfl
 |n+1=>by
  show xy (zh hs m) (trT (zh hs m) (m*t) b n) b=m*xy hs (trT hs t b n) b
  rw [qyf ok m1 hb on n]
  exact qy5 ok m1 hb (vt ok hb on n)
theorem qyd {hs:List Int}{m:Int}(ok:ww hs)(m1:1≤m)(ok':ww (zh hs m))(k:Nat):qz3 (zh hs m) k=qz3 hs k:=by
 have h2:=ok.1
 have em:((m.toNat:Nat):Int)=m:=by lia
 have F:=fin_H h2 m1
 have n1:1≤(hs.length:Int)-1:=by lia
 have hi:InP ((hs.length:Int)-1) ((0,(hs.length:Int)-1):Int×Int):=⟨⟨Int.le_refl _,by show (0:Int)≤(hs.length:Int)-1;lia⟩,by show (0:Int)≤(hs.length:Int)-1;lia,Int.le_refl _⟩
 have hh:∀k,0≤k→k≤(hs.length:Int)-1→0≤hAt hs k∧hAt hs k≤(hs.length:Int)-1:=λk _ _=>uj ok k
 have ne:((0,(hs.length:Int)-1):Int×Int).1≠(0,(hs.length:Int)-1).2:=by show (0:Int)≠(hs.length:Int)-1;lia
 unfold qz3 Qj
 rw [qwu ok k,qwu ok' k,js h2 m1]
 show j8 ((nxT (hAt (zh hs m)) k (nx (hAt (zh hs m)) [(0,((hs.length:Int)-1)*m)])).map wy)=j8 ((nxT (hAt hs) k (nx (hAt hs) [(0,(hs.length:Int)-1)])).map wy)
 have st:nx (hAt (zh hs m)) [(0,((hs.length:Int)-1)*m)]=kz m.toNat (nx (hAt hs) [(0,(hs.length:Int)-1)]):=by
  rw [←qjp F n1 hi,Wj,Wj,qj6 m.toNat _ ne,am (show ¬ m.toNat=0 by lia)]
  have:((hs.length:Int)-1)*m=((m.toNat:Nat):Int)*((hs.length:Int)-1):=by rw [em,bf]
  rw [this,dG]
  show (v3 _++[]).map _=_
  rw [bc]
 rw [st,qzc F n1 hh k _ (nx_in hh λp hp'=>by rw [aT.mp hp'];exact hi)]
 obtain ⟨d,ed⟩:∃d,m.toNat=d+1:=⟨m.toNat-1,by lia⟩
 rw [ed,qwt]
end
section
variable {P:Ac}{w:Ah}{K:Aa}{mg:Str→Option Ag}{base:Heap}{qd:Aj}{qy:Aj}{qh:Aj}{qt:Aj}{qc:Aj}{qg:Aj}{qv:Aj}
def x9 (hs:List Int)(pt q:Int×Int):Nat→Int
 |0=>0
 |m+1=>x9 hs pt q m+if itP hs pt (m+1)=q then 1 else 0
theorem it_fS {hs:List Int}{pt:Int×Int}{n u:Nat}(hu:u<n)(e:itP hs pt n=itP hs pt u)(j:Nat):itP hs pt j=itP hs pt (fS n u j):=by
 unfold fS
 split
 ·rfl
 ·exact per qvc hu e j (by lia)
theorem qz5 {hs:List Int}{pt:Int×Int}{n u f:Nat}(d:Dist (itP hs pt) n)(hu:u<n)(e:itP hs pt n=itP hs pt u)(hf:f<n):∀m,(stN n u m f:Int)=x9 hs pt (itP hs pt f) m
 |0=>by
  show _=(0:Int)
  unfold stN
  by_cases z:0<f
  ·rw [au z];rfl
  ·have z:f=0:=by lia
   subst z
   rw [am (aE 0),au rfl,Nat.sub_self,Nat.zero_div]
   split <;> rfl
 |m+1=>by
  rw [qyy hu hf]
  show _=x9 hs pt (itP hs pt f) m+if itP hs pt (m+1)=itP hs pt f then 1 else 0
  rw [←qz5 d hu e hf m,it_fS hu e (m+1)]
  have lt:=fS_lt (m:=m+1) hu
  by_cases z:f=fS n u (m+1)
  ·rw [au z,←z,au rfl];rfl
  ·rw [am z,am (λy=>?_)]
   ·rfl
   ·rcases Nat.lt_trichotomy f (fS n u (m+1)) with x|x|x
    ·exact d _ _ x lt y.symm
    ·exact z x
    ·exact d _ _ x hf y
theorem qq6 {hs:List Int}{pt q:Int×Int}{n u:Nat}(hu:u<n)(e:itP hs pt n=itP hs pt u)(h:∀f,f<n→itP hs pt f≠q):∀m,x9 hs pt q m=0
 |0=>rfl
 |m+1=>by
  show x9 hs pt q m+(if itP hs pt (m+1)=q then 1 else 0)=0
  rw [qq6 hu e h m,it_fS hu e (m+1),am (h _ (fS_lt hu))]
  rfl
theorem qwv {hs:List Int}{k:Int}(h0:0≤k)(h1:k<hs.length):hAt (xf hs) k=(hs.length:Int)+hAt hs k:=by
 unfold hAt xf
 rw [ak,ak,aM (by rw [ac];lia),aB,ag (show k.toNat<hs.length by lia)]
 show (hs.length:Int)-1+1+_=_
 simp only [Option.getD_some]
 lia
theorem qww {hs:List Int}{k:Int}(h0:(hs.length:Int)≤k)(h1:k<2*(hs.length:Int)):hAt (xf hs) k=k-hs.length:=by
 unfold hAt xf
 rw [ak,aH (by rw [ac];lia),ac,aB,be (by lia)]
 show (0:Int)+((k.toNat-hs.length:Nat):Int)=_
 lia
theorem qv3 {hs:List Int}{t b:Int}(hok:ww hs)(hb:1≤b)(hon:wr hs t b):xy (xf hs) t b=xy hs t b+(hs.length:Int)*b:=by
 have r:=Yt hok.1 hb hon.1
 have hk:kF hs t b*b≤t∧t≤(kF hs t b+1)*b:=by
  have d0:=b8 t b
  have d1:=aQ t (show b≠0 by lia)
  have d2:=aJ t (show 0<b by lia)
  have hh:=hon.2
  unfold kF
  split
  ·rename_i g
   have:((hs.length:Int)-1-1+1)*b≤t/b*b:=ao (by lia) (by lia)
   constructor <;> grind
  ·constructor <;> grind
 have l:=zn hs
 rw [xn (k:=kF hs t b) r.1 (by rw [l];lia) hb hk.1 hk.2,xn (hs:=hs) (k:=kF hs t b) r.1 r.2 hb hk.1 hk.2,qwv r.1 (by lia),qwv (by lia) (by lia)]
 generalize hAt hs (kF hs t b)=u
 generalize hAt hs (kF hs t b+1)=v
 generalize kF hs t b=k
 grind
theorem qky {hs:List Int}{t b:Int}(hok:ww hs)(hb:1≤b)(h0:0≤t)(h1:t≤((hs.length:Int)-1)*b):xy (xf hs) (t+(hs.length:Int)*b) b=t:=by
 have l:=zn hs
 have l2:=hok.1
 have r:=Yt (hs:=hs) (t:=t) hok.1 hb h0
 have hk:kF hs t b*b≤t∧t≤(kF hs t b+1)*b:=by
  have d0:=b8 t b
  have d1:=aQ t (show b≠0 by lia)
  have d2:=aJ t (show 0<b by lia)
  unfold kF
  split
  ·rename_i g
   have:((hs.length:Int)-1-1+1)*b≤t/b*b:=ao (by lia) (by lia)
   constructor <;> grind
  ·constructor <;> grind
 rw [xn (k:=kF hs t b+hs.length) (by lia) (by rw [l];lia) hb (by grind) (by grind),qww (by lia) (by lia),qww (by lia) (by lia)]
 generalize kF hs t b=k
 grind
theorem StR.hit {hs:List Int}{p q:Int×Int}{n u m:Nat}{r:Int}(d:Dist (itP hs p) n)(hu:u<n)(e:itP hs p n=itP hs p u)(h:StR hs p q n u m r):r=x9 hs p q m:=by
 rcases h with ⟨f,hf,e1,e2⟩|⟨h,e2⟩
 ·rw [e2,qz5 d hu e hf m,e1]
 ·rw [e2,qq6 hu e h m]
theorem kr {hs:List Int}{t b t' b':Int}(hb:1≤b)(hb':1≤b')(n:Nat):itP hs (qb t b) n=itP hs (qb t' b') n↔trT hs t b n*b'=trT hs t' b' n*b:=by
 rw [←yp hb,←yp hb',Wm hb hb']
theorem qqr {hs:List Int}{t b t' b':Int}(hb:1≤b)(hb':1≤b')(n:Nat):itP hs (qb t b) n=qb t' b'↔trT hs t b n*b'=t'*b:=by
 rw [←yp hb,Wm hb hb']
def MovT (hs hs':List Int)(c d t b:Int):Prop:=∀n,trT hs' (t*c+d*b) b n=trT hs t b n*c+d*b
theorem qxv {x y b b' c d:Int}(hc:1≤c):(x*c+d*b)*b'=(y*c+d*b')*b↔x*b'=y*b:=by
 have e1:(x*c+d*b)*b'=c*(x*b')+d*b*b':=by grind
 have e2:(y*c+d*b')*b=c*(y*b)+d*b*b':=by grind
 rw [e1,e2]
 constructor
 ·intro h
  exact di (show c≠0 by lia) (by lia)
 ·intro h
  rw [h]
theorem Ws {hs hs':List Int}{c d t b t' b':Int}(hc:1≤c)(hb:1≤b)(hb':1≤b')(h:MovT hs hs' c d t b)(h':MovT hs hs' c d t' b')(n:Nat) :
  itP hs' (qb (t*c+d*b) b) n=itP hs' (qb (t'*c+d*b') b') n↔itP hs (qb t b) n=itP hs (qb t' b') n:=by
 rw [kr hb hb',kr hb hb',h n,h' n,qxv hc]
theorem Q3 {hs hs':List Int}{c d t b t' b':Int}(hc:1≤c)(hb:1≤b)(hb':1≤b')(h:MovT hs hs' c d t b):∀m,x9 hs' (qb (t*c+d*b) b) (qb (t'*c+d*b') b') m=x9 hs (qb t b) (qb t' b') m
 |0=>rfl
 |m+1=>by
  show x9 hs' _ _ m+(if itP hs' (qb (t*c+d*b) b) (m+1)=qb (t'*c+d*b') b' then 1 else 0)=x9 hs _ _ m+if itP hs (qb t b) (m+1)=qb t' b' then 1 else 0
  rw [Q3 hc hb hb' h m]
  congr 1
  have e:itP hs' (qb (t*c+d*b) b) (m+1)=qb (t'*c+d*b') b'↔itP hs (qb t b) (m+1)=qb t' b':=by
   rw [qqr hb hb',qqr hb hb',h (m+1),qxv hc]
  by_cases z:itP hs (qb t b) (m+1)=qb t' b'
  ·rw [au z,au (e.mpr z)]
  ·rw [am z,am λy=>z (e.mp y)]
theorem qzd {hs:List Int}{m t b:Int}(ok:ww hs)(m1:1≤m)(hb:1≤b)(on:wr hs t b):MovT hs (zh hs m) m 0 t b:=λn=>by
 rw [bE,bz,bz,bf t m,qyf ok m1 hb on n,bf]
def zk (hs ks:List Int):List Int:=hs++ks.map λh=>(hs.length:Int)-1+1+h
theorem zp (hs ks:List Int):(zk hs ks).length=hs.length+ks.length:=by unfold zk;rw [ar,ac]
theorem qvy {hs ks:List Int}(h:ww hs)(k:ww ks)(l:hs.length+ks.length≤25):ww (zk hs ks):=by
 obtain ⟨h1,h2,h3⟩:=h
 obtain ⟨k1,k2,k3⟩:=k
 refine ⟨by rw [zp];lia,by rw [zp];lia,λx hx=>?_⟩
 rw [zp]
 unfold zk at hx
 push_cast
 rcases aP.mp hx with z|z
 ·have:=h3 x z
  lia
 ·obtain ⟨y,hy,rfl⟩:=aV.mp z
  have:=k3 y hy
  lia
theorem qws {hs ks:List Int}{k:Int}(h0:0≤k)(h1:k<hs.length):hAt (zk hs ks) k=hAt hs k:=by
 unfold hAt zk
 rw [ak,ak,aM (by lia)]
theorem qq7 {hs ks:List Int}{k:Int}(h0:0≤k)(h1:k<ks.length):hAt (zk hs ks) (k+hs.length)=hAt ks k+hs.length:=by
 unfold hAt zk
 rw [ak,ak,aH (by lia),show (k+(hs.length:Int)).toNat-hs.length=k.toNat by lia,aB,ag (show k.toNat<ks.length by lia)]
 show (hs.length:Int)-1+1+_=_
 simp only [Option.getD_some]
 lia
theorem qkh {hs ks:List Int}{t b:Int}(ok:ww hs)(hb:1≤b)(on:wr hs t b):xy (zk hs ks) t b=xy hs t b:=by
 obtain ⟨k,k0,k1,l1,l2⟩:=qxf ok.1 hb on
 have l:=zp hs ks
 rw [xn k0 (by rw [l];push_cast;lia) hb l1 l2,xn k0 k1 hb l1 l2,qws k0 (by lia),qws (by lia) (by lia)]
theorem qvr {hs ks:List Int}{t b:Int}(ok:ww ks)(hb:1≤b)(on:wr ks t b):xy (zk hs ks) (t+(hs.length:Int)*b) b=xy ks t b+(hs.length:Int)*b:=by
 obtain ⟨k,k0,k1,l1,l2⟩:=qxf ok.1 hb on
 have l:=zp hs ks
 rw [xn (k:=k+hs.length) (by lia) (by rw [l];push_cast;lia) hb (by rw [dU];lia) (by rw [show k+(hs.length:Int)+1=(k+1)+hs.length by lia,dU (k+1)];lia),xn k0 k1 hb l1 l2,show k+(hs.length:Int)+1=(k+1)+hs.length by lia,qq7 k0 (by lia),qq7 (by lia) (by lia)]
 generalize hAt ks k=u
 generalize hAt ks (k+1)=v
 grind
theorem Wf {hs ks:List Int}{t b:Int}(ok:ww hs)(hb:1≤b)(on:wr hs t b):MovT hs (zk hs ks) 1 0 t b:=λn=>by
 rw [bE,bz,bz,bd,bd]
 induction n with
 |zero=>rfl
 |succ n ih =>
  show xy (zk hs ks) (trT (zk hs ks) t b n) b=xy hs (trT hs t b n) b
  rw [ih,qkh ok hb (vt ok hb on n)]
theorem Wd {hs ks:List Int}{t b:Int}(ok:ww ks)(hb:1≤b)(on:wr ks t b):MovT ks (zk hs ks) 1 hs.length t b:=λn=>by
 rw [bd,bd]
 induction n with
 |zero=>rfl
 |succ n ih =>
  show xy (zk hs ks) (trT (zk hs ks) (t+(hs.length:Int)*b) b n) b=xy ks (trT ks t b n) b+(hs.length:Int)*b
  rw [ih,qvr ok hb (vt ok hb on n)]
theorem Yq {hs ks:List Int}{t b t' b':Int}(ok:ww hs)(ok':ww ks)(hb:1≤b)(hb':1≤b')(on:wr hs t b)(on':wr ks t' b')(n:Nat) :
  itP (zk hs ks) (qb t b) n≠itP (zk hs ks) (qb (t'+(hs.length:Int)*b') b') n:=λe=>by
 rw [kr hb hb'] at e
 have e1:=Wf (ks:=ks) ok hb on n
 have e2:=Wd (hs:=hs) ok' hb' on' n
 rw [bE,bz,bz,bd,bd] at e1
 rw [bd,bd] at e2
 rw [e1,e2] at e
 obtain ⟨_,o1⟩:=vt ok hb on n
 obtain ⟨o2,_⟩:=vt ok' hb' on' n
 have a1:trT hs t b n*b'≤((hs.length:Int)-1)*b*b':=ao o1 (by lia)
 have a2:0≤trT ks t' b' n*b:=bo o2 (by lia)
 have a3:0<b*b':=Int.mul_pos (by lia) (by lia)
 have a4:(trT ks t' b' n+(hs.length:Int)*b')*b=trT ks t' b' n*b+(hs.length:Int)*(b*b'):=by grind
 have a5:((hs.length:Int)-1)*b*b'=(hs.length:Int)*(b*b')-b*b':=by grind
 lia
theorem u0 {hs:List Int}{t b:Int}(ok:ww hs)(hb:1≤b)(on:wr hs t b)(n:Nat):trT (xf hs) t b (2*n)=trT hs t b n∧trT (xf hs) t b (2*n+1)=trT hs t b (n+1)+(hs.length:Int)*b:=by
 have one:∀n,trT (xf hs) t b (2*n)=trT hs t b n→trT (xf hs) t b (2*n+1)=trT hs t b (n+1)+(hs.length:Int)*b:=λn e=>by
  show xy (xf hs) (trT (xf hs) t b (2*n)) b=xy hs (trT hs t b n) b+_
  rw [e,qv3 ok hb (vt ok hb on n)]
 induction n with
 |zero=>exact ⟨rfl,one 0 rfl⟩
 |succ n ih =>
  have e:trT (xf hs) t b (2*(n+1))=trT hs t b (n+1):=by
   show xy (xf hs) (trT (xf hs) t b (2*n+1)) b=_
   obtain ⟨o0,o1⟩:=vt ok hb on (n+1)
   rw [ih.2,qky ok hb o0 o1]
  exact ⟨e,one _ e⟩
theorem W0 {hs:List Int}{t b t' b':Int}(ok:ww hs)(hb:1≤b)(hb':1≤b')(on:wr hs t b)(on':wr hs t' b')(n:Nat):itP (xf hs) (qb t b) (2*n)=itP (xf hs) (qb t' b') (2*n)↔itP hs (qb t b) n=itP hs (qb t' b') n:=by
 rw [kr hb hb',kr hb hb',(u0 ok hb on n).1,(u0 ok hb' on' n).1]
theorem Y7 {hs:List Int}{t b t' b':Int}(ok:ww hs)(hb:1≤b)(hb':1≤b')(on:wr hs t b)(on':wr hs t' b')(n:Nat):itP (xf hs) (qb t b) (2*n+1)=itP (xf hs) (qb t' b') (2*n+1)↔itP hs (qb t b) (n+1)=itP hs (qb t' b') (n+1):=by
 rw [kr hb hb',kr hb hb',(u0 ok hb on n).2,(u0 ok hb' on' n).2]
 have:=qxv (x:=trT hs t b (n+1)) (y:=trT hs t' b' (n+1)) (b:=b) (b':=b') (c:=1) (d:=hs.length) (by decide)
 rw [bd,bd] at this
 exact this
theorem quh {hs:List Int}{t b t' b':Int}(ok:ww hs)(hb:1≤b)(hb':1≤b')(on:wr hs t b)(on':wr hs t' b')(h:∀j,itP hs (qb t b) j≠itP hs (qb t' b') j)(j:Nat):itP (xf hs) (qb t b) j≠itP (xf hs) (qb t' b') j:=λe=>by
 rcases (by lia:j=2*(j/2)∨j=2*(j/2)+1) with z|z
 ·rw [z] at e
  exact h _ ((W0 ok hb hb' on on' _).mp e)
 ·rw [z] at e
  exact h _ ((Y7 ok hb hb' on on' _).mp e)
theorem qyu {hs:List Int}{t b t' b':Int}(ok:ww hs)(hb:1≤b)(hb':1≤b')(on:wr hs t b)(on':wr hs t' b'){m:Nat}(h:∀j,j<m→itP hs (qb t b) j≠itP hs (qb t' b') j)(e:itP hs (qb t b) m=itP hs (qb t' b') m) :
  (∀j,j<2*m-1→itP (xf hs) (qb t b) j≠itP (xf hs) (qb t' b') j)∧itP (xf hs) (qb t b) (2*m-1)=itP (xf hs) (qb t' b') (2*m-1):=by
 refine ⟨λj hj y=>?_,?_⟩
 ·rcases (by lia:j=2*(j/2)∨j=2*(j/2)+1) with z|z
  ·rw [z] at y
   exact h (j/2) (by lia) ((W0 ok hb hb' on on' _).mp y)
  ·rw [z] at y
   exact h (j/2+1) (by lia) ((Y7 ok hb hb' on on' _).mp y)
 ·cases m with
  |zero=>exact (W0 ok hb hb' on on' 0).mpr e
  |succ m=>exact (Y7 ok hb hb' on on' m).mpr e
theorem wqf {hs:List Int}{t b t' b':Int}(ok:ww hs)(hb:1≤b)(hb':1≤b')(on:wr hs t b)(on':wr hs t' b')(n:Nat):x9 (xf hs) (qb t b) (qb t' b') (2*n)=x9 hs (qb t b) (qb t' b') n∧x9 (xf hs) (qb t b) (qb t' b') (2*n+1)=x9 hs (qb t b) (qb t' b') n:=by
 have odd:∀n,itP (xf hs) (qb t b) (2*n+1)≠qb t' b':=λn e=>by
  rw [qqr hb hb',(u0 ok hb on n).2] at e
  obtain ⟨o0,_⟩:=vt ok hb on (n+1)
  obtain ⟨_,o1⟩:=on'
  have a1:t'*b≤((hs.length:Int)-1)*b'*b:=ao o1 (by lia)
  have a2:0≤trT hs t b (n+1)*b':=bo o0 (by lia)
  have a3:0<b*b':=Int.mul_pos (by lia) (by lia)
  have a4:(trT hs t b (n+1)+(hs.length:Int)*b)*b'=trT hs t b (n+1)*b'+(hs.length:Int)*(b*b'):=by grind
  have a5:((hs.length:Int)-1)*b'*b=(hs.length:Int)*(b*b')-b*b':=by grind
  lia
 have one:∀n,x9 (xf hs) (qb t b) (qb t' b') (2*n+1)=x9 (xf hs) (qb t b) (qb t' b') (2*n):=λn=>by
  show x9 _ _ _ (2*n)+(if itP (xf hs) (qb t b) (2*n+1)=qb t' b' then 1 else 0)=_
  rw [am (odd n),bz]
 induction n with
 |zero=>exact ⟨rfl,one 0⟩
 |succ n ih =>
  have e:x9 (xf hs) (qb t b) (qb t' b') (2*(n+1))=x9 hs (qb t b) (qb t' b') (n+1):=by
   show x9 _ _ _ (2*n+1)+(if itP (xf hs) (qb t b) (2*(n+1))=qb t' b' then 1 else 0)=x9 hs _ _ n+if itP hs (qb t b) (n+1)=qb t' b' then 1 else 0
   rw [ih.2]
   congr 1
   have i:itP (xf hs) (qb t b) (2*(n+1))=qb t' b'↔itP hs (qb t b) (n+1)=qb t' b':=by
    rw [qqr hb hb',qqr hb hb',(u0 ok hb on (n+1)).1]
   by_cases z:itP hs (qb t b) (n+1)=qb t' b'
   ·rw [au z,au (i.mpr z)]
   ·rw [am z,am λy=>z (i.mp y)]
  exact ⟨e,(one _).trans e⟩
end
section
variable {P:Ac}{w:Ah}{K:Aa}{mg:Str→Option Ag}{base:Heap}{qd:Aj}{qy:Aj}{qh:Aj}{qt:Aj}{qc:Aj}{qg:Aj}{qv:Aj}
theorem wwn (hs ks:List Int):hs.map V.int++(ks.map V.int).map (Qc ((hs.length:Int)-1+1))=(zk hs ks).map V.int:=by
 unfold zk
 rw [av,ay,ay]
 rfl
def qj8 (C:Aj):Sp:=λvs H Q _=>∃(r r':Aj) (hs ks:List Int),vs=[.ref r,.ref r']∧RoadAt C H r hs∧RoadAt C H r' ks∧ww hs∧ww ks∧hs.length+ks.length≤25∧∀x H',H x=none→Same H H'→RoadAt C H' x (zk hs ks)→Q (.ref x) H'
theorem qk3 {f:Aj}{fd:Ad}(F:Fun K "beside" "beside" s_beside f fd)(T:Txt K mg qd qy qh qt qc qg qv)(c_Road:CCal P w K mg base "Road" qv 2 (yc K qd qv))(c_width:MCal P w K mg base qv "width" 1 (vw qv))(c_corners:MCal P w K mg base qv "corners" 1 (vz qv)) :
  FnOk P w K mg base (CXE P w) 4 f fd ["road","other"] (qj8 qv):=by
 have sc:=qjj
 refine F.okX sc (λvs H Q E h=>by obtain ⟨r,r',hs,ks,rfl,_⟩:=h;rfl) (λcdv A outer s H vs Q E hr h=>?_)
 obtain ⟨r,r',hs,ks,rfl,hR,hR',ok,ok',l25,k⟩:=h
 obtain ⟨dx,q,h1,h2⟩:=id hR
 refine ⟨_,(qu (wj (i:=2) sc.nd rfl (by walk_at "loc") (q8 wp (xg (pv 0) T.cl c_width (hr.mono (by decide)) qk) qz))
   (qp (wv (jh c_Road (hr.mono (by decide)) rfl qk (qw (q8 W1 (xg (pv 0) T.cl c_corners (hr.mono (by decide)) qk) (vn (M:=[2]) rfl rfl (by walk_at "cap") (by walk_at "has") (by walk_at "cix") rfl (by decide +kernel) rfl (show List.Nodup (["height","beyond"]:List Str) by decide +kernel) (yf (xg (pv 1) T.cl c_corners (hr.mono (by decide)) qk)) (λ_ _ _ _ _=>(q8 wp (pv 1) (pv 0))))) qj))))),?_⟩
 refine exI rfl ⟨r,dx,exI rfl ⟨h1,wg (by decide +kernel),r,hs,rfl,hR,wz rfl rfl ?_⟩⟩
 refine exI rfl ⟨r,dx,exI rfl ⟨h1,wg (by decide +kernel),r,hs,rfl,hR,λp1 n1=>?_⟩⟩
 have s1:Same H (upd H p1 (.lst (hs.map V.int))):=Same.upd n1
 have f1:upd H p1 (.lst (hs.map V.int)) p1=some (.lst (hs.map V.int)):=qm
 generalize upd H p1 (.lst (hs.map V.int))=H1 at s1 f1
 have hR1:=hR'.same s1
 obtain ⟨dx',q',h1',h2'⟩:=id hR1
 refine exI rfl ⟨r',dx',exI rfl ⟨h1',wg (by decide +kernel),r',ks,rfl,hR1,λp2 n2=>?_⟩⟩
 have s2:Same H1 (upd H1 p2 (.lst (ks.map V.int))):=Same.upd n2
 have f2:upd H1 p2 (.lst (ks.map V.int)) p2=some (.lst (ks.map V.int)):=qm
 generalize upd H1 p2 (.lst (ks.map V.int))=H2 at s2 f2
 refine ⟨p2,rfl,⟨_,SqL.of f2⟩,Yf (K:=K) (a:=p2) (Qc ((hs.length:Int)-1+1)) (SqL.of f2) (by rw [ac];lia) (λx H' R hx hs' hR'=>?_) λp3 n3=>?_⟩
 ·obtain ⟨i,_,rfl⟩:=aV.mp hx
  exact exI rfl (exI rfl (wz rfl rfl hR'))
 ·have s3:=Same.upd (o:=.lst ((ks.map V.int).map (Qc ((hs.length:Int)-1+1)))) n3
  have f3:upd H2 p3 (.lst ((ks.map V.int).map (Qc ((hs.length:Int)-1+1)))) p3=some (.lst ((ks.map V.int).map (Qc ((hs.length:Int)-1+1)))):=qm
  generalize upd H2 p3 (.lst ((ks.map V.int).map (Qc ((hs.length:Int)-1+1))))=H3 at s3 f3
  refine ⟨p1,p3,wz rfl rfl ⟨s3 _ _ (s2 _ _ f1),f3,?_,λp4 n4=>?_⟩⟩
  ·rw [ac,ac,ac]
   have:(1000000:Nat)<sizeLine:=by decide
   lia
  ·rw [wwn]
   have s4:=Same.upd (o:=.lst ((zk hs ks).map V.int)) n4
   have t4:=s1.trans (s2.trans (s3.trans s4))
   refine λx d0 nx nd0 ne0=>yn qm nx nd0 (λokd H' s5 R=>k x H' (t4.free nx) (t4.trans s5) R) λz H' s5=>absurd (qvy ok ok' l25) z
def qz7 (K:Aa):Sp:=λvs H Q _=>∃(p:Aj) (t b c d:Int),vs=[.ref p,.int c,.int d]∧SqT K H p [.int t,.int b]∧(0≤t∧t≤10000)∧(1≤b∧b≤1000)∧(0≤c∧c≤100)∧(0≤d∧d≤100)∧∀q,H q=none→Q (.ref q) (upd H q (.tup [.int (t*c+d*b),.int b]))
theorem qjm {f:Aj}{fd:Ad}(F:Fun K "_law_moved" "_law_moved" s__law_moved f fd)(T:Txt K mg qd qy qh qt qc qg qv):FnOk P w K mg base (CXE P w) 1 f fd ["_law_point","_law_by","_law_on"] (qz7 K):=by
 have sc:=Zy
 refine F.okX sc (λvs H Q E h=>by obtain ⟨p,t,b,c,d,rfl,_⟩:=h;rfl) (λcdv A outer s H vs Q E hr h=>?_)
 obtain ⟨p,t,b,c,d,rfl,hp,⟨t0,t1⟩,⟨b0,b1⟩,⟨c0,c1⟩,⟨d0,d1⟩,k⟩:=h
 refine ⟨_,(qp (wv (z7 (qw (q8 wp (q8 w5 (wc zx (pv 0) qz (λ_ _=>rfl)) (pv 1)) (q8 w5 (pv 2) (wc zx (pv 0) qz (λ_ _=>rfl)))) (qw (wc zx (pv 0) qz (λ_ _=>rfl)) qj))))),?_⟩
 refine exI rfl ⟨_,_,_,_,rfl,rfl,hp,rfl,exI rfl ⟨_,_,rfl,rfl,(by walk_at "mul"),exI rfl (exI rfl ⟨_,_,_,_,rfl,rfl,hp,rfl,⟨_,_,rfl,rfl,(by walk_at "mul"),⟨_,_,rfl,rfl,exI rfl ⟨_,_,_,_,rfl,rfl,hp,rfl,sz2,λq nq=>?_⟩⟩⟩⟩)⟩⟩
 exact k q nq
def y8:Sp:=λvs H Q _=>∃x:V,vs=[x,x]∧(x=.non∨∃i:Int,x=.int i)∧Q (.bl true) H
theorem qyg {f:Aj}{fd:Ad}(F:Fun K "_law_alike" "_law_alike" s__law_alike f fd)(T:Txt K mg qd qy qh qt qc qg qv)(c__law_whole:Cal P w K mg base "_law_whole" 1 Js):FnOk P w K mg base (CXE P w) 2 f fd ["_law_found","_law_due"] y8:=by
 have sc:=Zw
 refine F.okX sc (λvs H Q E h=>by obtain ⟨x,rfl,_⟩:=h;rfl) (λcdv A outer s H vs Q E hr h=>?_)
 obtain ⟨x,rfl,hx,k⟩:=h
 refine ⟨_,(qu (xk (wf Jy (pv 1) yj (wn _)) (qp (wv (k6 Jy (pv 0) yj (wn _)))) wm)
   (qp (wv (Jx (qf c__law_whole (hr.mono (by decide)) rfl qk (qw (pv 0) qj)) (qqk (k6 jq (pv 0) (pv 1) (wn _))))))),?_⟩
 rcases hx with rfl|⟨i,rfl⟩
 ·refine exI rfl ⟨rfl,_,rfl,zf (λ_=>(exI rfl ⟨rfl,k⟩)) (λz=>absurd rfl z)⟩
 ·refine exI rfl ⟨rfl,_,rfl,zf (λz=>nomatch z) (λ_=>?_)⟩
  refine exI rfl ⟨i,rfl,_,rfl,?_⟩
  refine y6 ?_
  refine exI rfl (exI rfl ⟨rfl,?_⟩)
  rw [bn rfl]
  exact k
end
section
variable {P:Ac}{w:Ah}{K:Aa}{mg:Str→Option Ag}{base:Heap}{qd:Aj}{qy:Aj}{qh:Aj}{qt:Aj}{qc:Aj}{qg:Aj}{qv:Aj}
theorem short {hs:List Int}{t b A B:Int}(hok:ww hs)(hb:1≤b)(hon:wr hs t b)(h1:(hs.length:Int)-1≤A)(h2:(qb t b).2≤B)(h3:A*B≤900):¬ Dist (itP hs (qb t b)) 1001:=λd=>by
 have P0:=Wt hb hon
 have:=wq5 hok P0 d
 have h4:=aU h1 h2 (by have:=P0.1;lia) (by have:=hok.1;lia)
 lia
def FAR:Int:=1000000000000000000000000000000000000000000000000000000000000
def MeetP (P:Nat→Prop)(x:V):Prop:=(∃m:Nat,(∀j,j<m→¬ P j)∧P m∧x=.int m)∨((∀j,¬ P j)∧x=.non)
theorem MeetP.ex (P:Nat→Prop):∃x,MeetP P x:=by
 by_cases h:∃m,P m
 ·obtain ⟨m,hm⟩:=h
  have:∃m,P m∧∀j,j<m→¬ P j:=by
   induction m using Nat.strongRecOn with
   |_ m ih =>
    by_cases z:∃j,j<m∧P j
    ·obtain ⟨j,hj,pj⟩:=z
     exact ih j hj pj
    ·exact ⟨m,hm,λj hj pj=>z ⟨j,hj,pj⟩⟩
  obtain ⟨m,h1,h2⟩:=this
  exact ⟨_,.inl ⟨m,h2,h1,rfl⟩⟩
 ·exact ⟨_,.inr ⟨λj pj=>h ⟨j,pj⟩,rfl⟩⟩
theorem MeetP.congr {P P':Nat→Prop}{x:V}(h:MeetP P x)(e:∀n,P' n↔P n):MeetP P' x:=by
 rcases h with ⟨m,h1,h2,rfl⟩|⟨h1,rfl⟩
 ·exact .inl ⟨m,λj hj z=>h1 j hj ((e j).mp z),(e m).mpr h2,rfl⟩
 ·exact .inr ⟨λj z=>h1 j ((e j).mp z),rfl⟩
theorem MeetP.val {P:Nat→Prop}{x:V}(h:MeetP P x):x=.non∨∃i:Int,x=.int i:=by
 rcases h with ⟨m,_,_,rfl⟩|⟨_,rfl⟩
 ·exact .inr ⟨_,rfl⟩
 ·exact .inl rfl
def Mt (hs:List Int)(t b t' b':Int)(n:Nat):Prop:=itP hs (qb t b) n=itP hs (qb t' b') n
def PG (hs:List Int)(t b:Int):Prop:=(1≤b∧b≤36)∧wr hs t b
theorem PG.short {hs:List Int}{t b:Int}(ok:ww hs)(l:hs.length≤17)(h:PG hs t b):1≤b∧Sm 8000 b∧wr hs t b∧¬ Dist (itP hs (qb t b)) 1001:=by
 obtain ⟨⟨b1,b2⟩,on⟩:=h
 have:=Qq (t:=t) b1
 exact ⟨b1,(Sm.small (n:=65) (by lia) (by lia) (by decide)).mono (by decide),on,My.short (A:=16) (B:=36) ok b1 on (by lia) (by lia) (by decide)⟩
theorem xp {C r p q:Aj}{H:Hp}{Q:VK}{E:XK}{hs:List Int}{t b t' b':Int}{x:V}(hR:RoadAt C H r hs)(ok:ww hs)(l:hs.length≤17)(hp:SqT K H p [.int t,.int b])(hq:SqT K H q [.int t',.int b'])(g:PG hs t b)(g':PG hs t' b')(hx:MeetP (Mt hs t b t' b') x)(k:∀H',Same H H'→Q x H'):zm K C [.ref r,.ref p,.ref q] H Q E:=by
 refine ⟨r,p,q,hs,t,b,t',b',rfl,hR,ok,hp,hq,g.short ok l,g'.short ok l,λm h1 h2 H' s=>?_,λh H' s=>?_⟩
 ·rcases hx with ⟨m',a1,a2,rfl⟩|⟨a1,rfl⟩
  ·rcases Nat.lt_trichotomy m m' with z|z|z
   ·exact absurd h2 (a1 m z)
   ·rw [z];exact k H' s
   ·exact absurd a2 (h1 m' z)
  ·exact absurd h2 (a1 m)
 ·rcases hx with ⟨m',_,a2,rfl⟩|⟨_,rfl⟩
  ·exact absurd a2 (h m')
  ·exact k H' s
theorem xt {C r p q:Aj}{H:Hp}{Q:VK}{E:XK}{hs:List Int}{t b t' b' m:Int}(hR:RoadAt C H r hs)(ok:ww hs)(l:hs.length≤17)(hp:SqT K H p [.int t,.int b])(hq:SqT K H q [.int t',.int b'])(g:PG hs t b)(g':PG hs t' b')(m0:0≤m)(m1:m≤FAR)(k:∀H',Same H H'→Q (.int (x9 hs (qb t b) (qb t' b') m.toNat)) H'):vy K C [.ref r,.ref p,.int m,.ref q] H Q E:=by
 have sh:=g'.short ok l
 refine ⟨r,p,q,hs,t,b,t',b',m,rfl,hR,ok,hp,hq,g.short ok l,⟨sh.1,sh.2.1,sh.2.2.1⟩,⟨m0,λb e=>by cases e;exact m1⟩,λn u x H' s _ d hu e st=>?_⟩
 rw [st.hit d hu e]
 exact k H' s
theorem qz0 {C CT r:Aj}{H:Hp}{Q:VK}{E:XK}{hs:List Int}{m:Int}(hR:RoadAt C H r hs)(ok:ww hs)(m1:1≤m)(m2:m≤2)(sh:qzb hs m)(k:∀H',Same H H'→Q (.int (qz3 hs (m.toNat-1))) H'):Y8 C CT [.ref r,.int m] H Q E:=by
 refine ⟨r,hs,m,rfl,hR,ok,m1,by lia,λ_ H' s=>?_,λ⟨t,h1,h2⟩=>absurd (sh t h1) (by lia)⟩
 rw [qkj (ut ok _)]
 exact k H' s
end
section
variable {P:Ac}{w:Ah}{K:Aa}{mg:Str→Option Ag}{base:Heap}{qd:Aj}{qy:Aj}{qh:Aj}{qt:Aj}{qc:Aj}{qg:Aj}{qv:Aj}
def TwoAt (H:Hp)(l p q:Aj)(t b t' b':Int):Prop:=H l=some (.lst [.ref p,.ref q])∧H p=some (.tup [.int t,.int b])∧H q=some (.tup [.int t',.int b'])
theorem TwoAt.same {H H':Hp}{l p q:Aj}{t b t' b':Int}(h:TwoAt H l p q t b t' b')(s:Same H H'):TwoAt H' l p q t b t' b':=⟨s _ _ h.1,s _ _ h.2.1,s _ _ h.2.2⟩
theorem PG.dbl {hs:List Int}{t b:Int}(h:PG hs t b):PG (xf hs) t b:=by
 refine ⟨h.1,h.2.1,?_⟩
 obtain ⟨⟨b1,_⟩,_,h2⟩:=h
 rw [zn]
 push_cast
 have:((hs.length:Int)-1)*b≤((hs.length:Int)+hs.length-1)*b:=ao (by lia) (by lia)
 lia
def J3 (C:Aj):Sp:=λvs H Q _=>∃(r l p q:Aj) (hs:List Int) (t b t' b' m:Int),vs=[.ref r,.ref l,.int m]∧RoadAt C H r hs∧ww hs∧hs.length≤5∧TwoAt H l p q t b t' b'∧PG hs t b∧PG hs t' b'∧0≤m∧m≤FAR∧∀H',Same H H'→Q (.bl true) H'
set_option maxHeartbeats 0 in
theorem uf {f:Aj}{fd:Ad}(F:Fun K "_law_doubled_alike" "_law_doubled_alike" s__law_doubled_alike f fd)(T:Txt K mg qd qy qh qt qc qg qv)(c_doubled:Cal P w K mg base "doubled" 4 (qjr qv qd))(c_meeting:Cal P w K mg base "meeting" 6 (zm K qv))(c_stands:Cal P w K mg base "stands" 6 (vy K qv))(c__law_alike:Cal P w K mg base "_law_alike" 2 y8) :
  FnOk P w K mg base (CXE P w) 7 f fd ["_law_road","_law_points","_law_steps"] (J3 qv):=by
 have sc:=jz
 refine F.okX sc (λvs H Q E h=>by obtain ⟨r,l,p,q,hs,t,b,t',b',m,rfl,_⟩:=h;rfl) (λcdv A outer s H vs Q E hr h=>?_)
 obtain ⟨r,l,p,q,hs,t,b,t',b',m,rfl,hR,ok,l5,tw,g,g',m0,mF,k⟩:=h
 have okd:ww (xf hs):=(wwr ok).mpr (by lia)
 have ld:(xf hs).length≤17:=by rw [zn];lia
 refine ⟨_,(qu (wj (i:=3) sc.nd rfl (by walk_at "loc") (qf c_doubled (hr.mono (by decide)) rfl qk (qw (pv 0) qj)))
   (qu (wj (i:=4) sc.nd rfl (by walk_at "loc") (qf c_meeting (hr.mono (by decide)) rfl qk (qw (pv 0) (qw (wc wx (pv 1) qz (λ_ _=>rfl)) (qw (wc wx (pv 1) qz (λ_ _=>rfl)) qj)))))
   (Y1 (xk (PW.pt (qug (wf qvw (pv 4) yj (wn _)) (qzt (wf yw (pv 4) qz (wn _))))) (qp (wj (i:=4) sc.nd rfl (by walk_at "loc") (q8 xm (q8 w5 qz (pv 4)) qz))) wm)
   (qu (xk (zt (z5 (qf c__law_alike (hr.mono (by decide)) rfl qk (qw (qf c_meeting (hr.mono (by decide)) rfl qk (qw (pv 3) (qw (wc wx (pv 1) qz (λ_ _=>rfl)) (qw (wc wx (pv 1) qz (λ_ _=>rfl)) qj)))) (qw (pv 4) qj))))) (qp (wv jf)) wm)
   (qu (wj (i:=4) sc.nd rfl (by walk_at "loc") (qf c_stands (hr.mono (by decide)) rfl qk (qw (pv 0) (qw (wc wx (pv 1) qz (λ_ _=>rfl)) (qw (q8 v5 (pv 2) qz) (qw (wc wx (pv 1) qz (λ_ _=>rfl)) qj))))))
   (qp (wv (qf c__law_alike (hr.mono (by decide)) rfl qk (qw (qf c_stands (hr.mono (by decide)) rfl qk (qw (pv 3) (qw (wc wx (pv 1) qz (λ_ _=>rfl)) (qw (pv 2) (qw (wc wx (pv 1) qz (λ_ _=>rfl)) qj))))) (qw (pv 4) qj)))))))))),?_⟩
 refine ⟨_,rfl,r,hs,rfl,hR,ok,λ_ x H1 nx s1 R1=>?_,λz=>absurd okd z⟩
 have tw1:=tw.same s1
 have hR1:=hR.same s1
 obtain ⟨v,hv⟩:=MeetP.ex (Mt hs t b t' b')
 refine exI rfl (exI rfl (exX rfl rfl (SqL.of tw1.1) rfl (exI rfl (exX rfl rfl (SqL.of tw1.1) rfl ?_))))
 dsimp only [xb,zy,tC]
 refine xp hR1 ok (by lia) (SqT.of tw1.2.1) (SqT.of tw1.2.2) g g' hv λH2 s2=>?_
 refine ⟨λσ H'=>∃v',σ=[some (.ref r),some (.ref l),some (.int m),some (.ref x),some v']∧MeetP (Mt (xf hs) t b t' b') v'∧H'=H2,?_,?_⟩
 ·rcases hv with ⟨m',a1,a2,rfl⟩|⟨a1,rfl⟩
  ·obtain ⟨d1,d2⟩:=qyu ok g.1.1 g'.1.1 g.2 g'.2 a1 a2
   refine exI rfl ⟨rfl,_,rfl,iteND (λ_=>(exI rfl (wz rfl rfl (exI rfl (zf (λz=>?_) (λz=>?_)))))) (λz=>nomatch z)⟩
   ·refine exI rfl (wz rfl rfl ⟨IntMulOk.of_left (by decide),wz rfl rfl (exI rfl ⟨.inl ⟨2*m'-1,d1,d2,?_⟩,rfl⟩)⟩)
    have z:(0:Int)<m':=z
    show V.int (2*(m':Int)-1)=V.int ((2*m'-1:Nat):Int)
    rw [show 2*(m':Int)-1=((2*m'-1:Nat):Int) by lia]
   ·have z:¬ (0:Int)<m':=z
    have e0:m'=0:=by lia
    subst e0
    exact exI rfl ⟨.inl ⟨0,d1,d2,rfl⟩,rfl⟩
  ·refine exI rfl ⟨rfl,_,rfl,iteND (λz=>absurd rfl z) (λ_=>kn ((exI rfl ⟨.inr ⟨quh ok g.1.1 g'.1.1 g.2 g'.2 a1,rfl⟩,rfl⟩)))⟩
 ·rintro σ Hx ⟨v',rfl,hv',rfl⟩
  have tw2:=tw1.same s2
  have hR2:=hR1.same s2
  have R2:=R1.same s2
  refine exI rfl (exI rfl (exX rfl rfl (SqL.of tw2.1) rfl (exI rfl (exX rfl rfl (SqL.of tw2.1) rfl ?_))))
  dsimp only [xb,zy,tC]
  refine xp R2 okd ld (SqT.of tw2.2.1) (SqT.of tw2.2.2) g.dbl g'.dbl hv' λH3 s3=>?_
  refine exI rfl ⟨v',rfl,hv'.val,_,rfl,kn ?_⟩
  have tw3:=tw2.same s3
  have hR3:=hR2.same s3
  have R3:=R2.same s3
  refine exI rfl (exI rfl (exX rfl rfl (SqL.of tw3.1) rfl (exI rfl (wz rfl rfl ⟨⟨by decide,(Sm.small (n:=65) (by decide) (by decide) (by decide)).mono (by decide)⟩,exI rfl (exX rfl rfl (SqL.of tw3.1) rfl ?_)⟩))))
  dsimp only [xb,zy,tC]
  refine xt hR3 ok (by lia) (SqT.of tw3.2.1) (SqT.of tw3.2.2) g g' (by lia) (by lia) λH4 s4=>?_
  have tw4:=tw3.same s4
  have R4:=R3.same s4
  refine exI rfl (exI rfl (exX rfl rfl (SqL.of tw4.1) rfl (exI rfl (exI rfl (exX rfl rfl (SqL.of tw4.1) rfl ?_)))))
  dsimp only [xb,zy,tC]
  refine xt R4 okd ld (SqT.of tw4.2.1) (SqT.of tw4.2.2) g.dbl g'.dbl m0 mF λH5 s5=>?_
  have e:x9 (xf hs) (qb t b) (qb t' b') m.toNat=x9 hs (qb t b) (qb t' b') (m/2).toNat:=by
   have h:=wqf ok g.1.1 g'.1.1 g.2 g'.2 (m/2).toNat
   rcases (by lia:m.toNat=2*(m/2).toNat∨m.toNat=2*(m/2).toNat+1) with z|z
   ·rw [z,h.1]
   ·rw [z,h.2]
  rw [e]
  exact exI rfl (exI rfl ⟨.inr ⟨_,rfl⟩,k _ ((((s1.trans s2).trans s3).trans s4).trans s5)⟩)
end
section
variable {P:Ac}{w:Ah}{K:Aa}{mg:Str→Option Ag}{base:Heap}{qd:Aj}{qy:Aj}{qh:Aj}{qt:Aj}{qc:Aj}{qg:Aj}{qv:Aj}
theorem qqs {H H':Hp}{v:V}{p:Int×Int}(h:PtR H v p)(k:∀b o,(∀xs,o≠HO.lst xs)→H b=some o→H' b=some o):PtR H' v p:=by
 obtain ⟨a,e,f⟩:=h
 exact ⟨a,e,k a _ (λxs z=>by cases z) f⟩
theorem PG.besL {hs ks:List Int}{t b:Int}(h:PG hs t b):PG (zk hs ks) t b:=by
 refine ⟨h.1,h.2.1,?_⟩
 obtain ⟨⟨b1,_⟩,_,h2⟩:=h
 rw [zp]
 push_cast
 have:((hs.length:Int)-1)*b≤((hs.length:Int)+ks.length-1)*b:=ao (by lia) (by lia)
 lia
theorem PG.besR {hs ks:List Int}{t b:Int}(h:PG ks t b):PG (zk hs ks) (t*1+(hs.length:Int)*b) b:=by
 obtain ⟨⟨b1,b2⟩,h1,h2⟩:=h
 have h0:0≤(hs.length:Int)*b:=bo (by lia) (by lia)
 refine ⟨⟨b1,b2⟩,by lia,?_⟩
 rw [zp]
 push_cast
 rw [show ((hs.length:Int)+ks.length-1)*b=((ks.length:Int)-1)*b+(hs.length:Int)*b by grind]
 lia
def qqw (C:Aj):Sp:=λvs H Q _=>∃(r r' l l' p q p' q':Aj) (hs ks:List Int) (t b t' b' u c u' c' m:Int),vs=[.ref r,.ref r',.ref l,.ref l',.int m]∧RoadAt C H r hs∧RoadAt C H r' ks∧ww hs∧ww ks∧hs.length≤5∧ks.length≤5∧TwoAt H l p q t b t' b'∧TwoAt H l' p' q' u c u' c'∧PG hs t b∧PG hs t' b'∧PG ks u c∧PG ks u' c'∧0≤m∧m≤FAR∧∀H',Same H H'→Q (.bl true) H'
theorem PG.small {hs:List Int}{t b:Int}(l:hs.length≤17)(h:PG hs t b):0≤t∧t≤10000:=by
 obtain ⟨⟨b1,b2⟩,h1,h2⟩:=h
 have:((hs.length:Int)-1)*b≤16*36:=by
  have a:=ao (show (hs.length:Int)-1≤16 by lia) (show 0≤b by lia)
  lia
 exact ⟨h1,by lia⟩
set_option maxHeartbeats 0 in
theorem Qh {f:Aj}{fd:Ad}(F:Fun K "_law_beside_alike" "_law_beside_alike" s__law_beside_alike f fd)(T:Txt K mg qd qy qh qt qc qg qv)(c_beside:Cal P w K mg base "beside" 4 (qj8 qv))(c_width:MCal P w K mg base qv "width" 1 (vw qv))(c__law_moved:Cal P w K mg base "_law_moved" 1 (qz7 K))(c_meeting:Cal P w K mg base "meeting" 6 (zm K qv))(c_stands:Cal P w K mg base "stands" 6 (vy K qv))(c__law_alike:Cal P w K mg base "_law_alike" 2 y8) :
  FnOk P w K mg base (CXE P w) 7 f fd ["_law_road","_law_other","_law_points","_law_spots","_law_steps"] (qqw qv):=by
 have sc:=jy
 refine F.okX sc (λvs H Q E h=>by obtain ⟨r,r',l,l',p,q,p',q',hs,ks,t,b,t',b',u,c,u',c',m,rfl,_⟩:=h;rfl) (λcdv A outer s H vs Q E hr h=>?_)
 obtain ⟨r,r',l,l',p,q,p',q',hs,ks,t,b,t',b',u,c,u',c',m,rfl,hR,hR',ok,ok',lh,lk,tw,tw',g,g',gk,gk',m0,mF,k⟩:=h
 have okb:ww (zk hs ks):=qvy ok ok' (by lia)
 have lb:(zk hs ks).length≤17:=by rw [zp];lia
 refine ⟨_,(qu (wj (i:=5) sc.nd rfl (by walk_at "loc") (qf c_beside (hr.mono (by decide)) rfl qk (qw (pv 0) (qw (pv 1) qj))))
   (qu (wj (i:=6) sc.nd rfl (by walk_at "loc") (q8 wp (xg (pv 0) T.cl c_width (hr.mono (by decide)) qk) qz))
   (qu (Wy (i:=7) (M:=[6]) sc.nd rfl (by walk_at "loc") rfl rfl (by walk_at "cap") (by walk_at "has") (by walk_at "cix") rfl (by decide +kernel) rfl (show List.Nodup (["_law_spot_here","_law_on"]:List Str) by decide +kernel) (yf (pv 3)) (λ_ _ _ _ _=>(qf c__law_moved (hr.mono (by decide)) rfl kg (qw (pv 0) (qw qz (qw (pv 1) qj))))))
   (qu (xk (zt (z5 (qf c__law_alike (hr.mono (by decide)) rfl qk (qw (qf c_meeting (hr.mono (by decide)) rfl qk (qw (pv 5) (qw (wc wx (pv 2) qz (λ_ _=>rfl)) (qw (wc wx (pv 2) qz (λ_ _=>rfl)) qj)))) (qw (qf c_meeting (hr.mono (by decide)) rfl qk (qw (pv 0) (qw (wc wx (pv 2) qz (λ_ _=>rfl)) (qw (wc wx (pv 2) qz (λ_ _=>rfl)) qj)))) qj))))) (qp (wv jf)) wm)
   (qu (xk (zt (z5 (qf c__law_alike (hr.mono (by decide)) rfl qk (qw (qf c_meeting (hr.mono (by decide)) rfl qk (qw (pv 5) (qw (wc wx (pv 7) qz (λ_ _=>rfl)) (qw (wc wx (pv 7) qz (λ_ _=>rfl)) qj)))) (qw (qf c_meeting (hr.mono (by decide)) rfl qk (qw (pv 1) (qw (wc wx (pv 3) qz (λ_ _=>rfl)) (qw (wc wx (pv 3) qz (λ_ _=>rfl)) qj)))) qj))))) (qp (wv jf)) wm)
   (qu (xk (zt (z5 (qf c__law_alike (hr.mono (by decide)) rfl qk (qw (qf c_stands (hr.mono (by decide)) rfl qk (qw (pv 5) (qw (wc wx (pv 7) qz (λ_ _=>rfl)) (qw (pv 4) (qw (wc wx (pv 7) qz (λ_ _=>rfl)) qj))))) (qw (qf c_stands (hr.mono (by decide)) rfl qk (qw (pv 1) (qw (wc wx (pv 3) qz (λ_ _=>rfl)) (qw (pv 4) (qw (wc wx (pv 3) qz (λ_ _=>rfl)) qj))))) qj))))) (qp (wv jf)) wm)
   (qu (xk (zt (z5 (qf c__law_alike (hr.mono (by decide)) rfl qk (qw (qf c_stands (hr.mono (by decide)) rfl qk (qw (pv 5) (qw (wc wx (pv 2) qz (λ_ _=>rfl)) (qw (pv 4) (qw (wc wx (pv 2) qz (λ_ _=>rfl)) qj))))) (qw (qf c_stands (hr.mono (by decide)) rfl qk (qw (pv 0) (qw (wc wx (pv 2) qz (λ_ _=>rfl)) (qw (pv 4) (qw (wc wx (pv 2) qz (λ_ _=>rfl)) qj))))) qj))))) (qp (wv jf)) wm)
   (qp (wv (Jx (k6 Jy (qf c_meeting (hr.mono (by decide)) rfl qk (qw (pv 5) (qw (wc wx (pv 2) qz (λ_ _=>rfl)) (qw (wc wx (pv 7) qz (λ_ _=>rfl)) qj)))) yj (wn _)) (qqk (k6 Jy (qf c_meeting (hr.mono (by decide)) rfl qk (qw (pv 5) (qw (wc wx (pv 7) qz (λ_ _=>rfl)) (qw (wc wx (pv 2) qz (λ_ _=>rfl)) qj)))) yj (wn _))))))))))))),?_⟩
 refine exI rfl (exI rfl ⟨r,r',hs,ks,rfl,hR,hR',ok,ok',(by lia),λx H1 nx s1 R1=>?_⟩)
 have hR1:=hR.same s1
 obtain ⟨dx,qx,h1,h2⟩:=id hR1
 refine exI rfl ⟨r,dx,exI rfl ⟨h1,wg (by decide +kernel),r,hs,rfl,hR1,wz rfl rfl ?_⟩⟩
 have tw1':=tw'.same s1
 have sm1:=gk.small (by lia)
 have sm2:=gk'.small (by lia)
 have bb1:=gk.1
 have bb2:=gk'.1
 refine exI rfl ⟨l',rfl,⟨_,SqL.of tw1'.1⟩,qxx (K:=K) (λi v H=>(i=0→PtR H v (u*1+(hs.length:Int)*c,c))∧(i=1→PtR H v (u'*1+(hs.length:Int)*c',c'))) (λi v H H' g st=>⟨λe=>qqs (g.1 e) st,λe=>qqs (g.2 e) st⟩) (SqL.of tw1'.1) (by show 2≤1000000;decide) (λi x H' R hx s' hR'=>?_) λlr ys H2 nlr s2 fr ly gy=>?_⟩
 ·match i,hx with
  |0,hx =>
   cases hx
   refine ⟨_,rfl,_,rfl,p',u,c,1,(hs.length:Int)-1+1,rfl,SqT.of (s' _ _ tw1'.2.1),sm1,⟨bb1.1,by lia⟩,by lia,by lia,λz nz=>hR' _ _ (Same.upd nz) ⟨λ_=>⟨z,rfl,?_⟩,(λe=>nomatch e)⟩⟩
   rw [qm,show (hs.length:Int)-1+1=hs.length by lia]
  |1,hx =>
   cases hx
   refine ⟨_,rfl,_,rfl,q',u',c',1,(hs.length:Int)-1+1,rfl,SqT.of (s' _ _ tw1'.2.2),sm2,⟨bb2.1,by lia⟩,by lia,by lia,λz nz=>hR' _ _ (Same.upd nz) ⟨(λe=>nomatch e),λ_=>⟨z,rfl,?_⟩⟩⟩
   rw [qm,show (hs.length:Int)-1+1=hs.length by lia]
  |i+2,hx=>cases hx
 obtain ⟨y0,y1,rfl⟩:∃y0 y1,ys=[y0,y1]:=by
  match ys,ly with
  |[y0,y1],_=>exact ⟨y0,y1,rfl⟩
 obtain ⟨pr,rfl,fp⟩:=(gy 0 y0 rfl).1 rfl
 obtain ⟨qr,rfl,fq⟩:=(gy 1 y1 rfl).2 rfl
 have twR:TwoAt H2 lr pr qr (u*1+(hs.length:Int)*c) c (u'*1+(hs.length:Int)*c') c':=⟨fr,fp,fq⟩
 have s12:=s1.trans s2
 have mL:=Wf (ks:=ks) ok g.1.1 g.2
 have mL':=Wf (ks:=ks) ok g'.1.1 g'.2
 have mR:=Wd (hs:=hs) ok' gk.1.1 gk.2
 have mR':=Wd (hs:=hs) ok' gk'.1.1 gk'.2
 obtain ⟨v,hv⟩:=MeetP.ex (Mt hs t b t' b')
 obtain ⟨v',hv'⟩:=MeetP.ex (Mt ks u c u' c')
 have hvL:MeetP (Mt (zk hs ks) t b t' b') v:=hv.congr λn=>by
  have:=Ws (by decide) g.1.1 g'.1.1 mL mL' n
  simp only [bd,bE,bz] at this
  exact this
 have hvR:MeetP (Mt (zk hs ks) (u*1+(hs.length:Int)*c) c (u'*1+(hs.length:Int)*c') c') v':=hv'.congr λn=>Ws (by decide) gk.1.1 gk'.1.1 mR mR' n
 have eL:x9 (zk hs ks) (qb t b) (qb t' b') m.toNat=x9 hs (qb t b) (qb t' b') m.toNat:=by
  have:=Q3 (t':=t') (by decide) g.1.1 g'.1.1 mL m.toNat
  simpa only [bd,bE,bz] using this
 have eR:=Q3 (t':=u') (by decide) gk.1.1 gk'.1.1 mR m.toNat
 have tw3:=tw.same s12
 have rr3:=R1.same (s2.trans (Same.refl _))
 refine exI rfl (exI rfl (exX rfl rfl (SqL.of tw3.1) rfl (exI rfl (exX rfl rfl (SqL.of tw3.1) rfl ?_))))
 dsimp only [xb,zy,tC]
 refine xp rr3 okb lb (SqT.of tw3.2.1) (SqT.of tw3.2.2) g.besL g'.besL hvL λH3 s3=>?_
 have tw4:=tw.same (s12.trans s3)
 have rr4:=hR.same (s12.trans s3)
 refine exI rfl (exI rfl (exX rfl rfl (SqL.of tw4.1) rfl (exI rfl (exX rfl rfl (SqL.of tw4.1) rfl ?_))))
 dsimp only [xb,zy,tC]
 refine xp rr4 ok (by lia) (SqT.of tw4.2.1) (SqT.of tw4.2.2) g g' hv λH4 s4=>?_
 refine ⟨v,rfl,hv.val,_,rfl,kn ?_⟩
 have tw5:=twR.same (((Same.refl _).trans s3).trans s4)
 have rr5:=R1.same (s2.trans (((Same.refl _).trans s3).trans s4))
 refine exI rfl (exI rfl (exX rfl rfl (SqL.of tw5.1) rfl (exI rfl (exX rfl rfl (SqL.of tw5.1) rfl ?_))))
 dsimp only [xb,zy,tC]
 refine xp rr5 okb lb (SqT.of tw5.2.1) (SqT.of tw5.2.2) gk.besR gk'.besR hvR λH5 s5=>?_
 have tw6:=tw'.same (((s12.trans s3).trans s4).trans s5)
 have rr6:=hR'.same (((s12.trans s3).trans s4).trans s5)
 refine exI rfl (exI rfl (exX rfl rfl (SqL.of tw6.1) rfl (exI rfl (exX rfl rfl (SqL.of tw6.1) rfl ?_))))
 dsimp only [xb,zy,tC]
 refine xp rr6 ok' (by lia) (SqT.of tw6.2.1) (SqT.of tw6.2.2) gk gk' hv' λH6 s6=>?_
 refine ⟨v',rfl,hv'.val,_,rfl,kn ?_⟩
 have tw7:=twR.same (((((Same.refl _).trans s3).trans s4).trans s5).trans s6)
 have rr7:=R1.same (s2.trans (((((Same.refl _).trans s3).trans s4).trans s5).trans s6))
 refine exI rfl (exI rfl (exX rfl rfl (SqL.of tw7.1) rfl (exI rfl (exI rfl (exX rfl rfl (SqL.of tw7.1) rfl ?_)))))
 dsimp only [xb,zy,tC]
 refine xt rr7 okb lb (SqT.of tw7.2.1) (SqT.of tw7.2.2) gk.besR gk'.besR m0 mF λH7 s7=>?_
 have tw8:=tw'.same (((((s12.trans s3).trans s4).trans s5).trans s6).trans s7)
 have rr8:=hR'.same (((((s12.trans s3).trans s4).trans s5).trans s6).trans s7)
 refine exI rfl (exI rfl (exX rfl rfl (SqL.of tw8.1) rfl (exI rfl (exI rfl (exX rfl rfl (SqL.of tw8.1) rfl ?_)))))
 dsimp only [xb,zy,tC]
 refine xt rr8 ok' (by lia) (SqT.of tw8.2.1) (SqT.of tw8.2.2) gk gk' m0 mF λH8 s8=>?_
 rw [eR]
 refine exI rfl ⟨.inr ⟨_,rfl⟩,_,rfl,kn ?_⟩
 have tw9:=tw.same ((((((s12.trans s3).trans s4).trans s5).trans s6).trans s7).trans s8)
 have rr9:=R1.same (s2.trans (((((((Same.refl _).trans s3).trans s4).trans s5).trans s6).trans s7).trans s8))
 refine exI rfl (exI rfl (exX rfl rfl (SqL.of tw9.1) rfl (exI rfl (exI rfl (exX rfl rfl (SqL.of tw9.1) rfl ?_)))))
 dsimp only [xb,zy,tC]
 refine xt rr9 okb lb (SqT.of tw9.2.1) (SqT.of tw9.2.2) g.besL g'.besL m0 mF λH9 s9=>?_
 have tw10:=tw.same (((((((s12.trans s3).trans s4).trans s5).trans s6).trans s7).trans s8).trans s9)
 have rr10:=hR.same (((((((s12.trans s3).trans s4).trans s5).trans s6).trans s7).trans s8).trans s9)
 refine exI rfl (exI rfl (exX rfl rfl (SqL.of tw10.1) rfl (exI rfl (exI rfl (exX rfl rfl (SqL.of tw10.1) rfl ?_)))))
 dsimp only [xb,zy,tC]
 refine xt rr10 ok (by lia) (SqT.of tw10.2.1) (SqT.of tw10.2.2) g g' m0 mF λH10 s10=>?_
 rw [eL]
 refine exI rfl ⟨.inr ⟨_,rfl⟩,_,rfl,kn ?_⟩
 have twl:=tw.same ((((((((s12.trans s3).trans s4).trans s5).trans s6).trans s7).trans s8).trans s9).trans s10)
 have twr:=twR.same (((((((((Same.refl _).trans s3).trans s4).trans s5).trans s6).trans s7).trans s8).trans s9).trans s10)
 have rr:=R1.same (s2.trans (((((((((Same.refl _).trans s3).trans s4).trans s5).trans s6).trans s7).trans s8).trans s9).trans s10))
 have ap1:∀j,¬ Mt (zk hs ks) t b (u*1+(hs.length:Int)*c) c j:=λj=>by
  rw [bd]
  exact Yq ok ok' g.1.1 gk.1.1 g.2 gk.2 j
 have ap2:∀j,¬ Mt (zk hs ks) (u'*1+(hs.length:Int)*c') c' t' b' j:=λj=>by
  rw [bd]
  exact λe=>Yq ok ok' g'.1.1 gk'.1.1 g'.2 gk'.2 j e.symm
 refine exI rfl (exI rfl (exX rfl rfl (SqL.of twl.1) rfl (exI rfl (exX rfl rfl (SqL.of twr.1) rfl ?_))))
 dsimp only [xb,zy,tC]
 refine xp rr okb lb (SqT.of twl.2.1) (SqT.of twr.2.1) g.besL gk.besR (x:=.non) (.inr ⟨ap1,rfl⟩) λH11 s11=>?_
 have twl2:=twl.same s11
 have twr2:=twr.same s11
 have rr2:=rr.same s11
 refine ⟨rfl,_,rfl,zf (λ_=>?_) (λz=>absurd rfl z)⟩
 refine exI rfl (exI rfl (exX rfl rfl (SqL.of twr2.1) rfl (exI rfl (exX rfl rfl (SqL.of twl2.1) rfl ?_))))
 dsimp only [xb,zy,tC]
 refine xp rr2 okb lb (SqT.of twr2.2.2) (SqT.of twl2.2.2) gk'.besR g'.besL (x:=.non) (.inr ⟨ap2,rfl⟩) λH12 s12'=>?_
 refine ⟨rfl,?_⟩
 rw [bn rfl]
 exact k _ ((((((((((s12.trans s3).trans s4).trans s5).trans s6).trans s7).trans s8).trans s9).trans s10).trans s11).trans s12')
end
section
variable {P:Ac}{w:Ah}{K:Aa}{mg:Str→Option Ag}{base:Heap}{qd:Aj}{qy:Aj}{qh:Aj}{qt:Aj}{qc:Aj}{qg:Aj}{qv:Aj}
theorem sz3 {x y z:V}:[x,y,z].length≤sizeLine:=by show 3≤sizeLine;decide
theorem qwn {hs:List Int}(o2:hs.length≤25)(o1:2≤hs.length){M:Int}:∀ {cs:List Cell},(∀c∈cs,Ww ((hs.length:Int)-1) M c)→(zg hs cs).length≤24*cs.length
 |[],_=>al _
 |c::r,h=>by
  have ih:=qwn o2 o1 (cs:=r) λx hx=>h x (bg _ hx)
  have g:=h c (by simp)
  have d:=D_le (c:=c) (n:=(hs.length:Int)-1) (by lia) g.2.2.2.2.1 g.2.2.2.2.2
  have e:zg hs (c::r)=c.cut.map (Cell.up hs)++zg hs r:=by unfold zg;rw [aK,List.flatten_cons]
  have e2:(c.cut.map (Cell.up hs)).length=c.D:=by unfold Cell.cut;rw [ac,ac,az]
  rw [e,ar,e2,aN]
  lia
theorem Z7 {hs:List Int}(ok:ww hs){m:Int}(hm:m≤2):qzb hs m:=λt ht=>by
 have o1:=ok.1
 have o2:=ok.2.1
 have e:(zu hs).length=hs.length-1:=by unfold zu;rw [ac,az]
 rw [y4 (zv (ut ok t))]
 match t,ht with
 |0,_ =>
  show (zu hs).length+1≤1000
  lia
 |1,_ =>
  have:=qwn (by lia) (by lia) (vj (qxr ok))
  rw [e] at this
  show (zg hs (zu hs)).length+1≤1000
  lia
 |t+2,ht=>lia
theorem PG.fin {hs:List Int}{t b m:Int}(ok:ww hs)(m1:1≤m)(h:PG hs t b):PG (zh hs m) (t*m+0*b) b:=by
 have:=qy4 ok.1 m1 h.2
 rw [bf] at this
 rw [bE,bz]
 exact ⟨h.1,this⟩
def Jn (C:Aj):Sp:=λvs H Q _=>∃(r l p q:Aj) (hs:List Int) (t b t' b' m n:Int),vs=[.ref r,.int m,.ref l,.int n]∧RoadAt C H r hs∧ww hs∧hs.length≤5∧1≤m∧m≤4∧TwoAt H l p q t b t' b'∧PG hs t b∧PG hs t' b'∧0≤n∧n≤FAR∧∀H',Same H H'→Q (.bl true) H'
set_option maxHeartbeats 0 in
theorem Q8 {f:Aj}{fd:Ad}(F:Fun K "_law_finer_alike" "_law_finer_alike" s__law_finer_alike f fd)(T:Txt K mg qd qy qh qt qc qg qv)(c_finer:Cal P w K mg base "finer" 4 (Jm qv qd))(c__law_moved:Cal P w K mg base "_law_moved" 1 (qz7 K))(c_meeting:Cal P w K mg base "meeting" 6 (zm K qv))(c_stands:Cal P w K mg base "stands" 6 (vy K qv))(c_laps:Cal P w K mg base "laps" 7 (Y8 qv qg))(c__law_alike:Cal P w K mg base "_law_alike" 2 y8) :
  FnOk P w K mg base (CXE P w) 8 f fd ["_law_road","_law_by","_law_points","_law_steps"] (Jn qv):=by
 have sc:=j6
 refine F.okX sc (λvs H Q E h=>by obtain ⟨r,l,p,q,hs,t,b,t',b',m,n,rfl,_⟩:=h;rfl) (λcdv A outer s H vs Q E hr h=>?_)
 obtain ⟨r,l,p,q,hs,t,b,t',b',m,n,rfl,hR,ok,l5,m1,m4,tw,g,g',n0,nF,k⟩:=h
 have o1:=ok.1
 have w4:((hs.length:Int)-1)*m≤16:=by
  have:=aU (show (hs.length:Int)-1≤4 by lia) m4 (by lia) (by lia)
  lia
 have okf:ww (zh hs m):=qj3 ok m1 (by lia)
 have lf:(zh hs m).length≤17:=by have:=js o1 m1;lia
 have sm1:=g.small (by lia)
 have sm2:=g'.small (by lia)
 have bb1:=g.1
 have bb2:=g'.1
 refine ⟨_,(qu (wj (i:=4) sc.nd rfl (by walk_at "loc") (qf c_finer (hr.mono (by decide)) rfl qk (qw (pv 0) (qw (pv 1) qj))))
   (qu (wj (i:=5) sc.nd rfl (by walk_at "loc") (qf c__law_moved (hr.mono (by decide)) rfl qk (qw (wc wx (pv 2) qz (λ_ _=>rfl)) (qw (pv 1) (qw qz qj)))))
   (qu (wj (i:=6) sc.nd rfl (by walk_at "loc") (qf c__law_moved (hr.mono (by decide)) rfl qk (qw (wc wx (pv 2) qz (λ_ _=>rfl)) (qw (pv 1) (qw qz qj)))))
   (qu (xk (zt (z5 (qf c__law_alike (hr.mono (by decide)) rfl qk (qw (qf c_meeting (hr.mono (by decide)) rfl qk (qw (pv 4) (qw (pv 5) (qw (pv 6) qj)))) (qw (qf c_meeting (hr.mono (by decide)) rfl qk (qw (pv 0) (qw (wc wx (pv 2) qz (λ_ _=>rfl)) (qw (wc wx (pv 2) qz (λ_ _=>rfl)) qj)))) qj))))) (qp (wv jf)) wm)
   (qu (xk (zt (z5 (qf c__law_alike (hr.mono (by decide)) rfl qk (qw (qf c_stands (hr.mono (by decide)) rfl qk (qw (pv 4) (qw (pv 5) (qw (pv 3) (qw (pv 6) qj))))) (qw (qf c_stands (hr.mono (by decide)) rfl qk (qw (pv 0) (qw (wc wx (pv 2) qz (λ_ _=>rfl)) (qw (pv 3) (qw (wc wx (pv 2) qz (λ_ _=>rfl)) qj))))) qj))))) (qp (wv jf)) wm)
   (qp (wv (w6 (Zq rfl) rfl T.all_ qjf (qw (vn (M:=[0,4]) rfl rfl (by walk_at "cap") (by walk_at "has") (by walk_at "cix") rfl (by decide +kernel) rfl (show List.Nodup (["_law_many","_law_road","_law_fine"]:List Str) by decide +kernel) (yf (jg (qw qz (qw qz (qw qz qj))))) (λ_ _ _ _ _=>(qf c__law_alike (hr.mono (by decide)) rfl kg (qw (qf c_laps (hr.mono (by decide)) rfl kg (qw (pv 2) (qw (pv 0) qj))) (qw (qf c_laps (hr.mono (by decide)) rfl kg (qw (pv 1) (qw (pv 0) qj))) qj))))) qj))))))))),?_⟩
 refine ⟨_,rfl,_,rfl,r,hs,m,rfl,hR,ok,m1,by lia,λ_ x H1 nx s1 R1=>?_,λz=>absurd z (by lia)⟩
 have tw1:=tw.same s1
 refine ⟨_,rfl,_,_,_,_,rfl,rfl,SqL.of tw1.1,rfl,_,rfl,p,t,b,m,0,rfl,SqT.of tw1.2.1,sm1,⟨bb1.1,by lia⟩,⟨by lia,by lia⟩,by decide,λy ny=>?_⟩
 have s2:=Same.upd (H:=H1) (o:=.tup [.int (t*m+0*b),.int b]) ny
 have fy:upd H1 y (.tup [.int (t*m+0*b),.int b]) y=some (.tup [.int (t*m+0*b),.int b]):=qm
 generalize upd H1 y (.tup [.int (t*m+0*b),.int b])=H2 at s2 fy
 have tw2:=tw1.same s2
 refine ⟨_,rfl,_,_,_,_,rfl,rfl,SqL.of tw2.1,rfl,_,rfl,q,t',b',m,0,rfl,SqT.of tw2.2.2,sm2,⟨bb2.1,by lia⟩,⟨by lia,by lia⟩,by decide,λz nz=>?_⟩
 have s3:=Same.upd (H:=H2) (o:=.tup [.int (t'*m+0*b'),.int b']) nz
 have fz:upd H2 z (.tup [.int (t'*m+0*b'),.int b']) z=some (.tup [.int (t'*m+0*b'),.int b']):=qm
 generalize upd H2 z (.tup [.int (t'*m+0*b'),.int b'])=H3 at s3 fz
 have gy:=s3 _ _ fy
 have mv:=qzd ok m1 g.1.1 g.2
 have mv':=qzd ok m1 g'.1.1 g'.2
 obtain ⟨v,hv⟩:=MeetP.ex (Mt hs t b t' b')
 have hvF:MeetP (Mt (zh hs m) (t*m+0*b) b (t'*m+0*b') b') v:=hv.congr λn=>Ws m1 g.1.1 g'.1.1 mv mv' n
 have eF:=Q3 (t':=t') m1 g.1.1 g'.1.1 mv n.toNat
 have s13:=(s1.trans s2).trans s3
 have R3:=R1.same (s2.trans s3)
 refine exI rfl (exI rfl (exI rfl ?_))
 dsimp only [xb,zy,tC]
 refine xp R3 okf lf (SqT.of gy) (SqT.of fz) (g.fin ok m1) (g'.fin ok m1) hvF λH4 s4=>?_
 have s14:=s13.trans s4
 have tw4:=tw.same s14
 refine exI rfl (exI rfl (exX rfl rfl (SqL.of tw4.1) rfl (exI rfl (exX rfl rfl (SqL.of tw4.1) rfl ?_))))
 dsimp only [xb,zy,tC]
 refine xp (hR.same s14) ok (by lia) (SqT.of tw4.2.1) (SqT.of tw4.2.2) g g' hv λH5 s5=>?_
 refine ⟨v,rfl,hv.val,_,rfl,kn ?_⟩
 have s35:=s4.trans s5
 have s15:=s14.trans s5
 refine exI rfl (exI rfl (exI rfl (exI rfl ?_)))
 dsimp only [xb,zy,tC]
 refine xt (R3.same s35) okf lf (SqT.of (s35 _ _ gy)) (SqT.of (s35 _ _ fz)) (g.fin ok m1) (g'.fin ok m1) n0 nF λH6 s6=>?_
 have s16:=s15.trans s6
 have tw6:=tw.same s16
 refine exI rfl (exI rfl (exX rfl rfl (SqL.of tw6.1) rfl (exI rfl (exI rfl (exX rfl rfl (SqL.of tw6.1) rfl ?_)))))
 dsimp only [xb,zy,tC]
 refine xt (hR.same s16) ok (by lia) (SqT.of tw6.2.1) (SqT.of tw6.2.2) g g' n0 nF λH7 s7=>?_
 rw [eF]
 refine exI rfl ⟨.inr ⟨_,rfl⟩,_,rfl,kn ?_⟩
 have s17:=s16.trans s7
 have R7:=R3.same ((s35.trans s6).trans s7)
 have hR7:=hR.same s17
 refine ⟨sz3,λa na=>?_⟩
 have s8:=Same.upd (H:=H7) (o:=.lst [.int 1,.int 2,.int 1]) na
 have fa:upd H7 a (.lst [.int 1,.int 2,.int 1]) a=some (.lst [.int 1,.int 2,.int 1]):=qm
 generalize upd H7 a (.lst [.int 1,.int 2,.int 1])=H8 at s8 fa
 refine ⟨a,rfl,⟨_,SqL.of fa⟩,qxt (K:=K) (λ_=>V.bl true) (λ_ _ z=>nomatch z) (SqL.of fa) (by show 3≤1000000;decide) (λe H' R he s' hR'=>?_) λp9 H9 n9 s9 f9=>?_⟩
 ·obtain ⟨i,rfl,i1,i2⟩:∃i:Int,e=.int i∧1≤i∧i≤2:=by
   rcases aw.mp he with e|he
   ·exact ⟨1,e,by decide,by decide⟩
   rcases aw.mp he with e|he
   ·exact ⟨2,e,by decide,by decide⟩
   rcases aw.mp he with e|he
   ·exact ⟨1,e,by decide,by decide⟩
   ·cases he
  refine exI rfl (exI rfl ?_)
  dsimp only [xb,zy,tC]
  refine qz0 (R7.same (s8.trans s')) okf i1 i2 (Z7 okf i2) λH10 s10=>?_
  refine exI rfl (exI rfl ?_)
  dsimp only [xb,zy,tC]
  refine qz0 (hR7.same ((s8.trans s').trans s10)) ok i1 i2 (Z7 ok i2) λH11 s11=>?_
  rw [qyd ok m1 okf]
  exact exI rfl ⟨.inr ⟨_,rfl⟩,hR' _ (s10.trans s11)⟩
 ·exact ⟨p9,[true,true,true],rfl,SqL.of f9,k _ ((s17.trans s8).trans s9)⟩
end
section
variable {P:Ac}{w:Ah}{K:Aa}{mg:Str→Option Ag}{base:Heap}{qd:Aj}{qy:Aj}{qh:Aj}{qt:Aj}{qc:Aj}{qg:Aj}{qv:Aj}
theorem wwy (c:Int):0≤c%(10 ^ (60:Int).toNat+1)∧c%(10 ^ (60:Int).toNat+1)≤FAR:=⟨aQ _ (by decide +kernel),Int.le_of_lt_add_one (show c%(10 ^ (60:Int).toNat+1)<FAR+1 from aJ _ (by decide +kernel))⟩
theorem wqg:(200:Int)≤FAR:=by decide +kernel
theorem qz1 {hs:List Int}{wd t b c:Int}(e:(hs.length:Int)-1=wd)(b1:1≤b)(b2:b≤12)(c1:1≤c)(c2:c≤3)(t0:0≤t)(t1:t≤wd*b):PG hs (t*c) (b*c):=by
 have h1:=aU b2 c2 (by lia) (by lia)
 have h2:=aU b1 c1 (by lia) (by lia)
 refine ⟨⟨by lia,by lia⟩,bo t0 (by lia),?_⟩
 rw [e,←cK]
 exact ao t1 (by lia)
def qqb:V→PyData
 |.int i=>.int i
 |_=>.none
theorem qzp {K:Aa}{H:Hp}{a:Aj}{v:V}{i:Int}(hv:v=.non∨∃j:Int,v=.int j)(f:H a=some (.tup [v,.int i])):RD K H (.tuple [qqb v,.int i]) (.ref a):=by
 rw [RD]
 refine ⟨a,exI rfl ⟨SqT.of f,?_⟩⟩
 rw [RDs]
 refine ⟨_,_,rfl,?_,?_⟩
 ·rcases hv with rfl|⟨j,rfl⟩
  ·rw [qqb,RD]
   intro i z;cases z
  ·rw [qqb,RD]
 ·rw [RDs]
  refine ⟨_,_,rfl,by rw [RD],?_⟩
  rw [RDs]
theorem qyt {v:V}{i:Int}(hv:v=.non∨∃j:Int,v=.int j):PyData.eqv (.tuple [qqb v,.int i]) (.tuple [qqb v,.int i])=true∧(PyData.tuple [qqb v,.int i]).canLay0=true∧(PyData.tuple [qqb v,.int i]).depth≤60:=by
 rcases hv with rfl|⟨j,rfl⟩
 ·simp [qqb,PyData.eqv,PyData.eqvAll,PyData.canLay0,PyData.canLayAll0,PyData.depth,PyData.depthAll]
 ·simp [qqb,PyData.eqv,PyData.eqvAll,PyData.canLay0,PyData.canLayAll0,PyData.depth,PyData.depthAll]
set_option maxHeartbeats 0 in
theorem ok_law {f:Aj}{fd:Ad}(F:Fun K "law" "law" s_law f fd)(T:Txt K mg qd qy qh qt qc qg qv)(c__law_cell:Cal P w K mg base "_law_cell" 1 (qqq K))(c__law_pick:Cal P w K mg base "_law_pick" 2 (yz K))(c__law_heights:Cal P w K mg base "_law_heights" 4 (ur K))(c_Road:CCal P w K mg base "Road" qv 2 (yc K qd qv))(c__law_spot:Cal P w K mg base "_law_spot" 3 (Jd K))(c_meeting:Cal P w K mg base "meeting" 6 (zm K qv))(c_stands:Cal P w K mg base "stands" 6 (vy K qv))
  (c__law_finer_alike:Cal P w K mg base "_law_finer_alike" 8 (Jn qv)) (c__law_doubled_alike:Cal P w K mg base "_law_doubled_alike" 7 (J3 qv)) (c__law_beside_alike:Cal P w K mg base "_law_beside_alike" 7 (qqw qv)):FnOk P w K mg base (CXE P w) 9 f fd ["_law_script"] (qvk K):=by
 have sc:=sc_law
 refine F.okX sc (λvs H Q E h=>by obtain ⟨a,ns,rfl,_⟩:=h;rfl) (λcdv A outer s H vs Q E hr h=>?_)
 obtain ⟨a,ns,rfl,hS,hl,k⟩:=h
 refine ⟨_,(qu (wj (i:=1) sc.nd rfl (by walk_at "loc") (qf c__law_heights (hr.mono (by decide)) rfl qk (qw (pv 0) (qw qz (qw qz qj)))))
   (qu (wj (i:=2) sc.nd rfl (by walk_at "loc") (qf c__law_heights (hr.mono (by decide)) rfl qk (qw (pv 0) (qw qz (qw qz qj)))))
   (qu (wj (i:=3) sc.nd rfl (by walk_at "loc") (jh c_Road (hr.mono (by decide)) rfl qk (qw (kj vq rfl T.list_ bx (qw (pv 1) qj)) qj)))
   (qu (wj (i:=4) sc.nd rfl (by walk_at "loc") (jh c_Road (hr.mono (by decide)) rfl qk (qw (kj vq rfl T.list_ bx (qw (pv 2) qj)) qj)))
   (qu (wj (i:=5) sc.nd rfl (by walk_at "loc") (jg (qw (qf c__law_spot (hr.mono (by decide)) rfl qk (qw (pv 0) (qw qz (qw (q8 xm (w6 xx rfl T.len_ aY (qw (pv 1) qj)) qz) (qw qz qj))))) (qw (qf c__law_spot (hr.mono (by decide)) rfl qk (qw (pv 0) (qw qz (qw (q8 xm (w6 xx rfl T.len_ aY (qw (pv 1) qj)) qz) (qw qz qj))))) qj))))
   (qu (wj (i:=6) sc.nd rfl (by walk_at "loc") (jg (qw (qf c__law_spot (hr.mono (by decide)) rfl qk (qw (pv 0) (qw qz (qw (q8 xm (w6 xx rfl T.len_ aY (qw (pv 2) qj)) qz) (qw qz qj))))) (qw (qf c__law_spot (hr.mono (by decide)) rfl qk (qw (pv 0) (qw qz (qw (q8 xm (w6 xx rfl T.len_ aY (qw (pv 2) qj)) qz) (qw qz qj))))) qj))))
   (qu (wj (i:=7) sc.nd rfl (by walk_at "loc") (q8 wp qz (qf c__law_pick (hr.mono (by decide)) rfl qk (qw (pv 0) (qw qz (qw qz (qw qz qj)))))))
   (qu (wj (i:=8) sc.nd rfl (by walk_at "loc") (q8 zj (qf c__law_cell (hr.mono (by decide)) rfl qk (qw (pv 0) (qw qz qj))) (q8 wp (q8 qyx qz qz) qz)))
   (Y1 (xk (wf jq (qf c__law_pick (hr.mono (by decide)) rfl qk (qw (pv 0) (qw qz (qw qz (qw qz qj))))) qz (wn _)) (qp (wj (i:=8) sc.nd rfl (by walk_at "loc") (q8 zj (pv 8) qz))) wm)
   (qu (wj (i:=9) sc.nd rfl (by walk_at "loc") (z7 (qw (qf c_meeting (hr.mono (by decide)) rfl qk (qw (pv 3) (qw (wc wx (pv 5) qz (λ_ _=>rfl)) (qw (wc wx (pv 5) qz (λ_ _=>rfl)) qj)))) (qw (qf c_stands (hr.mono (by decide)) rfl qk (qw (pv 3) (qw (wc wx (pv 5) qz (λ_ _=>rfl)) (qw (pv 8) (qw (wc wx (pv 5) qz (λ_ _=>rfl)) qj))))) qj))))
   (qu (xk (PW.pt (Yj (zt (z5 (qf c__law_finer_alike (hr.mono (by decide)) rfl qk (qw (pv 3) (qw (pv 7) (qw (pv 5) (qw (pv 8) qj))))))) (uy (zt (z5 (qf c__law_doubled_alike (hr.mono (by decide)) rfl qk (qw (pv 3) (qw (pv 5) (qw (pv 8) qj))))))))) (qp (wv jf)) wm)
   (qu (xk (zt (z5 (qf c__law_beside_alike (hr.mono (by decide)) rfl qk (qw (pv 3) (qw (pv 4) (qw (pv 5) (qw (pv 6) (qw (pv 8) qj)))))))) (qp (wv jf)) wm)
   (qu (xk (zt (z5 (qf c__law_beside_alike (hr.mono (by decide)) rfl qk (qw (pv 4) (qw (pv 3) (qw (pv 6) (qw (pv 5) (qw (pv 8) qj)))))))) (qp (wv jf)) wm)
   (qp (wv (k6 (qu2 hr.units) (pv 9) (z7 (qw (qf c_meeting (hr.mono (by decide)) rfl qk (qw (pv 3) (qw (wc wx (pv 5) qz (λ_ _=>rfl)) (qw (wc wx (pv 5) qz (λ_ _=>rfl)) qj)))) (qw (qf c_stands (hr.mono (by decide)) rfl qk (qw (pv 3) (qw (wc wx (pv 5) qz (λ_ _=>rfl)) (qw (pv 8) (qw (wc wx (pv 5) qz (λ_ _=>rfl)) qj))))) qj))) (wn _))))))))))))))))),?_⟩
 refine exI rfl ⟨a,ns,_,_,rfl,hS,(by lia),(by lia),(by lia),λp1 hs w1 n1 a1 b1 i1=>?_⟩
 have ok1:ww hs:=qzn i1 a1 (by lia)
 have s1:Same H (upd H p1 (.lst (hs.map V.int))):=Same.upd n1
 have f1:upd H p1 (.lst (hs.map V.int)) p1=some (.lst (hs.map V.int)):=qm
 generalize upd H p1 (.lst (hs.map V.int))=H1 at s1 f1
 refine exI rfl ⟨a,ns,_,_,rfl,s1.sql hS,(by lia),(by lia),(by lia),λp2 ks w2 n2 a2 b2 i2=>?_⟩
 have ok2:ww ks:=qzn i2 a2 (by lia)
 have s2:Same H1 (upd H1 p2 (.lst (ks.map V.int))):=Same.upd n2
 have f2:upd H1 p2 (.lst (ks.map V.int)) p2=some (.lst (ks.map V.int)):=qm
 generalize upd H1 p2 (.lst (ks.map V.int))=H2 at s2 f2
 have e1:=i1.1
 have e2:=i2.1
 refine exI rfl ⟨_,_,rfl,.inl (SqL.of (s2 _ _ f1)),λp3 n3=>?_⟩
 have s3:Same H2 (upd H2 p3 (.lst (hs.map V.int))):=Same.upd n3
 have f3:upd H2 p3 (.lst (hs.map V.int)) p3=some (.lst (hs.map V.int)):=qm
 generalize upd H2 p3 (.lst (hs.map V.int))=H3 at s3 f3
 refine λx1 d1 nx1 nd1 ne1=>yn f3 nx1 nd1 (λ_ H4 s4 R4=>?_) λz=>absurd ok1 z
 have s24:=s3.trans s4
 refine exI rfl ⟨_,_,rfl,.inl (SqL.of (s24 _ _ f2)),λp5 n5=>?_⟩
 have s5:Same H4 (upd H4 p5 (.lst (ks.map V.int))):=Same.upd n5
 have f5:upd H4 p5 (.lst (ks.map V.int)) p5=some (.lst (ks.map V.int)):=qm
 generalize upd H4 p5 (.lst (ks.map V.int))=H5 at s5 f5
 refine λx2 d2 nx2 nd2 ne2=>yn f5 nx2 nd2 (λ_ H6 s6 R6=>?_) λz=>absurd ok2 z
 have s46:=s5.trans s6
 have s26:=s24.trans s46
 have g1:=(s2.trans s26) _ _ f1
 have g2:=s26 _ _ f2
 have hS6:=((s1.trans s2).trans s26).sql hS
 have hR6:=R4.same s46
 clear s1 f1 s2 f2 s3 f3 s4 R4 s5 f5 s6 s24 s46 s26
 have hl1:(hs.map V.int).length=hs.length:=ac _
 have hl2:(ks.map V.int).length=ks.length:=ac _
 refine exI rfl (exI rfl ⟨_,_,rfl,.inl (SqL.of g1),wz rfl rfl ?_⟩)
 rw [hl1]
 refine ⟨a,ns,_,_,_,rfl,hS6,(by lia),(by lia),(by lia),(by lia),(by lia),λq1 t1 b1' c1 m1 b11 b12 c11 c12 t11 t12=>?_⟩
 have s7:=Same.upd (H:=H6) (o:=.tup [.int (t1*c1),.int (b1'*c1)]) m1
 have h1:upd H6 q1 (.tup [.int (t1*c1),.int (b1'*c1)]) q1=some (.tup [.int (t1*c1),.int (b1'*c1)]):=qm
 generalize upd H6 q1 (.tup [.int (t1*c1),.int (b1'*c1)])=H7 at s7 h1
 have P1:PG hs (t1*c1) (b1'*c1):=qz1 rfl b11 b12 c11 c12 t11 t12
 generalize t1*c1=t at h1 P1
 generalize b1'*c1=b at h1 P1
 refine exI rfl (exI rfl ⟨_,_,rfl,.inl (SqL.of (s7 _ _ g1)),wz rfl rfl ?_⟩)
 rw [hl1]
 refine ⟨a,ns,_,_,_,rfl,s7.sql hS6,(by lia),(by lia),(by lia),(by lia),(by lia),λq2 t2 b2' c2 m2 b21 b22 c21 c22 t21 t22=>?_⟩
 have s8:=Same.upd (H:=H7) (o:=.tup [.int (t2*c2),.int (b2'*c2)]) m2
 have h2:upd H7 q2 (.tup [.int (t2*c2),.int (b2'*c2)]) q2=some (.tup [.int (t2*c2),.int (b2'*c2)]):=qm
 generalize upd H7 q2 (.tup [.int (t2*c2),.int (b2'*c2)])=H8 at s8 h2
 have P2:PG hs (t2*c2) (b2'*c2):=qz1 rfl b21 b22 c21 c22 t21 t22
 generalize t2*c2=t' at h2 P2
 generalize b2'*c2=b' at h2 P2
 refine ⟨sz2,λlp nlp=>?_⟩
 have s9:=Same.upd (H:=H8) (o:=.lst [.ref q1,.ref q2]) nlp
 have tw:TwoAt (upd H8 lp (.lst [.ref q1,.ref q2])) lp q1 q2 t b t' b':=⟨qm,s9 _ _ (s8 _ _ h1),s9 _ _ h2⟩
 generalize upd H8 lp (.lst [.ref q1,.ref q2])=H9 at s9 tw
 have s69:=(s7.trans s8).trans s9
 have hS9:=s69.sql hS6
 have g9:=s69 _ _ g2
 refine exI rfl (exI rfl ⟨_,_,rfl,.inl (SqL.of g9),wz rfl rfl ?_⟩)
 rw [hl2]
 refine ⟨a,ns,_,_,_,rfl,hS9,(by lia),(by lia),(by lia),(by lia),(by lia),λq3 t3 b3' c3 m3 b31 b32 c31 c32 t31 t32=>?_⟩
 have s10:=Same.upd (H:=H9) (o:=.tup [.int (t3*c3),.int (b3'*c3)]) m3
 have h3:upd H9 q3 (.tup [.int (t3*c3),.int (b3'*c3)]) q3=some (.tup [.int (t3*c3),.int (b3'*c3)]):=qm
 generalize upd H9 q3 (.tup [.int (t3*c3),.int (b3'*c3)])=H10 at s10 h3
 have P3:PG ks (t3*c3) (b3'*c3):=qz1 rfl b31 b32 c31 c32 t31 t32
 generalize t3*c3=u at h3 P3
 generalize b3'*c3=c at h3 P3
 refine exI rfl (exI rfl ⟨_,_,rfl,.inl (SqL.of (s10 _ _ g9)),wz rfl rfl ?_⟩)
 rw [hl2]
 refine ⟨a,ns,_,_,_,rfl,s10.sql hS9,(by lia),(by lia),(by lia),(by lia),(by lia),λq4 t4 b4' c4 m4 b41 b42 c41 c42 t41 t42=>?_⟩
 have s11:=Same.upd (H:=H10) (o:=.tup [.int (t4*c4),.int (b4'*c4)]) m4
 have h4:upd H10 q4 (.tup [.int (t4*c4),.int (b4'*c4)]) q4=some (.tup [.int (t4*c4),.int (b4'*c4)]):=qm
 generalize upd H10 q4 (.tup [.int (t4*c4),.int (b4'*c4)])=H11 at s11 h4
 have P4:PG ks (t4*c4) (b4'*c4):=qz1 rfl b41 b42 c41 c42 t41 t42
 generalize t4*c4=u' at h4 P4
 generalize b4'*c4=c' at h4 P4
 refine ⟨sz2,λlq nlq=>?_⟩
 have s12:=Same.upd (H:=H11) (o:=.lst [.ref q3,.ref q4]) nlq
 have tv:TwoAt (upd H11 lq (.lst [.ref q3,.ref q4])) lq q3 q4 u c u' c':=⟨qm,s12 _ _ (s11 _ _ h3),s12 _ _ h4⟩
 generalize upd H11 lq (.lst [.ref q3,.ref q4])=H12 at s12 tv
 have s912:=(s10.trans s11).trans s12
 have tw:=tw.same s912
 have hS12:=s912.sql hS9
 have hR:=(hR6.same s69).same s912
 have hR':=(R6.same s69).same s912
 clear s7 s8 s9 s10 s11 s12 s69 s912 hS6 hS9 g9 g1 g2 hR6 R6 h1 h2 h3 h4
 refine exI rfl ⟨a,ns,_,_,_,rfl,hS12,(by lia),(by lia),(by lia),(by lia),λr1 _ l1 u1=>?_⟩
 refine wz rfl rfl ?_
 refine exI rfl ⟨a,ns,exI rfl ⟨hS12,(by lia),λc8 _=>?_⟩⟩
 refine wz rfl rfl ⟨⟨by decide,by decide,by decide⟩,wz rfl rfl (wz rfl rfl ⟨(show (0:Int)<10 ^ (60:Int).toNat+1 by decide +kernel),?_⟩)⟩
 refine ⟨λσ H'=>H'=H12∧∃m:Int,σ=[some (.ref a),some (.ref p1),some (.ref p2),some (.ref x1),some (.ref x2),some (.ref lp),some (.ref lq),some (.int (1+r1)),some (.int m),none]∧0≤m∧m≤FAR,?_,?_⟩
 ·refine exI rfl ⟨a,ns,_,_,_,rfl,hS12,(by lia),(by lia),(by lia),(by lia),λr9 _ l9 u9=>?_⟩
  refine ⟨rfl,_,rfl,k9 (λz1=>?_) (λz1=>?_)⟩
  ·refine exI rfl (wz rfl rfl ⟨(by walk_at "pos"),rfl,exI rfl ⟨aQ _ (by decide),?_⟩⟩)
   have:=aJ (c8%(10 ^ (60:Int).toNat+1)) (show (0:Int)<200 by decide)
   exact dJ (Int.le_of_lt this) wqg
  ·exact ⟨rfl,_,rfl,wwy c8⟩
 ·rintro σ Hx ⟨rfl,m,rfl,m0,mF⟩
  have l5:hs.length≤5:=by lia
  have l5':ks.length≤5:=by lia
  obtain ⟨v,hv⟩:=MeetP.ex (Mt hs t b t' b')
  refine exI rfl (exI rfl (exX rfl rfl (SqL.of tw.1) rfl (exI rfl (exX rfl rfl (SqL.of tw.1) rfl ?_))))
  dsimp only [xb,zy,tC]
  refine xp hR ok1 (by lia) (SqT.of tw.2.1) (SqT.of tw.2.2) P1 P2 hv λH13 s13=>?_
  have tw13:=tw.same s13
  refine exI rfl (exI rfl (exX rfl rfl (SqL.of tw13.1) rfl (exI rfl (exI rfl (exX rfl rfl (SqL.of tw13.1) rfl ?_)))))
  dsimp only [xb,zy,tC]
  refine xt (hR.same s13) ok1 (by lia) (SqT.of tw13.2.1) (SqT.of tw13.2.2) P1 P2 m0 mF λH14 s14=>?_
  refine ⟨sz2,λpf npf=>?_⟩
  have s15:=Same.upd (H:=H14) (o:=.tup [v,.int (x9 hs (qb t b) (qb t' b') m.toNat)]) npf
  have ff:upd H14 pf (.tup [v,.int (x9 hs (qb t b) (qb t' b') m.toNat)]) pf=some (.tup [v,.int (x9 hs (qb t b) (qb t' b') m.toNat)]):=qm
  generalize upd H14 pf (.tup [v,.int (x9 hs (qb t b) (qb t' b') m.toNat)])=H15 at s15 ff
  have sA:=(s13.trans s14).trans s15
  refine ⟨_,rfl,_,rfl,_,rfl,_,rfl,x1,lp,q1,q2,hs,t,b,t',b',1+r1,m,rfl,hR.same sA,ok1,l5,by lia,by lia,tw.same sA,P1,P2,m0,mF,λH16 s16=>?_⟩
  have sB:=sA.trans s16
  refine exI rfl (kn ?_)
  refine exI rfl (exI rfl (exI rfl ⟨x1,lp,q1,q2,hs,t,b,t',b',m,rfl,hR.same sB,ok1,l5,tw.same sB,P1,P2,m0,mF,λH17 s17=>?_⟩))
  have sC:=sB.trans s17
  refine exI rfl (kn ?_)
  refine exI rfl (exI rfl (exI rfl (exI rfl (exI rfl ⟨x1,x2,lp,lq,q1,q2,q3,q4,hs,ks,t,b,t',b',u,c,u',c',m,rfl,hR.same sC,hR'.same sC,ok1,ok2,l5,l5',tw.same sC,tv.same sC,P1,P2,P3,P4,m0,mF,λH18 s18=>?_⟩))))
  have sD:=sC.trans s18
  refine exI rfl (kn ?_)
  refine exI rfl (exI rfl (exI rfl (exI rfl (exI rfl ⟨x2,x1,lq,lp,q3,q4,q1,q2,ks,hs,u,c,u',c',t,b,t',b',m,rfl,hR'.same sD,hR.same sD,ok2,ok1,l5',l5,tv.same sD,tw.same sD,P3,P4,P1,P2,m0,mF,λH19 s19=>?_⟩))))
  have sE:=sD.trans s19
  refine exI rfl (kn ?_)
  have twE:=tw.same sE
  refine exI rfl (exI rfl (exI rfl (exX rfl rfl (SqL.of twE.1) rfl (exI rfl (exX rfl rfl (SqL.of twE.1) rfl ?_)))))
  dsimp only [xb,zy,tC]
  refine xp (hR.same sE) ok1 (by lia) (SqT.of twE.2.1) (SqT.of twE.2.2) P1 P2 hv λH20 s20=>?_
  have twF:=twE.same s20
  refine exI rfl (exI rfl (exX rfl rfl (SqL.of twF.1) rfl (exI rfl (exI rfl (exX rfl rfl (SqL.of twF.1) rfl ?_)))))
  dsimp only [xb,zy,tC]
  refine xt ((hR.same sE).same s20) ok1 (by lia) (SqT.of twF.2.1) (SqT.of twF.2.2) P1 P2 m0 mF λH21 s21=>?_
  refine ⟨sz2,λpg npg=>?_⟩
  have s22:=Same.upd (H:=H21) (o:=.tup [v,.int (x9 hs (qb t b) (qb t' b') m.toNat)]) npg
  have fg:upd H21 pg (.tup [v,.int (x9 hs (qb t b) (qb t' b') m.toNat)]) pg=some (.tup [v,.int (x9 hs (qb t b) (qb t' b') m.toNat)]):=qm
  generalize upd H21 pg (.tup [v,.int (x9 hs (qb t b) (qb t' b') m.toNat)])=H22 at s22 fg
  have ff':=((((((s16.trans s17).trans s18).trans s19).trans s20).trans s21).trans s22) _ _ ff
  obtain ⟨q1',q2',q3'⟩:=qyt (i:=x9 hs (qb t b) (qb t' b') m.toNat) hv.val
  refine ⟨_,_,qzp hv.val ff',qzp hv.val fg,q2',q2',by rw [Nat.min_self];exact q3',?_⟩
  rw [am (by decide),q1']
  exact k _
end
section
theorem all_mk {l:PySem.W.OpenLaw}{w:Ah}{K:Aa}{h:Heap}{mg:Str→Option Ag}{fa:Aj}{qd:Aj}{qy:Aj}{qh:Aj}{qt:Aj}{qc:Aj}{qg:Aj}{qv:Aj}{t_WIDEST:Tok}{t_LONGEST_TRACE:Tok}{t_FARTHEST:Tok}{t_MOST_TAKEN:Tok}{t_MOST_CORNERS:Tok}(X:K.In h)(G:h.Ns mainGlobals mg)(hfa:mg "law" = some (.ref fa))
  (d__law_cell:DefIn K "_law_cell" s__law_cell)
  (d__law_pick:DefIn K "_law_pick" s__law_pick)
  (d_check_bottom:DefIn K "check_bottom" s_check_bottom)
  (d_common_divisor:DefIn K "common_divisor" s_common_divisor)
  (d_lowest:DefIn K "lowest" s_lowest)
  (d_check_count:DefInD K "check_count" s_check_count)
  (d_is_line:DefIn K "is_line" s_is_line)
  (d_trace:DefIn K "trace" s_trace)
  (d_spot:DefIn K "spot" s_spot)
  (d_led_to:DefIn K "led_to" s_led_to)
  (d_stands:DefIn K "stands" s_stands)
  (d_meeting:DefIn K "meeting" s_meeting)
  (d_finer:DefIn K "finer" s_finer)
  (d_doubled:DefIn K "doubled" s_doubled)
  (d_beside:DefIn K "beside" s_beside)
  (d_between:DefIn K "between" s_between)
  (d_parted:DefIn K "parted" s_parted)
  (d_with_whole_heights:DefIn K "with_whole_heights" s_with_whole_heights)
  (d_laid:DefIn K "laid" s_laid)
  (d_way:DefIn K "way" s_way)
  (d_laps:DefIn K "laps" s_laps)
  (d__law_climb:DefIn K "_law_climb" s__law_climb)
  (d__law_heights:DefIn K "_law_heights" s__law_heights)
  (d__law_whole:DefIn K "_law_whole" s__law_whole)
  (d__law_spot:DefIn K "_law_spot" s__law_spot)
  (d__law_moved:DefIn K "_law_moved" s__law_moved)
  (d__law_alike:DefIn K "_law_alike" s__law_alike)
  (d__law_finer_alike:DefIn K "_law_finer_alike" s__law_finer_alike)
  (d__law_doubled_alike:DefIn K "_law_doubled_alike" s__law_doubled_alike)
  (d__law_beside_alike:DefIn K "_law_beside_alike" s__law_beside_alike)
  (d_law:DefIn K "law" s_law)
  (a_BadLine:PySem.W.nsIn K mainGlobals "BadLine" = some (some (.ref qd)))
  (x_BadLine:PySem.W.excIn K qd [.type "ValueError",.type "Exception",.type "BaseException",.type "object"] "ValueError.__new__" = true)
  (a_BadBottom:PySem.W.nsIn K mainGlobals "BadBottom" = some (some (.ref qy)))
  (x_BadBottom:PySem.W.excIn K qy [.type "ValueError",.type "Exception",.type "BaseException",.type "object"] "ValueError.__new__" = true)
  (a_OffRoad:PySem.W.nsIn K mainGlobals "OffRoad" = some (some (.ref qh)))
  (x_OffRoad:PySem.W.excIn K qh [.type "ValueError",.type "Exception",.type "BaseException",.type "object"] "ValueError.__new__" = true)
  (a_BadRow:PySem.W.nsIn K mainGlobals "BadRow" = some (some (.ref qt)))
  (x_BadRow:PySem.W.excIn K qt [.type "ValueError",.type "Exception",.type "BaseException",.type "object"] "ValueError.__new__" = true)
  (a_BadCount:PySem.W.nsIn K mainGlobals "BadCount" = some (some (.ref qc)))
  (x_BadCount:PySem.W.excIn K qc [.type "ValueError",.type "Exception",.type "BaseException",.type "object"] "ValueError.__new__" = true)
  (a_TooLong:PySem.W.nsIn K mainGlobals "TooLong" = some (some (.ref qg)))
  (x_TooLong:PySem.W.excIn K qg [.type "ValueError",.type "Exception",.type "BaseException",.type "object"] "ValueError.__new__" = true)
  (a_Road:PySem.W.nsIn K mainGlobals "Road" = some (some (.ref qv)))
  (pg_Road:PySem.W.plainGet K qv Str.empty=true)
  (hd_Road:PySem.W.hasDictIn K qv=true)
  (po_Road:PySem.W.plainOver K qv=true)
  (sa_Road:PySem.W.findIn K (.ref qv) "__setattr__" = some (some (.builtin "object.__setattr__")))
  (mk_Road:PySem.W.makesIn K qv=true)
  (kc_Road:PySem.W.keepIn K (.ref qv)=true)
  (m_Road___init__:MethIn K qv "__init__" "Road.__init__" s_Road___init__)
  (m_Road_width:MethIn K qv "width" "Road.width" s_Road_width)
  (m_Road_corners:MethIn K qv "corners" "Road.corners" s_Road_corners)
  (m_Road_ends:MethIn K qv "ends" "Road.ends" s_Road_ends)
  (m_Road_slope:MethIn K qv "slope" "Road.slope" s_Road_slope)
  (m_Road_on_road:MethIn K qv "on_road" "Road.on_road" s_Road_on_road)
  (m_Road_at:MethIn K qv "at" "Road.at" s_Road_at)
  (na_Road_heights:PySem.W.findIn K (.ref qv) "heights" = some none)
  (g_WIDEST:PySem.W.nsIn K mainGlobals "WIDEST" = some (some (.int 24 t_WIDEST)))
  (g_LONGEST_TRACE:PySem.W.nsIn K mainGlobals "LONGEST_TRACE" = some (some (.int 1000 t_LONGEST_TRACE)))
  (g_FARTHEST:PySem.W.nsIn K mainGlobals "FARTHEST" = some (some (.int 1000000000000000000000000000000000000000000000000000000000000 t_FARTHEST)))
  (g_MOST_TAKEN:PySem.W.nsIn K mainGlobals "MOST_TAKEN" = some (some (.int 12 t_MOST_TAKEN)))
  (g_MOST_CORNERS:PySem.W.nsIn K mainGlobals "MOST_CORNERS" = some (some (.int 1000 t_MOST_CORNERS)))
  (z_len:PySem.W.nsIn K mainGlobals "len" = some none)
  (z_abs:PySem.W.nsIn K mainGlobals "abs" = some none)
  (z_range:PySem.W.nsIn K mainGlobals "range" = some none)
  (z_isinstance:PySem.W.nsIn K mainGlobals "isinstance" = some none)
  (z_int:PySem.W.nsIn K mainGlobals "int" = some none)
  (z_bool:PySem.W.nsIn K mainGlobals "bool" = some none)
  (z_list:PySem.W.nsIn K mainGlobals "list" = some none)
  (z_tuple:PySem.W.nsIn K mainGlobals "tuple" = some none)
  (z_min:PySem.W.nsIn K mainGlobals "min" = some none)
  (z_max:PySem.W.nsIn K mainGlobals "max" = some none)
  (z_sum:PySem.W.nsIn K mainGlobals "sum" = some none)
  (z_zip:PySem.W.nsIn K mainGlobals "zip" = some none)
  (z_enumerate:PySem.W.nsIn K mainGlobals "enumerate" = some none)
  (z_all:PySem.W.nsIn K mainGlobals "all" = some none) :
  ∃fd:Ad,(∀(s:Ab) (v:Ag),BindsTo s fd ⟨[v],[]⟩ [("_law_script",v)])∧∀base:Heap,K.In base→base.Ns mainGlobals mg→FnOk l.prog w K mg base (CXE l.prog w) 9 fa fd ["_law_script"] (qvk K):=by
 have T:Txt K mg qd qy qh qt qc qg qv:=⟨aO X G z_len,aO X G z_abs,aO X G z_range,aO X G z_isinstance,aO X G z_int,aO X G z_bool,aO X G z_list,aO X G z_tuple,aO X G z_min,aO X G z_max,aO X G z_sum,aO X G z_zip,aO X G z_enumerate,aO X G z_all,aZ X G a_BadLine,⟨x_BadLine⟩,aZ X G a_BadBottom,⟨x_BadBottom⟩,aZ X G a_OffRoad,⟨x_OffRoad⟩,aZ X G a_BadRow,⟨x_BadRow⟩,aZ X G a_BadCount,⟨x_BadCount⟩,aZ X G a_TooLong,⟨x_TooLong⟩,⟨pg_Road,hd_Road,po_Road,sa_Road⟩,na_Road_heights,⟨t_WIDEST,aZ X G g_WIDEST⟩,aZ X G a_Road,⟨t_LONGEST_TRACE,aZ X G g_LONGEST_TRACE⟩,⟨t_FARTHEST,aZ X G g_FARTHEST⟩,⟨t_MOST_TAKEN,aZ X G g_MOST_TAKEN⟩,⟨t_MOST_CORNERS,aZ X G g_MOST_CORNERS⟩⟩
 obtain ⟨f,fd,a,F⟩:=d_law.ex
 have e:=hfa.symm.trans (aZ X G a)
 cases e
 refine ⟨fd,λs v=>?_,λbase kb nb=>?_⟩
 ·obtain ⟨oc,od,kV,doc,pm,an,cdv,ct,osl,rfl,lk,hcd⟩:=F.ex
  exact .of_eq rfl
 ·have c1:Cal l.prog w K mg base "_law_cell" 1 (qqq K):=d__law_cell.cal X G qqf λf fd F=>wwx F T
  have c2:Cal l.prog w K mg base "_law_pick" 2 (yz K):=d__law_pick.cal X G Jh λf fd F=>wq6 F T c1
  have c3:Cal l.prog w K mg base "check_bottom" 1 (Jt qy):=d_check_bottom.cal X G Qb λf fd F=>qy9 F T
  have c4:Cal l.prog w K mg base "common_divisor" 1 qj2:=d_common_divisor.cal X G uz λf fd F=>ok_gcd F T
  have c5:Cal l.prog w K mg base "lowest" 2 (jc qy):=d_lowest.cal X G qv4 λf fd F=>qkz F T c3 c4
  have c6:CalD l.prog w K mg base "check_count" 1 (yd qc):=d_check_count.cal X G Q6 Wh λf fd F=>qyk F T
  have c7:Cal l.prog w K mg base "is_line" 1 (W8 K):=d_is_line.cal X G qxz λf fd F=>qxh F T
  have c8:CCal l.prog w K mg base "Road" qv 2 (yc K qd qv):=m_Road___init__.ccal T.g_Road mk_Road kc_Road ug λf fd F=>wwz F T c7
  have c9:MCal l.prog w K mg base qv "width" 1 (vw qv):=m_Road_width.cal Zs λf fd F=>qus F T
  have c10:MCal l.prog w K mg base qv "corners" 1 (vz qv):=m_Road_corners.cal Qg λf fd F=>qx4 F T
  have c11:MCal l.prog w K mg base qv "ends" 2 (Wu qv qt):=m_Road_ends.cal qqz λf fd F=>wqb F T c9
  have c12:MCal l.prog w K mg base qv "slope" 3 (Ys qv qt):=m_Road_slope.cal Zv λf fd F=>qj1 F T c11
  have c13:MCal l.prog w K mg base qv "on_road" 3 (jj K qv qy qh):=m_Road_on_road.cal Qm λf fd F=>qx7 F T c9 c5
  have c14:MCal l.prog w K mg base qv "at" 4 (spAt K qv qy qh):=m_Road_at.cal qx0 λf fd F=>ok_at F T c9 c5 c11 c13
  have c15:Cal l.prog w K mg base "trace" 5 (Q5 qv qg):=d_trace.cal X G qyh λf fd F=>qub F T c14
  have c16:Cal l.prog w K mg base "spot" 1 qzv:=d_spot.cal X G ww1 λf fd F=>wqj F T
  have c17:Cal l.prog w K mg base "led_to" 1 qyc:=d_led_to.cal X G qkv λf fd F=>ok_led F T
  have c18:Cal l.prog w K mg base "stands" 6 (vy K qv):=d_stands.cal X G qk6 λf fd F=>qjb F T c6 c13 c15 c17
  have c19:Cal l.prog w K mg base "meeting" 6 (zm K qv):=d_meeting.cal X G qw9 λf fd F=>qxk F T c13 c15 c16
  have c20:Cal l.prog w K mg base "finer" 4 (Jm qv qd):=d_finer.cal X G qup λf fd F=>qjg F T c6 c8 c9 c10 c11 c12
  have c21:Cal l.prog w K mg base "doubled" 4 (qjr qv qd):=d_doubled.cal X G qxs λf fd F=>ok_dbl F T c8 c9 c10
  have c22:Cal l.prog w K mg base "beside" 4 (qj8 qv):=d_beside.cal X G qjd λf fd F=>qk3 F T c8 c9 c10
  have c23:Cal l.prog w K mg base "between" 3 (um K):=d_between.cal X G qxj λf fd F=>qx5 F T c5
  have c24:Cal l.prog w K mg base "parted" 4 (Wk K):=d_parted.cal X G qvm λf fd F=>qv6 F T c23
  have c25:Cal l.prog w K mg base "with_whole_heights" 5 (W7 K):=d_with_whole_heights.cal X G jk λf fd F=>qvt F T c24
  have c26:Cal l.prog w K mg base "laid" 6 (qw7 qv qg):=d_laid.cal X G ww7 λf fd F=>wwu F T c6 c10 c25
  have c27:Cal l.prog w K mg base "way" 1 quq:=d_way.cal X G bd_way λf fd F=>ok_way F T
  have c28:Cal l.prog w K mg base "laps" 7 (Y8 qv qg):=d_laps.cal X G wwh λf fd F=>wq0 F T c26 c27
  have c29:Cal l.prog w K mg base "_law_climb" 3 (Q1 K):=d__law_climb.cal X G Zh λf fd F=>qys F T c2
  have c30:Cal l.prog w K mg base "_law_heights" 4 (ur K):=d__law_heights.cal X G Qt λf fd F=>qx1 F T c2 c29
  have c31:Cal l.prog w K mg base "_law_whole" 1 Js:=d__law_whole.cal X G Zb λf fd F=>qut F T
  have c32:Cal l.prog w K mg base "_law_spot" 3 (Jd K):=d__law_spot.cal X G Jk λf fd F=>qur F T c2
  have c33:Cal l.prog w K mg base "_law_moved" 1 (qz7 K):=d__law_moved.cal X G Zc λf fd F=>qjm F T
  have c34:Cal l.prog w K mg base "_law_alike" 2 y8:=d__law_alike.cal X G Zf λf fd F=>qyg F T c31
  have c35:Cal l.prog w K mg base "_law_finer_alike" 8 (Jn qv):=d__law_finer_alike.cal X G j7 λf fd F=>Q8 F T c20 c33 c19 c18 c28 c34
  have c36:Cal l.prog w K mg base "_law_doubled_alike" 7 (J3 qv):=d__law_doubled_alike.cal X G jw λf fd F=>uf F T c21 c19 c18 c34
  have c37:Cal l.prog w K mg base "_law_beside_alike" 7 (qqw qv):=d__law_beside_alike.cal X G jd λf fd F=>Qh F T c22 c9 c33 c19 c18 c34
  exact ok_law F T c1 c2 c30 c8 c32 c19 c18 c35 c36 c37
theorem walk {l:PySem.W.OpenLaw}{q:Ac}{loose:List Str}{XP:(Str→Option Ag)→Heap→Prop}{YP:Ah→Heap→Prop}{d:DefRec}{K:Params→Aa}(hn:l.most=some 63)(hdf:d.params.defaults=[])
  (hY:∀(w:Ah) (h:Heap),YP w h→(K w.params).In h)
  (F:∀(w:Ah) (mg:Str→Option Ag) (fa:Aj) (h:Heap),(K w.params).In h→h.Ns mainGlobals mg→mg d.name=some (.ref fa) →
   ∃fd:Ad,(∀(s:Ab) (u:Ag),BindsTo s fd ⟨[u],[]⟩ [("_law_script",u)])∧∀base:Heap,(K w.params).In base→base.Ns mainGlobals mg→FnOk l.prog w (K w.params) mg base (CXE l.prog w) 9 fa fd ["_law_script"] (qvk (K w.params))) :
  PySem.W.WalkO q loose XP YP l.row.toRowW d [] (λf vs=>PySem.call f vs) :=
 L2.wwm (n:=63) (k:=9) (x := "_law_script") (CX:=λw=>CXE l.prog w) (sp:=λw=>qvk (K w.params)) hn (by decide) hdf ⟨rfl,by decide,by decide⟩ hY F (λ_ _ a ns hl _ hS=>⟨a,ns,rfl,hS,hl,λ_=>rfl⟩) λ_ _ _ _ _ z=>CXE.no z
end
end My
open PySem PySem.W PyProof.Rows
local macro_rules | `(tactic| walk_at "def")=>`(tactic| (refine' L2.def_mk ?a ?l ?c ?k;(case a=>k_is);(case l=>k_is);(case c=>k_is);(case k=>k_is)))
local macro_rules | `(tactic| walk_at "defD")=>`(tactic| (refine' L2.wxy ?a ?l ?c ?k ?t;(case a=>k_is);(case l=>k_is);(case c=>k_is);(case k=>k_is);(case t=>k_is)))
local macro_rules | `(tactic| walk_at "meth")=>`(tactic| (refine' L2.wq1 ?a ?i ?l ?c ?k;(case a=>k_is);(case i=>k_is);(case l=>k_is);(case c=>k_is);(case k=>k_is)))
namespace PySem.W.Fast
theorem tw2520362879582668449:True:=trivial
theorem tw3913434515619717254:True:=trivial
theorem tw6307469164466223962:True:=trivial
theorem tw7006750934991217611:True:=trivial
theorem tw7371987434930996726:True:=trivial
theorem tw17044093628869095930:True:=trivial
theorem tw6692804221728532703:True:=trivial
theorem tw9477914892459412725:True:=trivial
theorem tw3870294911415629531:True:=trivial
theorem tw17158398525799936918:True:=trivial
theorem tw6435220892221381295:True:=trivial
theorem tw13387360336963742016:True:=trivial
theorem tw11555262487154094949:True:=trivial
theorem tw332779376538178584:True:=trivial
theorem tw6558567869089613903:True:=trivial
theorem tw4259562814345790424:True:=trivial
theorem tw12596019235041709176:True:=trivial
theorem tw11278662944627552479:True:=trivial
theorem tw17854572695930095643:True:=trivial
theorem tw5524003334070579886:True:=trivial
theorem tw10115817632155752890:True:=trivial
theorem tw15557422587290112366:True:=trivial
theorem tw12304036917288904457:True:=trivial
theorem tw2311585456771921770:True:=trivial
theorem tw3256999756413492919:True:=trivial
theorem tw3058116622033113923:True:=trivial
theorem tw8700434681766039886:True:=trivial
theorem tw5441941133727316546:True:=trivial
theorem tw15589839553142158720:True:=trivial
theorem tw14372838171191566065:True:=trivial
theorem tw3271700583174493933:True:=trivial
theorem tw5763057352501011642:True:=trivial
theorem tw1967013532923449861:True:=trivial
theorem tw1768795905577877531:True:=trivial
theorem tw5167853623659836453:True:=trivial
theorem tw7660655033049824008:True:=trivial
theorem tw6831457035417874984:True:=trivial
theorem tw5025316888279291721:True:=trivial
theorem tw9541964655239713616:True:=trivial
theorem tw10462530302838004037:True:=trivial
theorem tw118900242059448337:True:=trivial
theorem tw17778475688514589435:True:=trivial
theorem tw15230844608676359486:True:=trivial
theorem tw15506299111534387052:True:=trivial
theorem tw820626691566671174:True:=trivial
theorem tw7754826839432217597:True:=trivial
theorem tw17045894561331519947:True:=trivial
theorem tw2627827146886986330:True:=trivial
theorem tw8904850862595446699:True:=trivial
theorem tw14474026743628680732:True:=trivial
theorem tw14042877265192424741:True:=trivial
theorem tw1116302412841025055:True:=trivial
theorem tw5602494024797273657:True:=trivial
theorem tw16426673885583425165:True:=trivial
theorem tw751449073901799749:True:=trivial
theorem tw14397874076843672751:True:=trivial
theorem tw9527009272201329001:True:=trivial
theorem tw1804689101712224454:True:=trivial
theorem tw300725835120073095:True:=trivial
theorem tw8493521960975603373:True:=trivial
theorem tw15321477604991474214:True:=trivial
theorem tw5730905935967464505:True:=trivial
theorem tw10764378918616938032:True:=trivial
theorem tw18164213074491587695:True:=trivial
theorem tw9204808168713391904:True:=trivial
theorem tw7159466850792157202:True:=trivial
theorem tw5386470057649610514:True:=trivial
theorem tw17236633101269460794:True:=trivial
theorem tw7688897815425798529:True:=trivial
theorem tw15452120441873321853:True:=trivial
theorem tw18439751553337421412:True:=trivial
theorem tw10695052557055811698:True:=trivial
theorem tw16441073854708458576:True:=trivial
theorem tw12578201470794296652:True:=trivial
theorem tw15746498062152975916:True:=trivial
theorem tw17766280452332218886:True:=trivial
theorem tw7554115267859591963:True:=trivial
theorem tw3295652484599673932:True:=trivial
theorem tw15432437412066888071:True:=trivial
theorem tw3728610809411879976:True:=trivial
theorem tw11952444011299433583:True:=trivial
theorem tw9127791979325216135:True:=trivial
theorem tw17685461990379633563:True:=trivial
theorem tw7198459403028570626:True:=trivial
theorem tw10200463714014032580:True:=trivial
theorem tw3378661631155519396:True:=trivial
theorem tw3374510711689939410:True:=trivial
theorem tw3611236628838984914:True:=trivial
theorem tw11144096473492023563:True:=trivial
theorem tw13702074099876482214:True:=trivial
theorem tw2909326105028816507:True:=trivial
theorem tw8812438465792129475:True:=trivial
theorem tw2273135823210925132:True:=trivial
theorem tw9836424304177380772:True:=trivial
theorem tw11214898948318148754:True:=trivial
theorem tw13010037716061682026:True:=trivial
theorem tw5338770135970384673:True:=trivial
theorem tw5357512408345787677:True:=trivial
theorem tw13601583732132155887:True:=trivial
theorem tw4363792572977970269:True:=trivial
theorem tw11418671502843408289:True:=trivial
theorem tw246075492455513358:True:=trivial
theorem tw7507297369896412532:True:=trivial
theorem tw14150679959320894861:True:=trivial
theorem tw10337781049731961256:True:=trivial
theorem tw10581860642148465980:True:=trivial
theorem tw10109567999988588354:True:=trivial
theorem tw8013110982642685997:True:=trivial
theorem tw643179582667600275:True:=trivial
theorem tw4427395727309706741:True:=trivial
theorem tw8467713116617192131:True:=trivial
theorem tw7380188009405932743:True:=trivial
theorem tw11349225170020555582:True:=trivial
theorem tw14827982420505318251:True:=trivial
theorem tw15241744611187737851:True:=trivial
theorem tw3791003079310622301:True:=trivial
theorem tw14992779796076443963:True:=trivial
theorem tw3369659308454560123:True:=trivial
theorem tw13382150175120818123:True:=trivial
theorem tw16450060469234753559:True:=trivial
theorem tw11314589636345985110:True:=trivial
theorem tw10658043700165345226:True:=trivial
theorem tw13914525477353381639:True:=trivial
theorem tw10386393010499979323:True:=trivial
theorem tw5699491063184917734:True:=trivial
theorem tw4734196230958667221:True:=trivial
theorem tw17202013821842068190:True:=trivial
theorem tw8756710577721592629:True:=trivial
theorem tw13717861376340110211:True:=trivial
theorem tw15156266920427357437:True:=trivial
theorem tw9075695446970427699:True:=trivial
theorem tw4598693971907277855:True:=trivial
theorem tw14647478805500285146:True:=trivial
theorem tw7985876130035053920:True:=trivial
theorem tw12397686013738384798:True:=trivial
theorem tw3265027276386596677:True:=trivial
theorem tw9606580766500279259:True:=trivial
theorem tw15504345614344565204:True:=trivial
theorem tw16397066645858815224:True:=trivial
theorem tw154398057985959250:True:=trivial
theorem tw15840830927538482947:True:=trivial
theorem tw17916769329428064372:True:=trivial
theorem tw16153004638668214322:True:=trivial
theorem tw3013438851477173464:True:=trivial
theorem tw13315809522899346913:True:=trivial
theorem tw14059275957151349970:True:=trivial
theorem tw16869876672659568336:True:=trivial
theorem tw9916308732930199096:True:=trivial
theorem tw14716630915448478491:True:=trivial
theorem tw15502648139746310381:True:=trivial
theorem tw15847083602563935258:True:=trivial
theorem tw9380026770947996521:True:=trivial
theorem tw11613782216107204987:True:=trivial
theorem tw5178839592609593539:True:=trivial
theorem tw15864703325097633387:True:=trivial
theorem tw8979152161348309515:True:=trivial
theorem tw3391987196323831268:True:=trivial
theorem tw2404673821919724204:True:=trivial
theorem tw11194775674214914468:True:=trivial
theorem tw8677697230192914918:True:=trivial
theorem tw10687326207506638086:True:=trivial
theorem tw3654249366222364838:True:=trivial
theorem tw763963100721516543:True:=trivial
theorem tw6898157729326855892:True:=trivial
theorem tw425364922732834791:True:=trivial
theorem tw17142458041964737314:True:=trivial
theorem tw7564465667004435322:True:=trivial
theorem tw9670711269579915266:True:=trivial
theorem tw18089137700900773502:True:=trivial
theorem tw10538368480794795445:True:=trivial
theorem tw6581767629391139363:True:=trivial
theorem tw12005262672737991740:True:=trivial
theorem tw7506654779779657962:True:=trivial
theorem tw8362306079295244206:True:=trivial
theorem tw3679570728452361356:True:=trivial
theorem tw17124934913369118411:True:=trivial
theorem tw12245318473737228873:True:=trivial
theorem tw15343691497878156858:True:=trivial
theorem tw5194545802256212353:True:=trivial
theorem tw12554977356809145621:True:=trivial
theorem tw12300248207055615922:True:=trivial
theorem tw16799217995514234065:True:=trivial
theorem tw6643575951546025473:True:=trivial
theorem tw12808353016400489751:True:=trivial
theorem tw10129857694029301369:True:=trivial
theorem tw4364052231683582674:True:=trivial
theorem tw6444110108929887552:True:=trivial
theorem tw13026828801372983840:True:=trivial
theorem tw6627954540672928906:True:=trivial
theorem tw7736729544758057290:True:=trivial
theorem tw13357878381631677676:True:=trivial
theorem tw16840526595899912825:True:=trivial
theorem tw2902795139778376131:True:=trivial
theorem tw11969102863835556052:True:=trivial
theorem tw11760232183149557401:True:=trivial
theorem tw17481658845271951021:True:=trivial
theorem tw5951816923388755572:True:=trivial
theorem tw14715310922183816179:True:=trivial
theorem tw15455392867154215354:True:=trivial
theorem tw17589429894149831582:True:=trivial
theorem tw363472452821758493:True:=trivial
theorem tw10504575015737044167:True:=trivial
theorem tw13611242361110768426:True:=trivial
theorem tw6113515321333596879:True:=trivial
theorem tw1733565030936724577:True:=trivial
theorem tw8599236612539665657:True:=trivial
theorem tw14802893856178141093:True:=trivial
theorem tw2124249104206282274:True:=trivial
theorem tw3700683971561673942:True:=trivial
theorem tw9945150339439423599:True:=trivial
theorem tw5598015968137582117:True:=trivial
theorem tw6326907468282698259:True:=trivial
theorem tw15400269114042113375:True:=trivial
theorem tw16069528112629292526:True:=trivial
theorem tw5124201176295261475:True:=trivial
theorem tw5228148309757717804:True:=trivial
theorem tw4089978740806282903:True:=trivial
theorem tw5133304993749959950:True:=trivial
theorem tw7276070219740551661:True:=trivial
theorem tw17174750185085328659:True:=trivial
theorem tw12094662957152828618:True:=trivial
theorem tw11694776550544955181:True:=trivial
theorem tw5731837966693762202:True:=trivial
theorem tw7428548322882165128:True:=trivial
theorem tw10657662342243692662:True:=trivial
theorem tw8065742895570540505:True:=trivial
theorem tw1155844356904618646:True:=trivial
theorem tw4660142583299924512:True:=trivial
theorem tw12266441659430401546:True:=trivial
theorem tw9202593032552605850:True:=trivial
theorem tw1043763493556947906:True:=trivial
theorem tw7042935729452149728:True:=trivial
theorem tw10152644156124995207:True:=trivial
theorem tw9570385146376595076:True:=trivial
theorem tw7044419428915943046:True:=trivial
theorem tw3205949247642770202:True:=trivial
theorem tw8152974133450690300:True:=trivial
theorem tw11206928949682240904:True:=trivial
theorem tw3166629511646257250:True:=trivial
theorem tw5196599225442558101:True:=trivial
theorem tw18314261919092823892:True:=trivial
theorem tw15902039493956344752:True:=trivial
theorem tw14617113510746270386:True:=trivial
theorem tw12704473040828286656:True:=trivial
theorem tw9097572208546388147:True:=trivial
theorem tw1966256840892308909:True:=trivial
theorem tw9669114672908941933:True:=trivial
theorem tw14782985687502965527:True:=trivial
theorem tw14357800073394225418:True:=trivial
theorem tw16895437572317986875:True:=trivial
theorem tw3486976915738227146:True:=trivial
theorem tw12633189521487522870:True:=trivial
theorem tw17341791524552536410:True:=trivial
theorem tw4195798633973051574:True:=trivial
theorem tw17800097238322295739:True:=trivial
theorem tw4526298475624407222:True:=trivial
theorem tw14344371057447650494:True:=trivial
theorem tw15168617853160719463:True:=trivial
theorem tw2119304185714496279:True:=trivial
theorem tw2197190137345523096:True:=trivial
theorem tw3410881938771365638:True:=trivial
theorem tw15556733700130323044:True:=trivial
theorem tw405835158278491107:True:=trivial
theorem tw7522183040965962707:True:=trivial
theorem tw1606745750299099758:True:=trivial
theorem tw9439406056441308013:True:=trivial
theorem tw12707488992966080499:True:=trivial
theorem tw15775485717702647225:True:=trivial
theorem tw8371396988857794376:True:=trivial
theorem tw15116223353073363264:True:=trivial
theorem tw15028008993266444002:True:=trivial
theorem tw1682271882292031774:True:=trivial
theorem tw17962381334400025955:True:=trivial
theorem tw5349872010983425904:True:=trivial
theorem tw15250411085031173878:True:=trivial
theorem tw1461895746309889738:True:=trivial
theorem tw43782407749913639:True:=trivial
theorem tw18128779215664897440:True:=trivial
theorem tw12885377462169334956:True:=trivial
theorem tw2687534546427447038:True:=trivial
theorem tw16142654973698350573:True:=trivial
theorem tw4513873965021909673:True:=trivial
theorem tw9518409972257188877:True:=trivial
theorem tw7110181400993486498:True:=trivial
theorem tw5159360053473163256:True:=trivial
theorem tw729817243822815756:True:=trivial
theorem tw4057751532104105328:True:=trivial
theorem tw896328185399169857:True:=trivial
theorem tw12804682432378640130:True:=trivial
theorem tw5862950921600693445:True:=trivial
theorem tw10286032381414814620:True:=trivial
theorem tw16949755340415107944:True:=trivial
theorem tw13248045070182468038:True:=trivial
theorem tw1647852070509103357:True:=trivial
theorem tw11222943329386521530:True:=trivial
theorem tw6617475331288204643:True:=trivial
theorem tw624177704927034208:True:=trivial
theorem tw7748487447902192968:True:=trivial
theorem tw3598742715982078125:True:=trivial
theorem tw18175798232076984172:True:=trivial
theorem tw6597507512173106333:True:=trivial
theorem tw2772431337866446721:True:=trivial
theorem tw2795571360318262573:True:=trivial
theorem tw16037537596893516444:True:=trivial
theorem tw17801680219374650119:True:=trivial
theorem tw4703080366465946182:True:=trivial
theorem tw14132336708385143784:True:=trivial
theorem tw10680491790252533395:True:=trivial
theorem tw5282441980826812211:True:=trivial
theorem tw16918514905358315038:True:=trivial
theorem tw5560528845242498504:True:=trivial
theorem tw11014916742842190573:True:=trivial
theorem tw8871144286629036151:True:=trivial
theorem tw17589626929001184584:True:=trivial
theorem tw3895509459097260142:True:=trivial
theorem tw16620629842548808771:True:=trivial
theorem tw10062702197268859909:True:=trivial
theorem tw16740615022800390713:True:=trivial
theorem tw8315333953307104457:True:=trivial
theorem tw10845869921273339909:True:=trivial
theorem tw13911144413757329113:True:=trivial
theorem tw16214926746341281495:True:=trivial
theorem tw5796220488620293682:True:=trivial
theorem tw4954652943493497383:True:=trivial
theorem tw65202815283651269:True:=trivial
theorem tw561626628692982826:True:=trivial
theorem tw16518137625082448431:True:=trivial
theorem tw7392027796325076835:True:=trivial
theorem tw16110339071658468962:True:=trivial
theorem tw3982831612849335853:True:=trivial
theorem tw18171582785963412409:True:=trivial
theorem tw8264798941005947650:True:=trivial
theorem tw6672977965906149967:True:=trivial
theorem tw17489341899882052552:True:=trivial
theorem tw1463518047849109458:True:=trivial
theorem tw11258859922951545735:True:=trivial
theorem tw13472158218750105369:True:=trivial
theorem tw14606840609826852711:True:=trivial
theorem tw15081152121600125064:True:=trivial
theorem tw9651549287603593028:True:=trivial
theorem tw18377030751251825539:True:=trivial
theorem tw16705981282534431590:True:=trivial
theorem tw7607684229756312123:True:=trivial
theorem tw16537905752262992726:True:=trivial
theorem tw5928590304329763657:True:=trivial
theorem tw4713232246737261585:True:=trivial
theorem tw12295617491935394622:True:=trivial
theorem tw5661776477188032776:True:=trivial
theorem tw8755007720491736099:True:=trivial
theorem tw10366237791962152869:True:=trivial
theorem tw5647668744488402779:True:=trivial
theorem tw3608457410483276182:True:=trivial
theorem tw16818834812632553631:True:=trivial
theorem tw11458031252320806611:True:=trivial
theorem tw5499929638689671001:True:=trivial
theorem tw12390959597855351990:True:=trivial
theorem tw4820268883868312488:True:=trivial
theorem tw3984079992904436581:True:=trivial
theorem tw8769149595972732961:True:=trivial
theorem tw7874936282711281168:True:=trivial
theorem tw7951578879103542100:True:=trivial
theorem tw9175217969135927335:True:=trivial
theorem tw9612527502968839343:True:=trivial
theorem tw16018606144553380209:True:=trivial
end PySem.W.Fast
set_option maxRecDepth 100000 in
set_option maxHeartbeats 0 in
theorem PySem.Challenge.cw_crookroad_k64_whole_made_roads_asked_fur_holds : PySem.Challenge.rw_crookroad_k64_whole_made_roads_asked_fur.Holds := by
 w_on;o_law;k_head;(case hw=>w_witness2)
 k_fill
 refine My.walk (l:=PySem.Challenge.rw_crookroad_k64_whole_made_roads_asked_fur) rfl rfl (fun w h Y=>PySem.W.kIn_of Y) ?F
 case F =>
  intro w mg fa h KX G hmg
  refine' My.all_mk KX G hmg ?d__law_cell ?d__law_pick ?d_check_bottom ?d_common_divisor ?d_lowest ?d_check_count ?d_is_line ?d_trace ?d_spot ?d_led_to ?d_stands ?d_meeting ?d_finer ?d_doubled ?d_beside ?d_between ?d_parted ?d_with_whole_heights ?d_laid ?d_way ?d_laps ?d__law_climb ?d__law_heights ?d__law_whole ?d__law_spot ?d__law_moved ?d__law_alike ?d__law_finer_alike ?d__law_doubled_alike ?d__law_beside_alike ?d_law ?a_BadLine ?x_BadLine ?a_BadBottom ?x_BadBottom ?a_OffRoad ?x_OffRoad ?a_BadRow ?x_BadRow ?a_BadCount ?x_BadCount ?a_TooLong ?x_TooLong ?a_Road ?pg_Road ?hd_Road ?po_Road ?sa_Road ?mk_Road ?kc_Road ?m_Road___init__ ?m_Road_width ?m_Road_corners ?m_Road_ends ?m_Road_slope ?m_Road_on_road ?m_Road_at ?na_Road_heights ?g_WIDEST ?g_LONGEST_TRACE ?g_FARTHEST ?g_MOST_TAKEN ?g_MOST_CORNERS ?z_len ?z_abs ?z_range ?z_isinstance ?z_int ?z_bool ?z_list ?z_tuple ?z_min ?z_max ?z_sum ?z_zip ?z_enumerate ?z_all
  (case d__law_cell=>walk_at "def")
  (case d__law_pick=>walk_at "def")
  (case d_check_bottom=>walk_at "def")
  (case d_common_divisor=>walk_at "def")
  (case d_lowest=>walk_at "def")
  (case d_check_count=>walk_at "defD")
  (case d_is_line=>walk_at "def")
  (case d_trace=>walk_at "def")
  (case d_spot=>walk_at "def")
  (case d_led_to=>walk_at "def")
  (case d_stands=>walk_at "def")
  (case d_meeting=>walk_at "def")
  (case d_finer=>walk_at "def")
  (case d_doubled=>walk_at "def")
  (case d_beside=>walk_at "def")
  (case d_between=>walk_at "def")
  (case d_parted=>walk_at "def")
  (case d_with_whole_heights=>walk_at "def")
  (case d_laid=>walk_at "def")
  (case d_way=>walk_at "def")
  (case d_laps=>walk_at "def")
  (case d__law_climb=>walk_at "def")
  (case d__law_heights=>walk_at "def")
  (case d__law_whole=>walk_at "def")
  (case d__law_spot=>walk_at "def")
  (case d__law_moved=>walk_at "def")
  (case d__law_alike=>walk_at "def")
  (case d__law_finer_alike=>walk_at "def")
  (case d__law_doubled_alike=>walk_at "def")
  (case d__law_beside_alike=>walk_at "def")
  (case d_law=>walk_at "def")
  (case a_BadLine=>k_is)
  (case x_BadLine=>k_exc)
  (case a_BadBottom=>k_is)
  (case x_BadBottom=>k_exc)
  (case a_OffRoad=>k_is)
  (case x_OffRoad=>k_exc)
  (case a_BadRow=>k_is)
  (case x_BadRow=>k_exc)
  (case a_BadCount=>k_is)
  (case x_BadCount=>k_exc)
  (case a_TooLong=>k_is)
  (case x_TooLong=>k_exc)
  (case a_Road=>k_is)
  (case pg_Road=>k_is)
  (case hd_Road=>k_is)
  (case po_Road=>k_is)
  (case sa_Road=>k_is)
  (case mk_Road=>k_is)
  (case kc_Road=>k_is)
  (case m_Road___init__=>walk_at "meth")
  (case m_Road_width=>walk_at "meth")
  (case m_Road_corners=>walk_at "meth")
  (case m_Road_ends=>walk_at "meth")
  (case m_Road_slope=>walk_at "meth")
  (case m_Road_on_road=>walk_at "meth")
  (case m_Road_at=>walk_at "meth")
  (case na_Road_heights=>k_is)
  (case g_WIDEST=>k_is)
  (case g_LONGEST_TRACE=>k_is)
  (case g_FARTHEST=>k_is)
  (case g_MOST_TAKEN=>k_is)
  (case g_MOST_CORNERS=>k_is)
  (case z_len=>k_is)
  (case z_abs=>k_is)
  (case z_range=>k_is)
  (case z_isinstance=>k_is)
  (case z_int=>k_is)
  (case z_bool=>k_is)
  (case z_list=>k_is)
  (case z_tuple=>k_is)
  (case z_min=>k_is)
  (case z_max=>k_is)
  (case z_sum=>k_is)
  (case z_zip=>k_is)
  (case z_enumerate=>k_is)
  (case z_all=>k_is)
