import PyProof.Rows.All
import Wide.All
import OpenK.AllK
import Wide.FinOn
import Lean
import PyProof.EqAt
import PyProof.EqKinds
import PyProof.TupleCall
import PyProof.NeData
import KE.IntBitsLaws
import KE.KDictList
import PyProof.DictIter
import PyProof.DictItems
import PyProof.DictWalks
import PyProof.StrLoop
import KE.KPairComp
import PyProof.StrWalks
import KE.KDictOf
import PyProof.Rows.TupDisplay
import PyProof.DictCompW
import PySem.Challenge.RW_crookroad_k13_doors
set_option Elab.async false
set_option linter.all false
set_option maxRecDepth 100000
local macro_rules|`(tactic|lia)=>`(tactic|first|lia +splitIte|omega)
def aa:=@PySem.wpAny_bind
def ac:=@PySem.Heap.get?_push_of_some
def ae:=@PySem.Heap.lt_size
def af:=@Nat.le_refl
def ag:=@PySem.wpAny_pure
def ah:=@List.length_map
def ai:=@PySem.Heap.get?_push_size
def aj:=@Bool.false_ne_true
def ak:=@Option.some.inj
def al:=@Nat.ne_of_lt
def am:=@Nat.lt_of_lt_of_le
def ao:=@if_neg
def ap:=@List.mem_cons
def aq:=@PySem.W.mg_of
def ar:=@List.mem_append_right
def au:=@List.getElem?_eq_getElem
def av:=@if_pos
def aw:=@List.map_cons
def ax:=@List.lookup_cons
def ay:=@List.not_mem_nil
def az:=@List.size_toArray
def aA:=@beq_eq_false_iff_ne
def aB:=@List.mem_singleton
def aC:=@List.getD_eq_getElem?_getD
def aD:=@PySem.boot_len
def aE:=@Int.mul_le_mul_of_nonneg_left
def aF:=@PySem.wpAny_mono
def aG:=@Int.emod_lt_of_pos
def aH:=@PySem.W.mg_none_of
def aI:=@Nat.lt_irrefl
def aJ:=@Nat.zero_le
def aK:=@List.mem_cons_of_mem
def aL:=@decide_eq_false
def aM:=@PySem.Paired.length
def aN:=@List.length_cons
def aO:=@Array.length_toList
def aP:=@decide_eq_true
def aQ:=@Int.emod_nonneg
def aR:=@PySem.F.slot_dict_keyiterator_next
def aS:=@List.length_append
def aT:=@Ne.symm
def aU:=@List.getElem?_map
def aV:=@PySem.PassesOwn.leaving
def aW:=@List.getElem?_eq_some_iff
def aX:=@Array.getElem?_eq_getElem
def aY:=@Int.mul_le_mul_of_nonneg_right
def aZ:=@Nat.le_trans
def ba:=@Nat.lt_trans
def bb:=@PySem.wpAny_typeNameOfWhole_keyiter
def bc:=@List.mem_append
def bd:=@List.mem_map
def be:=@Bool.and_eq_true
def bf:=@List.getElem?_append_right
def bh:=@PySem.F.excBase_ValueError
def bi:=@Int.mul_nonneg
def bj:=@PySem.wpAny_passesOwn
def bn:=@Bool.eq_iff_iff
def bp:=@List.map_append
def bq:=@List.find?_cons
def br:=@PySem.wpAny_newObj_type
def bt:=@List.length_range
def bu:=@PySem.wpAny_typeNameOf_keyiter
def bv:=@PySem.mem_of_lookup
def bw:=@List.mem_range
def bx:=@PySem.F.plainAttrs_list
def bz:=@Nat.le_of_lt
def bA:=@PySem.wpAny_Call_Name_kw
def bB:=@Int.lt_or_le
def bC:=@PySem.tupleKind_room_in1
def bD:=@PyProof.Rows.boot_list
def bE:=@List.nodup_cons
def bF:=@Int.mul_ediv_mul_of_pos_left
def bG:=@PySem.wpAny_truthy_bool
def bH:=@List.mem_append_left
def bI:=@List.length_take
def bJ:=@List.filterMap_cons
def bK:=@PySem.F.slot_list_append
def bL:=@PySem.F.type_list_append
def bM:=@PySem.wpAny_execs_nil
def bN:=@List.append_nil
def bO:=@List.range_succ
def bP:=@PySem.wpAny_callSpecial?_slot
def bQ:=@List.map_nil
def bR:=@PySem.Calls.callWith_builtin
def bS:=@Int.toNat_natCast
def bT:=@Int.mul_comm
def bU:=@List.nodup_nil
def bV:=@PySem.wpAny_dictEntries
def bW:=@Array.getElem?_eq_none
def bX:=@PySem.F.slot_dict_get
def bY:=@PyProof.Rows.boot_min
def bZ:=@PyProof.Rows.boot_max
def ca:=@PySem.F.args_dict_keyiterator_next_1
def cb:=@congrArg
def ce:=@List.mem_of_getElem?
def cf:=@PySem.Calls.evalArgs_plain
def cg:=@Int.mul_ediv_cancel'
def ci:=@PySem.F.entry_dict_keyiterator_next
def cj:=@List.length_nil
def ck:=@PySem.W.plainGet_of
def cm:=@PyProof.Rows.callWith_type1
def cn:=@PySem.call_meetsIn
def cu:=@Array.getD_eq_getD_getElem?
def cv:=@List.mem_cons_self
def cx:=@PyProof.Rows.assignInOrder_cons
def cy:=@List.mem_filterMap
def cz:=@PySem.Heap.size_push
def cA:=@Nat.lt_of_le_of_lt
def cB:=@PySem.W.callWith_K
def cC:=@Int.mul_lt_mul_of_pos_left
def cD:=@Array.getElem?_eq_some_iff
def cE:=@or_false
def cF:=@List.getElem?_append_left
def cG:=@PySem.F.slot_dict_delitem
def cH:=@Option.isSome_map
def cI:=@PySem.wpAny_standAt
def cK:=@List.any_cons
def cL:=@PySem.wpAny_holding
def cM:=@PySem.wpAny_execs_cons
def cN:=@Int.natCast_dvd_natCast
def cO:=@List.all_eq_true
def cP:=@PySem.F.args_dict_get_2
def cQ:=@PySem.F.plainAttrs_dict
def cR:=@PySem.wpAny_call_entry
def cS:=@PySem.F.slot_dict_items
def cT:=@beq_iff_eq
def cU:=@PySem.codeAny_mono
def cV:=@List.of_mem_zip
def cW:=@Int.natCast_mul
def cX:=@PySem.wpAny_dictEpoch
def cY:=@if_false
def cZ:=@Int.mul_le_mul
def da:=@Int.mul_assoc
section
open PySem PySem.Spec PyProof.Rows
abbrev Aa:=PySem.W.Frag
abbrev Ab:=PySem.Shared
abbrev Ac:=PySem.Program
abbrev Ad:=PySem.FuncData
abbrev Ae:=Around
abbrev Af:=SortSt
abbrev Ag:=Value
abbrev Ah:=World
abbrev Ai:=Keyed
abbrev Aj:=Addr
end
namespace L2
theorem exI {α:Sort _}{A K:α→Prop}{v:α}(e:A v)(h:K v):∃x,A x∧K x:=⟨v,e,h⟩
theorem wf {α β:Sort _}{A:α→Prop}{B:β→Prop}{K:α→β→Prop}{u:α}{v:β}(a:A u)(b:B v)(h:K u v):∃x y,A x∧B y∧K x y:=⟨u,v,a,b,h⟩
theorem exX {α β γ δ:Sort _}{A:α→Prop}{B:γ→Prop}{C:α→β→Prop}{D:β→γ→δ→Prop}{K:δ→Prop}{p:α}{xs:β}{i:γ}{v:δ}(a:A p)(b:B i)(c:C p xs)(d:D xs i v)(h:K v):∃p xs i v,A p∧B i∧C p xs∧D xs i v∧K v:=⟨p,xs,i,v,a,b,c,d,h⟩
end L2
namespace L2
open PySem PySem.Spec PyProof.Rows
abbrev Key:=Sum Int Str
def Q2:Key→Ag→Bool
 |.inl k,v=>Value.isInt k v
 |.inr x,v=>Value.isStrOf x v
def keyH (w:Ah):Key→Int
 |.inl k=>hashInt k
 |.inr x=>hashStr w x
theorem xn:∀ {k:Key} {v:Ag},Q2 k v=true→(∃i t,k=Sum.inl i∧v=Value.int i t)∨(∃x t,k=Sum.inr x∧v=Value.str x t)
 |.inl i,v,h=>by
  obtain ⟨t,e⟩:=Value.isInt_shape (k:=i) (v:=v) h
  exact .inl ⟨i,t,rfl,e⟩
 |.inr x,v,h=>by
  obtain ⟨t,e⟩:=Value.isStrOf_shape (x:=x) (v:=v) h
  exact .inr ⟨x,t,rfl,e⟩
theorem qx3 (i:Int)(t:Tok):Q2 (.inl i) (.int i t)=true:=by simp [Q2,Value.isInt]
theorem qxh (x:Str)(t:Tok):Q2 (.inr x) (.str x t)=true:=by simp [Q2,Value.isStrOf]
theorem key_ll (a b:Int):decide ((Sum.inl a:Key)=Sum.inl b)=(a==b):=by
 by_cases e:a=b
 ·subst e;simp
 ·have h:¬ (Sum.inl a:Key)=Sum.inl b:=λq=>e (Sum.inl.inj q)
  rw [aL h]
  exact (aA.mpr e).symm
theorem key_rr (a b:Str):decide ((Sum.inr a:Key)=Sum.inr b)=decide (a=b):=by
 by_cases e:a=b
 ·subst e;simp
 ·have h:¬ (Sum.inr a:Key)=Sum.inr b:=λq=>e (Sum.inr.inj q)
  rw [aL h,aL e]
theorem key_lr (a:Int)(b:Str):decide ((Sum.inl a:Key)=Sum.inr b)=false:=aL (λq=>nomatch q)
theorem key_rl (a:Str)(b:Int):decide ((Sum.inr a:Key)=Sum.inl b)=false:=aL (λq=>nomatch q)
def xj (prog:Ac)(w:Ah):PySem.KeyKind prog w Key where
 is:=Q2
 hash:=keyH w
 inj:=λv a b ha hb=>by
  rcases xn ha with ⟨i,t,rfl,rfl⟩|⟨x,t,rfl,rfl⟩
  ·rcases xn hb with ⟨j,u,rfl,e⟩|⟨y,u,rfl,e⟩
   ·injection e with e1 _;rw [e1]
   ·exact nomatch e
  ·rcases xn hb with ⟨j,u,rfl,e⟩|⟨y,u,rfl,e⟩
   ·exact nomatch e
   ·injection e with e1 _;rw [e1]
 byValue:=λk v h=>by
  rcases xn h with ⟨i,t,rfl,rfl⟩|⟨x,t,rfl,rfl⟩ <;> rfl
 pyHash:=λhv h=>by
  rcases xn hv with ⟨i,t,rfl,rfl⟩|⟨x,t,rfl,rfl⟩
  ·exact wpAny_pyHash_int h
  ·exact wpAny_pyHash_str h
 eqBool:=λhu hv h=>by
  rcases xn hu with ⟨i,t,rfl,rfl⟩|⟨x,t,rfl,rfl⟩
  ·rcases xn hv with ⟨j,u,rfl,rfl⟩|⟨y,u,rfl,rfl⟩
   ·rw [key_ll] at h;exact wpAny_eqBool_int h
   ·rw [key_lr] at h;exact SeqAt.EqAt.int_str i t y u _ _ _ _ h
  ·rcases xn hv with ⟨j,u,rfl,rfl⟩|⟨y,u,rfl,rfl⟩
   ·rw [key_rl] at h;exact SeqAt.EqAt.str_int x t j u _ _ _ _ h
   ·rw [key_rr] at h;exact wpAny_eqBool_str h
 «strs»:=λk x t v h=>by
  rcases xn h with ⟨i,u,rfl,e⟩|⟨y,u,rfl,e⟩
  ·exact nomatch e
  ·injection e with e1 _
   subst e1
   cases v <;> rfl
theorem Y7 (prog:Ac)(w:Ah)(i:Int)(t:Tok):(xj prog w).is (.inl i) (.int i t)=true:=qx3 i t
theorem Y5 (prog:Ac)(w:Ah)(x:Str)(t:Tok):(xj prog w).is (.inr x) (.str x t)=true:=qxh x t
inductive V where
 |non|bl (b:Bool)|int (i:Int)|str (x:Str)|byt (b:Array UInt8)|flt (b:UInt64)|ref (a:Aj)|ty (n:String)
 deriving DecidableEq
def xx:V→Ag→Prop
 |.non,u=>u=Value.none
 |.bl b,u=>u=Value.bool b
 |.int i,u=>∃t,u=Value.int i t
 |.str x,u=>∃t,u=Value.str x t
 |.byt b,u=>∃t,u=Value.bytes b t
 |.flt b,u=>∃t,u=Value.float b t
 |.ref a,u=>u=Value.ref a
 |.ty n,u=>u=Value.type n
abbrev Vals:List V→List Ag→Prop:=Paired xx
theorem Vals.length {xs:List V}{us:List Ag}(r:Vals xs us):xs.length=us.length:=aM r
theorem Vals.get:∀ {xs:List V} {us:List Ag} {i:Nat} {x:V},Vals xs us→xs[i]?=some x→∃u,us[i]?=some u∧xx x u
 |_,_,_,_,.nil,e=>by simp at e
 |_,_,0,_,.cons r _,e=>by simp at e;subst e;exact ⟨_,rfl,r⟩
 |_,_,i+1,x,.cons _ t,e=>by
  obtain ⟨u,h1,h2⟩:=Vals.get (i:=i) (x:=x) t (by simpa using e)
  exact ⟨u,by simpa using h1,h2⟩
theorem Vals.append:∀ {xs ys:List V} {us ws:List Ag},Vals xs us→Vals ys ws→Vals (xs++ys) (us++ws)
 |_,_,_,_,.nil,s=>s
 |_,_,_,_,.cons r t,s=>.cons r (Vals.append t s)
theorem Vals.take:∀ {xs:List V} {us:List Ag} (n:Nat),Vals xs us→Vals (xs.take n) (us.take n)
 |_,_,0,_=>.nil
 |_,_,_+1,.nil=>.nil
 |_,_,n+1,.cons r t=>.cons r (Vals.take n t)
theorem Vals.drop:∀ {xs:List V} {us:List Ag} (n:Nat),Vals xs us→Vals (xs.drop n) (us.drop n)
 |_,_,0,r=>r
 |_,_,_+1,.nil=>.nil
 |_,_,n+1,.cons _ t=>Vals.drop n t
def RelO:Option V→Option Ag→Prop
 |some v,some u=>xx v u
 |none,none=>True
 |_,_=>False
def KV {κ:Type}:List (κ×V)→List (κ×Ag)→Prop:=Paired λ(p:κ×V) (q:κ×Ag)=>p.1=q.1∧xx p.2 q.2
def kV:Key→V
 |.inl i=>.int i
 |.inr x=>.str x
inductive HO where
 |lst (xs:List V)
 |tup (xs:List V)
 |dK (kvs:List (Key×V))|dT (kvs:List (List Key×V))
 |set (S:Int→Bool) (n:Nat)
 |ins (C dx:Aj) (fs:List (Str×V))
 |own (x:Aj)
 |xd (fs:List (Str×V))
 |met (f x:Aj)
 |rng (lo hi:Int)
 |frz (o:Obj) (u:HO)
 |tbl (ps:Array Ag)
 |ext (φ:Heap→Prop)
abbrev Hp:=Aj→Option HO
def upd (H:Hp)(a:Aj)(o:HO):Hp:=λb=>if b=a then some o else H b
theorem q9 {H:Hp}{a:Aj}{o:HO}:upd H a o a=some o:=by unfold upd;rw [av rfl]
theorem q8 {H:Hp}{a b:Aj}{o:HO}(h:b≠a):upd H a o b=H b:=by unfold upd;rw [ao h]
theorem yc {H:Hp}{a:Aj}{o u:HO}:upd (upd H a o) a u=upd H a u:=by
 funext b;unfold upd;split <;> rfl
theorem ne_of {H:Hp}{a b:Aj}{o u:HO}(h:H a=some o)(h':H b=some u)(d:o≠u):a≠b:=by
 intro e;subst e;rw [h] at h';exact d (ak h')
theorem qd {H:Hp}{a b:Aj}{o:HO}(h:H a=some o)(h':H b=none):a≠b:=by
 intro e;subst e;rw [h] at h';cases h'
section
variable (P:Ac)(w:Ah)
def ObjOk (H:Hp)(h:Heap)(a:Aj):HO→Prop
 |.lst xs=>xs.length≤sizeLine∧∃(its:List Ag) (n:Nat),Vals xs its∧h.get? a=some { cls:=.type "list",data:=.seq its.toArray n }
 |.tup xs=>xs.length≤sizeLine∧∃its:List Ag,Vals xs its∧IsTup h a its.toArray
 |.dK kvs=>kvs.length≤sizeLine∧(a==sysModules)=false∧∃vs,KV kvs vs∧h.DictOf (xj P w) a vs
 |.dT kvs=>kvs.length≤sizeLine∧(a==sysModules)=false∧∃xs:List (List Key×Aj×Ag),
   Paired (λ(p:List Key×V) (q:List Key×Aj×Ag)=>p.1=q.1∧H q.2.1=some (.tup (p.1.map kV))∧xx p.2 q.2.2) kvs xs ∧
   ∃o es ep,h.get? a=some o∧o.ExactDict∧o.data=.dict es ep∧es.toList=xs.map (entryOfKey (tupleKind (xj P w)))∧(xs.map (·.1)).Nodup
 |.set S n=>h.SetOf (intKind P w) a S n
 |.ins C dx fs=>H dx=some (.own a)∧fs.length≤1000∧dx≠a∧h.get? a=some (PySem.W.instObj C dx) ∧
   ∃mA,h.Ns1 dx mA∧(∀f,RelO (fs.lookup f) (mA f))∧PySem.Within mA (fs.map (·.1))
 |.own _=>∃o,h.get? a=some o
 |.xd fs=>∃mA,h.Ns1 a mA∧∀f,RelO (fs.lookup f) (mA f)
 |.rng lo hi=>∃t u v,h.get? a=some { cls:=.type "range",data:=.fields #[.int lo t,.int hi u,.int 1 v] }
 |.frz o u=>h.get? a=some o∧ObjOk H h a u
 |.tbl ps=>h.get? a=some { cls:=.none,data:=.fields ps }
 |.met f x=>h.get? a=some (PySem.W.methodObj (.ref f) (.ref x))
 |.ext φ=>φ h∧(∃o,h.get? a=some o)∧∀h1 h2:Heap,φ h1→(∀o,h1.get? a=some o→h2.get? a=some o)→φ h2
def HOk (H:Hp)(h:Heap):Prop:=∀a o,H a=some o→ObjOk P w H h a o
end
section
variable {P:Ac}{w:Ah}{H H':Hp}{h h':Heap}{a:Aj}{o:HO}
theorem ObjOk.lt (x:ObjOk P w H h a o):a<h.objs.size:=by
 cases o with
 |lst xs=>obtain ⟨_,_,_,_,e⟩:=x;exact ae e
 |tup xs=>obtain ⟨_,_,_,p⟩:=x;exact p.lt
 |dK kvs=>obtain ⟨_,_,_,_,o,_,_,e,_⟩:=x;exact ae e
 |dT kvs=>obtain ⟨_,_,_,_,o,_,_,e,_⟩:=x;exact ae e
 |set S n=>obtain ⟨o,_,_,_,e,_⟩:=x;exact ae e
 |ins C dx fs=>obtain ⟨_,_,_,e,_⟩:=x;exact ae e
 |own y=>obtain ⟨_,e⟩:=x;exact ae e
 |xd fs=>obtain ⟨_,⟨_,_,_,e,_⟩,_⟩:=x;exact ae e
 |rng lo hi=>obtain ⟨_,_,_,e⟩:=x;exact ae e
 |frz ob u=>obtain ⟨e,_⟩:=x;exact ae e
 |tbl ps=>exact ae (show h.get? a=some _ from x)
 |met f y=>exact ae (show h.get? a=some _ from x)
 |ext φ=>obtain ⟨_,⟨_,e⟩,_⟩:=x;exact ae e
theorem Paired.mapP {α β:Type}{F G:α→β→Prop}:∀ {l₁:List α} {l₂:List β},Paired F l₁ l₂→(∀a b,F a b→G a b)→Paired G l₁ l₂
 |_,_,.nil,_=>.nil
 |_,_,.cons r t,f=>.cons (f _ _ r) (Paired.mapP t f)
theorem ObjOk.stay (x:ObjOk P w H h a o)(k:∀b u,(b=a∨H b=some (.own a))→h.get? b=some u→h'.get? b=some u)
  (ho:∀b,H b=some (.own a)→H' b=some (.own a)) (ht:∀b xs,H b=some (.tup xs)→H' b=some (.tup xs)):ObjOk P w H' h' a o:=by
 induction o with
 |lst xs=>obtain ⟨z,its,n,r,e⟩:=x;exact ⟨z,its,n,r,k _ _ (.inl rfl) e⟩
 |tup xs=>obtain ⟨z,its,r,ob,e,c⟩:=x;exact ⟨z,its,r,ob,k _ _ (.inl rfl) e,c⟩
 |dK kvs=>obtain ⟨z,y,vs,r,ob,es,ep,e,c⟩:=x;exact ⟨z,y,vs,r,ob,es,ep,k _ _ (.inl rfl) e,c⟩
 |dT kvs =>
  obtain ⟨z,y,xs,r,ob,es,ep,e,c⟩:=x
  exact ⟨z,y,xs,Paired.mapP r λp q z=>⟨z.1,ht _ _ z.2.1,z.2.2⟩,ob,es,ep,k _ _ (.inl rfl) e,c⟩
 |set S n=>obtain ⟨ob,es,ep,t,e,c⟩:=x;exact ⟨ob,es,ep,t,k _ _ (.inl rfl) e,c⟩
 |ins C dx fs =>
  obtain ⟨d,z,ne,e,mA,⟨od,es,ep,e2,c⟩,r⟩:=x
  exact ⟨ho _ d,z,ne,k _ _ (.inl rfl) e,mA,⟨od,es,ep,k _ _ (.inr d) e2,c⟩,r⟩
 |own y=>obtain ⟨ob,e⟩:=x;exact ⟨ob,k _ _ (.inl rfl) e⟩
 |xd fs=>obtain ⟨mA,⟨od,es,ep,e,c⟩,r⟩:=x;exact ⟨mA,⟨od,es,ep,k _ _ (.inl rfl) e,c⟩,r⟩
 |rng lo hi=>obtain ⟨t,u,v,e⟩:=x;exact ⟨t,u,v,k _ _ (.inl rfl) e⟩
 |frz ob u ih=>obtain ⟨e,q⟩:=x;exact ⟨k _ _ (.inl rfl) e,ih q⟩
 |tbl ps =>
  have e:h.get? a=some { cls:=.none,data:=.fields ps }:=x
  show h'.get? a=some { cls:=.none,data:=.fields ps }
  exact k a _ (.inl rfl) e
 |met f y =>
  have e:h.get? a=some (PySem.W.methodObj (.ref f) (.ref y)):=x
  show h'.get? a=some (PySem.W.methodObj (.ref f) (.ref y))
  exact k a _ (.inl rfl) e
 |ext φ=>obtain ⟨p,⟨o,e⟩,st⟩:=x;exact ⟨st _ _ p λo q=>k _ _ (.inl rfl) q,⟨o,k _ _ (.inl rfl) e⟩,st⟩
theorem HOk.lt (x:HOk P w H h)(e:H a=some o):a<h.objs.size:=(x a o e).lt
theorem HOk.fresh (x:HOk P w H h)(e:h.objs.size≤a):H a=none:=by
 cases q:H a with
 |none=>rfl
 |some u=>exact absurd (am (x.lt q) e) (aI _)
theorem HOk.kept (x:HOk P w H h)(k:∀b u,h.get? b=some u→h'.get? b=some u):HOk P w H h':=λa o e =>
 (x a o e).stay (λb u _ q=>k b u q) (λ_ q=>q) λ_ _ q=>q
theorem HOk.laid (x:HOk P w H h)(k:∀b u,h.get? b=some u→h'.get? b=some u)(hp:h.objs.size≤a)(new:ObjOk P w (upd H a o) h' a o):HOk P w (upd H a o) h':=λb u e=>by
 have hn:=x.fresh hp
 by_cases hb:b=a
 ·subst hb;rw [q9] at e;cases e;exact new
 ·rw [q8 hb] at e
  exact (x b u e).stay (λc v _ q=>k c v q) (λc q=>by rw [q8 (qd q hn)];exact q) λc xs q=>by rw [q8 (qd q hn)];exact q
end
def Rd (H:Hp)(a:Aj)(u:HO):Prop:=H a=some u∨∃o,H a=some (.frz o u)
theorem Rd.ok {P:Ac}{w:Ah}{H:Hp}{h:Heap}{a:Aj}{u:HO}(r:Rd H a u)(x:HOk P w H h):ObjOk P w H h a u:=by
 rcases r with r|⟨o,r⟩
 ·exact x a u r
 ·obtain ⟨_,q⟩:=x a _ r
  exact q
def Mut:Option HO→Prop
 |some (.lst _)=>True
 |some (.dK _)=>True
 |some (.dT _)=>True
 |some (.set _ _)=>True
 |some (.ins _ _ _)=>True
 |some (.ext _)=>True
 |_=>False
section
variable {P:Ac}{w:Ah}{H:Hp}{h h':Heap}{x e:Aj}{o':HO}
theorem HOk.write (ok:HOk P w H h)(mu:Mut (H x))(he:e=x∨H e=some (.own x))(k:∀b u,b≠e→h.get? b=some u→h'.get? b=some u)(heo:∃u,h'.get? e=some u)
  (new:ObjOk P w (upd H x o') h' x o'):HOk P w (upd H x o') h':=λb u q=>by
 have nown:∀c y,H c=some (.own y)→c≠x:=λc y r z=>by subst z;rw [r] at mu;exact mu
 have ntup:∀c xs,H c=some (.tup xs)→c≠x:=λc xs r z=>by subst z;rw [r] at mu;exact mu
 by_cases hb:b=x
 ·subst hb;rw [q9] at q;cases q;exact new
 ·rw [q8 hb] at q
  by_cases hbe:b=e
  ·have q':H b=some (.own x):=by
    rcases he with z|z
    ·exact absurd (hbe.trans z) hb
    ·rw [hbe];exact z
   rw [q] at q';cases q'
   obtain ⟨v,hv⟩:=heo
   exact ⟨v,by rw [hbe];exact hv⟩
  ·refine (ok b u q).stay (λc v hc r=>k c v ?_ r) (λc r=>by rw [q8 (nown c b r)];exact r) λc xs r=>by rw [q8 (ntup c xs r)];exact r
   rcases hc with rfl|hc
   ·exact hbe
   ·rintro rfl
    rcases he with z|z
    ·exact nown c b hc z
    ·rw [hc] at z;cases z;exact hb rfl
end
structure Un (fs ex:List Aj)(H H':Hp)(h h':Heap):Prop where
 keep:∀b o,h.get? b=some o→H b=none→b∉fs→b∉ex→h'.get? b=some o
 slot:∀b o,h.get? b=some o→H b=none→b∈fs→b∉ex→∃sl,h'.get? b=some { o with slots:=sl }
 free:∀b o,h.get? b=some o→H b=none→b∉ex→H' b=none
 there:∀b o,h.get? b=some o→b∉ex→∃o',h'.get? b=some o'
 tups:∀b xs,H b=some (.tup xs)→H' b=some (.tup xs)
 frzs:∀b o u,H b=some (.frz o u)→H' b=some (.frz o u)
 tbls:∀b ps,H b=some (.tbl ps)→∃more,H' b=some (.tbl (ps++more))
section
variable {fs fs' ex ex':List Aj}{H H1 H2:Hp}{h h1 h2 h':Heap}{a x e:Aj}{o:HO}
theorem Un.any (u:Un fs ex H H1 h h1){b:Aj}{ob:Obj}(q:h.get? b=some ob)(n:H b=none)(hx:b∉ex):∃sl,h1.get? b=some { ob with slots:=sl }:=by
 by_cases hb:b∈fs
 ·exact u.slot b ob q n hb hx
 ·exact ⟨ob.slots,u.keep b ob q n hb hx⟩
theorem Un.kept (k:∀b u,h.get? b=some u→h'.get? b=some u):Un fs ex H H h h' :=
 ⟨λb ob q _ _ _=>k b ob q,λb ob q _ _ _=>⟨ob.slots,k b ob q⟩,λ_ _ _ n _=>n,λb ob q _=>⟨ob,k b ob q⟩,λ_ _ q=>q,λ_ _ _ q=>q,λ_ ps q=>⟨#[],by rw [q];simp⟩⟩
theorem Un.refl:Un fs ex H H h h:=Un.kept λ_ _ q=>q
theorem Un.laid (k:∀b u,h.get? b=some u→h'.get? b=some u)(hp:h.objs.size≤a)(hn:H a=none):Un fs ex H (upd H a o) h h' where
 keep:=λb u q _ _ _=>k b u q
 slot:=λb u q _ _ _=>⟨u.slots,k b u q⟩
 free:=λb u q n _=>by rw [q8 (al (am (ae q) hp))];exact n
 there:=λb u q _=>⟨u,k b u q⟩
 tups:=λb xs q=>by rw [q8 (qd q hn)];exact q
 frzs:=λb u xs q=>by rw [q8 (qd q hn)];exact q
 tbls:=λb ps q=>⟨#[],by rw [q8 (qd q hn),q];simp⟩
theorem Un.write (mu:Mut (H x))(he:e=x∨H e=some (.own x))(k:∀b u,b≠e→h.get? b=some u→h'.get? b=some u)(heo:∃u,h'.get? e=some u):Un fs ex H (upd H x o) h h':=by
 have hx:∀b,H b=none→b≠x:=λb n z=>by subst z;rw [n] at mu;exact mu
 have hb:∀b,H b=none→b≠e:=λb n z=>by
  subst z
  rcases he with r|r
  ·exact hx b n r
  ·rw [n] at r;cases r
 have hm:∀b u,H b=some u→¬ Mut (some u)→b≠x:=λb u q nm z=>by subst z;rw [q] at mu;exact nm mu
 refine ⟨λb u q n _ _=>k b u (hb b n) q,λb u q n _ _=>⟨u.slots,k b u (hb b n) q⟩,λb u q n _=>by rw [q8 (hx b n)];exact n,λb u q _=>?_,
  λb xs q=>by rw [q8 (hm b _ q λz=>z)];exact q,λb u xs q=>by rw [q8 (hm b _ q λz=>z)];exact q,λb ps q=>⟨#[],by rw [q8 (hm b _ q λz=>z),q];simp⟩⟩
 by_cases hbe:b=e
 ·subst hbe;exact heo
 ·exact ⟨u,k b u hbe q⟩
end
def trk (h:Heap)(H:Hp):List Aj:=(List.range h.objs.size).filter λa=>(H a).isSome
def Yn (h:Heap)(H:Hp):Heap:=PySem.W.hideAll h (trk h H)
theorem qxd (h:Heap)(H:Hp):(Yn h H).objs.size=h.objs.size:=PySem.W.hideAll_size _ _
theorem qv1 {h:Heap}{H:Hp}{b:Aj}{o:Obj}(e:h.get? b=some o)(n:H b=none):(Yn h H).get? b=some o :=
 PySem.W.hideAll_get _ e λhm=>by
  have q:(H b).isSome=true:=(List.mem_filter.mp hm).2
  rw [n] at q;simp at q
theorem qyc {h:Heap}{H:Hp}{b:Aj}{o:Obj}(e:(Yn h H).get? b=some o):h.get? b=some o∧H b=none:=by
 have e':h.get? b=some o:=PySem.W.of_hideAll (trk h H) e
 refine ⟨e',?_⟩
 cases q:H b with
 |none=>rfl
 |some x =>
  have hm:b∈trk h H:=List.mem_filter.mpr ⟨bw.mpr (ae e'),by simp [q]⟩
  have z:(Yn h H).get? b=none:=PySem.W.hideAll_none (trk h H) hm
  rw [z] at e;cases e
def qjs (g h:Heap)(L:Aj):List (Aj×Obj):=(List.range h.objs.size).filterMap λa=>if a=L∨(g.get? a).isSome=true then none else (h.get? a).map λo=>(a,o)
def ju (g h:Heap)(L d:Aj):List (Aj×Obj):=(qjs g h L).filter λp=>decide (p.1≠d)
structure Mod (K:Aa)(mg:Str→Option Ag)(base:Heap):Prop where
 kin:K.In base
 glob:base.Ns mainGlobals mg
 blt:∃mb,base.Ns builtinsNs mb∧∀x:Str,x ≠ "__name__" → mb x=bootBuiltins x
 nolimit:base.NoLimit
structure Cx where
 prog:Ac
 w:Ah
 K:Aa
 mg:Str→Option Ag
 base:Heap
 A:Ae
 N:List Str
 s₀:Ab
 H₀:Hp
 env:Env
 outer:List Env
 stack:List Env
 ex:List Aj
 fn:Str→Bool
 calm:Bool
 pn:List (Aj×Obj)
 xe:Ag→Ab→Prop
def frs (l:List Env):List Aj:=l.filterMap (·.frame)
abbrev Cx.fs (X:Cx):List Aj:=frs X.outer
def Vis (sc:Scope)(x:Str):Prop:=sc.names.lookup x=some .local∨sc.names.lookup x=some .cell∨sc.names.lookup x=some .free
def Loc (sc:Scope)(x:Str):Prop:=sc.names.lookup x=some .local∨sc.names.lookup x=some .cell
def Look (env:Env)(h:Heap)(m:Str→Option Ag)(x:Str)(u:Ag):Prop :=
 (env.kindOf x=some .local∧m x=some u)∨((env.kindOf x=some .cell∨env.kindOf x=some .free)∧∃c,env.cells.lookup x=some c∧h.IsCell c (some u))
structure Cx.Ok (X:Cx):Prop where
 mod:Mod X.K X.mg X.base
 kind:X.env.scope.kind=.function
 glob:X.env.globals=mainGlobals
 blt:X.env.builtins=builtinsNs
 above:X.s₀.heap.objs.size≤X.env.locals
 inj:∀x y c,X.env.cells.lookup x=some c→X.env.cells.lookup y=some c→x=y
 has:∀x,(X.env.kindOf x=some .cell∨X.env.kindOf x=some .free)→∃c,X.env.cells.lookup x=some c
 cab:∀x c,X.fn x=true→X.env.cells.lookup x=some c→X.s₀.heap.objs.size≤c
 hd:X.calm=true→X.A.handled=none
 frames:X.A.frames=some X.stack
 stk:X.stack=X.outer∨(X.stack=X.env::X.outer∧X.env.frame=some X.env.locals)
 exf:∀b∈X.ex,b≠X.env.locals∧∀x c,X.env.cells.lookup x=some c→c≠b
 bs:∀b o,X.base.get? b=some o→X.s₀.heap.get? b=some o∧X.H₀ b=none
 bsz:X.base.objs.size≤X.s₀.heap.objs.size
 noex:∀b o,X.base.get? b=some o→b∉X.ex
 exfs:∀b∈X.ex,b∉X.fs
 funs:X.s₀.heap.FunFrames X.base X.outer
 frf:∀b∈X.fs,X.H₀ b=none
structure Inv (X:Cx)(pins:List (Aj×Obj))(σ:List (Option V))(H:Hp)(s:Ab):Prop where
 ok:X.Ok
 os:s.os=X.s₀.os
 bare:AllBare s.gens
 base:Un X.fs X.ex X.H₀ H X.s₀.heap s.heap
 loc:∃m,s.heap.Ns X.env.locals m∧∀(i:Nat) (x:Str) (v:V),X.N[i]?=some x→σ[i]?=some (some v)→Vis X.env.scope x→∃u,xx v u∧Look X.env s.heap m x u
 cell:∀x c,X.env.cells.lookup x=some c→∃v,s.heap.IsCell c v
 free:H X.env.locals=none
 freeC:∀x c,X.env.cells.lookup x=some c→H c=none
 pin:∀p∈X.pn++pins,s.heap.get? p.1=some p.2∧H p.1=none∧p.1≠X.env.locals∧p.1∉X.fs∧∀v,p.2.data≠.cell v
 hok:HOk X.prog X.w H s.heap
 len:σ.length=X.N.length
section
variable {X:Cx}{pins:List (Aj×Obj)}{σ:List (Option V)}{H H':Hp}{s:Ab}{h':Heap}
theorem Cx.Ok.nofr (ok:X.Ok){b:Aj}{o:Obj}(e:X.base.get? b=some o):b∉X.fs:=λhb=>by
 have:=(ok.funs.mem hb).1
 rw [e] at this;cases this
theorem Inv.bs (I:Inv X pins σ H s):∀b o,X.base.get? b=some o→s.heap.get? b=some o∧H b=none:=λb o e =>
 ⟨I.base.keep b o (I.ok.bs b o e).1 (I.ok.bs b o e).2 (I.ok.nofr e) (I.ok.noex b o e),I.base.free b o (I.ok.bs b o e).1 (I.ok.bs b o e).2 (I.ok.noex b o e)⟩
theorem Inv.bk (I:Inv X pins σ H s):∀b o,X.base.get? b=some o→s.heap.get? b=some o:=λb o e=>(I.bs b o e).1
theorem Inv.mod (I:Inv X pins σ H s):Mod X.K X.mg X.base:=I.ok.mod
theorem Inv.kIn (I:Inv X pins σ H s):X.K.In s.heap:=I.ok.mod.kin.keeps I.bk
theorem Inv.lt (I:Inv X pins σ H s):X.env.locals<s.heap.objs.size:=let ⟨_,hn,_⟩:=I.loc;hn.lt
theorem Inv.sz (I:Inv X pins σ H s):X.s₀.heap.objs.size≤s.heap.objs.size:=aZ I.ok.above (bz I.lt)
theorem Inv.nofs (I:Inv X pins σ H s){a:Aj}(h:s.heap.objs.size≤a):a∉X.fs:=λhb=>by
 obtain ⟨_,o,ho,_⟩:=I.ok.funs.mem hb
 exact absurd (am (ae ho) (aZ I.sz h)) (aI _)
theorem Inv.cne (I:Inv X pins σ H s):∀x c,X.env.cells.lookup x=some c→c≠X.env.locals:=λx c e z=>by
 obtain ⟨v,o,ho,hd⟩:=I.cell x c e
 obtain ⟨m,⟨o',es,ep,ho',hd',_⟩,_⟩:=I.loc
 rw [z,ho'] at ho;cases ho;rw [hd'] at hd;cases hd
theorem Inv.funs (I:Inv X pins σ H s):s.heap.FunFrames X.base X.outer:=by
 have all:∀(l:List Env),(∀b∈frs l,b∈X.fs)→X.s₀.heap.FunFrames X.base l→s.heap.FunFrames X.base l:=by
  intro l
  induction l with
  |nil=>intro _ _;trivial
  |cons env r ih =>
   intro hs hl
   obtain ⟨hk,⟨L,o,hf,hn,ho,hd⟩,hr⟩:=hl
   have hL:L∈X.fs:=hs L (by unfold frs;rw [bJ,hf];exact cv)
   obtain ⟨sl,e⟩:=I.base.slot L o ho (I.ok.frf L hL) hL λz=>I.ok.exfs L z hL
   exact ⟨hk,⟨L,_,hf,hn,e,hd⟩,ih (λb hb=>hs b (by unfold frs;rw [bJ,hf];exact aK _ hb)) hr⟩
 exact all X.outer (λ_ hb=>hb) I.ok.funs
theorem Inv.stack (I:Inv X pins σ H s):s.heap.FunFrames X.base X.stack:=by
 rcases I.ok.stk with e|⟨e,hf⟩
 ·rw [e];exact I.funs
 ·rw [e]
  obtain ⟨m,hn,_⟩:=I.loc
  refine .cons (by rw [I.ok.kind];decide) hf hn ?_ I.funs
  exact Heap.get?_none_of_le (aZ I.ok.bsz I.ok.above)
theorem Inv.stkSub (I:Inv X pins σ H s):∀b∈frs X.stack,b∈X.env.locals::X.fs:=λb hb=>by
 rcases I.ok.stk with e|⟨e,hf⟩
 ·rw [e] at hb;exact aK _ hb
 ·rw [e] at hb
  unfold frs at hb
  rw [bJ,hf] at hb
  exact hb
theorem Inv.stkFree (I:Inv X pins σ H s):∀b∈frs X.stack,H b=none:=λb hb=>by
 rcases ap.mp (I.stkSub b hb) with e|hb
 ·rw [e];exact I.free
 ·obtain ⟨_,o,ho,_⟩:=I.ok.funs.mem hb
  exact I.base.free b o ho (I.ok.frf b hb) λz=>I.ok.exfs b z hb
theorem Inv.step {g':Array GenState}{t':Nat}{d':Drawn}{ch:List Aj}(I:Inv X pins σ H s)
  (hch:∀b∈ch,(b∈X.ex∨X.s₀.heap.objs.size≤b)∧b≠X.env.locals∧(∀x c,X.env.cells.lookup x=some c→c≠b)∧∀p∈X.pn++pins,p.1≠b)
  (keep:∀b o,b≠X.env.locals→b∉X.fs→b∉ch→s.heap.get? b=some o→H b=none→h'.get? b=some o)
  (slot:∀b o,b≠X.env.locals→b∈X.fs→b∉ch→s.heap.get? b=some o→H b=none→∃sl,h'.get? b=some { o with slots:=sl }) (free:∀b o,b∉ch→s.heap.get? b=some o→H b=none→H' b=none)
  (there:∀b o,b∉ch→s.heap.get? b=some o→∃o',h'.get? b=some o')
  (tups:∀b xs,H b=some (.tup xs)→H' b=some (.tup xs)) (frzs:∀b o u,H b=some (.frz o u)→H' b=some (.frz o u)) (tbls:∀b ps,H b=some (.tbl ps)→∃more,H' b=some (.tbl (ps++more)))
  (ns:∀m,s.heap.Ns X.env.locals m→h'.Ns X.env.locals m) (hok:HOk X.prog X.w H' h') (hg:AllBare g') :
  Inv X pins σ H' { s with heap:=h',gens:=g',drawn:=d',toks:=t' }:=by
 have neL:∀b o,X.s₀.heap.get? b=some o→b≠X.env.locals:=λb o e=>al (am (ae e) I.ok.above)
 have neC:∀b o,X.s₀.heap.get? b=some o→b∉X.ex→b∉ch:=λb o e hx hb=>by
  rcases (hch b hb).1 with z|z
  ·exact hx z
  ·exact absurd (am (ae e) z) (aI _)
 have cellK:∀x c,X.env.cells.lookup x=some c→∀v,s.heap.IsCell c v→h'.IsCell c v:=λx c e v ⟨o,ho,hd⟩=>by
  have nch:c∉ch:=λz=>(hch c z).2.2.1 x c e rfl
  by_cases hc:c∈X.fs
  ·obtain ⟨sl,q⟩:=slot c o (I.cne x c e) hc nch ho (I.freeC x c e)
   exact ⟨_,q,hd⟩
  ·exact ⟨o,keep c o (I.cne x c e) hc nch ho (I.freeC x c e),hd⟩
 refine ⟨I.ok,I.os,hg,⟨λb o e n hb hx=>?_,λb o e n hb hx=>?_,λb o e n hx=>?_,λb o e hx=>?_,λb xs e=>tups b xs (I.base.tups b xs e),λb o xs e=>frzs b o xs (I.base.frzs b o xs e),λb ps e=>?_⟩,?_,λx c e=>?_,?_,λx c e=>?_,λp hp=>?_,hok,I.len⟩
 ·exact keep b o (neL b o e) hb (neC b o e hx) (I.base.keep b o e n hb hx) (I.base.free b o e n hx)
 ·obtain ⟨sl,e1⟩:=I.base.slot b o e n hb hx
  obtain ⟨sl',e2⟩:=slot b _ (neL b o e) hb (neC b o e hx) e1 (I.base.free b o e n hx)
  exact ⟨sl',e2⟩
 ·obtain ⟨o',e1⟩:=I.base.there b o e hx
  exact free b o' (neC b o e hx) e1 (I.base.free b o e n hx)
 ·obtain ⟨o',e1⟩:=I.base.there b o e hx
  exact there b o' (neC b o e hx) e1
 ·obtain ⟨m1,e1⟩:=I.base.tbls b ps e
  obtain ⟨m2,e2⟩:=tbls b _ e1
  exact ⟨m1++m2,by rw [e2,Array.append_assoc]⟩
 ·obtain ⟨m,hn,hl⟩:=I.loc
  refine ⟨m,ns m hn,λi x v e1 e2 e3=>?_⟩
  obtain ⟨u,r,l⟩:=hl i x v e1 e2 e3
  refine ⟨u,r,?_⟩
  rcases l with l|⟨k,c,e,z⟩
  ·exact .inl l
  ·exact .inr ⟨k,c,e,cellK x c e _ z⟩
 ·obtain ⟨v,z⟩:=I.cell x c e
  exact ⟨v,cellK x c e v z⟩
 ·obtain ⟨m,⟨o,_,_,ho,_⟩,_⟩:=I.loc
  exact free _ o (λz=>(hch _ z).2.1 rfl) ho I.free
 ·obtain ⟨v,o,ho,hd⟩:=I.cell x c e
  exact free c o (λz=>(hch c z).2.2.1 x c e rfl) ho (I.freeC x c e)
 ·obtain ⟨e,n,ne,nf,d⟩:=I.pin p hp
  have nch:p.1∉ch:=λz=>(hch p.1 z).2.2.2 p hp rfl
  exact ⟨keep p.1 p.2 ne nf nch e n,free p.1 p.2 nch e n,ne,nf,d⟩
theorem Inv.un {t':Nat}(I:Inv X pins σ H s)(u:Un X.fs [] H H' s.heap h')(hok:HOk X.prog X.w H' h'):Inv X pins σ H' { s with heap:=h',toks:=t' }:=by
 obtain ⟨m,⟨o,es,ep,ho,r⟩,_⟩:=id I.loc
 obtain ⟨sl,hL⟩:=u.any ho I.free (by simp)
 exact I.step (g':=s.gens) (d':=s.drawn) (ch:=[]) (λ_ z=>nomatch z) (λb o _ hb _ e n=>u.keep b o e n hb (by simp)) (λb o _ hb _ e n=>u.slot b o e n hb (by simp)) (λb o _ e n=>u.free b o e n (by simp)) (λb o _ e=>u.there b o e (by simp)) u.tups u.frzs u.tbls (λm' hm=>by
  obtain ⟨o',es',ep',ho',r'⟩:=hm
  rw [ho] at ho';cases ho'
  exact ⟨_,es',ep',hL,r'⟩) hok I.bare
theorem Inv.call {g':Array GenState}{t':Nat}{d':Drawn}{ch:List Aj}(I:Inv X pins σ H s)(u:Un (frs X.stack) ch H H' s.heap h')(hok:HOk X.prog X.w H' h')(hg:AllBare g')
  (hch:∀b∈ch,(b∈X.ex∨X.s₀.heap.objs.size≤b)∧b≠X.env.locals∧(∀x c,X.env.cells.lookup x=some c→c≠b)∧∀p∈X.pn++pins,p.1≠b) :
  Inv X pins σ H' { s with heap:=h',gens:=g',drawn:=d',toks:=t' }:=by
 obtain ⟨m,⟨o,es,ep,ho,r⟩,_⟩:=id I.loc
 obtain ⟨sl,hL⟩:=u.any ho I.free λz=>(hch _ z).2.1 rfl
 exact I.step (ch:=ch) hch (λb o hL hb hc e n=>u.keep b o e n (λz=>(ap.mp (I.stkSub b z)).elim hL hb) hc) (λb o _ _ hc e n=>u.any e n hc) (λb o hc e n=>u.free b o e n hc) (λb o hc e=>u.there b o e hc) u.tups u.frzs u.tbls (λm' hm=>by
  obtain ⟨o',es',ep',ho',r'⟩:=hm
  rw [ho] at ho';cases ho'
  exact ⟨_,es',ep',hL,r'⟩) hok hg
theorem Inv.turned {t':Nat}{it:Aj}(I:Inv X pins σ H s)(k:∀b o,b≠it→s.heap.get? b=some o→h'.get? b=some o)(hn:H it=none)(hL:it≠X.env.locals)
  (h1:it∈X.ex∨X.s₀.heap.objs.size≤it) (h2:∀x c,X.env.cells.lookup x=some c→c≠it) (h3:∀p∈X.pn++pins,p.1≠it):Inv X pins σ H { s with heap:=h',toks:=t' }:=by
 have nit:∀b u,H b=some u→b≠it:=λb u e z=>by rw [z,hn] at e;cases e
 refine I.step (g':=s.gens) (d':=s.drawn) (ch:=[it]) (λb hb=>?_) (λb o _ _ hc e _=>k b o (λz=>hc (by simp [z])) e) (λb o _ _ hc e _=>⟨o.slots,k b o (λz=>hc (by simp [z])) e⟩) (λ_ _ _ _ n=>n)
  (λb o hc e=>⟨o,k b o (λz=>hc (by simp [z])) e⟩) (λ_ _ e=>e) (λ_ _ _ e=>e) (λb ps e=>⟨#[],by rw [e];simp⟩) (λm hm=>?_) (λb u e=>?_) I.bare
 ·have e:b=it:=by simpa using hb
  subst e
  exact ⟨h1,hL,h2,h3⟩
 ·obtain ⟨o,es,ep,ho,r⟩:=hm
  exact ⟨o,es,ep,k _ o (aT hL) ho,r⟩
 ·refine (I.hok b u e).stay (λc v hc q=>k c v ?_ q) (λ_ q=>q) λ_ _ q=>q
  rcases hc with z|z
  ·rw [z];exact nit b u e
  ·exact nit c _ z
theorem Inv.tok (I:Inv X pins σ H s)(t:Nat):Inv X pins σ H { s with toks:=t }:=I.un (h':=s.heap) (t':=t) Un.refl I.hok
theorem Inv.kept {t':Nat}(I:Inv X pins σ H s)(k:∀b u,s.heap.get? b=some u→h'.get? b=some u):Inv X pins σ H { s with heap:=h',toks:=t' }:=I.un (Un.kept k) (I.hok.kept k)
theorem Inv.laid {a:Aj}{o:HO}{t':Nat}(I:Inv X pins σ H s)(k:∀b u,s.heap.get? b=some u→h'.get? b=some u)(hp:s.heap.objs.size≤a)(new:ObjOk X.prog X.w (upd H a o) h' a o) :
  Inv X pins σ (upd H a o) { s with heap:=h',toks:=t' }:=I.un (Un.laid k hp (I.hok.fresh hp)) (I.hok.laid k hp new)
theorem Inv.write {x e:Aj}{o:HO}{t':Nat}(I:Inv X pins σ H s)(mu:Mut (H x))(he:e=x∨H e=some (.own x))(k:∀b u,b≠e→s.heap.get? b=some u→h'.get? b=some u)(heo:∃u,h'.get? e=some u)
  (new:ObjOk X.prog X.w (upd H x o) h' x o):Inv X pins σ (upd H x o) { s with heap:=h',toks:=t' }:=I.un (Un.write mu he k heo) (I.hok.write mu he k heo new)
theorem Inv.weak {σ':List (Option V)}(I:Inv X pins σ H s)(hl:σ'.length=σ.length)(w:∀(i:Nat) v,σ'[i]?=some (some v)→σ[i]?=some (some v)):Inv X pins σ' H s :=
 ⟨I.ok,I.os,I.bare,I.base,let ⟨m,hn,hl'⟩:=I.loc;⟨m,hn,λi x v e1 e2 e3=>hl' i x v e1 (w i v e2) e3⟩,I.cell,I.free,I.freeC,I.pin,I.hok,hl.trans I.len⟩
theorem Inv.pins_of {pins':List (Aj×Obj)}(I:Inv X pins σ H s)(h:∀p∈pins',s.heap.get? p.1=some p.2∧H p.1=none∧p.1≠X.env.locals∧p.1∉X.fs∧∀v,p.2.data≠.cell v):Inv X pins' σ H s :=
 ⟨I.ok,I.os,I.bare,I.base,I.loc,I.cell,I.free,I.freeC,λp hp=>(bc.mp hp).elim (λz=>I.pin p (bH _ z)) (h p),I.hok,I.len⟩
theorem Jh {N:List Str}(hN:N.Nodup){i j:Nat}{x:Str}(a:N[i]?=some x)(b:N[j]?=some x):i=j:=by
 obtain ⟨h1,e1⟩:=aW.mp a
 obtain ⟨h2,e2⟩:=aW.mp b
 exact (List.getElem_inj hN).mp (e1.trans e2.symm)
theorem qzw {M:Model}{A:Ae}{E:Ag→Ab→Prop}{i:Nat}{x:Str}{v:V}{u:Ag}{Q:Unit→Ab→Prop}(I:Inv X pins σ H s)(hN:X.N.Nodup)(hi:X.N[i]?=some x)(hx:Loc X.env.scope x)(r:xx v u)
  (h:∀s',Inv X pins (σ.set i (some v)) H s'→(∃a,Heap.SameBut a s.heap s'.heap∧(a=X.env.locals∨X.env.cells.lookup x=some a))→Q () s') (hf:X.fn x=true∨X.env.scope.names.lookup x=some .local:=by first | exact .inl rfl | exact .inr rfl | assumption):wpAny M A (storeName X.env x u) Q E s:=by
 obtain ⟨m,hn,hl⟩:=id I.loc
 have hcls:(X.env.scope.kind==.class||(X.env.scope.kind==.module&&X.env.locals != X.env.globals))=false:=by rw [I.ok.kind];rfl
 have hiσ:i<σ.length:=by rw [I.len];exact (aW.mp hi).1
 have cne:=I.cne
 have tracked:∀ {a:Aj} {h':Heap},(∃o,s.heap.get? a=some o∧H a=none)→Heap.SameBut a s.heap h'→HOk X.prog X.w H h':=λ{a h'} ha hs b ob e=>by
  obtain ⟨_,_,hfree⟩:=ha
  refine (I.hok b ob e).stay (λc w' hc q=>(hs.2 c ?_).trans q) (λ_ q=>q) λ_ _ q=>q
  rintro rfl
  rcases hc with rfl|hc
  ·rw [hfree] at e;cases e
  ·rw [hfree] at hc;cases hc
 rcases hx with hk|hk
 ·refine wpAny_storeName_local hk hn (λh' hn' hs=>?_) hcls
  obtain ⟨oL,_,_,hoL,_⟩:=id hn
  refine h _ ⟨I.ok,I.os,I.bare,⟨λb o e n hb hx=>?_,λb o e n hb hx=>?_,I.base.free,λb o e hx=>?_,I.base.tups,I.base.frzs,I.base.tbls⟩,⟨_,hn',λj y v' e1 e2 e3=>?_⟩,λy c e=>?_,I.free,I.freeC,λp hp=>?_,tracked ⟨oL,hoL,I.free⟩ hs,by simpa using I.len⟩ ⟨_,hs,.inl rfl⟩
  ·exact (hs.2 b (al (am (ae e) I.ok.above))).trans (I.base.keep b o e n hb hx)
  ·obtain ⟨sl,e1⟩:=I.base.slot b o e n hb hx
   exact ⟨sl,(hs.2 b (al (am (ae e) I.ok.above))).trans e1⟩
  ·obtain ⟨o',e1⟩:=I.base.there b o e hx
   exact ⟨o',(hs.2 b (al (am (ae e) I.ok.above))).trans e1⟩
  ·by_cases hj:j=i
   ·subst hj
    rw [hi] at e1;cases e1
    rw [List.getElem?_set_self hiσ] at e2
    cases e2
    exact ⟨u,r,.inl ⟨hk,by simp⟩⟩
   ·rw [List.getElem?_set_ne (aT hj)] at e2
    obtain ⟨u',r',q⟩:=hl j y v' e1 e2 e3
    refine ⟨u',r',?_⟩
    rcases q with ⟨k,e⟩|⟨k,c,e,z⟩
    ·refine .inl ⟨k,?_⟩
     have:y≠x:=λe=>hj (Jh hN e1 (e▸hi))
     simp [this,e]
    ·exact .inr ⟨k,c,e,z.sameBut hs (cne y c e)⟩
  ·obtain ⟨w',z⟩:=I.cell y c e
   exact ⟨w',z.sameBut hs (cne y c e)⟩
  ·obtain ⟨e,n,ne,nf,d⟩:=I.pin p hp
   exact ⟨(hs.2 p.1 ne).trans e,n,ne,nf,d⟩
 ·have hfn:X.fn x=true:=by
   rcases hf with z|z
   ·exact z
   ·rw [z] at hk;cases hk
  obtain ⟨c,hc⟩:=I.ok.has x (.inl hk)
  obtain ⟨w',z⟩:=I.cell x c hc
  refine wpAny_storeName_cell I.ok.kind hk hc z (λh' hc' hs=>?_)
  obtain ⟨oc,hoc,hocd⟩:=id z
  refine h { s with heap:=h' } ⟨I.ok,I.os,I.bare,⟨λb o e n hb hx=>?_,λb o e n hb hx=>?_,I.base.free,λb o e hx=>?_,I.base.tups,I.base.frzs,I.base.tbls⟩,⟨m,hn.sameBut hs (aT (cne x c hc)),λj y v' e1 e2 e3=>?_⟩,λy c' e=>?_,I.free,I.freeC,λp hp=>?_,tracked ⟨oc,hoc,I.freeC x c hc⟩ hs,by simpa using I.len⟩ ⟨c,hs,.inr hc⟩
  ·exact (hs.2 b (al (am (ae e) (I.ok.cab x c hfn hc)))).trans (I.base.keep b o e n hb hx)
  ·obtain ⟨sl,e1⟩:=I.base.slot b o e n hb hx
   exact ⟨sl,(hs.2 b (al (am (ae e) (I.ok.cab x c hfn hc)))).trans e1⟩
  ·obtain ⟨o',e1⟩:=I.base.there b o e hx
   exact ⟨o',(hs.2 b (al (am (ae e) (I.ok.cab x c hfn hc)))).trans e1⟩
  ·by_cases hj:j=i
   ·subst hj
    rw [hi] at e1;cases e1
    rw [List.getElem?_set_self hiσ] at e2
    cases e2
    exact ⟨u,r,.inr ⟨.inl hk,c,hc,hc'⟩⟩
   ·rw [List.getElem?_set_ne (aT hj)] at e2
    obtain ⟨u',r',q⟩:=hl j y v' e1 e2 e3
    refine ⟨u',r',?_⟩
    rcases q with q|⟨k,c',e,z'⟩
    ·exact .inl q
    ·refine .inr ⟨k,c',e,z'.sameBut hs ?_⟩
     rintro rfl
     exact hj (Jh hN e1 (I.ok.inj _ _ _ e hc▸hi))
  ·by_cases hcc:c'=c
   ·subst hcc;exact ⟨_,hc'⟩
   ·obtain ⟨w2,z2⟩:=I.cell y c' e
    exact ⟨w2,z2.sameBut hs hcc⟩
  ·obtain ⟨e,n,ne,nf,d⟩:=I.pin p hp
   refine ⟨(hs.2 p.1 ?_).trans e,n,ne,nf,d⟩
   intro q
   rw [q,hoc] at e
   have q':oc=p.2:=ak e
   exact d w' (by rw [←q'];exact hocd)
theorem v9 {M:Model}{A:Ae}{E:Ag→Ab→Prop}{i:Nat}{x:Str}{v:V}{u:Ag}{Q:Unit→Ab→Prop}(I:Inv X pins σ H s)(hN:X.N.Nodup)(hi:X.N[i]?=some x)(hx:Loc X.env.scope x)(r:xx v u)
  (h:∀s',Inv X pins (σ.set i (some v)) H s'→Q () s') (hf:X.fn x=true∨X.env.scope.names.lookup x=some .local:=by first | exact .inl rfl | exact .inr rfl | assumption):wpAny M A (storeName X.env x u) Q E s :=
 qzw I hN hi hx r (λs' I' _=>h s' I') hf
theorem Inv.call' {s':Ab}{ch:List Aj}(I:Inv X pins σ H s)(ho:s'.os=s.os)(u:Un (frs X.stack) ch H H' s.heap s'.heap)(hok:HOk X.prog X.w H' s'.heap)(hg:AllBare s'.gens)
  (hch:∀b∈ch,(b∈X.ex∨X.s₀.heap.objs.size≤b)∧b≠X.env.locals∧(∀x c,X.env.cells.lookup x=some c→c≠b)∧∀p∈X.pn++pins,p.1≠b):Inv X pins σ H' s':=by
 obtain ⟨h',g',d',t',o'⟩:=s'
 have e:o'=s.os:=ho
 subst e
 exact I.call (g':=g') (t':=t') (d':=d') u hok hg hch
end
abbrev XK:=Ag→Option Aj→Hp→Prop
abbrev St:=List (Option V)
abbrev VK:=V→Hp→Prop
abbrev TE:=St→Hp→VK→Prop
abbrev TT:=St→Hp→(Bool→Hp→Prop)→Prop
abbrev TA:=St→Hp→(List V→Hp→Prop)→Prop
structure Ends where
 nx:St→Hp→Prop
 rt:VK
 bk:St→Hp→Prop:=λ_ _=>False
 ct:St→Hp→Prop:=λ_ _=>False
abbrev TS:=Ends→St→Hp→Prop
def EP (X:Cx)(pins:List (Aj×Obj))(σ:St)(Q:VK)(u:Ag)(s':Ab):Prop:=∃v H',Inv X pins σ H' s'∧xx v u∧Q v H'
def TP (X:Cx)(pins:List (Aj×Obj))(σ:St)(Q:Bool→Hp→Prop)(b:Bool)(s':Ab):Prop:=∃H',Inv X pins σ H' s'∧Q b H'
def AP (X:Cx)(pins:List (Aj×Obj))(σ:St)(Q:List V→Hp→Prop)(us:List Ag)(s':Ab):Prop:=∃vs H',Inv X pins σ H' s'∧Vals vs us∧Q vs H'
def SP (X:Cx)(pins:List (Aj×Obj))(D:Ends)(f:Flow)(s':Ab):Prop :=
 match f with
 |.next=>∃σ' H',Inv X pins σ' H' s'∧D.nx σ' H'
 |.brk=>∃σ' H',Inv X pins σ' H' s'∧D.bk σ' H'
 |.cont=>∃σ' H',Inv X pins σ' H' s'∧D.ct σ' H'
 |.ret u=>∃v σ' H',Inv X pins σ' H' s'∧xx v u∧D.rt v H'
def PE (X:Cx)(e:Expr)(t:TE):Prop :=
 ∀(pins:List (Aj×Obj)) (s:Ab) (σ:St) (H:Hp) (Q:VK),Inv X pins σ H s→t σ H Q→wpAny (model X.prog X.w) X.A (eval e X.env) (EP X pins σ Q) X.xe s
def PT (X:Cx)(e:Expr)(t:TT):Prop :=
 ∀(pins:List (Aj×Obj)) (s:Ab) (σ:St) (H:Hp) (Q:Bool→Hp→Prop),Inv X pins σ H s→t σ H Q→wpAny (model X.prog X.w) X.A (isTrue e X.env (eval e X.env)) (TP X pins σ Q) X.xe s
def PW (X:Cx)(e:Expr)(t:TT):Prop :=
 ∀(whole:Sem Ag) (pins:List (Aj×Obj)) (s:Ab) (σ:St) (H:Hp) (Q:Bool→Hp→Prop),Inv X pins σ H s→t σ H Q→wpAny (model X.prog X.w) X.A (isTrue e X.env whole) (TP X pins σ Q) X.xe s
theorem PW.pt {X:Cx}{e:Expr}{t:TT}(h:PW X e t):PT X e t:=h _
def PA (X:Cx)(es:List Expr)(t:TA):Prop :=
 ∀(pos:Pos) (pins:List (Aj×Obj)) (s:Ab) (σ:St) (H:Hp) (Q:List V→Hp→Prop),Inv X pins σ H s→t σ H Q→wpAny (model X.prog X.w) X.A (spliced (backTo pos (starEach es X.env))) (AP X pins σ Q) X.xe s
def PS (X:Cx)(st:Stmt)(t:TS):Prop :=
 ∀(pins:List (Aj×Obj)) (s:Ab) (σ:St) (H:Hp) (D:Ends),Inv X pins σ H s→t D σ H→wpAny (model X.prog X.w) X.A (exec st X.env) (SP X pins D) X.xe s
def PSs (X:Cx)(st:List Stmt)(t:TS):Prop :=
 ∀(pins:List (Aj×Obj)) (s:Ab) (σ:St) (H:Hp) (D:Ends),Inv X pins σ H s→t D σ H→wpAny (model X.prog X.w) X.A (execs st X.env) (SP X pins D) X.xe s
theorem thn {α:Type}{t:Sem α}{Q Q':α→Ab→Prop}{M:Model}{A:Ae}{E:Ag→Ab→Prop}{s:Ab}(h:wpAny M A t Q E s)(hQ:∀a s,Q a s→Q' a s):wpAny M A t Q' E s:=aF h hQ λ_ _ x=>x
section
variable {X:Cx}
def yd (i:Nat):TE:=λσ H Q=>∃v,σ[i]?=some (some v)∧Q v H
def tC (v:V):TE:=λ_ H Q=>Q v H
theorem pe_var {i:Nat}{x:Str}{pos:Pos}(hN:X.N[i]?=some x)(hv:Vis X.env.scope x)(hd:(x==("__debug__" : Str))=false:=by decide)(hcd:(x==("__classdict__" : Str))=false:=by decide):PE X (.Name x pos) (yd i):=by
 intro pins s σ H Q I h
 obtain ⟨v,e,h⟩:=h
 obtain ⟨m,hn,hl⟩:=I.loc
 obtain ⟨u,r,l⟩:=hl i x v hN e hv
 have fin:EP X pins σ Q u s:=⟨v,H,I,r,h⟩
 rcases l with ⟨hk,hm⟩|⟨hk,c,hc,hcell⟩
 ·exact wpAny_Name (wpAny_loadName_local I.ok.kind hk hn hm fin) hd
 ·rcases hk with hk|hk
  ·exact wpAny_Name (wpAny_loadName_cell I.ok.kind hk hc hcell fin) hd
  ·exact wpAny_Name (wpAny_loadName_free I.ok.kind hk hc hcell fin hcd) hd
theorem qy {i j pos}:PE X (.Constant (.int i) j pos) (tC (.int i)):=λ_ _ _ H _ I h=>wpAny_Constant_int ⟨.int i,H,I.tok _,⟨_,rfl⟩,h⟩
theorem Jx {b j pos}:PE X (.Constant (.bool b) j pos) (tC (.bl b)):=λ_ _ _ H _ I h=>Constant_bool ⟨.bl b,H,I,rfl,h⟩
theorem Zr {j pos}:PE X (.Constant .none j pos) (tC .non):=λ_ _ _ H _ I h=>Constant_none ⟨.non,H,I,rfl,h⟩
theorem x6 {x j pos}:PE X (.Constant (.str x) j pos) (tC (.str x)):=λ_ _ _ H _ I h=>Calls.Constant_str ⟨.str x,H,I.tok _,⟨_,rfl⟩,h⟩
def Gl (X:Cx)(x:Str):Prop:=X.env.kindOf x=some .globalImplicit
theorem vh {E:Ag→Ab→Prop}{pins:List (Aj×Obj)}{s:Ab}{σ:St}{H:Hp}{x:Str}{u:Ag}{pos:Pos}{Q:Ag→Ab→Prop}(I:Inv X pins σ H s)(hg:Gl X x)(hm:X.mg x=some u)(h:Q u s)
  (hd:(x==("__debug__" : Str))=false:=by decide):wpAny (model X.prog X.w) X.A (eval (.Name x pos) X.env) Q E s :=
 Calls.Name_function_global I.ok.kind hg (Calls.loadGlobal_global (by rw [I.ok.glob];exact I.mod.glob.keeps I.bk) hm h) hd
theorem qqs {E:Ag→Ab→Prop}{pins:List (Aj×Obj)}{s:Ab}{σ:St}{H:Hp}{x:Str}{u:Ag}{pos:Pos}{Q:Ag→Ab→Prop}(I:Inv X pins σ H s)(hg:Gl X x)(hm:X.mg x=none)(hv:bootBuiltins x=some u)(h:Q u s)
  (hn:x ≠ "__name__" := by decide) (hd:(x==("__debug__" : Str))=false:=by decide):wpAny (model X.prog X.w) X.A (eval (.Name x pos) X.env) Q E s:=by
 obtain ⟨mb,h1,h2⟩:=I.mod.blt
 exact Calls.Name_function_global I.ok.kind hg (Calls.loadGlobal_builtin (by rw [I.ok.glob];exact I.mod.glob.keeps I.bk) hm (by rw [I.ok.blt];exact h1.keeps I.bk) ((h2 x hn).trans hv) h) hd
theorem vb {x:Str}{v:V}{u:Ag}{pos:Pos}(hg:Gl X x)(hm:X.mg x=some u)(r:xx v u)(hd:(x==("__debug__" : Str))=false:=by decide):PE X (.Name x pos) (tC v) :=
 λ_ _ _ H _ I h=>vh I hg hm ⟨v,H,I,r,h⟩ hd
variable {a b:Expr}{ta tb:TE}{pos:Pos}
def PC (X:Cx)(op:CmpOp)(a b:Expr)(t:TE):Prop :=
 ∀(pins:List (Aj×Obj)) (s:Ab) (σ:St) (H:Hp) (Q:VK),Inv X pins σ H s→t σ H Q →
  wpAny (model X.prog X.w) X.A (eval a X.env) (λv s₁=>wpAny (model X.prog X.w) X.A (eval b X.env) (λu s₂=>wpAny (model X.prog X.w) X.A (compareOp op v u) (EP X pins σ Q) X.xe s₂) X.xe s₁) X.xe s
def tB (t:TE):TT:=λσ H Q=>t σ H λx H1=>∃c,x=.bl c∧Q c H1
theorem qwz {op:CmpOp}{t:TE}(h:PC X op a b t)(h1:behindInMarks op b=false:=by first | exact nobehind _ (by decide) (by decide) | rfl):PT X (.Compare a [op] [b] pos) (tB t):=by
 intro pins s σ H Q I hw
 refine wpAny_isTrue_Compare1 (thn (h pins s σ H _ I hw) λv s1 h1=>thn h1 λu s2 h2=>thn h2 λc s3 ⟨x,H1,I1,r1,q1⟩=>?_) h1
 obtain ⟨d,rfl,q⟩:=q1
 cases r1
 exact bG ⟨H1,I1,q⟩
theorem qkq {e:Expr}{t:TE}(h:PE X e t)(he:∀whole,isTrue e X.env whole=(do let v ←whole;standAt e.pos;holding [v] (truthy v)):=by intro _;rfl):PT X e (tB t):=by
 intro pins s σ H Q I hw
 refine isTrue_plain (thn (h pins s σ H _ I hw) λv s1 ⟨x,H1,I1,r1,q1⟩=>?_) (he _)
 obtain ⟨d,rfl,q⟩:=q1
 cases r1
 exact bG ⟨H1,I1,q⟩
variable {tA tB':TT}{ju:List Expr}
def tAnd (t u:TT):TT:=λσ H Q=>t σ H λc H1=>if c=true then u σ H1 Q else Q false H1
def tOr (t u:TT):TT:=λσ H Q=>t σ H λc H1=>if c=true then Q true H1 else u σ H1 Q
def tNot (t:TT):TT:=λσ H Q=>t σ H λc H1=>Q (!c) H1
theorem qj4 (ha:PT X a tA):PW X (.BoolOp .And [a] pos) tA:=by
 intro wh pins s σ H Q I h
 refine isTrue_and (thn (ha pins s σ H Q I h) λc s1 e=>?_)
 cases c with
 |true=>exact isTrue_and_nil e
 |false=>exact e
theorem yp (ha:PT X a tA):PW X (.BoolOp .Or [a] pos) tA:=by
 intro wh pins s σ H Q I h
 refine isTrue_or (thn (ha pins s σ H Q I h) λc s1 e=>?_)
 cases c with
 |false=>exact isTrue_or_nil e
 |true=>exact e
theorem pw_and (ha:PT X a tA)(hb:PW X (.BoolOp .And (b::ju) pos) tB'):PW X (.BoolOp .And (a::b::ju) pos) (tAnd tA tB'):=by
 intro wh pins s σ H Q I h
 refine isTrue_and (thn (ha pins s σ H _ I h) λc s1 ⟨H1,I1,q1⟩=>?_)
 cases c with
 |true=>exact hb wh pins s1 σ H1 Q I1 q1
 |false=>exact ⟨H1,I1,q1⟩
theorem Zn (ha:PT X a tA)(hb:PW X (.BoolOp .Or (b::ju) pos) tB'):PW X (.BoolOp .Or (a::b::ju) pos) (tOr tA tB'):=by
 intro wh pins s σ H Q I h
 refine isTrue_or (thn (ha pins s σ H _ I h) λc s1 ⟨H1,I1,q1⟩=>?_)
 cases c with
 |true=>exact ⟨H1,I1,q1⟩
 |false=>exact hb wh pins s1 σ H1 Q I1 q1
theorem qky (ha:PT X a tA):PT X (.UnaryOp .Not a pos) (tNot tA):=by
 intro pins s σ H Q I h
 exact isTrue_not (ha pins s σ H (λc H1=>Q (!c) H1) I h)
def tAndV (ta tb:TE):TE:=λσ H Q=>ta σ H λx H1=>∃c,x=.bl c∧if c=true then tb σ H1 Q else Q (.bl false) H1
theorem pe_one {op}{t:TE}(h:PE X a t):PE X (.BoolOp op [a] pos) t:=λpins s σ H Q I hw=>BoolOp_one (h pins s σ H Q I hw)
theorem pe_and (ha:PE X a ta)(hb:PE X (.BoolOp .And (b::ju) pos) tb):PE X (.BoolOp .And (a::b::ju) pos) (tAndV ta tb):=by
 intro pins s σ H Q I h
 refine BoolOp_and (thn (ha pins s σ H _ I h) λv s1 ⟨x,H1,I1,r1,q1⟩=>?_)
 obtain ⟨c,rfl,q1⟩:=q1
 cases r1
 refine bG ?_
 cases c with
 |true=>exact hb pins s1 σ H1 Q I1 q1
 |false=>exact ⟨.bl false,H1,I1,rfl,q1⟩
def tIf (t:TT)(ta tb:TE):TE:=λσ H Q=>t σ H λc H1=>if c=true then ta σ H1 Q else tb σ H1 Q
theorem Q8 {c:Expr}(hc:PT X c tA)(ha:PE X a ta)(hb:PE X b tb):PE X (.IfExp c a b pos) (tIf tA ta tb):=by
 intro pins s σ H Q I h
 refine wpAny_IfExp (thn (hc pins s σ H _ I h) λd s1 ⟨H1,I1,q1⟩=>?_)
 cases d with
 |true=>exact ha pins s1 σ H1 Q I1 q1
 |false=>exact hb pins s1 σ H1 Q I1 q1
end
def SqL (K:Aa)(H:Hp)(a:Aj)(xs:List V):Prop :=
 Rd H a (.lst xs) ∨
  ∃(o:Obj) (its:Array Ag) (n:Nat),K.lookup a=some o∧o.cls=.type "list" ∧ o.dict=none∧o.data=.seq its n∧its.size≤sizeLine∧Vals xs its.toList
def SqT (K:Aa)(H:Hp)(a:Aj)(xs:List V):Prop :=
 Rd H a (.tup xs) ∨
  ∃(o:Obj) (its:Array Ag) (n:Nat),K.lookup a=some o∧o.cls=.type "tuple" ∧ o.data=.seq its n∧its.size≤sizeLine∧Vals xs its.toList
section
variable {X:Cx}{pins:List (Aj×Obj)}{σ:St}{H:Hp}{s:Ab}{a:Aj}{xs ys:List V}
theorem SqL.of {K:Aa}(h:H a=some (.lst xs)):SqL K H a xs:=.inl (.inl h)
theorem SqT.of {K:Aa}(h:H a=some (.tup xs)):SqT K H a xs:=.inl (.inl h)
theorem Inv.list (I:Inv X pins σ H s)(h:SqL X.K H a xs):∃its:List Ag,Vals xs its∧PlainL s.heap a its.toArray∧xs.length≤sizeLine:=by
 rcases h with h|⟨o,its,n,hk,hc,hd,hs,hz,r⟩
 ·obtain ⟨z,its,n,r,e⟩:=h.ok I.hok
  exact ⟨its,r,⟨_,n,e,rfl,rfl,rfl⟩,z⟩
 ·refine ⟨its.toList,r,⟨o,n,I.kIn a o hk,hc,hd,by simpa using hs⟩,?_⟩
  have e:=r.length
  simp only [aO] at e
  lia
theorem Inv.tuple (I:Inv X pins σ H s)(h:SqT X.K H a xs):∃its:List Ag,Vals xs its∧IsTup s.heap a its.toArray∧xs.length≤sizeLine:=by
 rcases h with h|⟨o,its,n,hk,hc,hs,hz,r⟩
 ·obtain ⟨z,its,r,p⟩:=h.ok I.hok
  exact ⟨its,r,p,z⟩
 ·refine ⟨its.toList,r,⟨o,I.kIn a o hk,hc,n,by simpa using hs⟩,?_⟩
  have e:=r.length
  simp only [aO] at e
  lia
end
abbrev Cx.wish (X:Cx)(E:Ag→Ab→Prop):Cx:={ X with xe:=E }
section
variable {X:Cx}{pins:List (Aj×Obj)}{σ:St}{H:Hp}{s:Ab}{E:Ag→Ab→Prop}
end
section
variable {X:Cx}{st:Stmt}{ju:List Stmt}{t u:TS}{e:Expr}{te:TE}{pos:Pos}
def tNext:TS:=λD σ H=>D.nx σ H
def tSeq (t u:TS):TS:=λD σ H=>t { D with nx:=u D } σ H
theorem wg:PSs X [] tNext:=λ_ _ σ H _ I h=>bM ⟨σ,H,I,h⟩
theorem qu (h1:PS X st t)(h2:PSs X ju u):PSs X (st::ju) (tSeq t u):=by
 intro pins s σ H D I h
 refine cM (thn (h1 pins s σ H { D with nx:=u D } I h) λf s1 q=>?_)
 cases f with
 |next =>
  obtain ⟨σ',H',I',q⟩:=q
  exact h2 pins s1 σ' H' D I' q
 |ret v=>exact q
 |brk=>exact q
 |cont=>exact q
theorem qh (h1:PS X st t):PSs X [st] t:=by
 intro pins s σ H D I h
 refine cM (thn (h1 pins s σ H D I h) λf s1 q=>?_)
 cases f with
 |next=>exact bM q
 |ret v=>exact q
 |brk=>exact q
 |cont=>exact q
theorem Inv.quiet {pins:List (Aj×Obj)}{σ:St}{H:Hp}{s:Ab}(I:Inv X pins σ H s):interactive X.env=false:=by simp [interactive,I.ok.kind]
def tDrop (te:TE):TS:=λD σ H=>te σ H λ_ H1=>D.nx σ H1
theorem xk (he:PE X e te)(hs:swapsWith e none pos.line X.env=pure false:=by rfl):PS X (.Expr e pos) (tDrop te):=by
 intro pins s σ H D I h
 exact wpAny_Expr_any (thn (he pins s σ H _ I h) λv s1 ⟨x,H1,I1,r1,q1⟩=>⟨σ,H1,I1,q1⟩) I.quiet hs
def tRet (te:TE):TS:=λD σ H=>te σ H D.rt
theorem wr (he:PE X e te):PS X (.Return (some e) pos) (tRet te):=by
 intro pins s σ H D I h
 exact wpAny_Return_some (thn (he pins s σ H _ I h) λv s1 ⟨x,H1,I1,r1,q1⟩=>⟨x,σ,H1,I1,r1,q1⟩)
def tIfS (c:TT)(t u:TS):TS:=λD σ H=>c σ H λb H1=>if b=true then t D σ H1 else u D σ H1
theorem xz {c:Expr}{a b:List Stmt}{tc:TT}(hc:PT X c tc)(ha:PSs X a t)(hb:PSs X b u):PS X (.If c a b pos) (tIfS tc t u):=by
 intro pins s σ H D I h
 refine wpAny_If (thn (hc pins s σ H _ I h) λd s1 ⟨H1,I1,q1⟩=>?_)
 cases d with
 |true=>exact ha pins s1 σ H1 D I1 q1
 |false=>exact hb pins s1 σ H1 D I1 q1
end
abbrev TG:=V→St→Hp→(St→Hp→Prop)→Prop
abbrev TGs:=List V→St→Hp→(St→Hp→Prop)→Prop
def PG (X:Cx)(target:Expr)(t:TG):Prop :=
 ∀(pins:List (Aj×Obj)) (s:Ab) (σ:St) (H:Hp) (v:V) (u:Ag) (Q:St→Hp→Prop),Inv X pins σ H s→xx v u→t v σ H Q →
  wpAny (model X.prog X.w) X.A (assign target X.env u) (λ_ s'=>∃σ' H',Inv X pins σ' H' s'∧Q σ' H') X.xe s
def PGs (X:Cx)(ts:List Expr)(t:TGs):Prop :=
 ∀(pins:List (Aj×Obj)) (s:Ab) (σ:St) (H:Hp) (vs:List V) (us:List Ag) (Q:St→Hp→Prop),Inv X pins σ H s→Vals vs us→t vs σ H Q →
  wpAny (model X.prog X.w) X.A (assignInOrder ((assignEach ts X.env).map (·.2)) us) (λ_ s'=>∃σ' H',Inv X pins σ' H' s'∧Q σ' H') X.xe s
section
variable {X:Cx}{pos:Pos}
def qv7 (i:Nat):TG:=λv σ H Q=>Q (σ.set i (some v)) H
theorem xq {i:Nat}{x:Str}(hN:X.N.Nodup)(hi:X.N[i]?=some x)(hx:Loc X.env.scope x)(hf:X.fn x=true∨X.env.scope.names.lookup x=some .local:=by first | exact .inl rfl | exact .inr rfl | assumption):PG X (.Name x pos) (qv7 i):=by
 intro pins s σ H v u Q I r h
 exact wpAny_assign_Name (v9 I hN hi hx r (λs' I'=>⟨_,H,I',h⟩) hf)
def gNil:TGs:=λvs σ H Q=>vs=[]∧Q σ H
def gCons (t:TG)(u:TGs):TGs:=λvs σ H Q=>∃v r,vs=v::r∧t v σ H λσ' H'=>u r σ' H' Q
theorem zr:PGs X [] gNil:=by
 intro pins s σ H vs us Q I r h
 obtain ⟨e,h⟩:=h
 subst e
 cases r
 exact assignInOrder_nil ⟨σ,H,I,h⟩
theorem xv {e:Expr}{es:List Expr}{t:TG}{u:TGs}(h1:PG X e t)(h2:PGs X es u)
  (hs:(assignEach (e::es) X.env).map (·.2)=assign e X.env::(assignEach es X.env).map (·.2):=by rfl):PGs X (e::es) (gCons t u):=by
 intro pins s σ H vs us Q I r h
 obtain ⟨v,vr,e1,h⟩:=h
 subst e1
 cases r with
 |cons r rr =>
  rw [hs]
  refine cx (thn (h1 pins s σ H _ _ _ I r h) λ_ s1 ⟨σ1,H1,I1,q1⟩=>?_)
  exact h2 pins s1 σ1 H1 _ _ Q I1 rr q1
def gTup (K:Aa)(n:Nat)(t:TGs):TG:=λv σ H Q=>∃a xs,v=.ref a∧SqT K H a xs∧xs.length=n∧t xs σ H Q
theorem vc {es:List Expr}{k:Nat}{t:TGs}{n:Nat}(hc:X.calm=true)(h:PGs X es t)
  (hn:(assignEach es X.env).length=n:=by rfl) (hst:(assignEach es X.env).findIdx? (·.1)=none:=by rfl):PG X (.Tuple es k pos) (gTup X.K n t):=by
 intro pins s σ H v u Q I r hw
 obtain ⟨a,xs,e1,hq,hl,hw⟩:=hw
 subst e1
 cases r
 obtain ⟨its,rv,ht,hz⟩:=I.tuple hq
 refine assign_Tuple_tuple (I.ok.hd hc) ht (by simp [hn,←hl,rv.length]) hst λh' hx=>?_
 have I1:Inv X pins σ H { s with heap:=h' }:=I.kept (t':=s.toks) λb o e=>hx b o (al (ae e)) e
 exact h pins _ σ H xs _ Q I1 (by simpa using rv) hw
def tAsg (te:TE)(g:TG):TS:=λD σ H=>te σ H λx H1=>g x σ H1 D.nx
theorem vn {tg e:Expr}{te:TE}{g:TG}(he:PE X e te)(hg:PG X tg g)(hs:swapsWithSole [tg] e pos.line X.env=pure false:=by rfl)(hw:swappedStores [tg] e X.env=pure none:=by rfl)
  (h1:(assignEach [tg] X.env).map (·.2)=[assign tg X.env]:=by rfl):PS X (.Assign [tg] e pos) (tAsg te g):=by
 intro pins s σ H D I h
 refine wpAny_Assign_stores (thn (he pins s σ H _ I h) λv s1 ⟨x,H1,I1,r1,q1⟩=>?_) hs hw
 rw [h1]
 exact thn (hg pins s1 σ H1 x v _ I1 r1 q1) λ_ s2 q=>q
theorem wp {i:Nat}{x:Str}{e:Expr}{te:TE}{pos':Pos}(hN:X.N.Nodup)(hi:X.N[i]?=some x)(hx:Loc X.env.scope x)(he:PE X e te)(hs:swapsWith e (some (.Name x pos')) pos.line X.env=pure false:=by rfl)(hf:X.fn x=true∨X.env.scope.names.lookup x=some .local:=by first | exact .inl rfl | exact .inr rfl | assumption) :
  PS X (.Assign [.Name x pos'] e pos) (tAsg te (qv7 i)):=by
 intro pins s σ H D I h
 refine wpAny_Assign_Name (thn (he pins s σ H _ I h) λv s1 ⟨y,H1,I1,r1,q1⟩=>?_) hs
 exact v9 I1 hN hi hx r1 (λs2 I2=>⟨_,H1,I2,q1⟩) hf
def tPar (i j:Nat)(ta:TA):TS:=λD σ H=>ta σ H λvs H1=>∃v w,vs=[v,w]∧D.nx ((σ.set i (some v)).set j (some w)) H1
theorem ps_par {i j:Nat}{x y:Str}{a b:Expr}{ta:TA}{px py pt:Pos}{kt k2 pt2}(hc:X.calm=true)(hN:X.N.Nodup)(hi:X.N[i]?=some x)(hj:X.N[j]?=some y)(hij:i≠j)
  (hx:X.env.scope.names.lookup x=some .local) (hy:X.env.scope.names.lookup y=some .local) (ha:PA X [a,b] ta)
  (hw:swappedStores [.Tuple [.Name x px,.Name y py] kt pt] (.Tuple [a,b] k2 pt2) X.env=pure (some [x,y]))
  (hs:swapsWithSole [.Tuple [.Name x px,.Name y py] kt pt] (.Tuple [a,b] k2 pt2) pos.line X.env=pure false:=by rfl) :
  PS X (.Assign [.Tuple [.Name x px,.Name y py] kt pt] (.Tuple [a,b] k2 pt2) pos) (tPar i j ta):=by
 intro pins s σ H D I h
 rw [exec_Assign_arm]
 refine aa (cI ?_)
 rw [hs]
 refine aa (ag ?_)
 rw [ao (by decide)]
 refine aa (Tuple_ (thn (ha _ pins s σ H _ I h) λus s1 ⟨vs,H1,I1,r1,q1⟩=>?_))
 obtain ⟨v,w,e1,q1⟩:=q1
 subst e1
 obtain ⟨u1,u2,rfl,rv,rw'⟩:∃u1 u2,us=[u1,u2]∧xx v u1∧xx w u2:=by
  cases r1 with
  |cons p q =>
   cases q with
   |cons p' q' =>
    cases q'
    exact ⟨_,_,rfl,p,p'⟩
 refine br ?_ (by show 2≤sizeLine;decide)
 have I2:Inv X pins σ H1 { s1 with heap:=s1.heap.push { cls:=.type "tuple",data:=.seq [u1,u2].toArray } }:=I1.kept (t':=s1.toks) λb o e=>ac _ e
 rw [hw]
 refine aa (ag ?_)
 show wpAny (model X.prog X.w) X.A (do rule "assign.swapped-stores";let items ←unpackItems (.ref s1.heap.objs.size) 2 none;assignInOrder [λv=>bindName X.env y v,λv=>bindName X.env x v] items.reverse;pure Flow.next) _ _ _
 refine aa (wpAny_rule (aa (unpackItems_tuple (items:=#[u1,u2]) (I.ok.hd hc) (IsTup.new s1.heap _) λh' hx'=>?_)))
 have I3:=I2.kept (h':=h') (t':=s1.toks) λb o e=>hx' b o (al (ae e)) e
 show wpAny _ _ (assignInOrder [λv=>bindName X.env y v,λv=>bindName X.env x v] [u2,u1] >>= λ_=>pure Flow.next) _ _ _
 refine aa (cx (wpAny_bindName (v9 I3 hN hj (.inl hy) rw' (λs2 I4=>?_) (.inr hy))))
 refine cx (wpAny_bindName (v9 I4 hN hi (.inl hx) rv (λs3 I5=>assignInOrder_nil (ag ?_)) (.inr hx)))
 rw [List.set_comm _ _ (aT hij)] at I5
 exact ⟨_,H1,I5,q1⟩
end
section
variable {X:Cx}{pos:Pos}
def qqf (c:TT)(tb:TS):TS:=λD σ H=>∃W:Nat→St→Hp→Prop,(∃m,W m σ H)∧∀m σ H,W m σ H →
 c σ H λb H1=>if b=true then ∃N:St→Hp→Prop,(∀σ' H',N σ' H'→∃m',m'<m∧W m' σ' H')∧tb { D with nx:=N,ct:=N,bk:=D.nx } σ H1 else D.nx σ H1
theorem Qf {c:Expr}{body:List Stmt}{tc:TT}{tb:TS}(hp:PassesOwn (model X.prog X.w) X.A X.env X.xe)(hc:PT X c tc)(hb:PSs X body tb):PS X (.While c body [] pos) (qqf tc tb):=by
 intro pins s σ H D I h
 obtain ⟨W,⟨m0,w0⟩,turn⟩:=h
 refine wpAny_While (codeAny_whileLoop (λn s'=>∃σ' H',Inv X pins σ' H' s'∧W n σ' H') ?_ m0 ⟨σ,H,I,w0⟩)
 rintro n s1 ⟨σ1,H1,I1,w1⟩
 refine bj hp (thn (hc pins s1 σ1 H1 _ I1 (turn n σ1 H1 w1)) λb s2 ⟨H2,I2,q2⟩=>?_)
 cases b with
 |true =>
  obtain ⟨N,hN,q2⟩:=q2
  rw [av rfl]
  refine bj hp (thn (hb pins s2 σ1 H2 _ I2 q2) λf s3 q3=>?_)
  cases f with
  |next =>
   obtain ⟨σ3,H3,I3,n3⟩:=q3
   obtain ⟨m',hm,w3⟩:=hN σ3 H3 n3
   exact ⟨m',hm,σ3,H3,I3,w3⟩
  |cont =>
   obtain ⟨σ3,H3,I3,n3⟩:=q3
   obtain ⟨m',hm,w3⟩:=hN σ3 H3 n3
   exact ⟨m',hm,σ3,H3,I3,w3⟩
  |brk=>exact q3
  |ret v=>exact q3
 |false =>
  rw [ao aj]
  exact bM ⟨σ1,H2,I2,q2⟩
end
structure It where
 go:Nat→Hp→Prop
 yld:Nat→Hp→V→Hp→Prop
 stop:Nat→Hp→Prop
def v5 (X:Cx)(pins:List (Aj×Obj))(H:Hp)(b:Aj):Prop :=
 H b=none∧b≠X.env.locals∧b∉X.fs∧(b∈X.ex∨X.s₀.heap.objs.size≤b)∧(∀x c,X.env.cells.lookup x=some c→c≠b)∧∀p∈X.pn++pins,p.1≠b
theorem Inv.fpOk {X:Cx}{pins:List (Aj×Obj)}{σ:St}{H H':Hp}{s:Ab}{b:Aj}(I:Inv X pins σ H s)(hb:s.heap.objs.size≤b)(hn:H' b=none):v5 X pins H' b:=by
 refine ⟨hn,Nat.ne_of_gt (am I.lt hb),I.nofs hb,.inr (aZ I.sz hb),λx c e z=>?_,λp hp z=>?_⟩
 ·obtain ⟨v,q⟩:=I.cell x c e
  exact absurd (am q.lt (by rw [z];exact hb)) (aI _)
 ·exact absurd (am (ae (I.pin p hp).1) (by rw [z];exact hb)) (aI _)
structure Turn (P:Ac)(w:Ah)(K:Aa)(tg:Expr)(J:It)(fp:List Aj)(it:Aj)(tn:Nat→Heap→Prop):Prop where
 mem:it∈fp
 obj:∀i h,tn i h→∀b∈fp,∃o,h.get? b=some o∧∀v,o.data≠.cell v
 keep:∀i h h',tn i h→(∀b∈fp,∀o,h.get? b=some o→h'.get? b=some o)→tn i h'
 item:∀(X:Cx),X.prog=P→X.w=w→X.K=K→X.calm=true→∀(i:Nat) (pins:List (Aj×Obj)) (s:Ab) (σ:St) (H:Hp) (E:Ag→Ab→Prop),Inv X pins σ H s→(∀b∈fp,v5 X pins H b)→tn i s.heap→J.go i H →
  wpAny (model P w) X.A (pyNext (.ref it)) (λr s1=>∃u,r=some u ∧
   wpAny (model P w) X.A (letOwnedTupleGo tg (.ref it) u) (λ_ s2=>∃x H',Inv X pins σ H' s2∧xx x u∧J.yld i H x H'∧tn (i+1) s2.heap∧∀b∈fp,H' b=none) E s1) E s
 done:∀(X:Cx),X.prog=P→X.w=w→X.K=K→X.calm=true→∀(i:Nat) (pins:List (Aj×Obj)) (s:Ab) (σ:St) (H:Hp) (E:Ag→Ab→Prop),Inv X pins σ H s→(∀b∈fp,v5 X pins H b)→tn i s.heap→J.stop i H →
  wpAny (model P w) X.A (pyNext (.ref it)) (λr s1=>r=none∧Inv X pins σ H s1) E s
 self:∀(A:Ae) (i:Nat) (s:Ab) (Q:Ag→Ab→Prop) (E:Ag→Ab→Prop),tn i s.heap→Q (.ref it) s→wpAny (model P w) A (pyIter (.ref it)) Q E s
abbrev TI:=St→Hp→(It→Hp→Prop)→Prop
def PIE (X:Cx)(pins:List (Aj×Obj))(σ:St)(tg:Expr)(R:It→Hp→Prop)(itv:Ag)(s2:Ab):Prop :=
 ∃(it:Aj) (fp:List Aj) (tn:Nat→Heap→Prop) (J:It) (H':Hp),itv=.ref it∧Inv X pins σ H' s2∧Turn X.prog X.w X.K tg J fp it tn∧tn 0 s2.heap∧(∀b∈fp,v5 X pins H' b)∧R J H'
def PI (X:Cx)(tg iter:Expr)(wi:TI):Prop :=
 ∀(pins:List (Aj×Obj)) (s:Ab) (σ:St) (H:Hp) (R:It→Hp→Prop),Inv X pins σ H s→wi σ H R →
  wpAny (model X.prog X.w) X.A (eval iter X.env) (λv s1=>wpAny (model X.prog X.w) X.A (pyIter v) (PIE X pins σ tg R) X.xe s1) X.xe s
theorem qwc {M:Model}{A:Ae}{E:Ag→Ab→Prop}{s:Ab}{tg:Expr}{it:Aj}{u:Ag}{o:Obj}{n:String}{vs:Array Ag}{Q:Unit→Ab→Prop}(ho:s.heap.get? it=some o)(hc:o.cls=.type n)(hd:o.data=.fields vs)
  (hn:["enumerate","zip","dict_itemiterator","dict_reverseitemiterator","odict_iterator","itertools.zip_longest","itertools.pairwise"].contains n=false) (hQ:Q () s):wpAny M A (letOwnedTupleGo tg (.ref it) u) Q E s:=by
 unfold letOwnedTupleGo
 cases tg <;> first
  |exact ag hQ
  |(cases u <;> first
    |exact ag hQ
    |(refine aa (wpAny_load ho ?_)
      rw [hc,hd]
      show wpAny M A (if (["enumerate","zip","dict_itemiterator","dict_reverseitemiterator","odict_iterator","itertools.zip_longest","itertools.pairwise"].contains n&&vs[0]?==some (rawInt _))=true then _ else _) Q E s
      rw [ao (by intro h;rw [hn,Bool.false_and] at h;cases h)]
      exact ag hQ))
def Itr (lo:Int)(n:Nat):It:=⟨λi _=>i<n,λi H x H'=>H'=H∧x=.int (lo+i),λi _=>n≤i⟩
theorem qqv {P:Ac}{w:Ah}{K:Aa}{tg:Expr}(it:Aj)(lo:Int)(n:Nat):Turn P w K tg (Itr lo n) [it] it (λi h=>IsRangeIter h it (lo+(i:Nat)*1) ((n:Int)-(i:Nat)) 1) where
 mem:=by simp
 obj:=λi h st b hb=>by
  have e:b=it:=by simpa using hb
  subst e
  exact ⟨_,st,λv z=>by
   have z':Data.fields _=Data.cell v:=z
   cases z'⟩
 keep:=λi h h' st k=>k it (by simp) _ st
 item:=by
  intro X hP hw hK hc i pins s σ H E I hf st hg
  subst hP hw hK
  obtain ⟨f0,f1,f2,f3,f4,f5⟩:=hf it (by simp)
  have W:=Walks.range (prog:=X.prog) (w:=X.w) (I.ok.hd hc) it lo 1 n
  refine W.item i s _ _ hg st λv h' tk hv st' kk=>?_
  obtain ⟨t,rfl⟩:=hv
  have I1:Inv X pins σ H { s with heap:=h',toks:=tk }:=I.turned (λb o hb e=>kk b o (by simpa using hb) e) f0 f1 f3 f4 f5
  refine ⟨_,rfl,qwc (s:={ s with heap:=h',toks:=tk }) (n := "range_iterator") st' rfl rfl (by decide) ⟨.int (lo+i),H,I1,⟨t,?_⟩,⟨rfl,rfl⟩,st',λb hb=>(hf b hb).1⟩⟩
  rw [Int.mul_one]
 done:=by
  intro X hP hw hK hc i pins s σ H E I hf st hg
  subst hP hw hK
  obtain ⟨f0,f1,f2,f3,f4,f5⟩:=hf it (by simp)
  exact wpAny_pyNext_range_end (I.ok.hd hc) st (by have:n≤i:=hg;lia) λh' eb=>⟨rfl,I.turned (t':=s.toks) (λb o hb e=>eb b o hb e) f0 f1 f3 f4 f5⟩
 self:=λ_ _ _ _ _ st h=>wpAny_pyIter_rangeiter st h
section
variable {X:Cx}{tg:Expr}
theorem qvb {pins:List (Aj×Obj)}{σ:St}{H:Hp}{s:Ab}{R:It→Hp→Prop}{E:Ag→Ab→Prop}{lo hi:Int}{t u v:Tok}{tk:Nat}(I:Inv X pins σ H s)(h1:-(2 ^ 62)≤lo)(h2:lo<2 ^ 62)(h3:-(2 ^ 62)≤hi)(h4:hi<2 ^ 62)
  (q:R (Itr lo (hi-lo).toNat) H):wpAny (model X.prog X.w) X.A (pyIter (.ref s.heap.objs.size)) (PIE X pins σ tg R) E { s with heap:=s.heap.push { cls:=.type "range",data:=.fields #[.int lo t,.int hi u,.int 1 v] },toks:=tk }:=by
 refine wpAny_pyIter_range (IsRange.new ..) (small_one h1 h2 h3 h4) ?_
 have I1:Inv X pins σ H { s with heap:=s.heap.push { cls:=.type "range",data:=.fields #[.int lo t,.int hi u,.int 1 v] },toks:=tk }:=I.kept λb o e=>ac _ e
 refine ⟨(s.heap.push { cls:=.type "range",data:=.fields #[.int lo t,.int hi u,.int 1 v] }).objs.size,[(s.heap.push { cls:=.type "range",data:=.fields #[.int lo t,.int hi u,.int 1 v] }).objs.size],_,_,H,rfl,
  I1.kept (t':=tk) λb o e=>ac _ e,qqv _ lo (hi-lo).toNat,?_,λb hb=>?_,q⟩
 ·have e1:lo+((0:Nat):Int)*1=lo:=by simp
  have e2:(((hi-lo).toNat:Nat):Int)-((0:Nat):Int)=Builtin.Range.rangeSize lo hi 1:=by rw [rangeSize_one];split <;> lia
  show IsRangeIter _ _ (lo+((0:Nat):Int)*1) ((((hi-lo).toNat:Nat):Int)-((0:Nat):Int)) 1
  rw [e1,e2]
  exact ai _ rfl
 ·have e:b=(s.heap.push { cls:=.type "range",data:=.fields #[.int lo t,.int hi u,.int 1 v] }).objs.size:=by simpa using hb
  subst e
  exact I1.fpOk (af _) (I1.hok.fresh (af _))
def iRng1 (ta:TA):TI:=λσ H R=>ta σ H λvs H1=>∃j:Int,vs=[.int j]∧-(2 ^ 62)≤j∧j<2 ^ 62∧R (Itr 0 j.toNat) H1
theorem zx {a:Expr}{ta:TA}{p pos:Pos}(hg:Gl X "range")(hm:X.mg "range" = none)(ha:PA X [a] ta)(hs:starEach [a] X.env=[(false,eval a X.env)]:=by rfl):PI X tg (.Call (.Name "range" p) [a] [] pos) (iRng1 ta):=by
 intro pins s σ H R I h
 refine Call_ (qqs I hg hm boot_range (cm (thn (ha pos pins s σ H _ I h) λus s1 ⟨vs,H1,I1,r1,q1⟩=>?_) hs rfl))
 obtain ⟨j,e,q1,q2,q⟩:=q1
 subst e
 cases r1 with
 |cons r rr =>
  cases rr
  obtain ⟨t,rfl⟩:=r
  exact call_range_1 (qvb I1 (by lia) (by lia) q1 q2 (by simpa using q))
def tFor (wi:TI)(g:TG)(tb:TS):TS:=λD σ H=>wi σ H λJ H1=>∃W:Nat→Nat→St→Hp→Prop,(∃m,W 0 m σ H1)∧∀i m σ H,W i m σ H →
 (J.stop i H∧D.nx σ H)∨(J.go i H∧∃N:St→Hp→Prop,(∀σ' H',N σ' H'→∃m',m'<m∧W (i+1) m' σ' H')∧∀x H',J.yld i H x H'→g x σ H' λσ2 H2=>tb { D with nx:=N,ct:=N,bk:=D.nx } σ2 H2)
def Yu (fp:List Aj)(h:Heap):List (Aj×Obj):=fp.filterMap λb=>(h.get? b).map λo=>(b,o)
theorem vp {fp:List Aj}{h:Heap}{b:Aj}{o:Obj}(hb:b∈fp)(e:h.get? b=some o):(b,o)∈Yu fp h:=cy.mpr ⟨b,hb,by rw [e];rfl⟩
theorem qx0 {fp:List Aj}{h:Heap}{p:Aj×Obj}(hp:p∈Yu fp h):p.1∈fp∧h.get? p.1=some p.2:=by
 obtain ⟨b,hb,e⟩:=cy.mp hp
 cases q:h.get? b with
 |none=>rw [q] at e;cases e
 |some o =>
  rw [q] at e
  have e':(b,o)=p:=ak e
  subst e'
  exact ⟨hb,q⟩
theorem Inv.pinned {pins:List (Aj×Obj)}{σ:St}{H:Hp}{s:Ab}{fp:List Aj}(I:Inv X pins σ H s)(hf:∀b∈fp,v5 X pins H b)(ho:∀b∈fp,∃o,s.heap.get? b=some o∧∀v,o.data≠.cell v):Inv X (pins++Yu fp s.heap) σ H s :=
 I.pins_of λp hp=>(bc.mp hp).elim (λz=>I.pin p (ar _ z)) λz=>by
  obtain ⟨hb,e⟩:=qx0 z
  obtain ⟨f0,f1,f2,_⟩:=hf p.1 hb
  obtain ⟨o,e',d⟩:=ho p.1 hb
  rw [e] at e';cases e'
  exact ⟨e,f0,f1,f2,d⟩
theorem Inv.unpinned {pins pl:List (Aj×Obj)}{σ:St}{H:Hp}{s:Ab}(I:Inv X (pins++pl) σ H s):Inv X pins σ H s:=I.pins_of λp hp=>I.pin p (ar _ (bH _ hp))
theorem Wx {iter:Expr}{body:List Stmt}{wi:TI}{g:TG}{tb:TS}{pos:Pos}(hp:PassesOwn (model X.prog X.w) X.A X.env X.xe)(hc:X.calm=true)(hi:PI X tg iter wi)(hg:PG X tg g)(hb:PSs X body tb)
  (hs:∀x,foldedSetIterable iter X.env x=pure x:=by intro _;rfl):PS X (.For tg iter body [] pos) (tFor wi g tb):=by
 intro pins s σ H D I h
 refine wpAny_For (thn (hi pins s σ H _ I h) λv s1 h1=>thn h1 λitv s2 h2=>?_) hs
 obtain ⟨it,fp,tn,J,H2,e,I2,T,st2,f2,W,⟨m0,w0⟩,turn⟩:=h2
 subst e
 have stat:∀ {H':Hp},(∀b∈fp,H' b=none)→∀b∈fp,v5 X pins H' b:=λhn b hb=>⟨hn b hb,(f2 b hb).2⟩
 refine codeAny_forLoop_any (λn s'=>∃i σ' H',Inv X pins σ' H' s'∧tn i s'.heap∧(∀b∈fp,H' b=none)∧W i n σ' H') ?_ m0 ⟨0,σ,H2,I2,st2,λb hb=>(f2 b hb).1,w0⟩
 rintro n s3 ⟨i,σ3,H3,I3,st3,fr3,w3⟩
 rcases turn i n σ3 H3 w3 with ⟨stop,qn⟩|⟨go,N,hN,step⟩
 ·refine bj hp (thn (T.done X rfl rfl rfl hc i pins s3 σ3 H3 X.xe I3 (stat fr3) st3 stop) λr s4 ⟨hr,I4⟩=>?_)
  subst hr
  exact bM ⟨σ3,H3,I4,qn⟩
 ·refine bj hp (thn (T.item X rfl rfl rfl hc i pins s3 σ3 H3 X.xe I3 (stat fr3) st3 go) λr s4 ⟨u,hr,h4⟩=>?_)
  subst hr
  refine bj hp (thn h4 λ_ s5 ⟨x,H5,I5,r5,y5,st5,fr5⟩=>?_)
  have I5':=I5.pinned (stat fr5) (T.obj _ _ st5)
  refine bj hp (thn (hg _ s5 σ3 H5 x u _ I5' r5 (step x H5 y5)) λ_ s6 ⟨σ6,H6,I6,q6⟩=>?_)
  refine bj hp (thn (hb _ s6 σ6 H6 _ I6 q6) λf s7 q7=>?_)
  have again:∀ {σ7:St} {H7:Hp},Inv X (pins++Yu fp s5.heap) σ7 H7 s7→N σ7 H7→∃m,m<n∧∃i σ' H',Inv X pins σ' H' s7∧tn i s7.heap∧(∀b∈fp,H' b=none)∧W i m σ' H':=λ{σ7 H7} I7 n7=>by
   obtain ⟨m',hm,w7⟩:=hN σ7 H7 n7
   refine ⟨m',hm,i+1,σ7,H7,I7.unpinned,T.keep _ _ _ st5 λb hb o e=>(I7.pin (b,o) (ar _ (ar _ (vp hb e)))).1,λb hb=>?_,w7⟩
   obtain ⟨o,e,d⟩:=T.obj _ _ st5 b hb
   exact (I7.pin (b,o) (ar _ (ar _ (vp hb e)))).2.1
  cases f with
  |next=>obtain ⟨σ7,H7,I7,n7⟩:=q7;exact again I7 n7
  |cont=>obtain ⟨σ7,H7,I7,n7⟩:=q7;exact again I7 n7
  |brk=>obtain ⟨σ7,H7,I7,q7⟩:=q7;exact ⟨σ7,H7,I7.unpinned,q7⟩
  |ret v=>obtain ⟨x7,σ7,H7,I7,r7,q7⟩:=q7;exact ⟨x7,σ7,H7,I7.unpinned,r7,q7⟩
end
theorem jx {lo:Int}{n:Nat}{g:TG}{tb:TS}{D:Ends}{σ:St}{H:Hp}(Pv:Nat→St→Hp→Prop)(h0:Pv 0 σ H)
  (hs:∀i σ H,i<n→Pv i σ H→g (.int (lo+i)) σ H λσ2 H2=>tb { D with nx:=Pv (i+1),ct:=Pv (i+1),bk:=D.nx } σ2 H2) (hd:∀σ H,Pv n σ H→D.nx σ H) :
  ∃W:Nat→Nat→St→Hp→Prop,(∃m,W 0 m σ H)∧∀i m σ H,W i m σ H →
   ((Itr lo n).stop i H∧D.nx σ H)∨((Itr lo n).go i H∧∃N:St→Hp→Prop,(∀σ' H',N σ' H'→∃m',m'<m∧W (i+1) m' σ' H')∧∀x H',(Itr lo n).yld i H x H'→g x σ H' λσ2 H2=>tb { D with nx:=N,ct:=N,bk:=D.nx } σ2 H2):=by
 refine ⟨λi m σ H=>m=n-i∧i≤n∧Pv i σ H,⟨n,by simp,aJ _,h0⟩,?_⟩
 rintro i m σ H ⟨rfl,hi,p⟩
 by_cases hlt:i<n
 ·refine .inr ⟨hlt,Pv (i+1),λσ' H' p'=>⟨n-(i+1),by lia,rfl,hlt,p'⟩,λx H' y=>?_⟩
  obtain ⟨e,y⟩:=y
  subst e y
  exact hs i σ _ hlt p
 ·have e:i=n:=by lia
  subst e
  exact .inl ⟨af _,hd σ H p⟩
theorem Qn {c:TT}{tb:TS}{D:Ends}{σ:St}{H:Hp}(Pv:St→Hp→Prop)(μ:St→Hp→Nat)(h0:Pv σ H)
  (hs:∀σ H,Pv σ H→c σ H λb H1=>if b=true then tb { D with nx:=λσ' H'=>Pv σ' H'∧μ σ' H'<μ σ H,ct:=λσ' H'=>Pv σ' H'∧μ σ' H'<μ σ H,bk:=D.nx } σ H1 else D.nx σ H1)
  (mono:∀σ H Q Q',(∀b H1,Q b H1→Q' b H1)→c σ H Q→c σ H Q'):qqf c tb D σ H:=by
 refine ⟨λm σ H=>m=μ σ H∧Pv σ H,⟨_,rfl,h0⟩,?_⟩
 rintro m σ H ⟨rfl,p⟩
 refine mono σ H _ _ (λb H1 q=>?_) (hs σ H p)
 cases b with
 |true=>exact ⟨_,λσ' H' ⟨p',l⟩=>⟨_,l,rfl,p'⟩,q⟩
 |false=>exact q
abbrev R2:=V→V→Hp→VK→Prop
def OpR (X:Cx)(f:Ag→Ag→Sem Ag)(r:R2):Prop :=
 ∀(pins:List (Aj×Obj)) (s:Ab) (σ:St) (H:Hp) (x y:V) (v u:Ag) (Q:VK),Inv X pins σ H s→xx x v→xx y u→r x y H Q →
  wpAny (model X.prog X.w) X.A (f v u) (EP X pins σ Q) X.xe s
def UnR (X:Cx)(f:Ag→Sem Ag)(r:V→Hp→VK→Prop):Prop :=
 ∀(pins:List (Aj×Obj)) (s:Ab) (σ:St) (H:Hp) (x:V) (v:Ag) (Q:VK),Inv X pins σ H s→xx x v→r x H Q →
  wpAny (model X.prog X.w) X.A (f v) (EP X pins σ Q) X.xe s
def vf (X:Cx)(f:Ag)(r:List V→Hp→VK→Prop):Prop :=
 ∀(pins:List (Aj×Obj)) (s:Ab) (σ:St) (H:Hp) (xs:List V) (us:List Ag) (Q:VK),Inv X pins σ H s→Vals xs us→r xs H Q →
  wpAny (model X.prog X.w) X.A (call f us) (EP X pins σ Q) X.xe s
def tOp (r:R2)(ta tb:TE):TE:=λσ H Q=>ta σ H λx H1=>tb σ H1 λy H2=>r x y H2 Q
def tUn (r:V→Hp→VK→Prop)(ta:TE):TE:=λσ H Q=>ta σ H λx H1=>r x H1 Q
def rI (C:Int→Int→Prop)(g:Int→Int→V):R2:=λx y H Q=>∃i j,x=.int i∧y=.int j∧C i j∧Q (g i j) H
def rI0 (g:Int→Int→V):R2:=λx y H Q=>∃i j,x=.int i∧y=.int j∧Q (g i j) H
def rU (g:Int→V):V→Hp→VK→Prop:=λx H Q=>∃i,x=.int i∧Q (g i) H
section
variable {X:Cx}{a b c:Expr}{ta tb tc:TE}{pos:Pos}
theorem binT (ha:PE X a ta)(hb:PE X b tb){pins:List (Aj×Obj)}{s:Ab}{σ:St}{H:Hp}{R:V→V→Hp→Prop}(I:Inv X pins σ H s)
  (h:ta σ H λx H1=>tb σ H1 λy H2=>R x y H2) {Q:Ag→Ab→Prop} {f:Ag→Ag→Sem Ag}
  (hf:∀v u s2 x y H2,Inv X pins σ H2 s2→xx x v→xx y u→R x y H2→wpAny (model X.prog X.w) X.A (f v u) Q X.xe s2) :
  wpAny (model X.prog X.w) X.A (eval a X.env) (λv s₁=>wpAny (model X.prog X.w) X.A (eval b X.env) (λu s₂=>wpAny (model X.prog X.w) X.A (f v u) Q X.xe s₂) X.xe s₁) X.xe s:=by
 refine thn (ha pins s σ H _ I h) λv s1 ⟨x,H1,I1,r1,q1⟩=>?_
 refine thn (hb pins s1 σ H1 _ I1 q1) λu s2 ⟨y,H2,I2,r2,q2⟩=>?_
 exact hf v u s2 x y H2 I2 r1 r2 q2
theorem wu {op:Operator}{r:R2}(ho:OpR X (binaryOp op) r)(ha:PE X a ta)(hb:PE X b tb):PE X (.BinOp a op b pos) (tOp r ta tb):=by
 intro pins s σ H Q I h
 exact wpAny_BinOp (binT ha hb I h λv u s2 x y H2 I2 rx ry q=>ho pins s2 σ H2 x y v u Q I2 rx ry q)
theorem qwh {op:UnaryOp}{r:V→Hp→VK→Prop}(ho:UnR X (unaryOp op) r)(ha:PE X a ta):PE X (.UnaryOp op a pos) (tUn r ta):=by
 intro pins s σ H Q I h
 exact UnaryOp_ (thn (ha pins s σ H _ I h) λv s1 ⟨x,H1,I1,r1,q1⟩=>ho pins s1 σ H1 x v Q I1 r1 q1)
theorem opI {f:Ag→Ag→Sem Ag}{C:Int→Int→Prop}{g:Int→Int→Int}
  (rule:∀(i j:Int) (t u:Tok) (s:Ab) (Q:Ag→Ab→Prop) (E:Ag→Ab→Prop),C i j→Q (.int (g i j) s.toks) { s with toks:=s.toks+1 }→wpAny (model X.prog X.w) X.A (f (.int i t) (.int j u)) Q E s) :
  OpR X f (rI C λi j=>.int (g i j)):=by
 intro pins s σ H x y v u Q I rx ry h
 obtain ⟨i,j,rfl,rfl,hc,q⟩:=h
 obtain ⟨t,rfl⟩:=rx
 obtain ⟨t',rfl⟩:=ry
 exact rule i j t t' s _ _ hc ⟨.int (g i j),H,I.tok _,⟨_,rfl⟩,q⟩
theorem opI0 {f:Ag→Ag→Sem Ag}{g:Int→Int→Int}
  (rule:∀(i j:Int) (t u:Tok) (s:Ab) (Q:Ag→Ab→Prop) (E:Ag→Ab→Prop),Q (.int (g i j) s.toks) { s with toks:=s.toks+1 }→wpAny (model X.prog X.w) X.A (f (.int i t) (.int j u)) Q E s) :
  OpR X f (rI0 λi j=>.int (g i j)):=by
 intro pins s σ H x y v u Q I rx ry h
 obtain ⟨i,j,rfl,rfl,q⟩:=h
 obtain ⟨t,rfl⟩:=rx
 obtain ⟨t',rfl⟩:=ry
 exact rule i j t t' s _ _ ⟨.int (g i j),H,I.tok _,⟨_,rfl⟩,q⟩
theorem opB0 {f:Ag→Ag→Sem Ag}{g:Int→Int→Bool}
  (rule:∀(i j:Int) (t u:Tok) (s:Ab) (Q:Ag→Ab→Prop) (E:Ag→Ab→Prop),Q (.bool (g i j)) s→wpAny (model X.prog X.w) X.A (f (.int i t) (.int j u)) Q E s) :
  OpR X f (rI0 λi j=>.bl (g i j)):=by
 intro pins s σ H x y v u Q I rx ry h
 obtain ⟨i,j,rfl,rfl,q⟩:=h
 obtain ⟨t,rfl⟩:=rx
 obtain ⟨t',rfl⟩:=ry
 exact rule i j t t' s _ _ ⟨.bl (g i j),H,I,rfl,q⟩
def CPow (i j:Int):Prop:=0≤j∧j≤1000000∧i.natAbs<2 ^ 64
theorem w8:OpR X (binaryOp .Add) (rI0 λi j=>.int (i+j)):=opI0 λ_ _ _ _ _ _ _ q=>add_int q
theorem zf:OpR X (binaryOp .Sub) (rI0 λi j=>.int (i-j)):=opI0 λ_ _ _ _ _ _ _ q=>sub_int q
theorem zm:OpR X (binaryOp .Mod) (rI (λ_ j=>0<j) λi j=>.int (i%j)):=opI λi j _ _ _ _ _ hc q=>by
 have h1:(0:Int)<j:=hc
 exact mod_int' (by lia) (by rw [Int.fmod_eq_emod_of_nonneg i (by lia)];exact q)
theorem op_pow:OpR X (binaryOp .Pow) (rI CPow λi j=>.int (i ^ j.toNat)):=opI λ_ _ _ _ _ _ _ hc q=>pow_int_small hc.1 hc.2.1 hc.2.2 q
theorem unI {f:Ag→Sem Ag}{g:Int→Int}
  (rule:∀(i:Int) (t:Tok) (s:Ab) (Q:Ag→Ab→Prop) (E:Ag→Ab→Prop),Q (.int (g i) s.toks) { s with toks:=s.toks+1 }→wpAny (model X.prog X.w) X.A (f (.int i t)) Q E s) :
  UnR X f (rU λi=>.int (g i)):=by
 intro pins s σ H x v Q I rx h
 obtain ⟨i,rfl,q⟩:=h
 obtain ⟨t,rfl⟩:=rx
 exact rule i t s _ _ ⟨.int (g i),H,I.tok _,⟨_,rfl⟩,q⟩
theorem Y2:UnR X (unaryOp .USub) (rU λi=>.int (-i)):=unI λ_ _ _ _ _ q=>neg_int q
end
def scal:V→V→Bool
 |.non,.non=>true|.non,.int _=>true|.int _,.non=>true|.non,.bl _=>true|.bl _,.non=>true|.non,.str _=>true|.str _,.non=>true
 |.int _,.int _=>true|.bl _,.bl _=>true|.str _,.str _=>true|.byt _,.byt _=>true
 |.int _,.str _=>true|.str _,.int _=>true|.bl _,.str _=>true|.str _,.bl _=>true
 |_,_=>false
def rEq:R2:=λx y H Q=>scal x y=true∧Q (.bl (decide (x=y))) H
def rNe:R2:=λx y H Q=>scal x y=true∧Q (.bl (!decide (x=y))) H
theorem qwy {i j:Int}:decide (V.int i=V.int j)=(i==j):=by
 rw [bn]
 simp
theorem qv3 {i j:Bool}:decide (V.bl i=V.bl j)=(i==j):=by
 rw [bn]
 simp
theorem qw0 {i j:Str}:decide (V.str i=V.str j)=(i==j):=by
 rw [bn]
 simp
theorem qw7 {i j:Array UInt8}:decide (V.byt i=V.byt j)=(i.toList==j.toList):=by
 rw [bn]
 cases i
 cases j
 simp
section
variable {X:Cx}{a b c:Expr}{ta tb tc:TE}{pos:Pos}
theorem w9 {pins:List (Aj×Obj)}{σ:St}{H:Hp}{s:Ab}{Q:VK}{k k':Bool}(I:Inv X pins σ H s)(q:Q (.bl k) H)(e:k=k'):EP X pins σ Q (.bool k') s:=by
 subst e
 exact ⟨.bl k,H,I,rfl,q⟩
theorem x9:OpR X (compareOp .Eq) rEq:=by
 intro pins s σ H x y v u Q I rx ry h
 obtain ⟨hs,q⟩:=h
 cases x with
 |non =>
  cases rx
  cases y with
  |non=>cases ry;exact PySem.EqNone.eq_none_none (w9 I q (by simp))
  |bl j=>cases ry;exact PySem.EqNone.eq_none_bool (w9 I q (by simp))
  |int j=>obtain ⟨t',rfl⟩:=ry;exact PySem.EqNone.eq_none_int (w9 I q (by simp))
  |str j=>obtain ⟨t',rfl⟩:=ry;exact PySem.EqNone.eq_none_str (w9 I q (by simp))
  |_=>exact absurd (show false=true from hs) aj
 |bl i =>
  cases rx
  cases y with
  |non=>cases ry;exact PySem.EqNone.eq_bool_none (w9 I q (by simp))
  |bl j=>cases ry;exact eq_bool (w9 I q qv3)
  |str j=>obtain ⟨t',rfl⟩:=ry;exact PySem.EqMixed.eq_bool_str (w9 I q (by simp))
  |_=>exact absurd (show false=true from hs) aj
 |int i =>
  obtain ⟨t,rfl⟩:=rx
  cases y with
  |non=>cases ry;exact PySem.EqNone.eq_int_none (w9 I q (by simp))
  |int j=>obtain ⟨t',rfl⟩:=ry;exact eq_int (w9 I q qwy)
  |str j=>obtain ⟨t',rfl⟩:=ry;exact PySem.EqMixed.eq_int_str (w9 I q (by simp))
  |_=>exact absurd (show false=true from hs) aj
 |str i =>
  obtain ⟨t,rfl⟩:=rx
  cases y with
  |non=>cases ry;exact PySem.EqNone.eq_str_none (w9 I q (by simp))
  |bl j=>cases ry;exact PySem.EqMixed.eq_str_bool (w9 I q (by simp))
  |int j=>obtain ⟨t',rfl⟩:=ry;exact PySem.EqMixed.eq_str_int (w9 I q (by simp))
  |str j=>obtain ⟨t',rfl⟩:=ry;exact eq_str (w9 I q qw0)
  |_=>exact absurd (show false=true from hs) aj
 |byt i =>
  obtain ⟨t,rfl⟩:=rx
  cases y with
  |byt j=>obtain ⟨t',rfl⟩:=ry;exact PySem.W.eq_bytes (w9 I q qw7)
  |_=>exact absurd (show false=true from hs) aj
 |_=>cases y <;> exact absurd (show false=true from hs) aj
theorem op_ne:OpR X (compareOp .NotEq) rNe:=by
 intro pins s σ H x y v u Q I rx ry h
 obtain ⟨hs,q⟩:=h
 cases x with
 |non =>
  cases rx
  cases y with
  |non=>cases ry;exact PySem.EqNone.ne_none_none (w9 I q (by simp))
  |bl j=>cases ry;exact PySem.EqNone.ne_none_bool (w9 I q (by simp))
  |int j=>obtain ⟨t',rfl⟩:=ry;exact PySem.EqNone.ne_none_int (w9 I q (by simp))
  |str j=>obtain ⟨t',rfl⟩:=ry;exact PySem.EqNone.ne_none_str (w9 I q (by simp))
  |_=>exact absurd (show false=true from hs) aj
 |bl i =>
  cases rx
  cases y with
  |non=>cases ry;exact PySem.EqNone.ne_bool_none (w9 I q (by simp))
  |bl j=>cases ry;exact ne_bool (w9 I q (cb not qv3))
  |str j=>obtain ⟨t',rfl⟩:=ry;exact PySem.EqMixed.ne_bool_str (w9 I q (by simp))
  |_=>exact absurd (show false=true from hs) aj
 |int i =>
  obtain ⟨t,rfl⟩:=rx
  cases y with
  |non=>cases ry;exact PySem.EqNone.ne_int_none (w9 I q (by simp))
  |int j=>obtain ⟨t',rfl⟩:=ry;exact ne_int (w9 I q (cb not qwy))
  |str j=>obtain ⟨t',rfl⟩:=ry;exact PySem.EqMixed.ne_int_str (w9 I q (by simp))
  |_=>exact absurd (show false=true from hs) aj
 |str i =>
  obtain ⟨t,rfl⟩:=rx
  cases y with
  |non=>cases ry;exact PySem.EqNone.ne_str_none (w9 I q (by simp))
  |bl j=>cases ry;exact PySem.EqMixed.ne_str_bool (w9 I q (by simp))
  |int j=>obtain ⟨t',rfl⟩:=ry;exact PySem.EqMixed.ne_str_int (w9 I q (by simp))
  |str j=>obtain ⟨t',rfl⟩:=ry;exact ne_str (w9 I q (cb not qw0))
  |_=>exact absurd (show false=true from hs) aj
 |byt i =>
  obtain ⟨t,rfl⟩:=rx
  cases y with
  |byt j=>obtain ⟨t',rfl⟩:=ry;exact PySem.W.ne_bytes (w9 I q (cb not qw7))
  |_=>exact absurd (show false=true from hs) aj
 |_=>cases y <;> exact absurd (show false=true from hs) aj
theorem jc:OpR X (compareOp .Lt) (rI0 λi j=>.bl (decide (i<j))):=opB0 λ_ _ _ _ _ _ _ q=>lt_int q
theorem op_le:OpR X (compareOp .LtE) (rI0 λi j=>.bl (decide (i≤j))):=opB0 λ_ _ _ _ _ _ _ q=>le_int q
theorem Wk:OpR X (compareOp .Gt) (rI0 λi j=>.bl (decide (j<i))):=opB0 λ_ _ _ _ _ _ _ q=>gt_int q
theorem qz9:OpR X (compareOp .GtE) (rI0 λi j=>.bl (decide (j≤i))):=opB0 λ_ _ _ _ _ _ _ q=>ge_int q
theorem qxp:OpR X (compareOp .In) (λx y H Q=>∃i j,x=.str i∧y=.str j∧Q (.bl (!(Builtin.Str.occurrences j i 0 j.length 1).isEmpty)) H):=by
 intro pins s σ H x y v u Q I rx ry h
 obtain ⟨i,j,rfl,rfl,q⟩:=h
 obtain ⟨t,rfl⟩:=rx
 obtain ⟨t',rfl⟩:=ry
 exact in_str (w9 I q rfl)
theorem op_isN:OpR X (compareOp .Is) (λx y H Q=>y=.non∧Q (.bl (decide (x=.non))) H):=by
 intro pins s σ H x y v u Q I rx ry h
 obtain ⟨rfl,q⟩:=h
 cases ry
 refine is_none_gen (w9 I q ?_)
 cases x <;> first
  |(cases rx;rfl)
  |(obtain ⟨t,rfl⟩:=rx;rfl)
theorem qjg:OpR X (compareOp .IsNot) (λx y H Q=>y=.non∧Q (.bl (!decide (x=.non))) H):=by
 intro pins s σ H x y v u Q I rx ry h
 obtain ⟨rfl,q⟩:=h
 cases ry
 refine isnot_none_gen (w9 I q ?_)
 cases x <;> first
  |(cases rx;rfl)
  |(obtain ⟨t,rfl⟩:=rx;rfl)
theorem wm (b:Expr){op:CmpOp}(h:op≠.In:=by decide)(h2:op≠.NotIn:=by decide):behindInMarks op b=false:=by
 have e1:(op==CmpOp.In)=false:=by cases op <;> first | rfl | exact absurd rfl h
 have e2:(op==CmpOp.NotIn)=false:=by cases op <;> first | rfl | exact absurd rfl h2
 cases b <;> simp [behindInMarks,e1,e2]
theorem Yt {op:CmpOp}{r:R2}(ho:OpR X (compareOp op) r)(ha:PE X a ta)(hb:PE X b tb)(hm:behindInMarks op b=false):PE X (.Compare a [op] [b] pos) (tOp r ta tb):=by
 intro pins s σ H Q I h
 exact wpAny_Compare1 (binT ha hb I h λv u s2 x y H2 I2 rx ry q=>ho pins s2 σ H2 x y v u Q I2 rx ry q) hm
def tTest (t:TE):TT:=λσ H Q=>t σ H λx H'=>∃k,x=.bl k∧Q k H'
theorem wc {op:CmpOp}{r:R2}(ho:OpR X (compareOp op) r)(ha:PE X a ta)(hb:PE X b tb)(hm:behindInMarks op b=false):PT X (.Compare a [op] [b] pos) (tTest (tOp r ta tb)):=by
 intro pins s σ H Q I h
 refine wpAny_isTrue_Compare1 (thn (ha pins s σ H _ I h) λv s1 ⟨x,H1,I1,r1,q1⟩=>thn (hb pins s1 σ H1 _ I1 q1) λu s2 ⟨y,H2,I2,r2,q2⟩ =>
  thn (ho pins s2 σ H2 x y v u _ I2 r1 r2 q2) λc s3 ⟨z,H3,I3,r3,k,e,q3⟩=>?_) hm
 subst e
 cases r3
 exact bG ⟨H3,I3,q3⟩
theorem Qg:(sizeLine:Nat)<2 ^ 63:=by rw [sizeLine_eq];decide
theorem jn {x:V}{us:List Ag}(r:Vals [x] us):∃u,us=[u]∧xx x u:=by
 cases r with
 |cons r1 r2=>cases r2;exact ⟨_,rfl,r1⟩
theorem vals2 {x y:V}{us:List Ag}(r:Vals [x,y] us):∃u w',us=[u,w']∧xx x u∧xx y w':=by
 cases r with
 |cons r1 r2 =>
  cases r2 with
  |cons r3 r4=>cases r4;exact ⟨_,_,rfl,r1,r3⟩
theorem Q9:vf X (.builtin "abs") (λxs H Q=>∃i,xs=[.int i]∧Q (.int (if i<0 then -i else i)) H):=by
 intro pins s σ H xs us Q I r h
 obtain ⟨i,rfl,q⟩:=h
 obtain ⟨u,rfl,t,rfl⟩:=jn r
 exact call_abs_int λu tk=>⟨.int (if i<0 then -i else i),H,I.tok _,⟨_,rfl⟩,q⟩
theorem Zg (hc:X.calm=true):vf X (.builtin "max") (λxs H Q=>∃i j,xs=[.int i,.int j]∧Q (.int (if j>i then j else i)) H):=by
 intro pins s σ H xs us Q I r h
 obtain ⟨i,j,rfl,q⟩:=h
 obtain ⟨u,w',rfl,⟨t,rfl⟩,⟨t',rfl⟩⟩:=vals2 r
 refine max_two_ints (I.ok.hd hc) λh' tk k=>⟨_,H,I.kept k,?_,q⟩
 by_cases hj:j>i
 ·rw [av hj,av hj];exact ⟨_,rfl⟩
 ·rw [ao hj,ao hj];exact ⟨_,rfl⟩
theorem Zh (hc:X.calm=true):vf X (.builtin "min") (λxs H Q=>∃i j,xs=[.int i,.int j]∧Q (.int (if j<i then j else i)) H):=by
 intro pins s σ H xs us Q I r h
 obtain ⟨i,j,rfl,q⟩:=h
 obtain ⟨u,w',rfl,⟨t,rfl⟩,⟨t',rfl⟩⟩:=vals2 r
 refine min_two_ints (I.ok.hd hc) λh' tk k=>⟨_,H,I.kept k,?_,q⟩
 by_cases hj:j<i
 ·rw [av hj,av hj];exact ⟨_,rfl⟩
 ·rw [ao hj,ao hj];exact ⟨_,rfl⟩
end
structure ObjM (h:Heap)(x dx C:Aj)(mA:Str→Option Ag):Prop where
 obj:h.get? x=some (PySem.W.instObj C dx)
 ns:h.Ns1 dx mA
 ne:dx≠x
theorem qxs {h:Heap}{dx:Aj}{mA:Str→Option Ag}(n:h.Ns1 dx mA):∃od,h.get? dx=some od∧∀name,PySem.W.lookIn name od=some (mA name):=by
 obtain ⟨o,es,ep,ho,hd,hk,_,hm⟩:=n
 refine ⟨o,ho,λname=>?_⟩
 have e:=hm name
 unfold nsFind findBy at e
 rw [←Array.find?_toList] at e
 unfold PySem.W.lookIn
 rw [hd]
 dsimp only
 split
 ·rename_i y q
  rw [q] at e
  exact cb some e
 ·rename_i q
  rw [q] at e
  have a:es.toList.any (·.refKey)=false:=by
   rw [List.any_eq_false]
   intro y hy
   obtain ⟨z,t,hkey⟩:=hk y (Array.mem_toList_iff.mp hy)
   simp [DictEntry.refKey,hkey]
  have a':¬ es.toList.any (·.refKey)=true:=by rw [a];exact aj
  rw [ao a']
  exact cb some e
theorem ObjM.look {h:Heap}{x dx C:Aj}{mA:Str→Option Ag}(I:ObjM h x dx C mA):∃od,PySem.W.InstAt h x (PySem.W.instObj C dx) C (some od)∧∀name,PySem.W.lookIn name od=some (mA name) :=
 let ⟨od,ho,hl⟩:=qxs I.ns
 ⟨od,⟨I.obj,rfl,rfl,ho⟩,hl⟩
section
variable {prog:Ac}{w:Ah}{A:Ae}{E:Ag→Ab→Prop}{s:Ab}{K:Aa}{x dx C f:Aj}{mA:Str→Option Ag}{name:Str}{v:Ag}
theorem qj9 {expr:Bool}{Q:Ag→Ab→Prop}(X:K.In s.heap)(I:ObjM s.heap x dx C mA)(hg:PySem.W.plainGet K C name=true)(hh:PySem.W.hasDictIn K C=true)
  (ha:PySem.W.findIn K (.ref C) name=some none) (hv:mA name=some v) (hv':PySem.W.handedIn v=true) (h:Q v { s with toks:=s.toks+1 }) :
  wpAny (model prog w) A (getAttr (.ref x) name expr) Q E s:=by
 obtain ⟨od,J,hl⟩:=I.look
 exact PySem.W.get_value X J (ck hg).1 (PySem.W.findObj_own hh ha rfl (by rw [hl,hv])) hv' h
theorem qvy {pl:Sem Bool}{Q:Ag×List Ag→Ab→Prop}(X:K.In s.heap)(I:ObjM s.heap x dx C mA)(hg:PySem.W.plainGet K C name=true)
  (hf:PySem.W.findIn K (.ref C) name=some (some (.ref f))) (ht:PySem.W.isFn K (.ref f)=true) (hv:mA name=none) (h:Q (.ref f,[.ref x]) s) :
  wpAny (model prog w) A (getMethod (.ref x) name pl) Q E s:=by
 obtain ⟨od,J,hl⟩:=I.look
 exact PySem.W.method_fn X J (ck hg).1 (ck hg).2 hf (cT.mp ht) (by show (PySem.W.lookIn name od).map (·.isSome)=some false;rw [hl,hv];rfl) h
theorem qjq {ns:List Str}{Q:Unit→Ab→Prop}(X:K.In s.heap)(I:ObjM s.heap x dx C mA)
  (hs:PySem.W.findIn K (.ref C) "__setattr__" = some (some (.builtin "object.__setattr__"))) (hp:PySem.W.plainOver K C=true) (ht:PySem.W.takerIn K C name=some none) (hh:PySem.W.hasDictIn K C=true)
  (hw:PySem.Within mA ns) (hsz:ns.length≤sizeLine)
  (h:∀h',ObjM h' x dx C (λy=>if y=name then some v else mA y)→Heap.SameBut dx s.heap h'→Q () { s with heap:=h',toks:=s.toks+2 }) :
  wpAny (model prog w) A (setAttr (.ref x) name v) Q E s:=by
 obtain ⟨od,J,hl⟩:=I.look
 refine PySem.W.set_plain X J hs (PySem.W.osa_open (s:={ s with toks:=s.toks+1 }) (r:=none) X J hp ht λb=>?_)
 obtain ⟨cd,hc,hd'⟩:=PySem.W.any_some hh
 have hx:s.heap.get? x=some ⟨.ref C,some dx,.plain,#[]⟩:=I.obj
 refine aa (ag (aa (aa (wpAny_loadPart hx (aa (PySem.W.Looks.here (s:={ s with toks:=s.toks+1 }) (PySem.W.looks_clsIn X hc) ?_))))))
 rw [hd']
 refine ag (a:=some dx) (aa (ag (aa ?_)))
 refine wpAny_nsSet1 (s:={ s with toks:=s.toks+1 }) I.ns λh' hn2 hs2=>?_
 obtain ⟨oD,esD,epD,hoD,hdD,hcD⟩:=hn2.count (PySem.Within.cons name v hw)
 refine aa (wpAny_lookBehind hoD (by rw [hdD];exact pastItsLine_dict (aZ hcD (by rw [aN];lia))) ?_)
 exact ag (h _ ⟨(hs2.2 _ (aT I.ne)).trans I.obj,hn2,I.ne⟩ hs2)
theorem qvq {R:Result→Ab→Prop}{vs:List Ag}{kw:List (Str×Ag)}(X:K.In s.heap)(hm:PySem.W.makesIn K C=true)
  (hi:PySem.W.findIn K (.ref C) "__init__" = some (some (.ref f))) (hf:PySem.W.typeIn K (.ref f)=some (.type "function"))
  (h:codeAny (model prog w) (A.under (.builtin "type.__call__" ⟨.ref C::vs,kw⟩)) (.call (.ref f) ⟨.ref (s.heap.objs.size+1)::vs,kw⟩) (PySem.W.InitBack (s.heap.objs.size+1) R)
   { s with heap:=(s.heap.push PySem.W.emptyDict).push (PySem.W.instObj C s.heap.objs.size) }) :
  codeAny (model prog w) A (.call (.ref C) ⟨vs,kw⟩) R s:=by
 obtain ⟨hh,g,d,t,os⟩:=s
 exact PySem.W.make_core (PySem.W.makes_of X hm) (PySem.W.looks_findIn X hi) (λself=>PySem.W.bind_fn X self hf) (.inl rfl) h
end
def zq (f:Str)(v:V):List (Str×V)→List (Str×V)
 |[]=>[(f,v)]
 |(g,x)::r=>if g=f then (g,v)::r else (g,x)::zq f v r
theorem uc (f g:Str)(v:V):∀fs:List (Str×V),(zq f v fs).lookup g=if g=f then some v else fs.lookup g
 |[]=>by
  show List.lookup g [(f,v)]=_
  by_cases h:g=f
  ·have hb:(g==f)=true:=cT.mpr h
   simp only [List.lookup,hb,av h]
  ·have hb:(g==f)=false:=aA.mpr h
   simp only [List.lookup,hb,ao h]
 |(k,x)::r=>by
  have ih:=uc f g v r
  rw [show zq f v ((k,x)::r)=(if k=f then (k,v)::r else (k,x)::zq f v r) from rfl]
  by_cases hk:k=f
  ·rw [av hk]
   by_cases h:g=k
   ·have hb:(g==k)=true:=cT.mpr h
    simp only [List.lookup,hb,av (h.trans hk)]
   ·have hb:(g==k)=false:=aA.mpr h
    simp only [List.lookup,hb,ao (λe:g=f=>h (e.trans hk.symm))]
  ·rw [ao hk]
   by_cases h:g=k
   ·have hb:(g==k)=true:=cT.mpr h
    simp only [List.lookup,hb,ao (λe:g=f=>hk (h.symm.trans e))]
   ·have hb:(g==k)=false:=aA.mpr h
    simp only [List.lookup,hb]
    exact ih
theorem yf (f:Str)(v:V):∀fs:List (Str×V),f∈(zq f v fs).map (·.1)∧∀g,g∈fs.map (·.1)→g∈(zq f v fs).map (·.1)
 |[]=>⟨by simp [zq],λg h=>by simp at h⟩
 |(k,x)::r=>by
  obtain ⟨i1,i2⟩:=yf f v r
  rw [show zq f v ((k,x)::r)=(if k=f then (k,v)::r else (k,x)::zq f v r) from rfl]
  by_cases hk:k=f
  ·rw [av hk]
   subst hk
   exact ⟨by simp,λg h=>by simpa using h⟩
  ·rw [ao hk]
   refine ⟨?_,λg h=>?_⟩
   ·rw [aw]
    exact aK _ i1
   ·rw [aw] at h ⊢
    rcases ap.mp h with e|e
    ·exact ap.mpr (.inl e)
    ·exact aK _ (i2 g e)
theorem uy (f:Str)(v:V):∀fs:List (Str×V),(zq f v fs).length≤fs.length+1
 |[]=>by simp [zq]
 |(k,x)::r=>by
  have ih:=uy f v r
  rw [show zq f v ((k,x)::r)=(if k=f then (k,v)::r else (k,x)::zq f v r) from rfl]
  by_cases hk:k=f
  ·rw [av hk,aN,aN];lia
  ·rw [ao hk,aN,aN];lia
theorem RelO.some_of {v:V}{o:Option Ag}(r:RelO (some v) o):∃u,o=some u∧xx v u:=by
 cases o with
 |none=>exact (show False from r).elim
 |some u=>exact ⟨u,rfl,r⟩
theorem RelO.none_of {o:Option Ag}(r:RelO none o):o=none:=by
 cases o with
 |none=>rfl
 |some u=>exact (show False from r).elim
theorem qzq {v:V}{u:Ag}(r:xx v u):PySem.W.handedIn u=true:=by
 cases v with
 |non=>cases (show u=Value.none from r);rfl
 |bl b=>cases (show u=Value.bool b from r);rfl
 |int i=>obtain ⟨t,e⟩:=(show ∃t,u=Value.int i t from r);cases e;rfl
 |str x=>obtain ⟨t,e⟩:=(show ∃t,u=Value.str x t from r);cases e;rfl
 |byt b=>obtain ⟨t,e⟩:=(show ∃t,u=Value.bytes b t from r);cases e;rfl
 |flt b=>obtain ⟨t,e⟩:=(show ∃t,u=Value.float b t from r);cases e;rfl
 |ref a=>cases (show u=Value.ref a from r);rfl
 |ty n=>cases (show u=Value.type n from r);rfl
section
variable {P:Ac}{w:Ah}{H H':Hp}{h h':Heap}{a C dx:Aj}{fs fs':List (Str×V)}
theorem Yr (hok:HOk P w H h)(e:H a=some (.ins C dx fs)):∃mA,ObjM h a dx C mA∧(∀f,RelO (fs.lookup f) (mA f))∧PySem.Within mA (fs.map (·.1))∧fs.length≤1000∧H dx=some (.own a):=by
 obtain ⟨d,z,ne,ob,mA,n,r,q⟩:=(show ObjOk P w H h a (.ins C dx fs) from hok a _ e)
 exact ⟨mA,⟨ob,n,ne⟩,r,q,z,d⟩
end
structure Cls (K:Aa)(C:Aj):Prop where
 pg:PySem.W.plainGet K C Str.empty=true
 hd:PySem.W.hasDictIn K C=true
 po:PySem.W.plainOver K C=true
 sa:PySem.W.findIn K (.ref C) "__setattr__" = some (some (.builtin "object.__setattr__"))
theorem Cls.get {K:Aa}{C:Aj}(c:Cls K C)(f:Str):PySem.W.plainGet K C f=true:=c.pg
def NoAttr (K:Aa)(C:Aj)(f:Str):Prop:=PySem.W.findIn K (.ref C) f=some none
theorem NoAttr.taker {K:Aa}{C:Aj}{f:Str}(n:NoAttr K C f):PySem.W.takerIn K C f=some none:=by
 unfold PySem.W.takerIn
 rw [show PySem.W.findIn K (.ref C) f=some none from n]
 rfl
structure Con (K:Aa)(C:Aj)(f:Str)(v:V)(u:Ag):Prop where
 at_:PySem.W.findIn K (.ref C) f=some (some u)
 rel:xx v u
 get:PySem.W.specialIn K u "__get__" = some none
 cp:PySem.W.copiedNames.contains f=false
structure Meth (K:Aa)(C:Aj)(m:Str)(f:Aj):Prop where
 at_:PySem.W.findIn K (.ref C) m=some (some (.ref f))
 fn:PySem.W.isFn K (.ref f)=true
 kp:PySem.W.keepIn K (.ref f)=true
section
variable {X:Cx}{pins:List (Aj×Obj)}{σ:St}{H:Hp}{s:Ab}{a C dx:Aj}{fs:List (Str×V)}{f:Str}{v:V}{A:Ae}{E:Ag→Ab→Prop}
theorem qq4 {b:Bool}{Q:Ag→Ab→Prop}(I:Inv X pins σ H s)(e:H a=some (.ins C dx fs))(c:Cls X.K C)(n:NoAttr X.K C f)(l:fs.lookup f=some v)
  (h:∀u s',Inv X pins σ H s'→xx v u→Q u s'):wpAny (model X.prog X.w) A (getAttr (.ref a) f b) Q E s:=by
 obtain ⟨mA,O,r,_,_,_⟩:=Yr I.hok e
 obtain ⟨u,hu,ru⟩:=RelO.some_of (v:=v) (o:=mA f) (by rw [←l];exact r f)
 exact qj9 I.kIn O (c.get f) c.hd n hu (qzq ru) (h u _ (I.tok _) ru)
theorem Qr {m:Str}{g:Aj}{pl:Sem Bool}{Q:Ag×List Ag→Ab→Prop}(I:Inv X pins σ H s)(e:H a=some (.ins C dx fs))(c:Cls X.K C)(k:Meth X.K C m g)(l:fs.lookup m=none)
  (h:Q (.ref g,[.ref a]) s):wpAny (model X.prog X.w) A (getMethod (.ref a) m pl) Q E s:=by
 obtain ⟨mA,O,r,_,_,_⟩:=Yr I.hok e
 have hn:mA m=none:=RelO.none_of (by rw [←l];exact r m)
 exact qvy I.kIn O (c.get m) k.at_ k.fn hn h
theorem qqn {y:V}{u:Ag}{Q:Unit→Ab→Prop}(I:Inv X pins σ H s)(e:H a=some (.ins C dx fs))(c:Cls X.K C)(n:NoAttr X.K C f)(hl:fs.length<1000)(ry:xx y u)
  (h:∀s',Inv X pins σ (upd H a (.ins C dx (zq f y fs))) s'→Q () s'):wpAny (model X.prog X.w) A (setAttr (.ref a) f u) Q E s:=by
 obtain ⟨mA,O,r,wi,_,ho⟩:=Yr I.hok e
 have hz:(fs.map (·.1)).length≤sizeLine:=by rw [ah,sizeLine_eq];lia
 refine qjq I.kIn O c.sa c.po n.taker c.hd wi hz λh' O' sb=>h _ ?_
 have hd:∃o,h'.get? dx=some o:=let ⟨o,_,_,e',_⟩:=O'.ns;⟨o,e'⟩
 refine I.write (x:=a) (e:=dx) (by rw [e];exact True.intro) (.inr ho) (λb q hb z=>(sb.2 b hb).trans z) hd ?_
 refine ⟨by rw [q8 O.ne];exact ho,?_,O.ne,O'.obj,_,O'.ns,λg=>?_,λg hg=>?_⟩
 ·have:=uy f y fs;lia
 ·show RelO ((zq f y fs).lookup g) (if g=f then some u else mA g)
  rw [uc]
  by_cases q:g=f
  ·rw [av q,av q];exact ry
  ·rw [ao q,ao q];exact r g
 ·by_cases q:g=f
  ·rw [q];exact (yf f y fs).1
  ·refine (yf f y fs).2 g (wi g λz=>hg ?_)
   show (if g=f then some u else mA g)=none
   rw [ao q];exact z
theorem Inv.made (I:Inv X pins σ H s):Inv X pins σ (upd (upd H s.heap.objs.size (.own (s.heap.objs.size+1))) (s.heap.objs.size+1) (.ins C s.heap.objs.size []))
  { s with heap:=(s.heap.push PySem.W.emptyDict).push (PySem.W.instObj C s.heap.objs.size) }:=by
 have e1:(s.heap.push PySem.W.emptyDict).get? s.heap.objs.size=some PySem.W.emptyDict:=ai s.heap rfl
 have e2:((s.heap.push PySem.W.emptyDict).push (PySem.W.instObj C s.heap.objs.size)).get? (s.heap.objs.size+1)=some (PySem.W.instObj C s.heap.objs.size):=by
  have:=ai (s.heap.push PySem.W.emptyDict) (o:=PySem.W.instObj C s.heap.objs.size) rfl
  rwa [cz] at this
 have e3:(s.heap.push PySem.W.emptyDict).Ns s.heap.objs.size (λ_=>none):=⟨PySem.W.emptyDict,#[],_,e1,rfl,(λe he=>absurd he (by simp)),λ_=>rfl⟩
 have I1:=I.laid (a:=s.heap.objs.size) (o:=.own (s.heap.objs.size+1)) (h':=s.heap.push PySem.W.emptyDict) (t':=s.toks) (λb u q=>ac _ q) (af _) ⟨_,e1⟩
 refine I1.laid (a:=s.heap.objs.size+1) (o:=.ins C s.heap.objs.size []) (t':=s.toks) (λb u q=>ac _ q) (Nat.le_of_eq (cz _ _)) ?_
 have ne:s.heap.objs.size≠s.heap.objs.size+1:=al (Nat.lt_succ_self _)
 refine ⟨by rw [q8 ne,q9],aJ _,ne,e2,λ_=>none,(Heap.Ns1.of_empty e3).at λo q=>ac _ q,λ_=>True.intro,λy hy=>absurd rfl hy⟩
theorem qj3 {prog:Ac}{w:Ah}{env:Env}{e:Expr}{f:Str}{pos:Pos}{s:Ab}{Q:Ag→Ab→Prop}(hb:attributeBase e f env (eval e env)=eval e env)
  (h:wpAny (model prog w) A (eval e env) (λo s₁=>wpAny (model prog w) A (getAttr o f true) Q E s₁) E s):wpAny (model prog w) A (eval (.Attribute e f pos) env) Q E s :=
 Attribute_any_ h (by rw [arm_eval_Attribute,hb])
end
def tFld (K:Aa)(ta:TE)(f:Str):TE:=λσ H Q=>ta σ H λx H1=>∃a C dx fs v,x=.ref a∧H1 a=some (.ins C dx fs)∧Cls K C∧NoAttr K C f∧fs.lookup f=some v∧Q v H1
def sFld (K:Aa)(ta tv:TE)(f:Str):TS:=λD σ H=>tv σ H λy H1=>ta σ H1 λx H2=>∃a C dx fs,x=.ref a∧H2 a=some (.ins C dx fs)∧Cls K C∧NoAttr K C f∧fs.length<1000 ∧
 D.nx σ (upd H2 a (.ins C dx (zq f y fs)))
section
variable {X:Cx}{o e value:Expr}{f:Str}{pos pos' tpos:Pos}{ta tv:TE}
theorem vd (he:PE X e ta)(hb:attributeBase e f X.env (eval e X.env)=eval e X.env):PE X (.Attribute e f pos) (tFld X.K ta f):=by
 intro pins s σ H Q I h
 refine qj3 hb (thn (he pins s σ H _ I h) λu s1 ⟨x,H1,I1,rx,a,C,dx,fs,v,ex,ea,c,n,l,q⟩=>?_)
 subst ex
 obtain rfl:u=Value.ref a:=rx
 exact qq4 I1 ea c n l λu' s2 I2 ru=>⟨v,H1,I2,ru,q⟩
theorem jm (ha:PE X o ta)(hv:PE X value tv)(hs:swapsWith value (some (.Attribute o f pos')) pos.line X.env=pure false):PS X (.Assign [.Attribute o f pos'] value pos) (sFld X.K ta tv f):=by
 intro pins s σ H D I h
 refine plainObj_wpAny_Assign_Attribute (thn (hv pins s σ H _ I h) λu s1 ⟨y,H1,I1,ry,q⟩=>thn (ha pins s1 σ H1 _ I1 q) λov s2 ⟨x,H2,I2,rx,a,C,dx,fs,ex,ea,c,n,l,q2⟩=>?_) hs
 subst ex
 obtain rfl:ov=Value.ref a:=rx
 exact qqn I2 ea c n l ry λs3 I3=>⟨σ,_,I3,q2⟩
end
section
variable {X:Cx}{pins:List (Aj×Obj)}{σ:St}{H:Hp}{s:Ab}{A:Ae}{E:Ag→Ab→Prop}{Q:Ag→Ab→Prop}{c:Ag}{b:Bool}
inductive TyOf (K:Aa) (H:Hp):V→Ag→Prop where
 |non:TyOf K H .non (.type "NoneType")
 |bl (x:Bool):TyOf K H (.bl x) (.type "bool")
 |int (i:Int):TyOf K H (.int i) (.type "int")
 |str (x:Str):TyOf K H (.str x) (.type "str")
 |flt (x:UInt64):TyOf K H (.flt x) (.type "float")
 |lst {a:Aj} {xs:List V} (e:H a=some (.lst xs)):TyOf K H (.ref a) (.type "list")
 |frz {a:Aj} {o:Obj} {xs:List V} (e:H a=some (.frz o (.lst xs))):TyOf K H (.ref a) (.type "list")
 |tup {a:Aj} {xs:List V} (e:H a=some (.tup xs)):TyOf K H (.ref a) (.type "tuple")
 |dK {a:Aj} {kvs:List (Key×V)} (e:H a=some (.dK kvs)):TyOf K H (.ref a) (.type "dict")
 |dT {a:Aj} {kvs:List (List Key×V)} (e:H a=some (.dT kvs)):TyOf K H (.ref a) (.type "dict")
 |ins {a C dx:Aj} {fs:List (Str×V)} (e:H a=some (.ins C dx fs)) (cl:Cls K C) (ha:PySem.W.findIn K (.ref C) "__class__" = some (some (.builtin "object.__class__")))
   (hn:PySem.W.specialIn K (.builtin "object.__class__") "__get__" = some (some (.builtin "getset_descriptor.__get__"))) (htk:PySem.W.takesIn K (.builtin "object.__class__")=some true)
   (hm:PySem.W.mroIn K C (.type "object")=some true):TyOf K H (.ref a) (.ref C)
end
structure Room (k:Nat)(A:Ae):Prop where
 hd:A.handled=none
 dp:A.depth+3*k+5<recursionLimit
 un:A.units+16*k+200<cLine
theorem Room.mono {j k:Nat}{A:Ae}(r:Room k A)(h:j≤k):Room j A:=⟨r.hd,by have:=r.dp;lia,by have:=r.un;lia⟩
theorem Room.deeper {k:Nat}{A:Ae}(r:Room (k+1) A)(env:Env):Room k (A.deeper env) :=
 ⟨r.hd,by have:=r.dp;show A.depth+1+3*k+5<_;lia,by have:=r.un;show A.units+3+16*k+200<_;lia⟩
theorem qqy {A:Ae}{C:Aj}{us:List Ag}{kw:List (Str×Ag)}:(A.under (.builtin "type.__call__" ⟨.ref C::us,kw⟩)).depth=A.depth+1:=by
 first | rfl | simp [Around.under,Code.weight,Code.isCreation,Code.isGuard,Code.isCaller,Code.frames,Code.isFrame,guardIds]
theorem qqx {A:Ae}{C:Aj}{us:List Ag}{kw:List (Str×Ag)}:(A.under (.builtin "type.__call__" ⟨.ref C::us,kw⟩)).units=A.units+1:=by
 first | rfl | simp [Around.under,Code.cUnits,Code.frames,Code.isFrame]
theorem Room.make {k:Nat}{A:Ae}(r:Room (k+1) A)(C:Aj)(us:List Ag)(kw:List (Str×Ag)):Room k (A.under (.builtin "type.__call__" ⟨.ref C::us,kw⟩)) :=
 ⟨r.hd,by have:=r.dp;rw [qqy];lia,by have:=r.un;rw [qqx];lia⟩
theorem Room.depth {k:Nat}{A:Ae}(r:Room k A):A.depth<recursionLimit:=by have:=r.dp;lia
theorem Room.units {k:Nat}{A:Ae}(r:Room k A):A.units+64<cLine:=by have:=r.un;lia
theorem Room.units0 {k:Nat}{A:Ae}(r:Room k A):A.units<cLine:=by have:=r.un;lia
def z5:TA:=λ_ H Q=>Q [] H
def xc (ta:TE)(tr:TA):TA:=λσ H Q=>ta σ H λx H1=>tr σ H1 λxs H2=>Q (x::xs) H2
section
variable {X:Cx}{e:Expr}{es:List Expr}{te:TE}{t:TA}{pos:Pos}
theorem qv:PA X [] z5:=λ_ _ _ _ H Q I h=>Calls.spliced_nil ⟨[],H,I,.nil,h⟩
theorem xp (ha:PE X e te)(hr:PA X es t)(hs:starEach (e::es) X.env=(false,eval e X.env)::starEach es X.env:=by rfl):PA X (e::es) (xc te t):=by
 intro pos pins s σ H Q I h
 rw [hs]
 show wpAny _ _ (spliced ((false,eval e X.env)::backTo pos (starEach es X.env))) _ _ s
 refine Calls.spliced_cons (thn (ha pins s σ H _ I h) λu s1 ⟨x,H1,I1,r1,q1⟩=>?_)
 exact thn (hr pos pins s1 σ H1 _ I1 q1) λus s2 ⟨xs,H2,I2,r2,q2⟩=>⟨x::xs,H2,I2,.cons r1 r2,q2⟩
def tTup (t:TA):TE:=λσ H Q=>t σ H λxs H1=>xs.length≤sizeLine∧∀p,H1 p=none→Q (.ref p) (upd H1 p (.tup xs))
def tLst (t:TA):TE:=λσ H Q=>t σ H λxs H1=>xs.length≤sizeLine∧∀p,H1 p=none→Q (.ref p) (upd H1 p (.lst xs))
theorem ku {x1}(h:PA X es t):PE X (.Tuple es x1 pos) (tTup t):=by
 intro pins s σ H Q I hq
 refine wpAny_Tuple_spliced (thn (h pos pins s σ H _ I hq) λus s1 ⟨xs,H1,I1,r,z,q⟩=>⟨by rw [←r.length];exact z,?_⟩)
 have hf:H1 s1.heap.objs.size=none:=I1.hok.fresh (af _)
 refine ⟨.ref s1.heap.objs.size,upd H1 s1.heap.objs.size (.tup xs),I1.laid (t':=s1.toks) (λb u e=>ac _ e) (af _) ?_,rfl,q _ hf⟩
 exact ⟨z,us,r,⟨_,ai _ rfl,rfl,_,rfl⟩⟩
theorem Wj (h:PA X es t):PE X (.List es pos) (tLst t):=by
 intro pins s σ H Q I hq
 refine wpAny_List_spliced (thn (h pos pins s σ H _ I hq) λus s1 ⟨xs,H1,I1,r,z,q⟩=>⟨by rw [←r.length];exact z,?_⟩)
 have hf:H1 s1.heap.objs.size=none:=I1.hok.fresh (af _)
 refine ⟨.ref s1.heap.objs.size,upd H1 s1.heap.objs.size (.lst xs),I1.laid (t':=s1.toks) (λb u e=>ac _ e) (af _) ?_,rfl,q _ hf⟩
 exact ⟨z,us,0,r,ai _ rfl⟩
end
abbrev Sp:=List V→Hp→VK→XK→Prop
abbrev CXT:=List Env→Hp→Ab→XK→Ag→Ab→Prop
structure Env0 (P:Ac)(w:Ah)(K:Aa)(mg:Str→Option Ag)(base:Heap)(A:Ae)(outer:List Env)(s:Ab)(H:Hp):Prop where
 frames:A.frames=some outer
 mod:Mod K mg base
 bs:∀b o,base.get? b=some o→s.heap.get? b=some o∧H b=none
 bsz:base.objs.size≤s.heap.objs.size
 funs:s.heap.FunFrames base outer
 frf:∀b∈frs outer,H b=none
 hok:HOk P w H s.heap
 bare:AllBare s.gens
def CE (outer:List Env)(P:Ac)(w:Ah)(H:Hp)(s:Ab)(Q:VK)(u:Ag)(s':Ab):Prop :=
 ∃v H',s'.os=s.os∧AllBare s'.gens∧Un (frs outer) [] H H' s.heap s'.heap∧HOk P w H' s'.heap∧xx v u∧Q v H'
def CR (CX:CXT)(outer:List Env)(P:Ac)(w:Ah)(H:Hp)(s:Ab)(Q:VK)(E:XK)(r:Result)(s':Ab):Prop :=
 match r with
 |.ok (.ret u)=>CE outer P w H s Q u s'
 |.ok _=>False
 |.error e=>CX outer H s E e s'
structure FnOk (P:Ac)(w:Ah)(K:Aa)(mg:Str→Option Ag)(base:Heap)(CX:CXT)(k:Nat)(f:Aj)(fd:Ad)(ps:List Str)(sp:Sp):Prop where
 len:∀vs H Q E,sp vs H Q E→vs.length=ps.length
 run:∀(A:Ae) (outer:List Env) (s:Ab) (H:Hp) (args:Args) (us:List Ag) (vs:List V) (Q:VK) (E:XK),Room k A→Env0 P w K mg base A outer s H→BindsTo s fd args (ps.zip us)→Vals vs us→sp vs H Q E →
  codeAny (model P w) A (.call (.ref f) args) (CR CX outer P w H s Q E) s
theorem Env0.make {P:Ac}{w:Ah}{K:Aa}{mg:Str→Option Ag}{base:Heap}{A:Ae}{outer:List Env}{s:Ab}{H:Hp}(e:Env0 P w K mg base A outer s H)(C:Aj)(us:List Ag)(kw:List (Str×Ag)) :
  Env0 P w K mg base (A.under (.builtin "type.__call__" ⟨.ref C::us,kw⟩)) outer s H:=⟨by first | exact e.frames | (simpa [Around.under,Code.envs,Code.isFrame,pushEnvs] using e.frames),e.mod,e.bs,e.bsz,e.funs,e.frf,e.hok,e.bare⟩
section
variable {X:Cx}{pins:List (Aj×Obj)}{σ:St}{H:Hp}{s s':Ab}
theorem Inv.env0 (I:Inv X pins σ H s):Env0 X.prog X.w X.K X.mg X.base X.A X.stack s H :=
 ⟨I.ok.frames,I.ok.mod,I.bs,aZ I.ok.bsz I.sz,I.stack,I.stkFree,I.hok,I.bare⟩
theorem Inv.after {Q:VK}{u:Ag}(I:Inv X pins σ H s)(h:CE X.stack X.prog X.w H s Q u s'):EP X pins σ Q u s':=by
 obtain ⟨v,H',os,bare,un,hok,r,q⟩:=h
 obtain ⟨hh,g,d,t,os'⟩:=s'
 obtain rfl:os'=s.os:=os
 exact ⟨v,H',I.call (h':=hh) (g':=g) (d':=d) (t':=t) (ch:=[]) un hok bare (λb z=>absurd z (by simp)),r,q⟩
end
def Binds (K:Aa)(fd:Ad)(ps:List Str)(ds:List Ag):Prop :=
 ∀(s:Ab) (us:List Ag),K.In s.heap→(us++ds).length=ps.length→BindsTo s fd ⟨us,[]⟩ (ps.zip (us++ds))
theorem Binds.all {K:Aa}{fd:Ad}{ps:List Str}(h:∀us:List Ag,us.length=ps.length→bindArgs fd ⟨us,[]⟩=pure (ps.zip us)):Binds K fd ps []:=λs us _ hl=>by
 rw [bN] at hl ⊢
 exact .of_eq (h us hl)
section
variable {X:Cx}{CX:CXT}{k:Nat}{f C:Aj}{fd:Ad}{ps:List Str}{sp:Sp}{dvs:List V}{ds:List Ag}{E:XK}{x m:Str}{p pos apos:Pos}{e o:Expr}{es:List Expr}{ta:TE}{t:TA}
structure Mk (K:Aa)(C f:Aj):Prop where
 makes:PySem.W.makesIn K C=true
 init:PySem.W.findIn K (.ref C) "__init__" = some (some (.ref f))
 fn:PySem.W.isFn K (.ref f)=true
 kp:PySem.W.keepIn K (.ref C)=true
end
section
variable {X:Cx}{CX:CXT}{k:Nat}{f C:Aj}{fd:Ad}{ps ks:List Str}{sp:Sp}{E:XK}{x m:Str}{p pos apos kpos:Pos}{e o:Expr}{es:List Expr}{kws:List Keyword}{te ta:TE}{t tk:TA}{nm:Option Str}
structure KBinds (K:Aa)(fd:Ad)(ps ks:List Str)(g:List Ag→List Ag→List Ag)(gV:List V→List V→List V):Prop where
 to:∀(s:Ab) (us ws:List Ag),K.In s.heap→(g us ws).length=ps.length→BindsTo s fd ⟨us,ks.zip ws⟩ (ps.zip (g us ws))
 rel:∀ {vs:List V} {us:List Ag} {zs:List V} {ws:List Ag},Vals vs us→Vals zs ws→Vals (gV vs zs) (g us ws)
variable {g:List Ag→List Ag→List Ag}{gV:List V→List V→List V}
end
structure FnScope (N P:List Str)(sc:Scope):Prop where
 kind:sc.kind=.function
 co:sc.isCoroutine=false
 gen:sc.isGenerator=false
 nd:N.Nodup
 pre:N.take P.length=P
 par:∀x∈P,sc.names.lookup x=some .local∨sc.names.lookup x=some .cell
 nofree:∀y∈sc.names,y.2≠.free
theorem Zj {kindOf:Str→Option NameKind}{x:Str}:∀ {binds:List (Str×Ag)} {m:Str→Option Ag},(∀v,(x,v)∉binds)→bindL kindOf binds m x=m x
 |[],_,_=>rfl
 |(n,v)::r,m,h=>by
  unfold bindL
  rw [Zj λw hw=>h w (aK _ hw)]
  split
  ·have:x≠n:=by rintro rfl;exact h v cv
   simp [this]
  ·rfl
theorem Zf {kindOf:Str→Option NameKind}{x:Str}:∀ {binds:List (Str×Ag)} {m:Str→Option Ag},(∀v,(x,v)∉binds)→bindC kindOf binds m x=m x
 |[],_,_=>rfl
 |(n,v)::r,m,h=>by
  unfold bindC
  rw [Zf λw hw=>h w (aK _ hw)]
  split
  ·rfl
  ·have:x≠n:=by rintro rfl;exact h v cv
   simp [this]
theorem W2 {kindOf:Str→Option NameKind}{x:Str}{v:Ag}:∀ {P:List Str} {vs:List Ag} {i:Nat} {m:Str→Option Ag},P.Nodup→P[i]?=some x→vs[i]?=some v→kindOf x=some .local →
  bindL kindOf (P.zip vs) m x=some v
 |[],_,_,_,_,h,_,_=>by simp at h
 |_::_,[],_,_,_,_,h,_=>by simp at h
 |p::P,w::vs,0,m,nd,h1,h2,hk=>by
  simp at h1 h2;subst h1;subst h2
  show bindL kindOf ((p,w)::P.zip vs) m p=_
  unfold bindL
  rw [Zj λv hv=>(bE.mp nd).1 (cV hv).1,av hk]
  simp
 |p::P,w::vs,i+1,m,nd,h1,h2,hk=>by
  show bindL kindOf ((p,w)::P.zip vs) m x=_
  unfold bindL
  exact W2 (i:=i) (bE.mp nd).2 (by simpa using h1) (by simpa using h2) hk
theorem W8 {kindOf:Str→Option NameKind}{x:Str}{v:Ag}:∀ {P:List Str} {vs:List Ag} {i:Nat} {m:Str→Option Ag},P.Nodup→P[i]?=some x→vs[i]?=some v→kindOf x≠some .local →
  bindC kindOf (P.zip vs) m x=some v
 |[],_,_,_,_,h,_,_=>by simp at h
 |_::_,[],_,_,_,_,h,_=>by simp at h
 |p::P,w::vs,0,m,nd,h1,h2,hk=>by
  simp at h1 h2;subst h1;subst h2
  show bindC kindOf ((p,w)::P.zip vs) m p=_
  unfold bindC
  rw [Zf λv hv=>(bE.mp nd).1 (cV hv).1,ao hk]
  simp
 |p::P,w::vs,i+1,m,nd,h1,h2,hk=>by
  show bindC kindOf ((p,w)::P.zip vs) m x=_
  unfold bindC
  exact W8 (i:=i) (bE.mp nd).2 (by simpa using h1) (by simpa using h2) hk
def js (N:List Str)(vs:List V):St:=vs.map some++List.replicate (N.length-vs.length) none
def Ym (CX:CXT)(P:Ac)(w:Ah)(K:Aa)(mg:Str→Option Ag)(base:Heap)(N:List Str)(qual:Str)(scope:Scope)(f:Aj)(cd:Ag)(A:Ae)(outer:List Env)(s:Ab)(H:Hp)(E:XK):Cx where
 prog:=P
 w:=w
 K:=K
 mg:=mg
 base:=base
 A:=A.deeper (envOfC qual scope s.heap.objs.size f cd)
 N:=N
 s₀:=s
 H₀:=H
 env:=envOfC qual scope s.heap.objs.size f cd
 outer:=outer
 stack:=envOfC qual scope s.heap.objs.size f cd::outer
 ex:=[]
 calm:=true
 fn:=λ_=>true
 pn:=[]
 xe:=λe s'=>wpAny (model P w) (A.deeper (envOfC qual scope s.heap.objs.size f cd)) (leaving (envOfC qual scope s.heap.objs.size f cd) e) (λ_ s''=>CX outer H s E e s'') (λe' s''=>CX outer H s E e' s'') s'
theorem Jc {sc:Scope}{n:Nat}{x:Str}(h:sc.names.lookup x=some .cell):∃c,(cellsFrom n sc.names []).lookup x=some c:=by
 have q:=PySem.W.cellsFrom_some sc.names n [] (.inl h)
 exact Option.isSome_iff_exists.mp q
theorem qx9 {CX:CXT}{P:Ac}{w:Ah}{K:Aa}{mg:Str→Option Ag}{base:Heap}{N ps:List Str}{qual:Str}{scope:Scope}{f:Aj}{cd:Ag}{A:Ae}{outer:List Env}{s s1:Ab}{H:Hp}{E:XK}{us:List Ag}{vs:List V}
  (S:FnScope N ps scope) (hd:A.handled=none) (e0:Env0 P w K mg base A outer s H) (hl:vs.length=ps.length) (r:Vals vs us)
  (x:InCallC s s.heap.objs.size (bindL (envOfC qual scope s.heap.objs.size f cd).kindOf (ps.zip us) λ_=>none) (cellsFrom (s.heap.objs.size+1) scope.names []) (bindC (envOfC qual scope s.heap.objs.size f cd).kindOf (ps.zip us) λ_=>none) s1) :
  Inv (Ym CX P w K mg base N qual scope f cd A outer s H E) [] (js N vs) H s1:=by
 have hpl:ps.length≤N.length:=by have:=cb List.length S.pre;rw [bI] at this;lia
 obtain ⟨h1,tk,rfl,hk⟩:=x.done
 have noA:∀b:Aj,b∉(Ym CX P w K mg base N qual scope f cd A outer s H E).ex:=λb z=>absurd (show b∈([]:List Aj) from z) (by simp)
 refine ⟨⟨e0.mod,S.kind,rfl,rfl,af _,λy z c h1 h2=>?_,λy hy=>?_,λy c _ h=>?_,λ_=>hd,Around.frames_deeper e0.frames,.inr ⟨rfl,rfl⟩,λb z=>absurd z (noA b),e0.bs,e0.bsz,λb _ _=>noA b,λb z=>absurd z (noA b),e0.funs,e0.frf⟩,
  rfl,e0.bare,Un.kept hk,⟨_,x.toInCall.ns,λi y v h1 h2 h3=>?_⟩,λy c h=>⟨_,x.cell y c h⟩,e0.hok.fresh (af _),λy c h=>?_,λp hp=>absurd (show p∈([]:List (Aj×Obj)) from hp) (by simp),e0.hok.kept hk,?_⟩
 ·exact name_of_addr x.apart (bv h1) (bv h2)
 ·have hy:scope.names.lookup y=some .cell∨scope.names.lookup y=some .free:=hy
  rcases hy with hy|hy
  ·exact Jc hy
  ·exact absurd rfl (S.nofree _ (bv hy))
 ·exact bz (x.above y c (bv h))
 ·have hi:i<vs.length:=by
   unfold js at h2
   by_cases hi:i<vs.length
   ·exact hi
   ·rw [bf (by simpa using hi)] at h2
    rw [List.getElem?_replicate] at h2
    split at h2 <;> cases h2
  have ha:vs[i]?=some v:=by
   unfold js at h2
   rw [cF (by simpa using hi),aU] at h2
   cases e:vs[i]? with
   |none=>rw [e] at h2;cases h2
   |some a=>rw [e] at h2;cases h2;rfl
  obtain ⟨u,hu,rv⟩:=r.get ha
  have hp:ps[i]?=some y:=by
   rw [←S.pre,List.getElem?_take_of_lt (by lia)];exact h1
  have ndP:ps.Nodup:=by rw [←S.pre];exact S.nd.sublist (List.take_sublist _ _)
  refine ⟨u,rv,?_⟩
  rcases S.par y (ce hp) with k|k
  ·exact .inl ⟨k,W2 ndP hp hu k⟩
  ·obtain ⟨c,e⟩:=Jc (n:=s.heap.objs.size+1) k
   refine .inr ⟨.inl k,c,e,?_⟩
   have q:=x.cell y c e
   rw [W8 ndP hp hu (by show scope.names.lookup y≠_;rw [k];decide)] at q
   exact q
 ·exact e0.hok.fresh (bz (x.above y c (bv h)))
 ·unfold js
  show _=N.length
  rw [aS,ah,List.length_replicate]
  lia
theorem fn_of {CX:CXT}{P:Ac}{w:Ah}{K:Aa}{mg:Str→Option Ag}{base:Heap}{k:Nat}{f:Aj}{name qual:Str}{params:Arguments}{body:List Stmt}{scope:Scope}{dV kV doc pm cdv ct oc:Ag}{an od:Option Aj}
  {osl:Array (Option Ag)} {N ps:List Str} {sp:Sp} (lk:K.lookup f=some ⟨oc,od,.func (PySem.W.fnOf name qual params body scope dV kV doc pm an cdv ct),osl⟩) (hcd:PySem.W.codeIn K cdv qual=true) (S:FnScope N ps scope)
  (len:∀vs H Q E,sp vs H Q E→vs.length=ps.length)
  (hbody:∀(A:Ae) (outer:List Env) (s:Ab) (H:Hp) (vs:List V) (Q:VK) (E:XK),Room k (A.deeper (envOfC qual scope s.heap.objs.size f cdv))→sp vs H Q E →
   ∃t,PSs (Ym CX P w K mg base N qual scope f cdv A outer s H E) body t∧t { nx:=λ_ H'=>Q .non H',rt:=Q } (js N vs) H) :
  FnOk P w K mg base CX (k+1) f (PySem.W.fnOf name qual params body scope dV kV doc pm an cdv ct) ps sp:=by
 refine ⟨len,λA outer s H args us vs Q E hr e0 hb r hsp=>?_⟩
 have hl:=len _ _ _ _ hsp
 have KX:K.In s.heap:=e0.mod.kin.keeps λb o e=>(e0.bs b o e).1
 have lim:s.heap.NoLimit:=e0.mod.nolimit.keeps λb o e=>(e0.bs b o e).1
 have hkind:∀y∈ps.zip us,scope.names.lookup y.1=some .local∨(scope.names.lookup y.1=some .cell∧((cellsFrom (s.heap.objs.size+1) scope.names []).lookup y.1).isSome=true):=λ⟨n,v⟩ hy=>by
  rcases S.par n (cV hy).1 with q|q
  ·exact .inl q
  ·exact .inr ⟨q,PySem.W.cellsFrom_some _ _ _ (.inl q)⟩
 refine codeAny_call_function hr.depth (KX _ _ lk) rfl S.co S.gen rfl (PySem.W.codeRec_of KX hcd) (hb _ _ _ _ ?_)
 refine wpAny_newFunctionEnv_cells S.kind hkind λenv he s1 x=>?_
 subst he
 refine ⟨lim.keeps x.toInCall.keep,codeAny_func ?_⟩
 obtain ⟨t,ht,hq⟩:=hbody A outer s H vs Q E (hr.deeper _) hsp
 have I:Inv (Ym CX P w K mg base N qual scope f cdv A outer s H E) [] (js N vs) H s1:=qx9 S hr.hd e0 hl r x
 refine aF (ht [] s1 (js N vs) H _ I hq) (λfl s' hs=>?_) λe s' hs=>hs
 have fin:∀ {σ':St} {H':Hp} {v:V} {u:Ag},Inv (Ym CX P w K mg base N qual scope f cdv A outer s H E) [] σ' H' s'→xx v u→Q v H'→CE outer P w H s Q u s' :=
  λ{σ' H' v u} J rv q=>⟨v,H',J.os,J.bare,J.base,J.hok,rv,q⟩
 cases fl with
 |ret u =>
  obtain ⟨v,σ',H',J,rv,q⟩:=hs
  exact fin J rv q
 |next =>
  obtain ⟨σ',H',J,q⟩:=hs
  exact fin (v:=V.non) (u:=Value.none) J rfl q
 |brk =>
  obtain ⟨_,_,_,q⟩:=hs
  exact False.elim q
 |cont =>
  obtain ⟨_,_,_,q⟩:=hs
  exact False.elim q
section
variable {X:Cx}{x:Str}{p pos:Pos}{e:Expr}{es:List Expr}{t:TA}{id T:String}{r:List V→Hp→VK→Prop}
def tCB (r:List V→Hp→VK→Prop)(t:TA):TE:=λσ H Q=>t σ H λvs H1=>r vs H1 Q
theorem w4 (hc:vf X (.builtin id) r)(hg:Gl X x)(hm:X.mg x=none)(hv:bootBuiltins x=some (.builtin id))(ha:PA X (e::es) t)(hn:x ≠ "__name__" := by decide)(hdb:(x==("__debug__" : Str))=false:=by decide)
  (he:starEach (e::es) X.env=(false,eval e X.env)::starEach es X.env:=by rfl) (hpl:(backTo pos (starEach es X.env)).any (·.1)=false:=by rfl):PE X (.Call (.Name x p) (e::es) [] pos) (tCB r t):=by
 intro pins s σ H Q I h
 refine bA (qqs I hg hm hv ?_ hn hdb)
 exact PyProof.Rows.callWith_builtin1 (thn (ha pos pins s σ H _ I h) λus s1 ⟨vs,H1,I1,r1,q1⟩=>hc pins s1 σ H1 vs us Q I1 r1 q1) he hpl
theorem jv (hc:vf X (.type T) r)(hg:Gl X x)(hm:X.mg x=none)(hv:bootBuiltins x=some (.type T))(ha:PA X (e::es) t)(hn:x ≠ "__name__" := by decide)(hdb:(x==("__debug__" : Str))=false:=by decide)
  (he:starEach (e::es) X.env=(false,eval e X.env)::starEach es X.env:=by rfl) (hpl:(backTo pos (starEach es X.env)).any (·.1)=false:=by rfl):PE X (.Call (.Name x p) (e::es) [] pos) (tCB r t):=by
 intro pins s σ H Q I h
 refine bA (qqs I hg hm hv ?_ hn hdb)
 exact cm (thn (ha pos pins s σ H _ I h) λus s1 ⟨vs,H1,I1,r1,q1⟩=>hc pins s1 σ H1 vs us Q I1 r1 q1) he hpl
end
end L2
namespace HT
open PySem PyProof.Rows
section
open PySem.SeqAt
open PySem.AutoSeq1 (wpAny_loadPart')
open PySem.MeetsSeq PySem.MeetsSeq2 PySem.MeetsSeq3
end
section
variable {prog:Ac}{w:Ah}{A:Ae}{E:Ag→Ab→Prop}{s:Ab}
def sIx (n d:Nat):Option Int→Nat
 |none=>d
 |some v=>if v<0 then (v+(n:Int)).toNat else min v.toNat n
end
end HT
namespace L2
open PySem PySem.Spec PyProof.Rows
abbrev TO:=St→Hp→(Option Int→Hp→Prop)→Prop
def PO (X:Cx)(e:Option Expr)(t:TO):Prop :=
 ∀(pins:List (Aj×Obj)) (s:Ab) (σ:St) (H:Hp) (Q:Option Int→Hp→Prop),Inv X pins σ H s→t σ H Q →
  wpAny (model X.prog X.w) X.A (evalPart e X.env) (λu s'=>∃o H',Inv X pins σ H' s'∧IsPart u o∧Q o H') X.xe s
def qjk:TO:=λ_ H Q=>Q none H
def tPart (t:TE):TO:=λσ H Q=>t σ H λx H1=>∃i,x=.int i∧Q (some i) H1
theorem qqc {ns:List Int}:∀ {us:List Ag},Vals (ns.map V.int) us→IntsAre us ns:=by
 induction ns with
 |nil=>intro us r;rw [bQ] at r;cases r;exact .nil
 |cons n ns ih =>
  intro us r
  rw [aw] at r
  cases r with
  |cons r1 r2 =>
   obtain ⟨t,e⟩:=r1
   subst e
   exact .cons n t (ih r2)
section
variable {X:Cx}{e:Expr}{te:TE}{lo hi:Option Expr}{tl th:TO}{pos p2:Pos}
theorem qwg:PO X none qjk:=by
 intro pins s σ H Q I h
 rw [evalPart_none]
 exact ag ⟨none,H,I,.none,h⟩
theorem qwm (h:PE X e te):PO X (some e) (tPart te):=by
 intro pins s σ H Q I hw
 rw [evalPart_some]
 refine thn (h pins s σ H _ I hw) λu s1 ⟨x,H1,I1,r1,q1⟩=>?_
 obtain ⟨i,rfl,q⟩:=q1
 obtain ⟨t,rfl⟩:=r1
 exact ⟨some i,H1,I1,.int i t,q⟩
def SlR (X:Cx)(r:V→Option Int→Option Int→Hp→VK→Prop):Prop :=
 ∀(pins:List (Aj×Obj)) (s:Ab) (σ:St) (H:Hp) (x:V) (v vl vu:Ag) (lo hi:Option Int) (sl:Aj) (Q:VK),Inv X pins σ H s→xx x v→s.heap.IsSliceOf sl vl vu .none→IsPart vl lo→IsPart vu hi→r x lo hi H Q →
  ∃T id,typeLookup (.type T) "__getitem__" = pure (some (.builtin id))∧s.TypeIs v T∧wpAny (model X.prog X.w) X.A (getItem v (.ref sl)) (EP X pins σ Q) X.xe s
def tSl (r:V→Option Int→Option Int→Hp→VK→Prop)(te:TE)(tl th:TO):TE:=λσ H Q=>te σ H λx H1=>tl σ H1 λl H2=>th σ H2 λu H3=>r x l u H3 Q
theorem Js {r:V→Option Int→Option Int→Hp→VK→Prop}(hr:SlR X r)(he:PE X e te)(hl:PO X lo tl)(hu:PO X hi th):PE X (.Subscript e (.Slice lo hi none p2) pos) (tSl r te tl th):=by
 intro pins s σ H Q I h
 refine Subscript_ (thn (he pins s σ H _ I h) λv s1 ⟨x,H1,I1,r1,q1⟩=>?_)
 refine wpAny_Slice (thn (hl pins s1 σ H1 _ I1 q1) λvl s2 ⟨l,H2,I2,pl,q2⟩=>thn (hu pins s2 σ H2 _ I2 q2) λvu s3 ⟨u,H3,I3,pu,q3⟩=>?_)
 rw [evalPart_none]
 refine ag ?_
 have I4:Inv X pins σ H3 { s3 with heap:=s3.heap.push { cls:=.type "slice",data:=.fields #[vl,vu,.none] } }:=I3.kept (t':=s3.toks) λb ob q=>ac _ q
 obtain ⟨T,id,hT,ht,hg⟩:=hr pins { s3 with heap:=s3.heap.push { cls:=.type "slice",data:=.fields #[vl,vu,.none] } } σ H3 x v vl vu l u s3.heap.objs.size Q I4 r1 (Heap.IsSliceOf.new ..) pl pu q3
 show wpAny (model X.prog X.w) X.A (subscriptTail e (.Slice lo hi none p2) v (.ref s3.heap.objs.size)) (EP X pins σ Q) X.xe { s3 with heap:=s3.heap.push { cls:=.type "slice",data:=.fields #[vl,vu,.none] } }
 exact tail_any (ops:=[.ref s3.heap.objs.size,v]) ht hT hg (by with_unfolding_all rfl)
def cutV (xs:List V)(lo hi:Option Int):List V:=(xs.drop (HT.sIx xs.length 0 lo)).take (HT.sIx xs.length xs.length hi-HT.sIx xs.length 0 lo)
theorem Jp (xs:List V)(lo hi:Option Int):(cutV xs lo hi).length≤xs.length:=by
 unfold cutV
 rw [bI,List.length_drop]
 lia
end
def ixN (n:Nat)(i:Int):Option Nat:=if 0≤i then (if i<n then some i.toNat else none) else if -(n:Int)≤i then some (i+n).toNat else none
def atI {α:Type}(xs:List α)(i:Int):Option α:=(ixN xs.length i).bind λj=>xs[j]?
theorem qjj {n:Nat}{i:Int}{j:Nat}(h:ixN n i=some j):seqIndex? i n=some j∧j<n∧-(n:Int)≤i∧i<n:=by
 unfold ixN at h
 by_cases h0:0≤i
 ·rw [av h0] at h
  by_cases h1:i<n
  ·rw [av h1] at h
   have e:i.toNat=j:=ak h
   exact ⟨by rw [seqIndex_of h0 h1,e],by lia,by lia,h1⟩
  ·rw [ao h1] at h;cases h
 ·rw [ao h0] at h
  by_cases h1:-(n:Int)≤i
  ·rw [av h1] at h
   have e:(i+n).toNat=j:=ak h
   exact ⟨by rw [seqIndex_neg (by lia) h1,e],by lia,h1,by lia⟩
  ·rw [ao h1] at h;cases h
theorem qwj {α:Type}{xs:List α}{i:Int}{v:α}(h:atI xs i=some v):∃j,seqIndex? i xs.length=some j∧xs[j]?=some v∧j<xs.length∧-(xs.length:Int)≤i∧i<xs.length:=by
 unfold atI at h
 cases e:ixN xs.length i with
 |none=>rw [e] at h;cases h
 |some j =>
  rw [e] at h
  obtain ⟨h1,h2,h3,h4⟩:=qjj e
  exact ⟨j,h1,h,h2,h3,h4⟩
theorem Z9 {α:Type}{xs:List α}{j:Nat}{v:α}(h:xs[j]?=some v):atI xs (j:Int)=some v:=by
 have hj:j<xs.length:=(aW.mp h).1
 have e:ixN xs.length (j:Int)=some j:=by
  unfold ixN
  rw [av (by lia),av (by lia)];simp
 unfold atI;rw [e];exact h
theorem Jg {α:Type}(xs:List α)(v:α):atI (xs++[v]) (-1)=some v:=by
 have hl:(xs++[v]).length=xs.length+1:=by simp
 have e:ixN (xs++[v]).length (-1)=some xs.length:=by
  unfold ixN
  rw [hl,ao (by decide),av (by lia)]
  congr 1
  lia
 unfold atI
 rw [e]
 show (xs++[v])[xs.length]?=some v
 simp
def qyz (b:Expr):Prop:=∀o i,subscripted b false o i=operate [o,i] (getItem o i)
def IxR (X:Cx)(r:R2):Prop :=
 ∀(value slice:Expr) (pins:List (Aj×Obj)) (s:Ab) (σ:St) (H:Hp) (x y:V) (v u:Ag) (Q:VK),Inv X pins σ H s→xx x v→xx y u→r x y H Q →
  subscripted slice false v u=operate [v,u] (getItem v u)→wpAny (model X.prog X.w) X.A (subscriptTail value slice v u) (EP X pins σ Q) X.xe s
def MtR (X:Cx)(id:String)(r:V→List V→Hp→VK→Prop):Prop :=
 ∀(pins:List (Aj×Obj)) (s:Ab) (σ:St) (H:Hp) (x:V) (xs:List V) (v:Ag) (us:List Ag) (Q:VK),Inv X pins σ H s→xx x v→Vals xs us→r x xs H Q →
  wpAny (model X.prog X.w) X.A (call (.builtin id) (v::us)) (EP X pins σ Q) X.xe s
section
variable {X:Cx}{a b:Expr}{ta tb:TE}{pos:Pos}
theorem z8 {r:R2}(hr:IxR X r)(ha:PE X a ta)(hb:PE X b tb)(hs:qyz b):PE X (.Subscript a b pos) (tOp r ta tb):=by
 intro pins s σ H Q I h
 exact Subscript_ (binT ha hb I h λv u s2 x y H2 I2 rx ry q=>hr a b pins s2 σ H2 x y v u Q I2 rx ry q (hs _ _))
def rIxL (K:Aa):R2:=λx y H Q=>∃p xs i v,x=.ref p∧y=.int i∧SqL K H p xs∧atI xs i=some v∧Q v H
def rIxT (K:Aa):R2:=λx y H Q=>∃p xs i v,x=.ref p∧y=.int i∧SqT K H p xs∧atI xs i=some v∧Q v H
theorem zp:IxR X (rIxL X.K):=by
 intro value slice pins s σ H x y v u Q I rx ry h hs
 obtain ⟨p,xs,i,z,rfl,rfl,hq,he,q⟩:=h
 cases rx
 obtain ⟨t,rfl⟩:=ry
 obtain ⟨its,r,pl,hz⟩:=I.list hq
 obtain ⟨j,h1,h2,h3,h4,h5⟩:=qwj he
 obtain ⟨w,ew,rw'⟩:=r.get h2
 have hl:=r.length
 have hn:=Qg
 have fin:EP X pins σ Q w s:=⟨z,H,I,rw',q⟩
 by_cases h0:0≤i
 ·have hj:i.toNat=j:=by
   rw [seqIndex_of h0 h5] at h1
   exact ak h1
  exact item_listR pl.isList h0 (by lia) (by rw [hj];simpa using ew) fin hs
 ·have hj:(i+(its.toArray.size:Int)).toNat=j:=by
   rw [seqIndex_neg (by lia) h4] at h1
   rw [az,←hl]
   exact ak h1
  exact subscriptTail_builtinR (x:=w) pl.isList.typeIs slot_list_getitem.lookup
   (wpAny_getItem_list_neg (Q:=λr s'=>r=w∧EP X pins σ Q r s') pl.isList (by lia) (by rw [az] <;> lia) (by lia) (by rw [hj];simpa using ew) ⟨rfl,fin⟩) hs
theorem yt:IxR X (rIxT X.K):=by
 intro value slice pins s σ H x y v u Q I rx ry h hs
 obtain ⟨p,xs,i,z,rfl,rfl,hq,he,q⟩:=h
 cases rx
 obtain ⟨t,rfl⟩:=ry
 obtain ⟨its,r,pl,hz⟩:=I.tuple hq
 obtain ⟨j,h1,h2,h3,h4,h5⟩:=qwj he
 obtain ⟨w,ew,rw'⟩:=r.get h2
 have hl:=r.length
 have hn:=Qg
 have fin:EP X pins σ Q w s:=⟨z,H,I,rw',q⟩
 exact subscriptTail_builtinR (x:=w) pl.typeIs slot_tuple_getitem.lookup
  (getItem_tuple (j:=j) (Q:=λr s'=>r=w∧EP X pins σ Q r s') pl (by lia) (by lia) (by rw [az,←hl];exact h1) (by simpa using ew) ⟨rfl,fin⟩) hs
theorem Z8 (lo hi:Option Int)(n:Nat):(sliceBounds lo hi none n).1=((HT.sIx n 0 lo:Nat):Int)∧(sliceBounds lo hi none n).2.1=((HT.sIx n n hi:Nat):Int)∧(sliceBounds lo hi none n).2.2=1:=by
 refine ⟨?_,?_,rfl⟩
 ·cases lo with
  |none=>simp [sliceBounds,HT.sIx]
  |some i =>
   simp only [sliceBounds,HT.sIx,Option.getD_none,show (1:Int)>0 by decide,if_true]
   by_cases h:i<0
   ·simp only [h,if_true] <;> lia
   ·simp only [h,cY] <;> lia
 ·cases hi with
  |none=>simp [sliceBounds,HT.sIx]
  |some i =>
   simp only [sliceBounds,HT.sIx,Option.getD_none,show (1:Int)>0 by decide,if_true]
   by_cases h:i<0
   ·simp only [h,if_true] <;> lia
   ·simp only [h,cY] <;> lia
theorem Wf (its:List Ag)(lo hi:Option Int):slicePick its.toArray lo hi none=((its.drop (HT.sIx its.length 0 lo)).take (HT.sIx its.length its.length hi-HT.sIx its.length 0 lo)).toArray:=by
 obtain ⟨h1,h2,h3⟩:=Z8 lo hi its.toArray.size
 unfold slicePick
 rw [h1,h2,h3]
 simp only [sliceRange_one,pick_run,az] <;> rfl
def rSlL (K:Aa):V→Option Int→Option Int→Hp→VK→Prop:=λx lo hi H Q=>∃a xs,x=.ref a∧SqL K H a xs∧∀p,H p=none→Q (.ref p) (upd H p (.lst (cutV xs lo hi)))
theorem qwr:SlR X (rSlL X.K):=by
 intro pins s σ H x v vl vu lo hi sl Q I rx hs pl pu h
 obtain ⟨a,xs,rfl,hx,q⟩:=h
 cases rx
 obtain ⟨its,r,ht,hz⟩:=I.list hx
 have hlen:=r.length
 refine ⟨"list",_,slot_list_getitem.lookup,ht.isList.typeIs,?_⟩
 refine wpAny_getItem_list_slice ht.isList hs pl pu .none (by simp) ?_ (by rw [az] <;> lia)
 rw [Wf,←hlen]
 refine ⟨.ref s.heap.objs.size,_,I.laid (t':=s.toks) (o:=.lst (cutV xs lo hi)) (λb ob q=>ac _ q) (af _) ?_,rfl,q _ (I.hok.fresh (af _))⟩
 exact ⟨aZ (Jp xs lo hi) hz,_,0,(r.drop (HT.sIx xs.length 0 lo)).take (HT.sIx xs.length xs.length hi-HT.sIx xs.length 0 lo),ai _ rfl⟩
theorem xb:vf X (.builtin "len") (λxs H Q=>∃p ys,xs=[.ref p]∧(SqL X.K H p ys∨SqT X.K H p ys)∧Q (.int ys.length) H):=by
 intro pins s σ H xs us Q I r h
 obtain ⟨p,ys,rfl,hq,q⟩:=h
 obtain ⟨u,rfl,rx⟩:=jn r
 cases rx
 have hn:=Qg
 rcases hq with hq|hq
 ·obtain ⟨its,r',pl,hz⟩:=I.list hq
  have hlen:=r'.length
  exact Calls.call_len_list pl.isList (by simp only [az] <;> lia) ⟨.int ys.length,H,I.tok _,⟨s.toks+1,by rw [az,hlen]⟩,q⟩
 ·obtain ⟨its,r',pl,hz⟩:=I.tuple hq
  have hlen:=r'.length
  exact len_tuple pl (by simp only [az] <;> lia) ⟨.int ys.length,H,I.tok _,⟨s.toks+1,by rw [az,hlen]⟩,q⟩
theorem yq:vf X (.builtin "len") (λxs H Q=>∃z,xs=[.str z]∧z.length≤sizeLine∧Q (.int z.length) H):=by
 intro pins s σ H xs us Q I r h
 obtain ⟨z,rfl,hz,q⟩:=h
 obtain ⟨u,rfl,t,rfl⟩:=jn r
 have hn:=Qg
 exact len_str (by lia) ⟨.int z.length,H,I.tok _,⟨_,rfl⟩,q⟩
theorem vm:vf X (.type "list") (λxs H Q=>∃p ys,xs=[.ref p]∧(SqL X.K H p ys∨SqT X.K H p ys)∧∀l,H l=none→Q (.ref l) (upd H l (.lst ys))):=by
 intro pins s σ H xs us Q I r h
 obtain ⟨p,ys,rfl,hq,q⟩:=h
 obtain ⟨u,rfl,rx⟩:=jn r
 cases rx
 have fin:∀(its:List Ag),Vals ys its→ys.length≤sizeLine→∀(h':Heap) (c':Nat),(∀b o',s.heap.get? b=some o'→h'.get? b=some o') →
   h'.get? s.heap.objs.size=some { cls:=.type "list",dict:=none,data:=.seq its.toArray c',slots:=#[] }→EP X pins σ Q (.ref s.heap.objs.size) { s with heap:=h' }:=λits r' hz h' c' kp e =>
  ⟨.ref s.heap.objs.size,_,I.laid (t':=s.toks) kp (af _) (show ObjOk X.prog X.w _ h' _ (.lst ys) from ⟨hz,its,c',r',e⟩),rfl,q _ (I.hok.fresh (af _))⟩
 rcases hq with hq|hq
 ·obtain ⟨its,r',pl,hz⟩:=I.list hq
  have hlen:=r'.length
  obtain ⟨o,ho,hc,n,hd⟩:=pl.isList
  exact call_list_seq p (.inl rfl) ho hc hd (λh' c' kp e=>fin its r' hz h' c' kp e) (by simp only [az] <;> lia)
 ·obtain ⟨its,r',pl,hz⟩:=I.tuple hq
  have hlen:=r'.length
  obtain ⟨o,ho,hc,n,hd⟩:=pl
  exact call_list_seq p (.inr rfl) ho hc hd (λh' c' kp e=>fin its r' hz h' c' kp e) (by simp only [az] <;> lia)
def tyV (K:Aa)(T:String)(x:V)(H:Hp):Prop:=match x with
 |.str _=>T = "str"
 |.int _=>T = "int"
 |.ref p=>(T = "list" ∧ ∃xs,SqL K H p xs)∨(T = "tuple" ∧ ∃o,K.lookup p=some o∧o.cls=.type "tuple" ∧ o.dict=none) ∨
   (T = "dict" ∧ ((∃kvs,H p=some (.dK kvs))∨∃kvs,H p=some (.dT kvs)))∨(T = "set" ∧ ∃S n,H p=some (.set S n))
 |_=>False
theorem tyV_is {pins:List (Aj×Obj)}{σ:St}{H:Hp}{s:Ab}{T:String}{x:V}{v:Ag}(I:Inv X pins σ H s)(r:xx x v)(ty:tyV X.K T x H) :
  s.TypeIs v T∧∀a,v=.ref a→∃ob,s.heap.get? a=some ob∧ob.dict=none:=by
 cases x with
 |str z =>
  obtain ⟨t,rfl⟩:=r
  cases (show T = "str" from ty)
  exact ⟨typeIs_str s z t,λ_ e=>nomatch e⟩
 |int i =>
  obtain ⟨t,rfl⟩:=r
  cases (show T = "int" from ty)
  exact ⟨typeIs_int s i t,λ_ e=>nomatch e⟩
 |ref p =>
  cases r
  rcases ty with ⟨rfl,xs,hq⟩|⟨rfl,o,hk,hc,hd⟩|⟨rfl,hk⟩|⟨rfl,S,n,hk⟩
  ·obtain ⟨its,_,pl,_⟩:=I.list hq
   refine ⟨pl.isList.typeIs,λa e=>?_⟩
   cases e
   obtain ⟨o,n,e,c,hd,_⟩:=pl
   exact ⟨o,e,hd⟩
  ·refine ⟨⟨o,I.kIn p o hk,hc⟩,λa e=>?_⟩
   cases e
   exact ⟨o,I.kIn _ o hk,hd⟩
  ·have z:∃o,s.heap.get? p=some o∧o.ExactDict:=by
    rcases hk with ⟨kvs,hk⟩|⟨kvs,hk⟩
    ·obtain ⟨_,_,_,_,o,_,_,e,ex,_⟩:=I.hok p _ hk
     exact ⟨o,e,ex⟩
    ·obtain ⟨_,_,_,_,o,_,_,e,ex,_⟩:=I.hok p _ hk
     exact ⟨o,e,ex⟩
   obtain ⟨o,e,ex⟩:=z
   refine ⟨⟨o,e,ex.1⟩,λa e2=>?_⟩
   cases e2
   exact ⟨o,e,ex.2.1⟩
  ·obtain ⟨o,_,_,_,e,ex,_⟩:=I.hok p _ hk
   refine ⟨⟨o,e,ex.1⟩,λa e2=>?_⟩
   cases e2
   exact ⟨o,e,ex.2.1⟩
 |_=>exact False.elim ty
def tBM (K:Aa)(T:String)(r:V→List V→Hp→VK→Prop)(to:TE)(t:TA):TE:=λσ H Q=>to σ H λx H1=>tyV K T x H1∧t σ H1 λxs H2=>r x xs H2 Q
variable {o e:Expr}{es:List Expr}{to:TE}{t:TA}{name:Str}{apos cpos:Pos}{T id:String}{r:V→List V→Hp→VK→Prop}
theorem qws (pa:PlainAttrs T)(slot:Slot T name id)(hty:typeOf (.builtin id)=pure (.type "method_descriptor"))(hm:MtR X id r)(ho:PE X o to)(ha:PA X (e::es) t)
  (hbase:attributeBase o name X.env (eval o X.env)=eval o X.env:=by rfl)
  (hfew:((backTo cpos (starEach (e::es) X.env)).all (λx=>!x.1)&&(backToKw cpos (keywordEach [] X.env)).all (λx=>x.1.isSome)
   && decide ((e::es).length+([]:List Keyword).length+(if ([]:List Keyword).isEmpty then 0 else 1)<30))=true:=by rfl)
  (hline:(apos.endLine==cpos.line)=true:=by rfl) (hs:starEach (e::es) X.env=(false,eval e X.env)::starEach es X.env:=by rfl) (hplain:(backTo cpos (starEach es X.env)).any (·.1)=false:=by rfl) :
  PE X (.Call (.Attribute o name apos) (e::es) [] cpos) (tBM X.K T r to t):=by
 intro pins s σ H Q I h
 refine wpAny_Call_method_late hbase hfew hline rfl (thn (ho pins s σ H _ I h) λv s1 ⟨x,H1,I1,r1,ty,q1⟩=>?_)
 obtain ⟨h1,h2⟩:=tyV_is I1 r1 ty
 refine ⟨T,id,pa,slot,hty,h1,h2,?_⟩
 have hA:=ha cpos pins s1 σ H1 _ I1 q1
 rw [hs] at hA ⊢
 refine bR (by show (false||(backTo cpos (starEach es X.env)).any (·.1))=false;rw [hplain] <;> rfl) (cf ?_)
 exact thn hA λus s2 ⟨vs,H2,I2,r2,q2⟩=>hm pins s2 σ H2 x vs v us Q I2 r1 r2 q2
end
def MtM (X:Cx)(id:String)(r:V→List V→Hp→VK→Prop):Prop :=
 ∀(pins:List (Aj×Obj)) (s:Ab) (σ:St) (H:Hp) (x:V) (xs:List V) (v:Ag) (us:List Ag) (Q:VK),Inv X pins σ H s→xx x v→Vals xs us→r x xs H Q →
  wpAny (model X.prog X.w) X.A (call (.builtin id) (v::us)) (EP X pins σ Q) X.xe s
theorem Vals.one:∀ {x:V} {us:List Ag},Vals [x] us→∃u,us=[u]∧xx x u
 |_,_,.cons r .nil=>⟨_,rfl,r⟩
theorem Vals.two:∀ {x y:V} {us:List Ag},Vals [x,y] us→∃u v,us=[u,v]∧xx x u∧xx y v
 |_,_,_,.cons r (.cons q .nil)=>⟨_,_,rfl,r,q⟩
section
variable {X:Cx}{pins:List (Aj×Obj)}{σ:St}{H:Hp}{s:Ab}{l b:Aj}{xs ys zs:List V}
theorem Inv.lset {its its':List Ag}{n:Nat}{f:Array Ag→Array Ag}{t':Nat}(I:Inv X pins σ H s)(hH:H l=some (.lst xs))
  (e:s.heap.get? l=some { cls:=.type "list",data:=.seq its.toArray n }) (hf:f its.toArray=its'.toArray) (hv:Vals ys its') (hz:ys.length≤sizeLine) :
  Inv X pins σ (upd H l (.lst ys)) { s with heap:=s.heap.update l (Obj.mapSeq f),toks:=t' }:=by
 have q:=PySem.IsL.update e f
 rw [hf] at q
 refine I.write (x:=l) (e:=l) (by rw [hH];exact trivial) (.inl rfl) (λb' u hb hu=>(Heap.get?_update_other s.heap (Obj.mapSeq f) (aT hb)).trans hu) ⟨_,q⟩ ?_
 exact ⟨hz,its',_,hv,q⟩
theorem Inv.lstM (I:Inv X pins σ H s)(hH:H l=some (.lst xs)):xs.length≤sizeLine∧∃(its:List Ag) (n:Nat),Vals xs its∧xs.length=its.length∧s.heap.get? l=some { cls:=.type "list",data:=.seq its.toArray n }:=by
 obtain ⟨z,its,n,r,e⟩:=I.hok l _ hH
 exact ⟨z,its,n,r,r.length,e⟩
end
section
variable {X:Cx}
def qju:V→List V→Hp→VK→Prop:=λx vs H Q=>∃l xs y,x=.ref l∧vs=[y]∧H l=some (.lst xs)∧xs.length<sizeLine∧Q .non (upd H l (.lst (xs++[y])))
theorem jz:MtM X "list.append" qju:=by
 intro pins s σ H x vs v us Q I rx rv h
 obtain ⟨l,xs,y,rfl,rfl,hH,hz,q⟩:=h
 cases rx
 obtain ⟨u,rfl,ru⟩:=rv.one
 obtain ⟨z,its,n,r,hl,e⟩:=I.lstM hH
 refine call_meets F.slot_list_append ⟨_,e,rfl⟩ F.entry_list_append (F.args_list_append_2 _ _) (PySem.list_append l its.toArray n u (by rw [az];lia)) ⟨e,?_⟩
 refine ⟨.non,_,I.lset (its':=its++[u]) hH e (by simp) (r.append (.cons ru .nil)) ?_,rfl,q⟩
 rw [aS,List.length_singleton]
 lia
end
section
variable {prog:Ac}{w:Ah}{A:Ae}{E:Ag→Ab→Prop}{s:Ab}
end
section
variable {X:Cx}
end
end L2
namespace Att
open PySem PySem.W PySem.Calls PyProof.Rows
theorem uh {P:Params}{h:Heap}:∀(ns:List Int) (vs:List Ag),WellAll P h vs (ns.map WData.int)→IntsAre vs ns:=by
 intro ns
 induction ns with
 |nil =>
  intro vs w
  rw [bQ] at w
  cases w
  exact .nil
 |cons n ns ih =>
  intro vs w
  rw [aw] at w
  cases w with
  |cons a b =>
   cases a
   exact .cons _ _ (ih _ b)
theorem qzj {l:OpenLaw}{n:Nat}(hn:l.most=some n){P:Params}{h:Heap}{args:List WData}{vals:List Ag}
  (hpre:l.row.toRowW.claim.pre args=true) (hwl:WellAll P h vals args) :
  ∃a vs ns,vals=[Value.ref a]∧args=[WData.list (ns.map WData.int)]∧h.get? a=some { cls:=.type "list",data:=.seq vs.toArray }∧IntsAre vs ns∧ns.length≤n:=by
 have hsh:WShape.hasAll [] args [.list .int]=true:=(pre_splitW hpre).1
 have hc:l.pre.holds [] { args:=args }=true:=(pre_splitW hpre).2
 obtain ⟨d,r,rfl,h1,h2⟩:=hasAllW_cons hsh
 obtain rfl:=hasAllW_nil h2
 obtain ⟨xs,rfl,h3⟩:=hasW_list h1
 obtain ⟨ns,rfl⟩:=items_int h3
 have hlen:ns.length≤n:=by
  unfold OpenLaw.pre at hc
  have h4:(WTm.not (.lt (.lit (.int (n:Int))) (.len (.arg 0)))).holds [] { args:=[.list (ns.map .int)] }=true:=by
   have h4:=(holds_andW hc).1
   rw [hn] at h4
   exact h4
  have h5:=condW_of h4 (w_not (w_lt w_lit (w_len_list (w_arg rfl))))
  rw [ah] at h5
  refine Nat.le_of_not_lt λq=>?_
  have q':(n:Int)<((ns.length:Nat):Int):=by lia
  first
   |(rw [aP q'] at h5;exact absurd h5 (by decide))
   |(simp at h5;lia)
 cases hwl with
 |cons w1 w2 =>
  cases w2
  cases w1 with
  |list ho hall=>exact ⟨_,_,ns,rfl,rfl,ho,uh ns _ hall,hlen⟩
theorem qxf (l:OpenLaw)(args:List WData):l.row.toRowW.claim.post args (.bool true) args=true :=
 postW_of (r:=l.row.toRowW) (X:=(true==true))
  (show WShape.has [] (.bool true) .bool=true by first | rfl | decide | simp [WShape.has,WShape.arms,WShape.armsAll])
  (show (WTm.eq .res (.lit (.bool true))).value [] { args:=args,res:=some (.bool true),after:=args }=some (.bool (true==true)) from w_eq_bool (w_res rfl) w_lit) rfl
theorem attach_call {l:OpenLaw}{n:Nat}{q:Ac}{loose:List Str}{XP:(Str→Option Ag)→Heap→Prop}{YP:Ah→Heap→Prop}{d:DefRec}
  (hn:l.most=some n) (hdf:d.params.defaults=[])
  (call:∀(w:Ah) (s₀ s₁:Ab) (mg mb:Str→Option Ag) (fa:Aj) (o:Obj) (pm cd doc:Ag) (a:Aj) (vs:List Ag) (ns:List Int),
   Ground q loose [] XP w s₀ mg mb s₁.heap→YP w s₁.heap →
   s₁.heap.get? fa=some o→o.data=.func (docDef d.name d.params d.body d.scope pm cd doc)→s₁.heap.CodeRec cd d.name→mg d.name=some (.ref fa) →
   s₁.heap.get? a=some { cls:=.type "list",data:=.seq vs.toArray }→IntsAre vs ns→ns.length≤n→s₁.gens=#[] →
   codeAny (model l.prog w) callerA (.call (.ref fa) ⟨[.ref a],[]⟩) (λr s'=>r=.ok (.ret (.bool true))∧OldK s₁.heap s'.heap∧s'.os=s₁.os∧AllBare s'.gens) s₁) :
  WalkO q loose XP YP l.row.toRowW d [] (λf vs=>PySem.call f vs):=by
 intro w s₀ s₁ mg mb G Y fa o pm cd doc dV kV ho hd hcd hD hmg hg args vals as hpre hlay hrd hwl hlo
 obtain rfl:dV=.none:=Dflts.none hD hdf
 obtain rfl:kV=.none:=Dflts.noKw hD
 obtain ⟨a,vs,ns,rfl,rfl,hobj,hints,hlen⟩:=qzj hn hpre hwl
 refine enter_call (cU (call w s₀ s₁ mg mb fa o pm cd doc a vs ns G Y ho (fd_plain hd) hcd hmg hobj hints hlen hg) λr s' hq=>?_)
 obtain ⟨rfl,h2,h3,h4⟩:=hq
 exact ⟨.inl ⟨.bool true,.bool true,[],rfl,λ_=>rfl,.bool true,qxf l _,λ_=>⟨List.Pairwise.nil,λ_ hm=>(nomatch hm)⟩⟩,h2,h3,h4⟩
section
variable {prog:Ac}{w:Ah}{A:Ae}{E:Ag→Ab→Prop}{s:Ab}{K:Frag}
end
end Att
namespace L2
open PySem PySem.Spec PyProof.Rows
theorem Zy:∀ {vs:List Ag} {ns:List Int},IntsAre vs ns→Vals (ns.map V.int) vs
 |_,_,.nil=>.nil
 |_,_,.cons n t h=>.cons ⟨t,rfl⟩ (Zy h)
def Only (H:Hp):Prop:=∀b,H b=none∨∃o xs,H b=some (.frz o (.lst xs))
theorem qv5 {P:Ac}{w:Ah}{K:Aa}{mg mb:Str→Option Ag}{CX:CXT}{k:Nat}{fa a:Aj}{fd:Ad}{x:Str}{sp:Sp}{s₁:Ab}{vs:List Ag}{ns:List Int}
  (KX:K.In s₁.heap) (hns:s₁.heap.Ns mainGlobals mg) (hb:s₁.heap.Ns builtinsNs mb) (hbb:∀x:Str,x ≠ "__name__" → mb x=bootBuiltins x) (hlim:s₁.heap.NoLimit) (hg:s₁.gens=#[])
  (ha:s₁.heap.get? a=some { cls:=.type "list",data:=.seq vs.toArray }) (hi:IntsAre vs ns) (hl:ns.length≤sizeLine) (hr:Room k callerA)
  (F:∀base:Heap,K.In base→base.Ns mainGlobals mg→FnOk P w K mg base CX k fa fd [x] sp) (hbind:∀(s:Ab) (u:Ag),BindsTo s fd ⟨[u],[]⟩ [(x,u)])
  (hsp:∀H:Hp,Only H→SqL K H a (ns.map V.int)→sp [.ref a] H (λv _=>v=.bl true) λ_ _ _=>False)
  (hCX:∀H e s',CX [] H s₁ (λ_ _ _=>False) e s'→False) :
  codeAny (model P w) callerA (.call (.ref fa) ⟨[.ref a],[]⟩) (λr s'=>r=.ok (.ret (.bool true))∧OldK s₁.heap s'.heap∧s'.os=s₁.os∧AllBare s'.gens) s₁:=by
 have rv:=Zy hi
 have lenV:=hi.length
 have core:∀H:Hp,Only H→SqL K H a (ns.map V.int)→HOk P w H s₁.heap→(∀b,H b≠none→b=a)→(H a≠none→K.lookup a=none) →
   codeAny (model P w) callerA (.call (.ref fa) ⟨[.ref a],[]⟩) (λr s'=>r=.ok (.ret (.bool true))∧OldK s₁.heap s'.heap∧s'.os=s₁.os∧AllBare s'.gens) s₁:=by
  intro H hO hS hok hA hK
  have base_of:∀ {b:Aj} {o:Obj},s₁.heap.get? b=some o→H b=none→(Yn s₁.heap H).get? b=some o:=λe n=>qv1 e n
  have noA:∀ {b:Aj} {o:Obj} {es:Array DictEntry} {ep:Nat},s₁.heap.get? b=some o→o.data=.dict es ep→H b=none:=λ{b o es ep} e d=>by
   cases q:H b with
   |none=>rfl
   |some u =>
    have e':b=a:=hA b (by rw [q];simp)
    subst e'
    rw [ha] at e;cases e
    have d':Data.seq vs.toArray _=Data.dict es ep:=d
    cases d'
  have nsK:∀ {b:Aj} {m:Str→Option Ag},s₁.heap.Ns b m→(Yn s₁.heap H).Ns b m:=λ{b m} ⟨o,es,ep,e,d,r⟩=>⟨o,es,ep,base_of e (noA e d),d,r⟩
  have hKb:K.In (Yn s₁.heap H):=λb o e=>base_of (KX b o e) (by
   cases q:H b with
   |none=>rfl
   |some u =>
    have e':b=a:=hA b (by rw [q];simp)
    subst e'
    rw [hK (by rw [q];simp)] at e;cases e)
  have hM:Mod K mg (Yn s₁.heap H):=⟨hKb,nsK hns,⟨mb,nsK hb,hbb⟩,let ⟨mc,h1,h2⟩:=hlim;⟨mc,nsK h1,h2⟩⟩
  have e0:Env0 P w K mg (Yn s₁.heap H) callerA [] s₁ H:=⟨rfl,hM,λb o e=>qyc e,Nat.le_of_eq (qxd _ _),trivial,λb hb=>absurd (show b∈([]:List Aj) from hb) (by simp),hok,.of_eq hg⟩
  refine cU ((F _ hKb (nsK hns)).run callerA [] s₁ H ⟨[.ref a],[]⟩ [.ref a] [.ref a] _ _ hr e0 (hbind s₁ (.ref a)) (.cons rfl .nil) (hsp H hO hS)) λr s' h=>?_
  cases r with
  |error e=>exact (hCX H e s' h).elim
  |ok fl =>
   cases fl with
   |next=>exact False.elim h
   |brk=>exact False.elim h
   |cont=>exact False.elim h
   |ret u =>
    obtain ⟨v,H',os,bare,un,hok',r',q⟩:=h
    have q':v=.bl true:=q
    subst q'
    obtain rfl:u=Value.bool true:=r'
    refine ⟨rfl,OldK.of_keep λb o e=>?_,os,bare⟩
    cases q:H b with
    |none=>exact un.keep b o e q (by intro z;exact absurd (show b∈([]:List Aj) from z) (by simp)) (by simp)
    |some u =>
     rcases hO b with z|⟨ob,xs,z⟩
     ·rw [q] at z;cases z
     ·have z2:=un.frzs b ob _ z
      obtain ⟨e1,_⟩:=hok b _ z
      obtain ⟨e2,_⟩:=hok' b _ z2
      rw [e] at e1;cases e1
      exact e2
 cases hk:K.lookup a with
 |some o =>
  have e:=KX a o hk
  rw [ha] at e
  cases e
  refine core (λ_=>none) (λ_=>.inl rfl) (.inr ⟨_,vs.toArray,_,hk,rfl,rfl,rfl,by rw [az,lenV];exact hl,by simpa using rv⟩) (λb u z=>by have z':(none:Option HO)=some u:=z;cases z') (λb z=>absurd rfl z) λz=>absurd rfl z
 |none =>
  refine core (λb=>if b=a then some (.frz { cls:=.type "list",data:=.seq vs.toArray } (.lst (ns.map V.int))) else none) (λb=>?_) (.inl (.inr ⟨{ cls:=.type "list",data:=.seq vs.toArray },av rfl⟩)) (λb u z=>?_) (λb z=>?_) λ_=>hk
  ·by_cases hb:b=a
   ·exact .inr ⟨_,_,av hb⟩
   ·exact .inl (ao hb)
  ·by_cases hb:b=a
   ·have z':=(av hb).symm.trans z
    cases z'
    subst hb
    exact ⟨ha,by rw [ah];exact hl,vs,_,rv,ha⟩
   ·have z':=(ao hb).symm.trans z
    cases z'
  ·by_cases hb:b=a
   ·exact hb
   ·exact absurd (ao hb) z
theorem qk2 {l:PySem.W.OpenLaw}{n k:Nat}{q:Ac}{loose:List Str}{XP:(Str→Option Ag)→Heap→Prop}{YP:Ah→Heap→Prop}{d:DefRec}{K:Params→Aa}{CX:Ah→CXT}{sp:Ah→Sp}{x:Str}
  (hn:l.most=some n) (hn2:n≤sizeLine) (hdf:d.params.defaults=[]) (hr:Room k callerA)
  (hY:∀(w:Ah) (h:Heap),YP w h→(K w.params).In h)
  (F:∀(w:Ah) (mg:Str→Option Ag) (fa:Aj) (h:Heap),(K w.params).In h→h.Ns mainGlobals mg→mg d.name=some (.ref fa) →
   ∃fd:Ad,(∀(s:Ab) (u:Ag),BindsTo s fd ⟨[u],[]⟩ [(x,u)]) ∧
    ∀base:Heap,(K w.params).In base→base.Ns mainGlobals mg→FnOk l.prog w (K w.params) mg base (CX w) k fa fd [x] (sp w))
  (hsp:∀(w:Ah) (H:Hp) (a:Aj) (ns:List Int),ns.length≤n→Only H→SqL (K w.params) H a (ns.map V.int)→sp w [.ref a] H (λv _=>v=.bl true) λ_ _ _=>False)
  (hCX:∀(w:Ah) (H:Hp) (s:Ab) (e:Ag) (s':Ab),CX w [] H s (λ_ _ _=>False) e s'→False) :
  PySem.W.WalkO q loose XP YP l.row.toRowW d [] (λf vs=>PySem.call f vs):=by
 refine Att.attach_call hn hdf λw s₀ s₁ mg mb fa o pm cd doc a vs ns G Y ho hd hcd hmg hobj hints hlen hg=>?_
 have KX:=hY w _ Y
 obtain ⟨fd,hb,hF⟩:=F w mg fa _ KX G.T.g hmg
 exact qv5 KX G.T.g G.T.b G.T.builtins G.T.nolimit hg hobj hints (aZ hlen hn2) hr hF hb (λH hO hS=>hsp w H a ns hlen hO hS) λH e s'=>hCX w H s₁ e s'
def zb (s:Stmt)(j:Nat):Stmt:=match s with
 |.ClassDef _ _ _ body _ _ _ _ _ _ _=>body.getD j (.Pass ⟨0,0,0,0⟩)
 |_=>.Pass ⟨0,0,0,0⟩
def zy (s:Stmt):Arguments:=match s with
 |.FunctionDef _ a _ _ _ _ _ _ _ _=>a
 |_=>{ posonlyargs:=[],args:=[],vararg:=none,kwonlyargs:=[],kw_defaults:=[],kwarg:=none,defaults:=[] }
def zv (s:Stmt):List Stmt:=match s with
 |.FunctionDef _ _ b _ _ _ _ _ _ _=>b
 |_=>[]
def wz (s:Stmt):Scope:=match s with
 |.FunctionDef _ _ _ _ _ _ sc _ _ _=>sc
 |_=>{ kind:=.function,names:=[],isGenerator:=false,isCoroutine:=false }
abbrev E0:XK:=λ_ _ _=>False
structure Fun (K:Aa)(x qual:Str)(st:Stmt)(f:Aj)(fd:Ad):Prop where
 ex:∃(oc:Ag) (od:Option Aj) (kV doc pm:Ag) (an:Option Aj) (cdv ct:Ag) (osl:Array (Option Ag)),
  fd=PySem.W.fnOf x qual (zy st) (zv st) (wz st) .none kV doc pm an cdv ct∧K.lookup f=some ⟨oc,od,.func fd,osl⟩∧PySem.W.codeIn K cdv qual=true
 kp:PySem.W.keepIn K (.ref f)=true
section
variable {P:Ac}{w:Ah}{K:Aa}{mg:Str→Option Ag}{base:Heap}
theorem Fun.binds {x qual:Str}{st:Stmt}{f:Aj}{fd:Ad}{ps:List Str}(F:Fun K x qual st f fd)
  (h:∀(kV doc pm:Ag) (an:Option Aj) (cdv ct:Ag) (us:List Ag),us.length=ps.length→bindArgs (PySem.W.fnOf x qual (zy st) (zv st) (wz st) .none kV doc pm an cdv ct) ⟨us,[]⟩=pure (ps.zip us)):Binds K fd ps []:=by
 obtain ⟨oc,od,kV,doc,pm,an,cdv,ct,osl,rfl,lk,hcd⟩:=F.ex
 exact .all (h kV doc pm an cdv ct)
theorem qvv {x qual:Str}{st:Stmt}{f:Aj}{oc:Ag}{od an:Option Aj}{osl:Array (Option Ag)}{kV doc pm cdv ct:Ag}(l:K.lookup f=some ⟨oc,od,.func (PySem.W.fnOf x qual (zy st) (zv st) (wz st) .none kV doc pm an cdv ct),osl⟩)
  (c:PySem.W.codeIn K cdv qual=true) (k:PySem.W.keepIn K (.ref f)=true):Fun K x qual st f (PySem.W.fnOf x qual (zy st) (zv st) (wz st) .none kV doc pm an cdv ct):=⟨⟨oc,od,kV,doc,pm,an,cdv,ct,osl,rfl,l,c⟩,k⟩
end
theorem ud {A:Ae}{k:Nat}(hr:Room k A):A.units+1<cLine:=cA (Nat.add_le_add_left (by decide:1≤64) _) hr.units
theorem Zz {n:Nat}(h:n≤1000):n<sizeLine:=cA h (by decide)
section
variable {X:Cx}
theorem pv (i:Nat){x:Str}{pos:Pos}(hN:X.N[i]?=some x:=by rfl)(hv:Vis X.env.scope x:=by first | exact Or.inl rfl | exact Or.inr (Or.inl rfl) | exact Or.inr (Or.inr rfl))(hd:(x==("__debug__" : Str))=false:=by decide)
  (hcd:(x==("__classdict__" : Str))=false:=by decide):PE X (.Name x pos) (yd i):=pe_var hN hv hd hcd
end
theorem Y1 {A B:Prop}(h:B):if false=true then A else B:=by
 rw [ao aj]
 exact h
theorem j3 {A B:Prop}(h:A):if true=true then A else B:=by
 rw [av rfl]
 exact h
def Same (H H':Hp):Prop:=∀b o,H b=some o→H' b=some o
theorem Same.refl (H:Hp):Same H H:=λ_ _ h=>h
theorem Same.trans {H H1 H2:Hp}(a:Same H H1)(b:Same H1 H2):Same H H2:=λc o h=>b c o (a c o h)
theorem Same.seq {K:Aa}{H H':Hp}{a:Aj}{xs:List V}(e:Same H H')(h:SqL K H a xs):SqL K H' a xs:=by
 rcases h with (h|⟨o,h⟩)|h
 ·exact .inl (.inl (e _ _ h))
 ·exact .inl (.inr ⟨o,e _ _ h⟩)
 ·exact .inr h
set_option maxHeartbeats 4000000
theorem nin {b:Aj}:b∉([]:List Aj):=λz=>nomatch z
theorem Yd {K:Aa}{h:Heap}{C:Aj}{bmB:List Ag}{newId:String}(X:K.In h)(q:PySem.W.excIn K C bmB newId=true) :
  ∃tl N a1 a2 a3 a4 a5 a6 a7 a8 a9 b0 b1 b2 b3 b5 mN,h.get? C=some (excClassObj a1 a2 C N a3 tl a4 a5 a6 a7 a8 a9 b0 b1 b2 b3 b5 newId) ∧
   h.Ns N mN∧mN "__init__" = none∧OwnTail h bmB tl:=by
 unfold PySem.W.excIn at q
 split at q
 ·next dd cd sl ho =>
  split at q
  ·next C1 tl x0 x1 x2 x3 nn x5 hm hs =>
   rw [be,be,be,be,be] at q
   obtain ⟨⟨⟨⟨⟨p1,p2⟩,p3⟩,p4⟩,p5⟩,p6⟩:=q
   have p1':=eq_of_beq p1
   have p2':=eq_of_beq p2
   have p6':=eq_of_beq p6
   have p3':cd.hasDel=false:=by simpa using p3
   subst p1' p2'
   obtain ⟨f1,f2,f3,f4,f5,f6,f7,f8,f9,f10,f11⟩:=cd
   have hm':f3=Value.ref C1::tl:=hm
   have p3'':f11=false:=p3'
   subst hm' p3''
   have hsl:sl=#[x0,x1,x2,x3,some (.builtin nn),x5]:=by
    cases sl with
    |mk l =>
     have:l=[x0,x1,x2,x3,some (.builtin nn),x5]:=hs
     rw [this]
   subst hsl
   have nsok:=PySem.W.isNs_of_in X p5
   exact ⟨tl,f4,f1,f5,f2,f6,f7,f8,f9,f10,dd,x0,x1,x2,x3,x5,_,X _ _ ho,.of_isNs nsok,PySem.W.nsMap_none_of_in X p5 p6',PySem.W.tail_of_in X p4⟩
  ·exact absurd q (by decide)
 ·exact absurd q (by decide)
def CXE (P:Ac)(w:Ah):CXT:=λouter H s E e s' =>
 ∃(a C:Aj) (a0:Ag) (B:Heap) (H':Hp),e=.ref a∧s'.os=s.os∧AllBare s'.gens∧Un (frs outer) [] H H' s.heap s'.heap∧HOk P w H' B ∧
  Heap.FlyingW B outer a (.ref C) a0 s'.heap∧(∀b o,s.heap.get? b=some o→b∉frs outer→∃o',B.get? b=some o'∧(H b=none→o'=o))∧E (.ref C) none H'
theorem CXE.no {P:Ac}{w:Ah}{outer:List Env}{H:Hp}{s s':Ab}{e:Ag}(h:CXE P w outer H s E0 e s'):False:=by
 obtain ⟨_,_,_,_,_,_,_,_,_,_,_,_,q⟩:=h
 exact q
def z7 (X:Cx)(E:St→XK):Prop:=∀(pins:List (Aj×Obj)) (σ:St) (H:Hp) (s:Ab) (e:Ag) (s':Ab),Inv X pins σ H s→CXE X.prog X.w X.stack H s (E σ) e s'→X.xe e s'
theorem passE0 {X:Cx}:z7 X (λ_=>E0):=λ_ _ _ _ _ _ _ h=>h.no.elim
def qzp (X:Cx)(E:St→XK):Prop:=∀(pins:List (Aj×Obj)) (σ:St) (H:Hp) (s:Ab) (h':Heap) (e C:Aj) (vs:List Ag),Inv X pins σ H s→Heap.MadeExcOf s.heap h' e (.ref C) vs→E σ (.ref C) none H→X.xe (.ref e) { s with heap:=h' }
theorem Ju {env:Env}{L:Aj}{outer:List Env}(h:env.frame=some L):frs (env::outer)=L::frs outer:=by
 unfold frs
 rw [bJ,h]
section
variable {P:Ac}{w:Ah}{K:Aa}{mg:Str→Option Ag}{base:Heap}{N:List Str}{qual:Str}{scope:Scope}{f:Aj}{cdv:Ag}{A:Ae}{outer:List Env}{s0:Ab}{H0:Hp}{E:XK}
theorem qj:z7 (Ym (CXE P w) P w K mg base N qual scope f cdv A outer s0 H0 E) (λ_=>E):=by
 intro pins σ H s e s' I hx
 obtain ⟨a,C,a0,B,H',rfl,hos,hba,un,hokB,hfl,old,q⟩:=hx
 have ub:=I.base
 have hL:∀b o,s0.heap.get? b=some o→b≠s0.heap.objs.size:=λb o e z=>aI _ (z▸ae e)
 have hfs:frs (envOfC qual scope s0.heap.objs.size f cdv::outer)=s0.heap.objs.size::frs outer:=Ju rfl
 have hmem:∀b o,s0.heap.get? b=some o→b∉frs outer→b∉frs (envOfC qual scope s0.heap.objs.size f cdv::outer):=λb o e n=>by
  rw [hfs]
  intro z
  rcases ap.mp z with z|z
  ·exact hL b o e z
  ·exact n z
 have hold:∀b o,s0.heap.get? b=some o→b∉frs outer→∃o',B.get? b=some o'∧(H0 b=none→o'=o):=λb o e n=>by
  obtain ⟨o1,e1⟩:=ub.there b o e nin
  obtain ⟨o2,e2,e3⟩:=old b o1 e1 (hmem b o e n)
  refine ⟨o2,e2,λz=>?_⟩
  have e4:=ub.keep b o e z n nin
  have e5:=ub.free b o e z nin
  rw [e1] at e4
  rw [e3 e5]
  exact ak e4
 refine wpAny_leaves_onW I.ok.frames rfl hfl λh' hf' hup=>?_
 have toH:∀b,b∈frs outer→∀o,s0.heap.get? b=some o→H0 b=none→∃sl,h'.get? b=some { o with slots:=sl }:=λb hb o e n=>by
  obtain ⟨sl,e1⟩:=ub.slot b o e n hb nin
  obtain ⟨sl2,e2⟩:=un.slot b _ e1 (ub.free b o e n nin) (by show b∈frs (envOfC qual scope s0.heap.objs.size f cdv::outer);rw [hfs];exact .tail _ hb) nin
  obtain ⟨_,o3,e3,nf⟩:=hfl.2.2.1.mem (b:=b) (by show b∈frs (envOfC qual scope s0.heap.objs.size f cdv::outer);rw [hfs];exact .tail _ hb)
  obtain ⟨sl4,e4⟩:=hup b o3 e3 nf
  rw [e2] at e3
  have e5:=ak e3
  exact ⟨sl4,by rw [e4,←e5]⟩
 refine ⟨a,C,a0,B,H',rfl,hos.trans I.os,hba,⟨λb o e n nb _=>?_,λb o e n hb _=>toH b hb o e n,λb o e n _=>?_,λb o e _=>?_,λb xs e=>un.tups b xs (ub.tups b xs e),λb o u e=>un.frzs b o u (ub.frzs b o u e),λb ps e=>?_⟩,hokB,hf',hold,q⟩
 ·obtain ⟨o',e1,e2⟩:=hold b o e nb
  rw [e2 n] at e1
  exact hf'.1 b o e1
 ·obtain ⟨o1,e1⟩:=ub.there b o e nin
  exact un.free b o1 e1 (ub.free b o e n nin) nin
 ·by_cases hb:b∈frs outer
  ·obtain ⟨o1,e1⟩:=ub.there b o e nin
   obtain ⟨o2,e2⟩:=un.there b o1 e1 nin
   obtain ⟨_,o3,e3,nf⟩:=hfl.2.2.1.mem (b:=b) (by show b∈frs (envOfC qual scope s0.heap.objs.size f cdv::outer);rw [hfs];exact .tail _ hb)
   obtain ⟨sl4,e4⟩:=hup b o3 e3 nf
   exact ⟨_,e4⟩
  ·obtain ⟨o',e1,_⟩:=hold b o e hb
   exact ⟨o',hf'.1 b o' e1⟩
 ·obtain ⟨m1,e1⟩:=ub.tbls b ps e
  obtain ⟨m2,e2⟩:=un.tbls b _ e1
  exact ⟨m1++m2,by rw [e2,Array.append_assoc]⟩
theorem xt:qzp (Ym (CXE P w) P w K mg base N qual scope f cdv A outer s0 H0 E) (λ_=>E):=by
 intro pins σ H s h' e C vs I hx q
 have ub:=I.base
 have hfs:frs (envOfC qual scope s0.heap.objs.size f cdv::outer)=s0.heap.objs.size::frs outer:=Ju rfl
 have hmem:∀b o,s0.heap.get? b=some o→b∉frs outer→b∉frs (envOfC qual scope s0.heap.objs.size f cdv::outer):=λb o e n=>by
  rw [hfs]
  intro z
  rcases ap.mp z with z|z
  ·exact aI _ (z▸ae e)
  ·exact n z
 have hfree:∀b∈frs (envOfC qual scope s0.heap.objs.size f cdv::outer),H b=none:=I.stkFree
 have hB:∀b o,s.heap.get? b=some o→b∉frs (envOfC qual scope s0.heap.objs.size f cdv::outer)→(PySem.W.hideAll s.heap (frs (envOfC qual scope s0.heap.objs.size f cdv::outer))).get? b=some o:=λb o e n=>PySem.W.hideAll_get _ e n
 have hokB:HOk P w H (PySem.W.hideAll s.heap (frs (envOfC qual scope s0.heap.objs.size f cdv::outer))):=λb u hb=>by
  refine (I.hok b u hb).stay (λc v hc ec=>hB c v ec λhm=>?_) (λ_ z=>z) (λ_ _ z=>z)
  have hn:=hfree c hm
  rcases hc with rfl|hc
  ·rw [hn] at hb;cases hb
  ·rw [hn] at hc;cases hc
 have hold:∀b o,s0.heap.get? b=some o→b∉frs outer→∃o',(PySem.W.hideAll s.heap (frs (envOfC qual scope s0.heap.objs.size f cdv::outer))).get? b=some o'∧(H0 b=none→o'=o):=λb o e n=>by
  obtain ⟨o1,e1⟩:=ub.there b o e nin
  refine ⟨o1,hB b o1 e1 (hmem b o e n),λz=>?_⟩
  have e4:=ub.keep b o e z n nin
  rw [e1] at e4
  exact ak e4
 have hst:s.heap.FunFrames base (envOfC qual scope s0.heap.objs.size f cdv::outer):=I.stack
 have hff:=PySem.W.funFrames_hide (as:=frs (envOfC qual scope s0.heap.objs.size f cdv::outer)) hst (λenv he b hb=>cy.mpr ⟨env,he,hb⟩)
 refine wpAny_leaves_madeW (base:=PySem.W.hideAll s.heap (frs (envOfC qual scope s0.heap.objs.size f cdv::outer))) (h:=s.heap) I.ok.frames rfl (λb o e=>PySem.W.of_hideAll _ e) hff hx λh'' t hf' _ _ hup=>?_
 have toF:∀b,b∈frs outer→∃o,s.heap.get? b=some o∧∃sl,h''.get? b=some { o with slots:=sl }:=λb hb=>by
  obtain ⟨_,o3,e3,nf⟩:=hst.mem (b:=b) (by show b∈frs (envOfC qual scope s0.heap.objs.size f cdv::outer);rw [hfs];exact .tail _ hb)
  exact ⟨o3,e3,hup b o3 (hx.keeps b o3 e3) nf⟩
 refine ⟨e,C,.ref t,_,H,rfl,I.os,I.bare,⟨λb o e1 n nb _=>?_,λb o e1 n hb _=>?_,λb o e1 n _=>ub.free b o e1 n nin,λb o e1 _=>?_,ub.tups,ub.frzs,ub.tbls⟩,hokB,hf',hold,q⟩
 ·obtain ⟨o',e2,e3⟩:=hold b o e1 nb
  rw [e3 n] at e2
  exact hf'.1 b o e2
 ·obtain ⟨sl,e2⟩:=ub.slot b o e1 n hb nin
  obtain ⟨o3,e3,sl3,e4⟩:=toF b hb
  rw [e2] at e3
  have e5:=ak e3
  exact ⟨sl3,by rw [e4,←e5]⟩
 ·by_cases hb:b∈frs outer
  ·obtain ⟨o3,e3,sl3,e4⟩:=toF b hb
   exact ⟨_,e4⟩
  ·obtain ⟨o',e2,_⟩:=hold b o e1 hb
   exact ⟨o',hf'.1 b o' e2⟩
end
section
variable {P:Ac}{w:Ah}{K:Aa}{mg:Str→Option Ag}{base:Heap}
end
def Qt (sp:Sp)(E:St→XK)(t:TA):TE:=λσ H Q=>t σ H λvs H1=>sp vs H1 Q (E σ)
def Qz (C:Aj)(m:Str)(sp:Sp)(E:St→XK)(ta:TE)(t:TA):TE:=λσ H Q=>ta σ H λx H1=>∃a dx fs,x=.ref a∧H1 a=some (.ins C dx fs)∧fs.lookup m=none ∧
 t σ H1 λvs H2=>sp (x::vs) H2 Q (E σ)
def qq9 (C:Aj)(sp:Sp)(E:St→XK)(t:TA):TE:=λσ H Q=>t σ H λvs H1=>∀x dx,H1 x=none→H1 dx=none→dx≠x →
 sp (.ref x::vs) (upd (upd H1 dx (.own x)) x (.ins C dx [])) (λv H2=>v=.non∧Q (.ref x) H2) (E σ)
section
variable {X:Cx}{k:Nat}{f C:Aj}{fd:Ad}{ps:List Str}{sp:Sp}{E:St→XK}{x m:Str}{p pos apos:Pos}{e o:Expr}{es:List Expr}{ta:TE}{t:TA}
theorem Yf {pins:List (Aj×Obj)}{σ:St}{H:Hp}{s:Ab}{Q:VK}{us:List Ag}{vs:List V}(F:FnOk X.prog X.w X.K X.mg X.base (CXE X.prog X.w) k f fd ps sp)(hr:Room k X.A)(hb:Binds X.K fd ps [])(hx:z7 X E)
  (I:Inv X pins σ H s) (r:Vals vs us) (h:sp vs H Q (E σ)):wpAny (model X.prog X.w) X.A (call (.ref f) us) (EP X pins σ Q) X.xe s:=by
 have hl:(us++[]).length=ps.length:=by rw [bN,←r.length];exact F.len _ _ _ _ h
 have hb':=hb s us I.kIn hl
 rw [bN] at hb'
 refine wpAny_call (cU (F.run X.A X.stack s H ⟨us,[]⟩ us vs Q (E σ) hr I.env0 hb' r h) λr s' hq=>?_)
 cases r with
 |error e=>exact hx pins σ H s e s' I hq
 |ok fl =>
  cases fl with
  |ret u=>exact I.after hq
  |next=>exact False.elim hq
  |brk=>exact False.elim hq
  |cont=>exact False.elim hq
theorem qvt (F:FnOk X.prog X.w X.K X.mg X.base (CXE X.prog X.w) k f fd ps sp)(hr:Room k X.A)(hg:Gl X x)(hm:X.mg x=some (.ref f))(hk:PySem.W.keepIn X.K (.ref f)=true)(hb:Binds X.K fd ps [])(hx:z7 X E)
  (ha:PA X (e::es) t) (hdb:(x==("__debug__" : Str))=false:=by decide) (he:starEach (e::es) X.env=(false,eval e X.env)::starEach es X.env:=by rfl) (hpl:(backTo pos (starEach es X.env)).any (·.1)=false:=by rfl) :
  PE X (.Call (.Name x p) (e::es) [] pos) (Qt sp E t):=by
 intro pins s σ H Q I h
 refine bA (vh I hg hm ?_ hdb)
 refine cB (h₀:=X.base) I.ok.mod.kin hk (thn (ha pos pins s σ H _ I h) λus s1 ⟨vs,H1,I1,r,q⟩=>⟨I1.kIn,?_⟩) he hpl
 exact Yf F hr hb hx I1 r q
theorem qkj {pl:Sem Bool}(he:PE X o ta)(c:Cls X.K C)(hm:Meth X.K C m f)(F:FnOk X.prog X.w X.K X.mg X.base (CXE X.prog X.w) k f fd ps sp)(hr:Room k X.A)(hb:Binds X.K fd ps [])(hx:z7 X E)(ha:PA X (e::es) t)
  (hst:starEach (e::es) X.env=(false,eval e X.env)::starEach es X.env:=by rfl) (hpl:(backTo pos (starEach es X.env)).any (·.1)=false:=by rfl)
  (ht:eval (.Call (.Attribute o m apos) (e::es) [] pos) X.env=(do
   let ov ←eval o X.env
   standAt apos.atName
   let (f,first) ←holding [ov] (getMethod ov m pl)
   callWith pos f first (backTo pos (starEach (e::es) X.env)) (backToKw pos (keywordEach [] X.env))):=by rfl) :
  PE X (.Call (.Attribute o m apos) (e::es) [] pos) (Qz C m sp E ta t):=by
 intro pins s σ H Q I h
 refine PySem.W.methodCall_KW (pl:=pl) (thn (he pins s σ H _ I h) λu s1 ⟨x,H1,I1,rx,a,dx,fs,ex,ea,l,q⟩=>?_) ht
 subst ex
 obtain rfl:u=Value.ref a:=rx
 refine Qr I1 ea c hm l ?_
 refine cB (first:=[.ref a]) (h₀:=X.base) I.ok.mod.kin hm.kp (thn (ha pos pins s1 σ H1 _ I1 q) λus s2 ⟨vs,H2,I2,r,q2⟩=>⟨I2.kIn,?_⟩) hst hpl
 exact Yf (us:=.ref a::us) (vs:=.ref a::vs) F hr hb hx I2 (.cons rfl r) q2
theorem qzf {pl:Sem Bool}(he:PE X o ta)(c:Cls X.K C)(hm:Meth X.K C m f)(F:FnOk X.prog X.w X.K X.mg X.base (CXE X.prog X.w) k f fd ps sp)(hr:Room k X.A)(hb:Binds X.K fd ps [])(hx:z7 X E)
  (ht:eval (.Call (.Attribute o m apos) [] [] pos) X.env=(do
   let ov ←eval o X.env
   standAt apos.atName
   let (f,first) ←holding [ov] (getMethod ov m pl)
   callWith pos f first (backTo pos (starEach [] X.env)) (backToKw pos (keywordEach [] X.env))):=by rfl) :
  PE X (.Call (.Attribute o m apos) [] [] pos) (Qz C m sp E ta z5):=by
 intro pins s σ H Q I h
 refine PySem.W.methodCall_KW (pl:=pl) (thn (he pins s σ H _ I h) λu s1 ⟨x,H1,I1,rx,a,dx,fs,ex,ea,l,q⟩=>?_) ht
 subst ex
 obtain rfl:u=Value.ref a:=rx
 refine Qr I1 ea c hm l ?_
 exact PySem.W.callWith_K0 (first:=[.ref a]) I1.kIn hm.kp (Yf (us:=[.ref a]) (vs:=[.ref a]) F hr hb hx I1 (.cons rfl .nil) q)
theorem Zv {pins:List (Aj×Obj)}{σ:St}{H:Hp}{s:Ab}{Q:VK}{us:List Ag}{vs:List V}(M:Mk X.K C f)(F:FnOk X.prog X.w X.K X.mg X.base (CXE X.prog X.w) k f fd ps sp)(hr:Room (k+1) X.A)(hb:Binds X.K fd ps [])
  (hx:z7 X E) (I:Inv X pins σ H s) (r:Vals vs us)
  (h:∀x dx,H x=none→H dx=none→dx≠x→sp (.ref x::vs) (upd (upd H dx (.own x)) x (.ins C dx [])) (λv H2=>v=.non∧Q (.ref x) H2) (E σ)) :
  wpAny (model X.prog X.w) X.A (call (.ref C) us) (EP X pins σ Q) X.xe s:=by
 have hq:=h (s.heap.objs.size+1) s.heap.objs.size (I.hok.fresh (Nat.le_succ _)) (I.hok.fresh (af _)) (al (Nat.lt_succ_self _))
 have I2:=Inv.made (C:=C) I
 have r2:Vals (V.ref (s.heap.objs.size+1)::vs) (Value.ref (s.heap.objs.size+1)::us):=.cons rfl r
 have hl:((Value.ref (s.heap.objs.size+1)::us)++[]).length=ps.length:=by
  rw [bN,←r2.length]
  exact F.len _ _ _ _ hq
 have hb':=hb _ (Value.ref (s.heap.objs.size+1)::us) I2.kIn hl
 rw [bN] at hb'
 refine wpAny_call (qvq (f:=f) I.kIn M.makes M.init (cT.mp M.fn) (cU (F.run _ X.stack _ _ ⟨Value.ref (s.heap.objs.size+1)::us,[]⟩ (Value.ref (s.heap.objs.size+1)::us) _ _ (E σ) (hr.make C us [])
  (I2.env0.make C us []) hb' r2 hq) λr s' hq'=>?_))
 cases r with
 |error e=>exact hx pins σ _ _ e s' I2 hq'
 |ok fl =>
  cases fl with
  |ret u =>
   obtain ⟨v,H',I3,rv,ev,q3⟩:=I2.after hq'
   subst ev
   exact ⟨rv,⟨V.ref (s.heap.objs.size+1),H',I3,rfl,q3⟩⟩
  |next=>exact False.elim hq'
  |brk=>exact False.elim hq'
  |cont=>exact False.elim hq'
theorem qzs (M:Mk X.K C f)(F:FnOk X.prog X.w X.K X.mg X.base (CXE X.prog X.w) k f fd ps sp)(hr:Room (k+1) X.A)(hg:Gl X x)(hm:X.mg x=some (.ref C))(hb:Binds X.K fd ps [])(hx:z7 X E)
  (ha:PA X (e::es) t) (hdb:(x==("__debug__" : Str))=false:=by decide) (he:starEach (e::es) X.env=(false,eval e X.env)::starEach es X.env:=by rfl) (hpl:(backTo pos (starEach es X.env)).any (·.1)=false:=by rfl) :
  PE X (.Call (.Name x p) (e::es) [] pos) (qq9 C sp E t):=by
 intro pins s σ H Q I h
 refine bA (vh I hg hm ?_ hdb)
 refine cB (h₀:=X.base) I.ok.mod.kin M.kp (thn (ha pos pins s σ H _ I h) λus s1 ⟨vs,H1,I1,r,q⟩=>⟨I1.kIn,?_⟩) he hpl
 exact Zv M F hr hb hx I1 r q
end
structure ExcC (K:Aa)(C:Aj):Prop where
 q:PySem.W.excIn K C [.type "ValueError",.type "Exception",.type "BaseException",.type "object"] "ValueError.__new__" = true
def tRaise (C:Aj)(E:St→XK)(t:TA):TS:=λD σ H=>t σ H λvs H1=>vs.length≤sizeLine∧E σ (.ref C) none H1
section
variable {X:Cx}{C:Aj}{E:St→XK}{x:Str}{np cpos pos:Pos}{e:Expr}{es:List Expr}{t:TA}
theorem zk (hc:X.calm=true)(c:ExcC X.K C)(hR:qzp X E)(hg:Gl X x)(hm:X.mg x=some (.ref C))(ha:PA X (e::es) t)(hdb:(x==("__debug__" : Str))=false:=by decide)
  (he:starEach (e::es) X.env=(false,eval e X.env)::starEach es X.env:=by rfl) (hpl:(backTo cpos (starEach es X.env)).any (·.1)=false:=by rfl) :
  PS X (.Raise (some (.Call (.Name x np) (e::es) [] cpos)) none pos) (tRaise C E t):=by
 intro pins s σ H D I h
 obtain ⟨tl,N,a1,a2,a3,a4,a5,a6,a7,a8,a9,b0,b1,b2,b3,b5,mN,hC,hN,hni,T⟩:=Yd I.ok.mod.kin c.q
 refine wpAny_Raise_call_subT (C:=C) (nm:=a1) (q:=a2) (N:=N) (bs:=a3) (bm:=tl) (hdct:=a4) (sn:=a5) (sub:=a6) (ab:=a7) (col:=a8) (dd:=a9) (k0:=b0) (k1:=b1) (k2:=b2) (k3:=b3) (k5:=b5)
  bh (mN:=mN) (T.hasType bh.hasBase) (I.ok.hd hc) (by rw [he];show (false||(backTo cpos (starEach es X.env)).any (·.1))=false;rw [hpl];rfl) hni (vh I hg hm ⟨rfl,?_⟩ hdb)
 have hw:=ha cpos pins s σ H _ I h
 rw [he] at hw ⊢
 refine cf (aF hw (λus s1 ⟨vs,H1,I1,r,hl,q⟩=>⟨rfl,by rw [←r.length];exact hl,I1.bk _ _ hC,hN.keeps I1.bk,T.keeps I1.bk,λh' e hx=>hR pins σ H1 s1 h' e C us I1 hx q⟩) λ_ _ z=>z)
end
abbrev Cx.handling (X:Cx)(e:Aj):Cx:={ X with A:=X.A.mark (some (.ref e)),calm:=false,xe:=λ_ _=>False }
abbrev Cx.trying (X:Cx)(pn:List (Aj×Obj))(xe:Ag→Ab→Prop):Cx:={ X with pn:=pn,xe:=xe }
section
variable {X:Cx}{pins:List (Aj×Obj)}{σ:St}{H H':Hp}{s s':Ab}{e:Aj}
theorem Cx.Ok.handling (o:X.Ok)(e:Aj):(X.handling e).Ok :=
 ⟨o.mod,o.kind,o.glob,o.blt,o.above,o.inj,o.has,o.cab,λz=>(aj z).elim,o.frames,o.stk,o.exf,o.bs,o.bsz,o.noex,o.exfs,o.funs,o.frf⟩
theorem Cx.Ok.trying (o:X.Ok)(pn:List (Aj×Obj))(xe:Ag→Ab→Prop):(X.trying pn xe).Ok :=
 ⟨o.mod,o.kind,o.glob,o.blt,o.above,o.inj,o.has,o.cab,o.hd,o.frames,o.stk,o.exf,o.bs,o.bsz,o.noex,o.exfs,o.funs,o.frf⟩
theorem Inv.handling (I:Inv X pins σ H s)(e:Aj):Inv (X.handling e) pins σ H s:=⟨I.ok.handling e,I.os,I.bare,I.base,I.loc,I.cell,I.free,I.freeC,I.pin,I.hok,I.len⟩
theorem Inv.unhandling (o:X.Ok)(I:Inv (X.handling e) pins σ H s):Inv X pins σ H s:=⟨o,I.os,I.bare,I.base,I.loc,I.cell,I.free,I.freeC,I.pin,I.hok,I.len⟩
theorem Inv.trying (I:Inv X pins σ H s)(xe:Ag→Ab→Prop):Inv (X.trying (X.pn++pins) xe) [] σ H s :=
 ⟨I.ok.trying _ _,I.os,I.bare,I.base,I.loc,I.cell,I.free,I.freeC,λp hp=>I.pin p ((bc.mp hp).elim (λz=>z) λz=>nomatch z),I.hok,I.len⟩
theorem Inv.untrying {pins':List (Aj×Obj)}{xe:Ag→Ab→Prop}(o:X.Ok)(I:Inv (X.trying (X.pn++pins) xe) pins' σ H s):Inv X pins σ H s :=
 ⟨o,I.os,I.bare,I.base,I.loc,I.cell,I.free,I.freeC,λp hp=>I.pin p (bH _ hp),I.hok,I.len⟩
theorem SP.untrying {pins':List (Aj×Obj)}{xe:Ag→Ab→Prop}{D:Ends}{f:Flow}(o:X.Ok)(h:SP (X.trying (X.pn++pins) xe) pins' D f s'):SP X pins D f s':=by
 cases f with
 |next=>obtain ⟨a,b,c,d⟩:=h;exact ⟨a,b,c.untrying o,d⟩
 |brk=>obtain ⟨a,b,c,d⟩:=h;exact ⟨a,b,c.untrying o,d⟩
 |cont=>obtain ⟨a,b,c,d⟩:=h;exact ⟨a,b,c.untrying o,d⟩
 |ret u=>obtain ⟨v,a,b,c,d⟩:=h;exact ⟨v,a,b,c.untrying o,d⟩
theorem SP.unhandling {D:Ends}{f:Flow}(o:X.Ok)(h:SP (X.handling e) pins D f s'):SP X pins D f s':=by
 cases f with
 |next=>obtain ⟨a,b,c,d⟩:=h;exact ⟨a,b,c.unhandling o,d⟩
 |brk=>obtain ⟨a,b,c,d⟩:=h;exact ⟨a,b,c.unhandling o,d⟩
 |cont=>obtain ⟨a,b,c,d⟩:=h;exact ⟨a,b,c.unhandling o,d⟩
 |ret u=>obtain ⟨v,a,b,c,d⟩:=h;exact ⟨v,a,b,c.unhandling o,d⟩
def qvw (K:Aa)(C D:Aj):Prop:=∀ {M:Model} {A:Ae} {E:Ag→Ab→Prop} {h:Heap} {g:Array GenState} {d:Drawn} {t:Nat} {os:OsState} {e:Aj} {oe:Obj} {Q:Bool→Ab→Prop},
 K.In h→h.get? e=some oe→oe.cls=.ref C→Q true ⟨h,g,d,t,os⟩→wpAny M A (excMatches (.ref e) (.ref D)) Q E ⟨h,g,d,t,os⟩
theorem v4 {K:Aa}{C:Aj}(c:ExcC K C):qvw K C C:=by
 intro M A E h g d t os e oe Q X he hc q
 obtain ⟨tl,N,a1,a2,a3,a4,a5,a6,a7,a8,a9,b0,b1,b2,b3,b5,mN,hC,hN,hni,T⟩:=Yd X c.q
 exact wpAny_excMatches_sub_self hC he hc (T.hasType bh.hasBase) q
end
section
variable {X:Cx}{x:Str}{D0:Aj}{np hpos pos:Pos}{b₀:Stmt}{body suite:List Stmt}{tb:(St→XK)→TS}{th:TS}
end
def Sm (n:Nat)(i:Int):Prop:=i.natAbs<2 ^ n
theorem Sm.bits {n:Nat}{i:Int}(h:Sm n i):Builtin.Int.intBits i≤n:=PyProof.Rows.intBits_le h
theorem Sm.mono {n m:Nat}{i:Int}(h:Sm n i)(hm:n≤m):Sm m i:=am h (Nat.pow_le_pow_right (by decide) hm)
theorem Sm.of_le {n:Nat}{i j:Int}(h:Sm n j)(e:i.natAbs≤j.natAbs):Sm n i:=cA e h
theorem Sm.ok {n m:Nat}{i j:Int}(h:Sm n i)(h':Sm m j)(e:n+m≤134217728):IntMulOk i j:=IntMulOk.of_le h.bits h'.bits e
theorem Sm.log {n:Nat}{i:Int}(h:Sm n i)(hn:n≤9000):i.natAbs.log2<9000:=by
 by_cases h0:i.natAbs=0
 ·rw [h0]
  decide
 ·exact am ((Nat.log2_lt h0).mpr h) hn
theorem Sm.noPl {n:Nat}{i j:Int}(h:Sm n j)(hn:n≤9000):Builtin.divisionGoesByPylong i j=false:=PyProof.noPylong_of_log2 (h.log hn)
section
variable {X:Cx}
theorem xu:OpR X (binaryOp .Mult) (rI IntMulOk λi j=>.int (i*j)):=opI λ_ _ _ _ _ _ _ hc q=>mul_int q hc
theorem kh:OpR X (binaryOp .FloorDiv) (rI (λ_ j=>0<j∧Sm 9000 j) λi j=>.int (i/j)):=opI λi j _ _ _ _ _ hc q =>
 floordiv_int (by lia) (by rw [Int.fdiv_eq_ediv_of_nonneg i (Int.le_of_lt hc.1)];exact q) (.inl (hc.2.noPl (af _)))
end
mutual
def RD (K:Aa)(H:Hp):PyData→V→Prop
 |.none,v=>v=.non
 |.bool b,v=>v=.bl b
 |.int i,v=>v=.int i
 |.str x,v=>v=.str x
 |.list ds,v=>∃a xs,v=.ref a∧SqL K H a xs∧RDs K H ds xs
 |.tuple ds,v=>∃a xs,v=.ref a∧SqT K H a xs∧RDs K H ds xs
 |.dict _,_=>False
def RDs (K:Aa)(H:Hp):List PyData→List V→Prop
 |[],xs=>xs=[]
 |d::ds,xs=>∃y ys,xs=y::ys∧RD K H d y∧RDs K H ds ys
end
section
variable {X:Cx}{pins:List (Aj×Obj)}{σ:St}{H:Hp}{s:Ab}
mutual
theorem Qk (I:Inv X pins σ H s):∀(d:PyData) (v:V) (u:Ag),RD X.K H d v→xx v u→∃as,Reads s.heap u d as
 |.none,v,u,h,r=>by
  rw [RD] at h;subst h
  cases (show u=Value.none from r)
  exact ⟨_,.none⟩
 |.bool b,v,u,h,r=>by
  rw [RD] at h;subst h
  cases (show u=Value.bool b from r)
  exact ⟨_,.bool b⟩
 |.int i,v,u,h,r=>by
  rw [RD] at h;subst h
  obtain ⟨t,rfl⟩:=(show ∃t,u=Value.int i t from r)
  exact ⟨_,.int i t⟩
 |.str x,v,u,h,r=>by
  rw [RD] at h;subst h
  obtain ⟨t,rfl⟩:=(show ∃t,u=Value.str x t from r)
  exact ⟨_,.str x t⟩
 |.list ds,v,u,h,r=>by
  rw [RD] at h
  obtain ⟨a,xs,rfl,hs,hd⟩:=h
  cases (show u=Value.ref a from r)
  obtain ⟨its,rv,⟨o,n,e1,e2,_,e3⟩,_⟩:=I.list hs
  obtain ⟨as,ha⟩:=yr I ds xs its hd rv
  exact ⟨_,.list e1 e2 e3 (by simpa using ha)⟩
 |.tuple ds,v,u,h,r=>by
  rw [RD] at h
  obtain ⟨a,xs,rfl,hs,hd⟩:=h
  cases (show u=Value.ref a from r)
  obtain ⟨its,rv,⟨o,e1,e2,n,e3⟩,_⟩:=I.tuple hs
  obtain ⟨as,ha⟩:=yr I ds xs its hd rv
  exact ⟨_,.tuple e1 e2 e3 (by simpa using ha)⟩
 |.dict _,_,_,h,_=>by
  rw [RD] at h
  exact h.elim
theorem yr (I:Inv X pins σ H s):∀(ds:List PyData) (vs:List V) (us:List Ag),RDs X.K H ds vs→Vals vs us→∃as,ReadsAll s.heap us ds as
 |[],vs,us,h,r=>by
  rw [RDs] at h;subst h
  cases r
  exact ⟨_,.nil⟩
 |d::ds,vs,us,h,r=>by
  rw [RDs] at h
  obtain ⟨y,ys,rfl,h1,h2⟩:=h
  cases r with
  |cons r1 r2 =>
   obtain ⟨as,a1⟩:=Qk I d y _ h1 r1
   obtain ⟨bs,a2⟩:=yr I ds ys _ h2 r2
   exact ⟨_,.cons a1 a2⟩
end
def rEqD (K:Aa)(neg:Bool):R2:=λx y H Q=>∃d e,RD K H d x∧RD K H e y∧d.canLay0=true∧e.canLay0=true∧min d.depth e.depth≤60∧Q (.bl (if neg then !PyData.eqv d e else PyData.eqv d e)) H
theorem op_eqD (hu:X.A.units+64<cLine):OpR X (compareOp .Eq) (rEqD X.K false):=by
 intro pins s σ H x y v u Q I rx ry h
 obtain ⟨d,e,h1,h2,c1,c2,dp,q⟩:=h
 obtain ⟨as,a1⟩:=Qk I d x v h1 rx
 obtain ⟨bs,a2⟩:=Qk I e y u h2 ry
 exact PySem.SeqAt.compareEq_reads a1 a2 c1 c2 (by lia) ⟨.bl _,H,I,rfl,q⟩
end
def ptD (p:Int×Int):PyData:=.tuple [.int p.1,.int p.2]
theorem Jw:∀(xs ys:List Int),PyData.eqvAll (xs.map .int) (ys.map .int)=decide (xs=ys)
 |[],[]=>rfl
 |[],_::_=>rfl
 |_::_,[]=>rfl
 |x::xs,y::ys=>by
  rw [aw,aw,PyData.eqvAll,Jw xs ys,PyData.eqv]
  by_cases h:x=y
  ·subst h;simp
  ·simp [h]
theorem eqv_pt (p q:Int×Int):PyData.eqv (ptD p) (ptD q)=decide (p=q):=by
 obtain ⟨a,b⟩:=p
 obtain ⟨c,d⟩:=q
 unfold ptD
 rw [PyData.eqv]
 have:=Jw [a,b] [c,d]
 rw [aw,aw,bQ,aw,aw,bQ] at this
 rw [this]
 simp
end L2
namespace L2
open PySem PySem.Spec PyProof.Rows
section
variable {P:Ac}{w:Ah}{K:Aa}{mg:Str→Option Ag}{base:Heap}
theorem Fun.okX {x qual:Str}{st:Stmt}{f:Aj}{fd:Ad}{N ps:List Str}{k:Nat}{sp:Sp}(F:Fun K x qual st f fd)(S:FnScope N ps (wz st))(len:∀vs H Q E,sp vs H Q E→vs.length=ps.length)
  (body:∀(cdv:Ag) (A:Ae) (outer:List Env) (s:Ab) (H:Hp) (vs:List V) (Q:VK) (E:XK),Room k (A.deeper (envOfC qual (wz st) s.heap.objs.size f cdv))→sp vs H Q E →
   ∃t,PSs (Ym (CXE P w) P w K mg base N qual (wz st) f cdv A outer s H E) (zv st) t∧t { nx:=λ_ H'=>Q .non H',rt:=Q } (js N vs) H):FnOk P w K mg base (CXE P w) (k+1) f fd ps sp:=by
 obtain ⟨oc,od,kV,doc,pm,an,cdv,ct,osl,rfl,lk,hcd⟩:=F.ex
 exact fn_of lk hcd S len λA outer s H vs Q E hr hsp=>body cdv A outer s H vs Q E hr hsp
structure DefIn (K:Aa)(x:Str)(st:Stmt):Prop where
 ex:∃f fd,PySem.W.nsIn K mainGlobals x=some (some (.ref f))∧Fun K x x st f fd
theorem def_mk {x:Str}{st:Stmt}{f:Aj}{oc:Ag}{od an:Option Aj}{osl:Array (Option Ag)}{kV doc pm cdv ct:Ag}(a:PySem.W.nsIn K mainGlobals x=some (some (.ref f)))
  (l:K.lookup f=some ⟨oc,od,.func (PySem.W.fnOf x x (zy st) (zv st) (wz st) .none kV doc pm an cdv ct),osl⟩) (c:PySem.W.codeIn K cdv x=true) (k:PySem.W.keepIn K (.ref f)=true):DefIn K x st:=⟨_,_,a,qvv l c k⟩
def xf (x:Str)(st:Stmt)(ps:List Str):Prop:=∀(kV doc pm:Ag) (an:Option Aj) (cdv ct:Ag) (us:List Ag),us.length=ps.length→bindArgs (PySem.W.fnOf x x (zy st) (zv st) (wz st) .none kV doc pm an cdv ct) ⟨us,[]⟩=pure (ps.zip us)
structure Cal (P:Ac)(w:Ah)(K:Aa)(mg:Str→Option Ag)(base:Heap)(x:Str)(k:Nat)(sp:Sp):Prop where
 ex:∃f fd ps,mg x=some (.ref f)∧FnOk P w K mg base (CXE P w) k f fd ps sp∧PySem.W.keepIn K (.ref f)=true∧Binds K fd ps []
theorem DefIn.cal {x:Str}{st:Stmt}{ps:List Str}{k:Nat}{sp:Sp}{h:Heap}(d:DefIn K x st)(KX:K.In h)(G:h.Ns mainGlobals mg)(b:xf x st ps)(ok:∀f fd,Fun K x x st f fd→FnOk P w K mg base (CXE P w) k f fd ps sp):Cal P w K mg base x k sp:=by
 obtain ⟨f,fd,a,F⟩:=d.ex
 exact ⟨f,fd,ps,aq KX G a,ok f fd F,F.kp,F.binds b⟩
end
section
variable {X:Cx}{x:Str}{k:Nat}{sp:Sp}{E:St→XK}{p pos:Pos}{e:Expr}{es:List Expr}{t:TA}
theorem j6 (c:Cal X.prog X.w X.K X.mg X.base x k sp)(hr:Room k X.A)(hg:Gl X x)(hx:z7 X E)
  (ha:PA X (e::es) t) (hdb:(x==("__debug__" : Str))=false:=by decide) (he:starEach (e::es) X.env=(false,eval e X.env)::starEach es X.env:=by rfl) (hpl:(backTo pos (starEach es X.env)).any (·.1)=false:=by rfl) :
  PE X (.Call (.Name x p) (e::es) [] pos) (Qt sp E t):=by
 obtain ⟨f,fd,ps,hm,F,kp,b⟩:=c.ex
 exact qvt F hr hg hm kp b hx ha hdb he hpl
end
def tCut (t u:TS):TS:=λD σ H=>∃R:St→Hp→Prop,t { D with nx:=R } σ H∧∀σ' H',R σ' H'→u D σ' H'
theorem zc {X:Cx}{st:Stmt}{ju:List Stmt}{t u:TS}(h1:PS X st t)(h2:PSs X ju u):PSs X (st::ju) (tCut t u):=by
 intro pins s σ H D I ⟨R,h,hR⟩
 refine cM (thn (h1 pins s σ H { D with nx:=R } I h) λf s1 q=>?_)
 cases f with
 |next =>
  obtain ⟨σ1,H1,I1,q1⟩:=q
  exact h2 pins s1 σ1 H1 D I1 (hR σ1 H1 q1)
 |brk=>exact q
 |cont=>exact q
 |ret u=>exact q
theorem z9 {c A B:Prop}[Decidable c](h1:c→A)(h2:¬ c→B):if decide c=true then A else B:=by
 by_cases h:c
 ·rw [aP h]
  exact j3 (h1 h)
 ·rw [aL h]
  exact Y1 (h2 h)
theorem deqI {i j:Int}:decide (V.int i=V.int j)=decide (i=j):=by
 by_cases h:i=j
 ·subst h;simp
 ·simp [h]
theorem x4 {i j:Int}{A B:Prop}(h1:i=j→A)(h2:i≠j→B):if decide (V.int i=V.int j)=true then A else B:=by
 rw [deqI]
 exact z9 h1 h2
theorem Same.upd {H:Hp}{p:Aj}{o:HO}(n:H p=none):Same H (upd H p o):=λb u e=>by
 rw [q8 (qd e n)]
 exact e
theorem Same.rd {H H':Hp}{a:Aj}{o:HO}(h:Same H H')(r:Rd H a o):Rd H' a o:=by
 rcases r with r|⟨u,r⟩
 ·exact .inl (h a _ r)
 ·exact .inr ⟨u,h a _ r⟩
theorem Same.sqt {K:Aa}{H H':Hp}{a:Aj}{xs:List V}(h:Same H H')(s:SqT K H a xs):SqT K H' a xs:=by
 rcases s with s|s
 ·exact .inl (h.rd s)
 ·exact .inr s
theorem Same.sql {K:Aa}{H H':Hp}{a:Aj}{xs:List V}(h:Same H H')(s:SqL K H a xs):SqL K H' a xs:=h.seq s
theorem SqT.new {K:Aa}{H:Hp}{p:Aj}{xs:List V}:SqT K (upd H p (.tup xs)) p xs:=SqT.of q9
theorem SqL.new {K:Aa}{H:Hp}{p:Aj}{xs:List V}:SqL K (upd H p (.lst xs)) p xs:=SqL.of q9
theorem Qp:bootBuiltins "abs" = some (.builtin "abs"):=by decide +kernel
theorem qv2:bootBuiltins "all" = some (.builtin "all"):=by decide +kernel
theorem u8 {ns:List Int}{i:Int}(h0:0≤i)(h1:i<ns.length):atI (ns.map V.int) i=some (V.int (ns.getD i.toNat 0)):=by
 have hl:i.toNat<ns.length:=by lia
 have e:(ns.map V.int)[i.toNat]?=some (V.int (ns.getD i.toNat 0)):=by
  rw [aU,aC,au hl]
  rfl
 have:=Z9 e
 rwa [Int.toNat_of_nonneg h0] at this
def Jv (ns:List Int)(i:Int):Int:=if i<ns.length then ns.getD i.toNat 0 else if (ns.length:Int)=0 then 7*i+3 else ns.getD (i%ns.length).toNat 0+1009*i
def divs (c:Int):Nat→Int
 |0=>c
 |n+1=>divs c n/1000
def qq2 (K:Aa):Sp:=λvs H Q _=>∃(a:Aj) (ns:List Int) (i:Int),vs=[.ref a,.int i]∧SqL K H a (ns.map V.int)∧0≤i∧∀r,r=Jv ns i→Q (.int r) H
def kz (c:Int):Int:=if c<0 then -c else c
def Zt (c t:Int):Int:=(c%1000003*48271+t*7919+101)%999983
def qqw (c t:Int):Int:=(Zt c t*Zt c t+c%1000003*31+t*104729)%1000033
def J3 (c t:Int):Int:=if 10 ^ 18≤kz c then (if c<0 then divs (kz c) t.toNat%1000 else divs (kz c) t.toNat) else (qqw c t*qqw c t+Zt c t*17+t*30011)%999979
def Jd (ns:List Int)(i t m:Int):Int:=J3 (Jv ns i) t%m
theorem qvz (ns:List Int)(i t m:Int)(h:0<m):0≤Jd ns i t m:=aQ _ (by lia)
theorem qz0 (ns:List Int)(i t m:Int)(h:0<m):Jd ns i t m<m:=aG _ h
theorem qvr {c t:Int}(h:10 ^ 18≤kz c)(n:c<0):J3 c t=divs (kz c) t.toNat%1000:=by rw [J3,av h,av n]
theorem qzz {c t:Int}(h:10 ^ 18≤kz c)(n:¬ c<0):J3 c t=divs (kz c) t.toNat:=by rw [J3,av h,ao n]
theorem qku {c t:Int}(h:¬ 10 ^ 18≤kz c):J3 c t=(qqw c t*qqw c t+Zt c t*17+t*30011)%999979:=by rw [J3,ao h]
def jg (K:Aa):Sp:=λvs H Q _=>∃(a:Aj) (ns:List Int) (i t m:Int),vs=[.ref a,.int i,.int t,.int m]∧SqL K H a (ns.map V.int)∧0≤i∧0≤t∧t<1000000∧0<m ∧
 ∀r,r=Jd ns i t m→0≤r→r<m→Q (.int r) H
theorem Sm.small {n:Nat}{i:Int}(h1:-(2 ^ 64)≤i)(h2:i≤2 ^ 64)(hn:65≤n):Sm n i:=by
 refine Sm.mono (n:=65) ?_ hn
 unfold Sm
 lia
def qwu (K:Aa):Sp:=λvs H Q _=>∃(a:Aj) (ns:List Int),vs=[.ref a]∧SqL K H a (ns.map V.int)∧ns.length≤63∧∀H',Q (.bl true) H'
theorem sz1 {x:V}:[x].length≤sizeLine:=by show 1≤sizeLine;decide
theorem sz2 {x y:V}:[x,y].length≤sizeLine:=by show 2≤sizeLine;decide
theorem sz0:([]:List V).length≤sizeLine:=by show 0≤sizeLine;decide
end L2
namespace L2
open PySem
def ur (x y:Int):Int:=((Nat.gcd x.toNat y.toNat:Nat):Int)
theorem qzg {x:Int}(h:0≤x):ur x 0=x:=by
 unfold ur
 have:(0:Int).toNat=0:=rfl
 rw [this,Nat.gcd_zero_right]
 lia
theorem qx7 {x y:Int}(hx:0≤x)(hy:0<y):ur y (x%y)=ur x y:=by
 unfold ur
 have e:(x%y).toNat=x.toNat%y.toNat:=by
  have h1:x=(x.toNat:Int):=by lia
  have h2:y=(y.toNat:Int):=by lia
  have h3:x%y=((x.toNat%y.toNat:Nat):Int):=by
   conv=>lhs;rw [h1,h2]
   exact (Int.natCast_emod _ _).symm
  rw [h3]
  exact bS _
 rw [e,Nat.gcd_comm y.toNat,←Nat.gcd_rec,Nat.gcd_comm]
theorem qwk (t:Int):kz t=(t.natAbs:Int):=by
 unfold kz
 split <;> lia
theorem qjy (t:Int):0≤kz t:=by
 rw [qwk]
 lia
theorem zd (t b:Int):ur (kz t) b=((Nat.gcd t.natAbs b.toNat:Nat):Int):=by
 unfold ur
 rw [qwk,bS]
def gOf (t b:Int):Int:=ur (kz t) b
def wj (t b:Int):Int×Int:=(t/gOf t b,b/gOf t b)
theorem vq {t b:Int}(h:1≤b):1≤gOf t b:=by
 unfold gOf
 rw [zd]
 have:0<Nat.gcd t.natAbs b.toNat:=Nat.gcd_pos_of_pos_right _ (by lia)
 lia
theorem gOf_le {t b:Int}(h:1≤b):gOf t b≤b:=by
 unfold gOf
 rw [zd]
 have:Nat.gcd t.natAbs b.toNat≤b.toNat:=Nat.gcd_le_right _ (by lia)
 lia
theorem qxu {t b:Int}(h:1≤b):gOf t b∣b:=by
 unfold gOf
 rw [zd]
 have h1:((Nat.gcd t.natAbs b.toNat:Nat):Int)∣(b.toNat:Int):=cN.mpr (Nat.gcd_dvd_right _ _)
 have h2:(b.toNat:Int)=b:=by lia
 rwa [h2] at h1
theorem qzm {t b:Int}:gOf t b∣t:=by
 unfold gOf
 rw [zd]
 have h1:((Nat.gcd t.natAbs b.toNat:Nat):Int)∣(t.natAbs:Int):=cN.mpr (Nat.gcd_dvd_left _ _)
 exact Int.dvd_natAbs.mp h1
theorem W5 {t b:Int}:gOf t b*(t/gOf t b)=t:=cg qzm
theorem uu {t b:Int}(h:1≤b):gOf t b*(b/gOf t b)=b:=cg (qxu h)
theorem qxy {t b:Int}(h:1≤b):(wj t b).1*b=t*(wj t b).2:=by
 unfold wj
 dsimp only
 have h1:=W5 (t:=t) (b:=b)
 have h2:=uu (t:=t) (b:=b) h
 conv=>lhs;rw [←h2]
 conv=>rhs;rw [←h1]
 rw [h1,h2]
 have e1:t/gOf t b*b=t/gOf t b*(gOf t b*(b/gOf t b)):=by rw [h2]
 have e2:t*(b/gOf t b)=gOf t b*(t/gOf t b)*(b/gOf t b):=by rw [h1]
 rw [e1,e2,←da,bT (t/gOf t b)]
theorem yx {t b:Int}(h:1≤b):1≤(wj t b).2:=by
 show 1≤b/gOf t b
 have h2:=uu (t:=t) (b:=b) h
 have h3:=vq (t:=t) h
 have:0<b/gOf t b:=by
  rcases bB 0 (b/gOf t b) with z|z
  ·exact z
  ·have:=aE z (show 0≤gOf t b by lia)
   rw [h2,Int.mul_zero] at this
   lia
 lia
theorem Yq {t b:Int}(h:1≤b):(wj t b).2≤b:=Int.ediv_le_self _ (by lia)
theorem qkk {t b:Int}(h:1≤b):gOf (wj t b).1 (wj t b).2=1:=by
 have h3:=vq (t:=t) h
 have hb:=yx (t:=t) h
 obtain ⟨g,hg⟩:∃g:Nat,gOf t b=(g:Int):=⟨_,by unfold gOf;exact zd t b⟩
 have g1:0<g:=by lia
 have hgg:g=Nat.gcd t.natAbs b.toNat:=by
  have:(g:Int)=((Nat.gcd t.natAbs b.toNat:Nat):Int):=by rw [←hg];unfold gOf;exact zd t b
  lia
 have et:g*(wj t b).1.natAbs=t.natAbs:=by
  have:=W5 (t:=t) (b:=b)
  have e:=cb Int.natAbs this
  rw [Int.natAbs_mul,hg] at e
  simpa [wj,hg] using e
 have eb:g*(wj t b).2.toNat=b.toNat:=by
  have:=uu (t:=t) (b:=b) h
  rw [hg] at this
  have q:(wj t b).2=b/(g:Int):=by unfold wj;rw [hg]
  have q2:b/(g:Int)=((b/(g:Int)).toNat:Int):=by rw [←q];lia
  rw [q]
  rw [q2] at this
  have:((g*(b/(g:Int)).toNat:Nat):Int)=b:=by rw [cW];exact this
  lia
 unfold gOf
 rw [zd]
 have key:g*Nat.gcd (wj t b).1.natAbs (wj t b).2.toNat=g*1:=by
  rw [←Nat.gcd_mul_left,et,eb,←hgg,Nat.mul_one]
 have:=Nat.eq_of_mul_eq_mul_left g1 key
 rw [this]
 rfl
theorem qk7 {t b c:Int}(h:1≤b)(hc:1≤c):gOf (t*c) (b*c)=gOf t b*c:=by
 unfold gOf
 rw [zd,zd]
 have e1:(t*c).natAbs=t.natAbs*c.toNat:=by
  rw [Int.natAbs_mul]
  have:c.natAbs=c.toNat:=by lia
  rw [this]
 have e2:(b*c).toNat=b.toNat*c.toNat:=by
  have hb:b=(b.toNat:Int):=by lia
  have hc':c=(c.toNat:Int):=by lia
  have:b*c=((b.toNat*c.toNat:Nat):Int):=by
   rw [cW,←hb,←hc']
  lia
 rw [e1,e2,Nat.gcd_mul_right,cW]
 have:(c.toNat:Int)=c:=by lia
 rw [this]
theorem qw9 {t b c:Int}(h:1≤b)(hc:1≤c):wj (t*c) (b*c)=wj t b:=by
 unfold wj
 rw [qk7 h hc]
 have hg:=vq (t:=t) h
 rw [bF _ _ (show 0<c by lia),bF _ _ (show 0<c by lia)]
end L2
namespace L2
open PySem PySem.Spec PyProof.Rows
def CapAll (env:Env):List (Str×Aj)→Prop
 |[]=>True
 |(y,c)::r=>env.cells.lookup y=some c∧CapAll env r
theorem CapAll.look {env:Env}:∀ {cl:List (Str×Aj)},CapAll env cl→∀ {y:Str} {c:Aj},cl.lookup y=some c→env.cells.lookup y=some c
 |[],_,_,_,e=>by cases e
 |(z,d)::r,h,y,c,e=>by
  rw [ax] at e
  cases hb:y==z with
  |true =>
   rw [hb] at e
   rw [eq_of_beq hb]
   exact h.1.trans e
  |false =>
   rw [hb] at e
   exact CapAll.look h.2 e
def HasAll (cl:List (Str×Aj)):List (Str×NameKind)→Prop
 |[]=>True
 |(n,k)::r=>(k=.free→∃c,cl.lookup n=some c)∧k≠.cell∧HasAll cl r
theorem HasAll.nocell {cl:List (Str×Aj)}:∀ {ns:List (Str×NameKind)},HasAll cl ns→∀y∈ns,y.2≠.cell
 |(n,k)::r,h,y,hy=>by
  rcases ap.mp hy with rfl|hy
  ·exact h.2.1
  ·exact HasAll.nocell h.2.2 y hy
theorem HasAll.has {cl:List (Str×Aj)}{env:Env}:∀ {ns:List (Str×NameKind)},HasAll cl ns→∀ {x:Str} {q:NameKind},q=.cell∨q=.free →
  (ns.map λ(n,k)=>if (k==NameKind.free&&env.scope.kind==.function&&env.kindOf n==some .cell) then (n,NameKind.cell) else (n,k)).lookup x=some q→∃c,cl.lookup x=some c
 |[],_,_,_,_,e=>by cases e
 |(n,k)::r,h,x,q,hq,e=>by
  have ih:=HasAll.has (env:=env) h.2.2 (x:=x) hq
  rw [aw] at e
  by_cases hc:(k==NameKind.free&&env.scope.kind==.function&&env.kindOf n==some .cell)=true
  ·have e':=e
   dsimp only at e'
   rw [av hc,ax] at e'
   cases hb:x==n with
   |true =>
    rw [be,be] at hc
    obtain ⟨c,hcc⟩:=h.1 (eq_of_beq hc.1.1)
    exact ⟨c,by rw [eq_of_beq hb];exact hcc⟩
   |false =>
    rw [hb] at e'
    exact ih e'
  ·have e':=e
   dsimp only at e'
   rw [ao hc,ax] at e'
   cases hb:x==n with
   |true =>
    rw [hb] at e'
    have ek:k=q:=ak e'
    rcases hq with rfl|rfl
    ·exact absurd ek h.2.1
    ·obtain ⟨c,hcc⟩:=h.1 ek
     exact ⟨c,by rw [eq_of_beq hb];exact hcc⟩
   |false =>
    rw [hb] at e'
    exact ih e'
def CapIx (X:Cx)(scope:Scope)(cl:List (Str×Aj)):List Nat→Prop
 |[]=>True
 |j::r=>(∃y c,X.N[j]?=some y∧X.env.scope.names.lookup y=some .cell∧(relabel scope X.env).names.lookup y=some .cell∧cl.lookup y=some c)∧CapIx X scope cl r
theorem CapIx.get {X:Cx}{scope:Scope}{cl:List (Str×Aj)}:∀ {M:List Nat},CapIx X scope cl M→∀ {k j:Nat},M[k]?=some j →
  ∃y c,X.N[j]?=some y∧X.env.scope.names.lookup y=some .cell∧(relabel scope X.env).names.lookup y=some .cell∧cl.lookup y=some c
 |[],_,k,j,e=>by cases e
 |i::r,h,0,j,e=>by
  cases e
  exact h.1
 |i::r,h,k+1,j,e=>CapIx.get h.2 (k:=k) e
def qqq (X:Cx)(x:Str)(M:List Nat):List Str:=x::M.map λj=>X.N.getD j Str.empty
def zt (M:List Nat)(σ:St)(o:Option V):St:=o::M.map λj=>(σ[j]?).join
abbrev zn (X:Cx)(scope:Scope)(cl:List (Str×Aj))(x:Str)(M:List Nat)(C:Aj)(s2:Ab)(H2:Hp)(fp:List Aj)(pn:List (Aj×Obj)):Cx :=
 { X with N:=qqq X x M,s₀:=s2,H₀:=H2,env:=compEnvC scope cl C X.env,outer:=X.stack,ex:=fp,fn:=λ_=>false,pn:=pn,xe:=λ_ _=>False }
section
variable {X:Cx}{pins:List (Aj×Obj)}{σ:St}{H:Hp}{s2:Ab}{scope:Scope}{cl:List (Str×Aj)}{x:Str}{M:List Nat}{fp:List Aj}{C:Aj}{h1:Heap}{tk:Nat}
theorem Inv.compG {oo:HO}{xs:List Str}(I:Inv X pins σ H s2)(hc:CapAll X.env cl)(hh:HasAll cl scope.names)(hm:CapIx X scope cl M)(hk:scope.kind=.function)(hC:s2.heap.objs.size<C)
  (keep:∀b o,s2.heap.get? b=some o→h1.get? b=some o) (hn:h1.Ns C λ_=>none) (hD:ObjOk X.prog X.w (upd H s2.heap.objs.size oo) h1 s2.heap.objs.size oo)
  (hfp:∀b∈fp,v5 X pins H b) (hob:∀b∈fp,∃o,s2.heap.get? b=some o) :
  Inv { X with N:=xs++M.map λj=>X.N.getD j Str.empty,s₀:=s2,H₀:=H,env:=compEnvC scope cl C X.env,outer:=X.stack,ex:=fp,fn:=λ_=>false,pn:=X.pn++pins,xe:=λ_ _=>False } [] ((xs.map λ_=>none)++M.map λj=>(σ[j]?).join) (upd H s2.heap.objs.size oo) { s2 with heap:=h1,toks:=tk }:=by
 have hfr:=I.hok.fresh (a:=s2.heap.objs.size) (af _)
 have o:=I.ok
 have hcc:∀y c,cl.lookup y=some c→X.env.cells.lookup y=some c:=λy c e=>hc.look e
 have hlt:∀b∈fp,b<s2.heap.objs.size:=λb hb=>by
  obtain ⟨ob,e⟩:=hob b hb
  exact ae e
 have hstk:∀b∈fp,b∉frs X.stack:=λb hb z=>by
  rcases ap.mp (I.stkSub b z) with z|z
  ·exact (hfp b hb).2.1 z
  ·exact (hfp b hb).2.2.1 z
 have hCn:H C=none:=I.hok.fresh (bz hC)
 refine ⟨⟨o.mod,hk,o.glob,o.blt,bz hC,λy z c e1 e2=>o.inj y z c (hcc y c e1) (hcc z c e2),λy hy=>?_,λy c z=>(aj z).elim,o.hd,o.frames,.inl rfl,λb hb=>⟨al (ba (hlt b hb) hC),λy c e=>(hfp b hb).2.2.2.2.1 y c (hcc y c e)⟩,
  λb ob e=>I.bs b ob e,aZ o.bsz I.sz,λb ob e z=>?_,hstk,I.stack,I.stkFree⟩,rfl,I.bare,?_,?_,λy c e=>?_,?_,λy c e=>?_,λp hp=>?_,?_,?_⟩
 ·rcases hy with hy|hy
  ·exact hh.has (.inl rfl) hy
  ·exact hh.has (.inr rfl) hy
 ·obtain ⟨e1,e2⟩:=I.bs b ob e
  exact (hfp b z).2.2.2.1.elim (λq=>o.noex b ob e q) λq=>by
   have:=o.bs b ob e
   exact aI _ (am (ae this.1) q)
 ·exact (Un.laid (fs:=frs X.stack) (ex:=fp) (o:=oo) keep (af _) hfr)
 ·refine ⟨_,hn,λi z v e1 e2 e3=>?_⟩
  rcases Nat.lt_or_ge i xs.length with hi|hi
  ·have e2:((xs.map λ_=>(none:Option V))++M.map λj=>(σ[j]?).join)[i]?=some (some v):=e2
   rw [cF (by rw [ah];exact hi),aU,au hi] at e2
   cases e2
  have e1':(xs++M.map λj=>X.N.getD j Str.empty)[i]?=some z:=e1
  have e2':((xs.map λ_=>(none:Option V))++M.map λj=>(σ[j]?).join)[i]?=some (some v):=e2
  rw [bf hi] at e1'
  rw [bf (by rw [ah];exact hi),ah] at e2'
  generalize i-xs.length=k at e1' e2'
  rw [aU] at e1' e2'
  cases hj:M[k]? with
  |none=>rw [hj] at e1';cases e1'
  |some j =>
   rw [hj] at e1' e2'
   obtain ⟨y,c,f1,f2,f3,f4⟩:=hm.get hj
   have ez:X.N.getD j Str.empty=z:=ak e1'
   rw [aC,f1] at ez
   have ez':y=z:=ez
   subst ez'
   have ev:(σ[j]?).join=some v:=ak e2'
   have ev':σ[j]?=some (some v):=by
    cases hs:σ[j]? with
    |none=>rw [hs] at ev;cases ev
    |some w' =>
     rw [hs] at ev
     have:w'=some v:=ev
     rw [this]
   obtain ⟨m,hns,hl⟩:=I.loc
   obtain ⟨u,r,l⟩:=hl j y v f1 ev' (.inr (.inl f2))
   refine ⟨u,r,.inr ⟨.inl f3,c,f4,?_⟩⟩
   rcases l with ⟨lk,_⟩|⟨_,c',lc,li⟩
   ·have:X.env.scope.names.lookup y=some .local:=lk
    rw [f2] at this
    cases this
   ·rw [hcc y c f4] at lc
    have:=ak lc
    subst this
    exact li.keeps keep
 ·obtain ⟨v,hv⟩:=I.cell y c (hcc y c e)
  exact ⟨v,hv.keeps keep⟩
 ·show upd H s2.heap.objs.size oo C=none
  rw [q8 (Nat.ne_of_gt hC)]
  exact hCn
 ·show upd H s2.heap.objs.size oo c=none
  obtain ⟨v,ob,e1,e2⟩:=I.cell y c (hcc y c e)
  rw [q8 (al (ae e1))]
  exact I.freeC y c (hcc y c e)
 ·have hp':p∈X.pn++pins:=(bc.mp hp).elim (λz=>z) λz=>nomatch z
  obtain ⟨e1,e2,e3,e4,e5⟩:=I.pin p hp'
  refine ⟨keep _ _ e1,?_,al (ba (ae e1) hC),λz=>?_,e5⟩
  ·rw [q8 (al (ae e1))]
   exact e2
  ·rcases ap.mp (I.stkSub p.1 z) with z|z
   ·exact e3 z
   ·exact e4 z
 ·exact I.hok.laid keep (af _) hD
 ·show ((xs.map λ_=>(none:Option V))++M.map λj=>(σ[j]?).join).length=(xs++M.map λj=>X.N.getD j Str.empty).length
  simp only [aS,ah]
theorem Inv.comp (I:Inv X pins σ H s2)(hc:CapAll X.env cl)(hh:HasAll cl scope.names)(hm:CapIx X scope cl M)(hk:scope.kind=.function)(hC:s2.heap.objs.size<C)
  (keep:∀b o,s2.heap.get? b=some o→h1.get? b=some o) (hn:h1.Ns C λ_=>none) (hD:h1.get? s2.heap.objs.size=some { cls:=.type "list",data:=.seq #[] 0 })
  (hfp:∀b∈fp,v5 X pins H b) (hob:∀b∈fp,∃o,s2.heap.get? b=some o) :
  Inv (zn X scope cl x M C s2 H fp (X.pn++pins)) [] (zt M σ none) (upd H s2.heap.objs.size (.lst [])) { s2 with heap:=h1,toks:=tk }:=I.compG (xs:=[x]) hc hh hm hk hC keep hn ⟨aJ _,[],0,.nil,hD⟩ hfp hob
theorem Inv.uncomp {pins':List (Aj×Obj)}{σ':St}{H':Hp}{s':Ab}{h':Heap}(I:Inv X pins σ H s2)(hC:s2.heap.objs.size≤C)(hfp:∀b∈fp,v5 X pins H b)
  (J:Inv (zn X scope cl x M C s2 H fp (X.pn++pins)) pins' σ' H' s') (hs:Heap.SameBut C s'.heap h'):Inv X pins σ H' { s' with heap:=h' }:=by
 have hb:=J.base
 have nC:∀b o,s2.heap.get? b=some o→b≠C:=λb o e=>al (am (ae e) hC)
 have st:∀b o,b≠C→s'.heap.get? b=some o→h'.get? b=some o:=λb o n e=>(hs.2 b n).trans e
 refine I.call' (s':={ s' with heap:=h' }) (ch:=fp) J.os ⟨λb o e n nb nx=>st b o (nC b o e) (hb.keep b o e n nb nx),λb o e n hb' nx=>?_,hb.free,λb o e nx=>?_,hb.tups,hb.frzs,hb.tbls⟩ ?_ J.bare λb hbf=>?_
 ·obtain ⟨sl,e1⟩:=hb.slot b o e n hb' nx
  exact ⟨sl,st b _ (nC b o e) e1⟩
 ·obtain ⟨o',e1⟩:=hb.there b o e nx
  exact ⟨o',st b _ (nC b o e) e1⟩
 ·intro b u hu
  have fr:H' C=none:=J.free
  refine (J.hok b u hu).stay (λc v hc e=>st c v ?_ e) (λ_ z=>z) λ_ _ z=>z
  rcases hc with rfl|hc
  ·intro z;rw [z,fr] at hu;cases hu
  ·intro z;rw [z,fr] at hc;cases hc
 ·obtain ⟨q1,q2,q3,q4,q5,q6⟩:=hfp b hbf
  exact ⟨q4,q2,q5,q6⟩
end
def qw4 (J:It)(M:List Nat)(te:TE)(σ:St)(H1:Hp)(Q:VK):Prop:=∀p,H1 p=none→∃W:Nat→Nat→List V→Hp→Prop,(∃m,W 0 m [] (upd H1 p (.lst []))) ∧
 ∀i m ys H2,W i m ys H2→H2 p=some (.lst ys)∧ys.length<sizeLine∧((J.stop i H2∧Q (.ref p) H2)∨(J.go i H2∧∀v H3,J.yld i H2 v H3 →
  te (zt M σ (some v)) H3 λy H4=>H4 p=some (.lst ys)∧∃m',m'<m∧W (i+1) m' (ys++[y]) (upd H4 p (.lst (ys++[y])))))
def tComp (M:List Nat)(wi:TI)(te:TE):TE:=λσ H Q=>wi σ H λJ H1=>qw4 J M te σ H1 Q
theorem W6 {Y:Cx}{tg e:Expr}{k:Nat}{acc:Ag}{it:Aj}{fp:List Aj}{tn:Nat→Heap→Prop}{J:It}{ps:Pos}{REST:Sem PySem.Fin}{post:Result→Ab→Prop}{gg:TG}{pins:List (Aj×Obj)}{σ:St}{V:Nat→Nat→Hp→Prop}{Qd:Hp→Prop}{s0:Ab}{H0:Hp}{n0:Nat}
  (T:Turn Y.prog Y.w Y.K tg J fp it tn) (hc:Y.calm=true) (hx:∀v s,Y.xe v s→False)
  (hturn:compTurn e k (.ref it) acc Y.env=(standAt ps >>= λ_=>pyNext (.ref it) >>= λr=>match r with|none=>pure (.done .next)|some v=>letOwnedTupleGo tg (.ref it) v >>= λ_=>assign tg Y.env v >>= λ_=>REST))
  (hun:Y.A.under (.compLoop e k (.ref it) acc Y.env)=Y.A) (hden:(model Y.prog Y.w).den (.compLoop e k (.ref it) acc Y.env)=((compTurn e k (.ref it) acc Y.env).onRaise λz=>do noteFrame z Y.env;theTreesLotGoes z))
  (hg:PG Y tg gg) (fok:∀H2:Hp,(∀b∈fp,H2 b=none)→∀b∈fp,v5 Y pins H2 b)
  (hV:∀i n H2,V i n H2→(J.stop i H2∧Qd H2)∨(J.go i H2∧∀v H3,J.yld i H2 v H3→∃Z:St→Hp→Prop,gg v σ H3 Z∧∀σ4 H4,Z σ4 H4→(σ.length=σ4.length∧∀(k:Nat) z,σ[k]?=some (some z)→σ4[k]?=some (some z))∧∀pins' s',Inv Y pins' σ4 H4 s' →
   wpAny (model Y.prog Y.w) Y.A REST (λr s5=>r=Fin.again (.compLoop e k (.ref it) acc Y.env)∧∃H5,Inv Y pins' σ4 H5 s5∧∃n',n'<n∧V (i+1) n' H5) Y.xe s'))
  (fin:∀H2 s4,Inv Y pins σ H2 s4→Qd H2→post (.ok .next) s4) (I:Inv Y pins σ H0 s0) (v0:V 0 n0 H0) (t0:tn 0 s0.heap) (nf:∀b∈fp,H0 b=none) :
  codeAny (model Y.prog Y.w) Y.A (.compLoop e k (.ref it) acc Y.env) post s0:=by
 refine codeAny_loop rfl (λn s3=>∃i H2,V i n H2∧Inv Y pins σ H2 s3∧tn i s3.heap∧∀b∈fp,H2 b=none) (λn s3 hI=>?_) n0 ⟨0,H0,v0,I,t0,nf⟩
 obtain ⟨i,H2,w,J2,t,nf2⟩:=hI
 rw [hun,hden]
 refine wpAny_noted ?_
 rw [hturn]
 refine aa (cI (aa ?_))
 rcases hV i n H2 w with ⟨hst,hq⟩|⟨hgo,hy⟩
 ·refine aF (T.done Y rfl rfl rfl hc i pins s3 _ H2 (λ_ _=>False) J2 (fok H2 nf2) t hst) (λr s4 hr=>?_) λ_ _ z=>z.elim
  obtain ⟨rfl,J4⟩:=hr
  exact ag (fin H2 s4 J4 hq)
 ·refine aF (T.item Y rfl rfl rfl hc i pins s3 _ H2 (λ_ _=>False) J2 (fok H2 nf2) t hgo) (λr s4 hr=>?_) λ_ _ z=>z.elim
  obtain ⟨u,rfl,hw⟩:=hr
  refine aa (aF hw (λ_ s5 hr5=>?_) λ_ _ z=>z.elim)
  obtain ⟨v,H3,J5,rv,yl,t5,nf⟩:=hr5
  obtain ⟨Z,hz,hZ⟩:=hy v H3 yl
  refine aa (aF (hg _ s5 _ H3 v u _ (J5.pinned (fok H3 nf) (T.obj _ _ t5)) rv hz) (λ_ s6 hr6=>?_) λv s z=>(hx v s z).elim)
  obtain ⟨σ6,H6,J6,z6⟩:=hr6
  obtain ⟨⟨hl,hw6⟩,hR⟩:=hZ σ6 H6 z6
  refine aF (hR _ s6 J6) (λr s7 hr7=>?_) λv s z=>(hx v s z).elim
  obtain ⟨rfl,H7,J7,n',hn',v7⟩:=hr7
  refine ⟨rfl,n',hn',i+1,H7,v7,(J7.unpinned (pins:=pins)).weak hl hw6,?_,?_⟩
  ·exact T.keep _ _ _ t5 λb hb o e=>(J7.pin (b,o) (ar _ (ar _ (vp hb e)))).1
  ·intro b hb
   obtain ⟨o,e,_⟩:=T.obj _ _ t5 b hb
   exact (J7.pin (b,o) (ar _ (ar _ (vp hb e)))).2.1
section
variable {Y:Cx}{elt cd:Expr}{te:TE}{tt:TT}{c:Code}{p:Aj}{σ:St}{H:Hp}{pins:List (Aj×Obj)}{s:Ab}
def appS (elt:Expr)(acc:Ag)(env:Env)(c:Code):Sem PySem.Fin:=(eval elt env >>= λx=>call (.builtin "list.append") [acc,x] >>= λ_=>pure ()) >>= λ_=>again c
theorem qv4 {ys:List V}{N:List V→Hp→Prop}(hx:∀v s,Y.xe v s→False)(he:PE Y elt te)(J:Inv Y pins σ H s)(hz:ys.length<sizeLine)(h:te σ H λy H4=>H4 p=some (.lst ys)∧N (ys++[y]) (upd H4 p (.lst (ys++[y])))) :
  wpAny (model Y.prog Y.w) Y.A (appS elt (.ref p) Y.env c) (λr s5=>r=Fin.again c∧∃H5,Inv Y pins σ H5 s5∧∃zs,N zs H5) Y.xe s:=by
 refine aa (aa (aF (he _ s _ H _ J h) (λyv s7 hr7=>?_) λ_ _ z=>z))
 obtain ⟨y,H4,J7,ry,hp4,n4⟩:=hr7
 refine aa (aF (jz (X:=Y) _ s7 _ H4 (.ref p) [y] (.ref p) [yv] (λ_ H8=>H8=upd H4 p (.lst (ys++[y]))) J7 rfl (.cons ry .nil) ⟨_,ys,y,rfl,rfl,hp4,hz,rfl⟩) (λ_ s8 hr8=>?_) λ_ _ z=>z)
 obtain ⟨_,H8,J8,_,rfl⟩:=hr8
 exact ag (ag ⟨rfl,_,J8,_,n4⟩)
end
section
variable {X:Cx}{elt iter cd:Expr}{x:Str}{px pos:Pos}{scope:Scope}{cl:List (Str×Aj)}{M:List Nat}{wi:TI}{te:TE}{tt:TT}{pins:List (Aj×Obj)}{σ:St}
theorem qwd {N:List Str}{C:Aj}{s2:Ab}{H1:Hp}{fp:List Aj}(hcap:CapAll X.env cl)(I2:Inv X pins σ H1 s2)(hlt:s2.heap.objs.size<C)(hfp:∀b∈fp,v5 X pins H1 b)(hbl:∀b∈fp,b<s2.heap.objs.size)(H2:Hp)(hn:∀b∈fp,H2 b=none) :
  ∀b∈fp,v5 { X with N:=N,s₀:=s2,H₀:=H1,env:=compEnvC scope cl C X.env,outer:=X.stack,ex:=fp,fn:=λ_=>false,pn:=X.pn++pins,xe:=λ_ _=>False } [] H2 b:=λb hb=>by
 obtain ⟨q1,q2,q3,q4,q5,q6⟩:=hfp b hb
 refine ⟨hn b hb,al (ba (hbl b hb) hlt),λz=>?_,.inl hb,λy c e=>q5 y c (hcap.look e),λp hp=>q6 p ((bc.mp hp).elim (λz=>z) λz=>nomatch z)⟩
 rcases ap.mp (I2.stkSub b z) with z|z
 ·exact q2 z
 ·exact q3 z
theorem qx4 {tg:Expr}{ifs:List Expr}{ju:List Comprehension}(hclos:closureFor scope X.env=pure cl)(hhas:HasAll cl scope.names)(hk:scope.kind=.function)
  (hnames:∀y∈scope.names,y.2=.local→scope.names.lookup y.1=some .local) (hi:PI X tg iter wi) (hs:∀z,foldedSetIterable iter X.env z=pure z)
  {use:Option (Ag→Sem Unit)} {QQ:Ag→Ab→Prop} {s:Ab} {H:Hp} {ps:Pos} {R:It→Hp→Prop} (I:Inv X pins σ H s) (h:wi σ H R)
  (go:∀(it:Aj) (fp:List Aj) (tn:Nat→Heap→Prop) (J:It) (H1:Hp) (s2:Ab) (C:Aj) (h3:Heap) (tk:Nat),Inv X pins σ H1 s2→Turn X.prog X.w X.K tg J fp it tn→tn 0 h3→(∀b∈fp,v5 X pins H1 b)→(∀b∈fp,b<s2.heap.objs.size)→(∀b∈fp,∃o,s2.heap.get? b=some o)→R J H1→s2.heap.objs.size<C →
   (∀b o,s2.heap.get? b=some o→h3.get? b=some o)→(h3.Ns C λ_=>none)→h3.get? s2.heap.objs.size=some { cls:=.type "list",data:=.seq #[] 0 } →
   codeAny (model X.prog X.w) X.A (.compLoop (.ListComp elt (⟨tg,iter,ifs,0⟩::ju) scope pos) 0 (.ref it) (.ref s2.heap.objs.size) (compEnvC scope cl C X.env)) (compPost (model X.prog X.w) X.A X.xe use QQ (.ref s2.heap.objs.size) C) { s2 with heap:=h3,toks:=tk }) :
  wpAny (model X.prog X.w) X.A (comprehension (.ListComp elt (⟨tg,iter,ifs,0⟩::ju) scope pos) scope X.env ps (newList []) false (eval iter X.env) use) QQ X.xe s:=by
 refine wpAny_comprehension_free (use:=use) rfl hs hclos hk hnames ?_
 refine thn (hi pins s σ H _ I h) λv s1 h1=>thn h1 λitv s2 h2=>?_
 obtain ⟨it,fp,tn,J,H1,rfl,I2,T,t0,hfp,hR⟩:=h2
 refine br ?_
 refine wpAny_newFunctionEnv hhas.nocell (by intro y hy;cases hy) (λh3 hns hsb=>?_) hk
 dsimp only at hns hsb ⊢
 generalize hH2:s2.heap.push { cls:=.type "list",dict:=none,data:=.seq ([]:List Ag).toArray }=G2 at hns hsb ⊢
 have hC:G2.objs.size=s2.heap.objs.size+1:=by rw [←hH2,cz]
 have hlt:s2.heap.objs.size<G2.objs.size:=by lia
 have keep:∀b o,s2.heap.get? b=some o→h3.get? b=some o:=λb o e=>by
  rw [hsb.2 b (al (ba (ae e) hlt))]
  exact ac _ (hH2▸ac _ e)
 have hD:h3.get? s2.heap.objs.size=some { cls:=.type "list",data:=.seq #[] 0 }:=by
  rw [hsb.2 _ (al hlt)]
  exact ac _ (hH2▸ai _ rfl)
 have t3:=T.keep 0 _ _ t0 λb _ o e=>keep b o e
 have loop:=λtk=>go it fp tn J H1 s2 G2.objs.size h3 tk I2 T t3 hfp (λb hb=>let ⟨o,e,_⟩:=T.obj 0 _ t0 b hb;ae e) (λb hb=>let ⟨o,e,_⟩:=T.obj 0 _ t0 b hb;⟨o,e⟩) hR hlt keep hns hD
 exact codeAny_compStart_list (loop _) (T.self _ 0 _ _ _ t3 (loop _))
theorem Q3 (M:List Nat)(σ:St)(v:V):(zt M σ none).length=(zt M σ (some v)).length∧∀(k:Nat) z,(zt M σ none)[k]?=some (some z)→(zt M σ (some v))[k]?=some (some z):=⟨rfl,λk z ez=>by
 cases k with
 |zero=>cases ez
 |succ k=>exact ez⟩
end
section
variable {X:Cx}{elt iter:Expr}{x:Str}{px pos:Pos}{scope:Scope}{cl:List (Str×Aj)}{M:List Nat}{wi:TI}{te:TE}
theorem qz4 (hc:X.calm=true)(hclos:closureFor scope X.env=pure cl)(hcap:CapAll X.env cl)(hhas:HasAll cl scope.names)(hix:CapIx X scope cl M)(hk:scope.kind=.function)
  (hnames:∀y∈scope.names,y.2=.local→scope.names.lookup y.1=some .local) (hx:scope.names.lookup x=some .local) (hnd:(qqq X x M).Nodup) (hi:PI X (.Name x px) iter wi)
  (he:∀C s2 H2 fp pn,PE (zn X scope cl x M C s2 H2 fp pn) elt te) (hs:∀z,foldedSetIterable iter X.env z=pure z)
  {use:Option (Ag→Sem Unit)} {QQ:Ag→Ab→Prop} {pins:List (Aj×Obj)} {s:Ab} {σ:St} {H:Hp} {Q:VK} {ps:Pos} (I:Inv X pins σ H s) (h:wi σ H λJ H1=>qw4 J M te σ H1 Q)
  (fin:∀(C:Aj) (s2 s4:Ab) (H1 H2:Hp) (fp:List Aj),Inv X pins σ H1 s2→s2.heap.objs.size<C→(∀b∈fp,v5 X pins H1 b)→Inv (zn X scope cl x M C s2 H1 fp (X.pn++pins)) [] (zt M σ none) H2 s4→Q (.ref s2.heap.objs.size) H2 →
   compPost (model X.prog X.w) X.A X.xe use QQ (.ref s2.heap.objs.size) C (.ok .next) s4) :
  wpAny (model X.prog X.w) X.A (comprehension (.ListComp elt [⟨.Name x px,iter,[],0⟩] scope pos) scope X.env ps (newList []) false (eval iter X.env) use) QQ X.xe s:=by
 refine qx4 hclos hhas hk hnames hi hs I h λit fp tn J H1 s2 C h3 tk I2 T t3 hfp hbl hob hR hlt keep hns hD=>?_
 obtain ⟨W,⟨m0,w0⟩,hW⟩:=hR s2.heap.objs.size (I2.hok.fresh (af _))
 have hxl:(relabel scope X.env).names.lookup x=some .local:=lookup_relabel_local hx
 refine W6 (Y:=zn X scope cl x M C s2 H1 fp (X.pn++pins)) (V:=λi n H2=>∃ys,W i n ys H2) (Qd:=Q (.ref s2.heap.objs.size)) (REST:=appS elt (.ref s2.heap.objs.size) (compEnvC scope cl C X.env) _) T hc (λ_ _ z=>z) (compTurn_list1 ..) rfl rfl (xq (i:=0) hnd rfl (.inl hxl) (.inr hxl)) (qwd hcap I2 hlt hfp hbl) (λi n H2 ⟨ys,w⟩=>?_) (λH2 s4 J4 q=>fin C s2 s4 H1 H2 fp I2 hlt hfp J4 q) (I2.comp hcap hhas hix hk hlt keep hns hD hfp hob) ⟨[],w0⟩ t3 λb hb=>by rw [q8 (al (hbl b hb))];exact (hfp b hb).1
 obtain ⟨hp,hz,hcase⟩:=hW i n ys H2 w
 refine hcase.imp id λ⟨hgo,hy⟩=>⟨hgo,λv H3 yl=>⟨λσ4 H4=>σ4=zt M σ (some v)∧H3=H4,⟨rfl,rfl⟩,λ_ _ e=>?_⟩⟩
 obtain ⟨rfl,rfl⟩:=e
 refine ⟨Q3 M σ v,λpins' s' J=>?_⟩
 refine aF (qv4 (N:=λzs H5=>∃m',m'<n∧W (i+1) m' zs H5) (λ_ _ z=>z) (he _ _ _ _ _) J hz (hy v H3 yl)) (λr s5 ⟨e,H5,J5,zs,m',hm,w'⟩=>⟨e,H5,J5,m',hm,zs,w'⟩) λ_ _ z=>z
theorem jq (hc:X.calm=true)(hclos:closureFor scope X.env=pure cl)(hcap:CapAll X.env cl)(hhas:HasAll cl scope.names)(hix:CapIx X scope cl M)(hk:scope.kind=.function)
  (hnames:∀y∈scope.names,y.2=.local→scope.names.lookup y.1=some .local) (hx:scope.names.lookup x=some .local) (hnd:(qqq X x M).Nodup) (hi:PI X (.Name x px) iter wi)
  (he:∀C s2 H2 fp pn,PE (zn X scope cl x M C s2 H2 fp pn) elt te) (hs:∀z,foldedSetIterable iter X.env z=pure z:=by intro _;rfl) :
  PE X (.ListComp elt [⟨.Name x px,iter,[],0⟩] scope pos) (tComp M wi te):=by
 intro pins s σ H Q I h
 rw [eval_ListComp]
 refine qz4 hc hclos hcap hhas hix hk hnames hx hnd hi he hs (use:=none) I h λC s2 s4 H1 H2 fp I2 hlt hfp J4 hq=>?_
 obtain ⟨m,hn,_⟩:=J4.loc
 exact ⟨m,hn,λh' hs'=>⟨.ref s2.heap.objs.size,H2,I2.uncomp (bz hlt) hfp J4 hs',rfl,hq⟩⟩
theorem Inv.but {pins:List (Aj×Obj)}{σ:St}{H:Hp}{s:Ab}{h':Heap}{C:Aj}(I:Inv X pins σ H s)(hn:H C=none)(h1:X.s₀.heap.objs.size≤C)(h2:C≠X.env.locals)(h3:∀y c,X.env.cells.lookup y=some c→c≠C)(h4:∀p∈X.pn++pins,p.1≠C)
  (hs:Heap.SameBut C s.heap h'):Inv X pins σ H { s with heap:=h' }:=by
 have st:∀b o,b≠C→s.heap.get? b=some o→h'.get? b=some o:=λb o n e=>(hs.2 b n).trans e
 have nc:∀b,b∉[C]→b≠C:=λb z e=>z (by rw [e];exact .head _)
 refine I.call' (s':={ s with heap:=h' }) (ch:=[C]) rfl ⟨λb o e n _ nx=>st b o (nc b nx) e,λb o e n _ nx=>⟨o.slots,st b o (nc b nx) e⟩,λb o e n _=>n,λb o e nx=>⟨o,st b o (nc b nx) e⟩,λ_ _ e=>e,λ_ _ _ e=>e,λb ps e=>⟨#[],by rw [e];simp⟩⟩ ?_ I.bare λb hb=>?_
 ·intro b u hu
  refine (I.hok b u hu).stay (λc v hc e=>st c v ?_ e) (λ_ z=>z) λ_ _ z=>z
  rcases hc with rfl|hc
  ·intro z;rw [z,hn] at hu;cases hu
  ·intro z;rw [z,hn] at hc;cases hc
 ·rw [aB.mp hb]
  exact ⟨.inr h1,h2,h3,h4⟩
end
theorem vz {M:List Nat}{lo:Int}{n:Nat}{te:TE}{σ:St}{H:Hp}{Q:VK}(f:Nat→V)(hn:n≤1000000)(he:∀(i:Nat) (H':Hp) (R:VK),i<n→Same H H'→R (f i) H'→te (zt M σ (some (.int (lo+i)))) H' R)
  (k:∀p,H p=none→Q (.ref p) (upd H p (.lst ((List.range n).map f)))):qw4 (Itr lo n) M te σ H Q:=by
 intro p np
 refine ⟨λi m ys H2=>i≤n∧m=n-i∧ys=(List.range i).map f∧H2=upd H p (.lst ys),⟨n,aJ _,rfl,rfl,rfl⟩,?_⟩
 rintro i m ys H2 ⟨hi,rfl,rfl,rfl⟩
 refine ⟨q9,?_,?_⟩
 ·rw [ah,bt]
  have:(1000000:Nat)<sizeLine:=by decide
  lia
 ·by_cases hlt:i<n
  ·refine .inr ⟨hlt,?_⟩
   rintro v H3 ⟨rfl,rfl⟩
   refine he i (upd H p (.lst ((List.range i).map f))) _ hlt (Same.upd np) ⟨q9,n-(i+1),by lia,by lia,rfl,?_,?_⟩
   ·rw [bO,bp]
    rfl
   ·rw [yc]
  ·have:i=n:=by lia
   subst this
   exact .inl ⟨af _,k p np⟩
end L2
namespace L2
open PySem PySem.Spec PyProof.Rows
section
variable {X:Cx}
theorem W1 {pins:List (Aj×Obj)}{σ:St}{H:Hp}{s:Ab}{p:Aj}{ns:List Int}(I:Inv X pins σ H s)(hS:SqL X.K H p (ns.map V.int)) :
  ∃ts:Array (Int×Tok),s.heap.IsList p (intItems ts)∧ns=ts.toList.map (·.1):=by
 obtain ⟨its,rv,⟨o,n,e1,e2,e3,e4⟩,hz⟩:=I.list hS
 have hi:=qqc rv
 obtain ⟨ts,ht⟩:=hi.allInts.items
 refine ⟨ts,⟨o,e1,e2,n,by rw [←ht];exact e4⟩,?_⟩
 have a1:=hi.numsOf
 have a2:=nums_intItems (xs:=ts)
 rw [←ht] at a2
 exact a1.symm.trans a2
theorem Wp (hc:X.calm=true):vf X (.builtin "min") (λxs H Q=>∃(p:Aj) (ns:List Int),xs=[.ref p]∧SqL X.K H p (ns.map V.int)∧0<ns.length∧∀m,m∈ns→(∀a∈ns,m≤a)→Q (.int m) H):=by
 intro pins s σ H xs us Q I r h
 obtain ⟨p,ns,rfl,hS,hne,q⟩:=h
 obtain ⟨u,rfl,ru⟩:=jn r
 cases (show u=Value.ref p from ru)
 obtain ⟨ts,hl,he⟩:=W1 I hS
 have hsz:ts.size=ns.length:=by rw [he,ah,aO]
 refine min_intList (I.ok.hd hc) hl (by lia) λv h' tk hv hk=>?_
 obtain ⟨t,rfl⟩:=intItems_at hv
 obtain ⟨b1,b2⟩:=argBest_lt (numAt ts) (ts.size-1)
 refine ⟨.int _,H,I.kept hk,⟨t,rfl⟩,q _ ?_ λa ha=>?_⟩
 ·rw [he,numAt_eq]
  refine getD_mem ?_
  rw [←he,←hsz]
  lia
 ·rw [he] at ha
  obtain ⟨j,hj,rfl⟩:=mem_getD ha
  rw [←he,←hsz] at hj
  rw [←numAt_eq]
  exact b2 j (by lia)
theorem Wb (hc:X.calm=true):vf X (.builtin "max") (λxs H Q=>∃(p:Aj) (ns:List Int),xs=[.ref p]∧SqL X.K H p (ns.map V.int)∧0<ns.length∧∀m,m∈ns→(∀a∈ns,a≤m)→Q (.int m) H):=by
 intro pins s σ H xs us Q I r h
 obtain ⟨p,ns,rfl,hS,hne,q⟩:=h
 obtain ⟨u,rfl,ru⟩:=jn r
 cases (show u=Value.ref p from ru)
 obtain ⟨ts,hl,he⟩:=W1 I hS
 have hsz:ts.size=ns.length:=by rw [he,ah,aO]
 refine max_intList (I.ok.hd hc) hl (by lia) λv h' tk hv hk=>?_
 obtain ⟨t,rfl⟩:=intItems_at hv
 obtain ⟨b1,b2⟩:=argBest_gt (numAt ts) (ts.size-1)
 refine ⟨.int _,H,I.kept hk,⟨t,rfl⟩,q _ ?_ λa ha=>?_⟩
 ·rw [he,numAt_eq]
  refine getD_mem ?_
  rw [←he,←hsz]
  lia
 ·rw [he] at ha
  obtain ⟨j,hj,rfl⟩:=mem_getD ha
  rw [←he,←hsz] at hj
  rw [←numAt_eq]
  exact b2 j (by lia)
theorem J9:∀ {bs:List Bool} {its:List Ag},Vals (bs.map V.bl) its→its=bs.map Value.bool
 |[],_,.nil=>rfl
 |b::bs,_,.cons r t=>by
  have e:_=Value.bool b:=r
  rw [aw,←J9 t,e]
theorem qxj (bs:List Bool):(List.range bs.length).all (λi=>bs.getD i true)=bs.all id:=by
 rw [bn,cO,cO]
 constructor
 ·intro h b hb
  obtain ⟨i,hi,rfl⟩:=List.getElem_of_mem hb
  have:=h i (bw.mpr hi)
  rw [aC,au hi] at this
  exact this
 ·intro h i hi
  have hi':=bw.mp hi
  rw [aC,au hi']
  exact h _ (List.getElem_mem hi')
theorem Wr (hc:X.calm=true):vf X (.builtin "all") (λxs H Q=>∃(p:Aj) (bs:List Bool),xs=[.ref p]∧SqL X.K H p (bs.map V.bl)∧Q (.bl (bs.all id)) H):=by
 intro pins s σ H xs us Q I r h
 obtain ⟨p,bs,rfl,hS,q⟩:=h
 obtain ⟨u,rfl,ru⟩:=jn r
 cases (show u=Value.ref p from ru)
 obtain ⟨its,rv,⟨o,n,e1,e2,e3,e4⟩,hz⟩:=I.list hS
 have hits:=J9 rv
 have hl:s.heap.IsList p its.toArray:=⟨o,e1,e2,n,e4⟩
 have hlt:p<s.heap.objs.size:=ae e1
 refine call_all_walk (wpAny_pyIter_list hl ?_)
 refine ⟨s.heap.objs.size,_,_,_,_,_,λi=>bs.getD i true,rfl,Walks.list (A:=X.A.in1) (I.ok.hd hc) _ p (al hlt) its.toArray,⟨⟨_,ai _ rfl,rfl,rfl⟩,hl.push _⟩,λi v s' Q' E' hP hQ=>?_,λh' tk hk=>?_⟩
 ·have hv:its[i]?=some v:=by simpa using hP
  rw [hits,aU] at hv
  cases hb:bs[i]? with
  |none=>rw [hb] at hv;cases hv
  |some b =>
   rw [hb] at hv
   have ev:Value.bool b=v:=ak hv
   subst ev
   refine bG ?_
   have e2:bs.getD i true=b:=by rw [aC,hb];rfl
   have hQ':Q' (bs.getD i true) s':=hQ
   rw [e2] at hQ'
   exact hQ'
 ·have hlen:its.toArray.size=bs.length:=by rw [hits];simp
  rw [hlen,qxj]
  refine ⟨.bl _,H,I.kept λb ob e=>hk b ob (λhm=>?_) (ac _ e),rfl,q⟩
  have z:b=s.heap.objs.size:=by simpa using hm
  exact aI _ (z▸ae e)
end
structure MCal (P:Ac)(w:Ah)(K:Aa)(mg:Str→Option Ag)(base:Heap)(C:Aj)(m:Str)(k:Nat)(sp:Sp):Prop where
 ex:∃f fd ps,Meth K C m f∧FnOk P w K mg base (CXE P w) k f fd ps sp∧Binds K fd ps []
structure CCal (P:Ac)(w:Ah)(K:Aa)(mg:Str→Option Ag)(base:Heap)(x:Str)(C:Aj)(k:Nat)(sp:Sp):Prop where
 ex:∃f fd ps,mg x=some (.ref C)∧Mk K C f∧FnOk P w K mg base (CXE P w) k f fd ps sp∧Binds K fd ps []
structure MethIn (K:Aa)(C:Aj)(m qual:Str)(st:Stmt):Prop where
 ex:∃f fd,PySem.W.findIn K (.ref C) m=some (some (.ref f))∧PySem.W.isFn K (.ref f)=true∧Fun K m qual st f fd
theorem qjb {K:Aa}{C:Aj}{m qual:Str}{st:Stmt}{f:Aj}{oc:Ag}{od an:Option Aj}{osl:Array (Option Ag)}{kV doc pm cdv ct:Ag}(a:PySem.W.findIn K (.ref C) m=some (some (.ref f)))(i:PySem.W.isFn K (.ref f)=true)
  (l:K.lookup f=some ⟨oc,od,.func (PySem.W.fnOf m qual (zy st) (zv st) (wz st) .none kV doc pm an cdv ct),osl⟩) (c:PySem.W.codeIn K cdv qual=true) (k:PySem.W.keepIn K (.ref f)=true):MethIn K C m qual st:=⟨_,_,a,i,qvv l c k⟩
def zw (x qual:Str)(st:Stmt)(ps:List Str):Prop:=∀(kV doc pm:Ag) (an:Option Aj) (cdv ct:Ag) (us:List Ag),us.length=ps.length→bindArgs (PySem.W.fnOf x qual (zy st) (zv st) (wz st) .none kV doc pm an cdv ct) ⟨us,[]⟩=pure (ps.zip us)
section
variable {P:Ac}{w:Ah}{K:Aa}{mg:Str→Option Ag}{base:Heap}{C:Aj}
theorem MethIn.cal {m qual:Str}{st:Stmt}{ps:List Str}{k:Nat}{sp:Sp}(d:MethIn K C m qual st)(b:zw m qual st ps)(ok:∀f fd,Fun K m qual st f fd→FnOk P w K mg base (CXE P w) k f fd ps sp):MCal P w K mg base C m k sp:=by
 obtain ⟨f,fd,a,i,F⟩:=d.ex
 exact ⟨f,fd,ps,⟨a,i,F.kp⟩,ok f fd F,F.binds b⟩
theorem MethIn.ccal {x qual:Str}{st:Stmt}{ps:List Str}{k:Nat}{sp:Sp}(d:MethIn K C "__init__" qual st)(hm:mg x=some (.ref C))(mk:PySem.W.makesIn K C=true)(kc:PySem.W.keepIn K (.ref C)=true)(b:zw "__init__" qual st ps)
  (ok:∀f fd,Fun K "__init__" qual st f fd→FnOk P w K mg base (CXE P w) k f fd ps sp):CCal P w K mg base x C k sp:=by
 obtain ⟨f,fd,a,i,F⟩:=d.ex
 exact ⟨f,fd,ps,hm,⟨mk,a,i,kc⟩,ok f fd F,F.binds b⟩
end
section
variable {X:Cx}{C:Aj}{x m:Str}{k:Nat}{sp:Sp}{E:St→XK}{p pos apos:Pos}{e o:Expr}{es:List Expr}{ta:TE}{t:TA}
theorem Wv (c:CCal X.prog X.w X.K X.mg X.base x C k sp)(hr:Room (k+1) X.A)(hg:Gl X x)(hx:z7 X E)
  (ha:PA X (e::es) t) (hdb:(x==("__debug__" : Str))=false:=by decide) (he:starEach (e::es) X.env=(false,eval e X.env)::starEach es X.env:=by rfl) (hpl:(backTo pos (starEach es X.env)).any (·.1)=false:=by rfl) :
  PE X (.Call (.Name x p) (e::es) [] pos) (qq9 C sp E t):=by
 obtain ⟨f,fd,ps,hm,M,F,b⟩:=c.ex
 exact qzs M F hr hg hm b hx ha hdb he hpl
theorem qzr {pl:Sem Bool}(he:PE X o ta)(cl:Cls X.K C)(c:MCal X.prog X.w X.K X.mg X.base C m k sp)(hr:Room k X.A)(hx:z7 X E)(ha:PA X (e::es) t)
  (hst:starEach (e::es) X.env=(false,eval e X.env)::starEach es X.env:=by rfl) (hpl:(backTo pos (starEach es X.env)).any (·.1)=false:=by rfl)
  (ht:eval (.Call (.Attribute o m apos) (e::es) [] pos) X.env=(do
   let ov ←eval o X.env
   standAt apos.atName
   let (f,first) ←holding [ov] (getMethod ov m pl)
   callWith pos f first (backTo pos (starEach (e::es) X.env)) (backToKw pos (keywordEach [] X.env))):=by rfl) :
  PE X (.Call (.Attribute o m apos) (e::es) [] pos) (Qz C m sp E ta t):=by
 obtain ⟨f,fd,ps,hm,F,b⟩:=c.ex
 exact qkj he cl hm F hr b hx ha hst hpl ht
theorem ux {pl:Sem Bool}(he:PE X o ta)(cl:Cls X.K C)(c:MCal X.prog X.w X.K X.mg X.base C m k sp)(hr:Room k X.A)(hx:z7 X E)
  (ht:eval (.Call (.Attribute o m apos) [] [] pos) X.env=(do
   let ov ←eval o X.env
   standAt apos.atName
   let (f,first) ←holding [ov] (getMethod ov m pl)
   callWith pos f first (backTo pos (starEach [] X.env)) (backToKw pos (keywordEach [] X.env))):=by rfl) :
  PE X (.Call (.Attribute o m apos) [] [] pos) (Qz C m sp E ta z5):=by
 obtain ⟨f,fd,ps,hm,F,b⟩:=c.ex
 exact qzf he cl hm F hr b hx ht
end
end L2
namespace L2
open PySem
def hAt (hs:List Int)(k:Int):Int:=hs.getD k.toNat 0
def kF (hs:List Int)(t b:Int):Int:=if (hs.length:Int)-1-1<t/b then (hs.length:Int)-1-1 else t/b
def j9 (hs:List Int)(t b:Int):Int:=hAt hs (kF hs t b)*b+(hAt hs (kF hs t b+1)-hAt hs (kF hs t b))*(t-kF hs t b*b)
theorem qkh {hs:List Int}{t b:Int}(hl:2≤hs.length)(hb:1≤b)(h0:0≤t):0≤kF hs t b∧kF hs t b<(hs.length:Int)-1:=by
 have h:=Int.ediv_nonneg h0 (show (0:Int)≤b by lia)
 unfold kF
 split <;> lia
theorem qk1 {hs:List Int}{t b c:Int}(hc:1≤c):kF hs (t*c) (b*c)=kF hs t b:=by
 unfold kF
 rw [bF _ _ (show 0<c by lia)]
theorem Jq {hs:List Int}{t b c:Int}(hc:1≤c):j9 hs (t*c) (b*c)=j9 hs t b*c:=by
 unfold j9
 rw [qk1 hc]
 generalize hAt hs (kF hs t b)=u
 generalize hAt hs (kF hs t b+1)=v
 generalize kF hs t b=k
 grind
def kj (hs:List Int)(t b:Int):Int×Int:=wj (j9 hs t b) b
theorem Zc {hs:List Int}{t b:Int}(hb:1≤b):kj hs (wj t b).1 (wj t b).2=kj hs t b:=by
 unfold kj
 have hg:=vq (t:=t) hb
 have e1:(wj t b).1*gOf t b=t:=by rw [bT];exact W5
 have e2:(wj t b).2*gOf t b=b:=by rw [bT];exact uu hb
 have h:=Jq (hs:=hs) (t:=(wj t b).1) (b:=(wj t b).2) hg
 rw [e1,e2] at h
 rw [h]
 conv=>rhs;rw [←e2]
 rw [e2]
 have:=qw9 (t:=j9 hs (wj t b).1 (wj t b).2) (b:=(wj t b).2) (yx hb) hg
 rw [e2] at this
 exact this.symm
theorem Qq {t b:Int}(hb:1≤b):(wj t b).1<0↔t<0:=by
 have hg:=vq (t:=t) hb
 have e1:gOf t b*(wj t b).1=t:=W5
 constructor
 ·intro h
  have:=cC h (show 0<gOf t b by lia)
  rw [e1,Int.mul_zero] at this
  exact this
 ·intro h
  rcases bB (wj t b).1 0 with z|z
  ·exact z
  ·have:=aE z (show 0≤gOf t b by lia)
   rw [e1,Int.mul_zero] at this
   lia
theorem qqr {t b n:Int}(hb:1≤b):n*(wj t b).2<(wj t b).1↔n*b<t:=by
 have hg:=vq (t:=t) hb
 have e1:gOf t b*(wj t b).1=t:=W5
 have e2:gOf t b*(wj t b).2=b:=uu hb
 have e3:gOf t b*(n*(wj t b).2)=n*b:=by
  generalize gOf t b=g at *
  generalize (wj t b).2=y at *
  grind
 constructor
 ·intro h
  have:=cC h (show 0<gOf t b by lia)
  rw [e1,e3] at this
  exact this
 ·intro h
  rcases bB (n*(wj t b).2) (wj t b).1 with z|z
  ·exact z
  ·have:=aE z (show 0≤gOf t b by lia)
   rw [e1,e3] at this
   lia
theorem W0 {N b:Int}(hb:1≤b):b%(wj N b).2=0∧(wj N b).1*(b/(wj N b).2)=N:=by
 have hy:=yx (t:=N) hb
 have cr:=qxy (t:=N) hb
 have hd:(wj N b).2∣b:=⟨gOf N b,by rw [bT];exact (uu hb).symm⟩
 refine ⟨Int.emod_eq_zero_of_dvd hd,?_⟩
 have e:=cg hd
 generalize b/(wj N b).2=q at *
 generalize (wj N b).1=x at *
 generalize (wj N b).2=y at *
 have:y*(x*q-N)=0:=by grind
 rcases Int.mul_eq_zero.mp this with h|h <;> lia
theorem qkc {u v b d:Int}(hb:0≤d)(hd:d≤b):(if v<u then v else u)*b≤u*b+(v-u)*d∧u*b+(v-u)*d≤(if v>u then v else u)*b:=by
 by_cases h:v<u
 ·rw [av h,ao (by lia)]
  have a1:=aE hd (show 0≤u-v by lia)
  have a2:=bi (show 0≤u-v by lia) hb
  constructor <;> grind
 ·rw [ao h]
  have a1:=aE hd (show 0≤v-u by lia)
  have a2:=bi (show 0≤v-u by lia) hb
  by_cases h2:v>u
  ·rw [av h2]
   constructor <;> grind
  ·rw [ao h2]
   have:v=u:=by lia
   subst this
   constructor <;> grind
end L2
namespace L2
open PySem PySem.Spec PyProof.Rows
structure FunD (K:Aa)(x:Str)(st:Stmt)(f:Aj)(fd:Ad):Prop where
 ex:∃(oc:Ag) (od:Option Aj) (T:Aj) (kV doc pm:Ag) (an:Option Aj) (cdv ct:Ag) (osl:Array (Option Ag)),
  fd=PySem.W.fnOf x x (zy st) (zv st) (wz st) (.ref T) kV doc pm an cdv ct∧K.lookup f=some ⟨oc,od,.func fd,osl⟩∧PySem.W.codeIn K cdv x=true∧∃o n,K.lookup T=some o∧o.data=.seq #[.none] n
 kp:PySem.W.keepIn K (.ref f)=true
structure DefInD (K:Aa)(x:Str)(st:Stmt):Prop where
 ex:∃f fd,PySem.W.nsIn K mainGlobals x=some (some (.ref f))∧FunD K x st f fd
section
variable {P:Ac}{w:Ah}{K:Aa}{mg:Str→Option Ag}{base:Heap}
theorem qyy {x:Str}{st:Stmt}{f T:Aj}{oc:Ag}{od an:Option Aj}{osl:Array (Option Ag)}{kV doc pm cdv ct:Ag}(a:PySem.W.nsIn K mainGlobals x=some (some (.ref f)))
  (l:K.lookup f=some ⟨oc,od,.func (PySem.W.fnOf x x (zy st) (zv st) (wz st) (.ref T) kV doc pm an cdv ct),osl⟩) (c:PySem.W.codeIn K cdv x=true) (k:PySem.W.keepIn K (.ref f)=true) {tc:Ag} {td:Option Aj} {tn:Nat} {ts:Array (Option Ag)} (t:K.lookup T=some ⟨tc,td,.seq #[.none] tn,ts⟩):DefInD K x st:=⟨_,_,a,⟨oc,od,T,kV,doc,pm,an,cdv,ct,osl,rfl,l,c,_,_,t,rfl⟩,k⟩
theorem FunD.okX {x:Str}{st:Stmt}{f:Aj}{fd:Ad}{N ps:List Str}{k:Nat}{sp:Sp}(F:FunD K x st f fd)(S:FnScope N ps (wz st))(len:∀vs H Q E,sp vs H Q E→vs.length=ps.length)
  (body:∀(cdv:Ag) (A:Ae) (outer:List Env) (s:Ab) (H:Hp) (vs:List V) (Q:VK) (E:XK),Room k (A.deeper (envOfC x (wz st) s.heap.objs.size f cdv))→sp vs H Q E →
   ∃t,PSs (Ym (CXE P w) P w K mg base N x (wz st) f cdv A outer s H E) (zv st) t∧t { nx:=λ_ H'=>Q .non H',rt:=Q } (js N vs) H):FnOk P w K mg base (CXE P w) (k+1) f fd ps sp:=by
 obtain ⟨oc,od,T,kV,doc,pm,an,cdv,ct,osl,rfl,lk,hcd,_⟩:=F.ex
 exact fn_of lk hcd S len λA outer s H vs Q E hr hsp=>body cdv A outer s H vs Q E hr hsp
def j0 (x:Str)(st:Stmt)(ps:List Str)(ds:List Ag):Prop:=∀(T:Aj) (kV doc pm:Ag) (an:Option Aj) (cdv ct:Ag) (us:List Ag),(us++ds).length=ps.length →
 ∃kk,bindArgs (PySem.W.fnOf x x (zy st) (zv st) (wz st) (.ref T) kV doc pm an cdv ct) ⟨us,[]⟩=seqItems? (.ref T) >>= kk∧kk (some #[.none])=pure (ps.zip (us++ds))
structure CalD (P:Ac)(w:Ah)(K:Aa)(mg:Str→Option Ag)(base:Heap)(x:Str)(k:Nat)(sp:Sp):Prop where
 ex:∃f fd ps,mg x=some (.ref f)∧FnOk P w K mg base (CXE P w) k f fd ps sp∧PySem.W.keepIn K (.ref f)=true∧Binds K fd ps []∧Binds K fd ps [.none]
theorem FunD.binds {x:Str}{st:Stmt}{f:Aj}{fd:Ad}{ps:List Str}{ds:List Ag}(F:FunD K x st f fd)(b:j0 x st ps ds):Binds K fd ps ds:=by
 obtain ⟨oc,od,T,kV,doc,pm,an,cdv,ct,osl,rfl,lk,hcd,o,n,e1,e2⟩:=F.ex
 intro s us X hl
 obtain ⟨kk,h1,h2⟩:=b T kV doc pm an cdv ct us hl
 exact PySem.W.binds_K X rfl e1 e2 h1 h2
theorem DefInD.cal {x:Str}{st:Stmt}{ps:List Str}{k:Nat}{sp:Sp}{h:Heap}(d:DefInD K x st)(KX:K.In h)(G:h.Ns mainGlobals mg)(b:j0 x st ps [])(b':j0 x st ps [.none])(ok:∀f fd,FunD K x st f fd→FnOk P w K mg base (CXE P w) k f fd ps sp):CalD P w K mg base x k sp:=by
 obtain ⟨f,fd,a,F⟩:=d.ex
 exact ⟨f,fd,ps,aq KX G a,ok f fd F,F.kp,F.binds b,F.binds b'⟩
theorem CalD.all {x:Str}{k:Nat}{sp:Sp}(c:CalD P w K mg base x k sp):Cal P w K mg base x k sp:=by
 obtain ⟨f,fd,ps,h1,h2,h3,h4,_⟩:=c.ex
 exact ⟨f,fd,ps,h1,h2,h3,h4⟩
end
section
variable {X:Cx}{x:Str}{k:Nat}{sp:Sp}{E:St→XK}{p pos:Pos}{e:Expr}{es:List Expr}{t:TA}
end
end L2
namespace L2
open PySem PySem.Spec PyProof.Rows
section
variable {κ:Type}[DecidableEq κ]
def xg (kvs:List (κ×V))(k:κ):Option V:=(kvs.find? λkv=>decide (kv.1=k)).map (·.2)
def zu (kvs:List (κ×V))(k:κ)(v:V):List (κ×V) :=
 if (kvs.any λkv=>decide (kv.1=k))=true then kvs.map (λkv=>if kv.1=k then (kv.1,v) else kv) else kvs++[(k,v)]
def Zd (kvs:List (κ×V))(k:κ):List (κ×V):=kvs.filter λkv=>decide (kv.1≠k)
theorem vk {p:κ×V}{r:List (κ×V)}{k:κ}(e:p.1=k):xg (p::r) k=some p.2:=by simp [xg,bq,e]
theorem vj {p:κ×V}{r:List (κ×V)}{k:κ}(e:¬ p.1=k):xg (p::r) k=xg r k:=by simp [xg,bq,e]
theorem Qm (k:κ):∀kvs:List (κ×V),(kvs.any λkv=>decide (kv.1=k))=(xg kvs k).isSome
 |[]=>rfl
 |p::r=>by
  rw [cK]
  by_cases e:p.1=k
  ·simp only [vk e,aP e,Bool.true_or,Option.isSome_some]
  ·rw [vj e,aL e,Bool.false_or];exact Qm k r
theorem Zw (k j:κ)(y:V):∀kvs:List (κ×V),xg kvs k=none→xg (kvs++[(k,y)]) j=if j=k then some y else xg kvs j
 |[],_=>by
  by_cases e:k=j
  ·rw [av e.symm];exact vk (p:=(k,y)) e
  ·rw [ao (λz=>e z.symm)];exact vj (p:=(k,y)) e
 |p::r,hn=>by
  rw [List.cons_append]
  have hk:¬ p.1=k:=λz=>by rw [vk z] at hn;cases hn
  rw [vj hk] at hn
  have ih:=Zw k j y r hn
  by_cases e:p.1=j
  ·rw [vk e,vk e,ao (λz=>hk (e.trans z))]
  ·rw [vj e,vj e,ih]
theorem z0 (kvs:List (κ×V))(k:κ)(v:V):(zu kvs k v).length≤kvs.length+1:=by
 unfold zu
 split
 ·rw [ah];lia
 ·rw [aS,aN,cj];lia
theorem j8 {kvs:List (κ×V)}{k:κ}(v:V)(h:xg kvs k=none):zu kvs k v=kvs++[(k,v)]:=by
 unfold zu
 rw [Qm,h]
 exact ao (by decide)
theorem RelO.isSome_eq {o:Option V}{u:Option Ag}(r:RelO o u):o.isSome=u.isSome:=by
 cases o with
 |none=>cases u with
  |none=>rfl
  |some _=>exact (show False from r).elim
 |some _=>cases u with
  |none=>exact (show False from r).elim
  |some _=>rfl
theorem RelO.getD {o:Option V}{u:Option Ag}{d:V}{d':Ag}(r:RelO o u)(rd:xx d d'):xx (o.getD d) (u.getD d'):=by
 cases o with
 |none=>cases u with
  |none=>exact rd
  |some _=>exact (show False from r).elim
 |some _=>cases u with
  |none=>exact (show False from r).elim
  |some _=>exact r
theorem KV.val {kvs:List (κ×V)}{vs:List (κ×Ag)}(r:KV kvs vs)(k:κ):RelO (xg kvs k) (valueAt vs k):=by
 unfold KV at r
 induction r with
 |nil=>exact True.intro
 |@cons p q ps qs h t ih =>
  obtain ⟨h1,h2⟩:=h
  by_cases e:p.1=k
  ·have e':q.1=k:=h1.symm.trans e
   have b:valueAt (q::qs) k=some q.2:=by simp [valueAt,bq,e']
   rw [vk e,b];exact h2
  ·have e':¬ q.1=k:=λz=>e (h1.trans z)
   have b:valueAt (q::qs) k=valueAt qs k:=by simp [valueAt,bq,e']
   rw [vj e,b];exact ih
theorem KV.any {kvs:List (κ×V)}{vs:List (κ×Ag)}(r:KV kvs vs)(k:κ):(kvs.any λkv=>decide (kv.1=k))=vs.any λkv=>decide (kv.1=k):=by
 unfold KV at r
 induction r with
 |nil=>rfl
 |cons h t ih=>rw [cK,cK,ih,h.1]
theorem KV.repl {kvs:List (κ×V)}{vs:List (κ×Ag)}(r:KV kvs vs)(k:κ){y:V}{u:Ag}(ry:xx y u) :
  KV (kvs.map λkv=>if kv.1=k then (kv.1,y) else kv) (vs.map λkv=>if kv.1=k then (kv.1,u) else kv):=by
 unfold KV at r ⊢
 induction r with
 |nil=>exact .nil
 |@cons p q ps qs h t ih =>
  rw [aw,aw]
  refine .cons ?_ ih
  obtain ⟨h1,h2⟩:=h
  by_cases e:p.1=k
  ·rw [av e,av (h1.symm.trans e)];exact ⟨h1,ry⟩
  ·rw [ao e,ao (λz=>e (h1.trans z))];exact ⟨h1,h2⟩
theorem KV.put {kvs:List (κ×V)}{vs:List (κ×Ag)}(r:KV kvs vs)(k:κ){y:V}{u:Ag}(ry:xx y u):KV (zu kvs k y) (stored vs k u):=by
 unfold zu stored
 rw [r.any k]
 by_cases e:(vs.any λkv=>decide (kv.1=k))=true
 ·rw [av e,av e];exact r.repl k ry
 ·rw [ao e,ao e];exact Paired.snoc r ⟨rfl,ry⟩
theorem KV.drop {kvs:List (κ×V)}{vs:List (κ×Ag)}(r:KV kvs vs)(k:κ):KV (Zd kvs k) (without vs k):=by
 unfold KV at r ⊢
 unfold Zd without
 induction r with
 |nil=>exact .nil
 |@cons p q ps qs h t ih =>
  obtain ⟨h1,h2⟩:=h
  rw [List.filter_cons,List.filter_cons]
  by_cases e:p.1=k
  ·have a:¬ decide (p.1≠k)=true:=by simp [e]
   have b:¬ decide (q.1≠k)=true:=by simp [h1.symm.trans e]
   rw [ao a,ao b];exact ih
  ·have e':¬ q.1=k:=λz=>e (h1.trans z)
   have a:decide (p.1≠k)=true:=by simp [e]
   have b:decide (q.1≠k)=true:=by simp [e']
   rw [av a,av b];exact .cons ⟨h1,h2⟩ ih
theorem KV.length {kvs:List (κ×V)}{vs:List (κ×Ag)}(r:KV kvs vs):kvs.length=vs.length:=aM r
theorem J0 (kvs:List (κ×V))(k:κ):(Zd kvs k).length≤kvs.length:=List.length_filter_le _ _
end
theorem yb {P:Ac}{w:Ah}{k:Key}{u:Ag}(r:xx (kV k) u):(xj P w).is k u=true:=by
 cases k with
 |inl i=>obtain ⟨t,e⟩:=(show ∃t,u=Value.int i t from r);subst e;exact Y7 P w i t
 |inr x=>obtain ⟨t,e⟩:=(show ∃t,u=Value.str x t from r);subst e;exact Y5 P w x t
theorem W9 {P:Ac}{w:Ah}:∀ {ks:List Key} {us:List Ag},Vals (ks.map kV) us→ItemsAre (xj P w) ks us
 |[],_,r=>by rw [bQ] at r;cases r;exact .nil
 |k::ks,_,r=>by
  rw [aw] at r
  cases r with
  |cons h t=>exact .cons (yb h) (W9 t)
abbrev KT (H:Hp):List (List Key×V)→List (List Key×Aj×Ag)→Prop:=Paired λp q=>p.1=q.1∧H q.2.1=some (.tup (p.1.map kV))∧xx p.2 q.2.2
theorem KT.val {H:Hp}{kvs:List (List Key×V)}{xs:List (List Key×Aj×Ag)}(r:KT H kvs xs)(k:List Key):RelO (xg kvs k) ((atKey xs k).map (·.2)):=by
 induction r with
 |nil=>exact True.intro
 |@cons p q ps qs h t ih =>
  obtain ⟨h1,_,h2⟩:=h
  by_cases e:p.1=k
  ·have e':q.1=k:=h1.symm.trans e
   have b:atKey (q::qs) k=some q.2:=by simp [atKey,bq,e']
   rw [vk e,b];exact h2
  ·have e':¬ q.1=k:=λz=>e (h1.trans z)
   have b:atKey (q::qs) k=atKey qs k:=by simp [atKey,bq,e']
   rw [vj e,b];exact ih
theorem KT.repl {H:Hp}{kvs:List (List Key×V)}{xs:List (List Key×Aj×Ag)}(r:KT H kvs xs)(k:List Key){y:V}{u:Ag}(ry:xx y u) :
  KT H (kvs.map λkv=>if kv.1=k then (kv.1,y) else kv) (xs.map (putAt k u)):=by
 induction r with
 |nil=>exact .nil
 |@cons p q ps qs h t ih =>
  rw [aw,aw]
  refine .cons ?_ ih
  obtain ⟨h1,h2,h3⟩:=h
  unfold putAt
  by_cases e:p.1=k
  ·rw [av e,av (h1.symm.trans e)];exact ⟨h1,h2,ry⟩
  ·rw [ao e,ao (λz=>e (h1.trans z))];exact ⟨h1,h2,h3⟩
theorem KT.put {H:Hp}{kvs:List (List Key×V)}{xs:List (List Key×Aj×Ag)}(r:KT H kvs xs)(k:List Key){b:Aj}{y:V}{u:Ag}(hb:H b=some (.tup (k.map kV)))(ry:xx y u) :
  KT H (zu kvs k y) (storedH xs k b u):=by
 have e:(kvs.any λkv=>decide (kv.1=k))=(atKey xs k).isSome:=by
  rw [Qm,(r.val k).isSome_eq,cH]
 unfold zu storedH
 rw [e]
 by_cases q:(atKey xs k).isSome=true
 ·rw [av q,av q];exact r.repl k ry
 ·rw [ao q,ao q];exact Paired.snoc r ⟨rfl,hb,ry⟩
theorem KT.keeps {H H':Hp}{kvs:List (List Key×V)}{xs:List (List Key×Aj×Ag)}(r:KT H kvs xs)(ht:∀b ys,H b=some (.tup ys)→H' b=some (.tup ys)):KT H' kvs xs :=
 Paired.mapP r λ_ _ z=>⟨z.1,ht _ _ z.2.1,z.2.2⟩
section
variable {P:Ac}{w:Ah}{H:Hp}{h:Heap}{a:Aj}
theorem rd_of {u:HO}(ok:HOk P w H h)(e:Rd H a u):ObjOk P w H h a u:=e.ok ok
theorem Q5 {kvs:List (Key×V)}(ok:HOk P w H h)(e:Rd H a (.dK kvs)):kvs.length≤sizeLine∧(a==sysModules)=false∧∃vs,KV kvs vs∧h.DictOf (xj P w) a vs :=
 show ObjOk P w H h a (.dK kvs) from rd_of ok e
theorem Zb {kvs:List (Key×V)}(ok:HOk P w H h)(e:H a=some (.dK kvs)):kvs.length≤sizeLine∧(a==sysModules)=false∧∃vs,KV kvs vs∧h.DictOf (xj P w) a vs:=Q5 ok (.inl e)
theorem jf {ks:List Key}(ok:HOk P w H h)(e:H a=some (.tup (ks.map kV))):(tupleKind (xj P w)).is h ks a:=by
 obtain ⟨_,its,r,o,h1,h2,n,h3⟩:=(show ObjOk P w H h a (.tup (ks.map kV)) from ok a _ e)
 exact ⟨o,its.toArray,n,h1,h2,h3,by simpa using W9 r⟩
theorem Q6 {kvs:List (List Key×V)}(ok:HOk P w H h)(e:Rd H a (.dT kvs)):kvs.length≤sizeLine∧(a==sysModules)=false ∧
  ∃xs,KT H kvs xs∧h.DictOfH (tupleKind (xj P w)) a xs:=by
 obtain ⟨z,y,xs,r,o,es,ep,h1,h2,h3,h4,h5⟩:=(show ObjOk P w H h a (.dT kvs) from rd_of ok e)
 refine ⟨z,y,xs,r,o,es,ep,h1,h2,h3,h4,λx hx=>?_,h5⟩
 have all:∀ {l:List (List Key×V)} {m:List (List Key×Aj×Ag)},KT H l m→∀x∈m,(tupleKind (xj P w)).is h x.1 x.2.1:=by
  intro l m q
  induction q with
  |nil=>intro x hx;exact nomatch hx
  |@cons p q ps qs hq t ih =>
   intro x hx
   rcases ap.mp hx with e|hx
   ·subst e
    exact jf ok (by rw [←hq.1];exact hq.2.1)
   ·exact ih x hx
 exact all r x hx
theorem dt_of {kvs:List (List Key×V)}(ok:HOk P w H h)(e:H a=some (.dT kvs)):kvs.length≤sizeLine∧(a==sysModules)=false ∧
  ∃xs,KT H kvs xs∧h.DictOfH (tupleKind (xj P w)) a xs:=Q6 ok (.inl e)
end
def DGet (H:Hp)(a:Aj)(y:V)(r:Option V):Prop :=
 (∃kvs k,Rd H a (.dK kvs)∧y=kV k∧r=xg kvs k)∨∃kvs k b,Rd H a (.dT kvs)∧y=.ref b∧H b=some (.tup (k.map kV))∧r=xg kvs k
def DPut (H:Hp)(a:Aj)(y v:V)(H':Hp):Prop :=
 (∃kvs k,H a=some (.dK kvs)∧y=kV k∧kvs.length<sizeLine∧H'=upd H a (.dK (zu kvs k v))) ∨
 ∃kvs k b,H a=some (.dT kvs)∧y=.ref b∧H b=some (.tup (k.map kV))∧kvs.length<sizeLine∧H'=upd H a (.dT (zu kvs k v))
theorem DGet.k {H:Hp}{a:Aj}{kvs:List (Key×V)}{k:Key}(e:H a=some (.dK kvs)):DGet H a (kV k) (xg kvs k):=.inl ⟨kvs,k,.inl e,rfl,rfl⟩
theorem DGet.t {H:Hp}{a b:Aj}{kvs:List (List Key×V)}{k:List Key}(e:H a=some (.dT kvs))(eb:H b=some (.tup (k.map kV))):DGet H a (.ref b) (xg kvs k):=.inr ⟨kvs,k,b,.inl e,rfl,eb,rfl⟩
theorem DPut.k {H:Hp}{a:Aj}{kvs:List (Key×V)}{k:Key}{v:V}(e:H a=some (.dK kvs))(hl:kvs.length<sizeLine):DPut H a (kV k) v (upd H a (.dK (zu kvs k v))):=.inl ⟨kvs,k,e,rfl,hl,rfl⟩
theorem DPut.t {H:Hp}{a b:Aj}{kvs:List (List Key×V)}{k:List Key}{v:V}(e:H a=some (.dT kvs))(eb:H b=some (.tup (k.map kV)))(hl:kvs.length<sizeLine) :
  DPut H a (.ref b) v (upd H a (.dT (zu kvs k v))):=.inr ⟨kvs,k,b,e,rfl,eb,hl,rfl⟩
section
variable {X:Cx}{pins:List (Aj×Obj)}{σ:St}{H:Hp}{s:Ab}{a:Aj}{y v:V}{u r:Ag}{o:Option V}{A:Ae}{E:Ag→Ab→Prop}
theorem Inv.big (I:Inv X pins σ H s):sysModules<s.heap.objs.size:=by
 have h:mainGlobals<s.heap.objs.size:=(I.mod.glob.keeps I.bk).lt
 exact ba (by decide) h
theorem qzh {Q:Ag→Ab→Prop}(hu:A.units+1<cLine)(I:Inv X pins σ H s)(g:DGet H a y (some v))(ry:xx y u)(h:∀w' s',Inv X pins σ H s'→xx v w'→Q w' s') :
  wpAny (model X.prog X.w) A (getItem (.ref a) u) Q E s:=by
 rcases g with ⟨kvs,k,e,ey,l⟩|⟨kvs,k,b,e,ey,eb,l⟩
 ·subst ey
  obtain ⟨z,hd,vs,rel,dd⟩:=Q5 I.hok e
  obtain ⟨w',hw,rw'⟩:=RelO.some_of (v:=v) (o:=valueAt vs k) (by rw [l];exact rel.val k)
  exact wpAny_getItem_of (yb ry) dd.mapOf hw (h w' _ (I.tok _) rw')
 ·subst ey
  cases (show u=Value.ref b from ry)
  obtain ⟨z,hd,xs,rel,dd⟩:=Q6 I.hok e
  obtain ⟨w',hw,rw'⟩:=RelO.some_of (v:=v) (o:=(atKey xs k).map (·.2)) (by rw [l];exact rel.val k)
  obtain ⟨p,hp,hp2⟩:=Option.map_eq_some_iff.mp hw
  refine wpAny_getItem_heap (bC hu) (jf I.hok eb) dd hp ?_
  rw [hp2]
  exact h w' _ (I.tok _) rw'
theorem d_in {Q:Ag→Ab→Prop}(hu:A.units+1<cLine)(I:Inv X pins σ H s)(g:DGet H a y o)(ry:xx y u)(h:∀s',Inv X pins σ H s'→Q (.bool o.isSome) s') :
  wpAny (model X.prog X.w) A (compareOp .In u (.ref a)) Q E s:=by
 rcases g with ⟨kvs,k,e,ey,l⟩|⟨kvs,k,b,e,ey,eb,l⟩
 ·subst ey
  obtain ⟨z,hd,vs,rel,dd⟩:=Q5 I.hok e
  refine wpAny_in_of (yb ry) hd dd.mapOf ?_
  rw [← (rel.val k).isSome_eq,←l]
  exact h _ (I.tok _)
 ·subst ey
  cases (show u=Value.ref b from ry)
  obtain ⟨z,hd,xs,rel,dd⟩:=Q6 I.hok e
  refine wpAny_in_heap (bC hu) (jf I.hok eb) hd dd ?_
  have q:=(rel.val k).isSome_eq
  rw [cH] at q
  rw [←q,←l]
  exact h _ (I.tok _)
theorem qjh {Q:Ag→Ab→Prop}(hu:A.units+1<cLine)(I:Inv X pins σ H s)(g:DGet H a y o)(ry:xx y u)(h:∀s',Inv X pins σ H s'→Q (.bool (!o.isSome)) s') :
  wpAny (model X.prog X.w) A (compareOp .NotIn u (.ref a)) Q E s:=by
 rcases g with ⟨kvs,k,e,ey,l⟩|⟨kvs,k,b,e,ey,eb,l⟩
 ·subst ey
  obtain ⟨z,hd,vs,rel,dd⟩:=Q5 I.hok e
  refine wpAny_notIn_of (yb ry) hd dd.mapOf ?_
  rw [← (rel.val k).isSome_eq,←l]
  exact h _ (I.tok _)
 ·subst ey
  cases (show u=Value.ref b from ry)
  obtain ⟨z,hd,xs,rel,dd⟩:=Q6 I.hok e
  refine wpAny_notIn_heap (bC hu) (jf I.hok eb) hd dd ?_
  have q:=(rel.val k).isSome_eq
  rw [cH] at q
  rw [←q,←l]
  exact h _ (I.tok _)
theorem jj {h':Heap}{t':Nat}{ob:HO}(I:Inv X pins σ H s)(mu:Mut (H a))(hs:Heap.SameBut a s.heap h')(he:∃q,h'.get? a=some q)(new:ObjOk X.prog X.w (upd H a ob) h' a ob) :
  Inv X pins σ (upd H a ob) { s with heap:=h',toks:=t' } :=
 I.write (x:=a) (e:=a) mu (.inl rfl) (λb q hb z=>(hs.2 b hb).trans z) he new
theorem Ww {P:Ac}{w:Ah}{H':Hp}{h':Heap}{kvs:List (Key×V)}{vs:List (Key×Ag)}(z:kvs.length≤sizeLine)(hd:(a==sysModules)=false)(rel:KV kvs vs)(dd:h'.DictOf (xj P w) a vs) :
  ObjOk P w H' h' a (.dK kvs):=⟨z,hd,vs,rel,dd⟩
theorem qxk {H':Hp}{Q:Unit→Ab→Prop}(hu:A.units+1<cLine)(I:Inv X pins σ H s)(g:DPut H a y v H')(ry:xx y u)(rv:xx v r)(h:∀s',Inv X pins σ H' s'→Q () s') :
  wpAny (model X.prog X.w) A (setItem (.ref a) u r) Q E s:=by
 rcases g with ⟨kvs,k,e,ey,l,eH⟩|⟨kvs,k,b,e,ey,eb,l,eH⟩
 ·subst ey eH
  obtain ⟨z,hd,vs,rel,dd⟩:=Zb I.hok e
  have hz:vs.length≤sizeLine:=by rw [←rel.length];exact z
  have hl:(zu kvs k v).length≤sizeLine:=by have:=z0 kvs k v;lia
  refine wpAny_setItem_pairs (hsz:=hz) (yb ry) dd λh' dd' hs=>h _ ?_
  have he:∃q,h'.get? a=some q:=let ⟨q,_,_,hq,_⟩:=dd';⟨q,hq⟩
  exact jj I (by rw [e];exact True.intro) hs he (Ww hl hd (rel.put k rv) dd')
 ·subst ey eH
  cases (show u=Value.ref b from ry)
  obtain ⟨z,hd,xs,rel,dd⟩:=dt_of I.hok e
  have hz:xs.length≤sizeLine:=by rw [←aM rel];exact z
  have hl:(zu kvs k v).length≤sizeLine:=by have:=z0 kvs k v;lia
  refine wpAny_setItem_heap (hsz:=hz) (bC hu) (jf I.hok eb) dd λh' dd' hs=>h _ ?_
  obtain ⟨q,es,ep,hq,h2,h3,h4,_,h5⟩:=dd'
  refine jj I (by rw [e];exact True.intro) hs ⟨q,hq⟩ ⟨hl,hd,_,(rel.put k eb rv).keeps λc ys ec=>?_,q,es,ep,hq,h2,h3,h4,h5⟩
  rw [q8 (ne_of ec e (λz=>nomatch z))]
  exact ec
end
section
variable {X:Cx}{pins:List (Aj×Obj)}{σ:St}{H:Hp}{s:Ab}{a:Aj}{kvs:List (Key×V)}{k:Key}{u:Ag}{A:Ae}{E:Ag→Ab→Prop}
theorem qxz {Q:Unit→Ab→Prop}(I:Inv X pins σ H s)(e:H a=some (.dK kvs))(ry:xx (kV k) u)(l:(xg kvs k).isSome=true)(h:∀s',Inv X pins σ (upd H a (.dK (Zd kvs k))) s'→Q () s') :
  wpAny (model X.prog X.w) A (delItem (.ref a) u) Q E s:=by
 obtain ⟨z,hd,vs,rel,dd⟩:=Zb I.hok e
 refine wpAny_delItem_slot dd.typeIs (by decide) cG
  (cn cG dd.typeIs PySem.F.entry_dict_delitem (PySem.F.args_dict_delitem_2 _ _) (meets_dict_delitem_pairs (xj X.prog X.w) a (yb ry)) ⟨vs,dd,by rw [←rel.length];exact z,by rw [← (rel.val k).isSome_eq];exact l,λh' dd' hs=>h _ ?_⟩)
 have he:∃q,h'.get? a=some q:=let ⟨q,_,_,hq,_⟩:=dd';⟨q,hq⟩
 exact jj I (by rw [e];exact True.intro) hs he (Ww (aZ (J0 kvs k) z) hd (rel.drop k) dd')
end
def NoSl (i:Expr):Prop:=∀ov iv,subscripted i false ov iv=operate [ov,iv] (getItem ov iv)
theorem qjc {prog:Ac}{w:Ah}{A:Ae}{E:Ag→Ab→Prop}{s:Ab}{env:Env}{value slice:Expr}{pos:Pos}{T id:String}{Q:Ag→Ab→Prop}
  (hl:typeLookup (.type T) "__getitem__" = pure (some (.builtin id))) (hs:NoSl slice)
  (h:wpAny (model prog w) A (eval value env) (λo s₁=>wpAny (model prog w) A (eval slice env) (λi s₂=>s₂.TypeIs o T∧wpAny (model prog w) A (getItem o i) Q E s₂) E s₁) E s) :
  wpAny (model prog w) A (eval (.Subscript value slice pos) env) Q E s:=by
 refine Subscript_ (aF h (λo s₁ h₁=>aF h₁ (λi s₂ h₂=>?_) λ_ _ x=>x) λ_ _ x=>x)
 obtain ⟨hT,h₂⟩:=h₂
 unfold subscriptTail
 refine aa ?_
 rw [getitemInPython_of_ne hT.not_modules]
 refine aa (wpAny_specialOf hT hl ?_)
 have fin:wpAny (model prog w) A (subscripted slice false o i) (λr s₃=>wpAny (model prog w) A (letTemporaryGo value o r >>= λ_=>pure r) Q E s₃) E s₂:=by
  rw [hs o i]
  exact wpAny_operating (aF h₂ (λr s₃ h₃=>aa (wpAny_letTemporaryGo (ag h₃))) λ_ _ x=>x)
 first
  |exact ag (aa fin)
  |exact aa (ag (aa fin))
  |exact aa fin
theorem Y9 {X:Cx}{pins:List (Aj×Obj)}{σ:St}{H:Hp}{s:Ab}{a:Aj}{y:V}{o:Option V}(I:Inv X pins σ H s)(g:DGet H a y o):s.TypeIs (.ref a) "dict" := by
 rcases g with ⟨kvs,k,e,_,_⟩|⟨kvs,k,b,e,_,_,_⟩
 ·obtain ⟨_,_,vs,_,dd⟩:=Q5 I.hok e
  exact dd.typeIs
 ·obtain ⟨_,_,xs,_,dd⟩:=Q6 I.hok e
  exact dd.typeIs
def tDGet (td ty:TE):TE:=λσ H Q=>td σ H λx H1=>ty σ H1 λy H2=>∃a v,x=.ref a∧DGet H2 a y (some v)∧Q v H2
def tDIn (ty td:TE):TE:=λσ H Q=>ty σ H λy H1=>td σ H1 λx H2=>∃a o,x=.ref a∧DGet H2 a y o∧Q (.bl o.isSome) H2
def qk4 (ty td:TE):TE:=λσ H Q=>ty σ H λy H1=>td σ H1 λx H2=>∃a o,x=.ref a∧DGet H2 a y o∧Q (.bl (!o.isSome)) H2
def sDPut (td ty tv:TE):TS:=λD σ H=>tv σ H λv H1=>td σ H1 λx H2=>ty σ H2 λy H3=>∃a H4,x=.ref a∧DPut H3 a y v H4∧D.nx σ H4
def sDDel (td ty:TE):TS:=λD σ H=>td σ H λx H1=>ty σ H1 λy H2=>∃a kvs k,x=.ref a∧H2 a=some (.dK kvs)∧y=kV k∧(xg kvs k).isSome=true∧D.nx σ (upd H2 a (.dK (Zd kvs k)))
section
variable {X:Cx}{o i e value:Expr}{pos pos' tpos:Pos}{td ty tv:TE}
theorem qwp (hu:X.A.units+1<cLine)(ho:PE X o td)(hi:PE X i ty)(hs:NoSl i):PE X (.Subscript o i pos) (tDGet td ty):=by
 intro pins s σ H Q I h
 refine qjc PySem.F.slot_dict_getitem.lookup hs (thn (ho pins s σ H _ I h) λu s1 ⟨x,H1,I1,rx,q1⟩=>thn (hi pins s1 σ H1 _ I1 q1) λiv s2 ⟨y,H2,I2,ry,a,v,ex,g,q2⟩=>?_)
 subst ex
 obtain rfl:u=Value.ref a:=rx
 exact ⟨Y9 I2 g,qzh hu I2 g ry λw' s3 I3 rw'=>⟨v,H2,I3,rw',q2⟩⟩
theorem pc_din (hu:X.A.units+1<cLine)(hi:PE X i ty)(ho:PE X o td):PC X .In i o (tDIn ty td):=by
 intro pins s σ H Q I h
 refine thn (hi pins s σ H _ I h) λiv s1 ⟨y,H1,I1,ry,q1⟩=>thn (ho pins s1 σ H1 _ I1 q1) λu s2 ⟨x,H2,I2,rx,a,ov,ex,g,q2⟩=>?_
 subst ex
 obtain rfl:u=Value.ref a:=rx
 exact d_in hu I2 g ry λs3 I3=>⟨.bl ov.isSome,H2,I3,rfl,q2⟩
theorem Zx (hu:X.A.units+1<cLine)(hi:PE X i ty)(ho:PE X o td):PC X .NotIn i o (qk4 ty td):=by
 intro pins s σ H Q I h
 refine thn (hi pins s σ H _ I h) λiv s1 ⟨y,H1,I1,ry,q1⟩=>thn (ho pins s1 σ H1 _ I1 q1) λu s2 ⟨x,H2,I2,rx,a,ov,ex,g,q2⟩=>?_
 subst ex
 obtain rfl:u=Value.ref a:=rx
 exact qjh hu I2 g ry λs3 I3=>⟨.bl (!ov.isSome),H2,I3,rfl,q2⟩
theorem qw2 (hu:X.A.units+1<cLine)(ho:PE X o td)(hi:PE X i ty)(hv:PE X value tv)(hs:swapsWith value (some (.Subscript o i pos')) pos.line X.env=pure false) :
  PS X (.Assign [.Subscript o i pos'] value pos) (sDPut td ty tv):=by
 intro pins s σ H D I h
 refine wpAny_Assign_Subscript (thn (hv pins s σ H _ I h) λr s1 ⟨v,H1,I1,rv,q1⟩=>thn (ho pins s1 σ H1 _ I1 q1) λu s2 ⟨x,H2,I2,rx,q2⟩=>thn (hi pins s2 σ H2 _ I2 q2) λiv s3 ⟨y,H3,I3,ry,a,H4,ex,g,q3⟩=>?_) hs
 subst ex
 obtain rfl:u=Value.ref a:=rx
 exact qxk hu I3 g ry rv λs4 I4=>⟨σ,H4,I4,q3⟩
theorem qjv (ho:PE X o td)(hi:PE X i ty):PS X (.Delete [.Subscript o i tpos] pos) (sDDel td ty):=by
 intro pins s σ H D I h
 refine wpAny_Delete (wpAny_deleteEach_cons (wpAny_delete_Subscript (thn (ho pins s σ H _ I h) λu s1 ⟨x,H1,I1,rx,q1⟩=>thn (hi pins s1 σ H1 _ I1 q1) λiv s2 ⟨y,H2,I2,ry,a,kvs,k,ex,e,ey,l,q2⟩=>?_)))
 subst ex ey
 obtain rfl:u=Value.ref a:=rx
 exact qxz I2 e ry l λs3 I3=>wpAny_deleteEach_nil ⟨σ,_,I3,q2⟩
end
theorem Jz {P:Ac}{w:Ah}{H:Hp}(h:Heap)(hb:sysModules<h.objs.size):ObjOk P w H (h.push { cls:=.type "dict",data:=.dict #[] }) h.objs.size (.dK []) :=
 ⟨aJ _,aA.mpr (aT (al hb)),[],.nil,Heap.DictOf.new h⟩
theorem Jm {P:Ac}{w:Ah}{H:Hp}(h:Heap)(hb:sysModules<h.objs.size):ObjOk P w H (h.push { cls:=.type "dict",data:=.dict #[] }) h.objs.size (.dT []) :=
 ⟨aJ _,aA.mpr (aT (al hb)),[],.nil,_,#[],0,ai _ rfl,⟨rfl,rfl,rfl⟩,rfl,rfl,bU⟩
def tDNewK:TE:=λ_ H Q=>∀p,H p=none→Q (.ref p) (upd H p (.dK []))
def tDNewT:TE:=λ_ H Q=>∀p,H p=none→Q (.ref p) (upd H p (.dT []))
section
variable {X:Cx}{pos:Pos}
theorem yz:PE X (.Dict [] [] pos) tDNewK:=λpins s σ H Q I h =>
 wpAny_Dict_empty ⟨.ref s.heap.objs.size,_,I.laid (a:=s.heap.objs.size) (o:=.dK []) (t':=s.toks) (λ_ _ q=>ac _ q) (af _) (Jz s.heap I.big),rfl,h _ (I.hok.fresh (af _))⟩
theorem qkz:PE X (.Dict [] [] pos) tDNewT:=λpins s σ H Q I h =>
 wpAny_Dict_empty ⟨.ref s.heap.objs.size,_,I.laid (a:=s.heap.objs.size) (o:=.dT []) (t':=s.toks) (λ_ _ q=>ac _ q) (af _) (Jm s.heap I.big),rfl,h _ (I.hok.fresh (af _))⟩
end
end L2
namespace L2
open PySem PySem.Spec PyProof.Rows
def qqb:List (TE×TE)→St→Hp→(List (V×V)→Hp→Prop)→Prop
 |[],_,H,Q=>Q [] H
 |(tk,tv)::r,σ,H,Q=>tk σ H λx H1=>tv σ H1 λy H2=>qqb r σ H2 λps H3=>Q ((x,y)::ps) H3
abbrev VV:List (V×V)→List (Ag×Ag)→Prop:=Paired λp q=>xx p.1 q.1∧xx p.2 q.2
def PPs (X:Cx)(pos:Pos)(keys:List (Option Expr))(values:List Expr)(trs:List (TE×TE)):Prop :=
 ∀(pins:List (Aj×Obj)) (s:Ab) (σ:St) (H:Hp) (Q:List (V×V)→Hp→Prop),Inv X pins σ H s→qqb trs σ H Q →
  wpAny (model X.prog X.w) X.A (evalPairs (pairTrees keys values X.env pos)) (λvs s'=>∃ps H',Inv X pins σ H' s'∧VV ps vs∧Q ps H') X.xe s
theorem qw1 {X:Cx}{pos:Pos}:PPs X pos [] [] []:=λpins s σ H Q I h=>pairTrees_nil_walk ⟨[],H,I,.nil,h⟩
theorem Jn {X:Cx}{pos:Pos}{k v:Expr}{ks:List (Option Expr)}{vs:List Expr}{tk tv:TE}{trs:List (TE×TE)}(hk:PE X k tk)(hv:PE X v tv)(hr:PPs X pos ks vs trs) :
  PPs X pos (some k::ks) (v::vs) ((tk,tv)::trs):=λpins s σ H Q I h =>
 pairTrees_cons_walk (thn (hk pins s σ H _ I h) λu s1 ⟨x,H1,I1,rx,q1⟩=>thn (hv pins s1 σ H1 _ I1 q1) λw2 s2 ⟨y,H2,I2,ry,q2⟩ =>
  thn (hr pins s2 σ H2 _ I2 q2) λws s3 ⟨ps,H3,I3,rel,q3⟩=>⟨(x,y)::ps,H3,I3,.cons ⟨rx,ry⟩ rel,q3⟩)
def Qs (kvs more:List (Key×V)):List (Key×V):=more.foldl (λacc kv=>zu acc kv.1 kv.2) kvs
theorem KV.merge:∀ {more:List (Key×V)} {rs:List (Key×Ag)} {kvs:List (Key×V)} {vs:List (Key×Ag)},KV more rs→KV kvs vs→KV (Qs kvs more) (merged vs rs):=by
 intro more rs kvs vs r
 unfold KV at r
 induction r generalizing kvs vs with
 |nil=>intro q;exact q
 |@cons p q ps qs h t ih =>
  intro r0
  have e:KV (zu kvs p.1 p.2) (stored vs q.1 q.2):=by
   have:=r0.put p.1 h.2
   rw [←h.1];exact this
  exact ih e
theorem jb:∀(more kvs:List (Key×V)),(Qs kvs more).length≤kvs.length+more.length
 |[],kvs=>by show kvs.length≤kvs.length+0;lia
 |p::r,kvs=>by
  have h1:=jb r (zu kvs p.1 p.2)
  have h2:=z0 kvs p.1 p.2
  show (Qs (zu kvs p.1 p.2) r).length≤_
  rw [aN];lia
theorem Q4 {P:Ac}{w:Ah}:∀ {kvs:List (Key×V)} {ws:List (Ag×Ag)},VV (kvs.map λkv=>(kV kv.1,kv.2)) ws→∃rs,Carries (xj P w) ws rs∧KV kvs rs
 |[],_,r=>by rw [bQ] at r;cases r;exact ⟨[],True.intro,.nil⟩
 |p::kvs,_,r=>by
  rw [aw] at r
  cases r with
  |@cons a b as bs h t =>
   obtain ⟨rs,c,q⟩:=Q4 (P:=P) (w:=w) t
   obtain ⟨b1,b2⟩:=b
   exact ⟨(p.1,b2)::rs,⟨yb h.1,rfl,c⟩,.cons ⟨rfl,h.2⟩ q⟩
def tDisp (trs:List (TE×TE)):TE:=λσ H Q=>∀p,H p=none→qqb trs σ (upd H p (.dK [])) λps H2=>H2 p=some (.dK [])∧∃kvs:List (Key×V),ps=kvs.map (λkv=>(kV kv.1,kv.2))∧kvs.length≤15∧Q (.ref p) (upd H2 p (.dK (Qs [] kvs)))
theorem qw5 {X:Cx}{pos:Pos}{keys:List (Option Expr)}{values:List Expr}{trs:List (TE×TE)}(h:PPs X pos keys values trs)(hall:keys.all (·.isSome)=true)(hl:keys.length=values.length)(h0:keys≠[])
  (h15:keys.length≤15):PE X (.Dict keys values pos) (tDisp trs):=by
 intro pins s σ H Q I q
 have hn:=I.hok.fresh (af s.heap.objs.size)
 have I1:=I.laid (a:=s.heap.objs.size) (o:=.dK []) (h':=s.heap.push { cls:=.type "dict",data:=.dict #[] }) (t':=s.toks) (λ_ _ q=>ac _ q) (af _) (Jz s.heap I.big)
 refine wpAny_Dict_walk (knd:=xj X.prog X.w) hall hl h0 h15 (thn (h pins _ σ _ _ I1 (q _ hn)) λws s2 ⟨ps,H2,I2,rel,e,kvs,ep,lk,q2⟩=>?_)
 subst ep
 obtain ⟨rs,c,rk⟩:=Q4 (P:=X.prog) (w:=X.w) rel
 obtain ⟨z,hd,vs0,r0,dd⟩:=Zb I2.hok e
 cases r0
 refine ⟨rs,c,dd,λh' dd' hs=>⟨.ref s.heap.objs.size,_,?_,rfl,q2⟩⟩
 have hz:(Qs [] kvs).length≤sizeLine:=by
  have h1:=jb kvs []
  rw [cj] at h1
  rw [sizeLine_eq];lia
 have he:∃q,h'.get? s.heap.objs.size=some q:=let ⟨q,_,_,hq,_⟩:=dd';⟨q,hq⟩
 exact jj I2 (by rw [e];exact True.intro) hs he (Ww hz hd (rk.merge .nil) dd')
structure M1 (X:Cx)(o:Expr)(m:Str)(apos:Pos)(e:Expr)(cpos:Pos):Prop where
 base:attributeBase o m X.env (eval o X.env)=eval o X.env
 few:((backTo cpos (starEach [e] X.env)).all (λx=>!x.1)&&(backToKw cpos (keywordEach [] X.env)).all (λx=>x.1.isSome)
  && decide (([e]:List Expr).length+([]:List Keyword).length+(if ([]:List Keyword).isEmpty then 0 else 1)<30))=true
 line:(apos.endLine==cpos.line)=true
 trees:backTo cpos (starEach [e] X.env)=[(false,eval e X.env)]
structure M2 (X:Cx)(o:Expr)(m:Str)(apos:Pos)(e f:Expr)(cpos:Pos):Prop where
 base:attributeBase o m X.env (eval o X.env)=eval o X.env
 few:((backTo cpos (starEach [e,f] X.env)).all (λx=>!x.1)&&(backToKw cpos (keywordEach [] X.env)).all (λx=>x.1.isSome)
  && decide (([e,f]:List Expr).length+([]:List Keyword).length+(if ([]:List Keyword).isEmpty then 0 else 1)<30))=true
 line:(apos.endLine==cpos.line)=true
 trees:backTo cpos (starEach [e,f] X.env)=[(false,eval e X.env),(false,eval f X.env)]
def IsD (H:Hp)(a:Aj):Prop:=(∃kvs,Rd H a (.dK kvs))∨∃kvs,Rd H a (.dT kvs)
theorem qz6 {X:Cx}{pins:List (Aj×Obj)}{σ:St}{H:Hp}{s:Ab}{a:Aj}(I:Inv X pins σ H s)(d:IsD H a) :
  s.TypeIs (.ref a) "dict" ∧ (∀b,Value.ref a=.ref b→∃ob,s.heap.get? b=some ob∧ob.dict=none)∧(a==sysModules)=false:=by
 rcases d with ⟨kvs,e⟩|⟨kvs,e⟩
 ·obtain ⟨_,hd,vs,_,dd⟩:=Q5 I.hok e
  refine ⟨dd.typeIs,λb q=>?_,hd⟩
  cases q
  obtain ⟨ob,_,_,h1,h2,_⟩:=dd
  exact ⟨ob,h1,h2.2.1⟩
 ·obtain ⟨_,hd,xs,_,dd⟩:=Q6 I.hok e
  refine ⟨dd.typeIs,λb q=>?_,hd⟩
  cases q
  obtain ⟨ob,_,_,h1,h2,_⟩:=dd
  exact ⟨ob,h1,h2.2.1⟩
section
variable {X:Cx}{pins:List (Aj×Obj)}{σ:St}{H:Hp}{s:Ab}{a:Aj}{y d:V}{u r:Ag}{o:Option V}{A:Ae}{E:Ag→Ab→Prop}
theorem d_get1 {Q:Ag→Ab→Prop}(hu:A.units+1<cLine)(I:Inv X pins σ H s)(g:DGet H a y o)(ry:xx y u)(h:∀w' s',Inv X pins σ H s'→xx (o.getD .non) w'→Q w' s') :
  wpAny (model X.prog X.w) A (call (.builtin "dict.get") [.ref a,u]) Q E s:=by
 rcases g with ⟨kvs,k,e,ey,l⟩|⟨kvs,k,b,e,ey,eb,l⟩
 ·subst ey
  obtain ⟨z,hd,vs,rel,dd⟩:=Q5 I.hok e
  refine cn bX dd.typeIs PySem.F.entry_dict_get (cP _ _) (meets_dict_get (xj X.prog X.w) a (yb ry) hd) ⟨_,dd.mapOf,h _ _ (I.tok _) ?_⟩
  rw [l]
  exact (rel.val k).getD rfl
 ·subst ey
  cases (show u=Value.ref b from ry)
  obtain ⟨z,hd,xs,rel,dd⟩:=Q6 I.hok e
  refine cn bX dd.typeIs PySem.F.entry_dict_get (cP _ _) (meetsH_dict_get (tupleKind (xj X.prog X.w)) a b hd) ⟨bC hu,k,xs,jf I.hok eb,dd,h _ _ (I.tok _) ?_⟩
  rw [l]
  exact (rel.val k).getD rfl
end
def tDGet1 (td ty:TE):TE:=λσ H Q=>td σ H λx H1=>∃a,x=.ref a∧IsD H1 a∧ty σ H1 λy H2=>∃o,DGet H2 a y o∧Q (o.getD .non) H2
section
variable {X:Cx}{o e f:Expr}{apos cpos:Pos}{td ty tx:TE}
theorem qzn (hu:X.A.units+1<cLine)(ho:PE X o td)(he:PE X e ty)(m:M1 X o "get" apos e cpos):PE X (.Call (.Attribute o "get" apos) [e] [] cpos) (tDGet1 td ty):=by
 intro pins s σ H Q I h
 refine wpAny_Call_method m.base m.few m.line cQ bX PySem.F.type_dict_get (thn (ho pins s σ H _ I h) λu s1 ⟨x,H1,I1,rx,a,ex,d,q1⟩=>?_)
 subst ex
 obtain rfl:u=Value.ref a:=rx
 obtain ⟨t1,t2,_⟩:=qz6 I1 d
 refine ⟨t1,t2,?_⟩
 rw [m.trees]
 refine bR rfl (cf (Calls.spliced_cons (thn (he pins s1 σ H1 _ I1 q1) λiv s2 ⟨y,H2,I2,ry,ov,g,q2⟩=>Calls.spliced_nil ?_)))
 exact d_get1 hu I2 g ry λw' s3 I3 rw'=>⟨_,H2,I3,rw',q2⟩
end
section
variable {X:Cx}{pins:List (Aj×Obj)}{σ:St}{H:Hp}{s:Ab}{a:Aj}{kvs:List (Key×V)}{A:Ae}{E:Ag→Ab→Prop}
end
section
variable {X:Cx}{pins:List (Aj×Obj)}{σ:St}{H:Hp}{s:Ab}{a:Aj}{y:V}{u:Ag}{A:Ae}{E:Ag→Ab→Prop}
end
end L2
namespace L2
open PySem PySem.Spec PyProof.Rows PySem.W
def RawD (h:Heap)(d:Aj)(es:Array DictEntry)(ep:Nat):Prop:=∃o,h.get? d=some o∧o.ExactDict∧o.data=.dict es ep
section
variable {prog:Ac}{w:Ah}{A:Ae}{E:Ag→Ab→Prop}{s:Ab}{d:Aj}{es:Array DictEntry}{ep:Nat}
theorem RawD.ty {s:Ab}(x:RawD s.heap d es ep):s.TypeIs (.ref d) "dict" := let ⟨o,ho,hc,_⟩:=x;⟨o,ho,hc.1⟩
theorem RawD.lt {h:Heap}(x:RawD h d es ep):d<h.objs.size:=let ⟨_,ho,_⟩:=x;ae ho
theorem RawD.at {h h':Heap}(x:RawD h d es ep)(k:∀o,h.get? d=some o→h'.get? d=some o):RawD h' d es ep:=let ⟨o,ho,r⟩:=x;⟨o,k o ho,r⟩
theorem qvm {Q:Ag→Ab→Prop}(hd:(d==sysModules)=false)(hm:RawD s.heap d es ep)
  (hQ:Q (.ref s.heap.objs.size) { s with heap:=s.heap.push { cls:=.type "dict_keyiterator",data:=.fields #[.ref d,.int 0 0,.int es.size 0,.int ep 0] } }):wpAny (model prog w) A (pyIter (.ref d)) Q E s:=by
 obtain ⟨o,ho,hc,hdat⟩:=id hm
 (refine wpAny_pyIter_slot hm.ty F.slot_dict_iter (cR F.slot_dict_iter hm.ty F.entry_dict_iter ?_ (F.args_dict_iter_1 _)) ;unfold Builtin.«dict.__iter__» ;refine aa ?_ ;unfold Builtin.Dict.dictSlotNone ;refine aa (wpAny_notOrdered_dict hm.ty ?_))
 (show wpAny _ _ (pure (Value.ref d)) _ _ s ;refine ag ?_ ;show wpAny _ _ (Builtin.Dict.showsAll d >>= _) _ _ s ;unfold Builtin.Dict.showsAll ;rw [ao (by rw [hd];exact aj)])
 (refine aa (ag ?_) ;refine aa (bV ho hdat ?_) ;refine aa (cX ho hdat ?_))
 refine aa (br (ag ⟨_,rfl,"dict_keyiterator",_,⟨_,ai _ rfl,rfl⟩,aR.lookup,?_⟩)) ;simpa [rawInt] using hQ
theorem qz1 {it:Aj}{i:Nat}{e:DictEntry}{Q:Option Ag→Ab→Prop}(hit:s.heap.IsKeyIter it d i es.size ep)(hm:RawD s.heap d es ep)(hx:es[i]?=some e)
  (hQ:∀h',h'.IsKeyIter it d (i+1) es.size ep→Heap.SameBut it s.heap h'→Q (some e.key) { s with heap:=h' }):wpAny (model prog w) A (pyNext (.ref it)) Q E s:=by
 obtain ⟨o,ho,hc,hd⟩:=id hit ;obtain ⟨od,hod,hcd,hdd⟩:=id hm
 (unfold pyNext ;refine aa (wpAny_attempt (bP (name:=Str.ofString "__next__") hit.typeIs aR (cR aR hit.typeIs ci ?_ (ca _)))) ;refine aa (ag ?_) ;refine aa ?_ ;refine aa ?_)
 ((first | refine aa (bb hit.typeIs (ag ?_)) | refine aa (bu hit.typeIs (ag ?_))) ;refine aa (wpAny_fieldsOf ho hd ?_) ;simp only [show Builtin.Dict_items.ownsTuple "dict_keyiterator" = false by decide,Bool.false_eq_true,cY] ;show wpAny _ _ (if (Value.ref d==Value.none)=true then _ else _) _ _ s ;rw [ao (show ¬ ((Value.ref d==Value.none)=true) from aj)] ;refine aa (ag ?_) ;refine aa (bV hod hdd ?_) ;rw [ao (by simp)] ;refine aa (ag ?_) ;refine aa (cX hod hdd ?_) ;rw [ao (by simp)] ;refine ag ?_)
 have hlt:i<es.size:=(cD.mp hx).1 ;have he:es[i]=e:=(cD.mp hx).2
 (simp only [show ¬ ((i:Int)<0) from by lia,cY,bS,aX hlt] ;refine aa ?_ ;(first | refine aa (bb hit.typeIs (ag ?_)) | refine aa (bu hit.typeIs (ag ?_))) ;refine aa (wpAny_isOneOf_keyiter hit.typeIs ?_) ;show wpAny _ _ (setField (.ref it) 1 (rawInt ((i:Int)+1)) >>= _) _ _ s ;refine aa (wpAny_setField ho hd (by simp) ?_))
 have hit':(s.heap.update it (Obj.mapFields (·.setIfInBounds 1 (rawInt ((i:Int)+1))))).IsKeyIter it d (i+1) es.size ep:=⟨_,Heap.get?_update_self _ ho (Obj.isFreed_of_fields (Obj.data_mapFields hd _)),(Obj.cls_mapFields ..).trans hc,by rw [Obj.data_mapFields hd];simp [rawInt]⟩
 (refine aa (cL ?_) ;refine aa (wpAny_isOneOf_keyiter (s:={ s with heap:=s.heap.update it (Obj.mapFields (·.setIfInBounds 1 (rawInt ((i:Int)+1)))) }) hit'.typeIs ?_) ;show wpAny _ _ (pure es[i].key) _ _ _ ;rw [he])
 exact ag (ag ⟨_,rfl,ag (hQ _ hit' (Heap.SameBut.update ..))⟩)
theorem qk6 {it:Aj}{i:Nat}{Q:Option Ag→Ab→Prop}(hh:A.handled=none)(hit:s.heap.IsKeyIter it d i es.size ep)(hm:RawD s.heap d es ep)(hx:es.size≤i)(hQ:∀h',Heap.ExtBut it s.heap h'→Q none { s with heap:=h' }):wpAny (model prog w) A (pyNext (.ref it)) Q E s:=by
 obtain ⟨o,ho,hc,hd⟩:=id hit ;obtain ⟨od,hod,hcd,hdd⟩:=id hm
 (unfold pyNext ;refine aa (wpAny_attempt (bP (name:=Str.ofString "__next__") hit.typeIs aR (cR aR hit.typeIs ci ?_ (ca _)))) ;refine aa (ag ?_) ;refine aa ?_ ;refine aa ?_)
 ((first | refine aa (bb hit.typeIs (ag ?_)) | refine aa (bu hit.typeIs (ag ?_))) ;refine aa (wpAny_fieldsOf ho hd ?_) ;simp only [show Builtin.Dict_items.ownsTuple "dict_keyiterator" = false by decide,Bool.false_eq_true,cY] ;show wpAny _ _ (if (Value.ref d==Value.none)=true then _ else _) _ _ s ;rw [ao (show ¬ ((Value.ref d==Value.none)=true) from aj)] ;refine aa (ag ?_) ;refine aa (bV hod hdd ?_) ;rw [ao (by simp)] ;refine aa (ag ?_) ;refine aa (cX hod hdd ?_) ;rw [ao (by simp)] ;refine ag ?_)
 (simp only [show ¬ ((i:Int)<0) from by lia,cY,bS,bW hx] ;refine aa ?_ ;(first | refine aa (bb hit.typeIs (ag ?_)) | refine aa (bu hit.typeIs (ag ?_))) ;show wpAny _ _ (setField (.ref it) 0 .none >>= _) _ _ s ;refine aa (wpAny_setField ho hd (by simp) ?_) ;show wpAny _ _ (newExc (.type "StopIteration") [] >>= _) _ _ _ ;refine aa ?_ ;simp only [newExc,newTuple])
 (refine aa (br ?_ (by size_fits)) ;refine aa (m:=firstArgMember _ _) (wpAny_of_eq (a:=Value.none) (by first | rfl | (simp only [firstArgMember];rfl)) ?_) ;refine br ?_ (by size_fits) ;simp only [raiseNew] ;refine aa (wpAny_handled ?_) ;rw [show A.in1.handled=none from hh] ;refine aa (ag (wpAny_throw ?_)))
 refine aa (wpAny_isInstance (T := "StopIteration") (b:=true) ⟨_,ai _ rfl,rfl⟩ isSubtype_stop (ag (hQ _ (((Heap.SameBut.update ..).extBut.push _).push _))))
theorem qx5 (hh:A.handled=none)(I:Aj)(hne:d≠I):Walks prog w A I [I,d] [I] es.size (λi v=>∃e,es[i]?=some e∧v=e.key) (λi h=>h.IsKeyIter I d i es.size ep∧RawD h d es ep) where
 sub:=λb hb=>by simp at hb;simp [hb]
 frame:=λ_ _ _ st hk=>⟨st.1.at λo e=>hk I (by simp) o e,st.2.at λo e=>hk d (by simp) o e⟩
 item:=λi s Q E hi st hQ=>qz1 st.1 st.2 (aX hi) λh' it' sb=>hQ _ h' s.toks ⟨_,aX hi,rfl⟩ ⟨it',st.2.at λo e=>sb.extBut d o hne e⟩ λb o hb e=>sb.extBut b o (λh=>hb (by simp [h])) e
 done:=λs Q E st hQ=>qk6 hh st.1 st.2 (af _) λh' eb=>hQ h' s.toks λb o hb e=>eb b o (λh=>hb (by simp [h])) e
 self:=λ_ _ _ _ st hQ=>wpAny_pyIter_keyiter st.1 hQ
theorem qyq (lo:(d==sysModules)=false):KdlSrc prog w "dict" d d es.size (λi v=>∃e,es[i]?=some e∧v=e.key) (λh=>RawD h d es ep) where
 type:=λ_ hm=>hm.ty
 there:=λ_ hm=>⟨hm.lt,hm.lt⟩
 keep:=λ_ _ hm hk=>hm.at λo e=>hk d (.inl rfl) o e
 notList:=by decide
 notTuple:=by decide
 hint:=λ_ _ _ _ hm hq=>kdl_hint_dict hm.ty hq
 iter:=λ_ _ hh hm=>⟨_,_,(λ_ _ hq=>qvm lo hm hq),qx5 hh _ (al hm.lt),⟨⟨_,ai _ rfl,rfl,rfl⟩,hm.at λo e=>ac _ e⟩⟩
theorem Wn (hd:(d==sysModules)=false):MeetsIn prog w (Builtin.«dict.__len__» ⟨[.ref d],[]⟩) (λ_ R s=>∃es ep,RawD s.heap d es ep∧R (.ok (.ret (.int es.size s.toks))) { s with toks:=s.toks+1 }) :=
 .of_wp λA R s ⟨es,ep,hm,h⟩=>by
  obtain ⟨o,ho,hc,hdat⟩:=hm
  (show wpAny _ _ (dictSize d >>= _) _ _ s ;unfold dictSize ;refine aa (aa (bV ho hdat (ag ?_))) ;show wpAny _ _ (Builtin.Dict.pendingCount d >>= _) _ _ s ;refine aa (wpAny_pendingCount_other hd ?_) ;refine wpAny_ret_mkInt ?_ ;rw [Nat.add_zero] ;exact h)
theorem qjp {Q:Ag→Ab→Prop}(hd:(d==sysModules)=false)(hm:RawD s.heap d es ep)(hfit:(es.size:Int)<2 ^ 63)(h:Q (.int es.size (s.toks+1)) { s with toks:=s.toks+1+1 }):wpAny (model prog w) A (call (.builtin "len") [.ref d]) Q E s:=by
 refine Calls.call_function_entry kind_len plain_len entry_len (args_len1 _) ?_ ;unfold Builtin.«len» ;refine aa (m:=oneArg "len" _) (ag ?_)
 refine aa (m:=callSpecial? (.ref d) (Str.ofString "__len__")) (bP (name:=Str.ofString "__len__") hm.ty F.slot_dict_len (cn F.slot_dict_len hm.ty F.entry_dict_len (F.args_dict_len_1 _) (Wn hd) ⟨es,ep,hm,?_⟩))
 (show wpAny _ _ _ _ _ { s with toks:=s.toks+1 } ;refine aa (cL (ag ?_)) ;refine aa (wpAny_letGo ?_) ;show wpAny _ _ (if ((es.size:Nat):Int)<0 then _ else _) _ _ _ ;rw [ao (by lia)] ;show wpAny _ _ (if ((es.size:Nat):Int)≥2 ^ 63 then _ else _) _ _ _ ;rw [ao (by lia)])
 exact aa (wpAny_mkInt (ag ⟨_,rfl,h⟩))
end
section
variable {X:Cx}
theorem qkv {P:Ac}{w:Ah}{H:Hp}{h:Heap}{a:Aj}{kvs:List (List Key×V)}(ok:HOk P w H h)(e:H a=some (.dT kvs)) :
  kvs.length≤sizeLine∧(a==sysModules)=false∧∃(xs:List (List Key×Aj×Ag)) (es:Array DictEntry) (ep:Nat),KT H kvs xs∧RawD h a es ep∧es.toList=xs.map (entryOfKey (tupleKind (xj P w))):=by
 obtain ⟨z,y,xs,r,o,es,ep,h1,h2,h3,h4,h5⟩:=(show ObjOk P w H h a (.dT kvs) from ok a _ e)
 exact ⟨z,y,xs,es,ep,r,⟨o,h1,h2,h3⟩,h4⟩
theorem Zm:vf X (.builtin "len") (λxs H Q=>∃a kvs,xs=[V.ref a]∧H a=some (.dT kvs)∧Q (.int kvs.length) H):=by
 intro pins s σ H xs us Q I r h
 obtain ⟨a,kvs,rfl,e,q⟩:=h
 obtain ⟨u,rfl,rx⟩:=jn r
 cases rx
 obtain ⟨z,hd,ys,es,ep,rel,raw,hes⟩:=qkv I.hok e
 have hl:es.size=kvs.length:=by rw [←aO,hes,ah,aM rel]
 have hn:=Qg
 exact qjp hd raw (by rw [hl];lia) ⟨.int kvs.length,H,I.tok _,⟨_,by rw [hl]⟩,q⟩
def qz8 (H:Hp)(kvs:List (List Key×V))(vs:List V):Prop:=Paired (λv (p:List Key×V)=>∃b,v=V.ref b∧H b=some (.tup (p.1.map kV))) vs kvs
theorem qqz (hc:X.calm=true):vf X (.type "list") (λxs H Q=>∃a kvs,xs=[V.ref a]∧H a=some (.dT kvs)∧∀p vs,H p=none→qz8 H kvs vs→Q (.ref p) (upd H p (.lst vs))):=by
 intro pins s σ H xs us Q I r h
 obtain ⟨a,kvs,rfl,e,q⟩:=h
 obtain ⟨u,rfl,rx⟩:=jn r
 cases rx
 obtain ⟨z,hd,ys,es,ep,rel,raw,hes⟩:=qkv I.hok e
 have hl:es.size=kvs.length:=by rw [←aO,hes,ah,aM rel]
 refine kdl_call (qyq hd) (I.ok.hd hc) raw (by rw [hl];exact z) λh' tk acc' c' hk hD hacc=>?_
 have key:∀(l:List Ag) (kvs':List (List Key×V)) (ys':List (List Key×Aj×Ag)),KT H kvs' ys'→l.length=kvs'.length→(∀(j:Nat) v,l[j]?=some v→∃y,ys'[j]?=some y∧v=.ref y.2.1)→∃vs,Vals vs l∧qz8 H kvs' vs:=by
  intro l kvs' ys' rr
  induction rr generalizing l with
  |nil =>
   intro hl' _
   cases l with
   |nil=>exact ⟨[],.nil,.nil⟩
   |cons _ _=>simp at hl'
  |@cons p y ps yss hp t ih =>
   intro hl' hj
   cases l with
   |nil=>simp at hl'
   |cons v l =>
    obtain ⟨y',ey,rfl⟩:=hj 0 v rfl
    cases ey
    obtain ⟨vs,v1,v2⟩:=ih l (by simpa using hl') λj u hu=>by
     obtain ⟨y2,e2,e3⟩:=hj (j+1) u (by simpa using hu)
     exact ⟨y2,by simpa using e2,e3⟩
    exact ⟨.ref y.2.1::vs,.cons rfl v1,.cons ⟨_,rfl,hp.2.1⟩ v2⟩
 obtain ⟨vs,v1,v2⟩:=key acc'.toList kvs ys rel (by rw [aO,hacc.1,hl]) λj v ev=>by
  obtain ⟨en,e1,rfl⟩:=hacc.2 j v (by rw [←Array.getElem?_toList];exact ev)
  rw [←Array.getElem?_toList,hes,aU] at e1
  cases hy:ys[j]? with
  |none=>rw [hy] at e1;cases e1
  |some y =>
   rw [hy] at e1
   have e2:=ak e1
   exact ⟨y,rfl,by rw [←e2];rfl⟩
 have hv:vs.length≤sizeLine:=by rw [v1.length,aO,hacc.1,hl];exact z
 exact ⟨.ref _,_,I.laid (t':=tk) hk (af _) (show ObjOk X.prog X.w _ h' _ (.lst vs) from ⟨hv,acc'.toList,c',v1,by simpa using hD⟩),rfl,q _ _ (I.hok.fresh (af _)) v2⟩
end
end L2
namespace L2
open PySem PySem.Spec PyProof.Rows
section
variable {X:Cx}{pins:List (Aj×Obj)}{σ:St}{H:Hp}{s:Ab}{h':Heap}{ch:List Aj}
theorem Inv.turnedL {tk:Nat}(I:Inv X pins σ H s)(hk:∀b u,b∉ch→s.heap.get? b=some u→h'.get? b=some u)(hf:∀b∈ch,v5 X pins H b):Inv X pins σ H { s with heap:=h',toks:=tk }:=by
 refine I.call' (s':={ s with heap:=h',toks:=tk }) (ch:=ch) rfl ⟨λb o e n _ nx=>hk b o nx e,λb o e n _ nx=>⟨o.slots,hk b o nx e⟩,λb o e n _=>n,λb o e nx=>⟨o,hk b o nx e⟩,λ_ _ e=>e,λ_ _ _ e=>e,λb ps e=>⟨#[],by rw [e];simp⟩⟩ ?_ I.bare λb hb=>?_
 ·intro b u hu
  refine (I.hok b u hu).stay (λc v hc e=>hk c v (λz=>?_) e) (λ_ z=>z) λ_ _ z=>z
  have:=(hf c z).1
  rcases hc with rfl|hc
  ·rw [this] at hu;cases hu
  ·rw [this] at hc;cases hc
 ·obtain ⟨q1,q2,q3,q4,q5,q6⟩:=hf b hb
  exact ⟨q4,q2,q5,q6⟩
theorem Inv.turnedT {tk:Nat}{o:HO}{ob:Obj}(I:Inv X pins σ H s)(hk:∀b u,b∉ch→s.heap.get? b=some u→h'.get? b=some u)(hn:h'.get? s.heap.objs.size=some ob)(hf:∀b∈ch,v5 X pins H b)(hc:∀b∈ch,b≠s.heap.objs.size)
  (ok:ObjOk X.prog X.w (upd H s.heap.objs.size o) (s.heap.push ob) s.heap.objs.size o) (fr:ob.isFreed=false):Inv X pins σ (upd H s.heap.objs.size o) { s with heap:=h',toks:=tk }:=by
 have I1:Inv X pins σ (upd H s.heap.objs.size o) { s with heap:=s.heap.push ob,toks:=tk }:=I.laid (t':=tk) (λb u e=>ac _ e) (af _) ok
 refine Inv.turnedL (s:={ s with heap:=s.heap.push ob,toks:=tk }) (ch:=ch) I1 (λb u nb e=>?_) λb hb=>?_
 ·rcases Heap.get?_push_cases e with ⟨rfl,rfl⟩|e
  ·exact hn
  ·exact hk b u nb e
 ·obtain ⟨q1,q⟩:=hf b hb
  exact ⟨by rw [q8 (hc b hb)];exact q1,q⟩
theorem qyx {x y:V}{u v:Ag}(I:Inv X pins σ H s)(rx:xx x u)(ry:xx y v):ObjOk X.prog X.w (upd H s.heap.objs.size (.tup [x,y])) (s.heap.push { cls:=.type "tuple",data:=.seq #[u,v] }) s.heap.objs.size (.tup [x,y]):=by
 refine ⟨by show 2≤sizeLine;decide,[u,v],.cons rx (.cons ry .nil),?_⟩
 exact ⟨_,ai _ rfl,rfl,_,rfl⟩
end
section
variable {X:Cx}
end
section
variable {X:Cx}
end
section
variable {X:Cx}{elt iter tg:Expr}{x y2:Str}{pos:Pos}{scope:Scope}{cl:List (Str×Aj)}{M:List Nat}{wi:TI}{gg:TG}{te:TE}
end
end L2
namespace L2
open PySem PySem.Spec PyProof.Rows PySem.W
def Fz (H:Hp)(d:Aj)(o:Obj)(kvs:List (Key×V))(H':Hp):Prop:=H' d=some (.frz o (.dK kvs))∧∀b,b≠d→H' b=H b
section
variable {X:Cx}{pins:List (Aj×Obj)}{σ:St}{H:Hp}{s:Ab}{d:Aj}{kvs:List (Key×V)}
theorem Inv.freeze {o:Obj}(I:Inv X pins σ H s)(e:H d=some (.dK kvs))(ho:s.heap.get? d=some o):Inv X pins σ (upd H d (.frz o (.dK kvs))) s:=by
 obtain ⟨z,hd,vs,rel,dd⟩:=Zb I.hok e
 exact Inv.write (t':=s.toks) (h':=s.heap) I (by rw [e];exact trivial) (.inl rfl) (λ_ _ _ e=>e) ⟨o,ho⟩ ⟨ho,Ww z hd rel dd⟩
theorem y9 {o:Obj}(I:Inv X pins σ H s)(e:H d=some (.frz o (.dK kvs))):kvs.length≤sizeLine∧(d==sysModules)=false∧s.heap.get? d=some o∧∃vs es ep,KV kvs vs∧o.data=.dict es ep∧s.heap.DictAt (xj X.prog X.w) d vs ep:=by
 obtain ⟨ho,z,hd,vs,rel,dd⟩:=(show ObjOk X.prog X.w H s.heap d (.frz o (.dK kvs)) from I.hok d _ e)
 obtain ⟨o',es,ep,h1,h2,h3,h4⟩:=id dd
 have:o'=o:=ak (h1.symm.trans ho)
 subst this
 exact ⟨z,hd,ho,vs,es,ep,rel,h3,o',es,h1,h2,h3,h4⟩
theorem Inv.freezeRd (I:Inv X pins σ H s)(e:Rd H d (.dK kvs)):∃o H',Fz H d o kvs H'∧Inv X pins σ H' s:=by
 rcases e with e|⟨o,e⟩
 ·obtain ⟨z,hd,vs,rel,o,es,ep,ho,r⟩:=Zb I.hok e
  exact ⟨o,_,⟨q9,λb nb=>q8 nb⟩,I.freeze e ho⟩
 ·exact ⟨o,H,⟨e,λ_ _=>rfl⟩,I⟩
theorem kV_of {P:Ac}{w:Ah}{k:Key}{u:Ag}(h:(xj P w).is k u=true):xx (kV k) u:=by
 rcases xn (show Q2 k u=true from h) with ⟨i,t,rfl,rfl⟩|⟨x,t,rfl,rfl⟩
 ·exact ⟨t,rfl⟩
 ·exact ⟨t,rfl⟩
end
def ItD (d:Aj)(o:Obj)(kvs:List (Key×V)):It :=
 ⟨λi H=>H d=some (.frz o (.dK kvs))∧i<kvs.length,λi H v H'=>H'=H∧∃p,kvs[i]?=some p∧v=kV p.1,λi H=>H d=some (.frz o (.dK kvs))∧kvs.length≤i⟩
theorem qv0 {kvs:List (Key×V)}{vs:List (Key×Ag)}(r:KV kvs vs){i:Nat}{p:Key×V}(e:kvs[i]?=some p):∃q,vs[i]?=some (p.1,q)∧xx p.2 q:=by
 induction r generalizing i with
 |nil=>cases e
 |cons h t ih =>
  cases i with
  |zero =>
   cases e
   obtain ⟨h1,h2⟩:=h
   rename_i b _ _
   exact ⟨b.2,by show some b=some (_,b.2);rw [h1],h2⟩
  |succ i=>exact ih e
theorem qj6 {P:Ac}{w:Ah}{K:Aa}{tg:Expr}{d it:Aj}{o:Obj}{kvs:List (Key×V)}{ep:Nat}(hep:∃es,o.data=.dict es ep):Turn P w K tg (ItD d o kvs) [it] it (λi h=>h.IsKeyIter it d i kvs.length ep) where
 mem:=by simp
 obj:=λi h st b hb=>by
  have e:b=it:=by simpa using hb
  subst e
  obtain ⟨ob,e,c,dd⟩:=st
  exact ⟨ob,e,λv z=>by rw [dd] at z;cases z⟩
 keep:=λi h h' st k=>st.at λob e=>k it (by simp) ob e
 item:=by
  intro X hP hw hK hc i pins s σ H E I hf st hg
  subst hP hw hK
  obtain ⟨hq,hi⟩:=hg
  obtain ⟨z,hd,ho,vs,es,ep',rel,h3,dd⟩:=y9 I hq
  obtain ⟨es2,h4⟩:=hep
  have:ep'=ep:=by rw [h3] at h4;cases h4;rfl
  subst this
  have e1:kvs[i]?=some kvs[i]:=au hi
  obtain ⟨q,eq,rq⟩:=qv0 rel e1
  have hl:vs.length=kvs.length:=(aM rel).symm
  obtain ⟨f0,f1,f2,f3,f4,f5⟩:=hf it (by simp)
  refine wpAny_pyNext_dict_item (by rw [hl];exact st) dd eq λkey h' hk st' sb=>?_
  have I1:Inv X pins σ H { s with heap:=h' }:=I.turned (t':=s.toks) (λb o hb e=>(sb.2 b hb).trans e) f0 f1 f3 f4 f5
  rw [hl] at st'
  obtain ⟨ob,e,c,d'⟩:=id st'
  exact ⟨key,rfl,qwc (s:={ s with heap:=h' }) e c d' (by decide) ⟨_,H,I1,kV_of hk,⟨rfl,_,e1,rfl⟩,st',λb hb=>(hf b hb).1⟩⟩
 done:=by
  intro X hP hw hK hc i pins s σ H E I hf st hg
  subst hP hw hK
  obtain ⟨hq,hi⟩:=hg
  obtain ⟨z,hd,ho,vs,es,ep',rel,h3,dd⟩:=y9 I hq
  obtain ⟨es2,h4⟩:=hep
  have:ep'=ep:=by rw [h3] at h4;cases h4;rfl
  subst this
  have hl:vs.length=kvs.length:=(aM rel).symm
  obtain ⟨f0,f1,f2,f3,f4,f5⟩:=hf it (by simp)
  exact wpAny_pyNext_dict_end (I.ok.hd hc) (by rw [hl];exact st) dd (List.getElem?_eq_none (by lia)) λh' eb=>⟨rfl,I.turned (t':=s.toks) (λb o hb e=>eb b o hb e) f0 f1 f3 f4 f5⟩
 self:=λ_ _ _ _ _ st h=>wpAny_pyIter_keyiter st h
def ItDI (d:Aj)(o:Obj)(kvs:List (Key×V)):It :=
 ⟨λi H=>H d=some (.frz o (.dK kvs))∧i<kvs.length,λi H v H'=>∃q p,H q=none∧v=.ref q∧kvs[i]?=some p∧H'=upd H q (.tup [kV p.1,p.2]),λi H=>H d=some (.frz o (.dK kvs))∧kvs.length≤i⟩
theorem qj1 {P:Ac}{w:Ah}{K:Aa}{xs:List Expr}{k:Nat}{pos:Pos}{d it:Aj}{o:Obj}{kvs:List (Key×V)}{ep:Nat}(hep:∃es,o.data=.dict es ep):Turn P w K (.Tuple xs k pos) (ItDI d o kvs) [it] it (λi h=>∃ok ov,IsItemIter h it d i kvs.length ep ok ov) where
 mem:=by simp
 obj:=λi h st b hb=>by
  have e:b=it:=by simpa using hb
  subst e
  obtain ⟨ok,ov,e⟩:=st
  exact ⟨_,e,λv z=>by cases z⟩
 keep:=λi h h' st k=>by
  obtain ⟨ok,ov,e⟩:=st
  exact ⟨ok,ov,k it (by simp) _ e⟩
 item:=by
  intro X hP hw hK hc i pins s σ H E I hf st hg
  subst hP hw hK
  obtain ⟨hq,hi⟩:=hg
  obtain ⟨z,hd,ho,vs,es,ep',rel,h3,dd⟩:=y9 I hq
  obtain ⟨es2,h4⟩:=hep
  have:ep'=ep:=by rw [h3] at h4;cases h4;rfl
  subst this
  have e1:kvs[i]?=some kvs[i]:=au hi
  obtain ⟨q,eq,rq⟩:=qv0 rel e1
  have hl:vs.length=kvs.length:=(aM rel).symm
  obtain ⟨ok,ov,st⟩:=st
  refine wpAny_pyNext_items_item (by rw [hl];exact st) dd eq λkey h' hk g1 g2 g3 g4=>?_
  refine ⟨_,rfl,wpAny_letOwnedTupleGo_items (s:={ s with heap:=h' }) g1 λh'' j1 j2=>?_⟩
  have ne:it≠s.heap.objs.size:=al (ae st)
  have new:h''.get? s.heap.objs.size=some { cls:=.type "tuple",data:=.seq #[key,q] }:=(j2.2 _ (aT ne)).trans g2
  refine ⟨.ref s.heap.objs.size,_,Inv.turnedT (s:=s) (ch:=[it]) (tk:=s.toks) I (λb u nb e=>?_) new hf (λb hb=>?_) (qyx I (kV_of hk) rq) rfl,rfl,⟨_,_,I.hok.fresh (af _),rfl,e1,rfl⟩,⟨_,_,by rw [←hl];exact j1⟩,λb hb=>?_⟩
  ·have nb:b≠it:=by simpa using nb
   exact (j2.2 b nb).trans (g4 b u nb e)
  ·have e:b=it:=by simpa using hb
   rw [e];exact ne
  ·have e:b=it:=by simpa using hb
   rw [e,q8 ne];exact (hf it (by simp)).1
 done:=by
  intro X hP hw hK hc i pins s σ H E I hf st hg
  subst hP hw hK
  obtain ⟨hq,hi⟩:=hg
  obtain ⟨z,hd,ho,vs,es,ep',rel,h3,dd⟩:=y9 I hq
  obtain ⟨es2,h4⟩:=hep
  have:ep'=ep:=by rw [h3] at h4;cases h4;rfl
  subst this
  have hl:vs.length=kvs.length:=(aM rel).symm
  obtain ⟨f0,f1,f2,f3,f4,f5⟩:=hf it (by simp)
  obtain ⟨ok,ov,st⟩:=st
  exact wpAny_pyNext_items_end (I.ok.hd hc) (by rw [hl];exact st) dd (List.getElem?_eq_none (by lia)) λh' eb=>⟨rfl,I.turned (t':=s.toks) (λb o hb e=>eb b o hb e) f0 f1 f3 f4 f5⟩
 self:=λ_ _ _ _ _ st h=>by
  obtain ⟨ok,ov,e⟩:=st
  exact kcp_self e h
section
variable {X:Cx}{tg l:Expr}{tl:TE}
def iDk (tl:TE):TI:=λσ H R=>tl σ H λx H1=>∃d kvs,x=.ref d∧Rd H1 d (.dK kvs)∧∀o H2,Fz H1 d o kvs H2→R (ItD d o kvs) H2
theorem pi_dk (hl:PE X l tl):PI X tg l (iDk tl):=by
 intro pins s σ H R I h
 refine thn (hl pins s σ H _ I h) λv s1 ⟨x,H1,I1,r1,q1⟩=>?_
 obtain ⟨d,kvs,e,rd,q⟩:=q1
 subst e
 cases r1
 obtain ⟨o,H2,fz,I2⟩:=I1.freezeRd rd
 obtain ⟨z,hd,ho,vs,es,ep,rel,h3,dd⟩:=y9 I2 fz.1
 have hl:vs.length=kvs.length:=(aM rel).symm
 refine wpAny_pyIter_dict hd dd ?_
 refine ⟨s1.heap.objs.size,[s1.heap.objs.size],_,_,H2,rfl,I2.kept (t':=s1.toks) λb o e=>ac _ e,qj6 ⟨es,h3⟩,⟨_,ai _ rfl,rfl,by rw [hl];rfl⟩,λb hb=>?_,q o H2 fz⟩
 have e:b=s1.heap.objs.size:=by simpa using hb
 subst e
 exact I2.fpOk (af _) (I2.hok.fresh (af _))
def iDi (tl:TE):TI:=λσ H R=>tl σ H λx H1=>∃d kvs,x=.ref d∧Rd H1 d (.dK kvs)∧∀o H2,Fz H1 d o kvs H2→R (ItDI d o kvs) H2
theorem pi_di {apos cpos tpos:Pos}{xs:List Expr}{k:Nat}(hl:PE X l tl)(hbase:attributeBase l "items" X.env (eval l X.env)=eval l X.env:=by rfl)(hline:(apos.endLine==cpos.line)=true:=by rfl) :
  PI X (.Tuple xs k tpos) (.Call (.Attribute l "items" apos) [] [] cpos) (iDi tl):=by
 intro pins s σ H R I h
 refine wpAny_Call_method0_late hbase hline (thn (hl pins s σ H _ I h) λv s1 ⟨x,H1,I1,r1,q1⟩=>?_)
 obtain ⟨d,kvs,e,rd,q⟩:=q1
 subst e
 cases r1
 obtain ⟨o,H2,fz,I2⟩:=I1.freezeRd rd
 obtain ⟨t1,t2,_⟩:=qz6 I1 (.inl ⟨kvs,rd⟩)
 obtain ⟨z,hd,ho,vs,es,ep,rel,h3,dd⟩:=y9 I2 fz.1
 have hl:vs.length=kvs.length:=(aM rel).symm
 refine ⟨"dict","dict.items",cQ,cS,PySem.F.type_dict_items,t1,t2,bR rfl (PySem.evalArgs_none ?_)⟩
 refine cn cS t1 PySem.F.entry_dict_items (PySem.F.args_dict_items_1 _) (meets_dict_items (xj X.prog X.w) d hd) ⟨⟨vs,dd.dictOf⟩,?_⟩
 have I3:Inv X pins σ H2 { s1 with heap:=s1.heap.push { cls:=.type "dict_items",data:=.fields #[.ref d] } }:=I2.kept (t':=s1.toks) λb o e=>ac _ e
 refine wpAny_pyIter_items (s:={ s1 with heap:=s1.heap.push { cls:=.type "dict_items",data:=.fields #[.ref d] } }) ⟨_,ai _ rfl,rfl,rfl⟩ (dd.push _) ?_
 refine ⟨_,[_],_,_,H2,rfl,I3.kept (t':=s1.toks) λb o e=>ac _ e,qj1 ⟨es,h3⟩,⟨.none,.none,?_⟩,λb hb=>?_,q o H2 fz⟩
 ·rw [hl]
  exact ai _ rfl
 ·have e:=aB.mp hb
  subst e
  exact I3.fpOk (af _) (I3.hok.fresh (af _))
def ItS (x:Str):It:=⟨λi _=>i<x.cps.size,λi H v H'=>H'=H∧v=.str ⟨#[x.cps.getD i 0]⟩,λi _=>x.cps.size≤i⟩
theorem qzx {P:Ac}{w:Ah}{K:Aa}{it:Aj}{x:Str}{t:Tok}:Turn P w K tg (ItS x) [it] it (λi h=>h.IsStrIter it "str_ascii_iterator" x t i) where
 mem:=by simp
 obj:=λi h st b hb=>by
  have e:b=it:=by simpa using hb
  subst e
  obtain ⟨ob,e,c,dd⟩:=st
  exact ⟨ob,e,λv z=>by rw [dd] at z;cases z⟩
 keep:=λi h h' st k=>by
  obtain ⟨ob,e,r⟩:=st
  exact ⟨ob,k it (by simp) ob e,r⟩
 item:=by
  intro X hP hw hK hc i pins s σ H E I hf st hg
  subst hP hw hK
  have hg:i<x.cps.size:=hg
  obtain ⟨f0,f1,f2,f3,f4,f5⟩:=hf it (by simp)
  refine wpAny_pyNext_ascii_item st (c:=x.cps.getD i 0) (by rw [cu,aX hg];rfl) λh' st' sb=>?_
  have I1:Inv X pins σ H { s with heap:=h',toks:=s.toks+1 }:=I.turned (t':=s.toks+1) (λb o hb e=>(sb.2 b hb).trans e) f0 f1 f3 f4 f5
  obtain ⟨ob,e,c,d'⟩:=id st'
  exact ⟨_,rfl,qwc (s:={ s with heap:=h',toks:=s.toks+1 }) e c d' (by decide) ⟨.str ⟨#[x.cps.getD i 0]⟩,H,I1,⟨_,rfl⟩,⟨rfl,rfl⟩,st',λb hb=>(hf b hb).1⟩⟩
 done:=by
  intro X hP hw hK hc i pins s σ H E I hf st hg
  subst hP hw hK
  obtain ⟨f0,f1,f2,f3,f4,f5⟩:=hf it (by simp)
  exact wpAny_pyNext_ascii_end (I.ok.hd hc) st (bW hg) λh' eb=>⟨rfl,I.turned (t':=s.toks) (λb o hb e=>eb b o hb e) f0 f1 f3 f4 f5⟩
 self:=λ_ _ _ _ _ st h=>wpAny_pyIter_striter_ascii st h
theorem qxc {P:Ac}{w:Ah}{K:Aa}{it:Aj}{x:Str}{t:Tok}:Turn P w K tg (ItS x) [it] it (λi h=>h.IsStrIter it "str_iterator" x t i) where
 mem:=by simp
 obj:=λi h st b hb=>by
  have e:b=it:=by simpa using hb
  subst e
  obtain ⟨ob,e,c,dd⟩:=st
  exact ⟨ob,e,λv z=>by rw [dd] at z;cases z⟩
 keep:=λi h h' st k=>by
  obtain ⟨ob,e,r⟩:=st
  exact ⟨ob,k it (by simp) ob e,r⟩
 item:=by
  intro X hP hw hK hc i pins s σ H E I hf st hg
  subst hP hw hK
  have hg:i<x.cps.size:=hg
  obtain ⟨f0,f1,f2,f3,f4,f5⟩:=hf it (by simp)
  refine wpAny_pyNext_wide_item st (c:=x.cps.getD i 0) (by rw [cu,aX hg];rfl) λh' st' sb=>?_
  have I1:Inv X pins σ H { s with heap:=h',toks:=s.toks+1 }:=I.turned (t':=s.toks+1) (λb o hb e=>(sb.2 b hb).trans e) f0 f1 f3 f4 f5
  obtain ⟨ob,e,c,d'⟩:=id st'
  exact ⟨_,rfl,qwc (s:={ s with heap:=h',toks:=s.toks+1 }) e c d' (by decide) ⟨.str ⟨#[x.cps.getD i 0]⟩,H,I1,⟨_,rfl⟩,⟨rfl,rfl⟩,st',λb hb=>(hf b hb).1⟩⟩
 done:=by
  intro X hP hw hK hc i pins s σ H E I hf st hg
  subst hP hw hK
  obtain ⟨f0,f1,f2,f3,f4,f5⟩:=hf it (by simp)
  exact wpAny_pyNext_wide_end (I.ok.hd hc) st (bW hg) λh' eb=>⟨rfl,I.turned (t':=s.toks) (λb o hb e=>eb b o hb e) f0 f1 f3 f4 f5⟩
 self:=λ_ _ _ _ _ st h=>wpAny_pyIter_striter_wide st h
def iStr (tl:TE):TI:=λσ H R=>tl σ H λv H1=>∃x,v=.str x∧R (ItS x) H1
theorem pi_str (hl:PE X l tl):PI X tg l (iStr tl):=by
 intro pins s σ H R I h
 refine thn (hl pins s σ H _ I h) λv s1 ⟨v',H1,I1,r1,x,e,q⟩=>?_
 subst e
 obtain ⟨t,rfl⟩:=(show ∃t,v=Value.str x t from r1)
 cases ha:x.cps.all (·<128)
 ·refine wpAny_pyIter_wide ha ⟨s1.heap.objs.size,[s1.heap.objs.size],_,_,H1,rfl,I1.kept (t':=s1.toks) λb o e=>ac _ e,qxc (t:=t),⟨_,ai _ rfl,rfl,rfl⟩,λb hb=>?_,q⟩
  have e:=aB.mp hb
  subst e
  exact I1.fpOk (af _) (I1.hok.fresh (af _))
 ·refine wpAny_pyIter_ascii ha ⟨s1.heap.objs.size,[s1.heap.objs.size],_,_,H1,rfl,I1.kept (t':=s1.toks) λb o e=>ac _ e,qzx (t:=t),⟨_,ai _ rfl,rfl,rfl⟩,λb hb=>?_,q⟩
  have e:=aB.mp hb
  subst e
  exact I1.fpOk (af _) (I1.hok.fresh (af _))
end
end L2
namespace L2
open PySem PySem.Spec PyProof.Rows
def Rows (q:Aj)(B:Hp)(L:List (List V))(ys:List V)(H:Hp):Prop:=Paired (λv xs=>∃a,v=.ref a∧a≠q∧B a=none∧H a=some (.lst xs)) ys L
theorem xm {H H':Hp}(s:Same H H'){a:Aj}(n:H' a=none):H a=none:=by
 cases e:H a with
 |none=>rfl
 |some o=>rw [s _ _ e] at n;cases n
end L2
namespace L2
open PySem PySem.Spec PySem.Calls PyProof.Rows PySem.W
section
variable {prog:Ac}{w:Ah}{A:Ae}{E:Ag→Ab→Prop}{s:Ab}{K:Type}[DecidableEq K]{knd:KeyKind prog w K}
end
section
variable {X:Cx}
def tDispT (tk tv:TE):TE:=λσ H Q=>∀p,H p=none→tk σ (upd H p (.dT [])) λx H1=>tv σ H1 λv H2=>∃b ks,x=.ref b∧H2 b=some (.tup (ks.map kV))∧H2 p=some (.dT [])∧Q (.ref p) (upd H2 p (.dT [(ks,v)]))
theorem qz2 {k v:Expr}{pos:Pos}{tk tv:TE}(hu:X.A.units<cLine)(hk:PE X k tk)(hv:PE X v tv):PE X (.Dict [some k] [v] pos) (tDispT tk tv):=by
 intro pins s σ H Q I q
 have hn:=I.hok.fresh (af s.heap.objs.size)
 have I1:=I.laid (a:=s.heap.objs.size) (o:=.dT []) (h':=s.heap.push { cls:=.type "dict",data:=.dict #[] }) (t':=s.toks) (λ_ _ q=>ac _ q) (af _) (Jm s.heap I.big)
 refine wpAny_Dict_any rfl rfl (λz=>by cases z) (show 1≤15 by decide) ?_
 refine pairTrees_cons_walk (thn (hk pins _ σ _ _ I1 (q _ hn)) λu s1 ⟨x,H1,I2,rx,q1⟩=>thn (hv pins s1 σ H1 _ I2 q1) λw2 s2 ⟨y,H2,I3,ry,b,ks,ex,eb,ep,q2⟩=>pairTrees_nil_walk ?_)
 subst ex
 cases (show u=Value.ref b from rx)
 obtain ⟨z,hd,xs,rel,dd⟩:=dt_of I3.hok ep
 cases rel
 unfold storeAll
 rw [List.forIn_cons]
 refine aa (aa (wpAny_dictSet_heap (knd:=tupleKind (xj X.prog X.w)) (hsz:=aJ _) hu (jf I3.hok eb) dd λh' dd' hs=>ag ?_))
 refine ag ?_
 obtain ⟨o',es,ep',h1,h2,h3,h4,_,h6⟩:=dd'
 refine ⟨.ref _,_,jj I3 (by rw [ep];exact True.intro) hs ⟨o',h1⟩ (show ObjOk X.prog X.w (upd H2 s.heap.objs.size (.dT [(ks,y)])) h' s.heap.objs.size (.dT [(ks,y)]) from ⟨by show 1≤sizeLine;decide,hd,[(ks,b,w2)],.cons ⟨rfl,?_,ry⟩ .nil,o',es,ep',h1,h2,h3,h4,h6⟩),rfl,q2⟩
 rw [q8 (ne_of eb ep (λz=>nomatch z))]
 exact eb
end
end L2
namespace L2
open PySem PySem.Spec PySem.Calls PyProof.Rows
section
variable {Y:Cx}{kx vx:Expr}{tk te:TE}{c:Code}{p:Aj}{σ:St}{H:Hp}{pins:List (Aj×Obj)}{s:Ab}
def dctS (kx vx:Expr)(D:Aj)(env:Env)(c:Code):Sem PySem.Fin:=(eval kx env >>= λkv=>holding [kv] (eval vx env) >>= λvv=>standAt { kx.pos with endLine:=vx.pos.endLine,endCol:=vx.pos.endCol } >>= λ_=>holding [kv,vv] (dictSet D kv vv)) >>= λ_=>again c
theorem qzt (kx vx target iter:Expr)(scope:Scope)(pos:Pos)(it:Ag)(D:Aj)(env:Env) :
  compTurn (.DictComp kx vx [⟨target,iter,[],0⟩] scope pos) 0 it (.ref D) env=(standAt iter.pos >>= λ_=>pyNext it >>= λr=>match r with|none=>pure (.done .next)|some v=>letOwnedTupleGo target it v >>= λ_=>assign target env v >>= λ_=>dctS kx vx D env (.compLoop (.DictComp kx vx [⟨target,iter,[],0⟩] scope pos) 0 it (.ref D) env)):=by rfl
theorem qvu {ys:List (Key×V)}{N:List (Key×V)→Hp→Prop}(hk:PE Y kx tk)(hv:PE Y vx te)(J:Inv Y pins σ H s)(hz:ys.length<sizeLine)
  (h:tk σ H λy H4=>te σ H4 λz H5=>∃k,y=kV k∧H5 p=some (.dK ys)∧N (zu ys k z) (upd H5 p (.dK (zu ys k z)))) :
  wpAny (model Y.prog Y.w) Y.A (dctS kx vx p Y.env c) (λr s5=>r=Fin.again c∧∃H5,Inv Y pins σ H5 s5∧∃zs,N zs H5) Y.xe s:=by
 refine aa (aa (aF (hk _ s _ H _ J h) (λkv s6 hr6=>?_) λ_ _ z=>z))
 obtain ⟨y,H4,J6,ry,h4⟩:=hr6
 refine aa (cL (aF (hv _ s6 _ H4 _ J6 h4) (λvv s7 hr7=>?_) λ_ _ z=>z))
 obtain ⟨z,H5,J7,rz,k,rfl,e5,n5⟩:=hr7
 refine aa (cI (cL ?_))
 obtain ⟨zz,hd,vs,rel,dd⟩:=Zb J7.hok e5
 have hl:(zu ys k z).length≤sizeLine:=by have:=z0 ys k z;lia
 refine wpAny_dictSet_pairs (hsz:=by rw [←rel.length];exact zz) (yb ry) dd λh' dd' hs=>ag ⟨rfl,_,?_,_,n5⟩
 have he:∃q,h'.get? p=some q:=let ⟨q,_,_,hq,_⟩:=dd';⟨q,hq⟩
 exact jj J7 (by rw [e5];exact True.intro) hs he (Ww hl hd (rel.put k rz) dd')
end
section
variable {X:Cx}{pins:List (Aj×Obj)}{σ:St}{H:Hp}{s2:Ab}{scope:Scope}{cl:List (Str×Aj)}{x:Str}{M:List Nat}{fp:List Aj}{C:Aj}{h1:Heap}{tk:Nat}
theorem Inv.compD (I:Inv X pins σ H s2)(hc:CapAll X.env cl)(hh:HasAll cl scope.names)(hm:CapIx X scope cl M)(hk:scope.kind=.function)(hC:s2.heap.objs.size<C)
  (keep:∀b o,s2.heap.get? b=some o→h1.get? b=some o) (hn:h1.Ns C λ_=>none) (hD:h1.get? s2.heap.objs.size=some { cls:=.type "dict",data:=.dict #[] })
  (hfp:∀b∈fp,v5 X pins H b) (hob:∀b∈fp,∃o,s2.heap.get? b=some o) :
  Inv (zn X scope cl x M C s2 H fp (X.pn++pins)) [] (zt M σ none) (upd H s2.heap.objs.size (.dK [])) { s2 with heap:=h1,toks:=tk } :=
 I.compG (xs:=[x]) hc hh hm hk hC keep hn ⟨aJ _,aA.mpr (aT (al I.big)),[],.nil,by
  obtain ⟨o,es,ep,ho,r⟩:=Heap.DictOf.new (knd:=xj X.prog X.w) s2.heap
  have:o={ cls:=.type "dict",data:=.dict #[] }:=ak (ho.symm.trans (ai _ rfl))
  exact ⟨o,es,ep,by rw [this];exact hD,r⟩⟩ hfp hob
end
def qqp (J:It)(M:List Nat)(tk te:TE)(σ:St)(H1:Hp)(Q:VK):Prop:=∀p,H1 p=none→∃W:Nat→Nat→List (Key×V)→Hp→Prop,(∃m,W 0 m [] (upd H1 p (.dK []))) ∧
 ∀i m ys H2,W i m ys H2→H2 p=some (.dK ys)∧ys.length<sizeLine∧((J.stop i H2∧Q (.ref p) H2)∨(J.go i H2∧∀v H3,J.yld i H2 v H3 →
  tk (zt M σ (some v)) H3 λy H4=>te (zt M σ (some v)) H4 λz H5=>∃k,y=kV k∧H5 p=some (.dK ys)∧∃m',m'<m∧W (i+1) m' (zu ys k z) (upd H5 p (.dK (zu ys k z)))))
def tDComp (M:List Nat)(wi:TI)(tk te:TE):TE:=λσ H Q=>wi σ H λJ H1=>qqp J M tk te σ H1 Q
section
variable {X:Cx}{kx vx iter:Expr}{x:Str}{px pos:Pos}{scope:Scope}{cl:List (Str×Aj)}{M:List Nat}{wi:TI}{tk te:TE}{pins:List (Aj×Obj)}{σ:St}
theorem qwx {tg:Expr}(hclos:closureFor scope X.env=pure cl)(hhas:HasAll cl scope.names)(hk:scope.kind=.function)
  (hnames:∀y∈scope.names,y.2=.local→scope.names.lookup y.1=some .local) (hi:PI X tg iter wi) (hs:∀z,foldedSetIterable iter X.env z=pure z)
  {use:Option (Ag→Sem Unit)} {QQ:Ag→Ab→Prop} {s:Ab} {H:Hp} {ps:Pos} {R:It→Hp→Prop} (I:Inv X pins σ H s) (h:wi σ H R)
  (go:∀(it:Aj) (fp:List Aj) (tn:Nat→Heap→Prop) (J:It) (H1:Hp) (s2:Ab) (C:Aj) (h3:Heap) (tn2:Nat),Inv X pins σ H1 s2→Turn X.prog X.w X.K tg J fp it tn→tn 0 h3→(∀b∈fp,v5 X pins H1 b)→(∀b∈fp,b<s2.heap.objs.size)→(∀b∈fp,∃o,s2.heap.get? b=some o)→R J H1→s2.heap.objs.size<C →
   (∀b o,s2.heap.get? b=some o→h3.get? b=some o)→(h3.Ns C λ_=>none)→h3.get? s2.heap.objs.size=some { cls:=.type "dict",data:=.dict #[] } →
   codeAny (model X.prog X.w) X.A (.compLoop (.DictComp kx vx [⟨tg,iter,[],0⟩] scope pos) 0 (.ref it) (.ref s2.heap.objs.size) (compEnvC scope cl C X.env)) (compPost (model X.prog X.w) X.A X.xe use QQ (.ref s2.heap.objs.size) C) { s2 with heap:=h3,toks:=tn2 }) :
  wpAny (model X.prog X.w) X.A (comprehension (.DictComp kx vx [⟨tg,iter,[],0⟩] scope pos) scope X.env ps newDict false (eval iter X.env) use) QQ X.xe s:=by
 refine wpAny_comprehension_free (use:=use) rfl hs hclos hk hnames ?_
 refine thn (hi pins s σ H _ I h) λv s1 h1=>thn h1 λitv s2 h2=>?_
 obtain ⟨it,fp,tn,J,H1,rfl,I2,T,t0,hfp,hR⟩:=h2
 refine br ?_
 refine wpAny_newFunctionEnv hhas.nocell (by intro y hy;cases hy) (λh3 hns hsb=>?_) hk
 dsimp only at hns hsb ⊢
 generalize hH2:s2.heap.push { cls:=.type "dict",dict:=none,data:=.dict #[] }=G2 at hns hsb ⊢
 have hC:G2.objs.size=s2.heap.objs.size+1:=by rw [←hH2,cz]
 have hlt:s2.heap.objs.size<G2.objs.size:=by lia
 have keep:∀b o,s2.heap.get? b=some o→h3.get? b=some o:=λb o e=>by
  rw [hsb.2 b (al (ba (ae e) hlt))]
  exact ac _ (hH2▸ac _ e)
 have hD:h3.get? s2.heap.objs.size=some { cls:=.type "dict",data:=.dict #[] }:=by
  rw [hsb.2 _ (al hlt)]
  exact ac _ (hH2▸ai _ rfl)
 have t3:=T.keep 0 _ _ t0 λb _ o e=>keep b o e
 have loop:=λtn2=>go it fp tn J H1 s2 G2.objs.size h3 tn2 I2 T t3 hfp (λb hb=>let ⟨o,e,_⟩:=T.obj 0 _ t0 b hb;ae e) (λb hb=>let ⟨o,e,_⟩:=T.obj 0 _ t0 b hb;⟨o,e⟩) hR hlt keep hns hD
 exact codeAny_compStart_dict (loop _) (T.self _ 0 _ _ _ t3 (loop _))
end
section
variable {X:Cx}{kx vx iter:Expr}{x:Str}{px pos:Pos}{scope:Scope}{cl:List (Str×Aj)}{M:List Nat}{wi:TI}{tk te:TE}
theorem qxx (hc:X.calm=true)(hclos:closureFor scope X.env=pure cl)(hcap:CapAll X.env cl)(hhas:HasAll cl scope.names)(hix:CapIx X scope cl M)(hk:scope.kind=.function)
  (hnames:∀y∈scope.names,y.2=.local→scope.names.lookup y.1=some .local) (hx:scope.names.lookup x=some .local) (hnd:(qqq X x M).Nodup) (hi:PI X (.Name x px) iter wi)
  (hkx:∀C s2 H2 fp pn,PE (zn X scope cl x M C s2 H2 fp pn) kx tk) (he:∀C s2 H2 fp pn,PE (zn X scope cl x M C s2 H2 fp pn) vx te) (hs:∀z,foldedSetIterable iter X.env z=pure z)
  {use:Option (Ag→Sem Unit)} {QQ:Ag→Ab→Prop} {pins:List (Aj×Obj)} {s:Ab} {σ:St} {H:Hp} {Q:VK} {ps:Pos} (I:Inv X pins σ H s) (h:wi σ H λJ H1=>qqp J M tk te σ H1 Q)
  (fin:∀(C:Aj) (s2 s4:Ab) (H1 H2:Hp) (fp:List Aj),Inv X pins σ H1 s2→s2.heap.objs.size<C→(∀b∈fp,v5 X pins H1 b)→Inv (zn X scope cl x M C s2 H1 fp (X.pn++pins)) [] (zt M σ none) H2 s4→Q (.ref s2.heap.objs.size) H2 →
   compPost (model X.prog X.w) X.A X.xe use QQ (.ref s2.heap.objs.size) C (.ok .next) s4) :
  wpAny (model X.prog X.w) X.A (comprehension (.DictComp kx vx [⟨.Name x px,iter,[],0⟩] scope pos) scope X.env ps newDict false (eval iter X.env) use) QQ X.xe s:=by
 refine qwx hclos hhas hk hnames hi hs I h λit fp tn J H1 s2 C h3 tn2 I2 T t3 hfp hbl hob hR hlt keep hns hD=>?_
 obtain ⟨W,⟨m0,w0⟩,hW⟩:=hR s2.heap.objs.size (I2.hok.fresh (af _))
 have hxl:(relabel scope X.env).names.lookup x=some .local:=lookup_relabel_local hx
 refine W6 (Y:=zn X scope cl x M C s2 H1 fp (X.pn++pins)) (V:=λi n H2=>∃ys,W i n ys H2) (Qd:=Q (.ref s2.heap.objs.size)) (REST:=dctS kx vx s2.heap.objs.size (compEnvC scope cl C X.env) _) T hc (λ_ _ z=>z) (qzt ..) rfl rfl (xq (i:=0) hnd rfl (.inl hxl) (.inr hxl)) (qwd hcap I2 hlt hfp hbl) (λi n H2 ⟨ys,w⟩=>?_) (λH2 s4 J4 q=>fin C s2 s4 H1 H2 fp I2 hlt hfp J4 q) (I2.compD hcap hhas hix hk hlt keep hns hD hfp hob) ⟨[],w0⟩ t3 λb hb=>by rw [q8 (al (hbl b hb))];exact (hfp b hb).1
 obtain ⟨hp,hz,hcase⟩:=hW i n ys H2 w
 refine hcase.imp id λ⟨hgo,hy⟩=>⟨hgo,λv H3 yl=>⟨λσ4 H4=>σ4=zt M σ (some v)∧H3=H4,⟨rfl,rfl⟩,λ_ _ e=>?_⟩⟩
 obtain ⟨rfl,rfl⟩:=e
 refine ⟨Q3 M σ v,λpins' s' J=>?_⟩
 refine aF (qvu (N:=λzs H5=>∃m',m'<n∧W (i+1) m' zs H5) (hkx _ _ _ _ _) (he _ _ _ _ _) J hz (hy v H3 yl)) (λr s5 ⟨e,H5,J5,zs,m',hm,w'⟩=>⟨e,H5,J5,m',hm,zs,w'⟩) λ_ _ z=>z
theorem Jf {i:Nat}{y:Str}{py spos:Pos}(hN:X.N.Nodup)(hyi:X.N[i]?=some y)(hyl:Loc X.env.scope y)(hc:X.calm=true)(hclos:closureFor scope X.env=pure cl)(hcap:CapAll X.env cl)(hhas:HasAll cl scope.names)(hix:CapIx X scope cl M)(hk:scope.kind=.function)
  (hnames:∀y∈scope.names,y.2=.local→scope.names.lookup y.1=some .local) (hx:scope.names.lookup x=some .local) (hnd:(qqq X x M).Nodup) (hi:PI X (.Name x px) iter wi)
  (hkx:∀C s2 H2 fp pn,PE (zn X scope cl x M C s2 H2 fp pn) kx tk) (he:∀C s2 H2 fp pn,PE (zn X scope cl x M C s2 H2 fp pn) vx te) (hs:∀z,foldedSetIterable iter X.env z=pure z:=by intro _;rfl)
  (hsw:swapsWith (.DictComp kx vx [⟨.Name x px,iter,[],0⟩] scope pos) (some (.Name y py)) spos.line X.env=pure true:=by rfl) (hyf:X.fn y=true∨X.env.scope.names.lookup y=some .local:=by first | exact .inl rfl | exact .inr rfl | assumption) :
  PS X (.Assign [.Name y py] (.DictComp kx vx [⟨.Name x px,iter,[],0⟩] scope pos) spos) (tAsg (tDComp M wi tk te) (qv7 i)):=by
 intro pins s σ H D I h
 rw [exec_Assign_Name_used _ _ _ _ hsw]
 refine aa (cI (aa ?_))
 refine aa (aF (qxx hc hclos hcap hhas hix hk hnames hx hnd hi hkx he hs (use:=some (assign (.Name y py) X.env)) (QQ:=λ_ s'=>SP X pins D .next s') I h λC s2 s4 H1 H2 fp I2 hlt hfp J4 hq=>?_) (λ_ s' hq=>ag (ag hq)) λ_ _ e=>e)
 have I4:Inv X pins σ H2 s4:=I2.uncomp (h':=s4.heap) (bz hlt) hfp J4 (Heap.SameBut.refl _ _)
 have hCn:H2 C=none:=J4.free
 obtain ⟨mC,hnC,_⟩:=J4.loc
 obtain ⟨oC,esC,epC,hoC,hdC⟩:=id hnC
 have hCl:C≠X.env.locals:=λz=>aI _ (ba hlt (z▸I2.lt))
 have hCs:X.s₀.heap.objs.size≤C:=aZ I2.sz (bz hlt)
 have hCc:∀y c,X.env.cells.lookup y=some c→c≠C:=λy c e z=>by
  obtain ⟨v,o,e1,_⟩:=I2.cell y c e
  exact aI _ (ba hlt (z▸ae e1))
 have hCp:∀p∈X.pn++pins,p.1≠C:=λp hp z=>aI _ (ba hlt (z▸ae (I2.pin p hp).1))
 have hCf:C∉frs X.stack:=λz=>by
  rcases ap.mp (I2.stkSub C z) with q|q
  ·exact hCl q
  ·obtain ⟨_,o,e1,_⟩:=I2.funs.mem (b:=C) q
   exact aI _ (ba hlt (ae e1))
 have hCx:C∉X.fs:=λz=>by
  obtain ⟨_,o,e1,_⟩:=I2.funs.mem (b:=C) z
  exact aI _ (ba hlt (ae e1))
 have I4p:Inv X (pins++[(C,oC)]) σ H2 s4:=⟨I4.ok,I4.os,I4.bare,I4.base,I4.loc,I4.cell,I4.free,I4.freeC,λp hp=>by
  rcases bc.mp hp with q|q
  ·exact I4.pin p (bH _ q)
  ·rcases bc.mp q with q|q
   ·exact I4.pin p (ar _ q)
   ·rw [aB.mp q]
    exact ⟨hoC,hCn,hCl,hCx,λv z=>by rw [hdC.1] at z;cases z⟩,I4.hok,I4.len⟩
 show wpAny _ _ (assign (.Name y py) X.env (.ref s2.heap.objs.size)) _ _ _
 refine wpAny_assign_Name (v9 I4p hN hyi hyl (show xx (.ref s2.heap.objs.size) (.ref s2.heap.objs.size) from rfl) (λs5 I5=>?_) hyf)
 have hC5:=(I5.pin (C,oC) (ar _ (ar _ (.head _)))).1
 exact ⟨mC,⟨oC,esC,epC,hC5,hdC⟩,λh' hs'=>⟨_,H2,I5.unpinned.but hCn hCs hCl hCc hCp hs',hq⟩⟩
end
end L2
namespace L2
open PySem PySem.Spec PyProof.Rows
def MissR (K:Aa)(C D:Aj):Prop:=∀ {M:Model} {A:Ae} {E:Ag→Ab→Prop} {h:Heap} {g:Array GenState} {d:Drawn} {t:Nat} {os:OsState} {e:Aj} {oe:Obj} {Q:Bool→Ab→Prop},
 K.In h→h.get? e=some oe→oe.cls=.ref C→Q false ⟨h,g,d,t,os⟩→wpAny M A (excMatches (.ref e) (.ref D)) Q E ⟨h,g,d,t,os⟩
theorem Qh {K:Aa}{C D:Aj}(d:ExcC K D)(hm:PySem.W.mroIn K C (.ref D)=some false):MissR K C D:=by
 intro M A E h g dr t os e oe Q X he hc q
 obtain ⟨tl,N,a1,a2,a3,a4,a5,a6,a7,a8,a9,b0,b1,b2,b3,b5,mN,hC,hN,hni,T⟩:=Yd X d.q
 have hbase:=T.hasType bh.hasBase
 have hcB:(Value.ref D::tl).contains (.type "BaseException")=true:=by rw [List.contains_cons,hbase,Bool.or_true]
 have L:PySem.W.Looks M h (isSubtype (.ref C) (.ref D)) false:=PySem.W.looks_mroIn X hm
 have f:=tc_notTuple
 unfold excMatches
 repeat (first | (with_reducible refine wpAny_loadPart_at he ?_;rw [hc]) | with_reducible refine wpAny_loadPart_at hC ?_ | (with_reducible refine wpAny_isSubtype_exc hC ?_;rw [hcB]) | with_reducible refine L.at ?_ | wp_step)
 exact q
section
variable {X:Cx}{pins:List (Aj×Obj)}{σ:St}{H H':Hp}{s s':Ab}{e:Aj}
end
section
variable {X:Cx}{x x1:Str}{D0 D1:Aj}{np hpos np1 hpos1 pos:Pos}{b₀ b₁:Stmt}{body suite suite1:List Stmt}{tb:(St→XK)→TS}{th th1:TS}
end
end L2
namespace L2
open PySem PySem.Spec PyProof.Rows
inductive PHs (X:Cx):List ExceptHandler→List (Aj×TS)→Prop
 |nil:PHs X [] []
 |cons {x:Str} {D0:Aj} {np hpos:Pos} {b₀:Stmt} {suite:List Stmt} {th:TS} {hs:List ExceptHandler} {trs:List (Aj×TS)} (hg:Gl X x) (hm:X.mg x=some (.ref D0)) (hh:∀e,PSs (X.handling e) (b₀::suite) th) (r:PHs X hs trs) (hdb:(x==("__debug__" : Str))=false) :
  PHs X (.ExceptHandler (some (.Name x np)) none (b₀::suite) hpos::hs) ((D0,th)::trs)
def CatL (K:Aa)(C:Aj)(D:Ends)(σ:St)(H:Hp):List (Aj×TS)→Prop
 |[]=>False
 |p::t=>(qvw K C p.1∧p.2 D σ H)∨(MissR K C p.1∧CatL K C D σ H t)
section
variable {X:Cx}{pins:List (Aj×Obj)}{σ:St}{H H':Hp}{s s':Ab}{e:Aj}
theorem landN {E:XK}{ev:Ag}{hs:List ExceptHandler}{trs:List (Aj×TS)}{D:Ends}(I:Inv X pins σ H s)(hst:X.stack=X.env::X.outer)(hfr:X.env.frame=some X.env.locals)
  (hx:CXE X.prog X.w X.stack H s E ev s') (hE:∀c d H',E c d H'→∃C,c=.ref C∧CatL X.K C D σ H' trs) (hP:PHs X hs trs) :
  wpAny (model X.prog X.w) X.A (noteFrame ev X.env) (λ_ s2=>wpAny (model X.prog X.w) X.A (setFlight ev none) (λ_ s3 =>
   wpAny (model X.prog X.w) X.A (handleBy ev X.env hs) (SP X pins D) X.xe s3) X.xe s2) X.xe s':=by
 obtain ⟨a,C,a0,B,H',rfl,hos,hba,un,hokB,hfl,old,q⟩:=hx
 obtain ⟨C1,e1,hcase⟩:=hE _ _ _ q
 cases e1
 have mk:∀(h6:Heap),Heap.FlyingW B X.stack a (.ref C) a0 h6→s'.heap.UpToSlots h6→Inv X pins σ H' { s' with heap:=h6 }:=λh6 fl up=>by
  refine I.call' (s':={ s' with heap:=h6 }) (ch:=[]) hos ⟨λb o e n nb _=>?_,λb o e n hb _=>?_,λb o e n _=>un.free b o e n nin,λb o e _=>?_,un.tups,un.frzs,un.tbls⟩ (hokB.kept fl.1) hba (λb z=>nomatch z)
  ·obtain ⟨o',e1,e2⟩:=old b o e nb
   rw [e2 n] at e1
   exact fl.1 b o e1
  ·obtain ⟨sl,e2⟩:=un.slot b o e n hb nin
   obtain ⟨_,o3,e3,nf⟩:=hfl.2.2.1.mem (b:=b) hb
   obtain ⟨sl4,e4⟩:=up b o3 e3 nf
   rw [e2] at e3
   have e5:=ak e3
   exact ⟨sl4,by show h6.get? b=_;rw [e4,←e5]⟩
  ·by_cases hb:b∈frs X.stack
   ·obtain ⟨_,o3,e3,nf⟩:=hfl.2.2.1.mem (b:=b) hb
    obtain ⟨sl4,e4⟩:=up b o3 e3 nf
    exact ⟨_,e4⟩
   ·obtain ⟨o',e1,_⟩:=old b o e hb
    exact ⟨o',fl.1 b o' e1⟩
 have hfrm:X.A.frames=some (X.env::X.outer):=by rw [←hst];exact I.ok.frames
 have hfl':Heap.FlyingW B (X.env::X.outer) a (.ref C) a0 s'.heap:=by rw [←hst];exact hfl
 refine wpAny_looks_onW hfrm hfr hfl' λh4 held4 up4=>?_
 refine wpAny_landsW held4 λh5 fl5 up5=>?_
 have I5:=mk h5 (by rw [hst];exact fl5) (up4.trans up5)
 have I5h:=I5.handling a
 obtain ⟨ob,hob,hobc⟩:=fl5.there
 obtain ⟨hp,gg,dd,tk,os⟩:=s'
 clear hE
 induction hP with
 |nil=>exact hcase.elim
 |@cons x D0 np hpos b₀ suite th hs trs hg hm hh r hdb ih =>
  rcases hcase with ⟨hcat,hth⟩|⟨hmiss,hcase⟩
  ·refine wpAny_handleBy_cons (codeAny_handlers_test (vh (X:=X.handling a) I5h hg hm ?_ hdb)) (by intro z;cases z)
   refine hcat (h:=h5) I5.kIn hob hobc ?_
   refine codeAny_handlers_suite ?_
   refine lands_againW fl5 λh6 fl6 up6=>?_
   have I6:=(mk h6 (by rw [hst];exact fl6) ((up4.trans up5).trans up6)).handling a
   exact aF (hh a pins _ σ H' D I6 hth) (λf s2 h2=>h2.unhandling I.ok) λ_ _ z=>z.elim
  ·refine wpAny_handleBy_cons (codeAny_handlers_test (vh (X:=X.handling a) I5h hg hm ?_ hdb)) (by intro z;cases z)
   refine hmiss (h:=h5) I5.kIn hob hobc ?_
   exact ih hcase
end
def tTryN (K:Aa)(trs:List (Aj×TS))(tb:(St→XK)→TS):TS:=λD σ H=>tb (λσ' c _ H'=>∃C,c=.ref C∧CatL K C D σ' H' trs) D σ H
section
variable {X:Cx}{pos:Pos}{body:List Stmt}{tb:(St→XK)→TS}{h1:ExceptHandler}{hs1:List ExceptHandler}{trs:List (Aj×TS)}
theorem qjn (hst:X.stack=X.env::X.outer)(hfr:X.env.frame=some X.env.locals)
  (hb:∀(pn:List (Aj×Obj)) (xe:Ag→Ab→Prop) (E:St→XK),z7 (X.trying pn xe) E→PassesOwn (model X.prog X.w) X.A X.env xe→PSs (X.trying pn xe) body (tb E)) (hP:PHs X (h1::hs1) trs) :
  PS X (.Try body (h1::hs1) [] [] pos) (tTryN X.K trs tb):=by
 intro pins s σ H D I h
 refine wpAny_Try_except ?_
 refine aF (hb (X.pn++pins) (λe s₁=>wpAny (model X.prog X.w) X.A (noteFrame e X.env) (λ_ s₂=>wpAny (model X.prog X.w) X.A (setFlight e none) (λ_ s₃ =>
   wpAny (model X.prog X.w) X.A (handleBy e X.env (h1::hs1)) (SP X pins D) X.xe s₃) X.xe s₂) X.xe s₁) _ ?_ PassesOwn.looking [] s σ H D (I.trying _) h) (λf s1 hf=>?_) λ_ _ z=>z
 ·intro pins' σ' H1 s1 e s1' I1 hx
  exact landN (X:=X) (I1.untrying I.ok) hst hfr hx (λc d H' q=>q) hP
 ·have h2:=hf.untrying I.ok
  cases f with
  |next=>exact bM h2
  |brk=>exact h2
  |cont=>exact h2
  |ret u=>exact h2
end
end L2
namespace L2
open PySem
theorem qvc {M:List Nat}{x:Str}{te:TE}{σ:St}{H:Hp}{Q:VK}(f:Nat→V)(hn:x.cps.size≤1000000)(he:∀(i:Nat) (H':Hp) (R:VK),i<x.cps.size→Same H H'→R (f i) H'→te (zt M σ (some (.str ⟨#[x.cps.getD i 0]⟩))) H' R)
  (k:∀p,H p=none→Q (.ref p) (upd H p (.lst ((List.range x.cps.size).map f)))):qw4 (ItS x) M te σ H Q:=by
 intro p np
 refine ⟨λi m ys H2=>i≤x.cps.size∧m=x.cps.size-i∧ys=(List.range i).map f∧H2=upd H p (.lst ys),⟨x.cps.size,aJ _,rfl,rfl,rfl⟩,?_⟩
 rintro i m ys H2 ⟨hi,rfl,rfl,rfl⟩
 refine ⟨q9,?_,?_⟩
 ·rw [ah,bt]
  have:(1000000:Nat)<sizeLine:=by decide
  lia
 ·by_cases hlt:i<x.cps.size
  ·refine .inr ⟨hlt,?_⟩
   rintro v H3 ⟨rfl,rfl⟩
   refine he i (upd H p (.lst ((List.range i).map f))) _ hlt (Same.upd np) ⟨q9,x.cps.size-(i+1),by lia,by lia,rfl,?_,?_⟩
   ·rw [bO,bp]
    rfl
   ·rw [yc]
  ·refine .inl ⟨by show x.cps.size≤i;lia,?_⟩
   have:i=x.cps.size:=by lia
   subst this
   exact k p np
theorem qz7 {M:List Nat}{d:Aj}{o:Obj}{cs:List (Key×V)}{tk te:TE}{σ:St}{H:Hp}{Q:VK}(f:Key→V)(hz:cs.length≤1000000)(nd:(cs.map (·.1)).Nodup)(hd:H d=some (.frz o (.dK cs)))
  (he:∀(k:Key) (H':Hp) (R:V→V→Hp→Prop),Same H H'→R (kV k) (f k) H'→tk (zt M σ (some (kV k))) H' λy H4=>te (zt M σ (some (kV k))) H4 λz H5=>R y z H5)
  (k:∀p,H p=none→Q (.ref p) (upd H p (.dK (cs.map λc=>(c.1,f c.1))))):qqp (ItD d o cs) M tk te σ H Q:=by
 intro p np
 have big:(1000000:Nat)<sizeLine:=by decide
 refine ⟨λi m ys H2=>i≤cs.length∧m=cs.length-i∧ys=(cs.take i).map (λc=>(c.1,f c.1))∧H2=upd H p (.dK ys),⟨cs.length,aJ _,rfl,rfl,rfl⟩,?_⟩
 rintro i m ys H2 ⟨hi,rfl,rfl,rfl⟩
 have dp:d≠p:=qd hd np
 refine ⟨q9,by rw [ah,bI];lia,?_⟩
 by_cases hlt:i<cs.length
 ·refine .inr ⟨⟨by rw [q8 dp];exact hd,hlt⟩,?_⟩
  rintro v H3 ⟨rfl,c,ec,rfl⟩
  refine he c.1 _ _ (Same.upd np) ⟨c.1,rfl,q9,cs.length-(i+1),by lia,by lia,rfl,?_,?_⟩
  ·have hn:xg ((cs.take i).map λc=>(c.1,f c.1)) c.1=none:=by
    unfold xg
    rw [List.find?_eq_none.mpr]
    ·rfl
    ·intro x hx
     obtain ⟨y,hy,rfl⟩:=bd.mp hx
     have hy2:y.1∈(cs.map (·.1)).take i:=by rw [←List.map_take];exact bd.mpr ⟨y,hy,rfl⟩
     intro z
     have z:y.1=c.1:=by simpa using z
     obtain ⟨j,hj,ej⟩:=List.getElem_of_mem hy2
     rw [bI,ah] at hj
     rw [List.getElem_take] at ej
     have e2:(cs.map (·.1))[i]'(by rw [ah];exact hlt)=c.1:=by
      rw [List.getElem_map]
      rw [au hlt] at ec
      rw [ak ec]
     have:=(List.getElem_inj nd).mp (ej.trans (z.trans e2.symm))
     lia
   rw [j8 _ hn,List.take_add_one,bp,ec]
   rfl
  ·rw [yc]
 ·refine .inl ⟨⟨by rw [q8 dp];exact hd,by lia⟩,?_⟩
  have:i=cs.length:=by lia
  subst this
  rw [List.take_length]
  exact k p np
theorem for_di {d:Aj}{o:Obj}{cs:List (Key×V)}{g:TG}{tb:TS}{D:Ends}{σ:St}{H:Hp}(Pv:Nat→St→Hp→Prop)(h0:Pv 0 σ H)(hl:∀i σ H,i≤cs.length→Pv i σ H→H d=some (.frz o (.dK cs)))
  (hs:∀i c q σ H,cs[i]?=some c→H q=none→Pv i σ H→g (.ref q) σ (upd H q (.tup [kV c.1,c.2])) λσ2 H2=>tb { D with nx:=Pv (i+1),ct:=Pv (i+1),bk:=D.nx } σ2 H2) (hd:∀σ H,Pv cs.length σ H→D.nx σ H) :
  ∃W:Nat→Nat→St→Hp→Prop,(∃m,W 0 m σ H)∧∀i m σ H,W i m σ H →
   ((ItDI d o cs).stop i H∧D.nx σ H)∨((ItDI d o cs).go i H∧∃N:St→Hp→Prop,(∀σ' H',N σ' H'→∃m',m'<m∧W (i+1) m' σ' H')∧∀x H',(ItDI d o cs).yld i H x H'→g x σ H' λσ2 H2=>tb { D with nx:=N,ct:=N,bk:=D.nx } σ2 H2):=by
 refine ⟨λi m σ H=>m=cs.length-i∧i≤cs.length∧Pv i σ H,⟨cs.length,by simp,aJ _,h0⟩,?_⟩
 rintro i m σ H ⟨rfl,hi,p⟩
 have q:=hl i σ H hi p
 by_cases hlt:i<cs.length
 ·refine .inr ⟨⟨q,hlt⟩,Pv (i+1),λσ' H' p'=>⟨cs.length-(i+1),by lia,rfl,hlt,p'⟩,?_⟩
  rintro x H' ⟨z,c,nz,rfl,ec,rfl⟩
  exact hs i c z σ H ec nz p
 ·have e:i=cs.length:=by lia
  subst e
  exact .inl ⟨⟨q,af _⟩,hd σ H p⟩
def ex1 (R:List (Key×V))(c:Key×V):List (Key×V):=if c.2=.non then Zd R c.1 else zu R c.1 c.2
def exK (R cs:List (Key×V)):List (Key×V):=cs.foldl ex1 R
def bfK (R cs:List (Key×V)):List (Key×V):=cs.map λc=>(c.1,(xg R c.1).getD .non)
def ExOk (R cs:List (Key×V)):Prop:=∀(i:Nat) c,cs[i]?=some c→c.2=.non→(xg (exK R (cs.take i)) c.1).isSome=true
theorem qk5 (R:List (Key×V)){cs:List (Key×V)}{i:Nat}{c:Key×V}(h:cs[i]?=some c):exK R (cs.take (i+1))=ex1 (exK R (cs.take i)) c:=by
 unfold exK
 rw [List.take_add_one,h,List.foldl_append]
 rfl
theorem qyv (R:List (Key×V))(c:Key×V):(ex1 R c).length≤R.length+1:=by
 unfold ex1
 split
 ·have:=J0 R c.1
  lia
 ·exact z0 R c.1 c.2
theorem qj8 (R cs:List (Key×V)):(exK R cs).length≤R.length+cs.length:=by
 induction cs generalizing R with
 |nil=>exact af _
 |cons c cs ih =>
  have h1:=ih (ex1 R c)
  have h2:=qyv R c
  show (exK (ex1 R c) cs).length≤_
  rw [aN]
  lia
def Kb (ch:List Aj)(H H':Hp):Prop:=∀b o,b∉ch→H b=some o→H' b=some o
section
variable {X:Cx}{C:Aj}{x:Str}{k:Nat}{sp:Sp}{E:St→XK}{p pos:Pos}
theorem qxv (c:CCal X.prog X.w X.K X.mg X.base x C k sp)(hr:Room (k+1) X.A)(hg:Gl X x)(hx:z7 X E)(hdb:(x==("__debug__" : Str))=false:=by decide) :
  PE X (.Call (.Name x p) [] [] pos) (qq9 C sp E z5):=by
 obtain ⟨f,fd,ps,hm,M,F,b⟩:=c.ex
 intro pins s σ H Q I h
 refine bA (vh I hg hm ?_ hdb)
 exact PySem.W.callWith_K0 I.kIn M.kp (Zv (us:=[]) M F hr b hx I .nil h)
end
theorem Kb.rd {ch:List Aj}{H H':Hp}(k:Kb ch H H'){d:Aj}{kvs:List (Key×V)}(n:d∉ch)(h:Rd H d (.dK kvs)):Rd H' d (.dK kvs):=by
 rcases h with h|⟨o,h⟩
 ·exact .inl (k _ _ n h)
 ·exact .inr ⟨o,k _ _ n h⟩
theorem Kb.of {ch:List Aj}{H H':Hp}(s:Same H H'):Kb ch H H':=λc o _ e=>s c o e
end L2
namespace L2
open PySem PySem.Spec PyProof.Rows
theorem ht_gen {o:Expr}{m:Str}{apos pos:Pos}{e:Expr}{es:List Expr}{env:Env}(hb:attributeBase o m env (eval o env)=eval o env)(hf:methodCallForm ((e::es).length+0) (backTo pos (starEach (e::es) env)) (backToKw pos (keywordEach [] env))=true)(hp:methodCallPos true o env apos pos=pure pos) :
  eval (.Call (.Attribute o m apos) (e::es) [] pos) env=(do
   let ov ←eval o env
   standAt apos.atName
   let (f,first) ←holding [ov] (getMethod ov m (do return (←importBound o env).getD true))
   callWith pos f first (backTo pos (starEach (e::es) env)) (backToKw pos (keywordEach [] env))):=by
 rw [arm_eval_Call,hb]
 unfold methodCall
 rw [show (e::es).length+([]:List Keyword).length=(e::es).length+0 from rfl,hf,hp]
 rfl
section
variable {X:Cx}{C:Aj}{x m:Str}{k:Nat}{sp:Sp}{E:St→XK}{p pos apos:Pos}{e o:Expr}{es:List Expr}{ta te:TE}{t:TA}
theorem wn {v j p'}(ha:PE X (.Constant v j p') te)(hr:PA X es t):PA X (.Constant v j p'::es) (xc te t):=xp ha hr rfl
theorem qc {v p'}(ha:PE X (.Name v p') te)(hr:PA X es t):PA X (.Name v p'::es) (xc te t):=xp ha hr rfl
theorem pa_cT {v j p'}(ha:PE X (.Tuple v j p') te)(hr:PA X es t):PA X (.Tuple v j p'::es) (xc te t):=xp ha hr rfl
theorem vw {a b c p'}(ha:PE X (.Call a b c p') te)(hr:PA X es t):PA X (.Call a b c p'::es) (xc te t):=xp ha hr rfl
theorem zj {a b c p'}(ha:PE X (.BinOp a b c p') te)(hr:PA X es t):PA X (.BinOp a b c p'::es) (xc te t):=xp ha hr rfl
theorem v6 {a b p'}(ha:PE X (.Subscript a b p') te)(hr:PA X es t):PA X (.Subscript a b p'::es) (xc te t):=xp ha hr rfl
def Z6:List Expr→Bool
 |[]=>true
 |.Starred _ _::_=>false
 |_::r=>Z6 r
theorem uq {env:Env}:∀ {es:List Expr},Z6 es=true→starEach es env=es.map λe=>(false,eval e env)
 |[],_=>rfl
 |e::r,h=>by
  cases e
  case Starred=>cases h
  all_goals exact cb _ (uq (es:=r) h)
theorem uj {pos:Pos}:∀ {l:List (Bool×Sem Ag)},(∀q∈l,q.1=false)→(backTo pos l).all (!·.1)=true∧(backTo pos l).any (·.1)=false:=by
 intro l h
 have key:∀q∈backTo pos l,q.1=false:=by
  intro q hq
  unfold backTo at hq
  obtain ⟨q',hq',rfl⟩:=bd.mp hq
  exact h q' hq'
 exact ⟨cO.mpr λq hq=>by rw [key q hq];rfl,List.any_eq_false.mpr λq hq=>by rw [key q hq];decide⟩
theorem xy (he:PE X o ta)(cl:Cls X.K C)(c:MCal X.prog X.w X.K X.mg X.base C m k sp)(hr:Room k X.A)(hx:z7 X E)(ha:PA X (e::es) t)(hn:Z6 (e::es)=true:=by rfl)(hl:(e::es).length+0<30:=by decide)
  (hb:∀z,attributeBase o m X.env z=z:=by intro _;rfl) (hp:methodCallPos true o X.env apos pos=pure pos:=by rfl):PE X (.Call (.Attribute o m apos) (e::es) [] pos) (Qz C m sp E ta t):=by
 have h1:starEach (e::es) X.env=(false,eval e X.env)::starEach es X.env:=by
  cases e
  case Starred=>cases hn
  all_goals rfl
 have h2:∀q∈starEach (e::es) X.env,q.1=false:=λq hq=>by
  rw [uq hn] at hq
  obtain ⟨z,_,rfl⟩:=bd.mp hq
  rfl
 refine qzr he cl c hr hx ha h1 (uj λq hq=>h2 q (by rw [h1];exact aK _ hq)).2 (ht_gen (hb _) ?_ hp)
 unfold methodCallForm
 rw [(uj (pos:=pos) h2).1]
 exact aP hl
theorem ww (c:Cal X.prog X.w X.K X.mg X.base x k sp)(hr:Room k X.A)(hg:Gl X x)(hx:z7 X E)(ha:PA X (e::es) t)(hn:Z6 (e::es)=true:=by rfl)(hdb:(x==("__debug__" : Str))=false:=by decide):PE X (.Call (.Name x p) (e::es) [] pos) (Qt sp E t):=by
 have h1:starEach (e::es) X.env=(false,eval e X.env)::starEach es X.env:=by
  cases e
  case Starred=>cases hn
  all_goals rfl
 have h2:∀q∈starEach (e::es) X.env,q.1=false:=λq hq=>by
  rw [uq hn] at hq
  obtain ⟨z,_,rfl⟩:=bd.mp hq
  rfl
 exact j6 c hr hg hx ha hdb h1 (uj λq hq=>h2 q (by rw [h1];exact aK _ hq)).2
end
end L2
namespace L2
open PySem PySem.Spec PyProof.Rows
def PtV (H:Hp)(v:V)(p:Int×Int):Prop:=∃a,v=.ref a∧H a=some (.tup [.int p.1,.int p.2])
def Y3 (H:Hp)(q:Int×Int):Ag→Bool
 |.ref a=>match H a with
  |some (.tup [.int x,.int y])=>decide ((x,y)=q)
  |_=>false
 |_=>false
theorem Yx {H:Hp}{q p:Int×Int}{a:Aj}(h:H a=some (.tup [.int p.1,.int p.2])):Y3 H q (.ref a)=decide (p=q):=by
 simp only [Y3,h]
theorem qjr {X:Cx}{pins:List (Aj×Obj)}{σ:St}{H:Hp}{s:Ab}{A:Ae}(I:Inv X pins σ H s)(hu:A.units<cLine){a b:Aj}{p q:Int×Int}(ha:H a=some (.tup [.int p.1,.int p.2]))(hb:H b=some (.tup [.int q.1,.int q.2])):SeqAt.EqAt A s (.ref a) (.ref b) (decide (p=q)):=by
 by_cases e:a=b
 ·subst e
  rw [ha] at hb
  have:p=q:=by
   injection hb with hb
   injection hb with hb
   injection hb with h1 h2
   injection h2 with h2 _
   injection h1 with h1
   injection h2 with h2
   exact Prod.ext h1 h2
  rw [aP this]
  exact SeqAt.EqAt.same _
 ·refine SeqAt.EqAt.of_refs e ?_
  obtain ⟨its,r1,t1,_⟩:=I.tuple (SqT.of (K:=X.K) ha)
  obtain ⟨its2,r2,t2,_⟩:=I.tuple (SqT.of (K:=X.K) hb)
  obtain ⟨u1,u2,rfl,⟨k1,rfl⟩,⟨k2,rfl⟩⟩:=r1.two
  obtain ⟨w1,w2,rfl,⟨m1,rfl⟩,⟨m2,rfl⟩⟩:=r2.two
  have h:=SeqAt.RcAt.tuples (A:=A) (s:=s) (e:=λj=>if j=0 then p.1==q.1 else p.2==q.2) (show s.heap.IsTuple a _ from t1) (show s.heap.IsTuple b _ from t2) hu λj h1 h2=>by
   have hj:j<2:=by simpa using h1
   rcases (by lia:j=0∨j=1) with z|z
   ·subst z
    exact SeqAt.EqAt.int_int _ _ _ _
   ·subst z
    exact SeqAt.EqAt.int_int _ _ _ _
  have e2:((List.range (min [Value.int p.1 k1,Value.int p.2 k2].toArray.size [Value.int q.1 m1,Value.int q.2 m2].toArray.size)).all (λj=>if j=0 then p.1==q.1 else p.2==q.2)&&[Value.int p.1 k1,Value.int p.2 k2].toArray.size==[Value.int q.1 m1,Value.int q.2 m2].toArray.size)=decide (p=q):=by
   rw [bn]
   simp [bO,Prod.ext_iff]
  rw [e2] at h
  exact h
section
variable {X:Cx}{pins:List (Aj×Obj)}{σ:St}{H:Hp}{s:Ab}
theorem Jy {q:Int×Int}:∀ {vs:List V} {ps:List (Int×Int)} {us:List Ag},Paired (PtV H) vs ps→Vals vs us→us.any (Y3 H q)=decide (q∈ps)
 |_,_,_,.nil,.nil=>by simp
 |_,p::ps,_,.cons h t,.cons r rs=>by
  obtain ⟨a,rfl,ha⟩:=h
  cases r
  rw [cK,Jy t rs,Yx ha,bn]
  simp only [Bool.or_eq_true,decide_eq_true_eq,ap]
  exact ⟨λz=>z.elim (λy=>.inl y.symm) .inr,λz=>z.elim (λy=>.inl y.symm) .inr⟩
theorem Qj (I:Inv X pins σ H s){A:Ae}(hu:A.units<cLine){b:Aj}{q:Int×Int}(hb:H b=some (.tup [.int q.1,.int q.2])):∀ {vs:List V} {ps:List (Int×Int)} {us:List Ag},Paired (PtV H) vs ps→Vals vs us→∀u∈us,SeqAt.EqAt A s u (.ref b) (Y3 H q u)
 |_,_,_,.nil,.nil,u,hu'=>by cases hu'
 |_,_,_,.cons h t,.cons r rs,u,hu'=>by
  obtain ⟨a,rfl,ha⟩:=h
  cases r
  rcases ap.mp hu' with rfl|hu'
  ·rw [Yx ha]
   exact qjr I hu ha hb
  ·exact Qj I hu hb t rs u hu'
def qjw:R2:=λx y H Q=>∃l b vs ps q,x=.ref b∧y=.ref l∧H l=some (.lst vs)∧Paired (PtV H) vs ps∧H b=some (.tup [.int q.1,.int q.2])∧Q (.bl (!decide (q∈ps))) H
theorem qx6 (hu:X.A.units+64<cLine):OpR X (compareOp .NotIn) qjw:=by
 intro pins s σ H x y v u Q I rx ry h
 obtain ⟨l,b,vs,ps,q,rfl,rfl,hl,hp,hb,k⟩:=h
 cases rx
 cases ry
 obtain ⟨its,r,pl,hz⟩:=I.list (SqL.of (K:=X.K) hl)
 refine SeqAt.notIn_listAt (Y3 H q) pl.isList (λw hw=>Qj I (A:=X.A.in1) (by show X.A.units+1<cLine;lia) hb hp r w (by simpa using hw)) ⟨.bl _,H,I,rfl,?_⟩
 rw [show its.toArray.any (Y3 H q)=its.any (Y3 H q) by simp,Jy hp r]
 exact k
theorem qwb {us:List V}{ps:List (Int×Int)}{ws:List Ag}{q:Int×Int}:∀ {i:Nat},Paired (PtV H) us ps→Vals us ws→(hi:i<ws.length)→Y3 H q ws[i]=decide (ps[i]?=some q):=by
 intro i hp hv hi
 have hl:=aM hp
 have hl2:=hv.length
 have e1:us[i]?=some us[i]:=au (by lia)
 have e2:ps[i]?=some ps[i]:=au (by lia)
 obtain ⟨w,ew,rw'⟩:=hv.get e1
 rw [au hi] at ew
 have ew':=ak ew
 have key:∀ {us:List V} {ps:List (Int×Int)} {i:Nat} {u:V} {p:Int×Int},Paired (PtV H) us ps→us[i]?=some u→ps[i]?=some p→PtV H u p:=by
  intro us ps i u p h
  induction h generalizing i with
  |nil=>intro e;cases e
  |cons a t ih =>
   cases i with
   |zero=>intro x y;cases x;cases y;exact a
   |succ i=>intro x y;exact ih (i:=i) x y
 obtain ⟨a,ea,ha⟩:=key hp e1 e2
 rw [ea] at rw'
 cases rw'
 rw [ew',Yx ha,e2]
 simp
def qyj:V→List V→Hp→VK→Prop:=λx vs H Q=>∃l b us ps q j,x=.ref l∧vs=[.ref b]∧H l=some (.lst us)∧Paired (PtV H) us ps∧H b=some (.tup [.int q.1,.int q.2])∧ps[j]?=some q∧(∀i,i<j→ps[i]?≠some q)∧us.length≤1000000∧Q (.int ((j:Nat):Int)) H
theorem qxm (hu:X.A.units+64<cLine):MtM X "list.index" qyj:=by
 intro pins s σ H x vs v us Q I rx rv h
 obtain ⟨l,b,ys,ps,q,j,rfl,rfl,hl,hp,hb,hj,hno,hn,k⟩:=h
 cases rx
 obtain ⟨u,rfl,ru⟩:=rv.one
 cases ru
 obtain ⟨z,its,n,r,hl',e⟩:=I.lstM hl
 have hlen:=r.length
 have hpl:=aM hp
 have hjl:j<its.length:=by have:=(aW.mp hj).1;lia
 refine call_meets F.slot_list_index ⟨_,e,rfl⟩ F.entry_list_index (F.args_list_index_2 _ _) (SeqAt.list_indexAt l its.toArray n none #[] (.ref b) (Y3 H q) j (by simpa using hjl) (by lia) ?_ ?_) ⟨e,λy hy=>?_,?_⟩
 ·have:=qwb (H:=H) (q:=q) hp r hjl
  rw [hj,aP rfl] at this
  simpa using this
 ·intro m hm hmj
  have hm':m<its.length:=by simpa using hm
  have:=qwb (H:=H) (q:=q) hp r hm'
  rw [aL (hno m hmj)] at this
  simpa using this
 ·exact Qj I (by show X.A.units+1<cLine;lia) hb hp r y (by simpa using hy)
 ·exact ⟨.int _,H,I.tok _,⟨_,rfl⟩,k⟩
end
end L2
namespace My
open PySem L2
def top (i:Nat):Stmt:=PySem.Challenge.pw_crookroad_k13_doors.main.body.getD i (.Pass ⟨0,0,0,0⟩)
abbrev s_check_bottom:Stmt:=top 14
theorem ug:FnScope ["bottom"] ["bottom"] (wz s_check_bottom):=⟨rfl,rfl,rfl,by decide +kernel,rfl,by decide +kernel,by decide +kernel⟩
theorem u7:xf "check_bottom" s_check_bottom ["bottom"]:=λ_ _ _ _ _ _ us hl=>match us,hl with | [_],_=>rfl
abbrev s_common_divisor:Stmt:=top 15
theorem jp:FnScope ["one","other"] ["one","other"] (wz s_common_divisor):=⟨rfl,rfl,rfl,by decide +kernel,rfl,by decide +kernel,by decide +kernel⟩
theorem jr:xf "common_divisor" s_common_divisor ["one","other"]:=λ_ _ _ _ _ _ us hl=>match us,hl with | [_,_],_=>rfl
abbrev s_lowest:Stmt:=top 16
theorem qzb:FnScope ["top","bottom","divisor"] ["top","bottom"] (wz s_lowest):=⟨rfl,rfl,rfl,by decide +kernel,rfl,by decide +kernel,by decide +kernel⟩
theorem qzv:xf "lowest" s_lowest ["top","bottom"]:=λ_ _ _ _ _ _ us hl=>match us,hl with | [_,_],_=>rfl
abbrev s_is_line:Stmt:=top 19
theorem qqd:FnScope ["heights","width"] ["heights"] (wz s_is_line):=⟨rfl,rfl,rfl,by decide +kernel,rfl,by decide +kernel,by decide +kernel⟩
theorem qq0:xf "is_line" s_is_line ["heights"]:=λ_ _ _ _ _ _ us hl=>match us,hl with | [_],_=>rfl
abbrev s_Road___init__:Stmt:=zb (top 20) 0
theorem uk:FnScope ["self","heights"] ["self","heights"] (wz s_Road___init__):=⟨rfl,rfl,rfl,by decide +kernel,rfl,by decide +kernel,by decide +kernel⟩
theorem yh:zw "__init__" "Road.__init__" s_Road___init__ ["self","heights"]:=λ_ _ _ _ _ _ us hl=>match us,hl with | [_,_],_=>rfl
abbrev s_Road_width:Stmt:=zb (top 20) 1
theorem Wc:FnScope ["self"] ["self"] (wz s_Road_width):=⟨rfl,rfl,rfl,by decide +kernel,rfl,by decide +kernel,by decide +kernel⟩
theorem Wt:zw "width" "Road.width" s_Road_width ["self"]:=λ_ _ _ _ _ _ us hl=>match us,hl with | [_],_=>rfl
abbrev s_Road_ends:Stmt:=zb (top 20) 3
theorem Yk:FnScope ["self","stretch"] ["self","stretch"] (wz s_Road_ends):=⟨rfl,rfl,rfl,by decide +kernel,rfl,by decide +kernel,by decide +kernel⟩
theorem Yv:zw "ends" "Road.ends" s_Road_ends ["self","stretch"]:=λ_ _ _ _ _ _ us hl=>match us,hl with | [_,_],_=>rfl
abbrev s_Road_on_road:Stmt:=zb (top 20) 6
theorem uf:FnScope ["self","point","top","bottom"] ["self","point"] (wz s_Road_on_road):=⟨rfl,rfl,rfl,by decide +kernel,rfl,by decide +kernel,by decide +kernel⟩
theorem ut:zw "on_road" "Road.on_road" s_Road_on_road ["self","point"]:=λ_ _ _ _ _ _ us hl=>match us,hl with | [_,_],_=>rfl
abbrev s_Road_at:Stmt:=zb (top 20) 7
theorem qqk:FnScope ["self","point","top","bottom","stretch","left","right","beyond"] ["self","point"] (wz s_Road_at):=⟨rfl,rfl,rfl,by decide +kernel,rfl,by decide +kernel,by decide +kernel⟩
theorem qwv:zw "at" "Road.at" s_Road_at ["self","point"]:=λ_ _ _ _ _ _ us hl=>match us,hl with | [_,_],_=>rfl
abbrev s_check_count:Stmt:=top 22
theorem Qb:FnScope ["number","fewest","most"] ["number","fewest","most"] (wz s_check_count):=⟨rfl,rfl,rfl,by decide +kernel,rfl,by decide +kernel,by decide +kernel⟩
theorem Qy:j0 "check_count" s_check_count ["number","fewest","most"] []:=λ_ _ _ _ _ _ _ us hl=>match us,hl with | [_,_,_],_=>exI rfl rfl
theorem Wq:j0 "check_count" s_check_count ["number","fewest","most"] [.none]:=λ_ _ _ _ _ _ _ us hl=>by
 have h2:us.length=2:=by simpa using hl
 match us,h2 with
 |[_,_],_=>exact exI rfl rfl
abbrev s_walked:Stmt:=top 27
theorem qzd:FnScope ["road","point","many","here","points"] ["road","point","many"] (wz s_walked):=⟨rfl,rfl,rfl,by decide +kernel,rfl,by decide +kernel,by decide +kernel⟩
theorem qzc:xf "walked" s_walked ["road","point","many"]:=λ_ _ _ _ _ _ us hl=>match us,hl with | [_,_,_],_=>rfl
abbrev s_trace:Stmt:=top 28
theorem qvg:FnScope ["road","start","places","here"] ["road","start"] (wz s_trace):=⟨rfl,rfl,rfl,by decide +kernel,rfl,by decide +kernel,by decide +kernel⟩
theorem qkm:xf "trace" s_trace ["road","start"]:=λ_ _ _ _ _ _ us hl=>match us,hl with | [_,_],_=>rfl
abbrev s_spot:Stmt:=top 29
theorem qjz:FnScope ["points","turn","many"] ["points","turn","many"] (wz s_spot):=⟨rfl,rfl,rfl,by decide +kernel,rfl,by decide +kernel,by decide +kernel⟩
theorem qk3:xf "spot" s_spot ["points","turn","many"]:=λ_ _ _ _ _ _ us hl=>match us,hl with | [_,_,_],_=>rfl
abbrev s_tail_ring:Stmt:=top 30
theorem Yh:FnScope ["road","point","points","turn"] ["road","point"] (wz s_tail_ring):=⟨rfl,rfl,rfl,by decide +kernel,rfl,by decide +kernel,by decide +kernel⟩
theorem Z7:xf "tail_ring" s_tail_ring ["road","point"]:=λ_ _ _ _ _ _ us hl=>match us,hl with | [_,_],_=>rfl
abbrev s_far:Stmt:=top 31
theorem sc_far:FnScope ["road","point","many","here","points","turn"] ["road","point","many"] (wz s_far):=⟨rfl,rfl,rfl,by decide +kernel,rfl,by decide +kernel,by decide +kernel⟩
theorem bd_far:xf "far" s_far ["road","point","many"]:=λ_ _ _ _ _ _ us hl=>match us,hl with | [_,_,_],_=>rfl
abbrev s_led_to:Stmt:=top 32
theorem qxn:FnScope ["place","turn","size","many","times"] ["place","turn","size","many"] (wz s_led_to):=⟨rfl,rfl,rfl,by decide +kernel,rfl,by decide +kernel,by decide +kernel⟩
theorem qzu:xf "led_to" s_led_to ["place","turn","size","many"]:=λ_ _ _ _ _ _ us hl=>match us,hl with | [_,_,_,_],_=>rfl
abbrev s_stands:Stmt:=top 33
theorem qzk:FnScope ["road","point","many","other","here","sought","points","turn"] ["road","point","many","other"] (wz s_stands):=⟨rfl,rfl,rfl,by decide +kernel,rfl,by decide +kernel,by decide +kernel⟩
theorem qx8:xf "stands" s_stands ["road","point","many","other"]:=λ_ _ _ _ _ _ us hl=>match us,hl with | [_,_,_,_],_=>rfl
abbrev s_meeting:Stmt:=top 34
theorem qq5:FnScope ["road","one","other","here","there","points","turn","others","other_turn","many"] ["road","one","other"] (wz s_meeting):=⟨rfl,rfl,rfl,by decide +kernel,rfl,by decide +kernel,by decide +kernel⟩
theorem qqj:xf "meeting" s_meeting ["road","one","other"]:=λ_ _ _ _ _ _ us hl=>match us,hl with | [_,_,_],_=>rfl
abbrev s_least:Stmt:=top 35
theorem qv6:FnScope ["road","point","points","turn"] ["road","point"] (wz s_least):=⟨rfl,rfl,rfl,by decide +kernel,rfl,by decide +kernel,by decide +kernel⟩
theorem qkw:xf "least" s_least ["road","point"]:=λ_ _ _ _ _ _ us hl=>match us,hl with | [_,_],_=>rfl
abbrev s_Walker___init__:Stmt:=zb (top 37) 0
theorem jh:FnScope ["self","whose","point","times"] ["self","whose","point","times"] (wz s_Walker___init__):=⟨rfl,rfl,rfl,by decide +kernel,rfl,by decide +kernel,by decide +kernel⟩
theorem jd:zw "__init__" "Walker.__init__" s_Walker___init__ ["self","whose","point","times"]:=λ_ _ _ _ _ _ us hl=>match us,hl with | [_,_,_,_],_=>rfl
abbrev s_set_down:Stmt:=top 38
theorem Jb:FnScope ["whose","point"] ["whose","point"] (wz s_set_down):=⟨rfl,rfl,rfl,by decide +kernel,rfl,by decide +kernel,by decide +kernel⟩
theorem Jj:xf "set_down" s_set_down ["whose","point"]:=λ_ _ _ _ _ _ us hl=>match us,hl with | [_,_],_=>rfl
abbrev s_is_name:Stmt:=top 43
theorem qq6:FnScope ["name"] ["name"] (wz s_is_name):=⟨rfl,rfl,rfl,by decide +kernel,rfl,by decide +kernel,by decide +kernel⟩
theorem qqh:xf "is_name" s_is_name ["name"]:=λ_ _ _ _ _ _ us hl=>match us,hl with | [_],_=>rfl
abbrev s_check_new_name:Stmt:=top 44
theorem yw:FnScope ["name","things"] ["name","things"] (wz s_check_new_name):=⟨rfl,rfl,rfl,by decide +kernel,rfl,by decide +kernel,by decide +kernel⟩
theorem j7:xf "check_new_name" s_check_new_name ["name","things"]:=λ_ _ _ _ _ _ us hl=>match us,hl with | [_,_],_=>rfl
abbrev s_exchange:Stmt:=top 45
theorem J1:FnScope ["things","changes","before","name","thing"] ["things","changes"] (wz s_exchange):=⟨rfl,rfl,rfl,by decide +kernel,rfl,by decide +kernel,by decide +kernel⟩
theorem Y8:xf "exchange" s_exchange ["things","changes"]:=λ_ _ _ _ _ _ us hl=>match us,hl with | [_,_],_=>rfl
abbrev s_House___init__:Stmt:=zb (top 46) 0
theorem j4:FnScope ["self"] ["self"] (wz s_House___init__):=⟨rfl,rfl,rfl,by decide +kernel,rfl,by decide +kernel,by decide +kernel⟩
theorem yj:zw "__init__" "House.__init__" s_House___init__ ["self"]:=λ_ _ _ _ _ _ us hl=>match us,hl with | [_],_=>rfl
abbrev s_House_road_called:Stmt:=zb (top 46) 1
theorem k8:FnScope ["self","name"] ["self","name"] (wz s_House_road_called):=⟨rfl,rfl,rfl,by decide +kernel,rfl,by decide +kernel,by decide +kernel⟩
theorem k6:zw "road_called" "House.road_called" s_House_road_called ["self","name"]:=λ_ _ _ _ _ _ us hl=>match us,hl with | [_,_],_=>rfl
abbrev s_House_do:Stmt:=zb (top 46) 4
theorem Jr:FnScope ["self","roads","walkers"] ["self","roads","walkers"] (wz s_House_do):=⟨rfl,rfl,rfl,by decide +kernel,rfl,by decide +kernel,by decide +kernel⟩
theorem Y4:zw "do" "House.do" s_House_do ["self","roads","walkers"]:=λ_ _ _ _ _ _ us hl=>match us,hl with | [_,_,_],_=>rfl
abbrev s_House_lay:Stmt:=zb (top 46) 5
theorem Yz:FnScope ["self","name","heights"] ["self","name","heights"] (wz s_House_lay):=⟨rfl,rfl,rfl,by decide +kernel,rfl,by decide +kernel,by decide +kernel⟩
theorem Z0:zw "lay" "House.lay" s_House_lay ["self","name","heights"]:=λ_ _ _ _ _ _ us hl=>match us,hl with | [_,_,_],_=>rfl
abbrev s_House_place:Stmt:=zb (top 46) 10
theorem Qc:FnScope ["self","name","whose","point","road","here"] ["self","name","whose","point"] (wz s_House_place):=⟨rfl,rfl,rfl,by decide +kernel,rfl,by decide +kernel,by decide +kernel⟩
theorem Qx:zw "place" "House.place" s_House_place ["self","name","whose","point"]:=λ_ _ _ _ _ _ us hl=>match us,hl with | [_,_,_,_],_=>rfl
abbrev s__law_cell:Stmt:=top 48
theorem Z3:FnScope ["_law_script","_law_at"] ["_law_script","_law_at"] (wz s__law_cell):=⟨rfl,rfl,rfl,by decide +kernel,rfl,by decide +kernel,by decide +kernel⟩
theorem Zp:xf "_law_cell" s__law_cell ["_law_script","_law_at"]:=λ_ _ _ _ _ _ us hl=>match us,hl with | [_,_],_=>rfl
abbrev s__law_pick:Stmt:=top 49
theorem Z2:FnScope ["_law_script","_law_at","_law_turn","_law_many","_law_cell_here","_law_left","_law_k","_law_low","_law_one","_law_two"] ["_law_script","_law_at","_law_turn","_law_many"] (wz s__law_pick):=⟨rfl,rfl,rfl,by decide +kernel,rfl,by decide +kernel,by decide +kernel⟩
theorem Z5:xf "_law_pick" s__law_pick ["_law_script","_law_at","_law_turn","_law_many"]:=λ_ _ _ _ _ _ us hl=>match us,hl with | [_,_,_,_],_=>rfl
abbrev s__law_climb:Stmt:=top 50
theorem Wm:FnScope ["_law_script","_law_at","_law_wide","_law_row","_law_k"] ["_law_script","_law_at","_law_wide"] (wz s__law_climb):=⟨rfl,rfl,rfl,by decide +kernel,rfl,by decide +kernel,by decide +kernel⟩
theorem Wd:xf "_law_climb" s__law_climb ["_law_script","_law_at","_law_wide"]:=λ_ _ _ _ _ _ us hl=>match us,hl with | [_,_,_],_=>rfl
abbrev s__law_heights:Stmt:=top 51
theorem um:FnScope ["_law_script","_law_at","_law_most","_law_wide","_law_kind"] ["_law_script","_law_at","_law_most"] (wz s__law_heights):=⟨rfl,rfl,rfl,by decide +kernel,rfl,by decide +kernel,by decide +kernel⟩
theorem u6:xf "_law_heights" s__law_heights ["_law_script","_law_at","_law_most"]:=λ_ _ _ _ _ _ us hl=>match us,hl with | [_,_,_],_=>rfl
abbrev s__law_spot:Stmt:=top 52
theorem Yw:FnScope ["_law_script","_law_at","_law_wide","_law_most","_law_bottom","_law_top","_law_by"] ["_law_script","_law_at","_law_wide","_law_most"] (wz s__law_spot):=⟨rfl,rfl,rfl,by decide +kernel,rfl,by decide +kernel,by decide +kernel⟩
theorem Ys:xf "_law_spot" s__law_spot ["_law_script","_law_at","_law_wide","_law_most"]:=λ_ _ _ _ _ _ us hl=>match us,hl with | [_,_,_,_],_=>rfl
abbrev s__law_walks:Stmt:=top 53
theorem Ws:FnScope ["_law_road","_law_door","_law_good","_law_bad"] ["_law_road","_law_door","_law_good","_law_bad"] (wz s__law_walks):=⟨rfl,rfl,rfl,by decide +kernel,rfl,by decide +kernel,by decide +kernel⟩
theorem Wh:xf "_law_walks" s__law_walks ["_law_road","_law_door","_law_good","_law_bad"]:=λ_ _ _ _ _ _ us hl=>match us,hl with | [_,_,_,_],_=>rfl
abbrev s__law_set_down:Stmt:=top 54
theorem y7:FnScope ["_law_heights_here","_law_bad","_law_house"] ["_law_heights_here","_law_bad"] (wz s__law_set_down):=⟨rfl,rfl,rfl,by decide +kernel,rfl,by decide +kernel,by decide +kernel⟩
theorem ym:xf "_law_set_down" s__law_set_down ["_law_heights_here","_law_bad"]:=λ_ _ _ _ _ _ us hl=>match us,hl with | [_,_],_=>rfl
abbrev s__law_told:Stmt:=top 55
theorem Yc:FnScope ["_law_road","_law_heights_here","_law_door","_law_good","_law_bad","_law_told_here"] ["_law_road","_law_heights_here","_law_door","_law_good","_law_bad"] (wz s__law_told):=⟨rfl,rfl,rfl,by decide +kernel,rfl,by decide +kernel,by decide +kernel⟩
theorem Yp:xf "_law_told" s__law_told ["_law_road","_law_heights_here","_law_door","_law_good","_law_bad"]:=λ_ _ _ _ _ _ us hl=>match us,hl with | [_,_,_,_,_],_=>rfl
abbrev s_law:Stmt:=top 56
theorem sc_law:FnScope ["_law_script","_law_heights_here","_law_road","_law_wide","_law_good","_law_bottom","_law_top","_law_due","_law_door"] ["_law_script"] (wz s_law):=⟨rfl,rfl,rfl,by decide +kernel,rfl,by decide +kernel,by decide +kernel⟩
local macro_rules | `(tactic| walk_at "sq")=>`(tactic| first | assumption | exact SqT.new | exact SqL.new | ((with_reducible refine Same.sqt (Same.upd (by assumption)) ?_);walk_at "sq") | ((with_reducible refine Same.sql (Same.upd (by assumption)) ?_);walk_at "sq"))
local macro_rules | `(tactic| walk_at "at")=>`(tactic| first | rfl | exact u8 (by lia) (by lia))
local macro_rules | `(tactic| walk_at "mul")=>`(tactic| first | assumption | exact IntMulOk.of_left (intBits_le_64 (by lia) (by lia)) | exact IntMulOk.of_right (intBits_le_64 (by lia) (by lia)) | exact Sm.ok (by assumption) (by assumption) (by decide))
local macro_rules | `(tactic| walk_at "pos")=>`(tactic| first | lia | decide +kernel)
local macro_rules | `(tactic| walk_at "div")=>`(tactic| exact ⟨by first | lia | decide +kernel,by unfold Sm;decide +kernel⟩)
local macro_rules | `(tactic| walk_at "loc")=>`(tactic| first | exact Or.inl rfl | exact Or.inr rfl)
local macro_rules | `(tactic| walk_at "cap")=>`(tactic| repeat (first | exact trivial | refine ⟨rfl,?_⟩))
local macro_rules | `(tactic| walk_at "has")=>`(tactic| repeat (first | exact trivial | (refine ⟨λz=>?_,by decide,?_⟩;(first | exact ⟨_,rfl⟩ | cases z))))
local macro_rules | `(tactic| walk_at "cix")=>`(tactic| repeat (first | exact trivial | refine ⟨⟨_,_,rfl,rfl,rfl,rfl⟩,?_⟩))
local macro_rules | `(tactic| walk_at "hasK")=>`(tactic| repeat (first | exact trivial | (refine ⟨λz=>?_,λz=>?_,?_⟩;(first | exact ⟨_,rfl⟩ | cases z);(first | rfl | cases z))))
structure Txt (K:Aa)(mg:Str→Option Ag)(qf:Aj)(qt:Aj)(qw:Aj)(qx:Aj)(qb:Aj)(qp:Aj)(wx:Aj)(qm:Aj)(wv:Aj)(wq:Aj)(qr:Aj)(qz:Aj)(qg:Aj)(qk:Aj):Prop where
 len_:mg "len" = none
 abs_:mg "abs" = none
 range_:mg "range" = none
 list_:mg "list" = none
 min_:mg "min" = none
 max_:mg "max" = none
 all_:mg "all" = none
 sorted_:mg "sorted" = none
 enumerate_:mg "enumerate" = none
 dict_:mg "dict" = none
 g_RoadError:mg "RoadError" = some (.ref qf)
 x_RoadError:ExcC K qf
 g_BadLine:mg "BadLine" = some (.ref qt)
 x_BadLine:ExcC K qt
 g_BadBottom:mg "BadBottom" = some (.ref qw)
 x_BadBottom:ExcC K qw
 g_OffRoad:mg "OffRoad" = some (.ref qx)
 x_OffRoad:ExcC K qx
 g_BadCount:mg "BadCount" = some (.ref qb)
 x_BadCount:ExcC K qb
 g_TooLong:mg "TooLong" = some (.ref qp)
 x_TooLong:ExcC K qp
 g_BadRow:mg "BadRow" = some (.ref wx)
 x_BadRow:ExcC K wx
 g_BadName:mg "BadName" = some (.ref qm)
 x_BadName:ExcC K qm
 g_Taken:mg "Taken" = some (.ref wv)
 x_Taken:ExcC K wv
 g_NoRoad:mg "NoRoad" = some (.ref wq)
 x_NoRoad:ExcC K wq
 g_NoWalker:mg "NoWalker" = some (.ref qr)
 x_NoWalker:ExcC K qr
 cl:Cls K qz
 na:NoAttr K qz "heights"
 g_WIDEST:∃t,mg "WIDEST" = some (.int 24 t)
 g_Road:mg "Road" = some (.ref qz)
 clW:Cls K qg
 clH:Cls K qk
 naWw:NoAttr K qg "whose"
 naWp:NoAttr K qg "point"
 naWt:NoAttr K qg "times"
 naHr:NoAttr K qk "roads"
 naHw:NoAttr K qk "walkers"
 naHd:NoAttr K qk "done"
 g_Walker:mg "Walker" = some (.ref qg)
 g_House:mg "House" = some (.ref qk)
 g_MOST_WALKED:∃t,mg "MOST_WALKED" = some (.int 1000 t)
 g_LONGEST_TRACE:∃t,mg "LONGEST_TRACE" = some (.int 1000 t)
 g_FARTHEST:∃t,mg "FARTHEST" = some (.int 1000000000000000000000000000000000000000000000000000000000000 t)
 g_LONGEST_NAME:∃t,mg "LONGEST_NAME" = some (.int 12 t)
 g_GREATEST_BOTTOM:∃t,mg "GREATEST_BOTTOM" = some (.int 40 t)
 g_LETTERS:∃t,mg "LETTERS" = some (.str "abcdefghijklmnopqrstuvwxyz" t)
 ms:PySem.W.mroIn K qx (.ref qw)=some false
section
variable {P:Ac}{w:Ah}{K:Aa}{mg:Str→Option Ag}{base:Heap}{qf:Aj}{qt:Aj}{qw:Aj}{qx:Aj}{qb:Aj}{qp:Aj}{wx:Aj}{qm:Aj}{wv:Aj}{wq:Aj}{qr:Aj}{qz:Aj}{qg:Aj}{qk:Aj}
def Yb (C:Aj):Sp:=λvs H Q E=>∃b:Int,vs=[.int b]∧(1≤b→Q .non H)∧(b<1→E (.ref C) none H)
theorem qv9 {f:Aj}{fd:Ad}(F:Fun K "check_bottom" "check_bottom" s_check_bottom f fd)(T:Txt K mg qf qt qw qx qb qp wx qm wv wq qr qz qg qk):FnOk P w K mg base (CXE P w) 1 f fd ["bottom"] (Yb qw):=by
 have sc:=ug
 refine F.okX sc (λvs H Q E h=>by obtain ⟨b,rfl,_⟩:=h;rfl) (λcdv A outer s H vs Q E hr h=>?_)
 obtain ⟨b,rfl,h1,h2⟩:=h
 refine ⟨_,(qh (xz (wc jc (pv 0) qy (wm _)) (qh (zk rfl T.x_BadBottom xt rfl T.g_BadBottom (wn x6 qv))) wg)),?_⟩
 refine exI rfl (wf rfl rfl (exI rfl ?_))
 refine z9 (λq1=>?_) (λq1=>?_)
 ·exact ⟨by decide,h2 q1⟩
 ·exact h1 (by lia)
theorem qjm {f:Aj}{fd:Ad}(F:Fun K "_law_cell" "_law_cell" s__law_cell f fd)(T:Txt K mg qf qt qw qx qb qp wx qm wv wq qr qz qg qk):FnOk P w K mg base (CXE P w) 1 f fd ["_law_script","_law_at"] (qq2 K):=by
 have sc:=Z3
 refine F.okX sc (λvs H Q E h=>by obtain ⟨a,ns,i,rfl,_⟩:=h;rfl) (λcdv A outer s H vs Q E hr h=>?_)
 obtain ⟨a,ns,i,rfl,hS,h0,k⟩:=h
 have hlen:(ns.map V.int).length=ns.length:=ah _
 refine ⟨_,(qu (xz (wc jc (pv 1) (w4 xb rfl T.len_ aD (qc (pv 0) qv)) (wm _)) (qh (wr (z8 zp (pv 0) (pv 1) (λ_ _=>rfl)))) wg)
   (qu (xz (wc x9 (w4 xb rfl T.len_ aD (qc (pv 0) qv)) qy (wm _)) (qh (wr (wu w8 (wu xu qy (pv 1)) qy))) wg)
   (qh (wr (wu w8 (z8 zp (pv 0) (wu zm (pv 1) (w4 xb rfl T.len_ aD (qc (pv 0) qv))) (λ_ _=>rfl)) (wu xu qy (pv 1))))))),?_⟩
 refine exI rfl (exI rfl ⟨_,_,rfl,.inl hS,wf rfl rfl (exI rfl ?_)⟩)
 refine z9 (λq1=>?_) (λq1=>?_)
 ·rw [hlen] at q1
  refine exI rfl (exI rfl (exX rfl rfl hS (u8 h0 q1) ?_))
  exact k _ (by rw [Jv,av q1])
 ·rw [hlen] at q1
  refine exI rfl ⟨_,_,rfl,.inl hS,rfl,_,rfl,?_⟩
  rw [hlen]
  refine x4 (λq2=>?_) (λq2=>?_)
  ·refine exI rfl (wf rfl rfl ⟨(by walk_at "mul"),wf rfl rfl ?_⟩)
   exact k _ (by rw [Jv,ao q1,av q2])
  ·refine exI rfl (exI rfl (exI rfl ⟨_,_,rfl,.inl hS,wf rfl rfl ⟨(by rw [hlen];lia),?_⟩⟩))
   rw [hlen]
   refine exX rfl rfl hS (u8 (aQ _ q2) (aG _ (by lia))) (exI rfl (wf rfl rfl ⟨(by walk_at "mul"),wf rfl rfl ?_⟩))
   exact k _ (by rw [Jv,ao q1,ao q2])
theorem qyb {f:Aj}{fd:Ad}(F:Fun K "_law_pick" "_law_pick" s__law_pick f fd)(T:Txt K mg qf qt qw qx qb qp wx qm wv wq qr qz qg qk)(c__law_cell:Cal P w K mg base "_law_cell" 1 (qq2 K)):FnOk P w K mg base (CXE P w) 2 f fd ["_law_script","_law_at","_law_turn","_law_many"] (jg K):=by
 have sc:=Z2
 refine F.okX sc (λvs H Q E h=>by obtain ⟨a,ns,i,t,m,rfl,_⟩:=h;rfl) (λcdv A outer s H vs Q E hr h=>?_)
 obtain ⟨a,ns,i,t,m,rfl,hS,h0,t0,t1,m0,k⟩:=h
 refine ⟨_,(qu (wp (i:=4) sc.nd rfl (by walk_at "loc") (ww c__law_cell (hr.mono (by decide)) rfl qj (qc (pv 0) (qc (pv 1) qv))))
   (qu (xz (wc qz9 (w4 Q9 rfl T.abs_ Qp (qc (pv 4) qv)) (wu op_pow qy qy) (wm _)) (qu (wp (i:=5) sc.nd rfl (by walk_at "loc") (w4 Q9 rfl T.abs_ Qp (qc (pv 4) qv)))
   (qu (Wx aV rfl (zx rfl T.range_ (qc (pv 2) qv)) (xq (i:=6) sc.nd rfl (by walk_at "loc")) (qh (wp (i:=5) sc.nd rfl (by walk_at "loc") (wu kh (pv 5) qy))))
   (qu (xz (wc jc (pv 4) qy (wm _)) (qh (wp (i:=5) sc.nd rfl (by walk_at "loc") (wu zm (pv 5) qy))) wg)
   (qh (wr (wu zm (pv 5) (pv 3))))))) wg)
   (qu (wp (i:=7) sc.nd rfl (by walk_at "loc") (wu zm (pv 4) qy))
   (qu (wp (i:=8) sc.nd rfl (by walk_at "loc") (wu zm (wu w8 (wu w8 (wu xu (pv 7) qy) (wu xu (pv 2) qy)) qy) qy))
   (qu (wp (i:=9) sc.nd rfl (by walk_at "loc") (wu zm (wu w8 (wu w8 (wu xu (pv 8) (pv 8)) (wu xu (pv 7) qy)) (wu xu (pv 2) qy)) qy))
   (qh (wr (wu zm (wu zm (wu w8 (wu w8 (wu xu (pv 9) (pv 9)) (wu xu (pv 8) qy)) (wu xu (pv 2) qy)) qy) (pv 3))))))))),?_⟩
 refine exI rfl (exI rfl ?_)
 refine ⟨a,ns,i,rfl,hS,h0,λc hc=>?_⟩
 have fin:∀v,v=J3 c t%m→Q (.int v) H:=λv hv=>by
  refine k v (by rw [hv,Jd,hc]) ?_ ?_
  ·rw [hv];exact aQ _ (by lia)
  ·rw [hv];exact aG _ m0
 refine exI rfl (exI rfl (wf rfl rfl ⟨⟨by decide,by decide,by decide⟩,wf rfl rfl (exI rfl ?_)⟩))
 refine z9 (λq1=>?_) (λq1=>?_)
 ·have q1':10 ^ 18≤kz c:=q1
  refine exI rfl (exI rfl ?_)
  refine exI rfl ⟨t,rfl,(by lia),(by lia),jx (λj σ H1=>H1=H∧∃z,σ=[some (.ref a),some (.int i),some (.int t),some (.int m),some (.int c),some (.int (divs (kz c) j)),z,none,none,none]) ⟨rfl,_,rfl⟩ ?_ ?_⟩
  ·rintro j σ H1 hj ⟨rfl,z,rfl⟩
   exact exI rfl (wf rfl rfl ⟨(by walk_at "div"),rfl,_,rfl⟩)
  ·rintro σ H1 ⟨rfl,z,rfl⟩
   refine exI rfl (wf rfl rfl (exI rfl ?_))
   refine z9 (λq2=>?_) (λq2=>?_)
   ·refine exI rfl (wf rfl rfl ⟨(by walk_at "pos"),exI rfl (exI rfl (wf rfl rfl ⟨(by walk_at "pos"),?_⟩))⟩)
    exact fin _ (by rw [qvr q1' q2])
   ·refine exI rfl (exI rfl (wf rfl rfl ⟨(by walk_at "pos"),?_⟩))
    exact fin _ (by rw [qzz q1' q2])
 ·have q1':¬ 10 ^ 18≤kz c:=q1
  have l0:=aQ c (show (1000003:Int)≠0 by decide)
  have l1:=aG c (show (0:Int)<1000003 by decide)
  refine exI rfl (wf rfl rfl ⟨(by walk_at "pos"),exI rfl (wf rfl rfl ⟨(by walk_at "mul"),exI rfl (wf rfl rfl ⟨(by walk_at "mul"),wf rfl rfl (wf rfl rfl (wf rfl rfl ⟨(by walk_at "pos"),?_⟩))⟩)⟩)⟩)
  have o0:0≤Zt c t:=aQ _ (by decide)
  have o1:Zt c t<999983:=aG _ (by decide)
  refine ⟨V.int (Zt c t),rfl,V.int (Zt c t),rfl,wf rfl rfl ⟨(by walk_at "mul"),exI rfl (wf rfl rfl ⟨(by walk_at "mul"),wf rfl rfl (exI rfl (wf rfl rfl ⟨(by walk_at "mul"),wf rfl rfl (wf rfl rfl ⟨(by walk_at "pos"),?_⟩)⟩))⟩)⟩⟩
  have w0:0≤qqw c t:=aQ _ (by decide)
  have w1:qqw c t<1000033:=aG _ (by decide)
  refine ⟨V.int (qqw c t),rfl,V.int (qqw c t),rfl,wf rfl rfl ⟨(by walk_at "mul"),V.int (Zt c t),rfl,wf rfl rfl ⟨(by walk_at "mul"),wf rfl rfl (exI rfl (wf rfl rfl ⟨(by walk_at "mul"),wf rfl rfl (wf rfl rfl ⟨(by walk_at "pos"),exI rfl (wf rfl rfl ⟨(by walk_at "pos"),?_⟩)⟩)⟩))⟩⟩⟩
  exact fin _ (by rw [qku q1'])
def Within (n f:Int)(m:Option Int):Prop:=f≤n∧∀b,m=some b→n≤b
def jt (C:Aj):Sp:=λvs H Q E=>∃(n f:Int) (m:V) (o:Option Int),vs=[.int n,.int f,m]∧(m=.non∧o=none∨∃b,m=.int b∧o=some b)∧(Within n f o→Q .non H)∧(¬ Within n f o→E (.ref C) none H)
theorem qvs {f:Aj}{fd:Ad}(F:FunD K "check_count" s_check_count f fd)(T:Txt K mg qf qt qw qx qb qp wx qm wv wq qr qz qg qk):FnOk P w K mg base (CXE P w) 1 f fd ["number","fewest","most"] (jt qb):=by
 have sc:=Qb
 refine F.okX sc (λvs H Q E h=>by obtain ⟨n,f,m,o,rfl,_⟩:=h;rfl) (λcdv A outer s H vs Q E hr h=>?_)
 obtain ⟨n,fe,m,o,rfl,hm,k,x⟩:=h
 refine ⟨_,(qh (xz (PW.pt (Zn (wc jc (pv 0) (pv 1) (wm _)) (yp (PW.pt (pw_and (wc qjg (pv 2) Zr (wm _)) (qj4 (wc Wk (pv 0) (pv 2) (wm _)))))))) (qh (zk rfl T.x_BadCount xt rfl T.g_BadCount (wn x6 qv))) wg)),?_⟩
 refine exI rfl (exI rfl (wf rfl rfl (exI rfl ?_)))
 refine z9 (λq1=>?_) (λq1=>?_)
 ·refine j3 ?_
  exact ⟨sz1,x (λz=>by have:=z.1;lia)⟩
 ·rcases hm with ⟨rfl,rfl⟩|⟨b,rfl,rfl⟩
  ·refine exI rfl ⟨rfl,_,rfl,?_⟩
   refine Y1 ?_
   exact k ⟨by lia,λb e=>nomatch e⟩
  ·refine exI rfl ⟨rfl,_,rfl,?_⟩
   refine j3 ?_
   refine exI rfl (exI rfl (wf rfl rfl (exI rfl ?_)))
   refine z9 (λq2=>?_) (λq2=>?_)
   ·exact ⟨sz1,x (λz=>by have:=z.2 b rfl;lia)⟩
   ·exact k ⟨by lia,λb' e=>by cases e;lia⟩
def wt (ns:List Int):Prop:=2≤ns.length∧ns.length≤25∧∀h∈ns,0≤h∧h≤(ns.length:Int)-1
def Qu (K:Aa):Sp:=λvs H Q _=>∃(p:Aj) (ns:List Int),vs=[.ref p]∧SqL K H p (ns.map V.int)∧(wt ns→Q (.bl true) H)∧(¬ wt ns→Q (.bl false) H)
theorem qq1 {f:Aj}{fd:Ad}(F:Fun K "is_line" "is_line" s_is_line f fd)(T:Txt K mg qf qt qw qx qb qp wx qm wv wq qr qz qg qk):FnOk P w K mg base (CXE P w) 1 f fd ["heights"] (Qu K):=by
 have sc:=qqd
 refine F.okX sc (λvs H Q E h=>by obtain ⟨p,ns,rfl,_⟩:=h;rfl) (λcdv A outer s H vs Q E hr h=>?_)
 obtain ⟨p,ns,rfl,hS,k1,k2⟩:=h
 have hlen:(ns.map V.int).length=ns.length:=ah _
 obtain ⟨tw,g_WIDEST⟩:=T.g_WIDEST
 refine ⟨_,(qu (wp (i:=1) sc.nd rfl (by walk_at "loc") (wu zf (w4 xb rfl T.len_ aD (qc (pv 0) qv)) qy))
   (qu (xz (PW.pt (Zn (wc jc (pv 1) qy (wm _)) (yp (wc Wk (pv 1) (vb (v:=V.int 24) rfl g_WIDEST ⟨_,rfl⟩) (wm _))))) (qh (wr Jx)) wg)
   (qh (wr (pe_and (Yt qz9 (w4 (Wp rfl) rfl T.min_ bY (qc (pv 0) qv)) qy (wm _)) (pe_one (Yt op_le (w4 (Wb rfl) rfl T.max_ bZ (qc (pv 0) qv)) (pv 1) (wm _)))))))),?_⟩
 refine exI rfl ⟨_,_,rfl,.inl hS,wf rfl rfl ?_⟩
 refine exI rfl (wf rfl rfl (exI rfl ?_))
 rw [hlen]
 refine z9 (λq1=>?_) (λq1=>?_)
 ·refine j3 ?_
  exact k2 (λz=>by have:=z.1;lia)
 ·refine exI rfl (wf rfl rfl (exI rfl ?_))
  refine z9 (λq2=>?_) (λq2=>?_)
  ·exact k2 (λz=>by have:=z.2.1;lia)
  ·refine exI rfl ⟨p,ns,rfl,hS,(by lia),λm hm hle=>(wf rfl rfl (exI rfl ?_))⟩
   refine z9 (λq3=>?_) (λq3=>?_)
   ·refine exI rfl ⟨p,ns,rfl,hS,(by lia),λm2 hm2 hle2=>(exI rfl (wf rfl rfl ?_))⟩
    show Q (.bl (decide (m2≤(ns.length:Int)-1))) H
    by_cases q4:m2≤(ns.length:Int)-1
    ·rw [aP q4]
     exact k1 ⟨by lia,by lia,λh hh=>by have:=hle h hh;have:=hle2 h hh;lia⟩
    ·rw [aL q4]
     exact k2 (λz=>q4 (z.2.2 m2 hm2).2)
   ·exact k2 (λz=>q3 (z.2.2 m hm).1)
def RoadAt (C:Aj)(H:Hp)(r:Aj)(ns:List Int):Prop:=∃dx q,H r=some (.ins C dx [("heights",.ref q)])∧H q=some (.lst (ns.map V.int))
theorem RoadAt.same {C:Aj}{H H':Hp}{r:Aj}{ns:List Int}(h:RoadAt C H r ns)(s:Same H H'):RoadAt C H' r ns:=by
 obtain ⟨dx,q,h1,h2⟩:=h
 exact ⟨dx,q,s _ _ h1,s _ _ h2⟩
theorem vt {q:Aj}:([("heights",V.ref q)]:List (Str×V)).lookup ("heights" : Str)=some (.ref q):=by
 rw [ax]
 simp
theorem w6 {q:Aj}{m:Str}(h:¬ m = "heights"):([("heights",V.ref q)]:List (Str×V)).lookup m=none:=by
 rw [ax]
 have:(m==("heights" : Str))=false:=aA.mpr h
 rw [this]
 rfl
def Wy (K:Aa)(CB C:Aj):Sp:=λvs H Q E=>∃(r dx p:Aj) (ns:List Int),vs=[.ref r,.ref p]∧H r=some (.ins C dx [])∧SqL K H p (ns.map V.int) ∧
 (wt ns→∀H' q,H q=none→(∀b o,H b=some o→b≠r→H' b=some o)→H' r=some (.ins C dx [("heights",.ref q)])→H' q=some (.lst (ns.map V.int))→Q .non H')∧(¬ wt ns→E (.ref CB) none H)
theorem qj2 {f:Aj}{fd:Ad}(F:Fun K "__init__" "Road.__init__" s_Road___init__ f fd)(T:Txt K mg qf qt qw qx qb qp wx qm wv wq qr qz qg qk)(c_is_line:Cal P w K mg base "is_line" 1 (Qu K)):FnOk P w K mg base (CXE P w) 2 f fd ["self","heights"] (Wy K qt qz):=by
 have sc:=uk
 refine F.okX sc (λvs H Q E h=>by obtain ⟨r,dx,p,ns,rfl,_⟩:=h;rfl) (λcdv A outer s H vs Q E hr h=>?_)
 obtain ⟨r,dx,p,ns,rfl,hr0,hS,k,x⟩:=h
 refine ⟨_,(qu (xz (qky (qkq (ww c_is_line (hr.mono (by decide)) rfl qj (qc (pv 1) qv)))) (qh (zk rfl T.x_BadLine xt rfl T.g_BadLine (wn x6 qv))) wg)
   (qh (jm (pv 0) (jv vm rfl T.list_ bD (qc (pv 1) qv)) rfl))),?_⟩
 refine ⟨_,rfl,p,ns,rfl,hS,λok=>(exI rfl ?_),λbad=>(exI rfl ?_)⟩
 ·refine Y1 ?_
  refine exI rfl ⟨_,_,rfl,.inl hS,λq nq=>?_⟩
  have hr1:upd H q (.lst (ns.map V.int)) r=some (.ins qz dx []):=by rw [q8 (qd hr0 nq)];exact hr0
  refine exI rfl ⟨r,qz,dx,[],rfl,hr1,T.cl,T.na,(by show 0<1000;decide),?_⟩
  refine k ok _ q nq (λb o e n=>?_) q9 ?_
  ·rw [q8 n,q8 (qd e nq)]
   exact e
  ·rw [q8 (qd hr0 nq).symm,q9]
 ·refine j3 ?_
  exact ⟨sz1,x bad⟩
def yk (C:Aj):Sp:=λvs H Q _=>∃(r:Aj) (ns:List Int),vs=[.ref r]∧RoadAt C H r ns∧Q (.int ((ns.length:Int)-1)) H
theorem qvd {f:Aj}{fd:Ad}(F:Fun K "width" "Road.width" s_Road_width f fd)(T:Txt K mg qf qt qw qx qb qp wx qm wv wq qr qz qg qk):FnOk P w K mg base (CXE P w) 1 f fd ["self"] (yk qz):=by
 have sc:=Wc
 refine F.okX sc (λvs H Q E h=>by obtain ⟨r,ns,rfl,_⟩:=h;rfl) (λcdv A outer s H vs Q E hr h=>?_)
 obtain ⟨r,ns,rfl,⟨dx,q,h1,h2⟩,k⟩:=h
 refine ⟨_,(qh (wr (wu zf (w4 xb rfl T.len_ aD (xp (vd (pv 0) rfl) qv)) qy))),?_⟩
 refine exI rfl ⟨r,qz,dx,_,_,rfl,h1,T.cl,T.na,vt,q,exI rfl ⟨.inl (SqL.of h2),wf rfl rfl ?_⟩⟩
 rw [ah]
 exact k
def InW (ns:List Int)(wd:Int):Prop:=(ns.length:Int)=wd+1∧∀h∈ns,0≤h∧h≤wd
def Qw (K:Aa):Sp:=λvs H Q _=>∃(a:Aj) (ns:List Int) (i wd:Int),vs=[.ref a,.int i,.int wd]∧SqL K H a (ns.map V.int)∧0≤i∧1≤wd∧wd≤24 ∧
 ∀p hs,H p=none→InW hs wd→Q (.ref p) (upd H p (.lst (hs.map V.int)))
theorem qz3 {f:Aj}{fd:Ad}(F:Fun K "_law_climb" "_law_climb" s__law_climb f fd)(T:Txt K mg qf qt qw qx qb qp wx qm wv wq qr qz qg qk)(c__law_pick:Cal P w K mg base "_law_pick" 2 (jg K)):FnOk P w K mg base (CXE P w) 3 f fd ["_law_script","_law_at","_law_wide"] (Qw K):=by
 have sc:=Wm
 refine F.okX sc (λvs H Q E h=>by obtain ⟨a,ns,i,wd,rfl,_⟩:=h;rfl) (λcdv A outer s H vs Q E hr h=>?_)
 obtain ⟨a,ns,i,wd,rfl,hS,h0,w1,w2,k⟩:=h
 refine ⟨_,(qu (wp (i:=3) sc.nd rfl (by walk_at "loc") (Wj (vw (ww c__law_pick (hr.mono (by decide)) rfl qj (qc (pv 0) (qc (pv 1) (wn qy (zj (wu w8 (pv 2) qy) qv))))) qv)))
   (qu (Wx aV rfl (zx rfl T.range_ (qc (pv 2) qv)) (xq (i:=4) sc.nd rfl (by walk_at "loc")) (qh (xk (qws bx bK bL jz (pv 3) (vw (w4 (Zg rfl) rfl T.max_ bZ (wn qy (vw (w4 (Zh rfl) rfl T.min_ bY (qc (pv 2) (zj (wu zf (wu w8 (z8 zp (pv 3) (qwh Y2 qy) (λ_ _=>rfl)) (wu xu qy (ww c__law_pick (hr.mono (by decide)) rfl qj (qc (pv 0) (qc (pv 1) (zj (wu w8 qy (pv 4)) (wn qy qv))))))) qy) qv))) qv))) qv)))))
   (qh (wr (pv 3))))),?_⟩
 refine exI rfl (exI rfl (exI rfl (wf rfl rfl ⟨a,ns,_,_,_,rfl,hS,h0,(by lia),(by lia),(by lia),λr1 _ l1 u1=>⟨sz1,λp np=>?_⟩⟩)))
 refine ⟨_,rfl,wd,rfl,(by lia),(by lia),jx (λj σ H1=>∃(ys:List Int) (l:Int) (z:Option V),ys.length=j∧(∀h∈ys++[l],0≤h∧h≤wd)∧H1=upd H p (.lst ((ys++[l]).map V.int))∧σ=[some (.ref a),some (.int i),some (.int wd),some (.ref p),z])
  ⟨[],r1,none,rfl,(λh hh=>by have e:=aB.mp hh;subst e;lia),rfl,rfl⟩ ?_ ?_⟩
 ·rintro j σ H1 hj ⟨ys,l,z,hy,hb,rfl,rfl⟩
  have hp:upd H p (.lst ((ys++[l]).map V.int)) p=some (.lst ((ys++[l]).map V.int)):=q9
  have hS1:SqL K (upd H p (.lst ((ys++[l]).map V.int))) a (ns.map V.int):=Same.sql (Same.upd np) hS
  have hlast:atI ((ys++[l]).map V.int) (-1)=some (V.int l):=by
   rw [bp]
   exact Jg _ _
  have hl:=hb l (by simp)
  refine exI rfl ⟨.inl ⟨rfl,_,SqL.of hp⟩,exI rfl (exI rfl (exI rfl (exX rfl rfl (SqL.of hp) hlast (exI rfl (exI rfl (exI rfl (wf rfl rfl ⟨a,ns,_,_,_,rfl,hS1,h0,(by lia),(by lia),(by lia),λr2 _ l2 u2=>?_⟩)))))))⟩
  refine wf rfl rfl ⟨(by walk_at "mul"),wf rfl rfl (wf rfl rfl ⟨_,_,rfl,_,_,rfl,_,_,_,rfl,rfl,hp,?_,?_⟩)⟩
  ·rw [ah,aS,hy]
   have:(1000000:Nat)<sizeLine:=by decide
   simp only [aN,cj]
   lia
  ·refine ⟨ys++[l],(if (if l+2*r2-1<wd then l+2*r2-1 else wd)>0 then (if l+2*r2-1<wd then l+2*r2-1 else wd) else 0),_,by rw [aS,hy];rfl,λh hh=>?_,?_,rfl⟩
   ·rcases bc.mp hh with hh|hh
    ·exact hb h hh
    ·have e:=aB.mp hh
     subst e
     by_cases g1:l+2*r2-1<wd
     ·rw [av g1]
      by_cases g2:l+2*r2-1>0
      ·rw [av g2];lia
      ·rw [ao g2];lia
     ·rw [ao g1,av (show wd>0 by lia)];lia
   ·rw [yc,bp (l₁:=ys++[l])]
    rfl
 ·rintro σ H1 ⟨ys,l,z,hy,hb,rfl,rfl⟩
  refine exI rfl (k p _ np ⟨?_,hb⟩)
  rw [aS,hy]
  simp only [aN,cj]
  lia
def y8 (K:Aa):Sp:=λvs H Q _=>∃(a:Aj) (ns:List Int) (i m:Int),vs=[.ref a,.int i,.int m]∧SqL K H a (ns.map V.int)∧0≤i∧1≤m∧m≤24 ∧
 ∀p hs wd,H p=none→1≤wd→wd≤m→InW hs wd→Q (.ref p) (upd H p (.lst (hs.map V.int)))
theorem qxr {wd:Int}{n:Nat}(g:Nat→Int)(h1:(n:Int)=wd+1)(h2:∀i,i<n→0≤g i∧g i≤wd):InW ((List.range n).map g) wd:=by
 refine ⟨by rw [ah,bt];exact h1,λh hh=>?_⟩
 obtain ⟨i,hi,rfl⟩:=bd.mp hh
 exact h2 i (bw.mp hi)
theorem Wg (n:Nat)(g:Nat→Int):(List.range n).map (λi=>V.int (g i))=((List.range n).map g).map V.int:=by
 rw [List.map_map]
 rfl
theorem qq3 {f:Aj}{fd:Ad}(F:Fun K "_law_heights" "_law_heights" s__law_heights f fd)(T:Txt K mg qf qt qw qx qb qp wx qm wv wq qr qz qg qk)(c__law_pick:Cal P w K mg base "_law_pick" 2 (jg K))(c__law_climb:Cal P w K mg base "_law_climb" 3 (Qw K)) :
  FnOk P w K mg base (CXE P w) 4 f fd ["_law_script","_law_at","_law_most"] (y8 K):=by
 have sc:=um
 refine F.okX sc (λvs H Q E h=>by obtain ⟨a,ns,i,m,rfl,_⟩:=h;rfl) (λcdv A outer s H vs Q E hr h=>?_)
 obtain ⟨a,ns,i,m,rfl,hS,h0,m1,m2,k⟩:=h
 refine ⟨_,(qu (wp (i:=3) sc.nd rfl (by walk_at "loc") (wu w8 qy (ww c__law_pick (hr.mono (by decide)) rfl qj (qc (pv 0) (qc (pv 1) (wn qy (qc (pv 2) qv)))))))
   (qu (wp (i:=4) sc.nd rfl (by walk_at "loc") (ww c__law_pick (hr.mono (by decide)) rfl qj (qc (pv 0) (qc (pv 1) (wn qy (wn qy qv))))))
   (qu (xz (wc x9 (pv 4) qy (wm _)) (qh (wr (jq (M:=[3]) rfl rfl (by walk_at "cap") (by walk_at "has") (by walk_at "cix") rfl (by decide +kernel) rfl (show List.Nodup (["_law_k","_law_wide"]:List Str) by decide +kernel) (zx rfl T.range_ (zj (wu w8 (pv 3) qy) qv)) (λ_ _ _ _ _=>(wu xu (pv 1) (wu zm (pv 0) qy)))))) wg)
   (qu (xz (wc x9 (pv 4) qy (wm _)) (qh (wr (jq (M:=[]) rfl rfl (by walk_at "cap") (by walk_at "has") (by walk_at "cix") rfl (by decide +kernel) rfl (show List.Nodup (["_law_k"]:List Str) by decide +kernel) (zx rfl T.range_ (zj (wu w8 (pv 3) qy) qv)) (λ_ _ _ _ _=>(pv 0))))) wg)
   (qu (xz (wc x9 (pv 4) qy (wm _)) (qh (wr (jq (M:=[3]) rfl rfl (by walk_at "cap") (by walk_at "has") (by walk_at "cix") rfl (by decide +kernel) rfl (show List.Nodup (["_law_k","_law_wide"]:List Str) by decide +kernel) (zx rfl T.range_ (zj (wu w8 (pv 3) qy) qv)) (λ_ _ _ _ _=>(wu zf (pv 1) (pv 0)))))) wg)
   (qu (xz (wc x9 (pv 4) qy (wm _)) (qh (wr (jq (M:=[3]) rfl rfl (by walk_at "cap") (by walk_at "has") (by walk_at "cix") rfl (by decide +kernel) rfl (show List.Nodup (["_law_k","_law_wide"]:List Str) by decide +kernel) (zx rfl T.range_ (zj (wu w8 (pv 3) qy) qv)) (λ_ _ _ _ _=>(wu zm (wu w8 (wu xu qy (pv 0)) qy) (wu w8 (pv 1) qy)))))) wg)
   (qu (xz (PW.pt (Zn (wc x9 (pv 4) qy (wm _)) (yp (wc x9 (pv 4) qy (wm _))))) (qh (wr (ww c__law_climb (hr.mono (by decide)) rfl qj (qc (pv 0) (qc (pv 1) (qc (pv 3) qv)))))) wg)
   (qh (wr (jq (M:=[0,1,3]) rfl rfl (by walk_at "cap") (by walk_at "has") (by walk_at "cix") rfl (by decide +kernel) rfl (show List.Nodup (["_law_k","_law_script","_law_at","_law_wide"]:List Str) by decide +kernel) (zx rfl T.range_ (zj (wu w8 (pv 3) qy) qv)) (λ_ _ _ _ _=>(ww c__law_pick (hr.mono (by decide)) rfl passE0 (qc (pv 1) (qc (pv 2) (zj (wu w8 qy (pv 0)) (zj (wu w8 (pv 3) qy) qv)))))))))))))))),?_⟩
 refine exI rfl (exI rfl (exI rfl ⟨a,ns,_,_,_,rfl,hS,h0,(by lia),(by lia),(by lia),λr1 _ l1 u1=>?_⟩))
 refine wf rfl rfl (exI rfl (exI rfl ⟨a,ns,_,_,_,rfl,hS,h0,(by lia),(by lia),(by lia),λkd _ l2 u2=>?_⟩))
 have hn:((1+r1+1).toNat:Int)=1+r1+1:=by lia
 have hn2:(1+r1+1).toNat≤1000000:=by lia
 have fin:∀(g:Nat→Int) (p:Aj),(∀j,j<(1+r1+1).toNat→0≤g j∧g j≤1+r1)→H p=none→Q (.ref p) (upd H p (.lst ((List.range (1+r1+1).toNat).map λj=>V.int (g j)))):=λg p hg np=>by
  rw [Wg]
  exact k p _ (1+r1) np (by lia) (by lia) (qxr g hn hg)
 refine exI rfl ⟨rfl,_,rfl,x4 (λq1=>?_) (λq1=>?_)⟩
 ·refine exI rfl (wf rfl rfl ⟨1+r1+1,rfl,(by lia),(by lia),vz (λj=>V.int ((1+r1)*(((0:Int)+j)%2))) hn2 (λj H' R hj hs hR=>?_) λp np=>fin _ p (λj hj=>?_) np⟩)
  ·exact exI rfl (exI rfl (wf rfl rfl ⟨(by walk_at "pos"),wf rfl rfl ⟨(by walk_at "mul"),hR⟩⟩))
  ·have a1:=aQ ((0:Int)+j) (show (2:Int)≠0 by decide)
   have a2:=aG ((0:Int)+j) (show (0:Int)<2 by decide)
   rcases (by lia:((0:Int)+j)%2=0∨((0:Int)+j)%2=1) with e|e <;> rw [e] <;> lia
 ·refine exI rfl ⟨rfl,_,rfl,x4 (λq2=>?_) (λq2=>?_)⟩
  ·refine exI rfl (wf rfl rfl ⟨1+r1+1,rfl,(by lia),(by lia),vz (λj=>V.int ((0:Int)+j)) hn2 (λj H' R hj hs hR=>?_) λp np=>fin _ p (λj hj=>by lia) np⟩)
   exact exI rfl hR
  ·refine exI rfl ⟨rfl,_,rfl,x4 (λq3=>?_) (λq3=>?_)⟩
   ·refine exI rfl (wf rfl rfl ⟨1+r1+1,rfl,(by lia),(by lia),vz (λj=>V.int (1+r1-((0:Int)+j))) hn2 (λj H' R hj hs hR=>?_) λp np=>fin _ p (λj hj=>by lia) np⟩)
    exact exI rfl (exI rfl (wf rfl rfl hR))
   ·refine exI rfl ⟨rfl,_,rfl,x4 (λq4=>?_) (λq4=>?_)⟩
    ·refine exI rfl (wf rfl rfl ⟨1+r1+1,rfl,(by lia),(by lia),vz (λj=>V.int ((2*((0:Int)+j)+1)%(1+r1+1))) hn2 (λj H' R hj hs hR=>?_) λp np=>fin _ p (λj hj=>?_) np⟩)
     ·exact exI rfl (wf rfl rfl ⟨(by walk_at "mul"),wf rfl rfl (exI rfl (wf rfl rfl (wf rfl rfl ⟨(by walk_at "pos"),hR⟩)))⟩)
     ·have a1:=aQ (2*((0:Int)+j)+1) (show 1+r1+1≠0 by lia)
      have a2:=aG (2*((0:Int)+j)+1) (show 0<1+r1+1 by lia)
      lia
    ·have last:tRet (tComp [0,1,3] (iRng1 (xc (tOp (rI0 λi j=>.int (i+j)) (yd 3) (tC (.int 1))) z5)) (Qt (jg K) (λ_=>E0) (xc (yd 1) (xc (yd 2) (xc (tOp (rI0 λi j=>.int (i+j)) (tC (.int 3)) (yd 0)) (xc (tOp (rI0 λi j=>.int (i+j)) (yd 3) (tC (.int 1))) z5))))))
       { nx:=λ_ H'=>Q .non H',rt:=Q } [some (.ref a),some (.int i),some (.int m),some (.int (1+r1)),some (.int kd)] H:=by
      refine exI rfl (wf rfl rfl ⟨1+r1+1,rfl,(by lia),(by lia),vz (λj=>V.int (Jd ns i (3+((0:Int)+j)) (1+r1+1))) hn2 (λj H' R hj hs hR=>?_) λp np=>fin _ p (λj hj=>?_) np⟩)
      ·refine exI rfl (exI rfl (exI rfl (wf rfl rfl (exI rfl (wf rfl rfl ⟨a,ns,_,_,_,rfl,Same.sql hs hS,h0,(by lia),(by lia),(by lia),λr e _ _=>?_⟩)))))
       rw [e]
       exact hR
      ·have a1:=qvz ns i (3+((0:Int)+j)) (1+r1+1) (by lia)
       have a2:=qz0 ns i (3+((0:Int)+j)) (1+r1+1) (by lia)
       lia
     have climb:tRet (Qt (Qw K) (λ_=>E) (xc (yd 0) (xc (yd 1) (xc (yd 3) z5)))) { nx:=λ_ H'=>Q .non H',rt:=Q } [some (.ref a),some (.int i),some (.int m),some (.int (1+r1)),some (.int kd)] H :=
      (exI rfl (exI rfl (exI rfl ⟨a,ns,i,1+r1,rfl,hS,h0,(by lia),(by lia),λp hs np hw=>k p hs (1+r1) np (by lia) (by lia) hw⟩)))
     refine exI rfl ⟨rfl,_,rfl,x4 (λq5=>j3 climb) (λq5=>?_)⟩
     exact exI rfl ⟨rfl,_,rfl,x4 (λq6=>climb) (λq6=>last)⟩
def qkr:Sp:=λvs H Q _=>∃x y:Int,vs=[.int x,.int y]∧0≤x∧0≤y∧Q (.int (ur x y)) H
theorem qvx {tb:TS}{c:TT}{D:Ends}{H:Hp}{x y:Int}(hx:0≤x)(hy:0≤y)(hc:c=tTest (tOp (rI0 λi j=>.bl (decide (j<i))) (yd 1) (tC (.int 0))))(hb:tb=tPar 0 1 (xc (yd 1) (xc (tOp (rI (λ_ j=>0<j) λi j=>.int (i%j)) (yd 0) (yd 1)) z5)))
  (hD:D.nx [some (.int (ur x y)),some (.int 0)] H):qqf c tb D [some (.int x),some (.int y)] H:=by
 subst hc hb
 refine Qn (λσ H1=>H1=H∧∃u v:Int,σ=[some (.int u),some (.int v)]∧0≤u∧0≤v∧ur u v=ur x y) (λσ _=>match σ with|[_,some (.int v)]=>v.toNat|_=>0) ⟨rfl,x,y,rfl,hx,hy,rfl⟩ ?_ λσ H Q Q' h ⟨v,e,i,j,e1,e2,k,e3,q⟩=>⟨v,e,i,j,e1,e2,k,e3,h _ _ q⟩
 rintro σ H1 ⟨rfl,u,v,rfl,hu,hv,e⟩
 refine exI rfl (wf rfl rfl (exI rfl ?_))
 refine z9 (λq=>?_) (λq=>?_)
 ·have h1:=aQ u (show v≠0 by lia)
  have h2:=aG u q
  refine exI rfl (exI rfl (exI rfl (wf rfl rfl ⟨q,_,_,rfl,⟨rfl,v,u%v,rfl,hv,h1,?_⟩,?_⟩)))
  ·rw [qx7 hu q,e]
  ·show (u%v).toNat<v.toNat
   lia
 ·have z:v=0:=by lia
  subst z
  rw [qzg hu] at e
  subst e
  exact hD
theorem ok_gcd {f:Aj}{fd:Ad}(F:Fun K "common_divisor" "common_divisor" s_common_divisor f fd)(T:Txt K mg qf qt qw qx qb qp wx qm wv wq qr qz qg qk):FnOk P w K mg base (CXE P w) 1 f fd ["one","other"] qkr:=by
 have sc:=jp
 refine F.okX sc (λvs H Q E h=>by obtain ⟨x,y,rfl,_⟩:=h;rfl) (λcdv A outer s H vs Q E hr h=>?_)
 obtain ⟨x,y,rfl,hx,hy,k⟩:=h
 refine ⟨_,(qu (Qf aV (wc Wk (pv 1) qy (wm _)) (qh (ps_par (i:=0) (j:=1) rfl sc.nd rfl rfl (by decide) rfl rfl (qc (pv 1) (zj (wu zm (pv 0) (pv 1)) qv)) rfl)))
   (qh (wr (pv 0)))),?_⟩
 exact qvx hx hy rfl rfl (exI rfl k)
def ptV (p:Int×Int):List V:=[.int p.1,.int p.2]
def ky (C:Aj):Sp:=λvs H Q E=>∃t b:Int,vs=[.int t,.int b]∧(1≤b→Sm 9000 b∧∀p,H p=none→Q (.ref p) (upd H p (.tup (ptV (wj t b)))))∧(b<1→E (.ref C) none H)
theorem qxt {f:Aj}{fd:Ad}(F:Fun K "lowest" "lowest" s_lowest f fd)(T:Txt K mg qf qt qw qx qb qp wx qm wv wq qr qz qg qk)(c_check_bottom:Cal P w K mg base "check_bottom" 1 (Yb qw))(c_common_divisor:Cal P w K mg base "common_divisor" 1 qkr) :
  FnOk P w K mg base (CXE P w) 2 f fd ["top","bottom"] (ky qw):=by
 have sc:=qzb
 refine F.okX sc (λvs H Q E h=>by obtain ⟨t,b,rfl,_⟩:=h;rfl) (λcdv A outer s H vs Q E hr h=>?_)
 obtain ⟨t,b,rfl,k,x⟩:=h
 refine ⟨_,(qu (xk (ww c_check_bottom (hr.mono (by decide)) rfl qj (qc (pv 1) qv)))
   (qu (wp (i:=2) sc.nd rfl (by walk_at "loc") (ww c_common_divisor (hr.mono (by decide)) rfl qj (vw (w4 Q9 rfl T.abs_ Qp (qc (pv 0) qv)) (qc (pv 1) qv))))
   (qh (wr (ku (zj (wu kh (pv 0) (pv 2)) (zj (wu kh (pv 1) (pv 2)) qv))))))),?_⟩
 refine ⟨_,rfl,b,rfl,λg1=>?_,λg1=>x g1⟩
 obtain ⟨sb,k⟩:=k g1
 have hg:=vq (t:=t) g1
 have hs:Sm 9000 (gOf t b):=sb.of_le (by have:=gOf_le (t:=t) g1;lia)
 refine exI rfl (exI rfl (exI rfl ⟨kz t,b,rfl,qjy t,(by lia),?_⟩))
 refine exI rfl ⟨V.int (gOf t b),rfl,wf rfl rfl ⟨⟨by lia,hs⟩,exI rfl ⟨V.int (gOf t b),rfl,wf rfl rfl ⟨⟨by lia,hs⟩,sz2,λp n=>?_⟩⟩⟩⟩
 exact k p n
theorem at_h {hs:List Int}{k:Int}(h0:0≤k)(h1:k<hs.length):atI (hs.map V.int) k=some (V.int (hAt hs k)):=u8 h0 h1
theorem h_rng {hs:List Int}(ok:wt hs)(k:Int):0≤hAt hs k∧hAt hs k≤24:=by
 unfold hAt
 rw [aC]
 cases e:hs[k.toNat]? with
 |none=>exact ⟨by decide,by decide⟩
 |some v =>
  have hm:=ok.2.2 v (ce e)
  have:=ok.2.1
  show 0≤v∧v≤24
  lia
def qqu (C CR:Aj):Sp:=λvs H Q E=>∃(r:Aj) (hs:List Int) (k:Int),vs=[.ref r,.int k]∧RoadAt C H r hs∧(0≤k→k<(hs.length:Int)-1→∀p,H p=none→Q (.ref p) (upd H p (.tup [.int (hAt hs k),.int (hAt hs (k+1))]))) ∧
 (k<0∨(hs.length:Int)-1≤k→E (.ref CR) none H)
theorem qj5 {f:Aj}{fd:Ad}(F:Fun K "ends" "Road.ends" s_Road_ends f fd)(T:Txt K mg qf qt qw qx qb qp wx qm wv wq qr qz qg qk)(c_width:MCal P w K mg base qz "width" 1 (yk qz)):FnOk P w K mg base (CXE P w) 2 f fd ["self","stretch"] (qqu qz wx):=by
 have sc:=Yk
 refine F.okX sc (λvs H Q E h=>by obtain ⟨r,hs,k,rfl,_⟩:=h;rfl) (λcdv A outer s H vs Q E hr h=>?_)
 obtain ⟨r,hs,k,rfl,hR,kq,x⟩:=h
 obtain ⟨dx,q,h1,h2⟩:=id hR
 refine ⟨_,(qu (xz (PW.pt (Zn (wc jc (pv 1) qy (wm _)) (yp (wc qz9 (pv 1) (ux (pv 0) T.cl c_width (hr.mono (by decide)) qj) (wm _))))) (qh (zk rfl T.x_BadRow xt rfl T.g_BadRow (wn x6 qv))) wg)
   (qh (wr (ku (v6 (z8 zp (vd (pv 0) rfl) (pv 1) (λ_ _=>rfl)) (v6 (z8 zp (vd (pv 0) rfl) (wu w8 (pv 1) qy) (λ_ _=>rfl)) qv)))))),?_⟩
 refine exI rfl (wf rfl rfl (exI rfl ?_))
 refine z9 (λq1=>?_) (λq1=>?_)
 ·refine j3 ?_
  exact ⟨sz1,x (.inl q1)⟩
 ·refine exI rfl (exI rfl ⟨r,dx,exI rfl ⟨h1,w6 (by decide +kernel),r,hs,rfl,hR,wf rfl rfl (exI rfl ?_)⟩⟩)
  refine z9 (λq2=>?_) (λq2=>?_)
  ·exact ⟨sz1,x (.inr q2)⟩
  ·refine exI rfl ⟨r,qz,dx,_,_,rfl,h1,T.cl,T.na,vt,exI rfl (exX rfl rfl (SqL.of h2) (at_h (by lia) (by lia)) (exI rfl ⟨r,qz,dx,_,_,rfl,h1,T.cl,T.na,vt,exI rfl (wf rfl rfl (exX rfl rfl (SqL.of h2) (at_h (by lia) (by lia)) ⟨sz2,λp np=>?_⟩))⟩))⟩
   exact kq (by lia) (by lia) p np
def xh (hs:List Int)(t b:Int):Prop:=0≤t∧t≤((hs.length:Int)-1)*b
def x8 (K:Aa)(C CB CO:Aj):Sp:=λvs H Q E=>∃(r p:Aj) (hs:List Int) (t b:Int),vs=[.ref r,.ref p]∧RoadAt C H r hs∧wt hs∧SqT K H p [.int t,.int b] ∧
 (1≤b→Sm 8000 b∧(xh hs t b→∀q H',Same H H'→H' q=some (.tup (ptV (wj t b)))→Q (.ref q) H')∧(¬ xh hs t b→∀H',Same H H'→E (.ref CO) none H'))∧(b<1→E (.ref CB) none H)
theorem qwq {f:Aj}{fd:Ad}(F:Fun K "on_road" "Road.on_road" s_Road_on_road f fd)(T:Txt K mg qf qt qw qx qb qp wx qm wv wq qr qz qg qk)(c_width:MCal P w K mg base qz "width" 1 (yk qz))(c_lowest:Cal P w K mg base "lowest" 2 (ky qw)) :
  FnOk P w K mg base (CXE P w) 3 f fd ["self","point"] (x8 K qz qw qx):=by
 have sc:=uf
 refine F.okX sc (λvs H Q E h=>by obtain ⟨r,p,hs,t,b,rfl,_⟩:=h;rfl) (λcdv A outer s H vs Q E hr h=>?_)
 obtain ⟨r,p,hs,t,b,rfl,hR,hok,hp,kq,x⟩:=h
 obtain ⟨dx,q,h1,h2⟩:=id hR
 refine ⟨_,(qu (vn (ww c_lowest (hr.mono (by decide)) rfl qj (v6 (z8 yt (pv 1) qy (λ_ _=>rfl)) (v6 (z8 yt (pv 1) qy (λ_ _=>rfl)) qv))) (vc rfl (xv (xq (i:=2) sc.nd rfl (by walk_at "loc")) (xv (xq (i:=3) sc.nd rfl (by walk_at "loc")) zr))))
   (qu (xz (PW.pt (Zn (wc jc (pv 2) qy (wm _)) (yp (wc Wk (pv 2) (wu xu (ux (pv 0) T.cl c_width (hr.mono (by decide)) qj) (pv 3)) (wm _))))) (qh (zk rfl T.x_OffRoad xt rfl T.g_OffRoad (wn x6 qv))) wg)
   (qh (wr (ku (qc (pv 2) (qc (pv 3) qv))))))),?_⟩
 refine ⟨_,rfl,_,_,_,_,rfl,rfl,hp,rfl,_,rfl,_,_,_,_,rfl,rfl,hp,rfl,t,b,rfl,λhb=>⟨(kq hb).1.mono (by decide),λp1 n1=>?_⟩,λz=>x z⟩
 obtain ⟨sb,k1,k2⟩:=kq hb
 have s1:Same H (upd H p1 (.tup (ptV (wj t b)))):=Same.upd n1
 have hl:=hok.2.1
 refine ⟨p1,exI rfl ⟨SqT.new,rfl,_,_,rfl,_,_,rfl,rfl,?_⟩⟩
 refine exI rfl (wf rfl rfl (exI rfl ?_))
 refine z9 (λq1=>?_) (λq1=>?_)
 ·refine j3 ?_
  exact ⟨sz1,k2 (λz=>by have:=(Qq hb).mp q1;have:=z.1;lia) _ s1⟩
 ·refine exI rfl (exI rfl ⟨r,dx,exI rfl ⟨s1 _ _ h1,w6 (by decide +kernel),r,hs,rfl,hR.same s1,exI rfl (wf rfl rfl ⟨IntMulOk.of_left (intBits_le_64 (by lia) (by lia)),wf rfl rfl (exI rfl ?_)⟩)⟩⟩)
  refine z9 (λq2=>?_) (λq2=>?_)
  ·exact ⟨sz1,k2 (λz=>by have:=(qqr hb).mp q2;have:=z.2;lia) _ s1⟩
  ·refine exI rfl (exI rfl ⟨sz2,λp2 n2=>?_⟩)
   refine k1 ⟨?_,?_⟩ p2 _ (s1.trans (Same.upd n2)) q9
   ·rcases bB t 0 with z|z
    ·exact absurd ((Qq hb).mpr z) q1
    ·exact z
   ·rcases bB (((hs.length:Int)-1)*b) t with z|z
    ·exact absurd ((qqr hb).mpr z) q2
    ·exact z
def spAt (K:Aa)(C CB CO:Aj):Sp:=λvs H Q E=>∃(r p:Aj) (hs:List Int) (t b:Int),vs=[.ref r,.ref p]∧RoadAt C H r hs∧wt hs∧SqT K H p [.int t,.int b] ∧
 (1≤b→Sm 8000 b∧(xh hs t b→∀q H',Same H H'→H' q=some (.tup (ptV (kj hs t b)))→Q (.ref q) H')∧(¬ xh hs t b→∀H',Same H H'→E (.ref CO) none H'))∧(b<1→E (.ref CB) none H)
theorem ok_at {f:Aj}{fd:Ad}(F:Fun K "at" "Road.at" s_Road_at f fd)(T:Txt K mg qf qt qw qx qb qp wx qm wv wq qr qz qg qk)(c_width:MCal P w K mg base qz "width" 1 (yk qz))(c_lowest:Cal P w K mg base "lowest" 2 (ky qw))(c_ends:MCal P w K mg base qz "ends" 2 (qqu qz wx))
  (c_on_road:MCal P w K mg base qz "on_road" 3 (x8 K qz qw qx)):FnOk P w K mg base (CXE P w) 4 f fd ["self","point"] (spAt K qz qw qx):=by
 have sc:=qqk
 refine F.okX sc (λvs H Q E h=>by obtain ⟨r,p,hs,t,b,rfl,_⟩:=h;rfl) (λcdv A outer s H vs Q E hr h=>?_)
 obtain ⟨r,p,hs,t,b,rfl,hR,hok,hp,kq,x⟩:=h
 obtain ⟨dx,q,h1,h2⟩:=id hR
 refine ⟨_,(qu (vn (xy (pv 0) T.cl c_on_road (hr.mono (by decide)) qj (qc (pv 1) qv)) (vc rfl (xv (xq (i:=2) sc.nd rfl (by walk_at "loc")) (xv (xq (i:=3) sc.nd rfl (by walk_at "loc")) zr))))
   (qu (wp (i:=4) sc.nd rfl (by walk_at "loc") (w4 (Zh rfl) rfl T.min_ bY (zj (wu kh (pv 2) (pv 3)) (zj (wu zf (ux (pv 0) T.cl c_width (hr.mono (by decide)) qj) qy) qv))))
   (qu (vn (xy (pv 0) T.cl c_ends (hr.mono (by decide)) qj (qc (pv 4) qv)) (vc rfl (xv (xq (i:=5) sc.nd rfl (by walk_at "loc")) (xv (xq (i:=6) sc.nd rfl (by walk_at "loc")) zr))))
   (qu (wp (i:=7) sc.nd rfl (by walk_at "loc") (wu zf (pv 2) (wu xu (pv 4) (pv 3))))
   (qh (wr (ww c_lowest (hr.mono (by decide)) rfl qj (zj (wu w8 (wu xu (pv 5) (pv 3)) (wu xu (wu zf (pv 6) (pv 5)) (pv 7))) (qc (pv 3) qv))))))))),?_⟩
 refine ⟨_,rfl,r,dx,_,rfl,h1,w6 (by decide +kernel),_,rfl,r,p,hs,t,b,rfl,hR,hok,hp,λhb=>⟨(kq hb).1,λhon p1 H1 s1 f1=>?_,λhoff H1 s1=>(kq hb).2.2 hoff H1 s1⟩,λz=>x z⟩
 obtain ⟨sb,k1,k2⟩:=kq hb
 have hl1:=hok.1
 have hl2:=hok.2.1
 have hy:=yx (t:=t) hb
 have hyb:=Yq (t:=t) hb
 have hx:0≤(wj t b).1:=by
  rcases bB (wj t b).1 0 with z|z
  ·have:=(Qq hb).mp z
   have:=hon.1
   lia
  ·exact z
 have hk:=qkh (hs:=hs) hl1 hy hx
 have sy:Sm 9000 (wj t b).2:=(sb.of_le (by lia)).mono (by decide)
 refine ⟨p1,exI rfl ⟨SqT.of f1,rfl,_,_,rfl,_,_,rfl,rfl,?_⟩⟩
 refine exI rfl (exI rfl (wf rfl rfl ⟨⟨by lia,sy⟩,exI rfl ⟨r,dx,exI rfl ⟨s1 _ _ h1,w6 (by decide +kernel),r,hs,rfl,hR.same s1,wf rfl rfl ⟨_,_,rfl,?_⟩⟩⟩⟩))
 refine ⟨_,rfl,r,dx,_,rfl,s1 _ _ h1,w6 (by decide +kernel),V.int (kF hs (wj t b).1 (wj t b).2),rfl,r,hs,kF hs (wj t b).1 (wj t b).2,rfl,hR.same s1,λ_ _ p2 n2=>?_,λz=>absurd z (by lia)⟩
 have g1:=h_rng hok (kF hs (wj t b).1 (wj t b).2)
 have g2:=h_rng hok (kF hs (wj t b).1 (wj t b).2+1)
 refine ⟨p2,exI rfl ⟨SqT.new,rfl,_,_,rfl,_,_,rfl,rfl,?_⟩⟩
 refine exI rfl ⟨V.int (kF hs (wj t b).1 (wj t b).2),rfl,exI rfl (wf rfl rfl ⟨IntMulOk.of_left (intBits_le_64 (by lia) (by lia)),wf rfl rfl ?_⟩)⟩
 refine exI rfl (exI rfl (wf rfl rfl ⟨IntMulOk.of_left (intBits_le_64 (by lia) (by lia)),exI rfl (exI rfl (wf rfl rfl (exI rfl (wf rfl rfl ⟨IntMulOk.of_left (intBits_le_64 (by lia) (by lia)),wf rfl rfl (exI rfl ?_)⟩))))⟩))
 refine ⟨j9 hs (wj t b).1 (wj t b).2,(wj t b).2,rfl,λ_=>⟨sy,λp3 n3=>?_⟩,λz=>absurd z (by lia)⟩
 have e:wj (j9 hs (wj t b).1 (wj t b).2) (wj t b).2=kj hs t b:=Zc hb
 rw [e]
 exact k1 hon p3 _ (s1.trans ((Same.upd n2).trans (Same.upd n3))) q9
theorem qjf {hs:List Int}{wd:Int}(h:InW hs wd)(w1:1≤wd)(w2:wd≤24):wt hs:=by
 refine ⟨by have:=h.1;lia,by have:=h.1;lia,λx hx=>?_⟩
 have h1:=h.1
 have h2:=h.2 x hx
 lia
theorem qzy {H H':Hp}{x dx C:Aj}(nx:H x=none)(nd:H dx=none)(h:∀b o,upd (upd H dx (.own x)) x (.ins C dx []) b=some o→b≠x→H' b=some o):Same H H':=λb o e =>
 h b o (by rw [q8 (qd e nx),q8 (qd e nd)];exact e) (qd e nx)
theorem Same.upd2 {H H':Hp}{p:Aj}{o:HO}(s:Same H H')(n:H p=none):Same H (L2.upd H' p o):=λb u e=>by
 rw [q8 (qd e n)]
 exact s b u e
theorem rd_pt {K:Aa}{H:Hp}{p:Aj}{q:Int×Int}(h:SqT K H p [.int q.1,.int q.2]):RD K H (ptD q) (.ref p):=by
 unfold ptD
 rw [RD]
 exact ⟨p,exI rfl ⟨h,by rw [RDs];exact ⟨_,_,rfl,by rw [RD],by rw [RDs];exact ⟨_,_,rfl,by rw [RD],by rw [RDs]⟩⟩⟩⟩
theorem dep_pt {p q:Int×Int}:min (ptD p).depth (ptD q).depth≤60:=by simp [ptD,PyData.depth,PyData.depthAll]
theorem qxq {CB C:Aj}{H:Hp}{p x dx:Aj}{hs:List Int}{Pp:Hp→Prop}{E:XK}(f:H p=some (.lst (hs.map V.int)))(nx:H x=none)(nd:H dx=none)(k:wt hs→∀H',Same H H'→RoadAt C H' x hs→Pp H')(bad:¬ wt hs→∀H',Same H H'→E (.ref CB) none H') :
  Wy K CB C [.ref x,.ref p] (upd (upd H dx (.own x)) x (.ins C dx [])) (λr H2=>r=.non∧Pp H2) E:=by
 refine ⟨x,dx,p,hs,rfl,q9,SqL.of (by rw [q8 (qd f nx),q8 (qd f nd)];exact f),λok H4 q nq kp r l=>⟨rfl,k ok H4 (qzy nx nd kp) ⟨dx,q,r,l⟩⟩,λz=>bad z _ ?_⟩
 exact λb o e=>by rw [q8 (qd e nx),q8 (qd e nd)];exact e
theorem qv8 {hs:List Int}(ok:wt hs)(k:Int):0≤hAt hs k∧hAt hs k≤(hs.length:Int)-1:=by
 unfold hAt
 rw [aC]
 have:=ok.1
 cases e:hs[k.toNat]? with
 |none=>exact ⟨by decide,by show (0:Int)≤_;lia⟩
 |some v=>exact ok.2.2 v (ce e)
theorem qw6 {hs:List Int}{t b:Int}(hok:wt hs)(hb:1≤b)(hon:xh hs t b):xh hs (j9 hs t b) b:=by
 have hl1:=hok.1
 have hk:=qkh (hs:=hs) hl1 hb hon.1
 have g1:=qv8 hok (kF hs t b)
 have g2:=qv8 hok (kF hs t b+1)
 have e1:0≤t-kF hs t b*b∧t-kF hs t b*b≤b:=by
  have h1:t/b*b≤t:=Int.ediv_mul_le t (by lia)
  have h2:=Int.lt_ediv_add_one_mul_self t (show 0<b by lia)
  unfold kF
  split
  ·next z =>
   have h3:=aY (show (hs.length:Int)-1-1≤t/b by lia) (show 0≤b by lia)
   have h4:=hon.2
   constructor
   ·lia
   ·have:((hs.length:Int)-1)*b=((hs.length:Int)-1-1)*b+b:=by grind
    lia
  ·have:(t/b+1)*b=t/b*b+b:=by grind
   constructor <;> lia
 have r:=qkc (u:=hAt hs (kF hs t b)) (v:=hAt hs (kF hs t b+1)) e1.1 e1.2
 refine ⟨Int.le_trans ?_ r.1,Int.le_trans r.2 ?_⟩
 ·refine bi ?_ (by lia)
  split <;> lia
 ·refine aY ?_ (by lia)
  split <;> lia
theorem qkf {hs:List Int}{t b:Int}(hb:1≤b)(hon:xh hs t b):xh hs (wj t b).1 (wj t b).2:=by
 constructor
 ·rcases bB (wj t b).1 0 with z|z
  ·have:=(Qq hb).mp z
   have:=hon.1
   lia
  ·exact z
 ·rcases bB (((hs.length:Int)-1)*(wj t b).2) (wj t b).1 with z|z
  ·have:=(qqr hb).mp z
   have:=hon.2
   lia
  ·exact z
def itP (hs:List Int)(p:Int×Int):Nat→Int×Int
 |0=>p
 |n+1=>kj hs (itP hs p n).1 (itP hs p n).2
def Pt (hs:List Int)(c:Int)(p:Int×Int):Prop:=1≤p.2∧p.2≤c∧gOf p.1 p.2=1∧xh hs p.1 p.2
theorem Q1 {hs:List Int}{t b:Int}(hb:1≤b)(hon:xh hs t b):Pt hs b (wj t b):=⟨yx hb,Yq hb,qkk hb,qkf hb hon⟩
theorem qjd {hs:List Int}{c:Int}{p:Int×Int}(hok:wt hs)(h:Pt hs c p):Pt hs c (kj hs p.1 p.2):=by
 have a:=Q1 h.1 (qw6 hok h.1 h.2.2.2)
 exact ⟨a.1,Int.le_trans a.2.1 h.2.1,a.2.2.1,a.2.2.2⟩
theorem qks {hs:List Int}{c:Int}{p:Int×Int}(hok:wt hs)(h:Pt hs c p):∀n,Pt hs c (itP hs p n)
 |0=>h
 |n+1=>qjd hok (qks hok h n)
def trT (hs:List Int)(t b:Int):Nat→Int
 |0=>t
 |n+1=>j9 hs (trT hs t b n) b
theorem qvp {hs:List Int}{t b:Int}(hok:wt hs)(hb:1≤b)(hon:xh hs t b):∀n,xh hs (trT hs t b n) b
 |0=>hon
 |n+1=>qw6 hok hb (qvp hok hb hon n)
theorem qwf {hs:List Int}{t b:Int}(hb:1≤b):∀n,wj (trT hs t b n) b=itP hs (wj t b) n
 |0=>rfl
 |n+1=>by
  show kj hs (trT hs t b n) b=kj hs (itP hs (wj t b) n).1 (itP hs (wj t b) n).2
  rw [←qwf hb n,Zc hb]
def jy (hs:List Int)(p:Int×Int)(n:Nat):List (Int×Int):=(List.range n).map (itP hs p)
theorem Zu (hs:List Int)(p:Int×Int)(n:Nat):jy hs p (n+1)=jy hs p n++[itP hs p n]:=by
 unfold jy
 rw [bO,bp]
 rfl
theorem kf (hs:List Int)(p:Int×Int)(n:Nat):(jy hs p n).length=n:=by
 unfold jy
 rw [ah,bt]
def PtR (H:Hp)(v:V)(p:Int×Int):Prop:=∃a,v=.ref a∧H a=some (.tup [.int p.1,.int p.2])
theorem PtR.same {H H':Hp}{v:V}{p:Int×Int}(h:PtR H v p)(s:Same H H'):PtR H' v p:=by
 obtain ⟨a,e,f⟩:=h
 exact ⟨a,e,s _ _ f⟩
theorem PtR.upd {H:Hp}{v:V}{p:Int×Int}{q:Aj}{xs:List V}{o:HO}(h:PtR H v p)(hq:H q=some (.lst xs)):PtR (L2.upd H q o) v p:=by
 obtain ⟨a,e,f⟩:=h
 refine ⟨a,e,?_⟩
 rw [q8 (λz=>by rw [z,hq] at f;cases f)]
 exact f
theorem Wu {α β:Type}{F G:α→β→Prop}(h:∀a b,F a b→G a b):∀ {l:List α} {m:List β},Paired F l m→Paired G l m
 |_,_,.nil=>.nil
 |_,_,.cons a t=>.cons (h _ _ a) (Wu h t)
theorem uw {α β:Type}{F:α→β→Prop}:∀ {l:List α} {m:List β} {i:Nat} {b:β},Paired F l m→m[i]?=some b→∃a,l[i]?=some a∧F a b
 |_,_,0,_,.cons a _,e=>by cases e;exact exI rfl a
 |_,_,i+1,_,.cons _ t,e=>uw (i:=i) t e
def PtsAt (H:Hp)(q:Aj)(ps:List (Int×Int)):Prop:=∃vs,H q=some (.lst vs)∧Paired (PtR H) vs ps
theorem PtsAt.same {H H':Hp}{q:Aj}{ps:List (Int×Int)}(h:PtsAt H q ps)(s:Same H H'):PtsAt H' q ps:=by
 obtain ⟨vs,f,r⟩:=h
 exact ⟨vs,s _ _ f,Wu (λ_ _ z=>z.same s) r⟩
def Dist {α:Type}(f:Nat→α)(n:Nat):Prop:=∀i j,i<j→j<n→f i≠f j
theorem Dist.mono {α:Type}{f:Nat→α}{m n:Nat}(h:Dist f n)(le:m≤n):Dist f m:=λi j a b=>h i j a (by lia)
theorem Dist.succ {α:Type}{f:Nat→α}{n:Nat}(h:Dist f n)(h':∀j,j<n→f j≠f n):Dist f (n+1):=λi j a b=>by
 rcases (by lia:j<n∨j=n) with z|z
 ·exact h i j a z
 ·subst z
  exact h' i a
theorem shift {α:Type}{f:Nat→α}(st:∀i j,f i=f j→f (i+1)=f (j+1)){n u:Nat}(e:f n=f u):∀k,f (n+k)=f (u+k)
 |0=>e
 |k+1=>st _ _ (shift st e k)
theorem per {α:Type}{f:Nat→α}(st:∀i j,f i=f j→f (i+1)=f (j+1)){n u:Nat}(hu:u<n)(e:f n=f u)(m:Nat):u≤m→f m=f (u+(m-u)%(n-u)):=by
 induction m using Nat.strongRecOn with
 |_ m ih =>
  intro hm
  rcases Nat.lt_or_ge m n with z|z
  ·rw [Nat.mod_eq_of_lt (by lia)]
   congr 1
   lia
  ·have h1:=shift st e (m-n)
   rw [show n+(m-n)=m by lia] at h1
   have h2:=ih (u+(m-n)) (by lia) (by lia)
   rw [h1,h2,show u+(m-n)-u=m-u-(n-u) by lia,←Nat.mod_eq_sub_mod (by lia)]
theorem qj0 {m:Int}{n u:Nat}(h:(u:Int)≤m)(hu:u<n):(u:Int)+(m-u)%((n:Int)-u)=((u+(m.toNat-u)%(n-u):Nat):Int):=by
 have e1:m-(u:Int)=((m.toNat-u:Nat):Int):=by lia
 have e2:(n:Int)-(u:Int)=((n-u:Nat):Int):=by lia
 rw [e1,e2]
 push_cast
 rfl
theorem pig (N:Nat):∀l:List Nat,l.Nodup→(∀x∈l,x<N)→l.length≤N:=by
 induction N with
 |zero =>
  intro l _ h
  cases l with
  |nil=>exact af _
  |cons a r=>exact absurd (h a (.head _)) (by lia)
 |succ N ih =>
  intro l nd h
  by_cases m:N∈l
  ·have h1:=ih (l.erase N) (nd.erase N) λx hx=>by
    have a:=(nd.mem_erase_iff.mp hx)
    have b:=h x a.2
    lia
   rw [List.length_erase_of_mem m] at h1
   lia
  ·have:=ih l nd λx hx=>by
    have b:=h x hx
    have:x≠N:=λz=>m (z▸hx)
    lia
   lia
theorem pigI {f:Nat→Int}{n:Nat}{B:Int}(h:Dist f n)(b:∀i,0≤f i∧f i≤B):(n:Int)≤B+1:=by
 have h1:=pig (B+1).toNat ((List.range n).map λi=>(f i).toNat) (by
  rw [List.nodup_iff_pairwise_ne,List.pairwise_map]
  refine List.Pairwise.imp_of_mem ?_ (List.pairwise_lt_range (n:=n))
  intro i j hi hj hij e
  have:=b i
  have:=b j
  exact h i j hij (bw.mp hj) (by lia)) λx hx=>by
   obtain ⟨i,_,rfl⟩:=bd.mp hx
   have:=b i
   lia
 rw [ah,bt] at h1
 have:=b 0
 lia
theorem it_st {hs:List Int}{p:Int×Int}:∀i j,itP hs p i=itP hs p j→itP hs p (i+1)=itP hs p (j+1):=λi j e=>by
 show kj hs (itP hs p i).1 (itP hs p i).2=kj hs (itP hs p j).1 (itP hs p j).2
 rw [e]
theorem qw3 {t b:Int}(hb:1≤b)(g:gOf t b=1):wj t b=(t,b):=by
 unfold wj
 rw [g,Int.ediv_one,Int.ediv_one]
theorem it_tr {hs:List Int}{c:Int}{p:Int×Int}(h:Pt hs c p)(n:Nat):itP hs p n=wj (trT hs p.1 p.2 n) p.2:=by
 rw [qwf h.1,qw3 h.1 h.2.2.1]
theorem qyk {x y b:Int}(hb:1≤b)(e:wj x b=wj y b):x=y:=by
 have h1:=(W0 (N:=x) hb).2
 have h2:=(W0 (N:=y) hb).2
 rw [e] at h1
 lia
theorem it_eq {hs:List Int}{c:Int}{p:Int×Int}(h:Pt hs c p)(i j:Nat):itP hs p i=itP hs p j↔trT hs p.1 p.2 i=trT hs p.1 p.2 j:=by
 rw [it_tr h,it_tr h]
 exact ⟨λe=>qyk h.1 e,λe=>by rw [e]⟩
theorem qyw {hs:List Int}{c:Int}{p:Int×Int}(h:Pt hs c p){n:Nat}(d:Dist (itP hs p) n):Dist (trT hs p.1 p.2) n:=λi j a b e=>d i j a b ((it_eq h i j).mpr e)
theorem qyu {hs:List Int}{c:Int}{p:Int×Int}(hok:wt hs)(h:Pt hs c p){n:Nat}(d:Dist (itP hs p) n):(n:Int)≤((hs.length:Int)-1)*p.2+1 :=
 pigI (qyw h d) λi=>qvp hok h.1 h.2.2.2 i
def vg (p:Int×Int):List Key:=[.inl p.1,.inl p.2]
theorem Jk {p q:Int×Int}(e:vg p=vg q):p=q:=by
 unfold vg at e
 simp only [List.cons.injEq,Sum.inl.injEq,and_true] at e
 exact Prod.ext e.1 e.2
def v8 {κ:Type}(k:Nat→κ)(n:Nat):List (κ×V):=(List.range n).map λi=>(k i,V.int i)
theorem Zq {κ:Type}(k:Nat→κ)(n:Nat):v8 k (n+1)=v8 k n++[(k n,V.int n)]:=by
 unfold v8
 rw [bO,bp]
 rfl
theorem km {κ:Type}(k:Nat→κ)(n:Nat):(v8 k n).length=n:=by
 unfold v8
 rw [ah,bt]
theorem Zk {κ:Type}[DecidableEq κ]{k:Nat→κ}{q:κ}{n:Nat}(h:∀j,j<n→k j≠q):xg (v8 k n) q=none:=by
 unfold xg v8
 rw [List.find?_eq_none.mpr]
 ·rfl
 ·intro x hx
  obtain ⟨i,hi,rfl⟩:=bd.mp hx
  simpa using h i (bw.mp hi)
theorem W7 {κ:Type}[DecidableEq κ]{k:Nat→κ}{j:Nat}:∀ {n:Nat},Dist k n→j<n→xg (v8 k n) (k j)=some (.int j)
 |0,_,h=>absurd h (by lia)
 |n+1,d,h=>by
  rw [Zq,Zw _ _ _ _ (Zk λi hi=>d i n hi (by lia))]
  rcases (by lia:j<n∨j=n) with z|z
  ·rw [ao (d j n z (by lia)),W7 (d.mono (by lia)) z]
  ·subst z
   rw [av rfl]
theorem qw8 {α β γ δ:Type}{F:α→β→Prop}{G:α→γ→Prop}(g:δ→β)(f:δ→γ)(h:∀a x,F a (g x)→G a (f x)):∀ {l:List δ} {vs:List α},Paired F vs (l.map g)→Paired G vs (l.map f)
 |[],_,.nil=>.nil
 |_::_,_,.cons a t=>.cons (h _ _ a) (qw8 g f h t)
def vy (C CT:Aj):Sp:=λvs H Q E=>∃(r a:Aj) (hs:List Int) (p:Int×Int) (c:Int),vs=[.ref r,.ref a]∧RoadAt C H r hs∧wt hs∧H a=some (.tup [.int p.1,.int p.2])∧Pt hs c p∧Sm 8000 c ∧
 (∀n u q l H',n≤1000→Dist (itP hs p) n→u<n→itP hs p n=itP hs p u→Same H H'→H l=none→H' q=some (.tup [.ref l,.int ((u:Nat):Int)])→PtsAt H' l (jy hs p n)→Q (.ref q) H')∧(Dist (itP hs p) 1001→∀H',Same H H'→E (.ref CT) none H')
theorem qkb {f:Aj}{fd:Ad}(F:Fun K "trace" "trace" s_trace f fd)(T:Txt K mg qf qt qw qx qb qp wx qm wv wq qr qz qg qk)(c_at:MCal P w K mg base qz "at" 4 (spAt K qz qw qx)):FnOk P w K mg base (CXE P w) 5 f fd ["road","start"] (vy qz qp):=by
 have sc:=qvg
 refine F.okX sc (λvs H Q E h=>by obtain ⟨r,a,hs,p,c,rfl,_⟩:=h;rfl) (λcdv A outer s H vs Q E hr h=>?_)
 obtain ⟨r,a,hs,p,c,rfl,hR,hok,ha,hP,sc8,k,x⟩:=h
 obtain ⟨dx,q0,h1,h2⟩:=id hR
 obtain ⟨tm,g_LONGEST_TRACE⟩:=T.g_LONGEST_TRACE
 refine ⟨_,(qu (wp (i:=2) sc.nd rfl (by walk_at "loc") qkz)
   (qu (wp (i:=3) sc.nd rfl (by walk_at "loc") (pv 1))
   (qu (Qf aV (qwz (Zx (ud hr) (pv 3) (pv 2))) (qu (xz (wc x9 (w4 Zm rfl T.len_ aD (qc (pv 2) qv)) (vb (v:=V.int 1000) rfl g_LONGEST_TRACE ⟨_,rfl⟩) (wm _)) (qh (zk rfl T.x_TooLong xt rfl T.g_TooLong (wn x6 qv))) wg)
   (qu (qw2 (ud hr) (pv 2) (pv 3) (w4 Zm rfl T.len_ aD (qc (pv 2) qv)) rfl)
   (qh (wp (i:=3) sc.nd rfl (by walk_at "loc") (xy (pv 0) T.cl c_at (hr.mono (by decide)) qj (qc (pv 3) qv)))))))
   (qh (wr (ku (vw (jv (qqz rfl) rfl T.list_ bD (qc (pv 2) qv)) (v6 (qwp (ud hr) (pv 2) (pv 3) (λ_ _=>rfl)) qv)))))))),?_⟩
 refine λD nD=>exI rfl ?_
 refine Qn (λσ H2=>∃(i:Nat) (b:Aj),σ=[some (.ref r),some (.ref a),some (.ref D),some (.ref b)]∧i≤1000∧Dist (itP hs p) i∧Same H H2∧H2 D=some (.dT (v8 (λj=>vg (itP hs p j)) i))∧H2 b=some (.tup [.int (itP hs p i).1,.int (itP hs p i).2]))
  (λ_ H2=>match H2 D with|some (.dT kvs)=>1001-kvs.length|_=>0) ⟨0,a,rfl,by lia,λi j _ z=>absurd z (by lia),Same.upd nD,q9,by rw [q8 (qd ha nD)];exact ha⟩ ?_ λσ H Q Q' h ⟨v,e,v2,e2,a',o,e3,g,kk,e4,q⟩=>⟨v,e,v2,e2,a',o,e3,g,kk,e4,h _ _ q⟩
 rintro σ H2 ⟨i,b,rfl,hi,hd,s2,f2,fb⟩
 have hd':Dist (λj=>vg (itP hs p j)) i:=λu v uv vi e=>hd u v uv vi (Jk e)
 have fb':H2 b=some (.tup ((vg (itP hs p i)).map kV)):=fb
 by_cases hj:∃j,j<i∧itP hs p j=itP hs p i
 ·obtain ⟨j,ji,je⟩:=hj
  have hv:xg (v8 (λj=>vg (itP hs p j)) i) (vg (itP hs p i))=some (.int j):=by
   rw [←je]
   exact W7 hd' ji
  have dg:DGet H2 D (.ref b) (some (.int j)):=by
   have:=DGet.t f2 fb'
   rwa [hv] at this
  refine exI rfl (exI rfl ⟨D,exI rfl ⟨dg,_,rfl,?_⟩⟩)
  refine Y1 ?_
  refine exI rfl ⟨D,exI rfl ⟨f2,λl vs nl kat=>?_⟩⟩
  have s3:=Same.upd (o:=.lst vs) nl
  have dg3:DGet (upd H2 l (.lst vs)) D (.ref b) (some (.int j)):=by
   have:=DGet.t (s3 _ _ f2) (s3 _ _ fb')
   rwa [hv] at this
  refine exI rfl (exI rfl ⟨D,exI rfl ⟨dg3,sz2,λq nq=>?_⟩⟩)
  have s4:=s3.trans (Same.upd (o:=.tup [.ref l,.int j]) nq)
  have nl0:H l=none:=by
   cases e:H l with
   |none=>rfl
   |some o=>rw [s2 _ _ e] at nl;cases nl
  refine k i j q l _ hi hd ji je.symm (s2.trans s4) nl0 q9 ⟨vs,Same.upd nq _ _ q9,?_⟩
  refine qw8 (l:=List.range i) (λj=>(vg (itP hs p j),V.int j)) (itP hs p) (λv j hv=>?_) kat
  obtain ⟨b',rfl,fb2⟩:=hv
  exact ⟨b',rfl,s4 _ _ fb2⟩
 ·have hn:∀j,j<i→itP hs p j≠itP hs p i:=λj a b=>hj ⟨j,a,b⟩
  have hv:xg (v8 (λj=>vg (itP hs p j)) i) (vg (itP hs p i))=none:=Zk λj a b=>hn j a (Jk b)
  have dg:DGet H2 D (.ref b) none:=by
   have:=DGet.t f2 fb'
   rwa [hv] at this
  have hd1:=hd.succ hn
  refine exI rfl (exI rfl ⟨D,exI rfl ⟨dg,_,rfl,?_⟩⟩)
  refine j3 ?_
  refine exI rfl ⟨D,exI rfl ⟨f2,rfl,_,rfl,?_⟩⟩
  rw [km]
  refine x4 (λq1=>?_) (λq1=>?_)
  ·have:i=1000:=by lia
   subst this
   exact ⟨sz1,x hd1 _ s2⟩
  ·refine exI rfl ⟨D,exI rfl ⟨f2,exI rfl (exI rfl ⟨D,exI rfl ⟨DPut.t f2 fb' (Zz (by rw [km];lia)),?_⟩⟩)⟩⟩
   rw [j8 _ hv,km,←Zq (λj=>vg (itP hs p j)) i]
   have s3:Same H (upd H2 D (.dT (v8 (λj=>vg (itP hs p j)) (i+1)))):=Same.upd2 s2 nD
   have db:b≠D:=λz=>by rw [z,f2] at fb;cases fb
   have fb3:upd H2 D (.dT (v8 (λj=>vg (itP hs p j)) (i+1))) b=some (.tup [.int (itP hs p i).1,.int (itP hs p i).2]):=by rw [q8 db];exact fb
   have f3:upd H2 D (.dT (v8 (λj=>vg (itP hs p j)) (i+1))) D=some (.dT (v8 (λj=>vg (itP hs p j)) (i+1))):=q9
   generalize upd H2 D (.dT (v8 (λj=>vg (itP hs p j)) (i+1)))=H3 at s3 fb3 f3
   have Pn:=qks hok hP i
   refine ⟨_,rfl,r,dx,_,rfl,s3 _ _ h1,w6 (by decide +kernel),_,rfl,r,b,hs,(itP hs p i).1,(itP hs p i).2,rfl,hR.same s3,hok,SqT.of fb3,λ_=>⟨(sc8.of_le (by have:=Pn.2.1;have:=Pn.1;lia)),λ_ p4 H4 s4 f4=>?_,λz=>absurd Pn.2.2.2 z⟩,λz=>absurd Pn.1 (by lia)⟩
   refine ⟨⟨i+1,p4,rfl,by lia,hd1,s3.trans s4,s4 _ _ f3,f4⟩,?_⟩
   show (match H4 D with|some (.dT kvs)=>1001-kvs.length|_=>0)<(match H2 D with|some (.dT kvs)=>1001-kvs.length|_=>0)
   rw [s4 _ _ f3,f2]
   show 1001-(v8 (λj=>vg (itP hs p j)) (i+1)).length<1001-(v8 (λj=>vg (itP hs p j)) i).length
   rw [km,km]
   lia
def TrAt (H:Hp)(l:Aj)(hs:List Int)(p:Int×Int)(n u:Nat):Prop:=n≤1000∧Dist (itP hs p) n∧u<n∧itP hs p n=itP hs p u∧PtsAt H l (jy hs p n)
theorem TrAt.same {H H':Hp}{l:Aj}{hs:List Int}{p:Int×Int}{n u:Nat}(h:TrAt H l hs p n u)(s:Same H H'):TrAt H' l hs p n u:=⟨h.1,h.2.1,h.2.2.1,h.2.2.2.1,h.2.2.2.2.same s⟩
def Y0:Sp:=λvs H Q _=>∃(l:Aj) (hs:List Int) (p:Int×Int) (n u:Nat) (m:Int),vs=[.ref l,.int u,.int m]∧TrAt H l hs p n u∧0≤m∧∀a,H a=some (.tup [.int (itP hs p m.toNat).1,.int (itP hs p m.toNat).2])→Q (.ref a) H
theorem qvn {H:Hp}{hs:List Int}{p:Int×Int}{n i:Nat}{vs:List V}(h:Paired (PtR H) vs (jy hs p n))(hi:i<n):∃a,vs[i]?=some (.ref a)∧H a=some (.tup [.int (itP hs p i).1,.int (itP hs p i).2]):=by
 obtain ⟨v,ev,⟨a,rfl,fa⟩⟩:=uw (i:=i) (b:=itP hs p i) h (by
  unfold jy
  rw [aU,List.getElem?_range hi]
  rfl)
 exact ⟨a,ev,fa⟩
theorem qk8 {f:Aj}{fd:Ad}(F:Fun K "spot" "spot" s_spot f fd)(T:Txt K mg qf qt qw qx qb qp wx qm wv wq qr qz qg qk):FnOk P w K mg base (CXE P w) 1 f fd ["points","turn","many"] Y0:=by
 have sc:=qjz
 refine F.okX sc (λvs H Q E h=>by obtain ⟨l,hs,p,n,u,m,rfl,_⟩:=h;rfl) (λcdv A outer s H vs Q E hr h=>?_)
 obtain ⟨l,hs,p,n,u,m,rfl,⟨n1,hd,hu,e,vs,fl,pr⟩,m0,k⟩:=h
 have hlen:vs.length=n:=by rw [pr.length,kf]
 refine ⟨_,(qu (xz (wc jc (pv 2) (pv 1) (wm _)) (qh (wr (z8 zp (pv 0) (pv 2) (λ_ _=>rfl)))) wg)
   (qh (wr (z8 zp (pv 0) (wu w8 (pv 1) (wu zm (wu zf (pv 2) (pv 1)) (wu zf (w4 xb rfl T.len_ aD (qc (pv 0) qv)) (pv 1)))) (λ_ _=>rfl))))),?_⟩
 refine exI rfl (exI rfl (wf rfl rfl (exI rfl ?_)))
 refine z9 (λq1=>?_) (λq1=>?_)
 ·obtain ⟨a,ea,fa⟩:=qvn (i:=m.toNat) pr (by lia)
  refine exI rfl (exI rfl (exX rfl rfl (SqL.of fl) ?_ (k a fa)))
  have:=Z9 ea
  rwa [Int.toNat_of_nonneg m0] at this
 ·have hm:(u:Int)≤m:=by lia
  have lt:=Nat.mod_lt (m.toNat-u) (show 0<n-u by lia)
  obtain ⟨a,ea,fa⟩:=qvn (i:=u+(m.toNat-u)%(n-u)) pr (by lia)
  rw [←per it_st hu e m.toNat (by lia)] at fa
  refine exI rfl (exI rfl (exI rfl (exI rfl (wf rfl rfl (exI rfl ⟨_,_,rfl,.inl (SqL.of fl),exI rfl (wf rfl rfl (wf rfl rfl ⟨?_,wf rfl rfl (exX rfl rfl (SqL.of fl) ?_ (k a fa))⟩))⟩)))))
  ·rw [hlen]
   show (0:Int)<(n:Int)-u
   lia
  ·rw [hlen,qj0 hm hu]
   exact Z9 ea
def Yy (K:Aa):Sp:=λvs H Q _=>∃(a:Aj) (ns:List Int) (i wd mo:Int),vs=[.ref a,.int i,.int wd,.int mo]∧SqL K H a (ns.map V.int)∧0≤i∧1≤wd∧wd≤24∧6≤mo∧mo≤1000 ∧
 ∀p t b c,H p=none→1≤b→b≤mo→1≤c→c≤3→0≤t→t≤wd*b→Q (.ref p) (upd H p (.tup [.int (t*c),.int (b*c)]))
theorem qkg {f:Aj}{fd:Ad}(F:Fun K "_law_spot" "_law_spot" s__law_spot f fd)(T:Txt K mg qf qt qw qx qb qp wx qm wv wq qr qz qg qk)(c__law_pick:Cal P w K mg base "_law_pick" 2 (jg K)):FnOk P w K mg base (CXE P w) 3 f fd ["_law_script","_law_at","_law_wide","_law_most"] (Yy K):=by
 have sc:=Yw
 refine F.okX sc (λvs H Q E h=>by obtain ⟨a,ns,i,wd,mo,rfl,_⟩:=h;rfl) (λcdv A outer s H vs Q E hr h=>?_)
 obtain ⟨a,ns,i,wd,mo,rfl,hS,i0,w1,w2,o1,o2,k⟩:=h
 refine ⟨_,(qu (wp (i:=4) sc.nd rfl (by walk_at "loc") (wu w8 qy (ww c__law_pick (hr.mono (by decide)) rfl qj (qc (pv 0) (qc (pv 1) (wn qy (qc (pv 3) qv)))))))
   (zc (xz (wc x9 (ww c__law_pick (hr.mono (by decide)) rfl qj (qc (pv 0) (qc (pv 1) (wn qy (wn qy qv))))) qy (wm _)) (qh (wp (i:=4) sc.nd rfl (by walk_at "loc") (wu w8 qy (wu zm (pv 4) qy)))) wg)
   (qu (wp (i:=5) sc.nd rfl (by walk_at "loc") (wu w8 (wu xu (ww c__law_pick (hr.mono (by decide)) rfl qj (qc (pv 0) (qc (pv 1) (wn qy (qc (pv 2) qv))))) (pv 4)) (ww c__law_pick (hr.mono (by decide)) rfl qj (qc (pv 0) (qc (pv 1) (wn qy (zj (wu w8 (pv 4) qy) qv)))))))
   (qu (wp (i:=6) sc.nd rfl (by walk_at "loc") (wu w8 qy (ww c__law_pick (hr.mono (by decide)) rfl qj (qc (pv 0) (qc (pv 1) (wn qy (wn qy qv)))))))
   (qh (wr (ku (zj (wu xu (pv 5) (pv 6)) (zj (wu xu (pv 4) (pv 6)) qv))))))))),?_⟩
 refine exI rfl (exI rfl (exI rfl ⟨a,ns,_,_,_,rfl,hS,i0,(by lia),(by lia),(by lia),λr1 _ l1 u1=>?_⟩))
 refine ⟨_,_,rfl,rfl,λσ H'=>∃b,σ=[some (.ref a),some (.int i),some (.int wd),some (.int mo),some (.int b),none,none]∧1≤b∧b≤mo∧H'=H,?_,?_⟩
 ·refine exI rfl (exI rfl ⟨a,ns,_,_,_,rfl,hS,i0,(by lia),(by lia),(by lia),λr2 _ l2 u2=>?_⟩)
  refine ⟨rfl,_,rfl,x4 (λq1=>?_) (λq1=>?_)⟩
  ·have e1:=aQ (1+r1) (show (6:Int)≠0 by decide)
   have e2:=aG (1+r1) (show (0:Int)<6 by decide)
   exact ⟨_,rfl,_,_,rfl,rfl,(by walk_at "pos"),_,_,rfl,rfl,_,rfl,by lia,by lia,rfl⟩
  ·exact ⟨_,rfl,by lia,by lia,rfl⟩
 ·rintro σ Hx ⟨b,rfl,b1,b2,rfl⟩
  refine exI rfl (exI rfl (exI rfl ⟨a,ns,_,_,_,rfl,hS,i0,(by lia),(by lia),(by lia),λr3 _ l3 u3=>?_⟩))
  refine exI rfl (wf rfl rfl ⟨(by walk_at "mul"),exI rfl (exI rfl (exI rfl (wf rfl rfl ⟨a,ns,_,_,_,rfl,hS,i0,(by lia),(by lia),(by lia),λr4 _ l4 u4=>?_⟩)))⟩)
  refine wf rfl rfl ?_
  refine exI rfl (exI rfl ⟨a,ns,_,_,_,rfl,hS,i0,(by lia),(by lia),(by lia),λr5 _ l5 u5=>?_⟩)
  refine wf rfl rfl ?_
  have h1:=aY (show r3≤wd-1 by lia) (show 0≤b by lia)
  have h2:(wd-1)*b=wd*b-b:=by rw [Int.sub_mul,Int.one_mul]
  have h3:=bi l3 (show 0≤b by lia)
  refine exI rfl ⟨V.int (1+r5),rfl,wf rfl rfl ⟨(by walk_at "mul"),exI rfl ⟨V.int (1+r5),rfl,wf rfl rfl ⟨(by walk_at "mul"),sz2,λp np=>?_⟩⟩⟩⟩
  exact k p _ b (1+r5) np b1 b2 (by lia) (by lia) (by lia) (by lia)
end
section
variable {P:Ac}{w:Ah}{K:Aa}{mg:Str→Option Ag}{base:Heap}{qf:Aj}{qt:Aj}{qw:Aj}{qx:Aj}{qb:Aj}{qp:Aj}{wx:Aj}{qm:Aj}{wv:Aj}{wq:Aj}{qr:Aj}{qz:Aj}{qg:Aj}{qk:Aj}
def qwn (c:Nat):Bool:=!(Builtin.Str.occurrences (Str.ofString "abcdefghijklmnopqrstuvwxyz") ⟨#[c]⟩ 0 (Str.ofString "abcdefghijklmnopqrstuvwxyz").length 1).isEmpty
def zh (x:Str):Bool:=decide (1≤x.length∧x.length≤12)&&(List.range x.cps.size).all λi=>qwn (x.cps.getD i 0)
def Qv:Sp:=λvs H Q _=>∃x:Str,vs=[.str x]∧x.length≤1000∧∀H',Same H H'→Q (.bl (zh x)) H'
theorem qq8 {f:Aj}{fd:Ad}(F:Fun K "is_name" "is_name" s_is_name f fd)(T:Txt K mg qf qt qw qx qb qp wx qm wv wq qr qz qg qk):FnOk P w K mg base (CXE P w) 1 f fd ["name"] Qv:=by
 have sc:=qq6
 refine F.okX sc (λvs H Q E h=>by obtain ⟨x,rfl,_⟩:=h;rfl) (λcdv A outer s H vs Q E hr h=>?_)
 obtain ⟨x,rfl,hx,k⟩:=h
 obtain ⟨tn,g_LONGEST_NAME⟩:=T.g_LONGEST_NAME
 obtain ⟨tl,g_LETTERS⟩:=T.g_LETTERS
 have big:(1000000:Nat)<sizeLine:=by decide
 refine ⟨_,(qu (xz (PW.pt (Zn (wc jc (w4 yq rfl T.len_ aD (qc (pv 0) qv)) qy (wm _)) (yp (wc Wk (w4 yq rfl T.len_ aD (qc (pv 0) qv)) (vb (v:=V.int 12) rfl g_LONGEST_NAME ⟨_,rfl⟩) (wm _))))) (qh (wr Jx)) wg)
   (qh (wr (w4 (Wr rfl) rfl T.all_ qv2 (xp (jq (M:=[]) rfl rfl (by walk_at "cap") (by walk_at "has") (by walk_at "cix") rfl (by decide +kernel) rfl (show List.Nodup (["sign"]:List Str) by decide +kernel) (pi_str (pv 0)) (λ_ _ _ _ _=>(Yt qxp (pv 0) (vb (v:=V.str "abcdefghijklmnopqrstuvwxyz") rfl g_LETTERS ⟨_,rfl⟩) rfl))) qv))))),?_⟩
 refine ⟨_,rfl,x,rfl,by lia,_,_,rfl,rfl,_,rfl,?_⟩
 have no:∀z:¬ (1≤x.length∧x.length≤12),zh x=false:=λz=>by unfold zh;rw [aL z];rfl
 refine z9 (λq1=>?_) (λq1=>?_)
 ·refine j3 ?_
  have:=k H (Same.refl _)
  rw [no (by lia)] at this
  exact this
 ·refine ⟨_,rfl,x,rfl,by lia,_,_,rfl,rfl,_,rfl,z9 (λq2=>?_) (λq2=>?_)⟩
  ·have:=k H (Same.refl _)
   rw [no (by lia)] at this
   exact this
  ·refine exI rfl ⟨x,rfl,qvc (λi=>.bl (qwn (x.cps.getD i 0))) (by show x.length≤1000000;lia) (λi H' R hi hs hR=>?_) λp np=>?_⟩
   ·exact exI rfl (wf rfl rfl hR)
   ·have e:zh x=((List.range x.cps.size).map λi=>qwn (x.cps.getD i 0)).all id:=by
     unfold zh
     rw [aP (show 1≤x.length∧x.length≤12 by lia),List.all_map]
     rfl
    refine ⟨p,(List.range x.cps.size).map λi=>qwn (x.cps.getD i 0),rfl,?_,?_⟩
    ·rw [List.map_map]
     exact SqL.new
    ·rw [←e]
     exact k _ (Same.upd np)
def jk (CN CT:Aj):Sp:=λvs H Q E=>∃(x:Str) (d:Aj) (kvs:List (Key×V)),vs=[.str x,.ref d]∧x.length≤1000∧H d=some (.dK kvs) ∧
 (zh x=true→xg kvs (.inr x)=none→∀H',Same H H'→Q .non H')∧(zh x=false→∀H',Same H H'→E (.ref CN) none H')∧(zh x=true→(xg kvs (.inr x)).isSome=true→∀H',Same H H'→E (.ref CT) none H')
theorem Y6 {f:Aj}{fd:Ad}(F:Fun K "check_new_name" "check_new_name" s_check_new_name f fd)(T:Txt K mg qf qt qw qx qb qp wx qm wv wq qr qz qg qk)(c_is_name:Cal P w K mg base "is_name" 1 Qv):FnOk P w K mg base (CXE P w) 2 f fd ["name","things"] (jk qm wv):=by
 have sc:=yw
 refine F.okX sc (λvs H Q E h=>by obtain ⟨x,d,kvs,rfl,_⟩:=h;rfl) (λcdv A outer s H vs Q E hr h=>?_)
 obtain ⟨x,d,kvs,rfl,hx,hd,k,kn,kt⟩:=h
 refine ⟨_,(qu (xz (qky (qkq (ww c_is_name (hr.mono (by decide)) rfl qj (qc (pv 0) qv)))) (qh (zk rfl T.x_BadName xt rfl T.g_BadName (wn x6 qv))) wg)
   (qh (xz (qwz (pc_din (ud hr) (pv 0) (pv 1))) (qh (zk rfl T.x_Taken xt rfl T.g_Taken (wn x6 qv))) wg))),?_⟩
 refine exI rfl ⟨x,rfl,hx,λH1 s1=>(exI rfl ?_)⟩
 have dg:DGet H1 d (.str x) (xg kvs (.inr x)):=DGet.k (k:=.inr x) (s1 _ _ hd)
 cases hn:zh x with
 |false=>exact j3 ⟨sz1,kn hn H1 s1⟩
 |true =>
  refine Y1 (exI rfl (exI rfl ⟨d,exI rfl ⟨dg,_,rfl,?_⟩⟩))
  cases hv:xg kvs (.inr x) with
  |none=>exact Y1 (k hn hv H1 s1)
  |some v=>exact j3 ⟨sz1,kt hn (by rw [hv];rfl) H1 s1⟩
def qqg:Sp:=λvs H Q _=>∃(t c:Aj) (R cs:List (Key×V)),vs=[.ref t,.ref c]∧t≠c∧H t=some (.dK R)∧Rd H c (.dK cs)∧(cs.map (·.1)).Nodup∧R.length≤1000∧cs.length≤1000∧ExOk R cs ∧
 ∀q H',H q=none→H' q=some (.dK (bfK R cs))→H' t=some (.dK (exK R cs))→Rd H' c (.dK cs)→Kb [t,c] H H'→Q (.ref q) H'
theorem qjx {f:Aj}{fd:Ad}(F:Fun K "exchange" "exchange" s_exchange f fd)(T:Txt K mg qf qt qw qx qb qp wx qm wv wq qr qz qg qk):FnOk P w K mg base (CXE P w) 1 f fd ["things","changes"] qqg:=by
 have sc:=J1
 refine F.okX sc (λvs H Q E h=>by obtain ⟨t,c,R,cs,rfl,_⟩:=h;rfl) (λcdv A outer s H vs Q E hr h=>?_)
 obtain ⟨t,c,R,cs,rfl,tc,ht,hc,nd,lR,lc,ok,k⟩:=h
 have big:(1000000:Nat)<sizeLine:=by decide
 refine ⟨_,(qu (Jf (i:=2) (M:=[0]) sc.nd rfl (by walk_at "loc") rfl rfl (by walk_at "cap") (by walk_at "has") (by walk_at "cix") rfl (by decide +kernel) rfl (show List.Nodup (["name","things"]:List Str) by decide +kernel) (pi_dk (pv 1)) (λ_ _ _ _ _=>(pv 0)) (λ_ _ _ _ _=>(qzn (ud hr) (pv 1) (pv 0) ⟨rfl,rfl,rfl,rfl⟩)))
   (qu (Wx aV rfl (pi_di (pv 1)) (vc rfl (xv (xq (i:=3) sc.nd rfl (by walk_at "loc")) (xv (xq (i:=4) sc.nd rfl (by walk_at "loc")) zr))) (qh (xz (wc op_isN (pv 4) Zr (wm _)) (qh (qjv (pv 0) (pv 3))) (qh (qw2 (ud hr) (pv 0) (pv 3) (pv 4) rfl)))))
   (qh (wr (pv 2))))),?_⟩
 refine exI rfl ⟨c,cs,rfl,hc,λo H1 fz=>?_⟩
 have ht1:H1 t=some (.dK R):=by rw [fz.2 t tc];exact ht
 refine qz7 (λk=>(xg R k).getD .non) (by lia) nd fz.1 (λk H' RR s' hR=>(exI rfl (exI rfl ⟨t,rfl,.inl ⟨R,.inl (s' _ _ ht1)⟩,exI rfl ⟨_,DGet.k (k:=k) (s' _ _ ht1),hR⟩⟩))) λq nq=>?_
 have nq0:H q=none:=by
  cases e:H q with
  |none=>rfl
  |some ob =>
   by_cases z:q=c
   ·rw [z,fz.1] at nq;cases nq
   ·rw [fz.2 q z,e] at nq;cases nq
 have s2:Same H1 (upd H1 q (.dK (bfK R cs))):=Same.upd nq
 have fq:upd H1 q (.dK (bfK R cs)) q=some (.dK (bfK R cs)):=q9
 have c2:upd H1 q (.dK (bfK R cs)) c=some (.frz o (.dK cs)):=s2 _ _ fz.1
 have t2:upd H1 q (.dK (bfK R cs)) t=some (.dK R):=s2 _ _ ht1
 have tq:t≠q:=qd ht1 nq
 have kb:Kb [t,c] H (upd H1 q (.dK (bfK R cs))):=λb ob nb e=>s2 _ _ (by rw [fz.2 b (λz=>nb (by simp [z]))];exact e)
 have sel:(cs.map λc=>(c.1,(xg R c.1).getD .non))=bfK R cs:=rfl
 rw [sel]
 generalize upd H1 q (.dK (bfK R cs))=H2 at fq c2 t2 kb
 refine exI rfl ⟨c,cs,rfl,.inr ⟨o,c2⟩,λo' H3 fz3=>?_⟩
 have cq:q≠c:=λz=>by rw [z,c2] at fq;cases fq
 have t3:H3 t=some (.dK R):=by rw [fz3.2 t tc];exact t2
 have q3:H3 q=some (.dK (bfK R cs)):=by rw [fz3.2 q cq];exact fq
 have kb3:Kb [t,c] H H3:=λb ob nb e=>by rw [fz3.2 b (λz=>nb (by simp [z]))];exact kb b ob nb e
 refine for_di (λi σ H'=>(∃z3 z4,σ=[some (.ref t),some (.ref c),some (.ref q),z3,z4])∧H' c=some (.frz o' (.dK cs))∧H' q=some (.dK (bfK R cs))∧H' t=some (.dK (exK R (cs.take i)))∧Kb [t,c] H H') ⟨⟨_,_,rfl⟩,fz3.1,q3,t3,kb3⟩ (λi σ H' hi h=>h.2.1) ?_ ?_
 ·rintro i cc z σ H' ec nz ⟨⟨z3,z4,rfl⟩,a1,a2,a3,a4⟩
  have s4:Same H' (upd H' z (.tup [kV cc.1,cc.2])):=Same.upd nz
  refine ⟨z,exI rfl ⟨SqT.new,rfl,_,_,rfl,_,_,rfl,rfl,?_⟩⟩
  have b1:=s4 _ _ a1
  have b2:=s4 _ _ a2
  have b3:=s4 _ _ a3
  have b4:Kb [t,c] H (upd H' z (.tup [kV cc.1,cc.2])):=λb ob nb e=>s4 _ _ (a4 b ob nb e)
  generalize upd H' z (.tup [kV cc.1,cc.2])=H4 at b1 b2 b3 b4
  have le:=qj8 R (cs.take i)
  have lt:(cs.take i).length≤1000:=by rw [bI];lia
  have et:=qk5 R ec
  have tq':t≠q:=tq
  have step:∀R',ex1 (exK R (cs.take i)) cc=R'→(∃z3' z4',[some (V.ref t),some (V.ref c),some (V.ref q),some (kV cc.1),some cc.2]=[some (V.ref t),some (V.ref c),some (V.ref q),z3',z4'])∧upd H4 t (.dK R') c=some (.frz o' (.dK cs))∧upd H4 t (.dK R') q=some (.dK (bfK R cs))∧upd H4 t (.dK R') t=some (.dK (exK R (cs.take (i+1))))∧Kb [t,c] H (upd H4 t (.dK R')):=λR' e=>by
   refine ⟨⟨_,_,rfl⟩,?_,?_,?_,λb ob nb e'=>?_⟩
   ·rw [q8 (aT tc)];exact b1
   ·rw [q8 (aT tq')];exact b2
   ·rw [q9,et,e]
   ·rw [q8 (λz=>nb (by simp [z]))];exact b4 b ob nb e'
  refine exI rfl ⟨rfl,_,rfl,z9 (λhn=>?_) (λhn=>?_)⟩
  ·exact exI rfl (exI rfl ⟨t,_,cc.1,rfl,b3,rfl,ok i cc ec hn,step _ (by unfold ex1;rw [av hn])⟩)
  ·exact exI rfl (exI rfl (exI rfl ⟨t,exI rfl ⟨DPut.k (k:=cc.1) b3 (by lia),step _ (by unfold ex1;rw [ao hn])⟩⟩))
 ·rintro σ H' ⟨⟨z3,z4,rfl⟩,a1,a2,a3,a4⟩
  rw [List.take_length] at a3
  exact exI rfl (k q H' nq0 a2 a3 (.inr ⟨o',a1⟩) a4)
def hF (dr dw dd:Aj):List (Str×V):=[("roads",.ref dr),("walkers",.ref dw),("done",.ref dd)]
theorem v3 {dr dw dd:Aj}:(hF dr dw dd).lookup ("roads" : Str)=some (.ref dr):=by unfold hF;rw [ax];simp
theorem yy {dr dw dd:Aj}:(hF dr dw dd).lookup ("walkers" : Str)=some (.ref dw):=by
 unfold hF
 rw [ax,show (("walkers" : Str)==("roads" : Str))=false by decide +kernel]
 dsimp only
 rw [ax]
 simp
theorem qxw {dr dw dd:Aj}:(hF dr dw dd).lookup ("done" : Str)=some (.ref dd):=by
 unfold hF
 rw [ax,show (("done" : Str)==("roads" : Str))=false by decide +kernel]
 dsimp only
 rw [ax,show (("done" : Str)==("walkers" : Str))=false by decide +kernel]
 dsimp only
 rw [ax]
 simp
theorem k7 {dr dw dd:Aj}{m:Str}(h1:¬ m = "roads")(h2:¬ m = "walkers")(h3:¬ m = "done"):(hF dr dw dd).lookup m=none:=by
 unfold hF
 rw [ax,aA.mpr h1]
 dsimp only
 rw [ax,aA.mpr h2]
 dsimp only
 rw [ax,aA.mpr h3]
 rfl
structure Hse (C:Aj)(H:Hp)(x dr dw dd:Aj)(R W:List (Key×V))(D:List V):Prop where
 ob:∃dx,H x=some (.ins C dx (hF dr dw dd))
 r:H dr=some (.dK R)
 w:H dw=some (.dK W)
 d:H dd=some (.lst D)
 ne:dr≠dw
theorem Hse.kb {C:Aj}{H H':Hp}{x dr dw dd:Aj}{R W:List (Key×V)}{D:List V}(h:Hse C H x dr dw dd R W D){ch:List Aj}(k:Kb ch H H')(n:x∉ch∧dr∉ch∧dw∉ch∧dd∉ch):Hse C H' x dr dw dd R W D:=by
 obtain ⟨dx,e⟩:=h.ob
 exact ⟨⟨dx,k _ _ n.1 e⟩,k _ _ n.2.1 h.r,k _ _ n.2.2.1 h.w,k _ _ n.2.2.2 h.d,h.ne⟩
theorem Hse.same {C:Aj}{H H':Hp}{x dr dw dd:Aj}{R W:List (Key×V)}{D:List V}(h:Hse C H x dr dw dd R W D)(s:Same H H'):Hse C H' x dr dw dd R W D:=h.kb (ch:=[]) (Kb.of s) ⟨ay,ay,ay,ay⟩
def Z4 (C:Aj):Sp:=λvs H Q _=>∃x dx,vs=[.ref x]∧H x=some (.ins C dx [])∧∀H' dr dw dd,H dr=none→H dw=none→H dd=none→Hse C H' x dr dw dd [] [] []→Kb [x] H H'→Q .non H'
theorem qz5 {f:Aj}{fd:Ad}(F:Fun K "__init__" "House.__init__" s_House___init__ f fd)(T:Txt K mg qf qt qw qx qb qp wx qm wv wq qr qz qg qk):FnOk P w K mg base (CXE P w) 1 f fd ["self"] (Z4 qk):=by
 have sc:=j4
 refine F.okX sc (λvs H Q E h=>by obtain ⟨x,dx,rfl,_⟩:=h;rfl) (λcdv A outer s H vs Q E hr h=>?_)
 obtain ⟨x,dx,rfl,hx,k⟩:=h
 refine ⟨_,(qu (jm (pv 0) yz rfl)
   (qu (jm (pv 0) yz rfl)
   (qh (jm (pv 0) (Wj qv) rfl)))),?_⟩
 refine λdr n1=>exI rfl ⟨x,qk,dx,[],rfl,(by rw [q8 (qd hx n1)];exact hx),T.clH,T.naHr,(by show 0<1000;decide),?_⟩
 have e1:∀b o,b≠x→H b=some o→upd (upd H dr (.dK [])) x (.ins qk dx (zq "roads" (.ref dr) [])) b=some o:=λb o nb e=>by rw [q8 nb,q8 (qd e n1)];exact e
 have x1:upd (upd H dr (.dK [])) x (.ins qk dx (zq "roads" (.ref dr) [])) x=some (.ins qk dx (zq "roads" (.ref dr) [])):=q9
 have r1:upd (upd H dr (.dK [])) x (.ins qk dx (zq "roads" (.ref dr) [])) dr=some (.dK []):=by rw [q8 (qd hx n1).symm,q9]
 generalize upd (upd H dr (.dK [])) x (.ins qk dx (zq "roads" (.ref dr) []))=H1 at e1 x1 r1
 refine λdw n2=>exI rfl ⟨x,qk,dx,exI rfl ⟨(by rw [q8 (qd x1 n2)];exact x1),T.clH,T.naHw,(by show 1<1000;decide),?_⟩⟩
 have xr:x≠dr:=qd hx n1
 have e2:∀b o,b≠x→H1 b=some o→upd (upd H1 dw (.dK [])) x (.ins qk dx (zq "walkers" (.ref dw) (zq "roads" (.ref dr) []))) b=some o:=λb o nb e=>by rw [q8 nb,q8 (qd e n2)];exact e
 have x2:upd (upd H1 dw (.dK [])) x (.ins qk dx (zq "walkers" (.ref dw) (zq "roads" (.ref dr) []))) x=some (.ins qk dx (zq "walkers" (.ref dw) (zq "roads" (.ref dr) []))):=q9
 have w2:upd (upd H1 dw (.dK [])) x (.ins qk dx (zq "walkers" (.ref dw) (zq "roads" (.ref dr) []))) dw=some (.dK []):=by rw [q8 (qd x1 n2).symm,q9]
 have r2:=e2 dr _ xr.symm r1
 generalize upd (upd H1 dw (.dK [])) x (.ins qk dx (zq "walkers" (.ref dw) (zq "roads" (.ref dr) [])))=H2 at e2 x2 w2 r2
 have xw:x≠dw:=qd x1 n2
 refine ⟨sz0,λdd n3=>(exI rfl ⟨x,qk,dx,exI rfl ⟨(by rw [q8 (qd x2 n3)];exact x2),T.clH,T.naHd,(by show 2<1000;decide),?_⟩⟩)⟩
 have xd:x≠dd:=qd x2 n3
 have e3:∀b o,b≠x→H2 b=some o→upd (upd H2 dd (.lst [])) x (.ins qk dx (zq "done" (.ref dd) (zq "walkers" (.ref dw) (zq "roads" (.ref dr) [])))) b=some o:=λb o nb e=>by rw [q8 nb,q8 (qd e n3)];exact e
 have old:∀b o,b≠x→H b=some o→H2 b=some o:=λb o nb e=>e2 b o nb (e1 b o nb e)
 have non:∀b,b≠x→H2 b=none→H b=none:=λb nb e=>by
  cases q:H b with
  |none=>rfl
  |some o=>rw [old b o nb q] at e;cases e
 refine k _ dr dw dd n1 (by
  cases q:H dw with
  |none=>rfl
  |some o=>rw [e1 dw o xw.symm q] at n2;cases n2) (non dd xd.symm n3) ⟨⟨dx,q9⟩,e3 _ _ xr.symm r2,e3 _ _ xw.symm w2,?_,qd r1 n2⟩ λb o nb e=>e3 b o (λz=>nb (by simp [z])) (old b o (λz=>nb (by simp [z])) e)
 rw [q8 xd.symm,q9]
def Q0 (C CN:Aj)(roads:Bool):Sp:=λvs H Q E=>∃(x dr dw dd:Aj) (R W:List (Key×V)) (D:List V) (n:Str),vs=[.ref x,.str n]∧Hse C H x dr dw dd R W D ∧
 (∀v,xg (if roads then R else W) (.inr n)=some v→Q v H)∧(xg (if roads then R else W) (.inr n)=none→E (.ref CN) none H)
theorem Wz {f:Aj}{fd:Ad}(F:Fun K "road_called" "House.road_called" s_House_road_called f fd)(T:Txt K mg qf qt qw qx qb qp wx qm wv wq qr qz qg qk):FnOk P w K mg base (CXE P w) 1 f fd ["self","name"] (Q0 qk wq true):=by
 have sc:=k8
 refine F.okX sc (λvs H Q E h=>by obtain ⟨x,dr,dw,dd,R,W,D,n,rfl,_⟩:=h;rfl) (λcdv A outer s H vs Q E hr h=>?_)
 obtain ⟨x,dr,dw,dd,R,W,D,n,rfl,hh,k,kx⟩:=h
 obtain ⟨dx,hx⟩:=hh.ob
 have dg:DGet H dr (.str n) (xg R (.inr n)):=DGet.k (k:=.inr n) hh.r
 refine ⟨_,(qu (xz (qwz (Zx (ud hr) (pv 1) (vd (pv 0) rfl))) (qh (zk rfl T.x_NoRoad xt rfl T.g_NoRoad (wn x6 qv))) wg)
   (qh (wr (qwp (ud hr) (vd (pv 0) rfl) (pv 1) (λ_ _=>rfl))))),?_⟩
 refine exI rfl (exI rfl ⟨x,qk,dx,_,_,rfl,hx,T.clH,T.naHr,v3,dr,exI rfl ⟨dg,_,rfl,?_⟩⟩)
 cases e:xg R (.inr n) with
 |none=>exact j3 ⟨sz1,kx e⟩
 |some v =>
  rw [e] at dg
  exact Y1 (exI rfl ⟨x,qk,dx,_,_,rfl,hx,T.clH,T.naHr,v3,exI rfl ⟨dr,v,rfl,dg,k v e⟩⟩)
def spDo (C:Aj):Sp:=λvs H Q _=>∃(x dr dw dd c1 c2:Aj) (R W cs1 cs2:List (Key×V)) (D:List V),vs=[.ref x,.ref c1,.ref c2]∧Hse C H x dr dw dd R W D∧Rd H c1 (.dK cs1)∧Rd H c2 (.dK cs2)∧c1≠c2∧c1≠dr∧c1≠dw∧c2≠dr∧c2≠dw ∧
 (cs1.map (·.1)).Nodup∧(cs2.map (·.1)).Nodup∧R.length≤1000∧W.length≤1000∧cs1.length≤1000∧cs2.length≤1000∧D.length≤1000000∧ExOk R cs1∧ExOk W cs2 ∧
 ∀H' tp q1 q2,H tp=none→H q1=none→H q2=none→Hse C H' x dr dw dd (exK R cs1) (exK W cs2) (D++[.ref tp])→H' tp=some (.tup [.ref q1,.ref q2])→H' q1=some (.dK (bfK R cs1))→H' q2=some (.dK (bfK W cs2))→q1≠q2→Rd H' c2 (.dK cs2)→Kb [dr,dw,dd,c1,c2] H H'→Q .non H'
theorem ok_do {f:Aj}{fd:Ad}(F:Fun K "do" "House.do" s_House_do f fd)(T:Txt K mg qf qt qw qx qb qp wx qm wv wq qr qz qg qk)(c_exchange:Cal P w K mg base "exchange" 1 qqg):FnOk P w K mg base (CXE P w) 2 f fd ["self","roads","walkers"] (spDo qk):=by
 have sc:=Jr
 refine F.okX sc (λvs H Q E h=>by obtain ⟨x,dr,dw,dd,c1,c2,R,W,cs1,cs2,D,rfl,_⟩:=h;rfl) (λcdv A outer s H vs Q E hr h=>?_)
 obtain ⟨x,dr,dw,dd,c1,c2,R,W,cs1,cs2,D,rfl,hh,h1,h2,n12,n1r,n1w,n2r,n2w,nd1,nd2,lR,lW,l1,l2,lD,ok1,ok2,k⟩:=h
 obtain ⟨dx,hx⟩:=hh.ob
 have big:(1000000:Nat)<sizeLine:=by decide
 have isI:∀ {b o},Rd H b (.dK o)→x≠b:=λ{b o} hb z=>by
  rcases hb with hb|⟨u,hb⟩ <;> (rw [←z,hx] at hb;cases hb)
 have isD:∀ {b o},Rd H b (.dK o)→dd≠b:=λ{b o} hb z=>by
  rcases hb with hb|⟨u,hb⟩ <;> (rw [←z,hh.d] at hb;cases hb)
 have xr:=isI (.inl hh.r)
 have xw:=isI (.inl hh.w)
 have x1:=isI h1
 have x2:=isI h2
 have dr':=isD (.inl hh.r)
 have dw':=isD (.inl hh.w)
 have d1:=isD h1
 have d2:=isD h2
 refine ⟨_,(qh (xk (qws bx bK bL jz (vd (pv 0) rfl) (pa_cT (ku (vw (ww c_exchange (hr.mono (by decide)) rfl qj (xp (vd (pv 0) rfl) (qc (pv 1) qv))) (vw (ww c_exchange (hr.mono (by decide)) rfl qj (xp (vd (pv 0) rfl) (qc (pv 2) qv))) qv))) qv)))),?_⟩
 refine exI rfl ⟨x,qk,dx,_,_,rfl,hx,T.clH,T.naHd,qxw,.inl ⟨rfl,_,SqL.of hh.d⟩,?_⟩
 refine exI rfl ⟨x,qk,dx,_,_,rfl,hx,T.clH,T.naHr,v3,exI rfl ⟨dr,c1,R,cs1,rfl,aT n1r,hh.r,h1,nd1,lR,l1,ok1,λq1 H1 nq1 fq1 fr1 fc1 kb1=>?_⟩⟩
 have m1:∀b,b≠dr→b≠c1→b∉[dr,c1]:=λb a1 a2 z=>by
  rcases ap.mp z with z|z
  ·exact a1 z
  ·exact a2 (aB.mp z)
 have hx1:=kb1 _ _ (m1 x xr x1) hx
 have hw1:=kb1 _ _ (m1 dw (aT hh.ne) (aT n1w)) hh.w
 have hd1:=kb1 _ _ (m1 dd dr' d1) hh.d
 have hc2:=kb1.rd (m1 c2 n2r (aT n12)) h2
 refine exI rfl ⟨x,qk,dx,_,_,rfl,hx1,T.clH,T.naHw,yy,exI rfl ⟨dw,c2,W,cs2,rfl,aT n2w,hw1,hc2,nd2,lW,l2,ok2,λq2 H2 nq2 fq2 fw2 fc2 kb2=>?_⟩⟩
 have m2:∀b,b≠dw→b≠c2→b∉[dw,c2]:=λb a1 a2 z=>by
  rcases ap.mp z with z|z
  ·exact a1 z
  ·exact a2 (aB.mp z)
 have q1w:q1≠dw:=λz=>by rw [z,hh.w] at nq1;cases nq1
 have q1c:q1≠c2:=λz=>by rcases h2 with h2|⟨u,h2⟩ <;> (rw [z,h2] at nq1;cases nq1)
 have fq1':=kb2 _ _ (m2 q1 q1w q1c) fq1
 have q12:q1≠q2:=qd fq1 nq2
 have nq2':H q2=none:=by
  cases e:H q2 with
  |none=>rfl
  |some o =>
   by_cases z:q2=dr∨q2=c1
   ·rcases z with z|z
    ·rw [z,fr1] at nq2;cases nq2
    ·rcases fc1 with g|⟨u,g⟩ <;> (rw [z,g] at nq2;cases nq2)
   ·rw [kb1 _ _ (m1 q2 (λy=>z (.inl y)) (λy=>z (.inr y))) e] at nq2;cases nq2
 refine ⟨sz2,λtp ntp=>?_⟩
 have hx2:=kb2 _ _ (m2 x xw x2) hx1
 have hr2:=kb2 _ _ (m2 dr hh.ne (aT n2r)) fr1
 have hd2:=kb2 _ _ (m2 dd dw' d2) hd1
 have old:∀b o,b∉[dr,dw,dd,c1,c2]→H b=some o→H2 b=some o:=λb o nb e=>by
  simp only [ap,ay,cE,not_or] at nb
  exact kb2 _ _ (m2 b nb.2.1 nb.2.2.2.2) (kb1 _ _ (m1 b nb.1 nb.2.2.2.1) e)
 have rd2:∀b,b=dr∨b=dw∨b=dd∨b=c1∨b=c2→H2 b≠none:=λb h z=>by
  rcases h with h|h|h|h|h
  ·rw [h,hr2] at z;cases z
  ·rw [h,fw2] at z;cases z
  ·rw [h,hd2] at z;cases z
  ·by_cases y:c1=dw
   ·exact n1w y
   ·rcases fc1 with g|⟨u,g⟩ <;> (rw [h,kb2 _ _ (m2 c1 n1w n12) g] at z;cases z)
  ·rcases fc2 with g|⟨u,g⟩ <;> (rw [h,g] at z;cases z)
 have ntp0:H tp=none:=by
  cases e:H tp with
  |none=>rfl
  |some o =>
   by_cases z:tp=dr∨tp=dw∨tp=dd∨tp=c1∨tp=c2
   ·exact absurd ntp (rd2 tp z)
   ·rw [old tp o (by simp only [ap,ay,cE];exact z) e] at ntp;cases ntp
 have s3:Same H2 (upd H2 tp (.tup [.ref q1,.ref q2])):=Same.upd ntp
 have ft:upd H2 tp (.tup [.ref q1,.ref q2]) tp=some (.tup [.ref q1,.ref q2]):=q9
 generalize upd H2 tp (.tup [.ref q1,.ref q2])=H3 at s3 ft
 have hd3:=s3 _ _ hd2
 refine ⟨dd,D,_,rfl,rfl,hd3,by lia,?_⟩
 have ne3:∀b o,b≠dd→H3 b=some o→upd H3 dd (.lst (D++[.ref tp])) b=some o:=λb o nb e=>by rw [q8 nb];exact e
 have kq:∀b kv,H3 b=some (.dK kv)→b≠dd:=λb kv e z=>by rw [z,hd3] at e;cases e
 have rd3:Rd (upd H3 dd (.lst (D++[.ref tp]))) c2 (.dK cs2):=by
  rcases fc2 with e|⟨u,e⟩
  ·exact .inl (ne3 _ _ (aT d2) (s3 _ _ e))
  ·exact .inr ⟨u,ne3 _ _ (aT d2) (s3 _ _ e)⟩
 refine k _ tp q1 q2 ntp0 nq1 nq2' ⟨⟨dx,ne3 _ _ (λz=>by rw [z] at hx;rw [hh.d] at hx;cases hx) (s3 _ _ hx2)⟩,ne3 _ _ (aT dr') (s3 _ _ hr2),ne3 _ _ (aT dw') (s3 _ _ fw2),q9,hh.ne⟩ (ne3 _ _ (λz=>by rw [z,hd3] at ft;cases ft) ft) (ne3 _ _ (kq _ _ (s3 _ _ fq1')) (s3 _ _ fq1')) (ne3 _ _ (kq _ _ (s3 _ _ fq2)) (s3 _ _ fq2)) q12 rd3 λb o nb e=>?_
 exact ne3 _ _ (λz=>nb (by simp [z])) (s3 _ _ (old b o nb e))
def Refs (D:List V):Prop:=∀v∈D,∃a,v=V.ref a
theorem RoadAt.kb {C CH:Aj}{H H':Hp}{r:Aj}{hs:List Int}(h:RoadAt C H r hs)(ok:wt hs){ch:List Aj}{D:List V}(k:Kb ch H H')(rf:Refs D)(hc:∀b∈ch,(∃kv,Rd H b (.dK kv))∨H b=some (.lst D)):RoadAt C H' r hs:=by
 obtain ⟨dx,q,h1,h2⟩:=h
 refine ⟨dx,q,k _ _ (λz=>?_) h1,k _ _ (λz=>?_) h2⟩
 ·rcases hc r z with ⟨kv,e|⟨o,e⟩⟩|e <;> (rw [h1] at e;cases e)
 ·rcases hc q z with ⟨kv,e|⟨o,e⟩⟩|e
  ·rw [h2] at e;cases e
  ·rw [h2] at e;cases e
  ·rw [h2] at e
   have e:hs.map V.int=D:=by cases e;rfl
   have l:=ok.1
   have m:V.int (hs[0]'(by lia))∈hs.map V.int:=bd.mpr ⟨_,List.getElem_mem _,rfl⟩
   rw [e] at m
   obtain ⟨a,ea⟩:=rf _ m
   cases ea
theorem qkp {H H3:Hp}{c1 c2:Aj}{o1 o2 o3:HO}(n1:H c1=none)(s3:Same (upd H c1 o1) H3)(n2:upd H3 c1 o2 c2=none):Same H (upd (upd H3 c1 o2) c2 o3):=λb o e=>by
 have b1:b≠c1:=qd e n1
 have e3:H3 b=some o:=s3 _ _ (by rw [q8 b1];exact e)
 have e4:upd H3 c1 o2 b=some o:=by rw [q8 b1];exact e3
 rw [q8 (qd e4 n2)]
 exact e4
theorem qjt {C CR:Aj}{H H3:Hp}{x dr dw dd c1 r:Aj}{R W:List (Key×V)}{D:List V}{n:Str}{hs:List Int}{Q:VK}{E:XK}(hh:Hse C H x dr dw dd R W D)(n1:H c1=none)(s3:Same (upd H c1 (.dK [])) H3)(R3:RoadAt CR H3 r hs)(okl:wt hs)(rf:Refs D)(lR:R.length≤1000)(lW:W.length≤1000)(lD:D.length≤1000000)
  (k:∀H' tp q1 q2,H tp=none→H q1=none→H q2=none→Hse C H' x dr dw dd (zu R (.inr n) (.ref r)) W (D++[.ref tp])→H' tp=some (.tup [.ref q1,.ref q2])→H' q1=some (.dK [(.inr n,(xg R (.inr n)).getD .non)])→H' q2=some (.dK [])→q1≠q2→RoadAt CR H' r hs→Kb [dr,dw,dd] H H'→Q .non H') :
  ∀c2,upd H3 c1 (.dK [(.inr n,.ref r)]) c2=none→spDo C [.ref x,.ref c1,.ref c2] (upd (upd H3 c1 (.dK [(.inr n,.ref r)])) c2 (.dK [])) Q E:=by
 intro c2 n2
 have s4:Same H (upd (upd H3 c1 (.dK [(.inr n,.ref r)])) c2 (.dK [])):=qkp n1 s3 n2
 have c12:c1≠c2:=λz=>by rw [←z,q9] at n2;cases n2
 have e1:upd (upd H3 c1 (.dK [(.inr n,.ref r)])) c2 (.dK []) c1=some (.dK [(.inr n,.ref r)]):=by rw [q8 c12,q9]
 have e2:upd (upd H3 c1 (.dK [(.inr n,.ref r)])) c2 (.dK []) c2=some (.dK []):=q9
 have h31:H3 c1=some (.dK []):=s3 _ _ q9
 have R4:RoadAt CR (upd (upd H3 c1 (.dK [(.inr n,.ref r)])) c2 (.dK [])) r hs:=by
  obtain ⟨dx,q,a1,a2⟩:=R3
  have keep:∀b o,(∀kv,o≠HO.dK kv)→H3 b=some o→upd (upd H3 c1 (.dK [(.inr n,.ref r)])) c2 (.dK []) b=some o:=λb o no e=>by
   have b1:b≠c1:=λz=>by rw [z,h31] at e;cases e;exact no _ rfl
   have e4:upd H3 c1 (.dK [(.inr n,.ref r)]) b=some o:=by rw [q8 b1];exact e
   rw [q8 (qd e4 n2)]
   exact e4
  exact ⟨dx,q,keep _ _ (λkv z=>by cases z) a1,keep _ _ (λkv z=>by cases z) a2⟩
 have n20:H c2=none:=by
  cases q:H c2 with
  |none=>rfl
  |some o =>
   have b1:c2≠c1:=aT c12
   rw [q8 b1,s3 _ _ (show upd H c1 (.dK []) c2=some o by rw [q8 b1];exact q)] at n2
   cases n2
 generalize upd (upd H3 c1 (.dK [(.inr n,.ref r)])) c2 (.dK [])=H4 at s4 e1 e2 R4
 have hh4:=hh.same s4
 refine ⟨x,dr,dw,dd,c1,c2,R,W,[(.inr n,.ref r)],[],D,rfl,hh4,.inl e1,.inl e2,c12,(qd hh.r n1).symm,(qd hh.w n1).symm,(qd hh.r n20).symm,(qd hh.w n20).symm,bE.mpr ⟨ay,bU⟩,bU,lR,lW,by show 1≤1000;decide,aJ _,lD,λi c ec hc=>?_,(λi c ec hc=>nomatch ec),λH' tp q1 q2 a1 a2 a3 a4 a5 a6 a7 a8 _ a9=>?_⟩
 ·cases i with
  |zero=>cases ec;cases hc
  |succ i=>cases ec
 ·have no:∀b,H4 b=none→H b=none:=λb e=>xm s4 e
  have rd:RoadAt CR H' r hs:=R4.kb (CH:=C) okl a9 rf λb hb=>by
   simp only [ap,ay,cE] at hb
   rcases hb with rfl|rfl|rfl|rfl|rfl
   ·exact .inl ⟨_,.inl hh4.r⟩
   ·exact .inl ⟨_,.inl hh4.w⟩
   ·exact .inr hh4.d
   ·exact .inl ⟨_,.inl e1⟩
   ·exact .inl ⟨_,.inl e2⟩
  refine k H' tp q1 q2 (no _ a1) (no _ a2) (no _ a3) a4 a5 a6 a7 a8 rd λb o nb e=>a9 b o (λz=>?_) (s4 _ _ e)
  simp only [ap,ay,cE] at z nb
  rcases z with z|z|z|z|z
  ·exact nb (.inl z)
  ·exact nb (.inr (.inl z))
  ·exact nb (.inr (.inr z))
  ·rw [z,n1] at e;cases e
  ·rw [z,n20] at e;cases e
def RDeed (C CR:Aj)(H H':Hp)(x dr dw dd:Aj)(R W:List (Key×V))(D:List V)(n:Str)(hs:List Int):Prop:=∃r tp q1 q2,H tp=none∧H q1=none∧H q2=none∧Hse C H' x dr dw dd (zu R (.inr n) (.ref r)) W (D++[.ref tp])∧H' tp=some (.tup [.ref q1,.ref q2])∧H' q1=some (.dK [(.inr n,(xg R (.inr n)).getD .non)])∧H' q2=some (.dK [])∧q1≠q2∧RoadAt CR H' r hs∧Kb [dr,dw,dd] H H'
theorem RDeed.pre {C CR:Aj}{H0 H H':Hp}{x dr dw dd:Aj}{R W:List (Key×V)}{D:List V}{n:Str}{hs:List Int}(h:RDeed C CR H H' x dr dw dd R W D n hs)(s:Same H0 H):RDeed C CR H0 H' x dr dw dd R W D n hs:=by
 obtain ⟨r,tp,q1,q2,a1,a2,a3,a4,a5,a6,a7,a8,a9,b1⟩:=h
 exact ⟨r,tp,q1,q2,xm s a1,xm s a2,xm s a3,a4,a5,a6,a7,a8,a9,λb o nb e=>b1 b o nb (s _ _ e)⟩
def qk0 (K:Aa)(C CR CN CT CL:Aj):Sp:=λvs H Q E=>∃(x dr dw dd p:Aj) (R W:List (Key×V)) (D:List V) (n:Str) (hs:List Int),vs=[.ref x,.str n,.ref p]∧Hse C H x dr dw dd R W D∧Refs D∧R.length≤1000∧W.length≤1000∧D.length≤1000000∧n.length≤1000∧H p=some (.lst (hs.map V.int)) ∧
 (zh n=true→xg R (.inr n)=none→wt hs→∀H',RDeed C CR H H' x dr dw dd R W D n hs→Q .non H')∧(zh n=false→∀H',Same H H'→E (.ref CN) none H')∧(zh n=true→(xg R (.inr n)).isSome=true→∀H',Same H H'→E (.ref CT) none H')∧(zh n=true→xg R (.inr n)=none→¬ wt hs→∀H',Same H H'→E (.ref CL) none H')
theorem ok_lay {f:Aj}{fd:Ad}(F:Fun K "lay" "House.lay" s_House_lay f fd)(T:Txt K mg qf qt qw qx qb qp wx qm wv wq qr qz qg qk)(c_check_new_name:Cal P w K mg base "check_new_name" 2 (jk qm wv))(c_Road:CCal P w K mg base "Road" qz 2 (Wy K qt qz))(c_do:MCal P w K mg base qk "do" 2 (spDo qk)) :
  FnOk P w K mg base (CXE P w) 4 f fd ["self","name","heights"] (qk0 K qk qz qm wv qt):=by
 have sc:=Yz
 refine F.okX sc (λvs H Q E h=>by obtain ⟨x,dr,dw,dd,p,R,W,D,n,hs,rfl,_⟩:=h;rfl) (λcdv A outer s H vs Q E hr h=>?_)
 obtain ⟨x,dr,dw,dd,p,R,W,D,n,hs,rfl,hh,rf,lR,lW,lD,ln,hp,k,kn,kt,kl⟩:=h
 obtain ⟨dx,hx⟩:=hh.ob
 refine ⟨_,(qu (xk (ww c_check_new_name (hr.mono (by decide)) rfl qj (qc (pv 1) (xp (vd (pv 0) rfl) qv))))
   (qh (xk (xy (pv 0) T.clH c_do (hr.mono (by decide)) qj (xp (qw5 (Jn (pv 1) (Wv c_Road (hr.mono (by decide)) rfl qj (qc (pv 2) qv)) qw1) rfl rfl (λz=>nomatch z) (by decide)) (xp yz qv)))))),?_⟩
 refine ⟨_,rfl,_,rfl,x,qk,dx,_,_,rfl,hx,T.clH,T.naHr,v3,n,dr,R,rfl,ln,hh.r,λa1 a2 H1 s1=>?_,kn,kt⟩
 have hh1:=hh.same s1
 refine exI rfl ⟨x,dx,exI rfl ⟨s1 _ _ hx,k7 (by decide +kernel) (by decide +kernel) (by decide +kernel),λc1 n1=>(exI rfl (exI rfl (λr d0 nr nd0 ne0=>qxq (H:=upd H1 c1 (.dK [])) (hs:=hs) (by rw [q8 (qd (s1 _ _ hp) n1)];exact s1 _ _ hp) nr nd0 (λokl H3 s3 R3=>?_) λz H3 s3=>kl a1 a2 z H3 (s1.trans (λb o e=>s3 _ _ (by rw [q8 (qd e n1)];exact e))))))⟩⟩
 refine ⟨s3 _ _ q9,[(.inr n,.ref r)],rfl,(show 1≤15 by decide),?_⟩
 exact qjt (E:=E) hh1 n1 s3 R3 okl rf lR lW lD λH' tp q1 q2 b1 b2 b3 b4 b5 b6 b7 b8 b9 kb=>k a1 a2 okl H' (RDeed.pre ⟨r,tp,q1,q2,b1,b2,b3,b4,b5,b6,b7,b8,b9,kb⟩ s1)
end
section
variable {P:Ac}{w:Ah}{K:Aa}{mg:Str→Option Ag}{base:Heap}{qf:Aj}{qt:Aj}{qw:Aj}{qx:Aj}{qb:Aj}{qp:Aj}{wx:Aj}{qm:Aj}{wv:Aj}{wq:Aj}{qr:Aj}{qz:Aj}{qg:Aj}{qk:Aj}
def wF (n:Str)(p t:Aj):List (Str×V):=[("whose",.str n),("point",.ref p),("times",.ref t)]
structure WkAt (C:Aj)(H:Hp)(y:Aj)(n:Str)(p:Aj)(pt:Int×Int)(t:Aj)(tv:List (List Key×V)):Prop where
 ob:∃dx,H y=some (.ins C dx (wF n p t))
 pt:H p=some (.tup [.int pt.1,.int pt.2])
 tm:H t=some (.dT tv)
theorem WkAt.kb {C:Aj}{H H':Hp}{y:Aj}{n:Str}{p:Aj}{pt:Int×Int}{t:Aj}{tv:List (List Key×V)}(h:WkAt C H y n p pt t tv){ch:List Aj}(k:Kb ch H H')(hc:∀b∈ch,(∃kv,Rd H b (.dK kv))∨∃D,H b=some (.lst D)):WkAt C H' y n p pt t tv:=by
 have no:∀b o,(∀kv,o≠HO.dK kv)→(∀u kv,o≠HO.frz u (.dK kv))→(∀D,o≠HO.lst D)→H b=some o→H' b=some o:=λb o a1 a2 a3 e=>k _ _ (λz=>by
  rcases hc b z with ⟨kv,q|⟨u,q⟩⟩|⟨D,q⟩
  ·rw [e] at q;cases q;exact a1 _ rfl
  ·rw [e] at q;cases q;exact a2 _ _ rfl
  ·rw [e] at q;cases q;exact a3 _ rfl) e
 obtain ⟨dx,e⟩:=h.ob
 exact ⟨⟨dx,no _ _ (λ_ z=>by cases z) (λ_ _ z=>by cases z) (λ_ z=>by cases z) e⟩,no _ _ (λ_ z=>by cases z) (λ_ _ z=>by cases z) (λ_ z=>by cases z) h.pt,no _ _ (λ_ z=>by cases z) (λ_ _ z=>by cases z) (λ_ z=>by cases z) h.tm⟩
def u9 (C:Aj):Sp:=λvs H Q _=>∃(y dx p t:Aj) (n:Str),vs=[.ref y,.str n,.ref p,.ref t]∧H y=some (.ins C dx [])∧∀H',H' y=some (.ins C dx (wF n p t))→Kb [y] H H'→Q .non H'
theorem qkx {f:Aj}{fd:Ad}(F:Fun K "__init__" "Walker.__init__" s_Walker___init__ f fd)(T:Txt K mg qf qt qw qx qb qp wx qm wv wq qr qz qg qk):FnOk P w K mg base (CXE P w) 1 f fd ["self","whose","point","times"] (u9 qg):=by
 have sc:=jh
 refine F.okX sc (λvs H Q E h=>by obtain ⟨y,dx,p,t,n,rfl,_⟩:=h;rfl) (λcdv A outer s H vs Q E hr h=>?_)
 obtain ⟨y,dx,p,t,n,rfl,hy,k⟩:=h
 refine ⟨_,(qu (jm (pv 0) (pv 1) rfl)
   (qu (jm (pv 0) (pv 2) rfl)
   (qh (jm (pv 0) (pv 3) rfl)))),?_⟩
 refine exI rfl (exI rfl ⟨y,qg,dx,[],rfl,hy,T.clW,T.naWw,(by show 0<1000;decide),?_⟩)
 refine exI rfl (exI rfl ⟨y,qg,dx,exI rfl ⟨q9,T.clW,T.naWp,(by show 1<1000;decide),?_⟩⟩)
 refine exI rfl (exI rfl ⟨y,qg,dx,exI rfl ⟨q9,T.clW,T.naWt,(by show 2<1000;decide),?_⟩⟩)
 refine k _ q9 λb o nb e=>?_
 have nb:b≠y:=λz=>nb (by simp [z])
 rw [q8 nb,q8 nb,q8 nb]
 exact e
theorem qxg {C:Aj}{H:Hp}{n:Str}{p t y dx:Aj}{Pp:Hp→Prop}{E:XK}(ny:H y=none)(nd:H dx=none)(k:∀H',Same H H'→(∃dx,H' y=some (.ins C dx (wF n p t)))→Pp H') :
  u9 C [.ref y,.str n,.ref p,.ref t] (upd (upd H dx (.own y)) y (.ins C dx [])) (λr H2=>r=.non∧Pp H2) E:=by
 refine ⟨y,dx,p,t,n,rfl,q9,λH' e kb=>⟨rfl,k H' (λb o eb=>kb b o (λz=>?_) ?_) ⟨dx,e⟩⟩⟩
 ·rw [aB.mp z,ny] at eb;cases eb
 ·rw [q8 (qd eb ny),q8 (qd eb nd)]
  exact eb
def uz (C:Aj):Sp:=λvs H Q _=>∃(n:Str) (p:Aj) (pt:Int×Int),vs=[.str n,.ref p]∧H p=some (.tup [.int pt.1,.int pt.2])∧∀H' y t,H y=none→Same H H'→WkAt C H' y n p pt t [([.inl pt.1,.inl pt.2],.int 1)]→Q (.ref y) H'
theorem Jt {f:Aj}{fd:Ad}(F:Fun K "set_down" "set_down" s_set_down f fd)(T:Txt K mg qf qt qw qx qb qp wx qm wv wq qr qz qg qk)(c_Walker:CCal P w K mg base "Walker" qg 1 (u9 qg)):FnOk P w K mg base (CXE P w) 3 f fd ["whose","point"] (uz qg):=by
 have sc:=Jb
 refine F.okX sc (λvs H Q E h=>by obtain ⟨n,p,pt,rfl,_⟩:=h;rfl) (λcdv A outer s H vs Q E hr h=>?_)
 obtain ⟨n,p,pt,rfl,hp,k⟩:=h
 refine ⟨_,(qh (wr (Wv c_Walker (hr.mono (by decide)) rfl qj (qc (pv 0) (qc (pv 1) (xp (qz2 hr.units0 (pv 1) qy) qv)))))),?_⟩
 refine exI rfl (exI rfl (λt nt=>(exI rfl ⟨p,[.inl pt.1,.inl pt.2],rfl,(by rw [q8 (qd hp nt)];exact hp),q9,?_⟩)))
 have s1:Same H (upd (upd H t (.dT [])) t (.dT [([.inl pt.1,.inl pt.2],.int 1)])):=by
  rw [yc]
  exact Same.upd nt
 have f1:upd (upd H t (.dT [])) t (.dT [([.inl pt.1,.inl pt.2],.int 1)]) t=some (.dT [([.inl pt.1,.inl pt.2],.int 1)]):=q9
 generalize upd (upd H t (.dT [])) t (.dT [([.inl pt.1,.inl pt.2],.int 1)])=H1 at s1 f1
 exact λy dx ny nd ne=>qxg ny nd λH' s2 e=>k H' y t (xm s1 ny) (s1.trans s2) ⟨e,s2 _ _ (s1 _ _ hp),s2 _ _ f1⟩
theorem qx1 {C CW:Aj}{H H3:Hp}{x dr dw dd c1 c2 y:Aj}{R W:List (Key×V)}{D:List V}{n whose:Str}{p t:Aj}{pt:Int×Int}{tv:List (List Key×V)}{Q:VK}{E:XK}(hh:Hse C H x dr dw dd R W D)(n1:H c1=none)(n2:upd H c1 (.dK []) c2=none)(s3:Same (upd (upd H c1 (.dK [])) c2 (.dK [])) H3)(W3:WkAt CW H3 y whose p pt t tv)(lR:R.length≤1000)(lW:W.length≤1000)(lD:D.length≤1000000)
  (k:∀H' tp q1 q2,H tp=none→H q1=none→H q2=none→Hse C H' x dr dw dd R (zu W (.inr n) (.ref y)) (D++[.ref tp])→H' tp=some (.tup [.ref q1,.ref q2])→H' q1=some (.dK [])→H' q2=some (.dK [(.inr n,(xg W (.inr n)).getD .non)])→q1≠q2→WkAt CW H' y whose p pt t tv→Kb [dr,dw,dd] H H'→Q .non H') :
  spDo C [.ref x,.ref c1,.ref c2] (upd H3 c2 (.dK [(.inr n,.ref y)])) Q E:=by
 have c12:c1≠c2:=λz=>by rw [←z,q9] at n2;cases n2
 have n20:H c2=none:=by rw [←n2,q8 (aT c12)]
 have s03:Same H H3:=λb o e=>s3 _ _ (by rw [q8 (qd e n20),q8 (qd e n1)];exact e)
 have h32:H3 c2=some (.dK []):=s3 _ _ q9
 have h31:H3 c1=some (.dK []):=s3 _ _ (by rw [q8 c12,q9])
 have keep:∀b o,(∀kv,o≠HO.dK kv)→H3 b=some o→upd H3 c2 (.dK [(.inr n,.ref y)]) b=some o:=λb o no e=>by
  rw [q8 (λz=>by rw [z,h32] at e;cases e;exact no _ rfl)]
  exact e
 have W4:WkAt CW (upd H3 c2 (.dK [(.inr n,.ref y)])) y whose p pt t tv:=by
  obtain ⟨dx,e⟩:=W3.ob
  exact ⟨⟨dx,keep _ _ (λkv z=>by cases z) e⟩,keep _ _ (λkv z=>by cases z) W3.pt,keep _ _ (λkv z=>by cases z) W3.tm⟩
 have s4:Same H (upd H3 c2 (.dK [(.inr n,.ref y)])):=λb o e=>by rw [q8 (qd e n20)];exact s03 _ _ e
 have e1:upd H3 c2 (.dK [(.inr n,.ref y)]) c1=some (.dK []):=by rw [q8 c12];exact h31
 have e2:upd H3 c2 (.dK [(.inr n,.ref y)]) c2=some (.dK [(.inr n,.ref y)]):=q9
 generalize upd H3 c2 (.dK [(.inr n,.ref y)])=H4 at s4 e1 e2 W4
 have hh4:=hh.same s4
 refine ⟨x,dr,dw,dd,c1,c2,R,W,[],[(.inr n,.ref y)],D,rfl,hh4,.inl e1,.inl e2,c12,(qd hh.r n1).symm,(qd hh.w n1).symm,(qd hh.r n20).symm,(qd hh.w n20).symm,bU,bE.mpr ⟨ay,bU⟩,lR,lW,aJ _,by show 1≤1000;decide,lD,(λi c ec hc=>nomatch ec),λi c ec hc=>?_,λH' tp q1 q2 a1 a2 a3 a4 a5 a6 a7 a8 _ a9=>?_⟩
 ·cases i with
  |zero=>cases ec;cases hc
  |succ i=>cases ec
 ·have no:∀b,H4 b=none→H b=none:=λb e=>xm s4 e
  have wk:WkAt CW H' y whose p pt t tv:=W4.kb a9 λb hb=>by
   simp only [ap,ay,cE] at hb
   rcases hb with rfl|rfl|rfl|rfl|rfl
   ·exact .inl ⟨_,.inl hh4.r⟩
   ·exact .inl ⟨_,.inl hh4.w⟩
   ·exact .inr ⟨_,hh4.d⟩
   ·exact .inl ⟨_,.inl e1⟩
   ·exact .inl ⟨_,.inl e2⟩
  refine k H' tp q1 q2 (no _ a1) (no _ a2) (no _ a3) a4 a5 a6 a7 a8 wk λb o nb e=>a9 b o (λz=>?_) (s4 _ _ e)
  simp only [ap,ay,cE] at z nb
  rcases z with z|z|z|z|z
  ·exact nb (.inl z)
  ·exact nb (.inr (.inl z))
  ·exact nb (.inr (.inr z))
  ·rw [z,n1] at e;cases e
  ·rw [z,n20] at e;cases e
def WDeed (C CW:Aj)(H H':Hp)(x dr dw dd:Aj)(R W:List (Key×V))(D:List V)(n whose:Str)(p:Aj)(pt:Int×Int)(t:Aj)(tv:List (List Key×V)):Prop:=∃y tp q1 q2,H tp=none∧H q1=none∧H q2=none∧Hse C H' x dr dw dd R (zu W (.inr n) (.ref y)) (D++[.ref tp])∧H' tp=some (.tup [.ref q1,.ref q2])∧H' q1=some (.dK [])∧H' q2=some (.dK [(.inr n,(xg W (.inr n)).getD .non)])∧q1≠q2∧WkAt CW H' y whose p pt t tv∧Kb [dr,dw,dd] H H'
theorem WDeed.pre {C CW:Aj}{H0 H H':Hp}{x dr dw dd:Aj}{R W:List (Key×V)}{D:List V}{n whose:Str}{p:Aj}{pt:Int×Int}{t:Aj}{tv:List (List Key×V)}(h:WDeed C CW H H' x dr dw dd R W D n whose p pt t tv)(s:Same H0 H):WDeed C CW H0 H' x dr dw dd R W D n whose p pt t tv:=by
 obtain ⟨y,tp,q1,q2,a1,a2,a3,a4,a5,a6,a7,a8,a9,b1⟩:=h
 exact ⟨y,tp,q1,q2,xm s a1,xm s a2,xm s a3,a4,a5,a6,a7,a8,a9,λb o nb e=>b1 b o nb (s _ _ e)⟩
def Yg (K:Aa)(C CR CW CN CT CNR CB CO:Aj):Sp:=λvs H Q E=>∃(x dr dw dd a:Aj) (R W:List (Key×V)) (D:List V) (n whose:Str) (t b:Int),vs=[.ref x,.str n,.str whose,.ref a]∧Hse C H x dr dw dd R W D∧R.length≤1000∧W.length≤1000∧D.length≤1000000∧n.length≤1000∧H a=some (.tup [.int t,.int b]) ∧
 (zh n=false→∀H',Same H H'→E (.ref CN) none H')∧(zh n=true→(xg W (.inr n)).isSome=true→∀H',Same H H'→E (.ref CT) none H')∧(zh n=true→xg W (.inr n)=none→(xg R (.inr whose)=none→∀H',Same H H'→E (.ref CNR) none H') ∧
  ∀v,xg R (.inr whose)=some v→∃r hs,v=.ref r∧RoadAt CR H r hs∧wt hs∧(b<1→∀H',Same H H'→E (.ref CB) none H')∧(1≤b→Sm 8000 b∧(40<(wj t b).2→∀H',Same H H'→E (.ref CB) none H')∧((wj t b).2≤40 →
   (¬ xh hs (wj t b).1 (wj t b).2→∀H',Same H H'→E (.ref CO) none H')∧(xh hs (wj t b).1 (wj t b).2→∀H' p t',WDeed C CW H H' x dr dw dd R W D n whose p (wj t b) t' [([.inl (wj t b).1,.inl (wj t b).2],.int 1)]→Q .non H'))))
theorem low1 {t b:Int}(h:1≤b):1≤(wj t b).2:=by
 have e:=uu (t:=t) h
 have g:=vq (t:=t) h
 show 1≤b/gOf t b
 by_cases z:1≤b/gOf t b
 ·exact z
 ·have:gOf t b*(b/gOf t b)≤0:=Int.mul_nonpos_of_nonneg_of_nonpos (by lia) (by lia)
  lia
theorem qvj {f:Aj}{fd:Ad}(F:Fun K "place" "House.place" s_House_place f fd)(T:Txt K mg qf qt qw qx qb qp wx qm wv wq qr qz qg qk)(c_check_new_name:Cal P w K mg base "check_new_name" 2 (jk qm wv))(c_road_called:MCal P w K mg base qk "road_called" 1 (Q0 qk wq true))(c_lowest:Cal P w K mg base "lowest" 2 (ky qw))(c_on_road:MCal P w K mg base qz "on_road" 3 (x8 K qz qw qx))(c_set_down:Cal P w K mg base "set_down" 3 (uz qg))(c_do:MCal P w K mg base qk "do" 2 (spDo qk)) :
  FnOk P w K mg base (CXE P w) 5 f fd ["self","name","whose","point"] (Yg K qk qz qg qm wv wq qw qx):=by
 have sc:=Qc
 refine F.okX sc (λvs H Q E h=>by obtain ⟨x,dr,dw,dd,a,R,W,D,n,whose,t,b,rfl,_⟩:=h;rfl) (λcdv A outer s H vs Q E hr h=>?_)
 obtain ⟨x,dr,dw,dd,a,R,W,D,n,whose,t,b,rfl,hh,lR,lW,lD,ln,ha,kn,kt,k⟩:=h
 obtain ⟨dx,hx⟩:=hh.ob
 obtain ⟨tg,g_GREATEST_BOTTOM⟩:=T.g_GREATEST_BOTTOM
 refine ⟨_,(qu (xk (ww c_check_new_name (hr.mono (by decide)) rfl qj (qc (pv 1) (xp (vd (pv 0) rfl) qv))))
   (qu (wp (i:=4) sc.nd rfl (by walk_at "loc") (xy (pv 0) T.clH c_road_called (hr.mono (by decide)) qj (qc (pv 2) qv)))
   (qu (wp (i:=5) sc.nd rfl (by walk_at "loc") (ww c_lowest (hr.mono (by decide)) rfl qj (v6 (z8 yt (pv 3) qy (λ_ _=>rfl)) (v6 (z8 yt (pv 3) qy (λ_ _=>rfl)) qv))))
   (qu (xz (wc Wk (z8 yt (pv 5) qy (λ_ _=>rfl)) (vb (v:=V.int 40) rfl g_GREATEST_BOTTOM ⟨_,rfl⟩) (wm _)) (qh (zk rfl T.x_BadBottom xt rfl T.g_BadBottom (wn x6 qv))) wg)
   (qh (xk (xy (pv 0) T.clH c_do (hr.mono (by decide)) qj (xp yz (xp (qw5 (Jn (pv 1) (ww c_set_down (hr.mono (by decide)) rfl qj (qc (pv 2) (vw (xy (pv 4) T.cl c_on_road (hr.mono (by decide)) qj (qc (pv 5) qv)) qv))) qw1) rfl rfl (λz=>nomatch z) (by decide)) qv))))))))),?_⟩
 refine ⟨_,rfl,_,rfl,x,qk,dx,_,_,rfl,hx,T.clH,T.naHw,yy,n,dw,W,rfl,ln,hh.w,λa1 a2 H1 s1=>?_,kn,kt⟩
 obtain ⟨kr,k⟩:=k a1 a2
 have hh1:=hh.same s1
 refine ⟨_,rfl,x,dx,_,rfl,s1 _ _ hx,k7 (by decide +kernel) (by decide +kernel) (by decide +kernel),_,rfl,x,dr,dw,dd,R,W,D,whose,rfl,hh1,λv e=>?_,λe=>kr e H1 s1⟩
 obtain ⟨r,hs,rfl,hR,okl,kb,k⟩:=k v e
 refine ⟨_,rfl,_,_,_,_,rfl,rfl,SqT.of (s1 _ _ ha),rfl,_,rfl,_,_,_,_,rfl,rfl,SqT.of (s1 _ _ ha),rfl,t,b,rfl,λb1=>?_,λb1=>kb b1 H1 s1⟩
 obtain ⟨sm,kg,k⟩:=k b1
 refine ⟨sm.mono (by decide),λp np=>?_⟩
 have s2:Same H (upd H1 p (.tup (ptV (wj t b)))):=s1.trans (Same.upd np)
 have f2:upd H1 p (.tup (ptV (wj t b))) p=some (.tup [.int (wj t b).1,.int (wj t b).2]):=q9
 generalize upd H1 p (.tup (ptV (wj t b)))=H2 at s2 f2
 have l1:=low1 (t:=t) b1
 refine exI rfl (exX rfl rfl (SqT.of f2) rfl (wf rfl rfl (exI rfl (z9 (λz=>⟨sz1,kg (by lia) H2 s2⟩) (λz=>?_)))))
 obtain ⟨ko,k⟩:=k (by lia)
 refine exI rfl ⟨x,dx,exI rfl ⟨s2 _ _ hx,k7 (by decide +kernel) (by decide +kernel) (by decide +kernel),λc1 n1=>λc2 n2=>(exI rfl (exI rfl (exI rfl ?_)))⟩⟩
 obtain ⟨dy,l,h1,h2⟩:=id hR
 have sc2:Same H2 (upd (upd H2 c1 (.dK [])) c2 (.dK [])):=λb o e=>by
  have e4:upd H2 c1 (.dK []) b=some o:=by rw [q8 (qd e n1)];exact e
  rw [q8 (qd e4 n2)]
  exact e4
 have s3:=s2.trans sc2
 refine ⟨r,dy,_,rfl,s3 _ _ h1,w6 (by decide +kernel),_,rfl,r,p,hs,(wj t b).1,(wj t b).2,rfl,hR.same s3,okl,SqT.of (sc2 _ _ f2),λ_=>⟨(Sm.small (n:=65) (by lia) (by lia) (by decide)).mono (by decide),λon q H3 s4 fq=>?_,λon H3 s4=>ko on H3 (s3.trans s4)⟩,λz=>absurd z (by lia)⟩
 have e3:wj (wj t b).1 (wj t b).2=wj t b:=qw3 l1 (qkk b1)
 rw [e3] at fq
 refine ⟨whose,q,wj t b,rfl,fq,λH4 y t' ny s5 w5=>?_⟩
 refine ⟨s5 _ _ (s4 _ _ q9),[(.inr n,.ref y)],rfl,(show 1≤15 by decide),?_⟩
 exact qx1 (E:=E) (hh.same s2) n1 n2 (s4.trans s5) w5 lR lW lD λH' tp q1 q2 b1 b2 b3 b4 b5 b6 b7 b8 b9 kb=>k on H' q t' (WDeed.pre ⟨y,tp,q1,q2,b1,b2,b3,b4,b5,b6,b7,b8,b9,kb⟩ s2)
end
section
variable {P:Ac}{w:Ah}{K:Aa}{mg:Str→Option Ag}{base:Heap}{qf:Aj}{qt:Aj}{qw:Aj}{qx:Aj}{qb:Aj}{qp:Aj}{wx:Aj}{qm:Aj}{wv:Aj}{wq:Aj}{qr:Aj}{qz:Aj}{qg:Aj}{qk:Aj}
def j5 (K:Aa)(C CB CO CC:Aj):Sp:=λvs H Q E=>∃(r p:Aj) (hs:List Int) (t b m:Int),vs=[.ref r,.ref p,.int m]∧RoadAt C H r hs∧wt hs∧SqT K H p [.int t,.int b] ∧
 (1≤b→Sm 8000 b∧(xh hs t b→(Within m 0 (some 1000)→∀q H',H q=none→Same H H'→PtsAt H' q (jy hs (wj t b) (m.toNat+1))→Q (.ref q) H')∧(¬ Within m 0 (some 1000)→∀H',Same H H'→E (.ref CC) none H')) ∧
  (¬ xh hs t b→∀H',Same H H'→E (.ref CO) none H'))∧(b<1→E (.ref CB) none H)
theorem qx2 {f:Aj}{fd:Ad}(F:Fun K "walked" "walked" s_walked f fd)(T:Txt K mg qf qt qw qx qb qp wx qm wv wq qr qz qg qk)(c_check_count:CalD P w K mg base "check_count" 1 (jt qb))(c_on_road:MCal P w K mg base qz "on_road" 3 (x8 K qz qw qx))
  (c_at:MCal P w K mg base qz "at" 4 (spAt K qz qw qx)):FnOk P w K mg base (CXE P w) 5 f fd ["road","point","many"] (j5 K qz qw qx qb):=by
 have sc:=qzd
 refine F.okX sc (λvs H Q E h=>by obtain ⟨r,p,hs,t,b,m,rfl,_⟩:=h;rfl) (λcdv A outer s H vs Q E hr h=>?_)
 obtain ⟨r,p,hs,t,b,m,rfl,hR,hok,hp,kq,x⟩:=h
 obtain ⟨dx,q0,h1,h2⟩:=id hR
 obtain ⟨tm,g_MOST_WALKED⟩:=T.g_MOST_WALKED
 refine ⟨_,(qu (wp (i:=3) sc.nd rfl (by walk_at "loc") (xy (pv 0) T.cl c_on_road (hr.mono (by decide)) qj (qc (pv 1) qv)))
   (qu (xk (j6 c_check_count.all (hr.mono (by decide)) rfl qj (qc (pv 2) (wn qy (qc (vb (v:=V.int 1000) rfl g_MOST_WALKED ⟨_,rfl⟩) qv)))))
   (qu (wp (i:=4) sc.nd rfl (by walk_at "loc") (Wj (qc (pv 3) qv)))
   (qu (Qf aV (wc op_le (w4 xb rfl T.len_ aD (qc (pv 4) qv)) (pv 2) (wm _)) (qh (xk (qws bx bK bL jz (pv 4) (vw (xy (pv 0) T.cl c_at (hr.mono (by decide)) qj (v6 (z8 zp (pv 4) (qwh Y2 qy) (λ_ _=>rfl)) qv)) qv)))))
   (qh (wr (pv 4))))))),?_⟩
 refine ⟨_,rfl,r,dx,_,rfl,h1,w6 (by decide +kernel),_,rfl,r,p,hs,t,b,rfl,hR,hok,hp,λhb=>⟨(kq hb).1,λhon p1 H1 s1 f1=>?_,λhoff H1 s1=>(kq hb).2.2 hoff H1 s1⟩,λz=>x z⟩
 obtain ⟨sb,k1,_⟩:=kq hb
 obtain ⟨k2,k3⟩:=k1 hon
 refine ⟨_,rfl,m,0,.int 1000,some 1000,rfl,.inr ⟨1000,rfl,rfl⟩,λhw=>?_,λhw=>k3 hw _ s1⟩
 have m0:=hw.1
 have m1:=hw.2 1000 rfl
 have P0:=Q1 hb hon
 refine exI rfl ⟨sz1,λq nq=>?_⟩
 have nq0:H q=none:=by
  cases e:H q with
  |none=>rfl
  |some o=>rw [s1 _ _ e] at nq;cases nq
 have dq:p1≠q:=qd f1 nq
 refine Qn (λσ H2=>∃(n:Nat) (vs:List V),σ=[some (.ref r),some (.ref p),some (.int m),some (.ref p1),some (.ref q)]∧(n:Int)≤m∧Same H1 H2∧H2 q=some (.lst vs)∧Paired (PtR H2) vs (jy hs (wj t b) (n+1)))
  (λ_ H2=>match H2 q with|some (.lst vs)=>(m+1).toNat-vs.length|_=>0) ⟨0,[.ref p1],rfl,by lia,Same.upd nq,q9,.cons ⟨p1,rfl,by rw [q8 dq];exact f1⟩ .nil⟩ ?_ λσ H Q Q' h ⟨v,e,p',ys,e1,e2,v2,e3,i,j,e4,e5,kk,e6,qq⟩=>⟨v,e,p',ys,e1,e2,v2,e3,i,j,e4,e5,kk,e6,h _ _ qq⟩
 rintro σ H2 ⟨n,vs,rfl,hn,s2,f2,pr⟩
 have hlen:vs.length=n+1:=by rw [pr.length,kf]
 refine exI rfl ⟨_,_,rfl,.inl (SqL.of f2),exI rfl (wf rfl rfl (exI rfl ?_))⟩
 rw [hlen]
 refine z9 (λq1=>?_) (λq1=>?_)
 ·have Pn:=qks hok P0 n
  obtain ⟨v,ev,⟨a,rfl,fa⟩⟩:=uw (i:=n) (b:=itP hs (wj t b) n) pr (by rw [Zu,bf (by rw [kf];exact af _),kf];simp)
  have hlast:atI vs (-1)=some (.ref a):=by
   have hz:vs≠[]:=λz=>by rw [z] at hlen;simp at hlen
   have e1:vs=vs.dropLast++[vs.getLast hz]:=(List.dropLast_concat_getLast hz).symm
   have e2:vs.getLast hz=.ref a:=by
    rw [List.getLast_eq_getElem]
    have:vs[n]?=vs[vs.length-1]?:=by rw [hlen];rfl
    rw [this,au (by lia)] at ev
    exact ak ev
   rw [e1,e2]
   exact Jg _ _
  have s02:=s1.trans s2
  refine ⟨_,rfl,.inl ⟨rfl,_,SqL.of f2⟩,_,rfl,r,dx,_,rfl,s02 _ _ h1,w6 (by decide +kernel),_,rfl,_,rfl,_,_,_,_,rfl,rfl,SqL.of f2,hlast,r,a,hs,(itP hs (wj t b) n).1,(itP hs (wj t b) n).2,rfl,hR.same s02,hok,SqT.of fa,λ_=>⟨(sb.of_le (by have:=Pn.2.1;have:=Pn.1;lia)),λ_ p3 H3 s3 f3=>?_,λz=>absurd Pn.2.2.2 z⟩,λz=>absurd Pn.1 (by lia)⟩
  have g2:=s3 _ _ f2
  refine ⟨_,_,_,rfl,rfl,g2,Zz (by lia),⟨n+1,vs++[.ref p3],rfl,(by lia),λb o e=>?_,q9,?_⟩,?_⟩
  ·rw [q8 (qd e nq)]
   exact s3 _ _ (s2 _ _ e)
  ·rw [Zu hs (wj t b) (n+1)]
   refine Paired.snoc (Wu (λ_ _ z=>(z.same s3).upd g2) pr) (PtR.upd ⟨p3,rfl,?_⟩ g2)
   exact f3
  ·show (match upd H3 q (.lst (vs++[.ref p3])) q with|some (.lst vs)=>(m+1).toNat-vs.length|_=>0)<(match H2 q with|some (.lst vs)=>(m+1).toNat-vs.length|_=>0)
   rw [q9,f2]
   show (m+1).toNat-(vs++[V.ref p3]).length<(m+1).toNat-vs.length
   rw [aS,List.length_singleton]
   lia
 ·have en:m.toNat=n:=by lia
  refine exI rfl (k2 hw q H2 nq0 (s1.trans s2) ⟨vs,f2,?_⟩)
  rw [en]
  exact pr
def qwt (K:Aa)(C CB CO CC CT:Aj):Sp:=λvs H Q E=>∃(r p:Aj) (hs:List Int) (t b m:Int),vs=[.ref r,.ref p,.int m]∧RoadAt C H r hs∧wt hs∧SqT K H p [.int t,.int b] ∧
 (1≤b→Sm 8000 b∧(xh hs t b→(Within m 0 (some (1000000000000000000000000000000000000000000000000000000000000))→(¬ Dist (itP hs (wj t b)) 1001→∀q H',Same H H'→H' q=some (.tup [.int (itP hs (wj t b) m.toNat).1,.int (itP hs (wj t b) m.toNat).2])→Q (.ref q) H')∧(Dist (itP hs (wj t b)) 1001→∀H',Same H H'→E (.ref CT) none H'))∧(¬ Within m 0 (some (1000000000000000000000000000000000000000000000000000000000000))→∀H',Same H H'→E (.ref CC) none H')) ∧
  (¬ xh hs t b→∀H',Same H H'→E (.ref CO) none H'))∧(b<1→E (.ref CB) none H)
theorem ok_far {f:Aj}{fd:Ad}(F:Fun K "far" "far" s_far f fd)(T:Txt K mg qf qt qw qx qb qp wx qm wv wq qr qz qg qk)(c_check_count:CalD P w K mg base "check_count" 1 (jt qb))(c_on_road:MCal P w K mg base qz "on_road" 3 (x8 K qz qw qx))
  (c_trace:Cal P w K mg base "trace" 5 (vy qz qp)) (c_spot:Cal P w K mg base "spot" 1 Y0):FnOk P w K mg base (CXE P w) 6 f fd ["road","point","many"] (qwt K qz qw qx qb qp):=by
 have sc:=sc_far
 refine F.okX sc (λvs H Q E h=>by obtain ⟨r,p,hs,t,b,m,rfl,_⟩:=h;rfl) (λcdv A outer s H vs Q E hr h=>?_)
 obtain ⟨r,p,hs,t,b,m,rfl,hR,hok,hp,kq,x⟩:=h
 obtain ⟨dx,q0,h1,h2⟩:=id hR
 obtain ⟨tm,g_FARTHEST⟩:=T.g_FARTHEST
 refine ⟨_,(qu (wp (i:=3) sc.nd rfl (by walk_at "loc") (xy (pv 0) T.cl c_on_road (hr.mono (by decide)) qj (qc (pv 1) qv)))
   (qu (xk (j6 c_check_count.all (hr.mono (by decide)) rfl qj (qc (pv 2) (wn qy (qc (vb (v:=V.int 1000000000000000000000000000000000000000000000000000000000000) rfl g_FARTHEST ⟨_,rfl⟩) qv)))))
   (qu (vn (ww c_trace (hr.mono (by decide)) rfl qj (qc (pv 0) (qc (pv 3) qv))) (vc rfl (xv (xq (i:=4) sc.nd rfl (by walk_at "loc")) (xv (xq (i:=5) sc.nd rfl (by walk_at "loc")) zr))))
   (qh (wr (ww c_spot (hr.mono (by decide)) rfl qj (qc (pv 4) (qc (pv 5) (qc (pv 2) qv))))))))),?_⟩
 refine ⟨_,rfl,r,dx,_,rfl,h1,w6 (by decide +kernel),_,rfl,r,p,hs,t,b,rfl,hR,hok,hp,λhb=>⟨(kq hb).1,λhon p1 H1 s1 f1=>?_,λhoff H1 s1=>(kq hb).2.2 hoff H1 s1⟩,λz=>x z⟩
 obtain ⟨sb,k1,_⟩:=kq hb
 obtain ⟨k2,k3⟩:=k1 hon
 refine ⟨_,rfl,m,0,.int (1000000000000000000000000000000000000000000000000000000000000),some (1000000000000000000000000000000000000000000000000000000000000),rfl,.inr ⟨1000000000000000000000000000000000000000000000000000000000000,rfl,rfl⟩,λhw=>?_,λhw=>k3 hw _ s1⟩
 obtain ⟨k4,k5⟩:=k2 hw
 refine ⟨_,rfl,_,rfl,r,p1,hs,wj t b,b,rfl,hR.same s1,hok,f1,Q1 hb hon,sb,λn u q l H2 n1 d1 u1 e1 s2 nl f2 pa=>?_,λd H2 s2=>k5 d _ (s1.trans s2)⟩
 have nd:¬ Dist (itP hs (wj t b)) 1001:=λd=>d u n u1 (by lia) e1.symm
 refine ⟨q,exI rfl ⟨SqT.of f2,rfl,_,_,rfl,_,_,rfl,rfl,?_⟩⟩
 refine exI rfl (exI rfl (exI rfl ⟨l,hs,wj t b,n,u,m,rfl,⟨n1,d1,u1,e1,pa⟩,hw.1,λa fa=>?_⟩))
 exact k4 nd a H2 (s1.trans s2) fa
def stN (n u m f:Nat):Nat:=if m<f then 0 else (if f<u then 1 else (m-f)/(n-u)+1)-(if f=0 then 1 else 0)
theorem qvk {m:Int}{t L:Nat}(h:(t:Int)≤m):(m-t)/(L:Int)=(((m.toNat-t)/L:Nat):Int):=by
 rw [show m-(t:Int)=((m.toNat-t:Nat):Int) by lia]
 push_cast
 rfl
def qkd:Sp:=λvs H Q _=>∃(f u n:Nat) (m:Int),vs=[.int f,.int u,.int n,.int m]∧f<n∧u<n∧n≤1000∧0≤m∧Q (.int (stN n u m.toNat f)) H
theorem ok_led {f:Aj}{fd:Ad}(F:Fun K "led_to" "led_to" s_led_to f fd)(T:Txt K mg qf qt qw qx qb qp wx qm wv wq qr qz qg qk):FnOk P w K mg base (CXE P w) 1 f fd ["place","turn","size","many"] qkd:=by
 have sc:=qxn
 refine F.okX sc (λvs H Q E h=>by obtain ⟨f,u,n,m,rfl,_⟩:=h;rfl) (λcdv A outer s H vs Q E hr h=>?_)
 obtain ⟨f,u,n,m,rfl,hf,u1,n1,m0,k⟩:=h
 refine ⟨_,(qu (xz (wc Wk (pv 0) (pv 3) (wm _)) (qh (wr qy)) wg)
   (qu (wp (i:=4) sc.nd rfl (by walk_at "loc") (Q8 (wc jc (pv 0) (pv 1) (wm _)) qy (wu w8 (wu kh (wu zf (pv 3) (pv 0)) (wu zf (pv 2) (pv 1))) qy)))
   (qh (wr (Q8 (wc x9 (pv 0) qy (wm _)) (wu zf (pv 4) qy) (pv 4)))))),?_⟩
 refine exI rfl (exI rfl (wf rfl rfl (exI rfl (z9 (λz=>?_) (λz=>?_)))))
 ·unfold stN at k
  rw [av (by lia)] at k
  exact k
 ·have fm:(f:Int)≤m:=by lia
  have res:∀x:Int,x=(if f<u then 1 else (((m.toNat-f)/(n-u):Nat):Int)+1)-(if f=0 then 1 else 0)→Q (.int x) H:=λx hx=>by
   have e:x=(stN n u m.toNat f:Nat):=by
    unfold stN
    rw [ao (by lia),hx]
    generalize (m.toNat-f)/(n-u)=D
    by_cases y1:f<u <;> by_cases y2:f=0
    ·simp only [av y1,av y2];lia
    ·simp only [av y1,ao y2];lia
    ·simp only [ao y1,av y2];lia
    ·simp only [ao y1,ao y2];lia
   rw [e]
   exact k
  refine exI rfl (exI rfl (wf rfl rfl (exI rfl (z9 (λy1=>?_) (λy1=>?_)))))
  ·refine exI rfl ⟨rfl,_,rfl,x4 (λy2=>?_) (λy2=>?_)⟩
   ·refine exI rfl (wf rfl rfl (res _ ?_))
    rw [av (by lia),av (by lia)]
   ·refine exI rfl (res _ ?_)
    rw [av (by lia),ao (by lia)]
    rfl
  ·refine exI rfl (exI rfl (wf rfl rfl (exI rfl (exI rfl (wf rfl rfl ?_)))))
   refine wf rfl rfl ⟨⟨(by lia),(Sm.small (n:=65) (by lia) (by lia) (by decide)).mono (by decide)⟩,wf rfl rfl ?_⟩
   have ev:(m-(f:Int))/((n:Int)-u)=(((m.toNat-f)/(n-u):Nat):Int):=by
    rw [←qvk fm,show ((n-u:Nat):Int)=(n:Int)-u by lia]
   rw [ev]
   refine exI rfl ⟨rfl,_,rfl,x4 (λy2=>?_) (λy2=>?_)⟩
   ·refine exI rfl (wf rfl rfl (res _ ?_))
    rw [ao (by lia),av (by lia)]
   ·refine exI rfl (res _ ?_)
    rw [ao (by lia),ao (by lia)]
    lia
end
section
variable {P:Ac}{w:Ah}{K:Aa}{mg:Str→Option Ag}{base:Heap}{qf:Aj}{qt:Aj}{qw:Aj}{qx:Aj}{qb:Aj}{qp:Aj}{wx:Aj}{qm:Aj}{wv:Aj}{wq:Aj}{qr:Aj}{qz:Aj}{qg:Aj}{qk:Aj}
def yn (CB CO:Aj)(hs:List Int)(t b:Int)(E:XK)(H:Hp):Prop:=(1≤b→Sm 8000 b∧¬ xh hs t b∧∀H',Same H H'→E (.ref CO) none H')∧(b<1→E (.ref CB) none H)
def zg (hs:List Int)(t b:Int):Prop:=1≤b∧Sm 8000 b∧xh hs t b∧¬ Dist (itP hs (wj t b)) 1001
theorem yg {C CB CO:Aj}{H:Hp}{r p:Aj}{hs:List Int}{t b:Int}{Q:VK}{E:XK}(hR:RoadAt C H r hs)(ok:wt hs)(hp:SqT K H p [.int t,.int b])(h:yn CB CO hs t b E H):x8 K C CB CO [.ref r,.ref p] H Q E :=
 ⟨r,p,hs,t,b,rfl,hR,ok,hp,λb1=>⟨(h.1 b1).1,λz=>absurd z (h.1 b1).2.1,λ_ H' s=>(h.1 b1).2.2 H' s⟩,h.2⟩
theorem jw {C CB CO:Aj}{H:Hp}{r p:Aj}{hs:List Int}{t b:Int}{Q:VK}{E:XK}(hR:RoadAt C H r hs)(ok:wt hs)(hp:SqT K H p [.int t,.int b])(h:zg hs t b)(k:∀q H',Same H H'→H' q=some (.tup (ptV (wj t b)))→Q (.ref q) H'):x8 K C CB CO [.ref r,.ref p] H Q E :=
 ⟨r,p,hs,t,b,rfl,hR,ok,hp,λ_=>⟨h.2.1,λ_ q H' s e=>k q H' s e,λz=>absurd h.2.2.1 z⟩,λz=>absurd h.1 (by lia)⟩
theorem yu {C CT:Aj}{H:Hp}{r a:Aj}{hs:List Int}{t b:Int}{Q:VK}{E:XK}(hR:RoadAt C H r hs)(ok:wt hs)(ha:H a=some (.tup (ptV (wj t b))))(h:zg hs t b)(k:∀n u q l H',TrAt H' l hs (wj t b) n u→Same H H'→H' q=some (.tup [.ref l,.int ((u:Nat):Int)])→Q (.ref q) H'):vy C CT [.ref r,.ref a] H Q E :=
 ⟨r,a,hs,wj t b,b,rfl,hR,ok,ha,Q1 h.1 h.2.2.1,h.2.1,λn u q l H' n1 d1 u1 e1 s _ f pa=>k n u q l H' ⟨n1,d1,u1,e1,pa⟩ s f,λd=>absurd d h.2.2.2⟩
def qq7 (K:Aa)(C CB CO:Aj):Sp:=λvs H Q E=>∃(r p:Aj) (hs:List Int) (t b:Int),vs=[.ref r,.ref p]∧RoadAt C H r hs∧wt hs∧SqT K H p [.int t,.int b]∧(yn CB CO hs t b E H∨(zg hs t b∧∀v H',Same H H'→Q v H'))
theorem Z1 {f:Aj}{fd:Ad}(F:Fun K "tail_ring" "tail_ring" s_tail_ring f fd)(T:Txt K mg qf qt qw qx qb qp wx qm wv wq qr qz qg qk)(c_on_road:MCal P w K mg base qz "on_road" 3 (x8 K qz qw qx))(c_trace:Cal P w K mg base "trace" 5 (vy qz qp)) :
  FnOk P w K mg base (CXE P w) 6 f fd ["road","point"] (qq7 K qz qw qx):=by
 have sc:=Yh
 refine F.okX sc (λvs H Q E h=>by obtain ⟨r,p,hs,t,b,rfl,_⟩:=h;rfl) (λcdv A outer s H vs Q E hr h=>?_)
 obtain ⟨r,p,hs,t,b,rfl,hR,hok,hp,hx⟩:=h
 obtain ⟨dx,q0,h1,h2⟩:=id hR
 refine ⟨_,(qu (vn (ww c_trace (hr.mono (by decide)) rfl qj (qc (pv 0) (vw (xy (pv 0) T.cl c_on_road (hr.mono (by decide)) qj (qc (pv 1) qv)) qv))) (vc rfl (xv (xq (i:=2) sc.nd rfl (by walk_at "loc")) (xv (xq (i:=3) sc.nd rfl (by walk_at "loc")) zr))))
   (qh (wr (ku (v6 (Js qwr (pv 2) qwg (qwm (pv 3))) (v6 (Js qwr (pv 2) (qwm (pv 3)) qwg) qv)))))),?_⟩
 refine exI rfl (exI rfl ⟨r,dx,exI rfl ⟨h1,w6 (by decide +kernel),_,rfl,?_⟩⟩)
 dsimp only [xc,z5,tC]
 rcases hx with hx|⟨hg,k⟩
 ·exact yg hR hok hp hx
 refine jw hR hok hp hg λp1 H1 s1 f1=>yu (hR.same s1) hok f1 hg λn u q l H2 tr s2 f2=>?_
 obtain ⟨n1,d1,u1,e1,ws,fl,pr⟩:=tr
 refine ⟨q,exI rfl ⟨SqT.of f2,rfl,_,_,rfl,_,_,rfl,rfl,?_⟩⟩
 refine exI rfl (exI rfl (exI rfl ⟨l,exI rfl ⟨SqL.of fl,λp3 n3=>?_⟩⟩))
 have s3:=Same.upd (H:=H2) (o:=.lst (cutV ws none (some (u:Int)))) n3
 generalize upd H2 p3 (.lst (cutV ws none (some (u:Int))))=H3 at s3
 refine exI rfl (exI rfl (exI rfl ⟨l,exI rfl ⟨SqL.of (s3 _ _ fl),λp4 n4=>⟨sz2,λp5 n5=>?_⟩⟩⟩))
 exact k _ _ (((s1.trans s2).trans s3).trans ((Same.upd n4).trans (Same.upd n5)))
def Yj (K:Aa)(C CB CO:Aj):Sp:=λvs H Q E=>∃(r p:Aj) (hs:List Int) (t b:Int),vs=[.ref r,.ref p]∧RoadAt C H r hs∧wt hs∧SqT K H p [.int t,.int b]∧(yn CB CO hs t b E H∨(zg hs t b∧∀v H',Same H H'→Q v H'))
theorem qvf {f:Aj}{fd:Ad}(F:Fun K "least" "least" s_least f fd)(T:Txt K mg qf qt qw qx qb qp wx qm wv wq qr qz qg qk)(c_on_road:MCal P w K mg base qz "on_road" 3 (x8 K qz qw qx))(c_trace:Cal P w K mg base "trace" 5 (vy qz qp)) :
  FnOk P w K mg base (CXE P w) 6 f fd ["road","point"] (Yj K qz qw qx):=by
 have sc:=qv6
 refine F.okX sc (λvs H Q E h=>by obtain ⟨r,p,hs,t,b,rfl,_⟩:=h;rfl) (λcdv A outer s H vs Q E hr h=>?_)
 obtain ⟨r,p,hs,t,b,rfl,hR,hok,hp,hx⟩:=h
 obtain ⟨dx,q0,h1,h2⟩:=id hR
 refine ⟨_,(qu (vn (ww c_trace (hr.mono (by decide)) rfl qj (qc (pv 0) (vw (xy (pv 0) T.cl c_on_road (hr.mono (by decide)) qj (qc (pv 1) qv)) qv))) (vc rfl (xv (xq (i:=2) sc.nd rfl (by walk_at "loc")) (xv (xq (i:=3) sc.nd rfl (by walk_at "loc")) zr))))
   (qh (wr (Q8 (wc x9 (pv 3) qy (wm _)) (w4 xb rfl T.len_ aD (qc (pv 2) qv)) Zr)))),?_⟩
 refine exI rfl (exI rfl ⟨r,dx,exI rfl ⟨h1,w6 (by decide +kernel),_,rfl,?_⟩⟩)
 dsimp only [xc,z5,tC]
 rcases hx with hx|⟨hg,k⟩
 ·exact yg hR hok hp hx
 refine jw hR hok hp hg λp1 H1 s1 f1=>yu (hR.same s1) hok f1 hg λn u q l H2 tr s2 f2=>?_
 obtain ⟨n1,d1,u1,e1,ws,fl,pr⟩:=tr
 refine ⟨q,exI rfl ⟨SqT.of f2,rfl,_,_,rfl,_,_,rfl,rfl,?_⟩⟩
 refine exI rfl ⟨rfl,_,rfl,x4 (λz=>?_) (λz=>k _ _ (s1.trans s2))⟩
 exact exI rfl ⟨_,_,rfl,.inl (SqL.of fl),k _ _ (s1.trans s2)⟩
def F60:Int:=1000000000000000000000000000000000000000000000000000000000000
def Q7 (K:Aa)(C CB CO:Aj):Sp:=λvs H Q E=>∃(r p q:Aj) (hs:List Int) (t b t' b' m:Int),vs=[.ref r,.ref p,.int m,.ref q]∧RoadAt C H r hs∧wt hs∧SqT K H p [.int t,.int b]∧SqT K H q [.int t',.int b']∧Within m 0 (some F60) ∧
 (yn CB CO hs t b E H∨(zg hs t b∧((∀H',Same H H'→yn CB CO hs t' b' E H')∨(zg hs t' b'∧∀v H',Same H H'→Q v H'))))
theorem qxb {f:Aj}{fd:Ad}(F:Fun K "stands" "stands" s_stands f fd)(T:Txt K mg qf qt qw qx qb qp wx qm wv wq qr qz qg qk)(c_check_count:CalD P w K mg base "check_count" 1 (jt qb))(c_on_road:MCal P w K mg base qz "on_road" 3 (x8 K qz qw qx))(c_trace:Cal P w K mg base "trace" 5 (vy qz qp))(c_led_to:Cal P w K mg base "led_to" 1 qkd) :
  FnOk P w K mg base (CXE P w) 6 f fd ["road","point","many","other"] (Q7 K qz qw qx):=by
 have sc:=qzk
 refine F.okX sc (λvs H Q E h=>by obtain ⟨r,p,q,hs,t,b,t',b',m,rfl,_⟩:=h;rfl) (λcdv A outer s H vs Q E hr h=>?_)
 obtain ⟨r,p,q,hs,t,b,t',b',m,rfl,hR,hok,hp,hq,hw,hx⟩:=h
 obtain ⟨dx,q0,h1,h2⟩:=id hR
 obtain ⟨tm,g_FARTHEST⟩:=T.g_FARTHEST
 refine ⟨_,(qu (wp (i:=4) sc.nd rfl (by walk_at "loc") (xy (pv 0) T.cl c_on_road (hr.mono (by decide)) qj (qc (pv 1) qv)))
   (qu (xk (j6 c_check_count.all (hr.mono (by decide)) rfl qj (qc (pv 2) (wn qy (qc (vb (v:=V.int 1000000000000000000000000000000000000000000000000000000000000) rfl g_FARTHEST ⟨_,rfl⟩) qv)))))
   (qu (wp (i:=5) sc.nd rfl (by walk_at "loc") (xy (pv 0) T.cl c_on_road (hr.mono (by decide)) qj (qc (pv 3) qv)))
   (qu (vn (ww c_trace (hr.mono (by decide)) rfl qj (qc (pv 0) (qc (pv 4) qv))) (vc rfl (xv (xq (i:=6) sc.nd rfl (by walk_at "loc")) (xv (xq (i:=7) sc.nd rfl (by walk_at "loc")) zr))))
   (qu (xz (wc (qx6 hr.units) (pv 5) (pv 6) rfl) (qh (wr qy)) wg)
   (qh (wr (ww c_led_to (hr.mono (by decide)) rfl qj (vw (qws bx PySem.F.slot_list_index PySem.F.type_list_index (qxm hr.units) (pv 6) (qc (pv 5) qv)) (qc (pv 7) (vw (w4 xb rfl T.len_ aD (qc (pv 6) qv)) (qc (pv 2) qv)))))))))))),?_⟩
 refine exI rfl ⟨r,dx,exI rfl ⟨h1,w6 (by decide +kernel),_,rfl,?_⟩⟩
 dsimp only [xc,z5,tC]
 rcases hx with hx|⟨hg,hx⟩
 ·exact yg hR hok hp hx
 refine jw hR hok hp hg λp1 H1 s1 f1=>?_
 refine ⟨_,rfl,m,0,.int F60,some F60,rfl,.inr ⟨F60,rfl,rfl⟩,λ_=>?_,λz=>absurd hw z⟩
 refine exI rfl ⟨r,dx,exI rfl ⟨s1 _ _ h1,w6 (by decide +kernel),_,rfl,?_⟩⟩
 dsimp only [xc,z5,tC]
 rcases hx with hx|⟨hg',k⟩
 ·exact yg (hR.same s1) hok (s1.sqt hq) (hx H1 s1)
 refine jw (hR.same s1) hok (s1.sqt hq) hg' λp2 H2 s2 f2=>?_
 have s12:=s1.trans s2
 refine exI rfl (exI rfl ?_)
 dsimp only [xc,z5,tC]
 refine yu (hR.same s12) hok (s2 _ _ f1) hg λn u q3 l3 H3 tr s3 f3=>?_
 obtain ⟨n1,d1,u1,e1,ws,fl,pr⟩:=tr
 have lw:ws.length=n:=by rw [pr.length,kf]
 refine ⟨q3,exI rfl ⟨SqT.of f3,rfl,_,_,rfl,_,_,rfl,rfl,?_⟩⟩
 have s13:=s12.trans s3
 have f2':=s3 _ _ f2
 refine exI rfl (exI rfl ⟨l3,p2,ws,jy hs (wj t b) n,wj t' b',rfl,rfl,fl,pr,f2',_,rfl,?_⟩)
 by_cases mem:wj t' b'∈jy hs (wj t b) n
 ·rw [aP mem]
  refine Y1 ?_
  obtain ⟨f,hf,ef⟩:=bd.mp mem
  have hf':=bw.mp hf
  have g1:∀i,i<n→(jy hs (wj t b) n)[i]?=some (itP hs (wj t b) i):=λi hi=>by
   unfold jy
   rw [aU,List.getElem?_range hi]
   rfl
  refine ⟨_,rfl,.inl ⟨rfl,_,SqL.of fl⟩,_,rfl,l3,p2,ws,jy hs (wj t b) n,wj t' b',f,rfl,rfl,fl,pr,f2',by rw [g1 f hf',ef],λi hi=>?_,by lia,?_⟩
  ·rw [g1 i (by lia),←ef]
   exact λz=>d1 i f hi hf' (ak z)
  refine ⟨_,rfl,_,rfl,_,_,rfl,.inl (SqL.of fl),_,rfl,f,u,n,m,by rw [lw],hf',u1,n1,hw.1,k _ _ s13⟩
 ·rw [aL mem]
  exact j3 (k _ _ s13)
def y0 (K:Aa)(C CB CO:Aj):Sp:=λvs H Q E=>∃(r p q:Aj) (hs:List Int) (t b t' b':Int),vs=[.ref r,.ref p,.ref q]∧RoadAt C H r hs∧wt hs∧SqT K H p [.int t,.int b]∧SqT K H q [.int t',.int b'] ∧
 (yn CB CO hs t b E H∨(zg hs t b∧((∀H',Same H H'→yn CB CO hs t' b' E H')∨(zg hs t' b'∧∀v H',Same H H'→Q v H'))))
theorem qqt {f:Aj}{fd:Ad}(F:Fun K "meeting" "meeting" s_meeting f fd)(T:Txt K mg qf qt qw qx qb qp wx qm wv wq qr qz qg qk)(c_on_road:MCal P w K mg base qz "on_road" 3 (x8 K qz qw qx))(c_trace:Cal P w K mg base "trace" 5 (vy qz qp))(c_spot:Cal P w K mg base "spot" 1 Y0) :
  FnOk P w K mg base (CXE P w) 6 f fd ["road","one","other"] (y0 K qz qw qx):=by
 have sc:=qq5
 refine F.okX sc (λvs H Q E h=>by obtain ⟨r,p,q,hs,t,b,t',b',rfl,_⟩:=h;rfl) (λcdv A outer s H vs Q E hr h=>?_)
 obtain ⟨r,p,q,hs,t,b,t',b',rfl,hR,hok,hp,hq,hx⟩:=h
 obtain ⟨dx,q0,h1,h2⟩:=id hR
 refine ⟨_,(qu (wp (i:=3) sc.nd rfl (by walk_at "loc") (xy (pv 0) T.cl c_on_road (hr.mono (by decide)) qj (qc (pv 1) qv)))
   (qu (wp (i:=4) sc.nd rfl (by walk_at "loc") (xy (pv 0) T.cl c_on_road (hr.mono (by decide)) qj (qc (pv 2) qv)))
   (qu (vn (ww c_trace (hr.mono (by decide)) rfl qj (qc (pv 0) (qc (pv 3) qv))) (vc rfl (xv (xq (i:=5) sc.nd rfl (by walk_at "loc")) (xv (xq (i:=6) sc.nd rfl (by walk_at "loc")) zr))))
   (qu (vn (ww c_trace (hr.mono (by decide)) rfl qj (qc (pv 0) (qc (pv 4) qv))) (vc rfl (xv (xq (i:=7) sc.nd rfl (by walk_at "loc")) (xv (xq (i:=8) sc.nd rfl (by walk_at "loc")) zr))))
   (qu (Wx aV rfl (zx rfl T.range_ (zj (wu w8 (w4 (Zg rfl) rfl T.max_ bZ (qc (pv 6) (qc (pv 8) qv))) qy) qv)) (xq (i:=9) sc.nd rfl (by walk_at "loc")) (qh (xz (wc (op_eqD hr.units) (ww c_spot (hr.mono (by decide)) rfl qj (qc (pv 5) (qc (pv 6) (qc (pv 9) qv)))) (ww c_spot (hr.mono (by decide)) rfl qj (qc (pv 7) (qc (pv 8) (qc (pv 9) qv)))) (wm _)) (qh (wr (pv 9))) wg)))
   (qh (wr Zr))))))),?_⟩
 refine exI rfl ⟨r,dx,exI rfl ⟨h1,w6 (by decide +kernel),_,rfl,?_⟩⟩
 dsimp only [xc,z5,tC]
 rcases hx with hx|⟨hg,hx⟩
 ·exact yg hR hok hp hx
 refine jw hR hok hp hg λp1 H1 s1 f1=>?_
 refine exI rfl ⟨r,dx,exI rfl ⟨s1 _ _ h1,w6 (by decide +kernel),_,rfl,?_⟩⟩
 dsimp only [xc,z5,tC]
 rcases hx with hx|⟨hg',k⟩
 ·exact yg (hR.same s1) hok (s1.sqt hq) (hx H1 s1)
 refine jw (hR.same s1) hok (s1.sqt hq) hg' λp2 H2 s2 f2=>?_
 have s12:=s1.trans s2
 refine exI rfl (exI rfl ?_)
 dsimp only [xc,z5,tC]
 refine yu (hR.same s12) hok (s2 _ _ f1) hg λn u q3 l3 H3 T1 s3 f3=>?_
 have u1:=T1.2.2.1
 have n1:=T1.1
 refine ⟨q3,exI rfl ⟨SqT.of f3,rfl,_,_,rfl,_,_,rfl,rfl,?_⟩⟩
 have s13:=s12.trans s3
 refine exI rfl (exI rfl ?_)
 dsimp only [xc,z5,tC]
 refine yu (hR.same s13) hok (s3 _ _ f2) hg' λn' u' q4 l4 H4 T2 s4 f4=>?_
 have u1':=T2.2.2.1
 have n1':=T2.1
 refine ⟨q4,exI rfl ⟨SqT.of f4,rfl,_,_,rfl,_,_,rfl,rfl,?_⟩⟩
 have s14:=s13.trans s4
 have T1:=T1.same s4
 refine exI rfl (exI rfl ⟨_,_,rfl,_,_,rfl,rfl,exI rfl ⟨?_,?_,jx (λj σ H5=>H5=H4∧∃z,σ=[some (.ref r),some (.ref p),some (.ref q),some (.ref p1),some (.ref p2),some (.ref l3),some (.int u),some (.ref l4),some (.int u'),z]) ⟨rfl,_,rfl⟩ ?_ ?_⟩⟩)
 ·split <;> lia
 ·split <;> lia
 ·rintro j σ H5 hj ⟨rfl,z,rfl⟩
  refine exI rfl (exI rfl (exI rfl ⟨l3,hs,wj t b,n,u,exI rfl ⟨T1,(by lia),λa1 fa1=>?_⟩⟩))
  refine exI rfl (exI rfl (exI rfl ⟨l4,hs,wj t' b',n',u',exI rfl ⟨T2,(by lia),λa2 fa2=>?_⟩⟩))
  refine ⟨_,_,rd_pt (q:=itP hs (wj t b) ((0:Int)+j).toNat) (SqT.of fa1),rd_pt (q:=itP hs (wj t' b') ((0:Int)+j).toNat) (SqT.of fa2),rfl,rfl,dep_pt,_,rfl,?_⟩
  show if PyData.eqv (ptD (itP hs (wj t b) ((0:Int)+j).toNat)) (ptD (itP hs (wj t' b') ((0:Int)+j).toNat))=true then _ else _
  rw [eqv_pt]
  exact z9 (λe=>(exI rfl (k _ _ s14))) (λe=>⟨rfl,_,rfl⟩)
 ·rintro σ H5 ⟨rfl,z,rfl⟩
  exact k _ _ s14
end
section
variable {P:Ac}{w:Ah}{K:Aa}{mg:Str→Option Ag}{base:Heap}{qf:Aj}{qt:Aj}{qw:Aj}{qx:Aj}{qb:Aj}{qp:Aj}{wx:Aj}{qm:Aj}{wv:Aj}{wq:Aj}{qr:Aj}{qz:Aj}{qg:Aj}{qk:Aj}
theorem at_c {C CB CO:Aj}{H:Hp}{r p:Aj}{hs:List Int}{t b:Int}{Q:VK}{E:XK}(hR:RoadAt C H r hs)(ok:wt hs)(hp:SqT K H p [.int t,.int b])(h:yn CB CO hs t b E H∨(zg hs t b∧∀v H',Same H H'→Q v H')):spAt K C CB CO [.ref r,.ref p] H Q E:=by
 rcases h with h|⟨g,k⟩
 ·exact ⟨r,p,hs,t,b,rfl,hR,ok,hp,λb1=>⟨(h.1 b1).1,λz=>absurd z (h.1 b1).2.1,λ_ H' s=>(h.1 b1).2.2 H' s⟩,h.2⟩
 ·exact ⟨r,p,hs,t,b,rfl,hR,ok,hp,λ_=>⟨g.2.1,λ_ q H' s _=>k _ H' s,λz=>absurd g.2.2.1 z⟩,λz=>absurd g.1 (by lia)⟩
theorem w31000:Within 3 0 (some 1000):=⟨by decide,λb e=>by cases e;decide⟩
theorem w3:Within 3 0 (some F60):=⟨by decide,λb e=>by cases e;decide⟩
theorem qkn {C CB CO CC:Aj}{H:Hp}{r p:Aj}{hs:List Int}{t b:Int}{Q:VK}{E:XK}(hR:RoadAt C H r hs)(ok:wt hs)(hp:SqT K H p [.int t,.int b])(h:yn CB CO hs t b E H∨(zg hs t b∧∀v H',Same H H'→Q v H')):j5 K C CB CO CC [.ref r,.ref p,.int 3] H Q E:=by
 rcases h with h|⟨g,k⟩
 ·exact ⟨r,p,hs,t,b,3,rfl,hR,ok,hp,λb1=>⟨(h.1 b1).1,λz=>absurd z (h.1 b1).2.1,λ_ H' s=>(h.1 b1).2.2 H' s⟩,h.2⟩
 ·exact ⟨r,p,hs,t,b,3,rfl,hR,ok,hp,λ_=>⟨g.2.1,λ_=>⟨λ_ q H' _ s _=>k _ H' s,λz=>absurd w31000 z⟩,λz=>absurd g.2.2.1 z⟩,λz=>absurd g.1 (by lia)⟩
theorem far_c {C CB CO CC CT:Aj}{H:Hp}{r p:Aj}{hs:List Int}{t b:Int}{Q:VK}{E:XK}(hR:RoadAt C H r hs)(ok:wt hs)(hp:SqT K H p [.int t,.int b])(h:yn CB CO hs t b E H∨(zg hs t b∧∀v H',Same H H'→Q v H')):qwt K C CB CO CC CT [.ref r,.ref p,.int 3] H Q E:=by
 rcases h with h|⟨g,k⟩
 ·exact ⟨r,p,hs,t,b,3,rfl,hR,ok,hp,λb1=>⟨(h.1 b1).1,λz=>absurd z (h.1 b1).2.1,λ_ H' s=>(h.1 b1).2.2 H' s⟩,h.2⟩
 ·exact ⟨r,p,hs,t,b,3,rfl,hR,ok,hp,λ_=>⟨g.2.1,λ_=>⟨λ_=>⟨λ_ q H' s _=>k _ H' s,λd=>absurd d g.2.2.2⟩,λz=>absurd w3 z⟩,λz=>absurd g.2.2.1 z⟩,λz=>absurd g.1 (by lia)⟩
def Zs (K:Aa)(C CB CO:Aj):Sp:=λvs H Q E=>∃(r p q:Aj) (hs:List Int) (tg bg t b d:Int),vs=[.ref r,.int d,.ref p,.ref q]∧RoadAt C H r hs∧wt hs∧H p=some (.tup [.int tg,.int bg])∧H q=some (.tup [.int t,.int b])∧zg hs tg bg∧0≤d ∧
 (d≤8→(∀H',Same H H'→yn CB CO hs t b E H')∨(zg hs t b∧∀H',Same H H'→Q .non H'))∧(9≤d→∀H',Same H H'→Q .non H')
theorem qvh {f:Aj}{fd:Ad}(F:Fun K "_law_walks" "_law_walks" s__law_walks f fd)(T:Txt K mg qf qt qw qx qb qp wx qm wv wq qr qz qg qk)(c_at:MCal P w K mg base qz "at" 4 (spAt K qz qw qx))(c_walked:Cal P w K mg base "walked" 5 (j5 K qz qw qx qb))(c_tail_ring:Cal P w K mg base "tail_ring" 6 (qq7 K qz qw qx))(c_far:Cal P w K mg base "far" 6 (qwt K qz qw qx qb qp))
  (c_stands:Cal P w K mg base "stands" 6 (Q7 K qz qw qx)) (c_meeting:Cal P w K mg base "meeting" 6 (y0 K qz qw qx)) (c_least:Cal P w K mg base "least" 6 (Yj K qz qw qx)):FnOk P w K mg base (CXE P w) 7 f fd ["_law_road","_law_door","_law_good","_law_bad"] (Zs K qz qw qx):=by
 have sc:=Ws
 refine F.okX sc (λvs H Q E h=>by obtain ⟨r,p,q,hs,tg,bg,t,b,d,rfl,_⟩:=h;rfl) (λcdv A outer s H vs Q E hr h=>?_)
 obtain ⟨r,p,q,hs,tg,bg,t,b,d,rfl,hR,ok,hp,hq,hg,d0,cs,k9⟩:=h
 obtain ⟨dx,q0,h1,h2⟩:=id hR
 refine ⟨_,(zc (xz (wc x9 (pv 1) qy (wm _)) (qh (xk (xy (pv 0) T.cl c_at (hr.mono (by decide)) qj (qc (pv 3) qv)))) wg)
   (zc (xz (wc x9 (pv 1) qy (wm _)) (qh (xk (ww c_walked (hr.mono (by decide)) rfl qj (qc (pv 0) (qc (pv 3) (wn qy qv)))))) wg)
   (zc (xz (wc x9 (pv 1) qy (wm _)) (qh (xk (ww c_tail_ring (hr.mono (by decide)) rfl qj (qc (pv 0) (qc (pv 3) qv))))) wg)
   (zc (xz (wc x9 (pv 1) qy (wm _)) (qh (xk (ww c_far (hr.mono (by decide)) rfl qj (qc (pv 0) (qc (pv 3) (wn qy qv)))))) wg)
   (zc (xz (wc x9 (pv 1) qy (wm _)) (qh (xk (ww c_stands (hr.mono (by decide)) rfl qj (qc (pv 0) (qc (pv 3) (wn qy (qc (pv 2) qv))))))) wg)
   (zc (xz (wc x9 (pv 1) qy (wm _)) (qh (xk (ww c_stands (hr.mono (by decide)) rfl qj (qc (pv 0) (qc (pv 2) (wn qy (qc (pv 3) qv))))))) wg)
   (zc (xz (wc x9 (pv 1) qy (wm _)) (qh (xk (ww c_meeting (hr.mono (by decide)) rfl qj (qc (pv 0) (qc (pv 3) (qc (pv 2) qv)))))) wg)
   (zc (xz (wc x9 (pv 1) qy (wm _)) (qh (xk (ww c_meeting (hr.mono (by decide)) rfl qj (qc (pv 0) (qc (pv 2) (qc (pv 3) qv)))))) wg)
   (qh (xz (wc x9 (pv 1) qy (wm _)) (qh (xk (ww c_least (hr.mono (by decide)) rfl qj (qc (pv 0) (qc (pv 3) qv))))) wg)))))))))),?_⟩
 have s0:Same H H:=Same.refl _
 have g0:d≤-1→∀H',Same H H'→Q .non H':=λz=>by lia
 have one:∀(H1:Hp) (i:Int) (nx:VK),Same H H1→d≤8→(∀v H',Same H1 H'→(∀H'',Same H H''→Q .non H'')→nx v H')→yn qw qx hs t b E H1∨(zg hs t b∧∀v H',Same H1 H'→nx v H'):=λH1 i nx s1 d8 hn=>by
  rcases cs d8 with c|⟨g,k⟩
  ·exact .inl (c H1 s1)
  ·exact .inr ⟨g,λv H' s'=>hn v H' s' k⟩
 refine ⟨λσ H'=>σ=[some (.ref r),some (.int d),some (.ref p),some (.ref q)]∧Same H H'∧(d≤0→∀H'',Same H H''→Q .non H''),?_,?_⟩
 ·refine exI rfl ⟨rfl,_,rfl,x4 (λe=>?_) (λe=>⟨rfl,s0,λz=>g0 (by lia)⟩)⟩
  refine exI rfl ⟨r,dx,exI rfl ⟨s0 _ _ h1,w6 (by decide +kernel),_,rfl,?_⟩⟩
  dsimp only [xc,z5,tC]
  exact at_c (hR.same s0) ok (SqT.of (s0 _ _ hq)) (one H 0 _ s0 (by lia) (λv H' s' k=>⟨rfl,s0.trans s',λ_=>k⟩))
 rintro σ H1 ⟨rfl,s1,g1⟩
 refine ⟨λσ H'=>σ=[some (.ref r),some (.int d),some (.ref p),some (.ref q)]∧Same H H'∧(d≤1→∀H'',Same H H''→Q .non H''),?_,?_⟩
 ·refine exI rfl ⟨rfl,_,rfl,x4 (λe=>?_) (λe=>⟨rfl,s1,λz=>g1 (by lia)⟩)⟩
  refine exI rfl (exI rfl ?_)
  dsimp only [xc,z5,tC]
  exact qkn (hR.same s1) ok (SqT.of (s1 _ _ hq)) (one H1 1 _ s1 (by lia) (λv H' s' k=>⟨rfl,s1.trans s',λ_=>k⟩))
 rintro σ H2 ⟨rfl,s2,g2⟩
 refine ⟨λσ H'=>σ=[some (.ref r),some (.int d),some (.ref p),some (.ref q)]∧Same H H'∧(d≤2→∀H'',Same H H''→Q .non H''),?_,?_⟩
 ·refine exI rfl ⟨rfl,_,rfl,x4 (λe=>?_) (λe=>⟨rfl,s2,λz=>g2 (by lia)⟩)⟩
  refine exI rfl (exI rfl ?_)
  dsimp only [xc,z5,tC]
  exact ⟨r,q,hs,t,b,rfl,hR.same s2,ok,SqT.of (s2 _ _ hq),one H2 2 _ s2 (by lia) (λv H' s' k=>⟨rfl,s2.trans s',λ_=>k⟩)⟩
 rintro σ H3 ⟨rfl,s3,g3⟩
 refine ⟨λσ H'=>σ=[some (.ref r),some (.int d),some (.ref p),some (.ref q)]∧Same H H'∧(d≤3→∀H'',Same H H''→Q .non H''),?_,?_⟩
 ·refine exI rfl ⟨rfl,_,rfl,x4 (λe=>?_) (λe=>⟨rfl,s3,λz=>g3 (by lia)⟩)⟩
  refine exI rfl (exI rfl ?_)
  dsimp only [xc,z5,tC]
  exact far_c (hR.same s3) ok (SqT.of (s3 _ _ hq)) (one H3 3 _ s3 (by lia) (λv H' s' k=>⟨rfl,s3.trans s',λ_=>k⟩))
 rintro σ H4 ⟨rfl,s4,g4⟩
 refine ⟨λσ H'=>σ=[some (.ref r),some (.int d),some (.ref p),some (.ref q)]∧Same H H'∧(d≤4→∀H'',Same H H''→Q .non H''),?_,?_⟩
 ·refine exI rfl ⟨rfl,_,rfl,x4 (λe=>?_) (λe=>⟨rfl,s4,λz=>g4 (by lia)⟩)⟩
  refine exI rfl (exI rfl (exI rfl ?_))
  dsimp only [xc,z5,tC]
  exact ⟨r,q,p,hs,t,b,tg,bg,3,rfl,hR.same s4,ok,SqT.of (s4 _ _ hq),SqT.of (s4 _ _ hp),w3,(one H4 4 _ s4 (by lia) (λv H' s' k=>⟨rfl,s4.trans s',λ_=>k⟩)).imp id λ⟨g,k⟩=>⟨g,.inr ⟨hg,k⟩⟩⟩
 rintro σ H5 ⟨rfl,s5,g5⟩
 refine ⟨λσ H'=>σ=[some (.ref r),some (.int d),some (.ref p),some (.ref q)]∧Same H H'∧(d≤5→∀H'',Same H H''→Q .non H''),?_,?_⟩
 ·refine exI rfl ⟨rfl,_,rfl,x4 (λe=>?_) (λe=>⟨rfl,s5,λz=>g5 (by lia)⟩)⟩
  refine exI rfl (exI rfl (exI rfl ?_))
  dsimp only [xc,z5,tC]
  exact ⟨r,p,q,hs,tg,bg,t,b,3,rfl,hR.same s5,ok,SqT.of (s5 _ _ hp),SqT.of (s5 _ _ hq),w3,.inr ⟨hg,(by
   rcases cs (by lia) with c|⟨g,k⟩
   ·exact .inl λH' s'=>c H' (s5.trans s')
   ·exact .inr ⟨g,λv H' s'=>(λv H' s' k=>⟨rfl,s5.trans s',λ_=>k⟩) v H' s' k⟩)⟩⟩
 rintro σ H6 ⟨rfl,s6,g6⟩
 refine ⟨λσ H'=>σ=[some (.ref r),some (.int d),some (.ref p),some (.ref q)]∧Same H H'∧(d≤6→∀H'',Same H H''→Q .non H''),?_,?_⟩
 ·refine exI rfl ⟨rfl,_,rfl,x4 (λe=>?_) (λe=>⟨rfl,s6,λz=>g6 (by lia)⟩)⟩
  refine exI rfl (exI rfl (exI rfl ?_))
  dsimp only [xc,z5,tC]
  exact ⟨r,q,p,hs,t,b,tg,bg,rfl,hR.same s6,ok,SqT.of (s6 _ _ hq),SqT.of (s6 _ _ hp),(one H6 6 _ s6 (by lia) (λv H' s' k=>⟨rfl,s6.trans s',λ_=>k⟩)).imp id λ⟨g,k⟩=>⟨g,.inr ⟨hg,k⟩⟩⟩
 rintro σ H7 ⟨rfl,s7,g7⟩
 refine ⟨λσ H'=>σ=[some (.ref r),some (.int d),some (.ref p),some (.ref q)]∧Same H H'∧(d≤7→∀H'',Same H H''→Q .non H''),?_,?_⟩
 ·refine exI rfl ⟨rfl,_,rfl,x4 (λe=>?_) (λe=>⟨rfl,s7,λz=>g7 (by lia)⟩)⟩
  refine exI rfl (exI rfl (exI rfl ?_))
  dsimp only [xc,z5,tC]
  exact ⟨r,p,q,hs,tg,bg,t,b,rfl,hR.same s7,ok,SqT.of (s7 _ _ hp),SqT.of (s7 _ _ hq),.inr ⟨hg,(by
   rcases cs (by lia) with c|⟨g,k⟩
   ·exact .inl λH' s'=>c H' (s7.trans s')
   ·exact .inr ⟨g,λv H' s'=>(λv H' s' k=>⟨rfl,s7.trans s',λ_=>k⟩) v H' s' k⟩)⟩⟩
 rintro σ H8 ⟨rfl,s8,g8⟩
 refine exI rfl ⟨rfl,_,rfl,x4 (λe=>?_) (λe=>?_)⟩
 ·refine exI rfl (exI rfl ?_)
  dsimp only [xc,z5,tC]
  exact ⟨r,q,hs,t,b,rfl,hR.same s8,ok,SqT.of (s8 _ _ hq),one H8 8 _ s8 (by lia) (λv H' s' k=>k H' (s8.trans s'))⟩
 ·rcases (by lia:d≤7∨9≤d) with z|z
  ·exact g8 z H8 s8
  ·exact k9 z H8 s8
end
section
variable {P:Ac}{w:Ah}{K:Aa}{mg:Str→Option Ag}{base:Heap}{qf:Aj}{qt:Aj}{qw:Aj}{qx:Aj}{qb:Aj}{qp:Aj}{wx:Aj}{qm:Aj}{wv:Aj}{wq:Aj}{qr:Aj}{qz:Aj}{qg:Aj}{qk:Aj}
theorem on_low {hs:List Int}{t b:Int}(hb:1≤b)(h:xh hs (wj t b).1 (wj t b).2):xh hs t b:=by
 have g:=vq (t:=t) hb
 have e1:gOf t b*(wj t b).2=b:=uu hb
 have e2:gOf t b*(wj t b).1=t:=W5
 obtain ⟨h0,h1⟩:=h
 refine ⟨?_,?_⟩
 ·rw [←e2]
  exact bi (by lia) h0
 ·have:=aE h1 (show 0≤gOf t b by lia)
  rw [e2,bT _ ((wj t b).2),←da,e1,bT] at this
  exact this
theorem val1 {k:Key}{v:V}:xg [(k,v)] k=some v:=by
 unfold xg
 rw [bq,aP rfl]
 rfl
def qqm (K:Aa)(CB CO:Aj):Sp:=λvs H Q E=>∃(p q:Aj) (hs:List Int) (t b:Int),vs=[.ref p,.ref q]∧H p=some (.lst (hs.map V.int))∧wt hs∧H q=some (.tup [.int t,.int b])∧(1≤b→(wj t b).2≤40) ∧
 ((∀H',Same H H'→yn CB CO hs t b E H')∨(zg hs t b∧∀H',Same H H'→Q .non H'))
theorem qj7 {f:Aj}{fd:Ad}(F:Fun K "_law_set_down" "_law_set_down" s__law_set_down f fd)(T:Txt K mg qf qt qw qx qb qp wx qm wv wq qr qz qg qk)(c_House:CCal P w K mg base "House" qk 1 (Z4 qk))(c_lay:MCal P w K mg base qk "lay" 4 (qk0 K qk qz qm wv qt))(c_place:MCal P w K mg base qk "place" 5 (Yg K qk qz qg qm wv wq qw qx)) :
  FnOk P w K mg base (CXE P w) 6 f fd ["_law_heights_here","_law_bad"] (qqm K qw qx):=by
 have sc:=y7
 refine F.okX sc (λvs H Q E h=>by obtain ⟨p,q,hs,t,b,rfl,_⟩:=h;rfl) (λcdv A outer s H vs Q E hr h=>?_)
 obtain ⟨p,q,hs,t,b,rfl,hp,ok,hq,hb40,cs⟩:=h
 have na:zh ("a" : Str)=true:=by decide +kernel
 have nb:zh ("b" : Str)=true:=by decide +kernel
 refine ⟨_,(qu (wp (i:=2) sc.nd rfl (by walk_at "loc") (qxv c_House (hr.mono (by decide)) rfl qj))
   (qu (xk (xy (pv 2) T.clH c_lay (hr.mono (by decide)) qj (wn x6 (vw (jv vm rfl T.list_ bD (qc (pv 0) qv)) qv))))
   (qh (xk (xy (pv 2) T.clH c_place (hr.mono (by decide)) qj (wn x6 (wn x6 (qc (pv 1) qv)))))))),?_⟩
 refine λx d0 nx nd0 ne0=>⟨x,d0,rfl,q9,λH1 dr dw dd m1 m2 m3 hse kb1=>⟨rfl,?_⟩⟩
 have s1:Same H H1:=λz o e=>kb1 z o (λy=>by rw [aB.mp y,nx] at e;cases e) (by rw [q8 (qd e nx),q8 (qd e nd0)];exact e)
 have fr:∀z,upd (upd H d0 (.own x)) x (.ins qk d0 []) z=none→H z=none:=λz e=>by
  cases y:H z with
  |none=>rfl
  |some o=>rw [q8 (qd y nx),q8 (qd y nd0),y] at e;cases e
 have m1:=fr _ m1
 have m2:=fr _ m2
 have m3:=fr _ m3
 clear kb1 fr
 obtain ⟨dx,hx⟩:=hse.ob
 refine exI rfl ⟨x,dx,exI rfl ⟨hx,k7 (by decide +kernel) (by decide +kernel) (by decide +kernel),exI rfl ⟨p,exI rfl ⟨.inl (SqL.of (s1 _ _ hp)),λp2 n2=>?_⟩⟩⟩⟩
 have s2:=Same.upd (H:=H1) (o:=.lst (hs.map V.int)) n2
 have f2:upd H1 p2 (.lst (hs.map V.int)) p2=some (.lst (hs.map V.int)):=q9
 generalize upd H1 p2 (.lst (hs.map V.int))=H2 at s2 f2
 refine ⟨x,dr,dw,dd,p2,[],[],[],"a",hs,rfl,hse.same s2,(λv hv=>nomatch hv),aJ _,aJ _,aJ _,(by decide +kernel),f2,λ_ _ _ H3 rd=>?_,(λz=>by rw [na] at z;cases z),(λ_ z=>by cases z),λ_ _ z=>absurd ok z⟩
 obtain ⟨ra,tp,q1,q2,_,_,_,hs3,_,_,_,_,ra3,kb3⟩:=rd
 have s3:Same H H3:=λz o e=>kb3 z o (λy=>by
  simp only [ap,ay,cE] at y
  rcases y with rfl|rfl|rfl
  ·rw [m1] at e;cases e
  ·rw [m2] at e;cases e
  ·rw [m3] at e;cases e) ((s1.trans s2) _ _ e)
 have vr:xg (zu ([]:List (Key×V)) (.inr ("a" : Str)) (.ref ra)) (.inr ("a" : Str))=some (.ref ra):=by
  rw [j8 (kvs:=[]) _ rfl]
  exact val1
 obtain ⟨dx3,hx3⟩:=hs3.ob
 refine exI rfl ⟨x,dx3,exI rfl ⟨hx3,k7 (by decide +kernel) (by decide +kernel) (by decide +kernel),exI rfl ⟨x,dr,dw,dd,q,_,[],_,"b","a",t,b,rfl,hs3,(by rw [j8 (kvs:=[]) _ rfl];show 1≤1000;decide),aJ _,(show 1≤1000000 by decide),(by decide +kernel),s3 _ _ hq,(λz=>by rw [nb] at z;cases z),(λ_ z=>by cases z),λ_ _=>⟨(λz=>by rw [vr] at z;cases z),λv e=>?_⟩⟩⟩⟩
 rw [vr] at e
 cases e
 rcases cs with c|⟨g,k⟩
 ·refine ⟨ra,hs,rfl,ra3,ok,λb1 H' s'=>(c H' (s3.trans s')).2 b1,λb1=>⟨((c H3 s3).1 b1).1,λz=>absurd (hb40 b1) (by lia),λ_=>⟨λ_ H' s'=>((c H3 s3).1 b1).2.2 H' s',λz=>absurd (on_low b1 z) ((c H3 s3).1 b1).2.1⟩⟩⟩
 ·refine ⟨ra,hs,rfl,ra3,ok,λb1=>absurd g.1 (by lia),λb1=>⟨g.2.1,λz=>absurd (hb40 b1) (by lia),λ_=>⟨λz=>absurd (qkf b1 g.2.2.1) z,λ_ H' pp t' wd=>k H' ?_⟩⟩⟩
  obtain ⟨y,tp',q1',q2',_,_,_,_,_,_,_,_,_,kb4⟩:=wd
  exact λz o e=>kb4 z o (λy=>by
   simp only [ap,ay,cE] at y
   rcases y with rfl|rfl|rfl
   ·rw [m1] at e;cases e
   ·rw [m2] at e;cases e
   ·rw [m3] at e;cases e) (s3 _ _ e)
def Way3 (hs:List Int)(t b:Int)(o:Str):Prop:=(b<1∧o = "bottom")∨(1≤b∧Sm 8000 b∧¬ xh hs t b∧o = "off")∨(zg hs t b∧o = "none")
def qww (K:Aa)(C:Aj):Sp:=λvs H Q _=>∃(r ph p q:Aj) (hs:List Int) (tg bg t b d:Int) (o:Str),vs=[.ref r,.ref ph,.int d,.ref p,.ref q]∧RoadAt C H r hs∧wt hs∧H ph=some (.lst (hs.map V.int))∧H p=some (.tup [.int tg,.int bg])∧H q=some (.tup [.int t,.int b])∧zg hs tg bg∧0≤d∧d≤9 ∧
 (1≤b→(wj t b).2≤40)∧Way3 hs t b o∧∀H',Same H H'→Q (.str o) H'
theorem qk9 {f:Aj}{fd:Ad}(F:Fun K "_law_told" "_law_told" s__law_told f fd)(T:Txt K mg qf qt qw qx qb qp wx qm wv wq qr qz qg qk)(c__law_walks:Cal P w K mg base "_law_walks" 7 (Zs K qz qw qx))(c__law_set_down:Cal P w K mg base "_law_set_down" 6 (qqm K qw qx)) :
  FnOk P w K mg base (CXE P w) 8 f fd ["_law_road","_law_heights_here","_law_door","_law_good","_law_bad"] (qww K qz):=by
 have sc:=Yc
 refine F.okX sc (λvs H Q E h=>by obtain ⟨r,ph,p,q,hs,tg,bg,t,b,d,o,rfl,_⟩:=h;rfl) (λcdv A outer s H vs Q E hr h=>?_)
 obtain ⟨r,ph,p,q,hs,tg,bg,t,b,d,o,rfl,hR,ok,hph,hp,hq,hg,d0,d9,h40,wy,k⟩:=h
 refine ⟨_,(qu (wp (i:=5) sc.nd rfl (by walk_at "loc") x6)
   (qu (qjn rfl rfl (λpn xe E hE hO=>(qu (xk (ww c__law_walks (hr.mono (by decide)) rfl hE (qc (pv 0) (qc (pv 2) (qc (pv 3) (qc (pv 4) qv))))))
   (qh (xz (wc x9 (pv 2) qy (wm _)) (qh (xk (ww c__law_set_down (hr.mono (by decide)) rfl hE (qc (pv 1) (qc (pv 4) qv))))) wg)))) (.cons rfl T.g_BadBottom (λe=>(qh (wp (i:=5) sc.nd rfl (by walk_at "loc") x6))) (.cons rfl T.g_OffRoad (λe=>(qh (wp (i:=5) sc.nd rfl (by walk_at "loc") x6))) (.cons rfl T.g_RoadError (λe=>(qh (wp (i:=5) sc.nd rfl (by walk_at "loc") x6))) .nil (by decide)) (by decide)) (by decide)))
   (qh (wr (pv 5))))),?_⟩
 rcases wy with ⟨b1,rfl⟩|⟨b1,sb,nb,rfl⟩|⟨g,rfl⟩
 ·refine ⟨_,rfl,_,rfl,_,rfl,_,rfl,r,p,q,hs,tg,bg,t,b,d,rfl,hR,ok,hp,hq,hg,d0,λd8=>.inl λH' s'=>⟨λz=>absurd b1 (by lia),λ_=>(exI rfl (.inl ⟨v4 T.x_BadBottom,_,rfl,k H' s'⟩))⟩,λe9 H1 s1=>?_⟩
  refine exI rfl ⟨rfl,_,rfl,x4 (λe=>?_) (λe=>absurd d9 (by lia))⟩
  exact exI rfl (exI rfl ⟨ph,q,hs,t,b,rfl,s1 _ _ hph,ok,s1 _ _ hq,h40,.inl λH' s'=>⟨λz=>absurd b1 (by lia),λ_=>(exI rfl (.inl ⟨v4 T.x_BadBottom,_,rfl,k H' (s1.trans s')⟩))⟩⟩)
 ·refine ⟨_,rfl,_,rfl,_,rfl,_,rfl,r,p,q,hs,tg,bg,t,b,d,rfl,hR,ok,hp,hq,hg,d0,λd8=>.inl λH' s'=>⟨λ_=>⟨sb,nb,λH'' s''=>(exI rfl (.inr ⟨Qh T.x_BadBottom T.ms,.inl ⟨v4 T.x_OffRoad,_,rfl,k H'' (s'.trans s'')⟩⟩))⟩,λz=>absurd b1 (by lia)⟩,λe9 H1 s1=>?_⟩
  refine exI rfl ⟨rfl,_,rfl,x4 (λe=>?_) (λe=>absurd d9 (by lia))⟩
  exact exI rfl (exI rfl ⟨ph,q,hs,t,b,rfl,s1 _ _ hph,ok,s1 _ _ hq,h40,.inl λH' s'=>⟨λ_=>⟨sb,nb,λH'' s''=>(exI rfl (.inr ⟨Qh T.x_BadBottom T.ms,.inl ⟨v4 T.x_OffRoad,_,rfl,k H'' ((s1.trans s').trans s'')⟩⟩))⟩,λz=>absurd b1 (by lia)⟩⟩)
 ·refine ⟨_,rfl,_,rfl,_,rfl,_,rfl,r,p,q,hs,tg,bg,t,b,d,rfl,hR,ok,hp,hq,hg,d0,λd8=>.inr ⟨g,λH1 s1=>?_⟩,λe9 H1 s1=>?_⟩
  ·refine exI rfl ⟨rfl,_,rfl,x4 (λe=>absurd d8 (by lia)) (λe=>?_)⟩
   exact exI rfl (k H1 s1)
  ·refine exI rfl ⟨rfl,_,rfl,x4 (λe=>?_) (λe=>absurd d9 (by lia))⟩
   exact exI rfl (exI rfl ⟨ph,q,hs,t,b,rfl,s1 _ _ hph,ok,s1 _ _ hq,h40,.inr ⟨g,λH' s'=>(exI rfl (k H' (s1.trans s')))⟩⟩)
end
section
variable {P:Ac}{w:Ah}{K:Aa}{mg:Str→Option Ag}{base:Heap}{qf:Aj}{qt:Aj}{qw:Aj}{qx:Aj}{qb:Aj}{qp:Aj}{wx:Aj}{qm:Aj}{wv:Aj}{wq:Aj}{qr:Aj}{qz:Aj}{qg:Aj}{qk:Aj}
theorem qkt {r:Int}(x y:Int)(h0:0≤r)(h1:r<2):atI [V.int x,V.int y] r=some (.int (if r=1 then y else x)):=by
 have:r=0∨r=1:=by lia
 rcases this with rfl|rfl <;> rfl
theorem iteSe {a:Str}{A B:Prop}(h:B):if (!decide (V.str a=V.str a))=true then A else B:=by
 rw [aP rfl]
 exact Y1 h
theorem qyd {hs:List Int}(ok:wt hs){t b c:Int}(b1:1≤b)(b2:b≤12)(c1:1≤c)(c2:c≤3)(t0:0≤t)(t1:t≤((hs.length:Int)-1)*b):zg hs (t*c) (b*c)∧(wj (t*c) (b*c)).2≤12∧b*c≤36∧0≤t*c:=by
 have o1:=ok.1
 have o2:=ok.2.1
 have e1:1≤b*c:=Int.mul_pos (by lia) (by lia)
 have e2:b*c≤12*3:=cZ b2 c2 (by lia) (by lia)
 have e3:=Yq (t:=t) b1
 have lm:=qw9 (t:=t) b1 c1
 have tc:=bi t0 (show 0≤c by lia)
 have on:xh hs (t*c) (b*c):=⟨tc,by
  rw [←da]
  exact aY t1 (by lia)⟩
 refine ⟨⟨e1,(Sm.small (n:=65) (by lia) (by lia) (by decide)).mono (by decide),on,λd=>?_⟩,by rw [lm];lia,by lia,tc⟩
 have P0:=Q1 e1 on
 have h:=qyu ok P0 d
 have h2:(wj (t*c) (b*c)).2≤12:=by rw [lm];lia
 have h4:=cZ (show (hs.length:Int)-1≤24 by lia) h2 (by have:=P0.1;lia) (by decide)
 lia
set_option maxHeartbeats 0 in
theorem ok_law {f:Aj}{fd:Ad}(F:Fun K "law" "law" s_law f fd)(T:Txt K mg qf qt qw qx qb qp wx qm wv wq qr qz qg qk)(c__law_pick:Cal P w K mg base "_law_pick" 2 (jg K))(c__law_heights:Cal P w K mg base "_law_heights" 4 (y8 K))(c_Road:CCal P w K mg base "Road" qz 2 (Wy K qt qz))(c__law_spot:Cal P w K mg base "_law_spot" 3 (Yy K))(c__law_told:Cal P w K mg base "_law_told" 8 (qww K qz)) :
  FnOk P w K mg base (CXE P w) 10 f fd ["_law_script"] (qwu K):=by
 have sc:=sc_law
 refine F.okX sc (λvs H Q E h=>by obtain ⟨a,ns,rfl,_⟩:=h;rfl) (λcdv A outer s H vs Q E hr h=>?_)
 obtain ⟨a,ns,rfl,hS,hl,k⟩:=h
 have big:(1000000:Nat)<sizeLine:=by decide
 have sm:∀z:Int,-(2 ^ 64)≤z→z≤2 ^ 64→Sm 65 z:=λz z1 z2=>Sm.small z1 z2 (by decide)
 refine ⟨_,(qu (wp (i:=1) sc.nd rfl (by walk_at "loc") (ww c__law_heights (hr.mono (by decide)) rfl qj (qc (pv 0) (wn qy (v6 (z8 zp (Wj (wn qy (wn qy qv))) (ww c__law_pick (hr.mono (by decide)) rfl qj (qc (pv 0) (wn qy (wn qy (wn qy qv))))) (λ_ _=>rfl)) qv)))))
   (qu (wp (i:=2) sc.nd rfl (by walk_at "loc") (Wv c_Road (hr.mono (by decide)) rfl qj (vw (jv vm rfl T.list_ bD (qc (pv 1) qv)) qv)))
   (qu (wp (i:=3) sc.nd rfl (by walk_at "loc") (wu zf (w4 xb rfl T.len_ aD (qc (pv 1) qv)) qy))
   (qu (wp (i:=4) sc.nd rfl (by walk_at "loc") (ww c__law_spot (hr.mono (by decide)) rfl qj (qc (pv 0) (wn qy (qc (pv 3) (wn qy qv))))))
   (qu (wp (i:=5) sc.nd rfl (by walk_at "loc") (wu w8 qy (ww c__law_pick (hr.mono (by decide)) rfl qj (qc (pv 0) (wn qy (wn qy (wn qy qv)))))))
   (qu (wp (i:=6) sc.nd rfl (by walk_at "loc") (wu zf (qwh Y2 qy) (ww c__law_pick (hr.mono (by decide)) rfl qj (qc (pv 0) (wn qy (wn qy (wn qy qv)))))))
   (zc (xz (wc x9 (ww c__law_pick (hr.mono (by decide)) rfl qj (qc (pv 0) (wn qy (wn qy (wn qy qv))))) qy (wm _)) (qh (wp (i:=6) sc.nd rfl (by walk_at "loc") (wu w8 (wu w8 (wu xu (pv 3) (pv 5)) qy) (wu xu (ww c__law_pick (hr.mono (by decide)) rfl qj (qc (pv 0) (wn qy (wn qy (wn qy qv))))) (ww c__law_pick (hr.mono (by decide)) rfl qj (qc (pv 0) (wn qy (wn qy (wn qy qv))))))))) wg)
   (qu (wp (i:=7) sc.nd rfl (by walk_at "loc") x6)
   (zc (xz (wc x9 (ww c__law_pick (hr.mono (by decide)) rfl qj (qc (pv 0) (wn qy (wn qy (wn qy qv))))) qy (wm _)) (qu (wp (i:=5) sc.nd rfl (by walk_at "loc") (qwh Y2 (ww c__law_pick (hr.mono (by decide)) rfl qj (qc (pv 0) (wn qy (wn qy (wn qy qv)))))))
   (qu (wp (i:=6) sc.nd rfl (by walk_at "loc") (z8 zp (Wj (qc (pv 6) (v6 (z8 yt (pv 4) qy (λ_ _=>rfl)) qv))) (ww c__law_pick (hr.mono (by decide)) rfl qj (qc (pv 0) (wn qy (wn qy (wn qy qv))))) (λ_ _=>rfl)))
   (qh (wp (i:=7) sc.nd rfl (by walk_at "loc") x6)))) wg)
   (qu (Wx aV rfl (zx rfl T.range_ (wn qy qv)) (xq (i:=8) sc.nd rfl (by walk_at "loc")) (qu (xz (wc op_ne (ww c__law_told (hr.mono (by decide)) rfl qj (qc (pv 2) (qc (pv 1) (qc (pv 8) (qc (pv 4) (pa_cT (ku (qc (pv 6) (qc (pv 5) qv))) qv)))))) (pv 7) (wm _)) (qh (wr Jx)) wg)
   (qh (xz (wc op_ne (ww c__law_told (hr.mono (by decide)) rfl qj (qc (pv 2) (qc (pv 1) (qc (pv 8) (qc (pv 4) (qc (pv 4) qv)))))) x6 (wm _)) (qh (wr Jx)) wg))))
   (qh (wr Jx)))))))))))),?_⟩
 refine exI rfl ⟨sz2,λp0 n0=>?_⟩
 have s0:Same H (upd H p0 (.lst [.int 5,.int 24])):=Same.upd n0
 refine exI rfl ⟨a,ns,_,_,_,rfl,s0.sql hS,(by lia),(by lia),(by lia),(by lia),λr0 er0 l0 u0=>?_⟩
 refine exX rfl rfl SqL.new (qkt 5 24 l0 u0) ?_
 generalize upd H p0 (.lst [.int 5,.int 24])=H0 at s0
 refine ⟨a,ns,_,_,rfl,s0.sql hS,(by lia),(by split <;> lia),(by split <;> lia),λp1 hs w1 n1 a1 b1 i1=>?_⟩
 have ok:wt hs:=qjf i1 a1 (by split at b1 <;> lia)
 have s1:Same H (upd H0 p1 (.lst (hs.map V.int))):=s0.trans (Same.upd n1)
 have f1:upd H0 p1 (.lst (hs.map V.int)) p1=some (.lst (hs.map V.int)):=q9
 generalize upd H0 p1 (.lst (hs.map V.int))=H1 at s1 f1
 have ol:=ok.2.1
 have o2:=ok.1
 have lm:(hs.map V.int).length=hs.length:=ah _
 refine exI rfl ⟨p1,exI rfl ⟨.inl (SqL.of f1),λp2 n2=>?_⟩⟩
 refine λrd d0 nr nd0 ne0=>qxq (H:=upd H1 p2 (.lst (hs.map V.int))) (hs:=hs) q9 nr nd0 (λokl H2 s2' R2=>?_) λz=>absurd ok z
 have s12:Same H1 H2:=(Same.upd n2).trans s2'
 have s2:=s1.trans s12
 have f12:=s12 _ _ f1
 clear s2' nr nd0 ne0 n2 n1 n0 f1
 refine exI rfl ⟨p1,exI rfl ⟨.inl (SqL.of f12),wf rfl rfl ?_⟩⟩
 rw [lm]
 refine exI rfl (exI rfl ⟨a,ns,_,_,_,rfl,s2.sql hS,(by lia),(by lia),(by lia),(by lia),(by lia),λp3 t0 b0 c0 n3 y1 y2 y3 y4 y5 y6=>?_⟩)
 have s3':=Same.upd (H:=H2) (o:=.tup [.int (t0*c0),.int (b0*c0)]) n3
 have f3:upd H2 p3 (.tup [.int (t0*c0),.int (b0*c0)]) p3=some (.tup [.int (t0*c0),.int (b0*c0)]):=q9
 generalize upd H2 p3 (.tup [.int (t0*c0),.int (b0*c0)])=H3 at s3' f3
 obtain ⟨gg,gl,gb,gt⟩:=qyd ok y1 y2 y3 y4 y5 y6
 generalize t0*c0=tg at f3 gg gl gt
 generalize b0*c0=bg at f3 gg gl gb
 have s3:=s2.trans s3'
 have R3:=R2.same s3'
 have f13:=s3' _ _ f12
 clear s3' n3 s12 f12 s2 s1 s0
 refine exI rfl ⟨a,ns,_,_,_,rfl,s3.sql hS,(by lia),(by lia),(by lia),(by lia),λr1 _ l1 u1=>?_⟩
 refine wf rfl rfl ?_
 refine exI rfl (exI rfl ⟨a,ns,_,_,_,rfl,s3.sql hS,(by lia),(by lia),(by lia),(by lia),λr2 _ l2 u2=>?_⟩)
 refine wf rfl rfl ?_
 have wb:0≤((hs.length:Int)-1)*(1+r1):=bi (by lia) (by lia)
 have wb2:((hs.length:Int)-1)*(1+r1)≤24*13:=cZ (by lia) (by lia) (by lia) (by lia)
 refine ⟨λσ H'=>∃top,σ=[some (.ref a),some (.ref p1),some (.ref rd),some (.int ((hs.length:Int)-1)),some (.ref p3),some (.int (1+r1)),some (.int top),none,none]∧H'=H3∧¬ xh hs top (1+r1),?_,?_⟩
 ·refine exI rfl ⟨a,ns,_,_,_,rfl,s3.sql hS,(by lia),(by lia),(by lia),(by lia),λr3 _ l3 u3=>?_⟩
  refine ⟨rfl,_,rfl,x4 (λq1=>?_) (λq1=>?_)⟩
  ·refine exI rfl (exI rfl (wf rfl rfl ⟨(sm _ (by lia) (by lia)).ok (sm _ (by lia) (by lia)) (by decide),wf rfl rfl (exI rfl ⟨a,ns,_,_,_,rfl,s3.sql hS,(by lia),(by lia),(by lia),(by lia),λr4 _ l4 u4=>?_⟩)⟩))
   refine exI rfl ⟨a,ns,_,_,_,rfl,s3.sql hS,(by lia),(by lia),(by lia),(by lia),λr5 _ l5 u5=>?_⟩
   have m5:0≤r4*r5:=bi l4 l5
   refine wf rfl rfl ⟨(sm _ (by lia) (by lia)).ok (sm _ (by lia) (by lia)) (by decide),wf rfl rfl (exI rfl ⟨rfl,λz=>?_⟩)⟩
   have:((hs.length:Int)-1)*(1+r1)+1+r4*r5≤((hs.length:Int)-1)*(1+r1):=z.2
   lia
  ·exact exI rfl ⟨rfl,λz=>by have:=z.1;lia⟩
 rintro σ H4 ⟨top,rfl,rfl,off⟩
 refine ⟨λσ H'=>∃bo to o,σ=[some (.ref a),some (.ref p1),some (.ref rd),some (.int ((hs.length:Int)-1)),some (.ref p3),some (.int bo),some (.int to),some (.str o),none]∧Same H4 H'∧Way3 hs to bo o∧bo≤13,?_,?_⟩
 ·refine exI rfl ⟨a,ns,_,_,_,rfl,s3.sql hS,(by lia),(by lia),(by lia),(by lia),λr3 _ l3 u3=>?_⟩
  refine ⟨rfl,_,rfl,x4 (λq1=>?_) (λq1=>?_)⟩
  ·refine exI rfl ⟨a,ns,_,_,_,rfl,s3.sql hS,(by lia),(by lia),(by lia),(by lia),λr4 _ l4 u4=>?_⟩
   refine exI rfl ?_
   refine exI rfl (exI rfl (exX rfl rfl (SqT.of f3) rfl ⟨sz2,λp5 n5=>?_⟩))
   have s5:=Same.upd (H:=H4) (o:=.lst [.int top,.int tg]) n5
   refine exI rfl ⟨a,ns,_,_,_,rfl,(s3.trans s5).sql hS,(by lia),(by lia),(by lia),(by lia),λr5 _ l5 u5=>?_⟩
   refine exX rfl rfl SqL.new (qkt top tg l5 u5) ?_
   exact ⟨_,_,_,rfl,s5,.inl ⟨by lia,rfl⟩,by lia⟩
  ·exact ⟨_,_,_,rfl,Same.refl _,.inr (.inl ⟨by lia,(sm _ (by lia) (by lia)).mono (by decide),off,rfl⟩),by lia⟩
 rintro σ H5 ⟨bo,to,o,rfl,s5',wy,bo12⟩
 have R5:=R3.same s5'
 have f15:=s5' _ _ f13
 have f35:=s5' _ _ f3
 clear s5' s3 R3 R2 f13 f3 wb wb2
 refine exI rfl ⟨(by decide),(by decide),jx (n:=(10:Int).toNat) (λi σ H'=>Same H5 H'∧∃z,σ=[some (.ref a),some (.ref p1),some (.ref rd),some (.int ((hs.length:Int)-1)),some (.ref p3),some (.int bo),some (.int to),some (.str o),z]) ⟨Same.refl _,_,rfl⟩ ?_ ?_⟩
 ·rintro i σ H6 hi ⟨s6,z,rfl⟩
  have hi:i<10:=hi
  refine exI rfl (exI rfl (exI rfl (exI rfl (exI rfl (exI rfl ⟨sz2,λq nq=>?_⟩)))))
  have s7':=Same.upd (H:=H6) (o:=.tup [.int to,.int bo]) nq
  have f7:upd H6 q (.tup [.int to,.int bo]) q=some (.tup [.int to,.int bo]):=q9
  generalize upd H6 q (.tup [.int to,.int bo])=H7 at s7' f7
  have s7:=s6.trans s7'
  refine ⟨rd,p1,p3,q,hs,tg,bg,to,bo,_,o,rfl,R5.same s7,ok,s7 _ _ f15,s7 _ _ f35,f7,gg,(by lia),(by lia),λz=>by have:=Yq (t:=to) z;lia,wy,λH8 s8=>?_⟩
  refine exI rfl ⟨rfl,_,rfl,iteSe ?_⟩
  have s78:=s7.trans s8
  refine ⟨_,rfl,_,rfl,_,rfl,_,rfl,_,rfl,rd,p1,p3,p3,hs,tg,bg,tg,bg,_,"none",rfl,R5.same s78,ok,s78 _ _ f15,s78 _ _ f35,s78 _ _ f35,gg,(by lia),(by lia),λ_=>by lia,.inr (.inr ⟨gg,rfl⟩),λH9 s9=>?_⟩
  exact ⟨rfl,_,rfl,iteSe ⟨s78.trans s9,_,rfl⟩⟩
 ·rintro σ H6 ⟨s6,z,rfl⟩
  exact k _
end
section
theorem all_mk {l:PySem.W.OpenLaw}{w:Ah}{K:Aa}{h:Heap}{mg:Str→Option Ag}{fa:Aj}{qf:Aj}{qt:Aj}{qw:Aj}{qx:Aj}{qb:Aj}{qp:Aj}{wx:Aj}{qm:Aj}{wv:Aj}{wq:Aj}{qr:Aj}{qz:Aj}{qg:Aj}{qk:Aj}{t_WIDEST:Tok}{t_MOST_WALKED:Tok}{t_LONGEST_TRACE:Tok}{t_FARTHEST:Tok}{t_LONGEST_NAME:Tok}{t_GREATEST_BOTTOM:Tok}{t_LETTERS:Tok}(X:K.In h)(G:h.Ns mainGlobals mg)(hfa:mg "law" = some (.ref fa))
  (d__law_cell:DefIn K "_law_cell" s__law_cell)
  (d__law_pick:DefIn K "_law_pick" s__law_pick)
  (d_check_bottom:DefIn K "check_bottom" s_check_bottom)
  (d_common_divisor:DefIn K "common_divisor" s_common_divisor)
  (d_lowest:DefIn K "lowest" s_lowest)
  (d_check_count:DefInD K "check_count" s_check_count)
  (d_is_line:DefIn K "is_line" s_is_line)
  (d_trace:DefIn K "trace" s_trace)
  (d_spot:DefIn K "spot" s_spot)
  (d_led_to:DefIn K "led_to" s_led_to)
  (d_set_down:DefIn K "set_down" s_set_down)
  (d_is_name:DefIn K "is_name" s_is_name)
  (d_check_new_name:DefIn K "check_new_name" s_check_new_name)
  (d_exchange:DefIn K "exchange" s_exchange)
  (d_walked:DefIn K "walked" s_walked)
  (d_tail_ring:DefIn K "tail_ring" s_tail_ring)
  (d_far:DefIn K "far" s_far)
  (d_stands:DefIn K "stands" s_stands)
  (d_meeting:DefIn K "meeting" s_meeting)
  (d_least:DefIn K "least" s_least)
  (d__law_climb:DefIn K "_law_climb" s__law_climb)
  (d__law_heights:DefIn K "_law_heights" s__law_heights)
  (d__law_spot:DefIn K "_law_spot" s__law_spot)
  (d__law_walks:DefIn K "_law_walks" s__law_walks)
  (d__law_set_down:DefIn K "_law_set_down" s__law_set_down)
  (d__law_told:DefIn K "_law_told" s__law_told)
  (d_law:DefIn K "law" s_law)
  (a_RoadError:PySem.W.nsIn K mainGlobals "RoadError" = some (some (.ref qf)))
  (x_RoadError:PySem.W.excIn K qf [.type "ValueError",.type "Exception",.type "BaseException",.type "object"] "ValueError.__new__" = true)
  (a_BadLine:PySem.W.nsIn K mainGlobals "BadLine" = some (some (.ref qt)))
  (x_BadLine:PySem.W.excIn K qt [.type "ValueError",.type "Exception",.type "BaseException",.type "object"] "ValueError.__new__" = true)
  (a_BadBottom:PySem.W.nsIn K mainGlobals "BadBottom" = some (some (.ref qw)))
  (x_BadBottom:PySem.W.excIn K qw [.type "ValueError",.type "Exception",.type "BaseException",.type "object"] "ValueError.__new__" = true)
  (a_OffRoad:PySem.W.nsIn K mainGlobals "OffRoad" = some (some (.ref qx)))
  (x_OffRoad:PySem.W.excIn K qx [.type "ValueError",.type "Exception",.type "BaseException",.type "object"] "ValueError.__new__" = true)
  (a_BadCount:PySem.W.nsIn K mainGlobals "BadCount" = some (some (.ref qb)))
  (x_BadCount:PySem.W.excIn K qb [.type "ValueError",.type "Exception",.type "BaseException",.type "object"] "ValueError.__new__" = true)
  (a_TooLong:PySem.W.nsIn K mainGlobals "TooLong" = some (some (.ref qp)))
  (x_TooLong:PySem.W.excIn K qp [.type "ValueError",.type "Exception",.type "BaseException",.type "object"] "ValueError.__new__" = true)
  (a_BadRow:PySem.W.nsIn K mainGlobals "BadRow" = some (some (.ref wx)))
  (x_BadRow:PySem.W.excIn K wx [.type "ValueError",.type "Exception",.type "BaseException",.type "object"] "ValueError.__new__" = true)
  (a_BadName:PySem.W.nsIn K mainGlobals "BadName" = some (some (.ref qm)))
  (x_BadName:PySem.W.excIn K qm [.type "ValueError",.type "Exception",.type "BaseException",.type "object"] "ValueError.__new__" = true)
  (a_Taken:PySem.W.nsIn K mainGlobals "Taken" = some (some (.ref wv)))
  (x_Taken:PySem.W.excIn K wv [.type "ValueError",.type "Exception",.type "BaseException",.type "object"] "ValueError.__new__" = true)
  (a_NoRoad:PySem.W.nsIn K mainGlobals "NoRoad" = some (some (.ref wq)))
  (x_NoRoad:PySem.W.excIn K wq [.type "ValueError",.type "Exception",.type "BaseException",.type "object"] "ValueError.__new__" = true)
  (a_NoWalker:PySem.W.nsIn K mainGlobals "NoWalker" = some (some (.ref qr)))
  (x_NoWalker:PySem.W.excIn K qr [.type "ValueError",.type "Exception",.type "BaseException",.type "object"] "ValueError.__new__" = true)
  (a_Road:PySem.W.nsIn K mainGlobals "Road" = some (some (.ref qz)))
  (pg_Road:PySem.W.plainGet K qz Str.empty=true)
  (hd_Road:PySem.W.hasDictIn K qz=true)
  (po_Road:PySem.W.plainOver K qz=true)
  (sa_Road:PySem.W.findIn K (.ref qz) "__setattr__" = some (some (.builtin "object.__setattr__")))
  (mk_Road:PySem.W.makesIn K qz=true)
  (kc_Road:PySem.W.keepIn K (.ref qz)=true)
  (m_Road___init__:MethIn K qz "__init__" "Road.__init__" s_Road___init__)
  (m_Road_width:MethIn K qz "width" "Road.width" s_Road_width)
  (m_Road_ends:MethIn K qz "ends" "Road.ends" s_Road_ends)
  (m_Road_on_road:MethIn K qz "on_road" "Road.on_road" s_Road_on_road)
  (m_Road_at:MethIn K qz "at" "Road.at" s_Road_at)
  (a_Walker:PySem.W.nsIn K mainGlobals "Walker" = some (some (.ref qg)))
  (pg_Walker:PySem.W.plainGet K qg Str.empty=true)
  (hd_Walker:PySem.W.hasDictIn K qg=true)
  (po_Walker:PySem.W.plainOver K qg=true)
  (sa_Walker:PySem.W.findIn K (.ref qg) "__setattr__" = some (some (.builtin "object.__setattr__")))
  (mk_Walker:PySem.W.makesIn K qg=true)
  (kc_Walker:PySem.W.keepIn K (.ref qg)=true)
  (m_Walker___init__:MethIn K qg "__init__" "Walker.__init__" s_Walker___init__)
  (a_House:PySem.W.nsIn K mainGlobals "House" = some (some (.ref qk)))
  (pg_House:PySem.W.plainGet K qk Str.empty=true)
  (hd_House:PySem.W.hasDictIn K qk=true)
  (po_House:PySem.W.plainOver K qk=true)
  (sa_House:PySem.W.findIn K (.ref qk) "__setattr__" = some (some (.builtin "object.__setattr__")))
  (mk_House:PySem.W.makesIn K qk=true)
  (kc_House:PySem.W.keepIn K (.ref qk)=true)
  (m_House___init__:MethIn K qk "__init__" "House.__init__" s_House___init__)
  (m_House_road_called:MethIn K qk "road_called" "House.road_called" s_House_road_called)
  (m_House_do:MethIn K qk "do" "House.do" s_House_do)
  (m_House_lay:MethIn K qk "lay" "House.lay" s_House_lay)
  (m_House_place:MethIn K qk "place" "House.place" s_House_place)
  (na_Road_heights:PySem.W.findIn K (.ref qz) "heights" = some none)
  (na_Walker_whose:PySem.W.findIn K (.ref qg) "whose" = some none)
  (na_Walker_point:PySem.W.findIn K (.ref qg) "point" = some none)
  (na_Walker_times:PySem.W.findIn K (.ref qg) "times" = some none)
  (na_House_roads:PySem.W.findIn K (.ref qk) "roads" = some none)
  (na_House_walkers:PySem.W.findIn K (.ref qk) "walkers" = some none)
  (na_House_done:PySem.W.findIn K (.ref qk) "done" = some none)
  (g_WIDEST:PySem.W.nsIn K mainGlobals "WIDEST" = some (some (.int 24 t_WIDEST)))
  (g_MOST_WALKED:PySem.W.nsIn K mainGlobals "MOST_WALKED" = some (some (.int 1000 t_MOST_WALKED)))
  (g_LONGEST_TRACE:PySem.W.nsIn K mainGlobals "LONGEST_TRACE" = some (some (.int 1000 t_LONGEST_TRACE)))
  (g_FARTHEST:PySem.W.nsIn K mainGlobals "FARTHEST" = some (some (.int 1000000000000000000000000000000000000000000000000000000000000 t_FARTHEST)))
  (g_LONGEST_NAME:PySem.W.nsIn K mainGlobals "LONGEST_NAME" = some (some (.int 12 t_LONGEST_NAME)))
  (g_GREATEST_BOTTOM:PySem.W.nsIn K mainGlobals "GREATEST_BOTTOM" = some (some (.int 40 t_GREATEST_BOTTOM)))
  (g_LETTERS:PySem.W.nsIn K mainGlobals "LETTERS" = some (some (.str "abcdefghijklmnopqrstuvwxyz" t_LETTERS)))
  (ms:PySem.W.mroIn K qx (.ref qw)=some false)
  (z_len:PySem.W.nsIn K mainGlobals "len" = some none)
  (z_abs:PySem.W.nsIn K mainGlobals "abs" = some none)
  (z_range:PySem.W.nsIn K mainGlobals "range" = some none)
  (z_list:PySem.W.nsIn K mainGlobals "list" = some none)
  (z_min:PySem.W.nsIn K mainGlobals "min" = some none)
  (z_max:PySem.W.nsIn K mainGlobals "max" = some none)
  (z_all:PySem.W.nsIn K mainGlobals "all" = some none)
  (z_sorted:PySem.W.nsIn K mainGlobals "sorted" = some none)
  (z_enumerate:PySem.W.nsIn K mainGlobals "enumerate" = some none)
  (z_dict:PySem.W.nsIn K mainGlobals "dict" = some none) :
  ∃fd:Ad,(∀(s:Ab) (v:Ag),BindsTo s fd ⟨[v],[]⟩ [("_law_script",v)])∧∀base:Heap,K.In base→base.Ns mainGlobals mg→FnOk l.prog w K mg base (CXE l.prog w) 10 fa fd ["_law_script"] (qwu K):=by
 have T:Txt K mg qf qt qw qx qb qp wx qm wv wq qr qz qg qk:=⟨aH X G z_len,aH X G z_abs,aH X G z_range,aH X G z_list,aH X G z_min,aH X G z_max,aH X G z_all,aH X G z_sorted,aH X G z_enumerate,aH X G z_dict,aq X G a_RoadError,⟨x_RoadError⟩,aq X G a_BadLine,⟨x_BadLine⟩,aq X G a_BadBottom,⟨x_BadBottom⟩,aq X G a_OffRoad,⟨x_OffRoad⟩,aq X G a_BadCount,⟨x_BadCount⟩,aq X G a_TooLong,⟨x_TooLong⟩,aq X G a_BadRow,⟨x_BadRow⟩,aq X G a_BadName,⟨x_BadName⟩,aq X G a_Taken,⟨x_Taken⟩,aq X G a_NoRoad,⟨x_NoRoad⟩,aq X G a_NoWalker,⟨x_NoWalker⟩,⟨pg_Road,hd_Road,po_Road,sa_Road⟩,na_Road_heights,⟨t_WIDEST,aq X G g_WIDEST⟩,aq X G a_Road,⟨pg_Walker,hd_Walker,po_Walker,sa_Walker⟩,⟨pg_House,hd_House,po_House,sa_House⟩,na_Walker_whose,na_Walker_point,na_Walker_times,na_House_roads,na_House_walkers,na_House_done,aq X G a_Walker,aq X G a_House,⟨t_MOST_WALKED,aq X G g_MOST_WALKED⟩,⟨t_LONGEST_TRACE,aq X G g_LONGEST_TRACE⟩,⟨t_FARTHEST,aq X G g_FARTHEST⟩,⟨t_LONGEST_NAME,aq X G g_LONGEST_NAME⟩,⟨t_GREATEST_BOTTOM,aq X G g_GREATEST_BOTTOM⟩,⟨t_LETTERS,aq X G g_LETTERS⟩,ms⟩
 obtain ⟨f,fd,a,F⟩:=d_law.ex
 have e:=hfa.symm.trans (aq X G a)
 cases e
 refine ⟨fd,λs v=>?_,λbase kb nb=>?_⟩
 ·obtain ⟨oc,od,kV,doc,pm,an,cdv,ct,osl,rfl,lk,hcd⟩:=F.ex
  exact .of_eq rfl
 ·have c1:Cal l.prog w K mg base "_law_cell" 1 (qq2 K):=d__law_cell.cal X G Zp λf fd F=>qjm F T
  have c2:Cal l.prog w K mg base "_law_pick" 2 (jg K):=d__law_pick.cal X G Z5 λf fd F=>qyb F T c1
  have c3:Cal l.prog w K mg base "check_bottom" 1 (Yb qw):=d_check_bottom.cal X G u7 λf fd F=>qv9 F T
  have c4:Cal l.prog w K mg base "common_divisor" 1 qkr:=d_common_divisor.cal X G jr λf fd F=>ok_gcd F T
  have c5:Cal l.prog w K mg base "lowest" 2 (ky qw):=d_lowest.cal X G qzv λf fd F=>qxt F T c3 c4
  have c6:CalD l.prog w K mg base "check_count" 1 (jt qb):=d_check_count.cal X G Qy Wq λf fd F=>qvs F T
  have c7:Cal l.prog w K mg base "is_line" 1 (Qu K):=d_is_line.cal X G qq0 λf fd F=>qq1 F T
  have c8:CCal l.prog w K mg base "Road" qz 2 (Wy K qt qz):=m_Road___init__.ccal T.g_Road mk_Road kc_Road yh λf fd F=>qj2 F T c7
  have c9:MCal l.prog w K mg base qz "width" 1 (yk qz):=m_Road_width.cal Wt λf fd F=>qvd F T
  have c10:MCal l.prog w K mg base qz "ends" 2 (qqu qz wx):=m_Road_ends.cal Yv λf fd F=>qj5 F T c9
  have c11:MCal l.prog w K mg base qz "on_road" 3 (x8 K qz qw qx):=m_Road_on_road.cal ut λf fd F=>qwq F T c9 c5
  have c12:MCal l.prog w K mg base qz "at" 4 (spAt K qz qw qx):=m_Road_at.cal qwv λf fd F=>ok_at F T c9 c5 c10 c11
  have c13:Cal l.prog w K mg base "trace" 5 (vy qz qp):=d_trace.cal X G qkm λf fd F=>qkb F T c12
  have c14:Cal l.prog w K mg base "spot" 1 Y0:=d_spot.cal X G qk3 λf fd F=>qk8 F T
  have c15:Cal l.prog w K mg base "led_to" 1 qkd:=d_led_to.cal X G qzu λf fd F=>ok_led F T
  have c16:CCal l.prog w K mg base "Walker" qg 1 (u9 qg):=m_Walker___init__.ccal T.g_Walker mk_Walker kc_Walker jd λf fd F=>qkx F T
  have c17:Cal l.prog w K mg base "set_down" 3 (uz qg):=d_set_down.cal X G Jj λf fd F=>Jt F T c16
  have c18:Cal l.prog w K mg base "is_name" 1 Qv:=d_is_name.cal X G qqh λf fd F=>qq8 F T
  have c19:Cal l.prog w K mg base "check_new_name" 2 (jk qm wv):=d_check_new_name.cal X G j7 λf fd F=>Y6 F T c18
  have c20:Cal l.prog w K mg base "exchange" 1 qqg:=d_exchange.cal X G Y8 λf fd F=>qjx F T
  have c21:CCal l.prog w K mg base "House" qk 1 (Z4 qk):=m_House___init__.ccal T.g_House mk_House kc_House yj λf fd F=>qz5 F T
  have c22:MCal l.prog w K mg base qk "road_called" 1 (Q0 qk wq true):=m_House_road_called.cal k6 λf fd F=>Wz F T
  have c23:MCal l.prog w K mg base qk "do" 2 (spDo qk):=m_House_do.cal Y4 λf fd F=>ok_do F T c20
  have c24:MCal l.prog w K mg base qk "lay" 4 (qk0 K qk qz qm wv qt):=m_House_lay.cal Z0 λf fd F=>ok_lay F T c19 c8 c23
  have c25:MCal l.prog w K mg base qk "place" 5 (Yg K qk qz qg qm wv wq qw qx):=m_House_place.cal Qx λf fd F=>qvj F T c19 c22 c5 c11 c17 c23
  have c26:Cal l.prog w K mg base "walked" 5 (j5 K qz qw qx qb):=d_walked.cal X G qzc λf fd F=>qx2 F T c6 c11 c12
  have c27:Cal l.prog w K mg base "tail_ring" 6 (qq7 K qz qw qx):=d_tail_ring.cal X G Z7 λf fd F=>Z1 F T c11 c13
  have c28:Cal l.prog w K mg base "far" 6 (qwt K qz qw qx qb qp):=d_far.cal X G bd_far λf fd F=>ok_far F T c6 c11 c13 c14
  have c29:Cal l.prog w K mg base "stands" 6 (Q7 K qz qw qx):=d_stands.cal X G qx8 λf fd F=>qxb F T c6 c11 c13 c15
  have c30:Cal l.prog w K mg base "meeting" 6 (y0 K qz qw qx):=d_meeting.cal X G qqj λf fd F=>qqt F T c11 c13 c14
  have c31:Cal l.prog w K mg base "least" 6 (Yj K qz qw qx):=d_least.cal X G qkw λf fd F=>qvf F T c11 c13
  have c32:Cal l.prog w K mg base "_law_climb" 3 (Qw K):=d__law_climb.cal X G Wd λf fd F=>qz3 F T c2
  have c33:Cal l.prog w K mg base "_law_heights" 4 (y8 K):=d__law_heights.cal X G u6 λf fd F=>qq3 F T c2 c32
  have c34:Cal l.prog w K mg base "_law_spot" 3 (Yy K):=d__law_spot.cal X G Ys λf fd F=>qkg F T c2
  have c35:Cal l.prog w K mg base "_law_walks" 7 (Zs K qz qw qx):=d__law_walks.cal X G Wh λf fd F=>qvh F T c12 c26 c27 c28 c29 c30 c31
  have c36:Cal l.prog w K mg base "_law_set_down" 6 (qqm K qw qx):=d__law_set_down.cal X G ym λf fd F=>qj7 F T c21 c24 c25
  have c37:Cal l.prog w K mg base "_law_told" 8 (qww K qz):=d__law_told.cal X G Yp λf fd F=>qk9 F T c35 c36
  exact ok_law F T c2 c33 c8 c34 c37
theorem walk {l:PySem.W.OpenLaw}{q:Ac}{loose:List Str}{XP:(Str→Option Ag)→Heap→Prop}{YP:Ah→Heap→Prop}{d:DefRec}{K:Params→Aa}(hn:l.most=some 63)(hdf:d.params.defaults=[])
  (hY:∀(w:Ah) (h:Heap),YP w h→(K w.params).In h)
  (F:∀(w:Ah) (mg:Str→Option Ag) (fa:Aj) (h:Heap),(K w.params).In h→h.Ns mainGlobals mg→mg d.name=some (.ref fa) →
   ∃fd:Ad,(∀(s:Ab) (u:Ag),BindsTo s fd ⟨[u],[]⟩ [("_law_script",u)])∧∀base:Heap,(K w.params).In base→base.Ns mainGlobals mg→FnOk l.prog w (K w.params) mg base (CXE l.prog w) 10 fa fd ["_law_script"] (qwu (K w.params))) :
  PySem.W.WalkO q loose XP YP l.row.toRowW d [] (λf vs=>PySem.call f vs) :=
 L2.qk2 (n:=63) (k:=10) (x := "_law_script") (CX:=λw=>CXE l.prog w) (sp:=λw=>qwu (K w.params)) hn (by decide) hdf ⟨rfl,by decide,by decide⟩ hY F (λ_ _ a ns hl _ hS=>⟨a,ns,rfl,hS,hl,λ_=>rfl⟩) λ_ _ _ _ _ z=>CXE.no z
end
end My
open PySem PySem.W PyProof.Rows
local macro_rules | `(tactic| walk_at "def")=>`(tactic| (refine' L2.def_mk ?a ?l ?c ?k;(case a=>k_is);(case l=>k_is);(case c=>k_is);(case k=>k_is)))
local macro_rules | `(tactic| walk_at "defD")=>`(tactic| (refine' L2.qyy ?a ?l ?c ?k ?t;(case a=>k_is);(case l=>k_is);(case c=>k_is);(case k=>k_is);(case t=>k_is)))
local macro_rules | `(tactic| walk_at "meth")=>`(tactic| (refine' L2.qjb ?a ?i ?l ?c ?k;(case a=>k_is);(case i=>k_is);(case l=>k_is);(case c=>k_is);(case k=>k_is)))
namespace PySem.W.Fast
theorem tw11876703205938760305:True:=trivial
theorem tw6246745558034504923:True:=trivial
theorem tw3458278195921796529:True:=trivial
theorem tw4662031648504627684:True:=trivial
theorem tw2706694061028893978:True:=trivial
theorem tw18027106108124114597:True:=trivial
theorem tw11797850360321288251:True:=trivial
theorem tw7512778886291310028:True:=trivial
theorem tw16097167088254445680:True:=trivial
theorem tw1031717610574799805:True:=trivial
theorem tw5105361189101333504:True:=trivial
theorem tw11152544518114435053:True:=trivial
theorem tw12891563550863159045:True:=trivial
theorem tw15750596513550238719:True:=trivial
theorem tw756549903210221336:True:=trivial
theorem tw12224815196595133276:True:=trivial
theorem tw17424263911503469377:True:=trivial
theorem tw16132358148493225776:True:=trivial
theorem tw10360683780433840103:True:=trivial
theorem tw17720262999122920990:True:=trivial
theorem tw11910470608933092815:True:=trivial
theorem tw9579679590400004368:True:=trivial
theorem tw15524603817394139301:True:=trivial
theorem tw14205902749214961394:True:=trivial
theorem tw11892285021871171372:True:=trivial
theorem tw5764375763619619471:True:=trivial
theorem tw10956068434902204285:True:=trivial
theorem tw6693457956513912594:True:=trivial
theorem tw2786740230784361826:True:=trivial
theorem tw5440190439523083485:True:=trivial
theorem tw10848952651314908572:True:=trivial
theorem tw17801858076406397662:True:=trivial
theorem tw2001988822054475374:True:=trivial
theorem tw4891302188130584898:True:=trivial
theorem tw12626953859220386780:True:=trivial
theorem tw15517021288347405102:True:=trivial
theorem tw12424495489832626905:True:=trivial
theorem tw7691670412668853188:True:=trivial
theorem tw17371719362789195431:True:=trivial
theorem tw6099613974930400546:True:=trivial
theorem tw7019478778243842635:True:=trivial
theorem tw14661016989055870313:True:=trivial
theorem tw4762046171301299103:True:=trivial
theorem tw15938047735703259976:True:=trivial
theorem tw2839180267677798148:True:=trivial
theorem tw14307202412546427879:True:=trivial
theorem tw4875742057645394744:True:=trivial
theorem tw7176008470385779262:True:=trivial
theorem tw12893737390877581076:True:=trivial
theorem tw4759340919032322570:True:=trivial
theorem tw12024700424066838405:True:=trivial
theorem tw13250905073552875769:True:=trivial
theorem tw1951129195610195307:True:=trivial
theorem tw13806916162916657285:True:=trivial
theorem tw13789533573474142478:True:=trivial
theorem tw16926455644015647363:True:=trivial
theorem tw13716613419745752346:True:=trivial
theorem tw9753829614404153382:True:=trivial
theorem tw6231755531328121046:True:=trivial
theorem tw7802355141780331686:True:=trivial
theorem tw16372560355006073031:True:=trivial
theorem tw14657375513791587411:True:=trivial
theorem tw13871830585696437076:True:=trivial
theorem tw6762165943929018178:True:=trivial
theorem tw8489613728940061528:True:=trivial
theorem tw8248040323309440208:True:=trivial
theorem tw12802144252127030901:True:=trivial
theorem tw1161548144334674712:True:=trivial
theorem tw8216200863897804046:True:=trivial
theorem tw8843093459779160655:True:=trivial
theorem tw15058872163415241321:True:=trivial
theorem tw228250610387433480:True:=trivial
theorem tw15918917254084667826:True:=trivial
theorem tw7552653560910499801:True:=trivial
theorem tw16570549728668763198:True:=trivial
theorem tw7398426013458503176:True:=trivial
theorem tw3994990792054805629:True:=trivial
theorem tw17799853132856853165:True:=trivial
theorem tw11318189969173009599:True:=trivial
theorem tw2412042208367841038:True:=trivial
theorem tw10452345638553544258:True:=trivial
theorem tw5903981051519901434:True:=trivial
theorem tw14882922005301697823:True:=trivial
theorem tw2070919192620115682:True:=trivial
theorem tw14638754505138396818:True:=trivial
theorem tw4780801634669759772:True:=trivial
theorem tw1161712828162927077:True:=trivial
theorem tw14710793857539928093:True:=trivial
theorem tw1937217462268811891:True:=trivial
theorem tw14877729133214232785:True:=trivial
theorem tw953426364668292720:True:=trivial
theorem tw4218801467427158932:True:=trivial
theorem tw2249290350132467688:True:=trivial
theorem tw1357709622969412171:True:=trivial
theorem tw14242684207009936242:True:=trivial
theorem tw6425046517406886210:True:=trivial
theorem tw16195405580321511388:True:=trivial
theorem tw223801099952903452:True:=trivial
theorem tw6670627967572245682:True:=trivial
theorem tw5321497595366983249:True:=trivial
theorem tw18107504628253180805:True:=trivial
theorem tw15844968498790434155:True:=trivial
theorem tw9863140608498009340:True:=trivial
theorem tw6016522248636739301:True:=trivial
theorem tw11128960039457993025:True:=trivial
theorem tw14806668015442099322:True:=trivial
theorem tw16898635023340030933:True:=trivial
theorem tw12536285862602828615:True:=trivial
theorem tw14410978870115094208:True:=trivial
theorem tw6437610798351718189:True:=trivial
theorem tw11432382426060003555:True:=trivial
theorem tw10724208460912285303:True:=trivial
theorem tw14791457409448630199:True:=trivial
theorem tw14544236940746696819:True:=trivial
theorem tw14096383835370449465:True:=trivial
theorem tw18302063377028475650:True:=trivial
theorem tw6807840267606342369:True:=trivial
theorem tw18173647166234556185:True:=trivial
theorem tw3470112268957721819:True:=trivial
theorem tw6770589393476381903:True:=trivial
theorem tw3272588718172953462:True:=trivial
theorem tw8659468813693896401:True:=trivial
theorem tw9763998276495840204:True:=trivial
theorem tw3251956143548448444:True:=trivial
theorem tw15794683892136736390:True:=trivial
theorem tw12345816720926880804:True:=trivial
theorem tw1041942984379252700:True:=trivial
theorem tw1193968412538114204:True:=trivial
theorem tw7826222030714011947:True:=trivial
theorem tw13264572674971276853:True:=trivial
theorem tw6056751226244461825:True:=trivial
theorem tw5435809046625344266:True:=trivial
theorem tw1863042566309888877:True:=trivial
theorem tw3207157398924819901:True:=trivial
theorem tw12568420404167574329:True:=trivial
theorem tw10653890504446666308:True:=trivial
theorem tw12721091682512116073:True:=trivial
theorem tw12513009118064912657:True:=trivial
theorem tw10112049907660906770:True:=trivial
theorem tw10884522949795181499:True:=trivial
theorem tw14683705983619881855:True:=trivial
theorem tw14761185134807023183:True:=trivial
theorem tw726499338814957711:True:=trivial
theorem tw8201763882630048125:True:=trivial
theorem tw16395584090879093335:True:=trivial
theorem tw10519898415891024977:True:=trivial
theorem tw15187115386567512662:True:=trivial
theorem tw13123992649759638045:True:=trivial
theorem tw14453972476869417041:True:=trivial
theorem tw9997741650604652545:True:=trivial
theorem tw14907085793246529996:True:=trivial
theorem tw4364090611763610161:True:=trivial
theorem tw10653642040630045091:True:=trivial
theorem tw11699378561943931025:True:=trivial
theorem tw3108550720853084947:True:=trivial
theorem tw16889573530669324433:True:=trivial
theorem tw11676405312654448989:True:=trivial
theorem tw2724589447205036650:True:=trivial
theorem tw976954188665208855:True:=trivial
theorem tw13302957361676550135:True:=trivial
theorem tw6694308608553853990:True:=trivial
theorem tw17376453462893435338:True:=trivial
theorem tw9027033814120780570:True:=trivial
theorem tw4740668635006897699:True:=trivial
theorem tw3892181912585508896:True:=trivial
theorem tw16486045746224872845:True:=trivial
theorem tw13606720665329890348:True:=trivial
theorem tw4707935645674811282:True:=trivial
theorem tw3223384410615373233:True:=trivial
theorem tw3776823311738741530:True:=trivial
theorem tw6240232486206064858:True:=trivial
theorem tw12041965792798717735:True:=trivial
theorem tw15046331764382508016:True:=trivial
theorem tw6530664436756375483:True:=trivial
theorem tw4454354965776533344:True:=trivial
theorem tw13990653669102549494:True:=trivial
theorem tw7329505747895674601:True:=trivial
theorem tw14905869112121515738:True:=trivial
theorem tw7856944157869239597:True:=trivial
theorem tw6039599742787049160:True:=trivial
theorem tw9452127275617424458:True:=trivial
theorem tw11158072538430768755:True:=trivial
theorem tw12068489991778866117:True:=trivial
theorem tw15510031623496469675:True:=trivial
theorem tw5304723061976109958:True:=trivial
theorem tw13277485183086563046:True:=trivial
theorem tw3997458987520503798:True:=trivial
theorem tw8191855238849608751:True:=trivial
theorem tw17458997333533979595:True:=trivial
theorem tw8228728425961266540:True:=trivial
theorem tw17307241985764297463:True:=trivial
theorem tw16600614870250429884:True:=trivial
theorem tw2134402522485379378:True:=trivial
theorem tw18202880241919134588:True:=trivial
theorem tw18298583482158196497:True:=trivial
theorem tw12393437533903911351:True:=trivial
theorem tw8823768269960235468:True:=trivial
theorem tw2468887114130634613:True:=trivial
theorem tw1608954222948052353:True:=trivial
theorem tw2404871700663108120:True:=trivial
theorem tw17388848231910788492:True:=trivial
theorem tw18136144453110291538:True:=trivial
theorem tw9185084592351220505:True:=trivial
theorem tw2610774991524362147:True:=trivial
theorem tw17969263482916438379:True:=trivial
theorem tw516494548721752681:True:=trivial
theorem tw9655799572213231647:True:=trivial
theorem tw11726807182734434657:True:=trivial
theorem tw3551652515058794643:True:=trivial
theorem tw17895939539792133916:True:=trivial
theorem tw18342899787173768747:True:=trivial
theorem tw13707324093751096347:True:=trivial
theorem tw1807155157520297993:True:=trivial
theorem tw13293810966903248394:True:=trivial
theorem tw4597799134991204356:True:=trivial
theorem tw8289097814387545674:True:=trivial
theorem tw4881727060577994066:True:=trivial
theorem tw1231206214235470344:True:=trivial
theorem tw10039943979530763240:True:=trivial
theorem tw1172002445526869428:True:=trivial
theorem tw3283223761240329760:True:=trivial
theorem tw10260627848659232479:True:=trivial
theorem tw6495085810740271978:True:=trivial
theorem tw5203242721916882826:True:=trivial
theorem tw1763696621413917867:True:=trivial
theorem tw17945034390830034554:True:=trivial
theorem tw2619652415459484740:True:=trivial
theorem tw5917524684428215703:True:=trivial
theorem tw14485376041884683838:True:=trivial
theorem tw3754663898997722366:True:=trivial
theorem tw17441305222828879365:True:=trivial
theorem tw11866350480747189354:True:=trivial
theorem tw3214687151077928184:True:=trivial
theorem tw6986568645802467551:True:=trivial
theorem tw14204929849516287305:True:=trivial
theorem tw3399144298185287578:True:=trivial
theorem tw16959405221535246428:True:=trivial
theorem tw10824548825005660115:True:=trivial
theorem tw14237026434463192404:True:=trivial
theorem tw6645000805842685580:True:=trivial
theorem tw18380664764872658399:True:=trivial
theorem tw8940609035523059836:True:=trivial
theorem tw7447829599920366845:True:=trivial
theorem tw11708473958470603652:True:=trivial
theorem tw7429303114291727579:True:=trivial
theorem tw9050437001966099191:True:=trivial
theorem tw6469897438441457267:True:=trivial
theorem tw798691102930674074:True:=trivial
theorem tw18210040189464515933:True:=trivial
theorem tw13161460818976778217:True:=trivial
theorem tw6821084069946144481:True:=trivial
theorem tw6922655971509922748:True:=trivial
theorem tw14147103101240162391:True:=trivial
theorem tw5584069780818325686:True:=trivial
theorem tw14867260433121347923:True:=trivial
theorem tw2067192755006190310:True:=trivial
theorem tw327403494211914766:True:=trivial
theorem tw14665453444986709117:True:=trivial
theorem tw9288776071253915157:True:=trivial
theorem tw13515129882712401924:True:=trivial
theorem tw4256576041486289020:True:=trivial
theorem tw4176820323356952231:True:=trivial
theorem tw8998499452200311604:True:=trivial
theorem tw11553204784315542960:True:=trivial
theorem tw16682850695792109584:True:=trivial
theorem tw9205699892890645133:True:=trivial
theorem tw17458218252418703512:True:=trivial
theorem tw386489193217942182:True:=trivial
theorem tw2489318706243956335:True:=trivial
theorem tw16705744914976490272:True:=trivial
theorem tw5198748190173678426:True:=trivial
theorem tw2162926130428746647:True:=trivial
theorem tw4932046560742830001:True:=trivial
theorem tw11263438885544646575:True:=trivial
theorem tw15657123789476909243:True:=trivial
theorem tw13718792996612604955:True:=trivial
theorem tw9242125320434312131:True:=trivial
theorem tw4340822921188657778:True:=trivial
theorem tw6823288370947866595:True:=trivial
theorem tw11514664944254217965:True:=trivial
theorem tw9725427566365337583:True:=trivial
theorem tw17361728478246116624:True:=trivial
theorem tw10423537496232157627:True:=trivial
theorem tw18438129955688969456:True:=trivial
theorem tw11164098864702212913:True:=trivial
theorem tw16055265686560714298:True:=trivial
theorem tw4998706916415147069:True:=trivial
theorem tw16411733098267046192:True:=trivial
theorem tw18366036820354158777:True:=trivial
theorem tw1240342116771445437:True:=trivial
theorem tw17381456849537699028:True:=trivial
theorem tw228730008774358102:True:=trivial
theorem tw16380010782016966861:True:=trivial
theorem tw1122916829242471435:True:=trivial
theorem tw13520258929318814996:True:=trivial
theorem tw8783554158091968656:True:=trivial
theorem tw13310799076726372295:True:=trivial
theorem tw9282512410393185498:True:=trivial
theorem tw17693455477134710211:True:=trivial
theorem tw2116077953314425934:True:=trivial
theorem tw6062969832403000371:True:=trivial
theorem tw2936942113486765633:True:=trivial
theorem tw7787592918775318024:True:=trivial
theorem tw8974030119997780446:True:=trivial
theorem tw10434575999007607215:True:=trivial
theorem tw4985380824917191393:True:=trivial
theorem tw14691269497231135782:True:=trivial
theorem tw10273996051045385743:True:=trivial
theorem tw14828310833445988597:True:=trivial
theorem tw8154895730928303287:True:=trivial
theorem tw14822220534306938275:True:=trivial
theorem tw11499588519869771885:True:=trivial
theorem tw13809001869707220963:True:=trivial
theorem tw16179889014032909093:True:=trivial
theorem tw9611615962385098763:True:=trivial
theorem tw11057936690722216848:True:=trivial
theorem tw1817696139217614476:True:=trivial
theorem tw13277433991741873107:True:=trivial
theorem tw13474668278428361918:True:=trivial
theorem tw11746260139431526912:True:=trivial
theorem tw1559913145239701708:True:=trivial
theorem tw12694319716681640573:True:=trivial
theorem tw17414294802975870999:True:=trivial
theorem tw14942587456040546215:True:=trivial
theorem tw6004211977023157107:True:=trivial
theorem tw16729968408423843435:True:=trivial
theorem tw4893995390151234190:True:=trivial
theorem tw11195402394748106446:True:=trivial
theorem tw18024096706813627437:True:=trivial
theorem tw13617328801903957545:True:=trivial
theorem tw13106330777703102866:True:=trivial
theorem tw8986444821378861803:True:=trivial
theorem tw13771199420240683972:True:=trivial
theorem tw7370624354154154702:True:=trivial
theorem tw11731752428705616258:True:=trivial
theorem tw10324730195817086702:True:=trivial
theorem tw16517407373005256403:True:=trivial
theorem tw15489869140218193011:True:=trivial
theorem tw5699066060254455284:True:=trivial
theorem tw9142218264785837934:True:=trivial
theorem tw18106759482158542147:True:=trivial
theorem tw3480940013751801513:True:=trivial
theorem tw280708467859579731:True:=trivial
theorem tw2492034064688162120:True:=trivial
theorem tw2316479498042813628:True:=trivial
theorem tw6911887243170185314:True:=trivial
theorem tw9288649667710298575:True:=trivial
theorem tw13902901555205958118:True:=trivial
theorem tw4763838530082489520:True:=trivial
theorem tw5349158453182968649:True:=trivial
theorem tw711537676921429810:True:=trivial
theorem tw6815768928492963948:True:=trivial
theorem tw13129628210190136447:True:=trivial
theorem tw2463633718272946209:True:=trivial
theorem tw11848473110255724807:True:=trivial
theorem tw5083099658122568606:True:=trivial
theorem tw5444348402948531349:True:=trivial
theorem tw3916943257666779300:True:=trivial
theorem tw9321531030818484202:True:=trivial
theorem tw12604695862900406266:True:=trivial
theorem tw14091684568196183501:True:=trivial
theorem tw7686345768409012737:True:=trivial
theorem tw17083622230830975548:True:=trivial
theorem tw2174459218434308720:True:=trivial
theorem tw10657964906664696720:True:=trivial
theorem tw9425046198924603023:True:=trivial
theorem tw3797015837059683892:True:=trivial
theorem tw12926129496554564888:True:=trivial
theorem tw626288384038847855:True:=trivial
theorem tw14254669495561283149:True:=trivial
theorem tw3067043800150742920:True:=trivial
theorem tw10098020313765686681:True:=trivial
theorem tw17900091111549167761:True:=trivial
theorem tw1540457027992712436:True:=trivial
theorem tw4019320429666725188:True:=trivial
theorem tw18088740128194340009:True:=trivial
theorem tw10110275253996002583:True:=trivial
theorem tw10627715034017914138:True:=trivial
theorem tw10934852392105202739:True:=trivial
theorem tw10871126599710783268:True:=trivial
theorem tw4218106701073464354:True:=trivial
theorem tw9716468337660524261:True:=trivial
theorem tw14293767385765697692:True:=trivial
theorem tw10271303166610485152:True:=trivial
theorem tw5600069261902441126:True:=trivial
theorem tw8335915697604150572:True:=trivial
theorem tw6818579363972231401:True:=trivial
theorem tw15957004963751812971:True:=trivial
theorem tw15063652739065277715:True:=trivial
theorem tw6749268279751099461:True:=trivial
theorem tw17712620948176101890:True:=trivial
theorem tw5013922128362349288:True:=trivial
theorem tw14039714958755891778:True:=trivial
theorem tw8954958207388230201:True:=trivial
theorem tw6997236832204601859:True:=trivial
theorem tw4922998516500259685:True:=trivial
theorem tw12418283726785366243:True:=trivial
theorem tw15814100846228259220:True:=trivial
theorem tw5673334037370987637:True:=trivial
theorem tw17009043271187148039:True:=trivial
theorem tw6068958705944401353:True:=trivial
theorem tw15140576868022999153:True:=trivial
theorem tw11782784368956923641:True:=trivial
theorem tw1929265837806488104:True:=trivial
theorem tw16606900585363899744:True:=trivial
theorem tw14965885274774712655:True:=trivial
theorem tw13230260319777153597:True:=trivial
theorem tw8857503972832922055:True:=trivial
theorem tw5288069411186190790:True:=trivial
theorem tw16547861126257980253:True:=trivial
theorem tw1901789296245692545:True:=trivial
theorem tw13073579639920936679:True:=trivial
theorem tw5826230554363824513:True:=trivial
theorem tw7222208596188387167:True:=trivial
theorem tw6325754320095579036:True:=trivial
theorem tw17134512814868442518:True:=trivial
theorem tw13834431896874943531:True:=trivial
theorem tw15810324544153667083:True:=trivial
theorem tw11224127915881882476:True:=trivial
theorem tw100097072647244853:True:=trivial
theorem tw17380804496322552933:True:=trivial
theorem tw17732402136378729836:True:=trivial
theorem tw2527331395051955206:True:=trivial
theorem tw15365637633996927930:True:=trivial
theorem tw4390391513523613974:True:=trivial
theorem tw15184156376952198760:True:=trivial
theorem tw11546302706459807197:True:=trivial
theorem tw1720676788638040283:True:=trivial
theorem tw11801591560994492897:True:=trivial
theorem tw12302848002184534961:True:=trivial
theorem tw17770433621238068475:True:=trivial
theorem tw15163783913294256316:True:=trivial
theorem tw9499129552171405355:True:=trivial
theorem tw1595345893486700193:True:=trivial
theorem tw1094508521507041710:True:=trivial
theorem tw3498283864086295215:True:=trivial
theorem tw492886773374732760:True:=trivial
theorem tw10632614373755284992:True:=trivial
theorem tw9531518769738454003:True:=trivial
theorem tw12806526343580843866:True:=trivial
theorem tw9208668108381197746:True:=trivial
theorem tw15648187098255296142:True:=trivial
theorem tw18247325790281002973:True:=trivial
theorem tw11355679146663971391:True:=trivial
theorem tw9824042070049189396:True:=trivial
theorem tw2770805026598095201:True:=trivial
theorem tw14758878065285190964:True:=trivial
theorem tw3556013348765857333:True:=trivial
theorem tw15591216242734412149:True:=trivial
theorem tw7496349075348158582:True:=trivial
theorem tw4983174798184588098:True:=trivial
theorem tw15213142755550899388:True:=trivial
theorem tw16888961712944375179:True:=trivial
theorem tw9320871551885422383:True:=trivial
theorem tw5169635124295815874:True:=trivial
theorem tw2623518259496170403:True:=trivial
theorem tw3931523012606586635:True:=trivial
theorem tw14671345208284196561:True:=trivial
theorem tw10299326904332120194:True:=trivial
theorem tw15471097854729364797:True:=trivial
theorem tw503463349773985249:True:=trivial
theorem tw3912395621101957180:True:=trivial
theorem tw1722693061392357588:True:=trivial
theorem tw378625923837543704:True:=trivial
theorem tw611238748567277189:True:=trivial
theorem tw4982135265013604166:True:=trivial
theorem tw12693640443764693031:True:=trivial
theorem tw3857485403187329513:True:=trivial
theorem tw2390013256768100910:True:=trivial
theorem tw11976536388583278946:True:=trivial
theorem tw18265723574552449303:True:=trivial
theorem tw5199603195245916392:True:=trivial
theorem tw12060378328314320353:True:=trivial
theorem tw1764905770154443825:True:=trivial
theorem tw8268373776361036256:True:=trivial
theorem tw2781745595091889090:True:=trivial
theorem tw13498521957038027816:True:=trivial
theorem tw2842951232728035857:True:=trivial
theorem tw6321751270476076515:True:=trivial
theorem tw6728579316567432660:True:=trivial
theorem tw4849266150606483556:True:=trivial
theorem tw2776268147558367277:True:=trivial
theorem tw7445159390983629337:True:=trivial
theorem tw10575502975329452532:True:=trivial
theorem tw1809631192453694550:True:=trivial
theorem tw4632345905071630478:True:=trivial
theorem tw16880124631484858852:True:=trivial
theorem tw14457590942167268722:True:=trivial
theorem tw7900638878694090401:True:=trivial
theorem tw4025380426874939346:True:=trivial
theorem tw5663567817331584367:True:=trivial
theorem tw723800332386161348:True:=trivial
theorem tw11579197091426538142:True:=trivial
theorem tw10748867924334348901:True:=trivial
theorem tw4431234446385703949:True:=trivial
theorem tw896000521843386569:True:=trivial
theorem tw17287989374692728135:True:=trivial
theorem tw8171440606569202464:True:=trivial
theorem tw7796467788104975245:True:=trivial
theorem tw7809121301640353702:True:=trivial
theorem tw225698654596089335:True:=trivial
theorem tw18096012133320262388:True:=trivial
theorem tw16294463961530709955:True:=trivial
theorem tw13502890892276636541:True:=trivial
theorem tw9434570969757916545:True:=trivial
theorem tw7875657824226055544:True:=trivial
theorem tw3724485832638419730:True:=trivial
theorem tw17081488513067041850:True:=trivial
theorem tw16131105767362027260:True:=trivial
theorem tw16564996582754544738:True:=trivial
theorem tw16048321496205689900:True:=trivial
theorem tw13005858444310101832:True:=trivial
theorem tw14603247841332301047:True:=trivial
theorem tw12593173474179193313:True:=trivial
theorem tw572928922065817766:True:=trivial
theorem tw14332497750095075632:True:=trivial
theorem tw11732692372336946696:True:=trivial
theorem tw11903707923052071767:True:=trivial
theorem tw10620060595507592382:True:=trivial
theorem tw13611939413865058783:True:=trivial
theorem tw7265809356773264464:True:=trivial
theorem tw5876213832126712804:True:=trivial
theorem tw13888636486686044528:True:=trivial
theorem tw14970598068669966894:True:=trivial
theorem tw8467327201830835560:True:=trivial
theorem tw8350963501295114717:True:=trivial
theorem tw221312128713629698:True:=trivial
theorem tw15489498902890899867:True:=trivial
theorem tw7233614984350489838:True:=trivial
theorem tw13098274908784588369:True:=trivial
theorem tw16829566491221842091:True:=trivial
theorem tw3009708774434103451:True:=trivial
theorem tw7604011610833483300:True:=trivial
theorem tw3542174818472980903:True:=trivial
theorem tw18094223269920139981:True:=trivial
theorem tw14355797590157168921:True:=trivial
theorem tw11204316723504922152:True:=trivial
theorem tw3940424933201231741:True:=trivial
theorem tw2389365179567994985:True:=trivial
theorem tw12154839750528647549:True:=trivial
theorem tw4950757454856885790:True:=trivial
theorem tw7926384355567479661:True:=trivial
theorem tw8855500595514592111:True:=trivial
theorem tw11644377291340590064:True:=trivial
theorem tw202029312859427408:True:=trivial
theorem tw390228481228944889:True:=trivial
theorem tw15853870222024266376:True:=trivial
theorem tw11385372988074721015:True:=trivial
theorem tw8817307293061946601:True:=trivial
theorem tw8487184200278282852:True:=trivial
theorem tw10988311008812452512:True:=trivial
theorem tw18243069408390120219:True:=trivial
theorem tw2388427216586803885:True:=trivial
theorem tw8105098590126610570:True:=trivial
theorem tw10845839729791455617:True:=trivial
theorem tw2250676215664180678:True:=trivial
theorem tw6035887212408442674:True:=trivial
theorem tw2185144827515578421:True:=trivial
theorem tw6368162671820303066:True:=trivial
theorem tw9298589202109716103:True:=trivial
theorem tw15178344796756386081:True:=trivial
theorem tw2944738236370742847:True:=trivial
theorem tw18314545293415780898:True:=trivial
theorem tw9069080907747876834:True:=trivial
theorem tw14490267746944986313:True:=trivial
theorem tw17264253687819305443:True:=trivial
theorem tw10308811688262619161:True:=trivial
theorem tw16145289444455654596:True:=trivial
theorem tw14129452317372421087:True:=trivial
theorem tw13196819941968790402:True:=trivial
theorem tw14526695392703972336:True:=trivial
theorem tw1528899559530105411:True:=trivial
theorem tw4700021639505728476:True:=trivial
theorem tw3001388637010028981:True:=trivial
theorem tw8070673357411370934:True:=trivial
theorem tw15841960668717308749:True:=trivial
theorem tw15773418541578197697:True:=trivial
theorem tw15997769397922931598:True:=trivial
theorem tw15659536137060518315:True:=trivial
theorem tw3953936702441624478:True:=trivial
theorem tw97779364237052693:True:=trivial
theorem tw5193504975940274970:True:=trivial
theorem tw10883133300670447874:True:=trivial
theorem tw5602758593646210871:True:=trivial
theorem tw12020614177345167901:True:=trivial
theorem tw18377013672807981156:True:=trivial
theorem tw10764042036248907623:True:=trivial
theorem tw14818183568175208215:True:=trivial
theorem tw17404178749253253559:True:=trivial
theorem tw8476431090583413876:True:=trivial
theorem tw3445293665175942083:True:=trivial
theorem tw3722754309158081664:True:=trivial
theorem tw12028638416393234613:True:=trivial
theorem tw1531864896418804252:True:=trivial
theorem tw6348383018544666155:True:=trivial
theorem tw8173570904709979138:True:=trivial
theorem tw18399983084089484052:True:=trivial
theorem tw8799495380130124619:True:=trivial
theorem tw16568028974875453025:True:=trivial
theorem tw4761063438931822986:True:=trivial
theorem tw10264375478171465516:True:=trivial
theorem tw5078535334676892462:True:=trivial
theorem tw1345410840463819164:True:=trivial
theorem tw7596683571202834916:True:=trivial
theorem tw16221543014965009619:True:=trivial
theorem tw12123257671317106076:True:=trivial
theorem tw1060118762132594508:True:=trivial
theorem tw7876138911697711098:True:=trivial
theorem tw17604556235814438350:True:=trivial
theorem tw1866461400286096101:True:=trivial
theorem tw281398130810670852:True:=trivial
theorem tw14382456912136315886:True:=trivial
theorem tw13041763711974557340:True:=trivial
theorem tw455373608978242661:True:=trivial
theorem tw4403078977404134191:True:=trivial
theorem tw4413613065031000970:True:=trivial
theorem tw16588839884290498629:True:=trivial
theorem tw17121328672518728852:True:=trivial
theorem tw1609650644927182878:True:=trivial
theorem tw17699927620817889745:True:=trivial
theorem tw12327356579198933896:True:=trivial
theorem tw8890319340858730485:True:=trivial
theorem tw7368226465701730315:True:=trivial
theorem tw15614056465589361090:True:=trivial
theorem tw12569280428730325476:True:=trivial
theorem tw17097751322979684903:True:=trivial
theorem tw5073316313593745478:True:=trivial
theorem tw931817922377526065:True:=trivial
theorem tw17568605209062301:True:=trivial
theorem tw1803569797033644223:True:=trivial
theorem tw17989003211741134267:True:=trivial
theorem tw9678167243004519959:True:=trivial
theorem tw373210770310771464:True:=trivial
theorem tw13664190399400283080:True:=trivial
theorem tw6328371156617626308:True:=trivial
theorem tw11218418032091224259:True:=trivial
theorem tw7660072619122635719:True:=trivial
theorem tw6509504848648463694:True:=trivial
theorem tw16491007364314884039:True:=trivial
theorem tw18439721322548857061:True:=trivial
theorem tw12741990077941062710:True:=trivial
theorem tw4830949652799042581:True:=trivial
theorem tw16028657880565303922:True:=trivial
theorem tw13774314391242687640:True:=trivial
theorem tw9145579491938346201:True:=trivial
theorem tw8761266220517312042:True:=trivial
theorem tw12533132730246074415:True:=trivial
theorem tw11274526632035895793:True:=trivial
theorem tw11636179918468579425:True:=trivial
theorem tw1749769281658087379:True:=trivial
theorem tw8205225698558144149:True:=trivial
theorem tw16672849289406623808:True:=trivial
theorem tw15718268247349920739:True:=trivial
theorem tw17324802598243238117:True:=trivial
theorem tw14244192179665508360:True:=trivial
theorem tw11653682833130905264:True:=trivial
theorem tw9091488768087614937:True:=trivial
theorem tw17033885122988270843:True:=trivial
theorem tw1086839362723522770:True:=trivial
theorem tw15548627795105974641:True:=trivial
theorem tw8436608374096364922:True:=trivial
theorem tw10067412721126414441:True:=trivial
theorem tw4856596019167661261:True:=trivial
theorem tw13385514494188978228:True:=trivial
theorem tw10289081768396112284:True:=trivial
theorem tw3362089838222502428:True:=trivial
theorem tw15889846932810980594:True:=trivial
theorem tw13541463452589352476:True:=trivial
theorem tw17211033665882790806:True:=trivial
theorem tw15843196479765531552:True:=trivial
theorem tw338895614392953518:True:=trivial
theorem tw3480207567329294406:True:=trivial
theorem tw18403659525097577576:True:=trivial
end PySem.W.Fast
set_option maxRecDepth 100000 in
set_option maxHeartbeats 0 in
theorem PySem.Challenge.cw_crookroad_k13_doors_holds : PySem.Challenge.rw_crookroad_k13_doors.Holds := by
 w_on;o_law;k_head;(case hw=>w_witness2)
 k_fill
 refine My.walk (l:=PySem.Challenge.rw_crookroad_k13_doors) rfl rfl (fun w h Y=>PySem.W.kIn_of Y) ?F
 case F =>
  intro w mg fa h KX G hmg
  refine' My.all_mk KX G hmg ?d__law_cell ?d__law_pick ?d_check_bottom ?d_common_divisor ?d_lowest ?d_check_count ?d_is_line ?d_trace ?d_spot ?d_led_to ?d_set_down ?d_is_name ?d_check_new_name ?d_exchange ?d_walked ?d_tail_ring ?d_far ?d_stands ?d_meeting ?d_least ?d__law_climb ?d__law_heights ?d__law_spot ?d__law_walks ?d__law_set_down ?d__law_told ?d_law ?a_RoadError ?x_RoadError ?a_BadLine ?x_BadLine ?a_BadBottom ?x_BadBottom ?a_OffRoad ?x_OffRoad ?a_BadCount ?x_BadCount ?a_TooLong ?x_TooLong ?a_BadRow ?x_BadRow ?a_BadName ?x_BadName ?a_Taken ?x_Taken ?a_NoRoad ?x_NoRoad ?a_NoWalker ?x_NoWalker ?a_Road ?pg_Road ?hd_Road ?po_Road ?sa_Road ?mk_Road ?kc_Road ?m_Road___init__ ?m_Road_width ?m_Road_ends ?m_Road_on_road ?m_Road_at ?a_Walker ?pg_Walker ?hd_Walker ?po_Walker ?sa_Walker ?mk_Walker ?kc_Walker ?m_Walker___init__ ?a_House ?pg_House ?hd_House ?po_House ?sa_House ?mk_House ?kc_House ?m_House___init__ ?m_House_road_called ?m_House_do ?m_House_lay ?m_House_place ?na_Road_heights ?na_Walker_whose ?na_Walker_point ?na_Walker_times ?na_House_roads ?na_House_walkers ?na_House_done ?g_WIDEST ?g_MOST_WALKED ?g_LONGEST_TRACE ?g_FARTHEST ?g_LONGEST_NAME ?g_GREATEST_BOTTOM ?g_LETTERS ?ms ?z_len ?z_abs ?z_range ?z_list ?z_min ?z_max ?z_all ?z_sorted ?z_enumerate ?z_dict
  (case d__law_cell=>walk_at "def")
  (case d__law_pick=>walk_at "def")
  (case d_check_bottom=>walk_at "def")
  (case d_common_divisor=>walk_at "def")
  (case d_lowest=>walk_at "def")
  (case d_check_count=>walk_at "defD")
  (case d_is_line=>walk_at "def")
  (case d_trace=>walk_at "def")
  (case d_spot=>walk_at "def")
  (case d_led_to=>walk_at "def")
  (case d_set_down=>walk_at "def")
  (case d_is_name=>walk_at "def")
  (case d_check_new_name=>walk_at "def")
  (case d_exchange=>walk_at "def")
  (case d_walked=>walk_at "def")
  (case d_tail_ring=>walk_at "def")
  (case d_far=>walk_at "def")
  (case d_stands=>walk_at "def")
  (case d_meeting=>walk_at "def")
  (case d_least=>walk_at "def")
  (case d__law_climb=>walk_at "def")
  (case d__law_heights=>walk_at "def")
  (case d__law_spot=>walk_at "def")
  (case d__law_walks=>walk_at "def")
  (case d__law_set_down=>walk_at "def")
  (case d__law_told=>walk_at "def")
  (case d_law=>walk_at "def")
  (case a_RoadError=>k_is)
  (case x_RoadError=>k_exc)
  (case a_BadLine=>k_is)
  (case x_BadLine=>k_exc)
  (case a_BadBottom=>k_is)
  (case x_BadBottom=>k_exc)
  (case a_OffRoad=>k_is)
  (case x_OffRoad=>k_exc)
  (case a_BadCount=>k_is)
  (case x_BadCount=>k_exc)
  (case a_TooLong=>k_is)
  (case x_TooLong=>k_exc)
  (case a_BadRow=>k_is)
  (case x_BadRow=>k_exc)
  (case a_BadName=>k_is)
  (case x_BadName=>k_exc)
  (case a_Taken=>k_is)
  (case x_Taken=>k_exc)
  (case a_NoRoad=>k_is)
  (case x_NoRoad=>k_exc)
  (case a_NoWalker=>k_is)
  (case x_NoWalker=>k_exc)
  (case a_Road=>k_is)
  (case pg_Road=>k_is)
  (case hd_Road=>k_is)
  (case po_Road=>k_is)
  (case sa_Road=>k_is)
  (case mk_Road=>k_is)
  (case kc_Road=>k_is)
  (case m_Road___init__=>walk_at "meth")
  (case m_Road_width=>walk_at "meth")
  (case m_Road_ends=>walk_at "meth")
  (case m_Road_on_road=>walk_at "meth")
  (case m_Road_at=>walk_at "meth")
  (case a_Walker=>k_is)
  (case pg_Walker=>k_is)
  (case hd_Walker=>k_is)
  (case po_Walker=>k_is)
  (case sa_Walker=>k_is)
  (case mk_Walker=>k_is)
  (case kc_Walker=>k_is)
  (case m_Walker___init__=>walk_at "meth")
  (case a_House=>k_is)
  (case pg_House=>k_is)
  (case hd_House=>k_is)
  (case po_House=>k_is)
  (case sa_House=>k_is)
  (case mk_House=>k_is)
  (case kc_House=>k_is)
  (case m_House___init__=>walk_at "meth")
  (case m_House_road_called=>walk_at "meth")
  (case m_House_do=>walk_at "meth")
  (case m_House_lay=>walk_at "meth")
  (case m_House_place=>walk_at "meth")
  (case na_Road_heights=>k_is)
  (case na_Walker_whose=>k_is)
  (case na_Walker_point=>k_is)
  (case na_Walker_times=>k_is)
  (case na_House_roads=>k_is)
  (case na_House_walkers=>k_is)
  (case na_House_done=>k_is)
  (case g_WIDEST=>k_is)
  (case g_MOST_WALKED=>k_is)
  (case g_LONGEST_TRACE=>k_is)
  (case g_FARTHEST=>k_is)
  (case g_LONGEST_NAME=>k_is)
  (case g_GREATEST_BOTTOM=>k_is)
  (case g_LETTERS=>k_is)
  (case ms=>k_is)
  (case z_len=>k_is)
  (case z_abs=>k_is)
  (case z_range=>k_is)
  (case z_list=>k_is)
  (case z_min=>k_is)
  (case z_max=>k_is)
  (case z_all=>k_is)
  (case z_sorted=>k_is)
  (case z_enumerate=>k_is)
  (case z_dict=>k_is)
