import PyProof.Rows.All
import Wide.All
import OpenK.AllK
import Wide.FinOn
import Lean
import PyProof.EqAt
import PyProof.EqKinds
import PyProof.TupleCall
import PyProof.NeData
import KE.IntBitsLaws
import PyProof.DictIter
import PyProof.DictItems
import PyProof.DictWalks
import PyProof.StrLoop
import KE.KPairComp
import PyProof.StrWalks
import KE.KDictOf
import PyProof.Rows.TupDisplay
import PyProof.DictCompW
import PyProof.Rows.CatchTuple
import PySem.Challenge.RW_crookroad_k62_two_refusals_due
set_option Elab.async false
set_option linter.all false
set_option maxRecDepth 100000
local macro_rules|`(tactic|lia)=>`(tactic|first|lia +splitIte|omega)
def aa:=@PySem.Heap.get?_push_of_some
def ac:=@PySem.Heap.lt_size
def ae:=@Nat.le_refl
def af:=@List.drop_eq_getElem_cons
def ag:=@Nat.lt_of_lt_of_le
def ah:=@PySem.wpAny_bind
def ai:=@PySem.Heap.get?_push_size
def aj:=@List.length_map
def ak:=@Nat.ne_of_lt
def al:=@Bool.false_ne_true
def am:=@PySem.W.mg_of
def ao:=@Option.some.inj
def ap:=@List.mem_append_right
def aq:=@List.mem_cons
def ar:=@List.lookup_cons
def au:=@List.not_mem_nil
def av:=@List.size_toArray
def aw:=@beq_eq_false_iff_ne
def ax:=@if_neg
def ay:=@PySem.wpAny_mono
def az:=@PySem.wpAny_pure
def aA:=@Nat.zero_le
def aB:=@List.mem_singleton
def aC:=@PySem.W.mg_none_of
def aD:=@Nat.lt_irrefl
def aE:=@List.getElem?_eq_getElem
def aF:=@if_pos
def aG:=@PySem.wpAny_loadPart_at
def aH:=@List.mem_cons_of_mem
def aI:=@PySem.F.excBase_ValueError
def aJ:=@List.map_cons
def aK:=@decide_eq_false
def aL:=@Ne.symm
def aM:=@List.getD_eq_getElem?_getD
def aN:=@List.length_cons
def aO:=@Int.emod_lt_of_pos
def aP:=@Nat.le_trans
def aQ:=@Nat.lt_trans
def aR:=@List.mem_append
def aS:=@List.find?_cons
def aT:=@PySem.wpAny_isSubtype_exc
def aU:=@PySem.Paired.length
def aV:=@Bool.and_eq_true
def aW:=@decide_eq_true
def aX:=@PySem.boot_len
def aY:=@List.getElem?_eq_some_iff
def aZ:=@PySem.wpAny_passesOwn
def ba:=@Int.emod_nonneg
def bb:=@List.length_range
def bc:=@PySem.mem_of_lookup
def bd:=@Int.mul_le_mul_of_nonneg_left
def be:=@Nat.le_of_lt
def bf:=@List.length_append
def bg:=@PySem.wpAny_Call_Name_kw
def bh:=@PySem.tupleKind_room_in1
def bi:=@List.nodup_cons
def bj:=@PySem.wpAny_truthy_bool
def bn:=@List.getElem?_map
def bo:=@PySem.PassesOwn.leaving
def bp:=@List.mem_append_left
def bq:=@List.getElem?_append_right
def br:=@List.mem_map
def bt:=@List.filterMap_cons
def bu:=@Array.length_toList
def bv:=@PySem.W.looks_mroIn
def bw:=@PySem.wpAny_execs_nil
def bx:=@Bool.eq_iff_iff
def bz:=@List.append_nil
def bA:=@PySem.Calls.spliced_cons
def bB:=@List.contains_cons
def bC:=@PySem.Calls.callWith_builtin
def bD:=@List.nodup_nil
def bE:=@PySem.F.slot_dict_get
def bF:=@List.length_take
def bG:=@Int.mul_le_mul_of_nonneg_right
def bH:=@congrArg
def bI:=@PySem.Calls.evalArgs_plain
def bJ:=@Nat.pow_le_pow_right
def bK:=@PySem.W.plainGet_of
def bL:=@PyProof.Rows.callWith_type1
def bM:=@Int.lt_or_le
def bN:=@Array.getD_eq_getD_getElem?
def bO:=@List.mem_range
def bP:=@List.mem_cons_self
def bR:=@PyProof.Rows.assignInOrder_cons
def bS:=@List.mem_filterMap
def bT:=@PySem.Heap.size_push
def bU:=@PySem.W.callWith_K
def bV:=@Int.mul_lt_mul_of_pos_left
def bW:=@or_false
def bX:=@List.getElem?_append_left
def bY:=@PySem.F.slot_dict_delitem
def bZ:=@Array.getElem?_eq_getElem
def ca:=@PySem.wpAny_newObj_type
def cb:=@PySem.Calls.spliced_nil
def ce:=@Option.isSome_map
def cf:=@PySem.wpAny_standAt
def ci:=@PySem.wpAny_execs_cons
def cj:=@Int.natCast_dvd_natCast
def ck:=@List.all_eq_true
def cm:=@PySem.F.args_dict_get_2
def cn:=@PySem.F.plainAttrs_dict
def cr:=@PySem.F.slot_dict_items
def cu:=@beq_iff_eq
def cv:=@List.map_nil
def cw:=@PySem.codeAny_mono
def cx:=@Bool.or_true
def cy:=@PySem.call_meetsIn
def cz:=@List.of_mem_zip
def cA:=@List.map_append
def cB:=@List.nil_append
def cC:=@List.any_cons
section
open PySem PySem.Spec PyProof.Rows
abbrev Aa:=PySem.W.Frag
abbrev Ab:=PySem.Shared
abbrev Ac:=PySem.Program
abbrev Ad:=PySem.FuncData
abbrev Ae:=Around
abbrev Af:=SortSt
abbrev Ag:=Value
abbrev Ah:=World
abbrev Ai:=Keyed
abbrev Aj:=Addr
end
namespace L2
theorem exI {α:Sort _}{A K:α→Prop}{v:α}(e:A v)(h:K v):∃x,A x∧K x:=⟨v,e,h⟩
theorem w4 {α β:Sort _}{A:α→Prop}{B:β→Prop}{K:α→β→Prop}{u:α}{v:β}(a:A u)(b:B v)(h:K u v):∃x y,A x∧B y∧K x y:=⟨u,v,a,b,h⟩
theorem exX {α β γ δ:Sort _}{A:α→Prop}{B:γ→Prop}{C:α→β→Prop}{D:β→γ→δ→Prop}{K:δ→Prop}{p:α}{xs:β}{i:γ}{v:δ}(a:A p)(b:B i)(c:C p xs)(d:D xs i v)(h:K v):∃p xs i v,A p∧B i∧C p xs∧D xs i v∧K v:=⟨p,xs,i,v,a,b,c,d,h⟩
end L2
namespace L2
open PySem PySem.Spec PyProof.Rows
abbrev Key:=Sum Int Str
def Qf:Key→Ag→Bool
 |.inl k,v=>Value.isInt k v
 |.inr x,v=>Value.isStrOf x v
def keyH (w:Ah):Key→Int
 |.inl k=>hashInt k
 |.inr x=>hashStr w x
theorem xb:∀ {k:Key} {v:Ag},Qf k v=true→(∃i t,k=Sum.inl i∧v=Value.int i t)∨(∃x t,k=Sum.inr x∧v=Value.str x t)
 |.inl i,v,h=>by
  obtain ⟨t,e⟩:=Value.isInt_shape (k:=i) (v:=v) h
  exact .inl ⟨i,t,rfl,e⟩
 |.inr x,v,h=>by
  obtain ⟨t,e⟩:=Value.isStrOf_shape (x:=x) (v:=v) h
  exact .inr ⟨x,t,rfl,e⟩
theorem qw2 (i:Int)(t:Tok):Qf (.inl i) (.int i t)=true:=by simp [Qf,Value.isInt]
theorem qw9 (x:Str)(t:Tok):Qf (.inr x) (.str x t)=true:=by simp [Qf,Value.isStrOf]
theorem key_ll (a b:Int):decide ((Sum.inl a:Key)=Sum.inl b)=(a==b):=by
 by_cases e:a=b
 ·subst e;simp
 ·have h:¬ (Sum.inl a:Key)=Sum.inl b:=λq=>e (Sum.inl.inj q)
  rw [aK h]
  exact (aw.mpr e).symm
theorem key_rr (a b:Str):decide ((Sum.inr a:Key)=Sum.inr b)=decide (a=b):=by
 by_cases e:a=b
 ·subst e;simp
 ·have h:¬ (Sum.inr a:Key)=Sum.inr b:=λq=>e (Sum.inr.inj q)
  rw [aK h,aK e]
theorem key_lr (a:Int)(b:Str):decide ((Sum.inl a:Key)=Sum.inr b)=false:=aK (λq=>nomatch q)
theorem key_rl (a:Str)(b:Int):decide ((Sum.inr a:Key)=Sum.inl b)=false:=aK (λq=>nomatch q)
def xz (prog:Ac)(w:Ah):PySem.KeyKind prog w Key where
 is:=Qf
 hash:=keyH w
 inj:=λv a b ha hb=>by
  rcases xb ha with ⟨i,t,rfl,rfl⟩|⟨x,t,rfl,rfl⟩
  ·rcases xb hb with ⟨j,u,rfl,e⟩|⟨y,u,rfl,e⟩
   ·injection e with e1 _;rw [e1]
   ·exact nomatch e
  ·rcases xb hb with ⟨j,u,rfl,e⟩|⟨y,u,rfl,e⟩
   ·exact nomatch e
   ·injection e with e1 _;rw [e1]
 byValue:=λk v h=>by
  rcases xb h with ⟨i,t,rfl,rfl⟩|⟨x,t,rfl,rfl⟩ <;> rfl
 pyHash:=λhv h=>by
  rcases xb hv with ⟨i,t,rfl,rfl⟩|⟨x,t,rfl,rfl⟩
  ·exact wpAny_pyHash_int h
  ·exact wpAny_pyHash_str h
 eqBool:=λhu hv h=>by
  rcases xb hu with ⟨i,t,rfl,rfl⟩|⟨x,t,rfl,rfl⟩
  ·rcases xb hv with ⟨j,u,rfl,rfl⟩|⟨y,u,rfl,rfl⟩
   ·rw [key_ll] at h;exact wpAny_eqBool_int h
   ·rw [key_lr] at h;exact SeqAt.EqAt.int_str i t y u _ _ _ _ h
  ·rcases xb hv with ⟨j,u,rfl,rfl⟩|⟨y,u,rfl,rfl⟩
   ·rw [key_rl] at h;exact SeqAt.EqAt.str_int x t j u _ _ _ _ h
   ·rw [key_rr] at h;exact wpAny_eqBool_str h
 «strs»:=λk x t v h=>by
  rcases xb h with ⟨i,u,rfl,e⟩|⟨y,u,rfl,e⟩
  ·exact nomatch e
  ·injection e with e1 _
   subst e1
   cases v <;> rfl
theorem Yu (prog:Ac)(w:Ah)(i:Int)(t:Tok):(xz prog w).is (.inl i) (.int i t)=true:=qw2 i t
theorem Yx (prog:Ac)(w:Ah)(x:Str)(t:Tok):(xz prog w).is (.inr x) (.str x t)=true:=qw9 x t
inductive V where
 |non|bl (b:Bool)|int (i:Int)|str (x:Str)|byt (b:Array UInt8)|flt (b:UInt64)|ref (a:Aj)|ty (n:String)
 deriving DecidableEq
def xx:V→Ag→Prop
 |.non,u=>u=Value.none
 |.bl b,u=>u=Value.bool b
 |.int i,u=>∃t,u=Value.int i t
 |.str x,u=>∃t,u=Value.str x t
 |.byt b,u=>∃t,u=Value.bytes b t
 |.flt b,u=>∃t,u=Value.float b t
 |.ref a,u=>u=Value.ref a
 |.ty n,u=>u=Value.type n
abbrev Vals:List V→List Ag→Prop:=Paired xx
theorem Vals.length {xs:List V}{us:List Ag}(r:Vals xs us):xs.length=us.length:=aU r
theorem Vals.get:∀ {xs:List V} {us:List Ag} {i:Nat} {x:V},Vals xs us→xs[i]?=some x→∃u,us[i]?=some u∧xx x u
 |_,_,_,_,.nil,e=>by simp at e
 |_,_,0,_,.cons r _,e=>by simp at e;subst e;exact ⟨_,rfl,r⟩
 |_,_,i+1,x,.cons _ t,e=>by
  obtain ⟨u,h1,h2⟩:=Vals.get (i:=i) (x:=x) t (by simpa using e)
  exact ⟨u,by simpa using h1,h2⟩
theorem Vals.append:∀ {xs ys:List V} {us ws:List Ag},Vals xs us→Vals ys ws→Vals (xs++ys) (us++ws)
 |_,_,_,_,.nil,s=>s
 |_,_,_,_,.cons r t,s=>.cons r (Vals.append t s)
def RelO:Option V→Option Ag→Prop
 |some v,some u=>xx v u
 |none,none=>True
 |_,_=>False
def KV {κ:Type}:List (κ×V)→List (κ×Ag)→Prop:=Paired λ(p:κ×V) (q:κ×Ag)=>p.1=q.1∧xx p.2 q.2
def kV:Key→V
 |.inl i=>.int i
 |.inr x=>.str x
inductive HO where
 |lst (xs:List V)
 |tup (xs:List V)
 |dK (kvs:List (Key×V))|dT (kvs:List (List Key×V))
 |set (S:Int→Bool) (n:Nat)
 |ins (C dx:Aj) (fs:List (Str×V))
 |own (x:Aj)
 |xd (fs:List (Str×V))
 |met (f x:Aj)
 |rng (lo hi:Int)
 |frz (o:Obj) (u:HO)
 |tbl (ps:Array Ag)
 |ext (φ:Heap→Prop)
abbrev Hp:=Aj→Option HO
def upd (H:Hp)(a:Aj)(o:HO):Hp:=λb=>if b=a then some o else H b
theorem q9 {H:Hp}{a:Aj}{o:HO}:upd H a o a=some o:=by unfold upd;rw [aF rfl]
theorem wz {H:Hp}{a b:Aj}{o:HO}(h:b≠a):upd H a o b=H b:=by unfold upd;rw [ax h]
theorem uq {H:Hp}{a:Aj}{o u:HO}:upd (upd H a o) a u=upd H a u:=by
 funext b;unfold upd;split <;> rfl
theorem ne_of {H:Hp}{a b:Aj}{o u:HO}(h:H a=some o)(h':H b=some u)(d:o≠u):a≠b:=by
 intro e;subst e;rw [h] at h';exact d (ao h')
theorem qt {H:Hp}{a b:Aj}{o:HO}(h:H a=some o)(h':H b=none):a≠b:=by
 intro e;subst e;rw [h] at h';cases h'
section
variable (P:Ac)(w:Ah)
def ObjOk (H:Hp)(h:Heap)(a:Aj):HO→Prop
 |.lst xs=>xs.length≤sizeLine∧∃(its:List Ag) (n:Nat),Vals xs its∧h.get? a=some { cls:=.type "list",data:=.seq its.toArray n }
 |.tup xs=>xs.length≤sizeLine∧∃its:List Ag,Vals xs its∧IsTup h a its.toArray
 |.dK kvs=>kvs.length≤sizeLine∧(a==sysModules)=false∧∃vs,KV kvs vs∧h.DictOf (xz P w) a vs
 |.dT kvs=>kvs.length≤sizeLine∧(a==sysModules)=false∧∃xs:List (List Key×Aj×Ag),
   Paired (λ(p:List Key×V) (q:List Key×Aj×Ag)=>p.1=q.1∧H q.2.1=some (.tup (p.1.map kV))∧xx p.2 q.2.2) kvs xs ∧
   ∃o es ep,h.get? a=some o∧o.ExactDict∧o.data=.dict es ep∧es.toList=xs.map (entryOfKey (tupleKind (xz P w)))∧(xs.map (·.1)).Nodup
 |.set S n=>h.SetOf (intKind P w) a S n
 |.ins C dx fs=>H dx=some (.own a)∧fs.length≤1000∧dx≠a∧h.get? a=some (PySem.W.instObj C dx) ∧
   ∃mA,h.Ns1 dx mA∧(∀f,RelO (fs.lookup f) (mA f))∧PySem.Within mA (fs.map (·.1))
 |.own _=>∃o,h.get? a=some o
 |.xd fs=>∃mA,h.Ns1 a mA∧∀f,RelO (fs.lookup f) (mA f)
 |.rng lo hi=>∃t u v,h.get? a=some { cls:=.type "range",data:=.fields #[.int lo t,.int hi u,.int 1 v] }
 |.frz o u=>h.get? a=some o∧ObjOk H h a u
 |.tbl ps=>h.get? a=some { cls:=.none,data:=.fields ps }
 |.met f x=>h.get? a=some (PySem.W.methodObj (.ref f) (.ref x))
 |.ext φ=>φ h∧(∃o,h.get? a=some o)∧∀h1 h2:Heap,φ h1→(∀o,h1.get? a=some o→h2.get? a=some o)→φ h2
def HOk (H:Hp)(h:Heap):Prop:=∀a o,H a=some o→ObjOk P w H h a o
end
section
variable {P:Ac}{w:Ah}{H H':Hp}{h h':Heap}{a:Aj}{o:HO}
theorem ObjOk.lt (x:ObjOk P w H h a o):a<h.objs.size:=by
 cases o with
 |lst xs=>obtain ⟨_,_,_,_,e⟩:=x;exact ac e
 |tup xs=>obtain ⟨_,_,_,p⟩:=x;exact p.lt
 |dK kvs=>obtain ⟨_,_,_,_,o,_,_,e,_⟩:=x;exact ac e
 |dT kvs=>obtain ⟨_,_,_,_,o,_,_,e,_⟩:=x;exact ac e
 |set S n=>obtain ⟨o,_,_,_,e,_⟩:=x;exact ac e
 |ins C dx fs=>obtain ⟨_,_,_,e,_⟩:=x;exact ac e
 |own y=>obtain ⟨_,e⟩:=x;exact ac e
 |xd fs=>obtain ⟨_,⟨_,_,_,e,_⟩,_⟩:=x;exact ac e
 |rng lo hi=>obtain ⟨_,_,_,e⟩:=x;exact ac e
 |frz ob u=>obtain ⟨e,_⟩:=x;exact ac e
 |tbl ps=>exact ac (show h.get? a=some _ from x)
 |met f y=>exact ac (show h.get? a=some _ from x)
 |ext φ=>obtain ⟨_,⟨_,e⟩,_⟩:=x;exact ac e
theorem Paired.mapP {α β:Type}{F G:α→β→Prop}:∀ {l₁:List α} {l₂:List β},Paired F l₁ l₂→(∀a b,F a b→G a b)→Paired G l₁ l₂
 |_,_,.nil,_=>.nil
 |_,_,.cons r t,f=>.cons (f _ _ r) (Paired.mapP t f)
theorem ObjOk.stay (x:ObjOk P w H h a o)(k:∀b u,(b=a∨H b=some (.own a))→h.get? b=some u→h'.get? b=some u)
  (ho:∀b,H b=some (.own a)→H' b=some (.own a)) (ht:∀b xs,H b=some (.tup xs)→H' b=some (.tup xs)):ObjOk P w H' h' a o:=by
 induction o with
 |lst xs=>obtain ⟨z,its,n,r,e⟩:=x;exact ⟨z,its,n,r,k _ _ (.inl rfl) e⟩
 |tup xs=>obtain ⟨z,its,r,ob,e,c⟩:=x;exact ⟨z,its,r,ob,k _ _ (.inl rfl) e,c⟩
 |dK kvs=>obtain ⟨z,y,vs,r,ob,es,ep,e,c⟩:=x;exact ⟨z,y,vs,r,ob,es,ep,k _ _ (.inl rfl) e,c⟩
 |dT kvs =>
  obtain ⟨z,y,xs,r,ob,es,ep,e,c⟩:=x
  exact ⟨z,y,xs,Paired.mapP r λp q z=>⟨z.1,ht _ _ z.2.1,z.2.2⟩,ob,es,ep,k _ _ (.inl rfl) e,c⟩
 |set S n=>obtain ⟨ob,es,ep,t,e,c⟩:=x;exact ⟨ob,es,ep,t,k _ _ (.inl rfl) e,c⟩
 |ins C dx fs =>
  obtain ⟨d,z,ne,e,mA,⟨od,es,ep,e2,c⟩,r⟩:=x
  exact ⟨ho _ d,z,ne,k _ _ (.inl rfl) e,mA,⟨od,es,ep,k _ _ (.inr d) e2,c⟩,r⟩
 |own y=>obtain ⟨ob,e⟩:=x;exact ⟨ob,k _ _ (.inl rfl) e⟩
 |xd fs=>obtain ⟨mA,⟨od,es,ep,e,c⟩,r⟩:=x;exact ⟨mA,⟨od,es,ep,k _ _ (.inl rfl) e,c⟩,r⟩
 |rng lo hi=>obtain ⟨t,u,v,e⟩:=x;exact ⟨t,u,v,k _ _ (.inl rfl) e⟩
 |frz ob u ih=>obtain ⟨e,q⟩:=x;exact ⟨k _ _ (.inl rfl) e,ih q⟩
 |tbl ps =>
  have e:h.get? a=some { cls:=.none,data:=.fields ps }:=x
  show h'.get? a=some { cls:=.none,data:=.fields ps }
  exact k a _ (.inl rfl) e
 |met f y =>
  have e:h.get? a=some (PySem.W.methodObj (.ref f) (.ref y)):=x
  show h'.get? a=some (PySem.W.methodObj (.ref f) (.ref y))
  exact k a _ (.inl rfl) e
 |ext φ=>obtain ⟨p,⟨o,e⟩,st⟩:=x;exact ⟨st _ _ p λo q=>k _ _ (.inl rfl) q,⟨o,k _ _ (.inl rfl) e⟩,st⟩
theorem HOk.lt (x:HOk P w H h)(e:H a=some o):a<h.objs.size:=(x a o e).lt
theorem HOk.fresh (x:HOk P w H h)(e:h.objs.size≤a):H a=none:=by
 cases q:H a with
 |none=>rfl
 |some u=>exact absurd (ag (x.lt q) e) (aD _)
theorem HOk.kept (x:HOk P w H h)(k:∀b u,h.get? b=some u→h'.get? b=some u):HOk P w H h':=λa o e =>
 (x a o e).stay (λb u _ q=>k b u q) (λ_ q=>q) λ_ _ q=>q
theorem HOk.laid (x:HOk P w H h)(k:∀b u,h.get? b=some u→h'.get? b=some u)(hp:h.objs.size≤a)(new:ObjOk P w (upd H a o) h' a o):HOk P w (upd H a o) h':=λb u e=>by
 have hn:=x.fresh hp
 by_cases hb:b=a
 ·subst hb;rw [q9] at e;cases e;exact new
 ·rw [wz hb] at e
  exact (x b u e).stay (λc v _ q=>k c v q) (λc q=>by rw [wz (qt q hn)];exact q) λc xs q=>by rw [wz (qt q hn)];exact q
end
def Rd (H:Hp)(a:Aj)(u:HO):Prop:=H a=some u∨∃o,H a=some (.frz o u)
theorem Rd.ok {P:Ac}{w:Ah}{H:Hp}{h:Heap}{a:Aj}{u:HO}(r:Rd H a u)(x:HOk P w H h):ObjOk P w H h a u:=by
 rcases r with r|⟨o,r⟩
 ·exact x a u r
 ·obtain ⟨_,q⟩:=x a _ r
  exact q
def Mut:Option HO→Prop
 |some (.lst _)=>True
 |some (.dK _)=>True
 |some (.dT _)=>True
 |some (.set _ _)=>True
 |some (.ins _ _ _)=>True
 |some (.ext _)=>True
 |_=>False
section
variable {P:Ac}{w:Ah}{H:Hp}{h h':Heap}{x e:Aj}{o':HO}
theorem HOk.write (ok:HOk P w H h)(mu:Mut (H x))(he:e=x∨H e=some (.own x))(k:∀b u,b≠e→h.get? b=some u→h'.get? b=some u)(heo:∃u,h'.get? e=some u)
  (new:ObjOk P w (upd H x o') h' x o'):HOk P w (upd H x o') h':=λb u q=>by
 have nown:∀c y,H c=some (.own y)→c≠x:=λc y r z=>by subst z;rw [r] at mu;exact mu
 have ntup:∀c xs,H c=some (.tup xs)→c≠x:=λc xs r z=>by subst z;rw [r] at mu;exact mu
 by_cases hb:b=x
 ·subst hb;rw [q9] at q;cases q;exact new
 ·rw [wz hb] at q
  by_cases hbe:b=e
  ·have q':H b=some (.own x):=by
    rcases he with z|z
    ·exact absurd (hbe.trans z) hb
    ·rw [hbe];exact z
   rw [q] at q';cases q'
   obtain ⟨v,hv⟩:=heo
   exact ⟨v,by rw [hbe];exact hv⟩
  ·refine (ok b u q).stay (λc v hc r=>k c v ?_ r) (λc r=>by rw [wz (nown c b r)];exact r) λc xs r=>by rw [wz (ntup c xs r)];exact r
   rcases hc with rfl|hc
   ·exact hbe
   ·rintro rfl
    rcases he with z|z
    ·exact nown c b hc z
    ·rw [hc] at z;cases z;exact hb rfl
end
structure Un (fs ex:List Aj)(H H':Hp)(h h':Heap):Prop where
 keep:∀b o,h.get? b=some o→H b=none→b∉fs→b∉ex→h'.get? b=some o
 slot:∀b o,h.get? b=some o→H b=none→b∈fs→b∉ex→∃sl,h'.get? b=some { o with slots:=sl }
 free:∀b o,h.get? b=some o→H b=none→b∉ex→H' b=none
 there:∀b o,h.get? b=some o→b∉ex→∃o',h'.get? b=some o'
 tups:∀b xs,H b=some (.tup xs)→H' b=some (.tup xs)
 frzs:∀b o u,H b=some (.frz o u)→H' b=some (.frz o u)
 tbls:∀b ps,H b=some (.tbl ps)→∃more,H' b=some (.tbl (ps++more))
section
variable {fs fs' ex ex':List Aj}{H H1 H2:Hp}{h h1 h2 h':Heap}{a x e:Aj}{o:HO}
theorem Un.any (u:Un fs ex H H1 h h1){b:Aj}{ob:Obj}(q:h.get? b=some ob)(n:H b=none)(hx:b∉ex):∃sl,h1.get? b=some { ob with slots:=sl }:=by
 by_cases hb:b∈fs
 ·exact u.slot b ob q n hb hx
 ·exact ⟨ob.slots,u.keep b ob q n hb hx⟩
theorem Un.kept (k:∀b u,h.get? b=some u→h'.get? b=some u):Un fs ex H H h h' :=
 ⟨λb ob q _ _ _=>k b ob q,λb ob q _ _ _=>⟨ob.slots,k b ob q⟩,λ_ _ _ n _=>n,λb ob q _=>⟨ob,k b ob q⟩,λ_ _ q=>q,λ_ _ _ q=>q,λ_ ps q=>⟨#[],by rw [q];simp⟩⟩
theorem Un.refl:Un fs ex H H h h:=Un.kept λ_ _ q=>q
theorem Un.laid (k:∀b u,h.get? b=some u→h'.get? b=some u)(hp:h.objs.size≤a)(hn:H a=none):Un fs ex H (upd H a o) h h' where
 keep:=λb u q _ _ _=>k b u q
 slot:=λb u q _ _ _=>⟨u.slots,k b u q⟩
 free:=λb u q n _=>by rw [wz (ak (ag (ac q) hp))];exact n
 there:=λb u q _=>⟨u,k b u q⟩
 tups:=λb xs q=>by rw [wz (qt q hn)];exact q
 frzs:=λb u xs q=>by rw [wz (qt q hn)];exact q
 tbls:=λb ps q=>⟨#[],by rw [wz (qt q hn),q];simp⟩
theorem Un.write (mu:Mut (H x))(he:e=x∨H e=some (.own x))(k:∀b u,b≠e→h.get? b=some u→h'.get? b=some u)(heo:∃u,h'.get? e=some u):Un fs ex H (upd H x o) h h':=by
 have hx:∀b,H b=none→b≠x:=λb n z=>by subst z;rw [n] at mu;exact mu
 have hb:∀b,H b=none→b≠e:=λb n z=>by
  subst z
  rcases he with r|r
  ·exact hx b n r
  ·rw [n] at r;cases r
 have hm:∀b u,H b=some u→¬ Mut (some u)→b≠x:=λb u q nm z=>by subst z;rw [q] at mu;exact nm mu
 refine ⟨λb u q n _ _=>k b u (hb b n) q,λb u q n _ _=>⟨u.slots,k b u (hb b n) q⟩,λb u q n _=>by rw [wz (hx b n)];exact n,λb u q _=>?_,
  λb xs q=>by rw [wz (hm b _ q λz=>z)];exact q,λb u xs q=>by rw [wz (hm b _ q λz=>z)];exact q,λb ps q=>⟨#[],by rw [wz (hm b _ q λz=>z),q];simp⟩⟩
 by_cases hbe:b=e
 ·subst hbe;exact heo
 ·exact ⟨u,k b u hbe q⟩
end
def trk (h:Heap)(H:Hp):List Aj:=(List.range h.objs.size).filter λa=>(H a).isSome
def W8 (h:Heap)(H:Hp):Heap:=PySem.W.hideAll h (trk h H)
theorem qxc (h:Heap)(H:Hp):(W8 h H).objs.size=h.objs.size:=PySem.W.hideAll_size _ _
theorem qxr {h:Heap}{H:Hp}{b:Aj}{o:Obj}(e:h.get? b=some o)(n:H b=none):(W8 h H).get? b=some o :=
 PySem.W.hideAll_get _ e λhm=>by
  have q:(H b).isSome=true:=(List.mem_filter.mp hm).2
  rw [n] at q;simp at q
theorem qvm {h:Heap}{H:Hp}{b:Aj}{o:Obj}(e:(W8 h H).get? b=some o):h.get? b=some o∧H b=none:=by
 have e':h.get? b=some o:=PySem.W.of_hideAll (trk h H) e
 refine ⟨e',?_⟩
 cases q:H b with
 |none=>rfl
 |some x =>
  have hm:b∈trk h H:=List.mem_filter.mpr ⟨bO.mpr (ac e'),by simp [q]⟩
  have z:(W8 h H).get? b=none:=PySem.W.hideAll_none (trk h H) hm
  rw [z] at e;cases e
def qku (g h:Heap)(L:Aj):List (Aj×Obj):=(List.range h.objs.size).filterMap λa=>if a=L∨(g.get? a).isSome=true then none else (h.get? a).map λo=>(a,o)
def z7 (g h:Heap)(L d:Aj):List (Aj×Obj):=(qku g h L).filter λp=>decide (p.1≠d)
structure Mod (K:Aa)(mg:Str→Option Ag)(base:Heap):Prop where
 kin:K.In base
 glob:base.Ns mainGlobals mg
 blt:∃mb,base.Ns builtinsNs mb∧∀x:Str,x ≠ "__name__" → mb x=bootBuiltins x
 nolimit:base.NoLimit
structure Cx where
 prog:Ac
 w:Ah
 K:Aa
 mg:Str→Option Ag
 base:Heap
 A:Ae
 N:List Str
 s₀:Ab
 H₀:Hp
 env:Env
 outer:List Env
 stack:List Env
 ex:List Aj
 fn:Str→Bool
 calm:Bool
 pn:List (Aj×Obj)
 xe:Ag→Ab→Prop
def frs (l:List Env):List Aj:=l.filterMap (·.frame)
abbrev Cx.fs (X:Cx):List Aj:=frs X.outer
def Vis (sc:Scope)(x:Str):Prop:=sc.names.lookup x=some .local∨sc.names.lookup x=some .cell∨sc.names.lookup x=some .free
def Loc (sc:Scope)(x:Str):Prop:=sc.names.lookup x=some .local∨sc.names.lookup x=some .cell
def Look (env:Env)(h:Heap)(m:Str→Option Ag)(x:Str)(u:Ag):Prop :=
 (env.kindOf x=some .local∧m x=some u)∨((env.kindOf x=some .cell∨env.kindOf x=some .free)∧∃c,env.cells.lookup x=some c∧h.IsCell c (some u))
structure Cx.Ok (X:Cx):Prop where
 mod:Mod X.K X.mg X.base
 kind:X.env.scope.kind=.function
 glob:X.env.globals=mainGlobals
 blt:X.env.builtins=builtinsNs
 above:X.s₀.heap.objs.size≤X.env.locals
 inj:∀x y c,X.env.cells.lookup x=some c→X.env.cells.lookup y=some c→x=y
 has:∀x,(X.env.kindOf x=some .cell∨X.env.kindOf x=some .free)→∃c,X.env.cells.lookup x=some c
 cab:∀x c,X.fn x=true→X.env.cells.lookup x=some c→X.s₀.heap.objs.size≤c
 hd:X.calm=true→X.A.handled=none
 frames:X.A.frames=some X.stack
 stk:X.stack=X.outer∨(X.stack=X.env::X.outer∧X.env.frame=some X.env.locals)
 exf:∀b∈X.ex,b≠X.env.locals∧∀x c,X.env.cells.lookup x=some c→c≠b
 bs:∀b o,X.base.get? b=some o→X.s₀.heap.get? b=some o∧X.H₀ b=none
 bsz:X.base.objs.size≤X.s₀.heap.objs.size
 noex:∀b o,X.base.get? b=some o→b∉X.ex
 exfs:∀b∈X.ex,b∉X.fs
 funs:X.s₀.heap.FunFrames X.base X.outer
 frf:∀b∈X.fs,X.H₀ b=none
structure Inv (X:Cx)(pins:List (Aj×Obj))(σ:List (Option V))(H:Hp)(s:Ab):Prop where
 ok:X.Ok
 os:s.os=X.s₀.os
 bare:AllBare s.gens
 base:Un X.fs X.ex X.H₀ H X.s₀.heap s.heap
 loc:∃m,s.heap.Ns X.env.locals m∧∀(i:Nat) (x:Str) (v:V),X.N[i]?=some x→σ[i]?=some (some v)→Vis X.env.scope x→∃u,xx v u∧Look X.env s.heap m x u
 cell:∀x c,X.env.cells.lookup x=some c→∃v,s.heap.IsCell c v
 free:H X.env.locals=none
 freeC:∀x c,X.env.cells.lookup x=some c→H c=none
 pin:∀p∈X.pn++pins,s.heap.get? p.1=some p.2∧H p.1=none∧p.1≠X.env.locals∧p.1∉X.fs∧∀v,p.2.data≠.cell v
 hok:HOk X.prog X.w H s.heap
 len:σ.length=X.N.length
section
variable {X:Cx}{pins:List (Aj×Obj)}{σ:List (Option V)}{H H':Hp}{s:Ab}{h':Heap}
theorem Cx.Ok.nofr (ok:X.Ok){b:Aj}{o:Obj}(e:X.base.get? b=some o):b∉X.fs:=λhb=>by
 have:=(ok.funs.mem hb).1
 rw [e] at this;cases this
theorem Inv.bs (I:Inv X pins σ H s):∀b o,X.base.get? b=some o→s.heap.get? b=some o∧H b=none:=λb o e =>
 ⟨I.base.keep b o (I.ok.bs b o e).1 (I.ok.bs b o e).2 (I.ok.nofr e) (I.ok.noex b o e),I.base.free b o (I.ok.bs b o e).1 (I.ok.bs b o e).2 (I.ok.noex b o e)⟩
theorem Inv.bk (I:Inv X pins σ H s):∀b o,X.base.get? b=some o→s.heap.get? b=some o:=λb o e=>(I.bs b o e).1
theorem Inv.mod (I:Inv X pins σ H s):Mod X.K X.mg X.base:=I.ok.mod
theorem Inv.kIn (I:Inv X pins σ H s):X.K.In s.heap:=I.ok.mod.kin.keeps I.bk
theorem Inv.lt (I:Inv X pins σ H s):X.env.locals<s.heap.objs.size:=let ⟨_,hn,_⟩:=I.loc;hn.lt
theorem Inv.sz (I:Inv X pins σ H s):X.s₀.heap.objs.size≤s.heap.objs.size:=aP I.ok.above (be I.lt)
theorem Inv.nofs (I:Inv X pins σ H s){a:Aj}(h:s.heap.objs.size≤a):a∉X.fs:=λhb=>by
 obtain ⟨_,o,ho,_⟩:=I.ok.funs.mem hb
 exact absurd (ag (ac ho) (aP I.sz h)) (aD _)
theorem Inv.cne (I:Inv X pins σ H s):∀x c,X.env.cells.lookup x=some c→c≠X.env.locals:=λx c e z=>by
 obtain ⟨v,o,ho,hd⟩:=I.cell x c e
 obtain ⟨m,⟨o',es,ep,ho',hd',_⟩,_⟩:=I.loc
 rw [z,ho'] at ho;cases ho;rw [hd'] at hd;cases hd
theorem Inv.funs (I:Inv X pins σ H s):s.heap.FunFrames X.base X.outer:=by
 have all:∀(l:List Env),(∀b∈frs l,b∈X.fs)→X.s₀.heap.FunFrames X.base l→s.heap.FunFrames X.base l:=by
  intro l
  induction l with
  |nil=>intro _ _;trivial
  |cons env r ih =>
   intro hs hl
   obtain ⟨hk,⟨L,o,hf,hn,ho,hd⟩,hr⟩:=hl
   have hL:L∈X.fs:=hs L (by unfold frs;rw [bt,hf];exact bP)
   obtain ⟨sl,e⟩:=I.base.slot L o ho (I.ok.frf L hL) hL λz=>I.ok.exfs L z hL
   exact ⟨hk,⟨L,_,hf,hn,e,hd⟩,ih (λb hb=>hs b (by unfold frs;rw [bt,hf];exact aH _ hb)) hr⟩
 exact all X.outer (λ_ hb=>hb) I.ok.funs
theorem Inv.stack (I:Inv X pins σ H s):s.heap.FunFrames X.base X.stack:=by
 rcases I.ok.stk with e|⟨e,hf⟩
 ·rw [e];exact I.funs
 ·rw [e]
  obtain ⟨m,hn,_⟩:=I.loc
  refine .cons (by rw [I.ok.kind];decide) hf hn ?_ I.funs
  exact Heap.get?_none_of_le (aP I.ok.bsz I.ok.above)
theorem Inv.stkSub (I:Inv X pins σ H s):∀b∈frs X.stack,b∈X.env.locals::X.fs:=λb hb=>by
 rcases I.ok.stk with e|⟨e,hf⟩
 ·rw [e] at hb;exact aH _ hb
 ·rw [e] at hb
  unfold frs at hb
  rw [bt,hf] at hb
  exact hb
theorem Inv.stkFree (I:Inv X pins σ H s):∀b∈frs X.stack,H b=none:=λb hb=>by
 rcases aq.mp (I.stkSub b hb) with e|hb
 ·rw [e];exact I.free
 ·obtain ⟨_,o,ho,_⟩:=I.ok.funs.mem hb
  exact I.base.free b o ho (I.ok.frf b hb) λz=>I.ok.exfs b z hb
theorem Inv.step {g':Array GenState}{t':Nat}{d':Drawn}{ch:List Aj}(I:Inv X pins σ H s)
  (hch:∀b∈ch,(b∈X.ex∨X.s₀.heap.objs.size≤b)∧b≠X.env.locals∧(∀x c,X.env.cells.lookup x=some c→c≠b)∧∀p∈X.pn++pins,p.1≠b)
  (keep:∀b o,b≠X.env.locals→b∉X.fs→b∉ch→s.heap.get? b=some o→H b=none→h'.get? b=some o)
  (slot:∀b o,b≠X.env.locals→b∈X.fs→b∉ch→s.heap.get? b=some o→H b=none→∃sl,h'.get? b=some { o with slots:=sl }) (free:∀b o,b∉ch→s.heap.get? b=some o→H b=none→H' b=none)
  (there:∀b o,b∉ch→s.heap.get? b=some o→∃o',h'.get? b=some o')
  (tups:∀b xs,H b=some (.tup xs)→H' b=some (.tup xs)) (frzs:∀b o u,H b=some (.frz o u)→H' b=some (.frz o u)) (tbls:∀b ps,H b=some (.tbl ps)→∃more,H' b=some (.tbl (ps++more)))
  (ns:∀m,s.heap.Ns X.env.locals m→h'.Ns X.env.locals m) (hok:HOk X.prog X.w H' h') (hg:AllBare g') :
  Inv X pins σ H' { s with heap:=h',gens:=g',drawn:=d',toks:=t' }:=by
 have neL:∀b o,X.s₀.heap.get? b=some o→b≠X.env.locals:=λb o e=>ak (ag (ac e) I.ok.above)
 have neC:∀b o,X.s₀.heap.get? b=some o→b∉X.ex→b∉ch:=λb o e hx hb=>by
  rcases (hch b hb).1 with z|z
  ·exact hx z
  ·exact absurd (ag (ac e) z) (aD _)
 have cellK:∀x c,X.env.cells.lookup x=some c→∀v,s.heap.IsCell c v→h'.IsCell c v:=λx c e v ⟨o,ho,hd⟩=>by
  have nch:c∉ch:=λz=>(hch c z).2.2.1 x c e rfl
  by_cases hc:c∈X.fs
  ·obtain ⟨sl,q⟩:=slot c o (I.cne x c e) hc nch ho (I.freeC x c e)
   exact ⟨_,q,hd⟩
  ·exact ⟨o,keep c o (I.cne x c e) hc nch ho (I.freeC x c e),hd⟩
 refine ⟨I.ok,I.os,hg,⟨λb o e n hb hx=>?_,λb o e n hb hx=>?_,λb o e n hx=>?_,λb o e hx=>?_,λb xs e=>tups b xs (I.base.tups b xs e),λb o xs e=>frzs b o xs (I.base.frzs b o xs e),λb ps e=>?_⟩,?_,λx c e=>?_,?_,λx c e=>?_,λp hp=>?_,hok,I.len⟩
 ·exact keep b o (neL b o e) hb (neC b o e hx) (I.base.keep b o e n hb hx) (I.base.free b o e n hx)
 ·obtain ⟨sl,e1⟩:=I.base.slot b o e n hb hx
  obtain ⟨sl',e2⟩:=slot b _ (neL b o e) hb (neC b o e hx) e1 (I.base.free b o e n hx)
  exact ⟨sl',e2⟩
 ·obtain ⟨o',e1⟩:=I.base.there b o e hx
  exact free b o' (neC b o e hx) e1 (I.base.free b o e n hx)
 ·obtain ⟨o',e1⟩:=I.base.there b o e hx
  exact there b o' (neC b o e hx) e1
 ·obtain ⟨m1,e1⟩:=I.base.tbls b ps e
  obtain ⟨m2,e2⟩:=tbls b _ e1
  exact ⟨m1++m2,by rw [e2,Array.append_assoc]⟩
 ·obtain ⟨m,hn,hl⟩:=I.loc
  refine ⟨m,ns m hn,λi x v e1 e2 e3=>?_⟩
  obtain ⟨u,r,l⟩:=hl i x v e1 e2 e3
  refine ⟨u,r,?_⟩
  rcases l with l|⟨k,c,e,z⟩
  ·exact .inl l
  ·exact .inr ⟨k,c,e,cellK x c e _ z⟩
 ·obtain ⟨v,z⟩:=I.cell x c e
  exact ⟨v,cellK x c e v z⟩
 ·obtain ⟨m,⟨o,_,_,ho,_⟩,_⟩:=I.loc
  exact free _ o (λz=>(hch _ z).2.1 rfl) ho I.free
 ·obtain ⟨v,o,ho,hd⟩:=I.cell x c e
  exact free c o (λz=>(hch c z).2.2.1 x c e rfl) ho (I.freeC x c e)
 ·obtain ⟨e,n,ne,nf,d⟩:=I.pin p hp
  have nch:p.1∉ch:=λz=>(hch p.1 z).2.2.2 p hp rfl
  exact ⟨keep p.1 p.2 ne nf nch e n,free p.1 p.2 nch e n,ne,nf,d⟩
theorem Inv.un {t':Nat}(I:Inv X pins σ H s)(u:Un X.fs [] H H' s.heap h')(hok:HOk X.prog X.w H' h'):Inv X pins σ H' { s with heap:=h',toks:=t' }:=by
 obtain ⟨m,⟨o,es,ep,ho,r⟩,_⟩:=id I.loc
 obtain ⟨sl,hL⟩:=u.any ho I.free (by simp)
 exact I.step (g':=s.gens) (d':=s.drawn) (ch:=[]) (λ_ z=>nomatch z) (λb o _ hb _ e n=>u.keep b o e n hb (by simp)) (λb o _ hb _ e n=>u.slot b o e n hb (by simp)) (λb o _ e n=>u.free b o e n (by simp)) (λb o _ e=>u.there b o e (by simp)) u.tups u.frzs u.tbls (λm' hm=>by
  obtain ⟨o',es',ep',ho',r'⟩:=hm
  rw [ho] at ho';cases ho'
  exact ⟨_,es',ep',hL,r'⟩) hok I.bare
theorem Inv.call {g':Array GenState}{t':Nat}{d':Drawn}{ch:List Aj}(I:Inv X pins σ H s)(u:Un (frs X.stack) ch H H' s.heap h')(hok:HOk X.prog X.w H' h')(hg:AllBare g')
  (hch:∀b∈ch,(b∈X.ex∨X.s₀.heap.objs.size≤b)∧b≠X.env.locals∧(∀x c,X.env.cells.lookup x=some c→c≠b)∧∀p∈X.pn++pins,p.1≠b) :
  Inv X pins σ H' { s with heap:=h',gens:=g',drawn:=d',toks:=t' }:=by
 obtain ⟨m,⟨o,es,ep,ho,r⟩,_⟩:=id I.loc
 obtain ⟨sl,hL⟩:=u.any ho I.free λz=>(hch _ z).2.1 rfl
 exact I.step (ch:=ch) hch (λb o hL hb hc e n=>u.keep b o e n (λz=>(aq.mp (I.stkSub b z)).elim hL hb) hc) (λb o _ _ hc e n=>u.any e n hc) (λb o hc e n=>u.free b o e n hc) (λb o hc e=>u.there b o e hc) u.tups u.frzs u.tbls (λm' hm=>by
  obtain ⟨o',es',ep',ho',r'⟩:=hm
  rw [ho] at ho';cases ho'
  exact ⟨_,es',ep',hL,r'⟩) hok hg
theorem Inv.turned {t':Nat}{it:Aj}(I:Inv X pins σ H s)(k:∀b o,b≠it→s.heap.get? b=some o→h'.get? b=some o)(hn:H it=none)(hL:it≠X.env.locals)
  (h1:it∈X.ex∨X.s₀.heap.objs.size≤it) (h2:∀x c,X.env.cells.lookup x=some c→c≠it) (h3:∀p∈X.pn++pins,p.1≠it):Inv X pins σ H { s with heap:=h',toks:=t' }:=by
 have nit:∀b u,H b=some u→b≠it:=λb u e z=>by rw [z,hn] at e;cases e
 refine I.step (g':=s.gens) (d':=s.drawn) (ch:=[it]) (λb hb=>?_) (λb o _ _ hc e _=>k b o (λz=>hc (by simp [z])) e) (λb o _ _ hc e _=>⟨o.slots,k b o (λz=>hc (by simp [z])) e⟩) (λ_ _ _ _ n=>n)
  (λb o hc e=>⟨o,k b o (λz=>hc (by simp [z])) e⟩) (λ_ _ e=>e) (λ_ _ _ e=>e) (λb ps e=>⟨#[],by rw [e];simp⟩) (λm hm=>?_) (λb u e=>?_) I.bare
 ·have e:b=it:=by simpa using hb
  subst e
  exact ⟨h1,hL,h2,h3⟩
 ·obtain ⟨o,es,ep,ho,r⟩:=hm
  exact ⟨o,es,ep,k _ o (aL hL) ho,r⟩
 ·refine (I.hok b u e).stay (λc v hc q=>k c v ?_ q) (λ_ q=>q) λ_ _ q=>q
  rcases hc with z|z
  ·rw [z];exact nit b u e
  ·exact nit c _ z
theorem Inv.tok (I:Inv X pins σ H s)(t:Nat):Inv X pins σ H { s with toks:=t }:=I.un (h':=s.heap) (t':=t) Un.refl I.hok
theorem Inv.kept {t':Nat}(I:Inv X pins σ H s)(k:∀b u,s.heap.get? b=some u→h'.get? b=some u):Inv X pins σ H { s with heap:=h',toks:=t' }:=I.un (Un.kept k) (I.hok.kept k)
theorem Inv.laid {a:Aj}{o:HO}{t':Nat}(I:Inv X pins σ H s)(k:∀b u,s.heap.get? b=some u→h'.get? b=some u)(hp:s.heap.objs.size≤a)(new:ObjOk X.prog X.w (upd H a o) h' a o) :
  Inv X pins σ (upd H a o) { s with heap:=h',toks:=t' }:=I.un (Un.laid k hp (I.hok.fresh hp)) (I.hok.laid k hp new)
theorem Inv.write {x e:Aj}{o:HO}{t':Nat}(I:Inv X pins σ H s)(mu:Mut (H x))(he:e=x∨H e=some (.own x))(k:∀b u,b≠e→s.heap.get? b=some u→h'.get? b=some u)(heo:∃u,h'.get? e=some u)
  (new:ObjOk X.prog X.w (upd H x o) h' x o):Inv X pins σ (upd H x o) { s with heap:=h',toks:=t' }:=I.un (Un.write mu he k heo) (I.hok.write mu he k heo new)
theorem Inv.weak {σ':List (Option V)}(I:Inv X pins σ H s)(hl:σ'.length=σ.length)(w:∀(i:Nat) v,σ'[i]?=some (some v)→σ[i]?=some (some v)):Inv X pins σ' H s :=
 ⟨I.ok,I.os,I.bare,I.base,let ⟨m,hn,hl'⟩:=I.loc;⟨m,hn,λi x v e1 e2 e3=>hl' i x v e1 (w i v e2) e3⟩,I.cell,I.free,I.freeC,I.pin,I.hok,hl.trans I.len⟩
theorem Inv.pins_of {pins':List (Aj×Obj)}(I:Inv X pins σ H s)(h:∀p∈pins',s.heap.get? p.1=some p.2∧H p.1=none∧p.1≠X.env.locals∧p.1∉X.fs∧∀v,p.2.data≠.cell v):Inv X pins' σ H s :=
 ⟨I.ok,I.os,I.bare,I.base,I.loc,I.cell,I.free,I.freeC,λp hp=>(aR.mp hp).elim (λz=>I.pin p (bp _ z)) (h p),I.hok,I.len⟩
theorem Yw {N:List Str}(hN:N.Nodup){i j:Nat}{x:Str}(a:N[i]?=some x)(b:N[j]?=some x):i=j:=by
 obtain ⟨h1,e1⟩:=aY.mp a
 obtain ⟨h2,e2⟩:=aY.mp b
 exact (List.getElem_inj hN).mp (e1.trans e2.symm)
theorem qxj {M:Model}{A:Ae}{E:Ag→Ab→Prop}{i:Nat}{x:Str}{v:V}{u:Ag}{Q:Unit→Ab→Prop}(I:Inv X pins σ H s)(hN:X.N.Nodup)(hi:X.N[i]?=some x)(hx:Loc X.env.scope x)(r:xx v u)
  (h:∀s',Inv X pins (σ.set i (some v)) H s'→(∃a,Heap.SameBut a s.heap s'.heap∧(a=X.env.locals∨X.env.cells.lookup x=some a))→Q () s') (hf:X.fn x=true∨X.env.scope.names.lookup x=some .local:=by first | exact .inl rfl | exact .inr rfl | assumption):wpAny M A (storeName X.env x u) Q E s:=by
 obtain ⟨m,hn,hl⟩:=id I.loc
 have hcls:(X.env.scope.kind==.class||(X.env.scope.kind==.module&&X.env.locals != X.env.globals))=false:=by rw [I.ok.kind];rfl
 have hiσ:i<σ.length:=by rw [I.len];exact (aY.mp hi).1
 have cne:=I.cne
 have tracked:∀ {a:Aj} {h':Heap},(∃o,s.heap.get? a=some o∧H a=none)→Heap.SameBut a s.heap h'→HOk X.prog X.w H h':=λ{a h'} ha hs b ob e=>by
  obtain ⟨_,_,hfree⟩:=ha
  refine (I.hok b ob e).stay (λc w' hc q=>(hs.2 c ?_).trans q) (λ_ q=>q) λ_ _ q=>q
  rintro rfl
  rcases hc with rfl|hc
  ·rw [hfree] at e;cases e
  ·rw [hfree] at hc;cases hc
 rcases hx with hk|hk
 ·refine wpAny_storeName_local hk hn (λh' hn' hs=>?_) hcls
  obtain ⟨oL,_,_,hoL,_⟩:=id hn
  refine h _ ⟨I.ok,I.os,I.bare,⟨λb o e n hb hx=>?_,λb o e n hb hx=>?_,I.base.free,λb o e hx=>?_,I.base.tups,I.base.frzs,I.base.tbls⟩,⟨_,hn',λj y v' e1 e2 e3=>?_⟩,λy c e=>?_,I.free,I.freeC,λp hp=>?_,tracked ⟨oL,hoL,I.free⟩ hs,by simpa using I.len⟩ ⟨_,hs,.inl rfl⟩
  ·exact (hs.2 b (ak (ag (ac e) I.ok.above))).trans (I.base.keep b o e n hb hx)
  ·obtain ⟨sl,e1⟩:=I.base.slot b o e n hb hx
   exact ⟨sl,(hs.2 b (ak (ag (ac e) I.ok.above))).trans e1⟩
  ·obtain ⟨o',e1⟩:=I.base.there b o e hx
   exact ⟨o',(hs.2 b (ak (ag (ac e) I.ok.above))).trans e1⟩
  ·by_cases hj:j=i
   ·subst hj
    rw [hi] at e1;cases e1
    rw [List.getElem?_set_self hiσ] at e2
    cases e2
    exact ⟨u,r,.inl ⟨hk,by simp⟩⟩
   ·rw [List.getElem?_set_ne (aL hj)] at e2
    obtain ⟨u',r',q⟩:=hl j y v' e1 e2 e3
    refine ⟨u',r',?_⟩
    rcases q with ⟨k,e⟩|⟨k,c,e,z⟩
    ·refine .inl ⟨k,?_⟩
     have:y≠x:=λe=>hj (Yw hN e1 (e▸hi))
     simp [this,e]
    ·exact .inr ⟨k,c,e,z.sameBut hs (cne y c e)⟩
  ·obtain ⟨w',z⟩:=I.cell y c e
   exact ⟨w',z.sameBut hs (cne y c e)⟩
  ·obtain ⟨e,n,ne,nf,d⟩:=I.pin p hp
   exact ⟨(hs.2 p.1 ne).trans e,n,ne,nf,d⟩
 ·have hfn:X.fn x=true:=by
   rcases hf with z|z
   ·exact z
   ·rw [z] at hk;cases hk
  obtain ⟨c,hc⟩:=I.ok.has x (.inl hk)
  obtain ⟨w',z⟩:=I.cell x c hc
  refine wpAny_storeName_cell I.ok.kind hk hc z (λh' hc' hs=>?_)
  obtain ⟨oc,hoc,hocd⟩:=id z
  refine h { s with heap:=h' } ⟨I.ok,I.os,I.bare,⟨λb o e n hb hx=>?_,λb o e n hb hx=>?_,I.base.free,λb o e hx=>?_,I.base.tups,I.base.frzs,I.base.tbls⟩,⟨m,hn.sameBut hs (aL (cne x c hc)),λj y v' e1 e2 e3=>?_⟩,λy c' e=>?_,I.free,I.freeC,λp hp=>?_,tracked ⟨oc,hoc,I.freeC x c hc⟩ hs,by simpa using I.len⟩ ⟨c,hs,.inr hc⟩
  ·exact (hs.2 b (ak (ag (ac e) (I.ok.cab x c hfn hc)))).trans (I.base.keep b o e n hb hx)
  ·obtain ⟨sl,e1⟩:=I.base.slot b o e n hb hx
   exact ⟨sl,(hs.2 b (ak (ag (ac e) (I.ok.cab x c hfn hc)))).trans e1⟩
  ·obtain ⟨o',e1⟩:=I.base.there b o e hx
   exact ⟨o',(hs.2 b (ak (ag (ac e) (I.ok.cab x c hfn hc)))).trans e1⟩
  ·by_cases hj:j=i
   ·subst hj
    rw [hi] at e1;cases e1
    rw [List.getElem?_set_self hiσ] at e2
    cases e2
    exact ⟨u,r,.inr ⟨.inl hk,c,hc,hc'⟩⟩
   ·rw [List.getElem?_set_ne (aL hj)] at e2
    obtain ⟨u',r',q⟩:=hl j y v' e1 e2 e3
    refine ⟨u',r',?_⟩
    rcases q with q|⟨k,c',e,z'⟩
    ·exact .inl q
    ·refine .inr ⟨k,c',e,z'.sameBut hs ?_⟩
     rintro rfl
     exact hj (Yw hN e1 (I.ok.inj _ _ _ e hc▸hi))
  ·by_cases hcc:c'=c
   ·subst hcc;exact ⟨_,hc'⟩
   ·obtain ⟨w2,z2⟩:=I.cell y c' e
    exact ⟨w2,z2.sameBut hs hcc⟩
  ·obtain ⟨e,n,ne,nf,d⟩:=I.pin p hp
   refine ⟨(hs.2 p.1 ?_).trans e,n,ne,nf,d⟩
   intro q
   rw [q,hoc] at e
   have q':oc=p.2:=ao e
   exact d w' (by rw [←q'];exact hocd)
theorem vf {M:Model}{A:Ae}{E:Ag→Ab→Prop}{i:Nat}{x:Str}{v:V}{u:Ag}{Q:Unit→Ab→Prop}(I:Inv X pins σ H s)(hN:X.N.Nodup)(hi:X.N[i]?=some x)(hx:Loc X.env.scope x)(r:xx v u)
  (h:∀s',Inv X pins (σ.set i (some v)) H s'→Q () s') (hf:X.fn x=true∨X.env.scope.names.lookup x=some .local:=by first | exact .inl rfl | exact .inr rfl | assumption):wpAny M A (storeName X.env x u) Q E s :=
 qxj I hN hi hx r (λs' I' _=>h s' I') hf
theorem Inv.call' {s':Ab}{ch:List Aj}(I:Inv X pins σ H s)(ho:s'.os=s.os)(u:Un (frs X.stack) ch H H' s.heap s'.heap)(hok:HOk X.prog X.w H' s'.heap)(hg:AllBare s'.gens)
  (hch:∀b∈ch,(b∈X.ex∨X.s₀.heap.objs.size≤b)∧b≠X.env.locals∧(∀x c,X.env.cells.lookup x=some c→c≠b)∧∀p∈X.pn++pins,p.1≠b):Inv X pins σ H' s':=by
 obtain ⟨h',g',d',t',o'⟩:=s'
 have e:o'=s.os:=ho
 subst e
 exact I.call (g':=g') (t':=t') (d':=d') u hok hg hch
end
abbrev XK:=Ag→Option Aj→Hp→Prop
abbrev St:=List (Option V)
abbrev VK:=V→Hp→Prop
abbrev TE:=St→Hp→VK→Prop
abbrev TT:=St→Hp→(Bool→Hp→Prop)→Prop
abbrev TA:=St→Hp→(List V→Hp→Prop)→Prop
structure Ends where
 nx:St→Hp→Prop
 rt:VK
 bk:St→Hp→Prop:=λ_ _=>False
 ct:St→Hp→Prop:=λ_ _=>False
abbrev TS:=Ends→St→Hp→Prop
def EP (X:Cx)(pins:List (Aj×Obj))(σ:St)(Q:VK)(u:Ag)(s':Ab):Prop:=∃v H',Inv X pins σ H' s'∧xx v u∧Q v H'
def TP (X:Cx)(pins:List (Aj×Obj))(σ:St)(Q:Bool→Hp→Prop)(b:Bool)(s':Ab):Prop:=∃H',Inv X pins σ H' s'∧Q b H'
def AP (X:Cx)(pins:List (Aj×Obj))(σ:St)(Q:List V→Hp→Prop)(us:List Ag)(s':Ab):Prop:=∃vs H',Inv X pins σ H' s'∧Vals vs us∧Q vs H'
def SP (X:Cx)(pins:List (Aj×Obj))(D:Ends)(f:Flow)(s':Ab):Prop :=
 match f with
 |.next=>∃σ' H',Inv X pins σ' H' s'∧D.nx σ' H'
 |.brk=>∃σ' H',Inv X pins σ' H' s'∧D.bk σ' H'
 |.cont=>∃σ' H',Inv X pins σ' H' s'∧D.ct σ' H'
 |.ret u=>∃v σ' H',Inv X pins σ' H' s'∧xx v u∧D.rt v H'
def PE (X:Cx)(e:Expr)(t:TE):Prop :=
 ∀(pins:List (Aj×Obj)) (s:Ab) (σ:St) (H:Hp) (Q:VK),Inv X pins σ H s→t σ H Q→wpAny (model X.prog X.w) X.A (eval e X.env) (EP X pins σ Q) X.xe s
def PT (X:Cx)(e:Expr)(t:TT):Prop :=
 ∀(pins:List (Aj×Obj)) (s:Ab) (σ:St) (H:Hp) (Q:Bool→Hp→Prop),Inv X pins σ H s→t σ H Q→wpAny (model X.prog X.w) X.A (isTrue e X.env (eval e X.env)) (TP X pins σ Q) X.xe s
def PW (X:Cx)(e:Expr)(t:TT):Prop :=
 ∀(whole:Sem Ag) (pins:List (Aj×Obj)) (s:Ab) (σ:St) (H:Hp) (Q:Bool→Hp→Prop),Inv X pins σ H s→t σ H Q→wpAny (model X.prog X.w) X.A (isTrue e X.env whole) (TP X pins σ Q) X.xe s
theorem PW.pt {X:Cx}{e:Expr}{t:TT}(h:PW X e t):PT X e t:=h _
def PA (X:Cx)(es:List Expr)(t:TA):Prop :=
 ∀(pos:Pos) (pins:List (Aj×Obj)) (s:Ab) (σ:St) (H:Hp) (Q:List V→Hp→Prop),Inv X pins σ H s→t σ H Q→wpAny (model X.prog X.w) X.A (spliced (backTo pos (starEach es X.env))) (AP X pins σ Q) X.xe s
def PS (X:Cx)(st:Stmt)(t:TS):Prop :=
 ∀(pins:List (Aj×Obj)) (s:Ab) (σ:St) (H:Hp) (D:Ends),Inv X pins σ H s→t D σ H→wpAny (model X.prog X.w) X.A (exec st X.env) (SP X pins D) X.xe s
def PSs (X:Cx)(st:List Stmt)(t:TS):Prop :=
 ∀(pins:List (Aj×Obj)) (s:Ab) (σ:St) (H:Hp) (D:Ends),Inv X pins σ H s→t D σ H→wpAny (model X.prog X.w) X.A (execs st X.env) (SP X pins D) X.xe s
theorem thn {α:Type}{t:Sem α}{Q Q':α→Ab→Prop}{M:Model}{A:Ae}{E:Ag→Ab→Prop}{s:Ab}(h:wpAny M A t Q E s)(hQ:∀a s,Q a s→Q' a s):wpAny M A t Q' E s:=ay h hQ λ_ _ x=>x
section
variable {X:Cx}
def tVar (i:Nat):TE:=λσ H Q=>∃v,σ[i]?=some (some v)∧Q v H
def tC (v:V):TE:=λ_ H Q=>Q v H
theorem pe_var {i:Nat}{x:Str}{pos:Pos}(hN:X.N[i]?=some x)(hv:Vis X.env.scope x)(hd:(x==("__debug__" : Str))=false:=by decide)(hcd:(x==("__classdict__" : Str))=false:=by decide):PE X (.Name x pos) (tVar i):=by
 intro pins s σ H Q I h
 obtain ⟨v,e,h⟩:=h
 obtain ⟨m,hn,hl⟩:=I.loc
 obtain ⟨u,r,l⟩:=hl i x v hN e hv
 have fin:EP X pins σ Q u s:=⟨v,H,I,r,h⟩
 rcases l with ⟨hk,hm⟩|⟨hk,c,hc,hcell⟩
 ·exact wpAny_Name (wpAny_loadName_local I.ok.kind hk hn hm fin) hd
 ·rcases hk with hk|hk
  ·exact wpAny_Name (wpAny_loadName_cell I.ok.kind hk hc hcell fin) hd
  ·exact wpAny_Name (wpAny_loadName_free I.ok.kind hk hc hcell fin hcd) hd
theorem qu {i j pos}:PE X (.Constant (.int i) j pos) (tC (.int i)):=λ_ _ _ H _ I h=>wpAny_Constant_int ⟨.int i,H,I.tok _,⟨_,rfl⟩,h⟩
theorem uc {b j pos}:PE X (.Constant (.bool b) j pos) (tC (.bl b)):=λ_ _ _ H _ I h=>Constant_bool ⟨.bl b,H,I,rfl,h⟩
theorem qx6 {j pos}:PE X (.Constant .none j pos) (tC .non):=λ_ _ _ H _ I h=>Constant_none ⟨.non,H,I,rfl,h⟩
theorem wn {x j pos}:PE X (.Constant (.str x) j pos) (tC (.str x)):=λ_ _ _ H _ I h=>Calls.Constant_str ⟨.str x,H,I.tok _,⟨_,rfl⟩,h⟩
def Gl (X:Cx)(x:Str):Prop:=X.env.kindOf x=some .globalImplicit
theorem z5 {E:Ag→Ab→Prop}{pins:List (Aj×Obj)}{s:Ab}{σ:St}{H:Hp}{x:Str}{u:Ag}{pos:Pos}{Q:Ag→Ab→Prop}(I:Inv X pins σ H s)(hg:Gl X x)(hm:X.mg x=some u)(h:Q u s)
  (hd:(x==("__debug__" : Str))=false:=by decide):wpAny (model X.prog X.w) X.A (eval (.Name x pos) X.env) Q E s :=
 Calls.Name_function_global I.ok.kind hg (Calls.loadGlobal_global (by rw [I.ok.glob];exact I.mod.glob.keeps I.bk) hm h) hd
theorem qqj {E:Ag→Ab→Prop}{pins:List (Aj×Obj)}{s:Ab}{σ:St}{H:Hp}{x:Str}{u:Ag}{pos:Pos}{Q:Ag→Ab→Prop}(I:Inv X pins σ H s)(hg:Gl X x)(hm:X.mg x=none)(hv:bootBuiltins x=some u)(h:Q u s)
  (hn:x ≠ "__name__" := by decide) (hd:(x==("__debug__" : Str))=false:=by decide):wpAny (model X.prog X.w) X.A (eval (.Name x pos) X.env) Q E s:=by
 obtain ⟨mb,h1,h2⟩:=I.mod.blt
 exact Calls.Name_function_global I.ok.kind hg (Calls.loadGlobal_builtin (by rw [I.ok.glob];exact I.mod.glob.keeps I.bk) hm (by rw [I.ok.blt];exact h1.keeps I.bk) ((h2 x hn).trans hv) h) hd
theorem vp {x:Str}{v:V}{u:Ag}{pos:Pos}(hg:Gl X x)(hm:X.mg x=some u)(r:xx v u)(hd:(x==("__debug__" : Str))=false:=by decide):PE X (.Name x pos) (tC v) :=
 λ_ _ _ H _ I h=>z5 I hg hm ⟨v,H,I,r,h⟩ hd
variable {a b:Expr}{ta tb:TE}{pos:Pos}
def PC (X:Cx)(op:CmpOp)(a b:Expr)(t:TE):Prop :=
 ∀(pins:List (Aj×Obj)) (s:Ab) (σ:St) (H:Hp) (Q:VK),Inv X pins σ H s→t σ H Q →
  wpAny (model X.prog X.w) X.A (eval a X.env) (λv s₁=>wpAny (model X.prog X.w) X.A (eval b X.env) (λu s₂=>wpAny (model X.prog X.w) X.A (compareOp op v u) (EP X pins σ Q) X.xe s₂) X.xe s₁) X.xe s
def tB (t:TE):TT:=λσ H Q=>t σ H λx H1=>∃c,x=.bl c∧Q c H1
theorem Ju {op:CmpOp}{t:TE}(h:PC X op a b t)(h1:behindInMarks op b=false:=by first | exact nobehind _ (by decide) (by decide) | rfl):PT X (.Compare a [op] [b] pos) (tB t):=by
 intro pins s σ H Q I hw
 refine wpAny_isTrue_Compare1 (thn (h pins s σ H _ I hw) λv s1 h1=>thn h1 λu s2 h2=>thn h2 λc s3 ⟨x,H1,I1,r1,q1⟩=>?_) h1
 obtain ⟨d,rfl,q⟩:=q1
 cases r1
 exact bj ⟨H1,I1,q⟩
theorem Jz {e:Expr}{t:TE}(h:PE X e t)(he:∀whole,isTrue e X.env whole=(do let v ←whole;standAt e.pos;holding [v] (truthy v)):=by intro _;rfl):PT X e (tB t):=by
 intro pins s σ H Q I hw
 refine isTrue_plain (thn (h pins s σ H _ I hw) λv s1 ⟨x,H1,I1,r1,q1⟩=>?_) (he _)
 obtain ⟨d,rfl,q⟩:=q1
 cases r1
 exact bj ⟨H1,I1,q⟩
variable {tA tB':TT}{z7:List Expr}
def tAnd (t u:TT):TT:=λσ H Q=>t σ H λc H1=>if c=true then u σ H1 Q else Q false H1
def tOr (t u:TT):TT:=λσ H Q=>t σ H λc H1=>if c=true then Q true H1 else u σ H1 Q
def tNot (t:TT):TT:=λσ H Q=>t σ H λc H1=>Q (!c) H1
theorem qkm (ha:PT X a tA):PW X (.BoolOp .And [a] pos) tA:=by
 intro wh pins s σ H Q I h
 refine isTrue_and (thn (ha pins s σ H Q I h) λc s1 e=>?_)
 cases c with
 |true=>exact isTrue_and_nil e
 |false=>exact e
theorem Z5 (ha:PT X a tA):PW X (.BoolOp .Or [a] pos) tA:=by
 intro wh pins s σ H Q I h
 refine isTrue_or (thn (ha pins s σ H Q I h) λc s1 e=>?_)
 cases c with
 |false=>exact isTrue_or_nil e
 |true=>exact e
theorem pw_and (ha:PT X a tA)(hb:PW X (.BoolOp .And (b::z7) pos) tB'):PW X (.BoolOp .And (a::b::z7) pos) (tAnd tA tB'):=by
 intro wh pins s σ H Q I h
 refine isTrue_and (thn (ha pins s σ H _ I h) λc s1 ⟨H1,I1,q1⟩=>?_)
 cases c with
 |true=>exact hb wh pins s1 σ H1 Q I1 q1
 |false=>exact ⟨H1,I1,q1⟩
theorem qq0 (ha:PT X a tA)(hb:PW X (.BoolOp .Or (b::z7) pos) tB'):PW X (.BoolOp .Or (a::b::z7) pos) (tOr tA tB'):=by
 intro wh pins s σ H Q I h
 refine isTrue_or (thn (ha pins s σ H _ I h) λc s1 ⟨H1,I1,q1⟩=>?_)
 cases c with
 |true=>exact ⟨H1,I1,q1⟩
 |false=>exact hb wh pins s1 σ H1 Q I1 q1
theorem Jm (ha:PT X a tA):PT X (.UnaryOp .Not a pos) (tNot tA):=by
 intro pins s σ H Q I h
 exact isTrue_not (ha pins s σ H (λc H1=>Q (!c) H1) I h)
def tAndV (ta tb:TE):TE:=λσ H Q=>ta σ H λx H1=>∃c,x=.bl c∧if c=true then tb σ H1 Q else Q (.bl false) H1
theorem pe_one {op}{t:TE}(h:PE X a t):PE X (.BoolOp op [a] pos) t:=λpins s σ H Q I hw=>BoolOp_one (h pins s σ H Q I hw)
theorem pe_and (ha:PE X a ta)(hb:PE X (.BoolOp .And (b::z7) pos) tb):PE X (.BoolOp .And (a::b::z7) pos) (tAndV ta tb):=by
 intro pins s σ H Q I h
 refine BoolOp_and (thn (ha pins s σ H _ I h) λv s1 ⟨x,H1,I1,r1,q1⟩=>?_)
 obtain ⟨c,rfl,q1⟩:=q1
 cases r1
 refine bj ?_
 cases c with
 |true=>exact hb pins s1 σ H1 Q I1 q1
 |false=>exact ⟨.bl false,H1,I1,rfl,q1⟩
end
def SqL (K:Aa)(H:Hp)(a:Aj)(xs:List V):Prop :=
 Rd H a (.lst xs) ∨
  ∃(o:Obj) (its:Array Ag) (n:Nat),K.lookup a=some o∧o.cls=.type "list" ∧ o.dict=none∧o.data=.seq its n∧its.size≤sizeLine∧Vals xs its.toList
def SqT (K:Aa)(H:Hp)(a:Aj)(xs:List V):Prop :=
 Rd H a (.tup xs) ∨
  ∃(o:Obj) (its:Array Ag) (n:Nat),K.lookup a=some o∧o.cls=.type "tuple" ∧ o.data=.seq its n∧its.size≤sizeLine∧Vals xs its.toList
section
variable {X:Cx}{pins:List (Aj×Obj)}{σ:St}{H:Hp}{s:Ab}{a:Aj}{xs ys:List V}
theorem SqL.of {K:Aa}(h:H a=some (.lst xs)):SqL K H a xs:=.inl (.inl h)
theorem SqT.of {K:Aa}(h:H a=some (.tup xs)):SqT K H a xs:=.inl (.inl h)
theorem Inv.list (I:Inv X pins σ H s)(h:SqL X.K H a xs):∃its:List Ag,Vals xs its∧PlainL s.heap a its.toArray∧xs.length≤sizeLine:=by
 rcases h with h|⟨o,its,n,hk,hc,hd,hs,hz,r⟩
 ·obtain ⟨z,its,n,r,e⟩:=h.ok I.hok
  exact ⟨its,r,⟨_,n,e,rfl,rfl,rfl⟩,z⟩
 ·refine ⟨its.toList,r,⟨o,n,I.kIn a o hk,hc,hd,by simpa using hs⟩,?_⟩
  have e:=r.length
  simp only [bu] at e
  lia
theorem Inv.tuple (I:Inv X pins σ H s)(h:SqT X.K H a xs):∃its:List Ag,Vals xs its∧IsTup s.heap a its.toArray∧xs.length≤sizeLine:=by
 rcases h with h|⟨o,its,n,hk,hc,hs,hz,r⟩
 ·obtain ⟨z,its,r,p⟩:=h.ok I.hok
  exact ⟨its,r,p,z⟩
 ·refine ⟨its.toList,r,⟨o,I.kIn a o hk,hc,n,by simpa using hs⟩,?_⟩
  have e:=r.length
  simp only [bu] at e
  lia
end
abbrev Cx.wish (X:Cx)(E:Ag→Ab→Prop):Cx:={ X with xe:=E }
section
variable {X:Cx}{pins:List (Aj×Obj)}{σ:St}{H:Hp}{s:Ab}{E:Ag→Ab→Prop}
end
section
variable {X:Cx}{st:Stmt}{z7:List Stmt}{t u:TS}{e:Expr}{te:TE}{pos:Pos}
def tNext:TS:=λD σ H=>D.nx σ H
def tSeq (t u:TS):TS:=λD σ H=>t { D with nx:=u D } σ H
theorem wc:PSs X [] tNext:=λ_ _ σ H _ I h=>bw ⟨σ,H,I,h⟩
theorem qd (h1:PS X st t)(h2:PSs X z7 u):PSs X (st::z7) (tSeq t u):=by
 intro pins s σ H D I h
 refine ci (thn (h1 pins s σ H { D with nx:=u D } I h) λf s1 q=>?_)
 cases f with
 |next =>
  obtain ⟨σ',H',I',q⟩:=q
  exact h2 pins s1 σ' H' D I' q
 |ret v=>exact q
 |brk=>exact q
 |cont=>exact q
theorem qh (h1:PS X st t):PSs X [st] t:=by
 intro pins s σ H D I h
 refine ci (thn (h1 pins s σ H D I h) λf s1 q=>?_)
 cases f with
 |next=>exact bw q
 |ret v=>exact q
 |brk=>exact q
 |cont=>exact q
theorem Inv.quiet {pins:List (Aj×Obj)}{σ:St}{H:Hp}{s:Ab}(I:Inv X pins σ H s):interactive X.env=false:=by simp [interactive,I.ok.kind]
def tDrop (te:TE):TS:=λD σ H=>te σ H λ_ H1=>D.nx σ H1
theorem wp (he:PE X e te)(hs:swapsWith e none pos.line X.env=pure false:=by rfl):PS X (.Expr e pos) (tDrop te):=by
 intro pins s σ H D I h
 exact wpAny_Expr_any (thn (he pins s σ H _ I h) λv s1 ⟨x,H1,I1,r1,q1⟩=>⟨σ,H1,I1,q1⟩) I.quiet hs
def tRet (te:TE):TS:=λD σ H=>te σ H D.rt
theorem xv (he:PE X e te):PS X (.Return (some e) pos) (tRet te):=by
 intro pins s σ H D I h
 exact wpAny_Return_some (thn (he pins s σ H _ I h) λv s1 ⟨x,H1,I1,r1,q1⟩=>⟨x,σ,H1,I1,r1,q1⟩)
def tIfS (c:TT)(t u:TS):TS:=λD σ H=>c σ H λb H1=>if b=true then t D σ H1 else u D σ H1
theorem w9 {c:Expr}{a b:List Stmt}{tc:TT}(hc:PT X c tc)(ha:PSs X a t)(hb:PSs X b u):PS X (.If c a b pos) (tIfS tc t u):=by
 intro pins s σ H D I h
 refine wpAny_If (thn (hc pins s σ H _ I h) λd s1 ⟨H1,I1,q1⟩=>?_)
 cases d with
 |true=>exact ha pins s1 σ H1 D I1 q1
 |false=>exact hb pins s1 σ H1 D I1 q1
end
abbrev TG:=V→St→Hp→(St→Hp→Prop)→Prop
abbrev TGs:=List V→St→Hp→(St→Hp→Prop)→Prop
def PG (X:Cx)(target:Expr)(t:TG):Prop :=
 ∀(pins:List (Aj×Obj)) (s:Ab) (σ:St) (H:Hp) (v:V) (u:Ag) (Q:St→Hp→Prop),Inv X pins σ H s→xx v u→t v σ H Q →
  wpAny (model X.prog X.w) X.A (assign target X.env u) (λ_ s'=>∃σ' H',Inv X pins σ' H' s'∧Q σ' H') X.xe s
def PGs (X:Cx)(ts:List Expr)(t:TGs):Prop :=
 ∀(pins:List (Aj×Obj)) (s:Ab) (σ:St) (H:Hp) (vs:List V) (us:List Ag) (Q:St→Hp→Prop),Inv X pins σ H s→Vals vs us→t vs σ H Q →
  wpAny (model X.prog X.w) X.A (assignInOrder ((assignEach ts X.env).map (·.2)) us) (λ_ s'=>∃σ' H',Inv X pins σ' H' s'∧Q σ' H') X.xe s
section
variable {X:Cx}{pos:Pos}
def qz1 (i:Nat):TG:=λv σ H Q=>Q (σ.set i (some v)) H
theorem zh {i:Nat}{x:Str}(hN:X.N.Nodup)(hi:X.N[i]?=some x)(hx:Loc X.env.scope x)(hf:X.fn x=true∨X.env.scope.names.lookup x=some .local:=by first | exact .inl rfl | exact .inr rfl | assumption):PG X (.Name x pos) (qz1 i):=by
 intro pins s σ H v u Q I r h
 exact wpAny_assign_Name (vf I hN hi hx r (λs' I'=>⟨_,H,I',h⟩) hf)
def gNil:TGs:=λvs σ H Q=>vs=[]∧Q σ H
def gCons (t:TG)(u:TGs):TGs:=λvs σ H Q=>∃v r,vs=v::r∧t v σ H λσ' H'=>u r σ' H' Q
theorem qq3:PGs X [] gNil:=by
 intro pins s σ H vs us Q I r h
 obtain ⟨e,h⟩:=h
 subst e
 cases r
 exact assignInOrder_nil ⟨σ,H,I,h⟩
theorem jf {e:Expr}{es:List Expr}{t:TG}{u:TGs}(h1:PG X e t)(h2:PGs X es u)
  (hs:(assignEach (e::es) X.env).map (·.2)=assign e X.env::(assignEach es X.env).map (·.2):=by rfl):PGs X (e::es) (gCons t u):=by
 intro pins s σ H vs us Q I r h
 obtain ⟨v,vr,e1,h⟩:=h
 subst e1
 cases r with
 |cons r rr =>
  rw [hs]
  refine bR (thn (h1 pins s σ H _ _ _ I r h) λ_ s1 ⟨σ1,H1,I1,q1⟩=>?_)
  exact h2 pins s1 σ1 H1 _ _ Q I1 rr q1
def gTup (K:Aa)(n:Nat)(t:TGs):TG:=λv σ H Q=>∃a xs,v=.ref a∧SqT K H a xs∧xs.length=n∧t xs σ H Q
theorem qx1 {es:List Expr}{k:Nat}{t:TGs}{n:Nat}(hc:X.calm=true)(h:PGs X es t)
  (hn:(assignEach es X.env).length=n:=by rfl) (hst:(assignEach es X.env).findIdx? (·.1)=none:=by rfl):PG X (.Tuple es k pos) (gTup X.K n t):=by
 intro pins s σ H v u Q I r hw
 obtain ⟨a,xs,e1,hq,hl,hw⟩:=hw
 subst e1
 cases r
 obtain ⟨its,rv,ht,hz⟩:=I.tuple hq
 refine assign_Tuple_tuple (I.ok.hd hc) ht (by simp [hn,←hl,rv.length]) hst λh' hx=>?_
 have I1:Inv X pins σ H { s with heap:=h' }:=I.kept (t':=s.toks) λb o e=>hx b o (ak (ac e)) e
 exact h pins _ σ H xs _ Q I1 (by simpa using rv) hw
def tAsg (te:TE)(g:TG):TS:=λD σ H=>te σ H λx H1=>g x σ H1 D.nx
theorem ps_asg {tg e:Expr}{te:TE}{g:TG}(he:PE X e te)(hg:PG X tg g)(hs:swapsWithSole [tg] e pos.line X.env=pure false:=by rfl)(hw:swappedStores [tg] e X.env=pure none:=by rfl)
  (h1:(assignEach [tg] X.env).map (·.2)=[assign tg X.env]:=by rfl):PS X (.Assign [tg] e pos) (tAsg te g):=by
 intro pins s σ H D I h
 refine wpAny_Assign_stores (thn (he pins s σ H _ I h) λv s1 ⟨x,H1,I1,r1,q1⟩=>?_) hs hw
 rw [h1]
 exact thn (hg pins s1 σ H1 x v _ I1 r1 q1) λ_ s2 q=>q
theorem wf {i:Nat}{x:Str}{e:Expr}{te:TE}{pos':Pos}(hN:X.N.Nodup)(hi:X.N[i]?=some x)(hx:Loc X.env.scope x)(he:PE X e te)(hs:swapsWith e (some (.Name x pos')) pos.line X.env=pure false:=by rfl)(hf:X.fn x=true∨X.env.scope.names.lookup x=some .local:=by first | exact .inl rfl | exact .inr rfl | assumption) :
  PS X (.Assign [.Name x pos'] e pos) (tAsg te (qz1 i)):=by
 intro pins s σ H D I h
 refine wpAny_Assign_Name (thn (he pins s σ H _ I h) λv s1 ⟨y,H1,I1,r1,q1⟩=>?_) hs
 exact vf I1 hN hi hx r1 (λs2 I2=>⟨_,H1,I2,q1⟩) hf
def tPar (i j:Nat)(ta:TA):TS:=λD σ H=>ta σ H λvs H1=>∃v w,vs=[v,w]∧D.nx ((σ.set i (some v)).set j (some w)) H1
theorem ps_par {i j:Nat}{x y:Str}{a b:Expr}{ta:TA}{px py pt:Pos}{kt k2 pt2}(hc:X.calm=true)(hN:X.N.Nodup)(hi:X.N[i]?=some x)(hj:X.N[j]?=some y)(hij:i≠j)
  (hx:X.env.scope.names.lookup x=some .local) (hy:X.env.scope.names.lookup y=some .local) (ha:PA X [a,b] ta)
  (hw:swappedStores [.Tuple [.Name x px,.Name y py] kt pt] (.Tuple [a,b] k2 pt2) X.env=pure (some [x,y]))
  (hs:swapsWithSole [.Tuple [.Name x px,.Name y py] kt pt] (.Tuple [a,b] k2 pt2) pos.line X.env=pure false:=by rfl) :
  PS X (.Assign [.Tuple [.Name x px,.Name y py] kt pt] (.Tuple [a,b] k2 pt2) pos) (tPar i j ta):=by
 intro pins s σ H D I h
 rw [exec_Assign_arm]
 refine ah (cf ?_)
 rw [hs]
 refine ah (az ?_)
 rw [ax (by decide)]
 refine ah (Tuple_ (thn (ha _ pins s σ H _ I h) λus s1 ⟨vs,H1,I1,r1,q1⟩=>?_))
 obtain ⟨v,w,e1,q1⟩:=q1
 subst e1
 obtain ⟨u1,u2,rfl,rv,rw'⟩:∃u1 u2,us=[u1,u2]∧xx v u1∧xx w u2:=by
  cases r1 with
  |cons p q =>
   cases q with
   |cons p' q' =>
    cases q'
    exact ⟨_,_,rfl,p,p'⟩
 refine ca ?_ (by show 2≤sizeLine;decide)
 have I2:Inv X pins σ H1 { s1 with heap:=s1.heap.push { cls:=.type "tuple",data:=.seq [u1,u2].toArray } }:=I1.kept (t':=s1.toks) λb o e=>aa _ e
 rw [hw]
 refine ah (az ?_)
 show wpAny (model X.prog X.w) X.A (do rule "assign.swapped-stores";let items ←unpackItems (.ref s1.heap.objs.size) 2 none;assignInOrder [λv=>bindName X.env y v,λv=>bindName X.env x v] items.reverse;pure Flow.next) _ _ _
 refine ah (wpAny_rule (ah (unpackItems_tuple (items:=#[u1,u2]) (I.ok.hd hc) (IsTup.new s1.heap _) λh' hx'=>?_)))
 have I3:=I2.kept (h':=h') (t':=s1.toks) λb o e=>hx' b o (ak (ac e)) e
 show wpAny _ _ (assignInOrder [λv=>bindName X.env y v,λv=>bindName X.env x v] [u2,u1] >>= λ_=>pure Flow.next) _ _ _
 refine ah (bR (wpAny_bindName (vf I3 hN hj (.inl hy) rw' (λs2 I4=>?_) (.inr hy))))
 refine bR (wpAny_bindName (vf I4 hN hi (.inl hx) rv (λs3 I5=>assignInOrder_nil (az ?_)) (.inr hx)))
 rw [List.set_comm _ _ (aL hij)] at I5
 exact ⟨_,H1,I5,q1⟩
end
section
variable {X:Cx}{pos:Pos}
def Jx (c:TT)(tb:TS):TS:=λD σ H=>∃W:Nat→St→Hp→Prop,(∃m,W m σ H)∧∀m σ H,W m σ H →
 c σ H λb H1=>if b=true then ∃N:St→Hp→Prop,(∀σ' H',N σ' H'→∃m',m'<m∧W m' σ' H')∧tb { D with nx:=N,ct:=N,bk:=D.nx } σ H1 else D.nx σ H1
theorem qvw {c:Expr}{body:List Stmt}{tc:TT}{tb:TS}(hp:PassesOwn (model X.prog X.w) X.A X.env X.xe)(hc:PT X c tc)(hb:PSs X body tb):PS X (.While c body [] pos) (Jx tc tb):=by
 intro pins s σ H D I h
 obtain ⟨W,⟨m0,w0⟩,turn⟩:=h
 refine wpAny_While (codeAny_whileLoop (λn s'=>∃σ' H',Inv X pins σ' H' s'∧W n σ' H') ?_ m0 ⟨σ,H,I,w0⟩)
 rintro n s1 ⟨σ1,H1,I1,w1⟩
 refine aZ hp (thn (hc pins s1 σ1 H1 _ I1 (turn n σ1 H1 w1)) λb s2 ⟨H2,I2,q2⟩=>?_)
 cases b with
 |true =>
  obtain ⟨N,hN,q2⟩:=q2
  rw [aF rfl]
  refine aZ hp (thn (hb pins s2 σ1 H2 _ I2 q2) λf s3 q3=>?_)
  cases f with
  |next =>
   obtain ⟨σ3,H3,I3,n3⟩:=q3
   obtain ⟨m',hm,w3⟩:=hN σ3 H3 n3
   exact ⟨m',hm,σ3,H3,I3,w3⟩
  |cont =>
   obtain ⟨σ3,H3,I3,n3⟩:=q3
   obtain ⟨m',hm,w3⟩:=hN σ3 H3 n3
   exact ⟨m',hm,σ3,H3,I3,w3⟩
  |brk=>exact q3
  |ret v=>exact q3
 |false =>
  rw [ax al]
  exact bw ⟨σ1,H2,I2,q2⟩
end
structure It where
 go:Nat→Hp→Prop
 yld:Nat→Hp→V→Hp→Prop
 stop:Nat→Hp→Prop
def vq (X:Cx)(pins:List (Aj×Obj))(H:Hp)(b:Aj):Prop :=
 H b=none∧b≠X.env.locals∧b∉X.fs∧(b∈X.ex∨X.s₀.heap.objs.size≤b)∧(∀x c,X.env.cells.lookup x=some c→c≠b)∧∀p∈X.pn++pins,p.1≠b
theorem Inv.fpOk {X:Cx}{pins:List (Aj×Obj)}{σ:St}{H H':Hp}{s:Ab}{b:Aj}(I:Inv X pins σ H s)(hb:s.heap.objs.size≤b)(hn:H' b=none):vq X pins H' b:=by
 refine ⟨hn,Nat.ne_of_gt (ag I.lt hb),I.nofs hb,.inr (aP I.sz hb),λx c e z=>?_,λp hp z=>?_⟩
 ·obtain ⟨v,q⟩:=I.cell x c e
  exact absurd (ag q.lt (by rw [z];exact hb)) (aD _)
 ·exact absurd (ag (ac (I.pin p hp).1) (by rw [z];exact hb)) (aD _)
structure Turn (P:Ac)(w:Ah)(K:Aa)(tg:Expr)(J:It)(fp:List Aj)(it:Aj)(tn:Nat→Heap→Prop):Prop where
 mem:it∈fp
 obj:∀i h,tn i h→∀b∈fp,∃o,h.get? b=some o∧∀v,o.data≠.cell v
 keep:∀i h h',tn i h→(∀b∈fp,∀o,h.get? b=some o→h'.get? b=some o)→tn i h'
 item:∀(X:Cx),X.prog=P→X.w=w→X.K=K→X.calm=true→∀(i:Nat) (pins:List (Aj×Obj)) (s:Ab) (σ:St) (H:Hp) (E:Ag→Ab→Prop),Inv X pins σ H s→(∀b∈fp,vq X pins H b)→tn i s.heap→J.go i H →
  wpAny (model P w) X.A (pyNext (.ref it)) (λr s1=>∃u,r=some u ∧
   wpAny (model P w) X.A (letOwnedTupleGo tg (.ref it) u) (λ_ s2=>∃x H',Inv X pins σ H' s2∧xx x u∧J.yld i H x H'∧tn (i+1) s2.heap∧∀b∈fp,H' b=none) E s1) E s
 done:∀(X:Cx),X.prog=P→X.w=w→X.K=K→X.calm=true→∀(i:Nat) (pins:List (Aj×Obj)) (s:Ab) (σ:St) (H:Hp) (E:Ag→Ab→Prop),Inv X pins σ H s→(∀b∈fp,vq X pins H b)→tn i s.heap→J.stop i H →
  wpAny (model P w) X.A (pyNext (.ref it)) (λr s1=>r=none∧Inv X pins σ H s1) E s
 self:∀(A:Ae) (i:Nat) (s:Ab) (Q:Ag→Ab→Prop) (E:Ag→Ab→Prop),tn i s.heap→Q (.ref it) s→wpAny (model P w) A (pyIter (.ref it)) Q E s
abbrev TI:=St→Hp→(It→Hp→Prop)→Prop
def PIE (X:Cx)(pins:List (Aj×Obj))(σ:St)(tg:Expr)(R:It→Hp→Prop)(itv:Ag)(s2:Ab):Prop :=
 ∃(it:Aj) (fp:List Aj) (tn:Nat→Heap→Prop) (J:It) (H':Hp),itv=.ref it∧Inv X pins σ H' s2∧Turn X.prog X.w X.K tg J fp it tn∧tn 0 s2.heap∧(∀b∈fp,vq X pins H' b)∧R J H'
def PI (X:Cx)(tg iter:Expr)(wi:TI):Prop :=
 ∀(pins:List (Aj×Obj)) (s:Ab) (σ:St) (H:Hp) (R:It→Hp→Prop),Inv X pins σ H s→wi σ H R →
  wpAny (model X.prog X.w) X.A (eval iter X.env) (λv s1=>wpAny (model X.prog X.w) X.A (pyIter v) (PIE X pins σ tg R) X.xe s1) X.xe s
theorem qqt {M:Model}{A:Ae}{E:Ag→Ab→Prop}{s:Ab}{tg:Expr}{it:Aj}{u:Ag}{o:Obj}{n:String}{vs:Array Ag}{Q:Unit→Ab→Prop}(ho:s.heap.get? it=some o)(hc:o.cls=.type n)(hd:o.data=.fields vs)
  (hn:["enumerate","zip","dict_itemiterator","dict_reverseitemiterator","odict_iterator","itertools.zip_longest","itertools.pairwise"].contains n=false) (hQ:Q () s):wpAny M A (letOwnedTupleGo tg (.ref it) u) Q E s:=by
 unfold letOwnedTupleGo
 cases tg <;> first
  |exact az hQ
  |(cases u <;> first
    |exact az hQ
    |(refine ah (wpAny_load ho ?_)
      rw [hc,hd]
      show wpAny M A (if (["enumerate","zip","dict_itemiterator","dict_reverseitemiterator","odict_iterator","itertools.zip_longest","itertools.pairwise"].contains n&&vs[0]?==some (rawInt _))=true then _ else _) Q E s
      rw [ax (by intro h;rw [hn,Bool.false_and] at h;cases h)]
      exact az hQ))
def Itr (lo:Int)(n:Nat):It:=⟨λi _=>i<n,λi H x H'=>H'=H∧x=.int (lo+i),λi _=>n≤i⟩
theorem qqw {P:Ac}{w:Ah}{K:Aa}{tg:Expr}(it:Aj)(lo:Int)(n:Nat):Turn P w K tg (Itr lo n) [it] it (λi h=>IsRangeIter h it (lo+(i:Nat)*1) ((n:Int)-(i:Nat)) 1) where
 mem:=by simp
 obj:=λi h st b hb=>by
  have e:b=it:=by simpa using hb
  subst e
  exact ⟨_,st,λv z=>by
   have z':Data.fields _=Data.cell v:=z
   cases z'⟩
 keep:=λi h h' st k=>k it (by simp) _ st
 item:=by
  intro X hP hw hK hc i pins s σ H E I hf st hg
  subst hP hw hK
  obtain ⟨f0,f1,f2,f3,f4,f5⟩:=hf it (by simp)
  have W:=Walks.range (prog:=X.prog) (w:=X.w) (I.ok.hd hc) it lo 1 n
  refine W.item i s _ _ hg st λv h' tk hv st' kk=>?_
  obtain ⟨t,rfl⟩:=hv
  have I1:Inv X pins σ H { s with heap:=h',toks:=tk }:=I.turned (λb o hb e=>kk b o (by simpa using hb) e) f0 f1 f3 f4 f5
  refine ⟨_,rfl,qqt (s:={ s with heap:=h',toks:=tk }) (n := "range_iterator") st' rfl rfl (by decide) ⟨.int (lo+i),H,I1,⟨t,?_⟩,⟨rfl,rfl⟩,st',λb hb=>(hf b hb).1⟩⟩
  rw [Int.mul_one]
 done:=by
  intro X hP hw hK hc i pins s σ H E I hf st hg
  subst hP hw hK
  obtain ⟨f0,f1,f2,f3,f4,f5⟩:=hf it (by simp)
  exact wpAny_pyNext_range_end (I.ok.hd hc) st (by have:n≤i:=hg;lia) λh' eb=>⟨rfl,I.turned (t':=s.toks) (λb o hb e=>eb b o hb e) f0 f1 f3 f4 f5⟩
 self:=λ_ _ _ _ _ st h=>wpAny_pyIter_rangeiter st h
section
variable {X:Cx}{tg:Expr}
theorem qzq {pins:List (Aj×Obj)}{σ:St}{H:Hp}{s:Ab}{R:It→Hp→Prop}{E:Ag→Ab→Prop}{lo hi:Int}{t u v:Tok}{tk:Nat}(I:Inv X pins σ H s)(h1:-(2 ^ 62)≤lo)(h2:lo<2 ^ 62)(h3:-(2 ^ 62)≤hi)(h4:hi<2 ^ 62)
  (q:R (Itr lo (hi-lo).toNat) H):wpAny (model X.prog X.w) X.A (pyIter (.ref s.heap.objs.size)) (PIE X pins σ tg R) E { s with heap:=s.heap.push { cls:=.type "range",data:=.fields #[.int lo t,.int hi u,.int 1 v] },toks:=tk }:=by
 refine wpAny_pyIter_range (IsRange.new ..) (small_one h1 h2 h3 h4) ?_
 have I1:Inv X pins σ H { s with heap:=s.heap.push { cls:=.type "range",data:=.fields #[.int lo t,.int hi u,.int 1 v] },toks:=tk }:=I.kept λb o e=>aa _ e
 refine ⟨(s.heap.push { cls:=.type "range",data:=.fields #[.int lo t,.int hi u,.int 1 v] }).objs.size,[(s.heap.push { cls:=.type "range",data:=.fields #[.int lo t,.int hi u,.int 1 v] }).objs.size],_,_,H,rfl,
  I1.kept (t':=tk) λb o e=>aa _ e,qqw _ lo (hi-lo).toNat,?_,λb hb=>?_,q⟩
 ·have e1:lo+((0:Nat):Int)*1=lo:=by simp
  have e2:(((hi-lo).toNat:Nat):Int)-((0:Nat):Int)=Builtin.Range.rangeSize lo hi 1:=by rw [rangeSize_one];split <;> lia
  show IsRangeIter _ _ (lo+((0:Nat):Int)*1) ((((hi-lo).toNat:Nat):Int)-((0:Nat):Int)) 1
  rw [e1,e2]
  exact ai _ rfl
 ·have e:b=(s.heap.push { cls:=.type "range",data:=.fields #[.int lo t,.int hi u,.int 1 v] }).objs.size:=by simpa using hb
  subst e
  exact I1.fpOk (ae _) (I1.hok.fresh (ae _))
def iRng1 (ta:TA):TI:=λσ H R=>ta σ H λvs H1=>∃j:Int,vs=[.int j]∧-(2 ^ 62)≤j∧j<2 ^ 62∧R (Itr 0 j.toNat) H1
theorem v3 {a:Expr}{ta:TA}{p pos:Pos}(hg:Gl X "range")(hm:X.mg "range" = none)(ha:PA X [a] ta)(hs:starEach [a] X.env=[(false,eval a X.env)]:=by rfl):PI X tg (.Call (.Name "range" p) [a] [] pos) (iRng1 ta):=by
 intro pins s σ H R I h
 refine Call_ (qqj I hg hm boot_range (bL (thn (ha pos pins s σ H _ I h) λus s1 ⟨vs,H1,I1,r1,q1⟩=>?_) hs rfl))
 obtain ⟨j,e,q1,q2,q⟩:=q1
 subst e
 cases r1 with
 |cons r rr =>
  cases rr
  obtain ⟨t,rfl⟩:=r
  exact call_range_1 (qzq I1 (by lia) (by lia) q1 q2 (by simpa using q))
def tFor (wi:TI)(g:TG)(tb:TS):TS:=λD σ H=>wi σ H λJ H1=>∃W:Nat→Nat→St→Hp→Prop,(∃m,W 0 m σ H1)∧∀i m σ H,W i m σ H →
 (J.stop i H∧D.nx σ H)∨(J.go i H∧∃N:St→Hp→Prop,(∀σ' H',N σ' H'→∃m',m'<m∧W (i+1) m' σ' H')∧∀x H',J.yld i H x H'→g x σ H' λσ2 H2=>tb { D with nx:=N,ct:=N,bk:=D.nx } σ2 H2)
def W7 (fp:List Aj)(h:Heap):List (Aj×Obj):=fp.filterMap λb=>(h.get? b).map λo=>(b,o)
theorem vk {fp:List Aj}{h:Heap}{b:Aj}{o:Obj}(hb:b∈fp)(e:h.get? b=some o):(b,o)∈W7 fp h:=bS.mpr ⟨b,hb,by rw [e];rfl⟩
theorem qwh {fp:List Aj}{h:Heap}{p:Aj×Obj}(hp:p∈W7 fp h):p.1∈fp∧h.get? p.1=some p.2:=by
 obtain ⟨b,hb,e⟩:=bS.mp hp
 cases q:h.get? b with
 |none=>rw [q] at e;cases e
 |some o =>
  rw [q] at e
  have e':(b,o)=p:=ao e
  subst e'
  exact ⟨hb,q⟩
theorem Inv.pinned {pins:List (Aj×Obj)}{σ:St}{H:Hp}{s:Ab}{fp:List Aj}(I:Inv X pins σ H s)(hf:∀b∈fp,vq X pins H b)(ho:∀b∈fp,∃o,s.heap.get? b=some o∧∀v,o.data≠.cell v):Inv X (pins++W7 fp s.heap) σ H s :=
 I.pins_of λp hp=>(aR.mp hp).elim (λz=>I.pin p (ap _ z)) λz=>by
  obtain ⟨hb,e⟩:=qwh z
  obtain ⟨f0,f1,f2,_⟩:=hf p.1 hb
  obtain ⟨o,e',d⟩:=ho p.1 hb
  rw [e] at e';cases e'
  exact ⟨e,f0,f1,f2,d⟩
theorem Inv.unpinned {pins pl:List (Aj×Obj)}{σ:St}{H:Hp}{s:Ab}(I:Inv X (pins++pl) σ H s):Inv X pins σ H s:=I.pins_of λp hp=>I.pin p (ap _ (bp _ hp))
theorem Z2 {iter:Expr}{body:List Stmt}{wi:TI}{g:TG}{tb:TS}{pos:Pos}(hp:PassesOwn (model X.prog X.w) X.A X.env X.xe)(hc:X.calm=true)(hi:PI X tg iter wi)(hg:PG X tg g)(hb:PSs X body tb)
  (hs:∀x,foldedSetIterable iter X.env x=pure x:=by intro _;rfl):PS X (.For tg iter body [] pos) (tFor wi g tb):=by
 intro pins s σ H D I h
 refine wpAny_For (thn (hi pins s σ H _ I h) λv s1 h1=>thn h1 λitv s2 h2=>?_) hs
 obtain ⟨it,fp,tn,J,H2,e,I2,T,st2,f2,W,⟨m0,w0⟩,turn⟩:=h2
 subst e
 have stat:∀ {H':Hp},(∀b∈fp,H' b=none)→∀b∈fp,vq X pins H' b:=λhn b hb=>⟨hn b hb,(f2 b hb).2⟩
 refine codeAny_forLoop_any (λn s'=>∃i σ' H',Inv X pins σ' H' s'∧tn i s'.heap∧(∀b∈fp,H' b=none)∧W i n σ' H') ?_ m0 ⟨0,σ,H2,I2,st2,λb hb=>(f2 b hb).1,w0⟩
 rintro n s3 ⟨i,σ3,H3,I3,st3,fr3,w3⟩
 rcases turn i n σ3 H3 w3 with ⟨stop,qn⟩|⟨go,N,hN,step⟩
 ·refine aZ hp (thn (T.done X rfl rfl rfl hc i pins s3 σ3 H3 X.xe I3 (stat fr3) st3 stop) λr s4 ⟨hr,I4⟩=>?_)
  subst hr
  exact bw ⟨σ3,H3,I4,qn⟩
 ·refine aZ hp (thn (T.item X rfl rfl rfl hc i pins s3 σ3 H3 X.xe I3 (stat fr3) st3 go) λr s4 ⟨u,hr,h4⟩=>?_)
  subst hr
  refine aZ hp (thn h4 λ_ s5 ⟨x,H5,I5,r5,y5,st5,fr5⟩=>?_)
  have I5':=I5.pinned (stat fr5) (T.obj _ _ st5)
  refine aZ hp (thn (hg _ s5 σ3 H5 x u _ I5' r5 (step x H5 y5)) λ_ s6 ⟨σ6,H6,I6,q6⟩=>?_)
  refine aZ hp (thn (hb _ s6 σ6 H6 _ I6 q6) λf s7 q7=>?_)
  have again:∀ {σ7:St} {H7:Hp},Inv X (pins++W7 fp s5.heap) σ7 H7 s7→N σ7 H7→∃m,m<n∧∃i σ' H',Inv X pins σ' H' s7∧tn i s7.heap∧(∀b∈fp,H' b=none)∧W i m σ' H':=λ{σ7 H7} I7 n7=>by
   obtain ⟨m',hm,w7⟩:=hN σ7 H7 n7
   refine ⟨m',hm,i+1,σ7,H7,I7.unpinned,T.keep _ _ _ st5 λb hb o e=>(I7.pin (b,o) (ap _ (ap _ (vk hb e)))).1,λb hb=>?_,w7⟩
   obtain ⟨o,e,d⟩:=T.obj _ _ st5 b hb
   exact (I7.pin (b,o) (ap _ (ap _ (vk hb e)))).2.1
  cases f with
  |next=>obtain ⟨σ7,H7,I7,n7⟩:=q7;exact again I7 n7
  |cont=>obtain ⟨σ7,H7,I7,n7⟩:=q7;exact again I7 n7
  |brk=>obtain ⟨σ7,H7,I7,q7⟩:=q7;exact ⟨σ7,H7,I7.unpinned,q7⟩
  |ret v=>obtain ⟨x7,σ7,H7,I7,r7,q7⟩:=q7;exact ⟨x7,σ7,H7,I7.unpinned,r7,q7⟩
end
theorem yw {lo:Int}{n:Nat}{g:TG}{tb:TS}{D:Ends}{σ:St}{H:Hp}(Pv:Nat→St→Hp→Prop)(h0:Pv 0 σ H)
  (hs:∀i σ H,i<n→Pv i σ H→g (.int (lo+i)) σ H λσ2 H2=>tb { D with nx:=Pv (i+1),ct:=Pv (i+1),bk:=D.nx } σ2 H2) (hd:∀σ H,Pv n σ H→D.nx σ H) :
  ∃W:Nat→Nat→St→Hp→Prop,(∃m,W 0 m σ H)∧∀i m σ H,W i m σ H →
   ((Itr lo n).stop i H∧D.nx σ H)∨((Itr lo n).go i H∧∃N:St→Hp→Prop,(∀σ' H',N σ' H'→∃m',m'<m∧W (i+1) m' σ' H')∧∀x H',(Itr lo n).yld i H x H'→g x σ H' λσ2 H2=>tb { D with nx:=N,ct:=N,bk:=D.nx } σ2 H2):=by
 refine ⟨λi m σ H=>m=n-i∧i≤n∧Pv i σ H,⟨n,by simp,aA _,h0⟩,?_⟩
 rintro i m σ H ⟨rfl,hi,p⟩
 by_cases hlt:i<n
 ·refine .inr ⟨hlt,Pv (i+1),λσ' H' p'=>⟨n-(i+1),by lia,rfl,hlt,p'⟩,λx H' y=>?_⟩
  obtain ⟨e,y⟩:=y
  subst e y
  exact hs i σ _ hlt p
 ·have e:i=n:=by lia
  subst e
  exact .inl ⟨ae _,hd σ H p⟩
theorem qx2 {c:TT}{tb:TS}{D:Ends}{σ:St}{H:Hp}(Pv:St→Hp→Prop)(μ:St→Hp→Nat)(h0:Pv σ H)
  (hs:∀σ H,Pv σ H→c σ H λb H1=>if b=true then tb { D with nx:=λσ' H'=>Pv σ' H'∧μ σ' H'<μ σ H,ct:=λσ' H'=>Pv σ' H'∧μ σ' H'<μ σ H,bk:=D.nx } σ H1 else D.nx σ H1)
  (mono:∀σ H Q Q',(∀b H1,Q b H1→Q' b H1)→c σ H Q→c σ H Q'):Jx c tb D σ H:=by
 refine ⟨λm σ H=>m=μ σ H∧Pv σ H,⟨_,rfl,h0⟩,?_⟩
 rintro m σ H ⟨rfl,p⟩
 refine mono σ H _ _ (λb H1 q=>?_) (hs σ H p)
 cases b with
 |true=>exact ⟨_,λσ' H' ⟨p',l⟩=>⟨_,l,rfl,p'⟩,q⟩
 |false=>exact q
abbrev R2:=V→V→Hp→VK→Prop
def OpR (X:Cx)(f:Ag→Ag→Sem Ag)(r:R2):Prop :=
 ∀(pins:List (Aj×Obj)) (s:Ab) (σ:St) (H:Hp) (x y:V) (v u:Ag) (Q:VK),Inv X pins σ H s→xx x v→xx y u→r x y H Q →
  wpAny (model X.prog X.w) X.A (f v u) (EP X pins σ Q) X.xe s
def UnR (X:Cx)(f:Ag→Sem Ag)(r:V→Hp→VK→Prop):Prop :=
 ∀(pins:List (Aj×Obj)) (s:Ab) (σ:St) (H:Hp) (x:V) (v:Ag) (Q:VK),Inv X pins σ H s→xx x v→r x H Q →
  wpAny (model X.prog X.w) X.A (f v) (EP X pins σ Q) X.xe s
def jn (X:Cx)(f:Ag)(r:List V→Hp→VK→Prop):Prop :=
 ∀(pins:List (Aj×Obj)) (s:Ab) (σ:St) (H:Hp) (xs:List V) (us:List Ag) (Q:VK),Inv X pins σ H s→Vals xs us→r xs H Q →
  wpAny (model X.prog X.w) X.A (call f us) (EP X pins σ Q) X.xe s
def tOp (r:R2)(ta tb:TE):TE:=λσ H Q=>ta σ H λx H1=>tb σ H1 λy H2=>r x y H2 Q
def tUn (r:V→Hp→VK→Prop)(ta:TE):TE:=λσ H Q=>ta σ H λx H1=>r x H1 Q
def rI (C:Int→Int→Prop)(g:Int→Int→V):R2:=λx y H Q=>∃i j,x=.int i∧y=.int j∧C i j∧Q (g i j) H
def rI0 (g:Int→Int→V):R2:=λx y H Q=>∃i j,x=.int i∧y=.int j∧Q (g i j) H
def rU (g:Int→V):V→Hp→VK→Prop:=λx H Q=>∃i,x=.int i∧Q (g i) H
section
variable {X:Cx}{a b c:Expr}{ta tb tc:TE}{pos:Pos}
theorem binT (ha:PE X a ta)(hb:PE X b tb){pins:List (Aj×Obj)}{s:Ab}{σ:St}{H:Hp}{R:V→V→Hp→Prop}(I:Inv X pins σ H s)
  (h:ta σ H λx H1=>tb σ H1 λy H2=>R x y H2) {Q:Ag→Ab→Prop} {f:Ag→Ag→Sem Ag}
  (hf:∀v u s2 x y H2,Inv X pins σ H2 s2→xx x v→xx y u→R x y H2→wpAny (model X.prog X.w) X.A (f v u) Q X.xe s2) :
  wpAny (model X.prog X.w) X.A (eval a X.env) (λv s₁=>wpAny (model X.prog X.w) X.A (eval b X.env) (λu s₂=>wpAny (model X.prog X.w) X.A (f v u) Q X.xe s₂) X.xe s₁) X.xe s:=by
 refine thn (ha pins s σ H _ I h) λv s1 ⟨x,H1,I1,r1,q1⟩=>?_
 refine thn (hb pins s1 σ H1 _ I1 q1) λu s2 ⟨y,H2,I2,r2,q2⟩=>?_
 exact hf v u s2 x y H2 I2 r1 r2 q2
theorem wr {op:Operator}{r:R2}(ho:OpR X (binaryOp op) r)(ha:PE X a ta)(hb:PE X b tb):PE X (.BinOp a op b pos) (tOp r ta tb):=by
 intro pins s σ H Q I h
 exact wpAny_BinOp (binT ha hb I h λv u s2 x y H2 I2 rx ry q=>ho pins s2 σ H2 x y v u Q I2 rx ry q)
theorem qwu {op:UnaryOp}{r:V→Hp→VK→Prop}(ho:UnR X (unaryOp op) r)(ha:PE X a ta):PE X (.UnaryOp op a pos) (tUn r ta):=by
 intro pins s σ H Q I h
 exact UnaryOp_ (thn (ha pins s σ H _ I h) λv s1 ⟨x,H1,I1,r1,q1⟩=>ho pins s1 σ H1 x v Q I1 r1 q1)
theorem opI {f:Ag→Ag→Sem Ag}{C:Int→Int→Prop}{g:Int→Int→Int}
  (rule:∀(i j:Int) (t u:Tok) (s:Ab) (Q:Ag→Ab→Prop) (E:Ag→Ab→Prop),C i j→Q (.int (g i j) s.toks) { s with toks:=s.toks+1 }→wpAny (model X.prog X.w) X.A (f (.int i t) (.int j u)) Q E s) :
  OpR X f (rI C λi j=>.int (g i j)):=by
 intro pins s σ H x y v u Q I rx ry h
 obtain ⟨i,j,rfl,rfl,hc,q⟩:=h
 obtain ⟨t,rfl⟩:=rx
 obtain ⟨t',rfl⟩:=ry
 exact rule i j t t' s _ _ hc ⟨.int (g i j),H,I.tok _,⟨_,rfl⟩,q⟩
theorem opI0 {f:Ag→Ag→Sem Ag}{g:Int→Int→Int}
  (rule:∀(i j:Int) (t u:Tok) (s:Ab) (Q:Ag→Ab→Prop) (E:Ag→Ab→Prop),Q (.int (g i j) s.toks) { s with toks:=s.toks+1 }→wpAny (model X.prog X.w) X.A (f (.int i t) (.int j u)) Q E s) :
  OpR X f (rI0 λi j=>.int (g i j)):=by
 intro pins s σ H x y v u Q I rx ry h
 obtain ⟨i,j,rfl,rfl,q⟩:=h
 obtain ⟨t,rfl⟩:=rx
 obtain ⟨t',rfl⟩:=ry
 exact rule i j t t' s _ _ ⟨.int (g i j),H,I.tok _,⟨_,rfl⟩,q⟩
theorem opB0 {f:Ag→Ag→Sem Ag}{g:Int→Int→Bool}
  (rule:∀(i j:Int) (t u:Tok) (s:Ab) (Q:Ag→Ab→Prop) (E:Ag→Ab→Prop),Q (.bool (g i j)) s→wpAny (model X.prog X.w) X.A (f (.int i t) (.int j u)) Q E s) :
  OpR X f (rI0 λi j=>.bl (g i j)):=by
 intro pins s σ H x y v u Q I rx ry h
 obtain ⟨i,j,rfl,rfl,q⟩:=h
 obtain ⟨t,rfl⟩:=rx
 obtain ⟨t',rfl⟩:=ry
 exact rule i j t t' s _ _ ⟨.bl (g i j),H,I,rfl,q⟩
def CPow (i j:Int):Prop:=0≤j∧j≤1000000∧i.natAbs<2 ^ 64
theorem xh:OpR X (binaryOp .Add) (rI0 λi j=>.int (i+j)):=opI0 λ_ _ _ _ _ _ _ q=>add_int q
theorem Zx:OpR X (binaryOp .Sub) (rI0 λi j=>.int (i-j)):=opI0 λ_ _ _ _ _ _ _ q=>sub_int q
theorem vj:OpR X (binaryOp .Mod) (rI (λ_ j=>0<j) λi j=>.int (i%j)):=opI λi j _ _ _ _ _ hc q=>by
 have h1:(0:Int)<j:=hc
 exact mod_int' (by lia) (by rw [Int.fmod_eq_emod_of_nonneg i (by lia)];exact q)
theorem qz0:OpR X (binaryOp .Pow) (rI CPow λi j=>.int (i ^ j.toNat)):=opI λ_ _ _ _ _ _ _ hc q=>pow_int_small hc.1 hc.2.1 hc.2.2 q
theorem unI {f:Ag→Sem Ag}{g:Int→Int}
  (rule:∀(i:Int) (t:Tok) (s:Ab) (Q:Ag→Ab→Prop) (E:Ag→Ab→Prop),Q (.int (g i) s.toks) { s with toks:=s.toks+1 }→wpAny (model X.prog X.w) X.A (f (.int i t)) Q E s) :
  UnR X f (rU λi=>.int (g i)):=by
 intro pins s σ H x v Q I rx h
 obtain ⟨i,rfl,q⟩:=h
 obtain ⟨t,rfl⟩:=rx
 exact rule i t s _ _ ⟨.int (g i),H,I.tok _,⟨_,rfl⟩,q⟩
theorem Z1:UnR X (unaryOp .USub) (rU λi=>.int (-i)):=unI λ_ _ _ _ _ q=>neg_int q
end
def scal:V→V→Bool
 |.non,.non=>true|.non,.int _=>true|.int _,.non=>true|.non,.bl _=>true|.bl _,.non=>true|.non,.str _=>true|.str _,.non=>true
 |.int _,.int _=>true|.bl _,.bl _=>true|.str _,.str _=>true|.byt _,.byt _=>true
 |.int _,.str _=>true|.str _,.int _=>true|.bl _,.str _=>true|.str _,.bl _=>true
 |_,_=>false
def rEq:R2:=λx y H Q=>scal x y=true∧Q (.bl (decide (x=y))) H
def rNe:R2:=λx y H Q=>scal x y=true∧Q (.bl (!decide (x=y))) H
theorem qwb {i j:Int}:decide (V.int i=V.int j)=(i==j):=by
 rw [bx]
 simp
theorem qx9 {i j:Bool}:decide (V.bl i=V.bl j)=(i==j):=by
 rw [bx]
 simp
theorem qq2 {i j:Str}:decide (V.str i=V.str j)=(i==j):=by
 rw [bx]
 simp
theorem qwk {i j:Array UInt8}:decide (V.byt i=V.byt j)=(i.toList==j.toList):=by
 rw [bx]
 cases i
 cases j
 simp
section
variable {X:Cx}{a b c:Expr}{ta tb tc:TE}{pos:Pos}
theorem w6 {pins:List (Aj×Obj)}{σ:St}{H:Hp}{s:Ab}{Q:VK}{k k':Bool}(I:Inv X pins σ H s)(q:Q (.bl k) H)(e:k=k'):EP X pins σ Q (.bool k') s:=by
 subst e
 exact ⟨.bl k,H,I,rfl,q⟩
theorem xp:OpR X (compareOp .Eq) rEq:=by
 intro pins s σ H x y v u Q I rx ry h
 obtain ⟨hs,q⟩:=h
 cases x with
 |non =>
  cases rx
  cases y with
  |non=>cases ry;exact PySem.EqNone.eq_none_none (w6 I q (by simp))
  |bl j=>cases ry;exact PySem.EqNone.eq_none_bool (w6 I q (by simp))
  |int j=>obtain ⟨t',rfl⟩:=ry;exact PySem.EqNone.eq_none_int (w6 I q (by simp))
  |str j=>obtain ⟨t',rfl⟩:=ry;exact PySem.EqNone.eq_none_str (w6 I q (by simp))
  |_=>exact absurd (show false=true from hs) al
 |bl i =>
  cases rx
  cases y with
  |non=>cases ry;exact PySem.EqNone.eq_bool_none (w6 I q (by simp))
  |bl j=>cases ry;exact eq_bool (w6 I q qx9)
  |str j=>obtain ⟨t',rfl⟩:=ry;exact PySem.EqMixed.eq_bool_str (w6 I q (by simp))
  |_=>exact absurd (show false=true from hs) al
 |int i =>
  obtain ⟨t,rfl⟩:=rx
  cases y with
  |non=>cases ry;exact PySem.EqNone.eq_int_none (w6 I q (by simp))
  |int j=>obtain ⟨t',rfl⟩:=ry;exact eq_int (w6 I q qwb)
  |str j=>obtain ⟨t',rfl⟩:=ry;exact PySem.EqMixed.eq_int_str (w6 I q (by simp))
  |_=>exact absurd (show false=true from hs) al
 |str i =>
  obtain ⟨t,rfl⟩:=rx
  cases y with
  |non=>cases ry;exact PySem.EqNone.eq_str_none (w6 I q (by simp))
  |bl j=>cases ry;exact PySem.EqMixed.eq_str_bool (w6 I q (by simp))
  |int j=>obtain ⟨t',rfl⟩:=ry;exact PySem.EqMixed.eq_str_int (w6 I q (by simp))
  |str j=>obtain ⟨t',rfl⟩:=ry;exact eq_str (w6 I q qq2)
  |_=>exact absurd (show false=true from hs) al
 |byt i =>
  obtain ⟨t,rfl⟩:=rx
  cases y with
  |byt j=>obtain ⟨t',rfl⟩:=ry;exact PySem.W.eq_bytes (w6 I q qwk)
  |_=>exact absurd (show false=true from hs) al
 |_=>cases y <;> exact absurd (show false=true from hs) al
theorem qx3:OpR X (compareOp .NotEq) rNe:=by
 intro pins s σ H x y v u Q I rx ry h
 obtain ⟨hs,q⟩:=h
 cases x with
 |non =>
  cases rx
  cases y with
  |non=>cases ry;exact PySem.EqNone.ne_none_none (w6 I q (by simp))
  |bl j=>cases ry;exact PySem.EqNone.ne_none_bool (w6 I q (by simp))
  |int j=>obtain ⟨t',rfl⟩:=ry;exact PySem.EqNone.ne_none_int (w6 I q (by simp))
  |str j=>obtain ⟨t',rfl⟩:=ry;exact PySem.EqNone.ne_none_str (w6 I q (by simp))
  |_=>exact absurd (show false=true from hs) al
 |bl i =>
  cases rx
  cases y with
  |non=>cases ry;exact PySem.EqNone.ne_bool_none (w6 I q (by simp))
  |bl j=>cases ry;exact ne_bool (w6 I q (bH not qx9))
  |str j=>obtain ⟨t',rfl⟩:=ry;exact PySem.EqMixed.ne_bool_str (w6 I q (by simp))
  |_=>exact absurd (show false=true from hs) al
 |int i =>
  obtain ⟨t,rfl⟩:=rx
  cases y with
  |non=>cases ry;exact PySem.EqNone.ne_int_none (w6 I q (by simp))
  |int j=>obtain ⟨t',rfl⟩:=ry;exact ne_int (w6 I q (bH not qwb))
  |str j=>obtain ⟨t',rfl⟩:=ry;exact PySem.EqMixed.ne_int_str (w6 I q (by simp))
  |_=>exact absurd (show false=true from hs) al
 |str i =>
  obtain ⟨t,rfl⟩:=rx
  cases y with
  |non=>cases ry;exact PySem.EqNone.ne_str_none (w6 I q (by simp))
  |bl j=>cases ry;exact PySem.EqMixed.ne_str_bool (w6 I q (by simp))
  |int j=>obtain ⟨t',rfl⟩:=ry;exact PySem.EqMixed.ne_str_int (w6 I q (by simp))
  |str j=>obtain ⟨t',rfl⟩:=ry;exact ne_str (w6 I q (bH not qq2))
  |_=>exact absurd (show false=true from hs) al
 |byt i =>
  obtain ⟨t,rfl⟩:=rx
  cases y with
  |byt j=>obtain ⟨t',rfl⟩:=ry;exact PySem.W.ne_bytes (w6 I q (bH not qwk))
  |_=>exact absurd (show false=true from hs) al
 |_=>cases y <;> exact absurd (show false=true from hs) al
theorem Qj:OpR X (compareOp .Lt) (rI0 λi j=>.bl (decide (i<j))):=opB0 λ_ _ _ _ _ _ _ q=>lt_int q
theorem op_le:OpR X (compareOp .LtE) (rI0 λi j=>.bl (decide (i≤j))):=opB0 λ_ _ _ _ _ _ _ q=>le_int q
theorem Wb:OpR X (compareOp .Gt) (rI0 λi j=>.bl (decide (j<i))):=opB0 λ_ _ _ _ _ _ _ q=>gt_int q
theorem op_ge:OpR X (compareOp .GtE) (rI0 λi j=>.bl (decide (j≤i))):=opB0 λ_ _ _ _ _ _ _ q=>ge_int q
theorem qxq:OpR X (compareOp .In) (λx y H Q=>∃i j,x=.str i∧y=.str j∧Q (.bl (!(Builtin.Str.occurrences j i 0 j.length 1).isEmpty)) H):=by
 intro pins s σ H x y v u Q I rx ry h
 obtain ⟨i,j,rfl,rfl,q⟩:=h
 obtain ⟨t,rfl⟩:=rx
 obtain ⟨t',rfl⟩:=ry
 exact in_str (w6 I q rfl)
theorem op_isN:OpR X (compareOp .Is) (λx y H Q=>y=.non∧Q (.bl (decide (x=.non))) H):=by
 intro pins s σ H x y v u Q I rx ry h
 obtain ⟨rfl,q⟩:=h
 cases ry
 refine is_none_gen (w6 I q ?_)
 cases x <;> first
  |(cases rx;rfl)
  |(obtain ⟨t,rfl⟩:=rx;rfl)
theorem qkj:OpR X (compareOp .IsNot) (λx y H Q=>y=.non∧Q (.bl (!decide (x=.non))) H):=by
 intro pins s σ H x y v u Q I rx ry h
 obtain ⟨rfl,q⟩:=h
 cases ry
 refine isnot_none_gen (w6 I q ?_)
 cases x <;> first
  |(cases rx;rfl)
  |(obtain ⟨t,rfl⟩:=rx;rfl)
theorem wm (b:Expr){op:CmpOp}(h:op≠.In:=by decide)(h2:op≠.NotIn:=by decide):behindInMarks op b=false:=by
 have e1:(op==CmpOp.In)=false:=by cases op <;> first | rfl | exact absurd rfl h
 have e2:(op==CmpOp.NotIn)=false:=by cases op <;> first | rfl | exact absurd rfl h2
 cases b <;> simp [behindInMarks,e1,e2]
theorem y8 {op:CmpOp}{r:R2}(ho:OpR X (compareOp op) r)(ha:PE X a ta)(hb:PE X b tb)(hm:behindInMarks op b=false):PE X (.Compare a [op] [b] pos) (tOp r ta tb):=by
 intro pins s σ H Q I h
 exact wpAny_Compare1 (binT ha hb I h λv u s2 x y H2 I2 rx ry q=>ho pins s2 σ H2 x y v u Q I2 rx ry q) hm
def tTest (t:TE):TT:=λσ H Q=>t σ H λx H'=>∃k,x=.bl k∧Q k H'
theorem wu {op:CmpOp}{r:R2}(ho:OpR X (compareOp op) r)(ha:PE X a ta)(hb:PE X b tb)(hm:behindInMarks op b=false):PT X (.Compare a [op] [b] pos) (tTest (tOp r ta tb)):=by
 intro pins s σ H Q I h
 refine wpAny_isTrue_Compare1 (thn (ha pins s σ H _ I h) λv s1 ⟨x,H1,I1,r1,q1⟩=>thn (hb pins s1 σ H1 _ I1 q1) λu s2 ⟨y,H2,I2,r2,q2⟩ =>
  thn (ho pins s2 σ H2 x y v u _ I2 r1 r2 q2) λc s3 ⟨z,H3,I3,r3,k,e,q3⟩=>?_) hm
 subst e
 cases r3
 exact bj ⟨H3,I3,q3⟩
theorem Zc:(sizeLine:Nat)<2 ^ 63:=by rw [sizeLine_eq];decide
theorem Q2 {x:V}{us:List Ag}(r:Vals [x] us):∃u,us=[u]∧xx x u:=by
 cases r with
 |cons r1 r2=>cases r2;exact ⟨_,rfl,r1⟩
theorem Qx:jn X (.builtin "abs") (λxs H Q=>∃i,xs=[.int i]∧Q (.int (if i<0 then -i else i)) H):=by
 intro pins s σ H xs us Q I r h
 obtain ⟨i,rfl,q⟩:=h
 obtain ⟨u,rfl,t,rfl⟩:=Q2 r
 exact call_abs_int λu tk=>⟨.int (if i<0 then -i else i),H,I.tok _,⟨_,rfl⟩,q⟩
end
structure ObjM (h:Heap)(x dx C:Aj)(mA:Str→Option Ag):Prop where
 obj:h.get? x=some (PySem.W.instObj C dx)
 ns:h.Ns1 dx mA
 ne:dx≠x
theorem qwm {h:Heap}{dx:Aj}{mA:Str→Option Ag}(n:h.Ns1 dx mA):∃od,h.get? dx=some od∧∀name,PySem.W.lookIn name od=some (mA name):=by
 obtain ⟨o,es,ep,ho,hd,hk,_,hm⟩:=n
 refine ⟨o,ho,λname=>?_⟩
 have e:=hm name
 unfold nsFind findBy at e
 rw [←Array.find?_toList] at e
 unfold PySem.W.lookIn
 rw [hd]
 dsimp only
 split
 ·rename_i y q
  rw [q] at e
  exact bH some e
 ·rename_i q
  rw [q] at e
  have a:es.toList.any (·.refKey)=false:=by
   rw [List.any_eq_false]
   intro y hy
   obtain ⟨z,t,hkey⟩:=hk y (Array.mem_toList_iff.mp hy)
   simp [DictEntry.refKey,hkey]
  have a':¬ es.toList.any (·.refKey)=true:=by rw [a];exact al
  rw [ax a']
  exact bH some e
theorem ObjM.look {h:Heap}{x dx C:Aj}{mA:Str→Option Ag}(I:ObjM h x dx C mA):∃od,PySem.W.InstAt h x (PySem.W.instObj C dx) C (some od)∧∀name,PySem.W.lookIn name od=some (mA name) :=
 let ⟨od,ho,hl⟩:=qwm I.ns
 ⟨od,⟨I.obj,rfl,rfl,ho⟩,hl⟩
section
variable {prog:Ac}{w:Ah}{A:Ae}{E:Ag→Ab→Prop}{s:Ab}{K:Aa}{x dx C f:Aj}{mA:Str→Option Ag}{name:Str}{v:Ag}
theorem qvp {expr:Bool}{Q:Ag→Ab→Prop}(X:K.In s.heap)(I:ObjM s.heap x dx C mA)(hg:PySem.W.plainGet K C name=true)(hh:PySem.W.hasDictIn K C=true)
  (ha:PySem.W.findIn K (.ref C) name=some none) (hv:mA name=some v) (hv':PySem.W.handedIn v=true) (h:Q v { s with toks:=s.toks+1 }) :
  wpAny (model prog w) A (getAttr (.ref x) name expr) Q E s:=by
 obtain ⟨od,J,hl⟩:=I.look
 exact PySem.W.get_value X J (bK hg).1 (PySem.W.findObj_own hh ha rfl (by rw [hl,hv])) hv' h
theorem qxs {pl:Sem Bool}{Q:Ag×List Ag→Ab→Prop}(X:K.In s.heap)(I:ObjM s.heap x dx C mA)(hg:PySem.W.plainGet K C name=true)
  (hf:PySem.W.findIn K (.ref C) name=some (some (.ref f))) (ht:PySem.W.isFn K (.ref f)=true) (hv:mA name=none) (h:Q (.ref f,[.ref x]) s) :
  wpAny (model prog w) A (getMethod (.ref x) name pl) Q E s:=by
 obtain ⟨od,J,hl⟩:=I.look
 exact PySem.W.method_fn X J (bK hg).1 (bK hg).2 hf (cu.mp ht) (by show (PySem.W.lookIn name od).map (·.isSome)=some false;rw [hl,hv];rfl) h
theorem qv2 {ns:List Str}{Q:Unit→Ab→Prop}(X:K.In s.heap)(I:ObjM s.heap x dx C mA)
  (hs:PySem.W.findIn K (.ref C) "__setattr__" = some (some (.builtin "object.__setattr__"))) (hp:PySem.W.plainOver K C=true) (ht:PySem.W.takerIn K C name=some none) (hh:PySem.W.hasDictIn K C=true)
  (hw:PySem.Within mA ns) (hsz:ns.length≤sizeLine)
  (h:∀h',ObjM h' x dx C (λy=>if y=name then some v else mA y)→Heap.SameBut dx s.heap h'→Q () { s with heap:=h',toks:=s.toks+2 }) :
  wpAny (model prog w) A (setAttr (.ref x) name v) Q E s:=by
 obtain ⟨od,J,hl⟩:=I.look
 refine PySem.W.set_plain X J hs (PySem.W.osa_open (s:={ s with toks:=s.toks+1 }) (r:=none) X J hp ht λb=>?_)
 obtain ⟨cd,hc,hd'⟩:=PySem.W.any_some hh
 have hx:s.heap.get? x=some ⟨.ref C,some dx,.plain,#[]⟩:=I.obj
 refine ah (az (ah (ah (wpAny_loadPart hx (ah (PySem.W.Looks.here (s:={ s with toks:=s.toks+1 }) (PySem.W.looks_clsIn X hc) ?_))))))
 rw [hd']
 refine az (a:=some dx) (ah (az (ah ?_)))
 refine wpAny_nsSet1 (s:={ s with toks:=s.toks+1 }) I.ns λh' hn2 hs2=>?_
 obtain ⟨oD,esD,epD,hoD,hdD,hcD⟩:=hn2.count (PySem.Within.cons name v hw)
 refine ah (wpAny_lookBehind hoD (by rw [hdD];exact pastItsLine_dict (aP hcD (by rw [aN];lia))) ?_)
 exact az (h _ ⟨(hs2.2 _ (aL I.ne)).trans I.obj,hn2,I.ne⟩ hs2)
theorem qz4 {R:Result→Ab→Prop}{vs:List Ag}{kw:List (Str×Ag)}(X:K.In s.heap)(hm:PySem.W.makesIn K C=true)
  (hi:PySem.W.findIn K (.ref C) "__init__" = some (some (.ref f))) (hf:PySem.W.typeIn K (.ref f)=some (.type "function"))
  (h:codeAny (model prog w) (A.under (.builtin "type.__call__" ⟨.ref C::vs,kw⟩)) (.call (.ref f) ⟨.ref (s.heap.objs.size+1)::vs,kw⟩) (PySem.W.InitBack (s.heap.objs.size+1) R)
   { s with heap:=(s.heap.push PySem.W.emptyDict).push (PySem.W.instObj C s.heap.objs.size) }) :
  codeAny (model prog w) A (.call (.ref C) ⟨vs,kw⟩) R s:=by
 obtain ⟨hh,g,d,t,os⟩:=s
 exact PySem.W.make_core (PySem.W.makes_of X hm) (PySem.W.looks_findIn X hi) (λself=>PySem.W.bind_fn X self hf) (.inl rfl) h
end
def x9 (f:Str)(v:V):List (Str×V)→List (Str×V)
 |[]=>[(f,v)]
 |(g,x)::r=>if g=f then (g,v)::r else (g,x)::x9 f v r
theorem yp (f g:Str)(v:V):∀fs:List (Str×V),(x9 f v fs).lookup g=if g=f then some v else fs.lookup g
 |[]=>by
  show List.lookup g [(f,v)]=_
  by_cases h:g=f
  ·have hb:(g==f)=true:=cu.mpr h
   simp only [List.lookup,hb,aF h]
  ·have hb:(g==f)=false:=aw.mpr h
   simp only [List.lookup,hb,ax h]
 |(k,x)::r=>by
  have ih:=yp f g v r
  rw [show x9 f v ((k,x)::r)=(if k=f then (k,v)::r else (k,x)::x9 f v r) from rfl]
  by_cases hk:k=f
  ·rw [aF hk]
   by_cases h:g=k
   ·have hb:(g==k)=true:=cu.mpr h
    simp only [List.lookup,hb,aF (h.trans hk)]
   ·have hb:(g==k)=false:=aw.mpr h
    simp only [List.lookup,hb,ax (λe:g=f=>h (e.trans hk.symm))]
  ·rw [ax hk]
   by_cases h:g=k
   ·have hb:(g==k)=true:=cu.mpr h
    simp only [List.lookup,hb,ax (λe:g=f=>hk (h.symm.trans e))]
   ·have hb:(g==k)=false:=aw.mpr h
    simp only [List.lookup,hb]
    exact ih
theorem yk (f:Str)(v:V):∀fs:List (Str×V),f∈(x9 f v fs).map (·.1)∧∀g,g∈fs.map (·.1)→g∈(x9 f v fs).map (·.1)
 |[]=>⟨by simp [x9],λg h=>by simp at h⟩
 |(k,x)::r=>by
  obtain ⟨i1,i2⟩:=yk f v r
  rw [show x9 f v ((k,x)::r)=(if k=f then (k,v)::r else (k,x)::x9 f v r) from rfl]
  by_cases hk:k=f
  ·rw [aF hk]
   subst hk
   exact ⟨by simp,λg h=>by simpa using h⟩
  ·rw [ax hk]
   refine ⟨?_,λg h=>?_⟩
   ·rw [aJ]
    exact aH _ i1
   ·rw [aJ] at h ⊢
    rcases aq.mp h with e|e
    ·exact aq.mpr (.inl e)
    ·exact aH _ (i2 g e)
theorem yh (f:Str)(v:V):∀fs:List (Str×V),(x9 f v fs).length≤fs.length+1
 |[]=>by simp [x9]
 |(k,x)::r=>by
  have ih:=yh f v r
  rw [show x9 f v ((k,x)::r)=(if k=f then (k,v)::r else (k,x)::x9 f v r) from rfl]
  by_cases hk:k=f
  ·rw [aF hk,aN,aN];lia
  ·rw [ax hk,aN,aN];lia
theorem RelO.some_of {v:V}{o:Option Ag}(r:RelO (some v) o):∃u,o=some u∧xx v u:=by
 cases o with
 |none=>exact (show False from r).elim
 |some u=>exact ⟨u,rfl,r⟩
theorem RelO.none_of {o:Option Ag}(r:RelO none o):o=none:=by
 cases o with
 |none=>rfl
 |some u=>exact (show False from r).elim
theorem qxf {v:V}{u:Ag}(r:xx v u):PySem.W.handedIn u=true:=by
 cases v with
 |non=>cases (show u=Value.none from r);rfl
 |bl b=>cases (show u=Value.bool b from r);rfl
 |int i=>obtain ⟨t,e⟩:=(show ∃t,u=Value.int i t from r);cases e;rfl
 |str x=>obtain ⟨t,e⟩:=(show ∃t,u=Value.str x t from r);cases e;rfl
 |byt b=>obtain ⟨t,e⟩:=(show ∃t,u=Value.bytes b t from r);cases e;rfl
 |flt b=>obtain ⟨t,e⟩:=(show ∃t,u=Value.float b t from r);cases e;rfl
 |ref a=>cases (show u=Value.ref a from r);rfl
 |ty n=>cases (show u=Value.type n from r);rfl
section
variable {P:Ac}{w:Ah}{H H':Hp}{h h':Heap}{a C dx:Aj}{fs fs':List (Str×V)}
theorem Zg (hok:HOk P w H h)(e:H a=some (.ins C dx fs)):∃mA,ObjM h a dx C mA∧(∀f,RelO (fs.lookup f) (mA f))∧PySem.Within mA (fs.map (·.1))∧fs.length≤1000∧H dx=some (.own a):=by
 obtain ⟨d,z,ne,ob,mA,n,r,q⟩:=(show ObjOk P w H h a (.ins C dx fs) from hok a _ e)
 exact ⟨mA,⟨ob,n,ne⟩,r,q,z,d⟩
end
structure Cls (K:Aa)(C:Aj):Prop where
 pg:PySem.W.plainGet K C Str.empty=true
 hd:PySem.W.hasDictIn K C=true
 po:PySem.W.plainOver K C=true
 sa:PySem.W.findIn K (.ref C) "__setattr__" = some (some (.builtin "object.__setattr__"))
theorem Cls.get {K:Aa}{C:Aj}(c:Cls K C)(f:Str):PySem.W.plainGet K C f=true:=c.pg
def NoAttr (K:Aa)(C:Aj)(f:Str):Prop:=PySem.W.findIn K (.ref C) f=some none
theorem NoAttr.taker {K:Aa}{C:Aj}{f:Str}(n:NoAttr K C f):PySem.W.takerIn K C f=some none:=by
 unfold PySem.W.takerIn
 rw [show PySem.W.findIn K (.ref C) f=some none from n]
 rfl
structure Con (K:Aa)(C:Aj)(f:Str)(v:V)(u:Ag):Prop where
 at_:PySem.W.findIn K (.ref C) f=some (some u)
 rel:xx v u
 get:PySem.W.specialIn K u "__get__" = some none
 cp:PySem.W.copiedNames.contains f=false
structure Meth (K:Aa)(C:Aj)(m:Str)(f:Aj):Prop where
 at_:PySem.W.findIn K (.ref C) m=some (some (.ref f))
 fn:PySem.W.isFn K (.ref f)=true
 kp:PySem.W.keepIn K (.ref f)=true
section
variable {X:Cx}{pins:List (Aj×Obj)}{σ:St}{H:Hp}{s:Ab}{a C dx:Aj}{fs:List (Str×V)}{f:Str}{v:V}{A:Ae}{E:Ag→Ab→Prop}
theorem Y8 {b:Bool}{Q:Ag→Ab→Prop}(I:Inv X pins σ H s)(e:H a=some (.ins C dx fs))(c:Cls X.K C)(n:NoAttr X.K C f)(l:fs.lookup f=some v)
  (h:∀u s',Inv X pins σ H s'→xx v u→Q u s'):wpAny (model X.prog X.w) A (getAttr (.ref a) f b) Q E s:=by
 obtain ⟨mA,O,r,_,_,_⟩:=Zg I.hok e
 obtain ⟨u,hu,ru⟩:=RelO.some_of (v:=v) (o:=mA f) (by rw [←l];exact r f)
 exact qvp I.kIn O (c.get f) c.hd n hu (qxf ru) (h u _ (I.tok _) ru)
theorem ud {m:Str}{g:Aj}{pl:Sem Bool}{Q:Ag×List Ag→Ab→Prop}(I:Inv X pins σ H s)(e:H a=some (.ins C dx fs))(c:Cls X.K C)(k:Meth X.K C m g)(l:fs.lookup m=none)
  (h:Q (.ref g,[.ref a]) s):wpAny (model X.prog X.w) A (getMethod (.ref a) m pl) Q E s:=by
 obtain ⟨mA,O,r,_,_,_⟩:=Zg I.hok e
 have hn:mA m=none:=RelO.none_of (by rw [←l];exact r m)
 exact qxs I.kIn O (c.get m) k.at_ k.fn hn h
theorem qqx {y:V}{u:Ag}{Q:Unit→Ab→Prop}(I:Inv X pins σ H s)(e:H a=some (.ins C dx fs))(c:Cls X.K C)(n:NoAttr X.K C f)(hl:fs.length<1000)(ry:xx y u)
  (h:∀s',Inv X pins σ (upd H a (.ins C dx (x9 f y fs))) s'→Q () s'):wpAny (model X.prog X.w) A (setAttr (.ref a) f u) Q E s:=by
 obtain ⟨mA,O,r,wi,_,ho⟩:=Zg I.hok e
 have hz:(fs.map (·.1)).length≤sizeLine:=by rw [aj,sizeLine_eq];lia
 refine qv2 I.kIn O c.sa c.po n.taker c.hd wi hz λh' O' sb=>h _ ?_
 have hd:∃o,h'.get? dx=some o:=let ⟨o,_,_,e',_⟩:=O'.ns;⟨o,e'⟩
 refine I.write (x:=a) (e:=dx) (by rw [e];exact True.intro) (.inr ho) (λb q hb z=>(sb.2 b hb).trans z) hd ?_
 refine ⟨by rw [wz O.ne];exact ho,?_,O.ne,O'.obj,_,O'.ns,λg=>?_,λg hg=>?_⟩
 ·have:=yh f y fs;lia
 ·show RelO ((x9 f y fs).lookup g) (if g=f then some u else mA g)
  rw [yp]
  by_cases q:g=f
  ·rw [aF q,aF q];exact ry
  ·rw [ax q,ax q];exact r g
 ·by_cases q:g=f
  ·rw [q];exact (yk f y fs).1
  ·refine (yk f y fs).2 g (wi g λz=>hg ?_)
   show (if g=f then some u else mA g)=none
   rw [ax q];exact z
theorem Inv.made (I:Inv X pins σ H s):Inv X pins σ (upd (upd H s.heap.objs.size (.own (s.heap.objs.size+1))) (s.heap.objs.size+1) (.ins C s.heap.objs.size []))
  { s with heap:=(s.heap.push PySem.W.emptyDict).push (PySem.W.instObj C s.heap.objs.size) }:=by
 have e1:(s.heap.push PySem.W.emptyDict).get? s.heap.objs.size=some PySem.W.emptyDict:=ai s.heap rfl
 have e2:((s.heap.push PySem.W.emptyDict).push (PySem.W.instObj C s.heap.objs.size)).get? (s.heap.objs.size+1)=some (PySem.W.instObj C s.heap.objs.size):=by
  have:=ai (s.heap.push PySem.W.emptyDict) (o:=PySem.W.instObj C s.heap.objs.size) rfl
  rwa [bT] at this
 have e3:(s.heap.push PySem.W.emptyDict).Ns s.heap.objs.size (λ_=>none):=⟨PySem.W.emptyDict,#[],_,e1,rfl,(λe he=>absurd he (by simp)),λ_=>rfl⟩
 have I1:=I.laid (a:=s.heap.objs.size) (o:=.own (s.heap.objs.size+1)) (h':=s.heap.push PySem.W.emptyDict) (t':=s.toks) (λb u q=>aa _ q) (ae _) ⟨_,e1⟩
 refine I1.laid (a:=s.heap.objs.size+1) (o:=.ins C s.heap.objs.size []) (t':=s.toks) (λb u q=>aa _ q) (Nat.le_of_eq (bT _ _)) ?_
 have ne:s.heap.objs.size≠s.heap.objs.size+1:=ak (Nat.lt_succ_self _)
 refine ⟨by rw [wz ne,q9],aA _,ne,e2,λ_=>none,(Heap.Ns1.of_empty e3).at λo q=>aa _ q,λ_=>True.intro,λy hy=>absurd rfl hy⟩
theorem qkk {prog:Ac}{w:Ah}{env:Env}{e:Expr}{f:Str}{pos:Pos}{s:Ab}{Q:Ag→Ab→Prop}(hb:attributeBase e f env (eval e env)=eval e env)
  (h:wpAny (model prog w) A (eval e env) (λo s₁=>wpAny (model prog w) A (getAttr o f true) Q E s₁) E s):wpAny (model prog w) A (eval (.Attribute e f pos) env) Q E s :=
 Attribute_any_ h (by rw [arm_eval_Attribute,hb])
end
def tFld (K:Aa)(ta:TE)(f:Str):TE:=λσ H Q=>ta σ H λx H1=>∃a C dx fs v,x=.ref a∧H1 a=some (.ins C dx fs)∧Cls K C∧NoAttr K C f∧fs.lookup f=some v∧Q v H1
def sFld (K:Aa)(ta tv:TE)(f:Str):TS:=λD σ H=>tv σ H λy H1=>ta σ H1 λx H2=>∃a C dx fs,x=.ref a∧H2 a=some (.ins C dx fs)∧Cls K C∧NoAttr K C f∧fs.length<1000 ∧
 D.nx σ (upd H2 a (.ins C dx (x9 f y fs)))
section
variable {X:Cx}{o e value:Expr}{f:Str}{pos pos' tpos:Pos}{ta tv:TE}
theorem zf (he:PE X e ta)(hb:attributeBase e f X.env (eval e X.env)=eval e X.env):PE X (.Attribute e f pos) (tFld X.K ta f):=by
 intro pins s σ H Q I h
 refine qkk hb (thn (he pins s σ H _ I h) λu s1 ⟨x,H1,I1,rx,a,C,dx,fs,v,ex,ea,c,n,l,q⟩=>?_)
 subst ex
 obtain rfl:u=Value.ref a:=rx
 exact Y8 I1 ea c n l λu' s2 I2 ru=>⟨v,H1,I2,ru,q⟩
theorem kh (ha:PE X o ta)(hv:PE X value tv)(hs:swapsWith value (some (.Attribute o f pos')) pos.line X.env=pure false):PS X (.Assign [.Attribute o f pos'] value pos) (sFld X.K ta tv f):=by
 intro pins s σ H D I h
 refine plainObj_wpAny_Assign_Attribute (thn (hv pins s σ H _ I h) λu s1 ⟨y,H1,I1,ry,q⟩=>thn (ha pins s1 σ H1 _ I1 q) λov s2 ⟨x,H2,I2,rx,a,C,dx,fs,ex,ea,c,n,l,q2⟩=>?_) hs
 subst ex
 obtain rfl:ov=Value.ref a:=rx
 exact qqx I2 ea c n l ry λs3 I3=>⟨σ,_,I3,q2⟩
end
section
variable {X:Cx}{pins:List (Aj×Obj)}{σ:St}{H:Hp}{s:Ab}{A:Ae}{E:Ag→Ab→Prop}{Q:Ag→Ab→Prop}{c:Ag}{b:Bool}
inductive TyOf (K:Aa) (H:Hp):V→Ag→Prop where
 |non:TyOf K H .non (.type "NoneType")
 |bl (x:Bool):TyOf K H (.bl x) (.type "bool")
 |int (i:Int):TyOf K H (.int i) (.type "int")
 |str (x:Str):TyOf K H (.str x) (.type "str")
 |flt (x:UInt64):TyOf K H (.flt x) (.type "float")
 |lst {a:Aj} {xs:List V} (e:H a=some (.lst xs)):TyOf K H (.ref a) (.type "list")
 |frz {a:Aj} {o:Obj} {xs:List V} (e:H a=some (.frz o (.lst xs))):TyOf K H (.ref a) (.type "list")
 |tup {a:Aj} {xs:List V} (e:H a=some (.tup xs)):TyOf K H (.ref a) (.type "tuple")
 |dK {a:Aj} {kvs:List (Key×V)} (e:H a=some (.dK kvs)):TyOf K H (.ref a) (.type "dict")
 |dT {a:Aj} {kvs:List (List Key×V)} (e:H a=some (.dT kvs)):TyOf K H (.ref a) (.type "dict")
 |ins {a C dx:Aj} {fs:List (Str×V)} (e:H a=some (.ins C dx fs)) (cl:Cls K C) (ha:PySem.W.findIn K (.ref C) "__class__" = some (some (.builtin "object.__class__")))
   (hn:PySem.W.specialIn K (.builtin "object.__class__") "__get__" = some (some (.builtin "getset_descriptor.__get__"))) (htk:PySem.W.takesIn K (.builtin "object.__class__")=some true)
   (hm:PySem.W.mroIn K C (.type "object")=some true):TyOf K H (.ref a) (.ref C)
end
structure Room (k:Nat)(A:Ae):Prop where
 hd:A.handled=none
 dp:A.depth+3*k+5<recursionLimit
 un:A.units+16*k+200<cLine
theorem Room.mono {j k:Nat}{A:Ae}(r:Room k A)(h:j≤k):Room j A:=⟨r.hd,by have:=r.dp;lia,by have:=r.un;lia⟩
theorem Room.deeper {k:Nat}{A:Ae}(r:Room (k+1) A)(env:Env):Room k (A.deeper env) :=
 ⟨r.hd,by have:=r.dp;show A.depth+1+3*k+5<_;lia,by have:=r.un;show A.units+3+16*k+200<_;lia⟩
theorem qqb {A:Ae}{C:Aj}{us:List Ag}{kw:List (Str×Ag)}:(A.under (.builtin "type.__call__" ⟨.ref C::us,kw⟩)).depth=A.depth+1:=by
 first | rfl | simp [Around.under,Code.weight,Code.isCreation,Code.isGuard,Code.isCaller,Code.frames,Code.isFrame,guardIds]
theorem Y7 {A:Ae}{C:Aj}{us:List Ag}{kw:List (Str×Ag)}:(A.under (.builtin "type.__call__" ⟨.ref C::us,kw⟩)).units=A.units+1:=by
 first | rfl | simp [Around.under,Code.cUnits,Code.frames,Code.isFrame]
theorem Room.make {k:Nat}{A:Ae}(r:Room (k+1) A)(C:Aj)(us:List Ag)(kw:List (Str×Ag)):Room k (A.under (.builtin "type.__call__" ⟨.ref C::us,kw⟩)) :=
 ⟨r.hd,by have:=r.dp;rw [qqb];lia,by have:=r.un;rw [Y7];lia⟩
theorem Room.depth {k:Nat}{A:Ae}(r:Room k A):A.depth<recursionLimit:=by have:=r.dp;lia
theorem Room.units {k:Nat}{A:Ae}(r:Room k A):A.units+64<cLine:=by have:=r.un;lia
theorem Room.units0 {k:Nat}{A:Ae}(r:Room k A):A.units<cLine:=by have:=r.un;lia
def vd:TA:=λ_ H Q=>Q [] H
def x4 (ta:TE)(tr:TA):TA:=λσ H Q=>ta σ H λx H1=>tr σ H1 λxs H2=>Q (x::xs) H2
section
variable {X:Cx}{e:Expr}{es:List Expr}{te:TE}{t:TA}{pos:Pos}
theorem qc:PA X [] vd:=λ_ _ _ _ H Q I h=>cb ⟨[],H,I,.nil,h⟩
theorem xk (ha:PE X e te)(hr:PA X es t)(hs:starEach (e::es) X.env=(false,eval e X.env)::starEach es X.env:=by rfl):PA X (e::es) (x4 te t):=by
 intro pos pins s σ H Q I h
 rw [hs]
 show wpAny _ _ (spliced ((false,eval e X.env)::backTo pos (starEach es X.env))) _ _ s
 refine bA (thn (ha pins s σ H _ I h) λu s1 ⟨x,H1,I1,r1,q1⟩=>?_)
 exact thn (hr pos pins s1 σ H1 _ I1 q1) λus s2 ⟨xs,H2,I2,r2,q2⟩=>⟨x::xs,H2,I2,.cons r1 r2,q2⟩
def tTup (t:TA):TE:=λσ H Q=>t σ H λxs H1=>xs.length≤sizeLine∧∀p,H1 p=none→Q (.ref p) (upd H1 p (.tup xs))
def tLst (t:TA):TE:=λσ H Q=>t σ H λxs H1=>xs.length≤sizeLine∧∀p,H1 p=none→Q (.ref p) (upd H1 p (.lst xs))
theorem zk {x1}(h:PA X es t):PE X (.Tuple es x1 pos) (tTup t):=by
 intro pins s σ H Q I hq
 refine wpAny_Tuple_spliced (thn (h pos pins s σ H _ I hq) λus s1 ⟨xs,H1,I1,r,z,q⟩=>⟨by rw [←r.length];exact z,?_⟩)
 have hf:H1 s1.heap.objs.size=none:=I1.hok.fresh (ae _)
 refine ⟨.ref s1.heap.objs.size,upd H1 s1.heap.objs.size (.tup xs),I1.laid (t':=s1.toks) (λb u e=>aa _ e) (ae _) ?_,rfl,q _ hf⟩
 exact ⟨z,us,r,⟨_,ai _ rfl,rfl,_,rfl⟩⟩
theorem z8 (h:PA X es t):PE X (.List es pos) (tLst t):=by
 intro pins s σ H Q I hq
 refine wpAny_List_spliced (thn (h pos pins s σ H _ I hq) λus s1 ⟨xs,H1,I1,r,z,q⟩=>⟨by rw [←r.length];exact z,?_⟩)
 have hf:H1 s1.heap.objs.size=none:=I1.hok.fresh (ae _)
 refine ⟨.ref s1.heap.objs.size,upd H1 s1.heap.objs.size (.lst xs),I1.laid (t':=s1.toks) (λb u e=>aa _ e) (ae _) ?_,rfl,q _ hf⟩
 exact ⟨z,us,0,r,ai _ rfl⟩
end
abbrev Sp:=List V→Hp→VK→XK→Prop
abbrev CXT:=List Env→Hp→Ab→XK→Ag→Ab→Prop
structure Env0 (P:Ac)(w:Ah)(K:Aa)(mg:Str→Option Ag)(base:Heap)(A:Ae)(outer:List Env)(s:Ab)(H:Hp):Prop where
 frames:A.frames=some outer
 mod:Mod K mg base
 bs:∀b o,base.get? b=some o→s.heap.get? b=some o∧H b=none
 bsz:base.objs.size≤s.heap.objs.size
 funs:s.heap.FunFrames base outer
 frf:∀b∈frs outer,H b=none
 hok:HOk P w H s.heap
 bare:AllBare s.gens
def CE (outer:List Env)(P:Ac)(w:Ah)(H:Hp)(s:Ab)(Q:VK)(u:Ag)(s':Ab):Prop :=
 ∃v H',s'.os=s.os∧AllBare s'.gens∧Un (frs outer) [] H H' s.heap s'.heap∧HOk P w H' s'.heap∧xx v u∧Q v H'
def CR (CX:CXT)(outer:List Env)(P:Ac)(w:Ah)(H:Hp)(s:Ab)(Q:VK)(E:XK)(r:Result)(s':Ab):Prop :=
 match r with
 |.ok (.ret u)=>CE outer P w H s Q u s'
 |.ok _=>False
 |.error e=>CX outer H s E e s'
structure FnOk (P:Ac)(w:Ah)(K:Aa)(mg:Str→Option Ag)(base:Heap)(CX:CXT)(k:Nat)(f:Aj)(fd:Ad)(ps:List Str)(sp:Sp):Prop where
 len:∀vs H Q E,sp vs H Q E→vs.length=ps.length
 run:∀(A:Ae) (outer:List Env) (s:Ab) (H:Hp) (args:Args) (us:List Ag) (vs:List V) (Q:VK) (E:XK),Room k A→Env0 P w K mg base A outer s H→BindsTo s fd args (ps.zip us)→Vals vs us→sp vs H Q E →
  codeAny (model P w) A (.call (.ref f) args) (CR CX outer P w H s Q E) s
theorem Env0.make {P:Ac}{w:Ah}{K:Aa}{mg:Str→Option Ag}{base:Heap}{A:Ae}{outer:List Env}{s:Ab}{H:Hp}(e:Env0 P w K mg base A outer s H)(C:Aj)(us:List Ag)(kw:List (Str×Ag)) :
  Env0 P w K mg base (A.under (.builtin "type.__call__" ⟨.ref C::us,kw⟩)) outer s H:=⟨by first | exact e.frames | (simpa [Around.under,Code.envs,Code.isFrame,pushEnvs] using e.frames),e.mod,e.bs,e.bsz,e.funs,e.frf,e.hok,e.bare⟩
section
variable {X:Cx}{pins:List (Aj×Obj)}{σ:St}{H:Hp}{s s':Ab}
theorem Inv.env0 (I:Inv X pins σ H s):Env0 X.prog X.w X.K X.mg X.base X.A X.stack s H :=
 ⟨I.ok.frames,I.ok.mod,I.bs,aP I.ok.bsz I.sz,I.stack,I.stkFree,I.hok,I.bare⟩
theorem Inv.after {Q:VK}{u:Ag}(I:Inv X pins σ H s)(h:CE X.stack X.prog X.w H s Q u s'):EP X pins σ Q u s':=by
 obtain ⟨v,H',os,bare,un,hok,r,q⟩:=h
 obtain ⟨hh,g,d,t,os'⟩:=s'
 obtain rfl:os'=s.os:=os
 exact ⟨v,H',I.call (h':=hh) (g':=g) (d':=d) (t':=t) (ch:=[]) un hok bare (λb z=>absurd z (by simp)),r,q⟩
end
def Binds (K:Aa)(fd:Ad)(ps:List Str)(ds:List Ag):Prop :=
 ∀(s:Ab) (us:List Ag),K.In s.heap→(us++ds).length=ps.length→BindsTo s fd ⟨us,[]⟩ (ps.zip (us++ds))
theorem Binds.all {K:Aa}{fd:Ad}{ps:List Str}(h:∀us:List Ag,us.length=ps.length→bindArgs fd ⟨us,[]⟩=pure (ps.zip us)):Binds K fd ps []:=λs us _ hl=>by
 rw [bz] at hl ⊢
 exact .of_eq (h us hl)
section
variable {X:Cx}{CX:CXT}{k:Nat}{f C:Aj}{fd:Ad}{ps:List Str}{sp:Sp}{dvs:List V}{ds:List Ag}{E:XK}{x m:Str}{p pos apos:Pos}{e o:Expr}{es:List Expr}{ta:TE}{t:TA}
structure Mk (K:Aa)(C f:Aj):Prop where
 makes:PySem.W.makesIn K C=true
 init:PySem.W.findIn K (.ref C) "__init__" = some (some (.ref f))
 fn:PySem.W.isFn K (.ref f)=true
 kp:PySem.W.keepIn K (.ref C)=true
end
section
variable {X:Cx}{CX:CXT}{k:Nat}{f C:Aj}{fd:Ad}{ps ks:List Str}{sp:Sp}{E:XK}{x m:Str}{p pos apos kpos:Pos}{e o:Expr}{es:List Expr}{kws:List Keyword}{te ta:TE}{t tk:TA}{nm:Option Str}
structure KBinds (K:Aa)(fd:Ad)(ps ks:List Str)(g:List Ag→List Ag→List Ag)(gV:List V→List V→List V):Prop where
 to:∀(s:Ab) (us ws:List Ag),K.In s.heap→(g us ws).length=ps.length→BindsTo s fd ⟨us,ks.zip ws⟩ (ps.zip (g us ws))
 rel:∀ {vs:List V} {us:List Ag} {zs:List V} {ws:List Ag},Vals vs us→Vals zs ws→Vals (gV vs zs) (g us ws)
variable {g:List Ag→List Ag→List Ag}{gV:List V→List V→List V}
end
structure FnScope (N P:List Str)(sc:Scope):Prop where
 kind:sc.kind=.function
 co:sc.isCoroutine=false
 gen:sc.isGenerator=false
 nd:N.Nodup
 pre:N.take P.length=P
 par:∀x∈P,sc.names.lookup x=some .local∨sc.names.lookup x=some .cell
 nofree:∀y∈sc.names,y.2≠.free
theorem Wg {kindOf:Str→Option NameKind}{x:Str}:∀ {binds:List (Str×Ag)} {m:Str→Option Ag},(∀v,(x,v)∉binds)→bindL kindOf binds m x=m x
 |[],_,_=>rfl
 |(n,v)::r,m,h=>by
  unfold bindL
  rw [Wg λw hw=>h w (aH _ hw)]
  split
  ·have:x≠n:=by rintro rfl;exact h v bP
   simp [this]
  ·rfl
theorem Wm {kindOf:Str→Option NameKind}{x:Str}:∀ {binds:List (Str×Ag)} {m:Str→Option Ag},(∀v,(x,v)∉binds)→bindC kindOf binds m x=m x
 |[],_,_=>rfl
 |(n,v)::r,m,h=>by
  unfold bindC
  rw [Wm λw hw=>h w (aH _ hw)]
  split
  ·rfl
  ·have:x≠n:=by rintro rfl;exact h v bP
   simp [this]
theorem Wu {kindOf:Str→Option NameKind}{x:Str}{v:Ag}:∀ {P:List Str} {vs:List Ag} {i:Nat} {m:Str→Option Ag},P.Nodup→P[i]?=some x→vs[i]?=some v→kindOf x=some .local →
  bindL kindOf (P.zip vs) m x=some v
 |[],_,_,_,_,h,_,_=>by simp at h
 |_::_,[],_,_,_,_,h,_=>by simp at h
 |p::P,w::vs,0,m,nd,h1,h2,hk=>by
  simp at h1 h2;subst h1;subst h2
  show bindL kindOf ((p,w)::P.zip vs) m p=_
  unfold bindL
  rw [Wg λv hv=>(bi.mp nd).1 (cz hv).1,aF hk]
  simp
 |p::P,w::vs,i+1,m,nd,h1,h2,hk=>by
  show bindL kindOf ((p,w)::P.zip vs) m x=_
  unfold bindL
  exact Wu (i:=i) (bi.mp nd).2 (by simpa using h1) (by simpa using h2) hk
theorem W2 {kindOf:Str→Option NameKind}{x:Str}{v:Ag}:∀ {P:List Str} {vs:List Ag} {i:Nat} {m:Str→Option Ag},P.Nodup→P[i]?=some x→vs[i]?=some v→kindOf x≠some .local →
  bindC kindOf (P.zip vs) m x=some v
 |[],_,_,_,_,h,_,_=>by simp at h
 |_::_,[],_,_,_,_,h,_=>by simp at h
 |p::P,w::vs,0,m,nd,h1,h2,hk=>by
  simp at h1 h2;subst h1;subst h2
  show bindC kindOf ((p,w)::P.zip vs) m p=_
  unfold bindC
  rw [Wm λv hv=>(bi.mp nd).1 (cz hv).1,ax hk]
  simp
 |p::P,w::vs,i+1,m,nd,h1,h2,hk=>by
  show bindC kindOf ((p,w)::P.zip vs) m x=_
  unfold bindC
  exact W2 (i:=i) (bi.mp nd).2 (by simpa using h1) (by simpa using h2) hk
def jq (N:List Str)(vs:List V):St:=vs.map some++List.replicate (N.length-vs.length) none
def Qw (CX:CXT)(P:Ac)(w:Ah)(K:Aa)(mg:Str→Option Ag)(base:Heap)(N:List Str)(qual:Str)(scope:Scope)(f:Aj)(cd:Ag)(A:Ae)(outer:List Env)(s:Ab)(H:Hp)(E:XK):Cx where
 prog:=P
 w:=w
 K:=K
 mg:=mg
 base:=base
 A:=A.deeper (envOfC qual scope s.heap.objs.size f cd)
 N:=N
 s₀:=s
 H₀:=H
 env:=envOfC qual scope s.heap.objs.size f cd
 outer:=outer
 stack:=envOfC qual scope s.heap.objs.size f cd::outer
 ex:=[]
 calm:=true
 fn:=λ_=>true
 pn:=[]
 xe:=λe s'=>wpAny (model P w) (A.deeper (envOfC qual scope s.heap.objs.size f cd)) (leaving (envOfC qual scope s.heap.objs.size f cd) e) (λ_ s''=>CX outer H s E e s'') (λe' s''=>CX outer H s E e' s'') s'
theorem Yd {sc:Scope}{n:Nat}{x:Str}(h:sc.names.lookup x=some .cell):∃c,(cellsFrom n sc.names []).lookup x=some c:=by
 have q:=PySem.W.cellsFrom_some sc.names n [] (.inl h)
 exact Option.isSome_iff_exists.mp q
theorem qwc {CX:CXT}{P:Ac}{w:Ah}{K:Aa}{mg:Str→Option Ag}{base:Heap}{N ps:List Str}{qual:Str}{scope:Scope}{f:Aj}{cd:Ag}{A:Ae}{outer:List Env}{s s1:Ab}{H:Hp}{E:XK}{us:List Ag}{vs:List V}
  (S:FnScope N ps scope) (hd:A.handled=none) (e0:Env0 P w K mg base A outer s H) (hl:vs.length=ps.length) (r:Vals vs us)
  (x:InCallC s s.heap.objs.size (bindL (envOfC qual scope s.heap.objs.size f cd).kindOf (ps.zip us) λ_=>none) (cellsFrom (s.heap.objs.size+1) scope.names []) (bindC (envOfC qual scope s.heap.objs.size f cd).kindOf (ps.zip us) λ_=>none) s1) :
  Inv (Qw CX P w K mg base N qual scope f cd A outer s H E) [] (jq N vs) H s1:=by
 have hpl:ps.length≤N.length:=by have:=bH List.length S.pre;rw [bF] at this;lia
 obtain ⟨h1,tk,rfl,hk⟩:=x.done
 have noA:∀b:Aj,b∉(Qw CX P w K mg base N qual scope f cd A outer s H E).ex:=λb z=>absurd (show b∈([]:List Aj) from z) (by simp)
 refine ⟨⟨e0.mod,S.kind,rfl,rfl,ae _,λy z c h1 h2=>?_,λy hy=>?_,λy c _ h=>?_,λ_=>hd,Around.frames_deeper e0.frames,.inr ⟨rfl,rfl⟩,λb z=>absurd z (noA b),e0.bs,e0.bsz,λb _ _=>noA b,λb z=>absurd z (noA b),e0.funs,e0.frf⟩,
  rfl,e0.bare,Un.kept hk,⟨_,x.toInCall.ns,λi y v h1 h2 h3=>?_⟩,λy c h=>⟨_,x.cell y c h⟩,e0.hok.fresh (ae _),λy c h=>?_,λp hp=>absurd (show p∈([]:List (Aj×Obj)) from hp) (by simp),e0.hok.kept hk,?_⟩
 ·exact name_of_addr x.apart (bc h1) (bc h2)
 ·have hy:scope.names.lookup y=some .cell∨scope.names.lookup y=some .free:=hy
  rcases hy with hy|hy
  ·exact Yd hy
  ·exact absurd rfl (S.nofree _ (bc hy))
 ·exact be (x.above y c (bc h))
 ·have hi:i<vs.length:=by
   unfold jq at h2
   by_cases hi:i<vs.length
   ·exact hi
   ·rw [bq (by simpa using hi)] at h2
    rw [List.getElem?_replicate] at h2
    split at h2 <;> cases h2
  have ha:vs[i]?=some v:=by
   unfold jq at h2
   rw [bX (by simpa using hi),bn] at h2
   cases e:vs[i]? with
   |none=>rw [e] at h2;cases h2
   |some a=>rw [e] at h2;cases h2;rfl
  obtain ⟨u,hu,rv⟩:=r.get ha
  have hp:ps[i]?=some y:=by
   rw [←S.pre,List.getElem?_take_of_lt (by lia)];exact h1
  have ndP:ps.Nodup:=by rw [←S.pre];exact S.nd.sublist (List.take_sublist _ _)
  refine ⟨u,rv,?_⟩
  rcases S.par y (List.mem_of_getElem? hp) with k|k
  ·exact .inl ⟨k,Wu ndP hp hu k⟩
  ·obtain ⟨c,e⟩:=Yd (n:=s.heap.objs.size+1) k
   refine .inr ⟨.inl k,c,e,?_⟩
   have q:=x.cell y c e
   rw [W2 ndP hp hu (by show scope.names.lookup y≠_;rw [k];decide)] at q
   exact q
 ·exact e0.hok.fresh (be (x.above y c (bc h)))
 ·unfold jq
  show _=N.length
  rw [bf,aj,List.length_replicate]
  lia
theorem fn_of {CX:CXT}{P:Ac}{w:Ah}{K:Aa}{mg:Str→Option Ag}{base:Heap}{k:Nat}{f:Aj}{name qual:Str}{params:Arguments}{body:List Stmt}{scope:Scope}{dV kV doc pm cdv ct oc:Ag}{an od:Option Aj}
  {osl:Array (Option Ag)} {N ps:List Str} {sp:Sp} (lk:K.lookup f=some ⟨oc,od,.func (PySem.W.fnOf name qual params body scope dV kV doc pm an cdv ct),osl⟩) (hcd:PySem.W.codeIn K cdv qual=true) (S:FnScope N ps scope)
  (len:∀vs H Q E,sp vs H Q E→vs.length=ps.length)
  (hbody:∀(A:Ae) (outer:List Env) (s:Ab) (H:Hp) (vs:List V) (Q:VK) (E:XK),Room k (A.deeper (envOfC qual scope s.heap.objs.size f cdv))→sp vs H Q E →
   ∃t,PSs (Qw CX P w K mg base N qual scope f cdv A outer s H E) body t∧t { nx:=λ_ H'=>Q .non H',rt:=Q } (jq N vs) H) :
  FnOk P w K mg base CX (k+1) f (PySem.W.fnOf name qual params body scope dV kV doc pm an cdv ct) ps sp:=by
 refine ⟨len,λA outer s H args us vs Q E hr e0 hb r hsp=>?_⟩
 have hl:=len _ _ _ _ hsp
 have KX:K.In s.heap:=e0.mod.kin.keeps λb o e=>(e0.bs b o e).1
 have lim:s.heap.NoLimit:=e0.mod.nolimit.keeps λb o e=>(e0.bs b o e).1
 have hkind:∀y∈ps.zip us,scope.names.lookup y.1=some .local∨(scope.names.lookup y.1=some .cell∧((cellsFrom (s.heap.objs.size+1) scope.names []).lookup y.1).isSome=true):=λ⟨n,v⟩ hy=>by
  rcases S.par n (cz hy).1 with q|q
  ·exact .inl q
  ·exact .inr ⟨q,PySem.W.cellsFrom_some _ _ _ (.inl q)⟩
 refine codeAny_call_function hr.depth (KX _ _ lk) rfl S.co S.gen rfl (PySem.W.codeRec_of KX hcd) (hb _ _ _ _ ?_)
 refine wpAny_newFunctionEnv_cells S.kind hkind λenv he s1 x=>?_
 subst he
 refine ⟨lim.keeps x.toInCall.keep,codeAny_func ?_⟩
 obtain ⟨t,ht,hq⟩:=hbody A outer s H vs Q E (hr.deeper _) hsp
 have I:Inv (Qw CX P w K mg base N qual scope f cdv A outer s H E) [] (jq N vs) H s1:=qwc S hr.hd e0 hl r x
 refine ay (ht [] s1 (jq N vs) H _ I hq) (λfl s' hs=>?_) λe s' hs=>hs
 have fin:∀ {σ':St} {H':Hp} {v:V} {u:Ag},Inv (Qw CX P w K mg base N qual scope f cdv A outer s H E) [] σ' H' s'→xx v u→Q v H'→CE outer P w H s Q u s' :=
  λ{σ' H' v u} J rv q=>⟨v,H',J.os,J.bare,J.base,J.hok,rv,q⟩
 cases fl with
 |ret u =>
  obtain ⟨v,σ',H',J,rv,q⟩:=hs
  exact fin J rv q
 |next =>
  obtain ⟨σ',H',J,q⟩:=hs
  exact fin (v:=V.non) (u:=Value.none) J rfl q
 |brk =>
  obtain ⟨_,_,_,q⟩:=hs
  exact False.elim q
 |cont =>
  obtain ⟨_,_,_,q⟩:=hs
  exact False.elim q
section
variable {X:Cx}{x:Str}{p pos:Pos}{e:Expr}{es:List Expr}{t:TA}{id T:String}{r:List V→Hp→VK→Prop}
def tCB (r:List V→Hp→VK→Prop)(t:TA):TE:=λσ H Q=>t σ H λvs H1=>r vs H1 Q
theorem xf (hc:jn X (.builtin id) r)(hg:Gl X x)(hm:X.mg x=none)(hv:bootBuiltins x=some (.builtin id))(ha:PA X (e::es) t)(hn:x ≠ "__name__" := by decide)(hdb:(x==("__debug__" : Str))=false:=by decide)
  (he:starEach (e::es) X.env=(false,eval e X.env)::starEach es X.env:=by rfl) (hpl:(backTo pos (starEach es X.env)).any (·.1)=false:=by rfl):PE X (.Call (.Name x p) (e::es) [] pos) (tCB r t):=by
 intro pins s σ H Q I h
 refine bg (qqj I hg hm hv ?_ hn hdb)
 exact PyProof.Rows.callWith_builtin1 (thn (ha pos pins s σ H _ I h) λus s1 ⟨vs,H1,I1,r1,q1⟩=>hc pins s1 σ H1 vs us Q I1 r1 q1) he hpl
theorem Ws (hc:jn X (.type T) r)(hg:Gl X x)(hm:X.mg x=none)(hv:bootBuiltins x=some (.type T))(ha:PA X (e::es) t)(hn:x ≠ "__name__" := by decide)(hdb:(x==("__debug__" : Str))=false:=by decide)
  (he:starEach (e::es) X.env=(false,eval e X.env)::starEach es X.env:=by rfl) (hpl:(backTo pos (starEach es X.env)).any (·.1)=false:=by rfl):PE X (.Call (.Name x p) (e::es) [] pos) (tCB r t):=by
 intro pins s σ H Q I h
 refine bg (qqj I hg hm hv ?_ hn hdb)
 exact bL (thn (ha pos pins s σ H _ I h) λus s1 ⟨vs,H1,I1,r1,q1⟩=>hc pins s1 σ H1 vs us Q I1 r1 q1) he hpl
end
end L2
namespace HT
open PySem PyProof.Rows
section
open PySem.SeqAt
open PySem.AutoSeq1 (wpAny_loadPart')
open PySem.MeetsSeq PySem.MeetsSeq2 PySem.MeetsSeq3
end
section
variable {prog:Ac}{w:Ah}{A:Ae}{E:Ag→Ab→Prop}{s:Ab}
end
end HT
namespace L2
open PySem PySem.Spec PyProof.Rows
theorem Jy {ns:List Int}:∀ {us:List Ag},Vals (ns.map V.int) us→IntsAre us ns:=by
 induction ns with
 |nil=>intro us r;rw [cv] at r;cases r;exact .nil
 |cons n ns ih =>
  intro us r
  rw [aJ] at r
  cases r with
  |cons r1 r2 =>
   obtain ⟨t,e⟩:=r1
   subst e
   exact .cons n t (ih r2)
section
variable {X:Cx}{e:Expr}{te:TE}{lo hi:Option Expr}{tl th:TO}{pos p2:Pos}
end
def ixN (n:Nat)(i:Int):Option Nat:=if 0≤i then (if i<n then some i.toNat else none) else if -(n:Int)≤i then some (i+n).toNat else none
def atI {α:Type}(xs:List α)(i:Int):Option α:=(ixN xs.length i).bind λj=>xs[j]?
theorem qv9 {n:Nat}{i:Int}{j:Nat}(h:ixN n i=some j):seqIndex? i n=some j∧j<n∧-(n:Int)≤i∧i<n:=by
 unfold ixN at h
 by_cases h0:0≤i
 ·rw [aF h0] at h
  by_cases h1:i<n
  ·rw [aF h1] at h
   have e:i.toNat=j:=ao h
   exact ⟨by rw [seqIndex_of h0 h1,e],by lia,by lia,h1⟩
  ·rw [ax h1] at h;cases h
 ·rw [ax h0] at h
  by_cases h1:-(n:Int)≤i
  ·rw [aF h1] at h
   have e:(i+n).toNat=j:=ao h
   exact ⟨by rw [seqIndex_neg (by lia) h1,e],by lia,h1,by lia⟩
  ·rw [ax h1] at h;cases h
theorem qq5 {α:Type}{xs:List α}{i:Int}{v:α}(h:atI xs i=some v):∃j,seqIndex? i xs.length=some j∧xs[j]?=some v∧j<xs.length∧-(xs.length:Int)≤i∧i<xs.length:=by
 unfold atI at h
 cases e:ixN xs.length i with
 |none=>rw [e] at h;cases h
 |some j =>
  rw [e] at h
  obtain ⟨h1,h2,h3,h4⟩:=qv9 e
  exact ⟨j,h1,h,h2,h3,h4⟩
theorem qv6 {α:Type}{xs:List α}{j:Nat}{v:α}(h:xs[j]?=some v):atI xs (j:Int)=some v:=by
 have hj:j<xs.length:=(aY.mp h).1
 have e:ixN xs.length (j:Int)=some j:=by
  unfold ixN
  rw [aF (by lia),aF (by lia)];simp
 unfold atI;rw [e];exact h
def qvt (b:Expr):Prop:=∀o i,subscripted b false o i=operate [o,i] (getItem o i)
def IxR (X:Cx)(r:R2):Prop :=
 ∀(value slice:Expr) (pins:List (Aj×Obj)) (s:Ab) (σ:St) (H:Hp) (x y:V) (v u:Ag) (Q:VK),Inv X pins σ H s→xx x v→xx y u→r x y H Q →
  subscripted slice false v u=operate [v,u] (getItem v u)→wpAny (model X.prog X.w) X.A (subscriptTail value slice v u) (EP X pins σ Q) X.xe s
def MtR (X:Cx)(id:String)(r:V→List V→Hp→VK→Prop):Prop :=
 ∀(pins:List (Aj×Obj)) (s:Ab) (σ:St) (H:Hp) (x:V) (xs:List V) (v:Ag) (us:List Ag) (Q:VK),Inv X pins σ H s→xx x v→Vals xs us→r x xs H Q →
  wpAny (model X.prog X.w) X.A (call (.builtin id) (v::us)) (EP X pins σ Q) X.xe s
section
variable {X:Cx}{a b:Expr}{ta tb:TE}{pos:Pos}
theorem j0 {r:R2}(hr:IxR X r)(ha:PE X a ta)(hb:PE X b tb)(hs:qvt b):PE X (.Subscript a b pos) (tOp r ta tb):=by
 intro pins s σ H Q I h
 exact Subscript_ (binT ha hb I h λv u s2 x y H2 I2 rx ry q=>hr a b pins s2 σ H2 x y v u Q I2 rx ry q (hs _ _))
def rIxL (K:Aa):R2:=λx y H Q=>∃p xs i v,x=.ref p∧y=.int i∧SqL K H p xs∧atI xs i=some v∧Q v H
def rIxT (K:Aa):R2:=λx y H Q=>∃p xs i v,x=.ref p∧y=.int i∧SqT K H p xs∧atI xs i=some v∧Q v H
theorem Z6:IxR X (rIxL X.K):=by
 intro value slice pins s σ H x y v u Q I rx ry h hs
 obtain ⟨p,xs,i,z,rfl,rfl,hq,he,q⟩:=h
 cases rx
 obtain ⟨t,rfl⟩:=ry
 obtain ⟨its,r,pl,hz⟩:=I.list hq
 obtain ⟨j,h1,h2,h3,h4,h5⟩:=qq5 he
 obtain ⟨w,ew,rw'⟩:=r.get h2
 have hl:=r.length
 have hn:=Zc
 have fin:EP X pins σ Q w s:=⟨z,H,I,rw',q⟩
 by_cases h0:0≤i
 ·have hj:i.toNat=j:=by
   rw [seqIndex_of h0 h5] at h1
   exact ao h1
  exact item_listR pl.isList h0 (by lia) (by rw [hj];simpa using ew) fin hs
 ·have hj:(i+(its.toArray.size:Int)).toNat=j:=by
   rw [seqIndex_neg (by lia) h4] at h1
   rw [av,←hl]
   exact ao h1
  exact subscriptTail_builtinR (x:=w) pl.isList.typeIs slot_list_getitem.lookup
   (wpAny_getItem_list_neg (Q:=λr s'=>r=w∧EP X pins σ Q r s') pl.isList (by lia) (by rw [av] <;> lia) (by lia) (by rw [hj];simpa using ew) ⟨rfl,fin⟩) hs
theorem j9:IxR X (rIxT X.K):=by
 intro value slice pins s σ H x y v u Q I rx ry h hs
 obtain ⟨p,xs,i,z,rfl,rfl,hq,he,q⟩:=h
 cases rx
 obtain ⟨t,rfl⟩:=ry
 obtain ⟨its,r,pl,hz⟩:=I.tuple hq
 obtain ⟨j,h1,h2,h3,h4,h5⟩:=qq5 he
 obtain ⟨w,ew,rw'⟩:=r.get h2
 have hl:=r.length
 have hn:=Zc
 have fin:EP X pins σ Q w s:=⟨z,H,I,rw',q⟩
 exact subscriptTail_builtinR (x:=w) pl.typeIs slot_tuple_getitem.lookup
  (getItem_tuple (j:=j) (Q:=λr s'=>r=w∧EP X pins σ Q r s') pl (by lia) (by lia) (by rw [av,←hl];exact h1) (by simpa using ew) ⟨rfl,fin⟩) hs
theorem zq:jn X (.builtin "len") (λxs H Q=>∃p ys,xs=[.ref p]∧(SqL X.K H p ys∨SqT X.K H p ys)∧Q (.int ys.length) H):=by
 intro pins s σ H xs us Q I r h
 obtain ⟨p,ys,rfl,hq,q⟩:=h
 obtain ⟨u,rfl,rx⟩:=Q2 r
 cases rx
 have hn:=Zc
 rcases hq with hq|hq
 ·obtain ⟨its,r',pl,hz⟩:=I.list hq
  have hlen:=r'.length
  exact Calls.call_len_list pl.isList (by simp only [av] <;> lia) ⟨.int ys.length,H,I.tok _,⟨s.toks+1,by rw [av,hlen]⟩,q⟩
 ·obtain ⟨its,r',pl,hz⟩:=I.tuple hq
  have hlen:=r'.length
  exact len_tuple pl (by simp only [av] <;> lia) ⟨.int ys.length,H,I.tok _,⟨s.toks+1,by rw [av,hlen]⟩,q⟩
theorem jm:jn X (.builtin "len") (λxs H Q=>∃z,xs=[.str z]∧z.length≤sizeLine∧Q (.int z.length) H):=by
 intro pins s σ H xs us Q I r h
 obtain ⟨z,rfl,hz,q⟩:=h
 obtain ⟨u,rfl,t,rfl⟩:=Q2 r
 have hn:=Zc
 exact len_str (by lia) ⟨.int z.length,H,I.tok _,⟨_,rfl⟩,q⟩
theorem jz:jn X (.type "list") (λxs H Q=>∃p ys,xs=[.ref p]∧(SqL X.K H p ys∨SqT X.K H p ys)∧∀l,H l=none→Q (.ref l) (upd H l (.lst ys))):=by
 intro pins s σ H xs us Q I r h
 obtain ⟨p,ys,rfl,hq,q⟩:=h
 obtain ⟨u,rfl,rx⟩:=Q2 r
 cases rx
 have fin:∀(its:List Ag),Vals ys its→ys.length≤sizeLine→∀(h':Heap) (c':Nat),(∀b o',s.heap.get? b=some o'→h'.get? b=some o') →
   h'.get? s.heap.objs.size=some { cls:=.type "list",dict:=none,data:=.seq its.toArray c',slots:=#[] }→EP X pins σ Q (.ref s.heap.objs.size) { s with heap:=h' }:=λits r' hz h' c' kp e =>
  ⟨.ref s.heap.objs.size,_,I.laid (t':=s.toks) kp (ae _) (show ObjOk X.prog X.w _ h' _ (.lst ys) from ⟨hz,its,c',r',e⟩),rfl,q _ (I.hok.fresh (ae _))⟩
 rcases hq with hq|hq
 ·obtain ⟨its,r',pl,hz⟩:=I.list hq
  have hlen:=r'.length
  obtain ⟨o,ho,hc,n,hd⟩:=pl.isList
  exact call_list_seq p (.inl rfl) ho hc hd (λh' c' kp e=>fin its r' hz h' c' kp e) (by simp only [av] <;> lia)
 ·obtain ⟨its,r',pl,hz⟩:=I.tuple hq
  have hlen:=r'.length
  obtain ⟨o,ho,hc,n,hd⟩:=pl
  exact call_list_seq p (.inr rfl) ho hc hd (λh' c' kp e=>fin its r' hz h' c' kp e) (by simp only [av] <;> lia)
def tyV (K:Aa)(T:String)(x:V)(H:Hp):Prop:=match x with
 |.str _=>T = "str"
 |.int _=>T = "int"
 |.ref p=>(T = "list" ∧ ∃xs,SqL K H p xs)∨(T = "tuple" ∧ ∃o,K.lookup p=some o∧o.cls=.type "tuple" ∧ o.dict=none) ∨
   (T = "dict" ∧ ((∃kvs,H p=some (.dK kvs))∨∃kvs,H p=some (.dT kvs)))∨(T = "set" ∧ ∃S n,H p=some (.set S n))
 |_=>False
theorem tyV_is {pins:List (Aj×Obj)}{σ:St}{H:Hp}{s:Ab}{T:String}{x:V}{v:Ag}(I:Inv X pins σ H s)(r:xx x v)(ty:tyV X.K T x H) :
  s.TypeIs v T∧∀a,v=.ref a→∃ob,s.heap.get? a=some ob∧ob.dict=none:=by
 cases x with
 |str z =>
  obtain ⟨t,rfl⟩:=r
  cases (show T = "str" from ty)
  exact ⟨typeIs_str s z t,λ_ e=>nomatch e⟩
 |int i =>
  obtain ⟨t,rfl⟩:=r
  cases (show T = "int" from ty)
  exact ⟨typeIs_int s i t,λ_ e=>nomatch e⟩
 |ref p =>
  cases r
  rcases ty with ⟨rfl,xs,hq⟩|⟨rfl,o,hk,hc,hd⟩|⟨rfl,hk⟩|⟨rfl,S,n,hk⟩
  ·obtain ⟨its,_,pl,_⟩:=I.list hq
   refine ⟨pl.isList.typeIs,λa e=>?_⟩
   cases e
   obtain ⟨o,n,e,c,hd,_⟩:=pl
   exact ⟨o,e,hd⟩
  ·refine ⟨⟨o,I.kIn p o hk,hc⟩,λa e=>?_⟩
   cases e
   exact ⟨o,I.kIn _ o hk,hd⟩
  ·have z:∃o,s.heap.get? p=some o∧o.ExactDict:=by
    rcases hk with ⟨kvs,hk⟩|⟨kvs,hk⟩
    ·obtain ⟨_,_,_,_,o,_,_,e,ex,_⟩:=I.hok p _ hk
     exact ⟨o,e,ex⟩
    ·obtain ⟨_,_,_,_,o,_,_,e,ex,_⟩:=I.hok p _ hk
     exact ⟨o,e,ex⟩
   obtain ⟨o,e,ex⟩:=z
   refine ⟨⟨o,e,ex.1⟩,λa e2=>?_⟩
   cases e2
   exact ⟨o,e,ex.2.1⟩
  ·obtain ⟨o,_,_,_,e,ex,_⟩:=I.hok p _ hk
   refine ⟨⟨o,e,ex.1⟩,λa e2=>?_⟩
   cases e2
   exact ⟨o,e,ex.2.1⟩
 |_=>exact False.elim ty
def tBM (K:Aa)(T:String)(r:V→List V→Hp→VK→Prop)(to:TE)(t:TA):TE:=λσ H Q=>to σ H λx H1=>tyV K T x H1∧t σ H1 λxs H2=>r x xs H2 Q
variable {o e:Expr}{es:List Expr}{to:TE}{t:TA}{name:Str}{apos cpos:Pos}{T id:String}{r:V→List V→Hp→VK→Prop}
theorem pe_bm (pa:PlainAttrs T)(slot:Slot T name id)(hty:typeOf (.builtin id)=pure (.type "method_descriptor"))(hm:MtR X id r)(ho:PE X o to)(ha:PA X (e::es) t)
  (hbase:attributeBase o name X.env (eval o X.env)=eval o X.env:=by rfl)
  (hfew:((backTo cpos (starEach (e::es) X.env)).all (λx=>!x.1)&&(backToKw cpos (keywordEach [] X.env)).all (λx=>x.1.isSome)
   && decide ((e::es).length+([]:List Keyword).length+(if ([]:List Keyword).isEmpty then 0 else 1)<30))=true:=by rfl)
  (hline:(apos.endLine==cpos.line)=true:=by rfl) (hs:starEach (e::es) X.env=(false,eval e X.env)::starEach es X.env:=by rfl) (hplain:(backTo cpos (starEach es X.env)).any (·.1)=false:=by rfl) :
  PE X (.Call (.Attribute o name apos) (e::es) [] cpos) (tBM X.K T r to t):=by
 intro pins s σ H Q I h
 refine wpAny_Call_method_late hbase hfew hline rfl (thn (ho pins s σ H _ I h) λv s1 ⟨x,H1,I1,r1,ty,q1⟩=>?_)
 obtain ⟨h1,h2⟩:=tyV_is I1 r1 ty
 refine ⟨T,id,pa,slot,hty,h1,h2,?_⟩
 have hA:=ha cpos pins s1 σ H1 _ I1 q1
 rw [hs] at hA ⊢
 refine bC (by show (false||(backTo cpos (starEach es X.env)).any (·.1))=false;rw [hplain] <;> rfl) (bI ?_)
 exact thn hA λus s2 ⟨vs,H2,I2,r2,q2⟩=>hm pins s2 σ H2 x vs v us Q I2 r1 r2 q2
end
def MtM (X:Cx)(id:String)(r:V→List V→Hp→VK→Prop):Prop :=
 ∀(pins:List (Aj×Obj)) (s:Ab) (σ:St) (H:Hp) (x:V) (xs:List V) (v:Ag) (us:List Ag) (Q:VK),Inv X pins σ H s→xx x v→Vals xs us→r x xs H Q →
  wpAny (model X.prog X.w) X.A (call (.builtin id) (v::us)) (EP X pins σ Q) X.xe s
theorem Vals.one:∀ {x:V} {us:List Ag},Vals [x] us→∃u,us=[u]∧xx x u
 |_,_,.cons r .nil=>⟨_,rfl,r⟩
section
variable {X:Cx}{pins:List (Aj×Obj)}{σ:St}{H:Hp}{s:Ab}{l b:Aj}{xs ys zs:List V}
theorem Inv.lset {its its':List Ag}{n:Nat}{f:Array Ag→Array Ag}{t':Nat}(I:Inv X pins σ H s)(hH:H l=some (.lst xs))
  (e:s.heap.get? l=some { cls:=.type "list",data:=.seq its.toArray n }) (hf:f its.toArray=its'.toArray) (hv:Vals ys its') (hz:ys.length≤sizeLine) :
  Inv X pins σ (upd H l (.lst ys)) { s with heap:=s.heap.update l (Obj.mapSeq f),toks:=t' }:=by
 have q:=PySem.IsL.update e f
 rw [hf] at q
 refine I.write (x:=l) (e:=l) (by rw [hH];exact trivial) (.inl rfl) (λb' u hb hu=>(Heap.get?_update_other s.heap (Obj.mapSeq f) (aL hb)).trans hu) ⟨_,q⟩ ?_
 exact ⟨hz,its',_,hv,q⟩
theorem Inv.lnew {its:List Ag}{t':Nat}(I:Inv X pins σ H s)(hv:Vals ys its)(hz:ys.length≤sizeLine) :
  Inv X pins σ (upd H s.heap.objs.size (.lst ys)) { s with heap:=s.heap.push { cls:=.type "list",data:=.seq its.toArray },toks:=t' } :=
 I.laid (λ_ _ q=>aa _ q) (ae _) ⟨hz,its,0,hv,ai _ rfl⟩
theorem Inv.fresh (I:Inv X pins σ H s):H s.heap.objs.size=none:=I.hok.fresh (ae _)
theorem Inv.lstM (I:Inv X pins σ H s)(hH:H l=some (.lst xs)):xs.length≤sizeLine∧∃(its:List Ag) (n:Nat),Vals xs its∧xs.length=its.length∧s.heap.get? l=some { cls:=.type "list",data:=.seq its.toArray n }:=by
 obtain ⟨z,its,n,r,e⟩:=I.hok l _ hH
 exact ⟨z,its,n,r,r.length,e⟩
end
section
variable {X:Cx}
def qv0:V→List V→Hp→VK→Prop:=λx vs H Q=>∃l xs y,x=.ref l∧vs=[y]∧H l=some (.lst xs)∧xs.length<sizeLine∧Q .non (upd H l (.lst (xs++[y])))
theorem Wh:MtM X "list.append" qv0:=by
 intro pins s σ H x vs v us Q I rx rv h
 obtain ⟨l,xs,y,rfl,rfl,hH,hz,q⟩:=h
 cases rx
 obtain ⟨u,rfl,ru⟩:=rv.one
 obtain ⟨z,its,n,r,hl,e⟩:=I.lstM hH
 refine call_meets F.slot_list_append ⟨_,e,rfl⟩ F.entry_list_append (F.args_list_append_2 _ _) (PySem.list_append l its.toArray n u (by rw [av];lia)) ⟨e,?_⟩
 refine ⟨.non,_,I.lset (its':=its++[u]) hH e (by simp) (r.append (.cons ru .nil)) ?_,rfl,q⟩
 rw [bf,List.length_singleton]
 lia
def rCat:R2:=λx y H Q=>∃l b xs zs,x=.ref l∧y=.ref b∧H l=some (.lst xs)∧H b=some (.lst zs)∧xs.length+zs.length≤sizeLine∧∀p,H p=none→Q (.ref p) (upd H p (.lst (xs++zs)))
theorem op_cat:OpR X (binaryOp .Add) rCat:=by
 intro pins s σ H x y v u Q I rx ry h
 obtain ⟨l,b,xs,zs,rfl,rfl,hH,hB,hz,q⟩:=h
 cases rx
 cases ry
 obtain ⟨z,its,n,r,hl,e⟩:=I.lstM hH
 obtain ⟨z2,its2,n2,r2,hl2,e2⟩:=I.lstM hB
 refine PySem.P.add_list e e2 ?_ (by rw [av,av];lia)
 have ea:its.toArray++its2.toArray=(its++its2).toArray:=by simp
 rw [ea]
 exact ⟨.ref _,_,I.lnew (t':=s.toks) (r.append r2) (by rw [bf];lia),rfl,q _ I.fresh⟩
end
section
variable {prog:Ac}{w:Ah}{A:Ae}{E:Ag→Ab→Prop}{s:Ab}
end
section
variable {X:Cx}
end
end L2
namespace Att
open PySem PySem.W PySem.Calls PyProof.Rows
theorem y6 {P:Params}{h:Heap}:∀(ns:List Int) (vs:List Ag),WellAll P h vs (ns.map WData.int)→IntsAre vs ns:=by
 intro ns
 induction ns with
 |nil =>
  intro vs w
  rw [cv] at w
  cases w
  exact .nil
 |cons n ns ih =>
  intro vs w
  rw [aJ] at w
  cases w with
  |cons a b =>
   cases a
   exact .cons _ _ (ih _ b)
theorem qw5 {l:OpenLaw}{n:Nat}(hn:l.most=some n){P:Params}{h:Heap}{args:List WData}{vals:List Ag}
  (hpre:l.row.toRowW.claim.pre args=true) (hwl:WellAll P h vals args) :
  ∃a vs ns,vals=[Value.ref a]∧args=[WData.list (ns.map WData.int)]∧h.get? a=some { cls:=.type "list",data:=.seq vs.toArray }∧IntsAre vs ns∧ns.length≤n:=by
 have hsh:WShape.hasAll [] args [.list .int]=true:=(pre_splitW hpre).1
 have hc:l.pre.holds [] { args:=args }=true:=(pre_splitW hpre).2
 obtain ⟨d,r,rfl,h1,h2⟩:=hasAllW_cons hsh
 obtain rfl:=hasAllW_nil h2
 obtain ⟨xs,rfl,h3⟩:=hasW_list h1
 obtain ⟨ns,rfl⟩:=items_int h3
 have hlen:ns.length≤n:=by
  unfold OpenLaw.pre at hc
  have h4:(WTm.not (.lt (.lit (.int (n:Int))) (.len (.arg 0)))).holds [] { args:=[.list (ns.map .int)] }=true:=by
   have h4:=(holds_andW hc).1
   rw [hn] at h4
   exact h4
  have h5:=condW_of h4 (w_not (w_lt w_lit (w_len_list (w_arg rfl))))
  rw [aj] at h5
  refine Nat.le_of_not_lt λq=>?_
  have q':(n:Int)<((ns.length:Nat):Int):=by lia
  first
   |(rw [aW q'] at h5;exact absurd h5 (by decide))
   |(simp at h5;lia)
 cases hwl with
 |cons w1 w2 =>
  cases w2
  cases w1 with
  |list ho hall=>exact ⟨_,_,ns,rfl,rfl,ho,y6 ns _ hall,hlen⟩
theorem qxb (l:OpenLaw)(args:List WData):l.row.toRowW.claim.post args (.bool true) args=true :=
 postW_of (r:=l.row.toRowW) (X:=(true==true))
  (show WShape.has [] (.bool true) .bool=true by first | rfl | decide | simp [WShape.has,WShape.arms,WShape.armsAll])
  (show (WTm.eq .res (.lit (.bool true))).value [] { args:=args,res:=some (.bool true),after:=args }=some (.bool (true==true)) from w_eq_bool (w_res rfl) w_lit) rfl
theorem attach_call {l:OpenLaw}{n:Nat}{q:Ac}{loose:List Str}{XP:(Str→Option Ag)→Heap→Prop}{YP:Ah→Heap→Prop}{d:DefRec}
  (hn:l.most=some n) (hdf:d.params.defaults=[])
  (call:∀(w:Ah) (s₀ s₁:Ab) (mg mb:Str→Option Ag) (fa:Aj) (o:Obj) (pm cd doc:Ag) (a:Aj) (vs:List Ag) (ns:List Int),
   Ground q loose [] XP w s₀ mg mb s₁.heap→YP w s₁.heap →
   s₁.heap.get? fa=some o→o.data=.func (docDef d.name d.params d.body d.scope pm cd doc)→s₁.heap.CodeRec cd d.name→mg d.name=some (.ref fa) →
   s₁.heap.get? a=some { cls:=.type "list",data:=.seq vs.toArray }→IntsAre vs ns→ns.length≤n→s₁.gens=#[] →
   codeAny (model l.prog w) callerA (.call (.ref fa) ⟨[.ref a],[]⟩) (λr s'=>r=.ok (.ret (.bool true))∧OldK s₁.heap s'.heap∧s'.os=s₁.os∧AllBare s'.gens) s₁) :
  WalkO q loose XP YP l.row.toRowW d [] (λf vs=>PySem.call f vs):=by
 intro w s₀ s₁ mg mb G Y fa o pm cd doc dV kV ho hd hcd hD hmg hg args vals as hpre hlay hrd hwl hlo
 obtain rfl:dV=.none:=Dflts.none hD hdf
 obtain rfl:kV=.none:=Dflts.noKw hD
 obtain ⟨a,vs,ns,rfl,rfl,hobj,hints,hlen⟩:=qw5 hn hpre hwl
 refine enter_call (cw (call w s₀ s₁ mg mb fa o pm cd doc a vs ns G Y ho (fd_plain hd) hcd hmg hobj hints hlen hg) λr s' hq=>?_)
 obtain ⟨rfl,h2,h3,h4⟩:=hq
 exact ⟨.inl ⟨.bool true,.bool true,[],rfl,λ_=>rfl,.bool true,qxb l _,λ_=>⟨List.Pairwise.nil,λ_ hm=>(nomatch hm)⟩⟩,h2,h3,h4⟩
section
variable {prog:Ac}{w:Ah}{A:Ae}{E:Ag→Ab→Prop}{s:Ab}{K:Frag}
end
end Att
namespace L2
open PySem PySem.Spec PyProof.Rows
theorem Wn:∀ {vs:List Ag} {ns:List Int},IntsAre vs ns→Vals (ns.map V.int) vs
 |_,_,.nil=>.nil
 |_,_,.cons n t h=>.cons ⟨t,rfl⟩ (Wn h)
def Only (H:Hp):Prop:=∀b,H b=none∨∃o xs,H b=some (.frz o (.lst xs))
theorem qzy {P:Ac}{w:Ah}{K:Aa}{mg mb:Str→Option Ag}{CX:CXT}{k:Nat}{fa a:Aj}{fd:Ad}{x:Str}{sp:Sp}{s₁:Ab}{vs:List Ag}{ns:List Int}
  (KX:K.In s₁.heap) (hns:s₁.heap.Ns mainGlobals mg) (hb:s₁.heap.Ns builtinsNs mb) (hbb:∀x:Str,x ≠ "__name__" → mb x=bootBuiltins x) (hlim:s₁.heap.NoLimit) (hg:s₁.gens=#[])
  (ha:s₁.heap.get? a=some { cls:=.type "list",data:=.seq vs.toArray }) (hi:IntsAre vs ns) (hl:ns.length≤sizeLine) (hr:Room k callerA)
  (F:∀base:Heap,K.In base→base.Ns mainGlobals mg→FnOk P w K mg base CX k fa fd [x] sp) (hbind:∀(s:Ab) (u:Ag),BindsTo s fd ⟨[u],[]⟩ [(x,u)])
  (hsp:∀H:Hp,Only H→SqL K H a (ns.map V.int)→sp [.ref a] H (λv _=>v=.bl true) λ_ _ _=>False)
  (hCX:∀H e s',CX [] H s₁ (λ_ _ _=>False) e s'→False) :
  codeAny (model P w) callerA (.call (.ref fa) ⟨[.ref a],[]⟩) (λr s'=>r=.ok (.ret (.bool true))∧OldK s₁.heap s'.heap∧s'.os=s₁.os∧AllBare s'.gens) s₁:=by
 have rv:=Wn hi
 have lenV:=hi.length
 have core:∀H:Hp,Only H→SqL K H a (ns.map V.int)→HOk P w H s₁.heap→(∀b,H b≠none→b=a)→(H a≠none→K.lookup a=none) →
   codeAny (model P w) callerA (.call (.ref fa) ⟨[.ref a],[]⟩) (λr s'=>r=.ok (.ret (.bool true))∧OldK s₁.heap s'.heap∧s'.os=s₁.os∧AllBare s'.gens) s₁:=by
  intro H hO hS hok hA hK
  have base_of:∀ {b:Aj} {o:Obj},s₁.heap.get? b=some o→H b=none→(W8 s₁.heap H).get? b=some o:=λe n=>qxr e n
  have noA:∀ {b:Aj} {o:Obj} {es:Array DictEntry} {ep:Nat},s₁.heap.get? b=some o→o.data=.dict es ep→H b=none:=λ{b o es ep} e d=>by
   cases q:H b with
   |none=>rfl
   |some u =>
    have e':b=a:=hA b (by rw [q];simp)
    subst e'
    rw [ha] at e;cases e
    have d':Data.seq vs.toArray _=Data.dict es ep:=d
    cases d'
  have nsK:∀ {b:Aj} {m:Str→Option Ag},s₁.heap.Ns b m→(W8 s₁.heap H).Ns b m:=λ{b m} ⟨o,es,ep,e,d,r⟩=>⟨o,es,ep,base_of e (noA e d),d,r⟩
  have hKb:K.In (W8 s₁.heap H):=λb o e=>base_of (KX b o e) (by
   cases q:H b with
   |none=>rfl
   |some u =>
    have e':b=a:=hA b (by rw [q];simp)
    subst e'
    rw [hK (by rw [q];simp)] at e;cases e)
  have hM:Mod K mg (W8 s₁.heap H):=⟨hKb,nsK hns,⟨mb,nsK hb,hbb⟩,let ⟨mc,h1,h2⟩:=hlim;⟨mc,nsK h1,h2⟩⟩
  have e0:Env0 P w K mg (W8 s₁.heap H) callerA [] s₁ H:=⟨rfl,hM,λb o e=>qvm e,Nat.le_of_eq (qxc _ _),trivial,λb hb=>absurd (show b∈([]:List Aj) from hb) (by simp),hok,.of_eq hg⟩
  refine cw ((F _ hKb (nsK hns)).run callerA [] s₁ H ⟨[.ref a],[]⟩ [.ref a] [.ref a] _ _ hr e0 (hbind s₁ (.ref a)) (.cons rfl .nil) (hsp H hO hS)) λr s' h=>?_
  cases r with
  |error e=>exact (hCX H e s' h).elim
  |ok fl =>
   cases fl with
   |next=>exact False.elim h
   |brk=>exact False.elim h
   |cont=>exact False.elim h
   |ret u =>
    obtain ⟨v,H',os,bare,un,hok',r',q⟩:=h
    have q':v=.bl true:=q
    subst q'
    obtain rfl:u=Value.bool true:=r'
    refine ⟨rfl,OldK.of_keep λb o e=>?_,os,bare⟩
    cases q:H b with
    |none=>exact un.keep b o e q (by intro z;exact absurd (show b∈([]:List Aj) from z) (by simp)) (by simp)
    |some u =>
     rcases hO b with z|⟨ob,xs,z⟩
     ·rw [q] at z;cases z
     ·have z2:=un.frzs b ob _ z
      obtain ⟨e1,_⟩:=hok b _ z
      obtain ⟨e2,_⟩:=hok' b _ z2
      rw [e] at e1;cases e1
      exact e2
 cases hk:K.lookup a with
 |some o =>
  have e:=KX a o hk
  rw [ha] at e
  cases e
  refine core (λ_=>none) (λ_=>.inl rfl) (.inr ⟨_,vs.toArray,_,hk,rfl,rfl,rfl,by rw [av,lenV];exact hl,by simpa using rv⟩) (λb u z=>by have z':(none:Option HO)=some u:=z;cases z') (λb z=>absurd rfl z) λz=>absurd rfl z
 |none =>
  refine core (λb=>if b=a then some (.frz { cls:=.type "list",data:=.seq vs.toArray } (.lst (ns.map V.int))) else none) (λb=>?_) (.inl (.inr ⟨{ cls:=.type "list",data:=.seq vs.toArray },aF rfl⟩)) (λb u z=>?_) (λb z=>?_) λ_=>hk
  ·by_cases hb:b=a
   ·exact .inr ⟨_,_,aF hb⟩
   ·exact .inl (ax hb)
  ·by_cases hb:b=a
   ·have z':=(aF hb).symm.trans z
    cases z'
    subst hb
    exact ⟨ha,by rw [aj];exact hl,vs,_,rv,ha⟩
   ·have z':=(ax hb).symm.trans z
    cases z'
  ·by_cases hb:b=a
   ·exact hb
   ·exact absurd (ax hb) z
theorem qvh {l:PySem.W.OpenLaw}{n k:Nat}{q:Ac}{loose:List Str}{XP:(Str→Option Ag)→Heap→Prop}{YP:Ah→Heap→Prop}{d:DefRec}{K:Params→Aa}{CX:Ah→CXT}{sp:Ah→Sp}{x:Str}
  (hn:l.most=some n) (hn2:n≤sizeLine) (hdf:d.params.defaults=[]) (hr:Room k callerA)
  (hY:∀(w:Ah) (h:Heap),YP w h→(K w.params).In h)
  (F:∀(w:Ah) (mg:Str→Option Ag) (fa:Aj) (h:Heap),(K w.params).In h→h.Ns mainGlobals mg→mg d.name=some (.ref fa) →
   ∃fd:Ad,(∀(s:Ab) (u:Ag),BindsTo s fd ⟨[u],[]⟩ [(x,u)]) ∧
    ∀base:Heap,(K w.params).In base→base.Ns mainGlobals mg→FnOk l.prog w (K w.params) mg base (CX w) k fa fd [x] (sp w))
  (hsp:∀(w:Ah) (H:Hp) (a:Aj) (ns:List Int),ns.length≤n→Only H→SqL (K w.params) H a (ns.map V.int)→sp w [.ref a] H (λv _=>v=.bl true) λ_ _ _=>False)
  (hCX:∀(w:Ah) (H:Hp) (s:Ab) (e:Ag) (s':Ab),CX w [] H s (λ_ _ _=>False) e s'→False) :
  PySem.W.WalkO q loose XP YP l.row.toRowW d [] (λf vs=>PySem.call f vs):=by
 refine Att.attach_call hn hdf λw s₀ s₁ mg mb fa o pm cd doc a vs ns G Y ho hd hcd hmg hobj hints hlen hg=>?_
 have KX:=hY w _ Y
 obtain ⟨fd,hb,hF⟩:=F w mg fa _ KX G.T.g hmg
 exact qzy KX G.T.g G.T.b G.T.builtins G.T.nolimit hg hobj hints (aP hlen hn2) hr hF hb (λH hO hS=>hsp w H a ns hlen hO hS) λH e s'=>hCX w H s₁ e s'
def xc (s:Stmt)(j:Nat):Stmt:=match s with
 |.ClassDef _ _ _ body _ _ _ _ _ _ _=>body.getD j (.Pass ⟨0,0,0,0⟩)
 |_=>.Pass ⟨0,0,0,0⟩
def zu (s:Stmt):Arguments:=match s with
 |.FunctionDef _ a _ _ _ _ _ _ _ _=>a
 |_=>{ posonlyargs:=[],args:=[],vararg:=none,kwonlyargs:=[],kw_defaults:=[],kwarg:=none,defaults:=[] }
def wx (s:Stmt):List Stmt:=match s with
 |.FunctionDef _ _ b _ _ _ _ _ _ _=>b
 |_=>[]
def wq (s:Stmt):Scope:=match s with
 |.FunctionDef _ _ _ _ _ _ sc _ _ _=>sc
 |_=>{ kind:=.function,names:=[],isGenerator:=false,isCoroutine:=false }
abbrev E0:XK:=λ_ _ _=>False
structure Fun (K:Aa)(x qual:Str)(st:Stmt)(f:Aj)(fd:Ad):Prop where
 ex:∃(oc:Ag) (od:Option Aj) (kV doc pm:Ag) (an:Option Aj) (cdv ct:Ag) (osl:Array (Option Ag)),
  fd=PySem.W.fnOf x qual (zu st) (wx st) (wq st) .none kV doc pm an cdv ct∧K.lookup f=some ⟨oc,od,.func fd,osl⟩∧PySem.W.codeIn K cdv qual=true
 kp:PySem.W.keepIn K (.ref f)=true
section
variable {P:Ac}{w:Ah}{K:Aa}{mg:Str→Option Ag}{base:Heap}
theorem Fun.binds {x qual:Str}{st:Stmt}{f:Aj}{fd:Ad}{ps:List Str}(F:Fun K x qual st f fd)
  (h:∀(kV doc pm:Ag) (an:Option Aj) (cdv ct:Ag) (us:List Ag),us.length=ps.length→bindArgs (PySem.W.fnOf x qual (zu st) (wx st) (wq st) .none kV doc pm an cdv ct) ⟨us,[]⟩=pure (ps.zip us)):Binds K fd ps []:=by
 obtain ⟨oc,od,kV,doc,pm,an,cdv,ct,osl,rfl,lk,hcd⟩:=F.ex
 exact .all (h kV doc pm an cdv ct)
theorem qzb {x qual:Str}{st:Stmt}{f:Aj}{oc:Ag}{od an:Option Aj}{osl:Array (Option Ag)}{kV doc pm cdv ct:Ag}(l:K.lookup f=some ⟨oc,od,.func (PySem.W.fnOf x qual (zu st) (wx st) (wq st) .none kV doc pm an cdv ct),osl⟩)
  (c:PySem.W.codeIn K cdv qual=true) (k:PySem.W.keepIn K (.ref f)=true):Fun K x qual st f (PySem.W.fnOf x qual (zu st) (wx st) (wq st) .none kV doc pm an cdv ct):=⟨⟨oc,od,kV,doc,pm,an,cdv,ct,osl,rfl,l,c⟩,k⟩
end
theorem Qc {A:Ae}{k:Nat}(hr:Room k A):A.units+1<cLine:=Nat.lt_of_le_of_lt (Nat.add_le_add_left (by decide:1≤64) _) hr.units
section
variable {X:Cx}
theorem pv (i:Nat){x:Str}{pos:Pos}(hN:X.N[i]?=some x:=by rfl)(hv:Vis X.env.scope x:=by first | exact Or.inl rfl | exact Or.inr (Or.inl rfl) | exact Or.inr (Or.inr rfl))(hd:(x==("__debug__" : Str))=false:=by decide)
  (hcd:(x==("__classdict__" : Str))=false:=by decide):PE X (.Name x pos) (tVar i):=pe_var hN hv hd hcd
end
theorem Zn {A B:Prop}(h:B):if false=true then A else B:=by
 rw [ax al]
 exact h
theorem uj {A B:Prop}(h:A):if true=true then A else B:=by
 rw [aF rfl]
 exact h
def Same (H H':Hp):Prop:=∀b o,H b=some o→H' b=some o
theorem Same.refl (H:Hp):Same H H:=λ_ _ h=>h
theorem Same.trans {H H1 H2:Hp}(a:Same H H1)(b:Same H1 H2):Same H H2:=λc o h=>b c o (a c o h)
theorem Same.seq {K:Aa}{H H':Hp}{a:Aj}{xs:List V}(e:Same H H')(h:SqL K H a xs):SqL K H' a xs:=by
 rcases h with (h|⟨o,h⟩)|h
 ·exact .inl (.inl (e _ _ h))
 ·exact .inl (.inr ⟨o,e _ _ h⟩)
 ·exact .inr h
set_option maxHeartbeats 4000000
theorem nin {b:Aj}:b∉([]:List Aj):=λz=>nomatch z
theorem jd {K:Aa}{h:Heap}{C:Aj}{bmB:List Ag}{newId:String}(X:K.In h)(q:PySem.W.excIn K C bmB newId=true) :
  ∃tl N a1 a2 a3 a4 a5 a6 a7 a8 a9 b0 b1 b2 b3 b5 mN,h.get? C=some (excClassObj a1 a2 C N a3 tl a4 a5 a6 a7 a8 a9 b0 b1 b2 b3 b5 newId) ∧
   h.Ns N mN∧mN "__init__" = none∧OwnTail h bmB tl:=by
 unfold PySem.W.excIn at q
 split at q
 ·next dd cd sl ho =>
  split at q
  ·next C1 tl x0 x1 x2 x3 nn x5 hm hs =>
   rw [aV,aV,aV,aV,aV] at q
   obtain ⟨⟨⟨⟨⟨p1,p2⟩,p3⟩,p4⟩,p5⟩,p6⟩:=q
   have p1':=eq_of_beq p1
   have p2':=eq_of_beq p2
   have p6':=eq_of_beq p6
   have p3':cd.hasDel=false:=by simpa using p3
   subst p1' p2'
   obtain ⟨f1,f2,f3,f4,f5,f6,f7,f8,f9,f10,f11⟩:=cd
   have hm':f3=Value.ref C1::tl:=hm
   have p3'':f11=false:=p3'
   subst hm' p3''
   have hsl:sl=#[x0,x1,x2,x3,some (.builtin nn),x5]:=by
    cases sl with
    |mk l =>
     have:l=[x0,x1,x2,x3,some (.builtin nn),x5]:=hs
     rw [this]
   subst hsl
   have nsok:=PySem.W.isNs_of_in X p5
   exact ⟨tl,f4,f1,f5,f2,f6,f7,f8,f9,f10,dd,x0,x1,x2,x3,x5,_,X _ _ ho,.of_isNs nsok,PySem.W.nsMap_none_of_in X p5 p6',PySem.W.tail_of_in X p4⟩
  ·exact absurd q (by decide)
 ·exact absurd q (by decide)
def CXE (P:Ac)(w:Ah):CXT:=λouter H s E e s' =>
 ∃(a C:Aj) (a0:Ag) (B:Heap) (H':Hp),e=.ref a∧s'.os=s.os∧AllBare s'.gens∧Un (frs outer) [] H H' s.heap s'.heap∧HOk P w H' B ∧
  Heap.FlyingW B outer a (.ref C) a0 s'.heap∧(∀b o,s.heap.get? b=some o→b∉frs outer→∃o',B.get? b=some o'∧(H b=none→o'=o))∧E (.ref C) none H'
theorem CXE.no {P:Ac}{w:Ah}{outer:List Env}{H:Hp}{s s':Ab}{e:Ag}(h:CXE P w outer H s E0 e s'):False:=by
 obtain ⟨_,_,_,_,_,_,_,_,_,_,_,_,q⟩:=h
 exact q
def zg (X:Cx)(E:St→XK):Prop:=∀(pins:List (Aj×Obj)) (σ:St) (H:Hp) (s:Ab) (e:Ag) (s':Ab),Inv X pins σ H s→CXE X.prog X.w X.stack H s (E σ) e s'→X.xe e s'
theorem passE0 {X:Cx}:zg X (λ_=>E0):=λ_ _ _ _ _ _ _ h=>h.no.elim
def qzn (X:Cx)(E:St→XK):Prop:=∀(pins:List (Aj×Obj)) (σ:St) (H:Hp) (s:Ab) (h':Heap) (e C:Aj) (vs:List Ag),Inv X pins σ H s→Heap.MadeExcOf s.heap h' e (.ref C) vs→E σ (.ref C) none H→X.xe (.ref e) { s with heap:=h' }
theorem Yq {env:Env}{L:Aj}{outer:List Env}(h:env.frame=some L):frs (env::outer)=L::frs outer:=by
 unfold frs
 rw [bt,h]
section
variable {P:Ac}{w:Ah}{K:Aa}{mg:Str→Option Ag}{base:Heap}{N:List Str}{qual:Str}{scope:Scope}{f:Aj}{cdv:Ag}{A:Ae}{outer:List Env}{s0:Ab}{H0:Hp}{E:XK}
theorem qb:zg (Qw (CXE P w) P w K mg base N qual scope f cdv A outer s0 H0 E) (λ_=>E):=by
 intro pins σ H s e s' I hx
 obtain ⟨a,C,a0,B,H',rfl,hos,hba,un,hokB,hfl,old,q⟩:=hx
 have ub:=I.base
 have hL:∀b o,s0.heap.get? b=some o→b≠s0.heap.objs.size:=λb o e z=>aD _ (z▸ac e)
 have hfs:frs (envOfC qual scope s0.heap.objs.size f cdv::outer)=s0.heap.objs.size::frs outer:=Yq rfl
 have hmem:∀b o,s0.heap.get? b=some o→b∉frs outer→b∉frs (envOfC qual scope s0.heap.objs.size f cdv::outer):=λb o e n=>by
  rw [hfs]
  intro z
  rcases aq.mp z with z|z
  ·exact hL b o e z
  ·exact n z
 have hold:∀b o,s0.heap.get? b=some o→b∉frs outer→∃o',B.get? b=some o'∧(H0 b=none→o'=o):=λb o e n=>by
  obtain ⟨o1,e1⟩:=ub.there b o e nin
  obtain ⟨o2,e2,e3⟩:=old b o1 e1 (hmem b o e n)
  refine ⟨o2,e2,λz=>?_⟩
  have e4:=ub.keep b o e z n nin
  have e5:=ub.free b o e z nin
  rw [e1] at e4
  rw [e3 e5]
  exact ao e4
 refine wpAny_leaves_onW I.ok.frames rfl hfl λh' hf' hup=>?_
 have toH:∀b,b∈frs outer→∀o,s0.heap.get? b=some o→H0 b=none→∃sl,h'.get? b=some { o with slots:=sl }:=λb hb o e n=>by
  obtain ⟨sl,e1⟩:=ub.slot b o e n hb nin
  obtain ⟨sl2,e2⟩:=un.slot b _ e1 (ub.free b o e n nin) (by show b∈frs (envOfC qual scope s0.heap.objs.size f cdv::outer);rw [hfs];exact .tail _ hb) nin
  obtain ⟨_,o3,e3,nf⟩:=hfl.2.2.1.mem (b:=b) (by show b∈frs (envOfC qual scope s0.heap.objs.size f cdv::outer);rw [hfs];exact .tail _ hb)
  obtain ⟨sl4,e4⟩:=hup b o3 e3 nf
  rw [e2] at e3
  have e5:=ao e3
  exact ⟨sl4,by rw [e4,←e5]⟩
 refine ⟨a,C,a0,B,H',rfl,hos.trans I.os,hba,⟨λb o e n nb _=>?_,λb o e n hb _=>toH b hb o e n,λb o e n _=>?_,λb o e _=>?_,λb xs e=>un.tups b xs (ub.tups b xs e),λb o u e=>un.frzs b o u (ub.frzs b o u e),λb ps e=>?_⟩,hokB,hf',hold,q⟩
 ·obtain ⟨o',e1,e2⟩:=hold b o e nb
  rw [e2 n] at e1
  exact hf'.1 b o e1
 ·obtain ⟨o1,e1⟩:=ub.there b o e nin
  exact un.free b o1 e1 (ub.free b o e n nin) nin
 ·by_cases hb:b∈frs outer
  ·obtain ⟨o1,e1⟩:=ub.there b o e nin
   obtain ⟨o2,e2⟩:=un.there b o1 e1 nin
   obtain ⟨_,o3,e3,nf⟩:=hfl.2.2.1.mem (b:=b) (by show b∈frs (envOfC qual scope s0.heap.objs.size f cdv::outer);rw [hfs];exact .tail _ hb)
   obtain ⟨sl4,e4⟩:=hup b o3 e3 nf
   exact ⟨_,e4⟩
  ·obtain ⟨o',e1,_⟩:=hold b o e hb
   exact ⟨o',hf'.1 b o' e1⟩
 ·obtain ⟨m1,e1⟩:=ub.tbls b ps e
  obtain ⟨m2,e2⟩:=un.tbls b _ e1
  exact ⟨m1++m2,by rw [e2,Array.append_assoc]⟩
theorem xm:qzn (Qw (CXE P w) P w K mg base N qual scope f cdv A outer s0 H0 E) (λ_=>E):=by
 intro pins σ H s h' e C vs I hx q
 have ub:=I.base
 have hfs:frs (envOfC qual scope s0.heap.objs.size f cdv::outer)=s0.heap.objs.size::frs outer:=Yq rfl
 have hmem:∀b o,s0.heap.get? b=some o→b∉frs outer→b∉frs (envOfC qual scope s0.heap.objs.size f cdv::outer):=λb o e n=>by
  rw [hfs]
  intro z
  rcases aq.mp z with z|z
  ·exact aD _ (z▸ac e)
  ·exact n z
 have hfree:∀b∈frs (envOfC qual scope s0.heap.objs.size f cdv::outer),H b=none:=I.stkFree
 have hB:∀b o,s.heap.get? b=some o→b∉frs (envOfC qual scope s0.heap.objs.size f cdv::outer)→(PySem.W.hideAll s.heap (frs (envOfC qual scope s0.heap.objs.size f cdv::outer))).get? b=some o:=λb o e n=>PySem.W.hideAll_get _ e n
 have hokB:HOk P w H (PySem.W.hideAll s.heap (frs (envOfC qual scope s0.heap.objs.size f cdv::outer))):=λb u hb=>by
  refine (I.hok b u hb).stay (λc v hc ec=>hB c v ec λhm=>?_) (λ_ z=>z) (λ_ _ z=>z)
  have hn:=hfree c hm
  rcases hc with rfl|hc
  ·rw [hn] at hb;cases hb
  ·rw [hn] at hc;cases hc
 have hold:∀b o,s0.heap.get? b=some o→b∉frs outer→∃o',(PySem.W.hideAll s.heap (frs (envOfC qual scope s0.heap.objs.size f cdv::outer))).get? b=some o'∧(H0 b=none→o'=o):=λb o e n=>by
  obtain ⟨o1,e1⟩:=ub.there b o e nin
  refine ⟨o1,hB b o1 e1 (hmem b o e n),λz=>?_⟩
  have e4:=ub.keep b o e z n nin
  rw [e1] at e4
  exact ao e4
 have hst:s.heap.FunFrames base (envOfC qual scope s0.heap.objs.size f cdv::outer):=I.stack
 have hff:=PySem.W.funFrames_hide (as:=frs (envOfC qual scope s0.heap.objs.size f cdv::outer)) hst (λenv he b hb=>bS.mpr ⟨env,he,hb⟩)
 refine wpAny_leaves_madeW (base:=PySem.W.hideAll s.heap (frs (envOfC qual scope s0.heap.objs.size f cdv::outer))) (h:=s.heap) I.ok.frames rfl (λb o e=>PySem.W.of_hideAll _ e) hff hx λh'' t hf' _ _ hup=>?_
 have toF:∀b,b∈frs outer→∃o,s.heap.get? b=some o∧∃sl,h''.get? b=some { o with slots:=sl }:=λb hb=>by
  obtain ⟨_,o3,e3,nf⟩:=hst.mem (b:=b) (by show b∈frs (envOfC qual scope s0.heap.objs.size f cdv::outer);rw [hfs];exact .tail _ hb)
  exact ⟨o3,e3,hup b o3 (hx.keeps b o3 e3) nf⟩
 refine ⟨e,C,.ref t,_,H,rfl,I.os,I.bare,⟨λb o e1 n nb _=>?_,λb o e1 n hb _=>?_,λb o e1 n _=>ub.free b o e1 n nin,λb o e1 _=>?_,ub.tups,ub.frzs,ub.tbls⟩,hokB,hf',hold,q⟩
 ·obtain ⟨o',e2,e3⟩:=hold b o e1 nb
  rw [e3 n] at e2
  exact hf'.1 b o e2
 ·obtain ⟨sl,e2⟩:=ub.slot b o e1 n hb nin
  obtain ⟨o3,e3,sl3,e4⟩:=toF b hb
  rw [e2] at e3
  have e5:=ao e3
  exact ⟨sl3,by rw [e4,←e5]⟩
 ·by_cases hb:b∈frs outer
  ·obtain ⟨o3,e3,sl3,e4⟩:=toF b hb
   exact ⟨_,e4⟩
  ·obtain ⟨o',e2,_⟩:=hold b o e1 hb
   exact ⟨o',hf'.1 b o' e2⟩
end
section
variable {P:Ac}{w:Ah}{K:Aa}{mg:Str→Option Ag}{base:Heap}
end
def Jj (sp:Sp)(E:St→XK)(t:TA):TE:=λσ H Q=>t σ H λvs H1=>sp vs H1 Q (E σ)
def Qq (C:Aj)(m:Str)(sp:Sp)(E:St→XK)(ta:TE)(t:TA):TE:=λσ H Q=>ta σ H λx H1=>∃a dx fs,x=.ref a∧H1 a=some (.ins C dx fs)∧fs.lookup m=none ∧
 t σ H1 λvs H2=>sp (x::vs) H2 Q (E σ)
def qqq (C:Aj)(sp:Sp)(E:St→XK)(t:TA):TE:=λσ H Q=>t σ H λvs H1=>∀x dx,H1 x=none→H1 dx=none→dx≠x →
 sp (.ref x::vs) (upd (upd H1 dx (.own x)) x (.ins C dx [])) (λv H2=>v=.non∧Q (.ref x) H2) (E σ)
section
variable {X:Cx}{k:Nat}{f C:Aj}{fd:Ad}{ps:List Str}{sp:Sp}{E:St→XK}{x m:Str}{p pos apos:Pos}{e o:Expr}{es:List Expr}{ta:TE}{t:TA}
theorem Zj {pins:List (Aj×Obj)}{σ:St}{H:Hp}{s:Ab}{Q:VK}{us:List Ag}{vs:List V}(F:FnOk X.prog X.w X.K X.mg X.base (CXE X.prog X.w) k f fd ps sp)(hr:Room k X.A)(hb:Binds X.K fd ps [])(hx:zg X E)
  (I:Inv X pins σ H s) (r:Vals vs us) (h:sp vs H Q (E σ)):wpAny (model X.prog X.w) X.A (call (.ref f) us) (EP X pins σ Q) X.xe s:=by
 have hl:(us++[]).length=ps.length:=by rw [bz,←r.length];exact F.len _ _ _ _ h
 have hb':=hb s us I.kIn hl
 rw [bz] at hb'
 refine wpAny_call (cw (F.run X.A X.stack s H ⟨us,[]⟩ us vs Q (E σ) hr I.env0 hb' r h) λr s' hq=>?_)
 cases r with
 |error e=>exact hx pins σ H s e s' I hq
 |ok fl =>
  cases fl with
  |ret u=>exact I.after hq
  |next=>exact False.elim hq
  |brk=>exact False.elim hq
  |cont=>exact False.elim hq
theorem qzj (F:FnOk X.prog X.w X.K X.mg X.base (CXE X.prog X.w) k f fd ps sp)(hr:Room k X.A)(hg:Gl X x)(hm:X.mg x=some (.ref f))(hk:PySem.W.keepIn X.K (.ref f)=true)(hb:Binds X.K fd ps [])(hx:zg X E)
  (ha:PA X (e::es) t) (hdb:(x==("__debug__" : Str))=false:=by decide) (he:starEach (e::es) X.env=(false,eval e X.env)::starEach es X.env:=by rfl) (hpl:(backTo pos (starEach es X.env)).any (·.1)=false:=by rfl) :
  PE X (.Call (.Name x p) (e::es) [] pos) (Jj sp E t):=by
 intro pins s σ H Q I h
 refine bg (z5 I hg hm ?_ hdb)
 refine bU (h₀:=X.base) I.ok.mod.kin hk (thn (ha pos pins s σ H _ I h) λus s1 ⟨vs,H1,I1,r,q⟩=>⟨I1.kIn,?_⟩) he hpl
 exact Zj F hr hb hx I1 r q
theorem qvb {pl:Sem Bool}(he:PE X o ta)(c:Cls X.K C)(hm:Meth X.K C m f)(F:FnOk X.prog X.w X.K X.mg X.base (CXE X.prog X.w) k f fd ps sp)(hr:Room k X.A)(hb:Binds X.K fd ps [])(hx:zg X E)(ha:PA X (e::es) t)
  (hst:starEach (e::es) X.env=(false,eval e X.env)::starEach es X.env:=by rfl) (hpl:(backTo pos (starEach es X.env)).any (·.1)=false:=by rfl)
  (ht:eval (.Call (.Attribute o m apos) (e::es) [] pos) X.env=(do
   let ov ←eval o X.env
   standAt apos.atName
   let (f,first) ←holding [ov] (getMethod ov m pl)
   callWith pos f first (backTo pos (starEach (e::es) X.env)) (backToKw pos (keywordEach [] X.env))):=by rfl) :
  PE X (.Call (.Attribute o m apos) (e::es) [] pos) (Qq C m sp E ta t):=by
 intro pins s σ H Q I h
 refine PySem.W.methodCall_KW (pl:=pl) (thn (he pins s σ H _ I h) λu s1 ⟨x,H1,I1,rx,a,dx,fs,ex,ea,l,q⟩=>?_) ht
 subst ex
 obtain rfl:u=Value.ref a:=rx
 refine ud I1 ea c hm l ?_
 refine bU (first:=[.ref a]) (h₀:=X.base) I.ok.mod.kin hm.kp (thn (ha pos pins s1 σ H1 _ I1 q) λus s2 ⟨vs,H2,I2,r,q2⟩=>⟨I2.kIn,?_⟩) hst hpl
 exact Zj (us:=.ref a::us) (vs:=.ref a::vs) F hr hb hx I2 (.cons rfl r) q2
theorem qxu {pl:Sem Bool}(he:PE X o ta)(c:Cls X.K C)(hm:Meth X.K C m f)(F:FnOk X.prog X.w X.K X.mg X.base (CXE X.prog X.w) k f fd ps sp)(hr:Room k X.A)(hb:Binds X.K fd ps [])(hx:zg X E)
  (ht:eval (.Call (.Attribute o m apos) [] [] pos) X.env=(do
   let ov ←eval o X.env
   standAt apos.atName
   let (f,first) ←holding [ov] (getMethod ov m pl)
   callWith pos f first (backTo pos (starEach [] X.env)) (backToKw pos (keywordEach [] X.env))):=by rfl) :
  PE X (.Call (.Attribute o m apos) [] [] pos) (Qq C m sp E ta vd):=by
 intro pins s σ H Q I h
 refine PySem.W.methodCall_KW (pl:=pl) (thn (he pins s σ H _ I h) λu s1 ⟨x,H1,I1,rx,a,dx,fs,ex,ea,l,q⟩=>?_) ht
 subst ex
 obtain rfl:u=Value.ref a:=rx
 refine ud I1 ea c hm l ?_
 exact PySem.W.callWith_K0 (first:=[.ref a]) I1.kIn hm.kp (Zj (us:=[.ref a]) (vs:=[.ref a]) F hr hb hx I1 (.cons rfl .nil) q)
theorem Wc {pins:List (Aj×Obj)}{σ:St}{H:Hp}{s:Ab}{Q:VK}{us:List Ag}{vs:List V}(M:Mk X.K C f)(F:FnOk X.prog X.w X.K X.mg X.base (CXE X.prog X.w) k f fd ps sp)(hr:Room (k+1) X.A)(hb:Binds X.K fd ps [])
  (hx:zg X E) (I:Inv X pins σ H s) (r:Vals vs us)
  (h:∀x dx,H x=none→H dx=none→dx≠x→sp (.ref x::vs) (upd (upd H dx (.own x)) x (.ins C dx [])) (λv H2=>v=.non∧Q (.ref x) H2) (E σ)) :
  wpAny (model X.prog X.w) X.A (call (.ref C) us) (EP X pins σ Q) X.xe s:=by
 have hq:=h (s.heap.objs.size+1) s.heap.objs.size (I.hok.fresh (Nat.le_succ _)) (I.hok.fresh (ae _)) (ak (Nat.lt_succ_self _))
 have I2:=Inv.made (C:=C) I
 have r2:Vals (V.ref (s.heap.objs.size+1)::vs) (Value.ref (s.heap.objs.size+1)::us):=.cons rfl r
 have hl:((Value.ref (s.heap.objs.size+1)::us)++[]).length=ps.length:=by
  rw [bz,←r2.length]
  exact F.len _ _ _ _ hq
 have hb':=hb _ (Value.ref (s.heap.objs.size+1)::us) I2.kIn hl
 rw [bz] at hb'
 refine wpAny_call (qz4 (f:=f) I.kIn M.makes M.init (cu.mp M.fn) (cw (F.run _ X.stack _ _ ⟨Value.ref (s.heap.objs.size+1)::us,[]⟩ (Value.ref (s.heap.objs.size+1)::us) _ _ (E σ) (hr.make C us [])
  (I2.env0.make C us []) hb' r2 hq) λr s' hq'=>?_))
 cases r with
 |error e=>exact hx pins σ _ _ e s' I2 hq'
 |ok fl =>
  cases fl with
  |ret u =>
   obtain ⟨v,H',I3,rv,ev,q3⟩:=I2.after hq'
   subst ev
   exact ⟨rv,⟨V.ref (s.heap.objs.size+1),H',I3,rfl,q3⟩⟩
  |next=>exact False.elim hq'
  |brk=>exact False.elim hq'
  |cont=>exact False.elim hq'
theorem qzf (M:Mk X.K C f)(F:FnOk X.prog X.w X.K X.mg X.base (CXE X.prog X.w) k f fd ps sp)(hr:Room (k+1) X.A)(hg:Gl X x)(hm:X.mg x=some (.ref C))(hb:Binds X.K fd ps [])(hx:zg X E)
  (ha:PA X (e::es) t) (hdb:(x==("__debug__" : Str))=false:=by decide) (he:starEach (e::es) X.env=(false,eval e X.env)::starEach es X.env:=by rfl) (hpl:(backTo pos (starEach es X.env)).any (·.1)=false:=by rfl) :
  PE X (.Call (.Name x p) (e::es) [] pos) (qqq C sp E t):=by
 intro pins s σ H Q I h
 refine bg (z5 I hg hm ?_ hdb)
 refine bU (h₀:=X.base) I.ok.mod.kin M.kp (thn (ha pos pins s σ H _ I h) λus s1 ⟨vs,H1,I1,r,q⟩=>⟨I1.kIn,?_⟩) he hpl
 exact Wc M F hr hb hx I1 r q
end
structure ExcC (K:Aa)(C:Aj):Prop where
 q:PySem.W.excIn K C [.type "ValueError",.type "Exception",.type "BaseException",.type "object"] "ValueError.__new__" = true
def tRaise (C:Aj)(E:St→XK)(t:TA):TS:=λD σ H=>t σ H λvs H1=>vs.length≤sizeLine∧E σ (.ref C) none H1
section
variable {X:Cx}{C:Aj}{E:St→XK}{x:Str}{np cpos pos:Pos}{e:Expr}{es:List Expr}{t:TA}
theorem zj (hc:X.calm=true)(c:ExcC X.K C)(hR:qzn X E)(hg:Gl X x)(hm:X.mg x=some (.ref C))(ha:PA X (e::es) t)(hdb:(x==("__debug__" : Str))=false:=by decide)
  (he:starEach (e::es) X.env=(false,eval e X.env)::starEach es X.env:=by rfl) (hpl:(backTo cpos (starEach es X.env)).any (·.1)=false:=by rfl) :
  PS X (.Raise (some (.Call (.Name x np) (e::es) [] cpos)) none pos) (tRaise C E t):=by
 intro pins s σ H D I h
 obtain ⟨tl,N,a1,a2,a3,a4,a5,a6,a7,a8,a9,b0,b1,b2,b3,b5,mN,hC,hN,hni,T⟩:=jd I.ok.mod.kin c.q
 refine wpAny_Raise_call_subT (C:=C) (nm:=a1) (q:=a2) (N:=N) (bs:=a3) (bm:=tl) (hdct:=a4) (sn:=a5) (sub:=a6) (ab:=a7) (col:=a8) (dd:=a9) (k0:=b0) (k1:=b1) (k2:=b2) (k3:=b3) (k5:=b5)
  aI (mN:=mN) (T.hasType aI.hasBase) (I.ok.hd hc) (by rw [he];show (false||(backTo cpos (starEach es X.env)).any (·.1))=false;rw [hpl];rfl) hni (z5 I hg hm ⟨rfl,?_⟩ hdb)
 have hw:=ha cpos pins s σ H _ I h
 rw [he] at hw ⊢
 refine bI (ay hw (λus s1 ⟨vs,H1,I1,r,hl,q⟩=>⟨rfl,by rw [←r.length];exact hl,I1.bk _ _ hC,hN.keeps I1.bk,T.keeps I1.bk,λh' e hx=>hR pins σ H1 s1 h' e C us I1 hx q⟩) λ_ _ z=>z)
end
abbrev Cx.handling (X:Cx)(e:Aj):Cx:={ X with A:=X.A.mark (some (.ref e)),calm:=false,xe:=λ_ _=>False }
abbrev Cx.trying (X:Cx)(pn:List (Aj×Obj))(xe:Ag→Ab→Prop):Cx:={ X with pn:=pn,xe:=xe }
section
variable {X:Cx}{pins:List (Aj×Obj)}{σ:St}{H H':Hp}{s s':Ab}{e:Aj}
theorem Cx.Ok.handling (o:X.Ok)(e:Aj):(X.handling e).Ok :=
 ⟨o.mod,o.kind,o.glob,o.blt,o.above,o.inj,o.has,o.cab,λz=>(al z).elim,o.frames,o.stk,o.exf,o.bs,o.bsz,o.noex,o.exfs,o.funs,o.frf⟩
theorem Cx.Ok.trying (o:X.Ok)(pn:List (Aj×Obj))(xe:Ag→Ab→Prop):(X.trying pn xe).Ok :=
 ⟨o.mod,o.kind,o.glob,o.blt,o.above,o.inj,o.has,o.cab,o.hd,o.frames,o.stk,o.exf,o.bs,o.bsz,o.noex,o.exfs,o.funs,o.frf⟩
theorem Inv.handling (I:Inv X pins σ H s)(e:Aj):Inv (X.handling e) pins σ H s:=⟨I.ok.handling e,I.os,I.bare,I.base,I.loc,I.cell,I.free,I.freeC,I.pin,I.hok,I.len⟩
theorem Inv.unhandling (o:X.Ok)(I:Inv (X.handling e) pins σ H s):Inv X pins σ H s:=⟨o,I.os,I.bare,I.base,I.loc,I.cell,I.free,I.freeC,I.pin,I.hok,I.len⟩
theorem Inv.trying (I:Inv X pins σ H s)(xe:Ag→Ab→Prop):Inv (X.trying (X.pn++pins) xe) [] σ H s :=
 ⟨I.ok.trying _ _,I.os,I.bare,I.base,I.loc,I.cell,I.free,I.freeC,λp hp=>I.pin p ((aR.mp hp).elim (λz=>z) λz=>nomatch z),I.hok,I.len⟩
theorem Inv.untrying {pins':List (Aj×Obj)}{xe:Ag→Ab→Prop}(o:X.Ok)(I:Inv (X.trying (X.pn++pins) xe) pins' σ H s):Inv X pins σ H s :=
 ⟨o,I.os,I.bare,I.base,I.loc,I.cell,I.free,I.freeC,λp hp=>I.pin p (bp _ hp),I.hok,I.len⟩
theorem SP.untrying {pins':List (Aj×Obj)}{xe:Ag→Ab→Prop}{D:Ends}{f:Flow}(o:X.Ok)(h:SP (X.trying (X.pn++pins) xe) pins' D f s'):SP X pins D f s':=by
 cases f with
 |next=>obtain ⟨a,b,c,d⟩:=h;exact ⟨a,b,c.untrying o,d⟩
 |brk=>obtain ⟨a,b,c,d⟩:=h;exact ⟨a,b,c.untrying o,d⟩
 |cont=>obtain ⟨a,b,c,d⟩:=h;exact ⟨a,b,c.untrying o,d⟩
 |ret u=>obtain ⟨v,a,b,c,d⟩:=h;exact ⟨v,a,b,c.untrying o,d⟩
theorem SP.unhandling {D:Ends}{f:Flow}(o:X.Ok)(h:SP (X.handling e) pins D f s'):SP X pins D f s':=by
 cases f with
 |next=>obtain ⟨a,b,c,d⟩:=h;exact ⟨a,b,c.unhandling o,d⟩
 |brk=>obtain ⟨a,b,c,d⟩:=h;exact ⟨a,b,c.unhandling o,d⟩
 |cont=>obtain ⟨a,b,c,d⟩:=h;exact ⟨a,b,c.unhandling o,d⟩
 |ret u=>obtain ⟨v,a,b,c,d⟩:=h;exact ⟨v,a,b,c.unhandling o,d⟩
def CatchR (K:Aa)(C D:Aj):Prop:=∀ {M:Model} {A:Ae} {E:Ag→Ab→Prop} {h:Heap} {g:Array GenState} {d:Drawn} {t:Nat} {os:OsState} {e:Aj} {oe:Obj} {Q:Bool→Ab→Prop},
 K.In h→h.get? e=some oe→oe.cls=.ref C→Q true ⟨h,g,d,t,os⟩→wpAny M A (excMatches (.ref e) (.ref D)) Q E ⟨h,g,d,t,os⟩
end
section
variable {X:Cx}{x:Str}{D0:Aj}{np hpos pos:Pos}{b₀:Stmt}{body suite:List Stmt}{tb:(St→XK)→TS}{th:TS}
end
def Sm (n:Nat)(i:Int):Prop:=i.natAbs<2 ^ n
theorem Sm.bits {n:Nat}{i:Int}(h:Sm n i):Builtin.Int.intBits i≤n:=PyProof.Rows.intBits_le h
theorem Sm.mono {n m:Nat}{i:Int}(h:Sm n i)(hm:n≤m):Sm m i:=ag h (bJ (by decide) hm)
theorem Sm.of_le {n:Nat}{i j:Int}(h:Sm n j)(e:i.natAbs≤j.natAbs):Sm n i:=Nat.lt_of_le_of_lt e h
theorem Sm.ok {n m:Nat}{i j:Int}(h:Sm n i)(h':Sm m j)(e:n+m≤134217728):IntMulOk i j:=IntMulOk.of_le h.bits h'.bits e
theorem Sm.log {n:Nat}{i:Int}(h:Sm n i)(hn:n≤9000):i.natAbs.log2<9000:=by
 by_cases h0:i.natAbs=0
 ·rw [h0]
  decide
 ·exact ag ((Nat.log2_lt h0).mpr h) hn
theorem Sm.noPl {n:Nat}{i j:Int}(h:Sm n j)(hn:n≤9000):Builtin.divisionGoesByPylong i j=false:=PyProof.noPylong_of_log2 (h.log hn)
section
variable {X:Cx}
theorem x8:OpR X (binaryOp .Mult) (rI IntMulOk λi j=>.int (i*j)):=opI λ_ _ _ _ _ _ _ hc q=>mul_int q hc
theorem uu:OpR X (binaryOp .FloorDiv) (rI (λ_ j=>0<j∧Sm 9000 j) λi j=>.int (i/j)):=opI λi j _ _ _ _ _ hc q =>
 floordiv_int (by lia) (by rw [Int.fdiv_eq_ediv_of_nonneg i (Int.le_of_lt hc.1)];exact q) (.inl (hc.2.noPl (ae _)))
end
mutual
def RD (K:Aa)(H:Hp):PyData→V→Prop
 |.none,v=>v=.non
 |.bool b,v=>v=.bl b
 |.int i,v=>v=.int i
 |.str x,v=>v=.str x
 |.list ds,v=>∃a xs,v=.ref a∧SqL K H a xs∧RDs K H ds xs
 |.tuple ds,v=>∃a xs,v=.ref a∧SqT K H a xs∧RDs K H ds xs
 |.dict _,_=>False
def RDs (K:Aa)(H:Hp):List PyData→List V→Prop
 |[],xs=>xs=[]
 |d::ds,xs=>∃y ys,xs=y::ys∧RD K H d y∧RDs K H ds ys
end
section
variable {X:Cx}{pins:List (Aj×Obj)}{σ:St}{H:Hp}{s:Ab}
mutual
theorem qzm (I:Inv X pins σ H s):∀(d:PyData) (v:V) (u:Ag),RD X.K H d v→xx v u→∃as,Reads s.heap u d as
 |.none,v,u,h,r=>by
  rw [RD] at h;subst h
  cases (show u=Value.none from r)
  exact ⟨_,.none⟩
 |.bool b,v,u,h,r=>by
  rw [RD] at h;subst h
  cases (show u=Value.bool b from r)
  exact ⟨_,.bool b⟩
 |.int i,v,u,h,r=>by
  rw [RD] at h;subst h
  obtain ⟨t,rfl⟩:=(show ∃t,u=Value.int i t from r)
  exact ⟨_,.int i t⟩
 |.str x,v,u,h,r=>by
  rw [RD] at h;subst h
  obtain ⟨t,rfl⟩:=(show ∃t,u=Value.str x t from r)
  exact ⟨_,.str x t⟩
 |.list ds,v,u,h,r=>by
  rw [RD] at h
  obtain ⟨a,xs,rfl,hs,hd⟩:=h
  cases (show u=Value.ref a from r)
  obtain ⟨its,rv,⟨o,n,e1,e2,_,e3⟩,_⟩:=I.list hs
  obtain ⟨as,ha⟩:=yd I ds xs its hd rv
  exact ⟨_,.list e1 e2 e3 (by simpa using ha)⟩
 |.tuple ds,v,u,h,r=>by
  rw [RD] at h
  obtain ⟨a,xs,rfl,hs,hd⟩:=h
  cases (show u=Value.ref a from r)
  obtain ⟨its,rv,⟨o,e1,e2,n,e3⟩,_⟩:=I.tuple hs
  obtain ⟨as,ha⟩:=yd I ds xs its hd rv
  exact ⟨_,.tuple e1 e2 e3 (by simpa using ha)⟩
 |.dict _,_,_,h,_=>by
  rw [RD] at h
  exact h.elim
theorem yd (I:Inv X pins σ H s):∀(ds:List PyData) (vs:List V) (us:List Ag),RDs X.K H ds vs→Vals vs us→∃as,ReadsAll s.heap us ds as
 |[],vs,us,h,r=>by
  rw [RDs] at h;subst h
  cases r
  exact ⟨_,.nil⟩
 |d::ds,vs,us,h,r=>by
  rw [RDs] at h
  obtain ⟨y,ys,rfl,h1,h2⟩:=h
  cases r with
  |cons r1 r2 =>
   obtain ⟨as,a1⟩:=qzm I d y _ h1 r1
   obtain ⟨bs,a2⟩:=yd I ds ys _ h2 r2
   exact ⟨_,.cons a1 a2⟩
end
end
end L2
namespace L2
open PySem PySem.Spec PyProof.Rows
section
variable {P:Ac}{w:Ah}{K:Aa}{mg:Str→Option Ag}{base:Heap}
theorem Fun.okX {x qual:Str}{st:Stmt}{f:Aj}{fd:Ad}{N ps:List Str}{k:Nat}{sp:Sp}(F:Fun K x qual st f fd)(S:FnScope N ps (wq st))(len:∀vs H Q E,sp vs H Q E→vs.length=ps.length)
  (body:∀(cdv:Ag) (A:Ae) (outer:List Env) (s:Ab) (H:Hp) (vs:List V) (Q:VK) (E:XK),Room k (A.deeper (envOfC qual (wq st) s.heap.objs.size f cdv))→sp vs H Q E →
   ∃t,PSs (Qw (CXE P w) P w K mg base N qual (wq st) f cdv A outer s H E) (wx st) t∧t { nx:=λ_ H'=>Q .non H',rt:=Q } (jq N vs) H):FnOk P w K mg base (CXE P w) (k+1) f fd ps sp:=by
 obtain ⟨oc,od,kV,doc,pm,an,cdv,ct,osl,rfl,lk,hcd⟩:=F.ex
 exact fn_of lk hcd S len λA outer s H vs Q E hr hsp=>body cdv A outer s H vs Q E hr hsp
structure DefIn (K:Aa)(x:Str)(st:Stmt):Prop where
 ex:∃f fd,PySem.W.nsIn K mainGlobals x=some (some (.ref f))∧Fun K x x st f fd
theorem def_mk {x:Str}{st:Stmt}{f:Aj}{oc:Ag}{od an:Option Aj}{osl:Array (Option Ag)}{kV doc pm cdv ct:Ag}(a:PySem.W.nsIn K mainGlobals x=some (some (.ref f)))
  (l:K.lookup f=some ⟨oc,od,.func (PySem.W.fnOf x x (zu st) (wx st) (wq st) .none kV doc pm an cdv ct),osl⟩) (c:PySem.W.codeIn K cdv x=true) (k:PySem.W.keepIn K (.ref f)=true):DefIn K x st:=⟨_,_,a,qzb l c k⟩
def xg (x:Str)(st:Stmt)(ps:List Str):Prop:=∀(kV doc pm:Ag) (an:Option Aj) (cdv ct:Ag) (us:List Ag),us.length=ps.length→bindArgs (PySem.W.fnOf x x (zu st) (wx st) (wq st) .none kV doc pm an cdv ct) ⟨us,[]⟩=pure (ps.zip us)
structure Cal (P:Ac)(w:Ah)(K:Aa)(mg:Str→Option Ag)(base:Heap)(x:Str)(k:Nat)(sp:Sp):Prop where
 ex:∃f fd ps,mg x=some (.ref f)∧FnOk P w K mg base (CXE P w) k f fd ps sp∧PySem.W.keepIn K (.ref f)=true∧Binds K fd ps []
theorem DefIn.cal {x:Str}{st:Stmt}{ps:List Str}{k:Nat}{sp:Sp}{h:Heap}(d:DefIn K x st)(KX:K.In h)(G:h.Ns mainGlobals mg)(b:xg x st ps)(ok:∀f fd,Fun K x x st f fd→FnOk P w K mg base (CXE P w) k f fd ps sp):Cal P w K mg base x k sp:=by
 obtain ⟨f,fd,a,F⟩:=d.ex
 exact ⟨f,fd,ps,am KX G a,ok f fd F,F.kp,F.binds b⟩
end
section
variable {X:Cx}{x:Str}{k:Nat}{sp:Sp}{E:St→XK}{p pos:Pos}{e:Expr}{es:List Expr}{t:TA}
theorem uh (c:Cal X.prog X.w X.K X.mg X.base x k sp)(hr:Room k X.A)(hg:Gl X x)(hx:zg X E)
  (ha:PA X (e::es) t) (hdb:(x==("__debug__" : Str))=false:=by decide) (he:starEach (e::es) X.env=(false,eval e X.env)::starEach es X.env:=by rfl) (hpl:(backTo pos (starEach es X.env)).any (·.1)=false:=by rfl) :
  PE X (.Call (.Name x p) (e::es) [] pos) (Jj sp E t):=by
 obtain ⟨f,fd,ps,hm,F,kp,b⟩:=c.ex
 exact qzj F hr hg hm kp b hx ha hdb he hpl
end
def tCut (t u:TS):TS:=λD σ H=>∃R:St→Hp→Prop,t { D with nx:=R } σ H∧∀σ' H',R σ' H'→u D σ' H'
theorem Zs {X:Cx}{st:Stmt}{z7:List Stmt}{t u:TS}(h1:PS X st t)(h2:PSs X z7 u):PSs X (st::z7) (tCut t u):=by
 intro pins s σ H D I ⟨R,h,hR⟩
 refine ci (thn (h1 pins s σ H { D with nx:=R } I h) λf s1 q=>?_)
 cases f with
 |next =>
  obtain ⟨σ1,H1,I1,q1⟩:=q
  exact h2 pins s1 σ1 H1 D I1 (hR σ1 H1 q1)
 |brk=>exact q
 |cont=>exact q
 |ret u=>exact q
theorem vb {c A B:Prop}[Decidable c](h1:c→A)(h2:¬ c→B):if decide c=true then A else B:=by
 by_cases h:c
 ·rw [aW h]
  exact uj (h1 h)
 ·rw [aK h]
  exact Zn (h2 h)
theorem deqI {i j:Int}:decide (V.int i=V.int j)=decide (i=j):=by
 by_cases h:i=j
 ·subst h;simp
 ·simp [h]
theorem zw {i j:Int}{A B:Prop}(h1:i=j→A)(h2:i≠j→B):if decide (V.int i=V.int j)=true then A else B:=by
 rw [deqI]
 exact vb h1 h2
theorem Same.upd {H:Hp}{p:Aj}{o:HO}(n:H p=none):Same H (upd H p o):=λb u e=>by
 rw [wz (qt e n)]
 exact e
theorem Same.rd {H H':Hp}{a:Aj}{o:HO}(h:Same H H')(r:Rd H a o):Rd H' a o:=by
 rcases r with r|⟨u,r⟩
 ·exact .inl (h a _ r)
 ·exact .inr ⟨u,h a _ r⟩
theorem Same.sqt {K:Aa}{H H':Hp}{a:Aj}{xs:List V}(h:Same H H')(s:SqT K H a xs):SqT K H' a xs:=by
 rcases s with s|s
 ·exact .inl (h.rd s)
 ·exact .inr s
theorem Same.sql {K:Aa}{H H':Hp}{a:Aj}{xs:List V}(h:Same H H')(s:SqL K H a xs):SqL K H' a xs:=h.seq s
theorem SqT.new {K:Aa}{H:Hp}{p:Aj}{xs:List V}:SqT K (upd H p (.tup xs)) p xs:=SqT.of q9
theorem SqL.new {K:Aa}{H:Hp}{p:Aj}{xs:List V}:SqL K (upd H p (.lst xs)) p xs:=SqL.of q9
theorem Q4:bootBuiltins "abs" = some (.builtin "abs"):=by decide +kernel
theorem qzd:bootBuiltins "all" = some (.builtin "all"):=by decide +kernel
theorem Zh {ns:List Int}{i:Int}(h0:0≤i)(h1:i<ns.length):atI (ns.map V.int) i=some (V.int (ns.getD i.toNat 0)):=by
 have hl:i.toNat<ns.length:=by lia
 have e:(ns.map V.int)[i.toNat]?=some (V.int (ns.getD i.toNat 0)):=by
  rw [bn,aM,aE hl]
  rfl
 have:=qv6 e
 rwa [Int.toNat_of_nonneg h0] at this
def Y4 (ns:List Int)(i:Int):Int:=if i<ns.length then ns.getD i.toNat 0 else if (ns.length:Int)=0 then 7*i+3 else ns.getD (i%ns.length).toNat 0+1009*i
def divs (c:Int):Nat→Int
 |0=>c
 |n+1=>divs c n/1000
def Jq (K:Aa):Sp:=λvs H Q _=>∃(a:Aj) (ns:List Int) (i:Int),vs=[.ref a,.int i]∧SqL K H a (ns.map V.int)∧0≤i∧∀r,r=Y4 ns i→Q (.int r) H
def vy (c:Int):Int:=if c<0 then -c else c
def Zy (c t:Int):Int:=(c%1000003*48271+t*7919+101)%999983
def Y1 (c t:Int):Int:=(Zy c t*Zy c t+c%1000003*31+t*104729)%1000033
def Yp (c t:Int):Int:=if 10 ^ 18≤vy c then (if c<0 then divs (vy c) t.toNat%1000 else divs (vy c) t.toNat) else (Y1 c t*Y1 c t+Zy c t*17+t*30011)%999979
def ym (ns:List Int)(i t m:Int):Int:=Yp (Y4 ns i) t%m
theorem qzr (ns:List Int)(i t m:Int)(h:0<m):0≤ym ns i t m:=ba _ (by lia)
theorem qzz (ns:List Int)(i t m:Int)(h:0<m):ym ns i t m<m:=aO _ h
theorem qvk {c t:Int}(h:10 ^ 18≤vy c)(n:c<0):Yp c t=divs (vy c) t.toNat%1000:=by rw [Yp,aF h,aF n]
theorem qw1 {c t:Int}(h:10 ^ 18≤vy c)(n:¬ c<0):Yp c t=divs (vy c) t.toNat:=by rw [Yp,aF h,ax n]
theorem qvy {c t:Int}(h:¬ 10 ^ 18≤vy c):Yp c t=(Y1 c t*Y1 c t+Zy c t*17+t*30011)%999979:=by rw [Yp,ax h]
def Y9 (K:Aa):Sp:=λvs H Q _=>∃(a:Aj) (ns:List Int) (i t m:Int),vs=[.ref a,.int i,.int t,.int m]∧SqL K H a (ns.map V.int)∧0≤i∧0≤t∧t<1000000∧0<m ∧
 ∀r,r=ym ns i t m→0≤r→r<m→Q (.int r) H
theorem Sm.small {n:Nat}{i:Int}(h1:-(2 ^ 64)≤i)(h2:i≤2 ^ 64)(hn:65≤n):Sm n i:=by
 refine Sm.mono (n:=65) ?_ hn
 unfold Sm
 lia
def qq1 (K:Aa):Sp:=λvs H Q _=>∃(a:Aj) (ns:List Int),vs=[.ref a]∧SqL K H a (ns.map V.int)∧ns.length≤63∧∀H',Q (.bl true) H'
theorem sz1 {x:V}:[x].length≤sizeLine:=by show 1≤sizeLine;decide
theorem sz2 {x y:V}:[x,y].length≤sizeLine:=by show 2≤sizeLine;decide
theorem sz0:([]:List V).length≤sizeLine:=by show 0≤sizeLine;decide
end L2
namespace L2
open PySem
def yr (x y:Int):Int:=((Nat.gcd x.toNat y.toNat:Nat):Int)
theorem qxx {x:Int}(h:0≤x):yr x 0=x:=by
 unfold yr
 have:(0:Int).toNat=0:=rfl
 rw [this,Nat.gcd_zero_right]
 lia
theorem qwn {x y:Int}(hx:0≤x)(hy:0<y):yr y (x%y)=yr x y:=by
 unfold yr
 have e:(x%y).toNat=x.toNat%y.toNat:=by
  have h1:x=(x.toNat:Int):=by lia
  have h2:y=(y.toNat:Int):=by lia
  have h3:x%y=((x.toNat%y.toNat:Nat):Int):=by
   conv=>lhs;rw [h1,h2]
   exact (Int.natCast_emod _ _).symm
  rw [h3]
  exact Int.toNat_natCast _
 rw [e,Nat.gcd_comm y.toNat,←Nat.gcd_rec,Nat.gcd_comm]
theorem qqs (t:Int):vy t=(t.natAbs:Int):=by
 unfold vy
 split <;> lia
theorem qkh (t:Int):0≤vy t:=by
 rw [qqs]
 lia
theorem zr (t b:Int):yr (vy t) b=((Nat.gcd t.natAbs b.toNat:Nat):Int):=by
 unfold yr
 rw [qqs,Int.toNat_natCast]
def gOf (t b:Int):Int:=yr (vy t) b
def xj (t b:Int):Int×Int:=(t/gOf t b,b/gOf t b)
theorem v2 {t b:Int}(h:1≤b):1≤gOf t b:=by
 unfold gOf
 rw [zr]
 have:0<Nat.gcd t.natAbs b.toNat:=Nat.gcd_pos_of_pos_right _ (by lia)
 lia
theorem gOf_le {t b:Int}(h:1≤b):gOf t b≤b:=by
 unfold gOf
 rw [zr]
 have:Nat.gcd t.natAbs b.toNat≤b.toNat:=Nat.gcd_le_right _ (by lia)
 lia
theorem qxz {t b:Int}(h:1≤b):gOf t b∣b:=by
 unfold gOf
 rw [zr]
 have h1:((Nat.gcd t.natAbs b.toNat:Nat):Int)∣(b.toNat:Int):=cj.mpr (Nat.gcd_dvd_right _ _)
 have h2:(b.toNat:Int)=b:=by lia
 rwa [h2] at h1
theorem qwt {t b:Int}:gOf t b∣t:=by
 unfold gOf
 rw [zr]
 have h1:((Nat.gcd t.natAbs b.toNat:Nat):Int)∣(t.natAbs:Int):=cj.mpr (Nat.gcd_dvd_left _ _)
 exact Int.dvd_natAbs.mp h1
theorem qx8 {t b:Int}:gOf t b*(t/gOf t b)=t:=Int.mul_ediv_cancel' qwt
theorem qqp {t b:Int}(h:1≤b):gOf t b*(b/gOf t b)=b:=Int.mul_ediv_cancel' (qxz h)
theorem qv3 {t b:Int}(h:1≤b):1≤(xj t b).2:=by
 show 1≤b/gOf t b
 have h2:=qqp (t:=t) (b:=b) h
 have h3:=v2 (t:=t) h
 have:0<b/gOf t b:=by
  rcases bM 0 (b/gOf t b) with z|z
  ·exact z
  ·have:=bd z (show 0≤gOf t b by lia)
   rw [h2,Int.mul_zero] at this
   lia
 lia
theorem low_co {t b:Int}(h:1≤b):gOf (xj t b).1 (xj t b).2=1:=by
 have h3:=v2 (t:=t) h
 have hb:=qv3 (t:=t) h
 obtain ⟨g,hg⟩:∃g:Nat,gOf t b=(g:Int):=⟨_,by unfold gOf;exact zr t b⟩
 have g1:0<g:=by lia
 have hgg:g=Nat.gcd t.natAbs b.toNat:=by
  have:(g:Int)=((Nat.gcd t.natAbs b.toNat:Nat):Int):=by rw [←hg];unfold gOf;exact zr t b
  lia
 have et:g*(xj t b).1.natAbs=t.natAbs:=by
  have:=qx8 (t:=t) (b:=b)
  have e:=bH Int.natAbs this
  rw [Int.natAbs_mul,hg] at e
  simpa [xj,hg] using e
 have eb:g*(xj t b).2.toNat=b.toNat:=by
  have:=qqp (t:=t) (b:=b) h
  rw [hg] at this
  have q:(xj t b).2=b/(g:Int):=by unfold xj;rw [hg]
  have q2:b/(g:Int)=((b/(g:Int)).toNat:Int):=by rw [←q];lia
  rw [q]
  rw [q2] at this
  have:((g*(b/(g:Int)).toNat:Nat):Int)=b:=by rw [Int.natCast_mul];exact this
  lia
 unfold gOf
 rw [zr]
 have key:g*Nat.gcd (xj t b).1.natAbs (xj t b).2.toNat=g*1:=by
  rw [←Nat.gcd_mul_left,et,eb,←hgg,Nat.mul_one]
 have:=Nat.eq_of_mul_eq_mul_left g1 key
 rw [this]
 rfl
end L2
namespace L2
open PySem PySem.Spec PyProof.Rows
def CapAll (env:Env):List (Str×Aj)→Prop
 |[]=>True
 |(y,c)::r=>env.cells.lookup y=some c∧CapAll env r
theorem CapAll.look {env:Env}:∀ {cl:List (Str×Aj)},CapAll env cl→∀ {y:Str} {c:Aj},cl.lookup y=some c→env.cells.lookup y=some c
 |[],_,_,_,e=>by cases e
 |(z,d)::r,h,y,c,e=>by
  rw [ar] at e
  cases hb:y==z with
  |true =>
   rw [hb] at e
   rw [eq_of_beq hb]
   exact h.1.trans e
  |false =>
   rw [hb] at e
   exact CapAll.look h.2 e
def HasAll (cl:List (Str×Aj)):List (Str×NameKind)→Prop
 |[]=>True
 |(n,k)::r=>(k=.free→∃c,cl.lookup n=some c)∧k≠.cell∧HasAll cl r
theorem HasAll.nocell {cl:List (Str×Aj)}:∀ {ns:List (Str×NameKind)},HasAll cl ns→∀y∈ns,y.2≠.cell
 |(n,k)::r,h,y,hy=>by
  rcases aq.mp hy with rfl|hy
  ·exact h.2.1
  ·exact HasAll.nocell h.2.2 y hy
theorem HasAll.has {cl:List (Str×Aj)}{env:Env}:∀ {ns:List (Str×NameKind)},HasAll cl ns→∀ {x:Str} {q:NameKind},q=.cell∨q=.free →
  (ns.map λ(n,k)=>if (k==NameKind.free&&env.scope.kind==.function&&env.kindOf n==some .cell) then (n,NameKind.cell) else (n,k)).lookup x=some q→∃c,cl.lookup x=some c
 |[],_,_,_,_,e=>by cases e
 |(n,k)::r,h,x,q,hq,e=>by
  have ih:=HasAll.has (env:=env) h.2.2 (x:=x) hq
  rw [aJ] at e
  by_cases hc:(k==NameKind.free&&env.scope.kind==.function&&env.kindOf n==some .cell)=true
  ·have e':=e
   dsimp only at e'
   rw [aF hc,ar] at e'
   cases hb:x==n with
   |true =>
    rw [aV,aV] at hc
    obtain ⟨c,hcc⟩:=h.1 (eq_of_beq hc.1.1)
    exact ⟨c,by rw [eq_of_beq hb];exact hcc⟩
   |false =>
    rw [hb] at e'
    exact ih e'
  ·have e':=e
   dsimp only at e'
   rw [ax hc,ar] at e'
   cases hb:x==n with
   |true =>
    rw [hb] at e'
    have ek:k=q:=ao e'
    rcases hq with rfl|rfl
    ·exact absurd ek h.2.1
    ·obtain ⟨c,hcc⟩:=h.1 ek
     exact ⟨c,by rw [eq_of_beq hb];exact hcc⟩
   |false =>
    rw [hb] at e'
    exact ih e'
def CapIx (X:Cx)(scope:Scope)(cl:List (Str×Aj)):List Nat→Prop
 |[]=>True
 |j::r=>(∃y c,X.N[j]?=some y∧X.env.scope.names.lookup y=some .cell∧(relabel scope X.env).names.lookup y=some .cell∧cl.lookup y=some c)∧CapIx X scope cl r
theorem CapIx.get {X:Cx}{scope:Scope}{cl:List (Str×Aj)}:∀ {M:List Nat},CapIx X scope cl M→∀ {k j:Nat},M[k]?=some j →
  ∃y c,X.N[j]?=some y∧X.env.scope.names.lookup y=some .cell∧(relabel scope X.env).names.lookup y=some .cell∧cl.lookup y=some c
 |[],_,k,j,e=>by cases e
 |i::r,h,0,j,e=>by
  cases e
  exact h.1
 |i::r,h,k+1,j,e=>CapIx.get h.2 (k:=k) e
def Yr (X:Cx)(x:Str)(M:List Nat):List Str:=x::M.map λj=>X.N.getD j Str.empty
def zd (M:List Nat)(σ:St)(o:Option V):St:=o::M.map λj=>(σ[j]?).join
abbrev zb (X:Cx)(scope:Scope)(cl:List (Str×Aj))(x:Str)(M:List Nat)(C:Aj)(s2:Ab)(H2:Hp)(fp:List Aj)(pn:List (Aj×Obj)):Cx :=
 { X with N:=Yr X x M,s₀:=s2,H₀:=H2,env:=compEnvC scope cl C X.env,outer:=X.stack,ex:=fp,fn:=λ_=>false,pn:=pn,xe:=λ_ _=>False }
section
variable {X:Cx}{pins:List (Aj×Obj)}{σ:St}{H:Hp}{s2:Ab}{scope:Scope}{cl:List (Str×Aj)}{x:Str}{M:List Nat}{fp:List Aj}{C:Aj}{h1:Heap}{tk:Nat}
theorem Inv.compG {oo:HO}{xs:List Str}(I:Inv X pins σ H s2)(hc:CapAll X.env cl)(hh:HasAll cl scope.names)(hm:CapIx X scope cl M)(hk:scope.kind=.function)(hC:s2.heap.objs.size<C)
  (keep:∀b o,s2.heap.get? b=some o→h1.get? b=some o) (hn:h1.Ns C λ_=>none) (hD:ObjOk X.prog X.w (upd H s2.heap.objs.size oo) h1 s2.heap.objs.size oo)
  (hfp:∀b∈fp,vq X pins H b) (hob:∀b∈fp,∃o,s2.heap.get? b=some o) :
  Inv { X with N:=xs++M.map λj=>X.N.getD j Str.empty,s₀:=s2,H₀:=H,env:=compEnvC scope cl C X.env,outer:=X.stack,ex:=fp,fn:=λ_=>false,pn:=X.pn++pins,xe:=λ_ _=>False } [] ((xs.map λ_=>none)++M.map λj=>(σ[j]?).join) (upd H s2.heap.objs.size oo) { s2 with heap:=h1,toks:=tk }:=by
 have hfr:=I.hok.fresh (a:=s2.heap.objs.size) (ae _)
 have o:=I.ok
 have hcc:∀y c,cl.lookup y=some c→X.env.cells.lookup y=some c:=λy c e=>hc.look e
 have hlt:∀b∈fp,b<s2.heap.objs.size:=λb hb=>by
  obtain ⟨ob,e⟩:=hob b hb
  exact ac e
 have hstk:∀b∈fp,b∉frs X.stack:=λb hb z=>by
  rcases aq.mp (I.stkSub b z) with z|z
  ·exact (hfp b hb).2.1 z
  ·exact (hfp b hb).2.2.1 z
 have hCn:H C=none:=I.hok.fresh (be hC)
 refine ⟨⟨o.mod,hk,o.glob,o.blt,be hC,λy z c e1 e2=>o.inj y z c (hcc y c e1) (hcc z c e2),λy hy=>?_,λy c z=>(al z).elim,o.hd,o.frames,.inl rfl,λb hb=>⟨ak (aQ (hlt b hb) hC),λy c e=>(hfp b hb).2.2.2.2.1 y c (hcc y c e)⟩,
  λb ob e=>I.bs b ob e,aP o.bsz I.sz,λb ob e z=>?_,hstk,I.stack,I.stkFree⟩,rfl,I.bare,?_,?_,λy c e=>?_,?_,λy c e=>?_,λp hp=>?_,?_,?_⟩
 ·rcases hy with hy|hy
  ·exact hh.has (.inl rfl) hy
  ·exact hh.has (.inr rfl) hy
 ·obtain ⟨e1,e2⟩:=I.bs b ob e
  exact (hfp b z).2.2.2.1.elim (λq=>o.noex b ob e q) λq=>by
   have:=o.bs b ob e
   exact aD _ (ag (ac this.1) q)
 ·exact (Un.laid (fs:=frs X.stack) (ex:=fp) (o:=oo) keep (ae _) hfr)
 ·refine ⟨_,hn,λi z v e1 e2 e3=>?_⟩
  rcases Nat.lt_or_ge i xs.length with hi|hi
  ·have e2:((xs.map λ_=>(none:Option V))++M.map λj=>(σ[j]?).join)[i]?=some (some v):=e2
   rw [bX (by rw [aj];exact hi),bn,aE hi] at e2
   cases e2
  have e1':(xs++M.map λj=>X.N.getD j Str.empty)[i]?=some z:=e1
  have e2':((xs.map λ_=>(none:Option V))++M.map λj=>(σ[j]?).join)[i]?=some (some v):=e2
  rw [bq hi] at e1'
  rw [bq (by rw [aj];exact hi),aj] at e2'
  generalize i-xs.length=k at e1' e2'
  rw [bn] at e1' e2'
  cases hj:M[k]? with
  |none=>rw [hj] at e1';cases e1'
  |some j =>
   rw [hj] at e1' e2'
   obtain ⟨y,c,f1,f2,f3,f4⟩:=hm.get hj
   have ez:X.N.getD j Str.empty=z:=ao e1'
   rw [aM,f1] at ez
   have ez':y=z:=ez
   subst ez'
   have ev:(σ[j]?).join=some v:=ao e2'
   have ev':σ[j]?=some (some v):=by
    cases hs:σ[j]? with
    |none=>rw [hs] at ev;cases ev
    |some w' =>
     rw [hs] at ev
     have:w'=some v:=ev
     rw [this]
   obtain ⟨m,hns,hl⟩:=I.loc
   obtain ⟨u,r,l⟩:=hl j y v f1 ev' (.inr (.inl f2))
   refine ⟨u,r,.inr ⟨.inl f3,c,f4,?_⟩⟩
   rcases l with ⟨lk,_⟩|⟨_,c',lc,li⟩
   ·have:X.env.scope.names.lookup y=some .local:=lk
    rw [f2] at this
    cases this
   ·rw [hcc y c f4] at lc
    have:=ao lc
    subst this
    exact li.keeps keep
 ·obtain ⟨v,hv⟩:=I.cell y c (hcc y c e)
  exact ⟨v,hv.keeps keep⟩
 ·show upd H s2.heap.objs.size oo C=none
  rw [wz (Nat.ne_of_gt hC)]
  exact hCn
 ·show upd H s2.heap.objs.size oo c=none
  obtain ⟨v,ob,e1,e2⟩:=I.cell y c (hcc y c e)
  rw [wz (ak (ac e1))]
  exact I.freeC y c (hcc y c e)
 ·have hp':p∈X.pn++pins:=(aR.mp hp).elim (λz=>z) λz=>nomatch z
  obtain ⟨e1,e2,e3,e4,e5⟩:=I.pin p hp'
  refine ⟨keep _ _ e1,?_,ak (aQ (ac e1) hC),λz=>?_,e5⟩
  ·rw [wz (ak (ac e1))]
   exact e2
  ·rcases aq.mp (I.stkSub p.1 z) with z|z
   ·exact e3 z
   ·exact e4 z
 ·exact I.hok.laid keep (ae _) hD
 ·show ((xs.map λ_=>(none:Option V))++M.map λj=>(σ[j]?).join).length=(xs++M.map λj=>X.N.getD j Str.empty).length
  simp only [bf,aj]
theorem Inv.comp (I:Inv X pins σ H s2)(hc:CapAll X.env cl)(hh:HasAll cl scope.names)(hm:CapIx X scope cl M)(hk:scope.kind=.function)(hC:s2.heap.objs.size<C)
  (keep:∀b o,s2.heap.get? b=some o→h1.get? b=some o) (hn:h1.Ns C λ_=>none) (hD:h1.get? s2.heap.objs.size=some { cls:=.type "list",data:=.seq #[] 0 })
  (hfp:∀b∈fp,vq X pins H b) (hob:∀b∈fp,∃o,s2.heap.get? b=some o) :
  Inv (zb X scope cl x M C s2 H fp (X.pn++pins)) [] (zd M σ none) (upd H s2.heap.objs.size (.lst [])) { s2 with heap:=h1,toks:=tk }:=I.compG (xs:=[x]) hc hh hm hk hC keep hn ⟨aA _,[],0,.nil,hD⟩ hfp hob
theorem Inv.uncomp {pins':List (Aj×Obj)}{σ':St}{H':Hp}{s':Ab}{h':Heap}(I:Inv X pins σ H s2)(hC:s2.heap.objs.size≤C)(hfp:∀b∈fp,vq X pins H b)
  (J:Inv (zb X scope cl x M C s2 H fp (X.pn++pins)) pins' σ' H' s') (hs:Heap.SameBut C s'.heap h'):Inv X pins σ H' { s' with heap:=h' }:=by
 have hb:=J.base
 have nC:∀b o,s2.heap.get? b=some o→b≠C:=λb o e=>ak (ag (ac e) hC)
 have st:∀b o,b≠C→s'.heap.get? b=some o→h'.get? b=some o:=λb o n e=>(hs.2 b n).trans e
 refine I.call' (s':={ s' with heap:=h' }) (ch:=fp) J.os ⟨λb o e n nb nx=>st b o (nC b o e) (hb.keep b o e n nb nx),λb o e n hb' nx=>?_,hb.free,λb o e nx=>?_,hb.tups,hb.frzs,hb.tbls⟩ ?_ J.bare λb hbf=>?_
 ·obtain ⟨sl,e1⟩:=hb.slot b o e n hb' nx
  exact ⟨sl,st b _ (nC b o e) e1⟩
 ·obtain ⟨o',e1⟩:=hb.there b o e nx
  exact ⟨o',st b _ (nC b o e) e1⟩
 ·intro b u hu
  have fr:H' C=none:=J.free
  refine (J.hok b u hu).stay (λc v hc e=>st c v ?_ e) (λ_ z=>z) λ_ _ z=>z
  rcases hc with rfl|hc
  ·intro z;rw [z,fr] at hu;cases hu
  ·intro z;rw [z,fr] at hc;cases hc
 ·obtain ⟨q1,q2,q3,q4,q5,q6⟩:=hfp b hbf
  exact ⟨q4,q2,q5,q6⟩
end
def qww (J:It)(M:List Nat)(te:TE)(σ:St)(H1:Hp)(Q:VK):Prop:=∀p,H1 p=none→∃W:Nat→Nat→List V→Hp→Prop,(∃m,W 0 m [] (upd H1 p (.lst []))) ∧
 ∀i m ys H2,W i m ys H2→H2 p=some (.lst ys)∧ys.length<sizeLine∧((J.stop i H2∧Q (.ref p) H2)∨(J.go i H2∧∀v H3,J.yld i H2 v H3 →
  te (zd M σ (some v)) H3 λy H4=>H4 p=some (.lst ys)∧∃m',m'<m∧W (i+1) m' (ys++[y]) (upd H4 p (.lst (ys++[y])))))
def tComp (M:List Nat)(wi:TI)(te:TE):TE:=λσ H Q=>wi σ H λJ H1=>qww J M te σ H1 Q
theorem Wt {Y:Cx}{tg e:Expr}{k:Nat}{acc:Ag}{it:Aj}{fp:List Aj}{tn:Nat→Heap→Prop}{J:It}{ps:Pos}{REST:Sem PySem.Fin}{post:Result→Ab→Prop}{gg:TG}{pins:List (Aj×Obj)}{σ:St}{V:Nat→Nat→Hp→Prop}{Qd:Hp→Prop}{s0:Ab}{H0:Hp}{n0:Nat}
  (T:Turn Y.prog Y.w Y.K tg J fp it tn) (hc:Y.calm=true) (hx:∀v s,Y.xe v s→False)
  (hturn:compTurn e k (.ref it) acc Y.env=(standAt ps >>= λ_=>pyNext (.ref it) >>= λr=>match r with|none=>pure (.done .next)|some v=>letOwnedTupleGo tg (.ref it) v >>= λ_=>assign tg Y.env v >>= λ_=>REST))
  (hun:Y.A.under (.compLoop e k (.ref it) acc Y.env)=Y.A) (hden:(model Y.prog Y.w).den (.compLoop e k (.ref it) acc Y.env)=((compTurn e k (.ref it) acc Y.env).onRaise λz=>do noteFrame z Y.env;theTreesLotGoes z))
  (hg:PG Y tg gg) (fok:∀H2:Hp,(∀b∈fp,H2 b=none)→∀b∈fp,vq Y pins H2 b)
  (hV:∀i n H2,V i n H2→(J.stop i H2∧Qd H2)∨(J.go i H2∧∀v H3,J.yld i H2 v H3→∃Z:St→Hp→Prop,gg v σ H3 Z∧∀σ4 H4,Z σ4 H4→(σ.length=σ4.length∧∀(k:Nat) z,σ[k]?=some (some z)→σ4[k]?=some (some z))∧∀pins' s',Inv Y pins' σ4 H4 s' →
   wpAny (model Y.prog Y.w) Y.A REST (λr s5=>r=Fin.again (.compLoop e k (.ref it) acc Y.env)∧∃H5,Inv Y pins' σ4 H5 s5∧∃n',n'<n∧V (i+1) n' H5) Y.xe s'))
  (fin:∀H2 s4,Inv Y pins σ H2 s4→Qd H2→post (.ok .next) s4) (I:Inv Y pins σ H0 s0) (v0:V 0 n0 H0) (t0:tn 0 s0.heap) (nf:∀b∈fp,H0 b=none) :
  codeAny (model Y.prog Y.w) Y.A (.compLoop e k (.ref it) acc Y.env) post s0:=by
 refine codeAny_loop rfl (λn s3=>∃i H2,V i n H2∧Inv Y pins σ H2 s3∧tn i s3.heap∧∀b∈fp,H2 b=none) (λn s3 hI=>?_) n0 ⟨0,H0,v0,I,t0,nf⟩
 obtain ⟨i,H2,w,J2,t,nf2⟩:=hI
 rw [hun,hden]
 refine wpAny_noted ?_
 rw [hturn]
 refine ah (cf (ah ?_))
 rcases hV i n H2 w with ⟨hst,hq⟩|⟨hgo,hy⟩
 ·refine ay (T.done Y rfl rfl rfl hc i pins s3 _ H2 (λ_ _=>False) J2 (fok H2 nf2) t hst) (λr s4 hr=>?_) λ_ _ z=>z.elim
  obtain ⟨rfl,J4⟩:=hr
  exact az (fin H2 s4 J4 hq)
 ·refine ay (T.item Y rfl rfl rfl hc i pins s3 _ H2 (λ_ _=>False) J2 (fok H2 nf2) t hgo) (λr s4 hr=>?_) λ_ _ z=>z.elim
  obtain ⟨u,rfl,hw⟩:=hr
  refine ah (ay hw (λ_ s5 hr5=>?_) λ_ _ z=>z.elim)
  obtain ⟨v,H3,J5,rv,yl,t5,nf⟩:=hr5
  obtain ⟨Z,hz,hZ⟩:=hy v H3 yl
  refine ah (ay (hg _ s5 _ H3 v u _ (J5.pinned (fok H3 nf) (T.obj _ _ t5)) rv hz) (λ_ s6 hr6=>?_) λv s z=>(hx v s z).elim)
  obtain ⟨σ6,H6,J6,z6⟩:=hr6
  obtain ⟨⟨hl,hw6⟩,hR⟩:=hZ σ6 H6 z6
  refine ay (hR _ s6 J6) (λr s7 hr7=>?_) λv s z=>(hx v s z).elim
  obtain ⟨rfl,H7,J7,n',hn',v7⟩:=hr7
  refine ⟨rfl,n',hn',i+1,H7,v7,(J7.unpinned (pins:=pins)).weak hl hw6,?_,?_⟩
  ·exact T.keep _ _ _ t5 λb hb o e=>(J7.pin (b,o) (ap _ (ap _ (vk hb e)))).1
  ·intro b hb
   obtain ⟨o,e,_⟩:=T.obj _ _ t5 b hb
   exact (J7.pin (b,o) (ap _ (ap _ (vk hb e)))).2.1
section
variable {Y:Cx}{elt cd:Expr}{te:TE}{tt:TT}{c:Code}{p:Aj}{σ:St}{H:Hp}{pins:List (Aj×Obj)}{s:Ab}
def appS (elt:Expr)(acc:Ag)(env:Env)(c:Code):Sem PySem.Fin:=(eval elt env >>= λx=>call (.builtin "list.append") [acc,x] >>= λ_=>pure ()) >>= λ_=>again c
theorem qvx {ys:List V}{N:List V→Hp→Prop}(hx:∀v s,Y.xe v s→False)(he:PE Y elt te)(J:Inv Y pins σ H s)(hz:ys.length<sizeLine)(h:te σ H λy H4=>H4 p=some (.lst ys)∧N (ys++[y]) (upd H4 p (.lst (ys++[y])))) :
  wpAny (model Y.prog Y.w) Y.A (appS elt (.ref p) Y.env c) (λr s5=>r=Fin.again c∧∃H5,Inv Y pins σ H5 s5∧∃zs,N zs H5) Y.xe s:=by
 refine ah (ah (ay (he _ s _ H _ J h) (λyv s7 hr7=>?_) λ_ _ z=>z))
 obtain ⟨y,H4,J7,ry,hp4,n4⟩:=hr7
 refine ah (ay (Wh (X:=Y) _ s7 _ H4 (.ref p) [y] (.ref p) [yv] (λ_ H8=>H8=upd H4 p (.lst (ys++[y]))) J7 rfl (.cons ry .nil) ⟨_,ys,y,rfl,rfl,hp4,hz,rfl⟩) (λ_ s8 hr8=>?_) λ_ _ z=>z)
 obtain ⟨_,H8,J8,_,rfl⟩:=hr8
 exact az (az ⟨rfl,_,J8,_,n4⟩)
end
section
variable {X:Cx}{elt iter cd:Expr}{x:Str}{px pos:Pos}{scope:Scope}{cl:List (Str×Aj)}{M:List Nat}{wi:TI}{te:TE}{tt:TT}{pins:List (Aj×Obj)}{σ:St}
theorem qqn {N:List Str}{C:Aj}{s2:Ab}{H1:Hp}{fp:List Aj}(hcap:CapAll X.env cl)(I2:Inv X pins σ H1 s2)(hlt:s2.heap.objs.size<C)(hfp:∀b∈fp,vq X pins H1 b)(hbl:∀b∈fp,b<s2.heap.objs.size)(H2:Hp)(hn:∀b∈fp,H2 b=none) :
  ∀b∈fp,vq { X with N:=N,s₀:=s2,H₀:=H1,env:=compEnvC scope cl C X.env,outer:=X.stack,ex:=fp,fn:=λ_=>false,pn:=X.pn++pins,xe:=λ_ _=>False } [] H2 b:=λb hb=>by
 obtain ⟨q1,q2,q3,q4,q5,q6⟩:=hfp b hb
 refine ⟨hn b hb,ak (aQ (hbl b hb) hlt),λz=>?_,.inl hb,λy c e=>q5 y c (hcap.look e),λp hp=>q6 p ((aR.mp hp).elim (λz=>z) λz=>nomatch z)⟩
 rcases aq.mp (I2.stkSub b z) with z|z
 ·exact q2 z
 ·exact q3 z
theorem qxy {tg:Expr}{ifs:List Expr}{z7:List Comprehension}(hclos:closureFor scope X.env=pure cl)(hhas:HasAll cl scope.names)(hk:scope.kind=.function)
  (hnames:∀y∈scope.names,y.2=.local→scope.names.lookup y.1=some .local) (hi:PI X tg iter wi) (hs:∀z,foldedSetIterable iter X.env z=pure z)
  {use:Option (Ag→Sem Unit)} {QQ:Ag→Ab→Prop} {s:Ab} {H:Hp} {ps:Pos} {R:It→Hp→Prop} (I:Inv X pins σ H s) (h:wi σ H R)
  (go:∀(it:Aj) (fp:List Aj) (tn:Nat→Heap→Prop) (J:It) (H1:Hp) (s2:Ab) (C:Aj) (h3:Heap) (tk:Nat),Inv X pins σ H1 s2→Turn X.prog X.w X.K tg J fp it tn→tn 0 h3→(∀b∈fp,vq X pins H1 b)→(∀b∈fp,b<s2.heap.objs.size)→(∀b∈fp,∃o,s2.heap.get? b=some o)→R J H1→s2.heap.objs.size<C →
   (∀b o,s2.heap.get? b=some o→h3.get? b=some o)→(h3.Ns C λ_=>none)→h3.get? s2.heap.objs.size=some { cls:=.type "list",data:=.seq #[] 0 } →
   codeAny (model X.prog X.w) X.A (.compLoop (.ListComp elt (⟨tg,iter,ifs,0⟩::z7) scope pos) 0 (.ref it) (.ref s2.heap.objs.size) (compEnvC scope cl C X.env)) (compPost (model X.prog X.w) X.A X.xe use QQ (.ref s2.heap.objs.size) C) { s2 with heap:=h3,toks:=tk }) :
  wpAny (model X.prog X.w) X.A (comprehension (.ListComp elt (⟨tg,iter,ifs,0⟩::z7) scope pos) scope X.env ps (newList []) false (eval iter X.env) use) QQ X.xe s:=by
 refine wpAny_comprehension_free (use:=use) rfl hs hclos hk hnames ?_
 refine thn (hi pins s σ H _ I h) λv s1 h1=>thn h1 λitv s2 h2=>?_
 obtain ⟨it,fp,tn,J,H1,rfl,I2,T,t0,hfp,hR⟩:=h2
 refine ca ?_
 refine wpAny_newFunctionEnv hhas.nocell (by intro y hy;cases hy) (λh3 hns hsb=>?_) hk
 dsimp only at hns hsb ⊢
 generalize hH2:s2.heap.push { cls:=.type "list",dict:=none,data:=.seq ([]:List Ag).toArray }=G2 at hns hsb ⊢
 have hC:G2.objs.size=s2.heap.objs.size+1:=by rw [←hH2,bT]
 have hlt:s2.heap.objs.size<G2.objs.size:=by lia
 have keep:∀b o,s2.heap.get? b=some o→h3.get? b=some o:=λb o e=>by
  rw [hsb.2 b (ak (aQ (ac e) hlt))]
  exact aa _ (hH2▸aa _ e)
 have hD:h3.get? s2.heap.objs.size=some { cls:=.type "list",data:=.seq #[] 0 }:=by
  rw [hsb.2 _ (ak hlt)]
  exact aa _ (hH2▸ai _ rfl)
 have t3:=T.keep 0 _ _ t0 λb _ o e=>keep b o e
 have loop:=λtk=>go it fp tn J H1 s2 G2.objs.size h3 tk I2 T t3 hfp (λb hb=>let ⟨o,e,_⟩:=T.obj 0 _ t0 b hb;ac e) (λb hb=>let ⟨o,e,_⟩:=T.obj 0 _ t0 b hb;⟨o,e⟩) hR hlt keep hns hD
 exact codeAny_compStart_list (loop _) (T.self _ 0 _ _ _ t3 (loop _))
theorem um (M:List Nat)(σ:St)(v:V):(zd M σ none).length=(zd M σ (some v)).length∧∀(k:Nat) z,(zd M σ none)[k]?=some (some z)→(zd M σ (some v))[k]?=some (some z):=⟨rfl,λk z ez=>by
 cases k with
 |zero=>cases ez
 |succ k=>exact ez⟩
end
section
variable {X:Cx}{elt iter:Expr}{x:Str}{px pos:Pos}{scope:Scope}{cl:List (Str×Aj)}{M:List Nat}{wi:TI}{te:TE}
theorem qx7 (hc:X.calm=true)(hclos:closureFor scope X.env=pure cl)(hcap:CapAll X.env cl)(hhas:HasAll cl scope.names)(hix:CapIx X scope cl M)(hk:scope.kind=.function)
  (hnames:∀y∈scope.names,y.2=.local→scope.names.lookup y.1=some .local) (hx:scope.names.lookup x=some .local) (hnd:(Yr X x M).Nodup) (hi:PI X (.Name x px) iter wi)
  (he:∀C s2 H2 fp pn,PE (zb X scope cl x M C s2 H2 fp pn) elt te) (hs:∀z,foldedSetIterable iter X.env z=pure z)
  {use:Option (Ag→Sem Unit)} {QQ:Ag→Ab→Prop} {pins:List (Aj×Obj)} {s:Ab} {σ:St} {H:Hp} {Q:VK} {ps:Pos} (I:Inv X pins σ H s) (h:wi σ H λJ H1=>qww J M te σ H1 Q)
  (fin:∀(C:Aj) (s2 s4:Ab) (H1 H2:Hp) (fp:List Aj),Inv X pins σ H1 s2→s2.heap.objs.size<C→(∀b∈fp,vq X pins H1 b)→Inv (zb X scope cl x M C s2 H1 fp (X.pn++pins)) [] (zd M σ none) H2 s4→Q (.ref s2.heap.objs.size) H2 →
   compPost (model X.prog X.w) X.A X.xe use QQ (.ref s2.heap.objs.size) C (.ok .next) s4) :
  wpAny (model X.prog X.w) X.A (comprehension (.ListComp elt [⟨.Name x px,iter,[],0⟩] scope pos) scope X.env ps (newList []) false (eval iter X.env) use) QQ X.xe s:=by
 refine qxy hclos hhas hk hnames hi hs I h λit fp tn J H1 s2 C h3 tk I2 T t3 hfp hbl hob hR hlt keep hns hD=>?_
 obtain ⟨W,⟨m0,w0⟩,hW⟩:=hR s2.heap.objs.size (I2.hok.fresh (ae _))
 have hxl:(relabel scope X.env).names.lookup x=some .local:=lookup_relabel_local hx
 refine Wt (Y:=zb X scope cl x M C s2 H1 fp (X.pn++pins)) (V:=λi n H2=>∃ys,W i n ys H2) (Qd:=Q (.ref s2.heap.objs.size)) (REST:=appS elt (.ref s2.heap.objs.size) (compEnvC scope cl C X.env) _) T hc (λ_ _ z=>z) (compTurn_list1 ..) rfl rfl (zh (i:=0) hnd rfl (.inl hxl) (.inr hxl)) (qqn hcap I2 hlt hfp hbl) (λi n H2 ⟨ys,w⟩=>?_) (λH2 s4 J4 q=>fin C s2 s4 H1 H2 fp I2 hlt hfp J4 q) (I2.comp hcap hhas hix hk hlt keep hns hD hfp hob) ⟨[],w0⟩ t3 λb hb=>by rw [wz (ak (hbl b hb))];exact (hfp b hb).1
 obtain ⟨hp,hz,hcase⟩:=hW i n ys H2 w
 refine hcase.imp id λ⟨hgo,hy⟩=>⟨hgo,λv H3 yl=>⟨λσ4 H4=>σ4=zd M σ (some v)∧H3=H4,⟨rfl,rfl⟩,λ_ _ e=>?_⟩⟩
 obtain ⟨rfl,rfl⟩:=e
 refine ⟨um M σ v,λpins' s' J=>?_⟩
 refine ay (qvx (N:=λzs H5=>∃m',m'<n∧W (i+1) m' zs H5) (λ_ _ z=>z) (he _ _ _ _ _) J hz (hy v H3 yl)) (λr s5 ⟨e,H5,J5,zs,m',hm,w'⟩=>⟨e,H5,J5,m',hm,zs,w'⟩) λ_ _ z=>z
theorem qq8 (hc:X.calm=true)(hclos:closureFor scope X.env=pure cl)(hcap:CapAll X.env cl)(hhas:HasAll cl scope.names)(hix:CapIx X scope cl M)(hk:scope.kind=.function)
  (hnames:∀y∈scope.names,y.2=.local→scope.names.lookup y.1=some .local) (hx:scope.names.lookup x=some .local) (hnd:(Yr X x M).Nodup) (hi:PI X (.Name x px) iter wi)
  (he:∀C s2 H2 fp pn,PE (zb X scope cl x M C s2 H2 fp pn) elt te) (hs:∀z,foldedSetIterable iter X.env z=pure z:=by intro _;rfl) :
  PE X (.ListComp elt [⟨.Name x px,iter,[],0⟩] scope pos) (tComp M wi te):=by
 intro pins s σ H Q I h
 rw [eval_ListComp]
 refine qx7 hc hclos hcap hhas hix hk hnames hx hnd hi he hs (use:=none) I h λC s2 s4 H1 H2 fp I2 hlt hfp J4 hq=>?_
 obtain ⟨m,hn,_⟩:=J4.loc
 exact ⟨m,hn,λh' hs'=>⟨.ref s2.heap.objs.size,H2,I2.uncomp (be hlt) hfp J4 hs',rfl,hq⟩⟩
theorem Inv.but {pins:List (Aj×Obj)}{σ:St}{H:Hp}{s:Ab}{h':Heap}{C:Aj}(I:Inv X pins σ H s)(hn:H C=none)(h1:X.s₀.heap.objs.size≤C)(h2:C≠X.env.locals)(h3:∀y c,X.env.cells.lookup y=some c→c≠C)(h4:∀p∈X.pn++pins,p.1≠C)
  (hs:Heap.SameBut C s.heap h'):Inv X pins σ H { s with heap:=h' }:=by
 have st:∀b o,b≠C→s.heap.get? b=some o→h'.get? b=some o:=λb o n e=>(hs.2 b n).trans e
 have nc:∀b,b∉[C]→b≠C:=λb z e=>z (by rw [e];exact .head _)
 refine I.call' (s':={ s with heap:=h' }) (ch:=[C]) rfl ⟨λb o e n _ nx=>st b o (nc b nx) e,λb o e n _ nx=>⟨o.slots,st b o (nc b nx) e⟩,λb o e n _=>n,λb o e nx=>⟨o,st b o (nc b nx) e⟩,λ_ _ e=>e,λ_ _ _ e=>e,λb ps e=>⟨#[],by rw [e];simp⟩⟩ ?_ I.bare λb hb=>?_
 ·intro b u hu
  refine (I.hok b u hu).stay (λc v hc e=>st c v ?_ e) (λ_ z=>z) λ_ _ z=>z
  rcases hc with rfl|hc
  ·intro z;rw [z,hn] at hu;cases hu
  ·intro z;rw [z,hn] at hc;cases hc
 ·rw [aB.mp hb]
  exact ⟨.inr h1,h2,h3,h4⟩
end
theorem qqv {M:List Nat}{lo:Int}{n:Nat}{te:TE}{σ:St}{H:Hp}{Q:VK}(f:Nat→V)(hn:n≤1000000)(he:∀(i:Nat) (H':Hp) (R:VK),i<n→Same H H'→R (f i) H'→te (zd M σ (some (.int (lo+i)))) H' R)
  (k:∀p,H p=none→Q (.ref p) (upd H p (.lst ((List.range n).map f)))):qww (Itr lo n) M te σ H Q:=by
 intro p np
 refine ⟨λi m ys H2=>i≤n∧m=n-i∧ys=(List.range i).map f∧H2=upd H p (.lst ys),⟨n,aA _,rfl,rfl,rfl⟩,?_⟩
 rintro i m ys H2 ⟨hi,rfl,rfl,rfl⟩
 refine ⟨q9,?_,?_⟩
 ·rw [aj,bb]
  have:(1000000:Nat)<sizeLine:=by decide
  lia
 ·by_cases hlt:i<n
  ·refine .inr ⟨hlt,?_⟩
   rintro v H3 ⟨rfl,rfl⟩
   refine he i (upd H p (.lst ((List.range i).map f))) _ hlt (Same.upd np) ⟨q9,n-(i+1),by lia,by lia,rfl,?_,?_⟩
   ·rw [List.range_succ,cA]
    rfl
   ·rw [uq]
  ·have:i=n:=by lia
   subst this
   exact .inl ⟨ae _,k p np⟩
end L2
namespace L2
open PySem PySem.Spec PyProof.Rows
section
variable {X:Cx}
theorem W1 {pins:List (Aj×Obj)}{σ:St}{H:Hp}{s:Ab}{p:Aj}{ns:List Int}(I:Inv X pins σ H s)(hS:SqL X.K H p (ns.map V.int)) :
  ∃ts:Array (Int×Tok),s.heap.IsList p (intItems ts)∧ns=ts.toList.map (·.1):=by
 obtain ⟨its,rv,⟨o,n,e1,e2,e3,e4⟩,hz⟩:=I.list hS
 have hi:=Jy rv
 obtain ⟨ts,ht⟩:=hi.allInts.items
 refine ⟨ts,⟨o,e1,e2,n,by rw [←ht];exact e4⟩,?_⟩
 have a1:=hi.numsOf
 have a2:=nums_intItems (xs:=ts)
 rw [←ht] at a2
 exact a1.symm.trans a2
theorem Wx (hc:X.calm=true):jn X (.builtin "min") (λxs H Q=>∃(p:Aj) (ns:List Int),xs=[.ref p]∧SqL X.K H p (ns.map V.int)∧0<ns.length∧∀m,m∈ns→(∀a∈ns,m≤a)→Q (.int m) H):=by
 intro pins s σ H xs us Q I r h
 obtain ⟨p,ns,rfl,hS,hne,q⟩:=h
 obtain ⟨u,rfl,ru⟩:=Q2 r
 cases (show u=Value.ref p from ru)
 obtain ⟨ts,hl,he⟩:=W1 I hS
 have hsz:ts.size=ns.length:=by rw [he,aj,bu]
 refine min_intList (I.ok.hd hc) hl (by lia) λv h' tk hv hk=>?_
 obtain ⟨t,rfl⟩:=intItems_at hv
 obtain ⟨b1,b2⟩:=argBest_lt (numAt ts) (ts.size-1)
 refine ⟨.int _,H,I.kept hk,⟨t,rfl⟩,q _ ?_ λa ha=>?_⟩
 ·rw [he,numAt_eq]
  refine getD_mem ?_
  rw [←he,←hsz]
  lia
 ·rw [he] at ha
  obtain ⟨j,hj,rfl⟩:=mem_getD ha
  rw [←he,←hsz] at hj
  rw [←numAt_eq]
  exact b2 j (by lia)
theorem Wz (hc:X.calm=true):jn X (.builtin "max") (λxs H Q=>∃(p:Aj) (ns:List Int),xs=[.ref p]∧SqL X.K H p (ns.map V.int)∧0<ns.length∧∀m,m∈ns→(∀a∈ns,a≤m)→Q (.int m) H):=by
 intro pins s σ H xs us Q I r h
 obtain ⟨p,ns,rfl,hS,hne,q⟩:=h
 obtain ⟨u,rfl,ru⟩:=Q2 r
 cases (show u=Value.ref p from ru)
 obtain ⟨ts,hl,he⟩:=W1 I hS
 have hsz:ts.size=ns.length:=by rw [he,aj,bu]
 refine max_intList (I.ok.hd hc) hl (by lia) λv h' tk hv hk=>?_
 obtain ⟨t,rfl⟩:=intItems_at hv
 obtain ⟨b1,b2⟩:=argBest_gt (numAt ts) (ts.size-1)
 refine ⟨.int _,H,I.kept hk,⟨t,rfl⟩,q _ ?_ λa ha=>?_⟩
 ·rw [he,numAt_eq]
  refine getD_mem ?_
  rw [←he,←hsz]
  lia
 ·rw [he] at ha
  obtain ⟨j,hj,rfl⟩:=mem_getD ha
  rw [←he,←hsz] at hj
  rw [←numAt_eq]
  exact b2 j (by lia)
theorem Yt:∀ {bs:List Bool} {its:List Ag},Vals (bs.map V.bl) its→its=bs.map Value.bool
 |[],_,.nil=>rfl
 |b::bs,_,.cons r t=>by
  have e:_=Value.bool b:=r
  rw [aJ,←Yt t,e]
theorem qw7 (bs:List Bool):(List.range bs.length).all (λi=>bs.getD i true)=bs.all id:=by
 rw [bx,ck,ck]
 constructor
 ·intro h b hb
  obtain ⟨i,hi,rfl⟩:=List.getElem_of_mem hb
  have:=h i (bO.mpr hi)
  rw [aM,aE hi] at this
  exact this
 ·intro h i hi
  have hi':=bO.mp hi
  rw [aM,aE hi']
  exact h _ (List.getElem_mem hi')
theorem Q6 (hc:X.calm=true):jn X (.builtin "all") (λxs H Q=>∃(p:Aj) (bs:List Bool),xs=[.ref p]∧SqL X.K H p (bs.map V.bl)∧Q (.bl (bs.all id)) H):=by
 intro pins s σ H xs us Q I r h
 obtain ⟨p,bs,rfl,hS,q⟩:=h
 obtain ⟨u,rfl,ru⟩:=Q2 r
 cases (show u=Value.ref p from ru)
 obtain ⟨its,rv,⟨o,n,e1,e2,e3,e4⟩,hz⟩:=I.list hS
 have hits:=Yt rv
 have hl:s.heap.IsList p its.toArray:=⟨o,e1,e2,n,e4⟩
 have hlt:p<s.heap.objs.size:=ac e1
 refine call_all_walk (wpAny_pyIter_list hl ?_)
 refine ⟨s.heap.objs.size,_,_,_,_,_,λi=>bs.getD i true,rfl,Walks.list (A:=X.A.in1) (I.ok.hd hc) _ p (ak hlt) its.toArray,⟨⟨_,ai _ rfl,rfl,rfl⟩,hl.push _⟩,λi v s' Q' E' hP hQ=>?_,λh' tk hk=>?_⟩
 ·have hv:its[i]?=some v:=by simpa using hP
  rw [hits,bn] at hv
  cases hb:bs[i]? with
  |none=>rw [hb] at hv;cases hv
  |some b =>
   rw [hb] at hv
   have ev:Value.bool b=v:=ao hv
   subst ev
   refine bj ?_
   have e2:bs.getD i true=b:=by rw [aM,hb];rfl
   have hQ':Q' (bs.getD i true) s':=hQ
   rw [e2] at hQ'
   exact hQ'
 ·have hlen:its.toArray.size=bs.length:=by rw [hits];simp
  rw [hlen,qw7]
  refine ⟨.bl _,H,I.kept λb ob e=>hk b ob (λhm=>?_) (aa _ e),rfl,q⟩
  have z:b=s.heap.objs.size:=by simpa using hm
  exact aD _ (z▸ac e)
end
structure MCal (P:Ac)(w:Ah)(K:Aa)(mg:Str→Option Ag)(base:Heap)(C:Aj)(m:Str)(k:Nat)(sp:Sp):Prop where
 ex:∃f fd ps,Meth K C m f∧FnOk P w K mg base (CXE P w) k f fd ps sp∧Binds K fd ps []
structure CCal (P:Ac)(w:Ah)(K:Aa)(mg:Str→Option Ag)(base:Heap)(x:Str)(C:Aj)(k:Nat)(sp:Sp):Prop where
 ex:∃f fd ps,mg x=some (.ref C)∧Mk K C f∧FnOk P w K mg base (CXE P w) k f fd ps sp∧Binds K fd ps []
structure MethIn (K:Aa)(C:Aj)(m qual:Str)(st:Stmt):Prop where
 ex:∃f fd,PySem.W.findIn K (.ref C) m=some (some (.ref f))∧PySem.W.isFn K (.ref f)=true∧Fun K m qual st f fd
theorem qvs {K:Aa}{C:Aj}{m qual:Str}{st:Stmt}{f:Aj}{oc:Ag}{od an:Option Aj}{osl:Array (Option Ag)}{kV doc pm cdv ct:Ag}(a:PySem.W.findIn K (.ref C) m=some (some (.ref f)))(i:PySem.W.isFn K (.ref f)=true)
  (l:K.lookup f=some ⟨oc,od,.func (PySem.W.fnOf m qual (zu st) (wx st) (wq st) .none kV doc pm an cdv ct),osl⟩) (c:PySem.W.codeIn K cdv qual=true) (k:PySem.W.keepIn K (.ref f)=true):MethIn K C m qual st:=⟨_,_,a,i,qzb l c k⟩
def xy (x qual:Str)(st:Stmt)(ps:List Str):Prop:=∀(kV doc pm:Ag) (an:Option Aj) (cdv ct:Ag) (us:List Ag),us.length=ps.length→bindArgs (PySem.W.fnOf x qual (zu st) (wx st) (wq st) .none kV doc pm an cdv ct) ⟨us,[]⟩=pure (ps.zip us)
section
variable {P:Ac}{w:Ah}{K:Aa}{mg:Str→Option Ag}{base:Heap}{C:Aj}
theorem MethIn.cal {m qual:Str}{st:Stmt}{ps:List Str}{k:Nat}{sp:Sp}(d:MethIn K C m qual st)(b:xy m qual st ps)(ok:∀f fd,Fun K m qual st f fd→FnOk P w K mg base (CXE P w) k f fd ps sp):MCal P w K mg base C m k sp:=by
 obtain ⟨f,fd,a,i,F⟩:=d.ex
 exact ⟨f,fd,ps,⟨a,i,F.kp⟩,ok f fd F,F.binds b⟩
theorem MethIn.ccal {x qual:Str}{st:Stmt}{ps:List Str}{k:Nat}{sp:Sp}(d:MethIn K C "__init__" qual st)(hm:mg x=some (.ref C))(mk:PySem.W.makesIn K C=true)(kc:PySem.W.keepIn K (.ref C)=true)(b:xy "__init__" qual st ps)
  (ok:∀f fd,Fun K "__init__" qual st f fd→FnOk P w K mg base (CXE P w) k f fd ps sp):CCal P w K mg base x C k sp:=by
 obtain ⟨f,fd,a,i,F⟩:=d.ex
 exact ⟨f,fd,ps,hm,⟨mk,a,i,kc⟩,ok f fd F,F.binds b⟩
end
section
variable {X:Cx}{C:Aj}{x m:Str}{k:Nat}{sp:Sp}{E:St→XK}{p pos apos:Pos}{e o:Expr}{es:List Expr}{ta:TE}{t:TA}
theorem z0 (c:CCal X.prog X.w X.K X.mg X.base x C k sp)(hr:Room (k+1) X.A)(hg:Gl X x)(hx:zg X E)
  (ha:PA X (e::es) t) (hdb:(x==("__debug__" : Str))=false:=by decide) (he:starEach (e::es) X.env=(false,eval e X.env)::starEach es X.env:=by rfl) (hpl:(backTo pos (starEach es X.env)).any (·.1)=false:=by rfl) :
  PE X (.Call (.Name x p) (e::es) [] pos) (qqq C sp E t):=by
 obtain ⟨f,fd,ps,hm,M,F,b⟩:=c.ex
 exact qzf M F hr hg hm b hx ha hdb he hpl
theorem qzc {pl:Sem Bool}(he:PE X o ta)(cl:Cls X.K C)(c:MCal X.prog X.w X.K X.mg X.base C m k sp)(hr:Room k X.A)(hx:zg X E)(ha:PA X (e::es) t)
  (hst:starEach (e::es) X.env=(false,eval e X.env)::starEach es X.env:=by rfl) (hpl:(backTo pos (starEach es X.env)).any (·.1)=false:=by rfl)
  (ht:eval (.Call (.Attribute o m apos) (e::es) [] pos) X.env=(do
   let ov ←eval o X.env
   standAt apos.atName
   let (f,first) ←holding [ov] (getMethod ov m pl)
   callWith pos f first (backTo pos (starEach (e::es) X.env)) (backToKw pos (keywordEach [] X.env))):=by rfl) :
  PE X (.Call (.Attribute o m apos) (e::es) [] pos) (Qq C m sp E ta t):=by
 obtain ⟨f,fd,ps,hm,F,b⟩:=c.ex
 exact qvb he cl hm F hr b hx ha hst hpl ht
theorem j8 {pl:Sem Bool}(he:PE X o ta)(cl:Cls X.K C)(c:MCal X.prog X.w X.K X.mg X.base C m k sp)(hr:Room k X.A)(hx:zg X E)
  (ht:eval (.Call (.Attribute o m apos) [] [] pos) X.env=(do
   let ov ←eval o X.env
   standAt apos.atName
   let (f,first) ←holding [ov] (getMethod ov m pl)
   callWith pos f first (backTo pos (starEach [] X.env)) (backToKw pos (keywordEach [] X.env))):=by rfl) :
  PE X (.Call (.Attribute o m apos) [] [] pos) (Qq C m sp E ta vd):=by
 obtain ⟨f,fd,ps,hm,F,b⟩:=c.ex
 exact qxu he cl hm F hr b hx ht
end
end L2
namespace L2
open PySem PySem.Spec PyProof.Rows
theorem Y3 {K:Aa}{C D:Aj}(d:ExcC K D)(hm:PySem.W.mroIn K C (.ref D)=some true):CatchR K C D:=by
 intro M A E h g dr t os e oe Q X he hc q
 obtain ⟨tl,N,a1,a2,a3,a4,a5,a6,a7,a8,a9,b0,b1,b2,b3,b5,mN,hC,hN,hni,T⟩:=jd X d.q
 have hbase:=T.hasType aI.hasBase
 have hcB:(Value.ref D::tl).contains (.type "BaseException")=true:=by rw [bB,hbase,cx]
 have L:PySem.W.Looks M h (isSubtype (.ref C) (.ref D)) true:=bv X hm
 have f:=tc_notTuple
 unfold excMatches
 repeat (first | (with_reducible refine aG he ?_;rw [hc]) | with_reducible refine aG hC ?_ | (with_reducible refine aT hC ?_;rw [hcB]) | with_reducible refine L.at ?_ | wp_step)
 exact q
section
variable {X:Cx}{pins pn:List (Aj×Obj)}{σ:St}{H H':Hp}{s s':Ab}{e:Aj}{ob:Obj}
end
section
variable {X:Cx}{x n:Str}{i:Nat}{D0:Aj}{G:Aj→Prop}{np hpos pos:Pos}{b₀:Stmt}{body suite:List Stmt}{tb:(St→XK)→TS}{th:Aj→TS}
end
end L2
namespace L2
open PySem
theorem qq6 {t b:Int}(hb:1≤b):(xj t b).1<0↔t<0:=by
 have hg:=v2 (t:=t) hb
 have e1:gOf t b*(xj t b).1=t:=qx8
 constructor
 ·intro h
  have:=bV h (show 0<gOf t b by lia)
  rw [e1,Int.mul_zero] at this
  exact this
 ·intro h
  rcases bM (xj t b).1 0 with z|z
  ·exact z
  ·have:=bd z (show 0≤gOf t b by lia)
   rw [e1,Int.mul_zero] at this
   lia
theorem qzs {t b n:Int}(hb:1≤b):n*(xj t b).2<(xj t b).1↔n*b<t:=by
 have hg:=v2 (t:=t) hb
 have e1:gOf t b*(xj t b).1=t:=qx8
 have e2:gOf t b*(xj t b).2=b:=qqp hb
 have e3:gOf t b*(n*(xj t b).2)=n*b:=by
  generalize gOf t b=g at *
  generalize (xj t b).2=y at *
  grind
 constructor
 ·intro h
  have:=bV h (show 0<gOf t b by lia)
  rw [e1,e3] at this
  exact this
 ·intro h
  rcases bM (n*(xj t b).2) (xj t b).1 with z|z
  ·exact z
  ·have:=bd z (show 0≤gOf t b by lia)
   rw [e1,e3] at this
   lia
end L2
namespace L2
open PySem PySem.Spec PyProof.Rows
structure FunD (K:Aa)(x:Str)(st:Stmt)(f:Aj)(fd:Ad):Prop where
 ex:∃(oc:Ag) (od:Option Aj) (T:Aj) (kV doc pm:Ag) (an:Option Aj) (cdv ct:Ag) (osl:Array (Option Ag)),
  fd=PySem.W.fnOf x x (zu st) (wx st) (wq st) (.ref T) kV doc pm an cdv ct∧K.lookup f=some ⟨oc,od,.func fd,osl⟩∧PySem.W.codeIn K cdv x=true∧∃o n,K.lookup T=some o∧o.data=.seq #[.none] n
 kp:PySem.W.keepIn K (.ref f)=true
structure DefInD (K:Aa)(x:Str)(st:Stmt):Prop where
 ex:∃f fd,PySem.W.nsIn K mainGlobals x=some (some (.ref f))∧FunD K x st f fd
section
variable {P:Ac}{w:Ah}{K:Aa}{mg:Str→Option Ag}{base:Heap}
theorem qkc {x:Str}{st:Stmt}{f T:Aj}{oc:Ag}{od an:Option Aj}{osl:Array (Option Ag)}{kV doc pm cdv ct:Ag}(a:PySem.W.nsIn K mainGlobals x=some (some (.ref f)))
  (l:K.lookup f=some ⟨oc,od,.func (PySem.W.fnOf x x (zu st) (wx st) (wq st) (.ref T) kV doc pm an cdv ct),osl⟩) (c:PySem.W.codeIn K cdv x=true) (k:PySem.W.keepIn K (.ref f)=true) {tc:Ag} {td:Option Aj} {tn:Nat} {ts:Array (Option Ag)} (t:K.lookup T=some ⟨tc,td,.seq #[.none] tn,ts⟩):DefInD K x st:=⟨_,_,a,⟨oc,od,T,kV,doc,pm,an,cdv,ct,osl,rfl,l,c,_,_,t,rfl⟩,k⟩
theorem FunD.okX {x:Str}{st:Stmt}{f:Aj}{fd:Ad}{N ps:List Str}{k:Nat}{sp:Sp}(F:FunD K x st f fd)(S:FnScope N ps (wq st))(len:∀vs H Q E,sp vs H Q E→vs.length=ps.length)
  (body:∀(cdv:Ag) (A:Ae) (outer:List Env) (s:Ab) (H:Hp) (vs:List V) (Q:VK) (E:XK),Room k (A.deeper (envOfC x (wq st) s.heap.objs.size f cdv))→sp vs H Q E →
   ∃t,PSs (Qw (CXE P w) P w K mg base N x (wq st) f cdv A outer s H E) (wx st) t∧t { nx:=λ_ H'=>Q .non H',rt:=Q } (jq N vs) H):FnOk P w K mg base (CXE P w) (k+1) f fd ps sp:=by
 obtain ⟨oc,od,T,kV,doc,pm,an,cdv,ct,osl,rfl,lk,hcd,_⟩:=F.ex
 exact fn_of lk hcd S len λA outer s H vs Q E hr hsp=>body cdv A outer s H vs Q E hr hsp
def jx (x:Str)(st:Stmt)(ps:List Str)(ds:List Ag):Prop:=∀(T:Aj) (kV doc pm:Ag) (an:Option Aj) (cdv ct:Ag) (us:List Ag),(us++ds).length=ps.length →
 ∃kk,bindArgs (PySem.W.fnOf x x (zu st) (wx st) (wq st) (.ref T) kV doc pm an cdv ct) ⟨us,[]⟩=seqItems? (.ref T) >>= kk∧kk (some #[.none])=pure (ps.zip (us++ds))
structure CalD (P:Ac)(w:Ah)(K:Aa)(mg:Str→Option Ag)(base:Heap)(x:Str)(k:Nat)(sp:Sp):Prop where
 ex:∃f fd ps,mg x=some (.ref f)∧FnOk P w K mg base (CXE P w) k f fd ps sp∧PySem.W.keepIn K (.ref f)=true∧Binds K fd ps []∧Binds K fd ps [.none]
theorem FunD.binds {x:Str}{st:Stmt}{f:Aj}{fd:Ad}{ps:List Str}{ds:List Ag}(F:FunD K x st f fd)(b:jx x st ps ds):Binds K fd ps ds:=by
 obtain ⟨oc,od,T,kV,doc,pm,an,cdv,ct,osl,rfl,lk,hcd,o,n,e1,e2⟩:=F.ex
 intro s us X hl
 obtain ⟨kk,h1,h2⟩:=b T kV doc pm an cdv ct us hl
 exact PySem.W.binds_K X rfl e1 e2 h1 h2
theorem DefInD.cal {x:Str}{st:Stmt}{ps:List Str}{k:Nat}{sp:Sp}{h:Heap}(d:DefInD K x st)(KX:K.In h)(G:h.Ns mainGlobals mg)(b:jx x st ps [])(b':jx x st ps [.none])(ok:∀f fd,FunD K x st f fd→FnOk P w K mg base (CXE P w) k f fd ps sp):CalD P w K mg base x k sp:=by
 obtain ⟨f,fd,a,F⟩:=d.ex
 exact ⟨f,fd,ps,am KX G a,ok f fd F,F.kp,F.binds b,F.binds b'⟩
theorem CalD.all {x:Str}{k:Nat}{sp:Sp}(c:CalD P w K mg base x k sp):Cal P w K mg base x k sp:=by
 obtain ⟨f,fd,ps,h1,h2,h3,h4,_⟩:=c.ex
 exact ⟨f,fd,ps,h1,h2,h3,h4⟩
end
section
variable {X:Cx}{x:Str}{k:Nat}{sp:Sp}{E:St→XK}{p pos:Pos}{e:Expr}{es:List Expr}{t:TA}
end
end L2
namespace L2
open PySem PySem.Spec PyProof.Rows
section
variable {κ:Type}[DecidableEq κ]
def w8 (kvs:List (κ×V))(k:κ):Option V:=(kvs.find? λkv=>decide (kv.1=k)).map (·.2)
def zx (kvs:List (κ×V))(k:κ)(v:V):List (κ×V) :=
 if (kvs.any λkv=>decide (kv.1=k))=true then kvs.map (λkv=>if kv.1=k then (kv.1,v) else kv) else kvs++[(k,v)]
def Wd (kvs:List (κ×V))(k:κ):List (κ×V):=kvs.filter λkv=>decide (kv.1≠k)
theorem Q3 {p:κ×V}{r:List (κ×V)}{k:κ}(e:p.1=k):w8 (p::r) k=some p.2:=by simp [w8,aS,e]
theorem uy {p:κ×V}{r:List (κ×V)}{k:κ}(e:¬ p.1=k):w8 (p::r) k=w8 r k:=by simp [w8,aS,e]
theorem Qs (k:κ):∀kvs:List (κ×V),(kvs.any λkv=>decide (kv.1=k))=(w8 kvs k).isSome
 |[]=>rfl
 |p::r=>by
  rw [cC]
  by_cases e:p.1=k
  ·simp only [Q3 e,aW e,Bool.true_or,Option.isSome_some]
  ·rw [uy e,aK e,Bool.false_or];exact Qs k r
theorem zc (kvs:List (κ×V))(k:κ)(v:V):(zx kvs k v).length≤kvs.length+1:=by
 unfold zx
 split
 ·rw [aj];lia
 ·rw [bf,aN,List.length_nil];lia
theorem zt {kvs:List (κ×V)}{k:κ}(v:V)(h:w8 kvs k=none):zx kvs k v=kvs++[(k,v)]:=by
 unfold zx
 rw [Qs,h]
 exact ax (by decide)
theorem RelO.isSome_eq {o:Option V}{u:Option Ag}(r:RelO o u):o.isSome=u.isSome:=by
 cases o with
 |none=>cases u with
  |none=>rfl
  |some _=>exact (show False from r).elim
 |some _=>cases u with
  |none=>exact (show False from r).elim
  |some _=>rfl
theorem RelO.getD {o:Option V}{u:Option Ag}{d:V}{d':Ag}(r:RelO o u)(rd:xx d d'):xx (o.getD d) (u.getD d'):=by
 cases o with
 |none=>cases u with
  |none=>exact rd
  |some _=>exact (show False from r).elim
 |some _=>cases u with
  |none=>exact (show False from r).elim
  |some _=>exact r
theorem KV.val {kvs:List (κ×V)}{vs:List (κ×Ag)}(r:KV kvs vs)(k:κ):RelO (w8 kvs k) (valueAt vs k):=by
 unfold KV at r
 induction r with
 |nil=>exact True.intro
 |@cons p q ps qs h t ih =>
  obtain ⟨h1,h2⟩:=h
  by_cases e:p.1=k
  ·have e':q.1=k:=h1.symm.trans e
   have b:valueAt (q::qs) k=some q.2:=by simp [valueAt,aS,e']
   rw [Q3 e,b];exact h2
  ·have e':¬ q.1=k:=λz=>e (h1.trans z)
   have b:valueAt (q::qs) k=valueAt qs k:=by simp [valueAt,aS,e']
   rw [uy e,b];exact ih
theorem KV.any {kvs:List (κ×V)}{vs:List (κ×Ag)}(r:KV kvs vs)(k:κ):(kvs.any λkv=>decide (kv.1=k))=vs.any λkv=>decide (kv.1=k):=by
 unfold KV at r
 induction r with
 |nil=>rfl
 |cons h t ih=>rw [cC,cC,ih,h.1]
theorem KV.repl {kvs:List (κ×V)}{vs:List (κ×Ag)}(r:KV kvs vs)(k:κ){y:V}{u:Ag}(ry:xx y u) :
  KV (kvs.map λkv=>if kv.1=k then (kv.1,y) else kv) (vs.map λkv=>if kv.1=k then (kv.1,u) else kv):=by
 unfold KV at r ⊢
 induction r with
 |nil=>exact .nil
 |@cons p q ps qs h t ih =>
  rw [aJ,aJ]
  refine .cons ?_ ih
  obtain ⟨h1,h2⟩:=h
  by_cases e:p.1=k
  ·rw [aF e,aF (h1.symm.trans e)];exact ⟨h1,ry⟩
  ·rw [ax e,ax (λz=>e (h1.trans z))];exact ⟨h1,h2⟩
theorem KV.put {kvs:List (κ×V)}{vs:List (κ×Ag)}(r:KV kvs vs)(k:κ){y:V}{u:Ag}(ry:xx y u):KV (zx kvs k y) (stored vs k u):=by
 unfold zx stored
 rw [r.any k]
 by_cases e:(vs.any λkv=>decide (kv.1=k))=true
 ·rw [aF e,aF e];exact r.repl k ry
 ·rw [ax e,ax e];exact Paired.snoc r ⟨rfl,ry⟩
theorem KV.drop {kvs:List (κ×V)}{vs:List (κ×Ag)}(r:KV kvs vs)(k:κ):KV (Wd kvs k) (without vs k):=by
 unfold KV at r ⊢
 unfold Wd without
 induction r with
 |nil=>exact .nil
 |@cons p q ps qs h t ih =>
  obtain ⟨h1,h2⟩:=h
  rw [List.filter_cons,List.filter_cons]
  by_cases e:p.1=k
  ·have a:¬ decide (p.1≠k)=true:=by simp [e]
   have b:¬ decide (q.1≠k)=true:=by simp [h1.symm.trans e]
   rw [ax a,ax b];exact ih
  ·have e':¬ q.1=k:=λz=>e (h1.trans z)
   have a:decide (p.1≠k)=true:=by simp [e]
   have b:decide (q.1≠k)=true:=by simp [e']
   rw [aF a,aF b];exact .cons ⟨h1,h2⟩ ih
theorem KV.length {kvs:List (κ×V)}{vs:List (κ×Ag)}(r:KV kvs vs):kvs.length=vs.length:=aU r
theorem Yk (kvs:List (κ×V))(k:κ):(Wd kvs k).length≤kvs.length:=List.length_filter_le _ _
end
theorem ju {P:Ac}{w:Ah}{k:Key}{u:Ag}(r:xx (kV k) u):(xz P w).is k u=true:=by
 cases k with
 |inl i=>obtain ⟨t,e⟩:=(show ∃t,u=Value.int i t from r);subst e;exact Yu P w i t
 |inr x=>obtain ⟨t,e⟩:=(show ∃t,u=Value.str x t from r);subst e;exact Yx P w x t
theorem Wp {P:Ac}{w:Ah}:∀ {ks:List Key} {us:List Ag},Vals (ks.map kV) us→ItemsAre (xz P w) ks us
 |[],_,r=>by rw [cv] at r;cases r;exact .nil
 |k::ks,_,r=>by
  rw [aJ] at r
  cases r with
  |cons h t=>exact .cons (ju h) (Wp t)
abbrev KT (H:Hp):List (List Key×V)→List (List Key×Aj×Ag)→Prop:=Paired λp q=>p.1=q.1∧H q.2.1=some (.tup (p.1.map kV))∧xx p.2 q.2.2
theorem KT.val {H:Hp}{kvs:List (List Key×V)}{xs:List (List Key×Aj×Ag)}(r:KT H kvs xs)(k:List Key):RelO (w8 kvs k) ((atKey xs k).map (·.2)):=by
 induction r with
 |nil=>exact True.intro
 |@cons p q ps qs h t ih =>
  obtain ⟨h1,_,h2⟩:=h
  by_cases e:p.1=k
  ·have e':q.1=k:=h1.symm.trans e
   have b:atKey (q::qs) k=some q.2:=by simp [atKey,aS,e']
   rw [Q3 e,b];exact h2
  ·have e':¬ q.1=k:=λz=>e (h1.trans z)
   have b:atKey (q::qs) k=atKey qs k:=by simp [atKey,aS,e']
   rw [uy e,b];exact ih
theorem KT.repl {H:Hp}{kvs:List (List Key×V)}{xs:List (List Key×Aj×Ag)}(r:KT H kvs xs)(k:List Key){y:V}{u:Ag}(ry:xx y u) :
  KT H (kvs.map λkv=>if kv.1=k then (kv.1,y) else kv) (xs.map (putAt k u)):=by
 induction r with
 |nil=>exact .nil
 |@cons p q ps qs h t ih =>
  rw [aJ,aJ]
  refine .cons ?_ ih
  obtain ⟨h1,h2,h3⟩:=h
  unfold putAt
  by_cases e:p.1=k
  ·rw [aF e,aF (h1.symm.trans e)];exact ⟨h1,h2,ry⟩
  ·rw [ax e,ax (λz=>e (h1.trans z))];exact ⟨h1,h2,h3⟩
theorem KT.put {H:Hp}{kvs:List (List Key×V)}{xs:List (List Key×Aj×Ag)}(r:KT H kvs xs)(k:List Key){b:Aj}{y:V}{u:Ag}(hb:H b=some (.tup (k.map kV)))(ry:xx y u) :
  KT H (zx kvs k y) (storedH xs k b u):=by
 have e:(kvs.any λkv=>decide (kv.1=k))=(atKey xs k).isSome:=by
  rw [Qs,(r.val k).isSome_eq,ce]
 unfold zx storedH
 rw [e]
 by_cases q:(atKey xs k).isSome=true
 ·rw [aF q,aF q];exact r.repl k ry
 ·rw [ax q,ax q];exact Paired.snoc r ⟨rfl,hb,ry⟩
theorem KT.keeps {H H':Hp}{kvs:List (List Key×V)}{xs:List (List Key×Aj×Ag)}(r:KT H kvs xs)(ht:∀b ys,H b=some (.tup ys)→H' b=some (.tup ys)):KT H' kvs xs :=
 Paired.mapP r λ_ _ z=>⟨z.1,ht _ _ z.2.1,z.2.2⟩
section
variable {P:Ac}{w:Ah}{H:Hp}{h:Heap}{a:Aj}
theorem rd_of {u:HO}(ok:HOk P w H h)(e:Rd H a u):ObjOk P w H h a u:=e.ok ok
theorem Qu {kvs:List (Key×V)}(ok:HOk P w H h)(e:Rd H a (.dK kvs)):kvs.length≤sizeLine∧(a==sysModules)=false∧∃vs,KV kvs vs∧h.DictOf (xz P w) a vs :=
 show ObjOk P w H h a (.dK kvs) from rd_of ok e
theorem Wf {kvs:List (Key×V)}(ok:HOk P w H h)(e:H a=some (.dK kvs)):kvs.length≤sizeLine∧(a==sysModules)=false∧∃vs,KV kvs vs∧h.DictOf (xz P w) a vs:=Qu ok (.inl e)
theorem km {ks:List Key}(ok:HOk P w H h)(e:H a=some (.tup (ks.map kV))):(tupleKind (xz P w)).is h ks a:=by
 obtain ⟨_,its,r,o,h1,h2,n,h3⟩:=(show ObjOk P w H h a (.tup (ks.map kV)) from ok a _ e)
 exact ⟨o,its.toArray,n,h1,h2,h3,by simpa using Wp r⟩
theorem Qp {kvs:List (List Key×V)}(ok:HOk P w H h)(e:Rd H a (.dT kvs)):kvs.length≤sizeLine∧(a==sysModules)=false ∧
  ∃xs,KT H kvs xs∧h.DictOfH (tupleKind (xz P w)) a xs:=by
 obtain ⟨z,y,xs,r,o,es,ep,h1,h2,h3,h4,h5⟩:=(show ObjOk P w H h a (.dT kvs) from rd_of ok e)
 refine ⟨z,y,xs,r,o,es,ep,h1,h2,h3,h4,λx hx=>?_,h5⟩
 have all:∀ {l:List (List Key×V)} {m:List (List Key×Aj×Ag)},KT H l m→∀x∈m,(tupleKind (xz P w)).is h x.1 x.2.1:=by
  intro l m q
  induction q with
  |nil=>intro x hx;exact nomatch hx
  |@cons p q ps qs hq t ih =>
   intro x hx
   rcases aq.mp hx with e|hx
   ·subst e
    exact km ok (by rw [←hq.1];exact hq.2.1)
   ·exact ih x hx
 exact all r x hx
theorem dt_of {kvs:List (List Key×V)}(ok:HOk P w H h)(e:H a=some (.dT kvs)):kvs.length≤sizeLine∧(a==sysModules)=false ∧
  ∃xs,KT H kvs xs∧h.DictOfH (tupleKind (xz P w)) a xs:=Qp ok (.inl e)
end
def DGet (H:Hp)(a:Aj)(y:V)(r:Option V):Prop :=
 (∃kvs k,Rd H a (.dK kvs)∧y=kV k∧r=w8 kvs k)∨∃kvs k b,Rd H a (.dT kvs)∧y=.ref b∧H b=some (.tup (k.map kV))∧r=w8 kvs k
def DPut (H:Hp)(a:Aj)(y v:V)(H':Hp):Prop :=
 (∃kvs k,H a=some (.dK kvs)∧y=kV k∧kvs.length<sizeLine∧H'=upd H a (.dK (zx kvs k v))) ∨
 ∃kvs k b,H a=some (.dT kvs)∧y=.ref b∧H b=some (.tup (k.map kV))∧kvs.length<sizeLine∧H'=upd H a (.dT (zx kvs k v))
theorem DGet.k {H:Hp}{a:Aj}{kvs:List (Key×V)}{k:Key}(e:H a=some (.dK kvs)):DGet H a (kV k) (w8 kvs k):=.inl ⟨kvs,k,.inl e,rfl,rfl⟩
theorem DPut.k {H:Hp}{a:Aj}{kvs:List (Key×V)}{k:Key}{v:V}(e:H a=some (.dK kvs))(hl:kvs.length<sizeLine):DPut H a (kV k) v (upd H a (.dK (zx kvs k v))):=.inl ⟨kvs,k,e,rfl,hl,rfl⟩
section
variable {X:Cx}{pins:List (Aj×Obj)}{σ:St}{H:Hp}{s:Ab}{a:Aj}{y v:V}{u r:Ag}{o:Option V}{A:Ae}{E:Ag→Ab→Prop}
theorem Inv.big (I:Inv X pins σ H s):sysModules<s.heap.objs.size:=by
 have h:mainGlobals<s.heap.objs.size:=(I.mod.glob.keeps I.bk).lt
 exact aQ (by decide) h
theorem qxv {Q:Ag→Ab→Prop}(hu:A.units+1<cLine)(I:Inv X pins σ H s)(g:DGet H a y (some v))(ry:xx y u)(h:∀w' s',Inv X pins σ H s'→xx v w'→Q w' s') :
  wpAny (model X.prog X.w) A (getItem (.ref a) u) Q E s:=by
 rcases g with ⟨kvs,k,e,ey,l⟩|⟨kvs,k,b,e,ey,eb,l⟩
 ·subst ey
  obtain ⟨z,hd,vs,rel,dd⟩:=Qu I.hok e
  obtain ⟨w',hw,rw'⟩:=RelO.some_of (v:=v) (o:=valueAt vs k) (by rw [l];exact rel.val k)
  exact wpAny_getItem_of (ju ry) dd.mapOf hw (h w' _ (I.tok _) rw')
 ·subst ey
  cases (show u=Value.ref b from ry)
  obtain ⟨z,hd,xs,rel,dd⟩:=Qp I.hok e
  obtain ⟨w',hw,rw'⟩:=RelO.some_of (v:=v) (o:=(atKey xs k).map (·.2)) (by rw [l];exact rel.val k)
  obtain ⟨p,hp,hp2⟩:=Option.map_eq_some_iff.mp hw
  refine wpAny_getItem_heap (bh hu) (km I.hok eb) dd hp ?_
  rw [hp2]
  exact h w' _ (I.tok _) rw'
theorem d_in {Q:Ag→Ab→Prop}(hu:A.units+1<cLine)(I:Inv X pins σ H s)(g:DGet H a y o)(ry:xx y u)(h:∀s',Inv X pins σ H s'→Q (.bool o.isSome) s') :
  wpAny (model X.prog X.w) A (compareOp .In u (.ref a)) Q E s:=by
 rcases g with ⟨kvs,k,e,ey,l⟩|⟨kvs,k,b,e,ey,eb,l⟩
 ·subst ey
  obtain ⟨z,hd,vs,rel,dd⟩:=Qu I.hok e
  refine wpAny_in_of (ju ry) hd dd.mapOf ?_
  rw [← (rel.val k).isSome_eq,←l]
  exact h _ (I.tok _)
 ·subst ey
  cases (show u=Value.ref b from ry)
  obtain ⟨z,hd,xs,rel,dd⟩:=Qp I.hok e
  refine wpAny_in_heap (bh hu) (km I.hok eb) hd dd ?_
  have q:=(rel.val k).isSome_eq
  rw [ce] at q
  rw [←q,←l]
  exact h _ (I.tok _)
theorem qv7 {Q:Ag→Ab→Prop}(hu:A.units+1<cLine)(I:Inv X pins σ H s)(g:DGet H a y o)(ry:xx y u)(h:∀s',Inv X pins σ H s'→Q (.bool (!o.isSome)) s') :
  wpAny (model X.prog X.w) A (compareOp .NotIn u (.ref a)) Q E s:=by
 rcases g with ⟨kvs,k,e,ey,l⟩|⟨kvs,k,b,e,ey,eb,l⟩
 ·subst ey
  obtain ⟨z,hd,vs,rel,dd⟩:=Qu I.hok e
  refine wpAny_notIn_of (ju ry) hd dd.mapOf ?_
  rw [← (rel.val k).isSome_eq,←l]
  exact h _ (I.tok _)
 ·subst ey
  cases (show u=Value.ref b from ry)
  obtain ⟨z,hd,xs,rel,dd⟩:=Qp I.hok e
  refine wpAny_notIn_heap (bh hu) (km I.hok eb) hd dd ?_
  have q:=(rel.val k).isSome_eq
  rw [ce] at q
  rw [←q,←l]
  exact h _ (I.tok _)
theorem vg {h':Heap}{t':Nat}{ob:HO}(I:Inv X pins σ H s)(mu:Mut (H a))(hs:Heap.SameBut a s.heap h')(he:∃q,h'.get? a=some q)(new:ObjOk X.prog X.w (upd H a ob) h' a ob) :
  Inv X pins σ (upd H a ob) { s with heap:=h',toks:=t' } :=
 I.write (x:=a) (e:=a) mu (.inl rfl) (λb q hb z=>(hs.2 b hb).trans z) he new
theorem uk {P:Ac}{w:Ah}{H':Hp}{h':Heap}{kvs:List (Key×V)}{vs:List (Key×Ag)}(z:kvs.length≤sizeLine)(hd:(a==sysModules)=false)(rel:KV kvs vs)(dd:h'.DictOf (xz P w) a vs) :
  ObjOk P w H' h' a (.dK kvs):=⟨z,hd,vs,rel,dd⟩
theorem qwr {H':Hp}{Q:Unit→Ab→Prop}(hu:A.units+1<cLine)(I:Inv X pins σ H s)(g:DPut H a y v H')(ry:xx y u)(rv:xx v r)(h:∀s',Inv X pins σ H' s'→Q () s') :
  wpAny (model X.prog X.w) A (setItem (.ref a) u r) Q E s:=by
 rcases g with ⟨kvs,k,e,ey,l,eH⟩|⟨kvs,k,b,e,ey,eb,l,eH⟩
 ·subst ey eH
  obtain ⟨z,hd,vs,rel,dd⟩:=Wf I.hok e
  have hz:vs.length≤sizeLine:=by rw [←rel.length];exact z
  have hl:(zx kvs k v).length≤sizeLine:=by have:=zc kvs k v;lia
  refine wpAny_setItem_pairs (hsz:=hz) (ju ry) dd λh' dd' hs=>h _ ?_
  have he:∃q,h'.get? a=some q:=let ⟨q,_,_,hq,_⟩:=dd';⟨q,hq⟩
  exact vg I (by rw [e];exact True.intro) hs he (uk hl hd (rel.put k rv) dd')
 ·subst ey eH
  cases (show u=Value.ref b from ry)
  obtain ⟨z,hd,xs,rel,dd⟩:=dt_of I.hok e
  have hz:xs.length≤sizeLine:=by rw [←aU rel];exact z
  have hl:(zx kvs k v).length≤sizeLine:=by have:=zc kvs k v;lia
  refine wpAny_setItem_heap (hsz:=hz) (bh hu) (km I.hok eb) dd λh' dd' hs=>h _ ?_
  obtain ⟨q,es,ep,hq,h2,h3,h4,_,h5⟩:=dd'
  refine vg I (by rw [e];exact True.intro) hs ⟨q,hq⟩ ⟨hl,hd,_,(rel.put k eb rv).keeps λc ys ec=>?_,q,es,ep,hq,h2,h3,h4,h5⟩
  rw [wz (ne_of ec e (λz=>nomatch z))]
  exact ec
end
section
variable {X:Cx}{pins:List (Aj×Obj)}{σ:St}{H:Hp}{s:Ab}{a:Aj}{kvs:List (Key×V)}{k:Key}{u:Ag}{A:Ae}{E:Ag→Ab→Prop}
theorem qxp {Q:Unit→Ab→Prop}(I:Inv X pins σ H s)(e:H a=some (.dK kvs))(ry:xx (kV k) u)(l:(w8 kvs k).isSome=true)(h:∀s',Inv X pins σ (upd H a (.dK (Wd kvs k))) s'→Q () s') :
  wpAny (model X.prog X.w) A (delItem (.ref a) u) Q E s:=by
 obtain ⟨z,hd,vs,rel,dd⟩:=Wf I.hok e
 refine wpAny_delItem_slot dd.typeIs (by decide) bY
  (cy bY dd.typeIs PySem.F.entry_dict_delitem (PySem.F.args_dict_delitem_2 _ _) (meets_dict_delitem_pairs (xz X.prog X.w) a (ju ry)) ⟨vs,dd,by rw [←rel.length];exact z,by rw [← (rel.val k).isSome_eq];exact l,λh' dd' hs=>h _ ?_⟩)
 have he:∃q,h'.get? a=some q:=let ⟨q,_,_,hq,_⟩:=dd';⟨q,hq⟩
 exact vg I (by rw [e];exact True.intro) hs he (uk (aP (Yk kvs k) z) hd (rel.drop k) dd')
end
def NoSl (i:Expr):Prop:=∀ov iv,subscripted i false ov iv=operate [ov,iv] (getItem ov iv)
theorem qkb {prog:Ac}{w:Ah}{A:Ae}{E:Ag→Ab→Prop}{s:Ab}{env:Env}{value slice:Expr}{pos:Pos}{T id:String}{Q:Ag→Ab→Prop}
  (hl:typeLookup (.type T) "__getitem__" = pure (some (.builtin id))) (hs:NoSl slice)
  (h:wpAny (model prog w) A (eval value env) (λo s₁=>wpAny (model prog w) A (eval slice env) (λi s₂=>s₂.TypeIs o T∧wpAny (model prog w) A (getItem o i) Q E s₂) E s₁) E s) :
  wpAny (model prog w) A (eval (.Subscript value slice pos) env) Q E s:=by
 refine Subscript_ (ay h (λo s₁ h₁=>ay h₁ (λi s₂ h₂=>?_) λ_ _ x=>x) λ_ _ x=>x)
 obtain ⟨hT,h₂⟩:=h₂
 unfold subscriptTail
 refine ah ?_
 rw [getitemInPython_of_ne hT.not_modules]
 refine ah (wpAny_specialOf hT hl ?_)
 have fin:wpAny (model prog w) A (subscripted slice false o i) (λr s₃=>wpAny (model prog w) A (letTemporaryGo value o r >>= λ_=>pure r) Q E s₃) E s₂:=by
  rw [hs o i]
  exact wpAny_operating (ay h₂ (λr s₃ h₃=>ah (wpAny_letTemporaryGo (az h₃))) λ_ _ x=>x)
 first
  |exact az (ah fin)
  |exact ah (az (ah fin))
  |exact ah fin
theorem Yh {X:Cx}{pins:List (Aj×Obj)}{σ:St}{H:Hp}{s:Ab}{a:Aj}{y:V}{o:Option V}(I:Inv X pins σ H s)(g:DGet H a y o):s.TypeIs (.ref a) "dict" := by
 rcases g with ⟨kvs,k,e,_,_⟩|⟨kvs,k,b,e,_,_,_⟩
 ·obtain ⟨_,_,vs,_,dd⟩:=Qu I.hok e
  exact dd.typeIs
 ·obtain ⟨_,_,xs,_,dd⟩:=Qp I.hok e
  exact dd.typeIs
def tDGet (td ty:TE):TE:=λσ H Q=>td σ H λx H1=>ty σ H1 λy H2=>∃a v,x=.ref a∧DGet H2 a y (some v)∧Q v H2
def tDIn (ty td:TE):TE:=λσ H Q=>ty σ H λy H1=>td σ H1 λx H2=>∃a o,x=.ref a∧DGet H2 a y o∧Q (.bl o.isSome) H2
def qvn (ty td:TE):TE:=λσ H Q=>ty σ H λy H1=>td σ H1 λx H2=>∃a o,x=.ref a∧DGet H2 a y o∧Q (.bl (!o.isSome)) H2
def sDPut (td ty tv:TE):TS:=λD σ H=>tv σ H λv H1=>td σ H1 λx H2=>ty σ H2 λy H3=>∃a H4,x=.ref a∧DPut H3 a y v H4∧D.nx σ H4
def sDDel (td ty:TE):TS:=λD σ H=>td σ H λx H1=>ty σ H1 λy H2=>∃a kvs k,x=.ref a∧H2 a=some (.dK kvs)∧y=kV k∧(w8 kvs k).isSome=true∧D.nx σ (upd H2 a (.dK (Wd kvs k)))
section
variable {X:Cx}{o i e value:Expr}{pos pos' tpos:Pos}{td ty tv:TE}
theorem qqm (hu:X.A.units+1<cLine)(ho:PE X o td)(hi:PE X i ty)(hs:NoSl i):PE X (.Subscript o i pos) (tDGet td ty):=by
 intro pins s σ H Q I h
 refine qkb PySem.F.slot_dict_getitem.lookup hs (thn (ho pins s σ H _ I h) λu s1 ⟨x,H1,I1,rx,q1⟩=>thn (hi pins s1 σ H1 _ I1 q1) λiv s2 ⟨y,H2,I2,ry,a,v,ex,g,q2⟩=>?_)
 subst ex
 obtain rfl:u=Value.ref a:=rx
 exact ⟨Yh I2 g,qxv hu I2 g ry λw' s3 I3 rw'=>⟨v,H2,I3,rw',q2⟩⟩
theorem pc_din (hu:X.A.units+1<cLine)(hi:PE X i ty)(ho:PE X o td):PC X .In i o (tDIn ty td):=by
 intro pins s σ H Q I h
 refine thn (hi pins s σ H _ I h) λiv s1 ⟨y,H1,I1,ry,q1⟩=>thn (ho pins s1 σ H1 _ I1 q1) λu s2 ⟨x,H2,I2,rx,a,ov,ex,g,q2⟩=>?_
 subst ex
 obtain rfl:u=Value.ref a:=rx
 exact d_in hu I2 g ry λs3 I3=>⟨.bl ov.isSome,H2,I3,rfl,q2⟩
theorem W0 (hu:X.A.units+1<cLine)(hi:PE X i ty)(ho:PE X o td):PC X .NotIn i o (qvn ty td):=by
 intro pins s σ H Q I h
 refine thn (hi pins s σ H _ I h) λiv s1 ⟨y,H1,I1,ry,q1⟩=>thn (ho pins s1 σ H1 _ I1 q1) λu s2 ⟨x,H2,I2,rx,a,ov,ex,g,q2⟩=>?_
 subst ex
 obtain rfl:u=Value.ref a:=rx
 exact qv7 hu I2 g ry λs3 I3=>⟨.bl (!ov.isSome),H2,I3,rfl,q2⟩
theorem qkg (hu:X.A.units+1<cLine)(ho:PE X o td)(hi:PE X i ty)(hv:PE X value tv)(hs:swapsWith value (some (.Subscript o i pos')) pos.line X.env=pure false) :
  PS X (.Assign [.Subscript o i pos'] value pos) (sDPut td ty tv):=by
 intro pins s σ H D I h
 refine wpAny_Assign_Subscript (thn (hv pins s σ H _ I h) λr s1 ⟨v,H1,I1,rv,q1⟩=>thn (ho pins s1 σ H1 _ I1 q1) λu s2 ⟨x,H2,I2,rx,q2⟩=>thn (hi pins s2 σ H2 _ I2 q2) λiv s3 ⟨y,H3,I3,ry,a,H4,ex,g,q3⟩=>?_) hs
 subst ex
 obtain rfl:u=Value.ref a:=rx
 exact qwr hu I3 g ry rv λs4 I4=>⟨σ,H4,I4,q3⟩
theorem qkf (ho:PE X o td)(hi:PE X i ty):PS X (.Delete [.Subscript o i tpos] pos) (sDDel td ty):=by
 intro pins s σ H D I h
 refine wpAny_Delete (wpAny_deleteEach_cons (wpAny_delete_Subscript (thn (ho pins s σ H _ I h) λu s1 ⟨x,H1,I1,rx,q1⟩=>thn (hi pins s1 σ H1 _ I1 q1) λiv s2 ⟨y,H2,I2,ry,a,kvs,k,ex,e,ey,l,q2⟩=>?_)))
 subst ex ey
 obtain rfl:u=Value.ref a:=rx
 exact qxp I2 e ry l λs3 I3=>wpAny_deleteEach_nil ⟨σ,_,I3,q2⟩
end
theorem Yn {P:Ac}{w:Ah}{H:Hp}(h:Heap)(hb:sysModules<h.objs.size):ObjOk P w H (h.push { cls:=.type "dict",data:=.dict #[] }) h.objs.size (.dK []) :=
 ⟨aA _,aw.mpr (aL (ak hb)),[],.nil,Heap.DictOf.new h⟩
theorem qz7 {P:Ac}{w:Ah}{H:Hp}(h:Heap)(hb:sysModules<h.objs.size):ObjOk P w H (h.push { cls:=.type "dict",data:=.dict #[] }) h.objs.size (.dT []) :=
 ⟨aA _,aw.mpr (aL (ak hb)),[],.nil,_,#[],0,ai _ rfl,⟨rfl,rfl,rfl⟩,rfl,rfl,bD⟩
def tDNewK:TE:=λ_ H Q=>∀p,H p=none→Q (.ref p) (upd H p (.dK []))
section
variable {X:Cx}{pos:Pos}
theorem jw:PE X (.Dict [] [] pos) tDNewK:=λpins s σ H Q I h =>
 wpAny_Dict_empty ⟨.ref s.heap.objs.size,_,I.laid (a:=s.heap.objs.size) (o:=.dK []) (t':=s.toks) (λ_ _ q=>aa _ q) (ae _) (Yn s.heap I.big),rfl,h _ (I.hok.fresh (ae _))⟩
end
end L2
namespace L2
open PySem PySem.Spec PyProof.Rows
def qqk:List (TE×TE)→St→Hp→(List (V×V)→Hp→Prop)→Prop
 |[],_,H,Q=>Q [] H
 |(tk,tv)::r,σ,H,Q=>tk σ H λx H1=>tv σ H1 λy H2=>qqk r σ H2 λps H3=>Q ((x,y)::ps) H3
abbrev VV:List (V×V)→List (Ag×Ag)→Prop:=Paired λp q=>xx p.1 q.1∧xx p.2 q.2
def PPs (X:Cx)(pos:Pos)(keys:List (Option Expr))(values:List Expr)(trs:List (TE×TE)):Prop :=
 ∀(pins:List (Aj×Obj)) (s:Ab) (σ:St) (H:Hp) (Q:List (V×V)→Hp→Prop),Inv X pins σ H s→qqk trs σ H Q →
  wpAny (model X.prog X.w) X.A (evalPairs (pairTrees keys values X.env pos)) (λvs s'=>∃ps H',Inv X pins σ H' s'∧VV ps vs∧Q ps H') X.xe s
theorem qq4 {X:Cx}{pos:Pos}:PPs X pos [] [] []:=λpins s σ H Q I h=>pairTrees_nil_walk ⟨[],H,I,.nil,h⟩
theorem Z7 {X:Cx}{pos:Pos}{k v:Expr}{ks:List (Option Expr)}{vs:List Expr}{tk tv:TE}{trs:List (TE×TE)}(hk:PE X k tk)(hv:PE X v tv)(hr:PPs X pos ks vs trs) :
  PPs X pos (some k::ks) (v::vs) ((tk,tv)::trs):=λpins s σ H Q I h =>
 pairTrees_cons_walk (thn (hk pins s σ H _ I h) λu s1 ⟨x,H1,I1,rx,q1⟩=>thn (hv pins s1 σ H1 _ I1 q1) λw2 s2 ⟨y,H2,I2,ry,q2⟩ =>
  thn (hr pins s2 σ H2 _ I2 q2) λws s3 ⟨ps,H3,I3,rel,q3⟩=>⟨(x,y)::ps,H3,I3,.cons ⟨rx,ry⟩ rel,q3⟩)
def ur (kvs more:List (Key×V)):List (Key×V):=more.foldl (λacc kv=>zx acc kv.1 kv.2) kvs
theorem KV.merge:∀ {more:List (Key×V)} {rs:List (Key×Ag)} {kvs:List (Key×V)} {vs:List (Key×Ag)},KV more rs→KV kvs vs→KV (ur kvs more) (merged vs rs):=by
 intro more rs kvs vs r
 unfold KV at r
 induction r generalizing kvs vs with
 |nil=>intro q;exact q
 |@cons p q ps qs h t ih =>
  intro r0
  have e:KV (zx kvs p.1 p.2) (stored vs q.1 q.2):=by
   have:=r0.put p.1 h.2
   rw [←h.1];exact this
  exact ih e
theorem kz:∀(more kvs:List (Key×V)),(ur kvs more).length≤kvs.length+more.length
 |[],kvs=>by show kvs.length≤kvs.length+0;lia
 |p::r,kvs=>by
  have h1:=kz r (zx kvs p.1 p.2)
  have h2:=zc kvs p.1 p.2
  show (ur (zx kvs p.1 p.2) r).length≤_
  rw [aN];lia
theorem Qh {P:Ac}{w:Ah}:∀ {kvs:List (Key×V)} {ws:List (Ag×Ag)},VV (kvs.map λkv=>(kV kv.1,kv.2)) ws→∃rs,Carries (xz P w) ws rs∧KV kvs rs
 |[],_,r=>by rw [cv] at r;cases r;exact ⟨[],True.intro,.nil⟩
 |p::kvs,_,r=>by
  rw [aJ] at r
  cases r with
  |@cons a b as bs h t =>
   obtain ⟨rs,c,q⟩:=Qh (P:=P) (w:=w) t
   obtain ⟨b1,b2⟩:=b
   exact ⟨(p.1,b2)::rs,⟨ju h.1,rfl,c⟩,.cons ⟨rfl,h.2⟩ q⟩
def tDisp (trs:List (TE×TE)):TE:=λσ H Q=>∀p,H p=none→qqk trs σ (upd H p (.dK [])) λps H2=>H2 p=some (.dK [])∧∃kvs:List (Key×V),ps=kvs.map (λkv=>(kV kv.1,kv.2))∧kvs.length≤15∧Q (.ref p) (upd H2 p (.dK (ur [] kvs)))
theorem qq9 {X:Cx}{pos:Pos}{keys:List (Option Expr)}{values:List Expr}{trs:List (TE×TE)}(h:PPs X pos keys values trs)(hall:keys.all (·.isSome)=true)(hl:keys.length=values.length)(h0:keys≠[])
  (h15:keys.length≤15):PE X (.Dict keys values pos) (tDisp trs):=by
 intro pins s σ H Q I q
 have hn:=I.hok.fresh (ae s.heap.objs.size)
 have I1:=I.laid (a:=s.heap.objs.size) (o:=.dK []) (h':=s.heap.push { cls:=.type "dict",data:=.dict #[] }) (t':=s.toks) (λ_ _ q=>aa _ q) (ae _) (Yn s.heap I.big)
 refine wpAny_Dict_walk (knd:=xz X.prog X.w) hall hl h0 h15 (thn (h pins _ σ _ _ I1 (q _ hn)) λws s2 ⟨ps,H2,I2,rel,e,kvs,ep,lk,q2⟩=>?_)
 subst ep
 obtain ⟨rs,c,rk⟩:=Qh (P:=X.prog) (w:=X.w) rel
 obtain ⟨z,hd,vs0,r0,dd⟩:=Wf I2.hok e
 cases r0
 refine ⟨rs,c,dd,λh' dd' hs=>⟨.ref s.heap.objs.size,_,?_,rfl,q2⟩⟩
 have hz:(ur [] kvs).length≤sizeLine:=by
  have h1:=kz kvs []
  rw [List.length_nil] at h1
  rw [sizeLine_eq];lia
 have he:∃q,h'.get? s.heap.objs.size=some q:=let ⟨q,_,_,hq,_⟩:=dd';⟨q,hq⟩
 exact vg I2 (by rw [e];exact True.intro) hs he (uk hz hd (rk.merge .nil) dd')
structure M1 (X:Cx)(o:Expr)(m:Str)(apos:Pos)(e:Expr)(cpos:Pos):Prop where
 base:attributeBase o m X.env (eval o X.env)=eval o X.env
 few:((backTo cpos (starEach [e] X.env)).all (λx=>!x.1)&&(backToKw cpos (keywordEach [] X.env)).all (λx=>x.1.isSome)
  && decide (([e]:List Expr).length+([]:List Keyword).length+(if ([]:List Keyword).isEmpty then 0 else 1)<30))=true
 line:(apos.endLine==cpos.line)=true
 trees:backTo cpos (starEach [e] X.env)=[(false,eval e X.env)]
structure M2 (X:Cx)(o:Expr)(m:Str)(apos:Pos)(e f:Expr)(cpos:Pos):Prop where
 base:attributeBase o m X.env (eval o X.env)=eval o X.env
 few:((backTo cpos (starEach [e,f] X.env)).all (λx=>!x.1)&&(backToKw cpos (keywordEach [] X.env)).all (λx=>x.1.isSome)
  && decide (([e,f]:List Expr).length+([]:List Keyword).length+(if ([]:List Keyword).isEmpty then 0 else 1)<30))=true
 line:(apos.endLine==cpos.line)=true
 trees:backTo cpos (starEach [e,f] X.env)=[(false,eval e X.env),(false,eval f X.env)]
def IsD (H:Hp)(a:Aj):Prop:=(∃kvs,Rd H a (.dK kvs))∨∃kvs,Rd H a (.dT kvs)
theorem qzt {X:Cx}{pins:List (Aj×Obj)}{σ:St}{H:Hp}{s:Ab}{a:Aj}(I:Inv X pins σ H s)(d:IsD H a) :
  s.TypeIs (.ref a) "dict" ∧ (∀b,Value.ref a=.ref b→∃ob,s.heap.get? b=some ob∧ob.dict=none)∧(a==sysModules)=false:=by
 rcases d with ⟨kvs,e⟩|⟨kvs,e⟩
 ·obtain ⟨_,hd,vs,_,dd⟩:=Qu I.hok e
  refine ⟨dd.typeIs,λb q=>?_,hd⟩
  cases q
  obtain ⟨ob,_,_,h1,h2,_⟩:=dd
  exact ⟨ob,h1,h2.2.1⟩
 ·obtain ⟨_,hd,xs,_,dd⟩:=Qp I.hok e
  refine ⟨dd.typeIs,λb q=>?_,hd⟩
  cases q
  obtain ⟨ob,_,_,h1,h2,_⟩:=dd
  exact ⟨ob,h1,h2.2.1⟩
section
variable {X:Cx}{pins:List (Aj×Obj)}{σ:St}{H:Hp}{s:Ab}{a:Aj}{y d:V}{u r:Ag}{o:Option V}{A:Ae}{E:Ag→Ab→Prop}
theorem d_get1 {Q:Ag→Ab→Prop}(hu:A.units+1<cLine)(I:Inv X pins σ H s)(g:DGet H a y o)(ry:xx y u)(h:∀w' s',Inv X pins σ H s'→xx (o.getD .non) w'→Q w' s') :
  wpAny (model X.prog X.w) A (call (.builtin "dict.get") [.ref a,u]) Q E s:=by
 rcases g with ⟨kvs,k,e,ey,l⟩|⟨kvs,k,b,e,ey,eb,l⟩
 ·subst ey
  obtain ⟨z,hd,vs,rel,dd⟩:=Qu I.hok e
  refine cy bE dd.typeIs PySem.F.entry_dict_get (cm _ _) (meets_dict_get (xz X.prog X.w) a (ju ry) hd) ⟨_,dd.mapOf,h _ _ (I.tok _) ?_⟩
  rw [l]
  exact (rel.val k).getD rfl
 ·subst ey
  cases (show u=Value.ref b from ry)
  obtain ⟨z,hd,xs,rel,dd⟩:=Qp I.hok e
  refine cy bE dd.typeIs PySem.F.entry_dict_get (cm _ _) (meetsH_dict_get (tupleKind (xz X.prog X.w)) a b hd) ⟨bh hu,k,xs,km I.hok eb,dd,h _ _ (I.tok _) ?_⟩
  rw [l]
  exact (rel.val k).getD rfl
end
def tDGet1 (td ty:TE):TE:=λσ H Q=>td σ H λx H1=>∃a,x=.ref a∧IsD H1 a∧ty σ H1 λy H2=>∃o,DGet H2 a y o∧Q (o.getD .non) H2
section
variable {X:Cx}{o e f:Expr}{apos cpos:Pos}{td ty tx:TE}
theorem qx5 (hu:X.A.units+1<cLine)(ho:PE X o td)(he:PE X e ty)(m:M1 X o "get" apos e cpos):PE X (.Call (.Attribute o "get" apos) [e] [] cpos) (tDGet1 td ty):=by
 intro pins s σ H Q I h
 refine wpAny_Call_method m.base m.few m.line cn bE PySem.F.type_dict_get (thn (ho pins s σ H _ I h) λu s1 ⟨x,H1,I1,rx,a,ex,d,q1⟩=>?_)
 subst ex
 obtain rfl:u=Value.ref a:=rx
 obtain ⟨t1,t2,_⟩:=qzt I1 d
 refine ⟨t1,t2,?_⟩
 rw [m.trees]
 refine bC rfl (bI (bA (thn (he pins s1 σ H1 _ I1 q1) λiv s2 ⟨y,H2,I2,ry,ov,g,q2⟩=>cb ?_)))
 exact d_get1 hu I2 g ry λw' s3 I3 rw'=>⟨_,H2,I3,rw',q2⟩
end
section
variable {X:Cx}{pins:List (Aj×Obj)}{σ:St}{H:Hp}{s:Ab}{a:Aj}{kvs:List (Key×V)}{A:Ae}{E:Ag→Ab→Prop}
end
section
variable {X:Cx}{pins:List (Aj×Obj)}{σ:St}{H:Hp}{s:Ab}{a:Aj}{y:V}{u:Ag}{A:Ae}{E:Ag→Ab→Prop}
end
end L2
namespace L2
open PySem PySem.Spec PyProof.Rows
section
variable {X:Cx}{pins:List (Aj×Obj)}{σ:St}{H:Hp}{s:Ab}{h':Heap}{ch:List Aj}
theorem Inv.turnedL {tk:Nat}(I:Inv X pins σ H s)(hk:∀b u,b∉ch→s.heap.get? b=some u→h'.get? b=some u)(hf:∀b∈ch,vq X pins H b):Inv X pins σ H { s with heap:=h',toks:=tk }:=by
 refine I.call' (s':={ s with heap:=h',toks:=tk }) (ch:=ch) rfl ⟨λb o e n _ nx=>hk b o nx e,λb o e n _ nx=>⟨o.slots,hk b o nx e⟩,λb o e n _=>n,λb o e nx=>⟨o,hk b o nx e⟩,λ_ _ e=>e,λ_ _ _ e=>e,λb ps e=>⟨#[],by rw [e];simp⟩⟩ ?_ I.bare λb hb=>?_
 ·intro b u hu
  refine (I.hok b u hu).stay (λc v hc e=>hk c v (λz=>?_) e) (λ_ z=>z) λ_ _ z=>z
  have:=(hf c z).1
  rcases hc with rfl|hc
  ·rw [this] at hu;cases hu
  ·rw [this] at hc;cases hc
 ·obtain ⟨q1,q2,q3,q4,q5,q6⟩:=hf b hb
  exact ⟨q4,q2,q5,q6⟩
theorem Inv.turnedT {tk:Nat}{o:HO}{ob:Obj}(I:Inv X pins σ H s)(hk:∀b u,b∉ch→s.heap.get? b=some u→h'.get? b=some u)(hn:h'.get? s.heap.objs.size=some ob)(hf:∀b∈ch,vq X pins H b)(hc:∀b∈ch,b≠s.heap.objs.size)
  (ok:ObjOk X.prog X.w (upd H s.heap.objs.size o) (s.heap.push ob) s.heap.objs.size o) (fr:ob.isFreed=false):Inv X pins σ (upd H s.heap.objs.size o) { s with heap:=h',toks:=tk }:=by
 have I1:Inv X pins σ (upd H s.heap.objs.size o) { s with heap:=s.heap.push ob,toks:=tk }:=I.laid (t':=tk) (λb u e=>aa _ e) (ae _) ok
 refine Inv.turnedL (s:={ s with heap:=s.heap.push ob,toks:=tk }) (ch:=ch) I1 (λb u nb e=>?_) λb hb=>?_
 ·rcases Heap.get?_push_cases e with ⟨rfl,rfl⟩|e
  ·exact hn
  ·exact hk b u nb e
 ·obtain ⟨q1,q⟩:=hf b hb
  exact ⟨by rw [wz (hc b hb)];exact q1,q⟩
theorem qvd {x y:V}{u v:Ag}(I:Inv X pins σ H s)(rx:xx x u)(ry:xx y v):ObjOk X.prog X.w (upd H s.heap.objs.size (.tup [x,y])) (s.heap.push { cls:=.type "tuple",data:=.seq #[u,v] }) s.heap.objs.size (.tup [x,y]):=by
 refine ⟨by show 2≤sizeLine;decide,[u,v],.cons rx (.cons ry .nil),?_⟩
 exact ⟨_,ai _ rfl,rfl,_,rfl⟩
end
section
variable {X:Cx}
end
section
variable {X:Cx}
end
section
variable {X:Cx}{elt iter tg:Expr}{x y2:Str}{pos:Pos}{scope:Scope}{cl:List (Str×Aj)}{M:List Nat}{wi:TI}{gg:TG}{te:TE}
end
end L2
namespace L2
open PySem PySem.Spec PyProof.Rows PySem.W
def Fz (H:Hp)(d:Aj)(o:Obj)(kvs:List (Key×V))(H':Hp):Prop:=H' d=some (.frz o (.dK kvs))∧∀b,b≠d→H' b=H b
section
variable {X:Cx}{pins:List (Aj×Obj)}{σ:St}{H:Hp}{s:Ab}{d:Aj}{kvs:List (Key×V)}
theorem Inv.freeze {o:Obj}(I:Inv X pins σ H s)(e:H d=some (.dK kvs))(ho:s.heap.get? d=some o):Inv X pins σ (upd H d (.frz o (.dK kvs))) s:=by
 obtain ⟨z,hd,vs,rel,dd⟩:=Wf I.hok e
 exact Inv.write (t':=s.toks) (h':=s.heap) I (by rw [e];exact trivial) (.inl rfl) (λ_ _ _ e=>e) ⟨o,ho⟩ ⟨ho,uk z hd rel dd⟩
theorem yc {o:Obj}(I:Inv X pins σ H s)(e:H d=some (.frz o (.dK kvs))):kvs.length≤sizeLine∧(d==sysModules)=false∧s.heap.get? d=some o∧∃vs es ep,KV kvs vs∧o.data=.dict es ep∧s.heap.DictAt (xz X.prog X.w) d vs ep:=by
 obtain ⟨ho,z,hd,vs,rel,dd⟩:=(show ObjOk X.prog X.w H s.heap d (.frz o (.dK kvs)) from I.hok d _ e)
 obtain ⟨o',es,ep,h1,h2,h3,h4⟩:=id dd
 have:o'=o:=ao (h1.symm.trans ho)
 subst this
 exact ⟨z,hd,ho,vs,es,ep,rel,h3,o',es,h1,h2,h3,h4⟩
theorem Inv.freezeRd (I:Inv X pins σ H s)(e:Rd H d (.dK kvs)):∃o H',Fz H d o kvs H'∧Inv X pins σ H' s:=by
 rcases e with e|⟨o,e⟩
 ·obtain ⟨z,hd,vs,rel,o,es,ep,ho,r⟩:=Wf I.hok e
  exact ⟨o,_,⟨q9,λb nb=>wz nb⟩,I.freeze e ho⟩
 ·exact ⟨o,H,⟨e,λ_ _=>rfl⟩,I⟩
theorem kV_of {P:Ac}{w:Ah}{k:Key}{u:Ag}(h:(xz P w).is k u=true):xx (kV k) u:=by
 rcases xb (show Qf k u=true from h) with ⟨i,t,rfl,rfl⟩|⟨x,t,rfl,rfl⟩
 ·exact ⟨t,rfl⟩
 ·exact ⟨t,rfl⟩
end
def ItD (d:Aj)(o:Obj)(kvs:List (Key×V)):It :=
 ⟨λi H=>H d=some (.frz o (.dK kvs))∧i<kvs.length,λi H v H'=>H'=H∧∃p,kvs[i]?=some p∧v=kV p.1,λi H=>H d=some (.frz o (.dK kvs))∧kvs.length≤i⟩
theorem qz6 {kvs:List (Key×V)}{vs:List (Key×Ag)}(r:KV kvs vs){i:Nat}{p:Key×V}(e:kvs[i]?=some p):∃q,vs[i]?=some (p.1,q)∧xx p.2 q:=by
 induction r generalizing i with
 |nil=>cases e
 |cons h t ih =>
  cases i with
  |zero =>
   cases e
   obtain ⟨h1,h2⟩:=h
   rename_i b _ _
   exact ⟨b.2,by show some b=some (_,b.2);rw [h1],h2⟩
  |succ i=>exact ih e
theorem qvg {P:Ac}{w:Ah}{K:Aa}{tg:Expr}{d it:Aj}{o:Obj}{kvs:List (Key×V)}{ep:Nat}(hep:∃es,o.data=.dict es ep):Turn P w K tg (ItD d o kvs) [it] it (λi h=>h.IsKeyIter it d i kvs.length ep) where
 mem:=by simp
 obj:=λi h st b hb=>by
  have e:b=it:=by simpa using hb
  subst e
  obtain ⟨ob,e,c,dd⟩:=st
  exact ⟨ob,e,λv z=>by rw [dd] at z;cases z⟩
 keep:=λi h h' st k=>st.at λob e=>k it (by simp) ob e
 item:=by
  intro X hP hw hK hc i pins s σ H E I hf st hg
  subst hP hw hK
  obtain ⟨hq,hi⟩:=hg
  obtain ⟨z,hd,ho,vs,es,ep',rel,h3,dd⟩:=yc I hq
  obtain ⟨es2,h4⟩:=hep
  have:ep'=ep:=by rw [h3] at h4;cases h4;rfl
  subst this
  have e1:kvs[i]?=some kvs[i]:=aE hi
  obtain ⟨q,eq,rq⟩:=qz6 rel e1
  have hl:vs.length=kvs.length:=(aU rel).symm
  obtain ⟨f0,f1,f2,f3,f4,f5⟩:=hf it (by simp)
  refine wpAny_pyNext_dict_item (by rw [hl];exact st) dd eq λkey h' hk st' sb=>?_
  have I1:Inv X pins σ H { s with heap:=h' }:=I.turned (t':=s.toks) (λb o hb e=>(sb.2 b hb).trans e) f0 f1 f3 f4 f5
  rw [hl] at st'
  obtain ⟨ob,e,c,d'⟩:=id st'
  exact ⟨key,rfl,qqt (s:={ s with heap:=h' }) e c d' (by decide) ⟨_,H,I1,kV_of hk,⟨rfl,_,e1,rfl⟩,st',λb hb=>(hf b hb).1⟩⟩
 done:=by
  intro X hP hw hK hc i pins s σ H E I hf st hg
  subst hP hw hK
  obtain ⟨hq,hi⟩:=hg
  obtain ⟨z,hd,ho,vs,es,ep',rel,h3,dd⟩:=yc I hq
  obtain ⟨es2,h4⟩:=hep
  have:ep'=ep:=by rw [h3] at h4;cases h4;rfl
  subst this
  have hl:vs.length=kvs.length:=(aU rel).symm
  obtain ⟨f0,f1,f2,f3,f4,f5⟩:=hf it (by simp)
  exact wpAny_pyNext_dict_end (I.ok.hd hc) (by rw [hl];exact st) dd (List.getElem?_eq_none (by lia)) λh' eb=>⟨rfl,I.turned (t':=s.toks) (λb o hb e=>eb b o hb e) f0 f1 f3 f4 f5⟩
 self:=λ_ _ _ _ _ st h=>wpAny_pyIter_keyiter st h
def ItDI (d:Aj)(o:Obj)(kvs:List (Key×V)):It :=
 ⟨λi H=>H d=some (.frz o (.dK kvs))∧i<kvs.length,λi H v H'=>∃q p,H q=none∧v=.ref q∧kvs[i]?=some p∧H'=upd H q (.tup [kV p.1,p.2]),λi H=>H d=some (.frz o (.dK kvs))∧kvs.length≤i⟩
theorem qkn {P:Ac}{w:Ah}{K:Aa}{xs:List Expr}{k:Nat}{pos:Pos}{d it:Aj}{o:Obj}{kvs:List (Key×V)}{ep:Nat}(hep:∃es,o.data=.dict es ep):Turn P w K (.Tuple xs k pos) (ItDI d o kvs) [it] it (λi h=>∃ok ov,IsItemIter h it d i kvs.length ep ok ov) where
 mem:=by simp
 obj:=λi h st b hb=>by
  have e:b=it:=by simpa using hb
  subst e
  obtain ⟨ok,ov,e⟩:=st
  exact ⟨_,e,λv z=>by cases z⟩
 keep:=λi h h' st k=>by
  obtain ⟨ok,ov,e⟩:=st
  exact ⟨ok,ov,k it (by simp) _ e⟩
 item:=by
  intro X hP hw hK hc i pins s σ H E I hf st hg
  subst hP hw hK
  obtain ⟨hq,hi⟩:=hg
  obtain ⟨z,hd,ho,vs,es,ep',rel,h3,dd⟩:=yc I hq
  obtain ⟨es2,h4⟩:=hep
  have:ep'=ep:=by rw [h3] at h4;cases h4;rfl
  subst this
  have e1:kvs[i]?=some kvs[i]:=aE hi
  obtain ⟨q,eq,rq⟩:=qz6 rel e1
  have hl:vs.length=kvs.length:=(aU rel).symm
  obtain ⟨ok,ov,st⟩:=st
  refine wpAny_pyNext_items_item (by rw [hl];exact st) dd eq λkey h' hk g1 g2 g3 g4=>?_
  refine ⟨_,rfl,wpAny_letOwnedTupleGo_items (s:={ s with heap:=h' }) g1 λh'' j1 j2=>?_⟩
  have ne:it≠s.heap.objs.size:=ak (ac st)
  have new:h''.get? s.heap.objs.size=some { cls:=.type "tuple",data:=.seq #[key,q] }:=(j2.2 _ (aL ne)).trans g2
  refine ⟨.ref s.heap.objs.size,_,Inv.turnedT (s:=s) (ch:=[it]) (tk:=s.toks) I (λb u nb e=>?_) new hf (λb hb=>?_) (qvd I (kV_of hk) rq) rfl,rfl,⟨_,_,I.hok.fresh (ae _),rfl,e1,rfl⟩,⟨_,_,by rw [←hl];exact j1⟩,λb hb=>?_⟩
  ·have nb:b≠it:=by simpa using nb
   exact (j2.2 b nb).trans (g4 b u nb e)
  ·have e:b=it:=by simpa using hb
   rw [e];exact ne
  ·have e:b=it:=by simpa using hb
   rw [e,wz ne];exact (hf it (by simp)).1
 done:=by
  intro X hP hw hK hc i pins s σ H E I hf st hg
  subst hP hw hK
  obtain ⟨hq,hi⟩:=hg
  obtain ⟨z,hd,ho,vs,es,ep',rel,h3,dd⟩:=yc I hq
  obtain ⟨es2,h4⟩:=hep
  have:ep'=ep:=by rw [h3] at h4;cases h4;rfl
  subst this
  have hl:vs.length=kvs.length:=(aU rel).symm
  obtain ⟨f0,f1,f2,f3,f4,f5⟩:=hf it (by simp)
  obtain ⟨ok,ov,st⟩:=st
  exact wpAny_pyNext_items_end (I.ok.hd hc) (by rw [hl];exact st) dd (List.getElem?_eq_none (by lia)) λh' eb=>⟨rfl,I.turned (t':=s.toks) (λb o hb e=>eb b o hb e) f0 f1 f3 f4 f5⟩
 self:=λ_ _ _ _ _ st h=>by
  obtain ⟨ok,ov,e⟩:=st
  exact kcp_self e h
section
variable {X:Cx}{tg l:Expr}{tl:TE}
def iDk (tl:TE):TI:=λσ H R=>tl σ H λx H1=>∃d kvs,x=.ref d∧Rd H1 d (.dK kvs)∧∀o H2,Fz H1 d o kvs H2→R (ItD d o kvs) H2
theorem pi_dk (hl:PE X l tl):PI X tg l (iDk tl):=by
 intro pins s σ H R I h
 refine thn (hl pins s σ H _ I h) λv s1 ⟨x,H1,I1,r1,q1⟩=>?_
 obtain ⟨d,kvs,e,rd,q⟩:=q1
 subst e
 cases r1
 obtain ⟨o,H2,fz,I2⟩:=I1.freezeRd rd
 obtain ⟨z,hd,ho,vs,es,ep,rel,h3,dd⟩:=yc I2 fz.1
 have hl:vs.length=kvs.length:=(aU rel).symm
 refine wpAny_pyIter_dict hd dd ?_
 refine ⟨s1.heap.objs.size,[s1.heap.objs.size],_,_,H2,rfl,I2.kept (t':=s1.toks) λb o e=>aa _ e,qvg ⟨es,h3⟩,⟨_,ai _ rfl,rfl,by rw [hl];rfl⟩,λb hb=>?_,q o H2 fz⟩
 have e:b=s1.heap.objs.size:=by simpa using hb
 subst e
 exact I2.fpOk (ae _) (I2.hok.fresh (ae _))
def iDi (tl:TE):TI:=λσ H R=>tl σ H λx H1=>∃d kvs,x=.ref d∧Rd H1 d (.dK kvs)∧∀o H2,Fz H1 d o kvs H2→R (ItDI d o kvs) H2
theorem pi_di {apos cpos tpos:Pos}{xs:List Expr}{k:Nat}(hl:PE X l tl)(hbase:attributeBase l "items" X.env (eval l X.env)=eval l X.env:=by rfl)(hline:(apos.endLine==cpos.line)=true:=by rfl) :
  PI X (.Tuple xs k tpos) (.Call (.Attribute l "items" apos) [] [] cpos) (iDi tl):=by
 intro pins s σ H R I h
 refine wpAny_Call_method0_late hbase hline (thn (hl pins s σ H _ I h) λv s1 ⟨x,H1,I1,r1,q1⟩=>?_)
 obtain ⟨d,kvs,e,rd,q⟩:=q1
 subst e
 cases r1
 obtain ⟨o,H2,fz,I2⟩:=I1.freezeRd rd
 obtain ⟨t1,t2,_⟩:=qzt I1 (.inl ⟨kvs,rd⟩)
 obtain ⟨z,hd,ho,vs,es,ep,rel,h3,dd⟩:=yc I2 fz.1
 have hl:vs.length=kvs.length:=(aU rel).symm
 refine ⟨"dict","dict.items",cn,cr,PySem.F.type_dict_items,t1,t2,bC rfl (PySem.evalArgs_none ?_)⟩
 refine cy cr t1 PySem.F.entry_dict_items (PySem.F.args_dict_items_1 _) (meets_dict_items (xz X.prog X.w) d hd) ⟨⟨vs,dd.dictOf⟩,?_⟩
 have I3:Inv X pins σ H2 { s1 with heap:=s1.heap.push { cls:=.type "dict_items",data:=.fields #[.ref d] } }:=I2.kept (t':=s1.toks) λb o e=>aa _ e
 refine wpAny_pyIter_items (s:={ s1 with heap:=s1.heap.push { cls:=.type "dict_items",data:=.fields #[.ref d] } }) ⟨_,ai _ rfl,rfl,rfl⟩ (dd.push _) ?_
 refine ⟨_,[_],_,_,H2,rfl,I3.kept (t':=s1.toks) λb o e=>aa _ e,qkn ⟨es,h3⟩,⟨.none,.none,?_⟩,λb hb=>?_,q o H2 fz⟩
 ·rw [hl]
  exact ai _ rfl
 ·have e:=aB.mp hb
  subst e
  exact I3.fpOk (ae _) (I3.hok.fresh (ae _))
def ItS (x:Str):It:=⟨λi _=>i<x.cps.size,λi H v H'=>H'=H∧v=.str ⟨#[x.cps.getD i 0]⟩,λi _=>x.cps.size≤i⟩
theorem qw6 {P:Ac}{w:Ah}{K:Aa}{it:Aj}{x:Str}{t:Tok}:Turn P w K tg (ItS x) [it] it (λi h=>h.IsStrIter it "str_ascii_iterator" x t i) where
 mem:=by simp
 obj:=λi h st b hb=>by
  have e:b=it:=by simpa using hb
  subst e
  obtain ⟨ob,e,c,dd⟩:=st
  exact ⟨ob,e,λv z=>by rw [dd] at z;cases z⟩
 keep:=λi h h' st k=>by
  obtain ⟨ob,e,r⟩:=st
  exact ⟨ob,k it (by simp) ob e,r⟩
 item:=by
  intro X hP hw hK hc i pins s σ H E I hf st hg
  subst hP hw hK
  have hg:i<x.cps.size:=hg
  obtain ⟨f0,f1,f2,f3,f4,f5⟩:=hf it (by simp)
  refine wpAny_pyNext_ascii_item st (c:=x.cps.getD i 0) (by rw [bN,bZ hg];rfl) λh' st' sb=>?_
  have I1:Inv X pins σ H { s with heap:=h',toks:=s.toks+1 }:=I.turned (t':=s.toks+1) (λb o hb e=>(sb.2 b hb).trans e) f0 f1 f3 f4 f5
  obtain ⟨ob,e,c,d'⟩:=id st'
  exact ⟨_,rfl,qqt (s:={ s with heap:=h',toks:=s.toks+1 }) e c d' (by decide) ⟨.str ⟨#[x.cps.getD i 0]⟩,H,I1,⟨_,rfl⟩,⟨rfl,rfl⟩,st',λb hb=>(hf b hb).1⟩⟩
 done:=by
  intro X hP hw hK hc i pins s σ H E I hf st hg
  subst hP hw hK
  obtain ⟨f0,f1,f2,f3,f4,f5⟩:=hf it (by simp)
  exact wpAny_pyNext_ascii_end (I.ok.hd hc) st (Array.getElem?_eq_none hg) λh' eb=>⟨rfl,I.turned (t':=s.toks) (λb o hb e=>eb b o hb e) f0 f1 f3 f4 f5⟩
 self:=λ_ _ _ _ _ st h=>wpAny_pyIter_striter_ascii st h
theorem qwf {P:Ac}{w:Ah}{K:Aa}{it:Aj}{x:Str}{t:Tok}:Turn P w K tg (ItS x) [it] it (λi h=>h.IsStrIter it "str_iterator" x t i) where
 mem:=by simp
 obj:=λi h st b hb=>by
  have e:b=it:=by simpa using hb
  subst e
  obtain ⟨ob,e,c,dd⟩:=st
  exact ⟨ob,e,λv z=>by rw [dd] at z;cases z⟩
 keep:=λi h h' st k=>by
  obtain ⟨ob,e,r⟩:=st
  exact ⟨ob,k it (by simp) ob e,r⟩
 item:=by
  intro X hP hw hK hc i pins s σ H E I hf st hg
  subst hP hw hK
  have hg:i<x.cps.size:=hg
  obtain ⟨f0,f1,f2,f3,f4,f5⟩:=hf it (by simp)
  refine wpAny_pyNext_wide_item st (c:=x.cps.getD i 0) (by rw [bN,bZ hg];rfl) λh' st' sb=>?_
  have I1:Inv X pins σ H { s with heap:=h',toks:=s.toks+1 }:=I.turned (t':=s.toks+1) (λb o hb e=>(sb.2 b hb).trans e) f0 f1 f3 f4 f5
  obtain ⟨ob,e,c,d'⟩:=id st'
  exact ⟨_,rfl,qqt (s:={ s with heap:=h',toks:=s.toks+1 }) e c d' (by decide) ⟨.str ⟨#[x.cps.getD i 0]⟩,H,I1,⟨_,rfl⟩,⟨rfl,rfl⟩,st',λb hb=>(hf b hb).1⟩⟩
 done:=by
  intro X hP hw hK hc i pins s σ H E I hf st hg
  subst hP hw hK
  obtain ⟨f0,f1,f2,f3,f4,f5⟩:=hf it (by simp)
  exact wpAny_pyNext_wide_end (I.ok.hd hc) st (Array.getElem?_eq_none hg) λh' eb=>⟨rfl,I.turned (t':=s.toks) (λb o hb e=>eb b o hb e) f0 f1 f3 f4 f5⟩
 self:=λ_ _ _ _ _ st h=>wpAny_pyIter_striter_wide st h
def iStr (tl:TE):TI:=λσ H R=>tl σ H λv H1=>∃x,v=.str x∧R (ItS x) H1
theorem pi_str (hl:PE X l tl):PI X tg l (iStr tl):=by
 intro pins s σ H R I h
 refine thn (hl pins s σ H _ I h) λv s1 ⟨v',H1,I1,r1,x,e,q⟩=>?_
 subst e
 obtain ⟨t,rfl⟩:=(show ∃t,v=Value.str x t from r1)
 cases ha:x.cps.all (·<128)
 ·refine wpAny_pyIter_wide ha ⟨s1.heap.objs.size,[s1.heap.objs.size],_,_,H1,rfl,I1.kept (t':=s1.toks) λb o e=>aa _ e,qwf (t:=t),⟨_,ai _ rfl,rfl,rfl⟩,λb hb=>?_,q⟩
  have e:=aB.mp hb
  subst e
  exact I1.fpOk (ae _) (I1.hok.fresh (ae _))
 ·refine wpAny_pyIter_ascii ha ⟨s1.heap.objs.size,[s1.heap.objs.size],_,_,H1,rfl,I1.kept (t':=s1.toks) λb o e=>aa _ e,qw6 (t:=t),⟨_,ai _ rfl,rfl,rfl⟩,λb hb=>?_,q⟩
  have e:=aB.mp hb
  subst e
  exact I1.fpOk (ae _) (I1.hok.fresh (ae _))
end
end L2
namespace L2
open PySem PySem.Spec PyProof.Rows
def Rows (q:Aj)(B:Hp)(L:List (List V))(ys:List V)(H:Hp):Prop:=Paired (λv xs=>∃a,v=.ref a∧a≠q∧B a=none∧H a=some (.lst xs)) ys L
theorem xu {H H':Hp}(s:Same H H'){a:Aj}(n:H' a=none):H a=none:=by
 cases e:H a with
 |none=>rfl
 |some o=>rw [s _ _ e] at n;cases n
end L2
namespace L2
open PySem PySem.Spec PySem.Calls PyProof.Rows PySem.W
section
variable {prog:Ac}{w:Ah}{A:Ae}{E:Ag→Ab→Prop}{s:Ab}{K:Type}[DecidableEq K]{knd:KeyKind prog w K}
end
section
variable {X:Cx}
def tDispT (tk tv:TE):TE:=λσ H Q=>∀p,H p=none→tk σ (upd H p (.dT [])) λx H1=>tv σ H1 λv H2=>∃b ks,x=.ref b∧H2 b=some (.tup (ks.map kV))∧H2 p=some (.dT [])∧Q (.ref p) (upd H2 p (.dT [(ks,v)]))
theorem qvc {k v:Expr}{pos:Pos}{tk tv:TE}(hu:X.A.units<cLine)(hk:PE X k tk)(hv:PE X v tv):PE X (.Dict [some k] [v] pos) (tDispT tk tv):=by
 intro pins s σ H Q I q
 have hn:=I.hok.fresh (ae s.heap.objs.size)
 have I1:=I.laid (a:=s.heap.objs.size) (o:=.dT []) (h':=s.heap.push { cls:=.type "dict",data:=.dict #[] }) (t':=s.toks) (λ_ _ q=>aa _ q) (ae _) (qz7 s.heap I.big)
 refine wpAny_Dict_any rfl rfl (λz=>by cases z) (show 1≤15 by decide) ?_
 refine pairTrees_cons_walk (thn (hk pins _ σ _ _ I1 (q _ hn)) λu s1 ⟨x,H1,I2,rx,q1⟩=>thn (hv pins s1 σ H1 _ I2 q1) λw2 s2 ⟨y,H2,I3,ry,b,ks,ex,eb,ep,q2⟩=>pairTrees_nil_walk ?_)
 subst ex
 cases (show u=Value.ref b from rx)
 obtain ⟨z,hd,xs,rel,dd⟩:=dt_of I3.hok ep
 cases rel
 unfold storeAll
 rw [List.forIn_cons]
 refine ah (ah (wpAny_dictSet_heap (knd:=tupleKind (xz X.prog X.w)) (hsz:=aA _) hu (km I3.hok eb) dd λh' dd' hs=>az ?_))
 refine az ?_
 obtain ⟨o',es,ep',h1,h2,h3,h4,_,h6⟩:=dd'
 refine ⟨.ref _,_,vg I3 (by rw [ep];exact True.intro) hs ⟨o',h1⟩ (show ObjOk X.prog X.w (upd H2 s.heap.objs.size (.dT [(ks,y)])) h' s.heap.objs.size (.dT [(ks,y)]) from ⟨by show 1≤sizeLine;decide,hd,[(ks,b,w2)],.cons ⟨rfl,?_,ry⟩ .nil,o',es,ep',h1,h2,h3,h4,h6⟩),rfl,q2⟩
 rw [wz (ne_of eb ep (λz=>nomatch z))]
 exact eb
end
end L2
namespace L2
open PySem PySem.Spec PySem.Calls PyProof.Rows
section
variable {Y:Cx}{kx vx:Expr}{tk te:TE}{c:Code}{p:Aj}{σ:St}{H:Hp}{pins:List (Aj×Obj)}{s:Ab}
def dctS (kx vx:Expr)(D:Aj)(env:Env)(c:Code):Sem PySem.Fin:=(eval kx env >>= λkv=>holding [kv] (eval vx env) >>= λvv=>standAt { kx.pos with endLine:=vx.pos.endLine,endCol:=vx.pos.endCol } >>= λ_=>holding [kv,vv] (dictSet D kv vv)) >>= λ_=>again c
theorem qvz (kx vx target iter:Expr)(scope:Scope)(pos:Pos)(it:Ag)(D:Aj)(env:Env) :
  compTurn (.DictComp kx vx [⟨target,iter,[],0⟩] scope pos) 0 it (.ref D) env=(standAt iter.pos >>= λ_=>pyNext it >>= λr=>match r with|none=>pure (.done .next)|some v=>letOwnedTupleGo target it v >>= λ_=>assign target env v >>= λ_=>dctS kx vx D env (.compLoop (.DictComp kx vx [⟨target,iter,[],0⟩] scope pos) 0 it (.ref D) env)):=by rfl
theorem qzx {ys:List (Key×V)}{N:List (Key×V)→Hp→Prop}(hk:PE Y kx tk)(hv:PE Y vx te)(J:Inv Y pins σ H s)(hz:ys.length<sizeLine)
  (h:tk σ H λy H4=>te σ H4 λz H5=>∃k,y=kV k∧H5 p=some (.dK ys)∧N (zx ys k z) (upd H5 p (.dK (zx ys k z)))) :
  wpAny (model Y.prog Y.w) Y.A (dctS kx vx p Y.env c) (λr s5=>r=Fin.again c∧∃H5,Inv Y pins σ H5 s5∧∃zs,N zs H5) Y.xe s:=by
 refine ah (ah (ay (hk _ s _ H _ J h) (λkv s6 hr6=>?_) λ_ _ z=>z))
 obtain ⟨y,H4,J6,ry,h4⟩:=hr6
 refine ah (wpAny_holding (ay (hv _ s6 _ H4 _ J6 h4) (λvv s7 hr7=>?_) λ_ _ z=>z))
 obtain ⟨z,H5,J7,rz,k,rfl,e5,n5⟩:=hr7
 refine ah (cf (wpAny_holding ?_))
 obtain ⟨zz,hd,vs,rel,dd⟩:=Wf J7.hok e5
 have hl:(zx ys k z).length≤sizeLine:=by have:=zc ys k z;lia
 refine wpAny_dictSet_pairs (hsz:=by rw [←rel.length];exact zz) (ju ry) dd λh' dd' hs=>az ⟨rfl,_,?_,_,n5⟩
 have he:∃q,h'.get? p=some q:=let ⟨q,_,_,hq,_⟩:=dd';⟨q,hq⟩
 exact vg J7 (by rw [e5];exact True.intro) hs he (uk hl hd (rel.put k rz) dd')
end
section
variable {X:Cx}{pins:List (Aj×Obj)}{σ:St}{H:Hp}{s2:Ab}{scope:Scope}{cl:List (Str×Aj)}{x:Str}{M:List Nat}{fp:List Aj}{C:Aj}{h1:Heap}{tk:Nat}
theorem Inv.compD (I:Inv X pins σ H s2)(hc:CapAll X.env cl)(hh:HasAll cl scope.names)(hm:CapIx X scope cl M)(hk:scope.kind=.function)(hC:s2.heap.objs.size<C)
  (keep:∀b o,s2.heap.get? b=some o→h1.get? b=some o) (hn:h1.Ns C λ_=>none) (hD:h1.get? s2.heap.objs.size=some { cls:=.type "dict",data:=.dict #[] })
  (hfp:∀b∈fp,vq X pins H b) (hob:∀b∈fp,∃o,s2.heap.get? b=some o) :
  Inv (zb X scope cl x M C s2 H fp (X.pn++pins)) [] (zd M σ none) (upd H s2.heap.objs.size (.dK [])) { s2 with heap:=h1,toks:=tk } :=
 I.compG (xs:=[x]) hc hh hm hk hC keep hn ⟨aA _,aw.mpr (aL (ak I.big)),[],.nil,by
  obtain ⟨o,es,ep,ho,r⟩:=Heap.DictOf.new (knd:=xz X.prog X.w) s2.heap
  have:o={ cls:=.type "dict",data:=.dict #[] }:=ao (ho.symm.trans (ai _ rfl))
  exact ⟨o,es,ep,by rw [this];exact hD,r⟩⟩ hfp hob
end
def Jc (J:It)(M:List Nat)(tk te:TE)(σ:St)(H1:Hp)(Q:VK):Prop:=∀p,H1 p=none→∃W:Nat→Nat→List (Key×V)→Hp→Prop,(∃m,W 0 m [] (upd H1 p (.dK []))) ∧
 ∀i m ys H2,W i m ys H2→H2 p=some (.dK ys)∧ys.length<sizeLine∧((J.stop i H2∧Q (.ref p) H2)∨(J.go i H2∧∀v H3,J.yld i H2 v H3 →
  tk (zd M σ (some v)) H3 λy H4=>te (zd M σ (some v)) H4 λz H5=>∃k,y=kV k∧H5 p=some (.dK ys)∧∃m',m'<m∧W (i+1) m' (zx ys k z) (upd H5 p (.dK (zx ys k z)))))
def tDComp (M:List Nat)(wi:TI)(tk te:TE):TE:=λσ H Q=>wi σ H λJ H1=>Jc J M tk te σ H1 Q
section
variable {X:Cx}{kx vx iter:Expr}{x:Str}{px pos:Pos}{scope:Scope}{cl:List (Str×Aj)}{M:List Nat}{wi:TI}{tk te:TE}{pins:List (Aj×Obj)}{σ:St}
theorem J9 {tg:Expr}(hclos:closureFor scope X.env=pure cl)(hhas:HasAll cl scope.names)(hk:scope.kind=.function)
  (hnames:∀y∈scope.names,y.2=.local→scope.names.lookup y.1=some .local) (hi:PI X tg iter wi) (hs:∀z,foldedSetIterable iter X.env z=pure z)
  {use:Option (Ag→Sem Unit)} {QQ:Ag→Ab→Prop} {s:Ab} {H:Hp} {ps:Pos} {R:It→Hp→Prop} (I:Inv X pins σ H s) (h:wi σ H R)
  (go:∀(it:Aj) (fp:List Aj) (tn:Nat→Heap→Prop) (J:It) (H1:Hp) (s2:Ab) (C:Aj) (h3:Heap) (tn2:Nat),Inv X pins σ H1 s2→Turn X.prog X.w X.K tg J fp it tn→tn 0 h3→(∀b∈fp,vq X pins H1 b)→(∀b∈fp,b<s2.heap.objs.size)→(∀b∈fp,∃o,s2.heap.get? b=some o)→R J H1→s2.heap.objs.size<C →
   (∀b o,s2.heap.get? b=some o→h3.get? b=some o)→(h3.Ns C λ_=>none)→h3.get? s2.heap.objs.size=some { cls:=.type "dict",data:=.dict #[] } →
   codeAny (model X.prog X.w) X.A (.compLoop (.DictComp kx vx [⟨tg,iter,[],0⟩] scope pos) 0 (.ref it) (.ref s2.heap.objs.size) (compEnvC scope cl C X.env)) (compPost (model X.prog X.w) X.A X.xe use QQ (.ref s2.heap.objs.size) C) { s2 with heap:=h3,toks:=tn2 }) :
  wpAny (model X.prog X.w) X.A (comprehension (.DictComp kx vx [⟨tg,iter,[],0⟩] scope pos) scope X.env ps newDict false (eval iter X.env) use) QQ X.xe s:=by
 refine wpAny_comprehension_free (use:=use) rfl hs hclos hk hnames ?_
 refine thn (hi pins s σ H _ I h) λv s1 h1=>thn h1 λitv s2 h2=>?_
 obtain ⟨it,fp,tn,J,H1,rfl,I2,T,t0,hfp,hR⟩:=h2
 refine ca ?_
 refine wpAny_newFunctionEnv hhas.nocell (by intro y hy;cases hy) (λh3 hns hsb=>?_) hk
 dsimp only at hns hsb ⊢
 generalize hH2:s2.heap.push { cls:=.type "dict",dict:=none,data:=.dict #[] }=G2 at hns hsb ⊢
 have hC:G2.objs.size=s2.heap.objs.size+1:=by rw [←hH2,bT]
 have hlt:s2.heap.objs.size<G2.objs.size:=by lia
 have keep:∀b o,s2.heap.get? b=some o→h3.get? b=some o:=λb o e=>by
  rw [hsb.2 b (ak (aQ (ac e) hlt))]
  exact aa _ (hH2▸aa _ e)
 have hD:h3.get? s2.heap.objs.size=some { cls:=.type "dict",data:=.dict #[] }:=by
  rw [hsb.2 _ (ak hlt)]
  exact aa _ (hH2▸ai _ rfl)
 have t3:=T.keep 0 _ _ t0 λb _ o e=>keep b o e
 have loop:=λtn2=>go it fp tn J H1 s2 G2.objs.size h3 tn2 I2 T t3 hfp (λb hb=>let ⟨o,e,_⟩:=T.obj 0 _ t0 b hb;ac e) (λb hb=>let ⟨o,e,_⟩:=T.obj 0 _ t0 b hb;⟨o,e⟩) hR hlt keep hns hD
 exact codeAny_compStart_dict (loop _) (T.self _ 0 _ _ _ t3 (loop _))
end
section
variable {X:Cx}{kx vx iter:Expr}{x:Str}{px pos:Pos}{scope:Scope}{cl:List (Str×Aj)}{M:List Nat}{wi:TI}{tk te:TE}
theorem qxw (hc:X.calm=true)(hclos:closureFor scope X.env=pure cl)(hcap:CapAll X.env cl)(hhas:HasAll cl scope.names)(hix:CapIx X scope cl M)(hk:scope.kind=.function)
  (hnames:∀y∈scope.names,y.2=.local→scope.names.lookup y.1=some .local) (hx:scope.names.lookup x=some .local) (hnd:(Yr X x M).Nodup) (hi:PI X (.Name x px) iter wi)
  (hkx:∀C s2 H2 fp pn,PE (zb X scope cl x M C s2 H2 fp pn) kx tk) (he:∀C s2 H2 fp pn,PE (zb X scope cl x M C s2 H2 fp pn) vx te) (hs:∀z,foldedSetIterable iter X.env z=pure z)
  {use:Option (Ag→Sem Unit)} {QQ:Ag→Ab→Prop} {pins:List (Aj×Obj)} {s:Ab} {σ:St} {H:Hp} {Q:VK} {ps:Pos} (I:Inv X pins σ H s) (h:wi σ H λJ H1=>Jc J M tk te σ H1 Q)
  (fin:∀(C:Aj) (s2 s4:Ab) (H1 H2:Hp) (fp:List Aj),Inv X pins σ H1 s2→s2.heap.objs.size<C→(∀b∈fp,vq X pins H1 b)→Inv (zb X scope cl x M C s2 H1 fp (X.pn++pins)) [] (zd M σ none) H2 s4→Q (.ref s2.heap.objs.size) H2 →
   compPost (model X.prog X.w) X.A X.xe use QQ (.ref s2.heap.objs.size) C (.ok .next) s4) :
  wpAny (model X.prog X.w) X.A (comprehension (.DictComp kx vx [⟨.Name x px,iter,[],0⟩] scope pos) scope X.env ps newDict false (eval iter X.env) use) QQ X.xe s:=by
 refine J9 hclos hhas hk hnames hi hs I h λit fp tn J H1 s2 C h3 tn2 I2 T t3 hfp hbl hob hR hlt keep hns hD=>?_
 obtain ⟨W,⟨m0,w0⟩,hW⟩:=hR s2.heap.objs.size (I2.hok.fresh (ae _))
 have hxl:(relabel scope X.env).names.lookup x=some .local:=lookup_relabel_local hx
 refine Wt (Y:=zb X scope cl x M C s2 H1 fp (X.pn++pins)) (V:=λi n H2=>∃ys,W i n ys H2) (Qd:=Q (.ref s2.heap.objs.size)) (REST:=dctS kx vx s2.heap.objs.size (compEnvC scope cl C X.env) _) T hc (λ_ _ z=>z) (qvz ..) rfl rfl (zh (i:=0) hnd rfl (.inl hxl) (.inr hxl)) (qqn hcap I2 hlt hfp hbl) (λi n H2 ⟨ys,w⟩=>?_) (λH2 s4 J4 q=>fin C s2 s4 H1 H2 fp I2 hlt hfp J4 q) (I2.compD hcap hhas hix hk hlt keep hns hD hfp hob) ⟨[],w0⟩ t3 λb hb=>by rw [wz (ak (hbl b hb))];exact (hfp b hb).1
 obtain ⟨hp,hz,hcase⟩:=hW i n ys H2 w
 refine hcase.imp id λ⟨hgo,hy⟩=>⟨hgo,λv H3 yl=>⟨λσ4 H4=>σ4=zd M σ (some v)∧H3=H4,⟨rfl,rfl⟩,λ_ _ e=>?_⟩⟩
 obtain ⟨rfl,rfl⟩:=e
 refine ⟨um M σ v,λpins' s' J=>?_⟩
 refine ay (qzx (N:=λzs H5=>∃m',m'<n∧W (i+1) m' zs H5) (hkx _ _ _ _ _) (he _ _ _ _ _) J hz (hy v H3 yl)) (λr s5 ⟨e,H5,J5,zs,m',hm,w'⟩=>⟨e,H5,J5,m',hm,zs,w'⟩) λ_ _ z=>z
theorem Ys {i:Nat}{y:Str}{py spos:Pos}(hN:X.N.Nodup)(hyi:X.N[i]?=some y)(hyl:Loc X.env.scope y)(hc:X.calm=true)(hclos:closureFor scope X.env=pure cl)(hcap:CapAll X.env cl)(hhas:HasAll cl scope.names)(hix:CapIx X scope cl M)(hk:scope.kind=.function)
  (hnames:∀y∈scope.names,y.2=.local→scope.names.lookup y.1=some .local) (hx:scope.names.lookup x=some .local) (hnd:(Yr X x M).Nodup) (hi:PI X (.Name x px) iter wi)
  (hkx:∀C s2 H2 fp pn,PE (zb X scope cl x M C s2 H2 fp pn) kx tk) (he:∀C s2 H2 fp pn,PE (zb X scope cl x M C s2 H2 fp pn) vx te) (hs:∀z,foldedSetIterable iter X.env z=pure z:=by intro _;rfl)
  (hsw:swapsWith (.DictComp kx vx [⟨.Name x px,iter,[],0⟩] scope pos) (some (.Name y py)) spos.line X.env=pure true:=by rfl) (hyf:X.fn y=true∨X.env.scope.names.lookup y=some .local:=by first | exact .inl rfl | exact .inr rfl | assumption) :
  PS X (.Assign [.Name y py] (.DictComp kx vx [⟨.Name x px,iter,[],0⟩] scope pos) spos) (tAsg (tDComp M wi tk te) (qz1 i)):=by
 intro pins s σ H D I h
 rw [exec_Assign_Name_used _ _ _ _ hsw]
 refine ah (cf (ah ?_))
 refine ah (ay (qxw hc hclos hcap hhas hix hk hnames hx hnd hi hkx he hs (use:=some (assign (.Name y py) X.env)) (QQ:=λ_ s'=>SP X pins D .next s') I h λC s2 s4 H1 H2 fp I2 hlt hfp J4 hq=>?_) (λ_ s' hq=>az (az hq)) λ_ _ e=>e)
 have I4:Inv X pins σ H2 s4:=I2.uncomp (h':=s4.heap) (be hlt) hfp J4 (Heap.SameBut.refl _ _)
 have hCn:H2 C=none:=J4.free
 obtain ⟨mC,hnC,_⟩:=J4.loc
 obtain ⟨oC,esC,epC,hoC,hdC⟩:=id hnC
 have hCl:C≠X.env.locals:=λz=>aD _ (aQ hlt (z▸I2.lt))
 have hCs:X.s₀.heap.objs.size≤C:=aP I2.sz (be hlt)
 have hCc:∀y c,X.env.cells.lookup y=some c→c≠C:=λy c e z=>by
  obtain ⟨v,o,e1,_⟩:=I2.cell y c e
  exact aD _ (aQ hlt (z▸ac e1))
 have hCp:∀p∈X.pn++pins,p.1≠C:=λp hp z=>aD _ (aQ hlt (z▸ac (I2.pin p hp).1))
 have hCf:C∉frs X.stack:=λz=>by
  rcases aq.mp (I2.stkSub C z) with q|q
  ·exact hCl q
  ·obtain ⟨_,o,e1,_⟩:=I2.funs.mem (b:=C) q
   exact aD _ (aQ hlt (ac e1))
 have hCx:C∉X.fs:=λz=>by
  obtain ⟨_,o,e1,_⟩:=I2.funs.mem (b:=C) z
  exact aD _ (aQ hlt (ac e1))
 have I4p:Inv X (pins++[(C,oC)]) σ H2 s4:=⟨I4.ok,I4.os,I4.bare,I4.base,I4.loc,I4.cell,I4.free,I4.freeC,λp hp=>by
  rcases aR.mp hp with q|q
  ·exact I4.pin p (bp _ q)
  ·rcases aR.mp q with q|q
   ·exact I4.pin p (ap _ q)
   ·rw [aB.mp q]
    exact ⟨hoC,hCn,hCl,hCx,λv z=>by rw [hdC.1] at z;cases z⟩,I4.hok,I4.len⟩
 show wpAny _ _ (assign (.Name y py) X.env (.ref s2.heap.objs.size)) _ _ _
 refine wpAny_assign_Name (vf I4p hN hyi hyl (show xx (.ref s2.heap.objs.size) (.ref s2.heap.objs.size) from rfl) (λs5 I5=>?_) hyf)
 have hC5:=(I5.pin (C,oC) (ap _ (ap _ (.head _)))).1
 exact ⟨mC,⟨oC,esC,epC,hC5,hdC⟩,λh' hs'=>⟨_,H2,I5.unpinned.but hCn hCs hCl hCc hCp hs',hq⟩⟩
end
end L2
namespace L2
open PySem PySem.Spec PyProof.Rows
def MissR (K:Aa)(C D:Aj):Prop:=∀ {M:Model} {A:Ae} {E:Ag→Ab→Prop} {h:Heap} {g:Array GenState} {d:Drawn} {t:Nat} {os:OsState} {e:Aj} {oe:Obj} {Q:Bool→Ab→Prop},
 K.In h→h.get? e=some oe→oe.cls=.ref C→Q false ⟨h,g,d,t,os⟩→wpAny M A (excMatches (.ref e) (.ref D)) Q E ⟨h,g,d,t,os⟩
theorem qqu {K:Aa}{C D:Aj}(d:ExcC K D)(hm:PySem.W.mroIn K C (.ref D)=some false):MissR K C D:=by
 intro M A E h g dr t os e oe Q X he hc q
 obtain ⟨tl,N,a1,a2,a3,a4,a5,a6,a7,a8,a9,b0,b1,b2,b3,b5,mN,hC,hN,hni,T⟩:=jd X d.q
 have hbase:=T.hasType aI.hasBase
 have hcB:(Value.ref D::tl).contains (.type "BaseException")=true:=by rw [bB,hbase,cx]
 have L:PySem.W.Looks M h (isSubtype (.ref C) (.ref D)) false:=bv X hm
 have f:=tc_notTuple
 unfold excMatches
 repeat (first | (with_reducible refine aG he ?_;rw [hc]) | with_reducible refine aG hC ?_ | (with_reducible refine aT hC ?_;rw [hcB]) | with_reducible refine L.at ?_ | wp_step)
 exact q
section
variable {X:Cx}{pins:List (Aj×Obj)}{σ:St}{H H':Hp}{s s':Ab}{e:Aj}
end
section
variable {X:Cx}{x x1:Str}{D0 D1:Aj}{np hpos np1 hpos1 pos:Pos}{b₀ b₁:Stmt}{body suite suite1:List Stmt}{tb:(St→XK)→TS}{th th1:TS}
end
end L2
namespace L2
open PySem
theorem qzu {M:List Nat}{x:Str}{te:TE}{σ:St}{H:Hp}{Q:VK}(f:Nat→V)(hn:x.cps.size≤1000000)(he:∀(i:Nat) (H':Hp) (R:VK),i<x.cps.size→Same H H'→R (f i) H'→te (zd M σ (some (.str ⟨#[x.cps.getD i 0]⟩))) H' R)
  (k:∀p,H p=none→Q (.ref p) (upd H p (.lst ((List.range x.cps.size).map f)))):qww (ItS x) M te σ H Q:=by
 intro p np
 refine ⟨λi m ys H2=>i≤x.cps.size∧m=x.cps.size-i∧ys=(List.range i).map f∧H2=upd H p (.lst ys),⟨x.cps.size,aA _,rfl,rfl,rfl⟩,?_⟩
 rintro i m ys H2 ⟨hi,rfl,rfl,rfl⟩
 refine ⟨q9,?_,?_⟩
 ·rw [aj,bb]
  have:(1000000:Nat)<sizeLine:=by decide
  lia
 ·by_cases hlt:i<x.cps.size
  ·refine .inr ⟨hlt,?_⟩
   rintro v H3 ⟨rfl,rfl⟩
   refine he i (upd H p (.lst ((List.range i).map f))) _ hlt (Same.upd np) ⟨q9,x.cps.size-(i+1),by lia,by lia,rfl,?_,?_⟩
   ·rw [List.range_succ,cA]
    rfl
   ·rw [uq]
  ·refine .inl ⟨by show x.cps.size≤i;lia,?_⟩
   have:i=x.cps.size:=by lia
   subst this
   exact k p np
theorem qx4 {M:List Nat}{d:Aj}{o:Obj}{cs:List (Key×V)}{tk te:TE}{σ:St}{H:Hp}{Q:VK}(f:Key→V)(hz:cs.length≤1000000)(nd:(cs.map (·.1)).Nodup)(hd:H d=some (.frz o (.dK cs)))
  (he:∀(k:Key) (H':Hp) (R:V→V→Hp→Prop),Same H H'→R (kV k) (f k) H'→tk (zd M σ (some (kV k))) H' λy H4=>te (zd M σ (some (kV k))) H4 λz H5=>R y z H5)
  (k:∀p,H p=none→Q (.ref p) (upd H p (.dK (cs.map λc=>(c.1,f c.1))))):Jc (ItD d o cs) M tk te σ H Q:=by
 intro p np
 have big:(1000000:Nat)<sizeLine:=by decide
 refine ⟨λi m ys H2=>i≤cs.length∧m=cs.length-i∧ys=(cs.take i).map (λc=>(c.1,f c.1))∧H2=upd H p (.dK ys),⟨cs.length,aA _,rfl,rfl,rfl⟩,?_⟩
 rintro i m ys H2 ⟨hi,rfl,rfl,rfl⟩
 have dp:d≠p:=qt hd np
 refine ⟨q9,by rw [aj,bF];lia,?_⟩
 by_cases hlt:i<cs.length
 ·refine .inr ⟨⟨by rw [wz dp];exact hd,hlt⟩,?_⟩
  rintro v H3 ⟨rfl,c,ec,rfl⟩
  refine he c.1 _ _ (Same.upd np) ⟨c.1,rfl,q9,cs.length-(i+1),by lia,by lia,rfl,?_,?_⟩
  ·have hn:w8 ((cs.take i).map λc=>(c.1,f c.1)) c.1=none:=by
    unfold w8
    rw [List.find?_eq_none.mpr]
    ·rfl
    ·intro x hx
     obtain ⟨y,hy,rfl⟩:=br.mp hx
     have hy2:y.1∈(cs.map (·.1)).take i:=by rw [←List.map_take];exact br.mpr ⟨y,hy,rfl⟩
     intro z
     have z:y.1=c.1:=by simpa using z
     obtain ⟨j,hj,ej⟩:=List.getElem_of_mem hy2
     rw [bF,aj] at hj
     rw [List.getElem_take] at ej
     have e2:(cs.map (·.1))[i]'(by rw [aj];exact hlt)=c.1:=by
      rw [List.getElem_map]
      rw [aE hlt] at ec
      rw [ao ec]
     have:=(List.getElem_inj nd).mp (ej.trans (z.trans e2.symm))
     lia
   rw [zt _ hn,List.take_add_one,cA,ec]
   rfl
  ·rw [uq]
 ·refine .inl ⟨⟨by rw [wz dp];exact hd,by lia⟩,?_⟩
  have:i=cs.length:=by lia
  subst this
  rw [List.take_length]
  exact k p np
theorem for_di {d:Aj}{o:Obj}{cs:List (Key×V)}{g:TG}{tb:TS}{D:Ends}{σ:St}{H:Hp}(Pv:Nat→St→Hp→Prop)(h0:Pv 0 σ H)(hl:∀i σ H,i≤cs.length→Pv i σ H→H d=some (.frz o (.dK cs)))
  (hs:∀i c q σ H,cs[i]?=some c→H q=none→Pv i σ H→g (.ref q) σ (upd H q (.tup [kV c.1,c.2])) λσ2 H2=>tb { D with nx:=Pv (i+1),ct:=Pv (i+1),bk:=D.nx } σ2 H2) (hd:∀σ H,Pv cs.length σ H→D.nx σ H) :
  ∃W:Nat→Nat→St→Hp→Prop,(∃m,W 0 m σ H)∧∀i m σ H,W i m σ H →
   ((ItDI d o cs).stop i H∧D.nx σ H)∨((ItDI d o cs).go i H∧∃N:St→Hp→Prop,(∀σ' H',N σ' H'→∃m',m'<m∧W (i+1) m' σ' H')∧∀x H',(ItDI d o cs).yld i H x H'→g x σ H' λσ2 H2=>tb { D with nx:=N,ct:=N,bk:=D.nx } σ2 H2):=by
 refine ⟨λi m σ H=>m=cs.length-i∧i≤cs.length∧Pv i σ H,⟨cs.length,by simp,aA _,h0⟩,?_⟩
 rintro i m σ H ⟨rfl,hi,p⟩
 have q:=hl i σ H hi p
 by_cases hlt:i<cs.length
 ·refine .inr ⟨⟨q,hlt⟩,Pv (i+1),λσ' H' p'=>⟨cs.length-(i+1),by lia,rfl,hlt,p'⟩,?_⟩
  rintro x H' ⟨z,c,nz,rfl,ec,rfl⟩
  exact hs i c z σ H ec nz p
 ·have e:i=cs.length:=by lia
  subst e
  exact .inl ⟨⟨q,ae _⟩,hd σ H p⟩
def ex1 (R:List (Key×V))(c:Key×V):List (Key×V):=if c.2=.non then Wd R c.1 else zx R c.1 c.2
def exK (R cs:List (Key×V)):List (Key×V):=cs.foldl ex1 R
def bfK (R cs:List (Key×V)):List (Key×V):=cs.map λc=>(c.1,(w8 R c.1).getD .non)
def ExOk (R cs:List (Key×V)):Prop:=∀(i:Nat) c,cs[i]?=some c→c.2=.non→(w8 (exK R (cs.take i)) c.1).isSome=true
theorem qkv (R:List (Key×V)){cs:List (Key×V)}{i:Nat}{c:Key×V}(h:cs[i]?=some c):exK R (cs.take (i+1))=ex1 (exK R (cs.take i)) c:=by
 unfold exK
 rw [List.take_add_one,h,List.foldl_append]
 rfl
theorem qv8 (R:List (Key×V))(c:Key×V):(ex1 R c).length≤R.length+1:=by
 unfold ex1
 split
 ·have:=Yk R c.1
  lia
 ·exact zc R c.1 c.2
theorem qv4 (R cs:List (Key×V)):(exK R cs).length≤R.length+cs.length:=by
 induction cs generalizing R with
 |nil=>exact ae _
 |cons c cs ih =>
  have h1:=ih (ex1 R c)
  have h2:=qv8 R c
  show (exK (ex1 R c) cs).length≤_
  rw [aN]
  lia
def Kb (ch:List Aj)(H H':Hp):Prop:=∀b o,b∉ch→H b=some o→H' b=some o
section
variable {X:Cx}{C:Aj}{x:Str}{k:Nat}{sp:Sp}{E:St→XK}{p pos:Pos}
theorem qxk (c:CCal X.prog X.w X.K X.mg X.base x C k sp)(hr:Room (k+1) X.A)(hg:Gl X x)(hx:zg X E)(hdb:(x==("__debug__" : Str))=false:=by decide) :
  PE X (.Call (.Name x p) [] [] pos) (qqq C sp E vd):=by
 obtain ⟨f,fd,ps,hm,M,F,b⟩:=c.ex
 intro pins s σ H Q I h
 refine bg (z5 I hg hm ?_ hdb)
 exact PySem.W.callWith_K0 I.kIn M.kp (Wc (us:=[]) M F hr b hx I .nil h)
end
theorem Kb.rd {ch:List Aj}{H H':Hp}(k:Kb ch H H'){d:Aj}{kvs:List (Key×V)}(n:d∉ch)(h:Rd H d (.dK kvs)):Rd H' d (.dK kvs):=by
 rcases h with h|⟨o,h⟩
 ·exact .inl (k _ _ n h)
 ·exact .inr ⟨o,k _ _ n h⟩
theorem Kb.of {ch:List Aj}{H H':Hp}(s:Same H H'):Kb ch H H':=λc o _ e=>s c o e
end L2
namespace L2
open PySem PySem.Spec PyProof.Rows
theorem Qm {K:Aa}{C D1 D2:Aj}{b1 b2:Bool}(d1:ExcC K D1)(d2:ExcC K D2)(m1:PySem.W.mroIn K C (.ref D1)=some b1)(m2:PySem.W.mroIn K C (.ref D2)=some b2){M:Model}{A:Ae}{E:Ag→Ab→Prop}{h:Heap}{g:Array GenState}{d:Drawn}{t:Nat}{os:OsState}{e tup:Aj}{oe:Obj}{Q:Bool→Ab→Prop}
  (X:K.In h) (ht:IsTup h tup #[.ref D1,.ref D2]) (he:h.get? e=some oe) (hc:oe.cls=.ref C) (q:Q (b1||b2) ⟨h,g,d,t,os⟩):wpAny M A (excMatches (.ref e) (.ref tup)) Q E ⟨h,g,d,t,os⟩:=by
 obtain ⟨o,ho,hoc,n,hd⟩:=ht
 obtain ⟨tl,N,a1,a2,a3,a4,a5,a6,a7,a8,a9,b0,c1,c2,c3,c5,mN,hC,hN,hni,T⟩:=jd X d1.q
 have hbase:=T.hasType aI.hasBase
 have hcB:(Value.ref D1::tl).contains (.type "BaseException")=true:=by rw [bB,hbase,cx]
 obtain ⟨tl',N',a1',a2',a3',a4',a5',a6',a7',a8',a9',b0',c1',c2',c3',c5',mN',hC',hN',hni',T'⟩:=jd X d2.q
 have hbase':=T'.hasType aI.hasBase
 have hcB':(Value.ref D2::tl').contains (.type "BaseException")=true:=by rw [bB,hbase',cx]
 have L1:PySem.W.Looks M h (isSubtype (.ref C) (.ref D1)) b1:=bv X m1
 have L2:PySem.W.Looks M h (isSubtype (.ref C) (.ref D2)) b2:=bv X m2
 have f:=tc_notTuple
 unfold excMatches
 refine ah (wpAny_isInstance ⟨o,ho,hoc⟩ isSubtype_tuple_tuple ?_)
 dsimp only
 rw [aF rfl]
 refine ah (wpAny_seqItems ho hd ?_)
 dsimp only [Option.getD_some,Option.getD]
 repeat (first | (with_reducible refine aG he ?_;rw [hc]) | with_reducible refine aG hC ?_ | with_reducible refine aG hC' ?_ | (with_reducible refine aT hC ?_;rw [hcB]) | (with_reducible refine aT hC' ?_;rw [hcB']) | with_reducible refine L1.at ?_ | with_reducible refine L2.at ?_ | wp_step)
 cases b1 <;> cases b2
 all_goals
  repeat (first | (with_reducible refine aG he ?_;rw [hc]) | with_reducible refine aG hC ?_ | with_reducible refine aG hC' ?_ | (with_reducible refine aT hC ?_;rw [hcB]) | (with_reducible refine aT hC' ?_;rw [hcB']) | with_reducible refine L1.at ?_ | with_reducible refine L2.at ?_ | wp_step)
  exact q
end L2
namespace L2
open PySem PySem.Spec PyProof.Rows
theorem zm {X:Cx}{ss:List Stmt}:PSs X ss (λ_ _ _=>False):=λ_ _ _ _ _ _ h=>h.elim
theorem flyK {B:Heap}{l:List Env}{e:Aj}{cls a0:Ag}{h h':Heap}(R:Heap.FlyingW B l e cls a0 h)(k:∀b o,h.get? b=some o→h'.get? b=some o):Heap.FlyingW B l e cls a0 h':=by
 obtain ⟨f1,f2,f3,oe,ws,T,oT,ts,he,hc,hd,h1,hn,hne,hT,hdT,h3⟩:=R
 exact ⟨λb o q=>k b o (f1 b o q),f2,f3.of_keeps λb o q _=>⟨o,k b o q,rfl⟩,oe,ws,T,oT,ts,k _ _ he,hc,hd,h1,hn,hne,k _ _ hT,hdT,h3⟩
inductive Hit (K:Aa) (C:Aj):List Aj→Bool→Prop
 |one {D:Aj} {b:Bool} (h:PySem.W.mroIn K C (.ref D)=some b):Hit K C [D] b
 |two {D1 D2:Aj} {b1 b2:Bool} (h1:PySem.W.mroIn K C (.ref D1)=some b1) (h2:PySem.W.mroIn K C (.ref D2)=some b2):Hit K C [D1,D2] (b1||b2)
inductive PHt (X:Cx):List ExceptHandler→List (List Aj×TS)→Prop
 |nil:PHt X [] []
 |one {x:Str} {D0:Aj} {np hpos:Pos} {b₀:Stmt} {suite:List Stmt} {th:TS} {hs:List ExceptHandler} {trs:List (List Aj×TS)} (hg:Gl X x) (hm:X.mg x=some (.ref D0)) (hc:ExcC X.K D0) (hh:∀e,PSs (X.handling e) (b₀::suite) th) (r:PHt X hs trs) (hdb:(x==("__debug__" : Str))=false) :
  PHt X (.ExceptHandler (some (.Name x np)) none (b₀::suite) hpos::hs) (([D0],th)::trs)
 |two {x y:Str} {D1 D2:Aj} {np np2 tp hpos:Pos} {ld:Nat} {b₀:Stmt} {suite:List Stmt} {th:TS} {hs:List ExceptHandler} {trs:List (List Aj×TS)} (hg:Gl X x) (hm:X.mg x=some (.ref D1)) (hc:ExcC X.K D1) (hg2:Gl X y) (hm2:X.mg y=some (.ref D2)) (hc2:ExcC X.K D2) (hh:∀e,PSs (X.handling e) (b₀::suite) th) (r:PHt X hs trs)
  (hdb:(x==("__debug__" : Str))=false) (hdb2:(y==("__debug__" : Str))=false) :
  PHt X (.ExceptHandler (some (.Tuple [.Name x np,.Name y np2] ld tp)) none (b₀::suite) hpos::hs) (([D1,D2],th)::trs)
def CatT (K:Aa)(C:Aj)(D:Ends)(σ:St)(H:Hp):List (List Aj×TS)→Prop
 |[]=>False
 |p::t=>(Hit K C p.1 true∧p.2 D σ H)∨(Hit K C p.1 false∧CatT K C D σ H t)
section
variable {X:Cx}{pins:List (Aj×Obj)}{σ:St}{H H':Hp}{s s':Ab}{e:Aj}
theorem qwj {K:Aa}{C D1 D2:Aj}{b:Bool}(h:Hit K C [D1,D2] b):∃b1 b2,PySem.W.mroIn K C (.ref D1)=some b1∧PySem.W.mroIn K C (.ref D2)=some b2∧(b1||b2)=b:=by
 cases h with
 |two h1 h2=>exact ⟨_,_,h1,h2,rfl⟩
theorem qwz {K:Aa}{C D:Aj}{b:Bool}(h:Hit K C [D] b):PySem.W.mroIn K C (.ref D)=some b:=by
 cases h with
 |one h=>exact h
theorem landT {E:XK}{ev:Ag}{hs:List ExceptHandler}{trs:List (List Aj×TS)}{D:Ends}(I:Inv X pins σ H s)(hst:X.stack=X.env::X.outer)(hfr:X.env.frame=some X.env.locals)
  (hx:CXE X.prog X.w X.stack H s E ev s') (hE:∀c d H',E c d H'→∃C,c=.ref C∧CatT X.K C D σ H' trs) (hP:PHt X hs trs) :
  wpAny (model X.prog X.w) X.A (noteFrame ev X.env) (λ_ s2=>wpAny (model X.prog X.w) X.A (setFlight ev none) (λ_ s3 =>
   wpAny (model X.prog X.w) X.A (handleBy ev X.env hs) (SP X pins D) X.xe s3) X.xe s2) X.xe s':=by
 obtain ⟨a,C,a0,B,H',rfl,hos,hba,un,hokB,hfl,old,q⟩:=hx
 obtain ⟨C1,e1,hcase⟩:=hE _ _ _ q
 cases e1
 have mk:∀(h6:Heap),Heap.FlyingW B X.stack a (.ref C) a0 h6→s'.heap.UpToSlots h6→Inv X pins σ H' { s' with heap:=h6 }:=λh6 fl up=>by
  refine I.call' (s':={ s' with heap:=h6 }) (ch:=[]) hos ⟨λb o e n nb _=>?_,λb o e n hb _=>?_,λb o e n _=>un.free b o e n nin,λb o e _=>?_,un.tups,un.frzs,un.tbls⟩ (hokB.kept fl.1) hba (λb z=>nomatch z)
  ·obtain ⟨o',e1,e2⟩:=old b o e nb
   rw [e2 n] at e1
   exact fl.1 b o e1
  ·obtain ⟨sl,e2⟩:=un.slot b o e n hb nin
   obtain ⟨_,o3,e3,nf⟩:=hfl.2.2.1.mem (b:=b) hb
   obtain ⟨sl4,e4⟩:=up b o3 e3 nf
   rw [e2] at e3
   have e5:=ao e3
   exact ⟨sl4,by show h6.get? b=_;rw [e4,←e5]⟩
  ·by_cases hb:b∈frs X.stack
   ·obtain ⟨_,o3,e3,nf⟩:=hfl.2.2.1.mem (b:=b) hb
    obtain ⟨sl4,e4⟩:=up b o3 e3 nf
    exact ⟨_,e4⟩
   ·obtain ⟨o',e1,_⟩:=old b o e hb
    exact ⟨o',fl.1 b o' e1⟩
 have hfrm:X.A.frames=some (X.env::X.outer):=by rw [←hst];exact I.ok.frames
 have hfl':Heap.FlyingW B (X.env::X.outer) a (.ref C) a0 s'.heap:=by rw [←hst];exact hfl
 refine wpAny_looks_onW hfrm hfr hfl' λh4 held4 up4=>?_
 refine wpAny_landsW held4 λh5 fl5 up5=>?_
 have up:=up4.trans up5
 clear hE held4 up4 up5
 obtain ⟨hp,gg,dd,tk,os⟩:=s'
 induction hP generalizing h5 with
 |nil=>exact hcase.elim
 |@one x D0 np hpos b₀ suite th hs trs hg hm hc hh r hdb ih =>
  have I5:=mk h5 (by rw [hst];exact fl5) up
  have I5h:=I5.handling a
  obtain ⟨ob,hob,hobc⟩:=fl5.there
  refine wpAny_handleBy_cons (codeAny_handlers_test (z5 (X:=X.handling a) I5h hg hm ?_ hdb)) (by intro z;cases z)
  rcases hcase with ⟨hcat,hth⟩|⟨hmiss,hcase⟩
  ·refine Y3 hc (qwz hcat) (h:=h5) I5.kIn hob hobc ?_
   refine codeAny_handlers_suite ?_
   refine lands_againW fl5 λh6 fl6 up6=>?_
   have I6:=(mk h6 (by rw [hst];exact fl6) (up.trans up6)).handling a
   exact ay (hh a pins _ σ H' D I6 hth) (λf s2 h2=>h2.unhandling I.ok) λ_ _ z=>z.elim
  ·refine qqu hc (qwz hmiss) (h:=h5) I5.kIn hob hobc ?_
   exact ih hcase h5 fl5 up
 |@two x y D1 D2 np np2 tp hpos ld b₀ suite th hs trs hg hm hc hg2 hm2 hc2 hh r hdb hdb2 ih =>
  have I5:=mk h5 (by rw [hst];exact fl5) up
  have I5h:=I5.handling a
  have kp:∀b o,h5.get? b=some o→(h5.push { cls:=.type "tuple",data:=.seq [Value.ref D1,Value.ref D2].toArray }).get? b=some o:=λb o z=>aa _ z
  have fl7:=flyK fl5 kp
  have up7:=up.trans (Heap.UpToSlots.of_keeps kp)
  have tp7:IsTup (h5.push { cls:=.type "tuple",data:=.seq [Value.ref D1,Value.ref D2].toArray }) h5.objs.size #[.ref D1,.ref D2]:=⟨_,ai _ rfl,rfl,_,rfl⟩
  refine wpAny_handleBy_cons (codeAny_handlers_test (wpAny_Tuple_spliced ?_)) (by intro z;cases z)
  refine bA (z5 (X:=X.handling a) I5h hg hm ?_ hdb)
  refine bA (z5 (X:=X.handling a) I5h hg2 hm2 ?_ hdb2)
  refine cb ⟨(show 2≤sizeLine by decide),?_⟩
  generalize h5.push { cls:=.type "tuple",data:=.seq [Value.ref D1,Value.ref D2].toArray }=h7 at kp fl7 up7 tp7
  have I7:=mk h7 (by rw [hst];exact fl7) up7
  obtain ⟨ob,hob,hobc⟩:=fl7.there
  rcases hcase with ⟨hcat,hth⟩|⟨hmiss,hcase⟩
  ·obtain ⟨b1,b2,m1,m2,eb⟩:=qwj hcat
   refine Qm hc hc2 m1 m2 (h:=h7) I7.kIn tp7 hob hobc ?_
   rw [eb]
   refine codeAny_handlers_suite ?_
   refine lands_againW fl7 λh6 fl6 up6=>?_
   have I6:=(mk h6 (by rw [hst];exact fl6) (up7.trans up6)).handling a
   exact ay (hh a pins _ σ H' D I6 hth) (λf s2 h2=>h2.unhandling I.ok) λ_ _ z=>z.elim
  ·obtain ⟨b1,b2,m1,m2,eb⟩:=qwj hmiss
   refine Qm hc hc2 m1 m2 (h:=h7) I7.kIn tp7 hob hobc ?_
   rw [eb]
   exact ih hcase h7 fl7 up7
end
def tTryT (K:Aa)(trs:List (List Aj×TS))(tb:(St→XK)→TS):TS:=λD σ H=>tb (λσ' c _ H'=>∃C,c=.ref C∧CatT K C D σ' H' trs) D σ H
section
variable {X:Cx}{pos:Pos}{body:List Stmt}{tb:(St→XK)→TS}{h1:ExceptHandler}{hs1:List ExceptHandler}{trs:List (List Aj×TS)}
theorem qwq (hst:X.stack=X.env::X.outer)(hfr:X.env.frame=some X.env.locals)
  (hb:∀(pn:List (Aj×Obj)) (xe:Ag→Ab→Prop) (E:St→XK),zg (X.trying pn xe) E→PassesOwn (model X.prog X.w) X.A X.env xe→PSs (X.trying pn xe) body (tb E)) (hP:PHt X (h1::hs1) trs) :
  PS X (.Try body (h1::hs1) [] [] pos) (tTryT X.K trs tb):=by
 intro pins s σ H D I h
 refine wpAny_Try_except ?_
 refine ay (hb (X.pn++pins) (λe s₁=>wpAny (model X.prog X.w) X.A (noteFrame e X.env) (λ_ s₂=>wpAny (model X.prog X.w) X.A (setFlight e none) (λ_ s₃ =>
   wpAny (model X.prog X.w) X.A (handleBy e X.env (h1::hs1)) (SP X pins D) X.xe s₃) X.xe s₂) X.xe s₁) _ ?_ PassesOwn.looking [] s σ H D (I.trying _) h) (λf s1 hf=>?_) λ_ _ z=>z
 ·intro pins' σ' H1 s1 e s1' I1 hx
  exact landT (X:=X) (I1.untrying I.ok) hst hfr hx (λc d H' q=>q) hP
 ·have h2:=hf.untrying I.ok
  cases f with
  |next=>exact bw h2
  |brk=>exact h2
  |cont=>exact h2
  |ret u=>exact h2
end
end L2
namespace L2
open PySem PySem.Spec PyProof.Rows
theorem ht_gen {o:Expr}{m:Str}{apos pos:Pos}{e:Expr}{es:List Expr}{env:Env}(hb:attributeBase o m env (eval o env)=eval o env)(hf:methodCallForm ((e::es).length+0) (backTo pos (starEach (e::es) env)) (backToKw pos (keywordEach [] env))=true)(hp:methodCallPos true o env apos pos=pure pos) :
  eval (.Call (.Attribute o m apos) (e::es) [] pos) env=(do
   let ov ←eval o env
   standAt apos.atName
   let (f,first) ←holding [ov] (getMethod ov m (do return (←importBound o env).getD true))
   callWith pos f first (backTo pos (starEach (e::es) env)) (backToKw pos (keywordEach [] env))):=by
 rw [arm_eval_Call,hb]
 unfold methodCall
 rw [show (e::es).length+([]:List Keyword).length=(e::es).length+0 from rfl,hf,hp]
 rfl
section
variable {X:Cx}{C:Aj}{x m:Str}{k:Nat}{sp:Sp}{E:St→XK}{p pos apos:Pos}{e o:Expr}{es:List Expr}{ta te:TE}{t:TA}
theorem wv {v j p'}(ha:PE X (.Constant v j p') te)(hr:PA X es t):PA X (.Constant v j p'::es) (x4 te t):=xk ha hr rfl
theorem q8 {v p'}(ha:PE X (.Name v p') te)(hr:PA X es t):PA X (.Name v p'::es) (x4 te t):=xk ha hr rfl
theorem Wr {v p'}(ha:PE X (.List v p') te)(hr:PA X es t):PA X (.List v p'::es) (x4 te t):=xk ha hr rfl
theorem ug {v j p'}(ha:PE X (.Tuple v j p') te)(hr:PA X es t):PA X (.Tuple v j p'::es) (x4 te t):=xk ha hr rfl
theorem kj {a b c p'}(ha:PE X (.Call a b c p') te)(hr:PA X es t):PA X (.Call a b c p'::es) (x4 te t):=xk ha hr rfl
theorem ky {a b c p'}(ha:PE X (.BinOp a b c p') te)(hr:PA X es t):PA X (.BinOp a b c p'::es) (x4 te t):=xk ha hr rfl
theorem pa_cU {a b p'}(ha:PE X (.UnaryOp a b p') te)(hr:PA X es t):PA X (.UnaryOp a b p'::es) (x4 te t):=xk ha hr rfl
theorem Yy {a b p'}(ha:PE X (.Subscript a b p') te)(hr:PA X es t):PA X (.Subscript a b p'::es) (x4 te t):=xk ha hr rfl
def Zu:List Expr→Bool
 |[]=>true
 |.Starred _ _::_=>false
 |_::r=>Zu r
theorem yj {env:Env}:∀ {es:List Expr},Zu es=true→starEach es env=es.map λe=>(false,eval e env)
 |[],_=>rfl
 |e::r,h=>by
  cases e
  case Starred=>cases h
  all_goals exact bH _ (yj (es:=r) h)
theorem yf {pos:Pos}:∀ {l:List (Bool×Sem Ag)},(∀q∈l,q.1=false)→(backTo pos l).all (!·.1)=true∧(backTo pos l).any (·.1)=false:=by
 intro l h
 have key:∀q∈backTo pos l,q.1=false:=by
  intro q hq
  unfold backTo at hq
  obtain ⟨q',hq',rfl⟩:=br.mp hq
  exact h q' hq'
 exact ⟨ck.mpr λq hq=>by rw [key q hq];rfl,List.any_eq_false.mpr λq hq=>by rw [key q hq];decide⟩
theorem wg (he:PE X o ta)(cl:Cls X.K C)(c:MCal X.prog X.w X.K X.mg X.base C m k sp)(hr:Room k X.A)(hx:zg X E)(ha:PA X (e::es) t)(hn:Zu (e::es)=true:=by rfl)(hl:(e::es).length+0<30:=by decide)
  (hb:∀z,attributeBase o m X.env z=z:=by intro _;rfl) (hp:methodCallPos true o X.env apos pos=pure pos:=by rfl):PE X (.Call (.Attribute o m apos) (e::es) [] pos) (Qq C m sp E ta t):=by
 have h1:starEach (e::es) X.env=(false,eval e X.env)::starEach es X.env:=by
  cases e
  case Starred=>cases hn
  all_goals rfl
 have h2:∀q∈starEach (e::es) X.env,q.1=false:=λq hq=>by
  rw [yj hn] at hq
  obtain ⟨z,_,rfl⟩:=br.mp hq
  rfl
 refine qzc he cl c hr hx ha h1 (yf λq hq=>h2 q (by rw [h1];exact aH _ hq)).2 (ht_gen (hb _) ?_ hp)
 unfold methodCallForm
 rw [(yf (pos:=pos) h2).1]
 exact aW hl
theorem wy (c:Cal X.prog X.w X.K X.mg X.base x k sp)(hr:Room k X.A)(hg:Gl X x)(hx:zg X E)(ha:PA X (e::es) t)(hn:Zu (e::es)=true:=by rfl)(hdb:(x==("__debug__" : Str))=false:=by decide):PE X (.Call (.Name x p) (e::es) [] pos) (Jj sp E t):=by
 have h1:starEach (e::es) X.env=(false,eval e X.env)::starEach es X.env:=by
  cases e
  case Starred=>cases hn
  all_goals rfl
 have h2:∀q∈starEach (e::es) X.env,q.1=false:=λq hq=>by
  rw [yj hn] at hq
  obtain ⟨z,_,rfl⟩:=br.mp hq
  rfl
 exact uh c hr hg hx ha hdb h1 (yf λq hq=>h2 q (by rw [h1];exact aH _ hq)).2
end
end L2
namespace My
open PySem L2
def top (i:Nat):Stmt:=PySem.Challenge.pw_crookroad_k62_two_refusals_due.main.body.getD i (.Pass ⟨0,0,0,0⟩)
abbrev s_check_count:Stmt:=top 15
theorem Qn:FnScope ["number","fewest","most"] ["number","fewest","most"] (wq s_check_count):=⟨rfl,rfl,rfl,by decide +kernel,rfl,by decide +kernel,by decide +kernel⟩
theorem Qv:jx "check_count" s_check_count ["number","fewest","most"] []:=λ_ _ _ _ _ _ _ us hl=>match us,hl with | [_,_,_],_=>exI rfl rfl
theorem Q0:jx "check_count" s_check_count ["number","fewest","most"] [.none]:=λ_ _ _ _ _ _ _ us hl=>by
 have h2:us.length=2:=by simpa using hl
 match us,h2 with
 |[_,_],_=>exact exI rfl rfl
abbrev s_walked:Stmt:=top 20
theorem qxd:FnScope ["road","point","many","here","points"] ["road","point","many"] (wq s_walked):=⟨rfl,rfl,rfl,by decide +kernel,rfl,by decide +kernel,by decide +kernel⟩
theorem qw3:xg "walked" s_walked ["road","point","many"]:=λ_ _ _ _ _ _ us hl=>match us,hl with | [_,_,_],_=>rfl
abbrev s_far:Stmt:=top 23
theorem sc_far:FnScope ["road","point","many","here","points","turn"] ["road","point","many"] (wq s_far):=⟨rfl,rfl,rfl,by decide +kernel,rfl,by decide +kernel,by decide +kernel⟩
theorem bd_far:xg "far" s_far ["road","point","many"]:=λ_ _ _ _ _ _ us hl=>match us,hl with | [_,_,_],_=>rfl
abbrev s_stands:Stmt:=top 25
theorem qws:FnScope ["road","point","many","other","here","sought","points","turn"] ["road","point","many","other"] (wq s_stands):=⟨rfl,rfl,rfl,by decide +kernel,rfl,by decide +kernel,by decide +kernel⟩
theorem qwd:xg "stands" s_stands ["road","point","many","other"]:=λ_ _ _ _ _ _ us hl=>match us,hl with | [_,_,_,_],_=>rfl
abbrev s_meeting:Stmt:=top 26
theorem Jw:FnScope ["road","one","other","here","there","points","turn","others","other_turn","many"] ["road","one","other"] (wq s_meeting):=⟨rfl,rfl,rfl,by decide +kernel,rfl,by decide +kernel,by decide +kernel⟩
theorem Jg:xg "meeting" s_meeting ["road","one","other"]:=λ_ _ _ _ _ _ us hl=>match us,hl with | [_,_,_],_=>rfl
abbrev s_check_bottom:Stmt:=top 29
theorem yt:FnScope ["bottom"] ["bottom"] (wq s_check_bottom):=⟨rfl,rfl,rfl,by decide +kernel,rfl,by decide +kernel,by decide +kernel⟩
theorem y3:xg "check_bottom" s_check_bottom ["bottom"]:=λ_ _ _ _ _ _ us hl=>match us,hl with | [_],_=>rfl
abbrev s_common_divisor:Stmt:=top 30
theorem jj:FnScope ["one","other"] ["one","other"] (wq s_common_divisor):=⟨rfl,rfl,rfl,by decide +kernel,rfl,by decide +kernel,by decide +kernel⟩
theorem jv:xg "common_divisor" s_common_divisor ["one","other"]:=λ_ _ _ _ _ _ us hl=>match us,hl with | [_,_],_=>rfl
abbrev s_lowest:Stmt:=top 31
theorem qw4:FnScope ["top","bottom","divisor"] ["top","bottom"] (wq s_lowest):=⟨rfl,rfl,rfl,by decide +kernel,rfl,by decide +kernel,by decide +kernel⟩
theorem qw8:xg "lowest" s_lowest ["top","bottom"]:=λ_ _ _ _ _ _ us hl=>match us,hl with | [_,_],_=>rfl
abbrev s_is_line:Stmt:=top 35
theorem Jn:FnScope ["heights","width"] ["heights"] (wq s_is_line):=⟨rfl,rfl,rfl,by decide +kernel,rfl,by decide +kernel,by decide +kernel⟩
theorem Jh:xg "is_line" s_is_line ["heights"]:=λ_ _ _ _ _ _ us hl=>match us,hl with | [_],_=>rfl
abbrev s_Road___init__:Stmt:=xc (top 36) 0
theorem yq:FnScope ["self","heights"] ["self","heights"] (wq s_Road___init__):=⟨rfl,rfl,rfl,by decide +kernel,rfl,by decide +kernel,by decide +kernel⟩
theorem yy:xy "__init__" "Road.__init__" s_Road___init__ ["self","heights"]:=λ_ _ _ _ _ _ us hl=>match us,hl with | [_,_],_=>rfl
abbrev s_Road_width:Stmt:=xc (top 36) 1
theorem Ww:FnScope ["self"] ["self"] (wq s_Road_width):=⟨rfl,rfl,rfl,by decide +kernel,rfl,by decide +kernel,by decide +kernel⟩
theorem Wj:xy "width" "Road.width" s_Road_width ["self"]:=λ_ _ _ _ _ _ us hl=>match us,hl with | [_],_=>rfl
abbrev s_Road_corners:Stmt:=xc (top 36) 2
theorem y1:FnScope ["self"] ["self"] (wq s_Road_corners):=⟨rfl,rfl,rfl,by decide +kernel,rfl,by decide +kernel,by decide +kernel⟩
theorem y7:xy "corners" "Road.corners" s_Road_corners ["self"]:=λ_ _ _ _ _ _ us hl=>match us,hl with | [_],_=>rfl
abbrev s_Road_on_road:Stmt:=xc (top 36) 6
theorem y0:FnScope ["self","point","top","bottom"] ["self","point"] (wq s_Road_on_road):=⟨rfl,rfl,rfl,by decide +kernel,rfl,by decide +kernel,by decide +kernel⟩
theorem y4:xy "on_road" "Road.on_road" s_Road_on_road ["self","point"]:=λ_ _ _ _ _ _ us hl=>match us,hl with | [_,_],_=>rfl
abbrev s_lengths:Stmt:=top 54
theorem qqd:FnScope ["road","most"] ["road","most"] (wq s_lengths):=⟨rfl,rfl,rfl,by decide +kernel,rfl,by decide +kernel,by decide +kernel⟩
theorem qqz:xg "lengths" s_lengths ["road","most"]:=λ_ _ _ _ _ _ us hl=>match us,hl with | [_,_],_=>rfl
abbrev s_Walker___init__:Stmt:=xc (top 56) 0
theorem kd:FnScope ["self","whose","point","times"] ["self","whose","point","times"] (wq s_Walker___init__):=⟨rfl,rfl,rfl,by decide +kernel,rfl,by decide +kernel,by decide +kernel⟩
theorem k4:xy "__init__" "Walker.__init__" s_Walker___init__ ["self","whose","point","times"]:=λ_ _ _ _ _ _ us hl=>match us,hl with | [_,_,_,_],_=>rfl
abbrev s_set_down:Stmt:=top 57
theorem Y5:FnScope ["whose","point"] ["whose","point"] (wq s_set_down):=⟨rfl,rfl,rfl,by decide +kernel,rfl,by decide +kernel,by decide +kernel⟩
theorem Ym:xg "set_down" s_set_down ["whose","point"]:=λ_ _ _ _ _ _ us hl=>match us,hl with | [_,_],_=>rfl
abbrev s_is_name:Stmt:=top 62
theorem Jd:FnScope ["name"] ["name"] (wq s_is_name):=⟨rfl,rfl,rfl,by decide +kernel,rfl,by decide +kernel,by decide +kernel⟩
theorem Js:xg "is_name" s_is_name ["name"]:=λ_ _ _ _ _ _ us hl=>match us,hl with | [_],_=>rfl
abbrev s_check_new_name:Stmt:=top 63
theorem j4:FnScope ["name","things"] ["name","things"] (wq s_check_new_name):=⟨rfl,rfl,rfl,by decide +kernel,rfl,by decide +kernel,by decide +kernel⟩
theorem jr:xg "check_new_name" s_check_new_name ["name","things"]:=λ_ _ _ _ _ _ us hl=>match us,hl with | [_,_],_=>rfl
abbrev s_exchange:Stmt:=top 64
theorem Y6:FnScope ["things","changes","before","name","thing"] ["things","changes"] (wq s_exchange):=⟨rfl,rfl,rfl,by decide +kernel,rfl,by decide +kernel,by decide +kernel⟩
theorem Yg:xg "exchange" s_exchange ["things","changes"]:=λ_ _ _ _ _ _ us hl=>match us,hl with | [_,_],_=>rfl
abbrev s_House___init__:Stmt:=xc (top 65) 0
theorem js:FnScope ["self"] ["self"] (wq s_House___init__):=⟨rfl,rfl,rfl,by decide +kernel,rfl,by decide +kernel,by decide +kernel⟩
theorem jt:xy "__init__" "House.__init__" s_House___init__ ["self"]:=λ_ _ _ _ _ _ us hl=>match us,hl with | [_],_=>rfl
abbrev s_House_road_called:Stmt:=xc (top 65) 1
theorem vc:FnScope ["self","name"] ["self","name"] (wq s_House_road_called):=⟨rfl,rfl,rfl,by decide +kernel,rfl,by decide +kernel,by decide +kernel⟩
theorem vu:xy "road_called" "House.road_called" s_House_road_called ["self","name"]:=λ_ _ _ _ _ _ us hl=>match us,hl with | [_,_],_=>rfl
abbrev s_House_walker_called:Stmt:=xc (top 65) 2
theorem vw:FnScope ["self","name"] ["self","name"] (wq s_House_walker_called):=⟨rfl,rfl,rfl,by decide +kernel,rfl,by decide +kernel,by decide +kernel⟩
theorem vz:xy "walker_called" "House.walker_called" s_House_walker_called ["self","name"]:=λ_ _ _ _ _ _ us hl=>match us,hl with | [_,_],_=>rfl
abbrev s_House_do:Stmt:=xc (top 65) 4
theorem Yf:FnScope ["self","roads","walkers"] ["self","roads","walkers"] (wq s_House_do):=⟨rfl,rfl,rfl,by decide +kernel,rfl,by decide +kernel,by decide +kernel⟩
theorem Yv:xy "do" "House.do" s_House_do ["self","roads","walkers"]:=λ_ _ _ _ _ _ us hl=>match us,hl with | [_,_,_],_=>rfl
abbrev s_House_lay:Stmt:=xc (top 65) 5
theorem Zt:FnScope ["self","name","heights"] ["self","name","heights"] (wq s_House_lay):=⟨rfl,rfl,rfl,by decide +kernel,rfl,by decide +kernel,by decide +kernel⟩
theorem Z3:xy "lay" "House.lay" s_House_lay ["self","name","heights"]:=λ_ _ _ _ _ _ us hl=>match us,hl with | [_,_,_],_=>rfl
abbrev s_House_bend:Stmt:=xc (top 65) 6
theorem Q9:FnScope ["self","name","corner","height","heights"] ["self","name","corner","height"] (wq s_House_bend):=⟨rfl,rfl,rfl,by decide +kernel,rfl,by decide +kernel,by decide +kernel⟩
theorem Q7:xy "bend" "House.bend" s_House_bend ["self","name","corner","height"]:=λ_ _ _ _ _ _ us hl=>match us,hl with | [_,_,_,_],_=>rfl
abbrev s_House_place:Stmt:=xc (top 65) 10
theorem Qk:FnScope ["self","name","whose","point","road","here"] ["self","name","whose","point"] (wq s_House_place):=⟨rfl,rfl,rfl,by decide +kernel,rfl,by decide +kernel,by decide +kernel⟩
theorem uv:xy "place" "House.place" s_House_place ["self","name","whose","point"]:=λ_ _ _ _ _ _ us hl=>match us,hl with | [_,_,_,_],_=>rfl
abbrev s_House_go:Stmt:=xc (top 65) 12
theorem Z8:FnScope ["self","name","many","walker","gone"] ["self","name","many"] (wq s_House_go):=⟨rfl,rfl,rfl,by decide +kernel,rfl,by decide +kernel,by decide +kernel⟩
theorem Y0:xy "go" "House.go" s_House_go ["self","name","many"]:=λ_ _ _ _ _ _ us hl=>match us,hl with | [_,_,_],_=>rfl
abbrev s_House_together:Stmt:=xc (top 65) 13
theorem jp:FnScope ["self","whose","many","road","gone"] ["self","whose","many"] (wq s_House_together):=⟨rfl,rfl,rfl,by decide +kernel,rfl,by decide +kernel,by decide +kernel⟩
theorem jk:xy "together" "House.together" s_House_together ["self","whose","many"]:=λ_ _ _ _ _ _ us hl=>match us,hl with | [_,_,_],_=>rfl
abbrev s_House_deeds:Stmt:=xc (top 65) 16
theorem Qt:FnScope ["self"] ["self"] (wq s_House_deeds):=⟨rfl,rfl,rfl,by decide +kernel,rfl,by decide +kernel,by decide +kernel⟩
theorem Qz:xy "deeds" "House.deeds" s_House_deeds ["self"]:=λ_ _ _ _ _ _ us hl=>match us,hl with | [_],_=>rfl
abbrev s_House_stood:Stmt:=xc (top 65) 20
theorem Qg:FnScope ["self","name","point","walker"] ["self","name","point"] (wq s_House_stood):=⟨rfl,rfl,rfl,by decide +kernel,rfl,by decide +kernel,by decide +kernel⟩
theorem Qr:xy "stood" "House.stood" s_House_stood ["self","name","point"]:=λ_ _ _ _ _ _ us hl=>match us,hl with | [_,_,_],_=>rfl
abbrev s_House_meet:Stmt:=xc (top 65) 21
theorem Wv:FnScope ["self","one","other","here","there"] ["self","one","other"] (wq s_House_meet):=⟨rfl,rfl,rfl,by decide +kernel,rfl,by decide +kernel,by decide +kernel⟩
theorem Wk:xy "meet" "House.meet" s_House_meet ["self","one","other"]:=λ_ _ _ _ _ _ us hl=>match us,hl with | [_,_,_],_=>rfl
abbrev s_House_lengths_of:Stmt:=xc (top 65) 22
theorem v5:FnScope ["self","name","most"] ["self","name","most"] (wq s_House_lengths_of):=⟨rfl,rfl,rfl,by decide +kernel,rfl,by decide +kernel,by decide +kernel⟩
theorem v8:xy "lengths_of" "House.lengths_of" s_House_lengths_of ["self","name","most"]:=λ_ _ _ _ _ _ us hl=>match us,hl with | [_,_,_],_=>rfl
abbrev s__law_cell:Stmt:=top 67
theorem Zv:FnScope ["_law_script","_law_at"] ["_law_script","_law_at"] (wq s__law_cell):=⟨rfl,rfl,rfl,by decide +kernel,rfl,by decide +kernel,by decide +kernel⟩
theorem Zp:xg "_law_cell" s__law_cell ["_law_script","_law_at"]:=λ_ _ _ _ _ _ us hl=>match us,hl with | [_,_],_=>rfl
abbrev s__law_pick:Stmt:=top 68
theorem Z0:FnScope ["_law_script","_law_at","_law_turn","_law_many","_law_cell_here","_law_left","_law_k","_law_low","_law_one","_law_two"] ["_law_script","_law_at","_law_turn","_law_many"] (wq s__law_pick):=⟨rfl,rfl,rfl,by decide +kernel,rfl,by decide +kernel,by decide +kernel⟩
theorem Zb:xg "_law_pick" s__law_pick ["_law_script","_law_at","_law_turn","_law_many"]:=λ_ _ _ _ _ _ us hl=>match us,hl with | [_,_,_,_],_=>rfl
abbrev s__law_walks:Stmt:=top 69
theorem Q8:FnScope ["_law_door","_law_road","_law_bad","_law_many","_law_long"] ["_law_door","_law_road","_law_bad","_law_many"] (wq s__law_walks):=⟨rfl,rfl,rfl,by decide +kernel,rfl,by decide +kernel,by decide +kernel⟩
theorem Wy:xg "_law_walks" s__law_walks ["_law_door","_law_road","_law_bad","_law_many"]:=λ_ _ _ _ _ _ us hl=>match us,hl with | [_,_,_,_],_=>rfl
abbrev s__law_house_asked:Stmt:=top 70
theorem v6:FnScope ["_law_door","_law_house","_law_bad","_law_many"] ["_law_door","_law_house","_law_bad","_law_many"] (wq s__law_house_asked):=⟨rfl,rfl,rfl,by decide +kernel,rfl,by decide +kernel,by decide +kernel⟩
theorem v9:xg "_law_house_asked" s__law_house_asked ["_law_door","_law_house","_law_bad","_law_many"]:=λ_ _ _ _ _ _ us hl=>match us,hl with | [_,_,_,_],_=>rfl
abbrev s__law_told:Stmt:=top 71
theorem W9:FnScope ["_law_door","_law_road","_law_house","_law_bad","_law_many","_law_told_here"] ["_law_door","_law_road","_law_house","_law_bad","_law_many"] (wq s__law_told):=⟨rfl,rfl,rfl,by decide +kernel,rfl,by decide +kernel,by decide +kernel⟩
theorem Zz:xg "_law_told" s__law_told ["_law_door","_law_road","_law_house","_law_bad","_law_many"]:=λ_ _ _ _ _ _ us hl=>match us,hl with | [_,_,_,_,_],_=>rfl
abbrev s__law_two_points:Stmt:=top 72
theorem k6:FnScope ["_law_road","_law_door","_law_one","_law_other","_law_told_here"] ["_law_road","_law_door","_law_one","_law_other"] (wq s__law_two_points):=⟨rfl,rfl,rfl,by decide +kernel,rfl,by decide +kernel,by decide +kernel⟩
theorem kf:xg "_law_two_points" s__law_two_points ["_law_road","_law_door","_law_one","_law_other"]:=λ_ _ _ _ _ _ us hl=>match us,hl with | [_,_,_,_],_=>rfl
abbrev s__law_first_goes:Stmt:=top 73
theorem ku:FnScope ["_law_road","_law_off","_law_low","_law_door"] ["_law_road","_law_off","_law_low"] (wq s__law_first_goes):=⟨rfl,rfl,rfl,by decide +kernel,rfl,by decide +kernel,by decide +kernel⟩
theorem k7:xg "_law_first_goes" s__law_first_goes ["_law_road","_law_off","_law_low"]:=λ_ _ _ _ _ _ us hl=>match us,hl with | [_,_,_],_=>rfl
abbrev s_law:Stmt:=top 74
theorem qqf:FnScope ["_law_script","_law_wide","_law_road","_law_bottom","_law_bad","_law_many","_law_off","_law_house","_law_due","_law_door"] ["_law_script"] (wq s_law):=⟨rfl,rfl,rfl,by decide +kernel,rfl,by decide +kernel,by decide +kernel⟩
local macro_rules | `(tactic| walk_at "sq")=>`(tactic| first | assumption | exact SqT.new | exact SqL.new | ((with_reducible refine Same.sqt (Same.upd (by assumption)) ?_);walk_at "sq") | ((with_reducible refine Same.sql (Same.upd (by assumption)) ?_);walk_at "sq"))
local macro_rules | `(tactic| walk_at "at")=>`(tactic| first | rfl | exact Zh (by lia) (by lia))
local macro_rules | `(tactic| walk_at "mul")=>`(tactic| first | assumption | exact IntMulOk.of_left (intBits_le_64 (by lia) (by lia)) | exact IntMulOk.of_right (intBits_le_64 (by lia) (by lia)) | exact Sm.ok (by assumption) (by assumption) (by decide))
local macro_rules | `(tactic| walk_at "pos")=>`(tactic| first | lia | decide +kernel)
local macro_rules | `(tactic| walk_at "div")=>`(tactic| exact ⟨by first | lia | decide +kernel,by unfold Sm;decide +kernel⟩)
local macro_rules | `(tactic| walk_at "loc")=>`(tactic| first | exact Or.inl rfl | exact Or.inr rfl)
local macro_rules | `(tactic| walk_at "cap")=>`(tactic| repeat (first | exact trivial | refine ⟨rfl,?_⟩))
local macro_rules | `(tactic| walk_at "has")=>`(tactic| repeat (first | exact trivial | (refine ⟨λz=>?_,by decide,?_⟩;(first | exact ⟨_,rfl⟩ | cases z))))
local macro_rules | `(tactic| walk_at "cix")=>`(tactic| repeat (first | exact trivial | refine ⟨⟨_,_,rfl,rfl,rfl,rfl⟩,?_⟩))
local macro_rules | `(tactic| walk_at "hasK")=>`(tactic| repeat (first | exact trivial | (refine ⟨λz=>?_,λz=>?_,?_⟩;(first | exact ⟨_,rfl⟩ | cases z);(first | rfl | cases z))))
structure Txt (K:Aa)(mg:Str→Option Ag)(qf:Aj)(qm:Aj)(qw:Aj)(qz:Aj)(qv:Aj)(qr:Aj)(ww:Aj)(qk:Aj)(qp:Aj)(qj:Aj)(qx:Aj)(wj:Aj)(qy:Aj)(qg:Aj)(qq:Aj):Prop where
 len_:mg "len" = none
 abs_:mg "abs" = none
 range_:mg "range" = none
 list_:mg "list" = none
 min_:mg "min" = none
 max_:mg "max" = none
 all_:mg "all" = none
 sorted_:mg "sorted" = none
 enumerate_:mg "enumerate" = none
 dict_:mg "dict" = none
 g_RoadError:mg "RoadError" = some (.ref qf)
 x_RoadError:ExcC K qf
 g_BadLine:mg "BadLine" = some (.ref qm)
 x_BadLine:ExcC K qm
 g_BadBottom:mg "BadBottom" = some (.ref qw)
 x_BadBottom:ExcC K qw
 g_OffRoad:mg "OffRoad" = some (.ref qz)
 x_OffRoad:ExcC K qz
 g_BadCount:mg "BadCount" = some (.ref qv)
 x_BadCount:ExcC K qv
 g_TooLong:mg "TooLong" = some (.ref qr)
 x_TooLong:ExcC K qr
 g_BadRow:mg "BadRow" = some (.ref ww)
 x_BadRow:ExcC K ww
 g_BadName:mg "BadName" = some (.ref qk)
 x_BadName:ExcC K qk
 g_Taken:mg "Taken" = some (.ref qp)
 x_Taken:ExcC K qp
 g_NoRoad:mg "NoRoad" = some (.ref qj)
 x_NoRoad:ExcC K qj
 g_NoWalker:mg "NoWalker" = some (.ref qx)
 x_NoWalker:ExcC K qx
 g_Apart:mg "Apart" = some (.ref wj)
 x_Apart:ExcC K wj
 cl:Cls K qy
 na:NoAttr K qy "heights"
 g_WIDEST:∃t,mg "WIDEST" = some (.int 24 t)
 g_Road:mg "Road" = some (.ref qy)
 clW:Cls K qg
 clH:Cls K qq
 naWw:NoAttr K qg "whose"
 naWp:NoAttr K qg "point"
 naWt:NoAttr K qg "times"
 naHr:NoAttr K qq "roads"
 naHw:NoAttr K qq "walkers"
 naHd:NoAttr K qq "done"
 g_Walker:mg "Walker" = some (.ref qg)
 g_House:mg "House" = some (.ref qq)
 g_MOST_WALKED:∃t,mg "MOST_WALKED" = some (.int 1000 t)
 g_FARTHEST:∃t,mg "FARTHEST" = some (.int 1000000000000000000000000000000000000000000000000000000000000 t)
 g_LONGEST_NAME:∃t,mg "LONGEST_NAME" = some (.int 12 t)
 g_GREATEST_BOTTOM:∃t,mg "GREATEST_BOTTOM" = some (.int 40 t)
 g_LETTERS:∃t,mg "LETTERS" = some (.str "abcdefghijklmnopqrstuvwxyz" t)
 m_BadBottom_BadBottom:PySem.W.mroIn K qw (.ref qw)=some true
 m_BadBottom_OffRoad:PySem.W.mroIn K qw (.ref qz)=some false
 m_OffRoad_BadBottom:PySem.W.mroIn K qz (.ref qw)=some false
 m_OffRoad_OffRoad:PySem.W.mroIn K qz (.ref qz)=some true
 m_BadCount_BadBottom:PySem.W.mroIn K qv (.ref qw)=some false
 m_BadCount_OffRoad:PySem.W.mroIn K qv (.ref qz)=some false
 m_BadCount_BadCount:PySem.W.mroIn K qv (.ref qv)=some true
 m_NoRoad_BadBottom:PySem.W.mroIn K qj (.ref qw)=some false
 m_NoRoad_OffRoad:PySem.W.mroIn K qj (.ref qz)=some false
 m_NoRoad_BadCount:PySem.W.mroIn K qj (.ref qv)=some false
 m_NoRoad_TooLong:PySem.W.mroIn K qj (.ref qr)=some false
 m_NoRoad_NoRoad:PySem.W.mroIn K qj (.ref qj)=some true
 m_NoRoad_NoWalker:PySem.W.mroIn K qj (.ref qx)=some false
 m_NoWalker_BadBottom:PySem.W.mroIn K qx (.ref qw)=some false
 m_NoWalker_OffRoad:PySem.W.mroIn K qx (.ref qz)=some false
 m_NoWalker_BadCount:PySem.W.mroIn K qx (.ref qv)=some false
 m_NoWalker_TooLong:PySem.W.mroIn K qx (.ref qr)=some false
 m_NoWalker_NoRoad:PySem.W.mroIn K qx (.ref qj)=some false
 m_NoWalker_NoWalker:PySem.W.mroIn K qx (.ref qx)=some true
 m_BadName_BadBottom:PySem.W.mroIn K qk (.ref qw)=some false
 m_BadName_OffRoad:PySem.W.mroIn K qk (.ref qz)=some false
 m_BadName_BadCount:PySem.W.mroIn K qk (.ref qv)=some false
 m_BadName_TooLong:PySem.W.mroIn K qk (.ref qr)=some false
 m_BadName_NoRoad:PySem.W.mroIn K qk (.ref qj)=some false
 m_BadName_NoWalker:PySem.W.mroIn K qk (.ref qx)=some false
 m_BadName_BadName:PySem.W.mroIn K qk (.ref qk)=some true
 m_Taken_BadBottom:PySem.W.mroIn K qp (.ref qw)=some false
 m_Taken_OffRoad:PySem.W.mroIn K qp (.ref qz)=some false
 m_Taken_BadCount:PySem.W.mroIn K qp (.ref qv)=some false
 m_Taken_TooLong:PySem.W.mroIn K qp (.ref qr)=some false
 m_Taken_NoRoad:PySem.W.mroIn K qp (.ref qj)=some false
 m_Taken_NoWalker:PySem.W.mroIn K qp (.ref qx)=some false
 m_Taken_BadName:PySem.W.mroIn K qp (.ref qk)=some false
 m_Taken_Taken:PySem.W.mroIn K qp (.ref qp)=some true
section
variable {P:Ac}{w:Ah}{K:Aa}{mg:Str→Option Ag}{base:Heap}{qf:Aj}{qm:Aj}{qw:Aj}{qz:Aj}{qv:Aj}{qr:Aj}{ww:Aj}{qk:Aj}{qp:Aj}{qj:Aj}{qx:Aj}{wj:Aj}{qy:Aj}{qg:Aj}{qq:Aj}
def Zd (C:Aj):Sp:=λvs H Q E=>∃b:Int,vs=[.int b]∧(1≤b→Q .non H)∧(b<1→E (.ref C) none H)
theorem qz2 {f:Aj}{fd:Ad}(F:Fun K "check_bottom" "check_bottom" s_check_bottom f fd)(T:Txt K mg qf qm qw qz qv qr ww qk qp qj qx wj qy qg qq):FnOk P w K mg base (CXE P w) 1 f fd ["bottom"] (Zd qw):=by
 have sc:=yt
 refine F.okX sc (λvs H Q E h=>by obtain ⟨b,rfl,_⟩:=h;rfl) (λcdv A outer s H vs Q E hr h=>?_)
 obtain ⟨b,rfl,h1,h2⟩:=h
 refine ⟨_,(qh (w9 (wu Qj (pv 0) qu (wm _)) (qh (zj rfl T.x_BadBottom xm rfl T.g_BadBottom (wv wn qc))) wc)),?_⟩
 refine exI rfl (w4 rfl rfl (exI rfl ?_))
 refine vb (λq1=>?_) (λq1=>?_)
 ·exact ⟨by decide,h2 q1⟩
 ·exact h1 (by lia)
theorem qv1 {f:Aj}{fd:Ad}(F:Fun K "_law_cell" "_law_cell" s__law_cell f fd)(T:Txt K mg qf qm qw qz qv qr ww qk qp qj qx wj qy qg qq):FnOk P w K mg base (CXE P w) 1 f fd ["_law_script","_law_at"] (Jq K):=by
 have sc:=Zv
 refine F.okX sc (λvs H Q E h=>by obtain ⟨a,ns,i,rfl,_⟩:=h;rfl) (λcdv A outer s H vs Q E hr h=>?_)
 obtain ⟨a,ns,i,rfl,hS,h0,k⟩:=h
 have hlen:(ns.map V.int).length=ns.length:=aj _
 refine ⟨_,(qd (w9 (wu Qj (pv 1) (xf zq rfl T.len_ aX (q8 (pv 0) qc)) (wm _)) (qh (xv (j0 Z6 (pv 0) (pv 1) (λ_ _=>rfl)))) wc)
   (qd (w9 (wu xp (xf zq rfl T.len_ aX (q8 (pv 0) qc)) qu (wm _)) (qh (xv (wr xh (wr x8 qu (pv 1)) qu))) wc)
   (qh (xv (wr xh (j0 Z6 (pv 0) (wr vj (pv 1) (xf zq rfl T.len_ aX (q8 (pv 0) qc))) (λ_ _=>rfl)) (wr x8 qu (pv 1))))))),?_⟩
 refine exI rfl (exI rfl ⟨_,_,rfl,.inl hS,w4 rfl rfl (exI rfl ?_)⟩)
 refine vb (λq1=>?_) (λq1=>?_)
 ·rw [hlen] at q1
  refine exI rfl (exI rfl (exX rfl rfl hS (Zh h0 q1) ?_))
  exact k _ (by rw [Y4,aF q1])
 ·rw [hlen] at q1
  refine exI rfl ⟨_,_,rfl,.inl hS,rfl,_,rfl,?_⟩
  rw [hlen]
  refine zw (λq2=>?_) (λq2=>?_)
  ·refine exI rfl (w4 rfl rfl ⟨(by walk_at "mul"),w4 rfl rfl ?_⟩)
   exact k _ (by rw [Y4,ax q1,aF q2])
  ·refine exI rfl (exI rfl (exI rfl ⟨_,_,rfl,.inl hS,w4 rfl rfl ⟨(by rw [hlen];lia),?_⟩⟩))
   rw [hlen]
   refine exX rfl rfl hS (Zh (ba _ q2) (aO _ (by lia))) (exI rfl (w4 rfl rfl ⟨(by walk_at "mul"),w4 rfl rfl ?_⟩))
   exact k _ (by rw [Y4,ax q1,ax q2])
theorem qkx {f:Aj}{fd:Ad}(F:Fun K "_law_pick" "_law_pick" s__law_pick f fd)(T:Txt K mg qf qm qw qz qv qr ww qk qp qj qx wj qy qg qq)(c__law_cell:Cal P w K mg base "_law_cell" 1 (Jq K)):FnOk P w K mg base (CXE P w) 2 f fd ["_law_script","_law_at","_law_turn","_law_many"] (Y9 K):=by
 have sc:=Z0
 refine F.okX sc (λvs H Q E h=>by obtain ⟨a,ns,i,t,m,rfl,_⟩:=h;rfl) (λcdv A outer s H vs Q E hr h=>?_)
 obtain ⟨a,ns,i,t,m,rfl,hS,h0,t0,t1,m0,k⟩:=h
 refine ⟨_,(qd (wf (i:=4) sc.nd rfl (by walk_at "loc") (wy c__law_cell (hr.mono (by decide)) rfl qb (q8 (pv 0) (q8 (pv 1) qc))))
   (qd (w9 (wu op_ge (xf Qx rfl T.abs_ Q4 (q8 (pv 4) qc)) (wr qz0 qu qu) (wm _)) (qd (wf (i:=5) sc.nd rfl (by walk_at "loc") (xf Qx rfl T.abs_ Q4 (q8 (pv 4) qc)))
   (qd (Z2 bo rfl (v3 rfl T.range_ (q8 (pv 2) qc)) (zh (i:=6) sc.nd rfl (by walk_at "loc")) (qh (wf (i:=5) sc.nd rfl (by walk_at "loc") (wr uu (pv 5) qu))))
   (qd (w9 (wu Qj (pv 4) qu (wm _)) (qh (wf (i:=5) sc.nd rfl (by walk_at "loc") (wr vj (pv 5) qu))) wc)
   (qh (xv (wr vj (pv 5) (pv 3))))))) wc)
   (qd (wf (i:=7) sc.nd rfl (by walk_at "loc") (wr vj (pv 4) qu))
   (qd (wf (i:=8) sc.nd rfl (by walk_at "loc") (wr vj (wr xh (wr xh (wr x8 (pv 7) qu) (wr x8 (pv 2) qu)) qu) qu))
   (qd (wf (i:=9) sc.nd rfl (by walk_at "loc") (wr vj (wr xh (wr xh (wr x8 (pv 8) (pv 8)) (wr x8 (pv 7) qu)) (wr x8 (pv 2) qu)) qu))
   (qh (xv (wr vj (wr vj (wr xh (wr xh (wr x8 (pv 9) (pv 9)) (wr x8 (pv 8) qu)) (wr x8 (pv 2) qu)) qu) (pv 3))))))))),?_⟩
 refine exI rfl (exI rfl ?_)
 refine ⟨a,ns,i,rfl,hS,h0,λc hc=>?_⟩
 have fin:∀v,v=Yp c t%m→Q (.int v) H:=λv hv=>by
  refine k v (by rw [hv,ym,hc]) ?_ ?_
  ·rw [hv];exact ba _ (by lia)
  ·rw [hv];exact aO _ m0
 refine exI rfl (exI rfl (w4 rfl rfl ⟨⟨by decide,by decide,by decide⟩,w4 rfl rfl (exI rfl ?_)⟩))
 refine vb (λq1=>?_) (λq1=>?_)
 ·have q1':10 ^ 18≤vy c:=q1
  refine exI rfl (exI rfl ?_)
  refine exI rfl ⟨t,rfl,(by lia),(by lia),yw (λj σ H1=>H1=H∧∃z,σ=[some (.ref a),some (.int i),some (.int t),some (.int m),some (.int c),some (.int (divs (vy c) j)),z,none,none,none]) ⟨rfl,_,rfl⟩ ?_ ?_⟩
  ·rintro j σ H1 hj ⟨rfl,z,rfl⟩
   exact exI rfl (w4 rfl rfl ⟨(by walk_at "div"),rfl,_,rfl⟩)
  ·rintro σ H1 ⟨rfl,z,rfl⟩
   refine exI rfl (w4 rfl rfl (exI rfl ?_))
   refine vb (λq2=>?_) (λq2=>?_)
   ·refine exI rfl (w4 rfl rfl ⟨(by walk_at "pos"),exI rfl (exI rfl (w4 rfl rfl ⟨(by walk_at "pos"),?_⟩))⟩)
    exact fin _ (by rw [qvk q1' q2])
   ·refine exI rfl (exI rfl (w4 rfl rfl ⟨(by walk_at "pos"),?_⟩))
    exact fin _ (by rw [qw1 q1' q2])
 ·have q1':¬ 10 ^ 18≤vy c:=q1
  have l0:=ba c (show (1000003:Int)≠0 by decide)
  have l1:=aO c (show (0:Int)<1000003 by decide)
  refine exI rfl (w4 rfl rfl ⟨(by walk_at "pos"),exI rfl (w4 rfl rfl ⟨(by walk_at "mul"),exI rfl (w4 rfl rfl ⟨(by walk_at "mul"),w4 rfl rfl (w4 rfl rfl (w4 rfl rfl ⟨(by walk_at "pos"),?_⟩))⟩)⟩)⟩)
  have o0:0≤Zy c t:=ba _ (by decide)
  have o1:Zy c t<999983:=aO _ (by decide)
  refine ⟨V.int (Zy c t),rfl,V.int (Zy c t),rfl,w4 rfl rfl ⟨(by walk_at "mul"),exI rfl (w4 rfl rfl ⟨(by walk_at "mul"),w4 rfl rfl (exI rfl (w4 rfl rfl ⟨(by walk_at "mul"),w4 rfl rfl (w4 rfl rfl ⟨(by walk_at "pos"),?_⟩)⟩))⟩)⟩⟩
  have w0:0≤Y1 c t:=ba _ (by decide)
  have w1:Y1 c t<1000033:=aO _ (by decide)
  refine ⟨V.int (Y1 c t),rfl,V.int (Y1 c t),rfl,w4 rfl rfl ⟨(by walk_at "mul"),V.int (Zy c t),rfl,w4 rfl rfl ⟨(by walk_at "mul"),w4 rfl rfl (exI rfl (w4 rfl rfl ⟨(by walk_at "mul"),w4 rfl rfl (w4 rfl rfl ⟨(by walk_at "pos"),exI rfl (w4 rfl rfl ⟨(by walk_at "pos"),?_⟩)⟩)⟩))⟩⟩⟩
  exact fin _ (by rw [qvy q1'])
def Within (n f:Int)(m:Option Int):Prop:=f≤n∧∀b,m=some b→n≤b
def uz (C:Aj):Sp:=λvs H Q E=>∃(n f:Int) (m:V) (o:Option Int),vs=[.int n,.int f,m]∧(m=.non∧o=none∨∃b,m=.int b∧o=some b)∧(Within n f o→Q .non H)∧(¬ Within n f o→E (.ref C) none H)
theorem qz8 {f:Aj}{fd:Ad}(F:FunD K "check_count" s_check_count f fd)(T:Txt K mg qf qm qw qz qv qr ww qk qp qj qx wj qy qg qq):FnOk P w K mg base (CXE P w) 1 f fd ["number","fewest","most"] (uz qv):=by
 have sc:=Qn
 refine F.okX sc (λvs H Q E h=>by obtain ⟨n,f,m,o,rfl,_⟩:=h;rfl) (λcdv A outer s H vs Q E hr h=>?_)
 obtain ⟨n,fe,m,o,rfl,hm,k,x⟩:=h
 refine ⟨_,(qh (w9 (PW.pt (qq0 (wu Qj (pv 0) (pv 1) (wm _)) (Z5 (PW.pt (pw_and (wu qkj (pv 2) qx6 (wm _)) (qkm (wu Wb (pv 0) (pv 2) (wm _)))))))) (qh (zj rfl T.x_BadCount xm rfl T.g_BadCount (wv wn qc))) wc)),?_⟩
 refine exI rfl (exI rfl (w4 rfl rfl (exI rfl ?_)))
 refine vb (λq1=>?_) (λq1=>?_)
 ·refine uj ?_
  exact ⟨sz1,x (λz=>by have:=z.1;lia)⟩
 ·rcases hm with ⟨rfl,rfl⟩|⟨b,rfl,rfl⟩
  ·refine exI rfl ⟨rfl,_,rfl,?_⟩
   refine Zn ?_
   exact k ⟨by lia,λb e=>nomatch e⟩
  ·refine exI rfl ⟨rfl,_,rfl,?_⟩
   refine uj ?_
   refine exI rfl (exI rfl (w4 rfl rfl (exI rfl ?_)))
   refine vb (λq2=>?_) (λq2=>?_)
   ·exact ⟨sz1,x (λz=>by have:=z.2 b rfl;lia)⟩
   ·exact k ⟨by lia,λb' e=>by cases e;lia⟩
def xq (ns:List Int):Prop:=2≤ns.length∧ns.length≤25∧∀h∈ns,0≤h∧h≤(ns.length:Int)-1
def uf (K:Aa):Sp:=λvs H Q _=>∃(p:Aj) (ns:List Int),vs=[.ref p]∧SqL K H p (ns.map V.int)∧(xq ns→Q (.bl true) H)∧(¬ xq ns→Q (.bl false) H)
theorem Jp {f:Aj}{fd:Ad}(F:Fun K "is_line" "is_line" s_is_line f fd)(T:Txt K mg qf qm qw qz qv qr ww qk qp qj qx wj qy qg qq):FnOk P w K mg base (CXE P w) 1 f fd ["heights"] (uf K):=by
 have sc:=Jn
 refine F.okX sc (λvs H Q E h=>by obtain ⟨p,ns,rfl,_⟩:=h;rfl) (λcdv A outer s H vs Q E hr h=>?_)
 obtain ⟨p,ns,rfl,hS,k1,k2⟩:=h
 have hlen:(ns.map V.int).length=ns.length:=aj _
 obtain ⟨tw,g_WIDEST⟩:=T.g_WIDEST
 refine ⟨_,(qd (wf (i:=1) sc.nd rfl (by walk_at "loc") (wr Zx (xf zq rfl T.len_ aX (q8 (pv 0) qc)) qu))
   (qd (w9 (PW.pt (qq0 (wu Qj (pv 1) qu (wm _)) (Z5 (wu Wb (pv 1) (vp (v:=V.int 24) rfl g_WIDEST ⟨_,rfl⟩) (wm _))))) (qh (xv uc)) wc)
   (qh (xv (pe_and (y8 op_ge (xf (Wx rfl) rfl T.min_ PyProof.Rows.boot_min (q8 (pv 0) qc)) qu (wm _)) (pe_one (y8 op_le (xf (Wz rfl) rfl T.max_ PyProof.Rows.boot_max (q8 (pv 0) qc)) (pv 1) (wm _)))))))),?_⟩
 refine exI rfl ⟨_,_,rfl,.inl hS,w4 rfl rfl ?_⟩
 refine exI rfl (w4 rfl rfl (exI rfl ?_))
 rw [hlen]
 refine vb (λq1=>?_) (λq1=>?_)
 ·refine uj ?_
  exact k2 (λz=>by have:=z.1;lia)
 ·refine exI rfl (w4 rfl rfl (exI rfl ?_))
  refine vb (λq2=>?_) (λq2=>?_)
  ·exact k2 (λz=>by have:=z.2.1;lia)
  ·refine exI rfl ⟨p,ns,rfl,hS,(by lia),λm hm hle=>(w4 rfl rfl (exI rfl ?_))⟩
   refine vb (λq3=>?_) (λq3=>?_)
   ·refine exI rfl ⟨p,ns,rfl,hS,(by lia),λm2 hm2 hle2=>(exI rfl (w4 rfl rfl ?_))⟩
    show Q (.bl (decide (m2≤(ns.length:Int)-1))) H
    by_cases q4:m2≤(ns.length:Int)-1
    ·rw [aW q4]
     exact k1 ⟨by lia,by lia,λh hh=>by have:=hle h hh;have:=hle2 h hh;lia⟩
    ·rw [aK q4]
     exact k2 (λz=>q4 (z.2.2 m2 hm2).2)
   ·exact k2 (λz=>q3 (z.2.2 m hm).1)
def RoadAt (C:Aj)(H:Hp)(r:Aj)(ns:List Int):Prop:=∃dx q,H r=some (.ins C dx [("heights",.ref q)])∧H q=some (.lst (ns.map V.int))
theorem RoadAt.same {C:Aj}{H H':Hp}{r:Aj}{ns:List Int}(h:RoadAt C H r ns)(s:Same H H'):RoadAt C H' r ns:=by
 obtain ⟨dx,q,h1,h2⟩:=h
 exact ⟨dx,q,s _ _ h1,s _ _ h2⟩
theorem j3 {q:Aj}:([("heights",V.ref q)]:List (Str×V)).lookup ("heights" : Str)=some (.ref q):=by
 rw [ar]
 simp
theorem x6 {q:Aj}{m:Str}(h:¬ m = "heights"):([("heights",V.ref q)]:List (Str×V)).lookup m=none:=by
 rw [ar]
 have:(m==("heights" : Str))=false:=aw.mpr h
 rw [this]
 rfl
def yu (K:Aa)(CB C:Aj):Sp:=λvs H Q E=>∃(r dx p:Aj) (ns:List Int),vs=[.ref r,.ref p]∧H r=some (.ins C dx [])∧SqL K H p (ns.map V.int) ∧
 (xq ns→∀H' q,H q=none→(∀b o,H b=some o→b≠r→H' b=some o)→H' r=some (.ins C dx [("heights",.ref q)])→H' q=some (.lst (ns.map V.int))→Q .non H')∧(¬ xq ns→E (.ref CB) none H)
theorem qkq {f:Aj}{fd:Ad}(F:Fun K "__init__" "Road.__init__" s_Road___init__ f fd)(T:Txt K mg qf qm qw qz qv qr ww qk qp qj qx wj qy qg qq)(c_is_line:Cal P w K mg base "is_line" 1 (uf K)):FnOk P w K mg base (CXE P w) 2 f fd ["self","heights"] (yu K qm qy):=by
 have sc:=yq
 refine F.okX sc (λvs H Q E h=>by obtain ⟨r,dx,p,ns,rfl,_⟩:=h;rfl) (λcdv A outer s H vs Q E hr h=>?_)
 obtain ⟨r,dx,p,ns,rfl,hr0,hS,k,x⟩:=h
 refine ⟨_,(qd (w9 (Jm (Jz (wy c_is_line (hr.mono (by decide)) rfl qb (q8 (pv 1) qc)))) (qh (zj rfl T.x_BadLine xm rfl T.g_BadLine (wv wn qc))) wc)
   (qh (kh (pv 0) (Ws jz rfl T.list_ PyProof.Rows.boot_list (q8 (pv 1) qc)) rfl))),?_⟩
 refine ⟨_,rfl,p,ns,rfl,hS,λok=>(exI rfl ?_),λbad=>(exI rfl ?_)⟩
 ·refine Zn ?_
  refine exI rfl ⟨_,_,rfl,.inl hS,λq nq=>?_⟩
  have hr1:upd H q (.lst (ns.map V.int)) r=some (.ins qy dx []):=by rw [wz (qt hr0 nq)];exact hr0
  refine exI rfl ⟨r,qy,dx,[],rfl,hr1,T.cl,T.na,(by show 0<1000;decide),?_⟩
  refine k ok _ q nq (λb o e n=>?_) q9 ?_
  ·rw [wz n,wz (qt e nq)]
   exact e
  ·rw [wz (qt hr0 nq).symm,q9]
 ·refine uj ?_
  exact ⟨sz1,x bad⟩
def Zm (C:Aj):Sp:=λvs H Q _=>∃(r:Aj) (ns:List Int),vs=[.ref r]∧RoadAt C H r ns∧Q (.int ((ns.length:Int)-1)) H
theorem qvq {f:Aj}{fd:Ad}(F:Fun K "width" "Road.width" s_Road_width f fd)(T:Txt K mg qf qm qw qz qv qr ww qk qp qj qx wj qy qg qq):FnOk P w K mg base (CXE P w) 1 f fd ["self"] (Zm qy):=by
 have sc:=Ww
 refine F.okX sc (λvs H Q E h=>by obtain ⟨r,ns,rfl,_⟩:=h;rfl) (λcdv A outer s H vs Q E hr h=>?_)
 obtain ⟨r,ns,rfl,⟨dx,q,h1,h2⟩,k⟩:=h
 refine ⟨_,(qh (xv (wr Zx (xf zq rfl T.len_ aX (xk (zf (pv 0) rfl) qc)) qu))),?_⟩
 refine exI rfl ⟨r,qy,dx,_,_,rfl,h1,T.cl,T.na,j3,q,exI rfl ⟨.inl (SqL.of h2),w4 rfl rfl ?_⟩⟩
 rw [aj]
 exact k
def j6 (C:Aj):Sp:=λvs H Q _=>∃(r:Aj) (ns:List Int),vs=[.ref r]∧RoadAt C H r ns∧∀p,H p=none→Q (.ref p) (upd H p (.lst (ns.map V.int)))
theorem J0 {f:Aj}{fd:Ad}(F:Fun K "corners" "Road.corners" s_Road_corners f fd)(T:Txt K mg qf qm qw qz qv qr ww qk qp qj qx wj qy qg qq):FnOk P w K mg base (CXE P w) 1 f fd ["self"] (j6 qy):=by
 have sc:=y1
 refine F.okX sc (λvs H Q E h=>by obtain ⟨r,ns,rfl,_⟩:=h;rfl) (λcdv A outer s H vs Q E hr h=>?_)
 obtain ⟨r,ns,rfl,⟨dx,q,h1,h2⟩,k⟩:=h
 refine ⟨_,(qh (xv (Ws jz rfl T.list_ PyProof.Rows.boot_list (xk (zf (pv 0) rfl) qc)))),?_⟩
 exact exI rfl ⟨r,qy,dx,_,_,rfl,h1,T.cl,T.na,j3,q,exI rfl ⟨.inl (SqL.of h2),λp np=>k p np⟩⟩
def qzp:Sp:=λvs H Q _=>∃x y:Int,vs=[.int x,.int y]∧0≤x∧0≤y∧Q (.int (yr x y)) H
theorem qvu {tb:TS}{c:TT}{D:Ends}{H:Hp}{x y:Int}(hx:0≤x)(hy:0≤y)(hc:c=tTest (tOp (rI0 λi j=>.bl (decide (j<i))) (tVar 1) (tC (.int 0))))(hb:tb=tPar 0 1 (x4 (tVar 1) (x4 (tOp (rI (λ_ j=>0<j) λi j=>.int (i%j)) (tVar 0) (tVar 1)) vd)))
  (hD:D.nx [some (.int (yr x y)),some (.int 0)] H):Jx c tb D [some (.int x),some (.int y)] H:=by
 subst hc hb
 refine qx2 (λσ H1=>H1=H∧∃u v:Int,σ=[some (.int u),some (.int v)]∧0≤u∧0≤v∧yr u v=yr x y) (λσ _=>match σ with|[_,some (.int v)]=>v.toNat|_=>0) ⟨rfl,x,y,rfl,hx,hy,rfl⟩ ?_ λσ H Q Q' h ⟨v,e,i,j,e1,e2,k,e3,q⟩=>⟨v,e,i,j,e1,e2,k,e3,h _ _ q⟩
 rintro σ H1 ⟨rfl,u,v,rfl,hu,hv,e⟩
 refine exI rfl (w4 rfl rfl (exI rfl ?_))
 refine vb (λq=>?_) (λq=>?_)
 ·have h1:=ba u (show v≠0 by lia)
  have h2:=aO u q
  refine exI rfl (exI rfl (exI rfl (w4 rfl rfl ⟨q,_,_,rfl,⟨rfl,v,u%v,rfl,hv,h1,?_⟩,?_⟩)))
  ·rw [qwn hu q,e]
  ·show (u%v).toNat<v.toNat
   lia
 ·have z:v=0:=by lia
  subst z
  rw [qxx hu] at e
  subst e
  exact hD
theorem ok_gcd {f:Aj}{fd:Ad}(F:Fun K "common_divisor" "common_divisor" s_common_divisor f fd)(T:Txt K mg qf qm qw qz qv qr ww qk qp qj qx wj qy qg qq):FnOk P w K mg base (CXE P w) 1 f fd ["one","other"] qzp:=by
 have sc:=jj
 refine F.okX sc (λvs H Q E h=>by obtain ⟨x,y,rfl,_⟩:=h;rfl) (λcdv A outer s H vs Q E hr h=>?_)
 obtain ⟨x,y,rfl,hx,hy,k⟩:=h
 refine ⟨_,(qd (qvw bo (wu Wb (pv 1) qu (wm _)) (qh (ps_par (i:=0) (j:=1) rfl sc.nd rfl rfl (by decide) rfl rfl (q8 (pv 1) (ky (wr vj (pv 0) (pv 1)) qc)) rfl)))
   (qh (xv (pv 0)))),?_⟩
 exact qvu hx hy rfl rfl (exI rfl k)
def ptV (p:Int×Int):List V:=[.int p.1,.int p.2]
def jb (C:Aj):Sp:=λvs H Q E=>∃t b:Int,vs=[.int t,.int b]∧(1≤b→Sm 9000 b∧∀p,H p=none→Q (.ref p) (upd H p (.tup (ptV (xj t b)))))∧(b<1→E (.ref C) none H)
theorem qxh {f:Aj}{fd:Ad}(F:Fun K "lowest" "lowest" s_lowest f fd)(T:Txt K mg qf qm qw qz qv qr ww qk qp qj qx wj qy qg qq)(c_check_bottom:Cal P w K mg base "check_bottom" 1 (Zd qw))(c_common_divisor:Cal P w K mg base "common_divisor" 1 qzp) :
  FnOk P w K mg base (CXE P w) 2 f fd ["top","bottom"] (jb qw):=by
 have sc:=qw4
 refine F.okX sc (λvs H Q E h=>by obtain ⟨t,b,rfl,_⟩:=h;rfl) (λcdv A outer s H vs Q E hr h=>?_)
 obtain ⟨t,b,rfl,k,x⟩:=h
 refine ⟨_,(qd (wp (wy c_check_bottom (hr.mono (by decide)) rfl qb (q8 (pv 1) qc)))
   (qd (wf (i:=2) sc.nd rfl (by walk_at "loc") (wy c_common_divisor (hr.mono (by decide)) rfl qb (kj (xf Qx rfl T.abs_ Q4 (q8 (pv 0) qc)) (q8 (pv 1) qc))))
   (qh (xv (zk (ky (wr uu (pv 0) (pv 2)) (ky (wr uu (pv 1) (pv 2)) qc))))))),?_⟩
 refine ⟨_,rfl,b,rfl,λg1=>?_,λg1=>x g1⟩
 obtain ⟨sb,k⟩:=k g1
 have hg:=v2 (t:=t) g1
 have hs:Sm 9000 (gOf t b):=sb.of_le (by have:=gOf_le (t:=t) g1;lia)
 refine exI rfl (exI rfl (exI rfl ⟨vy t,b,rfl,qkh t,(by lia),?_⟩))
 refine exI rfl ⟨V.int (gOf t b),rfl,w4 rfl rfl ⟨⟨by lia,hs⟩,exI rfl ⟨V.int (gOf t b),rfl,w4 rfl rfl ⟨⟨by lia,hs⟩,sz2,λp n=>?_⟩⟩⟩⟩
 exact k p n
def zy (hs:List Int)(t b:Int):Prop:=0≤t∧t≤((hs.length:Int)-1)*b
def zv (K:Aa)(C CB CO:Aj):Sp:=λvs H Q E=>∃(r p:Aj) (hs:List Int) (t b:Int),vs=[.ref r,.ref p]∧RoadAt C H r hs∧xq hs∧SqT K H p [.int t,.int b] ∧
 (1≤b→Sm 8000 b∧(zy hs t b→∀q H',Same H H'→H' q=some (.tup (ptV (xj t b)))→Q (.ref q) H')∧(¬ zy hs t b→∀H',Same H H'→E (.ref CO) none H'))∧(b<1→E (.ref CB) none H)
theorem Jv {f:Aj}{fd:Ad}(F:Fun K "on_road" "Road.on_road" s_Road_on_road f fd)(T:Txt K mg qf qm qw qz qv qr ww qk qp qj qx wj qy qg qq)(c_width:MCal P w K mg base qy "width" 1 (Zm qy))(c_lowest:Cal P w K mg base "lowest" 2 (jb qw)) :
  FnOk P w K mg base (CXE P w) 3 f fd ["self","point"] (zv K qy qw qz):=by
 have sc:=y0
 refine F.okX sc (λvs H Q E h=>by obtain ⟨r,p,hs,t,b,rfl,_⟩:=h;rfl) (λcdv A outer s H vs Q E hr h=>?_)
 obtain ⟨r,p,hs,t,b,rfl,hR,hok,hp,kq,x⟩:=h
 obtain ⟨dx,q,h1,h2⟩:=id hR
 refine ⟨_,(qd (ps_asg (wy c_lowest (hr.mono (by decide)) rfl qb (Yy (j0 j9 (pv 1) qu (λ_ _=>rfl)) (Yy (j0 j9 (pv 1) qu (λ_ _=>rfl)) qc))) (qx1 rfl (jf (zh (i:=2) sc.nd rfl (by walk_at "loc")) (jf (zh (i:=3) sc.nd rfl (by walk_at "loc")) qq3))))
   (qd (w9 (PW.pt (qq0 (wu Qj (pv 2) qu (wm _)) (Z5 (wu Wb (pv 2) (wr x8 (j8 (pv 0) T.cl c_width (hr.mono (by decide)) qb) (pv 3)) (wm _))))) (qh (zj rfl T.x_OffRoad xm rfl T.g_OffRoad (wv wn qc))) wc)
   (qh (xv (zk (q8 (pv 2) (q8 (pv 3) qc))))))),?_⟩
 refine ⟨_,rfl,_,_,_,_,rfl,rfl,hp,rfl,_,rfl,_,_,_,_,rfl,rfl,hp,rfl,t,b,rfl,λhb=>⟨(kq hb).1.mono (by decide),λp1 n1=>?_⟩,λz=>x z⟩
 obtain ⟨sb,k1,k2⟩:=kq hb
 have s1:Same H (upd H p1 (.tup (ptV (xj t b)))):=Same.upd n1
 have hl:=hok.2.1
 refine ⟨p1,exI rfl ⟨SqT.new,rfl,_,_,rfl,_,_,rfl,rfl,?_⟩⟩
 refine exI rfl (w4 rfl rfl (exI rfl ?_))
 refine vb (λq1=>?_) (λq1=>?_)
 ·refine uj ?_
  exact ⟨sz1,k2 (λz=>by have:=(qq6 hb).mp q1;have:=z.1;lia) _ s1⟩
 ·refine exI rfl (exI rfl ⟨r,dx,exI rfl ⟨s1 _ _ h1,x6 (by decide +kernel),r,hs,rfl,hR.same s1,exI rfl (w4 rfl rfl ⟨IntMulOk.of_left (intBits_le_64 (by lia) (by lia)),w4 rfl rfl (exI rfl ?_)⟩)⟩⟩)
  refine vb (λq2=>?_) (λq2=>?_)
  ·exact ⟨sz1,k2 (λz=>by have:=(qzs hb).mp q2;have:=z.2;lia) _ s1⟩
  ·refine exI rfl (exI rfl ⟨sz2,λp2 n2=>?_⟩)
   refine k1 ⟨?_,?_⟩ p2 _ (s1.trans (Same.upd n2)) q9
   ·rcases bM t 0 with z|z
    ·exact absurd ((qq6 hb).mpr z) q1
    ·exact z
   ·rcases bM (((hs.length:Int)-1)*b) t with z|z
    ·exact absurd ((qzs hb).mpr z) q2
    ·exact z
theorem qw0 {H H':Hp}{x dx C:Aj}(nx:H x=none)(nd:H dx=none)(h:∀b o,upd (upd H dx (.own x)) x (.ins C dx []) b=some o→b≠x→H' b=some o):Same H H':=λb o e =>
 h b o (by rw [wz (qt e nx),wz (qt e nd)];exact e) (qt e nx)
theorem v4 {CB C:Aj}{H:Hp}{p x dx:Aj}{hs:List Int}{Pp:Hp→Prop}{E:XK}(f:H p=some (.lst (hs.map V.int)))(nx:H x=none)(nd:H dx=none)(k:xq hs→∀H',Same H H'→RoadAt C H' x hs→Pp H')(bad:¬ xq hs→∀H',Same H H'→E (.ref CB) none H') :
  yu K CB C [.ref x,.ref p] (upd (upd H dx (.own x)) x (.ins C dx [])) (λr H2=>r=.non∧Pp H2) E:=by
 refine ⟨x,dx,p,hs,rfl,q9,SqL.of (by rw [wz (qt f nx),wz (qt f nd)];exact f),λok H4 q nq kp r l=>⟨rfl,k ok H4 (qw0 nx nd kp) ⟨dx,q,r,l⟩⟩,λz=>bad z _ ?_⟩
 exact λb o e=>by rw [wz (qt e nx),wz (qt e nd)];exact e
end
section
variable {P:Ac}{w:Ah}{K:Aa}{mg:Str→Option Ag}{base:Heap}{qf:Aj}{qm:Aj}{qw:Aj}{qz:Aj}{qv:Aj}{qr:Aj}{ww:Aj}{qk:Aj}{qp:Aj}{qj:Aj}{qx:Aj}{wj:Aj}{qy:Aj}{qg:Aj}{qq:Aj}
def qq7 (c:Nat):Bool:=!(Builtin.Str.occurrences (Str.ofString "abcdefghijklmnopqrstuvwxyz") ⟨#[c]⟩ 0 (Str.ofString "abcdefghijklmnopqrstuvwxyz").length 1).isEmpty
def xt (x:Str):Bool:=decide (1≤x.length∧x.length≤12)&&(List.range x.cps.size).all λi=>qq7 (x.cps.getD i 0)
def ut:Sp:=λvs H Q _=>∃x:Str,vs=[.str x]∧x.length≤1000∧∀H',Same H H'→Q (.bl (xt x)) H'
theorem Jk {f:Aj}{fd:Ad}(F:Fun K "is_name" "is_name" s_is_name f fd)(T:Txt K mg qf qm qw qz qv qr ww qk qp qj qx wj qy qg qq):FnOk P w K mg base (CXE P w) 1 f fd ["name"] ut:=by
 have sc:=Jd
 refine F.okX sc (λvs H Q E h=>by obtain ⟨x,rfl,_⟩:=h;rfl) (λcdv A outer s H vs Q E hr h=>?_)
 obtain ⟨x,rfl,hx,k⟩:=h
 obtain ⟨tn,g_LONGEST_NAME⟩:=T.g_LONGEST_NAME
 obtain ⟨tl,g_LETTERS⟩:=T.g_LETTERS
 have big:(1000000:Nat)<sizeLine:=by decide
 refine ⟨_,(qd (w9 (PW.pt (qq0 (wu Qj (xf jm rfl T.len_ aX (q8 (pv 0) qc)) qu (wm _)) (Z5 (wu Wb (xf jm rfl T.len_ aX (q8 (pv 0) qc)) (vp (v:=V.int 12) rfl g_LONGEST_NAME ⟨_,rfl⟩) (wm _))))) (qh (xv uc)) wc)
   (qh (xv (xf (Q6 rfl) rfl T.all_ qzd (xk (qq8 (M:=[]) rfl rfl (by walk_at "cap") (by walk_at "has") (by walk_at "cix") rfl (by decide +kernel) rfl (show List.Nodup (["sign"]:List Str) by decide +kernel) (pi_str (pv 0)) (λ_ _ _ _ _=>(y8 qxq (pv 0) (vp (v:=V.str "abcdefghijklmnopqrstuvwxyz") rfl g_LETTERS ⟨_,rfl⟩) rfl))) qc))))),?_⟩
 refine ⟨_,rfl,x,rfl,by lia,_,_,rfl,rfl,_,rfl,?_⟩
 have no:∀z:¬ (1≤x.length∧x.length≤12),xt x=false:=λz=>by unfold xt;rw [aK z];rfl
 refine vb (λq1=>?_) (λq1=>?_)
 ·refine uj ?_
  have:=k H (Same.refl _)
  rw [no (by lia)] at this
  exact this
 ·refine ⟨_,rfl,x,rfl,by lia,_,_,rfl,rfl,_,rfl,vb (λq2=>?_) (λq2=>?_)⟩
  ·have:=k H (Same.refl _)
   rw [no (by lia)] at this
   exact this
  ·refine exI rfl ⟨x,rfl,qzu (λi=>.bl (qq7 (x.cps.getD i 0))) (by show x.length≤1000000;lia) (λi H' R hi hs hR=>?_) λp np=>?_⟩
   ·exact exI rfl (w4 rfl rfl hR)
   ·have e:xt x=((List.range x.cps.size).map λi=>qq7 (x.cps.getD i 0)).all id:=by
     unfold xt
     rw [aW (show 1≤x.length∧x.length≤12 by lia),List.all_map]
     rfl
    refine ⟨p,(List.range x.cps.size).map λi=>qq7 (x.cps.getD i 0),rfl,?_,?_⟩
    ·rw [List.map_map]
     exact SqL.new
    ·rw [←e]
     exact k _ (Same.upd np)
def v1 (CN CT:Aj):Sp:=λvs H Q E=>∃(x:Str) (d:Aj) (kvs:List (Key×V)),vs=[.str x,.ref d]∧x.length≤1000∧H d=some (.dK kvs) ∧
 (xt x=true→w8 kvs (.inr x)=none→∀H',Same H H'→Q .non H')∧(xt x=false→∀H',Same H H'→E (.ref CN) none H')∧(xt x=true→(w8 kvs (.inr x)).isSome=true→∀H',Same H H'→E (.ref CT) none H')
theorem Yj {f:Aj}{fd:Ad}(F:Fun K "check_new_name" "check_new_name" s_check_new_name f fd)(T:Txt K mg qf qm qw qz qv qr ww qk qp qj qx wj qy qg qq)(c_is_name:Cal P w K mg base "is_name" 1 ut):FnOk P w K mg base (CXE P w) 2 f fd ["name","things"] (v1 qk qp):=by
 have sc:=j4
 refine F.okX sc (λvs H Q E h=>by obtain ⟨x,d,kvs,rfl,_⟩:=h;rfl) (λcdv A outer s H vs Q E hr h=>?_)
 obtain ⟨x,d,kvs,rfl,hx,hd,k,kn,kt⟩:=h
 refine ⟨_,(qd (w9 (Jm (Jz (wy c_is_name (hr.mono (by decide)) rfl qb (q8 (pv 0) qc)))) (qh (zj rfl T.x_BadName xm rfl T.g_BadName (wv wn qc))) wc)
   (qh (w9 (Ju (pc_din (Qc hr) (pv 0) (pv 1))) (qh (zj rfl T.x_Taken xm rfl T.g_Taken (wv wn qc))) wc))),?_⟩
 refine exI rfl ⟨x,rfl,hx,λH1 s1=>(exI rfl ?_)⟩
 have dg:DGet H1 d (.str x) (w8 kvs (.inr x)):=DGet.k (k:=.inr x) (s1 _ _ hd)
 cases hn:xt x with
 |false=>exact uj ⟨sz1,kn hn H1 s1⟩
 |true =>
  refine Zn (exI rfl (exI rfl ⟨d,exI rfl ⟨dg,_,rfl,?_⟩⟩))
  cases hv:w8 kvs (.inr x) with
  |none=>exact Zn (k hn hv H1 s1)
  |some v=>exact uj ⟨sz1,kt hn (by rw [hv];rfl) H1 s1⟩
def J3:Sp:=λvs H Q _=>∃(t c:Aj) (R cs:List (Key×V)),vs=[.ref t,.ref c]∧t≠c∧H t=some (.dK R)∧Rd H c (.dK cs)∧(cs.map (·.1)).Nodup∧R.length≤1000∧cs.length≤1000∧ExOk R cs ∧
 ∀q H',H q=none→H' q=some (.dK (bfK R cs))→H' t=some (.dK (exK R cs))→Rd H' c (.dK cs)→Kb [t,c] H H'→Q (.ref q) H'
theorem qkw {f:Aj}{fd:Ad}(F:Fun K "exchange" "exchange" s_exchange f fd)(T:Txt K mg qf qm qw qz qv qr ww qk qp qj qx wj qy qg qq):FnOk P w K mg base (CXE P w) 1 f fd ["things","changes"] J3:=by
 have sc:=Y6
 refine F.okX sc (λvs H Q E h=>by obtain ⟨t,c,R,cs,rfl,_⟩:=h;rfl) (λcdv A outer s H vs Q E hr h=>?_)
 obtain ⟨t,c,R,cs,rfl,tc,ht,hc,nd,lR,lc,ok,k⟩:=h
 have big:(1000000:Nat)<sizeLine:=by decide
 refine ⟨_,(qd (Ys (i:=2) (M:=[0]) sc.nd rfl (by walk_at "loc") rfl rfl (by walk_at "cap") (by walk_at "has") (by walk_at "cix") rfl (by decide +kernel) rfl (show List.Nodup (["name","things"]:List Str) by decide +kernel) (pi_dk (pv 1)) (λ_ _ _ _ _=>(pv 0)) (λ_ _ _ _ _=>(qx5 (Qc hr) (pv 1) (pv 0) ⟨rfl,rfl,rfl,rfl⟩)))
   (qd (Z2 bo rfl (pi_di (pv 1)) (qx1 rfl (jf (zh (i:=3) sc.nd rfl (by walk_at "loc")) (jf (zh (i:=4) sc.nd rfl (by walk_at "loc")) qq3))) (qh (w9 (wu op_isN (pv 4) qx6 (wm _)) (qh (qkf (pv 0) (pv 3))) (qh (qkg (Qc hr) (pv 0) (pv 3) (pv 4) rfl)))))
   (qh (xv (pv 2))))),?_⟩
 refine exI rfl ⟨c,cs,rfl,hc,λo H1 fz=>?_⟩
 have ht1:H1 t=some (.dK R):=by rw [fz.2 t tc];exact ht
 refine qx4 (λk=>(w8 R k).getD .non) (by lia) nd fz.1 (λk H' RR s' hR=>(exI rfl (exI rfl ⟨t,rfl,.inl ⟨R,.inl (s' _ _ ht1)⟩,exI rfl ⟨_,DGet.k (k:=k) (s' _ _ ht1),hR⟩⟩))) λq nq=>?_
 have nq0:H q=none:=by
  cases e:H q with
  |none=>rfl
  |some ob =>
   by_cases z:q=c
   ·rw [z,fz.1] at nq;cases nq
   ·rw [fz.2 q z,e] at nq;cases nq
 have s2:Same H1 (upd H1 q (.dK (bfK R cs))):=Same.upd nq
 have fq:upd H1 q (.dK (bfK R cs)) q=some (.dK (bfK R cs)):=q9
 have c2:upd H1 q (.dK (bfK R cs)) c=some (.frz o (.dK cs)):=s2 _ _ fz.1
 have t2:upd H1 q (.dK (bfK R cs)) t=some (.dK R):=s2 _ _ ht1
 have tq:t≠q:=qt ht1 nq
 have kb:Kb [t,c] H (upd H1 q (.dK (bfK R cs))):=λb ob nb e=>s2 _ _ (by rw [fz.2 b (λz=>nb (by simp [z]))];exact e)
 have sel:(cs.map λc=>(c.1,(w8 R c.1).getD .non))=bfK R cs:=rfl
 rw [sel]
 generalize upd H1 q (.dK (bfK R cs))=H2 at fq c2 t2 kb
 refine exI rfl ⟨c,cs,rfl,.inr ⟨o,c2⟩,λo' H3 fz3=>?_⟩
 have cq:q≠c:=λz=>by rw [z,c2] at fq;cases fq
 have t3:H3 t=some (.dK R):=by rw [fz3.2 t tc];exact t2
 have q3:H3 q=some (.dK (bfK R cs)):=by rw [fz3.2 q cq];exact fq
 have kb3:Kb [t,c] H H3:=λb ob nb e=>by rw [fz3.2 b (λz=>nb (by simp [z]))];exact kb b ob nb e
 refine for_di (λi σ H'=>(∃z3 z4,σ=[some (.ref t),some (.ref c),some (.ref q),z3,z4])∧H' c=some (.frz o' (.dK cs))∧H' q=some (.dK (bfK R cs))∧H' t=some (.dK (exK R (cs.take i)))∧Kb [t,c] H H') ⟨⟨_,_,rfl⟩,fz3.1,q3,t3,kb3⟩ (λi σ H' hi h=>h.2.1) ?_ ?_
 ·rintro i cc z σ H' ec nz ⟨⟨z3,z4,rfl⟩,a1,a2,a3,a4⟩
  have s4:Same H' (upd H' z (.tup [kV cc.1,cc.2])):=Same.upd nz
  refine ⟨z,exI rfl ⟨SqT.new,rfl,_,_,rfl,_,_,rfl,rfl,?_⟩⟩
  have b1:=s4 _ _ a1
  have b2:=s4 _ _ a2
  have b3:=s4 _ _ a3
  have b4:Kb [t,c] H (upd H' z (.tup [kV cc.1,cc.2])):=λb ob nb e=>s4 _ _ (a4 b ob nb e)
  generalize upd H' z (.tup [kV cc.1,cc.2])=H4 at b1 b2 b3 b4
  have le:=qv4 R (cs.take i)
  have lt:(cs.take i).length≤1000:=by rw [bF];lia
  have et:=qkv R ec
  have tq':t≠q:=tq
  have step:∀R',ex1 (exK R (cs.take i)) cc=R'→(∃z3' z4',[some (V.ref t),some (V.ref c),some (V.ref q),some (kV cc.1),some cc.2]=[some (V.ref t),some (V.ref c),some (V.ref q),z3',z4'])∧upd H4 t (.dK R') c=some (.frz o' (.dK cs))∧upd H4 t (.dK R') q=some (.dK (bfK R cs))∧upd H4 t (.dK R') t=some (.dK (exK R (cs.take (i+1))))∧Kb [t,c] H (upd H4 t (.dK R')):=λR' e=>by
   refine ⟨⟨_,_,rfl⟩,?_,?_,?_,λb ob nb e'=>?_⟩
   ·rw [wz (aL tc)];exact b1
   ·rw [wz (aL tq')];exact b2
   ·rw [q9,et,e]
   ·rw [wz (λz=>nb (by simp [z]))];exact b4 b ob nb e'
  refine exI rfl ⟨rfl,_,rfl,vb (λhn=>?_) (λhn=>?_)⟩
  ·exact exI rfl (exI rfl ⟨t,_,cc.1,rfl,b3,rfl,ok i cc ec hn,step _ (by unfold ex1;rw [aF hn])⟩)
  ·exact exI rfl (exI rfl (exI rfl ⟨t,exI rfl ⟨DPut.k (k:=cc.1) b3 (by lia),step _ (by unfold ex1;rw [ax hn])⟩⟩))
 ·rintro σ H' ⟨⟨z3,z4,rfl⟩,a1,a2,a3,a4⟩
  rw [List.take_length] at a3
  exact exI rfl (k q H' nq0 a2 a3 (.inr ⟨o',a1⟩) a4)
def hF (dr dw dd:Aj):List (Str×V):=[("roads",.ref dr),("walkers",.ref dw),("done",.ref dd)]
theorem z9 {dr dw dd:Aj}:(hF dr dw dd).lookup ("roads" : Str)=some (.ref dr):=by unfold hF;rw [ar];simp
theorem zn {dr dw dd:Aj}:(hF dr dw dd).lookup ("walkers" : Str)=some (.ref dw):=by
 unfold hF
 rw [ar,show (("walkers" : Str)==("roads" : Str))=false by decide +kernel]
 dsimp only
 rw [ar]
 simp
theorem W6 {dr dw dd:Aj}:(hF dr dw dd).lookup ("done" : Str)=some (.ref dd):=by
 unfold hF
 rw [ar,show (("done" : Str)==("roads" : Str))=false by decide +kernel]
 dsimp only
 rw [ar,show (("done" : Str)==("walkers" : Str))=false by decide +kernel]
 dsimp only
 rw [ar]
 simp
theorem wt {dr dw dd:Aj}{m:Str}(h1:¬ m = "roads")(h2:¬ m = "walkers")(h3:¬ m = "done"):(hF dr dw dd).lookup m=none:=by
 unfold hF
 rw [ar,aw.mpr h1]
 dsimp only
 rw [ar,aw.mpr h2]
 dsimp only
 rw [ar,aw.mpr h3]
 rfl
structure Hse (C:Aj)(H:Hp)(x dr dw dd:Aj)(R W:List (Key×V))(D:List V):Prop where
 ob:∃dx,H x=some (.ins C dx (hF dr dw dd))
 r:H dr=some (.dK R)
 w:H dw=some (.dK W)
 d:H dd=some (.lst D)
 ne:dr≠dw
theorem Hse.kb {C:Aj}{H H':Hp}{x dr dw dd:Aj}{R W:List (Key×V)}{D:List V}(h:Hse C H x dr dw dd R W D){ch:List Aj}(k:Kb ch H H')(n:x∉ch∧dr∉ch∧dw∉ch∧dd∉ch):Hse C H' x dr dw dd R W D:=by
 obtain ⟨dx,e⟩:=h.ob
 exact ⟨⟨dx,k _ _ n.1 e⟩,k _ _ n.2.1 h.r,k _ _ n.2.2.1 h.w,k _ _ n.2.2.2 h.d,h.ne⟩
theorem Hse.same {C:Aj}{H H':Hp}{x dr dw dd:Aj}{R W:List (Key×V)}{D:List V}(h:Hse C H x dr dw dd R W D)(s:Same H H'):Hse C H' x dr dw dd R W D:=h.kb (ch:=[]) (Kb.of s) ⟨au,au,au,au⟩
def uw (C:Aj):Sp:=λvs H Q _=>∃x dx,vs=[.ref x]∧H x=some (.ins C dx [])∧∀H' dr dw dd,H dr=none→H dw=none→H dd=none→Hse C H' x dr dw dd [] [] []→Kb [x] H H'→Q .non H'
theorem qx0 {f:Aj}{fd:Ad}(F:Fun K "__init__" "House.__init__" s_House___init__ f fd)(T:Txt K mg qf qm qw qz qv qr ww qk qp qj qx wj qy qg qq):FnOk P w K mg base (CXE P w) 1 f fd ["self"] (uw qq):=by
 have sc:=js
 refine F.okX sc (λvs H Q E h=>by obtain ⟨x,dx,rfl,_⟩:=h;rfl) (λcdv A outer s H vs Q E hr h=>?_)
 obtain ⟨x,dx,rfl,hx,k⟩:=h
 refine ⟨_,(qd (kh (pv 0) jw rfl)
   (qd (kh (pv 0) jw rfl)
   (qh (kh (pv 0) (z8 qc) rfl)))),?_⟩
 refine λdr n1=>exI rfl ⟨x,qq,dx,[],rfl,(by rw [wz (qt hx n1)];exact hx),T.clH,T.naHr,(by show 0<1000;decide),?_⟩
 have e1:∀b o,b≠x→H b=some o→upd (upd H dr (.dK [])) x (.ins qq dx (x9 "roads" (.ref dr) [])) b=some o:=λb o nb e=>by rw [wz nb,wz (qt e n1)];exact e
 have x1:upd (upd H dr (.dK [])) x (.ins qq dx (x9 "roads" (.ref dr) [])) x=some (.ins qq dx (x9 "roads" (.ref dr) [])):=q9
 have r1:upd (upd H dr (.dK [])) x (.ins qq dx (x9 "roads" (.ref dr) [])) dr=some (.dK []):=by rw [wz (qt hx n1).symm,q9]
 generalize upd (upd H dr (.dK [])) x (.ins qq dx (x9 "roads" (.ref dr) []))=H1 at e1 x1 r1
 refine λdw n2=>exI rfl ⟨x,qq,dx,exI rfl ⟨(by rw [wz (qt x1 n2)];exact x1),T.clH,T.naHw,(by show 1<1000;decide),?_⟩⟩
 have xr:x≠dr:=qt hx n1
 have e2:∀b o,b≠x→H1 b=some o→upd (upd H1 dw (.dK [])) x (.ins qq dx (x9 "walkers" (.ref dw) (x9 "roads" (.ref dr) []))) b=some o:=λb o nb e=>by rw [wz nb,wz (qt e n2)];exact e
 have x2:upd (upd H1 dw (.dK [])) x (.ins qq dx (x9 "walkers" (.ref dw) (x9 "roads" (.ref dr) []))) x=some (.ins qq dx (x9 "walkers" (.ref dw) (x9 "roads" (.ref dr) []))):=q9
 have w2:upd (upd H1 dw (.dK [])) x (.ins qq dx (x9 "walkers" (.ref dw) (x9 "roads" (.ref dr) []))) dw=some (.dK []):=by rw [wz (qt x1 n2).symm,q9]
 have r2:=e2 dr _ xr.symm r1
 generalize upd (upd H1 dw (.dK [])) x (.ins qq dx (x9 "walkers" (.ref dw) (x9 "roads" (.ref dr) [])))=H2 at e2 x2 w2 r2
 have xw:x≠dw:=qt x1 n2
 refine ⟨sz0,λdd n3=>(exI rfl ⟨x,qq,dx,exI rfl ⟨(by rw [wz (qt x2 n3)];exact x2),T.clH,T.naHd,(by show 2<1000;decide),?_⟩⟩)⟩
 have xd:x≠dd:=qt x2 n3
 have e3:∀b o,b≠x→H2 b=some o→upd (upd H2 dd (.lst [])) x (.ins qq dx (x9 "done" (.ref dd) (x9 "walkers" (.ref dw) (x9 "roads" (.ref dr) [])))) b=some o:=λb o nb e=>by rw [wz nb,wz (qt e n3)];exact e
 have old:∀b o,b≠x→H b=some o→H2 b=some o:=λb o nb e=>e2 b o nb (e1 b o nb e)
 have non:∀b,b≠x→H2 b=none→H b=none:=λb nb e=>by
  cases q:H b with
  |none=>rfl
  |some o=>rw [old b o nb q] at e;cases e
 refine k _ dr dw dd n1 (by
  cases q:H dw with
  |none=>rfl
  |some o=>rw [e1 dw o xw.symm q] at n2;cases n2) (non dd xd.symm n3) ⟨⟨dx,q9⟩,e3 _ _ xr.symm r2,e3 _ _ xw.symm w2,?_,qt r1 n2⟩ λb o nb e=>e3 b o (λz=>nb (by simp [z])) (old b o (λz=>nb (by simp [z])) e)
 rw [wz xd.symm,q9]
def xn (C CN:Aj)(roads:Bool):Sp:=λvs H Q E=>∃(x dr dw dd:Aj) (R W:List (Key×V)) (D:List V) (n:Str),vs=[.ref x,.str n]∧Hse C H x dr dw dd R W D ∧
 (∀v,w8 (if roads then R else W) (.inr n)=some v→Q v H)∧(w8 (if roads then R else W) (.inr n)=none→E (.ref CN) none H)
theorem Q5 {f:Aj}{fd:Ad}(F:Fun K "road_called" "House.road_called" s_House_road_called f fd)(T:Txt K mg qf qm qw qz qv qr ww qk qp qj qx wj qy qg qq):FnOk P w K mg base (CXE P w) 1 f fd ["self","name"] (xn qq qj true):=by
 have sc:=vc
 refine F.okX sc (λvs H Q E h=>by obtain ⟨x,dr,dw,dd,R,W,D,n,rfl,_⟩:=h;rfl) (λcdv A outer s H vs Q E hr h=>?_)
 obtain ⟨x,dr,dw,dd,R,W,D,n,rfl,hh,k,kx⟩:=h
 obtain ⟨dx,hx⟩:=hh.ob
 have dg:DGet H dr (.str n) (w8 R (.inr n)):=DGet.k (k:=.inr n) hh.r
 refine ⟨_,(qd (w9 (Ju (W0 (Qc hr) (pv 1) (zf (pv 0) rfl))) (qh (zj rfl T.x_NoRoad xm rfl T.g_NoRoad (wv wn qc))) wc)
   (qh (xv (qqm (Qc hr) (zf (pv 0) rfl) (pv 1) (λ_ _=>rfl))))),?_⟩
 refine exI rfl (exI rfl ⟨x,qq,dx,_,_,rfl,hx,T.clH,T.naHr,z9,dr,exI rfl ⟨dg,_,rfl,?_⟩⟩)
 cases e:w8 R (.inr n) with
 |none=>exact uj ⟨sz1,kx e⟩
 |some v =>
  rw [e] at dg
  exact Zn (exI rfl ⟨x,qq,dx,_,_,rfl,hx,T.clH,T.naHr,z9,exI rfl ⟨dr,v,rfl,dg,k v e⟩⟩)
theorem yg {f:Aj}{fd:Ad}(F:Fun K "walker_called" "House.walker_called" s_House_walker_called f fd)(T:Txt K mg qf qm qw qz qv qr ww qk qp qj qx wj qy qg qq):FnOk P w K mg base (CXE P w) 1 f fd ["self","name"] (xn qq qx false):=by
 have sc:=vw
 refine F.okX sc (λvs H Q E h=>by obtain ⟨x,dr,dw,dd,R,W,D,n,rfl,_⟩:=h;rfl) (λcdv A outer s H vs Q E hr h=>?_)
 obtain ⟨x,dr,dw,dd,R,W,D,n,rfl,hh,k,kx⟩:=h
 obtain ⟨dx,hx⟩:=hh.ob
 have dg:DGet H dw (.str n) (w8 W (.inr n)):=DGet.k (k:=.inr n) hh.w
 refine ⟨_,(qd (w9 (Ju (W0 (Qc hr) (pv 1) (zf (pv 0) rfl))) (qh (zj rfl T.x_NoWalker xm rfl T.g_NoWalker (wv wn qc))) wc)
   (qh (xv (qqm (Qc hr) (zf (pv 0) rfl) (pv 1) (λ_ _=>rfl))))),?_⟩
 refine exI rfl (exI rfl ⟨x,qq,dx,_,_,rfl,hx,T.clH,T.naHw,zn,dw,exI rfl ⟨dg,_,rfl,?_⟩⟩)
 cases e:w8 W (.inr n) with
 |none=>exact uj ⟨sz1,kx e⟩
 |some v =>
  rw [e] at dg
  exact Zn (exI rfl ⟨x,qq,dx,_,_,rfl,hx,T.clH,T.naHw,zn,exI rfl ⟨dw,v,rfl,dg,k v e⟩⟩)
def jg (C:Aj):Sp:=λvs H Q _=>∃(x dr dw dd:Aj) (R W:List (Key×V)) (D:List V),vs=[.ref x]∧Hse C H x dr dw dd R W D∧Q (.int D.length) H
theorem qvj {f:Aj}{fd:Ad}(F:Fun K "deeds" "House.deeds" s_House_deeds f fd)(T:Txt K mg qf qm qw qz qv qr ww qk qp qj qx wj qy qg qq):FnOk P w K mg base (CXE P w) 1 f fd ["self"] (jg qq):=by
 have sc:=Qt
 refine F.okX sc (λvs H Q E h=>by obtain ⟨x,dr,dw,dd,R,W,D,rfl,_⟩:=h;rfl) (λcdv A outer s H vs Q E hr h=>?_)
 obtain ⟨x,dr,dw,dd,R,W,D,rfl,hh,k⟩:=h
 obtain ⟨dx,hx⟩:=hh.ob
 refine ⟨_,(qh (xv (xf zq rfl T.len_ aX (xk (zf (pv 0) rfl) qc)))),?_⟩
 exact exI rfl ⟨x,qq,dx,_,_,rfl,hx,T.clH,T.naHd,W6,dd,exI rfl ⟨.inl (SqL.of hh.d),k⟩⟩
def spDo (C:Aj):Sp:=λvs H Q _=>∃(x dr dw dd c1 c2:Aj) (R W cs1 cs2:List (Key×V)) (D:List V),vs=[.ref x,.ref c1,.ref c2]∧Hse C H x dr dw dd R W D∧Rd H c1 (.dK cs1)∧Rd H c2 (.dK cs2)∧c1≠c2∧c1≠dr∧c1≠dw∧c2≠dr∧c2≠dw ∧
 (cs1.map (·.1)).Nodup∧(cs2.map (·.1)).Nodup∧R.length≤1000∧W.length≤1000∧cs1.length≤1000∧cs2.length≤1000∧D.length≤1000000∧ExOk R cs1∧ExOk W cs2 ∧
 ∀H' tp q1 q2,H tp=none→H q1=none→H q2=none→Hse C H' x dr dw dd (exK R cs1) (exK W cs2) (D++[.ref tp])→H' tp=some (.tup [.ref q1,.ref q2])→H' q1=some (.dK (bfK R cs1))→H' q2=some (.dK (bfK W cs2))→q1≠q2→Rd H' c2 (.dK cs2)→Kb [dr,dw,dd,c1,c2] H H'→Q .non H'
theorem ok_do {f:Aj}{fd:Ad}(F:Fun K "do" "House.do" s_House_do f fd)(T:Txt K mg qf qm qw qz qv qr ww qk qp qj qx wj qy qg qq)(c_exchange:Cal P w K mg base "exchange" 1 J3):FnOk P w K mg base (CXE P w) 2 f fd ["self","roads","walkers"] (spDo qq):=by
 have sc:=Yf
 refine F.okX sc (λvs H Q E h=>by obtain ⟨x,dr,dw,dd,c1,c2,R,W,cs1,cs2,D,rfl,_⟩:=h;rfl) (λcdv A outer s H vs Q E hr h=>?_)
 obtain ⟨x,dr,dw,dd,c1,c2,R,W,cs1,cs2,D,rfl,hh,h1,h2,n12,n1r,n1w,n2r,n2w,nd1,nd2,lR,lW,l1,l2,lD,ok1,ok2,k⟩:=h
 obtain ⟨dx,hx⟩:=hh.ob
 have big:(1000000:Nat)<sizeLine:=by decide
 have isI:∀ {b o},Rd H b (.dK o)→x≠b:=λ{b o} hb z=>by
  rcases hb with hb|⟨u,hb⟩ <;> (rw [←z,hx] at hb;cases hb)
 have isD:∀ {b o},Rd H b (.dK o)→dd≠b:=λ{b o} hb z=>by
  rcases hb with hb|⟨u,hb⟩ <;> (rw [←z,hh.d] at hb;cases hb)
 have xr:=isI (.inl hh.r)
 have xw:=isI (.inl hh.w)
 have x1:=isI h1
 have x2:=isI h2
 have dr':=isD (.inl hh.r)
 have dw':=isD (.inl hh.w)
 have d1:=isD h1
 have d2:=isD h2
 refine ⟨_,(qh (wp (pe_bm PySem.F.plainAttrs_list PySem.F.slot_list_append PySem.F.type_list_append Wh (zf (pv 0) rfl) (ug (zk (kj (wy c_exchange (hr.mono (by decide)) rfl qb (xk (zf (pv 0) rfl) (q8 (pv 1) qc))) (kj (wy c_exchange (hr.mono (by decide)) rfl qb (xk (zf (pv 0) rfl) (q8 (pv 2) qc))) qc))) qc)))),?_⟩
 refine exI rfl ⟨x,qq,dx,_,_,rfl,hx,T.clH,T.naHd,W6,.inl ⟨rfl,_,SqL.of hh.d⟩,?_⟩
 refine exI rfl ⟨x,qq,dx,_,_,rfl,hx,T.clH,T.naHr,z9,exI rfl ⟨dr,c1,R,cs1,rfl,aL n1r,hh.r,h1,nd1,lR,l1,ok1,λq1 H1 nq1 fq1 fr1 fc1 kb1=>?_⟩⟩
 have m1:∀b,b≠dr→b≠c1→b∉[dr,c1]:=λb a1 a2 z=>by
  rcases aq.mp z with z|z
  ·exact a1 z
  ·exact a2 (aB.mp z)
 have hx1:=kb1 _ _ (m1 x xr x1) hx
 have hw1:=kb1 _ _ (m1 dw (aL hh.ne) (aL n1w)) hh.w
 have hd1:=kb1 _ _ (m1 dd dr' d1) hh.d
 have hc2:=kb1.rd (m1 c2 n2r (aL n12)) h2
 refine exI rfl ⟨x,qq,dx,_,_,rfl,hx1,T.clH,T.naHw,zn,exI rfl ⟨dw,c2,W,cs2,rfl,aL n2w,hw1,hc2,nd2,lW,l2,ok2,λq2 H2 nq2 fq2 fw2 fc2 kb2=>?_⟩⟩
 have m2:∀b,b≠dw→b≠c2→b∉[dw,c2]:=λb a1 a2 z=>by
  rcases aq.mp z with z|z
  ·exact a1 z
  ·exact a2 (aB.mp z)
 have q1w:q1≠dw:=λz=>by rw [z,hh.w] at nq1;cases nq1
 have q1c:q1≠c2:=λz=>by rcases h2 with h2|⟨u,h2⟩ <;> (rw [z,h2] at nq1;cases nq1)
 have fq1':=kb2 _ _ (m2 q1 q1w q1c) fq1
 have q12:q1≠q2:=qt fq1 nq2
 have nq2':H q2=none:=by
  cases e:H q2 with
  |none=>rfl
  |some o =>
   by_cases z:q2=dr∨q2=c1
   ·rcases z with z|z
    ·rw [z,fr1] at nq2;cases nq2
    ·rcases fc1 with g|⟨u,g⟩ <;> (rw [z,g] at nq2;cases nq2)
   ·rw [kb1 _ _ (m1 q2 (λy=>z (.inl y)) (λy=>z (.inr y))) e] at nq2;cases nq2
 refine ⟨sz2,λtp ntp=>?_⟩
 have hx2:=kb2 _ _ (m2 x xw x2) hx1
 have hr2:=kb2 _ _ (m2 dr hh.ne (aL n2r)) fr1
 have hd2:=kb2 _ _ (m2 dd dw' d2) hd1
 have old:∀b o,b∉[dr,dw,dd,c1,c2]→H b=some o→H2 b=some o:=λb o nb e=>by
  simp only [aq,au,bW,not_or] at nb
  exact kb2 _ _ (m2 b nb.2.1 nb.2.2.2.2) (kb1 _ _ (m1 b nb.1 nb.2.2.2.1) e)
 have rd2:∀b,b=dr∨b=dw∨b=dd∨b=c1∨b=c2→H2 b≠none:=λb h z=>by
  rcases h with h|h|h|h|h
  ·rw [h,hr2] at z;cases z
  ·rw [h,fw2] at z;cases z
  ·rw [h,hd2] at z;cases z
  ·by_cases y:c1=dw
   ·exact n1w y
   ·rcases fc1 with g|⟨u,g⟩ <;> (rw [h,kb2 _ _ (m2 c1 n1w n12) g] at z;cases z)
  ·rcases fc2 with g|⟨u,g⟩ <;> (rw [h,g] at z;cases z)
 have ntp0:H tp=none:=by
  cases e:H tp with
  |none=>rfl
  |some o =>
   by_cases z:tp=dr∨tp=dw∨tp=dd∨tp=c1∨tp=c2
   ·exact absurd ntp (rd2 tp z)
   ·rw [old tp o (by simp only [aq,au,bW];exact z) e] at ntp;cases ntp
 have s3:Same H2 (upd H2 tp (.tup [.ref q1,.ref q2])):=Same.upd ntp
 have ft:upd H2 tp (.tup [.ref q1,.ref q2]) tp=some (.tup [.ref q1,.ref q2]):=q9
 generalize upd H2 tp (.tup [.ref q1,.ref q2])=H3 at s3 ft
 have hd3:=s3 _ _ hd2
 refine ⟨dd,D,_,rfl,rfl,hd3,by lia,?_⟩
 have ne3:∀b o,b≠dd→H3 b=some o→upd H3 dd (.lst (D++[.ref tp])) b=some o:=λb o nb e=>by rw [wz nb];exact e
 have kq:∀b kv,H3 b=some (.dK kv)→b≠dd:=λb kv e z=>by rw [z,hd3] at e;cases e
 have rd3:Rd (upd H3 dd (.lst (D++[.ref tp]))) c2 (.dK cs2):=by
  rcases fc2 with e|⟨u,e⟩
  ·exact .inl (ne3 _ _ (aL d2) (s3 _ _ e))
  ·exact .inr ⟨u,ne3 _ _ (aL d2) (s3 _ _ e)⟩
 refine k _ tp q1 q2 ntp0 nq1 nq2' ⟨⟨dx,ne3 _ _ (λz=>by rw [z] at hx;rw [hh.d] at hx;cases hx) (s3 _ _ hx2)⟩,ne3 _ _ (aL dr') (s3 _ _ hr2),ne3 _ _ (aL dw') (s3 _ _ fw2),q9,hh.ne⟩ (ne3 _ _ (λz=>by rw [z,hd3] at ft;cases ft) ft) (ne3 _ _ (kq _ _ (s3 _ _ fq1')) (s3 _ _ fq1')) (ne3 _ _ (kq _ _ (s3 _ _ fq2)) (s3 _ _ fq2)) q12 rd3 λb o nb e=>?_
 exact ne3 _ _ (λz=>nb (by simp [z])) (s3 _ _ (old b o nb e))
def Refs (D:List V):Prop:=∀v∈D,∃a,v=V.ref a
theorem Refs.add {D:List V}(h:Refs D)(a:Aj):Refs (D++[.ref a]):=λv hv=>by
 rcases aR.mp hv with hv|hv
 ·exact h v hv
 ·exact ⟨a,aB.mp hv⟩
theorem RoadAt.kb {C CH:Aj}{H H':Hp}{r:Aj}{hs:List Int}(h:RoadAt C H r hs)(ok:xq hs){ch:List Aj}{D:List V}(k:Kb ch H H')(rf:Refs D)(hc:∀b∈ch,(∃kv,Rd H b (.dK kv))∨H b=some (.lst D)):RoadAt C H' r hs:=by
 obtain ⟨dx,q,h1,h2⟩:=h
 refine ⟨dx,q,k _ _ (λz=>?_) h1,k _ _ (λz=>?_) h2⟩
 ·rcases hc r z with ⟨kv,e|⟨o,e⟩⟩|e <;> (rw [h1] at e;cases e)
 ·rcases hc q z with ⟨kv,e|⟨o,e⟩⟩|e
  ·rw [h2] at e;cases e
  ·rw [h2] at e;cases e
  ·rw [h2] at e
   have e:hs.map V.int=D:=by cases e;rfl
   have l:=ok.1
   have m:V.int (hs[0]'(by lia))∈hs.map V.int:=br.mpr ⟨_,List.getElem_mem _,rfl⟩
   rw [e] at m
   obtain ⟨a,ea⟩:=rf _ m
   cases ea
theorem qxt {H H3:Hp}{c1 c2:Aj}{o1 o2 o3:HO}(n1:H c1=none)(s3:Same (upd H c1 o1) H3)(n2:upd H3 c1 o2 c2=none):Same H (upd (upd H3 c1 o2) c2 o3):=λb o e=>by
 have b1:b≠c1:=qt e n1
 have e3:H3 b=some o:=s3 _ _ (by rw [wz b1];exact e)
 have e4:upd H3 c1 o2 b=some o:=by rw [wz b1];exact e3
 rw [wz (qt e4 n2)]
 exact e4
theorem qkz {C CR:Aj}{H H3:Hp}{x dr dw dd c1 r:Aj}{R W:List (Key×V)}{D:List V}{n:Str}{hs:List Int}{Q:VK}{E:XK}(hh:Hse C H x dr dw dd R W D)(n1:H c1=none)(s3:Same (upd H c1 (.dK [])) H3)(R3:RoadAt CR H3 r hs)(okl:xq hs)(rf:Refs D)(lR:R.length≤1000)(lW:W.length≤1000)(lD:D.length≤1000000)
  (k:∀H' tp q1 q2,H tp=none→H q1=none→H q2=none→Hse C H' x dr dw dd (zx R (.inr n) (.ref r)) W (D++[.ref tp])→H' tp=some (.tup [.ref q1,.ref q2])→H' q1=some (.dK [(.inr n,(w8 R (.inr n)).getD .non)])→H' q2=some (.dK [])→q1≠q2→RoadAt CR H' r hs→Kb [dr,dw,dd] H H'→Q .non H') :
  ∀c2,upd H3 c1 (.dK [(.inr n,.ref r)]) c2=none→spDo C [.ref x,.ref c1,.ref c2] (upd (upd H3 c1 (.dK [(.inr n,.ref r)])) c2 (.dK [])) Q E:=by
 intro c2 n2
 have s4:Same H (upd (upd H3 c1 (.dK [(.inr n,.ref r)])) c2 (.dK [])):=qxt n1 s3 n2
 have c12:c1≠c2:=λz=>by rw [←z,q9] at n2;cases n2
 have e1:upd (upd H3 c1 (.dK [(.inr n,.ref r)])) c2 (.dK []) c1=some (.dK [(.inr n,.ref r)]):=by rw [wz c12,q9]
 have e2:upd (upd H3 c1 (.dK [(.inr n,.ref r)])) c2 (.dK []) c2=some (.dK []):=q9
 have h31:H3 c1=some (.dK []):=s3 _ _ q9
 have R4:RoadAt CR (upd (upd H3 c1 (.dK [(.inr n,.ref r)])) c2 (.dK [])) r hs:=by
  obtain ⟨dx,q,a1,a2⟩:=R3
  have keep:∀b o,(∀kv,o≠HO.dK kv)→H3 b=some o→upd (upd H3 c1 (.dK [(.inr n,.ref r)])) c2 (.dK []) b=some o:=λb o no e=>by
   have b1:b≠c1:=λz=>by rw [z,h31] at e;cases e;exact no _ rfl
   have e4:upd H3 c1 (.dK [(.inr n,.ref r)]) b=some o:=by rw [wz b1];exact e
   rw [wz (qt e4 n2)]
   exact e4
  exact ⟨dx,q,keep _ _ (λkv z=>by cases z) a1,keep _ _ (λkv z=>by cases z) a2⟩
 have n20:H c2=none:=by
  cases q:H c2 with
  |none=>rfl
  |some o =>
   have b1:c2≠c1:=aL c12
   rw [wz b1,s3 _ _ (show upd H c1 (.dK []) c2=some o by rw [wz b1];exact q)] at n2
   cases n2
 generalize upd (upd H3 c1 (.dK [(.inr n,.ref r)])) c2 (.dK [])=H4 at s4 e1 e2 R4
 have hh4:=hh.same s4
 refine ⟨x,dr,dw,dd,c1,c2,R,W,[(.inr n,.ref r)],[],D,rfl,hh4,.inl e1,.inl e2,c12,(qt hh.r n1).symm,(qt hh.w n1).symm,(qt hh.r n20).symm,(qt hh.w n20).symm,bi.mpr ⟨au,bD⟩,bD,lR,lW,by show 1≤1000;decide,aA _,lD,λi c ec hc=>?_,(λi c ec hc=>nomatch ec),λH' tp q1 q2 a1 a2 a3 a4 a5 a6 a7 a8 _ a9=>?_⟩
 ·cases i with
  |zero=>cases ec;cases hc
  |succ i=>cases ec
 ·have no:∀b,H4 b=none→H b=none:=λb e=>xu s4 e
  have rd:RoadAt CR H' r hs:=R4.kb (CH:=C) okl a9 rf λb hb=>by
   simp only [aq,au,bW] at hb
   rcases hb with rfl|rfl|rfl|rfl|rfl
   ·exact .inl ⟨_,.inl hh4.r⟩
   ·exact .inl ⟨_,.inl hh4.w⟩
   ·exact .inr hh4.d
   ·exact .inl ⟨_,.inl e1⟩
   ·exact .inl ⟨_,.inl e2⟩
  refine k H' tp q1 q2 (no _ a1) (no _ a2) (no _ a3) a4 a5 a6 a7 a8 rd λb o nb e=>a9 b o (λz=>?_) (s4 _ _ e)
  simp only [aq,au,bW] at z nb
  rcases z with z|z|z|z|z
  ·exact nb (.inl z)
  ·exact nb (.inr (.inl z))
  ·exact nb (.inr (.inr z))
  ·rw [z,n1] at e;cases e
  ·rw [z,n20] at e;cases e
def RDeed (C CR:Aj)(H H':Hp)(x dr dw dd:Aj)(R W:List (Key×V))(D:List V)(n:Str)(hs:List Int):Prop:=∃r tp q1 q2,H tp=none∧H q1=none∧H q2=none∧Hse C H' x dr dw dd (zx R (.inr n) (.ref r)) W (D++[.ref tp])∧H' tp=some (.tup [.ref q1,.ref q2])∧H' q1=some (.dK [(.inr n,(w8 R (.inr n)).getD .non)])∧H' q2=some (.dK [])∧q1≠q2∧RoadAt CR H' r hs∧Kb [dr,dw,dd] H H'
theorem RDeed.pre {C CR:Aj}{H0 H H':Hp}{x dr dw dd:Aj}{R W:List (Key×V)}{D:List V}{n:Str}{hs:List Int}(h:RDeed C CR H H' x dr dw dd R W D n hs)(s:Same H0 H):RDeed C CR H0 H' x dr dw dd R W D n hs:=by
 obtain ⟨r,tp,q1,q2,a1,a2,a3,a4,a5,a6,a7,a8,a9,b1⟩:=h
 exact ⟨r,tp,q1,q2,xu s a1,xu s a2,xu s a3,a4,a5,a6,a7,a8,a9,λb o nb e=>b1 b o nb (s _ _ e)⟩
def qqg (K:Aa)(C CR CN CT CL:Aj):Sp:=λvs H Q E=>∃(x dr dw dd p:Aj) (R W:List (Key×V)) (D:List V) (n:Str) (hs:List Int),vs=[.ref x,.str n,.ref p]∧Hse C H x dr dw dd R W D∧Refs D∧R.length≤1000∧W.length≤1000∧D.length≤1000000∧n.length≤1000∧H p=some (.lst (hs.map V.int)) ∧
 (xt n=true→w8 R (.inr n)=none→xq hs→∀H',RDeed C CR H H' x dr dw dd R W D n hs→Q .non H')∧(xt n=false→∀H',Same H H'→E (.ref CN) none H')∧(xt n=true→(w8 R (.inr n)).isSome=true→∀H',Same H H'→E (.ref CT) none H')∧(xt n=true→w8 R (.inr n)=none→¬ xq hs→∀H',Same H H'→E (.ref CL) none H')
theorem ok_lay {f:Aj}{fd:Ad}(F:Fun K "lay" "House.lay" s_House_lay f fd)(T:Txt K mg qf qm qw qz qv qr ww qk qp qj qx wj qy qg qq)(c_check_new_name:Cal P w K mg base "check_new_name" 2 (v1 qk qp))(c_Road:CCal P w K mg base "Road" qy 2 (yu K qm qy))(c_do:MCal P w K mg base qq "do" 2 (spDo qq)) :
  FnOk P w K mg base (CXE P w) 4 f fd ["self","name","heights"] (qqg K qq qy qk qp qm):=by
 have sc:=Zt
 refine F.okX sc (λvs H Q E h=>by obtain ⟨x,dr,dw,dd,p,R,W,D,n,hs,rfl,_⟩:=h;rfl) (λcdv A outer s H vs Q E hr h=>?_)
 obtain ⟨x,dr,dw,dd,p,R,W,D,n,hs,rfl,hh,rf,lR,lW,lD,ln,hp,k,kn,kt,kl⟩:=h
 obtain ⟨dx,hx⟩:=hh.ob
 refine ⟨_,(qd (wp (wy c_check_new_name (hr.mono (by decide)) rfl qb (q8 (pv 1) (xk (zf (pv 0) rfl) qc))))
   (qh (wp (wg (pv 0) T.clH c_do (hr.mono (by decide)) qb (xk (qq9 (Z7 (pv 1) (z0 c_Road (hr.mono (by decide)) rfl qb (q8 (pv 2) qc)) qq4) rfl rfl (λz=>nomatch z) (by decide)) (xk jw qc)))))),?_⟩
 refine ⟨_,rfl,_,rfl,x,qq,dx,_,_,rfl,hx,T.clH,T.naHr,z9,n,dr,R,rfl,ln,hh.r,λa1 a2 H1 s1=>?_,kn,kt⟩
 have hh1:=hh.same s1
 refine exI rfl ⟨x,dx,exI rfl ⟨s1 _ _ hx,wt (by decide +kernel) (by decide +kernel) (by decide +kernel),λc1 n1=>(exI rfl (exI rfl (λr d0 nr nd0 ne0=>v4 (H:=upd H1 c1 (.dK [])) (hs:=hs) (by rw [wz (qt (s1 _ _ hp) n1)];exact s1 _ _ hp) nr nd0 (λokl H3 s3 R3=>?_) λz H3 s3=>kl a1 a2 z H3 (s1.trans (λb o e=>s3 _ _ (by rw [wz (qt e n1)];exact e))))))⟩⟩
 refine ⟨s3 _ _ q9,[(.inr n,.ref r)],rfl,(show 1≤15 by decide),?_⟩
 exact qkz (E:=E) hh1 n1 s3 R3 okl rf lR lW lD λH' tp q1 q2 b1 b2 b3 b4 b5 b6 b7 b8 b9 kb=>k a1 a2 okl H' (RDeed.pre ⟨r,tp,q1,q2,b1,b2,b3,b4,b5,b6,b7,b8,b9,kb⟩ s1)
end
section
variable {P:Ac}{w:Ah}{K:Aa}{mg:Str→Option Ag}{base:Heap}{qf:Aj}{qm:Aj}{qw:Aj}{qz:Aj}{qv:Aj}{qr:Aj}{ww:Aj}{qk:Aj}{qp:Aj}{qj:Aj}{qx:Aj}{wj:Aj}{qy:Aj}{qg:Aj}{qq:Aj}
theorem qvr {t b:Int}(hb:1≤b)(g:gOf t b=1):xj t b=(t,b):=by
 unfold xj
 rw [g,Int.ediv_one,Int.ediv_one]
def wF (n:Str)(p t:Aj):List (Str×V):=[("whose",.str n),("point",.ref p),("times",.ref t)]
structure WkAt (C:Aj)(H:Hp)(y:Aj)(n:Str)(p:Aj)(pt:Int×Int)(t:Aj)(tv:List (List Key×V)):Prop where
 ob:∃dx,H y=some (.ins C dx (wF n p t))
 pt:H p=some (.tup [.int pt.1,.int pt.2])
 tm:H t=some (.dT tv)
theorem WkAt.kb {C:Aj}{H H':Hp}{y:Aj}{n:Str}{p:Aj}{pt:Int×Int}{t:Aj}{tv:List (List Key×V)}(h:WkAt C H y n p pt t tv){ch:List Aj}(k:Kb ch H H')(hc:∀b∈ch,(∃kv,Rd H b (.dK kv))∨∃D,H b=some (.lst D)):WkAt C H' y n p pt t tv:=by
 have no:∀b o,(∀kv,o≠HO.dK kv)→(∀u kv,o≠HO.frz u (.dK kv))→(∀D,o≠HO.lst D)→H b=some o→H' b=some o:=λb o a1 a2 a3 e=>k _ _ (λz=>by
  rcases hc b z with ⟨kv,q|⟨u,q⟩⟩|⟨D,q⟩
  ·rw [e] at q;cases q;exact a1 _ rfl
  ·rw [e] at q;cases q;exact a2 _ _ rfl
  ·rw [e] at q;cases q;exact a3 _ rfl) e
 obtain ⟨dx,e⟩:=h.ob
 exact ⟨⟨dx,no _ _ (λ_ z=>by cases z) (λ_ _ z=>by cases z) (λ_ z=>by cases z) e⟩,no _ _ (λ_ z=>by cases z) (λ_ _ z=>by cases z) (λ_ z=>by cases z) h.pt,no _ _ (λ_ z=>by cases z) (λ_ _ z=>by cases z) (λ_ z=>by cases z) h.tm⟩
def y9 (C:Aj):Sp:=λvs H Q _=>∃(y dx p t:Aj) (n:Str),vs=[.ref y,.str n,.ref p,.ref t]∧H y=some (.ins C dx [])∧∀H',H' y=some (.ins C dx (wF n p t))→Kb [y] H H'→Q .non H'
theorem qzk {f:Aj}{fd:Ad}(F:Fun K "__init__" "Walker.__init__" s_Walker___init__ f fd)(T:Txt K mg qf qm qw qz qv qr ww qk qp qj qx wj qy qg qq):FnOk P w K mg base (CXE P w) 1 f fd ["self","whose","point","times"] (y9 qg):=by
 have sc:=kd
 refine F.okX sc (λvs H Q E h=>by obtain ⟨y,dx,p,t,n,rfl,_⟩:=h;rfl) (λcdv A outer s H vs Q E hr h=>?_)
 obtain ⟨y,dx,p,t,n,rfl,hy,k⟩:=h
 refine ⟨_,(qd (kh (pv 0) (pv 1) rfl)
   (qd (kh (pv 0) (pv 2) rfl)
   (qh (kh (pv 0) (pv 3) rfl)))),?_⟩
 refine exI rfl (exI rfl ⟨y,qg,dx,[],rfl,hy,T.clW,T.naWw,(by show 0<1000;decide),?_⟩)
 refine exI rfl (exI rfl ⟨y,qg,dx,exI rfl ⟨q9,T.clW,T.naWp,(by show 1<1000;decide),?_⟩⟩)
 refine exI rfl (exI rfl ⟨y,qg,dx,exI rfl ⟨q9,T.clW,T.naWt,(by show 2<1000;decide),?_⟩⟩)
 refine k _ q9 λb o nb e=>?_
 have nb:b≠y:=λz=>nb (by simp [z])
 rw [wz nb,wz nb,wz nb]
 exact e
theorem qxn {C:Aj}{H:Hp}{n:Str}{p t y dx:Aj}{Pp:Hp→Prop}{E:XK}(ny:H y=none)(nd:H dx=none)(k:∀H',Same H H'→(∃dx,H' y=some (.ins C dx (wF n p t)))→Pp H') :
  y9 C [.ref y,.str n,.ref p,.ref t] (upd (upd H dx (.own y)) y (.ins C dx [])) (λr H2=>r=.non∧Pp H2) E:=by
 refine ⟨y,dx,p,t,n,rfl,q9,λH' e kb=>⟨rfl,k H' (λb o eb=>kb b o (λz=>?_) ?_) ⟨dx,e⟩⟩⟩
 ·rw [aB.mp z,ny] at eb;cases eb
 ·rw [wz (qt eb ny),wz (qt eb nd)]
  exact eb
def j5 (C:Aj):Sp:=λvs H Q _=>∃(n:Str) (p:Aj) (pt:Int×Int),vs=[.str n,.ref p]∧H p=some (.tup [.int pt.1,.int pt.2])∧∀H' y t,H y=none→Same H H'→WkAt C H' y n p pt t [([.inl pt.1,.inl pt.2],.int 1)]→Q (.ref y) H'
theorem Y2 {f:Aj}{fd:Ad}(F:Fun K "set_down" "set_down" s_set_down f fd)(T:Txt K mg qf qm qw qz qv qr ww qk qp qj qx wj qy qg qq)(c_Walker:CCal P w K mg base "Walker" qg 1 (y9 qg)):FnOk P w K mg base (CXE P w) 3 f fd ["whose","point"] (j5 qg):=by
 have sc:=Y5
 refine F.okX sc (λvs H Q E h=>by obtain ⟨n,p,pt,rfl,_⟩:=h;rfl) (λcdv A outer s H vs Q E hr h=>?_)
 obtain ⟨n,p,pt,rfl,hp,k⟩:=h
 refine ⟨_,(qh (xv (z0 c_Walker (hr.mono (by decide)) rfl qb (q8 (pv 0) (q8 (pv 1) (xk (qvc hr.units0 (pv 1) qu) qc)))))),?_⟩
 refine exI rfl (exI rfl (λt nt=>(exI rfl ⟨p,[.inl pt.1,.inl pt.2],rfl,(by rw [wz (qt hp nt)];exact hp),q9,?_⟩)))
 have s1:Same H (upd (upd H t (.dT [])) t (.dT [([.inl pt.1,.inl pt.2],.int 1)])):=by
  rw [uq]
  exact Same.upd nt
 have f1:upd (upd H t (.dT [])) t (.dT [([.inl pt.1,.inl pt.2],.int 1)]) t=some (.dT [([.inl pt.1,.inl pt.2],.int 1)]):=q9
 generalize upd (upd H t (.dT [])) t (.dT [([.inl pt.1,.inl pt.2],.int 1)])=H1 at s1 f1
 exact λy dx ny nd ne=>qxn ny nd λH' s2 e=>k H' y t (xu s1 ny) (s1.trans s2) ⟨e,s2 _ _ (s1 _ _ hp),s2 _ _ f1⟩
theorem qxm {C CW:Aj}{H H3:Hp}{x dr dw dd c1 c2 y:Aj}{R W:List (Key×V)}{D:List V}{n whose:Str}{p t:Aj}{pt:Int×Int}{tv:List (List Key×V)}{Q:VK}{E:XK}(hh:Hse C H x dr dw dd R W D)(n1:H c1=none)(n2:upd H c1 (.dK []) c2=none)(s3:Same (upd (upd H c1 (.dK [])) c2 (.dK [])) H3)(W3:WkAt CW H3 y whose p pt t tv)(lR:R.length≤1000)(lW:W.length≤1000)(lD:D.length≤1000000)
  (k:∀H' tp q1 q2,H tp=none→H q1=none→H q2=none→Hse C H' x dr dw dd R (zx W (.inr n) (.ref y)) (D++[.ref tp])→H' tp=some (.tup [.ref q1,.ref q2])→H' q1=some (.dK [])→H' q2=some (.dK [(.inr n,(w8 W (.inr n)).getD .non)])→q1≠q2→WkAt CW H' y whose p pt t tv→Kb [dr,dw,dd] H H'→Q .non H') :
  spDo C [.ref x,.ref c1,.ref c2] (upd H3 c2 (.dK [(.inr n,.ref y)])) Q E:=by
 have c12:c1≠c2:=λz=>by rw [←z,q9] at n2;cases n2
 have n20:H c2=none:=by rw [←n2,wz (aL c12)]
 have s03:Same H H3:=λb o e=>s3 _ _ (by rw [wz (qt e n20),wz (qt e n1)];exact e)
 have h32:H3 c2=some (.dK []):=s3 _ _ q9
 have h31:H3 c1=some (.dK []):=s3 _ _ (by rw [wz c12,q9])
 have keep:∀b o,(∀kv,o≠HO.dK kv)→H3 b=some o→upd H3 c2 (.dK [(.inr n,.ref y)]) b=some o:=λb o no e=>by
  rw [wz (λz=>by rw [z,h32] at e;cases e;exact no _ rfl)]
  exact e
 have W4:WkAt CW (upd H3 c2 (.dK [(.inr n,.ref y)])) y whose p pt t tv:=by
  obtain ⟨dx,e⟩:=W3.ob
  exact ⟨⟨dx,keep _ _ (λkv z=>by cases z) e⟩,keep _ _ (λkv z=>by cases z) W3.pt,keep _ _ (λkv z=>by cases z) W3.tm⟩
 have s4:Same H (upd H3 c2 (.dK [(.inr n,.ref y)])):=λb o e=>by rw [wz (qt e n20)];exact s03 _ _ e
 have e1:upd H3 c2 (.dK [(.inr n,.ref y)]) c1=some (.dK []):=by rw [wz c12];exact h31
 have e2:upd H3 c2 (.dK [(.inr n,.ref y)]) c2=some (.dK [(.inr n,.ref y)]):=q9
 generalize upd H3 c2 (.dK [(.inr n,.ref y)])=H4 at s4 e1 e2 W4
 have hh4:=hh.same s4
 refine ⟨x,dr,dw,dd,c1,c2,R,W,[],[(.inr n,.ref y)],D,rfl,hh4,.inl e1,.inl e2,c12,(qt hh.r n1).symm,(qt hh.w n1).symm,(qt hh.r n20).symm,(qt hh.w n20).symm,bD,bi.mpr ⟨au,bD⟩,lR,lW,aA _,by show 1≤1000;decide,lD,(λi c ec hc=>nomatch ec),λi c ec hc=>?_,λH' tp q1 q2 a1 a2 a3 a4 a5 a6 a7 a8 _ a9=>?_⟩
 ·cases i with
  |zero=>cases ec;cases hc
  |succ i=>cases ec
 ·have no:∀b,H4 b=none→H b=none:=λb e=>xu s4 e
  have wk:WkAt CW H' y whose p pt t tv:=W4.kb a9 λb hb=>by
   simp only [aq,au,bW] at hb
   rcases hb with rfl|rfl|rfl|rfl|rfl
   ·exact .inl ⟨_,.inl hh4.r⟩
   ·exact .inl ⟨_,.inl hh4.w⟩
   ·exact .inr ⟨_,hh4.d⟩
   ·exact .inl ⟨_,.inl e1⟩
   ·exact .inl ⟨_,.inl e2⟩
  refine k H' tp q1 q2 (no _ a1) (no _ a2) (no _ a3) a4 a5 a6 a7 a8 wk λb o nb e=>a9 b o (λz=>?_) (s4 _ _ e)
  simp only [aq,au,bW] at z nb
  rcases z with z|z|z|z|z
  ·exact nb (.inl z)
  ·exact nb (.inr (.inl z))
  ·exact nb (.inr (.inr z))
  ·rw [z,n1] at e;cases e
  ·rw [z,n20] at e;cases e
def WDeed (C CW:Aj)(H H':Hp)(x dr dw dd:Aj)(R W:List (Key×V))(D:List V)(n whose:Str)(p:Aj)(pt:Int×Int)(t:Aj)(tv:List (List Key×V)):Prop:=∃y tp q1 q2,H tp=none∧H q1=none∧H q2=none∧Hse C H' x dr dw dd R (zx W (.inr n) (.ref y)) (D++[.ref tp])∧H' tp=some (.tup [.ref q1,.ref q2])∧H' q1=some (.dK [])∧H' q2=some (.dK [(.inr n,(w8 W (.inr n)).getD .non)])∧q1≠q2∧WkAt CW H' y whose p pt t tv∧Kb [dr,dw,dd] H H'
theorem WDeed.pre {C CW:Aj}{H0 H H':Hp}{x dr dw dd:Aj}{R W:List (Key×V)}{D:List V}{n whose:Str}{p:Aj}{pt:Int×Int}{t:Aj}{tv:List (List Key×V)}(h:WDeed C CW H H' x dr dw dd R W D n whose p pt t tv)(s:Same H0 H):WDeed C CW H0 H' x dr dw dd R W D n whose p pt t tv:=by
 obtain ⟨y,tp,q1,q2,a1,a2,a3,a4,a5,a6,a7,a8,a9,b1⟩:=h
 exact ⟨y,tp,q1,q2,xu s a1,xu s a2,xu s a3,a4,a5,a6,a7,a8,a9,λb o nb e=>b1 b o nb (s _ _ e)⟩
def jh (K:Aa)(C CR CW CN CT CNR CB CO:Aj):Sp:=λvs H Q E=>∃(x dr dw dd a:Aj) (R W:List (Key×V)) (D:List V) (n whose:Str) (t b:Int),vs=[.ref x,.str n,.str whose,.ref a]∧Hse C H x dr dw dd R W D∧R.length≤1000∧W.length≤1000∧D.length≤1000000∧n.length≤1000∧H a=some (.tup [.int t,.int b]) ∧
 (xt n=false→∀H',Same H H'→E (.ref CN) none H')∧(xt n=true→(w8 W (.inr n)).isSome=true→∀H',Same H H'→E (.ref CT) none H')∧(xt n=true→w8 W (.inr n)=none→(w8 R (.inr whose)=none→∀H',Same H H'→E (.ref CNR) none H') ∧
  ∀v,w8 R (.inr whose)=some v→∃r hs,v=.ref r∧RoadAt CR H r hs∧xq hs∧(b<1→∀H',Same H H'→E (.ref CB) none H')∧(1≤b→Sm 8000 b∧(40<(xj t b).2→∀H',Same H H'→E (.ref CB) none H')∧((xj t b).2≤40 →
   (¬ zy hs (xj t b).1 (xj t b).2→∀H',Same H H'→E (.ref CO) none H')∧(zy hs (xj t b).1 (xj t b).2→∀H' p t',WDeed C CW H H' x dr dw dd R W D n whose p (xj t b) t' [([.inl (xj t b).1,.inl (xj t b).2],.int 1)]→Q .non H'))))
theorem low1 {t b:Int}(h:1≤b):1≤(xj t b).2:=by
 have e:=qqp (t:=t) h
 have g:=v2 (t:=t) h
 show 1≤b/gOf t b
 by_cases z:1≤b/gOf t b
 ·exact z
 ·have:gOf t b*(b/gOf t b)≤0:=Int.mul_nonpos_of_nonneg_of_nonpos (by lia) (by lia)
  lia
theorem qzw {f:Aj}{fd:Ad}(F:Fun K "place" "House.place" s_House_place f fd)(T:Txt K mg qf qm qw qz qv qr ww qk qp qj qx wj qy qg qq)(c_check_new_name:Cal P w K mg base "check_new_name" 2 (v1 qk qp))(c_road_called:MCal P w K mg base qq "road_called" 1 (xn qq qj true))(c_lowest:Cal P w K mg base "lowest" 2 (jb qw))(c_on_road:MCal P w K mg base qy "on_road" 3 (zv K qy qw qz))(c_set_down:Cal P w K mg base "set_down" 3 (j5 qg))(c_do:MCal P w K mg base qq "do" 2 (spDo qq)) :
  FnOk P w K mg base (CXE P w) 5 f fd ["self","name","whose","point"] (jh K qq qy qg qk qp qj qw qz):=by
 have sc:=Qk
 refine F.okX sc (λvs H Q E h=>by obtain ⟨x,dr,dw,dd,a,R,W,D,n,whose,t,b,rfl,_⟩:=h;rfl) (λcdv A outer s H vs Q E hr h=>?_)
 obtain ⟨x,dr,dw,dd,a,R,W,D,n,whose,t,b,rfl,hh,lR,lW,lD,ln,ha,kn,kt,k⟩:=h
 obtain ⟨dx,hx⟩:=hh.ob
 obtain ⟨tg,g_GREATEST_BOTTOM⟩:=T.g_GREATEST_BOTTOM
 refine ⟨_,(qd (wp (wy c_check_new_name (hr.mono (by decide)) rfl qb (q8 (pv 1) (xk (zf (pv 0) rfl) qc))))
   (qd (wf (i:=4) sc.nd rfl (by walk_at "loc") (wg (pv 0) T.clH c_road_called (hr.mono (by decide)) qb (q8 (pv 2) qc)))
   (qd (wf (i:=5) sc.nd rfl (by walk_at "loc") (wy c_lowest (hr.mono (by decide)) rfl qb (Yy (j0 j9 (pv 3) qu (λ_ _=>rfl)) (Yy (j0 j9 (pv 3) qu (λ_ _=>rfl)) qc))))
   (qd (w9 (wu Wb (j0 j9 (pv 5) qu (λ_ _=>rfl)) (vp (v:=V.int 40) rfl g_GREATEST_BOTTOM ⟨_,rfl⟩) (wm _)) (qh (zj rfl T.x_BadBottom xm rfl T.g_BadBottom (wv wn qc))) wc)
   (qh (wp (wg (pv 0) T.clH c_do (hr.mono (by decide)) qb (xk jw (xk (qq9 (Z7 (pv 1) (wy c_set_down (hr.mono (by decide)) rfl qb (q8 (pv 2) (kj (wg (pv 4) T.cl c_on_road (hr.mono (by decide)) qb (q8 (pv 5) qc)) qc))) qq4) rfl rfl (λz=>nomatch z) (by decide)) qc))))))))),?_⟩
 refine ⟨_,rfl,_,rfl,x,qq,dx,_,_,rfl,hx,T.clH,T.naHw,zn,n,dw,W,rfl,ln,hh.w,λa1 a2 H1 s1=>?_,kn,kt⟩
 obtain ⟨kr,k⟩:=k a1 a2
 have hh1:=hh.same s1
 refine ⟨_,rfl,x,dx,_,rfl,s1 _ _ hx,wt (by decide +kernel) (by decide +kernel) (by decide +kernel),_,rfl,x,dr,dw,dd,R,W,D,whose,rfl,hh1,λv e=>?_,λe=>kr e H1 s1⟩
 obtain ⟨r,hs,rfl,hR,okl,kb,k⟩:=k v e
 refine ⟨_,rfl,_,_,_,_,rfl,rfl,SqT.of (s1 _ _ ha),rfl,_,rfl,_,_,_,_,rfl,rfl,SqT.of (s1 _ _ ha),rfl,t,b,rfl,λb1=>?_,λb1=>kb b1 H1 s1⟩
 obtain ⟨sm,kg,k⟩:=k b1
 refine ⟨sm.mono (by decide),λp np=>?_⟩
 have s2:Same H (upd H1 p (.tup (ptV (xj t b)))):=s1.trans (Same.upd np)
 have f2:upd H1 p (.tup (ptV (xj t b))) p=some (.tup [.int (xj t b).1,.int (xj t b).2]):=q9
 generalize upd H1 p (.tup (ptV (xj t b)))=H2 at s2 f2
 have l1:=low1 (t:=t) b1
 refine exI rfl (exX rfl rfl (SqT.of f2) rfl (w4 rfl rfl (exI rfl (vb (λz=>⟨sz1,kg (by lia) H2 s2⟩) (λz=>?_)))))
 obtain ⟨ko,k⟩:=k (by lia)
 refine exI rfl ⟨x,dx,exI rfl ⟨s2 _ _ hx,wt (by decide +kernel) (by decide +kernel) (by decide +kernel),λc1 n1=>λc2 n2=>(exI rfl (exI rfl (exI rfl ?_)))⟩⟩
 obtain ⟨dy,l,h1,h2⟩:=id hR
 have sc2:Same H2 (upd (upd H2 c1 (.dK [])) c2 (.dK [])):=λb o e=>by
  have e4:upd H2 c1 (.dK []) b=some o:=by rw [wz (qt e n1)];exact e
  rw [wz (qt e4 n2)]
  exact e4
 have s3:=s2.trans sc2
 refine ⟨r,dy,_,rfl,s3 _ _ h1,x6 (by decide +kernel),_,rfl,r,p,hs,(xj t b).1,(xj t b).2,rfl,hR.same s3,okl,SqT.of (sc2 _ _ f2),λ_=>⟨(Sm.small (n:=65) (by lia) (by lia) (by decide)).mono (by decide),λon q H3 s4 fq=>?_,λon H3 s4=>ko on H3 (s3.trans s4)⟩,λz=>absurd z (by lia)⟩
 have e3:xj (xj t b).1 (xj t b).2=xj t b:=qvr l1 (low_co b1)
 rw [e3] at fq
 refine ⟨whose,q,xj t b,rfl,fq,λH4 y t' ny s5 w5=>?_⟩
 refine ⟨s5 _ _ (s4 _ _ q9),[(.inr n,.ref y)],rfl,(show 1≤15 by decide),?_⟩
 exact qxm (E:=E) (hh.same s2) n1 n2 (s4.trans s5) w5 lR lW lD λH' tp q1 q2 b1 b2 b3 b4 b5 b6 b7 b8 b9 kb=>k on H' q t' (WDeed.pre ⟨y,tp,q1,q2,b1,b2,b3,b4,b5,b6,b7,b8,b9,kb⟩ s2)
end
section
variable {P:Ac}{w:Ah}{K:Aa}{mg:Str→Option Ag}{base:Heap}{qf:Aj}{qm:Aj}{qw:Aj}{qz:Aj}{qv:Aj}{qr:Aj}{ww:Aj}{qk:Aj}{qp:Aj}{qj:Aj}{qx:Aj}{wj:Aj}{qy:Aj}{qg:Aj}{qq:Aj}
def Zr (CB CO:Aj)(hs:List Int)(t b:Int)(E:XK)(H:Hp):Prop:=(1≤b→Sm 8000 b∧¬ zy hs t b∧∀H',Same H H'→E (.ref CO) none H')∧(b<1→E (.ref CB) none H)
def Q1 (hs:List Int)(t b:Int):Prop:=1≤b∧Sm 8000 b∧zy hs t b
def F60:Int:=1000000000000000000000000000000000000000000000000000000000000
theorem j7 {C CB CO:Aj}{H:Hp}{r p:Aj}{hs:List Int}{t b:Int}{Q:VK}{E:XK}(hR:RoadAt C H r hs)(ok:xq hs)(hp:SqT K H p [.int t,.int b])(h:Zr CB CO hs t b E H):zv K C CB CO [.ref r,.ref p] H Q E :=
 ⟨r,p,hs,t,b,rfl,hR,ok,hp,λb1=>⟨(h.1 b1).1,λz=>absurd z (h.1 b1).2.1,λ_ H' s=>(h.1 b1).2.2 H' s⟩,h.2⟩
theorem ux {C CB CO:Aj}{H:Hp}{r p:Aj}{hs:List Int}{t b:Int}{Q:VK}{E:XK}(hR:RoadAt C H r hs)(ok:xq hs)(hp:SqT K H p [.int t,.int b])(h:Q1 hs t b)(k:∀q H',Same H H'→Q (.ref q) H'):zv K C CB CO [.ref r,.ref p] H Q E :=
 ⟨r,p,hs,t,b,rfl,hR,ok,hp,λ_=>⟨h.2.1,λ_ q H' s _=>k q H' s,λz=>absurd h.2.2 z⟩,λz=>absurd h.1 (by lia)⟩
def Qb (K:Aa)(C CB CO:Aj):Sp:=λvs H _ E=>∃(r p:Aj) (hs:List Int) (t b m:Int),vs=[.ref r,.ref p,.int m]∧RoadAt C H r hs∧xq hs∧SqT K H p [.int t,.int b]∧Zr CB CO hs t b E H
theorem qwg {f:Aj}{fd:Ad}(F:Fun K "walked" "walked" s_walked f fd)(T:Txt K mg qf qm qw qz qv qr ww qk qp qj qx wj qy qg qq)(c_on_road:MCal P w K mg base qy "on_road" 3 (zv K qy qw qz)):FnOk P w K mg base (CXE P w) 4 f fd ["road","point","many"] (Qb K qy qw qz):=by
 have sc:=qxd
 refine F.okX sc (λvs H Q E h=>by obtain ⟨r,p,hs,t,b,m,rfl,_⟩:=h;rfl) (λcdv A outer s H vs Q E hr h=>?_)
 obtain ⟨r,p,hs,t,b,m,rfl,hR,hok,hp,hx⟩:=h
 obtain ⟨dx,q0,h1,h2⟩:=id hR
 refine ⟨_,(qd (wf (i:=3) sc.nd rfl (by walk_at "loc") (wg (pv 0) T.cl c_on_road (hr.mono (by decide)) qb (q8 (pv 1) qc)))
   zm),?_⟩
 refine exI rfl ⟨r,dx,exI rfl ⟨h1,x6 (by decide +kernel),_,rfl,?_⟩⟩
 dsimp only [x4,vd,tC]
 exact j7 hR hok hp hx
def qz9 (K:Aa)(C CB CO CC:Aj):Sp:=λvs H _ E=>∃(r p:Aj) (hs:List Int) (t b m:Int),vs=[.ref r,.ref p,.int m]∧RoadAt C H r hs∧xq hs∧SqT K H p [.int t,.int b] ∧
 (Zr CB CO hs t b E H∨(Q1 hs t b∧¬ Within m 0 (some F60)∧∀H',Same H H'→E (.ref CC) none H'))
theorem ok_far {f:Aj}{fd:Ad}(F:Fun K "far" "far" s_far f fd)(T:Txt K mg qf qm qw qz qv qr ww qk qp qj qx wj qy qg qq)(c_check_count:CalD P w K mg base "check_count" 1 (uz qv))(c_on_road:MCal P w K mg base qy "on_road" 3 (zv K qy qw qz)):FnOk P w K mg base (CXE P w) 4 f fd ["road","point","many"] (qz9 K qy qw qz qv):=by
 have sc:=sc_far
 refine F.okX sc (λvs H Q E h=>by obtain ⟨r,p,hs,t,b,m,rfl,_⟩:=h;rfl) (λcdv A outer s H vs Q E hr h=>?_)
 obtain ⟨r,p,hs,t,b,m,rfl,hR,hok,hp,hx⟩:=h
 obtain ⟨dx,q0,h1,h2⟩:=id hR
 obtain ⟨tm,g_FARTHEST⟩:=T.g_FARTHEST
 refine ⟨_,(qd (wf (i:=3) sc.nd rfl (by walk_at "loc") (wg (pv 0) T.cl c_on_road (hr.mono (by decide)) qb (q8 (pv 1) qc)))
   (qd (wp (uh c_check_count.all (hr.mono (by decide)) rfl qb (q8 (pv 2) (wv qu (q8 (vp (v:=V.int 1000000000000000000000000000000000000000000000000000000000000) rfl g_FARTHEST ⟨_,rfl⟩) qc)))))
   zm)),?_⟩
 refine exI rfl ⟨r,dx,exI rfl ⟨h1,x6 (by decide +kernel),_,rfl,?_⟩⟩
 dsimp only [x4,vd,tC]
 rcases hx with hx|⟨hg,hm,hx⟩
 ·exact j7 hR hok hp hx
 ·exact ux hR hok hp hg λq H1 s1=>⟨_,rfl,m,0,.int F60,some F60,rfl,.inr ⟨F60,rfl,rfl⟩,λhw=>absurd hw hm,λ_=>hx _ s1⟩
def jc (K:Aa)(C CB CO CC:Aj):Sp:=λvs H _ E=>∃(r p q:Aj) (hs:List Int) (t b m t' b':Int),vs=[.ref r,.ref p,.int m,.ref q]∧RoadAt C H r hs∧xq hs∧SqT K H p [.int t,.int b]∧SqT K H q [.int t',.int b'] ∧
 (Zr CB CO hs t b E H∨(Q1 hs t b∧¬ Within m 0 (some F60)∧∀H',Same H H'→E (.ref CC) none H')∨(Q1 hs t b∧Within m 0 (some F60)∧∀H',Same H H'→Zr CB CO hs t' b' E H'))
theorem qwp {f:Aj}{fd:Ad}(F:Fun K "stands" "stands" s_stands f fd)(T:Txt K mg qf qm qw qz qv qr ww qk qp qj qx wj qy qg qq)(c_check_count:CalD P w K mg base "check_count" 1 (uz qv))(c_on_road:MCal P w K mg base qy "on_road" 3 (zv K qy qw qz)):FnOk P w K mg base (CXE P w) 4 f fd ["road","point","many","other"] (jc K qy qw qz qv):=by
 have sc:=qws
 refine F.okX sc (λvs H Q E h=>by obtain ⟨r,p,q,hs,t,b,m,t',b',rfl,_⟩:=h;rfl) (λcdv A outer s H vs Q E hr h=>?_)
 obtain ⟨r,p,q,hs,t,b,m,t',b',rfl,hR,hok,hp,hq,hx⟩:=h
 obtain ⟨dx,q0,h1,h2⟩:=id hR
 obtain ⟨tm,g_FARTHEST⟩:=T.g_FARTHEST
 refine ⟨_,(qd (wf (i:=4) sc.nd rfl (by walk_at "loc") (wg (pv 0) T.cl c_on_road (hr.mono (by decide)) qb (q8 (pv 1) qc)))
   (qd (wp (uh c_check_count.all (hr.mono (by decide)) rfl qb (q8 (pv 2) (wv qu (q8 (vp (v:=V.int 1000000000000000000000000000000000000000000000000000000000000) rfl g_FARTHEST ⟨_,rfl⟩) qc)))))
   (qd (wf (i:=5) sc.nd rfl (by walk_at "loc") (wg (pv 0) T.cl c_on_road (hr.mono (by decide)) qb (q8 (pv 3) qc)))
   zm))),?_⟩
 refine exI rfl ⟨r,dx,exI rfl ⟨h1,x6 (by decide +kernel),_,rfl,?_⟩⟩
 dsimp only [x4,vd,tC]
 rcases hx with hx|⟨hg,hm,hx⟩|⟨hg,hm,hx⟩
 ·exact j7 hR hok hp hx
 ·exact ux hR hok hp hg λq H1 s1=>⟨_,rfl,m,0,.int F60,some F60,rfl,.inr ⟨F60,rfl,rfl⟩,λhw=>absurd hw hm,λ_=>hx _ s1⟩
 ·refine ux hR hok hp hg λq2 H1 s1=>⟨_,rfl,m,0,.int F60,some F60,rfl,.inr ⟨F60,rfl,rfl⟩,λhw=>?_,λz=>absurd hm z⟩
  refine exI rfl ⟨r,dx,exI rfl ⟨s1 _ _ h1,x6 (by decide +kernel),_,rfl,?_⟩⟩
  dsimp only [x4,vd,tC]
  exact j7 (hR.same s1) hok (s1.sqt hq) (hx H1 s1)
def vt (K:Aa)(C CB CO:Aj):Sp:=λvs H _ E=>∃(r p q:Aj) (hs:List Int) (t b t' b':Int),vs=[.ref r,.ref p,.ref q]∧RoadAt C H r hs∧xq hs∧SqT K H p [.int t,.int b]∧SqT K H q [.int t',.int b'] ∧
 (Zr CB CO hs t b E H∨(Q1 hs t b∧∀H',Same H H'→Zr CB CO hs t' b' E H'))
theorem Jr {f:Aj}{fd:Ad}(F:Fun K "meeting" "meeting" s_meeting f fd)(T:Txt K mg qf qm qw qz qv qr ww qk qp qj qx wj qy qg qq)(c_on_road:MCal P w K mg base qy "on_road" 3 (zv K qy qw qz)):FnOk P w K mg base (CXE P w) 4 f fd ["road","one","other"] (vt K qy qw qz):=by
 have sc:=Jw
 refine F.okX sc (λvs H Q E h=>by obtain ⟨r,p,q,hs,t,b,t',b',rfl,_⟩:=h;rfl) (λcdv A outer s H vs Q E hr h=>?_)
 obtain ⟨r,p,q,hs,t,b,t',b',rfl,hR,hok,hp,hq,hx⟩:=h
 obtain ⟨dx,q0,h1,h2⟩:=id hR
 refine ⟨_,(qd (wf (i:=3) sc.nd rfl (by walk_at "loc") (wg (pv 0) T.cl c_on_road (hr.mono (by decide)) qb (q8 (pv 1) qc)))
   (qd (wf (i:=4) sc.nd rfl (by walk_at "loc") (wg (pv 0) T.cl c_on_road (hr.mono (by decide)) qb (q8 (pv 2) qc)))
   zm)),?_⟩
 refine exI rfl ⟨r,dx,exI rfl ⟨h1,x6 (by decide +kernel),_,rfl,?_⟩⟩
 dsimp only [x4,vd,tC]
 rcases hx with hx|⟨hg,hx⟩
 ·exact j7 hR hok hp hx
 ·refine ux hR hok hp hg λq2 H1 s1=>?_
  refine exI rfl ⟨r,dx,exI rfl ⟨s1 _ _ h1,x6 (by decide +kernel),_,rfl,?_⟩⟩
  dsimp only [x4,vd,tC]
  exact j7 (hR.same s1) hok (s1.sqt hq) (hx H1 s1)
def spNo:Sp:=λ_ _ _ _=>False
theorem Jt {f:Aj}{fd:Ad}(F:Fun K "lengths" "lengths" s_lengths f fd)(T:Txt K mg qf qm qw qz qv qr ww qk qp qj qx wj qy qg qq):FnOk P w K mg base (CXE P w) 1 f fd ["road","most"] spNo :=
 F.okX qqd (λvs H Q E h=>h.elim) λcdv A outer s H vs Q E hr h=>h.elim
def jy (C CN:Aj)(k:Nat):Sp:=λvs H _ E=>∃(x dr dw dd:Aj) (R W:List (Key×V)) (D:List V) (n:Str) (us:List V),vs=.ref x::.str n::us∧us.length=k∧Hse C H x dr dw dd R W D∧w8 R (.inr n)=none∧E (.ref CN) none H
def W5 (C CN:Aj):Sp:=λvs H _ E=>∃(x dr dw dd:Aj) (R W:List (Key×V)) (D:List V) (n:Str) (u:V),vs=[.ref x,.str n,u]∧Hse C H x dr dw dd R W D∧w8 W (.inr n)=none∧E (.ref CN) none H
theorem zp {C CN:Aj}{H:Hp}{x dr dw dd:Aj}{R W:List (Key×V)}{D:List V}{n:Str}{b:Bool}{Q:VK}{E:XK}(hh:Hse C H x dr dw dd R W D)(e:w8 (if b then R else W) (.inr n)=none)(k:E (.ref CN) none H):xn C CN b [.ref x,.str n] H Q E :=
 ⟨x,dr,dw,dd,R,W,D,n,rfl,hh,(λv z=>by rw [e] at z;cases z),λ_=>k⟩
theorem qky {f:Aj}{fd:Ad}(F:Fun K "bend" "House.bend" s_House_bend f fd)(T:Txt K mg qf qm qw qz qv qr ww qk qp qj qx wj qy qg qq)(c_road_called:MCal P w K mg base qq "road_called" 1 (xn qq qj true))(c_corners:MCal P w K mg base qy "corners" 1 (j6 qy)):FnOk P w K mg base (CXE P w) 2 f fd ["self","name","corner","height"] (jy qq qj 2):=by
 have sc:=Q9
 refine F.okX sc (λvs H Q E h=>by obtain ⟨x,dr,dw,dd,R,W,D,n,us,rfl,l,_⟩:=h;show us.length+2=4;lia) (λcdv A outer s H vs Q E hr h=>?_)
 obtain ⟨x,dr,dw,dd,R,W,D,n,us,rfl,l,hh,e,k⟩:=h
 match us,l with
 |[u1,u2],_ =>
 obtain ⟨dx,hx⟩:=hh.ob
 refine ⟨_,(qd (wf (i:=4) sc.nd rfl (by walk_at "loc") (j8 (wg (pv 0) T.clH c_road_called (hr.mono (by decide)) qb (q8 (pv 1) qc)) T.cl c_corners (hr.mono (by decide)) qb))
   zm),?_⟩
 refine exI rfl ⟨x,dx,exI rfl ⟨hx,wt (by decide +kernel) (by decide +kernel) (by decide +kernel),_,rfl,?_⟩⟩
 dsimp only [x4,vd,tC]
 exact zp hh e k
theorem Yz {f:Aj}{fd:Ad}(F:Fun K "together" "House.together" s_House_together f fd)(T:Txt K mg qf qm qw qz qv qr ww qk qp qj qx wj qy qg qq)(c_road_called:MCal P w K mg base qq "road_called" 1 (xn qq qj true)):FnOk P w K mg base (CXE P w) 2 f fd ["self","whose","many"] (jy qq qj 1):=by
 have sc:=jp
 refine F.okX sc (λvs H Q E h=>by obtain ⟨x,dr,dw,dd,R,W,D,n,us,rfl,l,_⟩:=h;show us.length+2=3;lia) (λcdv A outer s H vs Q E hr h=>?_)
 obtain ⟨x,dr,dw,dd,R,W,D,n,us,rfl,l,hh,e,k⟩:=h
 match us,l with
 |[u1],_ =>
 obtain ⟨dx,hx⟩:=hh.ob
 refine ⟨_,(qd (wf (i:=3) sc.nd rfl (by walk_at "loc") (wg (pv 0) T.clH c_road_called (hr.mono (by decide)) qb (q8 (pv 1) qc)))
   zm),?_⟩
 refine exI rfl ⟨x,dx,exI rfl ⟨hx,wt (by decide +kernel) (by decide +kernel) (by decide +kernel),_,rfl,?_⟩⟩
 dsimp only [x4,vd,tC]
 exact zp hh e k
theorem Wq {f:Aj}{fd:Ad}(F:Fun K "lengths_of" "House.lengths_of" s_House_lengths_of f fd)(T:Txt K mg qf qm qw qz qv qr ww qk qp qj qx wj qy qg qq)(c_road_called:MCal P w K mg base qq "road_called" 1 (xn qq qj true))(c_lengths:Cal P w K mg base "lengths" 1 spNo):FnOk P w K mg base (CXE P w) 2 f fd ["self","name","most"] (jy qq qj 1):=by
 have sc:=v5
 refine F.okX sc (λvs H Q E h=>by obtain ⟨x,dr,dw,dd,R,W,D,n,us,rfl,l,_⟩:=h;show us.length+2=3;lia) (λcdv A outer s H vs Q E hr h=>?_)
 obtain ⟨x,dr,dw,dd,R,W,D,n,us,rfl,l,hh,e,k⟩:=h
 match us,l with
 |[u1],_ =>
 obtain ⟨dx,hx⟩:=hh.ob
 refine ⟨_,(qh (xv (wy c_lengths (hr.mono (by decide)) rfl qb (kj (wg (pv 0) T.clH c_road_called (hr.mono (by decide)) qb (q8 (pv 1) qc)) (q8 (pv 2) qc))))),?_⟩
 refine exI rfl ⟨x,dx,exI rfl ⟨hx,wt (by decide +kernel) (by decide +kernel) (by decide +kernel),_,rfl,?_⟩⟩
 dsimp only [x4,vd,tC]
 exact zp hh e k
theorem ok_go {f:Aj}{fd:Ad}(F:Fun K "go" "House.go" s_House_go f fd)(T:Txt K mg qf qm qw qz qv qr ww qk qp qj qx wj qy qg qq)(c_walker_called:MCal P w K mg base qq "walker_called" 1 (xn qq qx false)):FnOk P w K mg base (CXE P w) 2 f fd ["self","name","many"] (W5 qq qx):=by
 have sc:=Z8
 refine F.okX sc (λvs H Q E h=>by obtain ⟨x,dr,dw,dd,R,W,D,n,u,rfl,_⟩:=h;rfl) (λcdv A outer s H vs Q E hr h=>?_)
 obtain ⟨x,dr,dw,dd,R,W,D,n,u,rfl,hh,e,k⟩:=h
 obtain ⟨dx,hx⟩:=hh.ob
 refine ⟨_,(qd (wf (i:=3) sc.nd rfl (by walk_at "loc") (wg (pv 0) T.clH c_walker_called (hr.mono (by decide)) qb (q8 (pv 1) qc)))
   zm),?_⟩
 refine exI rfl ⟨x,dx,exI rfl ⟨hx,wt (by decide +kernel) (by decide +kernel) (by decide +kernel),_,rfl,?_⟩⟩
 dsimp only [x4,vd,tC]
 exact zp hh e k
theorem qz5 {f:Aj}{fd:Ad}(F:Fun K "stood" "House.stood" s_House_stood f fd)(T:Txt K mg qf qm qw qz qv qr ww qk qp qj qx wj qy qg qq)(c_walker_called:MCal P w K mg base qq "walker_called" 1 (xn qq qx false)):FnOk P w K mg base (CXE P w) 2 f fd ["self","name","point"] (W5 qq qx):=by
 have sc:=Qg
 refine F.okX sc (λvs H Q E h=>by obtain ⟨x,dr,dw,dd,R,W,D,n,u,rfl,_⟩:=h;rfl) (λcdv A outer s H vs Q E hr h=>?_)
 obtain ⟨x,dr,dw,dd,R,W,D,n,u,rfl,hh,e,k⟩:=h
 obtain ⟨dx,hx⟩:=hh.ob
 refine ⟨_,(qd (wf (i:=3) sc.nd rfl (by walk_at "loc") (wg (pv 0) T.clH c_walker_called (hr.mono (by decide)) qb (q8 (pv 1) qc)))
   zm),?_⟩
 refine exI rfl ⟨x,dx,exI rfl ⟨hx,wt (by decide +kernel) (by decide +kernel) (by decide +kernel),_,rfl,?_⟩⟩
 dsimp only [x4,vd,tC]
 exact zp hh e k
def qqc (C CN:Aj):Sp:=λvs H _ E=>∃(x dr dw dd:Aj) (R W:List (Key×V)) (D:List V) (n m:Str) (v:V),vs=[.ref x,.str n,.str m]∧Hse C H x dr dw dd R W D∧w8 W (.inr n)=some v∧w8 W (.inr m)=none∧E (.ref CN) none H
theorem qkd {f:Aj}{fd:Ad}(F:Fun K "meet" "House.meet" s_House_meet f fd)(T:Txt K mg qf qm qw qz qv qr ww qk qp qj qx wj qy qg qq)(c_walker_called:MCal P w K mg base qq "walker_called" 1 (xn qq qx false)):FnOk P w K mg base (CXE P w) 2 f fd ["self","one","other"] (qqc qq qx):=by
 have sc:=Wv
 refine F.okX sc (λvs H Q E h=>by obtain ⟨x,dr,dw,dd,R,W,D,n,m,v,rfl,_⟩:=h;rfl) (λcdv A outer s H vs Q E hr h=>?_)
 obtain ⟨x,dr,dw,dd,R,W,D,n,m,v,rfl,hh,e1,e,k⟩:=h
 obtain ⟨dx,hx⟩:=hh.ob
 refine ⟨_,(qd (wf (i:=3) sc.nd rfl (by walk_at "loc") (wg (pv 0) T.clH c_walker_called (hr.mono (by decide)) qb (q8 (pv 1) qc)))
   (qd (wf (i:=4) sc.nd rfl (by walk_at "loc") (wg (pv 0) T.clH c_walker_called (hr.mono (by decide)) qb (q8 (pv 2) qc)))
   zm)),?_⟩
 refine ⟨_,rfl,x,dx,_,rfl,hx,wt (by decide +kernel) (by decide +kernel) (by decide +kernel),_,rfl,x,dr,dw,dd,R,W,D,n,rfl,hh,λu eu=>?_,(λz=>by rw [show (if false=true then R else W)=W from rfl,e1] at z;cases z)⟩
 refine exI rfl ⟨x,dx,exI rfl ⟨hx,wt (by decide +kernel) (by decide +kernel) (by decide +kernel),_,rfl,?_⟩⟩
 dsimp only [x4,vd,tC]
 exact zp hh e k
end
section
variable {P:Ac}{w:Ah}{K:Aa}{mg:Str→Option Ag}{base:Heap}{qf:Aj}{qm:Aj}{qw:Aj}{qz:Aj}{qv:Aj}{qr:Aj}{ww:Aj}{qk:Aj}{qp:Aj}{qj:Aj}{qx:Aj}{wj:Aj}{qy:Aj}{qg:Aj}{qq:Aj}
theorem sz3 {x y z:V}:[x,y,z].length≤sizeLine:=by show 3≤sizeLine;decide
theorem qz3 {a:Str}{A B:Prop}(h:B):if (!decide (V.str a=V.str a))=true then A else B:=by
 rw [aW rfl]
 exact Zn h
def L020:List Int:=[0,2,0]
theorem yn:xq L020:=by
 refine ⟨by decide,by decide,λh hh=>?_⟩
 have:h=0∨h=2∨h=0:=by simpa [L020] using hh
 show 0≤h∧h≤(3:Int)-1
 lia
theorem vm:Q1 L020 2 2027:=⟨by decide,by unfold Sm;exact ag (show 2027<2 ^ 12 by decide) (bJ (by decide) (by decide)),by decide,by decide⟩
theorem Z9 {hs:List Int}(ok:xq hs):Q1 hs 0 1:=⟨by decide,by unfold Sm;exact ag (show 1<2 ^ 12 by decide) (bJ (by decide) (by decide)),by decide,by have:=ok.1;show 0≤((hs.length:Int)-1)*1;lia⟩
def BadP (hs:List Int)(t b:Int):Prop:=b<1∨(1≤b∧Sm 8000 b∧¬ zy hs t b∧¬ zy L020 t b)
theorem BadP.ref {CB CO:Aj}{hs:List Int}{t b:Int}{E:XK}{H:Hp}(h:BadP hs t b)(k:∀c,c=CB∨c=CO→∀H',Same H H'→E (.ref c) none H'):Zr CB CO hs t b E H:=by
 refine ⟨λb1=>?_,λ_=>k _ (.inl rfl) H (Same.refl _)⟩
 rcases h with h|⟨_,s,n,_⟩
 ·lia
 ·exact ⟨s,n,k _ (.inr rfl)⟩
theorem BadP.ref' {CB CO:Aj}{hs:List Int}{t b:Int}{E:XK}{H:Hp}(h:BadP hs t b)(k:∀c,c=CB∨c=CO→∀H',Same H H'→E (.ref c) none H'):Zr CB CO L020 t b E H:=by
 refine ⟨λb1=>?_,λ_=>k _ (.inl rfl) H (Same.refl _)⟩
 rcases h with h|⟨_,s,_,n⟩
 ·lia
 ·exact ⟨s,n,k _ (.inr rfl)⟩
def qqh (d:Int):Prop:=d=0∨d=1∨d=2∨d=5∨d=6
def qwv (d:Int):Prop:=d=3∨d=4∨d=7
def Zf (K:Aa)(C CB CO CC:Aj):Sp:=λvs H Q E=>∃(r p:Aj) (hs:List Int) (t b m d:Int),vs=[.int d,.ref r,.ref p,.int m]∧RoadAt C H r hs∧xq hs∧H p=some (.tup [.int t,.int b])∧BadP hs t b∧¬ Within m 0 (some F60)∧0≤d ∧
 (qqh d→∀c,c=CB∨c=CO→∀H',Same H H'→E (.ref c) none H')∧(qwv d→∀H',Same H H'→E (.ref CC) none H')∧(8≤d→∀H',Same H H'→Q .non H')
theorem w3:Within 3 0 (some F60):=⟨by decide,λb e=>by cases e;decide⟩
theorem qvv {f:Aj}{fd:Ad}(F:Fun K "_law_walks" "_law_walks" s__law_walks f fd)(T:Txt K mg qf qm qw qz qv qr ww qk qp qj qx wj qy qg qq)(c_walked:Cal P w K mg base "walked" 4 (Qb K qy qw qz))(c_far:Cal P w K mg base "far" 4 (qz9 K qy qw qz qv))(c_stands:Cal P w K mg base "stands" 4 (jc K qy qw qz qv))(c_meeting:Cal P w K mg base "meeting" 4 (vt K qy qw qz))
  (c_Road:CCal P w K mg base "Road" qy 2 (yu K qm qy)):FnOk P w K mg base (CXE P w) 5 f fd ["_law_door","_law_road","_law_bad","_law_many"] (Zf K qy qw qz qv):=by
 have sc:=Q8
 refine F.okX sc (λvs H Q E h=>by obtain ⟨r,p,hs,t,b,m,d,rfl,_⟩:=h;rfl) (λcdv A outer s H vs Q E hr h=>?_)
 obtain ⟨r,p,hs,t,b,m,d,rfl,hR,ok,hp,bad,hm,d0,kp,kc,k⟩:=h
 refine ⟨_,(qd (wf (i:=4) sc.nd rfl (by walk_at "loc") (zk (wv qu (wv qu qc))))
   (qd (w9 (wu xp (pv 0) qu (wm _)) (qh (wp (wy c_walked (hr.mono (by decide)) rfl qb (q8 (pv 1) (q8 (pv 2) (q8 (pv 3) qc)))))) wc)
   (qd (w9 (wu xp (pv 0) qu (wm _)) (qh (wp (wy c_far (hr.mono (by decide)) rfl qb (q8 (pv 1) (q8 (pv 2) (q8 (pv 3) qc)))))) wc)
   (qd (w9 (wu xp (pv 0) qu (wm _)) (qh (wp (wy c_stands (hr.mono (by decide)) rfl qb (q8 (pv 1) (q8 (pv 2) (q8 (pv 3) (ug (zk (wv qu (wv qu qc))) qc))))))) wc)
   (qd (w9 (wu xp (pv 0) qu (wm _)) (qh (wp (wy c_stands (hr.mono (by decide)) rfl qb (q8 (pv 1) (ug (zk (wv qu (wv qu qc))) (q8 (pv 3) (q8 (pv 2) qc))))))) wc)
   (qd (w9 (wu xp (pv 0) qu (wm _)) (qh (wp (wy c_stands (hr.mono (by decide)) rfl qb (kj (z0 c_Road (hr.mono (by decide)) rfl qb (Wr (z8 (wv qu (wv qu (wv qu qc)))) qc)) (q8 (pv 4) (q8 (pv 3) (ug (zk (wv qu (wv qu qc))) qc))))))) wc)
   (qd (w9 (wu xp (pv 0) qu (wm _)) (qh (wp (wy c_stands (hr.mono (by decide)) rfl qb (kj (z0 c_Road (hr.mono (by decide)) rfl qb (Wr (z8 (wv qu (wv qu (wv qu qc)))) qc)) (q8 (pv 4) (wv qu (q8 (pv 2) qc))))))) wc)
   (qd (w9 (wu xp (pv 0) qu (wm _)) (qh (wp (wy c_meeting (hr.mono (by decide)) rfl qb (kj (z0 c_Road (hr.mono (by decide)) rfl qb (Wr (z8 (wv qu (wv qu (wv qu qc)))) qc)) (q8 (pv 4) (q8 (pv 2) qc)))))) wc)
   (qh (w9 (wu xp (pv 0) qu (wm _)) (qh (wp (wy c_far (hr.mono (by decide)) rfl qb (kj (z0 c_Road (hr.mono (by decide)) rfl qb (Wr (z8 (wv qu (wv qu (wv qu qc)))) qc)) (q8 (pv 4) (q8 (pv 3) qc)))))) wc)))))))))),?_⟩
 refine ⟨sz2,λpl nl=>?_⟩
 have s1:Same H (upd H pl (.tup [.int 2,.int 2027])):=Same.upd nl
 have f1:upd H pl (.tup [.int 2,.int 2027]) pl=some (.tup [.int 2,.int 2027]):=q9
 generalize upd H pl (.tup [.int 2,.int 2027])=H1 at s1 f1
 have hR1:=hR.same s1
 have hp1:=s1 _ _ hp
 refine exI rfl ⟨rfl,_,rfl,zw (λe=>?_) (λe0=>?_)⟩
 ·exact exI rfl (exI rfl (exI rfl ⟨r,p,hs,t,b,m,rfl,hR1,ok,SqT.of hp1,bad.ref λc hc H' s'=>kp (.inl e) c hc H' (s1.trans s')⟩))
 refine exI rfl ⟨rfl,_,rfl,zw (λe=>?_) (λe1=>?_)⟩
 ·exact exI rfl (exI rfl (exI rfl ⟨r,p,hs,t,b,m,rfl,hR1,ok,SqT.of hp1,.inl (bad.ref λc hc H' s'=>kp (.inr (.inl e)) c hc H' (s1.trans s'))⟩))
 refine exI rfl ⟨rfl,_,rfl,zw (λe=>?_) (λe2=>?_)⟩
 ·refine exI rfl (exI rfl (exI rfl ⟨sz2,λq nq=>?_⟩))
  have s2:=s1.trans (Same.upd (o:=.tup [.int 0,.int 1]) nq)
  exact ⟨r,p,q,hs,t,b,m,0,1,rfl,hR.same s2,ok,SqT.of (s2 _ _ hp),SqT.new,.inl (bad.ref λc hc H' s'=>kp (.inr (.inr (.inl e))) c hc H' (s2.trans s'))⟩
 refine exI rfl ⟨rfl,_,rfl,zw (λe=>?_) (λe3=>?_)⟩
 ·refine exI rfl ⟨sz2,λq nq=>?_⟩
  have s2:=s1.trans (Same.upd (o:=.tup [.int 0,.int 1]) nq)
  exact exI rfl (exI rfl ⟨r,q,p,hs,0,1,m,t,b,rfl,hR.same s2,ok,SqT.new,SqT.of (s2 _ _ hp),.inr (.inl ⟨Z9 ok,hm,λH' s'=>kc (.inl e) H' (s2.trans s')⟩)⟩)
 refine exI rfl ⟨rfl,_,rfl,zw (λe=>?_) (λe4=>?_)⟩
 ·refine ⟨sz3,λpz nz=>λr2 d2 nr nd0 ne0=>v4 (H:=upd H1 pz (.lst (L020.map V.int))) (hs:=L020) q9 nr nd0 (λokl H3 s3 R3=>?_) λz=>absurd yn z⟩
  have s13:Same H1 H3:=(Same.upd nz).trans s3
  refine exI rfl (exI rfl ⟨sz2,λq nq=>?_⟩)
  have s4:=Same.upd (H:=H3) (o:=.tup [.int 0,.int 1]) nq
  exact ⟨r2,pl,q,L020,2,2027,m,0,1,rfl,R3.same s4,yn,SqT.of (s4 _ _ (s13 _ _ f1)),SqT.new,.inr (.inl ⟨vm,hm,λH' s'=>kc (.inr (.inl e)) H' (((s1.trans s13).trans s4).trans s')⟩)⟩
 refine exI rfl ⟨rfl,_,rfl,zw (λe=>?_) (λe5=>?_)⟩
 ·refine ⟨sz3,λpz nz=>λr2 d2 nr nd0 ne0=>v4 (H:=upd H1 pz (.lst (L020.map V.int))) (hs:=L020) q9 nr nd0 (λokl H3 s3 R3=>?_) λz=>absurd yn z⟩
  have s13:Same H1 H3:=(Same.upd nz).trans s3
  exact exI rfl (exI rfl ⟨r2,pl,p,L020,2,2027,3,t,b,rfl,R3,yn,SqT.of (s13 _ _ f1),SqT.of (s13 _ _ hp1),.inr (.inr ⟨vm,w3,λH4 s4=>bad.ref' λc hc H' s'=>kp (.inr (.inr (.inr (.inl e)))) c hc H' (((s1.trans s13).trans s4).trans s')⟩)⟩)
 refine exI rfl ⟨rfl,_,rfl,zw (λe=>?_) (λe6=>?_)⟩
 ·refine ⟨sz3,λpz nz=>λr2 d2 nr nd0 ne0=>v4 (H:=upd H1 pz (.lst (L020.map V.int))) (hs:=L020) q9 nr nd0 (λokl H3 s3 R3=>?_) λz=>absurd yn z⟩
  have s13:Same H1 H3:=(Same.upd nz).trans s3
  exact exI rfl (exI rfl ⟨r2,pl,p,L020,2,2027,t,b,rfl,R3,yn,SqT.of (s13 _ _ f1),SqT.of (s13 _ _ hp1),.inr ⟨vm,λH4 s4=>bad.ref' λc hc H' s'=>kp (.inr (.inr (.inr (.inr e)))) c hc H' (((s1.trans s13).trans s4).trans s')⟩⟩)
 refine exI rfl ⟨rfl,_,rfl,zw (λe=>?_) (λe7=>?_)⟩
 ·refine ⟨sz3,λpz nz=>λr2 d2 nr nd0 ne0=>v4 (H:=upd H1 pz (.lst (L020.map V.int))) (hs:=L020) q9 nr nd0 (λokl H3 s3 R3=>?_) λz=>absurd yn z⟩
  have s13:Same H1 H3:=(Same.upd nz).trans s3
  exact exI rfl (exI rfl ⟨r2,pl,L020,2,2027,m,rfl,R3,yn,SqT.of (s13 _ _ f1),.inr ⟨vm,hm,λH' s'=>kc (.inr (.inr e)) H' ((s1.trans s13).trans s')⟩⟩)
 exact k (by lia) H1 s1
def Zk (C CR CN CT CNR CNW:Aj):Sp:=λvs H _ E=>∃(x dr dw dd a:Aj) (R W:List (Key×V)) (D:List V) (v:V) (t b m d:Int),vs=[.int d,.ref x,.ref a,.int m]∧Hse C H x dr dw dd R W D∧R.length≤1000∧W.length≤1000∧D.length≤1000000∧H a=some (.tup [.int t,.int b]) ∧
 w8 R (.inr ("strange" : Str))=none∧w8 W (.inr ("strange" : Str))=none∧w8 W (.inr ("a" : Str))=some v∧w8 W (.inr ("new" : Str))=none∧8≤d∧d≤16∧(d=8→∀H',Same H H'→E (.ref CN) none H')∧(d=9→∀H',Same H H'→E (.ref CT) none H') ∧
 (d=10∨d=11∨d=13∨d=14→∀H',Same H H'→E (.ref CNR) none H')∧(d=12∨d=15∨d=16→∀H',Same H H'→E (.ref CNW) none H')
theorem qzg {f:Aj}{fd:Ad}(F:Fun K "_law_house_asked" "_law_house_asked" s__law_house_asked f fd)(T:Txt K mg qf qm qw qz qv qr ww qk qp qj qx wj qy qg qq)(c_place:MCal P w K mg base qq "place" 5 (jh K qq qy qg qk qp qj qw qz))(c_bend:MCal P w K mg base qq "bend" 2 (jy qq qj 2))(c_go:MCal P w K mg base qq "go" 2 (W5 qq qx))(c_together:MCal P w K mg base qq "together" 2 (jy qq qj 1))(c_lengths_of:MCal P w K mg base qq "lengths_of" 2 (jy qq qj 1))(c_stood:MCal P w K mg base qq "stood" 2 (W5 qq qx))(c_meet:MCal P w K mg base qq "meet" 2 (qqc qq qx)) :
  FnOk P w K mg base (CXE P w) 6 f fd ["_law_door","_law_house","_law_bad","_law_many"] (Zk qq qy qk qp qj qx):=by
 have sc:=v6
 refine F.okX sc (λvs H Q E h=>by obtain ⟨x,dr,dw,dd,a,R,W,D,v,t,b,m,d,rfl,_⟩:=h;rfl) (λcdv A outer s H vs Q E hr h=>?_)
 obtain ⟨x,dr,dw,dd,a,R,W,D,v,t,b,m,d,rfl,hh,lR,lW,lD,ha,vR,vW,va,vn,d0,d1,k8,k9,kr,kw⟩:=h
 obtain ⟨dx,hx⟩:=hh.ob
 have nA:xt ("A" : Str)=false:=by decide +kernel
 have na:xt ("a" : Str)=true:=by decide +kernel
 have nn:xt ("new" : Str)=true:=by decide +kernel
 have lA:("A" : Str).length≤1000:=by decide +kernel
 have la:("a" : Str).length≤1000:=by decide +kernel
 have ln:("new" : Str).length≤1000:=by decide +kernel
 refine ⟨_,(qd (w9 (wu xp (pv 0) qu (wm _)) (qh (wp (wg (pv 1) T.clH c_place (hr.mono (by decide)) qb (wv wn (wv wn (q8 (pv 2) qc)))))) wc)
   (qd (w9 (wu xp (pv 0) qu (wm _)) (qh (wp (wg (pv 1) T.clH c_place (hr.mono (by decide)) qb (wv wn (wv wn (q8 (pv 2) qc)))))) wc)
   (qd (w9 (wu xp (pv 0) qu (wm _)) (qh (wp (wg (pv 1) T.clH c_place (hr.mono (by decide)) qb (wv wn (wv wn (q8 (pv 2) qc)))))) wc)
   (qd (w9 (wu xp (pv 0) qu (wm _)) (qh (wp (wg (pv 1) T.clH c_bend (hr.mono (by decide)) qb (wv wn (q8 (pv 3) (q8 (pv 3) qc)))))) wc)
   (qd (w9 (wu xp (pv 0) qu (wm _)) (qh (wp (wg (pv 1) T.clH c_go (hr.mono (by decide)) qb (wv wn (q8 (pv 3) qc))))) wc)
   (qd (w9 (wu xp (pv 0) qu (wm _)) (qh (wp (wg (pv 1) T.clH c_together (hr.mono (by decide)) qb (wv wn (q8 (pv 3) qc))))) wc)
   (qd (w9 (wu xp (pv 0) qu (wm _)) (qh (wp (wg (pv 1) T.clH c_lengths_of (hr.mono (by decide)) qb (wv wn (q8 (pv 3) qc))))) wc)
   (qd (w9 (wu xp (pv 0) qu (wm _)) (qh (wp (wg (pv 1) T.clH c_stood (hr.mono (by decide)) qb (wv wn (q8 (pv 2) qc))))) wc)
   (qh (w9 (wu xp (pv 0) qu (wm _)) (qh (wp (wg (pv 1) T.clH c_meet (hr.mono (by decide)) qb (wv wn (wv wn qc))))) wc)))))))))),?_⟩
 refine exI rfl ⟨rfl,_,rfl,zw (λe=>?_) (λe0=>?_)⟩
 ·exact exI rfl ⟨x,dx,exI rfl ⟨hx,wt (by decide +kernel) (by decide +kernel) (by decide +kernel),exI rfl ⟨x,dr,dw,dd,a,R,W,D,"A","strange",t,b,rfl,hh,lR,lW,lD,lA,ha,(λ_=>k8 e),(λz=>by rw [nA] at z;cases z),λz=>by rw [nA] at z;cases z⟩⟩⟩
 refine exI rfl ⟨rfl,_,rfl,zw (λe=>?_) (λe1=>?_)⟩
 ·exact exI rfl ⟨x,dx,exI rfl ⟨hx,wt (by decide +kernel) (by decide +kernel) (by decide +kernel),exI rfl ⟨x,dr,dw,dd,a,R,W,D,"a","strange",t,b,rfl,hh,lR,lW,lD,la,ha,(λz=>by rw [na] at z;cases z),(λ_ _=>k9 e),λ_ z=>by rw [va] at z;cases z⟩⟩⟩
 refine exI rfl ⟨rfl,_,rfl,zw (λe=>?_) (λe2=>?_)⟩
 ·exact exI rfl ⟨x,dx,exI rfl ⟨hx,wt (by decide +kernel) (by decide +kernel) (by decide +kernel),exI rfl ⟨x,dr,dw,dd,a,R,W,D,"new","strange",t,b,rfl,hh,lR,lW,lD,ln,ha,(λz=>by rw [nn] at z;cases z),(λ_ z=>by rw [vn] at z;cases z),λ_ _=>⟨λ_=>kr (.inl e),λv z=>by rw [vR] at z;cases z⟩⟩⟩⟩
 refine exI rfl ⟨rfl,_,rfl,zw (λe=>?_) (λe3=>?_)⟩
 ·exact exI rfl ⟨x,dx,exI rfl ⟨hx,wt (by decide +kernel) (by decide +kernel) (by decide +kernel),exI rfl (exI rfl ⟨x,dr,dw,dd,R,W,D,"strange",exI rfl ⟨rfl,hh,vR,kr (.inr (.inl e)) H (Same.refl _)⟩⟩)⟩⟩
 refine exI rfl ⟨rfl,_,rfl,zw (λe=>?_) (λe4=>?_)⟩
 ·exact exI rfl ⟨x,dx,exI rfl ⟨hx,wt (by decide +kernel) (by decide +kernel) (by decide +kernel),exI rfl ⟨x,dr,dw,dd,R,W,D,"strange",exI rfl ⟨hh,vW,kw (.inl e) H (Same.refl _)⟩⟩⟩⟩
 refine exI rfl ⟨rfl,_,rfl,zw (λe=>?_) (λe5=>?_)⟩
 ·exact exI rfl ⟨x,dx,exI rfl ⟨hx,wt (by decide +kernel) (by decide +kernel) (by decide +kernel),exI rfl ⟨x,dr,dw,dd,R,W,D,"strange",exI rfl ⟨rfl,hh,vR,kr (.inr (.inr (.inl e))) H (Same.refl _)⟩⟩⟩⟩
 refine exI rfl ⟨rfl,_,rfl,zw (λe=>?_) (λe6=>?_)⟩
 ·exact exI rfl ⟨x,dx,exI rfl ⟨hx,wt (by decide +kernel) (by decide +kernel) (by decide +kernel),exI rfl ⟨x,dr,dw,dd,R,W,D,"strange",exI rfl ⟨rfl,hh,vR,kr (.inr (.inr (.inr e))) H (Same.refl _)⟩⟩⟩⟩
 refine exI rfl ⟨rfl,_,rfl,zw (λe=>?_) (λe7=>?_)⟩
 ·exact exI rfl ⟨x,dx,exI rfl ⟨hx,wt (by decide +kernel) (by decide +kernel) (by decide +kernel),exI rfl ⟨x,dr,dw,dd,R,W,D,"strange",exI rfl ⟨hh,vW,kw (.inr (.inl e)) H (Same.refl _)⟩⟩⟩⟩
 refine exI rfl ⟨rfl,_,rfl,zw (λe=>?_) (λe8=>absurd d1 (by lia))⟩
 exact exI rfl ⟨x,dx,exI rfl ⟨hx,wt (by decide +kernel) (by decide +kernel) (by decide +kernel),x,dr,dw,dd,R,W,D,"a","strange",v,rfl,hh,va,vW,kw (.inr (.inr e)) H (Same.refl _)⟩⟩
theorem hitA {C D1 D2:Aj}{b:Bool}(h1:PySem.W.mroIn K C (.ref D1)=some true)(h2:PySem.W.mroIn K C (.ref D2)=some b):Hit K C [D1,D2] true:=.two h1 h2
theorem hitB {C D1 D2:Aj}(h1:PySem.W.mroIn K C (.ref D1)=some false)(h2:PySem.W.mroIn K C (.ref D2)=some true):Hit K C [D1,D2] true:=.two h1 h2
theorem Jf {C D1 D2:Aj}(h1:PySem.W.mroIn K C (.ref D1)=some false)(h2:PySem.W.mroIn K C (.ref D2)=some false):Hit K C [D1,D2] false:=.two h1 h2
def dueS (d:Int):Str:=if d=8 then "name" else if d=9 then "taken" else if 10≤d then "strange" else if d=3∨d=4∨d=7 then "count" else "point"
theorem due_p {d:Int}(h:qqh d):dueS d = "point" := by
 rcases h with rfl|rfl|rfl|rfl|rfl <;> rfl
theorem due_c {d:Int}(h:qwv d):dueS d = "count" := by
 rcases h with rfl|rfl|rfl <;> rfl
theorem due_s {d:Int}(h:10≤d):dueS d = "strange" := by
 unfold dueS
 rw [ax (by lia),ax (by lia),aF h]
def Qy (K:Aa)(C CR:Aj):Sp:=λvs H Q _=>∃(r x dr dw dd p:Aj) (hs:List Int) (R W:List (Key×V)) (D:List V) (v:V) (t b m d:Int),vs=[.int d,.ref r,.ref x,.ref p,.int m]∧RoadAt CR H r hs∧xq hs∧H p=some (.tup [.int t,.int b])∧BadP hs t b∧¬ Within m 0 (some F60)∧Hse C H x dr dw dd R W D∧R.length≤1000∧W.length≤1000∧D.length≤1000000 ∧
 w8 R (.inr ("strange" : Str))=none∧w8 W (.inr ("strange" : Str))=none∧w8 W (.inr ("a" : Str))=some v∧w8 W (.inr ("new" : Str))=none∧0≤d∧d≤16∧∀H',Same H H'→Q (.str (dueS d)) H'
theorem qvf {f:Aj}{fd:Ad}(F:Fun K "_law_told" "_law_told" s__law_told f fd)(T:Txt K mg qf qm qw qz qv qr ww qk qp qj qx wj qy qg qq)(c__law_walks:Cal P w K mg base "_law_walks" 5 (Zf K qy qw qz qv))(c__law_house_asked:Cal P w K mg base "_law_house_asked" 6 (Zk qq qy qk qp qj qx)) :
  FnOk P w K mg base (CXE P w) 7 f fd ["_law_door","_law_road","_law_house","_law_bad","_law_many"] (Qy K qq qy):=by
 have sc:=W9
 refine F.okX sc (λvs H Q E h=>by obtain ⟨r,x,dr,dw,dd,p,hs,R,W,D,v,t,b,m,d,rfl,_⟩:=h;rfl) (λcdv A outer s H vs Q E hr h=>?_)
 obtain ⟨r,x,dr,dw,dd,p,hs,R,W,D,v,t,b,m,d,rfl,hR,ok,hp,bad,hm,hh,lR,lW,lD,vR,vW,va,vn,d0,d1,k⟩:=h
 refine ⟨_,(qd (wf (i:=5) sc.nd rfl (by walk_at "loc") wn)
   (qd (qwq rfl rfl (λpn xe E hE hO=>(qd (wp (wy c__law_walks (hr.mono (by decide)) rfl hE (q8 (pv 0) (q8 (pv 1) (q8 (pv 3) (q8 (pv 4) qc))))))
   (qh (wp (wy c__law_house_asked (hr.mono (by decide)) rfl hE (q8 (pv 0) (q8 (pv 2) (q8 (pv 3) (q8 (pv 4) qc))))))))) (.two rfl T.g_BadBottom T.x_BadBottom rfl T.g_OffRoad T.x_OffRoad (λe=>(qh (wf (i:=5) sc.nd rfl (by walk_at "loc") wn))) (.one rfl T.g_BadCount T.x_BadCount (λe=>(qh (wf (i:=5) sc.nd rfl (by walk_at "loc") wn))) (.one rfl T.g_TooLong T.x_TooLong (λe=>(qh (wf (i:=5) sc.nd rfl (by walk_at "loc") wn))) (.two rfl T.g_NoRoad T.x_NoRoad rfl T.g_NoWalker T.x_NoWalker (λe=>(qh (wf (i:=5) sc.nd rfl (by walk_at "loc") wn))) (.one rfl T.g_BadName T.x_BadName (λe=>(qh (wf (i:=5) sc.nd rfl (by walk_at "loc") wn))) (.one rfl T.g_Taken T.x_Taken (λe=>(qh (wf (i:=5) sc.nd rfl (by walk_at "loc") wn))) (.two rfl T.g_BadLine T.x_BadLine rfl T.g_Apart T.x_Apart (λe=>(qh (wf (i:=5) sc.nd rfl (by walk_at "loc") wn))) (.one rfl T.g_RoadError T.x_RoadError (λe=>(qh (wf (i:=5) sc.nd rfl (by walk_at "loc") wn))) .nil (by decide)) (by decide) (by decide)) (by decide)) (by decide)) (by decide) (by decide)) (by decide)) (by decide)) (by decide) (by decide)))
   (qh (xv (pv 5))))),?_⟩
 refine ⟨_,rfl,_,rfl,_,rfl,_,rfl,r,p,hs,t,b,m,d,rfl,hR,ok,hp,bad,hm,d0,λz c hc H' s'=>?_,λz H' s'=>?_,λz H1 s1=>?_⟩
 ·rw [due_p z] at k
  rcases hc with rfl|rfl
  ·exact exI rfl (.inl ⟨hitA T.m_BadBottom_BadBottom T.m_BadBottom_OffRoad,_,rfl,k H' s'⟩)
  ·exact exI rfl (.inl ⟨hitB T.m_OffRoad_BadBottom T.m_OffRoad_OffRoad,_,rfl,k H' s'⟩)
 ·rw [due_c z] at k
  exact exI rfl (.inr ⟨Jf T.m_BadCount_BadBottom T.m_BadCount_OffRoad,.inl ⟨.one T.m_BadCount_BadCount,_,rfl,k H' s'⟩⟩)
 ·refine ⟨_,rfl,_,rfl,_,rfl,_,rfl,x,dr,dw,dd,p,R,W,D,v,t,b,m,d,rfl,hh.same s1,lR,lW,lD,s1 _ _ hp,vR,vW,va,vn,z,d1,λe H' s'=>?_,λe H' s'=>?_,λe H' s'=>?_,λe H' s'=>?_⟩
  ·subst e
   exact exI rfl (.inr ⟨Jf T.m_BadName_BadBottom T.m_BadName_OffRoad,.inr ⟨.one T.m_BadName_BadCount,.inr ⟨.one T.m_BadName_TooLong,.inr ⟨Jf T.m_BadName_NoRoad T.m_BadName_NoWalker,.inl ⟨.one T.m_BadName_BadName,_,rfl,k H' (s1.trans s')⟩⟩⟩⟩⟩)
  ·subst e
   exact exI rfl (.inr ⟨Jf T.m_Taken_BadBottom T.m_Taken_OffRoad,.inr ⟨.one T.m_Taken_BadCount,.inr ⟨.one T.m_Taken_TooLong,.inr ⟨Jf T.m_Taken_NoRoad T.m_Taken_NoWalker,.inr ⟨.one T.m_Taken_BadName,.inl ⟨.one T.m_Taken_Taken,_,rfl,k H' (s1.trans s')⟩⟩⟩⟩⟩⟩)
  ·rw [due_s (by lia)] at k
   exact exI rfl (.inr ⟨Jf T.m_NoRoad_BadBottom T.m_NoRoad_OffRoad,.inr ⟨.one T.m_NoRoad_BadCount,.inr ⟨.one T.m_NoRoad_TooLong,.inl ⟨hitA T.m_NoRoad_NoRoad T.m_NoRoad_NoWalker,_,rfl,k H' (s1.trans s')⟩⟩⟩⟩)
  ·rw [due_s (by lia)] at k
   exact exI rfl (.inr ⟨Jf T.m_NoWalker_BadBottom T.m_NoWalker_OffRoad,.inr ⟨.one T.m_NoWalker_BadCount,.inr ⟨.one T.m_NoWalker_TooLong,.inl ⟨hitB T.m_NoWalker_NoRoad T.m_NoWalker_NoWalker,_,rfl,k H' (s1.trans s')⟩⟩⟩⟩)
def qqy (K:Aa)(C:Aj):Sp:=λvs H Q _=>∃(r p q:Aj) (hs:List Int) (t b t' b' d:Int),vs=[.ref r,.int d,.ref p,.ref q]∧RoadAt C H r hs∧xq hs∧H p=some (.tup [.int t,.int b])∧H q=some (.tup [.int t',.int b']) ∧
 (1≤b→Sm 8000 b∧¬ zy hs t b∧∀H',Same H H'→Q (.str "off") H')∧(b<1→∀H',Same H H'→Q (.str "bottom") H')
theorem qv5 {f:Aj}{fd:Ad}(F:Fun K "_law_two_points" "_law_two_points" s__law_two_points f fd)(T:Txt K mg qf qm qw qz qv qr ww qk qp qj qx wj qy qg qq)(c_meeting:Cal P w K mg base "meeting" 4 (vt K qy qw qz))(c_stands:Cal P w K mg base "stands" 4 (jc K qy qw qz qv)) :
  FnOk P w K mg base (CXE P w) 5 f fd ["_law_road","_law_door","_law_one","_law_other"] (qqy K qy):=by
 have sc:=k6
 refine F.okX sc (λvs H Q E h=>by obtain ⟨r,p,q,hs,t,b,t',b',d,rfl,_⟩:=h;rfl) (λcdv A outer s H vs Q E hr h=>?_)
 obtain ⟨r,p,q,hs,t,b,t',b',d,rfl,hR,ok,hp,hq,k1,k2⟩:=h
 refine ⟨_,(qd (wf (i:=4) sc.nd rfl (by walk_at "loc") wn)
   (qd (qwq rfl rfl (λpn xe E hE hO=>(qh (w9 (wu xp (pv 1) qu (wm _)) (qh (wp (wy c_meeting (hr.mono (by decide)) rfl hE (q8 (pv 0) (q8 (pv 2) (q8 (pv 3) qc)))))) (qh (wp (wy c_stands (hr.mono (by decide)) rfl hE (q8 (pv 0) (q8 (pv 2) (wv qu (q8 (pv 3) qc)))))))))) (.one rfl T.g_BadBottom T.x_BadBottom (λe=>(qh (wf (i:=4) sc.nd rfl (by walk_at "loc") wn))) (.one rfl T.g_OffRoad T.x_OffRoad (λe=>(qh (wf (i:=4) sc.nd rfl (by walk_at "loc") wn))) (.one rfl T.g_RoadError T.x_RoadError (λe=>(qh (wf (i:=4) sc.nd rfl (by walk_at "loc") wn))) .nil (by decide)) (by decide)) (by decide)))
   (qh (xv (pv 4))))),?_⟩
 refine exI rfl ⟨rfl,_,rfl,zw (λe=>?_) (λe=>?_)⟩
 ·refine exI rfl (exI rfl (exI rfl ⟨r,p,q,hs,t,b,t',b',rfl,hR,ok,SqT.of hp,SqT.of hq,.inl ⟨λb1=>⟨(k1 b1).1,(k1 b1).2.1,λH' s'=>?_⟩,λb1=>?_⟩⟩))
  ·exact exI rfl (.inr ⟨.one T.m_OffRoad_BadBottom,.inl ⟨.one T.m_OffRoad_OffRoad,_,rfl,(k1 b1).2.2 H' s'⟩⟩)
  ·exact exI rfl (.inl ⟨.one T.m_BadBottom_BadBottom,_,rfl,k2 b1 H (Same.refl _)⟩)
 ·refine exI rfl (exI rfl (exI rfl ⟨r,p,q,hs,t,b,5,t',b',rfl,hR,ok,SqT.of hp,SqT.of hq,.inl ⟨λb1=>⟨(k1 b1).1,(k1 b1).2.1,λH' s'=>?_⟩,λb1=>?_⟩⟩))
  ·exact exI rfl (.inr ⟨.one T.m_OffRoad_BadBottom,.inl ⟨.one T.m_OffRoad_OffRoad,_,rfl,(k1 b1).2.2 H' s'⟩⟩)
  ·exact exI rfl (.inl ⟨.one T.m_BadBottom_BadBottom,_,rfl,k2 b1 H (Same.refl _)⟩)
def Zq (K:Aa)(C:Aj):Sp:=λvs H Q _=>∃(r p q:Aj) (hs:List Int) (t b t' b':Int),vs=[.ref r,.ref p,.ref q]∧RoadAt C H r hs∧xq hs∧H p=some (.tup [.int t,.int b])∧H q=some (.tup [.int t',.int b']) ∧
 1≤b∧Sm 8000 b∧¬ zy hs t b∧b'<1∧∀H',Same H H'→Q (.bl true) H'
theorem qzv {f:Aj}{fd:Ad}(F:Fun K "_law_first_goes" "_law_first_goes" s__law_first_goes f fd)(T:Txt K mg qf qm qw qz qv qr ww qk qp qj qx wj qy qg qq)(c__law_two_points:Cal P w K mg base "_law_two_points" 5 (qqy K qy)) :
  FnOk P w K mg base (CXE P w) 6 f fd ["_law_road","_law_off","_law_low"] (Zq K qy):=by
 have sc:=ku
 refine F.okX sc (λvs H Q E h=>by obtain ⟨r,p,q,hs,t,b,t',b',rfl,_⟩:=h;rfl) (λcdv A outer s H vs Q E hr h=>?_)
 obtain ⟨r,p,q,hs,t,b,t',b',rfl,hR,ok,hp,hq,b1,sb,nb,b2,k⟩:=h
 refine ⟨_,(qd (Z2 bo rfl (v3 rfl T.range_ (wv qu qc)) (zh (i:=3) sc.nd rfl (by walk_at "loc")) (qd (w9 (wu qx3 (wy c__law_two_points (hr.mono (by decide)) rfl qb (q8 (pv 0) (q8 (pv 3) (q8 (pv 1) (q8 (pv 2) qc))))) wn (wm _)) (qh (xv uc)) wc)
   (qh (w9 (wu qx3 (wy c__law_two_points (hr.mono (by decide)) rfl qb (q8 (pv 0) (q8 (pv 3) (q8 (pv 2) (q8 (pv 1) qc))))) wn (wm _)) (qh (xv uc)) wc))))
   (qh (xv uc))),?_⟩
 refine exI rfl ⟨(by decide),(by decide),yw (n:=(2:Int).toNat) (λi σ H'=>Same H H'∧∃z,σ=[some (.ref r),some (.ref p),some (.ref q),z]) ⟨Same.refl _,_,rfl⟩ ?_ ?_⟩
 ·rintro i σ H1 hi ⟨s1,z,rfl⟩
  refine ⟨_,rfl,_,rfl,_,rfl,_,rfl,r,p,q,hs,t,b,t',b',_,rfl,hR.same s1,ok,s1 _ _ hp,s1 _ _ hq,λ_=>⟨sb,nb,λH2 s2=>?_⟩,λy=>absurd b1 (by lia)⟩
  refine ⟨rfl,_,rfl,qz3 ?_⟩
  have s12:=s1.trans s2
  refine ⟨_,rfl,_,rfl,_,rfl,_,rfl,r,q,p,hs,t',b',t,b,_,rfl,hR.same s12,ok,s12 _ _ hq,s12 _ _ hp,λy=>absurd b2 (by lia),λ_ H3 s3=>?_⟩
  exact ⟨rfl,_,rfl,qz3 ⟨s12.trans s3,_,rfl⟩⟩
 ·rintro σ H1 ⟨s1,z,rfl⟩
  exact k H1 s1
end
section
variable {P:Ac}{w:Ah}{K:Aa}{mg:Str→Option Ag}{base:Heap}{qf:Aj}{qm:Aj}{qw:Aj}{qz:Aj}{qv:Aj}{qr:Aj}{ww:Aj}{qk:Aj}{qp:Aj}{qj:Aj}{qx:Aj}{wj:Aj}{qy:Aj}{qg:Aj}{qq:Aj}
def qqr:List Expr→Option (List V)
 |[]=>some []
 |.Constant (.str x) _ _::r=>(qqr r).map (V.str x::·)
 |_=>none
theorem Zw {X:Cx}:∀ {es:List Expr} {vs:List V},qqr es=some vs→PA X es (λ_ H Q=>Q vs H)
 |[],vs,h=>by
  cases h
  exact qc
 |e::r,vs,h=>by
  unfold qqr at h
  split at h
  ·next _=>simp at *
  ·next x j p r' he =>
   cases he
   obtain ⟨ws,hw,rfl⟩:=Option.map_eq_some_iff.mp h
   exact wv wn (Zw hw)
  ·cases h
theorem J1 {k:Key}{v:V}{t:List (Key×V)}:w8 ((k,v)::t) k=some v:=by
 unfold w8
 rw [aS,aW rfl]
 rfl
theorem yx {k k':Key}{v:V}{t:List (Key×V)}(h:k≠k'):w8 ((k,v)::t) k'=w8 t k':=by
 unfold w8
 rw [aS,aK h]
def Yc (m n:Str)(r s:Aj):List (Key×V):=[(.inr m,.ref r),(.inr n,.ref s)]
theorem qwy {m n:Str}{r s:Aj}(h:(Sum.inr m:Key)≠.inr n):zx (zx [] (.inr m) (.ref r)) (.inr n) (.ref s)=Yc m n r s:=by
 rw [zt (kvs:=[]) _ rfl,cB,zt _ (by rw [yx h];rfl)]
 rfl
theorem Jb {m n x:Str}{r s:Aj}(h1:(Sum.inr m:Key)≠.inr x)(h2:(Sum.inr n:Key)≠.inr x):w8 (Yc m n r s) (.inr x)=none:=by
 unfold Yc
 rw [yx h1,yx h2]
 rfl
theorem Z4 {C:Aj}{H H':Hp}{x dr dw dd:Aj}{R W:List (Key×V)}{D:List V}(hh:Hse C H x dr dw dd R W D)(k:Kb [dr,dw,dd] H H'){a:Aj}{xs:List V}(e:H a=some (.tup xs)):H' a=some (.tup xs):=k _ _ (λz=>by
 simp only [aq,au,bW] at z
 rcases z with rfl|rfl|rfl
 ·rw [hh.r] at e;cases e
 ·rw [hh.w] at e;cases e
 ·rw [hh.d] at e;cases e) e
theorem vh {C CR:Aj}{H H':Hp}{x dr dw dd:Aj}{R W:List (Key×V)}{D:List V}(hh:Hse C H x dr dw dd R W D)(rf:Refs D)(k:Kb [dr,dw,dd] H H'){r:Aj}{hs:List Int}(h:RoadAt CR H r hs)(ok:xq hs):RoadAt CR H' r hs:=h.kb (CH:=CR) ok k rf λb hb=>by
 simp only [aq,au,bW] at hb
 rcases hb with rfl|rfl|rfl
 ·exact .inl ⟨_,.inl hh.r⟩
 ·exact .inl ⟨_,.inl hh.w⟩
 ·exact .inr hh.d
theorem yz:xq [0,1]:=by
 refine ⟨by decide,by decide,λh hh=>?_⟩
 have:h=0∨h=1:=by simpa using hh
 show 0≤h∧h≤(2:Int)-1
 lia
theorem inw_r {wd:Int}{n:Nat}(g:Nat→Int)(h1:(n:Int)=wd+1)(w1:1≤wd)(w2:wd≤24)(h2:∀i,i<n→0≤g i∧g i≤wd):xq ((List.range n).map g):=by
 refine ⟨by rw [aj,bb];lia,by rw [aj,bb];lia,λh hh=>?_⟩
 obtain ⟨i,hi,rfl⟩:=br.mp hh
 have:=h2 i (bO.mp hi)
 rw [aj,bb]
 lia
theorem Yb (n:Nat)(g:Nat→Int):(List.range n).map (λi=>V.int (g i))=((List.range n).map g).map V.int:=by
 rw [List.map_map]
 rfl
theorem ten60:(10:Int) ^ (60:Int).toNat=F60:=by decide +kernel
theorem due_at:∀i:Nat,i<17→atI ([V.str "point",V.str "point",V.str "point",V.str "count",V.str "count",V.str "point",V.str "point",V.str "count",V.str "name",V.str "taken",V.str "strange"]++[V.str "strange",V.str "strange",V.str "strange",V.str "strange",V.str "strange",V.str "strange"]) ((0:Int)+i)=some (.str (dueS ((0:Int)+i)))
 |0,_=>rfl|1,_=>rfl|2,_=>rfl|3,_=>rfl|4,_=>rfl|5,_=>rfl|6,_=>rfl|7,_=>rfl|8,_=>rfl|9,_=>rfl|10,_=>rfl|11,_=>rfl|12,_=>rfl|13,_=>rfl|14,_=>rfl|15,_=>rfl|16,_=>rfl
 |n+17,h=>absurd h (by lia)
theorem szk {vs:List V}(h:vs.length≤1000):vs.length≤sizeLine:=aP h (by decide)
theorem qwx {X:Cx}{ss:List Stmt}{t t':TS}(h:PSs X ss t)(k:∀D σ H,t' D σ H→t D σ H):PSs X ss t':=λpins s σ H D I q=>h pins s σ H D I (k D σ H q)
def TailP (C:Aj)(D:Ends)(σ:St)(H:Hp):Prop:=∃(a rd pb po:Aj) (W b0 m t b:Int) (hs:List Int),σ=[some (.ref a),some (.int W),some (.ref rd),some (.int b0),some (.ref pb),some (.int m),some (.ref po),none,none,none]∧RoadAt C H rd hs∧xq hs∧H pb=some (.tup [.int t,.int b])∧BadP hs t b∧¬ Within m 0 (some F60)∧∀H',D.rt (.bl true) H'
def TailQ (C CH:Aj)(D:Ends)(σ:St)(H:Hp):Prop:=∃(a rd pb po x dr dw dd ra rb ya yb:Aj) (Ds:List V) (W b0 m t b:Int) (hs:List Int),σ=[some (.ref a),some (.int W),some (.ref rd),some (.int b0),some (.ref pb),some (.int m),some (.ref po),some (.ref x),none,none]∧RoadAt C H rd hs∧xq hs∧H pb=some (.tup [.int t,.int b])∧BadP hs t b∧¬ Within m 0 (some F60)∧Hse CH H x dr dw dd (Yc "r" "s" ra rb) (Yc "a" "b" ya yb) Ds∧Ds.length=4∧∀H',D.rt (.bl true) H'
set_option maxHeartbeats 0 in
theorem qxg {f:Aj}{cdv:Ag}{A:Ae}{outer:List Env}{s:Ab}{H:Hp}{E:XK}(T:Txt K mg qf qm qw qz qv qr ww qk qp qj qx wj qy qg qq)(c__law_told:Cal P w K mg base "_law_told" 7 (Qy K qq qy))(c_deeds:MCal P w K mg base qq "deeds" 1 (jg qq))(hr:Room 9 (A.deeper (PyProof.Rows.envOfC "law" (wq s_law) s.heap.objs.size f cdv))){z7:List Stmt}(hrest:(wx s_law).drop 15=z7) :
  PSs (Qw (CXE P w) P w K mg base ["_law_script","_law_wide","_law_road","_law_bottom","_law_bad","_law_many","_law_off","_law_house","_law_due","_law_door"] "law" (wq s_law) f cdv A outer s H E) z7 (TailQ qy qq):=by
 have sc:=qqf
 obtain ⟨p1,es,p,p',he,hv⟩:∃p1 es p p',(wx s_law).drop 15=.Assign [.Name "_law_due" p1] (.List es p) p'::(wx s_law).drop 16∧qqr es=some [V.str "point",V.str "point",V.str "point",V.str "count",V.str "count",V.str "point",V.str "point",V.str "count",V.str "name",V.str "taken",V.str "strange"]:=⟨_,_,_,_,rfl,rfl⟩
 rw [←hrest,he]
 clear hrest he
 refine qwx (qd (wf (i:=8) sc.nd rfl (by walk_at "loc") (z8 (Zw hv))) (qd (wf (i:=8) sc.nd rfl (by walk_at "loc") (wr op_cat (pv 8) (z8 (Zw (vs:=[V.str "strange",V.str "strange",V.str "strange",V.str "strange",V.str "strange",V.str "strange"]) rfl))))
   (qd (Z2 bo rfl (v3 rfl T.range_ (wv qu qc)) (zh (i:=9) sc.nd rfl (by walk_at "loc")) (qh (w9 (wu qx3 (wy c__law_told (hr.mono (by decide)) rfl qb (q8 (pv 9) (q8 (pv 2) (q8 (pv 7) (q8 (pv 4) (q8 (pv 5) qc)))))) (j0 Z6 (pv 8) (pv 9) (λ_ _=>rfl)) (wm _)) (qh (xv uc)) wc)))
   (qh (xv (y8 xp (j8 (pv 7) T.clH c_deeds (hr.mono (by decide)) qb) qu (wm _))))))) ?_
 rintro D σ H13 ⟨a,rd,pb,po,x,dr,dw,dd,ra,rb,ya,yb,Ds,W,b0,m,t,b,hs,rfl,R13,ok,fb13,bad,hm,hs13,lDs,k⟩
 refine ⟨szk (by decide),λl1 n1=>?_⟩
 have s14:=Same.upd (H:=H13) (o:=.lst [.str "point",.str "point",.str "point",.str "count",.str "count",.str "point",.str "point",.str "count",.str "name",.str "taken",.str "strange"]) n1
 have f14:upd H13 l1 (.lst [.str "point",.str "point",.str "point",.str "count",.str "count",.str "point",.str "point",.str "count",.str "name",.str "taken",.str "strange"]) l1=some (.lst [.str "point",.str "point",.str "point",.str "count",.str "count",.str "point",.str "point",.str "count",.str "name",.str "taken",.str "strange"]):=q9
 generalize upd H13 l1 (.lst [.str "point",.str "point",.str "point",.str "count",.str "count",.str "point",.str "point",.str "count",.str "name",.str "taken",.str "strange"])=H14 at s14 f14
 refine exI rfl ⟨szk (by decide),λl2 n2=>?_⟩
 have s15:=Same.upd (H:=H14) (o:=.lst [.str "strange",.str "strange",.str "strange",.str "strange",.str "strange",.str "strange"]) n2
 have f15:upd H14 l2 (.lst [.str "strange",.str "strange",.str "strange",.str "strange",.str "strange",.str "strange"]) l2=some (.lst [.str "strange",.str "strange",.str "strange",.str "strange",.str "strange",.str "strange"]):=q9
 generalize upd H14 l2 (.lst [.str "strange",.str "strange",.str "strange",.str "strange",.str "strange",.str "strange"])=H15 at s15 f15
 refine ⟨l1,l2,w4 rfl rfl ⟨s15 _ _ f14,f15,(by show 17≤sizeLine;decide),λl3 n3=>?_⟩⟩
 have s16:=Same.upd (H:=H15) (o:=.lst ([V.str "point",V.str "point",V.str "point",V.str "count",V.str "count",V.str "point",V.str "point",V.str "count",V.str "name",V.str "taken",V.str "strange"]++[V.str "strange",V.str "strange",V.str "strange",V.str "strange",V.str "strange",V.str "strange"])) n3
 have f16:upd H15 l3 (.lst ([V.str "point",V.str "point",V.str "point",V.str "count",V.str "count",V.str "point",V.str "point",V.str "count",V.str "name",V.str "taken",V.str "strange"]++[V.str "strange",V.str "strange",V.str "strange",V.str "strange",V.str "strange",V.str "strange"])) l3=some (.lst ([V.str "point",V.str "point",V.str "point",V.str "count",V.str "count",V.str "point",V.str "point",V.str "count",V.str "name",V.str "taken",V.str "strange"]++[V.str "strange",V.str "strange",V.str "strange",V.str "strange",V.str "strange",V.str "strange"])):=q9
 generalize upd H15 l3 (.lst ([V.str "point",V.str "point",V.str "point",V.str "count",V.str "count",V.str "point",V.str "point",V.str "count",V.str "name",V.str "taken",V.str "strange"]++[V.str "strange",V.str "strange",V.str "strange",V.str "strange",V.str "strange",V.str "strange"]))=H16 at s16 f16
 have s36:=(s14.trans s15).trans s16
 have R16:=R13.same s36
 have fb16:=s36 _ _ fb13
 have hs16:=hs13.same s36
 clear R13 fb13 hs13 s36 s14 s15 s16 f14 f15
 refine exI rfl ⟨(by decide),(by decide),yw (n:=(17:Int).toNat) (λi σ H'=>Same H16 H'∧∃z,σ=[some (.ref a),some (.int W),some (.ref rd),some (.int b0),some (.ref pb),some (.int m),some (.ref po),some (.ref x),some (.ref l3),z]) ⟨Same.refl _,_,rfl⟩ ?_ ?_⟩
 ·rintro i σ H1 hi ⟨s1,z,rfl⟩
  have hi:i<17:=hi
  refine exI rfl (exI rfl (exI rfl (exI rfl (exI rfl ⟨rd,x,dr,dw,dd,pb,hs,_,_,_,.ref ya,t,b,m,exI rfl ⟨R16.same s1,ok,s1 _ _ fb16,bad,hm,hs16.same s1,(show 2≤1000 by decide),(show 2≤1000 by decide),(by lia),Jb (by decide +kernel) (by decide +kernel),Jb (by decide +kernel) (by decide +kernel),J1,Jb (by decide +kernel) (by decide +kernel),(by lia),(by lia),λH2 s2=>?_⟩⟩))))
  have s12:=s1.trans s2
  refine exI rfl (exI rfl (exX rfl rfl (SqL.of (s12 _ _ f16)) (due_at i hi) ⟨rfl,_,rfl,qz3 ⟨s12,_,rfl⟩⟩))
 ·rintro σ H1 ⟨s1,z,rfl⟩
  have hh:=hs16.same s1
  obtain ⟨dx,hx⟩:=hh.ob
  refine exI rfl ⟨x,dx,exI rfl ⟨hx,wt (by decide +kernel) (by decide +kernel) (by decide +kernel),x,dr,dw,dd,_,_,_,rfl,hh,rfl,?_⟩⟩
  rw [lDs]
  exact k H1
set_option maxHeartbeats 0 in
theorem qzh {f:Aj}{cdv:Ag}{A:Ae}{outer:List Env}{s:Ab}{H:Hp}{E:XK}(T:Txt K mg qf qm qw qz qv qr ww qk qp qj qx wj qy qg qq)(c_House:CCal P w K mg base "House" qq 1 (uw qq))(c_lay:MCal P w K mg base qq "lay" 4 (qqg K qq qy qk qp qm))(c_place:MCal P w K mg base qq "place" 5 (jh K qq qy qg qk qp qj qw qz))
  (c__law_told:Cal P w K mg base "_law_told" 7 (Qy K qq qy)) (c_deeds:MCal P w K mg base qq "deeds" 1 (jg qq)) (hr:Room 9 (A.deeper (PyProof.Rows.envOfC "law" (wq s_law) s.heap.objs.size f cdv))) {rest0:List Stmt} (hrest0:(wx s_law).drop 10=rest0) :
  PSs (Qw (CXE P w) P w K mg base ["_law_script","_law_wide","_law_road","_law_bottom","_law_bad","_law_many","_law_off","_law_house","_law_due","_law_door"] "law" (wq s_law) f cdv A outer s H E) rest0 (TailP qy):=by
 have sc:=qqf
 have sm:∀z:Int,-(2 ^ 64)≤z→z≤2 ^ 64→Sm 65 z:=λz z1 z2=>Sm.small z1 z2 (by decide)
 have e10:(wx s_law).drop 10=(wx s_law)[10]'(by decide +kernel)::(wx s_law).drop 11:=af (by decide +kernel)
 have e11:(wx s_law).drop 11=(wx s_law)[11]'(by decide +kernel)::(wx s_law).drop 12:=af (by decide +kernel)
 have e12:(wx s_law).drop 12=(wx s_law)[12]'(by decide +kernel)::(wx s_law).drop 13:=af (by decide +kernel)
 have e13:(wx s_law).drop 13=(wx s_law)[13]'(by decide +kernel)::(wx s_law).drop 14:=af (by decide +kernel)
 have e14:(wx s_law).drop 14=(wx s_law)[14]'(by decide +kernel)::(wx s_law).drop 15:=af (by decide +kernel)
 rw [←hrest0,e10,e11,e12,e13,e14]
 clear e10 e11 e12 e13 e14 hrest0
 generalize hrest:(wx s_law).drop 15=z7
 refine qwx (qd (wf (i:=7) sc.nd rfl (by walk_at "loc") (qxk c_House (hr.mono (by decide)) rfl qb))
   (qd (wp (wg (pv 7) T.clH c_lay (hr.mono (by decide)) qb (wv wn (Wr (z8 (wv qu (wv qu qc))) qc))))
   (qd (wp (wg (pv 7) T.clH c_lay (hr.mono (by decide)) qb (wv wn (Wr (z8 (wv qu (wv qu qc))) qc))))
   (qd (wp (wg (pv 7) T.clH c_place (hr.mono (by decide)) qb (wv wn (wv wn (ug (zk (wv qu (wv qu qc))) qc)))))
   (qd (wp (wg (pv 7) T.clH c_place (hr.mono (by decide)) qb (wv wn (wv wn (ug (zk (wv qu (wv qu qc))) qc)))))
   (qxg T c__law_told c_deeds hr hrest)))))) ?_
 rintro D σ H8 ⟨a,rd,pb,po,W,b0,m,t,b,hs,rfl,R8,ok,fb8,bad,hm,k⟩
 refine λx d9 nx nd9 ne9=>⟨x,d9,rfl,q9,λH9 dr dw dd m1 m2 m3 hse kb9=>⟨rfl,?_⟩⟩
 have s9:Same H8 H9:=λz o e=>kb9 z o (λy=>by rw [aB.mp y,nx] at e;cases e) (by rw [wz (qt e nx),wz (qt e nd9)];exact e)
 have R9:=R8.same s9
 have fb9:=s9 _ _ fb8
 clear s9 R8 fb8 kb9 m1 m2 m3
 have rf0:Refs ([]:List V):=λv hv=>nomatch hv
 have nmr:xt ("r" : Str)=true:=by decide +kernel
 have nms:xt ("s" : Str)=true:=by decide +kernel
 have nma:xt ("a" : Str)=true:=by decide +kernel
 have nmb:xt ("b" : Str)=true:=by decide +kernel
 have rs:(Sum.inr ("r" : Str):Key)≠.inr ("s" : Str):=by decide +kernel
 have ab:(Sum.inr ("a" : Str):Key)≠.inr ("b" : Str):=by decide +kernel
 obtain ⟨dx,hx⟩:=hse.ob
 refine exI rfl ⟨x,dx,exI rfl ⟨hx,wt (by decide +kernel) (by decide +kernel) (by decide +kernel),sz2,λpa na=>?_⟩⟩
 have sa:=Same.upd (H:=H9) (o:=.lst ([(0:Int),1].map V.int)) na
 refine ⟨x,dr,dw,dd,pa,[],[],[],"r",[0,1],rfl,hse.same sa,rf0,aA _,aA _,aA _,(by decide +kernel),q9,λ_ _ _ H10 dd10=>?_,(λz=>by rw [nmr] at z;cases z),(λ_ z=>by cases z),λ_ _ z=>absurd yz z⟩
 obtain ⟨ra,tp1,q1,q1',g0,g1,g2,hs10,_,_,_,_,ra10,kb10⟩:=dd10
 have R10:=vh (hse.same sa) rf0 kb10 (R9.same sa) ok
 have fb10:=Z4 (hse.same sa) kb10 (sa _ _ fb9)
 have rf1:=rf0.add tp1
 clear R9 fb9 sa kb10 hse hx
 obtain ⟨dx,hx⟩:=hs10.ob
 refine exI rfl ⟨x,dx,exI rfl ⟨hx,wt (by decide +kernel) (by decide +kernel) (by decide +kernel),sz2,λpc nc=>?_⟩⟩
 have sa:=Same.upd (H:=H10) (o:=.lst ([(0:Int),1].map V.int)) nc
 have vs1:w8 (zx ([]:List (Key×V)) (.inr ("r" : Str)) (.ref ra)) (.inr ("s" : Str))=none:=by
  rw [zt (kvs:=[]) _ rfl,cB,yx rs]
  rfl
 refine ⟨x,dr,dw,dd,pc,_,_,_,"s",[0,1],rfl,hs10.same sa,rf1,(by rw [zt (kvs:=[]) _ rfl];show 1≤1000;decide),aA _,(show 1≤1000000 by decide),(by decide +kernel),q9,λ_ _ _ H11 dd11=>?_,(λz=>by rw [nms] at z;cases z),(λ_ z=>by rw [vs1] at z;cases z),λ_ _ z=>absurd yz z⟩
 obtain ⟨rb,tp2,q2,q2',g0',g1',g2',hs11,_,_,_,_,ra11,kb11⟩:=dd11
 have R11:=vh (hs10.same sa) rf1 kb11 (R10.same sa) ok
 have ra11':=vh (hs10.same sa) rf1 kb11 (ra10.same sa) yz
 have fb11:=Z4 (hs10.same sa) kb11 (sa _ _ fb10)
 have rf2:=rf1.add tp2
 rw [qwy rs] at hs11
 clear R10 fb10 sa kb11 hs10 hx ra10 vs1
 obtain ⟨dx,hx⟩:=hs11.ob
 have vr:w8 (Yc "r" "s" ra rb) (.inr ("r" : Str))=some (.ref ra):=J1
 have vs:w8 (Yc "r" "s" ra rb) (.inr ("s" : Str))=some (.ref rb):=by
  unfold Yc
  rw [yx rs]
  exact J1
 have lo:xj 1 2=(1,2):=by decide +kernel
 have l12:(xj 1 2).2≤40:=by rw [lo];decide
 have on12:zy [0,1] (xj 1 2).1 (xj 1 2).2:=by rw [lo];exact ⟨by decide,by decide⟩
 have s22:Sm 8000 2:=(sm 2 (by lia) (by lia)).mono (by decide)
 refine exI rfl ⟨x,dx,exI rfl ⟨hx,wt (by decide +kernel) (by decide +kernel) (by decide +kernel),sz2,λpd nd=>?_⟩⟩
 have sa:=Same.upd (H:=H11) (o:=.tup [.int 1,.int 2]) nd
 refine ⟨x,dr,dw,dd,pd,_,_,_,"a","r",1,2,rfl,hs11.same sa,(show 2≤1000 by decide),aA _,(show 2≤1000000 by decide),(by decide +kernel),q9,(λz=>by rw [nma] at z;cases z),(λ_ z=>by cases z),λ_ _=>⟨(λz=>by rw [vr] at z;cases z),λv e=>?_⟩⟩
 rw [vr] at e
 cases e
 refine ⟨ra,[0,1],rfl,ra11'.same sa,yz,(λz=>absurd z (by decide)),λ_=>⟨s22,(λz=>absurd z (by lia)),λ_=>⟨(λz=>absurd on12 z),λ_ H12 pp12 t12 wd12=>?_⟩⟩⟩
 obtain ⟨ya,tp3,q3,q3',_,_,_,hs12,_,_,_,_,wa,kb12⟩:=wd12
 have R12:=vh (hs11.same sa) rf2 kb12 (R11.same sa) ok
 have ra12:=vh (hs11.same sa) rf2 kb12 (ra11.same sa) yz
 have fb12:=Z4 (hs11.same sa) kb12 (sa _ _ fb11)
 have rf3:=rf2.add tp3
 clear R11 fb11 sa kb12 hs11 hx ra11 ra11' wa
 obtain ⟨dx,hx⟩:=hs12.ob
 refine exI rfl ⟨x,dx,exI rfl ⟨hx,wt (by decide +kernel) (by decide +kernel) (by decide +kernel),sz2,λpe ne=>?_⟩⟩
 have sa:=Same.upd (H:=H12) (o:=.tup [.int 1,.int 2]) ne
 have vb1:w8 (zx ([]:List (Key×V)) (.inr ("a" : Str)) (.ref ya)) (.inr ("b" : Str))=none:=by
  rw [zt (kvs:=[]) _ rfl,cB,yx ab]
  rfl
 refine ⟨x,dr,dw,dd,pe,_,_,_,"b","s",1,2,rfl,hs12.same sa,(show 2≤1000 by decide),(by rw [zt (kvs:=[]) _ rfl];show 1≤1000;decide),(show 3≤1000000 by decide),(by decide +kernel),q9,(λz=>by rw [nmb] at z;cases z),(λ_ z=>by rw [vb1] at z;cases z),λ_ _=>⟨(λz=>by rw [vs] at z;cases z),λv e=>?_⟩⟩
 rw [vs] at e
 cases e
 refine ⟨rb,[0,1],rfl,ra12.same sa,yz,(λz=>absurd z (by decide)),λ_=>⟨s22,(λz=>absurd z (by lia)),λ_=>⟨(λz=>absurd on12 z),λ_ H13 pp13 t13 wd13=>?_⟩⟩⟩
 obtain ⟨yb,tp4,q4,q4',_,_,_,hs13,_,_,_,_,wb13,kb13⟩:=wd13
 have R13:=vh (hs12.same sa) rf3 kb13 (R12.same sa) ok
 have fb13:=Z4 (hs12.same sa) kb13 (sa _ _ fb12)
 rw [qwy ab] at hs13
 exact ⟨a,rd,pb,po,x,dr,dw,dd,ra,rb,ya,yb,_,W,b0,m,t,b,hs,rfl,R13,ok,fb13,bad,hm,hs13,rfl,k⟩
end
section
variable {P:Ac}{w:Ah}{K:Aa}{mg:Str→Option Ag}{base:Heap}{qf:Aj}{qm:Aj}{qw:Aj}{qz:Aj}{qv:Aj}{qr:Aj}{ww:Aj}{qk:Aj}{qp:Aj}{qj:Aj}{qx:Aj}{wj:Aj}{qy:Aj}{qg:Aj}{qq:Aj}
set_option maxHeartbeats 0 in
theorem ok_law {f:Aj}{fd:Ad}(F:Fun K "law" "law" s_law f fd)(T:Txt K mg qf qm qw qz qv qr ww qk qp qj qx wj qy qg qq)(c__law_pick:Cal P w K mg base "_law_pick" 2 (Y9 K))(c_Road:CCal P w K mg base "Road" qy 2 (yu K qm qy))(c__law_first_goes:Cal P w K mg base "_law_first_goes" 6 (Zq K qy))
  (c_House:CCal P w K mg base "House" qq 1 (uw qq)) (c_lay:MCal P w K mg base qq "lay" 4 (qqg K qq qy qk qp qm)) (c_place:MCal P w K mg base qq "place" 5 (jh K qq qy qg qk qp qj qw qz))
  (c__law_told:Cal P w K mg base "_law_told" 7 (Qy K qq qy)) (c_deeds:MCal P w K mg base qq "deeds" 1 (jg qq)):FnOk P w K mg base (CXE P w) 10 f fd ["_law_script"] (qq1 K):=by
 have sc:=qqf
 refine F.okX sc (λvs H Q E h=>by obtain ⟨a,ns,rfl,_⟩:=h;rfl) (λcdv A outer s H vs Q E hr h=>?_)
 obtain ⟨a,ns,rfl,hS,hl,k⟩:=h
 have big:(1000000:Nat)<sizeLine:=by decide
 have sm:∀z:Int,-(2 ^ 64)≤z→z≤2 ^ 64→Sm 65 z:=λz z1 z2=>Sm.small z1 z2 (by decide)
 have e0:(wx s_law).drop 0=(wx s_law)[0]'(by decide +kernel)::(wx s_law).drop 1:=af (by decide +kernel)
 have e1:(wx s_law).drop 1=(wx s_law)[1]'(by decide +kernel)::(wx s_law).drop 2:=af (by decide +kernel)
 have e2:(wx s_law).drop 2=(wx s_law)[2]'(by decide +kernel)::(wx s_law).drop 3:=af (by decide +kernel)
 have e3:(wx s_law).drop 3=(wx s_law)[3]'(by decide +kernel)::(wx s_law).drop 4:=af (by decide +kernel)
 have e4:(wx s_law).drop 4=(wx s_law)[4]'(by decide +kernel)::(wx s_law).drop 5:=af (by decide +kernel)
 have e5:(wx s_law).drop 5=(wx s_law)[5]'(by decide +kernel)::(wx s_law).drop 6:=af (by decide +kernel)
 have e6:(wx s_law).drop 6=(wx s_law)[6]'(by decide +kernel)::(wx s_law).drop 7:=af (by decide +kernel)
 have e7:(wx s_law).drop 7=(wx s_law)[7]'(by decide +kernel)::(wx s_law).drop 8:=af (by decide +kernel)
 have e8:(wx s_law).drop 8=(wx s_law)[8]'(by decide +kernel)::(wx s_law).drop 9:=af (by decide +kernel)
 have e9:(wx s_law).drop 9=(wx s_law)[9]'(by decide +kernel)::(wx s_law).drop 10:=af (by decide +kernel)
 have e:wx s_law=(wx s_law).drop 0:=rfl
 rw [e0,e1,e2,e3,e4,e5,e6,e7,e8,e9] at e
 rw [e]
 clear e e0 e1 e2 e3 e4 e5 e6 e7 e8 e9
 generalize hrest:(wx s_law).drop 10=rest0
 refine ⟨_,(qd (wf (i:=1) sc.nd rfl (by walk_at "loc") (wr xh qu (wy c__law_pick (hr.mono (by decide)) rfl qb (q8 (pv 0) (wv qu (wv qu (wv qu qc)))))))
   (qd (wf (i:=2) sc.nd rfl (by walk_at "loc") (z0 c_Road (hr.mono (by decide)) rfl qb (xk (qq8 (M:=[0,1]) rfl rfl (by walk_at "cap") (by walk_at "has") (by walk_at "cix") rfl (by decide +kernel) rfl (show List.Nodup (["_law_k","_law_script","_law_wide"]:List Str) by decide +kernel) (v3 rfl T.range_ (ky (wr xh (pv 1) qu) qc)) (λ_ _ _ _ _=>(wy c__law_pick (hr.mono (by decide)) rfl passE0 (q8 (pv 1) (wv qu (ky (wr xh qu (pv 0)) (ky (wr xh (pv 2) qu) qc))))))) qc)))
   (qd (wf (i:=3) sc.nd rfl (by walk_at "loc") (wr xh qu (wy c__law_pick (hr.mono (by decide)) rfl qb (q8 (pv 0) (wv qu (wv qu (wv qu qc)))))))
   (qd (wf (i:=4) sc.nd rfl (by walk_at "loc") (zk (ky (wr xh (wr xh (wr x8 (pv 1) (pv 3)) qu) (wy c__law_pick (hr.mono (by decide)) rfl qb (q8 (pv 0) (wv qu (wv qu (wv qu qc)))))) (q8 (pv 3) qc))))
   (Zs (w9 (wu xp (wy c__law_pick (hr.mono (by decide)) rfl qb (q8 (pv 0) (wv qu (wv qu (wv qu qc))))) qu (wm _)) (qh (wf (i:=4) sc.nd rfl (by walk_at "loc") (zk (Yy (j0 j9 (pv 4) qu (λ_ _=>rfl)) (pa_cU (qwu Z1 (wy c__law_pick (hr.mono (by decide)) rfl qb (q8 (pv 0) (wv qu (wv qu (wv qu qc)))))) qc))))) wc)
   (qd (wf (i:=5) sc.nd rfl (by walk_at "loc") (wr Zx (qwu Z1 qu) (wy c__law_pick (hr.mono (by decide)) rfl qb (q8 (pv 0) (wv qu (wv qu (wv qu qc)))))))
   (Zs (w9 (wu xp (wy c__law_pick (hr.mono (by decide)) rfl qb (q8 (pv 0) (wv qu (wv qu (wv qu qc))))) qu (wm _)) (qh (wf (i:=5) sc.nd rfl (by walk_at "loc") (wr xh (wr xh (wr qz0 qu qu) qu) (wy c__law_pick (hr.mono (by decide)) rfl qb (q8 (pv 0) (wv qu (wv qu (wv qu qc)))))))) wc)
   (qd (wf (i:=6) sc.nd rfl (by walk_at "loc") (zk (ky (wr xh (wr xh (wr x8 (pv 1) (pv 3)) qu) (wy c__law_pick (hr.mono (by decide)) rfl qb (q8 (pv 0) (wv qu (wv qu (wv qu qc)))))) (q8 (pv 3) qc))))
   (Zs (w9 (wu xp (wy c__law_pick (hr.mono (by decide)) rfl qb (q8 (pv 0) (wv qu (wv qu (wv qu qc))))) qu (wm _)) (qh (wf (i:=6) sc.nd rfl (by walk_at "loc") (zk (ky (wr Zx (qwu Z1 qu) (wy c__law_pick (hr.mono (by decide)) rfl qb (q8 (pv 0) (wv qu (wv qu (wv qu qc)))))) (q8 (pv 3) qc))))) wc)
   (qd (w9 (Jm (Jz (wy c__law_first_goes (hr.mono (by decide)) rfl qb (q8 (pv 2) (q8 (pv 6) (ug (zk (kj (wy c__law_pick (hr.mono (by decide)) rfl qb (q8 (pv 0) (wv qu (wv qu (ky (wr xh (pv 1) qu) qc))))) (pa_cU (qwu Z1 (wy c__law_pick (hr.mono (by decide)) rfl qb (q8 (pv 0) (wv qu (wv qu (wv qu qc)))))) qc))) qc)))))) (qh (xv uc)) wc)
   (qzh T c_House c_lay c_place c__law_told c_deeds hr hrest))))))))))),?_⟩
 refine exI rfl ⟨a,ns,_,_,_,rfl,hS,(by lia),(by lia),(by lia),(by lia),λr0 _ l0 u0=>?_⟩
 refine w4 rfl rfl ?_
 have hn:((2+r0+1).toNat:Int)=2+r0+1:=by lia
 refine exI rfl (w4 rfl rfl ⟨2+r0+1,rfl,(by lia),(by lia),qqv (λj=>V.int (ym ns 0 (1+((0:Int)+j)) (2+r0+1))) (by lia) (λj H' R hj hs hR=>?_) λp1 n1=>?_⟩)
 ·refine exI rfl (exI rfl (w4 rfl rfl (exI rfl (w4 rfl rfl ⟨a,ns,_,_,_,rfl,Same.sql hs hS,(by lia),(by lia),(by lia),(by lia),λr e _ _=>?_⟩))))
  rw [e]
  exact hR
 rw [Yb]
 have ok:xq ((List.range (2+r0+1).toNat).map λj:Nat=>ym ns 0 (1+((0:Int)+j)) (2+r0+1)):=inw_r _ hn (by lia) (by lia) λj hj=>by
  have a1:=qzr ns 0 (1+((0:Int)+j)) (2+r0+1) (by lia)
  have a2:=qzz ns 0 (1+((0:Int)+j)) (2+r0+1) (by lia)
  lia
 have lh:(((List.range (2+r0+1).toNat).map λj:Nat=>ym ns 0 (1+((0:Int)+j)) (2+r0+1)).length:Int)=2+r0+1:=by rw [aj,bb];exact hn
 generalize (List.range (2+r0+1).toNat).map (λj:Nat=>ym ns 0 (1+((0:Int)+j)) (2+r0+1))=hs at ok lh
 refine λrd d0 nr nd0 ne0=>v4 (H:=upd H p1 (.lst (hs.map V.int))) (hs:=hs) q9 nr nd0 (λokl H2 s2' R2=>?_) λz=>absurd ok z
 have s2:Same H H2:=(Same.upd n1).trans s2'
 clear s2' nr nd0 ne0 n1 hn
 refine exI rfl ⟨a,ns,_,_,_,rfl,s2.sql hS,(by lia),(by lia),(by lia),(by lia),λr1 _ l1 u1=>?_⟩
 refine w4 rfl rfl ?_
 have wb:2*(1+r1)≤(2+r0)*(1+r1):=bG (by lia) (by lia)
 have wb2:(2+r0)*(1+r1)≤6*(1+r1):=bG (by lia) (by lia)
 have off:∀x:Int,0≤x→¬ zy hs ((2+r0)*(1+r1)+1+x) (1+r1):=λx hx z=>by
  have:=z.2
  rw [lh,show 2+r0+1-1=2+r0 by lia] at this
  lia
 have off2:∀x:Int,0≤x→¬ zy L020 ((2+r0)*(1+r1)+1+x) (1+r1):=λx hx z=>by
  have:(2+r0)*(1+r1)+1+x≤((3:Int)-1)*(1+r1):=z.2
  lia
 have sb0:Sm 8000 (1+r1):=(sm (1+r1) (by lia) (by lia)).mono (by decide)
 refine exI rfl (exI rfl (w4 rfl rfl ⟨(sm _ (by lia) (by lia)).ok (sm _ (by lia) (by lia)) (by decide),w4 rfl rfl (exI rfl ⟨a,ns,_,_,_,rfl,s2.sql hS,(by lia),(by lia),(by lia),(by lia),λr2 _ l2 u2=>?_⟩)⟩))
 refine w4 rfl rfl (exI rfl ⟨sz2,λp3 n3=>?_⟩)
 have s3':=Same.upd (H:=H2) (o:=.tup [.int ((2+r0)*(1+r1)+1+r2),.int (1+r1)]) n3
 have f3:upd H2 p3 (.tup [.int ((2+r0)*(1+r1)+1+r2),.int (1+r1)]) p3=some (.tup [.int ((2+r0)*(1+r1)+1+r2),.int (1+r1)]):=q9
 generalize upd H2 p3 (.tup [.int ((2+r0)*(1+r1)+1+r2),.int (1+r1)])=H3 at s3' f3
 have s3:=s2.trans s3'
 have R3:=R2.same s3'
 refine ⟨λσ H'=>∃p t b,σ=[some (.ref a),some (.int (2+r0)),some (.ref rd),some (.int (1+r1)),some (.ref p),none,none,none,none,none]∧Same H3 H'∧H' p=some (.tup [.int t,.int b])∧BadP hs t b,?_,?_⟩
 ·refine exI rfl ⟨a,ns,_,_,_,rfl,s3.sql hS,(by lia),(by lia),(by lia),(by lia),λr3 _ l3 u3=>?_⟩
  refine ⟨rfl,_,rfl,zw (λq1=>?_) (λq1=>?_)⟩
  ·refine exI rfl (exX rfl rfl (SqT.of f3) rfl (exI rfl ⟨a,ns,_,_,_,rfl,s3.sql hS,(by lia),(by lia),(by lia),(by lia),λr4 _ l4 u4=>?_⟩))
   refine exI rfl ⟨sz2,λp4 n4=>?_⟩
   exact ⟨p4,_,_,rfl,Same.upd n4,q9,.inl (by lia)⟩
  ·exact ⟨p3,_,_,rfl,Same.refl _,f3,.inr ⟨by lia,sb0,off _ l2,off2 _ l2⟩⟩
 rintro σ H4 ⟨pb,t,b,rfl,s4',fb,bad⟩
 have s4:=s3.trans s4'
 have R4:=R3.same s4'
 clear f3 s4' s3' R3 R2
 refine exI rfl (exI rfl ⟨a,ns,_,_,_,rfl,s4.sql hS,(by lia),(by lia),(by lia),(by lia),λr5 _ l5 u5=>?_⟩)
 refine w4 rfl rfl ?_
 refine ⟨λσ H'=>∃m,σ=[some (.ref a),some (.int (2+r0)),some (.ref rd),some (.int (1+r1)),some (.ref pb),some (.int m),none,none,none,none]∧H'=H4∧¬ Within m 0 (some F60),?_,?_⟩
 ·refine exI rfl ⟨a,ns,_,_,_,rfl,s4.sql hS,(by lia),(by lia),(by lia),(by lia),λr6 _ l6 u6=>?_⟩
  refine ⟨rfl,_,rfl,zw (λq1=>?_) (λq1=>?_)⟩
  ·refine w4 rfl rfl ⟨⟨by decide,by decide,by decide⟩,w4 rfl rfl (exI rfl ⟨a,ns,_,_,_,rfl,s4.sql hS,(by lia),(by lia),(by lia),(by lia),λr7 _ l7 u7=>?_⟩)⟩
   refine w4 rfl rfl (exI rfl ⟨rfl,λz=>?_⟩)
   have:=z.2 F60 rfl
   rw [ten60] at this
   lia
  ·exact exI rfl ⟨rfl,λz=>by have:=z.1;lia⟩
 rintro σ H4' ⟨m,rfl,rfl,hm⟩
 refine exI rfl (exI rfl (w4 rfl rfl ⟨(sm _ (by lia) (by lia)).ok (sm _ (by lia) (by lia)) (by decide),w4 rfl rfl (exI rfl ⟨a,ns,_,_,_,rfl,s4.sql hS,(by lia),(by lia),(by lia),(by lia),λr8 _ l8 u8=>?_⟩)⟩))
 refine w4 rfl rfl (exI rfl ⟨sz2,λp5 n5=>?_⟩)
 have s5':=Same.upd (H:=H4') (o:=.tup [.int ((2+r0)*(1+r1)+1+r8),.int (1+r1)]) n5
 have f5:upd H4' p5 (.tup [.int ((2+r0)*(1+r1)+1+r8),.int (1+r1)]) p5=some (.tup [.int ((2+r0)*(1+r1)+1+r8),.int (1+r1)]):=q9
 generalize upd H4' p5 (.tup [.int ((2+r0)*(1+r1)+1+r8),.int (1+r1)])=H5 at s5' f5
 have s5:=s4.trans s5'
 have R5:=R4.same s5'
 have fb5:=s5' _ _ fb
 refine ⟨λσ H'=>∃p t,σ=[some (.ref a),some (.int (2+r0)),some (.ref rd),some (.int (1+r1)),some (.ref pb),some (.int m),some (.ref p),none,none,none]∧Same H5 H'∧H' p=some (.tup [.int t,.int (1+r1)])∧¬ zy hs t (1+r1),?_,?_⟩
 ·refine exI rfl ⟨a,ns,_,_,_,rfl,s5.sql hS,(by lia),(by lia),(by lia),(by lia),λr9 _ l9 u9=>?_⟩
  refine ⟨rfl,_,rfl,zw (λq1=>?_) (λq1=>?_)⟩
  ·refine exI rfl (exI rfl ⟨a,ns,_,_,_,rfl,s5.sql hS,(by lia),(by lia),(by lia),(by lia),λr10 _ l10 u10=>?_⟩)
   refine w4 rfl rfl (exI rfl ⟨sz2,λp6 n6=>?_⟩)
   exact ⟨p6,exI rfl ⟨Same.upd n6,q9,λz=>by have:=z.1;lia⟩⟩
  ·exact ⟨p5,exI rfl ⟨Same.refl _,f5,off _ l8⟩⟩
 rintro σ H6 ⟨po,t6,rfl,s6',fo,noff⟩
 have s6:=s5.trans s6'
 have R6:=R5.same s6'
 have fb6:=s6' _ _ fb5
 clear f5 s5' s6' R5 R4 fb fb5
 refine exI rfl (exI rfl (exI rfl (exI rfl (w4 rfl rfl ⟨a,ns,_,_,_,rfl,s6.sql hS,(by lia),(by lia),(by lia),(by lia),λr11 _ l11 u11=>?_⟩))))
 refine exI rfl ⟨a,ns,_,_,_,rfl,s6.sql hS,(by lia),(by lia),(by lia),(by lia),λr12 _ l12 u12=>?_⟩
 refine exI rfl ⟨sz2,λp7 n7=>?_⟩
 have s7':=Same.upd (H:=H6) (o:=.tup [.int r11,.int (-r12)]) n7
 have f7:upd H6 p7 (.tup [.int r11,.int (-r12)]) p7=some (.tup [.int r11,.int (-r12)]):=q9
 generalize upd H6 p7 (.tup [.int r11,.int (-r12)])=H7 at s7' f7
 refine ⟨rd,po,p7,hs,t6,(1+r1),r11,-r12,rfl,R6.same s7',ok,s7' _ _ fo,f7,(by lia),sb0,noff,(by lia),λH8 s8=>(exI rfl (Zn ?_))⟩
 have s78:=s7'.trans s8
 have R8:=R6.same s78
 have fb8:=s78 _ _ fb6
 exact ⟨a,rd,pb,po,(2+r0),(1+r1),m,t,b,hs,rfl,R8,ok,fb8,bad,hm,k⟩
end
section
theorem all_mk {l:PySem.W.OpenLaw}{w:Ah}{K:Aa}{h:Heap}{mg:Str→Option Ag}{fa:Aj}{qf:Aj}{qm:Aj}{qw:Aj}{qz:Aj}{qv:Aj}{qr:Aj}{ww:Aj}{qk:Aj}{qp:Aj}{qj:Aj}{qx:Aj}{wj:Aj}{qy:Aj}{qg:Aj}{qq:Aj}{t_WIDEST:Tok}{t_MOST_WALKED:Tok}{t_FARTHEST:Tok}{t_LONGEST_NAME:Tok}{t_GREATEST_BOTTOM:Tok}{t_LETTERS:Tok}(X:K.In h)(G:h.Ns mainGlobals mg)(hfa:mg "law" = some (.ref fa))
  (d__law_cell:DefIn K "_law_cell" s__law_cell)
  (d__law_pick:DefIn K "_law_pick" s__law_pick)
  (d_check_bottom:DefIn K "check_bottom" s_check_bottom)
  (d_common_divisor:DefIn K "common_divisor" s_common_divisor)
  (d_lowest:DefIn K "lowest" s_lowest)
  (d_check_count:DefInD K "check_count" s_check_count)
  (d_is_line:DefIn K "is_line" s_is_line)
  (d_set_down:DefIn K "set_down" s_set_down)
  (d_is_name:DefIn K "is_name" s_is_name)
  (d_check_new_name:DefIn K "check_new_name" s_check_new_name)
  (d_exchange:DefIn K "exchange" s_exchange)
  (d_walked:DefIn K "walked" s_walked)
  (d_far:DefIn K "far" s_far)
  (d_stands:DefIn K "stands" s_stands)
  (d_meeting:DefIn K "meeting" s_meeting)
  (d_lengths:DefIn K "lengths" s_lengths)
  (d__law_walks:DefIn K "_law_walks" s__law_walks)
  (d__law_house_asked:DefIn K "_law_house_asked" s__law_house_asked)
  (d__law_told:DefIn K "_law_told" s__law_told)
  (d__law_two_points:DefIn K "_law_two_points" s__law_two_points)
  (d__law_first_goes:DefIn K "_law_first_goes" s__law_first_goes)
  (d_law:DefIn K "law" s_law)
  (a_RoadError:PySem.W.nsIn K mainGlobals "RoadError" = some (some (.ref qf)))
  (x_RoadError:PySem.W.excIn K qf [.type "ValueError",.type "Exception",.type "BaseException",.type "object"] "ValueError.__new__" = true)
  (a_BadLine:PySem.W.nsIn K mainGlobals "BadLine" = some (some (.ref qm)))
  (x_BadLine:PySem.W.excIn K qm [.type "ValueError",.type "Exception",.type "BaseException",.type "object"] "ValueError.__new__" = true)
  (a_BadBottom:PySem.W.nsIn K mainGlobals "BadBottom" = some (some (.ref qw)))
  (x_BadBottom:PySem.W.excIn K qw [.type "ValueError",.type "Exception",.type "BaseException",.type "object"] "ValueError.__new__" = true)
  (a_OffRoad:PySem.W.nsIn K mainGlobals "OffRoad" = some (some (.ref qz)))
  (x_OffRoad:PySem.W.excIn K qz [.type "ValueError",.type "Exception",.type "BaseException",.type "object"] "ValueError.__new__" = true)
  (a_BadCount:PySem.W.nsIn K mainGlobals "BadCount" = some (some (.ref qv)))
  (x_BadCount:PySem.W.excIn K qv [.type "ValueError",.type "Exception",.type "BaseException",.type "object"] "ValueError.__new__" = true)
  (a_TooLong:PySem.W.nsIn K mainGlobals "TooLong" = some (some (.ref qr)))
  (x_TooLong:PySem.W.excIn K qr [.type "ValueError",.type "Exception",.type "BaseException",.type "object"] "ValueError.__new__" = true)
  (a_BadRow:PySem.W.nsIn K mainGlobals "BadRow" = some (some (.ref ww)))
  (x_BadRow:PySem.W.excIn K ww [.type "ValueError",.type "Exception",.type "BaseException",.type "object"] "ValueError.__new__" = true)
  (a_BadName:PySem.W.nsIn K mainGlobals "BadName" = some (some (.ref qk)))
  (x_BadName:PySem.W.excIn K qk [.type "ValueError",.type "Exception",.type "BaseException",.type "object"] "ValueError.__new__" = true)
  (a_Taken:PySem.W.nsIn K mainGlobals "Taken" = some (some (.ref qp)))
  (x_Taken:PySem.W.excIn K qp [.type "ValueError",.type "Exception",.type "BaseException",.type "object"] "ValueError.__new__" = true)
  (a_NoRoad:PySem.W.nsIn K mainGlobals "NoRoad" = some (some (.ref qj)))
  (x_NoRoad:PySem.W.excIn K qj [.type "ValueError",.type "Exception",.type "BaseException",.type "object"] "ValueError.__new__" = true)
  (a_NoWalker:PySem.W.nsIn K mainGlobals "NoWalker" = some (some (.ref qx)))
  (x_NoWalker:PySem.W.excIn K qx [.type "ValueError",.type "Exception",.type "BaseException",.type "object"] "ValueError.__new__" = true)
  (a_Apart:PySem.W.nsIn K mainGlobals "Apart" = some (some (.ref wj)))
  (x_Apart:PySem.W.excIn K wj [.type "ValueError",.type "Exception",.type "BaseException",.type "object"] "ValueError.__new__" = true)
  (a_Road:PySem.W.nsIn K mainGlobals "Road" = some (some (.ref qy)))
  (pg_Road:PySem.W.plainGet K qy Str.empty=true)
  (hd_Road:PySem.W.hasDictIn K qy=true)
  (po_Road:PySem.W.plainOver K qy=true)
  (sa_Road:PySem.W.findIn K (.ref qy) "__setattr__" = some (some (.builtin "object.__setattr__")))
  (mk_Road:PySem.W.makesIn K qy=true)
  (kc_Road:PySem.W.keepIn K (.ref qy)=true)
  (m_Road___init__:MethIn K qy "__init__" "Road.__init__" s_Road___init__)
  (m_Road_width:MethIn K qy "width" "Road.width" s_Road_width)
  (m_Road_corners:MethIn K qy "corners" "Road.corners" s_Road_corners)
  (m_Road_on_road:MethIn K qy "on_road" "Road.on_road" s_Road_on_road)
  (a_Walker:PySem.W.nsIn K mainGlobals "Walker" = some (some (.ref qg)))
  (pg_Walker:PySem.W.plainGet K qg Str.empty=true)
  (hd_Walker:PySem.W.hasDictIn K qg=true)
  (po_Walker:PySem.W.plainOver K qg=true)
  (sa_Walker:PySem.W.findIn K (.ref qg) "__setattr__" = some (some (.builtin "object.__setattr__")))
  (mk_Walker:PySem.W.makesIn K qg=true)
  (kc_Walker:PySem.W.keepIn K (.ref qg)=true)
  (m_Walker___init__:MethIn K qg "__init__" "Walker.__init__" s_Walker___init__)
  (a_House:PySem.W.nsIn K mainGlobals "House" = some (some (.ref qq)))
  (pg_House:PySem.W.plainGet K qq Str.empty=true)
  (hd_House:PySem.W.hasDictIn K qq=true)
  (po_House:PySem.W.plainOver K qq=true)
  (sa_House:PySem.W.findIn K (.ref qq) "__setattr__" = some (some (.builtin "object.__setattr__")))
  (mk_House:PySem.W.makesIn K qq=true)
  (kc_House:PySem.W.keepIn K (.ref qq)=true)
  (m_House___init__:MethIn K qq "__init__" "House.__init__" s_House___init__)
  (m_House_road_called:MethIn K qq "road_called" "House.road_called" s_House_road_called)
  (m_House_walker_called:MethIn K qq "walker_called" "House.walker_called" s_House_walker_called)
  (m_House_deeds:MethIn K qq "deeds" "House.deeds" s_House_deeds)
  (m_House_do:MethIn K qq "do" "House.do" s_House_do)
  (m_House_lay:MethIn K qq "lay" "House.lay" s_House_lay)
  (m_House_place:MethIn K qq "place" "House.place" s_House_place)
  (m_House_bend:MethIn K qq "bend" "House.bend" s_House_bend)
  (m_House_go:MethIn K qq "go" "House.go" s_House_go)
  (m_House_together:MethIn K qq "together" "House.together" s_House_together)
  (m_House_lengths_of:MethIn K qq "lengths_of" "House.lengths_of" s_House_lengths_of)
  (m_House_stood:MethIn K qq "stood" "House.stood" s_House_stood)
  (m_House_meet:MethIn K qq "meet" "House.meet" s_House_meet)
  (na_Road_heights:PySem.W.findIn K (.ref qy) "heights" = some none)
  (na_Walker_whose:PySem.W.findIn K (.ref qg) "whose" = some none)
  (na_Walker_point:PySem.W.findIn K (.ref qg) "point" = some none)
  (na_Walker_times:PySem.W.findIn K (.ref qg) "times" = some none)
  (na_House_roads:PySem.W.findIn K (.ref qq) "roads" = some none)
  (na_House_walkers:PySem.W.findIn K (.ref qq) "walkers" = some none)
  (na_House_done:PySem.W.findIn K (.ref qq) "done" = some none)
  (g_WIDEST:PySem.W.nsIn K mainGlobals "WIDEST" = some (some (.int 24 t_WIDEST)))
  (g_MOST_WALKED:PySem.W.nsIn K mainGlobals "MOST_WALKED" = some (some (.int 1000 t_MOST_WALKED)))
  (g_FARTHEST:PySem.W.nsIn K mainGlobals "FARTHEST" = some (some (.int 1000000000000000000000000000000000000000000000000000000000000 t_FARTHEST)))
  (g_LONGEST_NAME:PySem.W.nsIn K mainGlobals "LONGEST_NAME" = some (some (.int 12 t_LONGEST_NAME)))
  (g_GREATEST_BOTTOM:PySem.W.nsIn K mainGlobals "GREATEST_BOTTOM" = some (some (.int 40 t_GREATEST_BOTTOM)))
  (g_LETTERS:PySem.W.nsIn K mainGlobals "LETTERS" = some (some (.str "abcdefghijklmnopqrstuvwxyz" t_LETTERS)))
  (m_BadBottom_BadBottom:PySem.W.mroIn K qw (.ref qw)=some true)
  (m_BadBottom_OffRoad:PySem.W.mroIn K qw (.ref qz)=some false)
  (m_OffRoad_BadBottom:PySem.W.mroIn K qz (.ref qw)=some false)
  (m_OffRoad_OffRoad:PySem.W.mroIn K qz (.ref qz)=some true)
  (m_BadCount_BadBottom:PySem.W.mroIn K qv (.ref qw)=some false)
  (m_BadCount_OffRoad:PySem.W.mroIn K qv (.ref qz)=some false)
  (m_BadCount_BadCount:PySem.W.mroIn K qv (.ref qv)=some true)
  (m_NoRoad_BadBottom:PySem.W.mroIn K qj (.ref qw)=some false)
  (m_NoRoad_OffRoad:PySem.W.mroIn K qj (.ref qz)=some false)
  (m_NoRoad_BadCount:PySem.W.mroIn K qj (.ref qv)=some false)
  (m_NoRoad_TooLong:PySem.W.mroIn K qj (.ref qr)=some false)
  (m_NoRoad_NoRoad:PySem.W.mroIn K qj (.ref qj)=some true)
  (m_NoRoad_NoWalker:PySem.W.mroIn K qj (.ref qx)=some false)
  (m_NoWalker_BadBottom:PySem.W.mroIn K qx (.ref qw)=some false)
  (m_NoWalker_OffRoad:PySem.W.mroIn K qx (.ref qz)=some false)
  (m_NoWalker_BadCount:PySem.W.mroIn K qx (.ref qv)=some false)
  (m_NoWalker_TooLong:PySem.W.mroIn K qx (.ref qr)=some false)
  (m_NoWalker_NoRoad:PySem.W.mroIn K qx (.ref qj)=some false)
  (m_NoWalker_NoWalker:PySem.W.mroIn K qx (.ref qx)=some true)
  (m_BadName_BadBottom:PySem.W.mroIn K qk (.ref qw)=some false)
  (m_BadName_OffRoad:PySem.W.mroIn K qk (.ref qz)=some false)
  (m_BadName_BadCount:PySem.W.mroIn K qk (.ref qv)=some false)
  (m_BadName_TooLong:PySem.W.mroIn K qk (.ref qr)=some false)
  (m_BadName_NoRoad:PySem.W.mroIn K qk (.ref qj)=some false)
  (m_BadName_NoWalker:PySem.W.mroIn K qk (.ref qx)=some false)
  (m_BadName_BadName:PySem.W.mroIn K qk (.ref qk)=some true)
  (m_Taken_BadBottom:PySem.W.mroIn K qp (.ref qw)=some false)
  (m_Taken_OffRoad:PySem.W.mroIn K qp (.ref qz)=some false)
  (m_Taken_BadCount:PySem.W.mroIn K qp (.ref qv)=some false)
  (m_Taken_TooLong:PySem.W.mroIn K qp (.ref qr)=some false)
  (m_Taken_NoRoad:PySem.W.mroIn K qp (.ref qj)=some false)
  (m_Taken_NoWalker:PySem.W.mroIn K qp (.ref qx)=some false)
  (m_Taken_BadName:PySem.W.mroIn K qp (.ref qk)=some false)
  (m_Taken_Taken:PySem.W.mroIn K qp (.ref qp)=some true)
  (z_len:PySem.W.nsIn K mainGlobals "len" = some none)
  (z_abs:PySem.W.nsIn K mainGlobals "abs" = some none)
  (z_range:PySem.W.nsIn K mainGlobals "range" = some none)
  (z_list:PySem.W.nsIn K mainGlobals "list" = some none)
  (z_min:PySem.W.nsIn K mainGlobals "min" = some none)
  (z_max:PySem.W.nsIn K mainGlobals "max" = some none)
  (z_all:PySem.W.nsIn K mainGlobals "all" = some none)
  (z_sorted:PySem.W.nsIn K mainGlobals "sorted" = some none)
  (z_enumerate:PySem.W.nsIn K mainGlobals "enumerate" = some none)
  (z_dict:PySem.W.nsIn K mainGlobals "dict" = some none) :
  ∃fd:Ad,(∀(s:Ab) (v:Ag),BindsTo s fd ⟨[v],[]⟩ [("_law_script",v)])∧∀base:Heap,K.In base→base.Ns mainGlobals mg→FnOk l.prog w K mg base (CXE l.prog w) 10 fa fd ["_law_script"] (qq1 K):=by
 have T:Txt K mg qf qm qw qz qv qr ww qk qp qj qx wj qy qg qq:=⟨aC X G z_len,aC X G z_abs,aC X G z_range,aC X G z_list,aC X G z_min,aC X G z_max,aC X G z_all,aC X G z_sorted,aC X G z_enumerate,aC X G z_dict,am X G a_RoadError,⟨x_RoadError⟩,am X G a_BadLine,⟨x_BadLine⟩,am X G a_BadBottom,⟨x_BadBottom⟩,am X G a_OffRoad,⟨x_OffRoad⟩,am X G a_BadCount,⟨x_BadCount⟩,am X G a_TooLong,⟨x_TooLong⟩,am X G a_BadRow,⟨x_BadRow⟩,am X G a_BadName,⟨x_BadName⟩,am X G a_Taken,⟨x_Taken⟩,am X G a_NoRoad,⟨x_NoRoad⟩,am X G a_NoWalker,⟨x_NoWalker⟩,am X G a_Apart,⟨x_Apart⟩,⟨pg_Road,hd_Road,po_Road,sa_Road⟩,na_Road_heights,⟨t_WIDEST,am X G g_WIDEST⟩,am X G a_Road,⟨pg_Walker,hd_Walker,po_Walker,sa_Walker⟩,⟨pg_House,hd_House,po_House,sa_House⟩,na_Walker_whose,na_Walker_point,na_Walker_times,na_House_roads,na_House_walkers,na_House_done,am X G a_Walker,am X G a_House,⟨t_MOST_WALKED,am X G g_MOST_WALKED⟩,⟨t_FARTHEST,am X G g_FARTHEST⟩,⟨t_LONGEST_NAME,am X G g_LONGEST_NAME⟩,⟨t_GREATEST_BOTTOM,am X G g_GREATEST_BOTTOM⟩,⟨t_LETTERS,am X G g_LETTERS⟩,m_BadBottom_BadBottom,m_BadBottom_OffRoad,m_OffRoad_BadBottom,m_OffRoad_OffRoad,m_BadCount_BadBottom,m_BadCount_OffRoad,m_BadCount_BadCount,m_NoRoad_BadBottom,m_NoRoad_OffRoad,m_NoRoad_BadCount,m_NoRoad_TooLong,m_NoRoad_NoRoad,m_NoRoad_NoWalker,m_NoWalker_BadBottom,m_NoWalker_OffRoad,m_NoWalker_BadCount,m_NoWalker_TooLong,m_NoWalker_NoRoad,m_NoWalker_NoWalker,m_BadName_BadBottom,m_BadName_OffRoad,m_BadName_BadCount,m_BadName_TooLong,m_BadName_NoRoad,m_BadName_NoWalker,m_BadName_BadName,m_Taken_BadBottom,m_Taken_OffRoad,m_Taken_BadCount,m_Taken_TooLong,m_Taken_NoRoad,m_Taken_NoWalker,m_Taken_BadName,m_Taken_Taken⟩
 obtain ⟨f,fd,a,F⟩:=d_law.ex
 have e:=hfa.symm.trans (am X G a)
 cases e
 refine ⟨fd,λs v=>?_,λbase kb nb=>?_⟩
 ·obtain ⟨oc,od,kV,doc,pm,an,cdv,ct,osl,rfl,lk,hcd⟩:=F.ex
  exact .of_eq rfl
 ·have c1:Cal l.prog w K mg base "_law_cell" 1 (Jq K):=d__law_cell.cal X G Zp λf fd F=>qv1 F T
  have c2:Cal l.prog w K mg base "_law_pick" 2 (Y9 K):=d__law_pick.cal X G Zb λf fd F=>qkx F T c1
  have c3:Cal l.prog w K mg base "check_bottom" 1 (Zd qw):=d_check_bottom.cal X G y3 λf fd F=>qz2 F T
  have c4:Cal l.prog w K mg base "common_divisor" 1 qzp:=d_common_divisor.cal X G jv λf fd F=>ok_gcd F T
  have c5:Cal l.prog w K mg base "lowest" 2 (jb qw):=d_lowest.cal X G qw8 λf fd F=>qxh F T c3 c4
  have c6:CalD l.prog w K mg base "check_count" 1 (uz qv):=d_check_count.cal X G Qv Q0 λf fd F=>qz8 F T
  have c7:Cal l.prog w K mg base "is_line" 1 (uf K):=d_is_line.cal X G Jh λf fd F=>Jp F T
  have c8:CCal l.prog w K mg base "Road" qy 2 (yu K qm qy):=m_Road___init__.ccal T.g_Road mk_Road kc_Road yy λf fd F=>qkq F T c7
  have c9:MCal l.prog w K mg base qy "width" 1 (Zm qy):=m_Road_width.cal Wj λf fd F=>qvq F T
  have c10:MCal l.prog w K mg base qy "corners" 1 (j6 qy):=m_Road_corners.cal y7 λf fd F=>J0 F T
  have c11:MCal l.prog w K mg base qy "on_road" 3 (zv K qy qw qz):=m_Road_on_road.cal y4 λf fd F=>Jv F T c9 c5
  have c12:CCal l.prog w K mg base "Walker" qg 1 (y9 qg):=m_Walker___init__.ccal T.g_Walker mk_Walker kc_Walker k4 λf fd F=>qzk F T
  have c13:Cal l.prog w K mg base "set_down" 3 (j5 qg):=d_set_down.cal X G Ym λf fd F=>Y2 F T c12
  have c14:Cal l.prog w K mg base "is_name" 1 ut:=d_is_name.cal X G Js λf fd F=>Jk F T
  have c15:Cal l.prog w K mg base "check_new_name" 2 (v1 qk qp):=d_check_new_name.cal X G jr λf fd F=>Yj F T c14
  have c16:Cal l.prog w K mg base "exchange" 1 J3:=d_exchange.cal X G Yg λf fd F=>qkw F T
  have c17:CCal l.prog w K mg base "House" qq 1 (uw qq):=m_House___init__.ccal T.g_House mk_House kc_House jt λf fd F=>qx0 F T
  have c18:MCal l.prog w K mg base qq "road_called" 1 (xn qq qj true):=m_House_road_called.cal vu λf fd F=>Q5 F T
  have c19:MCal l.prog w K mg base qq "walker_called" 1 (xn qq qx false):=m_House_walker_called.cal vz λf fd F=>yg F T
  have c20:MCal l.prog w K mg base qq "deeds" 1 (jg qq):=m_House_deeds.cal Qz λf fd F=>qvj F T
  have c21:MCal l.prog w K mg base qq "do" 2 (spDo qq):=m_House_do.cal Yv λf fd F=>ok_do F T c16
  have c22:MCal l.prog w K mg base qq "lay" 4 (qqg K qq qy qk qp qm):=m_House_lay.cal Z3 λf fd F=>ok_lay F T c15 c8 c21
  have c23:MCal l.prog w K mg base qq "place" 5 (jh K qq qy qg qk qp qj qw qz):=m_House_place.cal uv λf fd F=>qzw F T c15 c18 c5 c11 c13 c21
  have c24:Cal l.prog w K mg base "walked" 4 (Qb K qy qw qz):=d_walked.cal X G qw3 λf fd F=>qwg F T c11
  have c25:Cal l.prog w K mg base "far" 4 (qz9 K qy qw qz qv):=d_far.cal X G bd_far λf fd F=>ok_far F T c6 c11
  have c26:Cal l.prog w K mg base "stands" 4 (jc K qy qw qz qv):=d_stands.cal X G qwd λf fd F=>qwp F T c6 c11
  have c27:Cal l.prog w K mg base "meeting" 4 (vt K qy qw qz):=d_meeting.cal X G Jg λf fd F=>Jr F T c11
  have c28:Cal l.prog w K mg base "lengths" 1 spNo:=d_lengths.cal X G qqz λf fd F=>Jt F T
  have c29:MCal l.prog w K mg base qq "bend" 2 (jy qq qj 2):=m_House_bend.cal Q7 λf fd F=>qky F T c18 c10
  have c30:MCal l.prog w K mg base qq "go" 2 (W5 qq qx):=m_House_go.cal Y0 λf fd F=>ok_go F T c19
  have c31:MCal l.prog w K mg base qq "together" 2 (jy qq qj 1):=m_House_together.cal jk λf fd F=>Yz F T c18
  have c32:MCal l.prog w K mg base qq "lengths_of" 2 (jy qq qj 1):=m_House_lengths_of.cal v8 λf fd F=>Wq F T c18 c28
  have c33:MCal l.prog w K mg base qq "stood" 2 (W5 qq qx):=m_House_stood.cal Qr λf fd F=>qz5 F T c19
  have c34:MCal l.prog w K mg base qq "meet" 2 (qqc qq qx):=m_House_meet.cal Wk λf fd F=>qkd F T c19
  have c35:Cal l.prog w K mg base "_law_walks" 5 (Zf K qy qw qz qv):=d__law_walks.cal X G Wy λf fd F=>qvv F T c24 c25 c26 c27 c8
  have c36:Cal l.prog w K mg base "_law_house_asked" 6 (Zk qq qy qk qp qj qx):=d__law_house_asked.cal X G v9 λf fd F=>qzg F T c23 c29 c30 c31 c32 c33 c34
  have c37:Cal l.prog w K mg base "_law_told" 7 (Qy K qq qy):=d__law_told.cal X G Zz λf fd F=>qvf F T c35 c36
  have c38:Cal l.prog w K mg base "_law_two_points" 5 (qqy K qy):=d__law_two_points.cal X G kf λf fd F=>qv5 F T c27 c26
  have c39:Cal l.prog w K mg base "_law_first_goes" 6 (Zq K qy):=d__law_first_goes.cal X G k7 λf fd F=>qzv F T c38
  exact ok_law F T c2 c8 c39 c17 c22 c23 c37 c20
theorem walk {l:PySem.W.OpenLaw}{q:Ac}{loose:List Str}{XP:(Str→Option Ag)→Heap→Prop}{YP:Ah→Heap→Prop}{d:DefRec}{K:Params→Aa}(hn:l.most=some 63)(hdf:d.params.defaults=[])
  (hY:∀(w:Ah) (h:Heap),YP w h→(K w.params).In h)
  (F:∀(w:Ah) (mg:Str→Option Ag) (fa:Aj) (h:Heap),(K w.params).In h→h.Ns mainGlobals mg→mg d.name=some (.ref fa) →
   ∃fd:Ad,(∀(s:Ab) (u:Ag),BindsTo s fd ⟨[u],[]⟩ [("_law_script",u)])∧∀base:Heap,(K w.params).In base→base.Ns mainGlobals mg→FnOk l.prog w (K w.params) mg base (CXE l.prog w) 10 fa fd ["_law_script"] (qq1 (K w.params))) :
  PySem.W.WalkO q loose XP YP l.row.toRowW d [] (λf vs=>PySem.call f vs) :=
 L2.qvh (n:=63) (k:=10) (x := "_law_script") (CX:=λw=>CXE l.prog w) (sp:=λw=>qq1 (K w.params)) hn (by decide) hdf ⟨rfl,by decide,by decide⟩ hY F (λ_ _ a ns hl _ hS=>⟨a,ns,rfl,hS,hl,λ_=>rfl⟩) λ_ _ _ _ _ z=>CXE.no z
end
end My
open PySem PySem.W PyProof.Rows
local macro_rules | `(tactic| walk_at "def")=>`(tactic| (refine' L2.def_mk ?a ?l ?c ?k;(case a=>k_is);(case l=>k_is);(case c=>k_is);(case k=>k_is)))
local macro_rules | `(tactic| walk_at "defD")=>`(tactic| (refine' L2.qkc ?a ?l ?c ?k ?t;(case a=>k_is);(case l=>k_is);(case c=>k_is);(case k=>k_is);(case t=>k_is)))
local macro_rules | `(tactic| walk_at "meth")=>`(tactic| (refine' L2.qvs ?a ?i ?l ?c ?k;(case a=>k_is);(case i=>k_is);(case l=>k_is);(case c=>k_is);(case k=>k_is)))
namespace PySem.W.Fast
theorem tw16379790058309555464:True:=trivial
theorem tw14386193749473837178:True:=trivial
theorem tw16626642994993121793:True:=trivial
theorem tw4954166045145940698:True:=trivial
theorem tw4986086386746820723:True:=trivial
theorem tw15296076711317622367:True:=trivial
theorem tw4293821188350404871:True:=trivial
theorem tw15597280945908081827:True:=trivial
theorem tw17836587590641640587:True:=trivial
theorem tw13982555846712230249:True:=trivial
theorem tw2166726655054418136:True:=trivial
theorem tw1325641607040310641:True:=trivial
theorem tw14821831779103253050:True:=trivial
theorem tw1755433986546105534:True:=trivial
theorem tw7932917908508419366:True:=trivial
theorem tw18026518886202458284:True:=trivial
theorem tw12627154190964883219:True:=trivial
theorem tw13527707251183951:True:=trivial
theorem tw6983953158948514666:True:=trivial
theorem tw5910841929765940603:True:=trivial
theorem tw15843080551313416180:True:=trivial
theorem tw11146466779114513386:True:=trivial
theorem tw11488647082372200307:True:=trivial
theorem tw14440132831550667398:True:=trivial
theorem tw18309941582267982325:True:=trivial
theorem tw4277481472893550215:True:=trivial
theorem tw9406504040292855395:True:=trivial
theorem tw18157816970344796401:True:=trivial
theorem tw9077722972655188879:True:=trivial
theorem tw13527328737746139541:True:=trivial
theorem tw16680939264985214199:True:=trivial
theorem tw5343805814598014042:True:=trivial
theorem tw10140802681466653694:True:=trivial
theorem tw15874614439428194384:True:=trivial
theorem tw3385304600023715676:True:=trivial
theorem tw8051247437292731043:True:=trivial
theorem tw8806333786872401039:True:=trivial
theorem tw826091444401989633:True:=trivial
theorem tw3084355591280958083:True:=trivial
theorem tw17970775554065022949:True:=trivial
theorem tw11758236935759863678:True:=trivial
theorem tw322810115972448607:True:=trivial
theorem tw1570955093586279144:True:=trivial
theorem tw8970359291939486922:True:=trivial
theorem tw5985711136714664047:True:=trivial
theorem tw1792577119016338501:True:=trivial
theorem tw5957932461292731424:True:=trivial
theorem tw3203783069857507630:True:=trivial
theorem tw13795650345862522408:True:=trivial
theorem tw14442000156243895539:True:=trivial
theorem tw3347627318488231790:True:=trivial
theorem tw10079810511876376898:True:=trivial
theorem tw2489559880828377063:True:=trivial
theorem tw15421824916808975121:True:=trivial
theorem tw13015604173576768275:True:=trivial
theorem tw1155706933756990641:True:=trivial
theorem tw6451987838305845929:True:=trivial
theorem tw514147880971224128:True:=trivial
theorem tw6626290595628215168:True:=trivial
theorem tw4464402966784933871:True:=trivial
theorem tw5525832090164456922:True:=trivial
theorem tw5947385404030387264:True:=trivial
theorem tw14542115159964333875:True:=trivial
theorem tw11328304248240796003:True:=trivial
theorem tw9544411466330607595:True:=trivial
theorem tw8974864435746466577:True:=trivial
theorem tw12950547526460070810:True:=trivial
theorem tw1823545668486917952:True:=trivial
theorem tw9915278701493679561:True:=trivial
theorem tw14926183901486580190:True:=trivial
theorem tw4057518232675370906:True:=trivial
theorem tw11774103483760507850:True:=trivial
theorem tw6021188874861779724:True:=trivial
theorem tw5982898934378430800:True:=trivial
theorem tw1427527541068186785:True:=trivial
theorem tw4550493060179520745:True:=trivial
theorem tw10055561128117619713:True:=trivial
theorem tw10512896917172789782:True:=trivial
theorem tw2777163566967886308:True:=trivial
theorem tw16881991793730341448:True:=trivial
theorem tw16526666264965908463:True:=trivial
theorem tw5214132539941622694:True:=trivial
theorem tw17862311983093843361:True:=trivial
theorem tw1172958600667279875:True:=trivial
theorem tw7280008684963586899:True:=trivial
theorem tw13192864472083799947:True:=trivial
theorem tw8945484602171361029:True:=trivial
theorem tw11892016920003623418:True:=trivial
theorem tw8577510386836100764:True:=trivial
theorem tw11645642465560734774:True:=trivial
theorem tw4906426300128102947:True:=trivial
theorem tw13835074994576799212:True:=trivial
theorem tw11617380200417273519:True:=trivial
theorem tw17123807375268677395:True:=trivial
theorem tw12562675796309286886:True:=trivial
theorem tw14752157535146571222:True:=trivial
theorem tw6977255144082289602:True:=trivial
theorem tw12142608766469205487:True:=trivial
theorem tw15174071446773235010:True:=trivial
theorem tw5851490461924683269:True:=trivial
theorem tw362996065586897412:True:=trivial
theorem tw2060245560922585131:True:=trivial
theorem tw13093361630425180676:True:=trivial
theorem tw14073562154081387279:True:=trivial
theorem tw14148497238364148289:True:=trivial
theorem tw1674222685011219053:True:=trivial
theorem tw3824663447030149097:True:=trivial
theorem tw12918416732688056650:True:=trivial
theorem tw17801687715844708515:True:=trivial
theorem tw16285167916571723162:True:=trivial
theorem tw10139143825337924504:True:=trivial
theorem tw7165969245400362932:True:=trivial
theorem tw11988605333279121321:True:=trivial
theorem tw17102142901460639645:True:=trivial
theorem tw12264570573559764153:True:=trivial
theorem tw14406365892690100409:True:=trivial
theorem tw13325745893427664554:True:=trivial
theorem tw1205254318741854033:True:=trivial
theorem tw1938911956368359308:True:=trivial
theorem tw14639112375699910884:True:=trivial
theorem tw11184721494210417542:True:=trivial
theorem tw16897073170934930856:True:=trivial
theorem tw16312978997686256421:True:=trivial
theorem tw15352280232125136804:True:=trivial
theorem tw12160442728258726134:True:=trivial
theorem tw2886021046478591118:True:=trivial
theorem tw5059667437320692833:True:=trivial
theorem tw3689768582716147400:True:=trivial
theorem tw17477705060889892861:True:=trivial
theorem tw8683866635895812447:True:=trivial
theorem tw11987691646661641576:True:=trivial
theorem tw2869814540966314009:True:=trivial
theorem tw16618891241414440346:True:=trivial
theorem tw2996298731110841658:True:=trivial
theorem tw898871418253058759:True:=trivial
theorem tw10135519556465146376:True:=trivial
theorem tw843703749133175157:True:=trivial
theorem tw4283138407095511360:True:=trivial
theorem tw11151145545958676758:True:=trivial
theorem tw3250952611410342277:True:=trivial
theorem tw16272662829788267585:True:=trivial
theorem tw16530688011832044303:True:=trivial
theorem tw8771571063420631746:True:=trivial
theorem tw7016747960479475977:True:=trivial
theorem tw14632355135197535742:True:=trivial
theorem tw14475829263945108265:True:=trivial
theorem tw12311510131757457549:True:=trivial
theorem tw10554376315062372066:True:=trivial
theorem tw12033916846879315569:True:=trivial
theorem tw13641598743121830853:True:=trivial
theorem tw16060579951468957015:True:=trivial
theorem tw17589160248856114938:True:=trivial
theorem tw9288380718266753805:True:=trivial
theorem tw6967624443643200227:True:=trivial
theorem tw469053454675271138:True:=trivial
theorem tw16482596945680165118:True:=trivial
theorem tw2702147038774393780:True:=trivial
theorem tw3103089267834719737:True:=trivial
theorem tw16064182079420215836:True:=trivial
theorem tw3244109082960077210:True:=trivial
theorem tw14772409128522208414:True:=trivial
theorem tw6009124541579393541:True:=trivial
theorem tw13225958401930454854:True:=trivial
theorem tw1171715813997424448:True:=trivial
theorem tw3823459189290782591:True:=trivial
theorem tw12765665389116858749:True:=trivial
theorem tw10843519855106967304:True:=trivial
theorem tw10877991395398949444:True:=trivial
theorem tw15566838188810960986:True:=trivial
theorem tw17969514872002146030:True:=trivial
theorem tw11044655050985368501:True:=trivial
theorem tw375537235280484312:True:=trivial
theorem tw4649791679764193094:True:=trivial
theorem tw492953354272540037:True:=trivial
theorem tw18117565073416711200:True:=trivial
theorem tw6876040462535459926:True:=trivial
theorem tw16320340800605420600:True:=trivial
theorem tw15012995451145069517:True:=trivial
theorem tw15640883728413174241:True:=trivial
theorem tw7171057916902241368:True:=trivial
theorem tw4363146255701848074:True:=trivial
theorem tw5059558483484791406:True:=trivial
theorem tw2112575205768430044:True:=trivial
theorem tw5806973113320774795:True:=trivial
theorem tw8851484869958901983:True:=trivial
theorem tw7875928182156846595:True:=trivial
theorem tw1169420373789063099:True:=trivial
theorem tw853895360414851453:True:=trivial
theorem tw17893938066936744358:True:=trivial
theorem tw10522737320861930964:True:=trivial
theorem tw5674397831086999881:True:=trivial
theorem tw4255210143594046743:True:=trivial
theorem tw21324378335310583:True:=trivial
theorem tw1274453400886254740:True:=trivial
theorem tw11140786391695282184:True:=trivial
theorem tw6775486660305370648:True:=trivial
theorem tw17406981088070005174:True:=trivial
theorem tw16492311117149667733:True:=trivial
theorem tw16338448462385122169:True:=trivial
theorem tw10533531509668202126:True:=trivial
theorem tw18156514808607078659:True:=trivial
theorem tw3377053379849209748:True:=trivial
theorem tw18215414108584403388:True:=trivial
theorem tw7889295608806606940:True:=trivial
theorem tw4278857361140302810:True:=trivial
theorem tw1132879941157645442:True:=trivial
theorem tw14514239688266442434:True:=trivial
theorem tw7617126086110825072:True:=trivial
theorem tw16668877591000276839:True:=trivial
theorem tw5104558818825951375:True:=trivial
theorem tw3758186132492567371:True:=trivial
theorem tw122865670123908690:True:=trivial
theorem tw17105093900340188820:True:=trivial
theorem tw14756983985454755089:True:=trivial
theorem tw11488810257776798324:True:=trivial
theorem tw11746472776685975907:True:=trivial
theorem tw15706584971667806907:True:=trivial
theorem tw6592492152278111820:True:=trivial
theorem tw11205648715733473000:True:=trivial
theorem tw1653050355638440887:True:=trivial
theorem tw862660795545055839:True:=trivial
theorem tw5530271076183990463:True:=trivial
theorem tw11353989876668299219:True:=trivial
theorem tw13558839369889607121:True:=trivial
theorem tw2494422749796137199:True:=trivial
theorem tw4049159510186937721:True:=trivial
theorem tw12322665565985195695:True:=trivial
theorem tw13663832057126956826:True:=trivial
theorem tw13136517991785951839:True:=trivial
theorem tw15011217810833396394:True:=trivial
theorem tw14141274357527065910:True:=trivial
theorem tw12993488836595880467:True:=trivial
theorem tw14960695368128760607:True:=trivial
theorem tw14888050452138155481:True:=trivial
theorem tw5117962042208020643:True:=trivial
theorem tw16889922046115600673:True:=trivial
theorem tw12202774138318087556:True:=trivial
theorem tw13962439077957685510:True:=trivial
theorem tw739511981521687180:True:=trivial
theorem tw8771796833618549813:True:=trivial
theorem tw14845207805335137962:True:=trivial
theorem tw8748487051470382813:True:=trivial
theorem tw11901312054701981475:True:=trivial
theorem tw629319841176867561:True:=trivial
theorem tw3849635035075467776:True:=trivial
theorem tw5960395299447933921:True:=trivial
theorem tw8813629876106009767:True:=trivial
theorem tw15696887887339364094:True:=trivial
theorem tw15259212474706713763:True:=trivial
theorem tw14169921777120851191:True:=trivial
theorem tw10938545918549511202:True:=trivial
theorem tw13367016399388145859:True:=trivial
theorem tw12975045938971934881:True:=trivial
theorem tw17879534574217676505:True:=trivial
theorem tw4347177680208898380:True:=trivial
theorem tw1833618663499065867:True:=trivial
theorem tw11744869537628728129:True:=trivial
theorem tw13542199383424673057:True:=trivial
theorem tw2812200704902932961:True:=trivial
theorem tw17385935809560284081:True:=trivial
theorem tw13801900154810896660:True:=trivial
theorem tw16790424057040609151:True:=trivial
theorem tw8575941318265498515:True:=trivial
theorem tw9860633101121875775:True:=trivial
theorem tw15019770935269529314:True:=trivial
theorem tw1217013211610424358:True:=trivial
theorem tw2796792660749910860:True:=trivial
theorem tw5071432972264776034:True:=trivial
theorem tw18191027462485994129:True:=trivial
theorem tw3733649411809205839:True:=trivial
theorem tw724179359919747906:True:=trivial
theorem tw16758212167114309632:True:=trivial
theorem tw14946045831760573144:True:=trivial
theorem tw10192723866879839263:True:=trivial
theorem tw15210693171387024679:True:=trivial
theorem tw2786197529246431662:True:=trivial
theorem tw12076788177997376436:True:=trivial
theorem tw8564148462987525176:True:=trivial
theorem tw3892148618331620497:True:=trivial
theorem tw8840990921729598670:True:=trivial
theorem tw14839160890614791963:True:=trivial
theorem tw140625881483777748:True:=trivial
theorem tw8271389453475331867:True:=trivial
theorem tw16335838469873288148:True:=trivial
theorem tw4332662448164759541:True:=trivial
theorem tw6626698831264975350:True:=trivial
theorem tw10423149381149386693:True:=trivial
theorem tw9681469644395520789:True:=trivial
theorem tw566771316992132118:True:=trivial
theorem tw13563145269630864942:True:=trivial
theorem tw9633028670349633109:True:=trivial
theorem tw10383309489592925786:True:=trivial
theorem tw8040892063353670844:True:=trivial
theorem tw3690309591626995744:True:=trivial
theorem tw5424973474734603781:True:=trivial
theorem tw9064943991545367072:True:=trivial
theorem tw708094416236328007:True:=trivial
theorem tw11676000936078262846:True:=trivial
theorem tw11707285384286214648:True:=trivial
theorem tw1845580901141765678:True:=trivial
theorem tw5404955046115991270:True:=trivial
theorem tw13519867068452793851:True:=trivial
theorem tw15650918678410170283:True:=trivial
theorem tw701796773806889994:True:=trivial
theorem tw11536193253496559493:True:=trivial
theorem tw8581531499511156764:True:=trivial
theorem tw6811729160371195378:True:=trivial
theorem tw7528259405221139774:True:=trivial
theorem tw4601991108446343090:True:=trivial
theorem tw2512802003364838972:True:=trivial
theorem tw16291283599549357835:True:=trivial
theorem tw4892120854562896216:True:=trivial
theorem tw3526105834586462904:True:=trivial
theorem tw10192930643325999537:True:=trivial
theorem tw7310871391849878420:True:=trivial
theorem tw7760517603659926165:True:=trivial
theorem tw2552003014887342423:True:=trivial
theorem tw16409196210715495965:True:=trivial
theorem tw3793036435496992094:True:=trivial
theorem tw16588636222075074973:True:=trivial
theorem tw3438887558415989855:True:=trivial
theorem tw12683626511096007259:True:=trivial
theorem tw16097370186096584424:True:=trivial
theorem tw6761121686137593366:True:=trivial
theorem tw9144903073563941495:True:=trivial
theorem tw1123658691694983036:True:=trivial
theorem tw11633917821277090924:True:=trivial
theorem tw16175614941536293871:True:=trivial
theorem tw2773813801916597951:True:=trivial
theorem tw3237640530737977456:True:=trivial
theorem tw15570831311611398996:True:=trivial
theorem tw13205536561360737610:True:=trivial
theorem tw5534239834853536779:True:=trivial
theorem tw15248082891469784673:True:=trivial
theorem tw4482080500612329671:True:=trivial
theorem tw7284886600079775976:True:=trivial
theorem tw6418600992332430914:True:=trivial
theorem tw10896406270632937499:True:=trivial
theorem tw3639893588239116843:True:=trivial
theorem tw11273311849913212538:True:=trivial
theorem tw5063850203230460230:True:=trivial
theorem tw11147158774661928048:True:=trivial
theorem tw4539927042433309823:True:=trivial
theorem tw360867064396117913:True:=trivial
theorem tw12767763160889570080:True:=trivial
theorem tw7110955673447871997:True:=trivial
theorem tw8778315977167983935:True:=trivial
theorem tw10762783015567147023:True:=trivial
theorem tw4151421001859905639:True:=trivial
theorem tw9215532940165184205:True:=trivial
theorem tw10421346825379194821:True:=trivial
theorem tw12169658139881681966:True:=trivial
theorem tw9990052368657132559:True:=trivial
theorem tw13208981139074410390:True:=trivial
theorem tw7569433577095095288:True:=trivial
theorem tw4046842369720802093:True:=trivial
theorem tw12194280378650421752:True:=trivial
theorem tw2514091819104495950:True:=trivial
theorem tw7104554073198628553:True:=trivial
theorem tw18209131049274211469:True:=trivial
theorem tw12908141868527967161:True:=trivial
theorem tw7061041457804660224:True:=trivial
theorem tw13413460537578210912:True:=trivial
theorem tw892137875855341408:True:=trivial
theorem tw9625015748730045513:True:=trivial
theorem tw15659319301208386964:True:=trivial
theorem tw14548837635693263981:True:=trivial
theorem tw3148707689470415222:True:=trivial
theorem tw408007872042454742:True:=trivial
theorem tw1274100737291421661:True:=trivial
theorem tw10029761545914338376:True:=trivial
theorem tw1607424684868551978:True:=trivial
theorem tw4845080521249401818:True:=trivial
theorem tw18439756782735394910:True:=trivial
theorem tw6245410757385668445:True:=trivial
theorem tw9245611088852744670:True:=trivial
theorem tw735232739265652592:True:=trivial
theorem tw6075411782491307920:True:=trivial
theorem tw7905522605165556271:True:=trivial
theorem tw16344145633906458566:True:=trivial
theorem tw10039992492133595929:True:=trivial
theorem tw14035582021950237120:True:=trivial
theorem tw1970607805669550695:True:=trivial
theorem tw4987836783906134877:True:=trivial
theorem tw10720258149839421543:True:=trivial
theorem tw16395952501509476824:True:=trivial
theorem tw1524819892968084797:True:=trivial
theorem tw10345641370320263977:True:=trivial
theorem tw15711427936700873272:True:=trivial
theorem tw11834942962445978301:True:=trivial
theorem tw4114565294881974839:True:=trivial
theorem tw17252199177328770460:True:=trivial
theorem tw14739711467192096770:True:=trivial
theorem tw2707969356904571562:True:=trivial
theorem tw12544614870901140852:True:=trivial
theorem tw15150400801358052579:True:=trivial
theorem tw8959772194467839412:True:=trivial
theorem tw7176069572765248925:True:=trivial
theorem tw13367957228084718186:True:=trivial
theorem tw6412877631290940889:True:=trivial
theorem tw3838881848295616568:True:=trivial
theorem tw16466742449251149554:True:=trivial
theorem tw4425339904988139362:True:=trivial
theorem tw4593656453547184676:True:=trivial
theorem tw7070243125880054088:True:=trivial
theorem tw653398356819112792:True:=trivial
theorem tw13378299147561945444:True:=trivial
theorem tw8696750873480006201:True:=trivial
theorem tw11143543805806546254:True:=trivial
theorem tw10350133022352035877:True:=trivial
theorem tw13010240961335801096:True:=trivial
theorem tw2612390786593636923:True:=trivial
theorem tw7861451794149477287:True:=trivial
theorem tw8180456604623207704:True:=trivial
theorem tw18193487087546990641:True:=trivial
theorem tw13931545320682107625:True:=trivial
theorem tw8942419136453905630:True:=trivial
theorem tw1301552923882453615:True:=trivial
theorem tw16976354496947456554:True:=trivial
theorem tw14044411875329059007:True:=trivial
theorem tw12298019732698383291:True:=trivial
theorem tw6257878021832506412:True:=trivial
theorem tw12606838590670904081:True:=trivial
theorem tw14500562028732314948:True:=trivial
theorem tw2176739587130235375:True:=trivial
theorem tw10991801324777378532:True:=trivial
theorem tw3771309679279338769:True:=trivial
theorem tw17834732566591706898:True:=trivial
theorem tw15787417458374676589:True:=trivial
theorem tw18032084429333710585:True:=trivial
theorem tw7202312926343255356:True:=trivial
theorem tw12151966508729867996:True:=trivial
theorem tw15359010468890760387:True:=trivial
theorem tw3452663060879923463:True:=trivial
theorem tw2943395354718109705:True:=trivial
theorem tw15058839913838036806:True:=trivial
theorem tw1261893841286521743:True:=trivial
theorem tw3368682698030084276:True:=trivial
theorem tw8301001740884263631:True:=trivial
theorem tw11952653641408772078:True:=trivial
theorem tw16589299920197747744:True:=trivial
theorem tw6161586290652945864:True:=trivial
theorem tw3908602025851329126:True:=trivial
theorem tw13586002076733176906:True:=trivial
theorem tw7797410822566338729:True:=trivial
theorem tw11342186559094191081:True:=trivial
theorem tw8504575285037235910:True:=trivial
theorem tw9330051489514348483:True:=trivial
theorem tw6038553178914296360:True:=trivial
theorem tw6846350723590775350:True:=trivial
theorem tw9868548652876802839:True:=trivial
theorem tw1233878601729110344:True:=trivial
theorem tw16950905118476207602:True:=trivial
theorem tw3622973963849108260:True:=trivial
theorem tw3996586134556434151:True:=trivial
theorem tw7581479802927644893:True:=trivial
theorem tw8208589602037531386:True:=trivial
theorem tw3383877861914166932:True:=trivial
theorem tw16609353263055240130:True:=trivial
theorem tw12702628444284453226:True:=trivial
theorem tw8152140681691796375:True:=trivial
theorem tw16520280577307698878:True:=trivial
theorem tw5894126950953073279:True:=trivial
theorem tw13555528797097924583:True:=trivial
theorem tw17964844023006263446:True:=trivial
theorem tw15116903304976584396:True:=trivial
theorem tw14693823992927302446:True:=trivial
theorem tw2477018052804845796:True:=trivial
theorem tw3634276776656805049:True:=trivial
theorem tw7412173966615987072:True:=trivial
theorem tw4689340423539818373:True:=trivial
theorem tw12209740979855241095:True:=trivial
theorem tw2396323309993419197:True:=trivial
theorem tw12273795679838033383:True:=trivial
theorem tw12933280249620696742:True:=trivial
theorem tw16547439749338964107:True:=trivial
theorem tw2717231970336407551:True:=trivial
theorem tw643115501973439957:True:=trivial
theorem tw5343514771081125498:True:=trivial
theorem tw5034571269007649712:True:=trivial
theorem tw14401893428585179938:True:=trivial
theorem tw6146229703965843386:True:=trivial
theorem tw6397277888790827372:True:=trivial
theorem tw5890881802877273418:True:=trivial
theorem tw8283621547135147576:True:=trivial
theorem tw3674676549185128574:True:=trivial
theorem tw2025976877943490766:True:=trivial
theorem tw16743802141006454906:True:=trivial
theorem tw9735207210965635354:True:=trivial
theorem tw600858780869244552:True:=trivial
theorem tw15060360416577592088:True:=trivial
theorem tw5845529174616752821:True:=trivial
theorem tw17229445782406853710:True:=trivial
theorem tw3092754753391833580:True:=trivial
theorem tw7948821433423202287:True:=trivial
theorem tw8582473922613538741:True:=trivial
theorem tw16152491100253418486:True:=trivial
theorem tw2366514572166513303:True:=trivial
theorem tw8505305716203215223:True:=trivial
theorem tw9421527743686411589:True:=trivial
theorem tw13327892871505755760:True:=trivial
theorem tw14378674751238713142:True:=trivial
theorem tw14896273600099849376:True:=trivial
theorem tw7148974967675654408:True:=trivial
theorem tw12049763468584702313:True:=trivial
theorem tw3048144619329697373:True:=trivial
theorem tw12627596655566277818:True:=trivial
theorem tw5690019147235090122:True:=trivial
theorem tw7186851637838699049:True:=trivial
theorem tw3465206062765004301:True:=trivial
theorem tw3379009142376771011:True:=trivial
theorem tw10303531727920344070:True:=trivial
theorem tw12940820200340785849:True:=trivial
theorem tw13774830935648023827:True:=trivial
theorem tw13944022180579668034:True:=trivial
theorem tw4845519840964215875:True:=trivial
theorem tw10297393530987364463:True:=trivial
theorem tw13005390663136237990:True:=trivial
theorem tw11742747136355732809:True:=trivial
theorem tw5596284580765003493:True:=trivial
theorem tw13512741052091674749:True:=trivial
theorem tw15252662272434355957:True:=trivial
theorem tw5729215827823527556:True:=trivial
theorem tw8308082055024521290:True:=trivial
theorem tw2657300354097807434:True:=trivial
theorem tw5143424243345193978:True:=trivial
theorem tw14382067151158961719:True:=trivial
theorem tw5938381032605561431:True:=trivial
theorem tw6680317219167033882:True:=trivial
theorem tw488670405314878467:True:=trivial
theorem tw7789610602102772295:True:=trivial
theorem tw3224637511169124969:True:=trivial
theorem tw16023984592132294802:True:=trivial
theorem tw405526715712563915:True:=trivial
theorem tw9150356234092188158:True:=trivial
theorem tw7634109702048492334:True:=trivial
theorem tw12567216737229471304:True:=trivial
theorem tw5703874251204627998:True:=trivial
theorem tw12619528516004216409:True:=trivial
theorem tw3196048087039966073:True:=trivial
theorem tw7174429166911060836:True:=trivial
theorem tw9380588384220511117:True:=trivial
theorem tw12324373825469470919:True:=trivial
theorem tw11304003443565869345:True:=trivial
theorem tw18139151052311755321:True:=trivial
theorem tw5211817082445116:True:=trivial
theorem tw8899420100037663202:True:=trivial
theorem tw2501665004689708629:True:=trivial
theorem tw7513595368378850314:True:=trivial
theorem tw5399517394425152300:True:=trivial
theorem tw11572338513043001017:True:=trivial
theorem tw9190279930338984989:True:=trivial
theorem tw1184401008718202276:True:=trivial
theorem tw8648750801866109327:True:=trivial
theorem tw3226671722760855785:True:=trivial
theorem tw8341973143551118068:True:=trivial
theorem tw7214784171132355987:True:=trivial
theorem tw14139991417377243450:True:=trivial
theorem tw11861131092486315587:True:=trivial
theorem tw3213478576942556203:True:=trivial
theorem tw5327507919105053967:True:=trivial
theorem tw1019191107894686098:True:=trivial
theorem tw5293624122960576117:True:=trivial
theorem tw17597135202003412987:True:=trivial
theorem tw7767304923082448968:True:=trivial
theorem tw2843239102639604253:True:=trivial
theorem tw3903329251105996457:True:=trivial
theorem tw16031725700707700370:True:=trivial
theorem tw4689251960780247812:True:=trivial
theorem tw3043213711193848847:True:=trivial
theorem tw18217348936306127610:True:=trivial
theorem tw15596642455525529231:True:=trivial
theorem tw12607777055322761636:True:=trivial
theorem tw1147251570555871994:True:=trivial
theorem tw3959339486876361628:True:=trivial
theorem tw14972563899159833267:True:=trivial
theorem tw618949183213011088:True:=trivial
theorem tw1286950692883179284:True:=trivial
theorem tw8977246482097077000:True:=trivial
theorem tw14216695141876964187:True:=trivial
theorem tw11894954372012333817:True:=trivial
theorem tw14355031763202933842:True:=trivial
theorem tw15152908529916886735:True:=trivial
theorem tw18101427229617249209:True:=trivial
theorem tw171573650276701947:True:=trivial
theorem tw18356168197036182360:True:=trivial
theorem tw15639437213015712480:True:=trivial
theorem tw13049232058628122102:True:=trivial
theorem tw17295185087879235014:True:=trivial
theorem tw18088554113754140562:True:=trivial
theorem tw8964879165163687635:True:=trivial
theorem tw5217590015005414921:True:=trivial
theorem tw7781172865160508619:True:=trivial
theorem tw8970288212653425105:True:=trivial
theorem tw16648391545522013302:True:=trivial
theorem tw11307180117095113320:True:=trivial
theorem tw14611203330225559022:True:=trivial
theorem tw10866643816175985368:True:=trivial
theorem tw10999427802880015484:True:=trivial
theorem tw3008375396725597988:True:=trivial
theorem tw15833794150508841385:True:=trivial
theorem tw5548695561828145351:True:=trivial
theorem tw15237891083186347717:True:=trivial
theorem tw1262589501489098025:True:=trivial
theorem tw4670061634627233289:True:=trivial
theorem tw16964731476706927582:True:=trivial
theorem tw6374802079094318971:True:=trivial
theorem tw8068144188221506479:True:=trivial
theorem tw5424274481341049664:True:=trivial
theorem tw13913574152062554640:True:=trivial
theorem tw2429133385535243449:True:=trivial
theorem tw18276355919266604106:True:=trivial
theorem tw6090129298635493329:True:=trivial
theorem tw6791267572452392164:True:=trivial
theorem tw474847697249170735:True:=trivial
theorem tw161860167734662220:True:=trivial
theorem tw15324852235391474114:True:=trivial
theorem tw17197600108266022298:True:=trivial
theorem tw534754716725483831:True:=trivial
theorem tw18315198257437899422:True:=trivial
theorem tw4332903311236458126:True:=trivial
theorem tw12867061810994836882:True:=trivial
theorem tw15728239378895358720:True:=trivial
theorem tw2561228697641061258:True:=trivial
theorem tw15432069127084583918:True:=trivial
theorem tw16698308850851045508:True:=trivial
theorem tw2387228904591224995:True:=trivial
theorem tw1794981212144635968:True:=trivial
theorem tw17451445511374625341:True:=trivial
theorem tw5401755192475112906:True:=trivial
theorem tw3535304228935062899:True:=trivial
theorem tw14537688701160916087:True:=trivial
theorem tw6136386293843425280:True:=trivial
theorem tw4241425252032534624:True:=trivial
theorem tw8400377376731523188:True:=trivial
theorem tw14153336784164175705:True:=trivial
theorem tw10495097665136498588:True:=trivial
theorem tw15047813319539874442:True:=trivial
theorem tw3562325257690703067:True:=trivial
theorem tw13139389955833861380:True:=trivial
theorem tw17665418500860026446:True:=trivial
theorem tw4839249589880729881:True:=trivial
theorem tw13937775028057128818:True:=trivial
theorem tw17709520670211278126:True:=trivial
theorem tw17750535144874428382:True:=trivial
theorem tw3060975513332431708:True:=trivial
theorem tw1228474098261524458:True:=trivial
theorem tw13085492462113123469:True:=trivial
theorem tw11010290052764170497:True:=trivial
theorem tw225988312664692426:True:=trivial
theorem tw2822314580420963441:True:=trivial
theorem tw630459528202035918:True:=trivial
theorem tw12805312865380214583:True:=trivial
theorem tw1595420171097678395:True:=trivial
theorem tw16481254424783687146:True:=trivial
theorem tw2320456176590692125:True:=trivial
theorem tw6871655428695627480:True:=trivial
theorem tw3613507233957272334:True:=trivial
theorem tw5327229962963939962:True:=trivial
theorem tw6026173136443299508:True:=trivial
theorem tw17274680553251347339:True:=trivial
theorem tw17723962873253900155:True:=trivial
theorem tw8226178085885449229:True:=trivial
theorem tw5185945612389949195:True:=trivial
theorem tw3220683190358207371:True:=trivial
theorem tw6484203449748161621:True:=trivial
theorem tw1264780908662828847:True:=trivial
theorem tw17019349270669311402:True:=trivial
theorem tw7276177851679229994:True:=trivial
theorem tw9137094897953059380:True:=trivial
theorem tw9405734543937956152:True:=trivial
theorem tw4612308568146788348:True:=trivial
theorem tw2134028998692034427:True:=trivial
theorem tw18044419419589913534:True:=trivial
theorem tw572740888052001339:True:=trivial
theorem tw14162309356516413029:True:=trivial
theorem tw13581508045715739740:True:=trivial
theorem tw13831401518956427413:True:=trivial
theorem tw10144690035514003444:True:=trivial
theorem tw5326540105931084257:True:=trivial
theorem tw17062622994944872774:True:=trivial
theorem tw7733489167272860432:True:=trivial
theorem tw15631458385037261478:True:=trivial
theorem tw16073980583775584033:True:=trivial
theorem tw5410499632092098081:True:=trivial
theorem tw8817928067793566640:True:=trivial
theorem tw2605002565567246115:True:=trivial
theorem tw13687302945375752134:True:=trivial
theorem tw6015098141455457503:True:=trivial
theorem tw13473505107251569223:True:=trivial
theorem tw1558965153660455631:True:=trivial
theorem tw8765972311715687377:True:=trivial
theorem tw14311028990974729912:True:=trivial
theorem tw213025530618367051:True:=trivial
theorem tw12318114642893326146:True:=trivial
theorem tw15042896488303874756:True:=trivial
theorem tw17043431215753065991:True:=trivial
theorem tw14918790214057117669:True:=trivial
theorem tw3040751352467518936:True:=trivial
theorem tw3291262067959878687:True:=trivial
theorem tw15135708726462671868:True:=trivial
theorem tw5643138041118434818:True:=trivial
theorem tw18422643660720690711:True:=trivial
theorem tw17238499610631527075:True:=trivial
theorem tw10504137799548750417:True:=trivial
theorem tw15390357608757163521:True:=trivial
theorem tw739174931076247136:True:=trivial
theorem tw383386411766702061:True:=trivial
theorem tw14625536395706233525:True:=trivial
theorem tw3635482164482623891:True:=trivial
theorem tw17797458645797878941:True:=trivial
theorem tw868174850162080326:True:=trivial
theorem tw634505547772382642:True:=trivial
theorem tw10002635310643940287:True:=trivial
theorem tw10327442285049872743:True:=trivial
theorem tw4818338936277507048:True:=trivial
theorem tw14664030617385490333:True:=trivial
theorem tw9353692021281691655:True:=trivial
theorem tw15843687379617867993:True:=trivial
theorem tw12737694936210503729:True:=trivial
theorem tw16252073863339348982:True:=trivial
theorem tw5396719831347116482:True:=trivial
theorem tw4914073801187189690:True:=trivial
theorem tw7300583720854351466:True:=trivial
theorem tw3368142006175997251:True:=trivial
theorem tw8172370955854265158:True:=trivial
theorem tw16248384297678065808:True:=trivial
theorem tw16728046589679009043:True:=trivial
theorem tw11590849580845747537:True:=trivial
theorem tw5196830833409507659:True:=trivial
theorem tw12936138516919211435:True:=trivial
theorem tw11554322913333869951:True:=trivial
theorem tw11284911977123134121:True:=trivial
theorem tw2954218631670154066:True:=trivial
theorem tw16150389035001740541:True:=trivial
theorem tw16241687486467178359:True:=trivial
theorem tw5237704836171479447:True:=trivial
theorem tw867351991952935333:True:=trivial
theorem tw3458153997378218689:True:=trivial
theorem tw12984728883754807861:True:=trivial
theorem tw10520890853818790478:True:=trivial
end PySem.W.Fast
set_option maxRecDepth 100000 in
set_option maxHeartbeats 0 in
theorem PySem.Challenge.cw_crookroad_k62_two_refusals_due_holds : PySem.Challenge.rw_crookroad_k62_two_refusals_due.Holds := by
 w_on;o_law;k_head;(case hw=>w_witness2)
 k_fill
 refine My.walk (l:=PySem.Challenge.rw_crookroad_k62_two_refusals_due) rfl rfl (fun w h Y=>PySem.W.km_in_of Y) ?F
 case F =>
  intro w mg fa h KX G hmg
  refine' My.all_mk KX G hmg ?d__law_cell ?d__law_pick ?d_check_bottom ?d_common_divisor ?d_lowest ?d_check_count ?d_is_line ?d_set_down ?d_is_name ?d_check_new_name ?d_exchange ?d_walked ?d_far ?d_stands ?d_meeting ?d_lengths ?d__law_walks ?d__law_house_asked ?d__law_told ?d__law_two_points ?d__law_first_goes ?d_law ?a_RoadError ?x_RoadError ?a_BadLine ?x_BadLine ?a_BadBottom ?x_BadBottom ?a_OffRoad ?x_OffRoad ?a_BadCount ?x_BadCount ?a_TooLong ?x_TooLong ?a_BadRow ?x_BadRow ?a_BadName ?x_BadName ?a_Taken ?x_Taken ?a_NoRoad ?x_NoRoad ?a_NoWalker ?x_NoWalker ?a_Apart ?x_Apart ?a_Road ?pg_Road ?hd_Road ?po_Road ?sa_Road ?mk_Road ?kc_Road ?m_Road___init__ ?m_Road_width ?m_Road_corners ?m_Road_on_road ?a_Walker ?pg_Walker ?hd_Walker ?po_Walker ?sa_Walker ?mk_Walker ?kc_Walker ?m_Walker___init__ ?a_House ?pg_House ?hd_House ?po_House ?sa_House ?mk_House ?kc_House ?m_House___init__ ?m_House_road_called ?m_House_walker_called ?m_House_deeds ?m_House_do ?m_House_lay ?m_House_place ?m_House_bend ?m_House_go ?m_House_together ?m_House_lengths_of ?m_House_stood ?m_House_meet ?na_Road_heights ?na_Walker_whose ?na_Walker_point ?na_Walker_times ?na_House_roads ?na_House_walkers ?na_House_done ?g_WIDEST ?g_MOST_WALKED ?g_FARTHEST ?g_LONGEST_NAME ?g_GREATEST_BOTTOM ?g_LETTERS ?m_BadBottom_BadBottom ?m_BadBottom_OffRoad ?m_OffRoad_BadBottom ?m_OffRoad_OffRoad ?m_BadCount_BadBottom ?m_BadCount_OffRoad ?m_BadCount_BadCount ?m_NoRoad_BadBottom ?m_NoRoad_OffRoad ?m_NoRoad_BadCount ?m_NoRoad_TooLong ?m_NoRoad_NoRoad ?m_NoRoad_NoWalker ?m_NoWalker_BadBottom ?m_NoWalker_OffRoad ?m_NoWalker_BadCount ?m_NoWalker_TooLong ?m_NoWalker_NoRoad ?m_NoWalker_NoWalker ?m_BadName_BadBottom ?m_BadName_OffRoad ?m_BadName_BadCount ?m_BadName_TooLong ?m_BadName_NoRoad ?m_BadName_NoWalker ?m_BadName_BadName ?m_Taken_BadBottom ?m_Taken_OffRoad ?m_Taken_BadCount ?m_Taken_TooLong ?m_Taken_NoRoad ?m_Taken_NoWalker ?m_Taken_BadName ?m_Taken_Taken ?z_len ?z_abs ?z_range ?z_list ?z_min ?z_max ?z_all ?z_sorted ?z_enumerate ?z_dict
  (case d__law_cell=>walk_at "def")
  (case d__law_pick=>walk_at "def")
  (case d_check_bottom=>walk_at "def")
  (case d_common_divisor=>walk_at "def")
  (case d_lowest=>walk_at "def")
  (case d_check_count=>walk_at "defD")
  (case d_is_line=>walk_at "def")
  (case d_set_down=>walk_at "def")
  (case d_is_name=>walk_at "def")
  (case d_check_new_name=>walk_at "def")
  (case d_exchange=>walk_at "def")
  (case d_walked=>walk_at "def")
  (case d_far=>walk_at "def")
  (case d_stands=>walk_at "def")
  (case d_meeting=>walk_at "def")
  (case d_lengths=>walk_at "def")
  (case d__law_walks=>walk_at "def")
  (case d__law_house_asked=>walk_at "def")
  (case d__law_told=>walk_at "def")
  (case d__law_two_points=>walk_at "def")
  (case d__law_first_goes=>walk_at "def")
  (case d_law=>walk_at "def")
  (case a_RoadError=>k_is)
  (case x_RoadError=>k_exc)
  (case a_BadLine=>k_is)
  (case x_BadLine=>k_exc)
  (case a_BadBottom=>k_is)
  (case x_BadBottom=>k_exc)
  (case a_OffRoad=>k_is)
  (case x_OffRoad=>k_exc)
  (case a_BadCount=>k_is)
  (case x_BadCount=>k_exc)
  (case a_TooLong=>k_is)
  (case x_TooLong=>k_exc)
  (case a_BadRow=>k_is)
  (case x_BadRow=>k_exc)
  (case a_BadName=>k_is)
  (case x_BadName=>k_exc)
  (case a_Taken=>k_is)
  (case x_Taken=>k_exc)
  (case a_NoRoad=>k_is)
  (case x_NoRoad=>k_exc)
  (case a_NoWalker=>k_is)
  (case x_NoWalker=>k_exc)
  (case a_Apart=>k_is)
  (case x_Apart=>k_exc)
  (case a_Road=>k_is)
  (case pg_Road=>k_is)
  (case hd_Road=>k_is)
  (case po_Road=>k_is)
  (case sa_Road=>k_is)
  (case mk_Road=>k_is)
  (case kc_Road=>k_is)
  (case m_Road___init__=>walk_at "meth")
  (case m_Road_width=>walk_at "meth")
  (case m_Road_corners=>walk_at "meth")
  (case m_Road_on_road=>walk_at "meth")
  (case a_Walker=>k_is)
  (case pg_Walker=>k_is)
  (case hd_Walker=>k_is)
  (case po_Walker=>k_is)
  (case sa_Walker=>k_is)
  (case mk_Walker=>k_is)
  (case kc_Walker=>k_is)
  (case m_Walker___init__=>walk_at "meth")
  (case a_House=>k_is)
  (case pg_House=>k_is)
  (case hd_House=>k_is)
  (case po_House=>k_is)
  (case sa_House=>k_is)
  (case mk_House=>k_is)
  (case kc_House=>k_is)
  (case m_House___init__=>walk_at "meth")
  (case m_House_road_called=>walk_at "meth")
  (case m_House_walker_called=>walk_at "meth")
  (case m_House_deeds=>walk_at "meth")
  (case m_House_do=>walk_at "meth")
  (case m_House_lay=>walk_at "meth")
  (case m_House_place=>walk_at "meth")
  (case m_House_bend=>walk_at "meth")
  (case m_House_go=>walk_at "meth")
  (case m_House_together=>walk_at "meth")
  (case m_House_lengths_of=>walk_at "meth")
  (case m_House_stood=>walk_at "meth")
  (case m_House_meet=>walk_at "meth")
  (case na_Road_heights=>k_is)
  (case na_Walker_whose=>k_is)
  (case na_Walker_point=>k_is)
  (case na_Walker_times=>k_is)
  (case na_House_roads=>k_is)
  (case na_House_walkers=>k_is)
  (case na_House_done=>k_is)
  (case g_WIDEST=>k_is)
  (case g_MOST_WALKED=>k_is)
  (case g_FARTHEST=>k_is)
  (case g_LONGEST_NAME=>k_is)
  (case g_GREATEST_BOTTOM=>k_is)
  (case g_LETTERS=>k_is)
  (case m_BadBottom_BadBottom=>k_is)
  (case m_BadBottom_OffRoad=>k_is)
  (case m_OffRoad_BadBottom=>k_is)
  (case m_OffRoad_OffRoad=>k_is)
  (case m_BadCount_BadBottom=>k_is)
  (case m_BadCount_OffRoad=>k_is)
  (case m_BadCount_BadCount=>k_is)
  (case m_NoRoad_BadBottom=>k_is)
  (case m_NoRoad_OffRoad=>k_is)
  (case m_NoRoad_BadCount=>k_is)
  (case m_NoRoad_TooLong=>k_is)
  (case m_NoRoad_NoRoad=>k_is)
  (case m_NoRoad_NoWalker=>k_is)
  (case m_NoWalker_BadBottom=>k_is)
  (case m_NoWalker_OffRoad=>k_is)
  (case m_NoWalker_BadCount=>k_is)
  (case m_NoWalker_TooLong=>k_is)
  (case m_NoWalker_NoRoad=>k_is)
  (case m_NoWalker_NoWalker=>k_is)
  (case m_BadName_BadBottom=>k_is)
  (case m_BadName_OffRoad=>k_is)
  (case m_BadName_BadCount=>k_is)
  (case m_BadName_TooLong=>k_is)
  (case m_BadName_NoRoad=>k_is)
  (case m_BadName_NoWalker=>k_is)
  (case m_BadName_BadName=>k_is)
  (case m_Taken_BadBottom=>k_is)
  (case m_Taken_OffRoad=>k_is)
  (case m_Taken_BadCount=>k_is)
  (case m_Taken_TooLong=>k_is)
  (case m_Taken_NoRoad=>k_is)
  (case m_Taken_NoWalker=>k_is)
  (case m_Taken_BadName=>k_is)
  (case m_Taken_Taken=>k_is)
  (case z_len=>k_is)
  (case z_abs=>k_is)
  (case z_range=>k_is)
  (case z_list=>k_is)
  (case z_min=>k_is)
  (case z_max=>k_is)
  (case z_all=>k_is)
  (case z_sorted=>k_is)
  (case z_enumerate=>k_is)
  (case z_dict=>k_is)
