import PyProof.Rows.All
import Wide.All
import OpenK.AllK
import Wide.FinOn
import Lean
import PyProof.EqAt
import PyProof.EqKinds
import PyProof.TupleCall
import PyProof.NeData
import KE.IntBitsLaws
import KE.KRevSl
import PyProof.DictIter
import PyProof.DictItems
import PyProof.DictWalks
import PyProof.StrLoop
import KE.KPairComp
import PyProof.StrWalks
import KE.KSortKey
import KE.KDictOf
import PyProof.Rows.TupDisplay
import PyProof.DictCompW
import PyProof.DictUpdate
import PyProof.DictValues
import KE.KIntText
import PyProof.StrCalls2
import PyProof.Rows.StrJoin2
import PyProof.FString
import PyProof.Rows.StrSplitCount
import PyProof.StrLawsChain
import PySem.Challenge.RW_crookroad_k55_house_written
set_option maxHeartbeats 0
set_option Elab.async false
set_option linter.all false
set_option maxRecDepth 100000
local macro_rules|`(tactic|lia)=>`(tactic|first|lia +splitIte|omega)
local macro_rules|`(⋯)=>`(by first|decide|lia)
local macro_rules|`(tactic|walk_at "iv")=>`(tactic|first|exact .inl rfl|exact .inr rfl|assumption)
local macro_rules|`(tactic|walk_at "vs")=>`(tactic|first|exact Or.inl rfl|exact Or.inr (Or.inl rfl)|exact Or.inr (Or.inr rfl))
def aa:=@List.length_map
def ac:=@PySem.Heap.get?_push_of_some
def ae:=@Nat.le_refl
def af:=@PySem.Heap.lt_size
def ag:=@if_neg
def ai:=@PySem.wpAny_bind
def aj:=@if_pos
def ak:=@List.mem_cons
def al:=@List.getElem?_eq_getElem
def am:=@List.not_mem_nil
def ao:=@List.mem_singleton
def ap:=@Option.some.inj
def aq:=@PySem.Heap.get?_push_size
def ar:=@Option.isSome_iff_exists
def au:=@Nat.ne_of_lt
def av:=@Nat.lt_of_lt_of_le
def aw:=@List.length_cons
def ax:=@List.mem_cons_of_mem
def ay:=@List.size_toArray
def az:=@PySem.wpAny_pure
def aA:=@List.mem_map
def aB:=@Bool.false_ne_true
def aC:=@Nat.zero_le
def aD:=@PySem.W.mg_none_of
def aE:=@PySem.W.mg_of
def aF:=@List.mem_append_right
def aG:=@List.map_cons
def aH:=@List.mem_cons_self
def aI:=@List.getElem?_map
def aJ:=@List.getD_eq_getElem?_getD
def aK:=@List.lookup_cons
def aL:=@List.getElem?_eq_some_iff
def aM:=@List.length_append
def aN:=@Ne.symm
def aO:=@List.nodup_cons
def aP:=@List.map_append
def aQ:=@PySem.PassesOwn.leaving
def aR:=@List.getElem?_eq_none
def aS:=@beq_eq_false_iff_ne
def aT:=@Int.emod_nonneg
def aU:=@Int.emod_lt_of_pos
def aV:=@List.nodup_nil
def aW:=@PySem.boot_len
def aX:=@PySem.wpAny_mono
def aY:=@decide_eq_false
def aZ:=@Nat.lt_irrefl
def ba:=@List.getElem?_append_right
def bc:=@PySem.W.kia_one
def bd:=@Nat.le_trans
def be:=@List.map_map
def bg:=@PyProof.Rows.boot_list
def bh:=@PySem.StrLaws.glued_eq_join
def bi:=@PySem.Paired.length
def bj:=@List.mem_range
def bn:=@decide_eq_true
def bq:=@List.mem_append
def br:=@List.length_take
def bt:=@List.mem_of_getElem?
def bu:=@PySem.F.plainAttrs_list
def bv:=@List.length_range
def bw:=@Array.length_toList
def bx:=@List.getElem?_append_left
def bz:=@List.getElem_mem
def bA:=@List.take_length
def bB:=@Nat.lt_trans
def bC:=@PySem.F.slot_list_append
def bD:=@PySem.F.type_list_append
def bE:=@PyProof.Rows.boot_sorted
def bF:=@congrArg
def bG:=@Option.map_some
def bH:=@or_false
def bI:=@Bool.and_eq_true
def bJ:=@PyProof.Rows.boot_str
def bK:=@PySem.wpAny_passesOwn
def bL:=@Nat.le_of_lt
def bM:=@List.mem_append_left
def bN:=@PySem.mem_of_lookup
def bO:=@List.map_congr_left
def bP:=@List.filter_cons
def bQ:=@PySem.wpAny_getItem_str_slice
def bR:=@Int.mul_le_mul_of_nonneg_left
def bS:=@PyProof.Rows.joinOk_of_weight
def bT:=@PySem.wpAny_Call_Name_kw
def bU:=@PySem.Calls.callWith_builtin
def bV:=@PySem.tupleKind_room_in1
def bW:=@PySem.F.plainAttrs_str
def bX:=@Bool.eq_iff_iff
def bY:=@List.append_nil
def bZ:=@List.find?_cons
def ca:=@Array.getElem?_toList
def cb:=@PySem.F.slot_str_join
def ce:=@PySem.F.type_str_join
def cf:=@PySem.wpAny_truthy_bool
def cg:=@Option.isSome_map
def ck:=@Array.size_map
def cm:=@Int.lt_or_le
def cn:=@Classical.byContradiction
def cr:=@List.filterMap_cons
def cu:=@List.sum_cons
def cv:=@List.length_nil
def cw:=@PySem.codeAny_mono
def cx:=@List.ext_getElem?
def cy:=@Array.getElem?_eq_none
def cz:=@List.pairwise_map
def cA:=@decide_eq_true_eq
def cB:=@List.take_add_one
def cC:=@PySem.F.slot_dict_get
def cD:=@PyProof.Rows.boot_max
def cE:=@beq_iff_eq
def cF:=@List.all_eq_true
def cG:=@Int.mul_le_mul_of_nonneg_right
def cH:=@PySem.wpAny_holding
def cI:=@PySem.Calls.evalArgs_plain
def cJ:=@PySem.wpAny_execs_nil
def cK:=@Int.mul_ediv_mul_of_pos_left
def cL:=@PySem.post_val_or_str
def cM:=@PySem.W.plainGet_of
def cN:=@Int.toNat_of_nonneg
def cO:=@List.getElem_of_mem
def cP:=@List.getElem?_range
def cQ:=@PySem.Heap.get?_update_ne
def cR:=@PyProof.Rows.callWith_type1
def cS:=@List.map_nil
def cT:=@Array.getD_eq_getD_getElem?
def cV:=@PyProof.Rows.assignInOrder_cons
def cW:=@List.mem_filterMap
def cX:=@PySem.Heap.size_push
def cY:=@PySem.W.callWith_K
def cZ:=@PySem.F.excBase_ValueError
def db:=@Int.mul_lt_mul_of_pos_left
def dc:=@PySem.F.slot_dict_delitem
def de:=@Array.getElem?_eq_getElem
def dh:=@PySem.wpAny_newObj_type
def di:=@List.take_sublist
def dj:=@List.reverse_cons
def dm:=@PySem.wpAny_standAt
def dq:=@PySem.wpAny_newList
def du:=@List.getElem_inj
def dv:=@PySem.wpAny_execs_cons
def dA:=@Int.natCast_dvd_natCast
def dB:=@PySem.F.args_dict_get_2
def dC:=@PySem.F.plainAttrs_dict
def dD:=@PySem.F.slot_dict_items
def dE:=@List.getElem_map
def dF:=@List.mem_flatMap
def dG:=@List.cons_ne_nil
def dH:=@Nat.ne_of_gt
def dI:=@Nat.lt_or_ge
def dJ:=@PySem.call_meetsIn
def dL:=@List.mem_filter
def dM:=@List.of_mem_zip
def dN:=@Int.natCast_mul
def dO:=@List.range_succ
def dQ:=@PySem.sizeLine_eq
def dR:=@Int.mul_le_mul
def dU:=@List.any_cons
section
open PySem PySem.Spec PyProof.Rows
abbrev Aa:=PySem.W.Frag
abbrev Ab:=PySem.Shared
abbrev Ac:=PySem.Program
abbrev Ad:=PySem.FuncData
abbrev Ae:=Around
abbrev Af:=SortSt
abbrev Ag:=Value
abbrev Ah:=World
abbrev Ai:=Keyed
abbrev Aj:=Addr
end
namespace L2
theorem exI {α:Sort _}{A K:α→Prop}{v:α}(e:A v)(h:K v):∃x,A x∧K x:=⟨v,e,h⟩
theorem wc {α β:Sort _}{A:α→Prop}{B:β→Prop}{K:α→β→Prop}{u:α}{v:β}(a:A u)(b:B v)(h:K u v):∃x y,A x∧B y∧K x y:=⟨u,v,a,b,h⟩
theorem exX {α β γ δ:Sort _}{A:α→Prop}{B:γ→Prop}{C:α→β→Prop}{D:β→γ→δ→Prop}{K:δ→Prop}{p:α}{xs:β}{i:γ}{v:δ}(a:A p)(b:B i)(c:C p xs)(d:D xs i v)(h:K v):∃p xs i v,A p∧B i∧C p xs∧D xs i v∧K v:=⟨p,xs,i,v,a,b,c,d,h⟩
end L2
namespace L2
open PySem PySem.Spec PyProof.Rows
abbrev Key:=Sum Int Str
def Wn:Key→Ag→Bool
 |.inl k,v=>Value.isInt k v
 |.inr x,v=>Value.isStrOf x v
def keyH (w:Ah):Key→Int
 |.inl k=>hashInt k
 |.inr x=>hashStr w x
theorem xh:∀ {k:Key} {v:Ag},Wn k v=true→(∃i t,k=Sum.inl i∧v=Value.int i t)∨(∃x t,k=Sum.inr x∧v=Value.str x t)
 |.inl i,v,h=>by
  obtain ⟨t,e⟩:=Value.isInt_shape (k:=i) (v:=v) h
  exact .inl ⟨i,t,rfl,e⟩
 |.inr x,v,h=>by
  obtain ⟨t,e⟩:=Value.isStrOf_shape (x:=x) (v:=v) h
  exact .inr ⟨x,t,rfl,e⟩
theorem qk1 (i:Int)(t:Tok):Wn (.inl i) (.int i t)=true:=by simp [Wn,Value.isInt]
theorem qk2 (x:Str)(t:Tok):Wn (.inr x) (.str x t)=true:=by simp [Wn,Value.isStrOf]
theorem key_ll (a b:Int):decide ((Sum.inl a:Key)=Sum.inl b)=(a==b):=by
 by_cases e:a=b
 ·subst e;simp
 ·have h:¬ (Sum.inl a:Key)=Sum.inl b:=λq=>e (Sum.inl.inj q)
  rw [aY h]
  exact (aS.mpr e).symm
theorem key_rr (a b:Str):decide ((Sum.inr a:Key)=Sum.inr b)=decide (a=b):=by
 by_cases e:a=b
 ·subst e;simp
 ·have h:¬ (Sum.inr a:Key)=Sum.inr b:=λq=>e (Sum.inr.inj q)
  rw [aY h,aY e]
theorem key_lr (a:Int)(b:Str):decide ((Sum.inl a:Key)=Sum.inr b)=false:=aY (λq=>nomatch q)
theorem key_rl (a:Str)(b:Int):decide ((Sum.inr a:Key)=Sum.inl b)=false:=aY (λq=>nomatch q)
def xx (prog:Ac)(w:Ah):PySem.KeyKind prog w Key where
 is:=Wn
 hash:=keyH w
 inj:=λv a b ha hb=>by
  rcases xh ha with ⟨i,t,rfl,rfl⟩|⟨x,t,rfl,rfl⟩
  ·rcases xh hb with ⟨j,u,rfl,e⟩|⟨y,u,rfl,e⟩
   ·injection e with e1 _;rw [e1]
   ·exact nomatch e
  ·rcases xh hb with ⟨j,u,rfl,e⟩|⟨y,u,rfl,e⟩
   ·exact nomatch e
   ·injection e with e1 _;rw [e1]
 byValue:=λk v h=>by
  rcases xh h with ⟨i,t,rfl,rfl⟩|⟨x,t,rfl,rfl⟩ <;> rfl
 pyHash:=λhv h=>by
  rcases xh hv with ⟨i,t,rfl,rfl⟩|⟨x,t,rfl,rfl⟩
  ·exact wpAny_pyHash_int h
  ·exact wpAny_pyHash_str h
 eqBool:=λhu hv h=>by
  rcases xh hu with ⟨i,t,rfl,rfl⟩|⟨x,t,rfl,rfl⟩
  ·rcases xh hv with ⟨j,u,rfl,rfl⟩|⟨y,u,rfl,rfl⟩
   ·rw [key_ll] at h;exact wpAny_eqBool_int h
   ·rw [key_lr] at h;exact SeqAt.EqAt.int_str i t y u _ _ _ _ h
  ·rcases xh hv with ⟨j,u,rfl,rfl⟩|⟨y,u,rfl,rfl⟩
   ·rw [key_rl] at h;exact SeqAt.EqAt.str_int x t j u _ _ _ _ h
   ·rw [key_rr] at h;exact wpAny_eqBool_str h
 «strs»:=λk x t v h=>by
  rcases xh h with ⟨i,u,rfl,e⟩|⟨y,u,rfl,e⟩
  ·exact nomatch e
  ·injection e with e1 _
   subst e1
   cases v <;> rfl
theorem qwr (prog:Ac)(w:Ah)(i:Int)(t:Tok):(xx prog w).is (.inl i) (.int i t)=true:=qk1 i t
theorem qwm (prog:Ac)(w:Ah)(x:Str)(t:Tok):(xx prog w).is (.inr x) (.str x t)=true:=qk2 x t
inductive V where
 |non|bl (b:Bool)|int (i:Int)|str (x:Str)|byt (b:Array UInt8)|flt (b:UInt64)|ref (a:Aj)|ty (n:String)
 deriving DecidableEq
def RelV:V→Ag→Prop
 |.non,u=>u=Value.none
 |.bl b,u=>u=Value.bool b
 |.int i,u=>∃t,u=Value.int i t
 |.str x,u=>∃t,u=Value.str x t
 |.byt b,u=>∃t,u=Value.bytes b t
 |.flt b,u=>∃t,u=Value.float b t
 |.ref a,u=>u=Value.ref a
 |.ty n,u=>u=Value.type n
abbrev Vals:List V→List Ag→Prop:=Paired RelV
theorem Vals.length {xs:List V}{us:List Ag}(r:Vals xs us):xs.length=us.length:=bi r
theorem Vals.get:∀ {xs:List V} {us:List Ag} {i:Nat} {x:V},Vals xs us→xs[i]?=some x→∃u,us[i]?=some u∧RelV x u
 |_,_,_,_,.nil,e=>by simp at e
 |_,_,0,_,.cons r _,e=>by simp at e;subst e;exact ⟨_,rfl,r⟩
 |_,_,i+1,x,.cons _ t,e=>by
  obtain ⟨u,h1,h2⟩:=Vals.get (i:=i) (x:=x) t (by simpa using e)
  exact ⟨u,by simpa using h1,h2⟩
theorem Vals.append:∀ {xs ys:List V} {us ws:List Ag},Vals xs us→Vals ys ws→Vals (xs++ys) (us++ws)
 |_,_,_,_,.nil,s=>s
 |_,_,_,_,.cons r t,s=>.cons r (Vals.append t s)
def RelO:Option V→Option Ag→Prop
 |some v,some u=>RelV v u
 |none,none=>True
 |_,_=>False
def KV {κ:Type}:List (κ×V)→List (κ×Ag)→Prop:=Paired λ(p:κ×V) (q:κ×Ag)=>p.1=q.1∧RelV p.2 q.2
def kV:Key→V
 |.inl i=>.int i
 |.inr x=>.str x
inductive HO where
 |lst (xs:List V)
 |tup (xs:List V)
 |dK (kvs:List (Key×V))|dT (kvs:List (List Key×V))
 |set (S:Int→Bool) (n:Nat)
 |ins (C dx:Aj) (fs:List (Str×V))
 |own (x:Aj)
 |xd (fs:List (Str×V))
 |met (f x:Aj)
 |rng (lo hi:Int)
 |frz (o:Obj) (u:HO)
 |tbl (ps:Array Ag)
 |ext (φ:Heap→Prop)
abbrev Hp:=Aj→Option HO
def upd (H:Hp)(a:Aj)(o:HO):Hp:=λb=>if b=a then some o else H b
theorem qj {H:Hp}{a:Aj}{o:HO}:upd H a o a=some o:=by unfold upd;rw [aj rfl]
theorem q9 {H:Hp}{a b:Aj}{o:HO}(h:b≠a):upd H a o b=H b:=by unfold upd;rw [ag h]
theorem yk {H:Hp}{a:Aj}{o u:HO}:upd (upd H a o) a u=upd H a u:=by
 funext b;unfold upd;split <;> rfl
theorem ne_of {H:Hp}{a b:Aj}{o u:HO}(h:H a=some o)(h':H b=some u)(d:o≠u):a≠b:=by
 intro e;subst e;rw [h] at h';exact d (ap h')
theorem qm {H:Hp}{a b:Aj}{o:HO}(h:H a=some o)(h':H b=none):a≠b:=by
 intro e;subst e;rw [h] at h';cases h'
section
variable (P:Ac)(w:Ah)
def ObjOk (H:Hp)(h:Heap)(a:Aj):HO→Prop
 |.lst xs=>xs.length≤sizeLine∧∃(its:List Ag) (n:Nat),Vals xs its∧h.get? a=some { cls:=.type "list",data:=.seq its.toArray n }
 |.tup xs=>xs.length≤sizeLine∧∃its:List Ag,Vals xs its∧IsTup h a its.toArray
 |.dK kvs=>kvs.length≤sizeLine∧(a==sysModules)=false∧∃vs,KV kvs vs∧h.DictOf (xx P w) a vs
 |.dT kvs=>kvs.length≤sizeLine∧(a==sysModules)=false∧∃xs:List (List Key×Aj×Ag),
   Paired (λ(p:List Key×V) (q:List Key×Aj×Ag)=>p.1=q.1∧H q.2.1=some (.tup (p.1.map kV))∧RelV p.2 q.2.2) kvs xs ∧
   ∃o es ep,h.get? a=some o∧o.ExactDict∧o.data=.dict es ep∧es.toList=xs.map (entryOfKey (tupleKind (xx P w)))∧(xs.map (·.1)).Nodup
 |.set S n=>h.SetOf (intKind P w) a S n
 |.ins C dx fs=>H dx=some (.own a)∧fs.length≤1000∧dx≠a∧h.get? a=some (W.instObj C dx) ∧
   ∃mA,h.Ns1 dx mA∧(∀f,RelO (fs.lookup f) (mA f))∧PySem.Within mA (fs.map (·.1))
 |.own _=>∃o,h.get? a=some o
 |.xd fs=>∃mA,h.Ns1 a mA∧∀f,RelO (fs.lookup f) (mA f)
 |.rng lo hi=>∃t u v,h.get? a=some { cls:=.type "range",data:=.fields #[.int lo t,.int hi u,.int 1 v] }
 |.frz o u=>h.get? a=some o∧ObjOk H h a u
 |.tbl ps=>h.get? a=some { cls:=.none,data:=.fields ps }
 |.met f x=>h.get? a=some (W.methodObj (.ref f) (.ref x))
 |.ext φ=>φ h∧(∃o,h.get? a=some o)∧∀h1 h2:Heap,φ h1→(∀o,h1.get? a=some o→h2.get? a=some o)→φ h2
def HOk (H:Hp)(h:Heap):Prop:=∀a o,H a=some o→ObjOk P w H h a o
end
section
variable {P:Ac}{w:Ah}{H H':Hp}{h h':Heap}{a:Aj}{o:HO}
theorem ObjOk.lt (x:ObjOk P w H h a o):a<h.objs.size:=by
 cases o with
 |lst xs=>obtain ⟨_,_,_,_,e⟩:=x;exact af e
 |tup xs=>obtain ⟨_,_,_,p⟩:=x;exact p.lt
 |dK kvs=>obtain ⟨_,_,_,_,o,_,_,e,_⟩:=x;exact af e
 |dT kvs=>obtain ⟨_,_,_,_,o,_,_,e,_⟩:=x;exact af e
 |set S n=>obtain ⟨o,_,_,_,e,_⟩:=x;exact af e
 |ins C dx fs=>obtain ⟨_,_,_,e,_⟩:=x;exact af e
 |own y=>obtain ⟨_,e⟩:=x;exact af e
 |xd fs=>obtain ⟨_,⟨_,_,_,e,_⟩,_⟩:=x;exact af e
 |rng lo hi=>obtain ⟨_,_,_,e⟩:=x;exact af e
 |frz ob u=>obtain ⟨e,_⟩:=x;exact af e
 |tbl ps=>exact af (show h.get? a=some _ from x)
 |met f y=>exact af (show h.get? a=some _ from x)
 |ext φ=>obtain ⟨_,⟨_,e⟩,_⟩:=x;exact af e
theorem Paired.mapP {α β:Type}{F G:α→β→Prop}:∀ {l₁:List α} {l₂:List β},Paired F l₁ l₂→(∀a b,F a b→G a b)→Paired G l₁ l₂
 |_,_,.nil,_=>.nil
 |_,_,.cons r t,f=>.cons (f _ _ r) (Paired.mapP t f)
theorem ObjOk.stay (x:ObjOk P w H h a o)(k:∀b u,(b=a∨H b=some (.own a))→h.get? b=some u→h'.get? b=some u)
  (ho:∀b,H b=some (.own a)→H' b=some (.own a)) (ht:∀b xs,H b=some (.tup xs)→H' b=some (.tup xs)):ObjOk P w H' h' a o:=by
 induction o with
 |lst xs=>obtain ⟨z,its,n,r,e⟩:=x;exact ⟨z,its,n,r,k _ _ (.inl rfl) e⟩
 |tup xs=>obtain ⟨z,its,r,ob,e,c⟩:=x;exact ⟨z,its,r,ob,k _ _ (.inl rfl) e,c⟩
 |dK kvs=>obtain ⟨z,y,vs,r,ob,es,ep,e,c⟩:=x;exact ⟨z,y,vs,r,ob,es,ep,k _ _ (.inl rfl) e,c⟩
 |dT kvs =>
  obtain ⟨z,y,xs,r,ob,es,ep,e,c⟩:=x
  exact ⟨z,y,xs,Paired.mapP r λp q z=>⟨z.1,ht _ _ z.2.1,z.2.2⟩,ob,es,ep,k _ _ (.inl rfl) e,c⟩
 |set S n=>obtain ⟨ob,es,ep,t,e,c⟩:=x;exact ⟨ob,es,ep,t,k _ _ (.inl rfl) e,c⟩
 |ins C dx fs =>
  obtain ⟨d,z,ne,e,mA,⟨od,es,ep,e2,c⟩,r⟩:=x
  exact ⟨ho _ d,z,ne,k _ _ (.inl rfl) e,mA,⟨od,es,ep,k _ _ (.inr d) e2,c⟩,r⟩
 |own y=>obtain ⟨ob,e⟩:=x;exact ⟨ob,k _ _ (.inl rfl) e⟩
 |xd fs=>obtain ⟨mA,⟨od,es,ep,e,c⟩,r⟩:=x;exact ⟨mA,⟨od,es,ep,k _ _ (.inl rfl) e,c⟩,r⟩
 |rng lo hi=>obtain ⟨t,u,v,e⟩:=x;exact ⟨t,u,v,k _ _ (.inl rfl) e⟩
 |frz ob u ih=>obtain ⟨e,q⟩:=x;exact ⟨k _ _ (.inl rfl) e,ih q⟩
 |tbl ps =>
  have e:h.get? a=some { cls:=.none,data:=.fields ps }:=x
  show h'.get? a=some { cls:=.none,data:=.fields ps }
  exact k a _ (.inl rfl) e
 |met f y =>
  have e:h.get? a=some (W.methodObj (.ref f) (.ref y)):=x
  show h'.get? a=some (W.methodObj (.ref f) (.ref y))
  exact k a _ (.inl rfl) e
 |ext φ=>obtain ⟨p,⟨o,e⟩,st⟩:=x;exact ⟨st _ _ p λo q=>k _ _ (.inl rfl) q,⟨o,k _ _ (.inl rfl) e⟩,st⟩
theorem HOk.lt (x:HOk P w H h)(e:H a=some o):a<h.objs.size:=(x a o e).lt
theorem HOk.fresh (x:HOk P w H h)(e:h.objs.size≤a):H a=none:=by
 cases q:H a with
 |none=>rfl
 |some u=>exact absurd (av (x.lt q) e) (aZ _)
theorem HOk.kept (x:HOk P w H h)(k:∀b u,h.get? b=some u→h'.get? b=some u):HOk P w H h':=λa o e =>
 (x a o e).stay (λb u _ q=>k b u q) (λ_ q=>q) λ_ _ q=>q
theorem HOk.laid (x:HOk P w H h)(k:∀b u,h.get? b=some u→h'.get? b=some u)(hp:h.objs.size≤a)(new:ObjOk P w (upd H a o) h' a o):HOk P w (upd H a o) h':=λb u e=>by
 have hn:=x.fresh hp
 by_cases hb:b=a
 ·subst hb;rw [qj] at e;cases e;exact new
 ·rw [q9 hb] at e
  exact (x b u e).stay (λc v _ q=>k c v q) (λc q=>by rw [q9 (qm q hn)];exact q) λc xs q=>by rw [q9 (qm q hn)];exact q
end
def Rd (H:Hp)(a:Aj)(u:HO):Prop:=H a=some u∨∃o,H a=some (.frz o u)
theorem Rd.ok {P:Ac}{w:Ah}{H:Hp}{h:Heap}{a:Aj}{u:HO}(r:Rd H a u)(x:HOk P w H h):ObjOk P w H h a u:=by
 rcases r with r|⟨o,r⟩
 ·exact x a u r
 ·obtain ⟨_,q⟩:=x a _ r
  exact q
def Mut:Option HO→Prop
 |some (.lst _)=>True
 |some (.dK _)=>True
 |some (.dT _)=>True
 |some (.set _ _)=>True
 |some (.ins _ _ _)=>True
 |some (.ext _)=>True
 |_=>False
section
variable {P:Ac}{w:Ah}{H:Hp}{h h':Heap}{x e:Aj}{o':HO}
theorem HOk.write (ok:HOk P w H h)(mu:Mut (H x))(he:e=x∨H e=some (.own x))(k:∀b u,b≠e→h.get? b=some u→h'.get? b=some u)(heo:∃u,h'.get? e=some u)
  (new:ObjOk P w (upd H x o') h' x o'):HOk P w (upd H x o') h':=λb u q=>by
 have nown:∀c y,H c=some (.own y)→c≠x:=λc y r z=>by subst z;rw [r] at mu;exact mu
 have ntup:∀c xs,H c=some (.tup xs)→c≠x:=λc xs r z=>by subst z;rw [r] at mu;exact mu
 by_cases hb:b=x
 ·subst hb;rw [qj] at q;cases q;exact new
 ·rw [q9 hb] at q
  by_cases hbe:b=e
  ·have q':H b=some (.own x):=by
    rcases he with z|z
    ·exact absurd (hbe.trans z) hb
    ·rw [hbe];exact z
   rw [q] at q';cases q'
   obtain ⟨v,hv⟩:=heo
   exact ⟨v,by rw [hbe];exact hv⟩
  ·refine (ok b u q).stay (λc v hc r=>k c v ?_ r) (λc r=>by rw [q9 (nown c b r)];exact r) λc xs r=>by rw [q9 (ntup c xs r)];exact r
   rcases hc with rfl|hc
   ·exact hbe
   ·rintro rfl
    rcases he with z|z
    ·exact nown c b hc z
    ·rw [hc] at z;cases z;exact hb rfl
end
structure Un (fs ex:List Aj)(H H':Hp)(h h':Heap):Prop where
 keep:∀b o,h.get? b=some o→H b=none→b∉fs→b∉ex→h'.get? b=some o
 slot:∀b o,h.get? b=some o→H b=none→b∈fs→b∉ex→∃sl,h'.get? b=some { o with slots:=sl }
 free:∀b o,h.get? b=some o→H b=none→b∉ex→H' b=none
 there:∀b o,h.get? b=some o→b∉ex→∃o',h'.get? b=some o'
 tups:∀b xs,H b=some (.tup xs)→H' b=some (.tup xs)
 frzs:∀b o u,H b=some (.frz o u)→H' b=some (.frz o u)
 tbls:∀b ps,H b=some (.tbl ps)→∃more,H' b=some (.tbl (ps++more))
section
variable {fs fs' ex ex':List Aj}{H H1 H2:Hp}{h h1 h2 h':Heap}{a x e:Aj}{o:HO}
theorem Un.any (u:Un fs ex H H1 h h1){b:Aj}{ob:Obj}(q:h.get? b=some ob)(n:H b=none)(hx:b∉ex):∃sl,h1.get? b=some { ob with slots:=sl }:=by
 by_cases hb:b∈fs
 ·exact u.slot b ob q n hb hx
 ·exact ⟨ob.slots,u.keep b ob q n hb hx⟩
theorem Un.kept (k:∀b u,h.get? b=some u→h'.get? b=some u):Un fs ex H H h h' :=
 ⟨λb ob q _ _ _=>k b ob q,λb ob q _ _ _=>⟨ob.slots,k b ob q⟩,λ_ _ _ n _=>n,λb ob q _=>⟨ob,k b ob q⟩,λ_ _ q=>q,λ_ _ _ q=>q,λ_ ps q=>⟨#[],by rw [q];simp⟩⟩
theorem Un.refl:Un fs ex H H h h:=Un.kept λ_ _ q=>q
theorem Un.laid (k:∀b u,h.get? b=some u→h'.get? b=some u)(hp:h.objs.size≤a)(hn:H a=none):Un fs ex H (upd H a o) h h' where
 keep:=λb u q _ _ _=>k b u q
 slot:=λb u q _ _ _=>⟨u.slots,k b u q⟩
 free:=λb u q n _=>by rw [q9 (au (av (af q) hp))];exact n
 there:=λb u q _=>⟨u,k b u q⟩
 tups:=λb xs q=>by rw [q9 (qm q hn)];exact q
 frzs:=λb u xs q=>by rw [q9 (qm q hn)];exact q
 tbls:=λb ps q=>⟨#[],by rw [q9 (qm q hn),q];simp⟩
theorem Un.write (mu:Mut (H x))(he:e=x∨H e=some (.own x))(k:∀b u,b≠e→h.get? b=some u→h'.get? b=some u)(heo:∃u,h'.get? e=some u):Un fs ex H (upd H x o) h h':=by
 have hx:∀b,H b=none→b≠x:=λb n z=>by subst z;rw [n] at mu;exact mu
 have hb:∀b,H b=none→b≠e:=λb n z=>by
  subst z
  rcases he with r|r
  ·exact hx b n r
  ·rw [n] at r;cases r
 have hm:∀b u,H b=some u→¬ Mut (some u)→b≠x:=λb u q nm z=>by subst z;rw [q] at mu;exact nm mu
 refine ⟨λb u q n _ _=>k b u (hb b n) q,λb u q n _ _=>⟨u.slots,k b u (hb b n) q⟩,λb u q n _=>by rw [q9 (hx b n)];exact n,λb u q _=>?_,
  λb xs q=>by rw [q9 (hm b _ q λz=>z)];exact q,λb u xs q=>by rw [q9 (hm b _ q λz=>z)];exact q,λb ps q=>⟨#[],by rw [q9 (hm b _ q λz=>z),q];simp⟩⟩
 by_cases hbe:b=e
 ·subst hbe;exact heo
 ·exact ⟨u,k b u hbe q⟩
end
def trk (h:Heap)(H:Hp):List Aj:=(List.range h.objs.size).filter λa=>(H a).isSome
def qqd (h:Heap)(H:Hp):Heap:=W.hideAll h (trk h H)
theorem qk0 (h:Heap)(H:Hp):(qqd h H).objs.size=h.objs.size:=W.hideAll_size _ _
theorem qjv {h:Heap}{H:Hp}{b:Aj}{o:Obj}(e:h.get? b=some o)(n:H b=none):(qqd h H).get? b=some o :=
 W.hideAll_get _ e λhm=>by
  have q:(H b).isSome=true:=(dL.mp hm).2
  rw [n] at q;simp at q
theorem wqf {h:Heap}{H:Hp}{b:Aj}{o:Obj}(e:(qqd h H).get? b=some o):h.get? b=some o∧H b=none:=by
 have e':h.get? b=some o:=W.of_hideAll (trk h H) e
 refine ⟨e',?_⟩
 cases q:H b with
 |none=>rfl
 |some x =>
  have hm:b∈trk h H:=dL.mpr ⟨bj.mpr (af e'),by simp [q]⟩
  have z:(qqd h H).get? b=none:=W.hideAll_none (trk h H) hm
  rw [z] at e;cases e
def qup (g h:Heap)(L:Aj):List (Aj×Obj):=(List.range h.objs.size).filterMap λa=>if a=L∨(g.get? a).isSome=true then none else (h.get? a).map λo=>(a,o)
def rest (g h:Heap)(L d:Aj):List (Aj×Obj):=(qup g h L).filter λp=>decide (p.1≠d)
structure Mod (K:Aa)(mg:Str→Option Ag)(base:Heap):Prop where
 kin:K.In base
 glob:base.Ns mainGlobals mg
 blt:∃mb,base.Ns builtinsNs mb∧∀x:Str,x ≠ "__name__" → mb x=bootBuiltins x
 nolimit:base.NoLimit
structure Cx where
 prog:Ac
 w:Ah
 K:Aa
 mg:Str→Option Ag
 base:Heap
 A:Ae
 N:List Str
 s₀:Ab
 H₀:Hp
 env:Env
 outer:List Env
 stack:List Env
 ex:List Aj
 fn:Str→Bool
 calm:Bool
 pn:List (Aj×Obj)
 xe:Ag→Ab→Prop
def frs (l:List Env):List Aj:=l.filterMap (·.frame)
abbrev Cx.fs (X:Cx):List Aj:=frs X.outer
def Vis (sc:Scope)(x:Str):Prop:=sc.names.lookup x=some .local∨sc.names.lookup x=some .cell∨sc.names.lookup x=some .free
def Loc (sc:Scope)(x:Str):Prop:=sc.names.lookup x=some .local∨sc.names.lookup x=some .cell
def Look (env:Env)(h:Heap)(m:Str→Option Ag)(x:Str)(u:Ag):Prop :=
 (env.kindOf x=some .local∧m x=some u)∨((env.kindOf x=some .cell∨env.kindOf x=some .free)∧∃c,env.cells.lookup x=some c∧h.IsCell c (some u))
structure Cx.Ok (X:Cx):Prop where
 mod:Mod X.K X.mg X.base
 kind:X.env.scope.kind=.function
 glob:X.env.globals=mainGlobals
 blt:X.env.builtins=builtinsNs
 above:X.s₀.heap.objs.size≤X.env.locals
 inj:∀x y c,X.env.cells.lookup x=some c→X.env.cells.lookup y=some c→x=y
 has:∀x,(X.env.kindOf x=some .cell∨X.env.kindOf x=some .free)→∃c,X.env.cells.lookup x=some c
 cab:∀x c,X.fn x=true→X.env.cells.lookup x=some c→X.s₀.heap.objs.size≤c
 hd:X.calm=true→X.A.handled=none
 frames:X.A.frames=some X.stack
 stk:X.stack=X.outer∨(X.stack=X.env::X.outer∧X.env.frame=some X.env.locals)
 exf:∀b∈X.ex,b≠X.env.locals∧∀x c,X.env.cells.lookup x=some c→c≠b
 bs:∀b o,X.base.get? b=some o→X.s₀.heap.get? b=some o∧X.H₀ b=none
 bsz:X.base.objs.size≤X.s₀.heap.objs.size
 noex:∀b o,X.base.get? b=some o→b∉X.ex
 exfs:∀b∈X.ex,b∉X.fs
 funs:X.s₀.heap.FunFrames X.base X.outer
 frf:∀b∈X.fs,X.H₀ b=none
structure Inv (X:Cx)(pins:List (Aj×Obj))(σ:List (Option V))(H:Hp)(s:Ab):Prop where
 ok:X.Ok
 os:s.os=X.s₀.os
 bare:AllBare s.gens
 base:Un X.fs X.ex X.H₀ H X.s₀.heap s.heap
 loc:∃m,s.heap.Ns X.env.locals m∧∀(i:Nat) (x:Str) (v:V),X.N[i]?=some x→σ[i]?=some (some v)→Vis X.env.scope x→∃u,RelV v u∧Look X.env s.heap m x u
 cell:∀x c,X.env.cells.lookup x=some c→∃v,s.heap.IsCell c v
 free:H X.env.locals=none
 freeC:∀x c,X.env.cells.lookup x=some c→H c=none
 pin:∀p∈X.pn++pins,s.heap.get? p.1=some p.2∧H p.1=none∧p.1≠X.env.locals∧p.1∉X.fs∧∀v,p.2.data≠.cell v
 hok:HOk X.prog X.w H s.heap
 len:σ.length=X.N.length
section
variable {X:Cx}{pins:List (Aj×Obj)}{σ:List (Option V)}{H H':Hp}{s:Ab}{h':Heap}
theorem Cx.Ok.nofr (ok:X.Ok){b:Aj}{o:Obj}(e:X.base.get? b=some o):b∉X.fs:=λhb=>by
 have:=(ok.funs.mem hb).1
 rw [e] at this;cases this
theorem Inv.bs (I:Inv X pins σ H s):∀b o,X.base.get? b=some o→s.heap.get? b=some o∧H b=none:=λb o e =>
 ⟨I.base.keep b o (I.ok.bs b o e).1 (I.ok.bs b o e).2 (I.ok.nofr e) (I.ok.noex b o e),I.base.free b o (I.ok.bs b o e).1 (I.ok.bs b o e).2 (I.ok.noex b o e)⟩
theorem Inv.bk (I:Inv X pins σ H s):∀b o,X.base.get? b=some o→s.heap.get? b=some o:=λb o e=>(I.bs b o e).1
theorem Inv.mod (I:Inv X pins σ H s):Mod X.K X.mg X.base:=I.ok.mod
theorem Inv.kIn (I:Inv X pins σ H s):X.K.In s.heap:=I.ok.mod.kin.keeps I.bk
theorem Inv.lt (I:Inv X pins σ H s):X.env.locals<s.heap.objs.size:=let ⟨_,hn,_⟩:=I.loc;hn.lt
theorem Inv.sz (I:Inv X pins σ H s):X.s₀.heap.objs.size≤s.heap.objs.size:=bd I.ok.above (bL I.lt)
theorem Inv.nofs (I:Inv X pins σ H s){a:Aj}(h:s.heap.objs.size≤a):a∉X.fs:=λhb=>by
 obtain ⟨_,o,ho,_⟩:=I.ok.funs.mem hb
 exact absurd (av (af ho) (bd I.sz h)) (aZ _)
theorem Inv.cne (I:Inv X pins σ H s):∀x c,X.env.cells.lookup x=some c→c≠X.env.locals:=λx c e z=>by
 obtain ⟨v,o,ho,hd⟩:=I.cell x c e
 obtain ⟨m,⟨o',es,ep,ho',hd',_⟩,_⟩:=I.loc
 rw [z,ho'] at ho;cases ho;rw [hd'] at hd;cases hd
theorem Inv.funs (I:Inv X pins σ H s):s.heap.FunFrames X.base X.outer:=by
 have all:∀(l:List Env),(∀b∈frs l,b∈X.fs)→X.s₀.heap.FunFrames X.base l→s.heap.FunFrames X.base l:=by
  intro l
  induction l with
  |nil=>intro _ _;trivial
  |cons env r ih =>
   intro hs hl
   obtain ⟨hk,⟨L,o,hf,hn,ho,hd⟩,hr⟩:=hl
   have hL:L∈X.fs:=hs L (by unfold frs;rw [cr,hf];exact aH)
   obtain ⟨sl,e⟩:=I.base.slot L o ho (I.ok.frf L hL) hL λz=>I.ok.exfs L z hL
   exact ⟨hk,⟨L,_,hf,hn,e,hd⟩,ih (λb hb=>hs b (by unfold frs;rw [cr,hf];exact ax _ hb)) hr⟩
 exact all X.outer (λ_ hb=>hb) I.ok.funs
theorem Inv.stack (I:Inv X pins σ H s):s.heap.FunFrames X.base X.stack:=by
 rcases I.ok.stk with e|⟨e,hf⟩
 ·rw [e];exact I.funs
 ·rw [e]
  obtain ⟨m,hn,_⟩:=I.loc
  refine .cons (by rw [I.ok.kind];decide) hf hn ?_ I.funs
  exact Heap.get?_none_of_le (bd I.ok.bsz I.ok.above)
theorem Inv.stkSub (I:Inv X pins σ H s):∀b∈frs X.stack,b∈X.env.locals::X.fs:=λb hb=>by
 rcases I.ok.stk with e|⟨e,hf⟩
 ·rw [e] at hb;exact ax _ hb
 ·rw [e] at hb
  unfold frs at hb
  rw [cr,hf] at hb
  exact hb
theorem Inv.stkFree (I:Inv X pins σ H s):∀b∈frs X.stack,H b=none:=λb hb=>by
 rcases ak.mp (I.stkSub b hb) with e|hb
 ·rw [e];exact I.free
 ·obtain ⟨_,o,ho,_⟩:=I.ok.funs.mem hb
  exact I.base.free b o ho (I.ok.frf b hb) λz=>I.ok.exfs b z hb
theorem Inv.step {g':Array GenState}{t':Nat}{d':Drawn}{ch:List Aj}(I:Inv X pins σ H s)
  (hch:∀b∈ch,(b∈X.ex∨X.s₀.heap.objs.size≤b)∧b≠X.env.locals∧(∀x c,X.env.cells.lookup x=some c→c≠b)∧∀p∈X.pn++pins,p.1≠b)
  (keep:∀b o,b≠X.env.locals→b∉X.fs→b∉ch→s.heap.get? b=some o→H b=none→h'.get? b=some o)
  (slot:∀b o,b≠X.env.locals→b∈X.fs→b∉ch→s.heap.get? b=some o→H b=none→∃sl,h'.get? b=some { o with slots:=sl }) (free:∀b o,b∉ch→s.heap.get? b=some o→H b=none→H' b=none)
  (there:∀b o,b∉ch→s.heap.get? b=some o→∃o',h'.get? b=some o')
  (tups:∀b xs,H b=some (.tup xs)→H' b=some (.tup xs)) (frzs:∀b o u,H b=some (.frz o u)→H' b=some (.frz o u)) (tbls:∀b ps,H b=some (.tbl ps)→∃more,H' b=some (.tbl (ps++more)))
  (ns:∀m,s.heap.Ns X.env.locals m→h'.Ns X.env.locals m) (hok:HOk X.prog X.w H' h') (hg:AllBare g') :
  Inv X pins σ H' { s with heap:=h',gens:=g',drawn:=d',toks:=t' }:=by
 have neL:∀b o,X.s₀.heap.get? b=some o→b≠X.env.locals:=λb o e=>au (av (af e) I.ok.above)
 have neC:∀b o,X.s₀.heap.get? b=some o→b∉X.ex→b∉ch:=λb o e hx hb=>by
  rcases (hch b hb).1 with z|z
  ·exact hx z
  ·exact absurd (av (af e) z) (aZ _)
 have cellK:∀x c,X.env.cells.lookup x=some c→∀v,s.heap.IsCell c v→h'.IsCell c v:=λx c e v ⟨o,ho,hd⟩=>by
  have nch:c∉ch:=λz=>(hch c z).2.2.1 x c e rfl
  by_cases hc:c∈X.fs
  ·obtain ⟨sl,q⟩:=slot c o (I.cne x c e) hc nch ho (I.freeC x c e)
   exact ⟨_,q,hd⟩
  ·exact ⟨o,keep c o (I.cne x c e) hc nch ho (I.freeC x c e),hd⟩
 refine ⟨I.ok,I.os,hg,⟨λb o e n hb hx=>?_,λb o e n hb hx=>?_,λb o e n hx=>?_,λb o e hx=>?_,λb xs e=>tups b xs (I.base.tups b xs e),λb o xs e=>frzs b o xs (I.base.frzs b o xs e),λb ps e=>?_⟩,?_,λx c e=>?_,?_,λx c e=>?_,λp hp=>?_,hok,I.len⟩
 ·exact keep b o (neL b o e) hb (neC b o e hx) (I.base.keep b o e n hb hx) (I.base.free b o e n hx)
 ·obtain ⟨sl,e1⟩:=I.base.slot b o e n hb hx
  obtain ⟨sl',e2⟩:=slot b _ (neL b o e) hb (neC b o e hx) e1 (I.base.free b o e n hx)
  exact ⟨sl',e2⟩
 ·obtain ⟨o',e1⟩:=I.base.there b o e hx
  exact free b o' (neC b o e hx) e1 (I.base.free b o e n hx)
 ·obtain ⟨o',e1⟩:=I.base.there b o e hx
  exact there b o' (neC b o e hx) e1
 ·obtain ⟨m1,e1⟩:=I.base.tbls b ps e
  obtain ⟨m2,e2⟩:=tbls b _ e1
  exact ⟨m1++m2,by rw [e2,Array.append_assoc]⟩
 ·obtain ⟨m,hn,hl⟩:=I.loc
  refine ⟨m,ns m hn,λi x v e1 e2 e3=>?_⟩
  obtain ⟨u,r,l⟩:=hl i x v e1 e2 e3
  refine ⟨u,r,?_⟩
  rcases l with l|⟨k,c,e,z⟩
  ·exact .inl l
  ·exact .inr ⟨k,c,e,cellK x c e _ z⟩
 ·obtain ⟨v,z⟩:=I.cell x c e
  exact ⟨v,cellK x c e v z⟩
 ·obtain ⟨m,⟨o,_,_,ho,_⟩,_⟩:=I.loc
  exact free _ o (λz=>(hch _ z).2.1 rfl) ho I.free
 ·obtain ⟨v,o,ho,hd⟩:=I.cell x c e
  exact free c o (λz=>(hch c z).2.2.1 x c e rfl) ho (I.freeC x c e)
 ·obtain ⟨e,n,ne,nf,d⟩:=I.pin p hp
  have nch:p.1∉ch:=λz=>(hch p.1 z).2.2.2 p hp rfl
  exact ⟨keep p.1 p.2 ne nf nch e n,free p.1 p.2 nch e n,ne,nf,d⟩
theorem Inv.un {t':Nat}(I:Inv X pins σ H s)(u:Un X.fs [] H H' s.heap h')(hok:HOk X.prog X.w H' h'):Inv X pins σ H' { s with heap:=h',toks:=t' }:=by
 obtain ⟨m,⟨o,es,ep,ho,r⟩,_⟩:=id I.loc
 obtain ⟨sl,hL⟩:=u.any ho I.free (by simp)
 exact I.step (g':=s.gens) (d':=s.drawn) (ch:=[]) (λ_ z=>nomatch z) (λb o _ hb _ e n=>u.keep b o e n hb (by simp)) (λb o _ hb _ e n=>u.slot b o e n hb (by simp)) (λb o _ e n=>u.free b o e n (by simp)) (λb o _ e=>u.there b o e (by simp)) u.tups u.frzs u.tbls (λm' hm=>by
  obtain ⟨o',es',ep',ho',r'⟩:=hm
  rw [ho] at ho';cases ho'
  exact ⟨_,es',ep',hL,r'⟩) hok I.bare
theorem Inv.call {g':Array GenState}{t':Nat}{d':Drawn}{ch:List Aj}(I:Inv X pins σ H s)(u:Un (frs X.stack) ch H H' s.heap h')(hok:HOk X.prog X.w H' h')(hg:AllBare g')
  (hch:∀b∈ch,(b∈X.ex∨X.s₀.heap.objs.size≤b)∧b≠X.env.locals∧(∀x c,X.env.cells.lookup x=some c→c≠b)∧∀p∈X.pn++pins,p.1≠b) :
  Inv X pins σ H' { s with heap:=h',gens:=g',drawn:=d',toks:=t' }:=by
 obtain ⟨m,⟨o,es,ep,ho,r⟩,_⟩:=id I.loc
 obtain ⟨sl,hL⟩:=u.any ho I.free λz=>(hch _ z).2.1 rfl
 exact I.step (ch:=ch) hch (λb o hL hb hc e n=>u.keep b o e n (λz=>(ak.mp (I.stkSub b z)).elim hL hb) hc) (λb o _ _ hc e n=>u.any e n hc) (λb o hc e n=>u.free b o e n hc) (λb o hc e=>u.there b o e hc) u.tups u.frzs u.tbls (λm' hm=>by
  obtain ⟨o',es',ep',ho',r'⟩:=hm
  rw [ho] at ho';cases ho'
  exact ⟨_,es',ep',hL,r'⟩) hok hg
theorem Inv.turned {t':Nat}{it:Aj}(I:Inv X pins σ H s)(k:∀b o,b≠it→s.heap.get? b=some o→h'.get? b=some o)(hn:H it=none)(hL:it≠X.env.locals)
  (h1:it∈X.ex∨X.s₀.heap.objs.size≤it) (h2:∀x c,X.env.cells.lookup x=some c→c≠it) (h3:∀p∈X.pn++pins,p.1≠it):Inv X pins σ H { s with heap:=h',toks:=t' }:=by
 have nit:∀b u,H b=some u→b≠it:=λb u e z=>by rw [z,hn] at e;cases e
 refine I.step (g':=s.gens) (d':=s.drawn) (ch:=[it]) (λb hb=>?_) (λb o _ _ hc e _=>k b o (λz=>hc (by simp [z])) e) (λb o _ _ hc e _=>⟨o.slots,k b o (λz=>hc (by simp [z])) e⟩) (λ_ _ _ _ n=>n)
  (λb o hc e=>⟨o,k b o (λz=>hc (by simp [z])) e⟩) (λ_ _ e=>e) (λ_ _ _ e=>e) (λb ps e=>⟨#[],by rw [e];simp⟩) (λm hm=>?_) (λb u e=>?_) I.bare
 ·have e:b=it:=by simpa using hb
  subst e
  exact ⟨h1,hL,h2,h3⟩
 ·obtain ⟨o,es,ep,ho,r⟩:=hm
  exact ⟨o,es,ep,k _ o (aN hL) ho,r⟩
 ·refine (I.hok b u e).stay (λc v hc q=>k c v ?_ q) (λ_ q=>q) λ_ _ q=>q
  rcases hc with z|z
  ·rw [z];exact nit b u e
  ·exact nit c _ z
theorem Inv.tok (I:Inv X pins σ H s)(t:Nat):Inv X pins σ H { s with toks:=t }:=I.un (h':=s.heap) (t':=t) Un.refl I.hok
theorem Inv.kept {t':Nat}(I:Inv X pins σ H s)(k:∀b u,s.heap.get? b=some u→h'.get? b=some u):Inv X pins σ H { s with heap:=h',toks:=t' }:=I.un (Un.kept k) (I.hok.kept k)
theorem Inv.laid {a:Aj}{o:HO}{t':Nat}(I:Inv X pins σ H s)(k:∀b u,s.heap.get? b=some u→h'.get? b=some u)(hp:s.heap.objs.size≤a)(new:ObjOk X.prog X.w (upd H a o) h' a o) :
  Inv X pins σ (upd H a o) { s with heap:=h',toks:=t' }:=I.un (Un.laid k hp (I.hok.fresh hp)) (I.hok.laid k hp new)
theorem Inv.write {x e:Aj}{o:HO}{t':Nat}(I:Inv X pins σ H s)(mu:Mut (H x))(he:e=x∨H e=some (.own x))(k:∀b u,b≠e→s.heap.get? b=some u→h'.get? b=some u)(heo:∃u,h'.get? e=some u)
  (new:ObjOk X.prog X.w (upd H x o) h' x o):Inv X pins σ (upd H x o) { s with heap:=h',toks:=t' }:=I.un (Un.write mu he k heo) (I.hok.write mu he k heo new)
theorem Inv.weak {σ':List (Option V)}(I:Inv X pins σ H s)(hl:σ'.length=σ.length)(w:∀(i:Nat) v,σ'[i]?=some (some v)→σ[i]?=some (some v)):Inv X pins σ' H s :=
 ⟨I.ok,I.os,I.bare,I.base,let ⟨m,hn,hl'⟩:=I.loc;⟨m,hn,λi x v e1 e2 e3=>hl' i x v e1 (w i v e2) e3⟩,I.cell,I.free,I.freeC,I.pin,I.hok,hl.trans I.len⟩
theorem Inv.pins_of {pins':List (Aj×Obj)}(I:Inv X pins σ H s)(h:∀p∈pins',s.heap.get? p.1=some p.2∧H p.1=none∧p.1≠X.env.locals∧p.1∉X.fs∧∀v,p.2.data≠.cell v):Inv X pins' σ H s :=
 ⟨I.ok,I.os,I.bare,I.base,I.loc,I.cell,I.free,I.freeC,λp hp=>(bq.mp hp).elim (λz=>I.pin p (bM _ z)) (h p),I.hok,I.len⟩
theorem qxy {N:List Str}(hN:N.Nodup){i j:Nat}{x:Str}(a:N[i]?=some x)(b:N[j]?=some x):i=j:=by
 obtain ⟨h1,e1⟩:=aL.mp a
 obtain ⟨h2,e2⟩:=aL.mp b
 exact (du hN).mp (e1.trans e2.symm)
theorem _root_.aU0 (h:True:=by walk_at "iv"):True:=h
theorem qkd {M:Model}{A:Ae}{E:Ag→Ab→Prop}{i:Nat}{x:Str}{v:V}{u:Ag}{Q:Unit→Ab→Prop}(I:Inv X pins σ H s)(hN:X.N.Nodup)(hi:X.N[i]?=some x)(hx:Loc X.env.scope x)(r:RelV v u)
  (h:∀s',Inv X pins (σ.set i (some v)) H s'→(∃a,Heap.SameBut a s.heap s'.heap∧(a=X.env.locals∨X.env.cells.lookup x=some a))→Q () s') (hf:autoParam (X.fn x=true∨X.env.scope.names.lookup x=some .local) aU0._auto_1):wpAny M A (storeName X.env x u) Q E s:=by
 obtain ⟨m,hn,hl⟩:=id I.loc
 have hcls:(X.env.scope.kind==.class||(X.env.scope.kind==.module&&X.env.locals != X.env.globals))=false:=by rw [I.ok.kind];rfl
 have hiσ:i<σ.length:=by rw [I.len];exact (aL.mp hi).1
 have cne:=I.cne
 have tracked:∀ {a:Aj} {h':Heap},(∃o,s.heap.get? a=some o∧H a=none)→Heap.SameBut a s.heap h'→HOk X.prog X.w H h':=λ{a h'} ha hs b ob e=>by
  obtain ⟨_,_,hfree⟩:=ha
  refine (I.hok b ob e).stay (λc w' hc q=>(hs.2 c ?_).trans q) (λ_ q=>q) λ_ _ q=>q
  rintro rfl
  rcases hc with rfl|hc
  ·rw [hfree] at e;cases e
  ·rw [hfree] at hc;cases hc
 rcases hx with hk|hk
 ·refine wpAny_storeName_local hk hn (λh' hn' hs=>?_) hcls
  obtain ⟨oL,_,_,hoL,_⟩:=id hn
  refine h _ ⟨I.ok,I.os,I.bare,⟨λb o e n hb hx=>?_,λb o e n hb hx=>?_,I.base.free,λb o e hx=>?_,I.base.tups,I.base.frzs,I.base.tbls⟩,⟨_,hn',λj y v' e1 e2 e3=>?_⟩,λy c e=>?_,I.free,I.freeC,λp hp=>?_,tracked ⟨oL,hoL,I.free⟩ hs,by simpa using I.len⟩ ⟨_,hs,.inl rfl⟩
  ·exact (hs.2 b (au (av (af e) I.ok.above))).trans (I.base.keep b o e n hb hx)
  ·obtain ⟨sl,e1⟩:=I.base.slot b o e n hb hx
   exact ⟨sl,(hs.2 b (au (av (af e) I.ok.above))).trans e1⟩
  ·obtain ⟨o',e1⟩:=I.base.there b o e hx
   exact ⟨o',(hs.2 b (au (av (af e) I.ok.above))).trans e1⟩
  ·by_cases hj:j=i
   ·subst hj
    rw [hi] at e1;cases e1
    rw [List.getElem?_set_self hiσ] at e2
    cases e2
    exact ⟨u,r,.inl ⟨hk,by simp⟩⟩
   ·rw [List.getElem?_set_ne (aN hj)] at e2
    obtain ⟨u',r',q⟩:=hl j y v' e1 e2 e3
    refine ⟨u',r',?_⟩
    rcases q with ⟨k,e⟩|⟨k,c,e,z⟩
    ·refine .inl ⟨k,?_⟩
     have:y≠x:=λe=>hj (qxy hN e1 (e▸hi))
     simp [this,e]
    ·exact .inr ⟨k,c,e,z.sameBut hs (cne y c e)⟩
  ·obtain ⟨w',z⟩:=I.cell y c e
   exact ⟨w',z.sameBut hs (cne y c e)⟩
  ·obtain ⟨e,n,ne,nf,d⟩:=I.pin p hp
   exact ⟨(hs.2 p.1 ne).trans e,n,ne,nf,d⟩
 ·have hfn:X.fn x=true:=by
   rcases hf with z|z
   ·exact z
   ·rw [z] at hk;cases hk
  obtain ⟨c,hc⟩:=I.ok.has x (.inl hk)
  obtain ⟨w',z⟩:=I.cell x c hc
  refine wpAny_storeName_cell I.ok.kind hk hc z (λh' hc' hs=>?_)
  obtain ⟨oc,hoc,hocd⟩:=id z
  refine h { s with heap:=h' } ⟨I.ok,I.os,I.bare,⟨λb o e n hb hx=>?_,λb o e n hb hx=>?_,I.base.free,λb o e hx=>?_,I.base.tups,I.base.frzs,I.base.tbls⟩,⟨m,hn.sameBut hs (aN (cne x c hc)),λj y v' e1 e2 e3=>?_⟩,λy c' e=>?_,I.free,I.freeC,λp hp=>?_,tracked ⟨oc,hoc,I.freeC x c hc⟩ hs,by simpa using I.len⟩ ⟨c,hs,.inr hc⟩
  ·exact (hs.2 b (au (av (af e) (I.ok.cab x c hfn hc)))).trans (I.base.keep b o e n hb hx)
  ·obtain ⟨sl,e1⟩:=I.base.slot b o e n hb hx
   exact ⟨sl,(hs.2 b (au (av (af e) (I.ok.cab x c hfn hc)))).trans e1⟩
  ·obtain ⟨o',e1⟩:=I.base.there b o e hx
   exact ⟨o',(hs.2 b (au (av (af e) (I.ok.cab x c hfn hc)))).trans e1⟩
  ·by_cases hj:j=i
   ·subst hj
    rw [hi] at e1;cases e1
    rw [List.getElem?_set_self hiσ] at e2
    cases e2
    exact ⟨u,r,.inr ⟨.inl hk,c,hc,hc'⟩⟩
   ·rw [List.getElem?_set_ne (aN hj)] at e2
    obtain ⟨u',r',q⟩:=hl j y v' e1 e2 e3
    refine ⟨u',r',?_⟩
    rcases q with q|⟨k,c',e,z'⟩
    ·exact .inl q
    ·refine .inr ⟨k,c',e,z'.sameBut hs ?_⟩
     rintro rfl
     exact hj (qxy hN e1 (I.ok.inj _ _ _ e hc▸hi))
  ·by_cases hcc:c'=c
   ·subst hcc;exact ⟨_,hc'⟩
   ·obtain ⟨w2,z2⟩:=I.cell y c' e
    exact ⟨w2,z2.sameBut hs hcc⟩
  ·obtain ⟨e,n,ne,nf,d⟩:=I.pin p hp
   refine ⟨(hs.2 p.1 ?_).trans e,n,ne,nf,d⟩
   intro q
   rw [q,hoc] at e
   have q':oc=p.2:=ap e
   exact d w' (by rw [←q'];exact hocd)
theorem j9 {M:Model}{A:Ae}{E:Ag→Ab→Prop}{i:Nat}{x:Str}{v:V}{u:Ag}{Q:Unit→Ab→Prop}(I:Inv X pins σ H s)(hN:X.N.Nodup)(hi:X.N[i]?=some x)(hx:Loc X.env.scope x)(r:RelV v u)
  (h:∀s',Inv X pins (σ.set i (some v)) H s'→Q () s') (hf:autoParam (X.fn x=true∨X.env.scope.names.lookup x=some .local) aU0._auto_1):wpAny M A (storeName X.env x u) Q E s :=
 qkd I hN hi hx r (λs' I' _=>h s' I') hf
theorem Inv.call' {s':Ab}{ch:List Aj}(I:Inv X pins σ H s)(ho:s'.os=s.os)(u:Un (frs X.stack) ch H H' s.heap s'.heap)(hok:HOk X.prog X.w H' s'.heap)(hg:AllBare s'.gens)
  (hch:∀b∈ch,(b∈X.ex∨X.s₀.heap.objs.size≤b)∧b≠X.env.locals∧(∀x c,X.env.cells.lookup x=some c→c≠b)∧∀p∈X.pn++pins,p.1≠b):Inv X pins σ H' s':=by
 obtain ⟨h',g',d',t',o'⟩:=s'
 have e:o'=s.os:=ho
 subst e
 exact I.call (g':=g') (t':=t') (d':=d') u hok hg hch
end
abbrev XK:=Ag→Option Aj→Hp→Prop
abbrev St:=List (Option V)
abbrev VK:=V→Hp→Prop
abbrev TE:=St→Hp→VK→Prop
abbrev TT:=St→Hp→(Bool→Hp→Prop)→Prop
abbrev TA:=St→Hp→(List V→Hp→Prop)→Prop
structure Ends where
 nx:St→Hp→Prop
 rt:VK
 bk:St→Hp→Prop:=λ_ _=>False
 ct:St→Hp→Prop:=λ_ _=>False
abbrev TS:=Ends→St→Hp→Prop
def EP (X:Cx)(pins:List (Aj×Obj))(σ:St)(Q:VK)(u:Ag)(s':Ab):Prop:=∃v H',Inv X pins σ H' s'∧RelV v u∧Q v H'
def TP (X:Cx)(pins:List (Aj×Obj))(σ:St)(Q:Bool→Hp→Prop)(b:Bool)(s':Ab):Prop:=∃H',Inv X pins σ H' s'∧Q b H'
def AP (X:Cx)(pins:List (Aj×Obj))(σ:St)(Q:List V→Hp→Prop)(us:List Ag)(s':Ab):Prop:=∃vs H',Inv X pins σ H' s'∧Vals vs us∧Q vs H'
def SP (X:Cx)(pins:List (Aj×Obj))(D:Ends)(f:Flow)(s':Ab):Prop :=
 match f with
 |.next=>∃σ' H',Inv X pins σ' H' s'∧D.nx σ' H'
 |.brk=>∃σ' H',Inv X pins σ' H' s'∧D.bk σ' H'
 |.cont=>∃σ' H',Inv X pins σ' H' s'∧D.ct σ' H'
 |.ret u=>∃v σ' H',Inv X pins σ' H' s'∧RelV v u∧D.rt v H'
def PE (X:Cx)(e:Expr)(t:TE):Prop :=
 ∀(pins:List (Aj×Obj)) (s:Ab) (σ:St) (H:Hp) (Q:VK),Inv X pins σ H s→t σ H Q→wpAny (model X.prog X.w) X.A (eval e X.env) (EP X pins σ Q) X.xe s
def PT (X:Cx)(e:Expr)(t:TT):Prop :=
 ∀(pins:List (Aj×Obj)) (s:Ab) (σ:St) (H:Hp) (Q:Bool→Hp→Prop),Inv X pins σ H s→t σ H Q→wpAny (model X.prog X.w) X.A (isTrue e X.env (eval e X.env)) (TP X pins σ Q) X.xe s
def PW (X:Cx)(e:Expr)(t:TT):Prop :=
 ∀(whole:Sem Ag) (pins:List (Aj×Obj)) (s:Ab) (σ:St) (H:Hp) (Q:Bool→Hp→Prop),Inv X pins σ H s→t σ H Q→wpAny (model X.prog X.w) X.A (isTrue e X.env whole) (TP X pins σ Q) X.xe s
theorem PW.pt {X:Cx}{e:Expr}{t:TT}(h:PW X e t):PT X e t:=h _
def PA (X:Cx)(es:List Expr)(t:TA):Prop :=
 ∀(pos:Pos) (pins:List (Aj×Obj)) (s:Ab) (σ:St) (H:Hp) (Q:List V→Hp→Prop),Inv X pins σ H s→t σ H Q→wpAny (model X.prog X.w) X.A (spliced (backTo pos (starEach es X.env))) (AP X pins σ Q) X.xe s
def PS (X:Cx)(st:Stmt)(t:TS):Prop :=
 ∀(pins:List (Aj×Obj)) (s:Ab) (σ:St) (H:Hp) (D:Ends),Inv X pins σ H s→t D σ H→wpAny (model X.prog X.w) X.A (exec st X.env) (SP X pins D) X.xe s
def PSs (X:Cx)(st:List Stmt)(t:TS):Prop :=
 ∀(pins:List (Aj×Obj)) (s:Ab) (σ:St) (H:Hp) (D:Ends),Inv X pins σ H s→t D σ H→wpAny (model X.prog X.w) X.A (execs st X.env) (SP X pins D) X.xe s
theorem thn {α:Type}{t:Sem α}{Q Q':α→Ab→Prop}{M:Model}{A:Ae}{E:Ag→Ab→Prop}{s:Ab}(h:wpAny M A t Q E s)(hQ:∀a s,Q a s→Q' a s):wpAny M A t Q' E s:=aX h hQ λ_ _ x=>x
section
variable {X:Cx}
def ud (i:Nat):TE:=λσ H Q=>∃v,σ[i]?=some (some v)∧Q v H
def tC (v:V):TE:=λ_ H Q=>Q v H
theorem _root_.aU1 (h:True:=by decide):True:=h
theorem pe_var {i:Nat}{x:Str}{pos:Pos}(hN:X.N[i]?=some x)(hv:Vis X.env.scope x)(hd:autoParam ((x==("__debug__" : Str))=false) aU1._auto_1)(hcd:autoParam ((x==("__classdict__" : Str))=false) aU1._auto_1):PE X (.Name x pos) (ud i):=by
 intro pins s σ H Q I h
 obtain ⟨v,e,h⟩:=h
 obtain ⟨m,hn,hl⟩:=I.loc
 obtain ⟨u,r,l⟩:=hl i x v hN e hv
 have fin:EP X pins σ Q u s:=⟨v,H,I,r,h⟩
 rcases l with ⟨hk,hm⟩|⟨hk,c,hc,hcell⟩
 ·exact wpAny_Name (wpAny_loadName_local I.ok.kind hk hn hm fin) hd
 ·rcases hk with hk|hk
  ·exact wpAny_Name (wpAny_loadName_cell I.ok.kind hk hc hcell fin) hd
  ·exact wpAny_Name (wpAny_loadName_free I.ok.kind hk hc hcell fin hcd) hd
theorem qd {i j pos}:PE X (.Constant (.int i) j pos) (tC (.int i)):=λ_ _ _ H _ I h=>wpAny_Constant_int ⟨.int i,H,I.tok _,⟨_,rfl⟩,h⟩
theorem qvx {b j pos}:PE X (.Constant (.bool b) j pos) (tC (.bl b)):=λ_ _ _ H _ I h=>Constant_bool ⟨.bl b,H,I,rfl,h⟩
theorem pe_non {j pos}:PE X (.Constant .none j pos) (tC .non):=λ_ _ _ H _ I h=>Constant_none ⟨.non,H,I,rfl,h⟩
theorem xn {x j pos}:PE X (.Constant (.str x) j pos) (tC (.str x)):=λ_ _ _ H _ I h=>Calls.Constant_str ⟨.str x,H,I.tok _,⟨_,rfl⟩,h⟩
def Gl (X:Cx)(x:Str):Prop:=X.env.kindOf x=some .globalImplicit
theorem ug {E:Ag→Ab→Prop}{pins:List (Aj×Obj)}{s:Ab}{σ:St}{H:Hp}{x:Str}{u:Ag}{pos:Pos}{Q:Ag→Ab→Prop}(I:Inv X pins σ H s)(hg:Gl X x)(hm:X.mg x=some u)(h:Q u s)
  (hd:autoParam ((x==("__debug__" : Str))=false) aU1._auto_1):wpAny (model X.prog X.w) X.A (eval (.Name x pos) X.env) Q E s :=
 Calls.Name_function_global I.ok.kind hg (Calls.loadGlobal_global (by rw [I.ok.glob];exact I.mod.glob.keeps I.bk) hm h) hd
theorem _root_.aU2 (h:True:= by decide):True:=h
theorem qqp {E:Ag→Ab→Prop}{pins:List (Aj×Obj)}{s:Ab}{σ:St}{H:Hp}{x:Str}{u:Ag}{pos:Pos}{Q:Ag→Ab→Prop}(I:Inv X pins σ H s)(hg:Gl X x)(hm:X.mg x=none)(hv:bootBuiltins x=some u)(h:Q u s)
  (hn:autoParam (x ≠ "__name__") aU2._auto_1) (hd:autoParam ((x==("__debug__" : Str))=false) aU1._auto_1):wpAny (model X.prog X.w) X.A (eval (.Name x pos) X.env) Q E s:=by
 obtain ⟨mb,h1,h2⟩:=I.mod.blt
 exact Calls.Name_function_global I.ok.kind hg (Calls.loadGlobal_builtin (by rw [I.ok.glob];exact I.mod.glob.keeps I.bk) hm (by rw [I.ok.blt];exact h1.keeps I.bk) ((h2 x hn).trans hv) h) hd
theorem Wb {x:Str}{v:V}{u:Ag}{pos:Pos}(hg:Gl X x)(hm:X.mg x=some u)(r:RelV v u)(hd:autoParam ((x==("__debug__" : Str))=false) aU1._auto_1):PE X (.Name x pos) (tC v) :=
 λ_ _ _ H _ I h=>ug I hg hm ⟨v,H,I,r,h⟩ hd
theorem wqq {x:Str}{v:V}{u:Ag}{pos:Pos}(hg:Gl X x)(hm:X.mg x=none)(hv:bootBuiltins x=some u)(r:RelV v u)(hn:autoParam (x ≠ "__name__") aU2._auto_1)(hd:autoParam ((x==("__debug__" : Str))=false) aU1._auto_1):PE X (.Name x pos) (tC v) :=
 λ_ _ _ H _ I h=>qqp I hg hm hv ⟨v,H,I,r,h⟩ hn hd
variable {a b:Expr}{ta tb:TE}{pos:Pos}
def PC (X:Cx)(op:CmpOp)(a b:Expr)(t:TE):Prop :=
 ∀(pins:List (Aj×Obj)) (s:Ab) (σ:St) (H:Hp) (Q:VK),Inv X pins σ H s→t σ H Q →
  wpAny (model X.prog X.w) X.A (eval a X.env) (λv s₁=>wpAny (model X.prog X.w) X.A (eval b X.env) (λu s₂=>wpAny (model X.prog X.w) X.A (compareOp op v u) (EP X pins σ Q) X.xe s₂) X.xe s₁) X.xe s
def tB (t:TE):TT:=λσ H Q=>t σ H λx H1=>∃c,x=.bl c∧Q c H1
theorem qqf {op:CmpOp}{t:TE}(h:PC X op a b t)(h1:behindInMarks op b=false:=by first | exact nobehind _ ⋯ ⋯ | rfl):PT X (.Compare a [op] [b] pos) (tB t):=by
 intro pins s σ H Q I hw
 refine wpAny_isTrue_Compare1 (thn (h pins s σ H _ I hw) λv s1 h1=>thn h1 λu s2 h2=>thn h2 λc s3 ⟨x,H1,I1,r1,q1⟩=>?_) h1
 obtain ⟨d,rfl,q⟩:=q1
 cases r1
 exact cf ⟨H1,I1,q⟩
theorem _root_.aU3 (h:True:=by intro _;rfl):True:=h
theorem qzr {e:Expr}{t:TE}(h:PE X e t)(he:autoParam (∀whole,isTrue e X.env whole=(do let v ←whole;standAt e.pos;holding [v] (truthy v))) aU3._auto_1):PT X e (tB t):=by
 intro pins s σ H Q I hw
 refine isTrue_plain (thn (h pins s σ H _ I hw) λv s1 ⟨x,H1,I1,r1,q1⟩=>?_) (he _)
 obtain ⟨d,rfl,q⟩:=q1
 cases r1
 exact cf ⟨H1,I1,q⟩
variable {tA tB':TT}{rest:List Expr}
def tAnd (t u:TT):TT:=λσ H Q=>t σ H λc H1=>if c=true then u σ H1 Q else Q false H1
def tOr (t u:TT):TT:=λσ H Q=>t σ H λc H1=>if c=true then Q true H1 else u σ H1 Q
def tNot (t:TT):TT:=λσ H Q=>t σ H λc H1=>Q (!c) H1
theorem wq3 (ha:PT X a tA):PW X (.BoolOp .And [a] pos) tA:=by
 intro wh pins s σ H Q I h
 refine isTrue_and (thn (ha pins s σ H Q I h) λc s1 e=>?_)
 cases c with
 |true=>exact isTrue_and_nil e
 |false=>exact e
theorem Zs (ha:PT X a tA):PW X (.BoolOp .Or [a] pos) tA:=by
 intro wh pins s σ H Q I h
 refine isTrue_or (thn (ha pins s σ H Q I h) λc s1 e=>?_)
 cases c with
 |false=>exact isTrue_or_nil e
 |true=>exact e
theorem pw_and (ha:PT X a tA)(hb:PW X (.BoolOp .And (b::rest) pos) tB'):PW X (.BoolOp .And (a::b::rest) pos) (tAnd tA tB'):=by
 intro wh pins s σ H Q I h
 refine isTrue_and (thn (ha pins s σ H _ I h) λc s1 ⟨H1,I1,q1⟩=>?_)
 cases c with
 |true=>exact hb wh pins s1 σ H1 Q I1 q1
 |false=>exact ⟨H1,I1,q1⟩
theorem qwd (ha:PT X a tA)(hb:PW X (.BoolOp .Or (b::rest) pos) tB'):PW X (.BoolOp .Or (a::b::rest) pos) (tOr tA tB'):=by
 intro wh pins s σ H Q I h
 refine isTrue_or (thn (ha pins s σ H _ I h) λc s1 ⟨H1,I1,q1⟩=>?_)
 cases c with
 |true=>exact ⟨H1,I1,q1⟩
 |false=>exact hb wh pins s1 σ H1 Q I1 q1
theorem qzb (ha:PT X a tA):PT X (.UnaryOp .Not a pos) (tNot tA):=by
 intro pins s σ H Q I h
 exact isTrue_not (ha pins s σ H (λc H1=>Q (!c) H1) I h)
def tAndV (ta tb:TE):TE:=λσ H Q=>ta σ H λx H1=>∃c,x=.bl c∧if c=true then tb σ H1 Q else Q (.bl false) H1
theorem qjn {op}{t:TE}(h:PE X a t):PE X (.BoolOp op [a] pos) t:=λpins s σ H Q I hw=>BoolOp_one (h pins s σ H Q I hw)
theorem quk (ha:PE X a ta)(hb:PE X (.BoolOp .And (b::rest) pos) tb):PE X (.BoolOp .And (a::b::rest) pos) (tAndV ta tb):=by
 intro pins s σ H Q I h
 refine BoolOp_and (thn (ha pins s σ H _ I h) λv s1 ⟨x,H1,I1,r1,q1⟩=>?_)
 obtain ⟨c,rfl,q1⟩:=q1
 cases r1
 refine cf ?_
 cases c with
 |true=>exact hb pins s1 σ H1 Q I1 q1
 |false=>exact ⟨.bl false,H1,I1,rfl,q1⟩
end
def SqL (K:Aa)(H:Hp)(a:Aj)(xs:List V):Prop :=
 Rd H a (.lst xs) ∨
  ∃(o:Obj) (its:Array Ag) (n:Nat),K.lookup a=some o∧o.cls=.type "list" ∧ o.dict=none∧o.data=.seq its n∧its.size≤sizeLine∧Vals xs its.toList
def SqT (K:Aa)(H:Hp)(a:Aj)(xs:List V):Prop :=
 Rd H a (.tup xs) ∨
  ∃(o:Obj) (its:Array Ag) (n:Nat),K.lookup a=some o∧o.cls=.type "tuple" ∧ o.data=.seq its n∧its.size≤sizeLine∧Vals xs its.toList
def absV:Ag→Option V
 |.none=>some .non
 |.bool b=>some (.bl b)
 |.int i _=>some (.int i)
 |.str x _=>some (.str x)
 |.bytes b _=>some (.byt b)
 |.float b _=>some (.flt b)
 |.ref a=>some (.ref a)
 |.type n=>some (.ty n)
 |_=>none
theorem RelV.abs {x:V}{u:Ag}(r:RelV x u):absV u=some x:=by
 cases x with
 |non=>cases r;rfl
 |bl _=>cases r;rfl
 |int _=>obtain ⟨t,rfl⟩:=r;rfl
 |str _=>obtain ⟨t,rfl⟩:=r;rfl
 |byt _=>obtain ⟨t,rfl⟩:=r;rfl
 |flt _=>obtain ⟨t,rfl⟩:=r;rfl
 |ref _=>cases r;rfl
 |ty _=>cases r;rfl
theorem RelV.inj {x y:V}{u:Ag}(r:RelV x u)(q:RelV y u):x=y:=ap (r.abs.symm.trans q.abs)
theorem Vals.inj:∀ {xs ys:List V} {us:List Ag},Vals xs us→Vals ys us→xs=ys
 |_,_,_,.nil,.nil=>rfl
 |_,_,_,.cons r t,.cons r' t'=>by rw [r.inj r',Vals.inj t t']
section
variable {X:Cx}{pins:List (Aj×Obj)}{σ:St}{H:Hp}{s:Ab}{a:Aj}{xs ys:List V}
theorem SqL.of {K:Aa}(h:H a=some (.lst xs)):SqL K H a xs:=.inl (.inl h)
theorem SqT.of {K:Aa}(h:H a=some (.tup xs)):SqT K H a xs:=.inl (.inl h)
theorem Inv.list (I:Inv X pins σ H s)(h:SqL X.K H a xs):∃its:List Ag,Vals xs its∧PlainL s.heap a its.toArray∧xs.length≤sizeLine:=by
 rcases h with h|⟨o,its,n,hk,hc,hd,hs,hz,r⟩
 ·obtain ⟨z,its,n,r,e⟩:=h.ok I.hok
  exact ⟨its,r,⟨_,n,e,rfl,rfl,rfl⟩,z⟩
 ·refine ⟨its.toList,r,⟨o,n,I.kIn a o hk,hc,hd,by simpa using hs⟩,?_⟩
  have e:=r.length
  simp only [bw] at e
  lia
theorem Inv.tuple (I:Inv X pins σ H s)(h:SqT X.K H a xs):∃its:List Ag,Vals xs its∧IsTup s.heap a its.toArray∧xs.length≤sizeLine:=by
 rcases h with h|⟨o,its,n,hk,hc,hs,hz,r⟩
 ·obtain ⟨z,its,r,p⟩:=h.ok I.hok
  exact ⟨its,r,p,z⟩
 ·refine ⟨its.toList,r,⟨o,I.kIn a o hk,hc,n,by simpa using hs⟩,?_⟩
  have e:=r.length
  simp only [bw] at e
  lia
theorem Inv.list_inj (I:Inv X pins σ H s)(h:SqL X.K H a xs)(h':SqL X.K H a ys):xs=ys:=by
 obtain ⟨its,r,⟨o,n,e,_,_,d⟩,_⟩:=I.list h
 obtain ⟨its',r',⟨o',n',e',_,_,d'⟩,_⟩:=I.list h'
 rw [e] at e';cases e'
 rw [d] at d'
 injection d' with d1 _
 have:its=its':=by simpa using bF Array.toList d1
 subst this
 exact r.inj r'
end
abbrev Cx.wish (X:Cx)(E:Ag→Ab→Prop):Cx:={ X with xe:=E }
section
variable {X:Cx}{pins:List (Aj×Obj)}{σ:St}{H:Hp}{s:Ab}{E:Ag→Ab→Prop}
end
section
variable {X:Cx}{st:Stmt}{rest:List Stmt}{t u:TS}{e:Expr}{te:TE}{pos:Pos}
def tNext:TS:=λD σ H=>D.nx σ H
def tSeq (t u:TS):TS:=λD σ H=>t { D with nx:=u D } σ H
theorem w6:PSs X [] tNext:=λ_ _ σ H _ I h=>cJ ⟨σ,H,I,h⟩
theorem qc (h1:PS X st t)(h2:PSs X rest u):PSs X (st::rest) (tSeq t u):=by
 intro pins s σ H D I h
 refine dv (thn (h1 pins s σ H { D with nx:=u D } I h) λf s1 q=>?_)
 cases f with
 |next =>
  obtain ⟨σ',H',I',q⟩:=q
  exact h2 pins s1 σ' H' D I' q
 |ret v=>exact q
 |brk=>exact q
 |cont=>exact q
theorem wq (h1:PS X st t):PSs X [st] t:=by
 intro pins s σ H D I h
 refine dv (thn (h1 pins s σ H D I h) λf s1 q=>?_)
 cases f with
 |next=>exact cJ q
 |ret v=>exact q
 |brk=>exact q
 |cont=>exact q
theorem Inv.quiet {pins:List (Aj×Obj)}{σ:St}{H:Hp}{s:Ab}(I:Inv X pins σ H s):interactive X.env=false:=by simp [interactive,I.ok.kind]
def tDrop (te:TE):TS:=λD σ H=>te σ H λ_ H1=>D.nx σ H1
theorem _root_.aU4 (h:True:=by rfl):True:=h
theorem zq (he:PE X e te)(hs:autoParam (swapsWith e none pos.line X.env=pure false) aU4._auto_1):PS X (.Expr e pos) (tDrop te):=by
 intro pins s σ H D I h
 exact wpAny_Expr_any (thn (he pins s σ H _ I h) λv s1 ⟨x,H1,I1,r1,q1⟩=>⟨σ,H1,I1,q1⟩) I.quiet hs
def tRet (te:TE):TS:=λD σ H=>te σ H D.rt
theorem wp (he:PE X e te):PS X (.Return (some e) pos) (tRet te):=by
 intro pins s σ H D I h
 exact wpAny_Return_some (thn (he pins s σ H _ I h) λv s1 ⟨x,H1,I1,r1,q1⟩=>⟨x,σ,H1,I1,r1,q1⟩)
def tIfS (c:TT)(t u:TS):TS:=λD σ H=>c σ H λb H1=>if b=true then t D σ H1 else u D σ H1
theorem xm {c:Expr}{a b:List Stmt}{tc:TT}(hc:PT X c tc)(ha:PSs X a t)(hb:PSs X b u):PS X (.If c a b pos) (tIfS tc t u):=by
 intro pins s σ H D I h
 refine wpAny_If (thn (hc pins s σ H _ I h) λd s1 ⟨H1,I1,q1⟩=>?_)
 cases d with
 |true=>exact ha pins s1 σ H1 D I1 q1
 |false=>exact hb pins s1 σ H1 D I1 q1
end
abbrev TG:=V→St→Hp→(St→Hp→Prop)→Prop
abbrev TGs:=List V→St→Hp→(St→Hp→Prop)→Prop
def PG (X:Cx)(target:Expr)(t:TG):Prop :=
 ∀(pins:List (Aj×Obj)) (s:Ab) (σ:St) (H:Hp) (v:V) (u:Ag) (Q:St→Hp→Prop),Inv X pins σ H s→RelV v u→t v σ H Q →
  wpAny (model X.prog X.w) X.A (assign target X.env u) (λ_ s'=>∃σ' H',Inv X pins σ' H' s'∧Q σ' H') X.xe s
def PGs (X:Cx)(ts:List Expr)(t:TGs):Prop :=
 ∀(pins:List (Aj×Obj)) (s:Ab) (σ:St) (H:Hp) (vs:List V) (us:List Ag) (Q:St→Hp→Prop),Inv X pins σ H s→Vals vs us→t vs σ H Q →
  wpAny (model X.prog X.w) X.A (assignInOrder ((assignEach ts X.env).map (·.2)) us) (λ_ s'=>∃σ' H',Inv X pins σ' H' s'∧Q σ' H') X.xe s
section
variable {X:Cx}{pos:Pos}
def qjs (i:Nat):TG:=λv σ H Q=>Q (σ.set i (some v)) H
theorem _root_.aU5 (h:True:=by walk_at "loc"):True:=h
theorem _root_.aU6 (h:True:=by exact FnScope.nd (by assumption)):True:=h
theorem wt {i:Nat}{x:Str}(hN:autoParam (X.N.Nodup) aU6._auto_1)(hi:autoParam (X.N[i]?=some x) aU4._auto_1)(hx:autoParam (Loc X.env.scope x) aU5._auto_1)(hf:autoParam (X.fn x=true∨X.env.scope.names.lookup x=some .local) aU0._auto_1):PG X (.Name x pos) (qjs i):=by
 intro pins s σ H v u Q I r h
 exact wpAny_assign_Name (j9 I hN hi hx r (λs' I'=>⟨_,H,I',h⟩) hf)
def gNil:TGs:=λvs σ H Q=>vs=[]∧Q σ H
def gCons (t:TG)(u:TGs):TGs:=λvs σ H Q=>∃v r,vs=v::r∧t v σ H λσ' H'=>u r σ' H' Q
theorem vw:PGs X [] gNil:=by
 intro pins s σ H vs us Q I r h
 obtain ⟨e,h⟩:=h
 subst e
 cases r
 exact assignInOrder_nil ⟨σ,H,I,h⟩
theorem xz {e:Expr}{es:List Expr}{t:TG}{u:TGs}(h1:PG X e t)(h2:PGs X es u)
  (hs:autoParam ((assignEach (e::es) X.env).map (·.2)=assign e X.env::(assignEach es X.env).map (·.2)) aU4._auto_1):PGs X (e::es) (gCons t u):=by
 intro pins s σ H vs us Q I r h
 obtain ⟨v,vr,e1,h⟩:=h
 subst e1
 cases r with
 |cons r rr =>
  rw [hs]
  refine cV (thn (h1 pins s σ H _ _ _ I r h) λ_ s1 ⟨σ1,H1,I1,q1⟩=>?_)
  exact h2 pins s1 σ1 H1 _ _ Q I1 rr q1
def gTup (K:Aa)(n:Nat)(t:TGs):TG:=λv σ H Q=>∃a xs,v=.ref a∧SqT K H a xs∧xs.length=n∧t xs σ H Q
theorem jw {es:List Expr}{k:Nat}{t:TGs}{n:Nat}(hc:X.calm=true)(h:PGs X es t)
  (hn:autoParam ((assignEach es X.env).length=n) aU4._auto_1) (hst:autoParam ((assignEach es X.env).findIdx? (·.1)=none) aU4._auto_1):PG X (.Tuple es k pos) (gTup X.K n t):=by
 intro pins s σ H v u Q I r hw
 obtain ⟨a,xs,e1,hq,hl,hw⟩:=hw
 subst e1
 cases r
 obtain ⟨its,rv,ht,hz⟩:=I.tuple hq
 refine assign_Tuple_tuple (I.ok.hd hc) ht (by simp [hn,←hl,rv.length]) hst λh' hx=>?_
 have I1:Inv X pins σ H { s with heap:=h' }:=I.kept (t':=s.toks) λb o e=>hx b o (au (af e)) e
 exact h pins _ σ H xs _ Q I1 (by simpa using rv) hw
def tAsg (te:TE)(g:TG):TS:=λD σ H=>te σ H λx H1=>g x σ H1 D.nx
theorem yq {tg e:Expr}{te:TE}{g:TG}(he:PE X e te)(hg:PG X tg g)(hs:autoParam (swapsWithSole [tg] e pos.line X.env=pure false) aU4._auto_1)(hw:autoParam (swappedStores [tg] e X.env=pure none) aU4._auto_1)
  (h1:autoParam ((assignEach [tg] X.env).map (·.2)=[assign tg X.env]) aU4._auto_1):PS X (.Assign [tg] e pos) (tAsg te g):=by
 intro pins s σ H D I h
 refine wpAny_Assign_stores (thn (he pins s σ H _ I h) λv s1 ⟨x,H1,I1,r1,q1⟩=>?_) hs hw
 rw [h1]
 exact thn (hg pins s1 σ H1 x v _ I1 r1 q1) λ_ s2 q=>q
theorem wf {i:Nat}{x:Str}{e:Expr}{te:TE}{pos':Pos}(he:PE X e te)(hN:autoParam (X.N.Nodup) aU6._auto_1)(hi:autoParam (X.N[i]?=some x) aU4._auto_1)(hx:autoParam (Loc X.env.scope x) aU5._auto_1)(hs:autoParam (swapsWith e (some (.Name x pos')) pos.line X.env=pure false) aU4._auto_1)(hf:autoParam (X.fn x=true∨X.env.scope.names.lookup x=some .local) aU0._auto_1) :
  PS X (.Assign [.Name x pos'] e pos) (tAsg te (qjs i)):=by
 intro pins s σ H D I h
 refine wpAny_Assign_Name (thn (he pins s σ H _ I h) λv s1 ⟨y,H1,I1,r1,q1⟩=>?_) hs
 exact j9 I1 hN hi hx r1 (λs2 I2=>⟨_,H1,I2,q1⟩) hf
def tPar (i j:Nat)(ta:TA):TS:=λD σ H=>ta σ H λvs H1=>∃v w,vs=[v,w]∧D.nx ((σ.set i (some v)).set j (some w)) H1
theorem qyf {i j:Nat}{x y:Str}{a b:Expr}{ta:TA}{px py pt:Pos}{kt k2 pt2}(hc:X.calm=true)(hN:X.N.Nodup)(hi:X.N[i]?=some x)(hj:X.N[j]?=some y)(hij:i≠j)
  (hx:X.env.scope.names.lookup x=some .local) (hy:X.env.scope.names.lookup y=some .local) (ha:PA X [a,b] ta)
  (hw:swappedStores [.Tuple [.Name x px,.Name y py] kt pt] (.Tuple [a,b] k2 pt2) X.env=pure (some [x,y]))
  (hs:autoParam (swapsWithSole [.Tuple [.Name x px,.Name y py] kt pt] (.Tuple [a,b] k2 pt2) pos.line X.env=pure false) aU4._auto_1) :
  PS X (.Assign [.Tuple [.Name x px,.Name y py] kt pt] (.Tuple [a,b] k2 pt2) pos) (tPar i j ta):=by
 intro pins s σ H D I h
 rw [exec_Assign_arm]
 refine ai (dm ?_)
 rw [hs]
 refine ai (az ?_)
 rw [ag ⋯]
 refine ai (Tuple_ (thn (ha _ pins s σ H _ I h) λus s1 ⟨vs,H1,I1,r1,q1⟩=>?_))
 obtain ⟨v,w,e1,q1⟩:=q1
 subst e1
 obtain ⟨u1,u2,rfl,rv,rw'⟩:∃u1 u2,us=[u1,u2]∧RelV v u1∧RelV w u2:=by
  cases r1 with
  |cons p q =>
   cases q with
   |cons p' q' =>
    cases q'
    exact ⟨_,_,rfl,p,p'⟩
 refine dh ?_ (by show 2≤sizeLine;decide)
 have I2:Inv X pins σ H1 { s1 with heap:=s1.heap.push { cls:=.type "tuple",data:=.seq [u1,u2].toArray } }:=I1.kept (t':=s1.toks) λb o e=>ac _ e
 rw [hw]
 refine ai (az ?_)
 show wpAny (model X.prog X.w) X.A (do rule "assign.swapped-stores";let items ←unpackItems (.ref s1.heap.objs.size) 2 none;assignInOrder [λv=>bindName X.env y v,λv=>bindName X.env x v] items.reverse;pure Flow.next) _ _ _
 refine ai (wpAny_rule (ai (unpackItems_tuple (items:=#[u1,u2]) (I.ok.hd hc) (IsTup.new s1.heap _) λh' hx'=>?_)))
 have I3:=I2.kept (h':=h') (t':=s1.toks) λb o e=>hx' b o (au (af e)) e
 show wpAny _ _ (assignInOrder [λv=>bindName X.env y v,λv=>bindName X.env x v] [u2,u1] >>= λ_=>pure Flow.next) _ _ _
 refine ai (cV (wpAny_bindName (j9 I3 hN hj (.inl hy) rw' (λs2 I4=>?_) (.inr hy))))
 refine cV (wpAny_bindName (j9 I4 hN hi (.inl hx) rv (λs3 I5=>assignInOrder_nil (az ?_)) (.inr hx)))
 rw [List.set_comm _ _ (aN hij)] at I5
 exact ⟨_,H1,I5,q1⟩
end
section
variable {X:Cx}{pos:Pos}
def qz3 (c:TT)(tb:TS):TS:=λD σ H=>∃W:Nat→St→Hp→Prop,(∃m,W m σ H)∧∀m σ H,W m σ H →
 c σ H λb H1=>if b=true then ∃N:St→Hp→Prop,(∀σ' H',N σ' H'→∃m',m'<m∧W m' σ' H')∧tb { D with nx:=N,ct:=N,bk:=D.nx } σ H1 else D.nx σ H1
theorem qwb {c:Expr}{body:List Stmt}{tc:TT}{tb:TS}(hp:PassesOwn (model X.prog X.w) X.A X.env X.xe)(hc:PT X c tc)(hb:PSs X body tb):PS X (.While c body [] pos) (qz3 tc tb):=by
 intro pins s σ H D I h
 obtain ⟨W,⟨m0,w0⟩,turn⟩:=h
 refine wpAny_While (codeAny_whileLoop (λn s'=>∃σ' H',Inv X pins σ' H' s'∧W n σ' H') ?_ m0 ⟨σ,H,I,w0⟩)
 rintro n s1 ⟨σ1,H1,I1,w1⟩
 refine bK hp (thn (hc pins s1 σ1 H1 _ I1 (turn n σ1 H1 w1)) λb s2 ⟨H2,I2,q2⟩=>?_)
 cases b with
 |true =>
  obtain ⟨N,hN,q2⟩:=q2
  rw [aj rfl]
  refine bK hp (thn (hb pins s2 σ1 H2 _ I2 q2) λf s3 q3=>?_)
  cases f with
  |next =>
   obtain ⟨σ3,H3,I3,n3⟩:=q3
   obtain ⟨m',hm,w3⟩:=hN σ3 H3 n3
   exact ⟨m',hm,σ3,H3,I3,w3⟩
  |cont =>
   obtain ⟨σ3,H3,I3,n3⟩:=q3
   obtain ⟨m',hm,w3⟩:=hN σ3 H3 n3
   exact ⟨m',hm,σ3,H3,I3,w3⟩
  |brk=>exact q3
  |ret v=>exact q3
 |false =>
  rw [ag aB]
  exact cJ ⟨σ1,H2,I2,q2⟩
end
structure It where
 go:Nat→Hp→Prop
 yld:Nat→Hp→V→Hp→Prop
 stop:Nat→Hp→Prop
def jd (X:Cx)(pins:List (Aj×Obj))(H:Hp)(b:Aj):Prop :=
 H b=none∧b≠X.env.locals∧b∉X.fs∧(b∈X.ex∨X.s₀.heap.objs.size≤b)∧(∀x c,X.env.cells.lookup x=some c→c≠b)∧∀p∈X.pn++pins,p.1≠b
theorem Inv.fpOk {X:Cx}{pins:List (Aj×Obj)}{σ:St}{H H':Hp}{s:Ab}{b:Aj}(I:Inv X pins σ H s)(hb:s.heap.objs.size≤b)(hn:H' b=none):jd X pins H' b:=by
 refine ⟨hn,dH (av I.lt hb),I.nofs hb,.inr (bd I.sz hb),λx c e z=>?_,λp hp z=>?_⟩
 ·obtain ⟨v,q⟩:=I.cell x c e
  exact absurd (av q.lt (by rw [z];exact hb)) (aZ _)
 ·exact absurd (av (af (I.pin p hp).1) (by rw [z];exact hb)) (aZ _)
structure Turn (P:Ac)(w:Ah)(K:Aa)(tg:Expr)(J:It)(fp:List Aj)(it:Aj)(tn:Nat→Heap→Prop):Prop where
 mem:it∈fp
 obj:∀i h,tn i h→∀b∈fp,∃o,h.get? b=some o∧∀v,o.data≠.cell v
 keep:∀i h h',tn i h→(∀b∈fp,∀o,h.get? b=some o→h'.get? b=some o)→tn i h'
 item:∀(X:Cx),X.prog=P→X.w=w→X.K=K→X.calm=true→∀(i:Nat) (pins:List (Aj×Obj)) (s:Ab) (σ:St) (H:Hp) (E:Ag→Ab→Prop),Inv X pins σ H s→(∀b∈fp,jd X pins H b)→tn i s.heap→J.go i H →
  wpAny (model P w) X.A (pyNext (.ref it)) (λr s1=>∃u,r=some u ∧
   wpAny (model P w) X.A (letOwnedTupleGo tg (.ref it) u) (λ_ s2=>∃x H',Inv X pins σ H' s2∧RelV x u∧J.yld i H x H'∧tn (i+1) s2.heap∧∀b∈fp,H' b=none) E s1) E s
 done:∀(X:Cx),X.prog=P→X.w=w→X.K=K→X.calm=true→∀(i:Nat) (pins:List (Aj×Obj)) (s:Ab) (σ:St) (H:Hp) (E:Ag→Ab→Prop),Inv X pins σ H s→(∀b∈fp,jd X pins H b)→tn i s.heap→J.stop i H →
  wpAny (model P w) X.A (pyNext (.ref it)) (λr s1=>r=none∧Inv X pins σ H s1) E s
 self:∀(A:Ae) (i:Nat) (s:Ab) (Q:Ag→Ab→Prop) (E:Ag→Ab→Prop),tn i s.heap→Q (.ref it) s→wpAny (model P w) A (pyIter (.ref it)) Q E s
abbrev TI:=St→Hp→(It→Hp→Prop)→Prop
def PIE (X:Cx)(pins:List (Aj×Obj))(σ:St)(tg:Expr)(R:It→Hp→Prop)(itv:Ag)(s2:Ab):Prop :=
 ∃(it:Aj) (fp:List Aj) (tn:Nat→Heap→Prop) (J:It) (H':Hp),itv=.ref it∧Inv X pins σ H' s2∧Turn X.prog X.w X.K tg J fp it tn∧tn 0 s2.heap∧(∀b∈fp,jd X pins H' b)∧R J H'
def PI (X:Cx)(tg iter:Expr)(wi:TI):Prop :=
 ∀(pins:List (Aj×Obj)) (s:Ab) (σ:St) (H:Hp) (R:It→Hp→Prop),Inv X pins σ H s→wi σ H R →
  wpAny (model X.prog X.w) X.A (eval iter X.env) (λv s1=>wpAny (model X.prog X.w) X.A (pyIter v) (PIE X pins σ tg R) X.xe s1) X.xe s
theorem qxd {M:Model}{A:Ae}{E:Ag→Ab→Prop}{s:Ab}{tg:Expr}{it:Aj}{u:Ag}{o:Obj}{n:String}{vs:Array Ag}{Q:Unit→Ab→Prop}(ho:s.heap.get? it=some o)(hc:o.cls=.type n)(hd:o.data=.fields vs)
  (hn:["enumerate","zip","dict_itemiterator","dict_reverseitemiterator","odict_iterator","itertools.zip_longest","itertools.pairwise"].contains n=false) (hQ:Q () s):wpAny M A (letOwnedTupleGo tg (.ref it) u) Q E s:=by
 unfold letOwnedTupleGo
 cases tg <;> first
  |exact az hQ
  |(cases u <;> first
    |exact az hQ
    |(refine ai (wpAny_load ho ?_)
      rw [hc,hd]
      show wpAny M A (if (["enumerate","zip","dict_itemiterator","dict_reverseitemiterator","odict_iterator","itertools.zip_longest","itertools.pairwise"].contains n&&vs[0]?==some (rawInt _))=true then _ else _) Q E s
      rw [ag (by intro h;rw [hn,Bool.false_and] at h;cases h)]
      exact az hQ))
def Itl (K:Aa)(a:Aj):It :=
 ⟨λi H=>∃xs x,SqL K H a xs∧xs[i]?=some x,λi H x H'=>H'=H∧∀xs,SqL K H a xs→xs[i]?=some x,λi H=>∃xs,SqL K H a xs∧xs.length≤i⟩
def Itr (lo:Int)(n:Nat):It:=⟨λi _=>i<n,λi H x H'=>H'=H∧x=.int (lo+i),λi _=>n≤i⟩
theorem qkp {P:Ac}{w:Ah}{K:Aa}{tg:Expr}(a it:Aj):Turn P w K tg (Itl K a) [it] it (λi h=>h.IsListIter it a i) where
 mem:=by simp
 obj:=λi h st b hb=>by
  have e:b=it:=by simpa using hb
  subst e
  obtain ⟨o,e,c,d⟩:=st
  exact ⟨o,e,λv z=>by rw [d] at z;cases z⟩
 keep:=λi h h' st k=>st.at λo e=>k it (by simp) o e
 item:=by
  intro X hP hw hK hc i pins s σ H E I hf st hg
  subst hP hw hK
  obtain ⟨xs,x,hq,hx⟩:=hg
  obtain ⟨its,rv,p,hz⟩:=I.list hq
  obtain ⟨u,hu,ru⟩:=rv.get hx
  obtain ⟨f0,f1,f2,f3,f4,f5⟩:=hf it (by simp)
  refine wpAny_pyNext_list_item st p.isList (x:=u) (by simpa using hu) λh' st' sb=>?_
  have I1:Inv X pins σ H { s with heap:=h' }:=I.turned (t':=s.toks) (λb o hb e=>(sb.2 b hb).trans e) f0 f1 f3 f4 f5
  obtain ⟨o,e,c,d⟩:=id st'
  exact ⟨u,rfl,qxd (s:={ s with heap:=h' }) e c d ⋯ ⟨x,H,I1,ru,⟨rfl,λys hy=>by rw [I.list_inj hy hq];exact hx⟩,st',λb hb=>(hf b hb).1⟩⟩
 done:=by
  intro X hP hw hK hc i pins s σ H E I hf st hg
  subst hP hw hK
  obtain ⟨xs,hq,hx⟩:=hg
  obtain ⟨its,rv,p,hz⟩:=I.list hq
  obtain ⟨f0,f1,f2,f3,f4,f5⟩:=hf it (by simp)
  have hl:=rv.length
  exact wpAny_pyNext_list_end (I.ok.hd hc) st p.isList (by simp;lia) λh' eb=>⟨rfl,I.turned (t':=s.toks) (λb o hb e=>eb b o hb e) f0 f1 f3 f4 f5⟩
 self:=λ_ _ _ _ _ st h=>wpAny_pyIter_listiter st h
theorem qzs {P:Ac}{w:Ah}{K:Aa}{tg:Expr}(it:Aj)(lo:Int)(n:Nat):Turn P w K tg (Itr lo n) [it] it (λi h=>IsRangeIter h it (lo+(i:Nat)*1) ((n:Int)-(i:Nat)) 1) where
 mem:=by simp
 obj:=λi h st b hb=>by
  have e:b=it:=by simpa using hb
  subst e
  exact ⟨_,st,λv z=>by
   have z':Data.fields _=Data.cell v:=z
   cases z'⟩
 keep:=λi h h' st k=>k it (by simp) _ st
 item:=by
  intro X hP hw hK hc i pins s σ H E I hf st hg
  subst hP hw hK
  obtain ⟨f0,f1,f2,f3,f4,f5⟩:=hf it (by simp)
  have W:=Walks.range (prog:=X.prog) (w:=X.w) (I.ok.hd hc) it lo 1 n
  refine W.item i s _ _ hg st λv h' tk hv st' kk=>?_
  obtain ⟨t,rfl⟩:=hv
  have I1:Inv X pins σ H { s with heap:=h',toks:=tk }:=I.turned (λb o hb e=>kk b o (by simpa using hb) e) f0 f1 f3 f4 f5
  refine ⟨_,rfl,qxd (s:={ s with heap:=h',toks:=tk }) (n := "range_iterator") st' rfl rfl ⋯ ⟨.int (lo+i),H,I1,⟨t,?_⟩,⟨rfl,rfl⟩,st',λb hb=>(hf b hb).1⟩⟩
  rw [Int.mul_one]
 done:=by
  intro X hP hw hK hc i pins s σ H E I hf st hg
  subst hP hw hK
  obtain ⟨f0,f1,f2,f3,f4,f5⟩:=hf it (by simp)
  exact wpAny_pyNext_range_end (I.ok.hd hc) st (by have:n≤i:=hg;lia) λh' eb=>⟨rfl,I.turned (t':=s.toks) (λb o hb e=>eb b o hb e) f0 f1 f3 f4 f5⟩
 self:=λ_ _ _ _ _ st h=>wpAny_pyIter_rangeiter st h
section
variable {X:Cx}{tg:Expr}
def iList (K:Aa)(tl:TE):TI:=λσ H R=>tl σ H λx H1=>∃a,x=.ref a∧(∃xs,SqL K H1 a xs)∧R (Itl K a) H1
theorem jp {l:Expr}{tl:TE}(hl:PE X l tl):PI X tg l (iList X.K tl):=by
 intro pins s σ H R I h
 refine thn (hl pins s σ H _ I h) λv s1 ⟨x,H1,I1,r1,q1⟩=>?_
 obtain ⟨a,e,⟨xs,hq⟩,q⟩:=q1
 subst e
 cases r1
 obtain ⟨its,rv,p,hz⟩:=I1.list hq
 refine wpAny_pyIter_list p.isList ?_
 refine ⟨s1.heap.objs.size,[s1.heap.objs.size],_,_,H1,rfl,I1.kept (t':=s1.toks) λb o e=>ac _ e,qkp a _,⟨_,aq _ rfl,rfl,rfl⟩,λb hb=>?_,q⟩
 have e:b=s1.heap.objs.size:=by simpa using hb
 subst e
 exact I1.fpOk (ae _) (I1.hok.fresh (ae _))
theorem qjq {pins:List (Aj×Obj)}{σ:St}{H:Hp}{s:Ab}{R:It→Hp→Prop}{E:Ag→Ab→Prop}{lo hi:Int}{t u v:Tok}{tk:Nat}(I:Inv X pins σ H s)(h1:-(2 ^ 62)≤lo)(h2:lo<2 ^ 62)(h3:-(2 ^ 62)≤hi)(h4:hi<2 ^ 62)
  (q:R (Itr lo (hi-lo).toNat) H):wpAny (model X.prog X.w) X.A (pyIter (.ref s.heap.objs.size)) (PIE X pins σ tg R) E { s with heap:=s.heap.push { cls:=.type "range",data:=.fields #[.int lo t,.int hi u,.int 1 v] },toks:=tk }:=by
 refine wpAny_pyIter_range (IsRange.new ..) (small_one h1 h2 h3 h4) ?_
 have I1:Inv X pins σ H { s with heap:=s.heap.push { cls:=.type "range",data:=.fields #[.int lo t,.int hi u,.int 1 v] },toks:=tk }:=I.kept λb o e=>ac _ e
 refine ⟨(s.heap.push { cls:=.type "range",data:=.fields #[.int lo t,.int hi u,.int 1 v] }).objs.size,[(s.heap.push { cls:=.type "range",data:=.fields #[.int lo t,.int hi u,.int 1 v] }).objs.size],_,_,H,rfl,
  I1.kept (t':=tk) λb o e=>ac _ e,qzs _ lo (hi-lo).toNat,?_,λb hb=>?_,q⟩
 ·have e1:lo+((0:Nat):Int)*1=lo:=by simp
  have e2:(((hi-lo).toNat:Nat):Int)-((0:Nat):Int)=Builtin.Range.rangeSize lo hi 1:=by rw [rangeSize_one];split <;> lia
  show IsRangeIter _ _ (lo+((0:Nat):Int)*1) ((((hi-lo).toNat:Nat):Int)-((0:Nat):Int)) 1
  rw [e1,e2]
  exact aq _ rfl
 ·have e:b=(s.heap.push { cls:=.type "range",data:=.fields #[.int lo t,.int hi u,.int 1 v] }).objs.size:=by simpa using hb
  subst e
  exact I1.fpOk (ae _) (I1.hok.fresh (ae _))
def iRng1 (ta:TA):TI:=λσ H R=>ta σ H λvs H1=>∃j:Int,vs=[.int j]∧-(2 ^ 62)≤j∧j<2 ^ 62∧R (Itr 0 j.toNat) H1
theorem zw {a:Expr}{ta:TA}{p pos:Pos}(hg:Gl X "range")(hm:X.mg "range" = none)(ha:PA X [a] ta)(hs:autoParam (starEach [a] X.env=[(false,eval a X.env)]) aU4._auto_1):PI X tg (.Call (.Name "range" p) [a] [] pos) (iRng1 ta):=by
 intro pins s σ H R I h
 refine Call_ (qqp I hg hm boot_range (cR (thn (ha pos pins s σ H _ I h) λus s1 ⟨vs,H1,I1,r1,q1⟩=>?_) hs rfl))
 obtain ⟨j,e,q1,q2,q⟩:=q1
 subst e
 cases r1 with
 |cons r rr =>
  cases rr
  obtain ⟨t,rfl⟩:=r
  exact call_range_1 (qjq I1 ⋯ ⋯ q1 q2 (by simpa using q))
def tFor (wi:TI)(g:TG)(tb:TS):TS:=λD σ H=>wi σ H λJ H1=>∃W:Nat→Nat→St→Hp→Prop,(∃m,W 0 m σ H1)∧∀i m σ H,W i m σ H →
 (J.stop i H∧D.nx σ H)∨(J.go i H∧∃N:St→Hp→Prop,(∀σ' H',N σ' H'→∃m',m'<m∧W (i+1) m' σ' H')∧∀x H',J.yld i H x H'→g x σ H' λσ2 H2=>tb { D with nx:=N,ct:=N,bk:=D.nx } σ2 H2)
def qq1 (fp:List Aj)(h:Heap):List (Aj×Obj):=fp.filterMap λb=>(h.get? b).map λo=>(b,o)
theorem jc {fp:List Aj}{h:Heap}{b:Aj}{o:Obj}(hb:b∈fp)(e:h.get? b=some o):(b,o)∈qq1 fp h:=cW.mpr ⟨b,hb,by rw [e];rfl⟩
theorem qkx {fp:List Aj}{h:Heap}{p:Aj×Obj}(hp:p∈qq1 fp h):p.1∈fp∧h.get? p.1=some p.2:=by
 obtain ⟨b,hb,e⟩:=cW.mp hp
 cases q:h.get? b with
 |none=>rw [q] at e;cases e
 |some o =>
  rw [q] at e
  have e':(b,o)=p:=ap e
  subst e'
  exact ⟨hb,q⟩
theorem Inv.pinned {pins:List (Aj×Obj)}{σ:St}{H:Hp}{s:Ab}{fp:List Aj}(I:Inv X pins σ H s)(hf:∀b∈fp,jd X pins H b)(ho:∀b∈fp,∃o,s.heap.get? b=some o∧∀v,o.data≠.cell v):Inv X (pins++qq1 fp s.heap) σ H s :=
 I.pins_of λp hp=>(bq.mp hp).elim (λz=>I.pin p (aF _ z)) λz=>by
  obtain ⟨hb,e⟩:=qkx z
  obtain ⟨f0,f1,f2,_⟩:=hf p.1 hb
  obtain ⟨o,e',d⟩:=ho p.1 hb
  rw [e] at e';cases e'
  exact ⟨e,f0,f1,f2,d⟩
theorem Inv.unpinned {pins pl:List (Aj×Obj)}{σ:St}{H:Hp}{s:Ab}(I:Inv X (pins++pl) σ H s):Inv X pins σ H s:=I.pins_of λp hp=>I.pin p (aF _ (bM _ hp))
theorem k4 {iter:Expr}{body:List Stmt}{wi:TI}{g:TG}{tb:TS}{pos:Pos}(hp:PassesOwn (model X.prog X.w) X.A X.env X.xe)(hc:X.calm=true)(hi:PI X tg iter wi)(hg:PG X tg g)(hb:PSs X body tb)
  (hs:autoParam (∀x,foldedSetIterable iter X.env x=pure x) aU3._auto_1):PS X (.For tg iter body [] pos) (tFor wi g tb):=by
 intro pins s σ H D I h
 refine wpAny_For (thn (hi pins s σ H _ I h) λv s1 h1=>thn h1 λitv s2 h2=>?_) hs
 obtain ⟨it,fp,tn,J,H2,e,I2,T,st2,f2,W,⟨m0,w0⟩,turn⟩:=h2
 subst e
 have stat:∀ {H':Hp},(∀b∈fp,H' b=none)→∀b∈fp,jd X pins H' b:=λhn b hb=>⟨hn b hb,(f2 b hb).2⟩
 refine codeAny_forLoop_any (λn s'=>∃i σ' H',Inv X pins σ' H' s'∧tn i s'.heap∧(∀b∈fp,H' b=none)∧W i n σ' H') ?_ m0 ⟨0,σ,H2,I2,st2,λb hb=>(f2 b hb).1,w0⟩
 rintro n s3 ⟨i,σ3,H3,I3,st3,fr3,w3⟩
 rcases turn i n σ3 H3 w3 with ⟨stop,qn⟩|⟨go,N,hN,step⟩
 ·refine bK hp (thn (T.done X rfl rfl rfl hc i pins s3 σ3 H3 X.xe I3 (stat fr3) st3 stop) λr s4 ⟨hr,I4⟩=>?_)
  subst hr
  exact cJ ⟨σ3,H3,I4,qn⟩
 ·refine bK hp (thn (T.item X rfl rfl rfl hc i pins s3 σ3 H3 X.xe I3 (stat fr3) st3 go) λr s4 ⟨u,hr,h4⟩=>?_)
  subst hr
  refine bK hp (thn h4 λ_ s5 ⟨x,H5,I5,r5,y5,st5,fr5⟩=>?_)
  have I5':=I5.pinned (stat fr5) (T.obj _ _ st5)
  refine bK hp (thn (hg _ s5 σ3 H5 x u _ I5' r5 (step x H5 y5)) λ_ s6 ⟨σ6,H6,I6,q6⟩=>?_)
  refine bK hp (thn (hb _ s6 σ6 H6 _ I6 q6) λf s7 q7=>?_)
  have again:∀ {σ7:St} {H7:Hp},Inv X (pins++qq1 fp s5.heap) σ7 H7 s7→N σ7 H7→∃m,m<n∧∃i σ' H',Inv X pins σ' H' s7∧tn i s7.heap∧(∀b∈fp,H' b=none)∧W i m σ' H':=λ{σ7 H7} I7 n7=>by
   obtain ⟨m',hm,w7⟩:=hN σ7 H7 n7
   refine ⟨m',hm,i+1,σ7,H7,I7.unpinned,T.keep _ _ _ st5 λb hb o e=>(I7.pin (b,o) (aF _ (aF _ (jc hb e)))).1,λb hb=>?_,w7⟩
   obtain ⟨o,e,d⟩:=T.obj _ _ st5 b hb
   exact (I7.pin (b,o) (aF _ (aF _ (jc hb e)))).2.1
  cases f with
  |next=>obtain ⟨σ7,H7,I7,n7⟩:=q7;exact again I7 n7
  |cont=>obtain ⟨σ7,H7,I7,n7⟩:=q7;exact again I7 n7
  |brk=>obtain ⟨σ7,H7,I7,q7⟩:=q7;exact ⟨σ7,H7,I7.unpinned,q7⟩
  |ret v=>obtain ⟨x7,σ7,H7,I7,r7,q7⟩:=q7;exact ⟨x7,σ7,H7,I7.unpinned,r7,q7⟩
end
theorem Zj {K:Aa}{a:Aj}{xs:List V}{g:TG}{tb:TS}{D:Ends}{σ:St}{H:Hp}(Pv:Nat→St→Hp→Prop)(h0:Pv 0 σ H)(hl:∀i σ H,i≤xs.length→Pv i σ H→SqL K H a xs)
  (hs:∀i x σ H,xs[i]?=some x→Pv i σ H→g x σ H λσ2 H2=>tb { D with nx:=Pv (i+1),ct:=Pv (i+1),bk:=D.nx } σ2 H2) (hd:∀σ H,Pv xs.length σ H→D.nx σ H) :
  ∃W:Nat→Nat→St→Hp→Prop,(∃m,W 0 m σ H)∧∀i m σ H,W i m σ H →
   ((Itl K a).stop i H∧D.nx σ H)∨((Itl K a).go i H∧∃N:St→Hp→Prop,(∀σ' H',N σ' H'→∃m',m'<m∧W (i+1) m' σ' H')∧∀x H',(Itl K a).yld i H x H'→g x σ H' λσ2 H2=>tb { D with nx:=N,ct:=N,bk:=D.nx } σ2 H2):=by
 refine ⟨λi m σ H=>m=xs.length-i∧i≤xs.length∧Pv i σ H,⟨xs.length,by simp,aC _,h0⟩,?_⟩
 rintro i m σ H ⟨rfl,hi,p⟩
 have q:=hl i σ H hi p
 by_cases hlt:i<xs.length
 ·refine .inr ⟨⟨xs,xs[i],q,by simp [hlt]⟩,Pv (i+1),λσ' H' p'=>⟨xs.length-(i+1),⋯,rfl,hlt,p'⟩,λx H' y=>?_⟩
  obtain ⟨e,y⟩:=y
  subst e
  exact hs i x σ _ (y xs q) p
 ·have e:i=xs.length:=by lia
  subst e
  exact .inl ⟨⟨xs,q,ae _⟩,hd σ H p⟩
theorem vh {lo:Int}{n:Nat}{g:TG}{tb:TS}{D:Ends}{σ:St}{H:Hp}(Pv:Nat→St→Hp→Prop)(h0:Pv 0 σ H)
  (hs:∀i σ H,i<n→Pv i σ H→g (.int (lo+i)) σ H λσ2 H2=>tb { D with nx:=Pv (i+1),ct:=Pv (i+1),bk:=D.nx } σ2 H2) (hd:∀σ H,Pv n σ H→D.nx σ H) :
  ∃W:Nat→Nat→St→Hp→Prop,(∃m,W 0 m σ H)∧∀i m σ H,W i m σ H →
   ((Itr lo n).stop i H∧D.nx σ H)∨((Itr lo n).go i H∧∃N:St→Hp→Prop,(∀σ' H',N σ' H'→∃m',m'<m∧W (i+1) m' σ' H')∧∀x H',(Itr lo n).yld i H x H'→g x σ H' λσ2 H2=>tb { D with nx:=N,ct:=N,bk:=D.nx } σ2 H2):=by
 refine ⟨λi m σ H=>m=n-i∧i≤n∧Pv i σ H,⟨n,by simp,aC _,h0⟩,?_⟩
 rintro i m σ H ⟨rfl,hi,p⟩
 by_cases hlt:i<n
 ·refine .inr ⟨hlt,Pv (i+1),λσ' H' p'=>⟨n-(i+1),⋯,rfl,hlt,p'⟩,λx H' y=>?_⟩
  obtain ⟨e,y⟩:=y
  subst e y
  exact hs i σ _ hlt p
 ·have e:i=n:=by lia
  subst e
  exact .inl ⟨ae _,hd σ H p⟩
theorem quf {c:TT}{tb:TS}{D:Ends}{σ:St}{H:Hp}(Pv:St→Hp→Prop)(μ:St→Hp→Nat)(h0:Pv σ H)
  (hs:∀σ H,Pv σ H→c σ H λb H1=>if b=true then tb { D with nx:=λσ' H'=>Pv σ' H'∧μ σ' H'<μ σ H,ct:=λσ' H'=>Pv σ' H'∧μ σ' H'<μ σ H,bk:=D.nx } σ H1 else D.nx σ H1)
  (mono:∀σ H Q Q',(∀b H1,Q b H1→Q' b H1)→c σ H Q→c σ H Q'):qz3 c tb D σ H:=by
 refine ⟨λm σ H=>m=μ σ H∧Pv σ H,⟨_,rfl,h0⟩,?_⟩
 rintro m σ H ⟨rfl,p⟩
 refine mono σ H _ _ (λb H1 q=>?_) (hs σ H p)
 cases b with
 |true=>exact ⟨_,λσ' H' ⟨p',l⟩=>⟨_,l,rfl,p'⟩,q⟩
 |false=>exact q
abbrev R2:=V→V→Hp→VK→Prop
def OpR (X:Cx)(f:Ag→Ag→Sem Ag)(r:R2):Prop :=
 ∀(pins:List (Aj×Obj)) (s:Ab) (σ:St) (H:Hp) (x y:V) (v u:Ag) (Q:VK),Inv X pins σ H s→RelV x v→RelV y u→r x y H Q →
  wpAny (model X.prog X.w) X.A (f v u) (EP X pins σ Q) X.xe s
def UnR (X:Cx)(f:Ag→Sem Ag)(r:V→Hp→VK→Prop):Prop :=
 ∀(pins:List (Aj×Obj)) (s:Ab) (σ:St) (H:Hp) (x:V) (v:Ag) (Q:VK),Inv X pins σ H s→RelV x v→r x H Q →
  wpAny (model X.prog X.w) X.A (f v) (EP X pins σ Q) X.xe s
def z7 (X:Cx)(f:Ag)(r:List V→Hp→VK→Prop):Prop :=
 ∀(pins:List (Aj×Obj)) (s:Ab) (σ:St) (H:Hp) (xs:List V) (us:List Ag) (Q:VK),Inv X pins σ H s→Vals xs us→r xs H Q →
  wpAny (model X.prog X.w) X.A (call f us) (EP X pins σ Q) X.xe s
def tOp (r:R2)(ta tb:TE):TE:=λσ H Q=>ta σ H λx H1=>tb σ H1 λy H2=>r x y H2 Q
def tUn (r:V→Hp→VK→Prop)(ta:TE):TE:=λσ H Q=>ta σ H λx H1=>r x H1 Q
def rI (C:Int→Int→Prop)(g:Int→Int→V):R2:=λx y H Q=>∃i j,x=.int i∧y=.int j∧C i j∧Q (g i j) H
def rI0 (g:Int→Int→V):R2:=λx y H Q=>∃i j,x=.int i∧y=.int j∧Q (g i j) H
def rU (g:Int→V):V→Hp→VK→Prop:=λx H Q=>∃i,x=.int i∧Q (g i) H
section
variable {X:Cx}{a b c:Expr}{ta tb tc:TE}{pos:Pos}
theorem binT (ha:PE X a ta)(hb:PE X b tb){pins:List (Aj×Obj)}{s:Ab}{σ:St}{H:Hp}{R:V→V→Hp→Prop}(I:Inv X pins σ H s)
  (h:ta σ H λx H1=>tb σ H1 λy H2=>R x y H2) {Q:Ag→Ab→Prop} {f:Ag→Ag→Sem Ag}
  (hf:∀v u s2 x y H2,Inv X pins σ H2 s2→RelV x v→RelV y u→R x y H2→wpAny (model X.prog X.w) X.A (f v u) Q X.xe s2) :
  wpAny (model X.prog X.w) X.A (eval a X.env) (λv s₁=>wpAny (model X.prog X.w) X.A (eval b X.env) (λu s₂=>wpAny (model X.prog X.w) X.A (f v u) Q X.xe s₂) X.xe s₁) X.xe s:=by
 refine thn (ha pins s σ H _ I h) λv s1 ⟨x,H1,I1,r1,q1⟩=>?_
 refine thn (hb pins s1 σ H1 _ I1 q1) λu s2 ⟨y,H2,I2,r2,q2⟩=>?_
 exact hf v u s2 x y H2 I2 r1 r2 q2
theorem wy {op:Operator}{r:R2}(ho:OpR X (binaryOp op) r)(ha:PE X a ta)(hb:PE X b tb):PE X (.BinOp a op b pos) (tOp r ta tb):=by
 intro pins s σ H Q I h
 exact wpAny_BinOp (binT ha hb I h λv u s2 x y H2 I2 rx ry q=>ho pins s2 σ H2 x y v u Q I2 rx ry q)
theorem pe_un {op:UnaryOp}{r:V→Hp→VK→Prop}(ho:UnR X (unaryOp op) r)(ha:PE X a ta):PE X (.UnaryOp op a pos) (tUn r ta):=by
 intro pins s σ H Q I h
 exact UnaryOp_ (thn (ha pins s σ H _ I h) λv s1 ⟨x,H1,I1,r1,q1⟩=>ho pins s1 σ H1 x v Q I1 r1 q1)
theorem opI {f:Ag→Ag→Sem Ag}{C:Int→Int→Prop}{g:Int→Int→Int}
  (rule:∀(i j:Int) (t u:Tok) (s:Ab) (Q:Ag→Ab→Prop) (E:Ag→Ab→Prop),C i j→Q (.int (g i j) s.toks) { s with toks:=s.toks+1 }→wpAny (model X.prog X.w) X.A (f (.int i t) (.int j u)) Q E s) :
  OpR X f (rI C λi j=>.int (g i j)):=by
 intro pins s σ H x y v u Q I rx ry h
 obtain ⟨i,j,rfl,rfl,hc,q⟩:=h
 obtain ⟨t,rfl⟩:=rx
 obtain ⟨t',rfl⟩:=ry
 exact rule i j t t' s _ _ hc ⟨.int (g i j),H,I.tok _,⟨_,rfl⟩,q⟩
theorem opI0 {f:Ag→Ag→Sem Ag}{g:Int→Int→Int}
  (rule:∀(i j:Int) (t u:Tok) (s:Ab) (Q:Ag→Ab→Prop) (E:Ag→Ab→Prop),Q (.int (g i j) s.toks) { s with toks:=s.toks+1 }→wpAny (model X.prog X.w) X.A (f (.int i t) (.int j u)) Q E s) :
  OpR X f (rI0 λi j=>.int (g i j)):=by
 intro pins s σ H x y v u Q I rx ry h
 obtain ⟨i,j,rfl,rfl,q⟩:=h
 obtain ⟨t,rfl⟩:=rx
 obtain ⟨t',rfl⟩:=ry
 exact rule i j t t' s _ _ ⟨.int (g i j),H,I.tok _,⟨_,rfl⟩,q⟩
theorem opB0 {f:Ag→Ag→Sem Ag}{g:Int→Int→Bool}
  (rule:∀(i j:Int) (t u:Tok) (s:Ab) (Q:Ag→Ab→Prop) (E:Ag→Ab→Prop),Q (.bool (g i j)) s→wpAny (model X.prog X.w) X.A (f (.int i t) (.int j u)) Q E s) :
  OpR X f (rI0 λi j=>.bl (g i j)):=by
 intro pins s σ H x y v u Q I rx ry h
 obtain ⟨i,j,rfl,rfl,q⟩:=h
 obtain ⟨t,rfl⟩:=rx
 obtain ⟨t',rfl⟩:=ry
 exact rule i j t t' s _ _ ⟨.bl (g i j),H,I,rfl,q⟩
def CPow (i j:Int):Prop:=0≤j∧j≤1000000∧i.natAbs<2 ^ 64
theorem wn:OpR X (binaryOp .Add) (rI0 λi j=>.int (i+j)):=opI0 λ_ _ _ _ _ _ _ q=>add_int q
theorem Qr:OpR X (binaryOp .Sub) (rI0 λi j=>.int (i-j)):=opI0 λ_ _ _ _ _ _ _ q=>sub_int q
theorem zm:OpR X (binaryOp .Mod) (rI (λ_ j=>0<j) λi j=>.int (i%j)):=opI λi j _ _ _ _ _ hc q=>by
 have h1:(0:Int)<j:=hc
 exact mod_int' ⋯ (by rw [Int.fmod_eq_emod_of_nonneg i ⋯];exact q)
theorem op_pow:OpR X (binaryOp .Pow) (rI CPow λi j=>.int (i ^ j.toNat)):=opI λ_ _ _ _ _ _ _ hc q=>pow_int_small hc.1 hc.2.1 hc.2.2 q
theorem unI {f:Ag→Sem Ag}{g:Int→Int}
  (rule:∀(i:Int) (t:Tok) (s:Ab) (Q:Ag→Ab→Prop) (E:Ag→Ab→Prop),Q (.int (g i) s.toks) { s with toks:=s.toks+1 }→wpAny (model X.prog X.w) X.A (f (.int i t)) Q E s) :
  UnR X f (rU λi=>.int (g i)):=by
 intro pins s σ H x v Q I rx h
 obtain ⟨i,rfl,q⟩:=h
 obtain ⟨t,rfl⟩:=rx
 exact rule i t s _ _ ⟨.int (g i),H,I.tok _,⟨_,rfl⟩,q⟩
theorem qj6:UnR X (unaryOp .USub) (rU λi=>.int (-i)):=unI λ_ _ _ _ _ q=>neg_int q
end
def scal:V→V→Bool
 |.non,.non=>true|.non,.int _=>true|.int _,.non=>true|.non,.bl _=>true|.bl _,.non=>true|.non,.str _=>true|.str _,.non=>true
 |.int _,.int _=>true|.bl _,.bl _=>true|.str _,.str _=>true|.byt _,.byt _=>true
 |.int _,.str _=>true|.str _,.int _=>true|.bl _,.str _=>true|.str _,.bl _=>true
 |_,_=>false
def rEq:R2:=λx y H Q=>scal x y=true∧Q (.bl (decide (x=y))) H
def rNe:R2:=λx y H Q=>scal x y=true∧Q (.bl (!decide (x=y))) H
theorem qvc {i j:Int}:decide (V.int i=V.int j)=(i==j):=by
 rw [bX]
 simp
theorem qjz {i j:Bool}:decide (V.bl i=V.bl j)=(i==j):=by
 rw [bX]
 simp
theorem qvr {i j:Str}:decide (V.str i=V.str j)=(i==j):=by
 rw [bX]
 simp
theorem qvk {i j:Array UInt8}:decide (V.byt i=V.byt j)=(i.toList==j.toList):=by
 rw [bX]
 cases i
 cases j
 simp
section
variable {X:Cx}{a b c:Expr}{ta tb tc:TE}{pos:Pos}
theorem xk {pins:List (Aj×Obj)}{σ:St}{H:Hp}{s:Ab}{Q:VK}{k k':Bool}(I:Inv X pins σ H s)(q:Q (.bl k) H)(e:k=k'):EP X pins σ Q (.bool k') s:=by
 subst e
 exact ⟨.bl k,H,I,rfl,q⟩
theorem vb:OpR X (compareOp .Eq) rEq:=by
 intro pins s σ H x y v u Q I rx ry h
 obtain ⟨hs,q⟩:=h
 cases x with
 |non =>
  cases rx
  cases y with
  |non=>cases ry;exact PySem.EqNone.eq_none_none (xk I q (by simp))
  |bl j=>cases ry;exact PySem.EqNone.eq_none_bool (xk I q (by simp))
  |int j=>obtain ⟨t',rfl⟩:=ry;exact PySem.EqNone.eq_none_int (xk I q (by simp))
  |str j=>obtain ⟨t',rfl⟩:=ry;exact PySem.EqNone.eq_none_str (xk I q (by simp))
  |_=>exact absurd (show false=true from hs) aB
 |bl i =>
  cases rx
  cases y with
  |non=>cases ry;exact PySem.EqNone.eq_bool_none (xk I q (by simp))
  |bl j=>cases ry;exact eq_bool (xk I q qjz)
  |str j=>obtain ⟨t',rfl⟩:=ry;exact PySem.EqMixed.eq_bool_str (xk I q (by simp))
  |_=>exact absurd (show false=true from hs) aB
 |int i =>
  obtain ⟨t,rfl⟩:=rx
  cases y with
  |non=>cases ry;exact PySem.EqNone.eq_int_none (xk I q (by simp))
  |int j=>obtain ⟨t',rfl⟩:=ry;exact eq_int (xk I q qvc)
  |str j=>obtain ⟨t',rfl⟩:=ry;exact PySem.EqMixed.eq_int_str (xk I q (by simp))
  |_=>exact absurd (show false=true from hs) aB
 |str i =>
  obtain ⟨t,rfl⟩:=rx
  cases y with
  |non=>cases ry;exact PySem.EqNone.eq_str_none (xk I q (by simp))
  |bl j=>cases ry;exact PySem.EqMixed.eq_str_bool (xk I q (by simp))
  |int j=>obtain ⟨t',rfl⟩:=ry;exact PySem.EqMixed.eq_str_int (xk I q (by simp))
  |str j=>obtain ⟨t',rfl⟩:=ry;exact eq_str (xk I q qvr)
  |_=>exact absurd (show false=true from hs) aB
 |byt i =>
  obtain ⟨t,rfl⟩:=rx
  cases y with
  |byt j=>obtain ⟨t',rfl⟩:=ry;exact W.eq_bytes (xk I q qvk)
  |_=>exact absurd (show false=true from hs) aB
 |_=>cases y <;> exact absurd (show false=true from hs) aB
theorem op_ne:OpR X (compareOp .NotEq) rNe:=by
 intro pins s σ H x y v u Q I rx ry h
 obtain ⟨hs,q⟩:=h
 cases x with
 |non =>
  cases rx
  cases y with
  |non=>cases ry;exact PySem.EqNone.ne_none_none (xk I q (by simp))
  |bl j=>cases ry;exact PySem.EqNone.ne_none_bool (xk I q (by simp))
  |int j=>obtain ⟨t',rfl⟩:=ry;exact PySem.EqNone.ne_none_int (xk I q (by simp))
  |str j=>obtain ⟨t',rfl⟩:=ry;exact PySem.EqNone.ne_none_str (xk I q (by simp))
  |_=>exact absurd (show false=true from hs) aB
 |bl i =>
  cases rx
  cases y with
  |non=>cases ry;exact PySem.EqNone.ne_bool_none (xk I q (by simp))
  |bl j=>cases ry;exact ne_bool (xk I q (bF not qjz))
  |str j=>obtain ⟨t',rfl⟩:=ry;exact PySem.EqMixed.ne_bool_str (xk I q (by simp))
  |_=>exact absurd (show false=true from hs) aB
 |int i =>
  obtain ⟨t,rfl⟩:=rx
  cases y with
  |non=>cases ry;exact PySem.EqNone.ne_int_none (xk I q (by simp))
  |int j=>obtain ⟨t',rfl⟩:=ry;exact ne_int (xk I q (bF not qvc))
  |str j=>obtain ⟨t',rfl⟩:=ry;exact PySem.EqMixed.ne_int_str (xk I q (by simp))
  |_=>exact absurd (show false=true from hs) aB
 |str i =>
  obtain ⟨t,rfl⟩:=rx
  cases y with
  |non=>cases ry;exact PySem.EqNone.ne_str_none (xk I q (by simp))
  |bl j=>cases ry;exact PySem.EqMixed.ne_str_bool (xk I q (by simp))
  |int j=>obtain ⟨t',rfl⟩:=ry;exact PySem.EqMixed.ne_str_int (xk I q (by simp))
  |str j=>obtain ⟨t',rfl⟩:=ry;exact ne_str (xk I q (bF not qvr))
  |_=>exact absurd (show false=true from hs) aB
 |byt i =>
  obtain ⟨t,rfl⟩:=rx
  cases y with
  |byt j=>obtain ⟨t',rfl⟩:=ry;exact W.ne_bytes (xk I q (bF not qvk))
  |_=>exact absurd (show false=true from hs) aB
 |_=>cases y <;> exact absurd (show false=true from hs) aB
theorem Q3:OpR X (compareOp .Lt) (rI0 λi j=>.bl (decide (i<j))):=opB0 λ_ _ _ _ _ _ _ q=>lt_int q
theorem op_le:OpR X (compareOp .LtE) (rI0 λi j=>.bl (decide (i≤j))):=opB0 λ_ _ _ _ _ _ _ q=>le_int q
theorem Q2:OpR X (compareOp .Gt) (rI0 λi j=>.bl (decide (j<i))):=opB0 λ_ _ _ _ _ _ _ q=>gt_int q
theorem op_ge:OpR X (compareOp .GtE) (rI0 λi j=>.bl (decide (j≤i))):=opB0 λ_ _ _ _ _ _ _ q=>ge_int q
theorem qk4:OpR X (compareOp .In) (λx y H Q=>∃i j,x=.str i∧y=.str j∧Q (.bl (!(Builtin.Str.occurrences j i 0 j.length 1).isEmpty)) H):=by
 intro pins s σ H x y v u Q I rx ry h
 obtain ⟨i,j,rfl,rfl,q⟩:=h
 obtain ⟨t,rfl⟩:=rx
 obtain ⟨t',rfl⟩:=ry
 exact in_str (xk I q rfl)
theorem op_isN:OpR X (compareOp .Is) (λx y H Q=>y=.non∧Q (.bl (decide (x=.non))) H):=by
 intro pins s σ H x y v u Q I rx ry h
 obtain ⟨rfl,q⟩:=h
 cases ry
 refine is_none_gen (xk I q ?_)
 cases x <;> first
  |(cases rx;rfl)
  |(obtain ⟨t,rfl⟩:=rx;rfl)
theorem w9 (b:Expr){op:CmpOp}(h:autoParam (op≠.In) aU1._auto_1)(h2:autoParam (op≠.NotIn) aU1._auto_1):behindInMarks op b=false:=by
 have e1:(op==CmpOp.In)=false:=by cases op <;> first | rfl | exact absurd rfl h
 have e2:(op==CmpOp.NotIn)=false:=by cases op <;> first | rfl | exact absurd rfl h2
 cases b <;> simp [behindInMarks,e1,e2]
theorem yx {op:CmpOp}{r:R2}(ho:OpR X (compareOp op) r)(ha:PE X a ta)(hb:PE X b tb)(hm:behindInMarks op b=false):PE X (.Compare a [op] [b] pos) (tOp r ta tb):=by
 intro pins s σ H Q I h
 exact wpAny_Compare1 (binT ha hb I h λv u s2 x y H2 I2 rx ry q=>ho pins s2 σ H2 x y v u Q I2 rx ry q) hm
def tTest (t:TE):TT:=λσ H Q=>t σ H λx H'=>∃k,x=.bl k∧Q k H'
theorem w4 {op:CmpOp}{r:R2}(ho:OpR X (compareOp op) r)(ha:PE X a ta)(hb:PE X b tb)(hm:behindInMarks op b=false):PT X (.Compare a [op] [b] pos) (tTest (tOp r ta tb)):=by
 intro pins s σ H Q I h
 refine wpAny_isTrue_Compare1 (thn (ha pins s σ H _ I h) λv s1 ⟨x,H1,I1,r1,q1⟩=>thn (hb pins s1 σ H1 _ I1 q1) λu s2 ⟨y,H2,I2,r2,q2⟩ =>
  thn (ho pins s2 σ H2 x y v u _ I2 r1 r2 q2) λc s3 ⟨z,H3,I3,r3,k,e,q3⟩=>?_) hm
 subst e
 cases r3
 exact cf ⟨H3,I3,q3⟩
theorem Z3:(sizeLine:Nat)<2 ^ 63:=by rw [dQ];decide
theorem xt:OpR X (binaryOp .Add) (λx y H Q=>∃i j,x=.str i∧y=.str j∧i.length+j.length≤sizeLine∧Q (.str (i++j)) H):=by
 intro pins s σ H x y v u Q I rx ry h
 obtain ⟨i,j,rfl,rfl,hz,q⟩:=h
 obtain ⟨t,rfl⟩:=rx
 obtain ⟨t',rfl⟩:=ry
 exact add_str (λt' tk=>⟨.str (i++j),H,I.tok _,⟨_,rfl⟩,q⟩) hz
theorem jq {x:V}{us:List Ag}(r:Vals [x] us):∃u,us=[u]∧RelV x u:=by
 cases r with
 |cons r1 r2=>cases r2;exact ⟨_,rfl,r1⟩
theorem quy {x y:V}{us:List Ag}(r:Vals [x,y] us):∃u w',us=[u,w']∧RelV x u∧RelV y w':=by
 cases r with
 |cons r1 r2 =>
  cases r2 with
  |cons r3 r4=>cases r4;exact ⟨_,_,rfl,r1,r3⟩
theorem uh:z7 X (.builtin "abs") (λxs H Q=>∃i,xs=[.int i]∧Q (.int (if i<0 then -i else i)) H):=by
 intro pins s σ H xs us Q I r h
 obtain ⟨i,rfl,q⟩:=h
 obtain ⟨u,rfl,t,rfl⟩:=jq r
 exact call_abs_int λu tk=>⟨.int (if i<0 then -i else i),H,I.tok _,⟨_,rfl⟩,q⟩
theorem Y9 (hc:X.calm=true):z7 X (.builtin "max") (λxs H Q=>∃i j,xs=[.int i,.int j]∧Q (.int (if j>i then j else i)) H):=by
 intro pins s σ H xs us Q I r h
 obtain ⟨i,j,rfl,q⟩:=h
 obtain ⟨u,w',rfl,⟨t,rfl⟩,⟨t',rfl⟩⟩:=quy r
 refine max_two_ints (I.ok.hd hc) λh' tk k=>⟨_,H,I.kept k,?_,q⟩
 by_cases hj:j>i
 ·rw [aj hj,aj hj];exact ⟨_,rfl⟩
 ·rw [ag hj,ag hj];exact ⟨_,rfl⟩
theorem qv9 (hc:X.calm=true):z7 X (.builtin "min") (λxs H Q=>∃i j,xs=[.int i,.int j]∧Q (.int (if j<i then j else i)) H):=by
 intro pins s σ H xs us Q I r h
 obtain ⟨i,j,rfl,q⟩:=h
 obtain ⟨u,w',rfl,⟨t,rfl⟩,⟨t',rfl⟩⟩:=quy r
 refine min_two_ints (I.ok.hd hc) λh' tk k=>⟨_,H,I.kept k,?_,q⟩
 by_cases hj:j<i
 ·rw [aj hj,aj hj];exact ⟨_,rfl⟩
 ·rw [ag hj,ag hj];exact ⟨_,rfl⟩
theorem qkb:z7 X (.type "int") (λxs H Q=>(∃i,xs=[.int i]∧Q (.int i) H)∨∃k,xs=[.bl k]∧Q (.int (if k then 1 else 0)) H):=by
 intro pins s σ H xs us Q I r h
 rcases h with ⟨i,rfl,q⟩|⟨k,rfl,q⟩
 ·obtain ⟨u,rfl,t,rfl⟩:=jq r
  exact call_int_int ⟨.int i,H,I,⟨_,rfl⟩,q⟩
 ·obtain ⟨u,rfl,r1⟩:=jq r
  cases r1
  exact call_int_bool ⟨.int (if k then 1 else 0),H,I.tok _,⟨_,rfl⟩,q⟩
theorem vf:z7 X (.type "str") (λxs H Q=>∃i,xs=[.int i]∧i.natAbs.log2<1920∧Q (.str (toString i)) H):=by
 intro pins s σ H xs us Q I r h
 obtain ⟨i,rfl,hz,q⟩:=h
 obtain ⟨u,rfl,t,rfl⟩:=jq r
 exact PySem.P.str_of_int hz ⟨.str _,H,I.tok _,⟨_,rfl⟩,q⟩
end
structure ObjM (h:Heap)(x dx C:Aj)(mA:Str→Option Ag):Prop where
 obj:h.get? x=some (W.instObj C dx)
 ns:h.Ns1 dx mA
 ne:dx≠x
theorem qku {h:Heap}{dx:Aj}{mA:Str→Option Ag}(n:h.Ns1 dx mA):∃od,h.get? dx=some od∧∀name,W.lookIn name od=some (mA name):=by
 obtain ⟨o,es,ep,ho,hd,hk,_,hm⟩:=n
 refine ⟨o,ho,λname=>?_⟩
 have e:=hm name
 unfold nsFind findBy at e
 rw [←Array.find?_toList] at e
 unfold W.lookIn
 rw [hd]
 dsimp only
 split
 ·rename_i y q
  rw [q] at e
  exact bF some e
 ·rename_i q
  rw [q] at e
  have a:es.toList.any (·.refKey)=false:=by
   rw [List.any_eq_false]
   intro y hy
   obtain ⟨z,t,hkey⟩:=hk y (Array.mem_toList_iff.mp hy)
   simp [DictEntry.refKey,hkey]
  have a':¬ es.toList.any (·.refKey)=true:=by rw [a];exact aB
  rw [ag a']
  exact bF some e
theorem ObjM.look {h:Heap}{x dx C:Aj}{mA:Str→Option Ag}(I:ObjM h x dx C mA):∃od,W.InstAt h x (W.instObj C dx) C (some od)∧∀name,W.lookIn name od=some (mA name) :=
 let ⟨od,ho,hl⟩:=qku I.ns
 ⟨od,⟨I.obj,rfl,rfl,ho⟩,hl⟩
section
variable {prog:Ac}{w:Ah}{A:Ae}{E:Ag→Ab→Prop}{s:Ab}{K:Aa}{x dx C f:Aj}{mA:Str→Option Ag}{name:Str}{v:Ag}
theorem qu4 {expr:Bool}{Q:Ag→Ab→Prop}(X:K.In s.heap)(I:ObjM s.heap x dx C mA)(hg:W.plainGet K C name=true)(hh:W.hasDictIn K C=true)
  (ha:W.findIn K (.ref C) name=some none) (hv:mA name=some v) (hv':W.handedIn v=true) (h:Q v { s with toks:=s.toks+1 }) :
  wpAny (model prog w) A (getAttr (.ref x) name expr) Q E s:=by
 obtain ⟨od,J,hl⟩:=I.look
 exact W.get_value X J (cM hg).1 (W.findObj_own hh ha rfl (by rw [hl,hv])) hv' h
theorem qjd {pl:Sem Bool}{Q:Ag×List Ag→Ab→Prop}(X:K.In s.heap)(I:ObjM s.heap x dx C mA)(hg:W.plainGet K C name=true)
  (hf:W.findIn K (.ref C) name=some (some (.ref f))) (ht:W.isFn K (.ref f)=true) (hv:mA name=none) (h:Q (.ref f,[.ref x]) s) :
  wpAny (model prog w) A (getMethod (.ref x) name pl) Q E s:=by
 obtain ⟨od,J,hl⟩:=I.look
 exact W.method_fn X J (cM hg).1 (cM hg).2 hf (cE.mp ht) (by show (W.lookIn name od).map (·.isSome)=some false;rw [hl,hv];rfl) h
theorem wqm {ns:List Str}{Q:Unit→Ab→Prop}(X:K.In s.heap)(I:ObjM s.heap x dx C mA)
  (hs:W.findIn K (.ref C) "__setattr__" = some (some (.builtin "object.__setattr__"))) (hp:W.plainOver K C=true) (ht:W.takerIn K C name=some none) (hh:W.hasDictIn K C=true)
  (hw:PySem.Within mA ns) (hsz:ns.length≤sizeLine)
  (h:∀h',ObjM h' x dx C (λy=>if y=name then some v else mA y)→Heap.SameBut dx s.heap h'→Q () { s with heap:=h',toks:=s.toks+2 }) :
  wpAny (model prog w) A (setAttr (.ref x) name v) Q E s:=by
 obtain ⟨od,J,hl⟩:=I.look
 refine W.set_plain X J hs (W.osa_open (s:={ s with toks:=s.toks+1 }) (r:=none) X J hp ht λb=>?_)
 obtain ⟨cd,hc,hd'⟩:=W.any_some hh
 have hx:s.heap.get? x=some ⟨.ref C,some dx,.plain,#[]⟩:=I.obj
 refine ai (az (ai (ai (wpAny_loadPart hx (ai (W.Looks.here (s:={ s with toks:=s.toks+1 }) (W.looks_clsIn X hc) ?_))))))
 rw [hd']
 refine az (a:=some dx) (ai (az (ai ?_)))
 refine wpAny_nsSet1 (s:={ s with toks:=s.toks+1 }) I.ns λh' hn2 hs2=>?_
 obtain ⟨oD,esD,epD,hoD,hdD,hcD⟩:=hn2.count (PySem.Within.cons name v hw)
 refine ai (wpAny_lookBehind hoD (by rw [hdD];exact pastItsLine_dict (bd hcD (by rw [aw];lia))) ?_)
 exact az (h _ ⟨(hs2.2 _ (aN I.ne)).trans I.obj,hn2,I.ne⟩ hs2)
theorem qyr {R:Result→Ab→Prop}{vs:List Ag}{kw:List (Str×Ag)}(X:K.In s.heap)(hm:W.makesIn K C=true)
  (hi:W.findIn K (.ref C) "__init__" = some (some (.ref f))) (hf:W.typeIn K (.ref f)=some (.type "function"))
  (h:codeAny (model prog w) (A.under (.builtin "type.__call__" ⟨.ref C::vs,kw⟩)) (.call (.ref f) ⟨.ref (s.heap.objs.size+1)::vs,kw⟩) (W.InitBack (s.heap.objs.size+1) R)
   { s with heap:=(s.heap.push W.emptyDict).push (W.instObj C s.heap.objs.size) }) :
  codeAny (model prog w) A (.call (.ref C) ⟨vs,kw⟩) R s:=by
 obtain ⟨hh,g,d,t,os⟩:=s
 exact W.make_core (W.makes_of X hm) (W.looks_findIn X hi) (λself=>W.bind_fn X self hf) (.inl rfl) h
end
def zf (f:Str)(v:V):List (Str×V)→List (Str×V)
 |[]=>[(f,v)]
 |(g,x)::r=>if g=f then (g,v)::r else (g,x)::zf f v r
theorem Qt (f g:Str)(v:V):∀fs:List (Str×V),(zf f v fs).lookup g=if g=f then some v else fs.lookup g
 |[]=>by
  show List.lookup g [(f,v)]=_
  by_cases h:g=f
  ·have hb:(g==f)=true:=cE.mpr h
   simp only [List.lookup,hb,aj h]
  ·have hb:(g==f)=false:=aS.mpr h
   simp only [List.lookup,hb,ag h]
 |(k,x)::r=>by
  have ih:=Qt f g v r
  rw [show zf f v ((k,x)::r)=(if k=f then (k,v)::r else (k,x)::zf f v r) from rfl]
  by_cases hk:k=f
  ·rw [aj hk]
   by_cases h:g=k
   ·have hb:(g==k)=true:=cE.mpr h
    simp only [List.lookup,hb,aj (h.trans hk)]
   ·have hb:(g==k)=false:=aS.mpr h
    simp only [List.lookup,hb,ag (λe:g=f=>h (e.trans hk.symm))]
  ·rw [ag hk]
   by_cases h:g=k
   ·have hb:(g==k)=true:=cE.mpr h
    simp only [List.lookup,hb,ag (λe:g=f=>hk (h.symm.trans e))]
   ·have hb:(g==k)=false:=aS.mpr h
    simp only [List.lookup,hb]
    exact ih
theorem Qk (f:Str)(v:V):∀fs:List (Str×V),f∈(zf f v fs).map (·.1)∧∀g,g∈fs.map (·.1)→g∈(zf f v fs).map (·.1)
 |[]=>⟨by simp [zf],λg h=>by simp at h⟩
 |(k,x)::r=>by
  obtain ⟨i1,i2⟩:=Qk f v r
  rw [show zf f v ((k,x)::r)=(if k=f then (k,v)::r else (k,x)::zf f v r) from rfl]
  by_cases hk:k=f
  ·rw [aj hk]
   subst hk
   exact ⟨by simp,λg h=>by simpa using h⟩
  ·rw [ag hk]
   refine ⟨?_,λg h=>?_⟩
   ·rw [aG]
    exact ax _ i1
   ·rw [aG] at h ⊢
    rcases ak.mp h with e|e
    ·exact ak.mpr (.inl e)
    ·exact ax _ (i2 g e)
theorem Q0 (f:Str)(v:V):∀fs:List (Str×V),(zf f v fs).length≤fs.length+1
 |[]=>by simp [zf]
 |(k,x)::r=>by
  have ih:=Q0 f v r
  rw [show zf f v ((k,x)::r)=(if k=f then (k,v)::r else (k,x)::zf f v r) from rfl]
  by_cases hk:k=f
  ·rw [aj hk,aw,aw];lia
  ·rw [ag hk,aw,aw];lia
theorem RelO.some_of {v:V}{o:Option Ag}(r:RelO (some v) o):∃u,o=some u∧RelV v u:=by
 cases o with
 |none=>exact (show False from r).elim
 |some u=>exact ⟨u,rfl,r⟩
theorem RelO.none_of {o:Option Ag}(r:RelO none o):o=none:=by
 cases o with
 |none=>rfl
 |some u=>exact (show False from r).elim
theorem qk8 {v:V}{u:Ag}(r:RelV v u):W.handedIn u=true:=by
 cases v with
 |non=>cases (show u=Value.none from r);rfl
 |bl b=>cases (show u=Value.bool b from r);rfl
 |int i=>obtain ⟨t,e⟩:=(show ∃t,u=Value.int i t from r);cases e;rfl
 |str x=>obtain ⟨t,e⟩:=(show ∃t,u=Value.str x t from r);cases e;rfl
 |byt b=>obtain ⟨t,e⟩:=(show ∃t,u=Value.bytes b t from r);cases e;rfl
 |flt b=>obtain ⟨t,e⟩:=(show ∃t,u=Value.float b t from r);cases e;rfl
 |ref a=>cases (show u=Value.ref a from r);rfl
 |ty n=>cases (show u=Value.type n from r);rfl
section
variable {P:Ac}{w:Ah}{H H':Hp}{h h':Heap}{a C dx:Aj}{fs fs':List (Str×V)}
theorem Wc (hok:HOk P w H h)(e:H a=some (.ins C dx fs)):∃mA,ObjM h a dx C mA∧(∀f,RelO (fs.lookup f) (mA f))∧PySem.Within mA (fs.map (·.1))∧fs.length≤1000∧H dx=some (.own a):=by
 obtain ⟨d,z,ne,ob,mA,n,r,q⟩:=(show ObjOk P w H h a (.ins C dx fs) from hok a _ e)
 exact ⟨mA,⟨ob,n,ne⟩,r,q,z,d⟩
end
structure Cls (K:Aa)(C:Aj):Prop where
 pg:W.plainGet K C Str.empty=true
 hd:W.hasDictIn K C=true
 po:W.plainOver K C=true
 sa:W.findIn K (.ref C) "__setattr__" = some (some (.builtin "object.__setattr__"))
theorem Cls.get {K:Aa}{C:Aj}(c:Cls K C)(f:Str):W.plainGet K C f=true:=c.pg
def NoAttr (K:Aa)(C:Aj)(f:Str):Prop:=W.findIn K (.ref C) f=some none
theorem NoAttr.taker {K:Aa}{C:Aj}{f:Str}(n:NoAttr K C f):W.takerIn K C f=some none:=by
 unfold W.takerIn
 rw [show W.findIn K (.ref C) f=some none from n]
 rfl
structure Con (K:Aa)(C:Aj)(f:Str)(v:V)(u:Ag):Prop where
 at_:W.findIn K (.ref C) f=some (some u)
 rel:RelV v u
 get:W.specialIn K u "__get__" = some none
 cp:W.copiedNames.contains f=false
structure Meth (K:Aa)(C:Aj)(m:Str)(f:Aj):Prop where
 at_:W.findIn K (.ref C) m=some (some (.ref f))
 fn:W.isFn K (.ref f)=true
 kp:W.keepIn K (.ref f)=true
section
variable {X:Cx}{pins:List (Aj×Obj)}{σ:St}{H:Hp}{s:Ab}{a C dx:Aj}{fs:List (Str×V)}{f:Str}{v:V}{A:Ae}{E:Ag→Ab→Prop}
theorem qx5 {b:Bool}{Q:Ag→Ab→Prop}(I:Inv X pins σ H s)(e:H a=some (.ins C dx fs))(c:Cls X.K C)(n:NoAttr X.K C f)(l:fs.lookup f=some v)
  (h:∀u s',Inv X pins σ H s'→RelV v u→Q u s'):wpAny (model X.prog X.w) A (getAttr (.ref a) f b) Q E s:=by
 obtain ⟨mA,O,r,_,_,_⟩:=Wc I.hok e
 obtain ⟨u,hu,ru⟩:=RelO.some_of (v:=v) (o:=mA f) (by rw [←l];exact r f)
 exact qu4 I.kIn O (c.get f) c.hd n hu (qk8 ru) (h u _ (I.tok _) ru)
theorem Zd {m:Str}{g:Aj}{pl:Sem Bool}{Q:Ag×List Ag→Ab→Prop}(I:Inv X pins σ H s)(e:H a=some (.ins C dx fs))(c:Cls X.K C)(k:Meth X.K C m g)(l:fs.lookup m=none)
  (h:Q (.ref g,[.ref a]) s):wpAny (model X.prog X.w) A (getMethod (.ref a) m pl) Q E s:=by
 obtain ⟨mA,O,r,_,_,_⟩:=Wc I.hok e
 have hn:mA m=none:=RelO.none_of (by rw [←l];exact r m)
 exact qjd I.kIn O (c.get m) k.at_ k.fn hn h
theorem qx6 {y:V}{u:Ag}{Q:Unit→Ab→Prop}(I:Inv X pins σ H s)(e:H a=some (.ins C dx fs))(c:Cls X.K C)(n:NoAttr X.K C f)(hl:fs.length<1000)(ry:RelV y u)
  (h:∀s',Inv X pins σ (upd H a (.ins C dx (zf f y fs))) s'→Q () s'):wpAny (model X.prog X.w) A (setAttr (.ref a) f u) Q E s:=by
 obtain ⟨mA,O,r,wi,_,ho⟩:=Wc I.hok e
 have hz:(fs.map (·.1)).length≤sizeLine:=by rw [aa,dQ];lia
 refine wqm I.kIn O c.sa c.po n.taker c.hd wi hz λh' O' sb=>h _ ?_
 have hd:∃o,h'.get? dx=some o:=let ⟨o,_,_,e',_⟩:=O'.ns;⟨o,e'⟩
 refine I.write (x:=a) (e:=dx) (by rw [e];exact True.intro) (.inr ho) (λb q hb z=>(sb.2 b hb).trans z) hd ?_
 refine ⟨by rw [q9 O.ne];exact ho,?_,O.ne,O'.obj,_,O'.ns,λg=>?_,λg hg=>?_⟩
 ·have:=Q0 f y fs;lia
 ·show RelO ((zf f y fs).lookup g) (if g=f then some u else mA g)
  rw [Qt]
  by_cases q:g=f
  ·rw [aj q,aj q];exact ry
  ·rw [ag q,ag q];exact r g
 ·by_cases q:g=f
  ·rw [q];exact (Qk f y fs).1
  ·refine (Qk f y fs).2 g (wi g λz=>hg ?_)
   show (if g=f then some u else mA g)=none
   rw [ag q];exact z
theorem Inv.made (I:Inv X pins σ H s):Inv X pins σ (upd (upd H s.heap.objs.size (.own (s.heap.objs.size+1))) (s.heap.objs.size+1) (.ins C s.heap.objs.size []))
  { s with heap:=(s.heap.push W.emptyDict).push (W.instObj C s.heap.objs.size) }:=by
 have e1:(s.heap.push W.emptyDict).get? s.heap.objs.size=some W.emptyDict:=aq s.heap rfl
 have e2:((s.heap.push W.emptyDict).push (W.instObj C s.heap.objs.size)).get? (s.heap.objs.size+1)=some (W.instObj C s.heap.objs.size):=by
  have:=aq (s.heap.push W.emptyDict) (o:=W.instObj C s.heap.objs.size) rfl
  rwa [cX] at this
 have e3:(s.heap.push W.emptyDict).Ns s.heap.objs.size (λ_=>none):=⟨W.emptyDict,#[],_,e1,rfl,(λe he=>absurd he (by simp)),λ_=>rfl⟩
 have I1:=I.laid (a:=s.heap.objs.size) (o:=.own (s.heap.objs.size+1)) (h':=s.heap.push W.emptyDict) (t':=s.toks) (λb u q=>ac _ q) (ae _) ⟨_,e1⟩
 refine I1.laid (a:=s.heap.objs.size+1) (o:=.ins C s.heap.objs.size []) (t':=s.toks) (λb u q=>ac _ q) (Nat.le_of_eq (cX _ _)) ?_
 have ne:s.heap.objs.size≠s.heap.objs.size+1:=au (Nat.lt_succ_self _)
 refine ⟨by rw [q9 ne,qj],aC _,ne,e2,λ_=>none,(Heap.Ns1.of_empty e3).at λo q=>ac _ q,λ_=>True.intro,λy hy=>absurd rfl hy⟩
theorem qu6 {prog:Ac}{w:Ah}{env:Env}{e:Expr}{f:Str}{pos:Pos}{s:Ab}{Q:Ag→Ab→Prop}(hb:attributeBase e f env (eval e env)=eval e env)
  (h:wpAny (model prog w) A (eval e env) (λo s₁=>wpAny (model prog w) A (getAttr o f true) Q E s₁) E s):wpAny (model prog w) A (eval (.Attribute e f pos) env) Q E s :=
 Attribute_any_ h (by rw [arm_eval_Attribute,hb])
end
def tFld (K:Aa)(ta:TE)(f:Str):TE:=λσ H Q=>ta σ H λx H1=>∃a C dx fs v,x=.ref a∧H1 a=some (.ins C dx fs)∧Cls K C∧NoAttr K C f∧fs.lookup f=some v∧Q v H1
def sFld (K:Aa)(ta tv:TE)(f:Str):TS:=λD σ H=>tv σ H λy H1=>ta σ H1 λx H2=>∃a C dx fs,x=.ref a∧H2 a=some (.ins C dx fs)∧Cls K C∧NoAttr K C f∧fs.length<1000 ∧
 D.nx σ (upd H2 a (.ins C dx (zf f y fs)))
section
variable {X:Cx}{o e value:Expr}{f:Str}{pos pos' tpos:Pos}{ta tv:TE}
theorem zx (he:PE X e ta)(hb:attributeBase e f X.env (eval e X.env)=eval e X.env):PE X (.Attribute e f pos) (tFld X.K ta f):=by
 intro pins s σ H Q I h
 refine qu6 hb (thn (he pins s σ H _ I h) λu s1 ⟨x,H1,I1,rx,a,C,dx,fs,v,ex,ea,c,n,l,q⟩=>?_)
 subst ex
 obtain rfl:u=Value.ref a:=rx
 exact qx5 I1 ea c n l λu' s2 I2 ru=>⟨v,H1,I2,ru,q⟩
theorem uq (ha:PE X o ta)(hv:PE X value tv)(hs:swapsWith value (some (.Attribute o f pos')) pos.line X.env=pure false):PS X (.Assign [.Attribute o f pos'] value pos) (sFld X.K ta tv f):=by
 intro pins s σ H D I h
 refine plainObj_wpAny_Assign_Attribute (thn (hv pins s σ H _ I h) λu s1 ⟨y,H1,I1,ry,q⟩=>thn (ha pins s1 σ H1 _ I1 q) λov s2 ⟨x,H2,I2,rx,a,C,dx,fs,ex,ea,c,n,l,q2⟩=>?_) hs
 subst ex
 obtain rfl:ov=Value.ref a:=rx
 exact qx6 I2 ea c n l ry λs3 I3=>⟨σ,_,I3,q2⟩
end
section
variable {X:Cx}{pins:List (Aj×Obj)}{σ:St}{H:Hp}{s:Ab}{A:Ae}{E:Ag→Ab→Prop}{Q:Ag→Ab→Prop}{c:Ag}{b:Bool}
inductive TyOf (K:Aa) (H:Hp):V→Ag→Prop where
 |non:TyOf K H .non (.type "NoneType")
 |bl (x:Bool):TyOf K H (.bl x) (.type "bool")
 |int (i:Int):TyOf K H (.int i) (.type "int")
 |str (x:Str):TyOf K H (.str x) (.type "str")
 |flt (x:UInt64):TyOf K H (.flt x) (.type "float")
 |lst {a:Aj} {xs:List V} (e:H a=some (.lst xs)):TyOf K H (.ref a) (.type "list")
 |frz {a:Aj} {o:Obj} {xs:List V} (e:H a=some (.frz o (.lst xs))):TyOf K H (.ref a) (.type "list")
 |tup {a:Aj} {xs:List V} (e:H a=some (.tup xs)):TyOf K H (.ref a) (.type "tuple")
 |dK {a:Aj} {kvs:List (Key×V)} (e:H a=some (.dK kvs)):TyOf K H (.ref a) (.type "dict")
 |dT {a:Aj} {kvs:List (List Key×V)} (e:H a=some (.dT kvs)):TyOf K H (.ref a) (.type "dict")
 |ins {a C dx:Aj} {fs:List (Str×V)} (e:H a=some (.ins C dx fs)) (cl:Cls K C) (ha:W.findIn K (.ref C) "__class__" = some (some (.builtin "object.__class__")))
   (hn:W.specialIn K (.builtin "object.__class__") "__get__" = some (some (.builtin "getset_descriptor.__get__"))) (htk:W.takesIn K (.builtin "object.__class__")=some true)
   (hm:W.mroIn K C (.type "object")=some true):TyOf K H (.ref a) (.ref C)
theorem qkj {x:V}{u t:Ag}(I:Inv X pins σ H s)(rx:RelV x u)(ty:TyOf X.K H x t)(e:W.kitOne X.K t c=some b)(h:∀tk,Q (.bool b) { s with toks:=tk }) :
  wpAny (model X.prog X.w) A (call (.builtin "isinstance") [u,c]) Q E s:=by
 cases ty with
 |non=>cases (show u=Value.none from rx);exact bc W.kitx_none I.kIn True.intro e (λz=>nomatch z) h
 |bl y=>cases (show u=Value.bool y from rx);exact bc W.kitx_bool I.kIn True.intro e (λz=>nomatch z) h
 |int i=>obtain ⟨t,q⟩:=(show ∃t,u=Value.int i t from rx);cases q;exact bc W.kitx_int I.kIn True.intro e (λz=>nomatch z) h
 |str y=>obtain ⟨t,q⟩:=(show ∃t,u=Value.str y t from rx);cases q;exact bc W.kitx_str I.kIn True.intro e (λz=>nomatch z) h
 |flt y=>obtain ⟨t,q⟩:=(show ∃t,u=Value.float y t from rx);cases q;exact bc W.kitx_float I.kIn True.intro e (λz=>nomatch z) h
 |@lst a xs ea =>
  cases (show u=Value.ref a from rx)
  obtain ⟨_,_,n,_,h1⟩:=(show ObjOk X.prog X.w H s.heap a (.lst xs) from I.hok a _ ea)
  exact bc W.kitx_list I.kIn ⟨_,h1,rfl⟩ e (λz=>nomatch z) h
 |@frz a ob xs ea =>
  cases (show u=Value.ref a from rx)
  obtain ⟨_,_,_,n,_,h1⟩:=(show ObjOk X.prog X.w H s.heap a (.frz ob (.lst xs)) from I.hok a _ ea)
  exact bc W.kitx_list I.kIn ⟨_,h1,rfl⟩ e (λz=>nomatch z) h
 |@tup a xs ea =>
  cases (show u=Value.ref a from rx)
  obtain ⟨_,_,_,p⟩:=(show ObjOk X.prog X.w H s.heap a (.tup xs) from I.hok a _ ea)
  obtain ⟨o,h1,h2,_⟩:=p
  exact bc W.kitx_tuple I.kIn ⟨o,h1,h2⟩ e (λz=>nomatch z) h
 |@dK a kvs ea =>
  cases (show u=Value.ref a from rx)
  obtain ⟨_,_,vs,_,p⟩:=(show ObjOk X.prog X.w H s.heap a (.dK kvs) from I.hok a _ ea)
  obtain ⟨o,es,ep,h1,h2,_⟩:=p
  exact bc W.kitx_dict I.kIn ⟨o,h1,h2.1⟩ e (λz=>nomatch z) h
 |@dT a kvs ea =>
  cases (show u=Value.ref a from rx)
  obtain ⟨_,_,xs,_,o,es,ep,h1,h2,_⟩:=(show ObjOk X.prog X.w H s.heap a (.dT kvs) from I.hok a _ ea)
  exact bc W.kitx_dict I.kIn ⟨o,h1,h2.1⟩ e (λz=>nomatch z) h
 |@ins a C dx fs ea cl ha hn htk hm =>
  cases (show u=Value.ref a from rx)
  obtain ⟨mA,O,_⟩:=Wc I.hok ea
  obtain ⟨od,J,_⟩:=O.look
  exact bc (W.kitx_own (cl.get _) cl.hd ha hn htk hm) I.kIn J e (λz=>nomatch z) h
end
structure Room (k:Nat)(A:Ae):Prop where
 hd:A.handled=none
 dp:A.depth+3*k+5<recursionLimit
 un:A.units+16*k+200<cLine
theorem Room.mono {j k:Nat}{A:Ae}(r:Room k A)(h:j≤k):Room j A:=⟨r.hd,by have:=r.dp;lia,by have:=r.un;lia⟩
theorem Room.deeper {k:Nat}{A:Ae}(r:Room (k+1) A)(env:Env):Room k (A.deeper env) :=
 ⟨r.hd,by have:=r.dp;show A.depth+1+3*k+5<_;lia,by have:=r.un;show A.units+3+16*k+200<_;lia⟩
theorem qzt {A:Ae}{C:Aj}{us:List Ag}{kw:List (Str×Ag)}:(A.under (.builtin "type.__call__" ⟨.ref C::us,kw⟩)).depth=A.depth+1:=by
 first | rfl | simp [Around.under,Code.weight,Code.isCreation,Code.isGuard,Code.isCaller,Code.frames,Code.isFrame,guardIds]
theorem qz0 {A:Ae}{C:Aj}{us:List Ag}{kw:List (Str×Ag)}:(A.under (.builtin "type.__call__" ⟨.ref C::us,kw⟩)).units=A.units+1:=by
 first | rfl | simp [Around.under,Code.cUnits,Code.frames,Code.isFrame]
theorem Room.make {k:Nat}{A:Ae}(r:Room (k+1) A)(C:Aj)(us:List Ag)(kw:List (Str×Ag)):Room k (A.under (.builtin "type.__call__" ⟨.ref C::us,kw⟩)) :=
 ⟨r.hd,by have:=r.dp;rw [qzt];lia,by have:=r.un;rw [qz0];lia⟩
theorem Room.depth {k:Nat}{A:Ae}(r:Room k A):A.depth<recursionLimit:=by have:=r.dp;lia
theorem Room.units {k:Nat}{A:Ae}(r:Room k A):A.units+64<cLine:=by have:=r.un;lia
theorem Room.units0 {k:Nat}{A:Ae}(r:Room k A):A.units<cLine:=by have:=r.un;lia
def Q8:TA:=λ_ H Q=>Q [] H
def zh (ta:TE)(tr:TA):TA:=λσ H Q=>ta σ H λx H1=>tr σ H1 λxs H2=>Q (x::xs) H2
section
variable {X:Cx}{e:Expr}{es:List Expr}{te:TE}{t:TA}{pos:Pos}
theorem qk:PA X [] Q8:=λ_ _ _ _ H Q I h=>Calls.spliced_nil ⟨[],H,I,.nil,h⟩
theorem xq (ha:PE X e te)(hr:PA X es t)(hs:autoParam (starEach (e::es) X.env=(false,eval e X.env)::starEach es X.env) aU4._auto_1):PA X (e::es) (zh te t):=by
 intro pos pins s σ H Q I h
 rw [hs]
 show wpAny _ _ (spliced ((false,eval e X.env)::backTo pos (starEach es X.env))) _ _ s
 refine Calls.spliced_cons (thn (ha pins s σ H _ I h) λu s1 ⟨x,H1,I1,r1,q1⟩=>?_)
 exact thn (hr pos pins s1 σ H1 _ I1 q1) λus s2 ⟨xs,H2,I2,r2,q2⟩=>⟨x::xs,H2,I2,.cons r1 r2,q2⟩
def tTup (t:TA):TE:=λσ H Q=>t σ H λxs H1=>xs.length≤sizeLine∧∀p,H1 p=none→Q (.ref p) (upd H1 p (.tup xs))
def tLst (t:TA):TE:=λσ H Q=>t σ H λxs H1=>xs.length≤sizeLine∧∀p,H1 p=none→Q (.ref p) (upd H1 p (.lst xs))
theorem jz {x1}(h:PA X es t):PE X (.Tuple es x1 pos) (tTup t):=by
 intro pins s σ H Q I hq
 refine wpAny_Tuple_spliced (thn (h pos pins s σ H _ I hq) λus s1 ⟨xs,H1,I1,r,z,q⟩=>⟨by rw [←r.length];exact z,?_⟩)
 have hf:H1 s1.heap.objs.size=none:=I1.hok.fresh (ae _)
 refine ⟨.ref s1.heap.objs.size,upd H1 s1.heap.objs.size (.tup xs),I1.laid (t':=s1.toks) (λb u e=>ac _ e) (ae _) ?_,rfl,q _ hf⟩
 exact ⟨z,us,r,⟨_,aq _ rfl,rfl,_,rfl⟩⟩
theorem yw (h:PA X es t):PE X (.List es pos) (tLst t):=by
 intro pins s σ H Q I hq
 refine wpAny_List_spliced (thn (h pos pins s σ H _ I hq) λus s1 ⟨xs,H1,I1,r,z,q⟩=>⟨by rw [←r.length];exact z,?_⟩)
 have hf:H1 s1.heap.objs.size=none:=I1.hok.fresh (ae _)
 refine ⟨.ref s1.heap.objs.size,upd H1 s1.heap.objs.size (.lst xs),I1.laid (t':=s1.toks) (λb u e=>ac _ e) (ae _) ?_,rfl,q _ hf⟩
 exact ⟨z,us,0,r,aq _ rfl⟩
end
abbrev Sp:=List V→Hp→VK→XK→Prop
abbrev CXT:=List Env→Hp→Ab→XK→Ag→Ab→Prop
structure Env0 (P:Ac)(w:Ah)(K:Aa)(mg:Str→Option Ag)(base:Heap)(A:Ae)(outer:List Env)(s:Ab)(H:Hp):Prop where
 frames:A.frames=some outer
 mod:Mod K mg base
 bs:∀b o,base.get? b=some o→s.heap.get? b=some o∧H b=none
 bsz:base.objs.size≤s.heap.objs.size
 funs:s.heap.FunFrames base outer
 frf:∀b∈frs outer,H b=none
 hok:HOk P w H s.heap
 bare:AllBare s.gens
def CE (outer:List Env)(P:Ac)(w:Ah)(H:Hp)(s:Ab)(Q:VK)(u:Ag)(s':Ab):Prop :=
 ∃v H',s'.os=s.os∧AllBare s'.gens∧Un (frs outer) [] H H' s.heap s'.heap∧HOk P w H' s'.heap∧RelV v u∧Q v H'
def CR (CX:CXT)(outer:List Env)(P:Ac)(w:Ah)(H:Hp)(s:Ab)(Q:VK)(E:XK)(r:Result)(s':Ab):Prop :=
 match r with
 |.ok (.ret u)=>CE outer P w H s Q u s'
 |.ok _=>False
 |.error e=>CX outer H s E e s'
structure FnOk (P:Ac)(w:Ah)(K:Aa)(mg:Str→Option Ag)(base:Heap)(CX:CXT)(k:Nat)(f:Aj)(fd:Ad)(ps:List Str)(sp:Sp):Prop where
 len:∀vs H Q E,sp vs H Q E→vs.length=ps.length
 run:∀(A:Ae) (outer:List Env) (s:Ab) (H:Hp) (args:Args) (us:List Ag) (vs:List V) (Q:VK) (E:XK),Room k A→Env0 P w K mg base A outer s H→BindsTo s fd args (ps.zip us)→Vals vs us→sp vs H Q E →
  codeAny (model P w) A (.call (.ref f) args) (CR CX outer P w H s Q E) s
theorem FnOk.imp {P:Ac}{w:Ah}{K:Aa}{mg:Str→Option Ag}{base:Heap}{CX:CXT}{k:Nat}{f:Aj}{fd:Ad}{ps:List Str}{sp sp':Sp}(F:FnOk P w K mg base CX k f fd ps sp)
  (h:∀vs H Q E,sp' vs H Q E→sp vs H Q E):FnOk P w K mg base CX k f fd ps sp' :=
 ⟨λvs H Q E q=>F.len vs H Q E (h _ _ _ _ q),λA outer s H args us vs Q E hr he hb hv hs=>F.run A outer s H args us vs Q E hr he hb hv (h _ _ _ _ hs)⟩
theorem Env0.make {P:Ac}{w:Ah}{K:Aa}{mg:Str→Option Ag}{base:Heap}{A:Ae}{outer:List Env}{s:Ab}{H:Hp}(e:Env0 P w K mg base A outer s H)(C:Aj)(us:List Ag)(kw:List (Str×Ag)) :
  Env0 P w K mg base (A.under (.builtin "type.__call__" ⟨.ref C::us,kw⟩)) outer s H:=⟨by first | exact e.frames | (simpa [Around.under,Code.envs,Code.isFrame,pushEnvs] using e.frames),e.mod,e.bs,e.bsz,e.funs,e.frf,e.hok,e.bare⟩
section
variable {X:Cx}{pins:List (Aj×Obj)}{σ:St}{H:Hp}{s s':Ab}
theorem Inv.env0 (I:Inv X pins σ H s):Env0 X.prog X.w X.K X.mg X.base X.A X.stack s H :=
 ⟨I.ok.frames,I.ok.mod,I.bs,bd I.ok.bsz I.sz,I.stack,I.stkFree,I.hok,I.bare⟩
theorem Inv.after {Q:VK}{u:Ag}(I:Inv X pins σ H s)(h:CE X.stack X.prog X.w H s Q u s'):EP X pins σ Q u s':=by
 obtain ⟨v,H',os,bare,un,hok,r,q⟩:=h
 obtain ⟨hh,g,d,t,os'⟩:=s'
 obtain rfl:os'=s.os:=os
 exact ⟨v,H',I.call (h':=hh) (g':=g) (d':=d) (t':=t) (ch:=[]) un hok bare (λb z=>absurd z (by simp)),r,q⟩
end
def Binds (K:Aa)(fd:Ad)(ps:List Str)(ds:List Ag):Prop :=
 ∀(s:Ab) (us:List Ag),K.In s.heap→(us++ds).length=ps.length→BindsTo s fd ⟨us,[]⟩ (ps.zip (us++ds))
theorem Binds.all {K:Aa}{fd:Ad}{ps:List Str}(h:∀us:List Ag,us.length=ps.length→bindArgs fd ⟨us,[]⟩=pure (ps.zip us)):Binds K fd ps []:=λs us _ hl=>by
 rw [bY] at hl ⊢
 exact .of_eq (h us hl)
section
variable {X:Cx}{CX:CXT}{k:Nat}{f C:Aj}{fd:Ad}{ps:List Str}{sp:Sp}{dvs:List V}{ds:List Ag}{E:XK}{x m:Str}{p pos apos:Pos}{e o:Expr}{es:List Expr}{ta:TE}{t:TA}
structure Mk (K:Aa)(C f:Aj):Prop where
 makes:W.makesIn K C=true
 init:W.findIn K (.ref C) "__init__" = some (some (.ref f))
 fn:W.isFn K (.ref f)=true
 kp:W.keepIn K (.ref C)=true
end
section
variable {X:Cx}{CX:CXT}{k:Nat}{f C:Aj}{fd:Ad}{ps ks:List Str}{sp:Sp}{E:XK}{x m:Str}{p pos apos kpos:Pos}{e o:Expr}{es:List Expr}{kws:List Keyword}{te ta:TE}{t tk:TA}{nm:Option Str}
structure KBinds (K:Aa)(fd:Ad)(ps ks:List Str)(g:List Ag→List Ag→List Ag)(gV:List V→List V→List V):Prop where
 to:∀(s:Ab) (us ws:List Ag),K.In s.heap→(g us ws).length=ps.length→BindsTo s fd ⟨us,ks.zip ws⟩ (ps.zip (g us ws))
 rel:∀ {vs:List V} {us:List Ag} {zs:List V} {ws:List Ag},Vals vs us→Vals zs ws→Vals (gV vs zs) (g us ws)
variable {g:List Ag→List Ag→List Ag}{gV:List V→List V→List V}
end
structure FnScope (N P:List Str)(sc:Scope):Prop where
 kind:sc.kind=.function
 co:sc.isCoroutine=false
 gen:sc.isGenerator=false
 nd:N.Nodup
 pre:N.take P.length=P
 par:∀x∈P,sc.names.lookup x=some .local∨sc.names.lookup x=some .cell
 nofree:∀y∈sc.names,y.2≠.free
theorem Jz {kindOf:Str→Option NameKind}{x:Str}:∀ {binds:List (Str×Ag)} {m:Str→Option Ag},(∀v,(x,v)∉binds)→bindL kindOf binds m x=m x
 |[],_,_=>rfl
 |(n,v)::r,m,h=>by
  unfold bindL
  rw [Jz λw hw=>h w (ax _ hw)]
  split
  ·have:x≠n:=by rintro rfl;exact h v aH
   simp [this]
  ·rfl
theorem Jv {kindOf:Str→Option NameKind}{x:Str}:∀ {binds:List (Str×Ag)} {m:Str→Option Ag},(∀v,(x,v)∉binds)→bindC kindOf binds m x=m x
 |[],_,_=>rfl
 |(n,v)::r,m,h=>by
  unfold bindC
  rw [Jv λw hw=>h w (ax _ hw)]
  split
  ·rfl
  ·have:x≠n:=by rintro rfl;exact h v aH
   simp [this]
theorem Ju {kindOf:Str→Option NameKind}{x:Str}{v:Ag}:∀ {P:List Str} {vs:List Ag} {i:Nat} {m:Str→Option Ag},P.Nodup→P[i]?=some x→vs[i]?=some v→kindOf x=some .local →
  bindL kindOf (P.zip vs) m x=some v
 |[],_,_,_,_,h,_,_=>by simp at h
 |_::_,[],_,_,_,_,h,_=>by simp at h
 |p::P,w::vs,0,m,nd,h1,h2,hk=>by
  simp at h1 h2;subst h1;subst h2
  show bindL kindOf ((p,w)::P.zip vs) m p=_
  unfold bindL
  rw [Jz λv hv=>(aO.mp nd).1 (dM hv).1,aj hk]
  simp
 |p::P,w::vs,i+1,m,nd,h1,h2,hk=>by
  show bindL kindOf ((p,w)::P.zip vs) m x=_
  unfold bindL
  exact Ju (i:=i) (aO.mp nd).2 (by simpa using h1) (by simpa using h2) hk
theorem Jq {kindOf:Str→Option NameKind}{x:Str}{v:Ag}:∀ {P:List Str} {vs:List Ag} {i:Nat} {m:Str→Option Ag},P.Nodup→P[i]?=some x→vs[i]?=some v→kindOf x≠some .local →
  bindC kindOf (P.zip vs) m x=some v
 |[],_,_,_,_,h,_,_=>by simp at h
 |_::_,[],_,_,_,_,h,_=>by simp at h
 |p::P,w::vs,0,m,nd,h1,h2,hk=>by
  simp at h1 h2;subst h1;subst h2
  show bindC kindOf ((p,w)::P.zip vs) m p=_
  unfold bindC
  rw [Jv λv hv=>(aO.mp nd).1 (dM hv).1,ag hk]
  simp
 |p::P,w::vs,i+1,m,nd,h1,h2,hk=>by
  show bindC kindOf ((p,w)::P.zip vs) m x=_
  unfold bindC
  exact Jq (i:=i) (aO.mp nd).2 (by simpa using h1) (by simpa using h2) hk
def Q1 (N:List Str)(vs:List V):St:=vs.map some++List.replicate (N.length-vs.length) none
def qq9 (CX:CXT)(P:Ac)(w:Ah)(K:Aa)(mg:Str→Option Ag)(base:Heap)(N:List Str)(qual:Str)(scope:Scope)(f:Aj)(cd:Ag)(A:Ae)(outer:List Env)(s:Ab)(H:Hp)(E:XK):Cx where
 prog:=P
 w:=w
 K:=K
 mg:=mg
 base:=base
 A:=A.deeper (envOfC qual scope s.heap.objs.size f cd)
 N:=N
 s₀:=s
 H₀:=H
 env:=envOfC qual scope s.heap.objs.size f cd
 outer:=outer
 stack:=envOfC qual scope s.heap.objs.size f cd::outer
 ex:=[]
 calm:=true
 fn:=λ_=>true
 pn:=[]
 xe:=λe s'=>wpAny (model P w) (A.deeper (envOfC qual scope s.heap.objs.size f cd)) (leaving (envOfC qual scope s.heap.objs.size f cd) e) (λ_ s''=>CX outer H s E e s'') (λe' s''=>CX outer H s E e' s'') s'
theorem qwk {sc:Scope}{n:Nat}{x:Str}(h:sc.names.lookup x=some .cell):∃c,(cellsFrom n sc.names []).lookup x=some c:=by
 have q:=W.cellsFrom_some sc.names n [] (.inl h)
 exact ar.mp q
theorem qkf {CX:CXT}{P:Ac}{w:Ah}{K:Aa}{mg:Str→Option Ag}{base:Heap}{N ps:List Str}{qual:Str}{scope:Scope}{f:Aj}{cd:Ag}{A:Ae}{outer:List Env}{s s1:Ab}{H:Hp}{E:XK}{us:List Ag}{vs:List V}
  (S:FnScope N ps scope) (hd:A.handled=none) (e0:Env0 P w K mg base A outer s H) (hl:vs.length=ps.length) (r:Vals vs us)
  (x:InCallC s s.heap.objs.size (bindL (envOfC qual scope s.heap.objs.size f cd).kindOf (ps.zip us) λ_=>none) (cellsFrom (s.heap.objs.size+1) scope.names []) (bindC (envOfC qual scope s.heap.objs.size f cd).kindOf (ps.zip us) λ_=>none) s1) :
  Inv (qq9 CX P w K mg base N qual scope f cd A outer s H E) [] (Q1 N vs) H s1:=by
 have hpl:ps.length≤N.length:=by have:=bF List.length S.pre;rw [br] at this;lia
 obtain ⟨h1,tk,rfl,hk⟩:=x.done
 have noA:∀b:Aj,b∉(qq9 CX P w K mg base N qual scope f cd A outer s H E).ex:=λb z=>absurd (show b∈([]:List Aj) from z) (by simp)
 refine ⟨⟨e0.mod,S.kind,rfl,rfl,ae _,λy z c h1 h2=>?_,λy hy=>?_,λy c _ h=>?_,λ_=>hd,Around.frames_deeper e0.frames,.inr ⟨rfl,rfl⟩,λb z=>absurd z (noA b),e0.bs,e0.bsz,λb _ _=>noA b,λb z=>absurd z (noA b),e0.funs,e0.frf⟩,
  rfl,e0.bare,Un.kept hk,⟨_,x.toInCall.ns,λi y v h1 h2 h3=>?_⟩,λy c h=>⟨_,x.cell y c h⟩,e0.hok.fresh (ae _),λy c h=>?_,λp hp=>absurd (show p∈([]:List (Aj×Obj)) from hp) (by simp),e0.hok.kept hk,?_⟩
 ·exact name_of_addr x.apart (bN h1) (bN h2)
 ·have hy:scope.names.lookup y=some .cell∨scope.names.lookup y=some .free:=hy
  rcases hy with hy|hy
  ·exact qwk hy
  ·exact absurd rfl (S.nofree _ (bN hy))
 ·exact bL (x.above y c (bN h))
 ·have hi:i<vs.length:=by
   unfold Q1 at h2
   by_cases hi:i<vs.length
   ·exact hi
   ·rw [ba (by simpa using hi)] at h2
    rw [List.getElem?_replicate] at h2
    split at h2 <;> cases h2
  have ha:vs[i]?=some v:=by
   unfold Q1 at h2
   rw [bx (by simpa using hi),aI] at h2
   cases e:vs[i]? with
   |none=>rw [e] at h2;cases h2
   |some a=>rw [e] at h2;cases h2;rfl
  obtain ⟨u,hu,rv⟩:=r.get ha
  have hp:ps[i]?=some y:=by
   rw [←S.pre,List.getElem?_take_of_lt ⋯];exact h1
  have ndP:ps.Nodup:=by rw [←S.pre];exact S.nd.sublist (di _ _)
  refine ⟨u,rv,?_⟩
  rcases S.par y (bt hp) with k|k
  ·exact .inl ⟨k,Ju ndP hp hu k⟩
  ·obtain ⟨c,e⟩:=qwk (n:=s.heap.objs.size+1) k
   refine .inr ⟨.inl k,c,e,?_⟩
   have q:=x.cell y c e
   rw [Jq ndP hp hu (by show scope.names.lookup y≠_;rw [k];decide)] at q
   exact q
 ·exact e0.hok.fresh (bL (x.above y c (bN h)))
 ·unfold Q1
  show _=N.length
  rw [aM,aa,List.length_replicate]
  lia
theorem fn_of {CX:CXT}{P:Ac}{w:Ah}{K:Aa}{mg:Str→Option Ag}{base:Heap}{k:Nat}{f:Aj}{name qual:Str}{params:Arguments}{body:List Stmt}{scope:Scope}{dV kV doc pm cdv ct oc:Ag}{an od:Option Aj}
  {osl:Array (Option Ag)} {N ps:List Str} {sp:Sp} (lk:K.lookup f=some ⟨oc,od,.func (W.fnOf name qual params body scope dV kV doc pm an cdv ct),osl⟩) (hcd:W.codeIn K cdv qual=true) (S:FnScope N ps scope)
  (len:∀vs H Q E,sp vs H Q E→vs.length=ps.length)
  (hbody:∀(A:Ae) (outer:List Env) (s:Ab) (H:Hp) (vs:List V) (Q:VK) (E:XK),Room k (A.deeper (envOfC qual scope s.heap.objs.size f cdv))→sp vs H Q E →
   ∃t,PSs (qq9 CX P w K mg base N qual scope f cdv A outer s H E) body t∧t { nx:=λ_ H'=>Q .non H',rt:=Q } (Q1 N vs) H) :
  FnOk P w K mg base CX (k+1) f (W.fnOf name qual params body scope dV kV doc pm an cdv ct) ps sp:=by
 refine ⟨len,λA outer s H args us vs Q E hr e0 hb r hsp=>?_⟩
 have hl:=len _ _ _ _ hsp
 have KX:K.In s.heap:=e0.mod.kin.keeps λb o e=>(e0.bs b o e).1
 have lim:s.heap.NoLimit:=e0.mod.nolimit.keeps λb o e=>(e0.bs b o e).1
 have hkind:∀y∈ps.zip us,scope.names.lookup y.1=some .local∨(scope.names.lookup y.1=some .cell∧((cellsFrom (s.heap.objs.size+1) scope.names []).lookup y.1).isSome=true):=λ⟨n,v⟩ hy=>by
  rcases S.par n (dM hy).1 with q|q
  ·exact .inl q
  ·exact .inr ⟨q,W.cellsFrom_some _ _ _ (.inl q)⟩
 refine codeAny_call_function hr.depth (KX _ _ lk) rfl S.co S.gen rfl (W.codeRec_of KX hcd) (hb _ _ _ _ ?_)
 refine wpAny_newFunctionEnv_cells S.kind hkind λenv he s1 x=>?_
 subst he
 refine ⟨lim.keeps x.toInCall.keep,codeAny_func ?_⟩
 obtain ⟨t,ht,hq⟩:=hbody A outer s H vs Q E (hr.deeper _) hsp
 have I:Inv (qq9 CX P w K mg base N qual scope f cdv A outer s H E) [] (Q1 N vs) H s1:=qkf S hr.hd e0 hl r x
 refine aX (ht [] s1 (Q1 N vs) H _ I hq) (λfl s' hs=>?_) λe s' hs=>hs
 have fin:∀ {σ':St} {H':Hp} {v:V} {u:Ag},Inv (qq9 CX P w K mg base N qual scope f cdv A outer s H E) [] σ' H' s'→RelV v u→Q v H'→CE outer P w H s Q u s' :=
  λ{σ' H' v u} J rv q=>⟨v,H',J.os,J.bare,J.base,J.hok,rv,q⟩
 cases fl with
 |ret u =>
  obtain ⟨v,σ',H',J,rv,q⟩:=hs
  exact fin J rv q
 |next =>
  obtain ⟨σ',H',J,q⟩:=hs
  exact fin (v:=V.non) (u:=Value.none) J rfl q
 |brk =>
  obtain ⟨_,_,_,q⟩:=hs
  exact False.elim q
 |cont =>
  obtain ⟨_,_,_,q⟩:=hs
  exact False.elim q
section
variable {X:Cx}{x:Str}{p pos:Pos}{e:Expr}{es:List Expr}{t:TA}{id T:String}{r:List V→Hp→VK→Prop}
def tCB (r:List V→Hp→VK→Prop)(t:TA):TE:=λσ H Q=>t σ H λvs H1=>r vs H1 Q
theorem wg (hc:z7 X (.builtin id) r)(hg:Gl X x)(hm:X.mg x=none)(hv:bootBuiltins x=some (.builtin id))(ha:PA X (e::es) t)(hn:autoParam (x ≠ "__name__") aU2._auto_1)(hdb:autoParam ((x==("__debug__" : Str))=false) aU1._auto_1)
  (he:autoParam (starEach (e::es) X.env=(false,eval e X.env)::starEach es X.env) aU4._auto_1) (hpl:autoParam ((backTo pos (starEach es X.env)).any (·.1)=false) aU4._auto_1):PE X (.Call (.Name x p) (e::es) [] pos) (tCB r t):=by
 intro pins s σ H Q I h
 refine bT (qqp I hg hm hv ?_ hn hdb)
 exact PyProof.Rows.callWith_builtin1 (thn (ha pos pins s σ H _ I h) λus s1 ⟨vs,H1,I1,r1,q1⟩=>hc pins s1 σ H1 vs us Q I1 r1 q1) he hpl
theorem x6 (hc:z7 X (.type T) r)(hg:Gl X x)(hm:X.mg x=none)(hv:bootBuiltins x=some (.type T))(ha:PA X (e::es) t)(hn:autoParam (x ≠ "__name__") aU2._auto_1)(hdb:autoParam ((x==("__debug__" : Str))=false) aU1._auto_1)
  (he:autoParam (starEach (e::es) X.env=(false,eval e X.env)::starEach es X.env) aU4._auto_1) (hpl:autoParam ((backTo pos (starEach es X.env)).any (·.1)=false) aU4._auto_1):PE X (.Call (.Name x p) (e::es) [] pos) (tCB r t):=by
 intro pins s σ H Q I h
 refine bT (qqp I hg hm hv ?_ hn hdb)
 exact cR (thn (ha pos pins s σ H _ I h) λus s1 ⟨vs,H1,I1,r1,q1⟩=>hc pins s1 σ H1 vs us Q I1 r1 q1) he hpl
end
end L2
namespace HT
open PySem PyProof.Rows
section
open PySem.SeqAt
open PySem.AutoSeq1 (wpAny_loadPart')
open PySem.MeetsSeq PySem.MeetsSeq2 PySem.MeetsSeq3
end
section
variable {prog:Ac}{w:Ah}{A:Ae}{E:Ag→Ab→Prop}{s:Ab}
end
end HT
namespace L2
open PySem PySem.Spec PyProof.Rows
abbrev TO:=St→Hp→(Option Int→Hp→Prop)→Prop
def PO (X:Cx)(e:Option Expr)(t:TO):Prop :=
 ∀(pins:List (Aj×Obj)) (s:Ab) (σ:St) (H:Hp) (Q:Option Int→Hp→Prop),Inv X pins σ H s→t σ H Q →
  wpAny (model X.prog X.w) X.A (evalPart e X.env) (λu s'=>∃o H',Inv X pins σ H' s'∧IsPart u o∧Q o H') X.xe s
def wqt:TO:=λ_ H Q=>Q none H
def tPart (t:TE):TO:=λσ H Q=>t σ H λx H1=>∃i,x=.int i∧Q (some i) H1
theorem qz2 {ns:List Int}:∀ {us:List Ag},Vals (ns.map V.int) us→IntsAre us ns:=by
 induction ns with
 |nil=>intro us r;rw [cS] at r;cases r;exact .nil
 |cons n ns ih =>
  intro us r
  rw [aG] at r
  cases r with
  |cons r1 r2 =>
   obtain ⟨t,e⟩:=r1
   subst e
   exact .cons n t (ih r2)
section
variable {X:Cx}{e:Expr}{te:TE}{lo hi:Option Expr}{tl th:TO}{pos p2:Pos}
theorem wq6:PO X none wqt:=by
 intro pins s σ H Q I h
 rw [evalPart_none]
 exact az ⟨none,H,I,.none,h⟩
theorem wqr (h:PE X e te):PO X (some e) (tPart te):=by
 intro pins s σ H Q I hw
 rw [evalPart_some]
 refine thn (h pins s σ H _ I hw) λu s1 ⟨x,H1,I1,r1,q1⟩=>?_
 obtain ⟨i,rfl,q⟩:=q1
 obtain ⟨t,rfl⟩:=r1
 exact ⟨some i,H1,I1,.int i t,q⟩
def SlR (X:Cx)(r:V→Option Int→Option Int→Hp→VK→Prop):Prop :=
 ∀(pins:List (Aj×Obj)) (s:Ab) (σ:St) (H:Hp) (x:V) (v vl vu:Ag) (lo hi:Option Int) (sl:Aj) (Q:VK),Inv X pins σ H s→RelV x v→s.heap.IsSliceOf sl vl vu .none→IsPart vl lo→IsPart vu hi→r x lo hi H Q →
  ∃T id,typeLookup (.type T) "__getitem__" = pure (some (.builtin id))∧s.TypeIs v T∧wpAny (model X.prog X.w) X.A (getItem v (.ref sl)) (EP X pins σ Q) X.xe s
def tSl (r:V→Option Int→Option Int→Hp→VK→Prop)(te:TE)(tl th:TO):TE:=λσ H Q=>te σ H λx H1=>tl σ H1 λl H2=>th σ H2 λu H3=>r x l u H3 Q
theorem qy2 {r:V→Option Int→Option Int→Hp→VK→Prop}(hr:SlR X r)(he:PE X e te)(hl:PO X lo tl)(hu:PO X hi th):PE X (.Subscript e (.Slice lo hi none p2) pos) (tSl r te tl th):=by
 intro pins s σ H Q I h
 refine Subscript_ (thn (he pins s σ H _ I h) λv s1 ⟨x,H1,I1,r1,q1⟩=>?_)
 refine wpAny_Slice (thn (hl pins s1 σ H1 _ I1 q1) λvl s2 ⟨l,H2,I2,pl,q2⟩=>thn (hu pins s2 σ H2 _ I2 q2) λvu s3 ⟨u,H3,I3,pu,q3⟩=>?_)
 rw [evalPart_none]
 refine az ?_
 have I4:Inv X pins σ H3 { s3 with heap:=s3.heap.push { cls:=.type "slice",data:=.fields #[vl,vu,.none] } }:=I3.kept (t':=s3.toks) λb ob q=>ac _ q
 obtain ⟨T,id,hT,ht,hg⟩:=hr pins { s3 with heap:=s3.heap.push { cls:=.type "slice",data:=.fields #[vl,vu,.none] } } σ H3 x v vl vu l u s3.heap.objs.size Q I4 r1 (Heap.IsSliceOf.new ..) pl pu q3
 show wpAny (model X.prog X.w) X.A (subscriptTail e (.Slice lo hi none p2) v (.ref s3.heap.objs.size)) (EP X pins σ Q) X.xe { s3 with heap:=s3.heap.push { cls:=.type "slice",data:=.fields #[vl,vu,.none] } }
 exact tail_any (ops:=[.ref s3.heap.objs.size,v]) ht hT hg (by with_unfolding_all rfl)
end
def ixN (n:Nat)(i:Int):Option Nat:=if 0≤i then (if i<n then some i.toNat else none) else if -(n:Int)≤i then some (i+n).toNat else none
def atI {α:Type}(xs:List α)(i:Int):Option α:=(ixN xs.length i).bind λj=>xs[j]?
theorem wqk {n:Nat}{i:Int}{j:Nat}(h:ixN n i=some j):seqIndex? i n=some j∧j<n∧-(n:Int)≤i∧i<n:=by
 unfold ixN at h
 by_cases h0:0≤i
 ·rw [aj h0] at h
  by_cases h1:i<n
  ·rw [aj h1] at h
   have e:i.toNat=j:=ap h
   exact ⟨by rw [seqIndex_of h0 h1,e],⋯,⋯,h1⟩
  ·rw [ag h1] at h;cases h
 ·rw [ag h0] at h
  by_cases h1:-(n:Int)≤i
  ·rw [aj h1] at h
   have e:(i+n).toNat=j:=ap h
   exact ⟨by rw [seqIndex_neg ⋯ h1,e],⋯,h1,⋯⟩
  ·rw [ag h1] at h;cases h
theorem qqq {α:Type}{xs:List α}{i:Int}{v:α}(h:atI xs i=some v):∃j,seqIndex? i xs.length=some j∧xs[j]?=some v∧j<xs.length∧-(xs.length:Int)≤i∧i<xs.length:=by
 unfold atI at h
 cases e:ixN xs.length i with
 |none=>rw [e] at h;cases h
 |some j =>
  rw [e] at h
  obtain ⟨h1,h2,h3,h4⟩:=wqk e
  exact ⟨j,h1,h,h2,h3,h4⟩
theorem Jh {α:Type}{xs:List α}{j:Nat}{v:α}(h:xs[j]?=some v):atI xs (j:Int)=some v:=by
 have hj:j<xs.length:=(aL.mp h).1
 have e:ixN xs.length (j:Int)=some j:=by
  unfold ixN
  rw [aj ⋯,aj ⋯];simp
 unfold atI;rw [e];exact h
theorem qux {α:Type}(xs:List α)(v:α):atI (xs++[v]) (-1)=some v:=by
 have hl:(xs++[v]).length=xs.length+1:=by simp
 have e:ixN (xs++[v]).length (-1)=some xs.length:=by
  unfold ixN
  rw [hl,ag ⋯,aj ⋯]
  congr 1
  lia
 unfold atI
 rw [e]
 show (xs++[v])[xs.length]?=some v
 simp
def wq2 (b:Expr):Prop:=∀o i,subscripted b false o i=operate [o,i] (getItem o i)
def IxR (X:Cx)(r:R2):Prop :=
 ∀(value slice:Expr) (pins:List (Aj×Obj)) (s:Ab) (σ:St) (H:Hp) (x y:V) (v u:Ag) (Q:VK),Inv X pins σ H s→RelV x v→RelV y u→r x y H Q →
  subscripted slice false v u=operate [v,u] (getItem v u)→wpAny (model X.prog X.w) X.A (subscriptTail value slice v u) (EP X pins σ Q) X.xe s
def MtR (X:Cx)(id:String)(r:V→List V→Hp→VK→Prop):Prop :=
 ∀(pins:List (Aj×Obj)) (s:Ab) (σ:St) (H:Hp) (x:V) (xs:List V) (v:Ag) (us:List Ag) (Q:VK),Inv X pins σ H s→RelV x v→Vals xs us→r x xs H Q →
  wpAny (model X.prog X.w) X.A (call (.builtin id) (v::us)) (EP X pins σ Q) X.xe s
section
variable {X:Cx}{a b:Expr}{ta tb:TE}{pos:Pos}
theorem vc {r:R2}(hr:IxR X r)(ha:PE X a ta)(hb:PE X b tb)(hs:wq2 b):PE X (.Subscript a b pos) (tOp r ta tb):=by
 intro pins s σ H Q I h
 exact Subscript_ (binT ha hb I h λv u s2 x y H2 I2 rx ry q=>hr a b pins s2 σ H2 x y v u Q I2 rx ry q (hs _ _))
def rIxL (K:Aa):R2:=λx y H Q=>∃p xs i v,x=.ref p∧y=.int i∧SqL K H p xs∧atI xs i=some v∧Q v H
def rIxT (K:Aa):R2:=λx y H Q=>∃p xs i v,x=.ref p∧y=.int i∧SqT K H p xs∧atI xs i=some v∧Q v H
def rIxS:R2:=λx y H Q=>∃z i c,x=.str z∧y=.int i∧z.length≤sizeLine∧atI z.cps.toList i=some c∧Q (.str ⟨#[c]⟩) H
theorem k7:IxR X (rIxL X.K):=by
 intro value slice pins s σ H x y v u Q I rx ry h hs
 obtain ⟨p,xs,i,z,rfl,rfl,hq,he,q⟩:=h
 cases rx
 obtain ⟨t,rfl⟩:=ry
 obtain ⟨its,r,pl,hz⟩:=I.list hq
 obtain ⟨j,h1,h2,h3,h4,h5⟩:=qqq he
 obtain ⟨w,ew,rw'⟩:=r.get h2
 have hl:=r.length
 have hn:=Z3
 have fin:EP X pins σ Q w s:=⟨z,H,I,rw',q⟩
 by_cases h0:0≤i
 ·have hj:i.toNat=j:=by
   rw [seqIndex_of h0 h5] at h1
   exact ap h1
  exact item_listR pl.isList h0 ⋯ (by rw [hj];simpa using ew) fin hs
 ·have hj:(i+(its.toArray.size:Int)).toNat=j:=by
   rw [seqIndex_neg ⋯ h4] at h1
   rw [ay,←hl]
   exact ap h1
  exact subscriptTail_builtinR (x:=w) pl.isList.typeIs slot_list_getitem.lookup
   (wpAny_getItem_list_neg (Q:=λr s'=>r=w∧EP X pins σ Q r s') pl.isList ⋯ (by rw [ay] <;> lia) ⋯ (by rw [hj];simpa using ew) ⟨rfl,fin⟩) hs
theorem yt:IxR X (rIxT X.K):=by
 intro value slice pins s σ H x y v u Q I rx ry h hs
 obtain ⟨p,xs,i,z,rfl,rfl,hq,he,q⟩:=h
 cases rx
 obtain ⟨t,rfl⟩:=ry
 obtain ⟨its,r,pl,hz⟩:=I.tuple hq
 obtain ⟨j,h1,h2,h3,h4,h5⟩:=qqq he
 obtain ⟨w,ew,rw'⟩:=r.get h2
 have hl:=r.length
 have hn:=Z3
 have fin:EP X pins σ Q w s:=⟨z,H,I,rw',q⟩
 exact subscriptTail_builtinR (x:=w) pl.typeIs slot_tuple_getitem.lookup
  (getItem_tuple (j:=j) (Q:=λr s'=>r=w∧EP X pins σ Q r s') pl ⋯ ⋯ (by rw [ay,←hl];exact h1) (by simpa using ew) ⟨rfl,fin⟩) hs
theorem ix_str:IxR X rIxS:=by
 intro value slice pins s σ H x y v u Q I rx ry h hs
 obtain ⟨z,i,c,rfl,rfl,hz,he,q⟩:=h
 obtain ⟨t,rfl⟩:=rx
 obtain ⟨t',rfl⟩:=ry
 obtain ⟨j,h1,h2,h3,h4,h5⟩:=qqq he
 have hl:z.cps.toList.length=z.length:=by simp [Str.length]
 rw [hl] at h1 h4 h5
 have hn:=Z3
 exact tail_any (typeIs_str s z t) slot_str_getitem.lookup (getItem_str (c:=c) (by
  have e1:decide (i < -(2 ^ 63:Int))=false:=aY ⋯
  have e2:decide (i≥2 ^ 63)=false:=aY ⋯
  rw [e1,e2,Bool.or_false]) (by rw [h1];simpa using h2) ⟨.str ⟨#[c]⟩,H,I.tok _,⟨_,rfl⟩,q⟩) hs
theorem xc:z7 X (.builtin "len") (λxs H Q=>∃p ys,xs=[.ref p]∧(SqL X.K H p ys∨SqT X.K H p ys)∧Q (.int ys.length) H):=by
 intro pins s σ H xs us Q I r h
 obtain ⟨p,ys,rfl,hq,q⟩:=h
 obtain ⟨u,rfl,rx⟩:=jq r
 cases rx
 have hn:=Z3
 rcases hq with hq|hq
 ·obtain ⟨its,r',pl,hz⟩:=I.list hq
  have hlen:=r'.length
  exact Calls.call_len_list pl.isList (by simp only [ay] <;> lia) ⟨.int ys.length,H,I.tok _,⟨s.toks+1,by rw [ay,hlen]⟩,q⟩
 ·obtain ⟨its,r',pl,hz⟩:=I.tuple hq
  have hlen:=r'.length
  exact len_tuple pl (by simp only [ay] <;> lia) ⟨.int ys.length,H,I.tok _,⟨s.toks+1,by rw [ay,hlen]⟩,q⟩
theorem uf:z7 X (.builtin "len") (λxs H Q=>∃z,xs=[.str z]∧z.length≤sizeLine∧Q (.int z.length) H):=by
 intro pins s σ H xs us Q I r h
 obtain ⟨z,rfl,hz,q⟩:=h
 obtain ⟨u,rfl,t,rfl⟩:=jq r
 have hn:=Z3
 exact len_str ⋯ ⟨.int z.length,H,I.tok _,⟨_,rfl⟩,q⟩
theorem jr:z7 X (.type "list") (λxs H Q=>∃p ys,xs=[.ref p]∧(SqL X.K H p ys∨SqT X.K H p ys)∧∀l,H l=none→Q (.ref l) (upd H l (.lst ys))):=by
 intro pins s σ H xs us Q I r h
 obtain ⟨p,ys,rfl,hq,q⟩:=h
 obtain ⟨u,rfl,rx⟩:=jq r
 cases rx
 have fin:∀(its:List Ag),Vals ys its→ys.length≤sizeLine→∀(h':Heap) (c':Nat),(∀b o',s.heap.get? b=some o'→h'.get? b=some o') →
   h'.get? s.heap.objs.size=some { cls:=.type "list",dict:=none,data:=.seq its.toArray c',slots:=#[] }→EP X pins σ Q (.ref s.heap.objs.size) { s with heap:=h' }:=λits r' hz h' c' kp e =>
  ⟨.ref s.heap.objs.size,_,I.laid (t':=s.toks) kp (ae _) (show ObjOk X.prog X.w _ h' _ (.lst ys) from ⟨hz,its,c',r',e⟩),rfl,q _ (I.hok.fresh (ae _))⟩
 rcases hq with hq|hq
 ·obtain ⟨its,r',pl,hz⟩:=I.list hq
  have hlen:=r'.length
  obtain ⟨o,ho,hc,n,hd⟩:=pl.isList
  exact call_list_seq p (.inl rfl) ho hc hd (λh' c' kp e=>fin its r' hz h' c' kp e) (by simp only [ay] <;> lia)
 ·obtain ⟨its,r',pl,hz⟩:=I.tuple hq
  have hlen:=r'.length
  obtain ⟨o,ho,hc,n,hd⟩:=pl
  exact call_list_seq p (.inr rfl) ho hc hd (λh' c' kp e=>fin its r' hz h' c' kp e) (by simp only [ay] <;> lia)
def tyV (K:Aa)(T:String)(x:V)(H:Hp):Prop:=match x with
 |.str _=>T = "str"
 |.int _=>T = "int"
 |.ref p=>(T = "list" ∧ ∃xs,SqL K H p xs)∨(T = "tuple" ∧ ∃o,K.lookup p=some o∧o.cls=.type "tuple" ∧ o.dict=none) ∨
   (T = "dict" ∧ ((∃kvs,H p=some (.dK kvs))∨∃kvs,H p=some (.dT kvs)))∨(T = "set" ∧ ∃S n,H p=some (.set S n))
 |_=>False
theorem qk9 {pins:List (Aj×Obj)}{σ:St}{H:Hp}{s:Ab}{T:String}{x:V}{v:Ag}(I:Inv X pins σ H s)(r:RelV x v)(ty:tyV X.K T x H) :
  s.TypeIs v T∧∀a,v=.ref a→∃ob,s.heap.get? a=some ob∧ob.dict=none:=by
 cases x with
 |str z =>
  obtain ⟨t,rfl⟩:=r
  cases (show T = "str" from ty)
  exact ⟨typeIs_str s z t,λ_ e=>nomatch e⟩
 |int i =>
  obtain ⟨t,rfl⟩:=r
  cases (show T = "int" from ty)
  exact ⟨typeIs_int s i t,λ_ e=>nomatch e⟩
 |ref p =>
  cases r
  rcases ty with ⟨rfl,xs,hq⟩|⟨rfl,o,hk,hc,hd⟩|⟨rfl,hk⟩|⟨rfl,S,n,hk⟩
  ·obtain ⟨its,_,pl,_⟩:=I.list hq
   refine ⟨pl.isList.typeIs,λa e=>?_⟩
   cases e
   obtain ⟨o,n,e,c,hd,_⟩:=pl
   exact ⟨o,e,hd⟩
  ·refine ⟨⟨o,I.kIn p o hk,hc⟩,λa e=>?_⟩
   cases e
   exact ⟨o,I.kIn _ o hk,hd⟩
  ·have z:∃o,s.heap.get? p=some o∧o.ExactDict:=by
    rcases hk with ⟨kvs,hk⟩|⟨kvs,hk⟩
    ·obtain ⟨_,_,_,_,o,_,_,e,ex,_⟩:=I.hok p _ hk
     exact ⟨o,e,ex⟩
    ·obtain ⟨_,_,_,_,o,_,_,e,ex,_⟩:=I.hok p _ hk
     exact ⟨o,e,ex⟩
   obtain ⟨o,e,ex⟩:=z
   refine ⟨⟨o,e,ex.1⟩,λa e2=>?_⟩
   cases e2
   exact ⟨o,e,ex.2.1⟩
  ·obtain ⟨o,_,_,_,e,ex,_⟩:=I.hok p _ hk
   refine ⟨⟨o,e,ex.1⟩,λa e2=>?_⟩
   cases e2
   exact ⟨o,e,ex.2.1⟩
 |_=>exact False.elim ty
def tBM0 (K:Aa)(T:String)(r:V→List V→Hp→VK→Prop)(to:TE):TE:=λσ H Q=>to σ H λx H1=>tyV K T x H1∧r x [] H1 Q
def tBM (K:Aa)(T:String)(r:V→List V→Hp→VK→Prop)(to:TE)(t:TA):TE:=λσ H Q=>to σ H λx H1=>tyV K T x H1∧t σ H1 λxs H2=>r x xs H2 Q
variable {o e:Expr}{es:List Expr}{to:TE}{t:TA}{name:Str}{apos cpos:Pos}{T id:String}{r:V→List V→Hp→VK→Prop}
theorem pe_bm0 (pa:PlainAttrs T)(slot:Slot T name id)(hty:typeOf (.builtin id)=pure (.type "method_descriptor"))(hm:MtR X id r)(ho:PE X o to)
  (hbase:autoParam (attributeBase o name X.env (eval o X.env)=eval o X.env) aU4._auto_1) (hline:autoParam ((apos.endLine==cpos.line)=true) aU4._auto_1):PE X (.Call (.Attribute o name apos) [] [] cpos) (tBM0 X.K T r to):=by
 intro pins s σ H Q I h
 refine wpAny_Call_method0_late hbase hline (thn (ho pins s σ H _ I h) λv s1 ⟨x,H1,I1,r1,ty,q1⟩=>?_)
 obtain ⟨h1,h2⟩:=qk9 I1 r1 ty
 exact ⟨T,id,pa,slot,hty,h1,h2,bU rfl (PySem.evalArgs_none (hm pins s1 σ H1 x [] v [] Q I1 r1 .nil q1))⟩
theorem ur (pa:PlainAttrs T)(slot:Slot T name id)(hty:typeOf (.builtin id)=pure (.type "method_descriptor"))(hm:MtR X id r)(ho:PE X o to)(ha:PA X (e::es) t)
  (hbase:autoParam (attributeBase o name X.env (eval o X.env)=eval o X.env) aU4._auto_1)
  (hfew:autoParam (((backTo cpos (starEach (e::es) X.env)).all (λx=>!x.1)&&(backToKw cpos (keywordEach [] X.env)).all (λx=>x.1.isSome)
   && decide ((e::es).length+([]:List Keyword).length+(if ([]:List Keyword).isEmpty then 0 else 1)<30))=true) aU4._auto_1)
  (hline:autoParam ((apos.endLine==cpos.line)=true) aU4._auto_1) (hs:autoParam (starEach (e::es) X.env=(false,eval e X.env)::starEach es X.env) aU4._auto_1) (hplain:autoParam ((backTo cpos (starEach es X.env)).any (·.1)=false) aU4._auto_1) :
  PE X (.Call (.Attribute o name apos) (e::es) [] cpos) (tBM X.K T r to t):=by
 intro pins s σ H Q I h
 refine wpAny_Call_method_late hbase hfew hline rfl (thn (ho pins s σ H _ I h) λv s1 ⟨x,H1,I1,r1,ty,q1⟩=>?_)
 obtain ⟨h1,h2⟩:=qk9 I1 r1 ty
 refine ⟨T,id,pa,slot,hty,h1,h2,?_⟩
 have hA:=ha cpos pins s1 σ H1 _ I1 q1
 rw [hs] at hA ⊢
 refine bU (by show (false||(backTo cpos (starEach es X.env)).any (·.1))=false;rw [hplain] <;> rfl) (cI ?_)
 exact thn hA λus s2 ⟨vs,H2,I2,r2,q2⟩=>hm pins s2 σ H2 x vs v us Q I2 r1 r2 q2
end
def MtM (X:Cx)(id:String)(r:V→List V→Hp→VK→Prop):Prop :=
 ∀(pins:List (Aj×Obj)) (s:Ab) (σ:St) (H:Hp) (x:V) (xs:List V) (v:Ag) (us:List Ag) (Q:VK),Inv X pins σ H s→RelV x v→Vals xs us→r x xs H Q →
  wpAny (model X.prog X.w) X.A (call (.builtin id) (v::us)) (EP X pins σ Q) X.xe s
theorem Vals.one:∀ {x:V} {us:List Ag},Vals [x] us→∃u,us=[u]∧RelV x u
 |_,_,.cons r .nil=>⟨_,rfl,r⟩
theorem Vals.zero:∀ {us:List Ag},Vals [] us→us=[]
 |_,.nil=>rfl
theorem Vals.dropLast {xs:List V}{us:List Ag}(h:Vals xs us):Vals xs.dropLast us.dropLast:=by
 induction h with
 |nil=>exact .nil
 |cons r t ih =>
  cases t with
  |nil=>exact .nil
  |cons q t'=>exact .cons r ih
theorem Vals.reverse {xs:List V}{us:List Ag}(h:Vals xs us):Vals xs.reverse us.reverse:=by
 induction h with
 |nil=>exact .nil
 |cons r t ih=>rw [dj,dj];exact Vals.append ih (.cons r .nil)
theorem qz1 {α:Type}(l:List α):l.eraseIdx (l.length-1)=l.dropLast:=by
 induction l with
 |nil=>rfl
 |cons a r ih =>
  cases r with
  |nil=>rfl
  |cons b r =>
   have e:(a::b::r).length-1=((b::r).length-1)+1:=by
    have h1:(a::b::r).length=r.length+2:=rfl
    have h2:(b::r).length=r.length+1:=rfl
    lia
   rw [e,List.eraseIdx_cons_succ,ih]
   all_goals rfl
section
variable {X:Cx}{pins:List (Aj×Obj)}{σ:St}{H:Hp}{s:Ab}{l b:Aj}{xs ys zs:List V}
theorem Inv.lset {its its':List Ag}{n:Nat}{f:Array Ag→Array Ag}{t':Nat}(I:Inv X pins σ H s)(hH:H l=some (.lst xs))
  (e:s.heap.get? l=some { cls:=.type "list",data:=.seq its.toArray n }) (hf:f its.toArray=its'.toArray) (hv:Vals ys its') (hz:ys.length≤sizeLine) :
  Inv X pins σ (upd H l (.lst ys)) { s with heap:=s.heap.update l (Obj.mapSeq f),toks:=t' }:=by
 have q:=PySem.IsL.update e f
 rw [hf] at q
 refine I.write (x:=l) (e:=l) (by rw [hH];exact trivial) (.inl rfl) (λb' u hb hu=>(Heap.get?_update_other s.heap (Obj.mapSeq f) (aN hb)).trans hu) ⟨_,q⟩ ?_
 exact ⟨hz,its',_,hv,q⟩
theorem Inv.lnew {its:List Ag}{t':Nat}(I:Inv X pins σ H s)(hv:Vals ys its)(hz:ys.length≤sizeLine) :
  Inv X pins σ (upd H s.heap.objs.size (.lst ys)) { s with heap:=s.heap.push { cls:=.type "list",data:=.seq its.toArray },toks:=t' } :=
 I.laid (λ_ _ q=>ac _ q) (ae _) ⟨hz,its,0,hv,aq _ rfl⟩
theorem Inv.fresh (I:Inv X pins σ H s):H s.heap.objs.size=none:=I.hok.fresh (ae _)
theorem Inv.lstM (I:Inv X pins σ H s)(hH:H l=some (.lst xs)):xs.length≤sizeLine∧∃(its:List Ag) (n:Nat),Vals xs its∧xs.length=its.length∧s.heap.get? l=some { cls:=.type "list",data:=.seq its.toArray n }:=by
 obtain ⟨z,its,n,r,e⟩:=I.hok l _ hH
 exact ⟨z,its,n,r,r.length,e⟩
end
section
variable {X:Cx}
def qu0:V→List V→Hp→VK→Prop:=λx vs H Q=>∃l xs y,x=.ref l∧vs=[y]∧H l=some (.lst xs)∧xs.length<sizeLine∧Q .non (upd H l (.lst (xs++[y])))
theorem vg:MtM X "list.append" qu0:=by
 intro pins s σ H x vs v us Q I rx rv h
 obtain ⟨l,xs,y,rfl,rfl,hH,hz,q⟩:=h
 cases rx
 obtain ⟨u,rfl,ru⟩:=rv.one
 obtain ⟨z,its,n,r,hl,e⟩:=I.lstM hH
 refine call_meets F.slot_list_append ⟨_,e,rfl⟩ F.entry_list_append (F.args_list_append_2 _ _) (PySem.list_append l its.toArray n u (by rw [ay];lia)) ⟨e,?_⟩
 refine ⟨.non,_,I.lset (its':=its++[u]) hH e (by simp) (r.append (.cons ru .nil)) ?_,rfl,q⟩
 rw [aM,List.length_singleton]
 lia
def rPop:V→List V→Hp→VK→Prop:=λx vs H Q=>∃l xs y,x=.ref l∧vs=[]∧H l=some (.lst xs)∧xs[xs.length-1]?=some y∧Q y (upd H l (.lst xs.dropLast))
theorem mt_pop:MtM X "list.pop" rPop:=by
 intro pins s σ H x vs v us Q I rx rv h
 obtain ⟨l,xs,y,rfl,rfl,hH,hy,q⟩:=h
 cases rx
 have hus:=rv.zero
 subst hus
 obtain ⟨z,its,n,r,hl,e⟩:=I.lstM hH
 obtain ⟨u,hu,ru⟩:=r.get hy
 have hy':its.toArray[its.toArray.size-1]?=some u:=by
  show its.toArray[its.length-1]?=some u
  rw [←ca,←hl]
  exact hu
 refine call_meets F.slot_list_pop ⟨_,e,rfl⟩ F.entry_list_pop (F.args_list_pop_1 _) (MeetsSeq.list_pop_last l its.toArray n u hy' (by rw [ay];lia)) ⟨e,?_⟩
 refine ⟨y,_,I.lset (its':=its.dropLast) hH e ?_ r.dropLast ?_,ru,q⟩
 ·show its.toArray.eraseIdxIfInBounds (its.toArray.size-1)=its.dropLast.toArray
  rw [ay,List.eraseIdxIfInBounds_toArray,qz1]
 ·rw [List.length_dropLast]
  lia
def rCat:R2:=λx y H Q=>∃l b xs zs,x=.ref l∧y=.ref b∧H l=some (.lst xs)∧H b=some (.lst zs)∧xs.length+zs.length≤sizeLine∧∀p,H p=none→Q (.ref p) (upd H p (.lst (xs++zs)))
theorem qjg:OpR X (binaryOp .Add) rCat:=by
 intro pins s σ H x y v u Q I rx ry h
 obtain ⟨l,b,xs,zs,rfl,rfl,hH,hB,hz,q⟩:=h
 cases rx
 cases ry
 obtain ⟨z,its,n,r,hl,e⟩:=I.lstM hH
 obtain ⟨z2,its2,n2,r2,hl2,e2⟩:=I.lstM hB
 refine PySem.P.add_list e e2 ?_ (by rw [ay,ay];lia)
 have ea:its.toArray++its2.toArray=(its++its2).toArray:=by simp
 rw [ea]
 exact ⟨.ref _,_,I.lnew (t':=s.toks) (r.append r2) (by rw [aM];lia),rfl,q _ I.fresh⟩
end
section
variable {prog:Ac}{w:Ah}{A:Ae}{E:Ag→Ab→Prop}{s:Ab}
end
section
variable {X:Cx}
end
end L2
namespace Att
open PySem PySem.W PySem.Calls PyProof.Rows
theorem Ww {P:Params}{h:Heap}:∀(ns:List Int) (vs:List Ag),WellAll P h vs (ns.map WData.int)→IntsAre vs ns:=by
 intro ns
 induction ns with
 |nil =>
  intro vs w
  rw [cS] at w
  cases w
  exact .nil
 |cons n ns ih =>
  intro vs w
  rw [aG] at w
  cases w with
  |cons a b =>
   cases a
   exact .cons _ _ (ih _ b)
theorem qkz {l:OpenLaw}{n:Nat}(hn:l.most=some n){P:Params}{h:Heap}{args:List WData}{vals:List Ag}
  (hpre:l.row.toRowW.claim.pre args=true) (hwl:WellAll P h vals args) :
  ∃a vs ns,vals=[Value.ref a]∧args=[WData.list (ns.map WData.int)]∧h.get? a=some { cls:=.type "list",data:=.seq vs.toArray }∧IntsAre vs ns∧ns.length≤n:=by
 have hsh:WShape.hasAll [] args [.list .int]=true:=(pre_splitW hpre).1
 have hc:l.pre.holds [] { args:=args }=true:=(pre_splitW hpre).2
 obtain ⟨d,r,rfl,h1,h2⟩:=hasAllW_cons hsh
 obtain rfl:=hasAllW_nil h2
 obtain ⟨xs,rfl,h3⟩:=hasW_list h1
 obtain ⟨ns,rfl⟩:=items_int h3
 have hlen:ns.length≤n:=by
  unfold OpenLaw.pre at hc
  have h4:(WTm.not (.lt (.lit (.int (n:Int))) (.len (.arg 0)))).holds [] { args:=[.list (ns.map .int)] }=true:=by
   have h4:=(holds_andW hc).1
   rw [hn] at h4
   exact h4
  have h5:=condW_of h4 (w_not (w_lt w_lit (w_len_list (w_arg rfl))))
  rw [aa] at h5
  refine Nat.le_of_not_lt λq=>?_
  have q':(n:Int)<((ns.length:Nat):Int):=by lia
  first
   |(rw [bn q'] at h5;exact absurd h5 ⋯)
   |(simp at h5;lia)
 cases hwl with
 |cons w1 w2 =>
  cases w2
  cases w1 with
  |list ho hall=>exact ⟨_,_,ns,rfl,rfl,ho,Ww ns _ hall,hlen⟩
theorem qky (l:OpenLaw)(args:List WData):l.row.toRowW.claim.post args (.bool true) args=true :=
 postW_of (r:=l.row.toRowW) (X:=(true==true))
  (show WShape.has [] (.bool true) .bool=true by first | rfl | decide | simp [WShape.has,WShape.arms,WShape.armsAll])
  (show (WTm.eq .res (.lit (.bool true))).value [] { args:=args,res:=some (.bool true),after:=args }=some (.bool (true==true)) from w_eq_bool (w_res rfl) w_lit) rfl
theorem attach_call {l:OpenLaw}{n:Nat}{q:Ac}{loose:List Str}{XP:(Str→Option Ag)→Heap→Prop}{YP:Ah→Heap→Prop}{d:DefRec}
  (hn:l.most=some n) (hdf:d.params.defaults=[])
  (call:∀(w:Ah) (s₀ s₁:Ab) (mg mb:Str→Option Ag) (fa:Aj) (o:Obj) (pm cd doc:Ag) (a:Aj) (vs:List Ag) (ns:List Int),
   Ground q loose [] XP w s₀ mg mb s₁.heap→YP w s₁.heap →
   s₁.heap.get? fa=some o→o.data=.func (docDef d.name d.params d.body d.scope pm cd doc)→s₁.heap.CodeRec cd d.name→mg d.name=some (.ref fa) →
   s₁.heap.get? a=some { cls:=.type "list",data:=.seq vs.toArray }→IntsAre vs ns→ns.length≤n→s₁.gens=#[] →
   codeAny (model l.prog w) callerA (.call (.ref fa) ⟨[.ref a],[]⟩) (λr s'=>r=.ok (.ret (.bool true))∧OldK s₁.heap s'.heap∧s'.os=s₁.os∧AllBare s'.gens) s₁) :
  WalkO q loose XP YP l.row.toRowW d [] (λf vs=>PySem.call f vs):=by
 intro w s₀ s₁ mg mb G Y fa o pm cd doc dV kV ho hd hcd hD hmg hg args vals as hpre hlay hrd hwl hlo
 obtain rfl:dV=.none:=Dflts.none hD hdf
 obtain rfl:kV=.none:=Dflts.noKw hD
 obtain ⟨a,vs,ns,rfl,rfl,hobj,hints,hlen⟩:=qkz hn hpre hwl
 refine enter_call (cw (call w s₀ s₁ mg mb fa o pm cd doc a vs ns G Y ho (fd_plain hd) hcd hmg hobj hints hlen hg) λr s' hq=>?_)
 obtain ⟨rfl,h2,h3,h4⟩:=hq
 exact ⟨.inl ⟨.bool true,.bool true,[],rfl,λ_=>rfl,.bool true,qky l _,λ_=>⟨List.Pairwise.nil,λ_ hm=>(nomatch hm)⟩⟩,h2,h3,h4⟩
section
variable {prog:Ac}{w:Ah}{A:Ae}{E:Ag→Ab→Prop}{s:Ab}{K:Frag}
end
end Att
namespace L2
open PySem PySem.Spec PyProof.Rows
theorem Jk:∀ {vs:List Ag} {ns:List Int},IntsAre vs ns→Vals (ns.map V.int) vs
 |_,_,.nil=>.nil
 |_,_,.cons n t h=>.cons ⟨t,rfl⟩ (Jk h)
def Only (H:Hp):Prop:=∀b,H b=none∨∃o xs,H b=some (.frz o (.lst xs))
theorem qy3 {P:Ac}{w:Ah}{K:Aa}{mg mb:Str→Option Ag}{CX:CXT}{k:Nat}{fa a:Aj}{fd:Ad}{x:Str}{sp:Sp}{s₁:Ab}{vs:List Ag}{ns:List Int}
  (KX:K.In s₁.heap) (hns:s₁.heap.Ns mainGlobals mg) (hb:s₁.heap.Ns builtinsNs mb) (hbb:∀x:Str,x ≠ "__name__" → mb x=bootBuiltins x) (hlim:s₁.heap.NoLimit) (hg:s₁.gens=#[])
  (ha:s₁.heap.get? a=some { cls:=.type "list",data:=.seq vs.toArray }) (hi:IntsAre vs ns) (hl:ns.length≤sizeLine) (hr:Room k callerA)
  (F:∀base:Heap,K.In base→base.Ns mainGlobals mg→FnOk P w K mg base CX k fa fd [x] sp) (hbind:∀(s:Ab) (u:Ag),BindsTo s fd ⟨[u],[]⟩ [(x,u)])
  (hsp:∀H:Hp,Only H→SqL K H a (ns.map V.int)→sp [.ref a] H (λv _=>v=.bl true) λ_ _ _=>False)
  (hCX:∀H e s',CX [] H s₁ (λ_ _ _=>False) e s'→False) :
  codeAny (model P w) callerA (.call (.ref fa) ⟨[.ref a],[]⟩) (λr s'=>r=.ok (.ret (.bool true))∧OldK s₁.heap s'.heap∧s'.os=s₁.os∧AllBare s'.gens) s₁:=by
 have rv:=Jk hi
 have lenV:=hi.length
 have core:∀H:Hp,Only H→SqL K H a (ns.map V.int)→HOk P w H s₁.heap→(∀b,H b≠none→b=a)→(H a≠none→K.lookup a=none) →
   codeAny (model P w) callerA (.call (.ref fa) ⟨[.ref a],[]⟩) (λr s'=>r=.ok (.ret (.bool true))∧OldK s₁.heap s'.heap∧s'.os=s₁.os∧AllBare s'.gens) s₁:=by
  intro H hO hS hok hA hK
  have base_of:∀ {b:Aj} {o:Obj},s₁.heap.get? b=some o→H b=none→(qqd s₁.heap H).get? b=some o:=λe n=>qjv e n
  have noA:∀ {b:Aj} {o:Obj} {es:Array DictEntry} {ep:Nat},s₁.heap.get? b=some o→o.data=.dict es ep→H b=none:=λ{b o es ep} e d=>by
   cases q:H b with
   |none=>rfl
   |some u =>
    have e':b=a:=hA b (by rw [q];simp)
    subst e'
    rw [ha] at e;cases e
    have d':Data.seq vs.toArray _=Data.dict es ep:=d
    cases d'
  have nsK:∀ {b:Aj} {m:Str→Option Ag},s₁.heap.Ns b m→(qqd s₁.heap H).Ns b m:=λ{b m} ⟨o,es,ep,e,d,r⟩=>⟨o,es,ep,base_of e (noA e d),d,r⟩
  have hKb:K.In (qqd s₁.heap H):=λb o e=>base_of (KX b o e) (by
   cases q:H b with
   |none=>rfl
   |some u =>
    have e':b=a:=hA b (by rw [q];simp)
    subst e'
    rw [hK (by rw [q];simp)] at e;cases e)
  have hM:Mod K mg (qqd s₁.heap H):=⟨hKb,nsK hns,⟨mb,nsK hb,hbb⟩,let ⟨mc,h1,h2⟩:=hlim;⟨mc,nsK h1,h2⟩⟩
  have e0:Env0 P w K mg (qqd s₁.heap H) callerA [] s₁ H:=⟨rfl,hM,λb o e=>wqf e,Nat.le_of_eq (qk0 _ _),trivial,λb hb=>absurd (show b∈([]:List Aj) from hb) (by simp),hok,.of_eq hg⟩
  refine cw ((F _ hKb (nsK hns)).run callerA [] s₁ H ⟨[.ref a],[]⟩ [.ref a] [.ref a] _ _ hr e0 (hbind s₁ (.ref a)) (.cons rfl .nil) (hsp H hO hS)) λr s' h=>?_
  cases r with
  |error e=>exact (hCX H e s' h).elim
  |ok fl =>
   cases fl with
   |next=>exact False.elim h
   |brk=>exact False.elim h
   |cont=>exact False.elim h
   |ret u =>
    obtain ⟨v,H',os,bare,un,hok',r',q⟩:=h
    have q':v=.bl true:=q
    subst q'
    obtain rfl:u=Value.bool true:=r'
    refine ⟨rfl,OldK.of_keep λb o e=>?_,os,bare⟩
    cases q:H b with
    |none=>exact un.keep b o e q (by intro z;exact absurd (show b∈([]:List Aj) from z) (by simp)) (by simp)
    |some u =>
     rcases hO b with z|⟨ob,xs,z⟩
     ·rw [q] at z;cases z
     ·have z2:=un.frzs b ob _ z
      obtain ⟨e1,_⟩:=hok b _ z
      obtain ⟨e2,_⟩:=hok' b _ z2
      rw [e] at e1;cases e1
      exact e2
 cases hk:K.lookup a with
 |some o =>
  have e:=KX a o hk
  rw [ha] at e
  cases e
  refine core (λ_=>none) (λ_=>.inl rfl) (.inr ⟨_,vs.toArray,_,hk,rfl,rfl,rfl,by rw [ay,lenV];exact hl,by simpa using rv⟩) (λb u z=>by have z':(none:Option HO)=some u:=z;cases z') (λb z=>absurd rfl z) λz=>absurd rfl z
 |none =>
  refine core (λb=>if b=a then some (.frz { cls:=.type "list",data:=.seq vs.toArray } (.lst (ns.map V.int))) else none) (λb=>?_) (.inl (.inr ⟨{ cls:=.type "list",data:=.seq vs.toArray },aj rfl⟩)) (λb u z=>?_) (λb z=>?_) λ_=>hk
  ·by_cases hb:b=a
   ·exact .inr ⟨_,_,aj hb⟩
   ·exact .inl (ag hb)
  ·by_cases hb:b=a
   ·have z':=(aj hb).symm.trans z
    cases z'
    subst hb
    exact ⟨ha,by rw [aa];exact hl,vs,_,rv,ha⟩
   ·have z':=(ag hb).symm.trans z
    cases z'
  ·by_cases hb:b=a
   ·exact hb
   ·exact absurd (ag hb) z
theorem qu7 {l:W.OpenLaw}{n k:Nat}{q:Ac}{loose:List Str}{XP:(Str→Option Ag)→Heap→Prop}{YP:Ah→Heap→Prop}{d:DefRec}{K:Params→Aa}{CX:Ah→CXT}{sp:Ah→Sp}{x:Str}
  (hn:l.most=some n) (hn2:n≤sizeLine) (hdf:d.params.defaults=[]) (hr:Room k callerA)
  (hY:∀(w:Ah) (h:Heap),YP w h→(K w.params).In h)
  (F:∀(w:Ah) (mg:Str→Option Ag) (fa:Aj) (h:Heap),(K w.params).In h→h.Ns mainGlobals mg→mg d.name=some (.ref fa) →
   ∃fd:Ad,(∀(s:Ab) (u:Ag),BindsTo s fd ⟨[u],[]⟩ [(x,u)]) ∧
    ∀base:Heap,(K w.params).In base→base.Ns mainGlobals mg→FnOk l.prog w (K w.params) mg base (CX w) k fa fd [x] (sp w))
  (hsp:∀(w:Ah) (H:Hp) (a:Aj) (ns:List Int),ns.length≤n→Only H→SqL (K w.params) H a (ns.map V.int)→sp w [.ref a] H (λv _=>v=.bl true) λ_ _ _=>False)
  (hCX:∀(w:Ah) (H:Hp) (s:Ab) (e:Ag) (s':Ab),CX w [] H s (λ_ _ _=>False) e s'→False) :
  W.WalkO q loose XP YP l.row.toRowW d [] (λf vs=>PySem.call f vs):=by
 refine Att.attach_call hn hdf λw s₀ s₁ mg mb fa o pm cd doc a vs ns G Y ho hd hcd hmg hobj hints hlen hg=>?_
 have KX:=hY w _ Y
 obtain ⟨fd,hb,hF⟩:=F w mg fa _ KX G.T.g hmg
 exact qy3 KX G.T.g G.T.b G.T.builtins G.T.nolimit hg hobj hints (bd hlen hn2) hr hF hb (λH hO hS=>hsp w H a ns hlen hO hS) λH e s'=>hCX w H s₁ e s'
def x9 (s:Stmt)(j:Nat):Stmt:=match s with
 |.ClassDef _ _ _ body _ _ _ _ _ _ _=>body.getD j (.Pass ⟨0,0,0,0⟩)
 |_=>.Pass ⟨0,0,0,0⟩
def k8 (s:Stmt):Arguments:=match s with
 |.FunctionDef _ a _ _ _ _ _ _ _ _=>a
 |_=>{ posonlyargs:=[],args:=[],vararg:=none,kwonlyargs:=[],kw_defaults:=[],kwarg:=none,defaults:=[] }
def vd (s:Stmt):List Stmt:=match s with
 |.FunctionDef _ _ b _ _ _ _ _ _ _=>b
 |_=>[]
def wu (s:Stmt):Scope:=match s with
 |.FunctionDef _ _ _ _ _ _ sc _ _ _=>sc
 |_=>{ kind:=.function,names:=[],isGenerator:=false,isCoroutine:=false }
abbrev E0:XK:=λ_ _ _=>False
structure Fun (K:Aa)(x qual:Str)(st:Stmt)(f:Aj)(fd:Ad):Prop where
 ex:∃(oc:Ag) (od:Option Aj) (kV doc pm:Ag) (an:Option Aj) (cdv ct:Ag) (osl:Array (Option Ag)),
  fd=W.fnOf x qual (k8 st) (vd st) (wu st) .none kV doc pm an cdv ct∧K.lookup f=some ⟨oc,od,.func fd,osl⟩∧W.codeIn K cdv qual=true
 kp:W.keepIn K (.ref f)=true
section
variable {P:Ac}{w:Ah}{K:Aa}{mg:Str→Option Ag}{base:Heap}
theorem Fun.binds {x qual:Str}{st:Stmt}{f:Aj}{fd:Ad}{ps:List Str}(F:Fun K x qual st f fd)
  (h:∀(kV doc pm:Ag) (an:Option Aj) (cdv ct:Ag) (us:List Ag),us.length=ps.length→bindArgs (W.fnOf x qual (k8 st) (vd st) (wu st) .none kV doc pm an cdv ct) ⟨us,[]⟩=pure (ps.zip us)):Binds K fd ps []:=by
 obtain ⟨oc,od,kV,doc,pm,an,cdv,ct,osl,rfl,lk,hcd⟩:=F.ex
 exact .all (h kV doc pm an cdv ct)
theorem qj8 {x qual:Str}{st:Stmt}{f:Aj}{oc:Ag}{od an:Option Aj}{osl:Array (Option Ag)}{kV doc pm cdv ct:Ag}(l:K.lookup f=some ⟨oc,od,.func (W.fnOf x qual (k8 st) (vd st) (wu st) .none kV doc pm an cdv ct),osl⟩)
  (c:W.codeIn K cdv qual=true) (k:W.keepIn K (.ref f)=true):Fun K x qual st f (W.fnOf x qual (k8 st) (vd st) (wu st) .none kV doc pm an cdv ct):=⟨⟨oc,od,kV,doc,pm,an,cdv,ct,osl,rfl,l,c⟩,k⟩
end
theorem kf {A:Ae}{k:Nat}(hr:Room k A):A.units+1<cLine:=Nat.lt_of_le_of_lt (Nat.add_le_add_left (by decide:1≤64) _) hr.units
section
variable {X:Cx}
theorem pv (i:Nat){x:Str}{pos:Pos}(hN:autoParam (X.N[i]?=some x) aU4._auto_1)(hv:Vis X.env.scope x:=by walk_at "vs")(hd:autoParam ((x==("__debug__" : Str))=false) aU1._auto_1)
  (hcd:autoParam ((x==("__classdict__" : Str))=false) aU1._auto_1):PE X (.Name x pos) (ud i):=pe_var hN hv hd hcd
end
theorem Z8 {A B:Prop}(h:B):if false=true then A else B:=by
 rw [ag aB]
 exact h
theorem W7 {A B:Prop}(h:A):if true=true then A else B:=by
 rw [aj rfl]
 exact h
theorem iteNS {c A B:Prop}[Decidable c](hc:c)(h:B):if (!decide c)=true then A else B:=by
 rw [bn hc]
 exact Z8 h
def Same (H H':Hp):Prop:=∀b o,H b=some o→H' b=some o
theorem Same.refl (H:Hp):Same H H:=λ_ _ h=>h
theorem Same.trans {H H1 H2:Hp}(a:Same H H1)(b:Same H1 H2):Same H H2:=λc o h=>b c o (a c o h)
theorem Same.free {H H':Hp}(e:Same H H'){l:Aj}(h:H' l=Option.none):H l=Option.none:=by
 cases q:H l with
 |none=>rfl
 |some o =>
  rw [e l o q] at h
  cases h
theorem Same.seq {K:Aa}{H H':Hp}{a:Aj}{xs:List V}(e:Same H H')(h:SqL K H a xs):SqL K H' a xs:=by
 rcases h with (h|⟨o,h⟩)|h
 ·exact .inl (.inl (e _ _ h))
 ·exact .inl (.inr ⟨o,e _ _ h⟩)
 ·exact .inr h
theorem nin {b:Aj}:b∉([]:List Aj):=λz=>nomatch z
theorem wqu {K:Aa}{h:Heap}{C:Aj}{bmB:List Ag}{newId:String}(X:K.In h)(q:W.excIn K C bmB newId=true) :
  ∃tl N a1 a2 a3 a4 a5 a6 a7 a8 a9 b0 b1 b2 b3 b5 mN,h.get? C=some (excClassObj a1 a2 C N a3 tl a4 a5 a6 a7 a8 a9 b0 b1 b2 b3 b5 newId) ∧
   h.Ns N mN∧mN "__init__" = none∧OwnTail h bmB tl:=by
 unfold W.excIn at q
 split at q
 ·next dd cd sl ho =>
  split at q
  ·next C1 tl x0 x1 x2 x3 nn x5 hm hs =>
   rw [bI,bI,bI,bI,bI] at q
   obtain ⟨⟨⟨⟨⟨p1,p2⟩,p3⟩,p4⟩,p5⟩,p6⟩:=q
   have p1':=eq_of_beq p1
   have p2':=eq_of_beq p2
   have p6':=eq_of_beq p6
   have p3':cd.hasDel=false:=by simpa using p3
   subst p1' p2'
   obtain ⟨f1,f2,f3,f4,f5,f6,f7,f8,f9,f10,f11⟩:=cd
   have hm':f3=Value.ref C1::tl:=hm
   have p3'':f11=false:=p3'
   subst hm' p3''
   have hsl:sl=#[x0,x1,x2,x3,some (.builtin nn),x5]:=by
    cases sl with
    |mk l =>
     have:l=[x0,x1,x2,x3,some (.builtin nn),x5]:=hs
     rw [this]
   subst hsl
   have nsok:=W.isNs_of_in X p5
   exact ⟨tl,f4,f1,f5,f2,f6,f7,f8,f9,f10,dd,x0,x1,x2,x3,x5,_,X _ _ ho,.of_isNs nsok,W.nsMap_none_of_in X p5 p6',W.tail_of_in X p4⟩
  ·exact absurd q ⋯
 ·exact absurd q ⋯
def CXE (P:Ac)(w:Ah):CXT:=λouter H s E e s' =>
 ∃(a C:Aj) (a0:Ag) (B:Heap) (H':Hp),e=.ref a∧s'.os=s.os∧AllBare s'.gens∧Un (frs outer) [] H H' s.heap s'.heap∧HOk P w H' B ∧
  Heap.FlyingW B outer a (.ref C) a0 s'.heap∧(∀b o,s.heap.get? b=some o→b∉frs outer→∃o',B.get? b=some o'∧(H b=none→o'=o))∧E (.ref C) none H'
theorem CXE.no {P:Ac}{w:Ah}{outer:List Env}{H:Hp}{s s':Ab}{e:Ag}(h:CXE P w outer H s E0 e s'):False:=by
 obtain ⟨_,_,_,_,_,_,_,_,_,_,_,_,q⟩:=h
 exact q
def kh (X:Cx)(E:St→XK):Prop:=∀(pins:List (Aj×Obj)) (σ:St) (H:Hp) (s:Ab) (e:Ag) (s':Ab),Inv X pins σ H s→CXE X.prog X.w X.stack H s (E σ) e s'→X.xe e s'
theorem qx7 {X:Cx}:kh X (λ_=>E0):=λ_ _ _ _ _ _ _ h=>h.no.elim
def qy4 (X:Cx)(E:St→XK):Prop:=∀(pins:List (Aj×Obj)) (σ:St) (H:Hp) (s:Ab) (h':Heap) (e C:Aj) (vs:List Ag),Inv X pins σ H s→Heap.MadeExcOf s.heap h' e (.ref C) vs→E σ (.ref C) none H→X.xe (.ref e) { s with heap:=h' }
theorem qwc {env:Env}{L:Aj}{outer:List Env}(h:env.frame=some L):frs (env::outer)=L::frs outer:=by
 unfold frs
 rw [cr,h]
section
variable {P:Ac}{w:Ah}{K:Aa}{mg:Str→Option Ag}{base:Heap}{N:List Str}{qual:Str}{scope:Scope}{f:Aj}{cdv:Ag}{A:Ae}{outer:List Env}{s0:Ab}{H0:Hp}{E:XK}
theorem qr:kh (qq9 (CXE P w) P w K mg base N qual scope f cdv A outer s0 H0 E) (λ_=>E):=by
 intro pins σ H s e s' I hx
 obtain ⟨a,C,a0,B,H',rfl,hos,hba,un,hokB,hfl,old,q⟩:=hx
 have ub:=I.base
 have hL:∀b o,s0.heap.get? b=some o→b≠s0.heap.objs.size:=λb o e z=>aZ _ (z▸af e)
 have hfs:frs (envOfC qual scope s0.heap.objs.size f cdv::outer)=s0.heap.objs.size::frs outer:=qwc rfl
 have hmem:∀b o,s0.heap.get? b=some o→b∉frs outer→b∉frs (envOfC qual scope s0.heap.objs.size f cdv::outer):=λb o e n=>by
  rw [hfs]
  intro z
  rcases ak.mp z with z|z
  ·exact hL b o e z
  ·exact n z
 have hold:∀b o,s0.heap.get? b=some o→b∉frs outer→∃o',B.get? b=some o'∧(H0 b=none→o'=o):=λb o e n=>by
  obtain ⟨o1,e1⟩:=ub.there b o e nin
  obtain ⟨o2,e2,e3⟩:=old b o1 e1 (hmem b o e n)
  refine ⟨o2,e2,λz=>?_⟩
  have e4:=ub.keep b o e z n nin
  have e5:=ub.free b o e z nin
  rw [e1] at e4
  rw [e3 e5]
  exact ap e4
 refine wpAny_leaves_onW I.ok.frames rfl hfl λh' hf' hup=>?_
 have toH:∀b,b∈frs outer→∀o,s0.heap.get? b=some o→H0 b=none→∃sl,h'.get? b=some { o with slots:=sl }:=λb hb o e n=>by
  obtain ⟨sl,e1⟩:=ub.slot b o e n hb nin
  obtain ⟨sl2,e2⟩:=un.slot b _ e1 (ub.free b o e n nin) (by show b∈frs (envOfC qual scope s0.heap.objs.size f cdv::outer);rw [hfs];exact .tail _ hb) nin
  obtain ⟨_,o3,e3,nf⟩:=hfl.2.2.1.mem (b:=b) (by show b∈frs (envOfC qual scope s0.heap.objs.size f cdv::outer);rw [hfs];exact .tail _ hb)
  obtain ⟨sl4,e4⟩:=hup b o3 e3 nf
  rw [e2] at e3
  have e5:=ap e3
  exact ⟨sl4,by rw [e4,←e5]⟩
 refine ⟨a,C,a0,B,H',rfl,hos.trans I.os,hba,⟨λb o e n nb _=>?_,λb o e n hb _=>toH b hb o e n,λb o e n _=>?_,λb o e _=>?_,λb xs e=>un.tups b xs (ub.tups b xs e),λb o u e=>un.frzs b o u (ub.frzs b o u e),λb ps e=>?_⟩,hokB,hf',hold,q⟩
 ·obtain ⟨o',e1,e2⟩:=hold b o e nb
  rw [e2 n] at e1
  exact hf'.1 b o e1
 ·obtain ⟨o1,e1⟩:=ub.there b o e nin
  exact un.free b o1 e1 (ub.free b o e n nin) nin
 ·by_cases hb:b∈frs outer
  ·obtain ⟨o1,e1⟩:=ub.there b o e nin
   obtain ⟨o2,e2⟩:=un.there b o1 e1 nin
   obtain ⟨_,o3,e3,nf⟩:=hfl.2.2.1.mem (b:=b) (by show b∈frs (envOfC qual scope s0.heap.objs.size f cdv::outer);rw [hfs];exact .tail _ hb)
   obtain ⟨sl4,e4⟩:=hup b o3 e3 nf
   exact ⟨_,e4⟩
  ·obtain ⟨o',e1,_⟩:=hold b o e hb
   exact ⟨o',hf'.1 b o' e1⟩
 ·obtain ⟨m1,e1⟩:=ub.tbls b ps e
  obtain ⟨m2,e2⟩:=un.tbls b _ e1
  exact ⟨m1++m2,by rw [e2,Array.append_assoc]⟩
theorem zj:qy4 (qq9 (CXE P w) P w K mg base N qual scope f cdv A outer s0 H0 E) (λ_=>E):=by
 intro pins σ H s h' e C vs I hx q
 have ub:=I.base
 have hfs:frs (envOfC qual scope s0.heap.objs.size f cdv::outer)=s0.heap.objs.size::frs outer:=qwc rfl
 have hmem:∀b o,s0.heap.get? b=some o→b∉frs outer→b∉frs (envOfC qual scope s0.heap.objs.size f cdv::outer):=λb o e n=>by
  rw [hfs]
  intro z
  rcases ak.mp z with z|z
  ·exact aZ _ (z▸af e)
  ·exact n z
 have hfree:∀b∈frs (envOfC qual scope s0.heap.objs.size f cdv::outer),H b=none:=I.stkFree
 have hB:∀b o,s.heap.get? b=some o→b∉frs (envOfC qual scope s0.heap.objs.size f cdv::outer)→(W.hideAll s.heap (frs (envOfC qual scope s0.heap.objs.size f cdv::outer))).get? b=some o:=λb o e n=>W.hideAll_get _ e n
 have hokB:HOk P w H (W.hideAll s.heap (frs (envOfC qual scope s0.heap.objs.size f cdv::outer))):=λb u hb=>by
  refine (I.hok b u hb).stay (λc v hc ec=>hB c v ec λhm=>?_) (λ_ z=>z) (λ_ _ z=>z)
  have hn:=hfree c hm
  rcases hc with rfl|hc
  ·rw [hn] at hb;cases hb
  ·rw [hn] at hc;cases hc
 have hold:∀b o,s0.heap.get? b=some o→b∉frs outer→∃o',(W.hideAll s.heap (frs (envOfC qual scope s0.heap.objs.size f cdv::outer))).get? b=some o'∧(H0 b=none→o'=o):=λb o e n=>by
  obtain ⟨o1,e1⟩:=ub.there b o e nin
  refine ⟨o1,hB b o1 e1 (hmem b o e n),λz=>?_⟩
  have e4:=ub.keep b o e z n nin
  rw [e1] at e4
  exact ap e4
 have hst:s.heap.FunFrames base (envOfC qual scope s0.heap.objs.size f cdv::outer):=I.stack
 have hff:=W.funFrames_hide (as:=frs (envOfC qual scope s0.heap.objs.size f cdv::outer)) hst (λenv he b hb=>cW.mpr ⟨env,he,hb⟩)
 refine wpAny_leaves_madeW (base:=W.hideAll s.heap (frs (envOfC qual scope s0.heap.objs.size f cdv::outer))) (h:=s.heap) I.ok.frames rfl (λb o e=>W.of_hideAll _ e) hff hx λh'' t hf' _ _ hup=>?_
 have toF:∀b,b∈frs outer→∃o,s.heap.get? b=some o∧∃sl,h''.get? b=some { o with slots:=sl }:=λb hb=>by
  obtain ⟨_,o3,e3,nf⟩:=hst.mem (b:=b) (by show b∈frs (envOfC qual scope s0.heap.objs.size f cdv::outer);rw [hfs];exact .tail _ hb)
  exact ⟨o3,e3,hup b o3 (hx.keeps b o3 e3) nf⟩
 refine ⟨e,C,.ref t,_,H,rfl,I.os,I.bare,⟨λb o e1 n nb _=>?_,λb o e1 n hb _=>?_,λb o e1 n _=>ub.free b o e1 n nin,λb o e1 _=>?_,ub.tups,ub.frzs,ub.tbls⟩,hokB,hf',hold,q⟩
 ·obtain ⟨o',e2,e3⟩:=hold b o e1 nb
  rw [e3 n] at e2
  exact hf'.1 b o e2
 ·obtain ⟨sl,e2⟩:=ub.slot b o e1 n hb nin
  obtain ⟨o3,e3,sl3,e4⟩:=toF b hb
  rw [e2] at e3
  have e5:=ap e3
  exact ⟨sl3,by rw [e4,←e5]⟩
 ·by_cases hb:b∈frs outer
  ·obtain ⟨o3,e3,sl3,e4⟩:=toF b hb
   exact ⟨_,e4⟩
  ·obtain ⟨o',e2,_⟩:=hold b o e1 hb
   exact ⟨o',hf'.1 b o' e2⟩
end
section
variable {P:Ac}{w:Ah}{K:Aa}{mg:Str→Option Ag}{base:Heap}
end
def W5 (sp:Sp)(E:St→XK)(t:TA):TE:=λσ H Q=>t σ H λvs H1=>sp vs H1 Q (E σ)
def Zp (C:Aj)(m:Str)(sp:Sp)(E:St→XK)(ta:TE)(t:TA):TE:=λσ H Q=>ta σ H λx H1=>∃a dx fs,x=.ref a∧H1 a=some (.ins C dx fs)∧fs.lookup m=none ∧
 t σ H1 λvs H2=>sp (x::vs) H2 Q (E σ)
def qx2 (C:Aj)(sp:Sp)(E:St→XK)(t:TA):TE:=λσ H Q=>t σ H λvs H1=>∀x dx,H1 x=none→H1 dx=none→dx≠x →
 sp (.ref x::vs) (upd (upd H1 dx (.own x)) x (.ins C dx [])) (λv H2=>v=.non∧Q (.ref x) H2) (E σ)
section
variable {X:Cx}{k:Nat}{f C:Aj}{fd:Ad}{ps:List Str}{sp:Sp}{E:St→XK}{x m:Str}{p pos apos:Pos}{e o:Expr}{es:List Expr}{ta:TE}{t:TA}
theorem qqr {pins:List (Aj×Obj)}{σ:St}{H:Hp}{s:Ab}{Q:VK}{us:List Ag}{vs:List V}(F:FnOk X.prog X.w X.K X.mg X.base (CXE X.prog X.w) k f fd ps sp)(hr:Room k X.A)(hb:Binds X.K fd ps [])(hx:kh X E)
  (I:Inv X pins σ H s) (r:Vals vs us) (h:sp vs H Q (E σ)):wpAny (model X.prog X.w) X.A (call (.ref f) us) (EP X pins σ Q) X.xe s:=by
 have hl:(us++[]).length=ps.length:=by rw [bY,←r.length];exact F.len _ _ _ _ h
 have hb':=hb s us I.kIn hl
 rw [bY] at hb'
 refine wpAny_call (cw (F.run X.A X.stack s H ⟨us,[]⟩ us vs Q (E σ) hr I.env0 hb' r h) λr s' hq=>?_)
 cases r with
 |error e=>exact hx pins σ H s e s' I hq
 |ok fl =>
  cases fl with
  |ret u=>exact I.after hq
  |next=>exact False.elim hq
  |brk=>exact False.elim hq
  |cont=>exact False.elim hq
theorem qyb (F:FnOk X.prog X.w X.K X.mg X.base (CXE X.prog X.w) k f fd ps sp)(hr:Room k X.A)(hg:Gl X x)(hm:X.mg x=some (.ref f))(hk:W.keepIn X.K (.ref f)=true)(hb:Binds X.K fd ps [])(hx:kh X E)
  (ha:PA X (e::es) t) (hdb:autoParam ((x==("__debug__" : Str))=false) aU1._auto_1) (he:autoParam (starEach (e::es) X.env=(false,eval e X.env)::starEach es X.env) aU4._auto_1) (hpl:autoParam ((backTo pos (starEach es X.env)).any (·.1)=false) aU4._auto_1) :
  PE X (.Call (.Name x p) (e::es) [] pos) (W5 sp E t):=by
 intro pins s σ H Q I h
 refine bT (ug I hg hm ?_ hdb)
 refine cY (h₀:=X.base) I.ok.mod.kin hk (thn (ha pos pins s σ H _ I h) λus s1 ⟨vs,H1,I1,r,q⟩=>⟨I1.kIn,?_⟩) he hpl
 exact qqr F hr hb hx I1 r q
theorem qy9 {pl:Sem Bool}(he:PE X o ta)(c:Cls X.K C)(hm:Meth X.K C m f)(F:FnOk X.prog X.w X.K X.mg X.base (CXE X.prog X.w) k f fd ps sp)(hr:Room k X.A)(hb:Binds X.K fd ps [])(hx:kh X E)(ha:PA X (e::es) t)
  (hst:autoParam (starEach (e::es) X.env=(false,eval e X.env)::starEach es X.env) aU4._auto_1) (hpl:autoParam ((backTo pos (starEach es X.env)).any (·.1)=false) aU4._auto_1)
  (ht:autoParam (eval (.Call (.Attribute o m apos) (e::es) [] pos) X.env=(do
   let ov ←eval o X.env
   standAt apos.atName
   let (f,first) ←holding [ov] (getMethod ov m pl)
   callWith pos f first (backTo pos (starEach (e::es) X.env)) (backToKw pos (keywordEach [] X.env)))) aU4._auto_1) :
  PE X (.Call (.Attribute o m apos) (e::es) [] pos) (Zp C m sp E ta t):=by
 intro pins s σ H Q I h
 refine W.methodCall_KW (pl:=pl) (thn (he pins s σ H _ I h) λu s1 ⟨x,H1,I1,rx,a,dx,fs,ex,ea,l,q⟩=>?_) ht
 subst ex
 obtain rfl:u=Value.ref a:=rx
 refine Zd I1 ea c hm l ?_
 refine cY (first:=[.ref a]) (h₀:=X.base) I.ok.mod.kin hm.kp (thn (ha pos pins s1 σ H1 _ I1 q) λus s2 ⟨vs,H2,I2,r,q2⟩=>⟨I2.kIn,?_⟩) hst hpl
 exact qqr (us:=.ref a::us) (vs:=.ref a::vs) F hr hb hx I2 (.cons rfl r) q2
theorem qv6 {pl:Sem Bool}(he:PE X o ta)(c:Cls X.K C)(hm:Meth X.K C m f)(F:FnOk X.prog X.w X.K X.mg X.base (CXE X.prog X.w) k f fd ps sp)(hr:Room k X.A)(hb:Binds X.K fd ps [])(hx:kh X E)
  (ht:autoParam (eval (.Call (.Attribute o m apos) [] [] pos) X.env=(do
   let ov ←eval o X.env
   standAt apos.atName
   let (f,first) ←holding [ov] (getMethod ov m pl)
   callWith pos f first (backTo pos (starEach [] X.env)) (backToKw pos (keywordEach [] X.env)))) aU4._auto_1) :
  PE X (.Call (.Attribute o m apos) [] [] pos) (Zp C m sp E ta Q8):=by
 intro pins s σ H Q I h
 refine W.methodCall_KW (pl:=pl) (thn (he pins s σ H _ I h) λu s1 ⟨x,H1,I1,rx,a,dx,fs,ex,ea,l,q⟩=>?_) ht
 subst ex
 obtain rfl:u=Value.ref a:=rx
 refine Zd I1 ea c hm l ?_
 exact W.callWith_K0 (first:=[.ref a]) I1.kIn hm.kp (qqr (us:=[.ref a]) (vs:=[.ref a]) F hr hb hx I1 (.cons rfl .nil) q)
theorem Y5 {pins:List (Aj×Obj)}{σ:St}{H:Hp}{s:Ab}{Q:VK}{us:List Ag}{vs:List V}(M:Mk X.K C f)(F:FnOk X.prog X.w X.K X.mg X.base (CXE X.prog X.w) k f fd ps sp)(hr:Room (k+1) X.A)(hb:Binds X.K fd ps [])
  (hx:kh X E) (I:Inv X pins σ H s) (r:Vals vs us)
  (h:∀x dx,H x=none→H dx=none→dx≠x→sp (.ref x::vs) (upd (upd H dx (.own x)) x (.ins C dx [])) (λv H2=>v=.non∧Q (.ref x) H2) (E σ)) :
  wpAny (model X.prog X.w) X.A (call (.ref C) us) (EP X pins σ Q) X.xe s:=by
 have hq:=h (s.heap.objs.size+1) s.heap.objs.size (I.hok.fresh (Nat.le_succ _)) (I.hok.fresh (ae _)) (au (Nat.lt_succ_self _))
 have I2:=Inv.made (C:=C) I
 have r2:Vals (V.ref (s.heap.objs.size+1)::vs) (Value.ref (s.heap.objs.size+1)::us):=.cons rfl r
 have hl:((Value.ref (s.heap.objs.size+1)::us)++[]).length=ps.length:=by
  rw [bY,←r2.length]
  exact F.len _ _ _ _ hq
 have hb':=hb _ (Value.ref (s.heap.objs.size+1)::us) I2.kIn hl
 rw [bY] at hb'
 refine wpAny_call (qyr (f:=f) I.kIn M.makes M.init (cE.mp M.fn) (cw (F.run _ X.stack _ _ ⟨Value.ref (s.heap.objs.size+1)::us,[]⟩ (Value.ref (s.heap.objs.size+1)::us) _ _ (E σ) (hr.make C us [])
  (I2.env0.make C us []) hb' r2 hq) λr s' hq'=>?_))
 cases r with
 |error e=>exact hx pins σ _ _ e s' I2 hq'
 |ok fl =>
  cases fl with
  |ret u =>
   obtain ⟨v,H',I3,rv,ev,q3⟩:=I2.after hq'
   subst ev
   exact ⟨rv,⟨V.ref (s.heap.objs.size+1),H',I3,rfl,q3⟩⟩
  |next=>exact False.elim hq'
  |brk=>exact False.elim hq'
  |cont=>exact False.elim hq'
theorem qj2 (M:Mk X.K C f)(F:FnOk X.prog X.w X.K X.mg X.base (CXE X.prog X.w) k f fd ps sp)(hr:Room (k+1) X.A)(hg:Gl X x)(hm:X.mg x=some (.ref C))(hb:Binds X.K fd ps [])(hx:kh X E)
  (ha:PA X (e::es) t) (hdb:autoParam ((x==("__debug__" : Str))=false) aU1._auto_1) (he:autoParam (starEach (e::es) X.env=(false,eval e X.env)::starEach es X.env) aU4._auto_1) (hpl:autoParam ((backTo pos (starEach es X.env)).any (·.1)=false) aU4._auto_1) :
  PE X (.Call (.Name x p) (e::es) [] pos) (qx2 C sp E t):=by
 intro pins s σ H Q I h
 refine bT (ug I hg hm ?_ hdb)
 refine cY (h₀:=X.base) I.ok.mod.kin M.kp (thn (ha pos pins s σ H _ I h) λus s1 ⟨vs,H1,I1,r,q⟩=>⟨I1.kIn,?_⟩) he hpl
 exact Y5 M F hr hb hx I1 r q
end
structure ExcC (K:Aa)(C:Aj):Prop where
 q:W.excIn K C [.type "ValueError",.type "Exception",.type "BaseException",.type "object"] "ValueError.__new__" = true
def tRaise (C:Aj)(E:St→XK)(t:TA):TS:=λD σ H=>t σ H λvs H1=>vs.length≤sizeLine∧E σ (.ref C) none H1
section
variable {X:Cx}{C:Aj}{E:St→XK}{x:Str}{np cpos pos:Pos}{e:Expr}{es:List Expr}{t:TA}
theorem zp (hc:X.calm=true)(c:ExcC X.K C)(hR:qy4 X E)(hg:Gl X x)(hm:X.mg x=some (.ref C))(ha:PA X (e::es) t)(hdb:autoParam ((x==("__debug__" : Str))=false) aU1._auto_1)
  (he:autoParam (starEach (e::es) X.env=(false,eval e X.env)::starEach es X.env) aU4._auto_1) (hpl:autoParam ((backTo cpos (starEach es X.env)).any (·.1)=false) aU4._auto_1) :
  PS X (.Raise (some (.Call (.Name x np) (e::es) [] cpos)) none pos) (tRaise C E t):=by
 intro pins s σ H D I h
 obtain ⟨tl,N,a1,a2,a3,a4,a5,a6,a7,a8,a9,b0,b1,b2,b3,b5,mN,hC,hN,hni,T⟩:=wqu I.ok.mod.kin c.q
 refine wpAny_Raise_call_subT (C:=C) (nm:=a1) (q:=a2) (N:=N) (bs:=a3) (bm:=tl) (hdct:=a4) (sn:=a5) (sub:=a6) (ab:=a7) (col:=a8) (dd:=a9) (k0:=b0) (k1:=b1) (k2:=b2) (k3:=b3) (k5:=b5)
  cZ (mN:=mN) (T.hasType cZ.hasBase) (I.ok.hd hc) (by rw [he];show (false||(backTo cpos (starEach es X.env)).any (·.1))=false;rw [hpl];rfl) hni (ug I hg hm ⟨rfl,?_⟩ hdb)
 have hw:=ha cpos pins s σ H _ I h
 rw [he] at hw ⊢
 refine cI (aX hw (λus s1 ⟨vs,H1,I1,r,hl,q⟩=>⟨rfl,by rw [←r.length];exact hl,I1.bk _ _ hC,hN.keeps I1.bk,T.keeps I1.bk,λh' e hx=>hR pins σ H1 s1 h' e C us I1 hx q⟩) λ_ _ z=>z)
end
def Sm (n:Nat)(i:Int):Prop:=i.natAbs<2 ^ n
theorem Sm.bits {n:Nat}{i:Int}(h:Sm n i):Builtin.Int.intBits i≤n:=PyProof.Rows.intBits_le h
theorem Sm.mono {n m:Nat}{i:Int}(h:Sm n i)(hm:n≤m):Sm m i:=av h (Nat.pow_le_pow_right ⋯ hm)
theorem Sm.of_le {n:Nat}{i j:Int}(h:Sm n j)(e:i.natAbs≤j.natAbs):Sm n i:=Nat.lt_of_le_of_lt e h
theorem Sm.ok {n m:Nat}{i j:Int}(h:Sm n i)(h':Sm m j)(e:n+m≤134217728):IntMulOk i j:=IntMulOk.of_le h.bits h'.bits e
theorem Sm.log {n:Nat}{i:Int}(h:Sm n i)(hn:n≤9000):i.natAbs.log2<9000:=by
 by_cases h0:i.natAbs=0
 ·rw [h0]
  decide
 ·exact av ((Nat.log2_lt h0).mpr h) hn
theorem Sm.noPl {n:Nat}{i j:Int}(h:Sm n j)(hn:n≤9000):Builtin.divisionGoesByPylong i j=false:=PyProof.noPylong_of_log2 (h.log hn)
section
variable {X:Cx}
theorem xb:OpR X (binaryOp .Mult) (rI IntMulOk λi j=>.int (i*j)):=opI λ_ _ _ _ _ _ _ hc q=>mul_int q hc
theorem j0:OpR X (binaryOp .FloorDiv) (rI (λ_ j=>0<j∧Sm 9000 j) λi j=>.int (i/j)):=opI λi j _ _ _ _ _ hc q =>
 floordiv_int ⋯ (by rw [Int.fdiv_eq_ediv_of_nonneg i (Int.le_of_lt hc.1)];exact q) (.inl (hc.2.noPl (ae _)))
theorem qwn:z7 X (.builtin "isinstance") (λxs H Q=>∃x T t b,xs=[x,.ty T]∧TyOf X.K H x t∧W.kitOne X.K t (.type T)=some b∧Q (.bl b) H):=by
 intro pins s σ H xs us Q I r h
 obtain ⟨x,T,t,b,rfl,ty,e,q⟩:=h
 obtain ⟨u,u',rfl,r1,r2⟩:=quy r
 cases r2
 exact qkj I r1 ty e λtk=>⟨.bl b,H,I.tok tk,rfl,q⟩
end
mutual
def RD (K:Aa)(H:Hp):PyData→V→Prop
 |.none,v=>v=.non
 |.bool b,v=>v=.bl b
 |.int i,v=>v=.int i
 |.str x,v=>v=.str x
 |.list ds,v=>∃a xs,v=.ref a∧SqL K H a xs∧RDs K H ds xs
 |.tuple ds,v=>∃a xs,v=.ref a∧SqT K H a xs∧RDs K H ds xs
 |.dict _,_=>False
def RDs (K:Aa)(H:Hp):List PyData→List V→Prop
 |[],xs=>xs=[]
 |d::ds,xs=>∃y ys,xs=y::ys∧RD K H d y∧RDs K H ds ys
end
section
variable {X:Cx}{pins:List (Aj×Obj)}{σ:St}{H:Hp}{s:Ab}
mutual
theorem qyg (I:Inv X pins σ H s):∀(d:PyData) (v:V) (u:Ag),RD X.K H d v→RelV v u→∃as,Reads s.heap u d as
 |.none,v,u,h,r=>by
  rw [RD] at h;subst h
  cases (show u=Value.none from r)
  exact ⟨_,.none⟩
 |.bool b,v,u,h,r=>by
  rw [RD] at h;subst h
  cases (show u=Value.bool b from r)
  exact ⟨_,.bool b⟩
 |.int i,v,u,h,r=>by
  rw [RD] at h;subst h
  obtain ⟨t,rfl⟩:=(show ∃t,u=Value.int i t from r)
  exact ⟨_,.int i t⟩
 |.str x,v,u,h,r=>by
  rw [RD] at h;subst h
  obtain ⟨t,rfl⟩:=(show ∃t,u=Value.str x t from r)
  exact ⟨_,.str x t⟩
 |.list ds,v,u,h,r=>by
  rw [RD] at h
  obtain ⟨a,xs,rfl,hs,hd⟩:=h
  cases (show u=Value.ref a from r)
  obtain ⟨its,rv,⟨o,n,e1,e2,_,e3⟩,_⟩:=I.list hs
  obtain ⟨as,ha⟩:=Qg I ds xs its hd rv
  exact ⟨_,.list e1 e2 e3 (by simpa using ha)⟩
 |.tuple ds,v,u,h,r=>by
  rw [RD] at h
  obtain ⟨a,xs,rfl,hs,hd⟩:=h
  cases (show u=Value.ref a from r)
  obtain ⟨its,rv,⟨o,e1,e2,n,e3⟩,_⟩:=I.tuple hs
  obtain ⟨as,ha⟩:=Qg I ds xs its hd rv
  exact ⟨_,.tuple e1 e2 e3 (by simpa using ha)⟩
 |.dict _,_,_,h,_=>by
  rw [RD] at h
  exact h.elim
theorem Qg (I:Inv X pins σ H s):∀(ds:List PyData) (vs:List V) (us:List Ag),RDs X.K H ds vs→Vals vs us→∃as,ReadsAll s.heap us ds as
 |[],vs,us,h,r=>by
  rw [RDs] at h;subst h
  cases r
  exact ⟨_,.nil⟩
 |d::ds,vs,us,h,r=>by
  rw [RDs] at h
  obtain ⟨y,ys,rfl,h1,h2⟩:=h
  cases r with
  |cons r1 r2 =>
   obtain ⟨as,a1⟩:=qyg I d y _ h1 r1
   obtain ⟨bs,a2⟩:=Qg I ds ys _ h2 r2
   exact ⟨_,.cons a1 a2⟩
end
end
end L2
namespace L2
open PySem PySem.Spec PyProof.Rows
section
variable {P:Ac}{w:Ah}{K:Aa}{mg:Str→Option Ag}{base:Heap}
theorem Fun.okX {x qual:Str}{st:Stmt}{f:Aj}{fd:Ad}{N ps:List Str}{k:Nat}{sp:Sp}(F:Fun K x qual st f fd)(S:FnScope N ps (wu st))(len:∀vs H Q E,sp vs H Q E→vs.length=ps.length)
  (body:∀(cdv:Ag) (A:Ae) (outer:List Env) (s:Ab) (H:Hp) (vs:List V) (Q:VK) (E:XK),Room k (A.deeper (envOfC qual (wu st) s.heap.objs.size f cdv))→sp vs H Q E →
   ∃t,PSs (qq9 (CXE P w) P w K mg base N qual (wu st) f cdv A outer s H E) (vd st) t∧t { nx:=λ_ H'=>Q .non H',rt:=Q } (Q1 N vs) H):FnOk P w K mg base (CXE P w) (k+1) f fd ps sp:=by
 obtain ⟨oc,od,kV,doc,pm,an,cdv,ct,osl,rfl,lk,hcd⟩:=F.ex
 exact fn_of lk hcd S len λA outer s H vs Q E hr hsp=>body cdv A outer s H vs Q E hr hsp
structure DefIn (K:Aa)(x:Str)(st:Stmt):Prop where
 ex:∃f fd,W.nsIn K mainGlobals x=some (some (.ref f))∧Fun K x x st f fd
theorem def_mk {x:Str}{st:Stmt}{f:Aj}{oc:Ag}{od an:Option Aj}{osl:Array (Option Ag)}{kV doc pm cdv ct:Ag}(a:W.nsIn K mainGlobals x=some (some (.ref f)))
  (l:K.lookup f=some ⟨oc,od,.func (W.fnOf x x (k8 st) (vd st) (wu st) .none kV doc pm an cdv ct),osl⟩) (c:W.codeIn K cdv x=true) (k:W.keepIn K (.ref f)=true):DefIn K x st:=⟨_,_,a,qj8 l c k⟩
def xp (x:Str)(st:Stmt)(ps:List Str):Prop:=∀(kV doc pm:Ag) (an:Option Aj) (cdv ct:Ag) (us:List Ag),us.length=ps.length→bindArgs (W.fnOf x x (k8 st) (vd st) (wu st) .none kV doc pm an cdv ct) ⟨us,[]⟩=pure (ps.zip us)
theorem bA1 {f}{ps:List Str}{u:List Ag}(h:u.length=1)(k:∀a,bindArgs f ⟨[a],[]⟩=pure (ps.zip [a])):bindArgs f ⟨u,[]⟩=pure (ps.zip u):=match u,h with|[a],_=>k a
theorem bA2 {f}{ps:List Str}{u:List Ag}(h:u.length=2)(k:∀a b,bindArgs f ⟨[a,b],[]⟩=pure (ps.zip [a,b])):bindArgs f ⟨u,[]⟩=pure (ps.zip u):=match u,h with|[a,b],_=>k a b
theorem bA3 {f}{ps:List Str}{u:List Ag}(h:u.length=3)(k:∀a b c,bindArgs f ⟨[a,b,c],[]⟩=pure (ps.zip [a,b,c])):bindArgs f ⟨u,[]⟩=pure (ps.zip u):=match u,h with|[a,b,c],_=>k a b c
theorem bA4 {f}{ps:List Str}{u:List Ag}(h:u.length=4)(k:∀a b c d,bindArgs f ⟨[a,b,c,d],[]⟩=pure (ps.zip [a,b,c,d])):bindArgs f ⟨u,[]⟩=pure (ps.zip u):=match u,h with|[a,b,c,d],_=>k a b c d
structure Cal (P:Ac)(w:Ah)(K:Aa)(mg:Str→Option Ag)(base:Heap)(x:Str)(k:Nat)(sp:Sp):Prop where
 ex:∃f fd ps,mg x=some (.ref f)∧FnOk P w K mg base (CXE P w) k f fd ps sp∧W.keepIn K (.ref f)=true∧Binds K fd ps []
theorem DefIn.cal {x:Str}{st:Stmt}{ps:List Str}{k:Nat}{sp:Sp}{h:Heap}(d:DefIn K x st)(KX:K.In h)(G:h.Ns mainGlobals mg)(b:xp x st ps)(ok:∀f fd,Fun K x x st f fd→FnOk P w K mg base (CXE P w) k f fd ps sp):Cal P w K mg base x k sp:=by
 obtain ⟨f,fd,a,F⟩:=d.ex
 exact ⟨f,fd,ps,aE KX G a,ok f fd F,F.kp,F.binds b⟩
end
section
variable {X:Cx}{x:Str}{k:Nat}{sp:Sp}{E:St→XK}{p pos:Pos}{e:Expr}{es:List Expr}{t:TA}
theorem quu (c:Cal X.prog X.w X.K X.mg X.base x k sp)(hr:Room k X.A)(hg:Gl X x)(hx:kh X E)
  (ha:PA X (e::es) t) (hdb:autoParam ((x==("__debug__" : Str))=false) aU1._auto_1) (he:autoParam (starEach (e::es) X.env=(false,eval e X.env)::starEach es X.env) aU4._auto_1) (hpl:autoParam ((backTo pos (starEach es X.env)).any (·.1)=false) aU4._auto_1) :
  PE X (.Call (.Name x p) (e::es) [] pos) (W5 sp E t):=by
 obtain ⟨f,fd,ps,hm,F,kp,b⟩:=c.ex
 exact qyb F hr hg hm kp b hx ha hdb he hpl
end
def tCut (t u:TS):TS:=λD σ H=>∃R:St→Hp→Prop,t { D with nx:=R } σ H∧∀σ' H',R σ' H'→u D σ' H'
theorem ux {X:Cx}{st:Stmt}{rest:List Stmt}{t u:TS}(h1:PS X st t)(h2:PSs X rest u):PSs X (st::rest) (tCut t u):=by
 intro pins s σ H D I ⟨R,h,hR⟩
 refine dv (thn (h1 pins s σ H { D with nx:=R } I h) λf s1 q=>?_)
 cases f with
 |next =>
  obtain ⟨σ1,H1,I1,q1⟩:=q
  exact h2 pins s1 σ1 H1 D I1 (hR σ1 H1 q1)
 |brk=>exact q
 |cont=>exact q
 |ret u=>exact q
theorem jy {c A B:Prop}[Decidable c](h1:c→A)(h2:¬ c→B):if decide c=true then A else B:=by
 by_cases h:c
 ·rw [bn h]
  exact W7 (h1 h)
 ·rw [aY h]
  exact Z8 (h2 h)
theorem deqI {i j:Int}:decide (V.int i=V.int j)=decide (i=j):=by
 by_cases h:i=j
 ·subst h;simp
 ·simp [h]
theorem jj {i j:Int}{A B:Prop}(h1:i=j→A)(h2:i≠j→B):if decide (V.int i=V.int j)=true then A else B:=by
 rw [deqI]
 exact jy h1 h2
theorem xN {i j:Int}{A B:Prop}(k:B)(h:autoParam (i≠j) aU1._auto_1):if decide (V.int i=V.int j)=true then A else B:=jj (λz=>absurd z h) (λ_=>k)
theorem Same.upd {H:Hp}{p:Aj}{o:HO}(n:H p=none):Same H (upd H p o):=λb u e=>by
 rw [q9 (qm e n)]
 exact e
theorem Same.sql {K:Aa}{H H':Hp}{a:Aj}{xs:List V}(h:Same H H')(s:SqL K H a xs):SqL K H' a xs:=h.seq s
theorem SqT.new {K:Aa}{H:Hp}{p:Aj}{xs:List V}:SqT K (upd H p (.tup xs)) p xs:=SqT.of qj
theorem SqL.new {K:Aa}{H:Hp}{p:Aj}{xs:List V}:SqL K (upd H p (.lst xs)) p xs:=SqL.of qj
theorem u8:bootBuiltins "abs" = some (.builtin "abs"):=by decide +kernel
theorem quc:bootBuiltins "all" = some (.builtin "all"):=by decide +kernel
theorem J9 {ns:List Int}{i:Int}(h0:0≤i)(h1:i<ns.length):atI (ns.map V.int) i=some (V.int (ns.getD i.toNat 0)):=by
 have hl:i.toNat<ns.length:=by lia
 have e:(ns.map V.int)[i.toNat]?=some (V.int (ns.getD i.toNat 0)):=by
  rw [aI,aJ,al hl]
  rfl
 have:=Jh e
 rwa [cN h0] at this
def qwt (ns:List Int)(i:Int):Int:=if i<ns.length then ns.getD i.toNat 0 else if (ns.length:Int)=0 then 7*i+3 else ns.getD (i%ns.length).toNat 0+1009*i
def divs (c:Int):Nat→Int
 |0=>c
 |n+1=>divs c n/1000
def qzx (K:Aa):Sp:=λvs H Q _=>∃(a:Aj) (ns:List Int) (i:Int),vs=[.ref a,.int i]∧SqL K H a (ns.map V.int)∧0≤i∧∀r,r=qwt ns i→Q (.int r) H
def js (c:Int):Int:=if c<0 then -c else c
def qqw (c t:Int):Int:=(c%1000003*48271+t*7919+101)%999983
def qwy (c t:Int):Int:=(qqw c t*qqw c t+c%1000003*31+t*104729)%1000033
def qxf (c t:Int):Int:=if 10 ^ 18≤js c then (if c<0 then divs (js c) t.toNat%1000 else divs (js c) t.toNat) else (qwy c t*qwy c t+qqw c t*17+t*30011)%999979
def qwg (ns:List Int)(i t m:Int):Int:=qxf (qwt ns i) t%m
theorem qyc (ns:List Int)(i t m:Int)(h:0<m):0≤qwg ns i t m:=aT _ ⋯
theorem qy5 (ns:List Int)(i t m:Int)(h:0<m):qwg ns i t m<m:=aU _ h
theorem qyz {c t:Int}(h:10 ^ 18≤js c)(n:c<0):qxf c t=divs (js c) t.toNat%1000:=by rw [qxf,aj h,aj n]
theorem qv2 {c t:Int}(h:10 ^ 18≤js c)(n:¬ c<0):qxf c t=divs (js c) t.toNat:=by rw [qxf,aj h,ag n]
theorem qj7 {c t:Int}(h:¬ 10 ^ 18≤js c):qxf c t=(qwy c t*qwy c t+qqw c t*17+t*30011)%999979:=by rw [qxf,ag h]
def v8 (K:Aa):Sp:=λvs H Q _=>∃(a:Aj) (ns:List Int) (i t m:Int),vs=[.ref a,.int i,.int t,.int m]∧SqL K H a (ns.map V.int)∧0≤i∧0≤t∧t<1000000∧0<m ∧
 ∀r,r=qwg ns i t m→0≤r→r<m→Q (.int r) H
theorem Sm.small {n:Nat}{i:Int}(h1:-(2 ^ 64)≤i)(h2:i≤2 ^ 64)(hn:65≤n):Sm n i:=by
 refine Sm.mono (n:=65) ?_ hn
 unfold Sm
 lia
def qz9 (K:Aa):Sp:=λvs H Q _=>∃(a:Aj) (ns:List Int),vs=[.ref a]∧SqL K H a (ns.map V.int)∧ns.length≤63∧∀H',Q (.bl true) H'
theorem sz1 {x:V}:[x].length≤sizeLine:=by show 1≤sizeLine;decide
theorem sz2 {x y:V}:[x,y].length≤sizeLine:=by show 2≤sizeLine;decide
theorem sz0:([]:List V).length≤sizeLine:=by show 0≤sizeLine;decide
end L2
namespace L2
open PySem
def Q5 (x y:Int):Int:=((Nat.gcd x.toNat y.toNat:Nat):Int)
theorem qkm {x:Int}(h:0≤x):Q5 x 0=x:=by
 unfold Q5
 have:(0:Int).toNat=0:=rfl
 rw [this,Nat.gcd_zero_right]
 lia
theorem qkk {x y:Int}(hx:0≤x)(hy:0<y):Q5 y (x%y)=Q5 x y:=by
 unfold Q5
 have e:(x%y).toNat=x.toNat%y.toNat:=by
  have h1:x=(x.toNat:Int):=by lia
  have h2:y=(y.toNat:Int):=by lia
  have h3:x%y=((x.toNat%y.toNat:Nat):Int):=by
   conv=>lhs;rw [h1,h2]
   exact (Int.natCast_emod _ _).symm
  rw [h3]
  exact Int.toNat_natCast _
 rw [e,Nat.gcd_comm y.toNat,←Nat.gcd_rec,Nat.gcd_comm]
theorem qvw (t:Int):js t=(t.natAbs:Int):=by
 unfold js
 split <;> lia
theorem qvd (t:Int):0≤js t:=by
 rw [qvw]
 lia
theorem zt (t b:Int):Q5 (js t) b=((Nat.gcd t.natAbs b.toNat:Nat):Int):=by
 unfold Q5
 rw [qvw,Int.toNat_natCast]
def gOf (t b:Int):Int:=Q5 (js t) b
def wm (t b:Int):Int×Int:=(t/gOf t b,b/gOf t b)
theorem k9 {t b:Int}(h:1≤b):1≤gOf t b:=by
 unfold gOf
 rw [zt]
 have:0<Nat.gcd t.natAbs b.toNat:=Nat.gcd_pos_of_pos_right _ ⋯
 lia
theorem qjk {t b:Int}(h:1≤b):gOf t b≤b:=by
 unfold gOf
 rw [zt]
 have:Nat.gcd t.natAbs b.toNat≤b.toNat:=Nat.gcd_le_right _ ⋯
 lia
theorem qkt {t b:Int}(h:1≤b):gOf t b∣b:=by
 unfold gOf
 rw [zt]
 have h1:((Nat.gcd t.natAbs b.toNat:Nat):Int)∣(b.toNat:Int):=dA.mpr (Nat.gcd_dvd_right _ _)
 have h2:(b.toNat:Int)=b:=by lia
 rwa [h2] at h1
theorem qv7 {t b:Int}:gOf t b∣t:=by
 unfold gOf
 rw [zt]
 have h1:((Nat.gcd t.natAbs b.toNat:Nat):Int)∣(t.natAbs:Int):=dA.mpr (Nat.gcd_dvd_left _ _)
 exact Int.dvd_natAbs.mp h1
theorem qvm {t b:Int}:gOf t b*(t/gOf t b)=t:=Int.mul_ediv_cancel' qv7
theorem qwz {t b:Int}(h:1≤b):gOf t b*(b/gOf t b)=b:=Int.mul_ediv_cancel' (qkt h)
theorem Jj {t b:Int}(h:1≤b):(wm t b).1*b=t*(wm t b).2:=by
 unfold wm
 dsimp only
 have h1:=qvm (t:=t) (b:=b)
 have h2:=qwz (t:=t) (b:=b) h
 conv=>lhs;rw [←h2]
 conv=>rhs;rw [←h1]
 rw [h1,h2]
 have e1:t/gOf t b*b=t/gOf t b*(gOf t b*(b/gOf t b)):=by rw [h2]
 have e2:t*(b/gOf t b)=gOf t b*(t/gOf t b)*(b/gOf t b):=by rw [h1]
 rw [e1,e2,←Int.mul_assoc,Int.mul_comm (t/gOf t b)]
theorem Jd {t b:Int}(h:1≤b):1≤(wm t b).2:=by
 show 1≤b/gOf t b
 have h2:=qwz (t:=t) (b:=b) h
 have h3:=k9 (t:=t) h
 have:0<b/gOf t b:=by
  rcases cm 0 (b/gOf t b) with z|z
  ·exact z
  ·have:=bR z (show 0≤gOf t b by lia)
   rw [h2,Int.mul_zero] at this
   lia
 lia
theorem low_le {t b:Int}(h:1≤b):(wm t b).2≤b:=Int.ediv_le_self _ ⋯
theorem qys {t b:Int}(h:1≤b):gOf (wm t b).1 (wm t b).2=1:=by
 have h3:=k9 (t:=t) h
 have hb:=Jd (t:=t) h
 obtain ⟨g,hg⟩:∃g:Nat,gOf t b=(g:Int):=⟨_,by unfold gOf;exact zt t b⟩
 have g1:0<g:=by lia
 have hgg:g=Nat.gcd t.natAbs b.toNat:=by
  have:(g:Int)=((Nat.gcd t.natAbs b.toNat:Nat):Int):=by rw [←hg];unfold gOf;exact zt t b
  lia
 have et:g*(wm t b).1.natAbs=t.natAbs:=by
  have:=qvm (t:=t) (b:=b)
  have e:=bF Int.natAbs this
  rw [Int.natAbs_mul,hg] at e
  simpa [wm,hg] using e
 have eb:g*(wm t b).2.toNat=b.toNat:=by
  have:=qwz (t:=t) (b:=b) h
  rw [hg] at this
  have q:(wm t b).2=b/(g:Int):=by unfold wm;rw [hg]
  have q2:b/(g:Int)=((b/(g:Int)).toNat:Int):=by rw [←q];lia
  rw [q]
  rw [q2] at this
  have:((g*(b/(g:Int)).toNat:Nat):Int)=b:=by rw [dN];exact this
  lia
 unfold gOf
 rw [zt]
 have key:g*Nat.gcd (wm t b).1.natAbs (wm t b).2.toNat=g*1:=by
  rw [←Nat.gcd_mul_left,et,eb,←hgg,Nat.mul_one]
 have:=Nat.eq_of_mul_eq_mul_left g1 key
 rw [this]
 rfl
theorem wq7 {t b c:Int}(h:1≤b)(hc:1≤c):gOf (t*c) (b*c)=gOf t b*c:=by
 unfold gOf
 rw [zt,zt]
 have e1:(t*c).natAbs=t.natAbs*c.toNat:=by
  rw [Int.natAbs_mul]
  have:c.natAbs=c.toNat:=by lia
  rw [this]
 have e2:(b*c).toNat=b.toNat*c.toNat:=by
  have hb:b=(b.toNat:Int):=by lia
  have hc':c=(c.toNat:Int):=by lia
  have:b*c=((b.toNat*c.toNat:Nat):Int):=by
   rw [dN,←hb,←hc']
  lia
 rw [e1,e2,Nat.gcd_mul_right,dN]
 have:(c.toNat:Int)=c:=by lia
 rw [this]
theorem uv {t b c:Int}(h:1≤b)(hc:1≤c):wm (t*c) (b*c)=wm t b:=by
 unfold wm
 rw [wq7 h hc]
 have hg:=k9 (t:=t) h
 rw [cK _ _ (show 0<c by lia),cK _ _ (show 0<c by lia)]
end L2
namespace L2
open PySem PySem.Spec PyProof.Rows
def CapAll (env:Env):List (Str×Aj)→Prop
 |[]=>True
 |(y,c)::r=>env.cells.lookup y=some c∧CapAll env r
theorem CapAll.look {env:Env}:∀ {cl:List (Str×Aj)},CapAll env cl→∀ {y:Str} {c:Aj},cl.lookup y=some c→env.cells.lookup y=some c
 |[],_,_,_,e=>by cases e
 |(z,d)::r,h,y,c,e=>by
  rw [aK] at e
  cases hb:y==z with
  |true =>
   rw [hb] at e
   rw [eq_of_beq hb]
   exact h.1.trans e
  |false =>
   rw [hb] at e
   exact CapAll.look h.2 e
def HasAll (cl:List (Str×Aj)):List (Str×NameKind)→Prop
 |[]=>True
 |(n,k)::r=>(k=.free→∃c,cl.lookup n=some c)∧k≠.cell∧HasAll cl r
theorem HasAll.nocell {cl:List (Str×Aj)}:∀ {ns:List (Str×NameKind)},HasAll cl ns→∀y∈ns,y.2≠.cell
 |(n,k)::r,h,y,hy=>by
  rcases ak.mp hy with rfl|hy
  ·exact h.2.1
  ·exact HasAll.nocell h.2.2 y hy
theorem HasAll.has {cl:List (Str×Aj)}{env:Env}:∀ {ns:List (Str×NameKind)},HasAll cl ns→∀ {x:Str} {q:NameKind},q=.cell∨q=.free →
  (ns.map λ(n,k)=>if (k==NameKind.free&&env.scope.kind==.function&&env.kindOf n==some .cell) then (n,NameKind.cell) else (n,k)).lookup x=some q→∃c,cl.lookup x=some c
 |[],_,_,_,_,e=>by cases e
 |(n,k)::r,h,x,q,hq,e=>by
  have ih:=HasAll.has (env:=env) h.2.2 (x:=x) hq
  rw [aG] at e
  by_cases hc:(k==NameKind.free&&env.scope.kind==.function&&env.kindOf n==some .cell)=true
  ·have e':=e
   dsimp only at e'
   rw [aj hc,aK] at e'
   cases hb:x==n with
   |true =>
    rw [bI,bI] at hc
    obtain ⟨c,hcc⟩:=h.1 (eq_of_beq hc.1.1)
    exact ⟨c,by rw [eq_of_beq hb];exact hcc⟩
   |false =>
    rw [hb] at e'
    exact ih e'
  ·have e':=e
   dsimp only at e'
   rw [ag hc,aK] at e'
   cases hb:x==n with
   |true =>
    rw [hb] at e'
    have ek:k=q:=ap e'
    rcases hq with rfl|rfl
    ·exact absurd ek h.2.1
    ·obtain ⟨c,hcc⟩:=h.1 ek
     exact ⟨c,by rw [eq_of_beq hb];exact hcc⟩
   |false =>
    rw [hb] at e'
    exact ih e'
def CapIx (X:Cx)(scope:Scope)(cl:List (Str×Aj)):List Nat→Prop
 |[]=>True
 |j::r=>(∃y c,X.N[j]?=some y∧X.env.scope.names.lookup y=some .cell∧(relabel scope X.env).names.lookup y=some .cell∧cl.lookup y=some c)∧CapIx X scope cl r
theorem CapIx.get {X:Cx}{scope:Scope}{cl:List (Str×Aj)}:∀ {M:List Nat},CapIx X scope cl M→∀ {k j:Nat},M[k]?=some j →
  ∃y c,X.N[j]?=some y∧X.env.scope.names.lookup y=some .cell∧(relabel scope X.env).names.lookup y=some .cell∧cl.lookup y=some c
 |[],_,k,j,e=>by cases e
 |i::r,h,0,j,e=>by
  cases e
  exact h.1
 |i::r,h,k+1,j,e=>CapIx.get h.2 (k:=k) e
def qxr (X:Cx)(x:Str)(M:List Nat):List Str:=x::M.map λj=>X.N.getD j Str.empty
def zn (M:List Nat)(σ:St)(o:Option V):St:=o::M.map λj=>(σ[j]?).join
abbrev z9 (X:Cx)(scope:Scope)(cl:List (Str×Aj))(x:Str)(M:List Nat)(C:Aj)(s2:Ab)(H2:Hp)(fp:List Aj)(pn:List (Aj×Obj)):Cx :=
 { X with N:=qxr X x M,s₀:=s2,H₀:=H2,env:=compEnvC scope cl C X.env,outer:=X.stack,ex:=fp,fn:=λ_=>false,pn:=pn,xe:=λ_ _=>False }
section
variable {X:Cx}{pins:List (Aj×Obj)}{σ:St}{H:Hp}{s2:Ab}{scope:Scope}{cl:List (Str×Aj)}{x:Str}{M:List Nat}{fp:List Aj}{C:Aj}{h1:Heap}{tk:Nat}
theorem Inv.compG {oo:HO}{xs:List Str}(I:Inv X pins σ H s2)(hc:CapAll X.env cl)(hh:HasAll cl scope.names)(hm:CapIx X scope cl M)(hk:scope.kind=.function)(hC:s2.heap.objs.size<C)
  (keep:∀b o,s2.heap.get? b=some o→h1.get? b=some o) (hn:h1.Ns C λ_=>none) (hD:ObjOk X.prog X.w (upd H s2.heap.objs.size oo) h1 s2.heap.objs.size oo)
  (hfp:∀b∈fp,jd X pins H b) (hob:∀b∈fp,∃o,s2.heap.get? b=some o) :
  Inv { X with N:=xs++M.map λj=>X.N.getD j Str.empty,s₀:=s2,H₀:=H,env:=compEnvC scope cl C X.env,outer:=X.stack,ex:=fp,fn:=λ_=>false,pn:=X.pn++pins,xe:=λ_ _=>False } [] ((xs.map λ_=>none)++M.map λj=>(σ[j]?).join) (upd H s2.heap.objs.size oo) { s2 with heap:=h1,toks:=tk }:=by
 have hfr:=I.hok.fresh (a:=s2.heap.objs.size) (ae _)
 have o:=I.ok
 have hcc:∀y c,cl.lookup y=some c→X.env.cells.lookup y=some c:=λy c e=>hc.look e
 have hlt:∀b∈fp,b<s2.heap.objs.size:=λb hb=>by
  obtain ⟨ob,e⟩:=hob b hb
  exact af e
 have hstk:∀b∈fp,b∉frs X.stack:=λb hb z=>by
  rcases ak.mp (I.stkSub b z) with z|z
  ·exact (hfp b hb).2.1 z
  ·exact (hfp b hb).2.2.1 z
 have hCn:H C=none:=I.hok.fresh (bL hC)
 refine ⟨⟨o.mod,hk,o.glob,o.blt,bL hC,λy z c e1 e2=>o.inj y z c (hcc y c e1) (hcc z c e2),λy hy=>?_,λy c z=>(aB z).elim,o.hd,o.frames,.inl rfl,λb hb=>⟨au (bB (hlt b hb) hC),λy c e=>(hfp b hb).2.2.2.2.1 y c (hcc y c e)⟩,
  λb ob e=>I.bs b ob e,bd o.bsz I.sz,λb ob e z=>?_,hstk,I.stack,I.stkFree⟩,rfl,I.bare,?_,?_,λy c e=>?_,?_,λy c e=>?_,λp hp=>?_,?_,?_⟩
 ·rcases hy with hy|hy
  ·exact hh.has (.inl rfl) hy
  ·exact hh.has (.inr rfl) hy
 ·obtain ⟨e1,e2⟩:=I.bs b ob e
  exact (hfp b z).2.2.2.1.elim (λq=>o.noex b ob e q) λq=>by
   have:=o.bs b ob e
   exact aZ _ (av (af this.1) q)
 ·exact (Un.laid (fs:=frs X.stack) (ex:=fp) (o:=oo) keep (ae _) hfr)
 ·refine ⟨_,hn,λi z v e1 e2 e3=>?_⟩
  rcases dI i xs.length with hi|hi
  ·have e2:((xs.map λ_=>(none:Option V))++M.map λj=>(σ[j]?).join)[i]?=some (some v):=e2
   rw [bx (by rw [aa];exact hi),aI,al hi] at e2
   cases e2
  have e1':(xs++M.map λj=>X.N.getD j Str.empty)[i]?=some z:=e1
  have e2':((xs.map λ_=>(none:Option V))++M.map λj=>(σ[j]?).join)[i]?=some (some v):=e2
  rw [ba hi] at e1'
  rw [ba (by rw [aa];exact hi),aa] at e2'
  generalize i-xs.length=k at e1' e2'
  rw [aI] at e1' e2'
  cases hj:M[k]? with
  |none=>rw [hj] at e1';cases e1'
  |some j =>
   rw [hj] at e1' e2'
   obtain ⟨y,c,f1,f2,f3,f4⟩:=hm.get hj
   have ez:X.N.getD j Str.empty=z:=ap e1'
   rw [aJ,f1] at ez
   have ez':y=z:=ez
   subst ez'
   have ev:(σ[j]?).join=some v:=ap e2'
   have ev':σ[j]?=some (some v):=by
    cases hs:σ[j]? with
    |none=>rw [hs] at ev;cases ev
    |some w' =>
     rw [hs] at ev
     have:w'=some v:=ev
     rw [this]
   obtain ⟨m,hns,hl⟩:=I.loc
   obtain ⟨u,r,l⟩:=hl j y v f1 ev' (.inr (.inl f2))
   refine ⟨u,r,.inr ⟨.inl f3,c,f4,?_⟩⟩
   rcases l with ⟨lk,_⟩|⟨_,c',lc,li⟩
   ·have:X.env.scope.names.lookup y=some .local:=lk
    rw [f2] at this
    cases this
   ·rw [hcc y c f4] at lc
    have:=ap lc
    subst this
    exact li.keeps keep
 ·obtain ⟨v,hv⟩:=I.cell y c (hcc y c e)
  exact ⟨v,hv.keeps keep⟩
 ·show upd H s2.heap.objs.size oo C=none
  rw [q9 (dH hC)]
  exact hCn
 ·show upd H s2.heap.objs.size oo c=none
  obtain ⟨v,ob,e1,e2⟩:=I.cell y c (hcc y c e)
  rw [q9 (au (af e1))]
  exact I.freeC y c (hcc y c e)
 ·have hp':p∈X.pn++pins:=(bq.mp hp).elim (λz=>z) λz=>nomatch z
  obtain ⟨e1,e2,e3,e4,e5⟩:=I.pin p hp'
  refine ⟨keep _ _ e1,?_,au (bB (af e1) hC),λz=>?_,e5⟩
  ·rw [q9 (au (af e1))]
   exact e2
  ·rcases ak.mp (I.stkSub p.1 z) with z|z
   ·exact e3 z
   ·exact e4 z
 ·exact I.hok.laid keep (ae _) hD
 ·show ((xs.map λ_=>(none:Option V))++M.map λj=>(σ[j]?).join).length=(xs++M.map λj=>X.N.getD j Str.empty).length
  simp only [aM,aa]
theorem Inv.comp (I:Inv X pins σ H s2)(hc:CapAll X.env cl)(hh:HasAll cl scope.names)(hm:CapIx X scope cl M)(hk:scope.kind=.function)(hC:s2.heap.objs.size<C)
  (keep:∀b o,s2.heap.get? b=some o→h1.get? b=some o) (hn:h1.Ns C λ_=>none) (hD:h1.get? s2.heap.objs.size=some { cls:=.type "list",data:=.seq #[] 0 })
  (hfp:∀b∈fp,jd X pins H b) (hob:∀b∈fp,∃o,s2.heap.get? b=some o) :
  Inv (z9 X scope cl x M C s2 H fp (X.pn++pins)) [] (zn M σ none) (upd H s2.heap.objs.size (.lst [])) { s2 with heap:=h1,toks:=tk }:=I.compG (xs:=[x]) hc hh hm hk hC keep hn ⟨aC _,[],0,.nil,hD⟩ hfp hob
theorem Inv.uncomp {pins':List (Aj×Obj)}{σ':St}{H':Hp}{s':Ab}{h':Heap}(I:Inv X pins σ H s2)(hC:s2.heap.objs.size≤C)(hfp:∀b∈fp,jd X pins H b)
  (J:Inv (z9 X scope cl x M C s2 H fp (X.pn++pins)) pins' σ' H' s') (hs:Heap.SameBut C s'.heap h'):Inv X pins σ H' { s' with heap:=h' }:=by
 have hb:=J.base
 have nC:∀b o,s2.heap.get? b=some o→b≠C:=λb o e=>au (av (af e) hC)
 have st:∀b o,b≠C→s'.heap.get? b=some o→h'.get? b=some o:=λb o n e=>(hs.2 b n).trans e
 refine I.call' (s':={ s' with heap:=h' }) (ch:=fp) J.os ⟨λb o e n nb nx=>st b o (nC b o e) (hb.keep b o e n nb nx),λb o e n hb' nx=>?_,hb.free,λb o e nx=>?_,hb.tups,hb.frzs,hb.tbls⟩ ?_ J.bare λb hbf=>?_
 ·obtain ⟨sl,e1⟩:=hb.slot b o e n hb' nx
  exact ⟨sl,st b _ (nC b o e) e1⟩
 ·obtain ⟨o',e1⟩:=hb.there b o e nx
  exact ⟨o',st b _ (nC b o e) e1⟩
 ·intro b u hu
  have fr:H' C=none:=J.free
  refine (J.hok b u hu).stay (λc v hc e=>st c v ?_ e) (λ_ z=>z) λ_ _ z=>z
  rcases hc with rfl|hc
  ·intro z;rw [z,fr] at hu;cases hu
  ·intro z;rw [z,fr] at hc;cases hc
 ·obtain ⟨q1,q2,q3,q4,q5,q6⟩:=hfp b hbf
  exact ⟨q4,q2,q5,q6⟩
end
def W0 (J:It)(M:List Nat)(te:TE)(σ:St)(H1:Hp)(Q:VK):Prop:=∀p,H1 p=none→∃W:Nat→Nat→List V→Hp→Prop,(∃m,W 0 m [] (upd H1 p (.lst []))) ∧
 ∀i m ys H2,W i m ys H2→H2 p=some (.lst ys)∧ys.length<sizeLine∧((J.stop i H2∧Q (.ref p) H2)∨(J.go i H2∧∀v H3,J.yld i H2 v H3 →
  te (zn M σ (some v)) H3 λy H4=>H4 p=some (.lst ys)∧∃m',m'<m∧W (i+1) m' (ys++[y]) (upd H4 p (.lst (ys++[y])))))
def tComp (M:List Nat)(wi:TI)(te:TE):TE:=λσ H Q=>wi σ H λJ H1=>W0 J M te σ H1 Q
theorem Y0 {Y:Cx}{tg e:Expr}{k:Nat}{acc:Ag}{it:Aj}{fp:List Aj}{tn:Nat→Heap→Prop}{J:It}{ps:Pos}{REST:Sem PySem.Fin}{post:Result→Ab→Prop}{gg:TG}{pins:List (Aj×Obj)}{σ:St}{V:Nat→Nat→Hp→Prop}{Qd:Hp→Prop}{s0:Ab}{H0:Hp}{n0:Nat}
  (T:Turn Y.prog Y.w Y.K tg J fp it tn) (hc:Y.calm=true) (hx:∀v s,Y.xe v s→False)
  (hturn:compTurn e k (.ref it) acc Y.env=(standAt ps >>= λ_=>pyNext (.ref it) >>= λr=>match r with|none=>pure (.done .next)|some v=>letOwnedTupleGo tg (.ref it) v >>= λ_=>assign tg Y.env v >>= λ_=>REST))
  (hun:Y.A.under (.compLoop e k (.ref it) acc Y.env)=Y.A) (hden:(model Y.prog Y.w).den (.compLoop e k (.ref it) acc Y.env)=((compTurn e k (.ref it) acc Y.env).onRaise λz=>do noteFrame z Y.env;theTreesLotGoes z))
  (hg:PG Y tg gg) (fok:∀H2:Hp,(∀b∈fp,H2 b=none)→∀b∈fp,jd Y pins H2 b)
  (hV:∀i n H2,V i n H2→(J.stop i H2∧Qd H2)∨(J.go i H2∧∀v H3,J.yld i H2 v H3→∃Z:St→Hp→Prop,gg v σ H3 Z∧∀σ4 H4,Z σ4 H4→(σ.length=σ4.length∧∀(k:Nat) z,σ[k]?=some (some z)→σ4[k]?=some (some z))∧∀pins' s',Inv Y pins' σ4 H4 s' →
   wpAny (model Y.prog Y.w) Y.A REST (λr s5=>r=Fin.again (.compLoop e k (.ref it) acc Y.env)∧∃H5,Inv Y pins' σ4 H5 s5∧∃n',n'<n∧V (i+1) n' H5) Y.xe s'))
  (fin:∀H2 s4,Inv Y pins σ H2 s4→Qd H2→post (.ok .next) s4) (I:Inv Y pins σ H0 s0) (v0:V 0 n0 H0) (t0:tn 0 s0.heap) (nf:∀b∈fp,H0 b=none) :
  codeAny (model Y.prog Y.w) Y.A (.compLoop e k (.ref it) acc Y.env) post s0:=by
 refine codeAny_loop rfl (λn s3=>∃i H2,V i n H2∧Inv Y pins σ H2 s3∧tn i s3.heap∧∀b∈fp,H2 b=none) (λn s3 hI=>?_) n0 ⟨0,H0,v0,I,t0,nf⟩
 obtain ⟨i,H2,w,J2,t,nf2⟩:=hI
 rw [hun,hden]
 refine wpAny_noted ?_
 rw [hturn]
 refine ai (dm (ai ?_))
 rcases hV i n H2 w with ⟨hst,hq⟩|⟨hgo,hy⟩
 ·refine aX (T.done Y rfl rfl rfl hc i pins s3 _ H2 (λ_ _=>False) J2 (fok H2 nf2) t hst) (λr s4 hr=>?_) λ_ _ z=>z.elim
  obtain ⟨rfl,J4⟩:=hr
  exact az (fin H2 s4 J4 hq)
 ·refine aX (T.item Y rfl rfl rfl hc i pins s3 _ H2 (λ_ _=>False) J2 (fok H2 nf2) t hgo) (λr s4 hr=>?_) λ_ _ z=>z.elim
  obtain ⟨u,rfl,hw⟩:=hr
  refine ai (aX hw (λ_ s5 hr5=>?_) λ_ _ z=>z.elim)
  obtain ⟨v,H3,J5,rv,yl,t5,nf⟩:=hr5
  obtain ⟨Z,hz,hZ⟩:=hy v H3 yl
  refine ai (aX (hg _ s5 _ H3 v u _ (J5.pinned (fok H3 nf) (T.obj _ _ t5)) rv hz) (λ_ s6 hr6=>?_) λv s z=>(hx v s z).elim)
  obtain ⟨σ6,H6,J6,z6⟩:=hr6
  obtain ⟨⟨hl,hw6⟩,hR⟩:=hZ σ6 H6 z6
  refine aX (hR _ s6 J6) (λr s7 hr7=>?_) λv s z=>(hx v s z).elim
  obtain ⟨rfl,H7,J7,n',hn',v7⟩:=hr7
  refine ⟨rfl,n',hn',i+1,H7,v7,(J7.unpinned (pins:=pins)).weak hl hw6,?_,?_⟩
  ·exact T.keep _ _ _ t5 λb hb o e=>(J7.pin (b,o) (aF _ (aF _ (jc hb e)))).1
  ·intro b hb
   obtain ⟨o,e,_⟩:=T.obj _ _ t5 b hb
   exact (J7.pin (b,o) (aF _ (aF _ (jc hb e)))).2.1
section
variable {Y:Cx}{elt cd:Expr}{te:TE}{tt:TT}{c:Code}{p:Aj}{σ:St}{H:Hp}{pins:List (Aj×Obj)}{s:Ab}
def appS (elt:Expr)(acc:Ag)(env:Env)(c:Code):Sem PySem.Fin:=(eval elt env >>= λx=>call (.builtin "list.append") [acc,x] >>= λ_=>pure ()) >>= λ_=>again c
theorem qyj {ys:List V}{N:List V→Hp→Prop}(hx:∀v s,Y.xe v s→False)(he:PE Y elt te)(J:Inv Y pins σ H s)(hz:ys.length<sizeLine)(h:te σ H λy H4=>H4 p=some (.lst ys)∧N (ys++[y]) (upd H4 p (.lst (ys++[y])))) :
  wpAny (model Y.prog Y.w) Y.A (appS elt (.ref p) Y.env c) (λr s5=>r=Fin.again c∧∃H5,Inv Y pins σ H5 s5∧∃zs,N zs H5) Y.xe s:=by
 refine ai (ai (aX (he _ s _ H _ J h) (λyv s7 hr7=>?_) λ_ _ z=>z))
 obtain ⟨y,H4,J7,ry,hp4,n4⟩:=hr7
 refine ai (aX (vg (X:=Y) _ s7 _ H4 (.ref p) [y] (.ref p) [yv] (λ_ H8=>H8=upd H4 p (.lst (ys++[y]))) J7 rfl (.cons ry .nil) ⟨_,ys,y,rfl,rfl,hp4,hz,rfl⟩) (λ_ s8 hr8=>?_) λ_ _ z=>z)
 obtain ⟨_,H8,J8,_,rfl⟩:=hr8
 exact az (az ⟨rfl,_,J8,_,n4⟩)
end
section
variable {X:Cx}{elt iter cd:Expr}{x:Str}{px pos:Pos}{scope:Scope}{cl:List (Str×Aj)}{M:List Nat}{wi:TI}{te:TE}{tt:TT}{pins:List (Aj×Obj)}{σ:St}
theorem qvj {N:List Str}{C:Aj}{s2:Ab}{H1:Hp}{fp:List Aj}(hcap:CapAll X.env cl)(I2:Inv X pins σ H1 s2)(hlt:s2.heap.objs.size<C)(hfp:∀b∈fp,jd X pins H1 b)(hbl:∀b∈fp,b<s2.heap.objs.size)(H2:Hp)(hn:∀b∈fp,H2 b=none) :
  ∀b∈fp,jd { X with N:=N,s₀:=s2,H₀:=H1,env:=compEnvC scope cl C X.env,outer:=X.stack,ex:=fp,fn:=λ_=>false,pn:=X.pn++pins,xe:=λ_ _=>False } [] H2 b:=λb hb=>by
 obtain ⟨q1,q2,q3,q4,q5,q6⟩:=hfp b hb
 refine ⟨hn b hb,au (bB (hbl b hb) hlt),λz=>?_,.inl hb,λy c e=>q5 y c (hcap.look e),λp hp=>q6 p ((bq.mp hp).elim (λz=>z) λz=>nomatch z)⟩
 rcases ak.mp (I2.stkSub b z) with z|z
 ·exact q2 z
 ·exact q3 z
theorem qkr {tg:Expr}{ifs:List Expr}{rest:List Comprehension}(hclos:closureFor scope X.env=pure cl)(hhas:HasAll cl scope.names)(hk:scope.kind=.function)
  (hnames:∀y∈scope.names,y.2=.local→scope.names.lookup y.1=some .local) (hi:PI X tg iter wi) (hs:∀z,foldedSetIterable iter X.env z=pure z)
  {use:Option (Ag→Sem Unit)} {QQ:Ag→Ab→Prop} {s:Ab} {H:Hp} {ps:Pos} {R:It→Hp→Prop} (I:Inv X pins σ H s) (h:wi σ H R)
  (go:∀(it:Aj) (fp:List Aj) (tn:Nat→Heap→Prop) (J:It) (H1:Hp) (s2:Ab) (C:Aj) (h3:Heap) (tk:Nat),Inv X pins σ H1 s2→Turn X.prog X.w X.K tg J fp it tn→tn 0 h3→(∀b∈fp,jd X pins H1 b)→(∀b∈fp,b<s2.heap.objs.size)→(∀b∈fp,∃o,s2.heap.get? b=some o)→R J H1→s2.heap.objs.size<C →
   (∀b o,s2.heap.get? b=some o→h3.get? b=some o)→(h3.Ns C λ_=>none)→h3.get? s2.heap.objs.size=some { cls:=.type "list",data:=.seq #[] 0 } →
   codeAny (model X.prog X.w) X.A (.compLoop (.ListComp elt (⟨tg,iter,ifs,0⟩::rest) scope pos) 0 (.ref it) (.ref s2.heap.objs.size) (compEnvC scope cl C X.env)) (compPost (model X.prog X.w) X.A X.xe use QQ (.ref s2.heap.objs.size) C) { s2 with heap:=h3,toks:=tk }) :
  wpAny (model X.prog X.w) X.A (comprehension (.ListComp elt (⟨tg,iter,ifs,0⟩::rest) scope pos) scope X.env ps (newList []) false (eval iter X.env) use) QQ X.xe s:=by
 refine wpAny_comprehension_free (use:=use) rfl hs hclos hk hnames ?_
 refine thn (hi pins s σ H _ I h) λv s1 h1=>thn h1 λitv s2 h2=>?_
 obtain ⟨it,fp,tn,J,H1,rfl,I2,T,t0,hfp,hR⟩:=h2
 refine dh ?_
 refine wpAny_newFunctionEnv hhas.nocell (by intro y hy;cases hy) (λh3 hns hsb=>?_) hk
 dsimp only at hns hsb ⊢
 generalize hH2:s2.heap.push { cls:=.type "list",dict:=none,data:=.seq ([]:List Ag).toArray }=G2 at hns hsb ⊢
 have hC:G2.objs.size=s2.heap.objs.size+1:=by rw [←hH2,cX]
 have hlt:s2.heap.objs.size<G2.objs.size:=by lia
 have keep:∀b o,s2.heap.get? b=some o→h3.get? b=some o:=λb o e=>by
  rw [hsb.2 b (au (bB (af e) hlt))]
  exact ac _ (hH2▸ac _ e)
 have hD:h3.get? s2.heap.objs.size=some { cls:=.type "list",data:=.seq #[] 0 }:=by
  rw [hsb.2 _ (au hlt)]
  exact ac _ (hH2▸aq _ rfl)
 have t3:=T.keep 0 _ _ t0 λb _ o e=>keep b o e
 have loop:=λtk=>go it fp tn J H1 s2 G2.objs.size h3 tk I2 T t3 hfp (λb hb=>let ⟨o,e,_⟩:=T.obj 0 _ t0 b hb;af e) (λb hb=>let ⟨o,e,_⟩:=T.obj 0 _ t0 b hb;⟨o,e⟩) hR hlt keep hns hD
 exact codeAny_compStart_list (loop _) (T.self _ 0 _ _ _ t3 (loop _))
theorem Zc (M:List Nat)(σ:St)(v:V):(zn M σ none).length=(zn M σ (some v)).length∧∀(k:Nat) z,(zn M σ none)[k]?=some (some z)→(zn M σ (some v))[k]?=some (some z):=⟨rfl,λk z ez=>by
 cases k with
 |zero=>cases ez
 |succ k=>exact ez⟩
end
section
variable {X:Cx}{elt iter:Expr}{x:Str}{px pos:Pos}{scope:Scope}{cl:List (Str×Aj)}{M:List Nat}{wi:TI}{te:TE}
theorem qud (hc:X.calm=true)(hclos:closureFor scope X.env=pure cl)(hcap:CapAll X.env cl)(hhas:HasAll cl scope.names)(hix:CapIx X scope cl M)(hk:scope.kind=.function)
  (hnames:∀y∈scope.names,y.2=.local→scope.names.lookup y.1=some .local) (hx:scope.names.lookup x=some .local) (hnd:(qxr X x M).Nodup) (hi:PI X (.Name x px) iter wi)
  (he:∀C s2 H2 fp pn,PE (z9 X scope cl x M C s2 H2 fp pn) elt te) (hs:∀z,foldedSetIterable iter X.env z=pure z)
  {use:Option (Ag→Sem Unit)} {QQ:Ag→Ab→Prop} {pins:List (Aj×Obj)} {s:Ab} {σ:St} {H:Hp} {Q:VK} {ps:Pos} (I:Inv X pins σ H s) (h:wi σ H λJ H1=>W0 J M te σ H1 Q)
  (fin:∀(C:Aj) (s2 s4:Ab) (H1 H2:Hp) (fp:List Aj),Inv X pins σ H1 s2→s2.heap.objs.size<C→(∀b∈fp,jd X pins H1 b)→Inv (z9 X scope cl x M C s2 H1 fp (X.pn++pins)) [] (zn M σ none) H2 s4→Q (.ref s2.heap.objs.size) H2 →
   compPost (model X.prog X.w) X.A X.xe use QQ (.ref s2.heap.objs.size) C (.ok .next) s4) :
  wpAny (model X.prog X.w) X.A (comprehension (.ListComp elt [⟨.Name x px,iter,[],0⟩] scope pos) scope X.env ps (newList []) false (eval iter X.env) use) QQ X.xe s:=by
 refine qkr hclos hhas hk hnames hi hs I h λit fp tn J H1 s2 C h3 tk I2 T t3 hfp hbl hob hR hlt keep hns hD=>?_
 obtain ⟨W,⟨m0,w0⟩,hW⟩:=hR s2.heap.objs.size (I2.hok.fresh (ae _))
 have hxl:(relabel scope X.env).names.lookup x=some .local:=lookup_relabel_local hx
 refine Y0 (Y:=z9 X scope cl x M C s2 H1 fp (X.pn++pins)) (V:=λi n H2=>∃ys,W i n ys H2) (Qd:=Q (.ref s2.heap.objs.size)) (REST:=appS elt (.ref s2.heap.objs.size) (compEnvC scope cl C X.env) _) T hc (λ_ _ z=>z) (compTurn_list1 ..) rfl rfl (wt (i:=0) hnd rfl (.inl hxl) (.inr hxl)) (qvj hcap I2 hlt hfp hbl) (λi n H2 ⟨ys,w⟩=>?_) (λH2 s4 J4 q=>fin C s2 s4 H1 H2 fp I2 hlt hfp J4 q) (I2.comp hcap hhas hix hk hlt keep hns hD hfp hob) ⟨[],w0⟩ t3 λb hb=>by rw [q9 (au (hbl b hb))];exact (hfp b hb).1
 obtain ⟨hp,hz,hcase⟩:=hW i n ys H2 w
 refine hcase.imp id λ⟨hgo,hy⟩=>⟨hgo,λv H3 yl=>⟨λσ4 H4=>σ4=zn M σ (some v)∧H3=H4,⟨rfl,rfl⟩,λ_ _ e=>?_⟩⟩
 obtain ⟨rfl,rfl⟩:=e
 refine ⟨Zc M σ v,λpins' s' J=>?_⟩
 refine aX (qyj (N:=λzs H5=>∃m',m'<n∧W (i+1) m' zs H5) (λ_ _ z=>z) (he _ _ _ _ _) J hz (hy v H3 yl)) (λr s5 ⟨e,H5,J5,zs,m',hm,w'⟩=>⟨e,H5,J5,m',hm,zs,w'⟩) λ_ _ z=>z
theorem vz (hc:X.calm=true)(hclos:closureFor scope X.env=pure cl)(hcap:CapAll X.env cl)(hhas:HasAll cl scope.names)(hix:CapIx X scope cl M)(hk:scope.kind=.function)
  (hnames:∀y∈scope.names,y.2=.local→scope.names.lookup y.1=some .local) (hx:scope.names.lookup x=some .local) (hnd:(qxr X x M).Nodup) (hi:PI X (.Name x px) iter wi)
  (he:∀C s2 H2 fp pn,PE (z9 X scope cl x M C s2 H2 fp pn) elt te) (hs:autoParam (∀z,foldedSetIterable iter X.env z=pure z) aU3._auto_1) :
  PE X (.ListComp elt [⟨.Name x px,iter,[],0⟩] scope pos) (tComp M wi te):=by
 intro pins s σ H Q I h
 rw [eval_ListComp]
 refine qud hc hclos hcap hhas hix hk hnames hx hnd hi he hs (use:=none) I h λC s2 s4 H1 H2 fp I2 hlt hfp J4 hq=>?_
 obtain ⟨m,hn,_⟩:=J4.loc
 exact ⟨m,hn,λh' hs'=>⟨.ref s2.heap.objs.size,H2,I2.uncomp (bL hlt) hfp J4 hs',rfl,hq⟩⟩
theorem Inv.but {pins:List (Aj×Obj)}{σ:St}{H:Hp}{s:Ab}{h':Heap}{C:Aj}(I:Inv X pins σ H s)(hn:H C=none)(h1:X.s₀.heap.objs.size≤C)(h2:C≠X.env.locals)(h3:∀y c,X.env.cells.lookup y=some c→c≠C)(h4:∀p∈X.pn++pins,p.1≠C)
  (hs:Heap.SameBut C s.heap h'):Inv X pins σ H { s with heap:=h' }:=by
 have st:∀b o,b≠C→s.heap.get? b=some o→h'.get? b=some o:=λb o n e=>(hs.2 b n).trans e
 have nc:∀b,b∉[C]→b≠C:=λb z e=>z (by rw [e];exact .head _)
 refine I.call' (s':={ s with heap:=h' }) (ch:=[C]) rfl ⟨λb o e n _ nx=>st b o (nc b nx) e,λb o e n _ nx=>⟨o.slots,st b o (nc b nx) e⟩,λb o e n _=>n,λb o e nx=>⟨o,st b o (nc b nx) e⟩,λ_ _ e=>e,λ_ _ _ e=>e,λb ps e=>⟨#[],by rw [e];simp⟩⟩ ?_ I.bare λb hb=>?_
 ·intro b u hu
  refine (I.hok b u hu).stay (λc v hc e=>st c v ?_ e) (λ_ z=>z) λ_ _ z=>z
  rcases hc with rfl|hc
  ·intro z;rw [z,hn] at hu;cases hu
  ·intro z;rw [z,hn] at hc;cases hc
 ·rw [ao.mp hb]
  exact ⟨.inr h1,h2,h3,h4⟩
end
theorem kj {M:List Nat}{lo:Int}{n:Nat}{te:TE}{σ:St}{H:Hp}{Q:VK}(f:Nat→V)(hn:n≤1000000)(he:∀(i:Nat) (H':Hp) (R:VK),i<n→Same H H'→R (f i) H'→te (zn M σ (some (.int (lo+i)))) H' R)
  (k:∀p,H p=none→Q (.ref p) (upd H p (.lst ((List.range n).map f)))):W0 (Itr lo n) M te σ H Q:=by
 intro p np
 refine ⟨λi m ys H2=>i≤n∧m=n-i∧ys=(List.range i).map f∧H2=upd H p (.lst ys),⟨n,aC _,rfl,rfl,rfl⟩,?_⟩
 rintro i m ys H2 ⟨hi,rfl,rfl,rfl⟩
 refine ⟨qj,?_,?_⟩
 ·rw [aa,bv]
  have:(1000000:Nat)<sizeLine:=by decide
  lia
 ·by_cases hlt:i<n
  ·refine .inr ⟨hlt,?_⟩
   rintro v H3 ⟨rfl,rfl⟩
   refine he i (upd H p (.lst ((List.range i).map f))) _ hlt (Same.upd np) ⟨qj,n-(i+1),⋯,⋯,rfl,?_,?_⟩
   ·rw [dO,aP]
    rfl
   ·rw [yk]
  ·have:i=n:=by lia
   subst this
   exact .inl ⟨ae _,k p np⟩
theorem Y6 {K:Aa}{M:List Nat}{a:Aj}{xs:List V}{te:TE}{σ:St}{H:Hp}{Q:VK}(f:V→V)(hS:SqL K H a xs)(hn:xs.length≤1000000)(he:∀(x:V) (H':Hp) (R:VK),x∈xs→Same H H'→R (f x) H'→te (zn M σ (some x)) H' R)
  (k:∀p,H p=none→Q (.ref p) (upd H p (.lst (xs.map f)))):W0 (Itl K a) M te σ H Q:=by
 intro p np
 refine ⟨λi m ys H2=>i≤xs.length∧m=xs.length-i∧ys=(xs.take i).map f∧H2=upd H p (.lst ys),⟨xs.length,aC _,rfl,rfl,rfl⟩,?_⟩
 rintro i m ys H2 ⟨hi,rfl,rfl,rfl⟩
 have hS':SqL K (upd H p (.lst ((xs.take i).map f))) a xs:=Same.sql (Same.upd np) hS
 refine ⟨qj,?_,?_⟩
 ·rw [aa,br]
  have:(1000000:Nat)<sizeLine:=by decide
  lia
 ·by_cases hlt:i<xs.length
  ·have hx:xs[i]?=some xs[i]:=al hlt
   refine .inr ⟨⟨xs,_,hS',hx⟩,?_⟩
   rintro v H3 ⟨rfl,hv⟩
   have e:=hv xs hS'
   rw [hx] at e
   have e':=ap e
   subst e'
   refine he _ _ _ (bz hlt) (Same.upd np) ⟨qj,xs.length-(i+1),⋯,⋯,rfl,?_,?_⟩
   ·rw [List.take_succ,hx,aP]
    rfl
   ·rw [yk]
  ·have hi':i=xs.length:=by lia
   subst hi'
   refine .inl ⟨⟨xs,hS',ae _⟩,?_⟩
   rw [bA]
   exact k p np
end L2
namespace L2
open PySem PySem.Spec PyProof.Rows
section
variable {X:Cx}
theorem Ys {pins:List (Aj×Obj)}{σ:St}{H:Hp}{s:Ab}{p:Aj}{ns:List Int}(I:Inv X pins σ H s)(hS:SqL X.K H p (ns.map V.int)) :
  ∃ts:Array (Int×Tok),s.heap.IsList p (intItems ts)∧ns=ts.toList.map (·.1):=by
 obtain ⟨its,rv,⟨o,n,e1,e2,e3,e4⟩,hz⟩:=I.list hS
 have hi:=qz2 rv
 obtain ⟨ts,ht⟩:=hi.allInts.items
 refine ⟨ts,⟨o,e1,e2,n,by rw [←ht];exact e4⟩,?_⟩
 have a1:=hi.numsOf
 have a2:=nums_intItems (xs:=ts)
 rw [←ht] at a2
 exact a1.symm.trans a2
theorem Yj (hc:X.calm=true):z7 X (.builtin "min") (λxs H Q=>∃(p:Aj) (ns:List Int),xs=[.ref p]∧SqL X.K H p (ns.map V.int)∧0<ns.length∧∀m,m∈ns→(∀a∈ns,m≤a)→Q (.int m) H):=by
 intro pins s σ H xs us Q I r h
 obtain ⟨p,ns,rfl,hS,hne,q⟩:=h
 obtain ⟨u,rfl,ru⟩:=jq r
 cases (show u=Value.ref p from ru)
 obtain ⟨ts,hl,he⟩:=Ys I hS
 have hsz:ts.size=ns.length:=by rw [he,aa,bw]
 refine min_intList (I.ok.hd hc) hl ⋯ λv h' tk hv hk=>?_
 obtain ⟨t,rfl⟩:=intItems_at hv
 obtain ⟨b1,b2⟩:=argBest_lt (numAt ts) (ts.size-1)
 refine ⟨.int _,H,I.kept hk,⟨t,rfl⟩,q _ ?_ λa ha=>?_⟩
 ·rw [he,numAt_eq]
  refine getD_mem ?_
  rw [←he,←hsz]
  lia
 ·rw [he] at ha
  obtain ⟨j,hj,rfl⟩:=mem_getD ha
  rw [←he,←hsz] at hj
  rw [←numAt_eq]
  exact b2 j ⋯
theorem Yv (hc:X.calm=true):z7 X (.builtin "max") (λxs H Q=>∃(p:Aj) (ns:List Int),xs=[.ref p]∧SqL X.K H p (ns.map V.int)∧0<ns.length∧∀m,m∈ns→(∀a∈ns,a≤m)→Q (.int m) H):=by
 intro pins s σ H xs us Q I r h
 obtain ⟨p,ns,rfl,hS,hne,q⟩:=h
 obtain ⟨u,rfl,ru⟩:=jq r
 cases (show u=Value.ref p from ru)
 obtain ⟨ts,hl,he⟩:=Ys I hS
 have hsz:ts.size=ns.length:=by rw [he,aa,bw]
 refine max_intList (I.ok.hd hc) hl ⋯ λv h' tk hv hk=>?_
 obtain ⟨t,rfl⟩:=intItems_at hv
 obtain ⟨b1,b2⟩:=argBest_gt (numAt ts) (ts.size-1)
 refine ⟨.int _,H,I.kept hk,⟨t,rfl⟩,q _ ?_ λa ha=>?_⟩
 ·rw [he,numAt_eq]
  refine getD_mem ?_
  rw [←he,←hsz]
  lia
 ·rw [he] at ha
  obtain ⟨j,hj,rfl⟩:=mem_getD ha
  rw [←he,←hsz] at hj
  rw [←numAt_eq]
  exact b2 j ⋯
theorem qxh:∀ {bs:List Bool} {its:List Ag},Vals (bs.map V.bl) its→its=bs.map Value.bool
 |[],_,.nil=>rfl
 |b::bs,_,.cons r t=>by
  have e:_=Value.bool b:=r
  rw [aG,←qxh t,e]
theorem qv0 (bs:List Bool):(List.range bs.length).all (λi=>bs.getD i true)=bs.all id:=by
 rw [bX,cF,cF]
 constructor
 ·intro h b hb
  obtain ⟨i,hi,rfl⟩:=cO hb
  have:=h i (bj.mpr hi)
  rw [aJ,al hi] at this
  exact this
 ·intro h i hi
  have hi':=bj.mp hi
  rw [aJ,al hi']
  exact h _ (bz hi')
theorem Yc (hc:X.calm=true):z7 X (.builtin "all") (λxs H Q=>∃(p:Aj) (bs:List Bool),xs=[.ref p]∧SqL X.K H p (bs.map V.bl)∧Q (.bl (bs.all id)) H):=by
 intro pins s σ H xs us Q I r h
 obtain ⟨p,bs,rfl,hS,q⟩:=h
 obtain ⟨u,rfl,ru⟩:=jq r
 cases (show u=Value.ref p from ru)
 obtain ⟨its,rv,⟨o,n,e1,e2,e3,e4⟩,hz⟩:=I.list hS
 have hits:=qxh rv
 have hl:s.heap.IsList p its.toArray:=⟨o,e1,e2,n,e4⟩
 have hlt:p<s.heap.objs.size:=af e1
 refine call_all_walk (wpAny_pyIter_list hl ?_)
 refine ⟨s.heap.objs.size,_,_,_,_,_,λi=>bs.getD i true,rfl,Walks.list (A:=X.A.in1) (I.ok.hd hc) _ p (au hlt) its.toArray,⟨⟨_,aq _ rfl,rfl,rfl⟩,hl.push _⟩,λi v s' Q' E' hP hQ=>?_,λh' tk hk=>?_⟩
 ·have hv:its[i]?=some v:=by simpa using hP
  rw [hits,aI] at hv
  cases hb:bs[i]? with
  |none=>rw [hb] at hv;cases hv
  |some b =>
   rw [hb] at hv
   have ev:Value.bool b=v:=ap hv
   subst ev
   refine cf ?_
   have e2:bs.getD i true=b:=by rw [aJ,hb];rfl
   have hQ':Q' (bs.getD i true) s':=hQ
   rw [e2] at hQ'
   exact hQ'
 ·have hlen:its.toArray.size=bs.length:=by rw [hits];simp
  rw [hlen,qv0]
  refine ⟨.bl _,H,I.kept λb ob e=>hk b ob (λhm=>?_) (ac _ e),rfl,q⟩
  have z:b=s.heap.objs.size:=by simpa using hm
  exact aZ _ (z▸af e)
end
structure MCal (P:Ac)(w:Ah)(K:Aa)(mg:Str→Option Ag)(base:Heap)(C:Aj)(m:Str)(k:Nat)(sp:Sp):Prop where
 ex:∃f fd ps,Meth K C m f∧FnOk P w K mg base (CXE P w) k f fd ps sp∧Binds K fd ps []
structure CCal (P:Ac)(w:Ah)(K:Aa)(mg:Str→Option Ag)(base:Heap)(x:Str)(C:Aj)(k:Nat)(sp:Sp):Prop where
 ex:∃f fd ps,mg x=some (.ref C)∧Mk K C f∧FnOk P w K mg base (CXE P w) k f fd ps sp∧Binds K fd ps []
structure MethIn (K:Aa)(C:Aj)(m qual:Str)(st:Stmt):Prop where
 ex:∃f fd,W.findIn K (.ref C) m=some (some (.ref f))∧W.isFn K (.ref f)=true∧Fun K m qual st f fd
theorem wqz {K:Aa}{C:Aj}{m qual:Str}{st:Stmt}{f:Aj}{oc:Ag}{od an:Option Aj}{osl:Array (Option Ag)}{kV doc pm cdv ct:Ag}(a:W.findIn K (.ref C) m=some (some (.ref f)))(i:W.isFn K (.ref f)=true)
  (l:K.lookup f=some ⟨oc,od,.func (W.fnOf m qual (k8 st) (vd st) (wu st) .none kV doc pm an cdv ct),osl⟩) (c:W.codeIn K cdv qual=true) (k:W.keepIn K (.ref f)=true):MethIn K C m qual st:=⟨_,_,a,i,qj8 l c k⟩
def x4 (x qual:Str)(st:Stmt)(ps:List Str):Prop:=∀(kV doc pm:Ag) (an:Option Aj) (cdv ct:Ag) (us:List Ag),us.length=ps.length→bindArgs (W.fnOf x qual (k8 st) (vd st) (wu st) .none kV doc pm an cdv ct) ⟨us,[]⟩=pure (ps.zip us)
section
variable {P:Ac}{w:Ah}{K:Aa}{mg:Str→Option Ag}{base:Heap}{C:Aj}
theorem MethIn.cal {m qual:Str}{st:Stmt}{ps:List Str}{k:Nat}{sp:Sp}(d:MethIn K C m qual st)(b:x4 m qual st ps)(ok:∀f fd,Fun K m qual st f fd→FnOk P w K mg base (CXE P w) k f fd ps sp):MCal P w K mg base C m k sp:=by
 obtain ⟨f,fd,a,i,F⟩:=d.ex
 exact ⟨f,fd,ps,⟨a,i,F.kp⟩,ok f fd F,F.binds b⟩
theorem MethIn.ccal {x qual:Str}{st:Stmt}{ps:List Str}{k:Nat}{sp:Sp}(d:MethIn K C "__init__" qual st)(hm:mg x=some (.ref C))(mk:W.makesIn K C=true)(kc:W.keepIn K (.ref C)=true)(b:x4 "__init__" qual st ps)
  (ok:∀f fd,Fun K "__init__" qual st f fd→FnOk P w K mg base (CXE P w) k f fd ps sp):CCal P w K mg base x C k sp:=by
 obtain ⟨f,fd,a,i,F⟩:=d.ex
 exact ⟨f,fd,ps,hm,⟨mk,a,i,kc⟩,ok f fd F,F.binds b⟩
end
section
variable {X:Cx}{C:Aj}{x m:Str}{k:Nat}{sp:Sp}{E:St→XK}{p pos apos:Pos}{e o:Expr}{es:List Expr}{ta:TE}{t:TA}
theorem qxx (c:CCal X.prog X.w X.K X.mg X.base x C k sp)(hr:Room (k+1) X.A)(hg:Gl X x)(hx:kh X E)
  (ha:PA X (e::es) t) (hdb:autoParam ((x==("__debug__" : Str))=false) aU1._auto_1) (he:autoParam (starEach (e::es) X.env=(false,eval e X.env)::starEach es X.env) aU4._auto_1) (hpl:autoParam ((backTo pos (starEach es X.env)).any (·.1)=false) aU4._auto_1) :
  PE X (.Call (.Name x p) (e::es) [] pos) (qx2 C sp E t):=by
 obtain ⟨f,fd,ps,hm,M,F,b⟩:=c.ex
 exact qj2 M F hr hg hm b hx ha hdb he hpl
theorem qj1 {pl:Sem Bool}(he:PE X o ta)(cl:Cls X.K C)(c:MCal X.prog X.w X.K X.mg X.base C m k sp)(hr:Room k X.A)(hx:kh X E)(ha:PA X (e::es) t)
  (hst:autoParam (starEach (e::es) X.env=(false,eval e X.env)::starEach es X.env) aU4._auto_1) (hpl:autoParam ((backTo pos (starEach es X.env)).any (·.1)=false) aU4._auto_1)
  (ht:autoParam (eval (.Call (.Attribute o m apos) (e::es) [] pos) X.env=(do
   let ov ←eval o X.env
   standAt apos.atName
   let (f,first) ←holding [ov] (getMethod ov m pl)
   callWith pos f first (backTo pos (starEach (e::es) X.env)) (backToKw pos (keywordEach [] X.env)))) aU4._auto_1) :
  PE X (.Call (.Attribute o m apos) (e::es) [] pos) (Zp C m sp E ta t):=by
 obtain ⟨f,fd,ps,hm,F,b⟩:=c.ex
 exact qy9 he cl hm F hr b hx ha hst hpl ht
theorem jv {pl:Sem Bool}(he:PE X o ta)(cl:Cls X.K C)(c:MCal X.prog X.w X.K X.mg X.base C m k sp)(hr:Room k X.A)(hx:kh X E)
  (ht:autoParam (eval (.Call (.Attribute o m apos) [] [] pos) X.env=(do
   let ov ←eval o X.env
   standAt apos.atName
   let (f,first) ←holding [ov] (getMethod ov m pl)
   callWith pos f first (backTo pos (starEach [] X.env)) (backToKw pos (keywordEach [] X.env)))) aU4._auto_1) :
  PE X (.Call (.Attribute o m apos) [] [] pos) (Zp C m sp E ta Q8):=by
 obtain ⟨f,fd,ps,hm,F,b⟩:=c.ex
 exact qv6 he cl hm F hr b hx ht
end
end L2
namespace L2
open PySem
theorem Jr {t b:Int}(hb:1≤b):(wm t b).1<0↔t<0:=by
 have hg:=k9 (t:=t) hb
 have e1:gOf t b*(wm t b).1=t:=qvm
 constructor
 ·intro h
  have:=db h (show 0<gOf t b by lia)
  rw [e1,Int.mul_zero] at this
  exact this
 ·intro h
  rcases cm (wm t b).1 0 with z|z
  ·exact z
  ·have:=bR z (show 0≤gOf t b by lia)
   rw [e1,Int.mul_zero] at this
   lia
theorem qzv {t b n:Int}(hb:1≤b):n*(wm t b).2<(wm t b).1↔n*b<t:=by
 have hg:=k9 (t:=t) hb
 have e1:gOf t b*(wm t b).1=t:=qvm
 have e2:gOf t b*(wm t b).2=b:=qwz hb
 have e3:gOf t b*(n*(wm t b).2)=n*b:=by
  generalize gOf t b=g at *
  generalize (wm t b).2=y at *
  grind
 constructor
 ·intro h
  have:=db h (show 0<gOf t b by lia)
  rw [e1,e3] at this
  exact this
 ·intro h
  rcases cm (n*(wm t b).2) (wm t b).1 with z|z
  ·exact z
  ·have:=bR z (show 0≤gOf t b by lia)
   rw [e1,e3] at this
   lia
end L2
namespace L2
open PySem PySem.Spec PyProof.Rows
def tRev (K:Aa)(te:TE)(ts:TE):TE:=λσ H Q=>te σ H λx H1=>ts σ H1 λy H2=>y=.int (-1)∧∃a xs,x=.ref a∧SqL K H2 a xs∧∀p,H2 p=none→Q (.ref p) (upd H2 p (.lst xs.reverse))
theorem pe_rev {X:Cx}{e st:Expr}{te ts:TE}{p2 pos:Pos}{ops:Ag→Ag→List Ag}(he:PE X e te)(hs:PE X st ts)(hsub:∀ov iv,subscripted (.Slice none none (some st) p2) false ov iv=operate (ops ov iv) (getItem ov iv):=by intros;rfl):PE X (.Subscript e (.Slice none none (some st) p2) pos) (tRev X.K te ts):=by
 intro pins s σ H Q I h
 refine Subscript_ (thn (he pins s σ H _ I h) λv s1 ⟨x,H1,I1,r1,q1⟩=>?_)
 refine wpAny_Slice ?_
 rw [evalPart_none]
 refine az (az ?_)
 rw [evalPart_some]
 refine thn (hs pins s1 σ H1 _ I1 q1) λvs s3 ⟨y,H3,I3,r3,e3,a,xs,ex,hq,q⟩=>?_
 subst e3 ex
 cases r1
 obtain ⟨t,rfl⟩:=r3
 have I4:Inv X pins σ H3 { s3 with heap:=s3.heap.push { cls:=.type "slice",data:=.fields #[.none,.none,.int (-1) t] } }:=I3.kept (t':=s3.toks) λb ob q=>ac _ q
 obtain ⟨its,r,ht,hz⟩:=I4.list hq
 have hlen:=r.length
 show wpAny (model X.prog X.w) X.A (subscriptTail e (.Slice none none (some st) p2) (.ref a) (.ref s3.heap.objs.size)) (EP X pins σ Q) X.xe { s3 with heap:=s3.heap.push { cls:=.type "slice",data:=.fields #[.none,.none,.int (-1) t] } }
 refine tail_any (ops:=ops (.ref a) (.ref s3.heap.objs.size)) ht.isList.typeIs slot_list_getitem.lookup ?_ (hsub _ _)
 refine wpAny_getItem_list_slice ht.isList (Heap.IsSliceOf.new ..) .none .none (.int (-1) t) (by simp) ?_ (by rw [ay] <;> lia)
 rw [W.krv_pick]
 refine ⟨.ref _,_,I4.laid (t':=s3.toks) (o:=.lst xs.reverse) (λb ob q=>ac _ q) (ae _) ?_,rfl,q _ (I4.hok.fresh (ae _))⟩
 exact ⟨by rw [List.length_reverse];exact hz,_,0,r.reverse,aq _ rfl⟩
end L2
namespace L2
open PySem PySem.Spec PyProof.Rows
section
variable {κ:Type}[DecidableEq κ]
def wj (kvs:List (κ×V))(k:κ):Option V:=(kvs.find? λkv=>decide (kv.1=k)).map (·.2)
def zb (kvs:List (κ×V))(k:κ)(v:V):List (κ×V) :=
 if (kvs.any λkv=>decide (kv.1=k))=true then kvs.map (λkv=>if kv.1=k then (kv.1,v) else kv) else kvs++[(k,v)]
def j7 (kvs:List (κ×V))(k:κ):List (κ×V):=kvs.filter λkv=>decide (kv.1≠k)
theorem xy {p:κ×V}{r:List (κ×V)}{k:κ}(e:p.1=k):wj (p::r) k=some p.2:=by simp [wj,bZ,e]
theorem xj {p:κ×V}{r:List (κ×V)}{k:κ}(e:¬ p.1=k):wj (p::r) k=wj r k:=by simp [wj,bZ,e]
theorem ju (k:κ):∀kvs:List (κ×V),(kvs.any λkv=>decide (kv.1=k))=(wj kvs k).isSome
 |[]=>rfl
 |p::r=>by
  rw [dU]
  by_cases e:p.1=k
  ·simp only [xy e,bn e,Bool.true_or,Option.isSome_some]
  ·rw [xj e,aY e,Bool.false_or];exact ju k r
theorem qwv (k j:κ)(y:V):∀kvs:List (κ×V),wj (kvs.map λkv=>if kv.1=k then (kv.1,y) else kv) j=(wj kvs j).map λx=>if j=k then y else x
 |[]=>rfl
 |p::r=>by
  have ih:=qwv k j y r
  rw [aG]
  by_cases h:p.1=k
  ·rw [aj h]
   by_cases e:p.1=j
   ·rw [xy (p:=(p.1,y)) e,xy e,bG,aj (e.symm.trans h)]
   ·rw [xj (p:=(p.1,y)) e,xj e,ih]
  ·rw [ag h]
   by_cases e:p.1=j
   ·rw [xy (p:=p) e,xy e,bG,ag (λz=>h (e.trans z))]
   ·rw [xj (p:=p) e,xj e,ih]
theorem Jw (k j:κ)(y:V):∀kvs:List (κ×V),wj kvs k=none→wj (kvs++[(k,y)]) j=if j=k then some y else wj kvs j
 |[],_=>by
  by_cases e:k=j
  ·rw [aj e.symm];exact xy (p:=(k,y)) e
  ·rw [ag (λz=>e z.symm)];exact xj (p:=(k,y)) e
 |p::r,hn=>by
  rw [List.cons_append]
  have hk:¬ p.1=k:=λz=>by rw [xy z] at hn;cases hn
  rw [xj hk] at hn
  have ih:=Jw k j y r hn
  by_cases e:p.1=j
  ·rw [xy e,xy e,ag (λz=>hk (e.trans z))]
  ·rw [xj e,xj e,ih]
theorem uy (kvs:List (κ×V))(k j:κ)(y:V):wj (zb kvs k y) j=if j=k then some y else wj kvs j:=by
 unfold zb
 by_cases a:(kvs.any λkv=>decide (kv.1=k))=true
 ·rw [aj a,qwv]
  rw [ju] at a
  by_cases e:j=k
  ·obtain ⟨x,hx⟩:=ar.mp a
   rw [aj e,e,hx,bG,aj rfl]
  ·rw [ag e]
   cases wj kvs j with
   |none=>rfl
   |some x=>rw [bG,ag e]
 ·rw [ag a]
  refine Jw k j y kvs ?_
  rw [ju] at a
  cases q:wj kvs k with
  |none=>rfl
  |some x=>rw [q] at a;exact (a rfl).elim
theorem vj (kvs:List (κ×V))(k:κ)(v:V):(zb kvs k v).length≤kvs.length+1:=by
 unfold zb
 split
 ·rw [aa];lia
 ·rw [aM,aw,cv];lia
theorem qwh {kvs:List (κ×V)}{k:κ}(v:V)(h:wj kvs k=none):zb kvs k v=kvs++[(k,v)]:=by
 unfold zb
 rw [ju,h]
 exact ag ⋯
theorem RelO.isSome_eq {o:Option V}{u:Option Ag}(r:RelO o u):o.isSome=u.isSome:=by
 cases o with
 |none=>cases u with
  |none=>rfl
  |some _=>exact (show False from r).elim
 |some _=>cases u with
  |none=>exact (show False from r).elim
  |some _=>rfl
theorem RelO.getD {o:Option V}{u:Option Ag}{d:V}{d':Ag}(r:RelO o u)(rd:RelV d d'):RelV (o.getD d) (u.getD d'):=by
 cases o with
 |none=>cases u with
  |none=>exact rd
  |some _=>exact (show False from r).elim
 |some _=>cases u with
  |none=>exact (show False from r).elim
  |some _=>exact r
theorem KV.val {kvs:List (κ×V)}{vs:List (κ×Ag)}(r:KV kvs vs)(k:κ):RelO (wj kvs k) (valueAt vs k):=by
 unfold KV at r
 induction r with
 |nil=>exact True.intro
 |@cons p q ps qs h t ih =>
  obtain ⟨h1,h2⟩:=h
  by_cases e:p.1=k
  ·have e':q.1=k:=h1.symm.trans e
   have b:valueAt (q::qs) k=some q.2:=by simp [valueAt,bZ,e']
   rw [xy e,b];exact h2
  ·have e':¬ q.1=k:=λz=>e (h1.trans z)
   have b:valueAt (q::qs) k=valueAt qs k:=by simp [valueAt,bZ,e']
   rw [xj e,b];exact ih
theorem KV.any {kvs:List (κ×V)}{vs:List (κ×Ag)}(r:KV kvs vs)(k:κ):(kvs.any λkv=>decide (kv.1=k))=vs.any λkv=>decide (kv.1=k):=by
 unfold KV at r
 induction r with
 |nil=>rfl
 |cons h t ih=>rw [dU,dU,ih,h.1]
theorem KV.repl {kvs:List (κ×V)}{vs:List (κ×Ag)}(r:KV kvs vs)(k:κ){y:V}{u:Ag}(ry:RelV y u) :
  KV (kvs.map λkv=>if kv.1=k then (kv.1,y) else kv) (vs.map λkv=>if kv.1=k then (kv.1,u) else kv):=by
 unfold KV at r ⊢
 induction r with
 |nil=>exact .nil
 |@cons p q ps qs h t ih =>
  rw [aG,aG]
  refine .cons ?_ ih
  obtain ⟨h1,h2⟩:=h
  by_cases e:p.1=k
  ·rw [aj e,aj (h1.symm.trans e)];exact ⟨h1,ry⟩
  ·rw [ag e,ag (λz=>e (h1.trans z))];exact ⟨h1,h2⟩
theorem KV.put {kvs:List (κ×V)}{vs:List (κ×Ag)}(r:KV kvs vs)(k:κ){y:V}{u:Ag}(ry:RelV y u):KV (zb kvs k y) (stored vs k u):=by
 unfold zb stored
 rw [r.any k]
 by_cases e:(vs.any λkv=>decide (kv.1=k))=true
 ·rw [aj e,aj e];exact r.repl k ry
 ·rw [ag e,ag e];exact Paired.snoc r ⟨rfl,ry⟩
theorem KV.drop {kvs:List (κ×V)}{vs:List (κ×Ag)}(r:KV kvs vs)(k:κ):KV (j7 kvs k) (without vs k):=by
 unfold KV at r ⊢
 unfold j7 without
 induction r with
 |nil=>exact .nil
 |@cons p q ps qs h t ih =>
  obtain ⟨h1,h2⟩:=h
  rw [bP,bP]
  by_cases e:p.1=k
  ·have a:¬ decide (p.1≠k)=true:=by simp [e]
   have b:¬ decide (q.1≠k)=true:=by simp [h1.symm.trans e]
   rw [ag a,ag b];exact ih
  ·have e':¬ q.1=k:=λz=>e (h1.trans z)
   have a:decide (p.1≠k)=true:=by simp [e]
   have b:decide (q.1≠k)=true:=by simp [e']
   rw [aj a,aj b];exact .cons ⟨h1,h2⟩ ih
theorem KV.length {kvs:List (κ×V)}{vs:List (κ×Ag)}(r:KV kvs vs):kvs.length=vs.length:=bi r
theorem qw2 (kvs:List (κ×V))(k:κ):(j7 kvs k).length≤kvs.length:=List.length_filter_le _ _
end
theorem um {P:Ac}{w:Ah}{k:Key}{u:Ag}(r:RelV (kV k) u):(xx P w).is k u=true:=by
 cases k with
 |inl i=>obtain ⟨t,e⟩:=(show ∃t,u=Value.int i t from r);subst e;exact qwr P w i t
 |inr x=>obtain ⟨t,e⟩:=(show ∃t,u=Value.str x t from r);subst e;exact qwm P w x t
theorem Y2 {P:Ac}{w:Ah}:∀ {ks:List Key} {us:List Ag},Vals (ks.map kV) us→ItemsAre (xx P w) ks us
 |[],_,r=>by rw [cS] at r;cases r;exact .nil
 |k::ks,_,r=>by
  rw [aG] at r
  cases r with
  |cons h t=>exact .cons (um h) (Y2 t)
abbrev KT (H:Hp):List (List Key×V)→List (List Key×Aj×Ag)→Prop:=Paired λp q=>p.1=q.1∧H q.2.1=some (.tup (p.1.map kV))∧RelV p.2 q.2.2
theorem KT.val {H:Hp}{kvs:List (List Key×V)}{xs:List (List Key×Aj×Ag)}(r:KT H kvs xs)(k:List Key):RelO (wj kvs k) ((atKey xs k).map (·.2)):=by
 induction r with
 |nil=>exact True.intro
 |@cons p q ps qs h t ih =>
  obtain ⟨h1,_,h2⟩:=h
  by_cases e:p.1=k
  ·have e':q.1=k:=h1.symm.trans e
   have b:atKey (q::qs) k=some q.2:=by simp [atKey,bZ,e']
   rw [xy e,b];exact h2
  ·have e':¬ q.1=k:=λz=>e (h1.trans z)
   have b:atKey (q::qs) k=atKey qs k:=by simp [atKey,bZ,e']
   rw [xj e,b];exact ih
theorem KT.repl {H:Hp}{kvs:List (List Key×V)}{xs:List (List Key×Aj×Ag)}(r:KT H kvs xs)(k:List Key){y:V}{u:Ag}(ry:RelV y u) :
  KT H (kvs.map λkv=>if kv.1=k then (kv.1,y) else kv) (xs.map (putAt k u)):=by
 induction r with
 |nil=>exact .nil
 |@cons p q ps qs h t ih =>
  rw [aG,aG]
  refine .cons ?_ ih
  obtain ⟨h1,h2,h3⟩:=h
  unfold putAt
  by_cases e:p.1=k
  ·rw [aj e,aj (h1.symm.trans e)];exact ⟨h1,h2,ry⟩
  ·rw [ag e,ag (λz=>e (h1.trans z))];exact ⟨h1,h2,h3⟩
theorem KT.put {H:Hp}{kvs:List (List Key×V)}{xs:List (List Key×Aj×Ag)}(r:KT H kvs xs)(k:List Key){b:Aj}{y:V}{u:Ag}(hb:H b=some (.tup (k.map kV)))(ry:RelV y u) :
  KT H (zb kvs k y) (storedH xs k b u):=by
 have e:(kvs.any λkv=>decide (kv.1=k))=(atKey xs k).isSome:=by
  rw [ju,(r.val k).isSome_eq,cg]
 unfold zb storedH
 rw [e]
 by_cases q:(atKey xs k).isSome=true
 ·rw [aj q,aj q];exact r.repl k ry
 ·rw [ag q,ag q];exact Paired.snoc r ⟨rfl,hb,ry⟩
theorem KT.keeps {H H':Hp}{kvs:List (List Key×V)}{xs:List (List Key×Aj×Ag)}(r:KT H kvs xs)(ht:∀b ys,H b=some (.tup ys)→H' b=some (.tup ys)):KT H' kvs xs :=
 Paired.mapP r λ_ _ z=>⟨z.1,ht _ _ z.2.1,z.2.2⟩
section
variable {P:Ac}{w:Ah}{H:Hp}{h:Heap}{a:Aj}
theorem rd_of {u:HO}(ok:HOk P w H h)(e:Rd H a u):ObjOk P w H h a u:=e.ok ok
theorem yf {kvs:List (Key×V)}(ok:HOk P w H h)(e:Rd H a (.dK kvs)):kvs.length≤sizeLine∧(a==sysModules)=false∧∃vs,KV kvs vs∧h.DictOf (xx P w) a vs :=
 show ObjOk P w H h a (.dK kvs) from rd_of ok e
theorem Jy {kvs:List (Key×V)}(ok:HOk P w H h)(e:H a=some (.dK kvs)):kvs.length≤sizeLine∧(a==sysModules)=false∧∃vs,KV kvs vs∧h.DictOf (xx P w) a vs:=yf ok (.inl e)
theorem y8 {ks:List Key}(ok:HOk P w H h)(e:H a=some (.tup (ks.map kV))):(tupleKind (xx P w)).is h ks a:=by
 obtain ⟨_,its,r,o,h1,h2,n,h3⟩:=(show ObjOk P w H h a (.tup (ks.map kV)) from ok a _ e)
 exact ⟨o,its.toArray,n,h1,h2,h3,by simpa using Y2 r⟩
theorem Zh {kvs:List (List Key×V)}(ok:HOk P w H h)(e:Rd H a (.dT kvs)):kvs.length≤sizeLine∧(a==sysModules)=false ∧
  ∃xs,KT H kvs xs∧h.DictOfH (tupleKind (xx P w)) a xs:=by
 obtain ⟨z,y,xs,r,o,es,ep,h1,h2,h3,h4,h5⟩:=(show ObjOk P w H h a (.dT kvs) from rd_of ok e)
 refine ⟨z,y,xs,r,o,es,ep,h1,h2,h3,h4,λx hx=>?_,h5⟩
 have all:∀ {l:List (List Key×V)} {m:List (List Key×Aj×Ag)},KT H l m→∀x∈m,(tupleKind (xx P w)).is h x.1 x.2.1:=by
  intro l m q
  induction q with
  |nil=>intro x hx;exact nomatch hx
  |@cons p q ps qs hq t ih =>
   intro x hx
   rcases ak.mp hx with e|hx
   ·subst e
    exact y8 ok (by rw [←hq.1];exact hq.2.1)
   ·exact ih x hx
 exact all r x hx
theorem dt_of {kvs:List (List Key×V)}(ok:HOk P w H h)(e:H a=some (.dT kvs)):kvs.length≤sizeLine∧(a==sysModules)=false ∧
  ∃xs,KT H kvs xs∧h.DictOfH (tupleKind (xx P w)) a xs:=Zh ok (.inl e)
end
def DGet (H:Hp)(a:Aj)(y:V)(r:Option V):Prop :=
 (∃kvs k,Rd H a (.dK kvs)∧y=kV k∧r=wj kvs k)∨∃kvs k b,Rd H a (.dT kvs)∧y=.ref b∧H b=some (.tup (k.map kV))∧r=wj kvs k
def DPut (H:Hp)(a:Aj)(y v:V)(H':Hp):Prop :=
 (∃kvs k,H a=some (.dK kvs)∧y=kV k∧kvs.length<sizeLine∧H'=upd H a (.dK (zb kvs k v))) ∨
 ∃kvs k b,H a=some (.dT kvs)∧y=.ref b∧H b=some (.tup (k.map kV))∧kvs.length<sizeLine∧H'=upd H a (.dT (zb kvs k v))
theorem DGet.k {H:Hp}{a:Aj}{kvs:List (Key×V)}{k:Key}(e:H a=some (.dK kvs)):DGet H a (kV k) (wj kvs k):=.inl ⟨kvs,k,.inl e,rfl,rfl⟩
theorem DPut.k {H:Hp}{a:Aj}{kvs:List (Key×V)}{k:Key}{v:V}(e:H a=some (.dK kvs))(hl:kvs.length<sizeLine):DPut H a (kV k) v (upd H a (.dK (zb kvs k v))):=.inl ⟨kvs,k,e,rfl,hl,rfl⟩
section
variable {X:Cx}{pins:List (Aj×Obj)}{σ:St}{H:Hp}{s:Ab}{a:Aj}{y v:V}{u r:Ag}{o:Option V}{A:Ae}{E:Ag→Ab→Prop}
theorem Inv.big (I:Inv X pins σ H s):sysModules<s.heap.objs.size:=by
 have h:mainGlobals<s.heap.objs.size:=(I.mod.glob.keeps I.bk).lt
 exact bB ⋯ h
theorem qkq {Q:Ag→Ab→Prop}(hu:A.units+1<cLine)(I:Inv X pins σ H s)(g:DGet H a y (some v))(ry:RelV y u)(h:∀w' s',Inv X pins σ H s'→RelV v w'→Q w' s') :
  wpAny (model X.prog X.w) A (getItem (.ref a) u) Q E s:=by
 rcases g with ⟨kvs,k,e,ey,l⟩|⟨kvs,k,b,e,ey,eb,l⟩
 ·subst ey
  obtain ⟨z,hd,vs,rel,dd⟩:=yf I.hok e
  obtain ⟨w',hw,rw'⟩:=RelO.some_of (v:=v) (o:=valueAt vs k) (by rw [l];exact rel.val k)
  exact wpAny_getItem_of (um ry) dd.mapOf hw (h w' _ (I.tok _) rw')
 ·subst ey
  cases (show u=Value.ref b from ry)
  obtain ⟨z,hd,xs,rel,dd⟩:=Zh I.hok e
  obtain ⟨w',hw,rw'⟩:=RelO.some_of (v:=v) (o:=(atKey xs k).map (·.2)) (by rw [l];exact rel.val k)
  obtain ⟨p,hp,hp2⟩:=Option.map_eq_some_iff.mp hw
  refine wpAny_getItem_heap (bV hu) (y8 I.hok eb) dd hp ?_
  rw [hp2]
  exact h w' _ (I.tok _) rw'
theorem zez {Q:Ag→Ab→Prop}(hu:A.units+1<cLine)(I:Inv X pins σ H s)(g:DGet H a y o)(ry:RelV y u)(h:∀s',Inv X pins σ H s'→Q (.bool o.isSome) s') :
  wpAny (model X.prog X.w) A (compareOp .In u (.ref a)) Q E s:=by
 rcases g with ⟨kvs,k,e,ey,l⟩|⟨kvs,k,b,e,ey,eb,l⟩
 ·subst ey
  obtain ⟨z,hd,vs,rel,dd⟩:=yf I.hok e
  refine wpAny_in_of (um ry) hd dd.mapOf ?_
  rw [← (rel.val k).isSome_eq,←l]
  exact h _ (I.tok _)
 ·subst ey
  cases (show u=Value.ref b from ry)
  obtain ⟨z,hd,xs,rel,dd⟩:=Zh I.hok e
  refine wpAny_in_heap (bV hu) (y8 I.hok eb) hd dd ?_
  have q:=(rel.val k).isSome_eq
  rw [cg] at q
  rw [←q,←l]
  exact h _ (I.tok _)
theorem qum {Q:Ag→Ab→Prop}(hu:A.units+1<cLine)(I:Inv X pins σ H s)(g:DGet H a y o)(ry:RelV y u)(h:∀s',Inv X pins σ H s'→Q (.bool (!o.isSome)) s') :
  wpAny (model X.prog X.w) A (compareOp .NotIn u (.ref a)) Q E s:=by
 rcases g with ⟨kvs,k,e,ey,l⟩|⟨kvs,k,b,e,ey,eb,l⟩
 ·subst ey
  obtain ⟨z,hd,vs,rel,dd⟩:=yf I.hok e
  refine wpAny_notIn_of (um ry) hd dd.mapOf ?_
  rw [← (rel.val k).isSome_eq,←l]
  exact h _ (I.tok _)
 ·subst ey
  cases (show u=Value.ref b from ry)
  obtain ⟨z,hd,xs,rel,dd⟩:=Zh I.hok e
  refine wpAny_notIn_heap (bV hu) (y8 I.hok eb) hd dd ?_
  have q:=(rel.val k).isSome_eq
  rw [cg] at q
  rw [←q,←l]
  exact h _ (I.tok _)
theorem yu {h':Heap}{t':Nat}{ob:HO}(I:Inv X pins σ H s)(mu:Mut (H a))(hs:Heap.SameBut a s.heap h')(he:∃q,h'.get? a=some q)(new:ObjOk X.prog X.w (upd H a ob) h' a ob) :
  Inv X pins σ (upd H a ob) { s with heap:=h',toks:=t' } :=
 I.write (x:=a) (e:=a) mu (.inl rfl) (λb q hb z=>(hs.2 b hb).trans z) he new
theorem Zt {P:Ac}{w:Ah}{H':Hp}{h':Heap}{kvs:List (Key×V)}{vs:List (Key×Ag)}(z:kvs.length≤sizeLine)(hd:(a==sysModules)=false)(rel:KV kvs vs)(dd:h'.DictOf (xx P w) a vs) :
  ObjOk P w H' h' a (.dK kvs):=⟨z,hd,vs,rel,dd⟩
theorem qkg {H':Hp}{Q:Unit→Ab→Prop}(hu:A.units+1<cLine)(I:Inv X pins σ H s)(g:DPut H a y v H')(ry:RelV y u)(rv:RelV v r)(h:∀s',Inv X pins σ H' s'→Q () s') :
  wpAny (model X.prog X.w) A (setItem (.ref a) u r) Q E s:=by
 rcases g with ⟨kvs,k,e,ey,l,eH⟩|⟨kvs,k,b,e,ey,eb,l,eH⟩
 ·subst ey eH
  obtain ⟨z,hd,vs,rel,dd⟩:=Jy I.hok e
  have hz:vs.length≤sizeLine:=by rw [←rel.length];exact z
  have hl:(zb kvs k v).length≤sizeLine:=by have:=vj kvs k v;lia
  refine wpAny_setItem_pairs (hsz:=hz) (um ry) dd λh' dd' hs=>h _ ?_
  have he:∃q,h'.get? a=some q:=let ⟨q,_,_,hq,_⟩:=dd';⟨q,hq⟩
  exact yu I (by rw [e];exact True.intro) hs he (Zt hl hd (rel.put k rv) dd')
 ·subst ey eH
  cases (show u=Value.ref b from ry)
  obtain ⟨z,hd,xs,rel,dd⟩:=dt_of I.hok e
  have hz:xs.length≤sizeLine:=by rw [←bi rel];exact z
  have hl:(zb kvs k v).length≤sizeLine:=by have:=vj kvs k v;lia
  refine wpAny_setItem_heap (hsz:=hz) (bV hu) (y8 I.hok eb) dd λh' dd' hs=>h _ ?_
  obtain ⟨q,es,ep,hq,h2,h3,h4,_,h5⟩:=dd'
  refine yu I (by rw [e];exact True.intro) hs ⟨q,hq⟩ ⟨hl,hd,_,(rel.put k eb rv).keeps λc ys ec=>?_,q,es,ep,hq,h2,h3,h4,h5⟩
  rw [q9 (ne_of ec e (λz=>nomatch z))]
  exact ec
end
section
variable {X:Cx}{pins:List (Aj×Obj)}{σ:St}{H:Hp}{s:Ab}{a:Aj}{kvs:List (Key×V)}{k:Key}{u:Ag}{A:Ae}{E:Ag→Ab→Prop}
theorem qkn {Q:Unit→Ab→Prop}(I:Inv X pins σ H s)(e:H a=some (.dK kvs))(ry:RelV (kV k) u)(l:(wj kvs k).isSome=true)(h:∀s',Inv X pins σ (upd H a (.dK (j7 kvs k))) s'→Q () s') :
  wpAny (model X.prog X.w) A (delItem (.ref a) u) Q E s:=by
 obtain ⟨z,hd,vs,rel,dd⟩:=Jy I.hok e
 refine wpAny_delItem_slot dd.typeIs ⋯ dc
  (dJ dc dd.typeIs PySem.F.entry_dict_delitem (PySem.F.args_dict_delitem_2 _ _) (meets_dict_delitem_pairs (xx X.prog X.w) a (um ry)) ⟨vs,dd,by rw [←rel.length];exact z,by rw [← (rel.val k).isSome_eq];exact l,λh' dd' hs=>h _ ?_⟩)
 have he:∃q,h'.get? a=some q:=let ⟨q,_,_,hq,_⟩:=dd';⟨q,hq⟩
 exact yu I (by rw [e];exact True.intro) hs he (Zt (bd (qw2 kvs k) z) hd (rel.drop k) dd')
theorem ze0 {Q:Ag→Ab→Prop}(I:Inv X pins σ H s)(e:Rd H a (.dK kvs))(h:∀t s',Inv X pins σ H s'→Q (.int kvs.length t) s'):wpAny (model X.prog X.w) A (call (.builtin "len") [.ref a]) Q E s:=by
 obtain ⟨z,hd,vs,rel,dd⟩:=yf I.hok e
 refine call_len_dict hd dd (by rw [←rel.length];rw [dQ] at z;lia) ?_
 rw [←rel.length]
 exact h _ _ (I.tok _)
end
def NoSl (i:Expr):Prop:=∀ov iv,subscripted i false ov iv=operate [ov,iv] (getItem ov iv)
theorem wqb {prog:Ac}{w:Ah}{A:Ae}{E:Ag→Ab→Prop}{s:Ab}{env:Env}{value slice:Expr}{pos:Pos}{T id:String}{Q:Ag→Ab→Prop}
  (hl:typeLookup (.type T) "__getitem__" = pure (some (.builtin id))) (hs:NoSl slice)
  (h:wpAny (model prog w) A (eval value env) (λo s₁=>wpAny (model prog w) A (eval slice env) (λi s₂=>s₂.TypeIs o T∧wpAny (model prog w) A (getItem o i) Q E s₂) E s₁) E s) :
  wpAny (model prog w) A (eval (.Subscript value slice pos) env) Q E s:=by
 refine Subscript_ (aX h (λo s₁ h₁=>aX h₁ (λi s₂ h₂=>?_) λ_ _ x=>x) λ_ _ x=>x)
 obtain ⟨hT,h₂⟩:=h₂
 unfold subscriptTail
 refine ai ?_
 rw [getitemInPython_of_ne hT.not_modules]
 refine ai (wpAny_specialOf hT hl ?_)
 have fin:wpAny (model prog w) A (subscripted slice false o i) (λr s₃=>wpAny (model prog w) A (letTemporaryGo value o r >>= λ_=>pure r) Q E s₃) E s₂:=by
  rw [hs o i]
  exact wpAny_operating (aX h₂ (λr s₃ h₃=>ai (wpAny_letTemporaryGo (az h₃))) λ_ _ x=>x)
 first
  |exact az (ai fin)
  |exact ai (az (ai fin))
  |exact ai fin
theorem qwq {X:Cx}{pins:List (Aj×Obj)}{σ:St}{H:Hp}{s:Ab}{a:Aj}{y:V}{o:Option V}(I:Inv X pins σ H s)(g:DGet H a y o):s.TypeIs (.ref a) "dict" := by
 rcases g with ⟨kvs,k,e,_,_⟩|⟨kvs,k,b,e,_,_,_⟩
 ·obtain ⟨_,_,vs,_,dd⟩:=yf I.hok e
  exact dd.typeIs
 ·obtain ⟨_,_,xs,_,dd⟩:=Zh I.hok e
  exact dd.typeIs
def tDGet (td ty:TE):TE:=λσ H Q=>td σ H λx H1=>ty σ H1 λy H2=>∃a v,x=.ref a∧DGet H2 a y (some v)∧Q v H2
def tDIn (ty td:TE):TE:=λσ H Q=>ty σ H λy H1=>td σ H1 λx H2=>∃a o,x=.ref a∧DGet H2 a y o∧Q (.bl o.isSome) H2
def wq0 (ty td:TE):TE:=λσ H Q=>ty σ H λy H1=>td σ H1 λx H2=>∃a o,x=.ref a∧DGet H2 a y o∧Q (.bl (!o.isSome)) H2
def sDPut (td ty tv:TE):TS:=λD σ H=>tv σ H λv H1=>td σ H1 λx H2=>ty σ H2 λy H3=>∃a H4,x=.ref a∧DPut H3 a y v H4∧D.nx σ H4
def sDDel (td ty:TE):TS:=λD σ H=>td σ H λx H1=>ty σ H1 λy H2=>∃a kvs k,x=.ref a∧H2 a=some (.dK kvs)∧y=kV k∧(wj kvs k).isSome=true∧D.nx σ (upd H2 a (.dK (j7 kvs k)))
section
variable {X:Cx}{o i e value:Expr}{pos pos' tpos:Pos}{td ty tv:TE}
theorem jm (hu:X.A.units+1<cLine)(ho:PE X o td)(hi:PE X i ty)(hs:NoSl i):PE X (.Subscript o i pos) (tDGet td ty):=by
 intro pins s σ H Q I h
 refine wqb PySem.F.slot_dict_getitem.lookup hs (thn (ho pins s σ H _ I h) λu s1 ⟨x,H1,I1,rx,q1⟩=>thn (hi pins s1 σ H1 _ I1 q1) λiv s2 ⟨y,H2,I2,ry,a,v,ex,g,q2⟩=>?_)
 subst ex
 obtain rfl:u=Value.ref a:=rx
 exact ⟨qwq I2 g,qkq hu I2 g ry λw' s3 I3 rw'=>⟨v,H2,I3,rw',q2⟩⟩
theorem pc_din (hu:X.A.units+1<cLine)(hi:PE X i ty)(ho:PE X o td):PC X .In i o (tDIn ty td):=by
 intro pins s σ H Q I h
 refine thn (hi pins s σ H _ I h) λiv s1 ⟨y,H1,I1,ry,q1⟩=>thn (ho pins s1 σ H1 _ I1 q1) λu s2 ⟨x,H2,I2,rx,a,ov,ex,g,q2⟩=>?_
 subst ex
 obtain rfl:u=Value.ref a:=rx
 exact zez hu I2 g ry λs3 I3=>⟨.bl ov.isSome,H2,I3,rfl,q2⟩
theorem Qc (hu:X.A.units+1<cLine)(hi:PE X i ty)(ho:PE X o td):PC X .NotIn i o (wq0 ty td):=by
 intro pins s σ H Q I h
 refine thn (hi pins s σ H _ I h) λiv s1 ⟨y,H1,I1,ry,q1⟩=>thn (ho pins s1 σ H1 _ I1 q1) λu s2 ⟨x,H2,I2,rx,a,ov,ex,g,q2⟩=>?_
 subst ex
 obtain rfl:u=Value.ref a:=rx
 exact qum hu I2 g ry λs3 I3=>⟨.bl (!ov.isSome),H2,I3,rfl,q2⟩
theorem qqg (hu:X.A.units+1<cLine)(ho:PE X o td)(hi:PE X i ty)(hv:PE X value tv)(hs:swapsWith value (some (.Subscript o i pos')) pos.line X.env=pure false) :
  PS X (.Assign [.Subscript o i pos'] value pos) (sDPut td ty tv):=by
 intro pins s σ H D I h
 refine wpAny_Assign_Subscript (thn (hv pins s σ H _ I h) λr s1 ⟨v,H1,I1,rv,q1⟩=>thn (ho pins s1 σ H1 _ I1 q1) λu s2 ⟨x,H2,I2,rx,q2⟩=>thn (hi pins s2 σ H2 _ I2 q2) λiv s3 ⟨y,H3,I3,ry,a,H4,ex,g,q3⟩=>?_) hs
 subst ex
 obtain rfl:u=Value.ref a:=rx
 exact qkg hu I3 g ry rv λs4 I4=>⟨σ,H4,I4,q3⟩
theorem wqy (ho:PE X o td)(hi:PE X i ty):PS X (.Delete [.Subscript o i tpos] pos) (sDDel td ty):=by
 intro pins s σ H D I h
 refine wpAny_Delete (wpAny_deleteEach_cons (wpAny_delete_Subscript (thn (ho pins s σ H _ I h) λu s1 ⟨x,H1,I1,rx,q1⟩=>thn (hi pins s1 σ H1 _ I1 q1) λiv s2 ⟨y,H2,I2,ry,a,kvs,k,ex,e,ey,l,q2⟩=>?_)))
 subst ex ey
 obtain rfl:u=Value.ref a:=rx
 exact qkn I2 e ry l λs3 I3=>wpAny_deleteEach_nil ⟨σ,_,I3,q2⟩
end
theorem qxb {P:Ac}{w:Ah}{H:Hp}(h:Heap)(hb:sysModules<h.objs.size):ObjOk P w H (h.push { cls:=.type "dict",data:=.dict #[] }) h.objs.size (.dK []) :=
 ⟨aC _,aS.mpr (aN (au hb)),[],.nil,Heap.DictOf.new h⟩
theorem qy0 {P:Ac}{w:Ah}{H:Hp}(h:Heap)(hb:sysModules<h.objs.size):ObjOk P w H (h.push { cls:=.type "dict",data:=.dict #[] }) h.objs.size (.dT []) :=
 ⟨aC _,aS.mpr (aN (au hb)),[],.nil,_,#[],0,aq _ rfl,⟨rfl,rfl,rfl⟩,rfl,rfl,aV⟩
def tDNewK:TE:=λ_ H Q=>∀p,H p=none→Q (.ref p) (upd H p (.dK []))
section
variable {X:Cx}{pos:Pos}
theorem jk:PE X (.Dict [] [] pos) tDNewK:=λpins s σ H Q I h =>
 wpAny_Dict_empty ⟨.ref s.heap.objs.size,_,I.laid (a:=s.heap.objs.size) (o:=.dK []) (t':=s.toks) (λ_ _ q=>ac _ q) (ae _) (qxb s.heap I.big),rfl,h _ (I.hok.fresh (ae _))⟩
end
end L2
namespace L2
open PySem PySem.Spec PyProof.Rows
def Stay (G:Nat→V→Hp→Prop):Prop:=∀i v H H' p,G i v H→v≠.ref p→(∀b o,b≠p→H b=some o→H' b=some o)→G i v H'
theorem qzw {K:Aa}{M:List Nat}{a:Aj}{xs:List V}{te:TE}{σ:St}{H:Hp}{Q:VK}(G:Nat→V→Hp→Prop)(gs:Stay G)(hS:SqL K H a xs)(hn:xs.length≤1000000)
  (he:∀(i:Nat) (x:V) (H':Hp) (R:VK),xs[i]?=some x→Same H H'→(∀v H'',Same H' H''→G i v H''→(∀b,v=.ref b→H' b=none)→R v H'')→te (zn M σ (some x)) H' R)
  (k:∀p ys H',H p=none→Same H H'→H' p=some (.lst ys)→ys.length=xs.length→(∀j v,ys[j]?=some v→G j v H'∧v≠.ref p)→Q (.ref p) H'):W0 (Itl K a) M te σ H Q:=by
 intro p np
 refine ⟨λi m ys H2=>i≤xs.length∧m=xs.length-i∧ys.length=i∧Same H H2∧H2 p=some (.lst ys)∧∀j v,ys[j]?=some v→G j v H2∧v≠.ref p,⟨xs.length,aC _,rfl,rfl,Same.upd np,qj,λj v e=>by cases e⟩,?_⟩
 rintro i m ys H2 ⟨hi,rfl,hy,sm,hp,hG⟩
 have hS':SqL K H2 a xs:=Same.sql sm hS
 refine ⟨hp,?_,?_⟩
 ·have:(1000000:Nat)<sizeLine:=by decide
  lia
 ·by_cases hlt:i<xs.length
  ·have hx:xs[i]?=some xs[i]:=al hlt
   refine .inr ⟨⟨xs,_,hS',hx⟩,?_⟩
   rintro v H3 ⟨rfl,hv⟩
   have e:=hv xs hS'
   rw [hx] at e
   have e':=ap e
   subst e'
   refine he i _ _ _ hx sm λv H4 s4 g4 fr=>⟨s4 _ _ hp,xs.length-(i+1),⋯,⋯,rfl,by rw [aM,hy];rfl,λb o e=>?_,qj,λj w e=>?_⟩
   ·rw [q9 (qm e np)]
    exact s4 _ _ (sm _ _ e)
   ·have vp:v≠.ref p:=λz=>by
     have:=fr p z
     rw [hp] at this
     cases this
    have st:∀b o,b≠p→H4 b=some o→upd H4 p (.lst (ys++[v])) b=some o:=λb o nb e=>by rw [q9 nb];exact e
    rcases (dI j ys.length) with z|z
    ·rw [bx z] at e
     obtain ⟨g,nw⟩:=hG j w e
     exact ⟨gs j w _ _ p g nw λb o nb e=>st b o nb (s4 b o e),nw⟩
    ·rw [ba z] at e
     have hj:j=i:=by
      rcases dI (j-ys.length) 1 with y|y
      ·lia
      ·rw [aR (by simpa using y)] at e
       cases e
     have e3:[v][j-ys.length]?=some w:=by assumption
     subst hj
     rw [show j-ys.length=0 by lia] at e3
     have:v=w:=ap e3
     subst this
     exact ⟨gs j v H4 _ p g4 vp st,vp⟩
  ·have hi':i=xs.length:=by lia
   subst hi'
   exact .inl ⟨⟨xs,hS',ae _⟩,k p ys _ np sm hp hy hG⟩
theorem Zr {K:Aa}{M:List Nat}{a:Aj}{xs:List V}{te:TE}{σ:St}{H:Hp}{Q:VK}(f:V→V)(hf:∀x b,f x≠.ref b)(hS:SqL K H a xs)(hn:xs.length≤1000000)
  (he:∀(x:V) (H':Hp) (R:VK),x∈xs→Same H H'→(∀H'',Same H' H''→R (f x) H'')→te (zn M σ (some x)) H' R)
  (k:∀p H',H p=none→Same H H'→H' p=some (.lst (xs.map f))→Q (.ref p) H'):W0 (Itl K a) M te σ H Q:=by
 refine qzw (λi v _=>∃x,xs[i]?=some x∧v=f x) (λi v H H' p g _ _=>g) hS hn (λi x H' R hx s hR=>he x H' R (bt hx) s λH'' s''=>hR _ _ s'' ⟨x,hx,rfl⟩ λb e=>absurd e (hf x b)) λp ys H' np s hp hl hG=>?_
 have e:ys=xs.map f:=by
  refine cx λj=>?_
  rw [aI]
  cases hj:ys[j]? with
  |none =>
   have:xs[j]?=none:=aR (by have:=List.getElem?_eq_none_iff.mp hj;lia)
   rw [this]
   rfl
  |some v =>
   obtain ⟨⟨x,hx,rfl⟩,_⟩:=hG j v hj
   rw [hx]
   rfl
 rw [e] at hp
 exact k p H' np s hp
end L2
namespace L2
open PySem PySem.Spec PyProof.Rows PySem.W
section
variable {X:Cx}
theorem Jc:z7 X (.builtin "len") (λxs H Q=>∃a kvs,xs=[V.ref a]∧H a=some (.dK kvs)∧Q (.int kvs.length) H):=by
 intro pins s σ H xs us Q I r h
 obtain ⟨a,kvs,rfl,e,q⟩:=h
 obtain ⟨u,rfl,rx⟩:=jq r
 cases rx
 exact ze0 I (.inl e) λt s' I'=>⟨.int kvs.length,H,I',⟨t,rfl⟩,q⟩
end
end L2
namespace L2
open PySem PySem.Spec PyProof.Rows
def qzp:List (TE×TE)→St→Hp→(List (V×V)→Hp→Prop)→Prop
 |[],_,H,Q=>Q [] H
 |(tk,tv)::r,σ,H,Q=>tk σ H λx H1=>tv σ H1 λy H2=>qzp r σ H2 λps H3=>Q ((x,y)::ps) H3
abbrev VV:List (V×V)→List (Ag×Ag)→Prop:=Paired λp q=>RelV p.1 q.1∧RelV p.2 q.2
def PPs (X:Cx)(pos:Pos)(keys:List (Option Expr))(values:List Expr)(trs:List (TE×TE)):Prop :=
 ∀(pins:List (Aj×Obj)) (s:Ab) (σ:St) (H:Hp) (Q:List (V×V)→Hp→Prop),Inv X pins σ H s→qzp trs σ H Q →
  wpAny (model X.prog X.w) X.A (evalPairs (pairTrees keys values X.env pos)) (λvs s'=>∃ps H',Inv X pins σ H' s'∧VV ps vs∧Q ps H') X.xe s
theorem qvv {X:Cx}{pos:Pos}:PPs X pos [] [] []:=λpins s σ H Q I h=>pairTrees_nil_walk ⟨[],H,I,.nil,h⟩
theorem qxm {X:Cx}{pos:Pos}{k v:Expr}{ks:List (Option Expr)}{vs:List Expr}{tk tv:TE}{trs:List (TE×TE)}(hk:PE X k tk)(hv:PE X v tv)(hr:PPs X pos ks vs trs) :
  PPs X pos (some k::ks) (v::vs) ((tk,tv)::trs):=λpins s σ H Q I h =>
 pairTrees_cons_walk (thn (hk pins s σ H _ I h) λu s1 ⟨x,H1,I1,rx,q1⟩=>thn (hv pins s1 σ H1 _ I1 q1) λw2 s2 ⟨y,H2,I2,ry,q2⟩ =>
  thn (hr pins s2 σ H2 _ I2 q2) λws s3 ⟨ps,H3,I3,rel,q3⟩=>⟨(x,y)::ps,H3,I3,.cons ⟨rx,ry⟩ rel,q3⟩)
def Wm (kvs more:List (Key×V)):List (Key×V):=more.foldl (λacc kv=>zb acc kv.1 kv.2) kvs
theorem KV.merge:∀ {more:List (Key×V)} {rs:List (Key×Ag)} {kvs:List (Key×V)} {vs:List (Key×Ag)},KV more rs→KV kvs vs→KV (Wm kvs more) (merged vs rs):=by
 intro more rs kvs vs r
 unfold KV at r
 induction r generalizing kvs vs with
 |nil=>intro q;exact q
 |@cons p q ps qs h t ih =>
  intro r0
  have e:KV (zb kvs p.1 p.2) (stored vs q.1 q.2):=by
   have:=r0.put p.1 h.2
   rw [←h.1];exact this
  exact ih e
theorem yg:∀(more kvs:List (Key×V)),(Wm kvs more).length≤kvs.length+more.length
 |[],kvs=>by show kvs.length≤kvs.length+0;lia
 |p::r,kvs=>by
  have h1:=yg r (zb kvs p.1 p.2)
  have h2:=vj kvs p.1 p.2
  show (Wm (zb kvs p.1 p.2) r).length≤_
  rw [aw];lia
theorem Zz {P:Ac}{w:Ah}:∀ {kvs:List (Key×V)} {ws:List (Ag×Ag)},VV (kvs.map λkv=>(kV kv.1,kv.2)) ws→∃rs,Carries (xx P w) ws rs∧KV kvs rs
 |[],_,r=>by rw [cS] at r;cases r;exact ⟨[],True.intro,.nil⟩
 |p::kvs,_,r=>by
  rw [aG] at r
  cases r with
  |@cons a b as bs h t =>
   obtain ⟨rs,c,q⟩:=Zz (P:=P) (w:=w) t
   obtain ⟨b1,b2⟩:=b
   exact ⟨(p.1,b2)::rs,⟨um h.1,rfl,c⟩,.cons ⟨rfl,h.2⟩ q⟩
def tDisp (trs:List (TE×TE)):TE:=λσ H Q=>∀p,H p=none→qzp trs σ (upd H p (.dK [])) λps H2=>H2 p=some (.dK [])∧∃kvs:List (Key×V),ps=kvs.map (λkv=>(kV kv.1,kv.2))∧kvs.length≤15∧Q (.ref p) (upd H2 p (.dK (Wm [] kvs)))
theorem qvf {X:Cx}{pos:Pos}{keys:List (Option Expr)}{values:List Expr}{trs:List (TE×TE)}(h:PPs X pos keys values trs)(hall:keys.all (·.isSome)=true)(hl:keys.length=values.length)(h0:keys≠[])
  (h15:keys.length≤15):PE X (.Dict keys values pos) (tDisp trs):=by
 intro pins s σ H Q I q
 have hn:=I.hok.fresh (ae s.heap.objs.size)
 have I1:=I.laid (a:=s.heap.objs.size) (o:=.dK []) (h':=s.heap.push { cls:=.type "dict",data:=.dict #[] }) (t':=s.toks) (λ_ _ q=>ac _ q) (ae _) (qxb s.heap I.big)
 refine wpAny_Dict_walk (knd:=xx X.prog X.w) hall hl h0 h15 (thn (h pins _ σ _ _ I1 (q _ hn)) λws s2 ⟨ps,H2,I2,rel,e,kvs,ep,lk,q2⟩=>?_)
 subst ep
 obtain ⟨rs,c,rk⟩:=Zz (P:=X.prog) (w:=X.w) rel
 obtain ⟨z,hd,vs0,r0,dd⟩:=Jy I2.hok e
 cases r0
 refine ⟨rs,c,dd,λh' dd' hs=>⟨.ref s.heap.objs.size,_,?_,rfl,q2⟩⟩
 have hz:(Wm [] kvs).length≤sizeLine:=by
  have h1:=yg kvs []
  rw [cv] at h1
  rw [dQ];lia
 have he:∃q,h'.get? s.heap.objs.size=some q:=let ⟨q,_,_,hq,_⟩:=dd';⟨q,hq⟩
 exact yu I2 (by rw [e];exact True.intro) hs he (Zt hz hd (rk.merge .nil) dd')
structure M1 (X:Cx)(o:Expr)(m:Str)(apos:Pos)(e:Expr)(cpos:Pos):Prop where
 base:attributeBase o m X.env (eval o X.env)=eval o X.env
 few:((backTo cpos (starEach [e] X.env)).all (λx=>!x.1)&&(backToKw cpos (keywordEach [] X.env)).all (λx=>x.1.isSome)
  && decide (([e]:List Expr).length+([]:List Keyword).length+(if ([]:List Keyword).isEmpty then 0 else 1)<30))=true
 line:(apos.endLine==cpos.line)=true
 trees:backTo cpos (starEach [e] X.env)=[(false,eval e X.env)]
structure M2 (X:Cx)(o:Expr)(m:Str)(apos:Pos)(e f:Expr)(cpos:Pos):Prop where
 base:attributeBase o m X.env (eval o X.env)=eval o X.env
 few:((backTo cpos (starEach [e,f] X.env)).all (λx=>!x.1)&&(backToKw cpos (keywordEach [] X.env)).all (λx=>x.1.isSome)
  && decide (([e,f]:List Expr).length+([]:List Keyword).length+(if ([]:List Keyword).isEmpty then 0 else 1)<30))=true
 line:(apos.endLine==cpos.line)=true
 trees:backTo cpos (starEach [e,f] X.env)=[(false,eval e X.env),(false,eval f X.env)]
def IsD (H:Hp)(a:Aj):Prop:=(∃kvs,Rd H a (.dK kvs))∨∃kvs,Rd H a (.dT kvs)
theorem qym {X:Cx}{pins:List (Aj×Obj)}{σ:St}{H:Hp}{s:Ab}{a:Aj}(I:Inv X pins σ H s)(d:IsD H a) :
  s.TypeIs (.ref a) "dict" ∧ (∀b,Value.ref a=.ref b→∃ob,s.heap.get? b=some ob∧ob.dict=none)∧(a==sysModules)=false:=by
 rcases d with ⟨kvs,e⟩|⟨kvs,e⟩
 ·obtain ⟨_,hd,vs,_,dd⟩:=yf I.hok e
  refine ⟨dd.typeIs,λb q=>?_,hd⟩
  cases q
  obtain ⟨ob,_,_,h1,h2,_⟩:=dd
  exact ⟨ob,h1,h2.2.1⟩
 ·obtain ⟨_,hd,xs,_,dd⟩:=Zh I.hok e
  refine ⟨dd.typeIs,λb q=>?_,hd⟩
  cases q
  obtain ⟨ob,_,_,h1,h2,_⟩:=dd
  exact ⟨ob,h1,h2.2.1⟩
section
variable {X:Cx}{pins:List (Aj×Obj)}{σ:St}{H:Hp}{s:Ab}{a:Aj}{y d:V}{u r:Ag}{o:Option V}{A:Ae}{E:Ag→Ab→Prop}
theorem ze1 {Q:Ag→Ab→Prop}(hu:A.units+1<cLine)(I:Inv X pins σ H s)(g:DGet H a y o)(ry:RelV y u)(h:∀w' s',Inv X pins σ H s'→RelV (o.getD .non) w'→Q w' s') :
  wpAny (model X.prog X.w) A (call (.builtin "dict.get") [.ref a,u]) Q E s:=by
 rcases g with ⟨kvs,k,e,ey,l⟩|⟨kvs,k,b,e,ey,eb,l⟩
 ·subst ey
  obtain ⟨z,hd,vs,rel,dd⟩:=yf I.hok e
  refine dJ cC dd.typeIs PySem.F.entry_dict_get (dB _ _) (meets_dict_get (xx X.prog X.w) a (um ry) hd) ⟨_,dd.mapOf,h _ _ (I.tok _) ?_⟩
  rw [l]
  exact (rel.val k).getD rfl
 ·subst ey
  cases (show u=Value.ref b from ry)
  obtain ⟨z,hd,xs,rel,dd⟩:=Zh I.hok e
  refine dJ cC dd.typeIs PySem.F.entry_dict_get (dB _ _) (meetsH_dict_get (tupleKind (xx X.prog X.w)) a b hd) ⟨bV hu,k,xs,y8 I.hok eb,dd,h _ _ (I.tok _) ?_⟩
  rw [l]
  exact (rel.val k).getD rfl
end
def tDGet1 (td ty:TE):TE:=λσ H Q=>td σ H λx H1=>∃a,x=.ref a∧IsD H1 a∧ty σ H1 λy H2=>∃o,DGet H2 a y o∧Q (o.getD .non) H2
section
variable {X:Cx}{o e f:Expr}{apos cpos:Pos}{td ty tx:TE}
theorem qub (hu:X.A.units+1<cLine)(ho:PE X o td)(he:PE X e ty)(m:M1 X o "get" apos e cpos):PE X (.Call (.Attribute o "get" apos) [e] [] cpos) (tDGet1 td ty):=by
 intro pins s σ H Q I h
 refine wpAny_Call_method m.base m.few m.line dC cC PySem.F.type_dict_get (thn (ho pins s σ H _ I h) λu s1 ⟨x,H1,I1,rx,a,ex,d,q1⟩=>?_)
 subst ex
 obtain rfl:u=Value.ref a:=rx
 obtain ⟨t1,t2,_⟩:=qym I1 d
 refine ⟨t1,t2,?_⟩
 rw [m.trees]
 refine bU rfl (cI (Calls.spliced_cons (thn (he pins s1 σ H1 _ I1 q1) λiv s2 ⟨y,H2,I2,ry,ov,g,q2⟩=>Calls.spliced_nil ?_)))
 exact ze1 hu I2 g ry λw' s3 I3 rw'=>⟨_,H2,I3,rw',q2⟩
end
section
variable {X:Cx}{pins:List (Aj×Obj)}{σ:St}{H:Hp}{s:Ab}{a:Aj}{kvs:List (Key×V)}{A:Ae}{E:Ag→Ab→Prop}
end
section
variable {X:Cx}{pins:List (Aj×Obj)}{σ:St}{H:Hp}{s:Ab}{a:Aj}{y:V}{u:Ag}{A:Ae}{E:Ag→Ab→Prop}
end
end L2
namespace L2
open PySem PySem.Spec PyProof.Rows
section
variable {X:Cx}{pins:List (Aj×Obj)}{σ:St}{H:Hp}{s:Ab}{h':Heap}{ch:List Aj}
theorem Inv.turnedL {tk:Nat}(I:Inv X pins σ H s)(hk:∀b u,b∉ch→s.heap.get? b=some u→h'.get? b=some u)(hf:∀b∈ch,jd X pins H b):Inv X pins σ H { s with heap:=h',toks:=tk }:=by
 refine I.call' (s':={ s with heap:=h',toks:=tk }) (ch:=ch) rfl ⟨λb o e n _ nx=>hk b o nx e,λb o e n _ nx=>⟨o.slots,hk b o nx e⟩,λb o e n _=>n,λb o e nx=>⟨o,hk b o nx e⟩,λ_ _ e=>e,λ_ _ _ e=>e,λb ps e=>⟨#[],by rw [e];simp⟩⟩ ?_ I.bare λb hb=>?_
 ·intro b u hu
  refine (I.hok b u hu).stay (λc v hc e=>hk c v (λz=>?_) e) (λ_ z=>z) λ_ _ z=>z
  have:=(hf c z).1
  rcases hc with rfl|hc
  ·rw [this] at hu;cases hu
  ·rw [this] at hc;cases hc
 ·obtain ⟨q1,q2,q3,q4,q5,q6⟩:=hf b hb
  exact ⟨q4,q2,q5,q6⟩
theorem Inv.turnedT {tk:Nat}{o:HO}{ob:Obj}(I:Inv X pins σ H s)(hk:∀b u,b∉ch→s.heap.get? b=some u→h'.get? b=some u)(hn:h'.get? s.heap.objs.size=some ob)(hf:∀b∈ch,jd X pins H b)(hc:∀b∈ch,b≠s.heap.objs.size)
  (ok:ObjOk X.prog X.w (upd H s.heap.objs.size o) (s.heap.push ob) s.heap.objs.size o) (fr:ob.isFreed=false):Inv X pins σ (upd H s.heap.objs.size o) { s with heap:=h',toks:=tk }:=by
 have I1:Inv X pins σ (upd H s.heap.objs.size o) { s with heap:=s.heap.push ob,toks:=tk }:=I.laid (t':=tk) (λb u e=>ac _ e) (ae _) ok
 refine Inv.turnedL (s:={ s with heap:=s.heap.push ob,toks:=tk }) (ch:=ch) I1 (λb u nb e=>?_) λb hb=>?_
 ·rcases Heap.get?_push_cases e with ⟨rfl,rfl⟩|e
  ·exact hn
  ·exact hk b u nb e
 ·obtain ⟨q1,q⟩:=hf b hb
  exact ⟨by rw [q9 (hc b hb)];exact q1,q⟩
theorem wqs {x y:V}{u v:Ag}(I:Inv X pins σ H s)(rx:RelV x u)(ry:RelV y v):ObjOk X.prog X.w (upd H s.heap.objs.size (.tup [x,y])) (s.heap.push { cls:=.type "tuple",data:=.seq #[u,v] }) s.heap.objs.size (.tup [x,y]):=by
 refine ⟨by show 2≤sizeLine;decide,[u,v],.cons rx (.cons ry .nil),?_⟩
 exact ⟨_,aq _ rfl,rfl,_,rfl⟩
end
section
variable {X:Cx}
end
section
variable {X:Cx}
end
section
variable {X:Cx}{elt iter tg:Expr}{x y2:Str}{pos:Pos}{scope:Scope}{cl:List (Str×Aj)}{M:List Nat}{wi:TI}{gg:TG}{te:TE}
end
end L2
namespace L2
open PySem PySem.Spec PyProof.Rows PySem.W
def Fz (H:Hp)(d:Aj)(o:Obj)(kvs:List (Key×V))(H':Hp):Prop:=H' d=some (.frz o (.dK kvs))∧∀b,b≠d→H' b=H b
section
variable {X:Cx}{pins:List (Aj×Obj)}{σ:St}{H:Hp}{s:Ab}{d:Aj}{kvs:List (Key×V)}
theorem Inv.freeze {o:Obj}(I:Inv X pins σ H s)(e:H d=some (.dK kvs))(ho:s.heap.get? d=some o):Inv X pins σ (upd H d (.frz o (.dK kvs))) s:=by
 obtain ⟨z,hd,vs,rel,dd⟩:=Jy I.hok e
 exact Inv.write (t':=s.toks) (h':=s.heap) I (by rw [e];exact trivial) (.inl rfl) (λ_ _ _ e=>e) ⟨o,ho⟩ ⟨ho,Zt z hd rel dd⟩
theorem Qn {o:Obj}(I:Inv X pins σ H s)(e:H d=some (.frz o (.dK kvs))):kvs.length≤sizeLine∧(d==sysModules)=false∧s.heap.get? d=some o∧∃vs es ep,KV kvs vs∧o.data=.dict es ep∧s.heap.DictAt (xx X.prog X.w) d vs ep:=by
 obtain ⟨ho,z,hd,vs,rel,dd⟩:=(show ObjOk X.prog X.w H s.heap d (.frz o (.dK kvs)) from I.hok d _ e)
 obtain ⟨o',es,ep,h1,h2,h3,h4⟩:=id dd
 have:o'=o:=ap (h1.symm.trans ho)
 subst this
 exact ⟨z,hd,ho,vs,es,ep,rel,h3,o',es,h1,h2,h3,h4⟩
theorem Inv.freezeRd (I:Inv X pins σ H s)(e:Rd H d (.dK kvs)):∃o H',Fz H d o kvs H'∧Inv X pins σ H' s:=by
 rcases e with e|⟨o,e⟩
 ·obtain ⟨z,hd,vs,rel,o,es,ep,ho,r⟩:=Jy I.hok e
  exact ⟨o,_,⟨qj,λb nb=>q9 nb⟩,I.freeze e ho⟩
 ·exact ⟨o,H,⟨e,λ_ _=>rfl⟩,I⟩
theorem qvp {P:Ac}{w:Ah}{k:Key}{u:Ag}(h:(xx P w).is k u=true):RelV (kV k) u:=by
 rcases xh (show Wn k u=true from h) with ⟨i,t,rfl,rfl⟩|⟨x,t,rfl,rfl⟩
 ·exact ⟨t,rfl⟩
 ·exact ⟨t,rfl⟩
end
def ItD (d:Aj)(o:Obj)(kvs:List (Key×V)):It :=
 ⟨λi H=>H d=some (.frz o (.dK kvs))∧i<kvs.length,λi H v H'=>H'=H∧∃p,kvs[i]?=some p∧v=kV p.1,λi H=>H d=some (.frz o (.dK kvs))∧kvs.length≤i⟩
theorem qq2 {kvs:List (Key×V)}{vs:List (Key×Ag)}(r:KV kvs vs){i:Nat}{p:Key×V}(e:kvs[i]?=some p):∃q,vs[i]?=some (p.1,q)∧RelV p.2 q:=by
 induction r generalizing i with
 |nil=>cases e
 |cons h t ih =>
  cases i with
  |zero =>
   cases e
   obtain ⟨h1,h2⟩:=h
   rename_i b _ _
   exact ⟨b.2,by show some b=some (_,b.2);rw [h1],h2⟩
  |succ i=>exact ih e
theorem wqn {P:Ac}{w:Ah}{K:Aa}{tg:Expr}{d it:Aj}{o:Obj}{kvs:List (Key×V)}{ep:Nat}(hep:∃es,o.data=.dict es ep):Turn P w K tg (ItD d o kvs) [it] it (λi h=>h.IsKeyIter it d i kvs.length ep) where
 mem:=by simp
 obj:=λi h st b hb=>by
  have e:b=it:=by simpa using hb
  subst e
  obtain ⟨ob,e,c,dd⟩:=st
  exact ⟨ob,e,λv z=>by rw [dd] at z;cases z⟩
 keep:=λi h h' st k=>st.at λob e=>k it (by simp) ob e
 item:=by
  intro X hP hw hK hc i pins s σ H E I hf st hg
  subst hP hw hK
  obtain ⟨hq,hi⟩:=hg
  obtain ⟨z,hd,ho,vs,es,ep',rel,h3,dd⟩:=Qn I hq
  obtain ⟨es2,h4⟩:=hep
  have:ep'=ep:=by rw [h3] at h4;cases h4;rfl
  subst this
  have e1:kvs[i]?=some kvs[i]:=al hi
  obtain ⟨q,eq,rq⟩:=qq2 rel e1
  have hl:vs.length=kvs.length:=(bi rel).symm
  obtain ⟨f0,f1,f2,f3,f4,f5⟩:=hf it (by simp)
  refine wpAny_pyNext_dict_item (by rw [hl];exact st) dd eq λkey h' hk st' sb=>?_
  have I1:Inv X pins σ H { s with heap:=h' }:=I.turned (t':=s.toks) (λb o hb e=>(sb.2 b hb).trans e) f0 f1 f3 f4 f5
  rw [hl] at st'
  obtain ⟨ob,e,c,d'⟩:=id st'
  exact ⟨key,rfl,qxd (s:={ s with heap:=h' }) e c d' ⋯ ⟨_,H,I1,qvp hk,⟨rfl,_,e1,rfl⟩,st',λb hb=>(hf b hb).1⟩⟩
 done:=by
  intro X hP hw hK hc i pins s σ H E I hf st hg
  subst hP hw hK
  obtain ⟨hq,hi⟩:=hg
  obtain ⟨z,hd,ho,vs,es,ep',rel,h3,dd⟩:=Qn I hq
  obtain ⟨es2,h4⟩:=hep
  have:ep'=ep:=by rw [h3] at h4;cases h4;rfl
  subst this
  have hl:vs.length=kvs.length:=(bi rel).symm
  obtain ⟨f0,f1,f2,f3,f4,f5⟩:=hf it (by simp)
  exact wpAny_pyNext_dict_end (I.ok.hd hc) (by rw [hl];exact st) dd (aR ⋯) λh' eb=>⟨rfl,I.turned (t':=s.toks) (λb o hb e=>eb b o hb e) f0 f1 f3 f4 f5⟩
 self:=λ_ _ _ _ _ st h=>wpAny_pyIter_keyiter st h
def ItDI (d:Aj)(o:Obj)(kvs:List (Key×V)):It :=
 ⟨λi H=>H d=some (.frz o (.dK kvs))∧i<kvs.length,λi H v H'=>∃q p,H q=none∧v=.ref q∧kvs[i]?=some p∧H'=upd H q (.tup [kV p.1,p.2]),λi H=>H d=some (.frz o (.dK kvs))∧kvs.length≤i⟩
theorem qu8 {P:Ac}{w:Ah}{K:Aa}{xs:List Expr}{k:Nat}{pos:Pos}{d it:Aj}{o:Obj}{kvs:List (Key×V)}{ep:Nat}(hep:∃es,o.data=.dict es ep):Turn P w K (.Tuple xs k pos) (ItDI d o kvs) [it] it (λi h=>∃ok ov,IsItemIter h it d i kvs.length ep ok ov) where
 mem:=by simp
 obj:=λi h st b hb=>by
  have e:b=it:=by simpa using hb
  subst e
  obtain ⟨ok,ov,e⟩:=st
  exact ⟨_,e,λv z=>by cases z⟩
 keep:=λi h h' st k=>by
  obtain ⟨ok,ov,e⟩:=st
  exact ⟨ok,ov,k it (by simp) _ e⟩
 item:=by
  intro X hP hw hK hc i pins s σ H E I hf st hg
  subst hP hw hK
  obtain ⟨hq,hi⟩:=hg
  obtain ⟨z,hd,ho,vs,es,ep',rel,h3,dd⟩:=Qn I hq
  obtain ⟨es2,h4⟩:=hep
  have:ep'=ep:=by rw [h3] at h4;cases h4;rfl
  subst this
  have e1:kvs[i]?=some kvs[i]:=al hi
  obtain ⟨q,eq,rq⟩:=qq2 rel e1
  have hl:vs.length=kvs.length:=(bi rel).symm
  obtain ⟨ok,ov,st⟩:=st
  refine wpAny_pyNext_items_item (by rw [hl];exact st) dd eq λkey h' hk g1 g2 g3 g4=>?_
  refine ⟨_,rfl,wpAny_letOwnedTupleGo_items (s:={ s with heap:=h' }) g1 λh'' j1 j2=>?_⟩
  have ne:it≠s.heap.objs.size:=au (af st)
  have new:h''.get? s.heap.objs.size=some { cls:=.type "tuple",data:=.seq #[key,q] }:=(j2.2 _ (aN ne)).trans g2
  refine ⟨.ref s.heap.objs.size,_,Inv.turnedT (s:=s) (ch:=[it]) (tk:=s.toks) I (λb u nb e=>?_) new hf (λb hb=>?_) (wqs I (qvp hk) rq) rfl,rfl,⟨_,_,I.hok.fresh (ae _),rfl,e1,rfl⟩,⟨_,_,by rw [←hl];exact j1⟩,λb hb=>?_⟩
  ·have nb:b≠it:=by simpa using nb
   exact (j2.2 b nb).trans (g4 b u nb e)
  ·have e:b=it:=by simpa using hb
   rw [e];exact ne
  ·have e:b=it:=by simpa using hb
   rw [e,q9 ne];exact (hf it (by simp)).1
 done:=by
  intro X hP hw hK hc i pins s σ H E I hf st hg
  subst hP hw hK
  obtain ⟨hq,hi⟩:=hg
  obtain ⟨z,hd,ho,vs,es,ep',rel,h3,dd⟩:=Qn I hq
  obtain ⟨es2,h4⟩:=hep
  have:ep'=ep:=by rw [h3] at h4;cases h4;rfl
  subst this
  have hl:vs.length=kvs.length:=(bi rel).symm
  obtain ⟨f0,f1,f2,f3,f4,f5⟩:=hf it (by simp)
  obtain ⟨ok,ov,st⟩:=st
  exact wpAny_pyNext_items_end (I.ok.hd hc) (by rw [hl];exact st) dd (aR ⋯) λh' eb=>⟨rfl,I.turned (t':=s.toks) (λb o hb e=>eb b o hb e) f0 f1 f3 f4 f5⟩
 self:=λ_ _ _ _ _ st h=>by
  obtain ⟨ok,ov,e⟩:=st
  exact kcp_self e h
section
variable {X:Cx}{tg l:Expr}{tl:TE}
def iDk (tl:TE):TI:=λσ H R=>tl σ H λx H1=>∃d kvs,x=.ref d∧Rd H1 d (.dK kvs)∧∀o H2,Fz H1 d o kvs H2→R (ItD d o kvs) H2
theorem pi_dk (hl:PE X l tl):PI X tg l (iDk tl):=by
 intro pins s σ H R I h
 refine thn (hl pins s σ H _ I h) λv s1 ⟨x,H1,I1,r1,q1⟩=>?_
 obtain ⟨d,kvs,e,rd,q⟩:=q1
 subst e
 cases r1
 obtain ⟨o,H2,fz,I2⟩:=I1.freezeRd rd
 obtain ⟨z,hd,ho,vs,es,ep,rel,h3,dd⟩:=Qn I2 fz.1
 have hl:vs.length=kvs.length:=(bi rel).symm
 refine wpAny_pyIter_dict hd dd ?_
 refine ⟨s1.heap.objs.size,[s1.heap.objs.size],_,_,H2,rfl,I2.kept (t':=s1.toks) λb o e=>ac _ e,wqn ⟨es,h3⟩,⟨_,aq _ rfl,rfl,by rw [hl];rfl⟩,λb hb=>?_,q o H2 fz⟩
 have e:b=s1.heap.objs.size:=by simpa using hb
 subst e
 exact I2.fpOk (ae _) (I2.hok.fresh (ae _))
def iDi (tl:TE):TI:=λσ H R=>tl σ H λx H1=>∃d kvs,x=.ref d∧Rd H1 d (.dK kvs)∧∀o H2,Fz H1 d o kvs H2→R (ItDI d o kvs) H2
theorem pi_di {apos cpos tpos:Pos}{xs:List Expr}{k:Nat}(hl:PE X l tl)(hbase:autoParam (attributeBase l "items" X.env (eval l X.env)=eval l X.env) aU4._auto_1)(hline:autoParam ((apos.endLine==cpos.line)=true) aU4._auto_1) :
  PI X (.Tuple xs k tpos) (.Call (.Attribute l "items" apos) [] [] cpos) (iDi tl):=by
 intro pins s σ H R I h
 refine wpAny_Call_method0_late hbase hline (thn (hl pins s σ H _ I h) λv s1 ⟨x,H1,I1,r1,q1⟩=>?_)
 obtain ⟨d,kvs,e,rd,q⟩:=q1
 subst e
 cases r1
 obtain ⟨o,H2,fz,I2⟩:=I1.freezeRd rd
 obtain ⟨t1,t2,_⟩:=qym I1 (.inl ⟨kvs,rd⟩)
 obtain ⟨z,hd,ho,vs,es,ep,rel,h3,dd⟩:=Qn I2 fz.1
 have hl:vs.length=kvs.length:=(bi rel).symm
 refine ⟨"dict","dict.items",dC,dD,PySem.F.type_dict_items,t1,t2,bU rfl (PySem.evalArgs_none ?_)⟩
 refine dJ dD t1 PySem.F.entry_dict_items (PySem.F.args_dict_items_1 _) (meets_dict_items (xx X.prog X.w) d hd) ⟨⟨vs,dd.dictOf⟩,?_⟩
 have I3:Inv X pins σ H2 { s1 with heap:=s1.heap.push { cls:=.type "dict_items",data:=.fields #[.ref d] } }:=I2.kept (t':=s1.toks) λb o e=>ac _ e
 refine wpAny_pyIter_items (s:={ s1 with heap:=s1.heap.push { cls:=.type "dict_items",data:=.fields #[.ref d] } }) ⟨_,aq _ rfl,rfl,rfl⟩ (dd.push _) ?_
 refine ⟨_,[_],_,_,H2,rfl,I3.kept (t':=s1.toks) λb o e=>ac _ e,qu8 ⟨es,h3⟩,⟨.none,.none,?_⟩,λb hb=>?_,q o H2 fz⟩
 ·rw [hl]
  exact aq _ rfl
 ·have e:=ao.mp hb
  subst e
  exact I3.fpOk (ae _) (I3.hok.fresh (ae _))
def ItS (x:Str):It:=⟨λi _=>i<x.cps.size,λi H v H'=>H'=H∧v=.str ⟨#[x.cps.getD i 0]⟩,λi _=>x.cps.size≤i⟩
theorem qkh {P:Ac}{w:Ah}{K:Aa}{it:Aj}{x:Str}{t:Tok}:Turn P w K tg (ItS x) [it] it (λi h=>h.IsStrIter it "str_ascii_iterator" x t i) where
 mem:=by simp
 obj:=λi h st b hb=>by
  have e:b=it:=by simpa using hb
  subst e
  obtain ⟨ob,e,c,dd⟩:=st
  exact ⟨ob,e,λv z=>by rw [dd] at z;cases z⟩
 keep:=λi h h' st k=>by
  obtain ⟨ob,e,r⟩:=st
  exact ⟨ob,k it (by simp) ob e,r⟩
 item:=by
  intro X hP hw hK hc i pins s σ H E I hf st hg
  subst hP hw hK
  have hg:i<x.cps.size:=hg
  obtain ⟨f0,f1,f2,f3,f4,f5⟩:=hf it (by simp)
  refine wpAny_pyNext_ascii_item st (c:=x.cps.getD i 0) (by rw [cT,de hg];rfl) λh' st' sb=>?_
  have I1:Inv X pins σ H { s with heap:=h',toks:=s.toks+1 }:=I.turned (t':=s.toks+1) (λb o hb e=>(sb.2 b hb).trans e) f0 f1 f3 f4 f5
  obtain ⟨ob,e,c,d'⟩:=id st'
  exact ⟨_,rfl,qxd (s:={ s with heap:=h',toks:=s.toks+1 }) e c d' ⋯ ⟨.str ⟨#[x.cps.getD i 0]⟩,H,I1,⟨_,rfl⟩,⟨rfl,rfl⟩,st',λb hb=>(hf b hb).1⟩⟩
 done:=by
  intro X hP hw hK hc i pins s σ H E I hf st hg
  subst hP hw hK
  obtain ⟨f0,f1,f2,f3,f4,f5⟩:=hf it (by simp)
  exact wpAny_pyNext_ascii_end (I.ok.hd hc) st (cy hg) λh' eb=>⟨rfl,I.turned (t':=s.toks) (λb o hb e=>eb b o hb e) f0 f1 f3 f4 f5⟩
 self:=λ_ _ _ _ _ st h=>wpAny_pyIter_striter_ascii st h
theorem qk3 {P:Ac}{w:Ah}{K:Aa}{it:Aj}{x:Str}{t:Tok}:Turn P w K tg (ItS x) [it] it (λi h=>h.IsStrIter it "str_iterator" x t i) where
 mem:=by simp
 obj:=λi h st b hb=>by
  have e:b=it:=by simpa using hb
  subst e
  obtain ⟨ob,e,c,dd⟩:=st
  exact ⟨ob,e,λv z=>by rw [dd] at z;cases z⟩
 keep:=λi h h' st k=>by
  obtain ⟨ob,e,r⟩:=st
  exact ⟨ob,k it (by simp) ob e,r⟩
 item:=by
  intro X hP hw hK hc i pins s σ H E I hf st hg
  subst hP hw hK
  have hg:i<x.cps.size:=hg
  obtain ⟨f0,f1,f2,f3,f4,f5⟩:=hf it (by simp)
  refine wpAny_pyNext_wide_item st (c:=x.cps.getD i 0) (by rw [cT,de hg];rfl) λh' st' sb=>?_
  have I1:Inv X pins σ H { s with heap:=h',toks:=s.toks+1 }:=I.turned (t':=s.toks+1) (λb o hb e=>(sb.2 b hb).trans e) f0 f1 f3 f4 f5
  obtain ⟨ob,e,c,d'⟩:=id st'
  exact ⟨_,rfl,qxd (s:={ s with heap:=h',toks:=s.toks+1 }) e c d' ⋯ ⟨.str ⟨#[x.cps.getD i 0]⟩,H,I1,⟨_,rfl⟩,⟨rfl,rfl⟩,st',λb hb=>(hf b hb).1⟩⟩
 done:=by
  intro X hP hw hK hc i pins s σ H E I hf st hg
  subst hP hw hK
  obtain ⟨f0,f1,f2,f3,f4,f5⟩:=hf it (by simp)
  exact wpAny_pyNext_wide_end (I.ok.hd hc) st (cy hg) λh' eb=>⟨rfl,I.turned (t':=s.toks) (λb o hb e=>eb b o hb e) f0 f1 f3 f4 f5⟩
 self:=λ_ _ _ _ _ st h=>wpAny_pyIter_striter_wide st h
def iStr (tl:TE):TI:=λσ H R=>tl σ H λv H1=>∃x,v=.str x∧R (ItS x) H1
theorem pi_str (hl:PE X l tl):PI X tg l (iStr tl):=by
 intro pins s σ H R I h
 refine thn (hl pins s σ H _ I h) λv s1 ⟨v',H1,I1,r1,x,e,q⟩=>?_
 subst e
 obtain ⟨t,rfl⟩:=(show ∃t,v=Value.str x t from r1)
 cases ha:x.cps.all (·<128)
 ·refine wpAny_pyIter_wide ha ⟨s1.heap.objs.size,[s1.heap.objs.size],_,_,H1,rfl,I1.kept (t':=s1.toks) λb o e=>ac _ e,qk3 (t:=t),⟨_,aq _ rfl,rfl,rfl⟩,λb hb=>?_,q⟩
  have e:=ao.mp hb
  subst e
  exact I1.fpOk (ae _) (I1.hok.fresh (ae _))
 ·refine wpAny_pyIter_ascii ha ⟨s1.heap.objs.size,[s1.heap.objs.size],_,_,H1,rfl,I1.kept (t':=s1.toks) λb o e=>ac _ e,qkh (t:=t),⟨_,aq _ rfl,rfl,rfl⟩,λb hb=>?_,q⟩
  have e:=ao.mp hb
  subst e
  exact I1.fpOk (ae _) (I1.hok.fresh (ae _))
end
end L2
namespace L2
open PySem PySem.Spec PyProof.Rows
def Rows (q:Aj)(B:Hp)(L:List (List V))(ys:List V)(H:Hp):Prop:=Paired (λv xs=>∃a,v=.ref a∧a≠q∧B a=none∧H a=some (.lst xs)) ys L
theorem xg {H H':Hp}(s:Same H H'){a:Aj}(n:H' a=none):H a=none:=by
 cases e:H a with
 |none=>rfl
 |some o=>rw [s _ _ e] at n;cases n
end L2
namespace L2
open PySem PySem.Spec PyProof.Rows
def Bef (a:Array Ai)(p q:Nat):Prop:=K a p<K a q∨(K a p=K a q∧p<q)
structure From (a xs:Array Ai)(k:Nat)(ix:Nat→Nat):Prop where
 at_:∀i,xs[i]?=a[ix i]?
 rest:∀i,k≤i→ix i=i
 low:∀i,i<k→ix i<k
theorem From.key {a xs:Array Ai}{k:Nat}{ix:Nat→Nat}(f:From a xs k ix)(i:Nat):K xs i=K a (ix i):=K_congr (f.at_ i)
theorem From.more {a xs:Array Ai}{k:Nat}{ix:Nat→Nat}(f:From a xs k ix):From a xs (k+1) ix :=
 ⟨f.at_,λi h=>f.rest i ⋯,λi h=>by
  by_cases e:i<k
  ·have:=f.low i e;lia
  ·have:=f.rest i ⋯;lia⟩
theorem From.mirror {a xs:Array Ai}{k b:Nat}{ix:Nat→Nat}(f:From a xs k ix)(hk:k≤xs.size):From a (mirror xs b k ((k-b)/2)) k (λi=>if b≤i∧i<k then ix (b+k-1-i) else ix i):=by
 refine ⟨λi=>?_,λi h=>?_,λi h=>?_⟩
 ·rw [getElem?_mirror_all hk]
  by_cases c:b≤i∧i<k
  ·simp only [aj c]
   exact f.at_ _
  ·simp only [ag c]
   exact f.at_ _
 ·simp only [ag (show ¬ (b≤i∧i<k) by lia)]
  exact f.rest i h
 ·by_cases c:b≤i∧i<k
  ·simp only [aj c]
   exact f.low _ ⋯
  ·simp only [ag c]
   exact f.low i h
def Up (a xs:Array Ai)(k:Nat):Prop:=∃ix,From a xs k ix∧∀i j,i<j→j<k→Bef a (ix i) (ix j)
def Dr (a xs:Array Ai)(k:Nat):Prop:=∃ix,From a xs k ix∧∀i j,i<j→j<k→Bef a (ix j) (ix i)
def Dn (a xs:Array Ai)(k e:Nat):Prop:=e+1≤k∧∃ix,From a xs k ix∧(∀i j,i<j→j<k-(e+1)→Bef a (ix j) (ix i))∧(∀i j,i<k-(e+1)→k-(e+1)≤j→j<k→K a (ix j)<K a (ix i)) ∧
 ∀i j,k-(e+1)≤i→i<j→j<k→K a (ix i)=K a (ix j)∧ix i<ix j
section
variable {a xs:Array Ai}{k e:Nat}
theorem Up.le (h:Up a xs k){i j:Nat}(hij:i≤j)(hj:j<k):K xs i≤K xs j:=by
 obtain ⟨ix,f,o⟩:=h
 rw [f.key,f.key]
 by_cases c:i=j
 ·subst c;exact Int.le_refl _
 ·rcases o i j ⋯ hj with h|h <;> lia
theorem Up.grow (h:Up a xs k)(hk:1≤k)(hn:¬ K xs k<K xs (k-1)):Up a xs (k+1):=by
 obtain ⟨ix,f,o⟩:=h
 rw [f.key,f.key,f.rest k (ae _)] at hn
 refine ⟨ix,f.more,λi j hij hj=>?_⟩
 by_cases c:j<k
 ·exact o i j hij c
 ·obtain rfl:j=k:=by lia
  have hl:=f.low i hij
  rw [f.rest j (ae _)]
  unfold Bef
  by_cases c2:i=j-1
  ·subst c2;lia
  ·rcases o i (j-1) ⋯ ⋯ with h|h <;> lia
theorem Dr.up (h:Dr a xs k)(hk:k≤xs.size):Up a (mirror xs 0 k ((k-0)/2)) k:=by
 obtain ⟨ix,f,o⟩:=h
 refine ⟨_,f.mirror hk,λi j hij hj=>?_⟩
 simp only [aj (show 0≤i∧i<k by lia),aj (show 0≤j∧j<k by lia)]
 exact o _ _ ⋯ ⋯
theorem Dn.flat (h:Dn a xs k 0):Dr a xs k:=by
 obtain ⟨h0,ix,f,o1,o2,o3⟩:=h
 refine ⟨ix,f,λi j hij hj=>?_⟩
 by_cases c:j<k-(0+1)
 ·exact o1 i j hij c
 ·exact .inl (o2 i j ⋯ ⋯ hj)
theorem Dn.turn (h:Dn a xs k e)(hk:k≤xs.size):Dr a (mirror xs (k-(e+1)) k ((k-(k-(e+1)))/2)) k:=by
 obtain ⟨h0,ix,f,o1,o2,o3⟩:=h
 refine ⟨_,f.mirror hk,λi j hij hj=>?_⟩
 by_cases c1:k-(e+1)≤i
 ·simp only [aj (show k-(e+1)≤i∧i<k by lia),aj (show k-(e+1)≤j∧j<k by lia)]
  exact .inr (o3 _ _ ⋯ ⋯ ⋯)
 ·simp only [ag (show ¬ (k-(e+1)≤i∧i<k) by lia)]
  by_cases c2:k-(e+1)≤j
  ·simp only [aj (show k-(e+1)≤j∧j<k by lia)]
   exact .inl (o2 _ _ ⋯ ⋯ ⋯)
  ·simp only [ag (show ¬ (k-(e+1)≤j∧j<k) by lia)]
   exact o1 i j hij ⋯
theorem Dr.grow (h:Dr a xs k)(hk:1≤k)(hn:K xs k<K xs (k-1)):Dn a xs (k+1) 0:=by
 obtain ⟨ix,f,o⟩:=h
 rw [f.key,f.key,f.rest k (ae _)] at hn
 refine ⟨⋯,ix,f.more,λi j hij hj=>o i j hij ⋯,λi j hi h1 h2=>?_,λi j h1 h2 h3=>by lia⟩
 obtain rfl:j=k:=by lia
 rw [f.rest j (ae _)]
 by_cases c:i=j-1
 ·subst c;exact hn
 ·rcases o i (j-1) ⋯ ⋯ with h|h <;> lia
theorem Dn.grow (h:Dn a xs k e)(h1:¬ K xs k<K xs (k-1))(h2:¬ K xs (k-1)<K xs k):Dn a xs (k+1) (e+1):=by
 obtain ⟨h0,ix,f,o1,o2,o3⟩:=h
 rw [f.key,f.key,f.rest k (ae _)] at h1 h2
 have hk1:k+1-(e+1+1)=k-(e+1):=by lia
 refine ⟨⋯,ix,f.more,?_,?_,?_⟩
 ·rw [hk1];exact o1
 ·rw [hk1]
  intro i j hi hj1 hj2
  by_cases c:j<k
  ·exact o2 i j hi hj1 c
  ·obtain rfl:j=k:=by lia
   rw [f.rest j (ae _)]
   have:=o2 i (j-1) hi ⋯ ⋯
   lia
 ·rw [hk1]
  intro i j hi hij hj
  by_cases c:j<k
  ·exact o3 i j hi hij c
  ·obtain rfl:j=k:=by lia
   rw [f.rest j (ae _)]
   refine ⟨?_,f.low i hij⟩
   by_cases c2:i=j-1
   ·subst c2;lia
   ·have:=(o3 i (j-1) hi ⋯ ⋯).1
    lia
theorem Up.even (h:Up a xs k)(hk:1≤k)(hz:k≤xs.size)(hr:¬ K xs 0<K xs (k-1)):Dr a (mirror xs 0 k ((k-0)/2)) k:=by
 have hle:=@Up.le a xs k h
 obtain ⟨ix,f,o⟩:=h
 have hall:∀i,i<k→K a (ix i)=K a (ix 0):=λi hi=>by
  have e1:=hle (i:=0) (j:=i) ⋯ hi
  have e2:=hle (i:=i) (j:=k-1) ⋯ ⋯
  rw [f.key,f.key] at e1 e2 hr
  lia
 refine ⟨_,f.mirror hz,λi j hij hj=>?_⟩
 simp only [aj (show 0≤i∧i<k by lia),aj (show 0≤j∧j<k by lia)]
 have e1:=hall (0+k-1-i) ⋯
 have e2:=hall (0+k-1-j) ⋯
 rcases o (0+k-1-j) (0+k-1-i) ⋯ ⋯ with h|h
 ·exact .inl h
 ·exact .inr h
theorem Up.put (h:Up a xs k)(hk:k<xs.size){l:Nat}(hl:l≤k)(h1:∀i,i<l→K xs i≤K xs k)(h2:∀i,l≤i→i<k→K xs k<K xs i):Up a (bubble xs k (k-l)) (k+1):=by
 obtain ⟨ix,f,o⟩:=h
 have hkk:k-(k-l)=l:=by lia
 have hr:=f.rest k (ae _)
 refine ⟨λi=>if i=l then k else if l<i∧i≤k then ix (i-1) else ix i,⟨λi=>?_,λi hi=>?_,λi hi=>?_⟩,λi j hij hj=>?_⟩
 ·rw [getElem?_bubble hk _ ⋯,hkk]
  by_cases c:i=l
  ·simp only [aj c]
   rw [f.at_,hr]
  ·simp only [ag c]
   by_cases c2:l<i∧i≤k
   ·simp only [aj c2]
    exact f.at_ _
   ·simp only [ag c2]
    exact f.at_ _
 ·simp only [ag (show ¬ i=l by lia),ag (show ¬ (l<i∧i≤k) by lia)]
  exact f.rest i ⋯
 ·by_cases c:i=l
  ·simp only [aj c];lia
  ·simp only [ag c]
   by_cases c2:l<i∧i≤k
   ·simp only [aj c2]
    have:=f.low (i-1) ⋯
    lia
   ·simp only [ag c2]
    have:=f.low i ⋯
    lia
 ·have key:∀i,i<k→(i<l→K a (ix i)≤K a k)∧(l≤i→K a k<K a (ix i)):=λi hi=>by
   refine ⟨λc=>?_,λc=>?_⟩
   ·have:=h1 i c
    rw [f.key,f.key,hr] at this
    exact this
   ·have:=h2 i c hi
    rw [f.key,f.key,hr] at this
    exact this
  by_cases ci:i=l
  ·simp only [aj ci,ag (show ¬ j=l by lia),aj (show l<j∧j≤k by lia)]
   exact .inl ((key (j-1) ⋯).2 ⋯)
  ·by_cases cj:j=l
   ·simp only [ag ci,aj cj,ag (show ¬ (l<i∧i≤k) by lia)]
    have a1:=(key i ⋯).1 ⋯
    have a2:=f.low i ⋯
    unfold Bef
    lia
   ·simp only [ag ci,ag cj]
    by_cases c3:l<i
    ·simp only [aj (show l<i∧i≤k by lia),aj (show l<j∧j≤k by lia)]
     exact o _ _ ⋯ ⋯
    ·simp only [ag (show ¬ (l<i∧i≤k) by lia)]
     by_cases c4:l<j
     ·simp only [aj (show l<j∧j≤k by lia)]
      exact o _ _ ⋯ ⋯
     ·simp only [ag (show ¬ (l<j∧j≤k) by lia)]
      exact o _ _ hij ⋯
end
section
variable {prog:Ac}{w:Ah}{A:Ae}{E:Ag→Ab→Prop}{s:Ab}{a₀:Array Ai}
end
end L2
namespace L2
open PySem PySem.Spec PyProof.Rows
theorem Jx:∀(n:Nat) (l:List Nat),l.Nodup→(∀x∈l,x<n)→l.length≤n
 |0,l,_,h=>by
  cases l with
  |nil=>exact ae _
  |cons x l=>exact absurd (h x (aH ..)) (Nat.not_lt_zero _)
 |n+1,l,hn,h=>by
  have a1:=Jx n (l.erase n) (hn.erase n) λx hx=>by
   have hm:=List.mem_of_mem_erase hx
   have:=h x hm
   by_cases e:x=n
   ·subst e
    exact absurd hx (hn.not_mem_erase)
   ·lia
  have a2:l.length≤(l.erase n).length+1:=by
   rw [List.length_erase]
   split <;> lia
  lia
theorem Jb:∀(n:Nat) (l:List Nat),l.Nodup→(∀x∈l,x<n)→l.length=n→l.Perm (List.range n)
 |0,l,_,_,e=>by rw [List.length_eq_zero_iff.mp e];exact List.Perm.refl _
 |n+1,l,hn,h,e=>by
  have hm:n∈l:=by
   apply cn
   intro c
   have:=Jx n l hn λx hx=>by
    have:=h x hx
    by_cases e:x=n
    ·subst e;exact absurd hx c
    ·lia
   lia
  have a1:=Jb n (l.erase n) (hn.erase n) (λx hx=>by
   have:=h x (List.mem_of_mem_erase hx)
   by_cases e:x=n
   ·subst e;exact absurd hx hn.not_mem_erase
   ·lia) (by rw [List.length_erase,aj (by simpa using hm)];lia)
  rw [dO]
  exact (List.perm_cons_erase hm).trans ((a1.cons n).trans (List.perm_append_comm (l₁:=[n])))
theorem Up.places {a xs:Array Ai}(h:Up a xs a.size)(hz:xs.size=a.size):∃il:List Nat,il.Perm (List.range a.size)∧il.Pairwise (Bef a)∧xs.toList=il.map λi=>a.getD i (.none,.none):=by
 obtain ⟨ix,f,o⟩:=h
 have pw:((List.range a.size).map ix).Pairwise (Bef a):=by
  rw [cz]
  refine List.Pairwise.imp_of_mem (R:=(·<·)) (λ{i j} hi hj hij=>?_) List.pairwise_lt_range
  exact o i j hij (bj.mp hj)
 refine ⟨(List.range a.size).map ix,Jb _ _ ?_ ?_ (by rw [aa,bv]),pw,?_⟩
 ·refine pw.imp λ{i j} h e=>?_
  subst e
  unfold Bef at h
  lia
 ·intro x hx
  obtain ⟨i,hi,rfl⟩:=aA.mp hx
  exact f.low i (bj.mp hi)
 ·refine cx λi=>?_
  rw [be,aI,ca,f.at_]
  by_cases c:i<a.size
  ·rw [cP c]
   have:=f.low i c
   simp [Array.getD,this]
  ·rw [f.rest i ⋯,cy ⋯,aR (by rw [bv];lia)]
   rfl
end L2
namespace L2
open PySem PySem.Spec PySem.W PyProof.Rows
section
variable {n:Nat}{im:Nat→Ai}{kz:Nat→Int}{ask:Nat→Nat→(Bool→Ab→Prop)→Ab→Prop}{s:Ab}
def Gd (n:Nat)(p:Array Nat):Prop:=p.Perm (List.toArray (List.range n))
theorem Gd.size {p:Array Nat}(h:Gd n p):p.size=n:=by
 have:=Array.Perm.size_eq h
 simpa using this
theorem Gd.lt {p:Array Nat}(h:Gd n p){i:Nat}(hi:i<n):p.getD i 0<n:=by
 have hs:=h.size
 have m:p[i]'⋯∈p:=Array.getElem_mem _
 have:=(Array.Perm.mem_iff h).mp m
 have e:p.getD i 0=p[i]'⋯:=by simp [Array.getD,hs,hi]
 rw [e]
 simpa using this
theorem Gd.rev {p:Array Nat}(h:Gd n p)(i j:Nat):Gd n (kas_rev p i j):=(mirror_perm _ _ _ _).trans h
theorem Gd.bub {p:Array Nat}(h:Gd n p)(i j:Nat):Gd n (bubble p i j):=(bubble_perm _ _ _).trans h
def ixA (n:Nat)(im:Nat→Ai):Array Ai:=(List.toArray (List.range n)).map im
theorem Wh (p:Array Nat)(i j:Nat):(kas_rev p i j).map im=mirror (p.map im) i j ((j-i)/2):=by
 unfold kas_rev mirror
 exact (kas_swaps_map im _ _ _ p).symm
theorem wqp (p:Array Nat)(i j:Nat):(bubble p i j).map im=bubble (p.map im) i j:=by
 unfold bubble
 exact (kas_swaps_map im _ _ _ p).symm
def KyI (im:Nat→Ai)(kz:Nat→Int):Prop:=∀(p:Array Nat) i,i<p.size→K (p.map im) i=kz (p.getD i 0)
def Wp (n:Nat)(kz:Nat→Int)(ask:Nat→Nat→(Bool→Ab→Prop)→Ab→Prop)(s:Ab):Prop:=∀i j C,i<n→j<n→C (decide (kz i<kz j)) s→ask i j C s
theorem Zu {p:Array Nat}{i j:Nat}{C:Bool→Ab→Prop}(ha:Wp n kz ask s)(hk:KyI im kz)(g:Gd n p)(hi:i<n)(hj:j<n)
  (h1:K (p.map im) i<K (p.map im) j→C true s) (h2:¬ K (p.map im) i<K (p.map im) j→C false s):ask (p.getD i 0) (p.getD j 0) C s:=by
 refine ha _ _ _ (g.lt hi) (g.lt hj) ?_
 rw [hk p i (by rw [g.size];exact hi),hk p j (by rw [g.size];exact hj)] at h1 h2
 by_cases c:kz (p.getD i 0)<kz (p.getD j 0)
 ·simp only [c,decide_true];exact h1 c
 ·simp only [c,decide_false];exact h2 c
theorem qx1 {p:Array Nat}{e:Nat}{Q:Nat→Ab→Prop}(ha:Wp n kz ask s)(hk:KyI im kz)(g:Gd n p)(he:e≤n):∀(f b:Nat),1≤b→b+f=e→Up (ixA n im) (p.map im) b →
  (∀m,b≤m→m≤e→Up (ixA n im) (p.map im) m→(m=e∨K (p.map im) m<K (p.map im) (m-1))→Q m s)→(kas_asc p f b).kasWp ask Q s
 |0,b,_,hb,u,h=>h b (ae _) ⋯ u (.inl ⋯)
 |f+1,b,h1,hb,u,h=>by
  refine Zu ha hk g ⋯ ⋯ (λc=>?_) λc=>?_
  ·exact h b (ae _) ⋯ u (.inr c)
  ·exact qx1 ha hk g he f (b+1) ⋯ ⋯ (u.grow h1 c) λm a1 a2 a3 a4=>h m ⋯ a2 a3 a4
theorem qvz {p:Array Nat}{k e:Nat}{Q:Nat×Array Nat→Ab→Prop}(ha:Wp n kz ask s)(hk:KyI im kz)(g:Gd n p)(he:e≤n)(h1:1≤k)(hke:k≤e)(d:Dr (ixA n im) (p.map im) k)
  (h:∀m q,Gd n q→1≤m→m≤e→Up (ixA n im) (q.map im) m→Q (m,q) s):(kas_tail3 k e p).kasWp ask Q s:=by
 unfold kas_tail3
 rw [KasT.kasWp_bind]
 refine qx1 ha hk (g.rev 0 k) he (e-k) k h1 ⋯ ?_ λm a1 a2 a3 _=>h m _ (g.rev 0 k) ⋯ a2 a3
 rw [Wh]
 exact d.up (by rw [ck,g.size];lia)
theorem Wg {e:Nat}{Q:Array Nat×Nat×Nat→Ab→Prop}(ha:Wp n kz ask s)(hk:KyI im kz)(he:e≤n):∀(f:Nat) (p:Array Nat) (x q:Nat),Gd n p→x+f=e→Dn (ixA n im) (p.map im) x q →
  (∀m r p',Gd n p'→x≤m→m≤e→Dn (ixA n im) (p'.map im) m r→Q (p',m,r) s)→(kas_desc f p x q).kasWp ask Q s
 |0,p,x,q,g,hx,d,h=>h x q p g (ae _) ⋯ d
 |f+1,p,x,q,g,hx,d,h=>by
  have hx1:1≤x:=by have:=d.1;lia
  have hz:x≤(p.map im).size:=by rw [ck,g.size];lia
  refine Zu ha hk g ⋯ ⋯ (λc=>?_) λc=>?_
  ·show KasT.kasWp ask (if q>0 then kas_desc f (kas_rev p (x-(q+1)) x) (x+1) 0 else kas_desc f p (x+1) 0) Q s
   by_cases c2:q>0
   ·rw [aj c2]
    refine Wg ha hk he f _ (x+1) 0 (g.rev _ _) ⋯ ?_ λm r p' a1 a2 a3 a4=>h m r p' a1 ⋯ a3 a4
    rw [Wh]
    refine (d.turn hz).grow hx1 ?_
    rw [K_mirror hz,K_mirror hz,ag ⋯,aj (by have:=d.1;lia)]
    obtain ⟨hq,ix,f',_,_,o3⟩:=id d
    by_cases c3:x-(q+1)+x-1-(x-1)=x-1
    ·rw [c3];exact c
    ·have:=(o3 (x-(q+1)+x-1-(x-1)) (x-1) ⋯ ⋯ ⋯).1
     rw [←f'.key,←f'.key] at this
     lia
   ·rw [ag c2]
    obtain rfl:q=0:=by lia
    exact Wg ha hk he f p (x+1) 0 g ⋯ (d.flat.grow hx1 c) λm r p' a1 a2 a3 a4=>h m r p' a1 ⋯ a3 a4
  ·refine Zu ha hk g ⋯ ⋯ (λc2=>?_) λc2=>?_
   ·exact h x q p g (ae _) ⋯ d
   ·exact Wg ha hk he f p (x+1) (q+1) g ⋯ (d.grow c c2) λm r p' a1 a2 a3 a4=>h m r p' a1 ⋯ a3 a4
theorem qz8 {p:Array Nat}{k e:Nat}{Q:Nat×Array Nat→Ab→Prop}(ha:Wp n kz ask s)(hk:KyI im kz)(g:Gd n p)(he:e≤n)(hke:k+1≤e)(d:Dn (ixA n im) (p.map im) (k+1) 0)
  (h:∀m q,Gd n q→1≤m→m≤e→Up (ixA n im) (q.map im) m→Q (m,q) s):(kas_descPart k e p).kasWp ask Q s:=by
 unfold kas_descPart
 rw [KasT.kasWp_bind]
 refine Wg ha hk he (e-(k+1)) p (k+1) 0 g ⋯ d λm r p' g' a1 a2 d'=>?_
 have hz:m≤(p'.map im).size:=by rw [ck,g'.size];lia
 dsimp only
 by_cases c:r>0
 ·rw [aj c]
  refine qvz ha hk (g'.rev _ _) he ⋯ a2 ?_ h
  rw [Wh]
  exact d'.turn hz
 ·rw [ag c]
  obtain rfl:r=0:=by lia
  exact qvz ha hk g' he ⋯ a2 d'.flat h
theorem qy1 {e:Nat}{Q:Nat×Array Nat→Ab→Prop}(ha:Wp n kz ask s)(hk:KyI im kz)(he:e≤n)(h1:1≤e)
  (h:∀m q,Gd n q→1≤m→m≤e→Up (ixA n im) (q.map im) m→Q (m,q) s):(kas_count e (List.toArray (List.range n))).kasWp ask Q s:=by
 have g:Gd n (List.toArray (List.range n)):=Array.Perm.refl _
 have u1:Up (ixA n im) ((List.toArray (List.range n)).map im) 1:=⟨id,⟨λi=>rfl,λi _=>rfl,λi z=>z⟩,λi j a b=>by lia⟩
 unfold kas_count
 rw [KasT.kasWp_bind]
 refine qx1 ha hk g he (e-1) 1 (ae _) ⋯ u1 λm m1 m2 u hor=>?_
 have hz:m≤((List.toArray (List.range n)).map im).size:=by rw [ck,g.size];lia
 by_cases c:m=e
 ·rw [aj (cE.mpr c)]
  exact h m _ g m1 m2 u
 ·have hlt:=hor.resolve_left c
  rw [ag (λz=>c (cE.mp z))]
  by_cases c2:m>1
  ·rw [aj c2]
   refine Zu ha hk g ⋯ ⋯ (λc3=>?_) λc3=>?_
   ·exact h m _ g m1 m2 u
   ·refine qz8 ha hk (g.rev 0 m) he ⋯ ?_ h
    rw [Wh]
    refine (u.even m1 hz c3).grow m1 ?_
    rw [K_mirror hz,K_mirror hz,ag ⋯,aj ⋯]
    have e1:=u.le (i:=0) (j:=0+m-1-(m-1)) ⋯ ⋯
    have e2:=u.le (i:=0+m-1-(m-1)) (j:=m-1) ⋯ ⋯
    lia
  ·rw [ag c2]
   obtain rfl:m=1:=by lia
   obtain ⟨ix,f,o⟩:=u
   exact qz8 ha hk g he ⋯ (Dr.grow ⟨ix,f,λi j a b=>by lia⟩ ⋯ hlt) h
theorem Zg {p:Array Nat}{k:Nat}{Q:Nat→Ab→Prop}(ha:Wp n kz ask s)(hk:KyI im kz)(g:Gd n p)(hkn:k<n)(u:Up (ixA n im) (p.map im) k)
  (h:∀l,l≤k→(∀i,i<l→K (p.map im) i≤K (p.map im) k)→(∀i,l≤i→i<k→K (p.map im) k<K (p.map im) i)→Q l s):∀(f l r:Nat),l≤r→r≤k→r-l≤f→(∀i,i<l→K (p.map im) i≤K (p.map im) k)→(∀i,r≤i→i<k→K (p.map im) k<K (p.map im) i) →
  (kas_place p k f l r).kasWp ask Q s
 |0,l,r,a1,a2,a3,a4,a5=>by
  obtain rfl:l=r:=by lia
  exact h l a2 a4 a5
 |f+1,l,r,a1,a2,a3,a4,a5=>by
  unfold kas_place
  by_cases c1:l≥r
  ·rw [aj c1]
   obtain rfl:l=r:=by lia
   exact h l a2 a4 a5
  ·rw [ag c1]
   refine Zu ha hk g ⋯ ⋯ (λc2=>?_) λc2=>?_
   ·exact Zg ha hk g hkn u h f l ((l+r)/2) ⋯ ⋯ ⋯ a4 λi z1 z2=>by have:=u.le z1 z2;lia
   ·exact Zg ha hk g hkn u h f ((l+r)/2+1) r ⋯ ⋯ ⋯ (λi z=>by have:=u.le (i:=i) (j:=(l+r)/2) ⋯ ⋯;lia) a5
theorem qyv {Q:Array Nat→Ab→Prop}(ha:Wp n kz ask s)(hk:KyI im kz)(h:∀q,Gd n q→Up (ixA n im) (q.map im) n→Q q s):∀(f:Nat) (p:Array Nat) (k:Nat),Gd n p→1≤k→k+f=n→Up (ixA n im) (p.map im) k →
  (kas_bin f p k).kasWp ask Q s
 |0,p,k,g,_,e,u=>by
  obtain rfl:k=n:=by lia
  exact h p g u
 |f+1,p,k,g,k1,e,u=>by
  unfold kas_bin
  rw [KasT.kasWp_bind]
  refine Zg ha hk g ⋯ u (λl a2 a4 a5=>?_) k 0 k (aC _) (ae _) ⋯ (λi z=>by lia) λi z1 z2=>by lia
  refine qyv ha hk h f _ (k+1) (g.bub _ _) ⋯ ⋯ ?_
  rw [wqp]
  exact u.put (by rw [ck,g.size];lia) a2 a4 a5
theorem qut {Q:Array Nat→Ab→Prop}(ha:Wp n kz ask s)(hk:KyI im kz)(h1:1≤n)(h:∀q,Gd n q→Up (ixA n im) (q.map im) n→Q q s):(kas_sort n).kasWp ask Q s:=by
 unfold kas_sort
 rw [KasT.kasWp_bind]
 refine qy1 ha hk (ae _) h1 λm q g m1 m2 u=>?_
 dsimp only
 have em:max m 1=m:=by lia
 by_cases c:m<n
 ·rw [aj c,em]
  exact qyv ha hk h (n-m) q m g m1 ⋯ u
 ·rw [ag c]
  obtain rfl:m=n:=by lia
  exact h q g u
def imI (kz:Nat→Int)(t:Tok)(i:Nat):Ai:=(.int (kz i) t,.int (i:Int) t)
theorem imI_ky (kz:Nat→Int)(t:Tok):KyI (imI kz t) kz:=λp i hi=>by
 unfold K
 simp [hi,imI,numOf,Array.getD]
theorem tr_out {t:Tok}{Q:Array Nat→Ab→Prop}(ha:Wp n kz ask s)(h1:1≤n)
  (h:∀il:List Nat,il.Perm (List.range n)→il.Pairwise (λi j=>kz i<kz j∨(kz i=kz j∧i<j))→Q il.toArray s):(kas_sort n).kasWp ask Q s:=by
 refine qut ha (imI_ky kz t) h1 λq g u=>?_
 have hz:(ixA n (imI kz t)).size=n:=by simp [ixA]
 have hzq:(q.map (imI kz t)).size=(ixA n (imI kz t)).size:=by rw [hz,ck,g.size]
 obtain ⟨il,p,o,e⟩:=Up.places (by rw [hz];exact u) hzq
 rw [hz] at p
 have hin:∀i∈il,i<n:=λi hi=>bj.mp (p.mem_iff.mp hi)
 have at_:∀i,i<n→(ixA n (imI kz t)).getD i (.none,.none)=imI kz t i:=λi hi=>by
  simp [ixA,Array.getD,hi]
 have ky:∀i,i<n→K (ixA n (imI kz t)) i=kz i:=λi hi=>by
  unfold K
  simp [ixA,hi,imI,numOf]
 have e2:q.toList.map (imI kz t)=il.map (imI kz t):=by
  rw [←Array.toList_map,e]
  exact bO λi hi=>at_ i (hin i hi)
 have inj:∀i j,imI kz t i=imI kz t j→i=j:=λi j e=>by
  simp only [imI,Prod.mk.injEq,Value.int.injEq] at e
  lia
 have e3:q.toList=il:=(List.map_inj_right (λi j e=>inj i j e)).mp e2
 have e4:q=il.toArray:=by rw [←e3]
 rw [e4]
 exact h il p (o.imp_of_mem λ{i j} hi hj hb=>by
  unfold Bef at hb
  rw [ky i (hin i hi),ky j (hin j hj)] at hb
  exact hb)
end
end L2
namespace L2
open PySem PySem.Spec PySem.Calls PySem.W PyProof.Rows
section
variable {prog:Ac}{w:Ah}{A:Ae}{E:Ag→Ab→Prop}{s:Ab}
theorem ym {h:Heap}{a:Aj}{vs:List Ag}{k:Nat}(ho:h.get? a=some (seqObj "list" vs.toArray k))(out:Array Ag):∃e,(sortedHeap h a vs out).get? a=some (seqObj "list" out e):=by
 obtain ⟨e1,ho1⟩:∃e1,(h.update a (Obj.mapSeq λ_=>(#[]:Array Ag))).get? a=some (seqObj "list" #[] e1):=⟨_,get?_update_seq ho λ_=>#[]⟩
 exact ⟨_,get?_update_seq (ac _ (ac _ ho1)) λ_=>out⟩
theorem j3 {h:Heap}{a b:Aj}{vs:List Ag}{o:Obj}(e:h.get? b=some o)(hb:b≠a)(out:Array Ag):(sortedHeap h a vs out).get? b=some o:=by
 unfold sortedHeap
 rw [cQ _ _ _ _ hb]
 refine ac _ (ac _ ?_)
 rw [cQ _ _ _ _ hb]
 exact e
end
section
variable {X:Cx}
end
end L2
namespace L2
open PySem PySem.Spec PySem.Calls PySem.W PyProof.Rows
def kzS (ss:List Str)(x:Str):Int:=((ss.filter λy=>decide (y.cps.toList<x.cps.toList)).length:Nat)
theorem qyk {ss:List Str}{x y:Str}(h:¬ y.cps.toList<x.cps.toList):kzS ss x≤kzS ss y:=by
 unfold kzS
 have:(ss.filter λz=>decide (z.cps.toList<x.cps.toList)).length≤(ss.filter λz=>decide (z.cps.toList<y.cps.toList)).length:=by
  refine (List.Sublist.length_le ?_)
  have e:(ss.filter λz=>decide (z.cps.toList<x.cps.toList))=(ss.filter λz=>decide (z.cps.toList<y.cps.toList)).filter λz=>decide (z.cps.toList<x.cps.toList):=by
   rw [List.filter_filter]
   refine List.filter_congr λz _=>?_
   by_cases c:z.cps.toList<x.cps.toList
   ·have:z.cps.toList<y.cps.toList:=by
     apply cn
     intro n
     exact absurd c (List.not_lt.mpr (List.le_trans (List.not_lt.mp h) (List.not_lt.mp n)))
    simp [c,this]
   ·simp [c]
  rw [e]
  exact List.filter_sublist
 lia
theorem qyd {ss:List Str}{x y:Str}(hx:x∈ss)(h:x.cps.toList<y.cps.toList):kzS ss x<kzS ss y:=by
 unfold kzS
 have sub:(ss.filter λz=>decide (z.cps.toList<x.cps.toList)).length<(ss.filter λz=>decide (z.cps.toList<y.cps.toList)).length:=by
  have e:(ss.filter λz=>decide (z.cps.toList<x.cps.toList))=(ss.filter λz=>decide (z.cps.toList<y.cps.toList)).filter λz=>decide (z.cps.toList<x.cps.toList):=by
   rw [List.filter_filter]
   refine List.filter_congr λz _=>?_
   by_cases c:z.cps.toList<x.cps.toList
   ·have:z.cps.toList<y.cps.toList:=List.lt_trans c h
    simp [c,this]
   ·simp [c]
  rw [e]
  have mem:x∈ss.filter λz=>decide (z.cps.toList<y.cps.toList):=dL.mpr ⟨hx,bn h⟩
  refine Nat.lt_of_le_of_ne (List.length_filter_le _ _) λz=>?_
  have:=(List.length_filter_eq_length_iff).mp z x mem
  exact List.lt_irrefl _ (of_decide_eq_true this)
 lia
theorem wqj {ss:List Str}{x y:Str}(hx:x∈ss):kzS ss x<kzS ss y↔x.cps.toList<y.cps.toList:=by
 constructor
 ·intro h
  apply cn
  intro n
  have:=qyk (ss:=ss) n
  lia
 ·exact qyd hx
section
variable {prog:Ac}{w:Ah}{A:Ae}{E:Ag→Ab→Prop}{s:Ab}
def StrsR (vs:List Ag)(ss:List Str):Prop:=Paired (λv x=>∃t,v=Value.str x t) vs ss
theorem StrsR.at {vs:List Ag}{ss:List Str}(h:StrsR vs ss):∀ {i:Nat},i<ss.length→∃x t,ss[i]?=some x∧vs.getD i Value.none=Value.str x t:=by
 induction h with
 |nil=>intro i hi;exact absurd hi (Nat.not_lt_zero _)
 |@cons a b l m hd tl ih =>
  intro i hi
  cases i with
  |zero=>obtain ⟨t,rfl⟩:=hd;exact ⟨b,t,rfl,rfl⟩
  |succ i=>exact ih (i:=i) (by simpa using hi)
theorem StrsR.mem {vs:List Ag}{ss:List Str}(h:StrsR vs ss):∀v∈vs,∃x t,v=Value.str x t:=by
 induction h with
 |nil=>intro v hv;cases hv
 |@cons a b l m hd tl ih =>
  intro v hv
  rcases ak.mp hv with rfl|hv
  ·obtain ⟨t,e⟩:=hd;exact ⟨b,t,e⟩
  ·exact ih v hv
theorem Ws {a:Aj}{vs:List Ag}{k:Nat}{ss:List Str}{P:PySem.Fin→Ab→Prop}(ho:s.heap.get? a=some (seqObj "list" vs.toArray k))(h64:vs.length<64)(t:StrsR vs ss)
  (h:∀il:List Nat,il.Perm (List.range vs.length)→il.Pairwise (λi j=>¬ (ss.getD j Str.empty).cps.toList<(ss.getD i Str.empty).cps.toList)→P (.done (.ret .none)) { s with heap:=sortedHeap s.heap a vs (il.map λi=>vs.getD i Value.none).toArray }) :
  wpAny (model prog w) A (Builtin.«list.sort» ⟨[.ref a],[]⟩) P E s:=by
 have hkl:vs.length=ss.length:=bi t
 have ha:a<s.heap.objs.size:=af ho
 obtain ⟨e1,ho1⟩:∃e1,(s.heap.update a (Obj.mapSeq λ_=>(#[]:Array Ag))).get? a=some (seqObj "list" #[] e1):=⟨_,get?_update_seq ho λ_=>#[]⟩
 have sz:(1000001:Nat)<sizeLine:=by decide
 rw [list_sort_plain]
 refine ai (listItems_at ho rfl ?_)
 refine ai (listUpdate_at ho rfl ?_ (by rw [ay];lia) (aC _))
 refine ai (seqEpoch_at ho1 rfl ?_)
 refine ai (wpAny_newTuple ?_ (by show vs.length≤_;lia))
 refine ai (dq ?_ (aC _))
 refine cH ?_
 show wpAny (model prog w) A _ P E { s with heap:=((s.heap.update a (Obj.mapSeq λ_=>(#[]:Array Ag))).push (seqObj "tuple" vs.toArray 0)).push (seqObj "list" #[] 0) }
 have ho6:(((s.heap.update a (Obj.mapSeq λ_=>(#[]:Array Ag))).push (seqObj "tuple" vs.toArray 0)).push (seqObj "list" #[] 0)).get? a=some (seqObj "list" #[] e1):=ac _ (ac _ ho1)
 have fin:∀(h':Heap) (il:List Nat),h'=((s.heap.update a (Obj.mapSeq λ_=>(#[]:Array Ag))).push (seqObj "tuple" vs.toArray 0)).push (seqObj "list" #[] 0)→il.Perm (List.range vs.length)→il.Pairwise (λi j=>¬ (ss.getD j Str.empty).cps.toList<(ss.getD i Str.empty).cps.toList)→P (.done (.ret .none)) { s with heap:=h'.update a (Obj.mapSeq λ_=>(il.map λi=>vs.getD i Value.none).toArray) }:=λh' il e a1 a2=>by
  subst e
  exact h il a1 a2
 generalize ((s.heap.update a (Obj.mapSeq λ_=>(#[]:Array Ag))).push (seqObj "tuple" vs.toArray 0)).push (seqObj "list" #[] 0)=h6' at ho6 fin ⊢
 have fin:=λil=>fin h6' il rfl
 dsimp only
 by_cases h2:vs.toArray.size<2
 ·rw [aj h2,aj h2]
  refine ai (az ?_)
  rw [StateT.run_pure]
  refine ai (az ?_)
  dsimp only
  have h2':vs.length<2:=by simpa using h2
  have e:(arrOf (SortSt.mk' general' (vs.toArray.zip vs.toArray) #[] 7 none)).map (·.2)=((List.range vs.length).map λi=>vs.getD i Value.none).toArray:=by
   show (vs.toArray.zip vs.toArray).map (·.2)=_
   match vs,h2' with
   |[],_=>simp
   |[v],_=>simp
   |_::_::_,h2=>simp at h2;lia
  rw [e]
  refine ai (seqEpoch_at ho6 rfl ?_)
  refine ai (listUpdate_at ho6 rfl ?_ (aC _) (by rw [ay,aa,bv];lia))
  simp only [bne_self_eq_false,Bool.false_eq_true,if_false]
  refine az (fin (List.range vs.length) (.refl _) ?_)
  rcases (by lia:vs.length=0∨vs.length=1) with z|z
  ·rw [z];exact .nil
  ·rw [z];exact List.pairwise_singleton _ _
 ·rw [ag h2,ag h2]
  have hv2:2≤vs.length:=by simpa using h2
  refine ai (kas_kind (T:=.type "str") hv2 (λv hv=>?_) rfl rfl ?_)
  ·obtain ⟨x,tk,rfl⟩:=t.mem v hv
   exact Looks.of_pure rfl
  let kz:Nat→Int:=λi=>kzS ss (ss.getD i Str.empty)
  have gd:∀ {i x},ss[i]?=some x→ss.getD i Str.empty=x:=λe=>by rw [aJ,e];rfl
  have ask:Wp vs.length kz (kas_ask prog w A oneType' vs) { s with heap:=h6' }:=λi j C hi hj hC=>by
   obtain ⟨x,tx,ex,vx⟩:=t.at (i:=i) ⋯
   obtain ⟨y,ty,ey,vy⟩:=t.at (i:=j) ⋯
   unfold kas_ask
   rw [vx,vy]
   refine kas_lt_str ?_
   have e:decide (kz i<kz j)=decide (x.cps.toList<y.cps.toList):=by
    rw [bX,cA,cA]
    show kzS ss (ss.getD i Str.empty)<kzS ss (ss.getD j Str.empty)↔_
    rw [gd ex,gd ey]
    exact wqj (bt ex)
   rw [←e]
   exact hC
  have tree:(kas_sort vs.length).kasWp (kas_cmp prog w A oneType' (pairsOf vs)) (λp s'=>s'={ s with heap:=h6' }∧p.toList.Perm (List.range vs.length)∧p.toList.Pairwise (λi j=>¬ (ss.getD j Str.empty).cps.toList<(ss.getD i Str.empty).cps.toList)) { s with heap:=h6' }:=by
   rw [←kas_ask_eq]
   refine tr_out (t:=0) ask ⋯ λil pm up=>⟨rfl,pm,up.imp_of_mem λ{i j} hi hj hb n=>?_⟩
   have hj:=bj.mp (pm.mem_iff.mp hj)
   obtain ⟨y,ty,ey,vy⟩:=t.at (i:=j) ⋯
   have:kz j<kz i:=by
    show kzS ss (ss.getD j Str.empty)<kzS ss (ss.getD i Str.empty)
    rw [gd ey] at n ⊢
    exact qyd (bt ey) n
   lia
  have est:SortSt.mk' oneType' (vs.toArray.zip vs.toArray) #[] 7 none=kas_st oneType' (pairsOf vs) (List.toArray (List.range vs.length)):=by
   have e:=kas_range (pairsOf vs)
   rw [pairsOf_size] at e
   show SortSt.mk' oneType' (pairsOf vs) #[] 7 none=SortSt.mk' oneType' ((List.toArray (List.range vs.length)).map (kas_item (pairsOf vs))) #[] 7 none
   rw [e]
  have run:=kas_runs (E:=E) (Q:=λ_ st' s'=>∃p:Array Nat,p.size=vs.length∧arrOf st'=p.map (kas_item (pairsOf vs))∧failedOf st'=none∧s'={ s with heap:=h6' }∧p.toList.Perm (List.range vs.length)∧p.toList.Pairwise (λi j=>¬ (ss.getD j Str.empty).cps.toList<(ss.getD i Str.empty).cps.toList))
   hv2 h64 (λp' st' s' a1 a2 a3 a4=>⟨p',a1,a2,a3,a4⟩) tree
  rw [←est] at run
  refine ai (aX run ?_ λ_ _ e=>e)
  rintro ⟨⟨⟩,st'⟩ s' ⟨p,hp,har,hf,rfl,pm,up⟩
  dsimp only
  have hout:(arrOf st').map (·.2)=List.toArray (p.toList.map λi=>vs.getD i Value.none):=by
   apply Array.toList_inj.mp
   rw [har,Array.map_map,Array.toList_map]
   exact bO λi _=>by show (kas_item (pairsOf vs) i).2=_;rw [kas_item_eq]
  rw [hout]
  refine ai (seqEpoch_at ho6 rfl ?_)
  refine ai (listUpdate_at ho6 rfl ?_ (aC _) (by rw [ay,aa,bw];lia))
  rw [hf]
  simp only [bne_self_eq_false,Bool.false_eq_true,if_false]
  exact az (fin p.toList pm up)
theorem qq5 {d:Aj}{vs:List (Key×Ag)}{ep:Nat}{Q:List Ag→Ab→Prop}(hh:A.handled=none)(lo:(d==sysModules)=false)(dd:s.heap.DictAt (xx prog w) d vs ep)(hn:vs.length≤sizeLine)
  (h:∀h' tk (qs:List Ag),(∀b o,s.heap.get? b=some o→h'.get? b=some o)→qs.length=vs.length→(∀(i:Nat) v,qs[i]?=some v→∃k x,vs[i]?=some (k,x)∧(xx prog w).is k v=true)→s.heap.objs.size≤h'.objs.size→Q qs { s with heap:=h',toks:=tk }):wpAny (model prog w) A (collect (.ref d)) Q E s:=by
 have hS:d<s.heap.objs.size:=dd.lt_size
 have R:(s.heap.push (seqObj "list" #[] 0)).DictAt (xx prog w) d vs ep:=dd.push _
 have run:codeAny (model prog w) A (.builtin "proto.collect" ⟨[.ref d],[]⟩) (λr s'=>r=.ok (.ret (.ref s.heap.objs.size))∧∃h' tk acc' c',s'={ s with heap:=h',toks:=tk }∧(∀b o,b≠s.heap.objs.size→(s.heap.push (seqObj "list" #[] 0)).get? b=some o→h'.get? b=some o) ∧
   h'.get? s.heap.objs.size=some { cls:=.type "list",dict:=none,data:=.seq acc' c',slots:=#[] }∧ItemsOf (λi v=>∃k x,vs[i]?=some (k,x)∧(xx prog w).is k v=true) acc' vs.length) s:=by
  refine codeAny_builtin entry_proto_collect' ?_
  show wpAny _ _ (do again (.builtin "list.__iadd__" ⟨[←newList [],.ref d],[]⟩)) _ _ s
  (refine ai (dq (az ⟨Code.quiet_builtin _ (by decide +kernel),codeAny_builtin entry_list_iadd' ?_⟩)) ;rw [Around.under_plainId (show plainId "list.__iadd__" = true by decide +kernel) _])
  show wpAny _ _ (Builtin.List.listExtendWith (.ref s.heap.objs.size) (.ref d) (.ref s.heap.objs.size)) _ _ _
  exact kdl_extend (s:={ s with heap:=s.heap.push (seqObj "list" #[] 0) }) (R:=λr s'=>r=.ok (.ret (.ref s.heap.objs.size))∧∃h' tk acc' c',s'={ s with heap:=h',toks:=tk }∧(∀b o,b≠s.heap.objs.size→(s.heap.push (seqObj "list" #[] 0)).get? b=some o→h'.get? b=some o) ∧
   h'.get? s.heap.objs.size=some { cls:=.type "list",dict:=none,data:=.seq acc' c',slots:=#[] }∧ItemsOf (λi v=>∃k x,vs[i]?=some (k,x)∧(xx prog w).is k v=true) acc' vs.length) (kdl_dict lo) (by simpa using hh) R s.heap.objs.size (dH hS) (dH hS) (.ref s.heap.objs.size) 0 (aq _ rfl) (λh' tk acc' c' hk hS' hacc=>⟨rfl,h',tk,acc',c',rfl,hk,hS',hacc⟩) hn
 unfold collect
 refine ai (wpAny_runValue (cw run λr s' hr=>?_))
 obtain ⟨rfl,h',tk,acc',c',rfl,hk,hS',hacc⟩:=hr
 dsimp only
 refine ai (wpAny_load hS' ?_)
 refine az ?_
 refine h h' tk _ (λb o e=>hk b o (au (af e)) (ac _ e)) (by rw [bw];exact hacc.1) (λi v e=>hacc.2 i v (by rw [←ca];exact e)) ?_
 exact bL (af hS')
end
section
variable {X:Cx}
theorem yd (hc:X.calm=true):z7 X (.builtin "sorted") (λxs H Q=>∃(d:Aj) (kvs:List (Key×V)) (ss:List Str),xs=[.ref d]∧Rd H d (.dK kvs)∧kvs.map (·.1)=ss.map Sum.inr∧kvs.length<64 ∧
  ∀(l:Aj) (ms:List Str),H l=none→ms.Perm ss→ms.Pairwise (λx y=>¬ y.cps.toList<x.cps.toList)→Q (.ref l) (upd H l (.lst (ms.map V.str)))):=by
 intro pins s σ H xs us Q I r h
 obtain ⟨d,kvs,ss,rfl,hd,hk,hn,q⟩:=h
 obtain ⟨u,rfl,ru⟩:=jq r
 cases (show u=Value.ref d from ru)
 have sz:(100001:Nat)<sizeLine:=by decide
 obtain ⟨z,lo,vs,rel,dd⟩:=yf I.hok hd
 obtain ⟨ep,dd⟩:=dd.dictAt
 have hl:vs.length=kvs.length:=(bi rel).symm
 have hls:kvs.length=ss.length:=by have:=bF List.length hk;simpa using this
 refine Calls.call_function_entry kind_sorted plain_sorted entry_sorted (args_sorted1 _) ?_
 unfold Builtin.«sorted»
 refine ai (m:=checkCount "sorted" 1 1 _) (az ?_)
 refine ai (qq5 (by simpa using I.ok.hd hc) lo dd ⋯ λh' tk qs hk' hlq hq hz=>?_)
 refine ai (dq ?_ ⋯)
 have hoL:(h'.push (seqObj "list" qs.toArray 0)).get? h'.objs.size=some (seqObj "list" qs.toArray 0):=aq _ rfl
 have tS:StrsR qs ss:=by
  have key:∀(qs:List Ag) (ss:List Str),qs.length=ss.length→(∀(i:Nat) v,qs[i]?=some v→∃x t,ss[i]?=some x∧v=Value.str x t)→StrsR qs ss:=by
   intro qs
   induction qs with
   |nil =>
    intro ss e _
    cases ss with
    |nil=>exact .nil
    |cons _ _=>simp at e
   |cons v qs ih =>
    intro ss e hh
    cases ss with
    |nil=>simp at e
    |cons x ss =>
     obtain ⟨x',t,e1,e2⟩:=hh 0 v rfl
     cases e1
     exact .cons ⟨t,e2⟩ (ih ss (by simpa using e) λi v ev=>hh (i+1) v ev)
  refine key qs ss ⋯ λi v ev=>?_
  obtain ⟨k,x,e1,e2⟩:=hq i v ev
  have hi:=(aL.mp e1).1
  have ek:kvs[i]?=some kvs[i]:=al ⋯
  obtain ⟨qv,e3,_⟩:=qq2 rel ek
  rw [e1] at e3
  have e4:=bF (λl=>l[i]?) hk
  simp only [aI,ek,bG] at e4
  have hs:ss[i]?=some ss[i]:=al ⋯
  rw [hs,bG] at e4
  have e5:=ap e4
  have e6:k=kvs[i].1:=bF Prod.fst (ap e3)
  rw [e6,e5] at e2
  obtain ⟨t,rfl⟩:=(show ∃t,v=Value.str ss[i] t from qvp e2)
  exact ⟨ss[i],t,hs,rfl⟩
 refine ai (cH (wpAny_call_entry slot_list_sort ⟨_,hoL,rfl⟩ entry_list_sort ?_ (args_list_sort _)))
 refine Ws (s:={ s with heap:=h'.push (seqObj "list" qs.toArray 0),toks:=tk }) hoL ⋯ tS λil pm up=>⟨_,rfl,az ⟨_,rfl,?_⟩⟩
 obtain ⟨e,he⟩:=ym hoL (il.map λi=>qs.getD i Value.none).toArray
 have nl:H h'.objs.size=none:=I.hok.fresh hz
 have hin:∀i∈il,i<ss.length:=λi hi=>by have:=bj.mp (pm.mem_iff.mp hi);lia
 have vals:∀(il:List Nat),(∀i∈il,i<ss.length)→Vals ((il.map λi=>ss.getD i Str.empty).map V.str) (il.map λi=>qs.getD i Value.none):=by
  intro il
  induction il with
  |nil=>intro _;exact .nil
  |cons i il ih =>
   intro hh
   obtain ⟨x,t,e1,e2⟩:=tS.at (hh i (.head _))
   refine .cons ?_ (ih λj hj=>hh j (.tail _ hj))
   show RelV (V.str (ss.getD i Str.empty)) (qs.getD i Value.none)
   rw [e2,aJ,e1]
   exact ⟨t,rfl⟩
 have pms:(il.map λi=>ss.getD i Str.empty).Perm ss:=by
  have h1:=pm.map λi=>ss.getD i Str.empty
  have h2:((List.range qs.length).map λi=>ss.getD i Str.empty)=ss:=by
   refine cx λi=>?_
   rw [aI]
   by_cases c:i<ss.length
   ·rw [cP ⋯,al c]
    show some (ss.getD i Str.empty)=_
    rw [aJ,al c]
    rfl
   ·rw [aR (by rw [bv];lia),aR ⋯]
    rfl
  rw [h2] at h1
  exact h1
 refine ⟨.ref _,_,I.laid (t':=tk) (λb u hb=>j3 (ac _ (hk' b u hb)) (au (av (af hb) hz)) _) hz (show ObjOk X.prog X.w _ _ _ (.lst ((il.map λi=>ss.getD i Str.empty).map V.str)) from ⟨?_,_,e,vals il hin,he⟩),rfl,q _ _ nl pms (cz.mpr up)⟩
 rw [aa,pms.length_eq]
 lia
end
end L2
namespace L2
open PySem PySem.Spec PySem.Calls PyProof.Rows PySem.W
section
variable {prog:Ac}{w:Ah}{A:Ae}{E:Ag→Ab→Prop}{s:Ab}{K:Type}[DecidableEq K]{knd:KeyKind prog w K}
end
section
variable {X:Cx}
def tDispT (tk tv:TE):TE:=λσ H Q=>∀p,H p=none→tk σ (upd H p (.dT [])) λx H1=>tv σ H1 λv H2=>∃b ks,x=.ref b∧H2 b=some (.tup (ks.map kV))∧H2 p=some (.dT [])∧Q (.ref p) (upd H2 p (.dT [(ks,v)]))
theorem qjr {k v:Expr}{pos:Pos}{tk tv:TE}(hu:X.A.units<cLine)(hk:PE X k tk)(hv:PE X v tv):PE X (.Dict [some k] [v] pos) (tDispT tk tv):=by
 intro pins s σ H Q I q
 have hn:=I.hok.fresh (ae s.heap.objs.size)
 have I1:=I.laid (a:=s.heap.objs.size) (o:=.dT []) (h':=s.heap.push { cls:=.type "dict",data:=.dict #[] }) (t':=s.toks) (λ_ _ q=>ac _ q) (ae _) (qy0 s.heap I.big)
 refine wpAny_Dict_any rfl rfl (λz=>by cases z) (show 1≤15 by decide) ?_
 refine pairTrees_cons_walk (thn (hk pins _ σ _ _ I1 (q _ hn)) λu s1 ⟨x,H1,I2,rx,q1⟩=>thn (hv pins s1 σ H1 _ I2 q1) λw2 s2 ⟨y,H2,I3,ry,b,ks,ex,eb,ep,q2⟩=>pairTrees_nil_walk ?_)
 subst ex
 cases (show u=Value.ref b from rx)
 obtain ⟨z,hd,xs,rel,dd⟩:=dt_of I3.hok ep
 cases rel
 unfold storeAll
 rw [List.forIn_cons]
 refine ai (ai (wpAny_dictSet_heap (knd:=tupleKind (xx X.prog X.w)) (hsz:=aC _) hu (y8 I3.hok eb) dd λh' dd' hs=>az ?_))
 refine az ?_
 obtain ⟨o',es,ep',h1,h2,h3,h4,_,h6⟩:=dd'
 refine ⟨.ref _,_,yu I3 (by rw [ep];exact True.intro) hs ⟨o',h1⟩ (show ObjOk X.prog X.w (upd H2 s.heap.objs.size (.dT [(ks,y)])) h' s.heap.objs.size (.dT [(ks,y)]) from ⟨by show 1≤sizeLine;decide,hd,[(ks,b,w2)],.cons ⟨rfl,?_,ry⟩ .nil,o',es,ep',h1,h2,h3,h4,h6⟩),rfl,q2⟩
 rw [q9 (ne_of eb ep (λz=>nomatch z))]
 exact eb
end
end L2
namespace L2
open PySem PySem.Spec PySem.Calls PyProof.Rows
section
variable {Y:Cx}{kx vx:Expr}{tk te:TE}{c:Code}{p:Aj}{σ:St}{H:Hp}{pins:List (Aj×Obj)}{s:Ab}
def dctS (kx vx:Expr)(D:Aj)(env:Env)(c:Code):Sem PySem.Fin:=(eval kx env >>= λkv=>holding [kv] (eval vx env) >>= λvv=>standAt { kx.pos with endLine:=vx.pos.endLine,endCol:=vx.pos.endCol } >>= λ_=>holding [kv,vv] (dictSet D kv vv)) >>= λ_=>again c
theorem qjp (kx vx target iter:Expr)(scope:Scope)(pos:Pos)(it:Ag)(D:Aj)(env:Env) :
  compTurn (.DictComp kx vx [⟨target,iter,[],0⟩] scope pos) 0 it (.ref D) env=(standAt iter.pos >>= λ_=>pyNext it >>= λr=>match r with|none=>pure (.done .next)|some v=>letOwnedTupleGo target it v >>= λ_=>assign target env v >>= λ_=>dctS kx vx D env (.compLoop (.DictComp kx vx [⟨target,iter,[],0⟩] scope pos) 0 it (.ref D) env)):=by rfl
theorem qjw {ys:List (Key×V)}{N:List (Key×V)→Hp→Prop}(hk:PE Y kx tk)(hv:PE Y vx te)(J:Inv Y pins σ H s)(hz:ys.length<sizeLine)
  (h:tk σ H λy H4=>te σ H4 λz H5=>∃k,y=kV k∧H5 p=some (.dK ys)∧N (zb ys k z) (upd H5 p (.dK (zb ys k z)))) :
  wpAny (model Y.prog Y.w) Y.A (dctS kx vx p Y.env c) (λr s5=>r=Fin.again c∧∃H5,Inv Y pins σ H5 s5∧∃zs,N zs H5) Y.xe s:=by
 refine ai (ai (aX (hk _ s _ H _ J h) (λkv s6 hr6=>?_) λ_ _ z=>z))
 obtain ⟨y,H4,J6,ry,h4⟩:=hr6
 refine ai (cH (aX (hv _ s6 _ H4 _ J6 h4) (λvv s7 hr7=>?_) λ_ _ z=>z))
 obtain ⟨z,H5,J7,rz,k,rfl,e5,n5⟩:=hr7
 refine ai (dm (cH ?_))
 obtain ⟨zz,hd,vs,rel,dd⟩:=Jy J7.hok e5
 have hl:(zb ys k z).length≤sizeLine:=by have:=vj ys k z;lia
 refine wpAny_dictSet_pairs (hsz:=by rw [←rel.length];exact zz) (um ry) dd λh' dd' hs=>az ⟨rfl,_,?_,_,n5⟩
 have he:∃q,h'.get? p=some q:=let ⟨q,_,_,hq,_⟩:=dd';⟨q,hq⟩
 exact yu J7 (by rw [e5];exact True.intro) hs he (Zt hl hd (rel.put k rz) dd')
end
section
variable {X:Cx}{pins:List (Aj×Obj)}{σ:St}{H:Hp}{s2:Ab}{scope:Scope}{cl:List (Str×Aj)}{x:Str}{M:List Nat}{fp:List Aj}{C:Aj}{h1:Heap}{tk:Nat}
theorem Inv.compD (I:Inv X pins σ H s2)(hc:CapAll X.env cl)(hh:HasAll cl scope.names)(hm:CapIx X scope cl M)(hk:scope.kind=.function)(hC:s2.heap.objs.size<C)
  (keep:∀b o,s2.heap.get? b=some o→h1.get? b=some o) (hn:h1.Ns C λ_=>none) (hD:h1.get? s2.heap.objs.size=some { cls:=.type "dict",data:=.dict #[] })
  (hfp:∀b∈fp,jd X pins H b) (hob:∀b∈fp,∃o,s2.heap.get? b=some o) :
  Inv (z9 X scope cl x M C s2 H fp (X.pn++pins)) [] (zn M σ none) (upd H s2.heap.objs.size (.dK [])) { s2 with heap:=h1,toks:=tk } :=
 I.compG (xs:=[x]) hc hh hm hk hC keep hn ⟨aC _,aS.mpr (aN (au I.big)),[],.nil,by
  obtain ⟨o,es,ep,ho,r⟩:=Heap.DictOf.new (knd:=xx X.prog X.w) s2.heap
  have:o={ cls:=.type "dict",data:=.dict #[] }:=ap (ho.symm.trans (aq _ rfl))
  exact ⟨o,es,ep,by rw [this];exact hD,r⟩⟩ hfp hob
end
def qzg (J:It)(M:List Nat)(tk te:TE)(σ:St)(H1:Hp)(Q:VK):Prop:=∀p,H1 p=none→∃W:Nat→Nat→List (Key×V)→Hp→Prop,(∃m,W 0 m [] (upd H1 p (.dK []))) ∧
 ∀i m ys H2,W i m ys H2→H2 p=some (.dK ys)∧ys.length<sizeLine∧((J.stop i H2∧Q (.ref p) H2)∨(J.go i H2∧∀v H3,J.yld i H2 v H3 →
  tk (zn M σ (some v)) H3 λy H4=>te (zn M σ (some v)) H4 λz H5=>∃k,y=kV k∧H5 p=some (.dK ys)∧∃m',m'<m∧W (i+1) m' (zb ys k z) (upd H5 p (.dK (zb ys k z)))))
def tDComp (M:List Nat)(wi:TI)(tk te:TE):TE:=λσ H Q=>wi σ H λJ H1=>qzg J M tk te σ H1 Q
section
variable {X:Cx}{kx vx iter:Expr}{x:Str}{px pos:Pos}{scope:Scope}{cl:List (Str×Aj)}{M:List Nat}{wi:TI}{tk te:TE}{pins:List (Aj×Obj)}{σ:St}
theorem qzn {tg:Expr}(hclos:closureFor scope X.env=pure cl)(hhas:HasAll cl scope.names)(hk:scope.kind=.function)
  (hnames:∀y∈scope.names,y.2=.local→scope.names.lookup y.1=some .local) (hi:PI X tg iter wi) (hs:∀z,foldedSetIterable iter X.env z=pure z)
  {use:Option (Ag→Sem Unit)} {QQ:Ag→Ab→Prop} {s:Ab} {H:Hp} {ps:Pos} {R:It→Hp→Prop} (I:Inv X pins σ H s) (h:wi σ H R)
  (go:∀(it:Aj) (fp:List Aj) (tn:Nat→Heap→Prop) (J:It) (H1:Hp) (s2:Ab) (C:Aj) (h3:Heap) (tn2:Nat),Inv X pins σ H1 s2→Turn X.prog X.w X.K tg J fp it tn→tn 0 h3→(∀b∈fp,jd X pins H1 b)→(∀b∈fp,b<s2.heap.objs.size)→(∀b∈fp,∃o,s2.heap.get? b=some o)→R J H1→s2.heap.objs.size<C →
   (∀b o,s2.heap.get? b=some o→h3.get? b=some o)→(h3.Ns C λ_=>none)→h3.get? s2.heap.objs.size=some { cls:=.type "dict",data:=.dict #[] } →
   codeAny (model X.prog X.w) X.A (.compLoop (.DictComp kx vx [⟨tg,iter,[],0⟩] scope pos) 0 (.ref it) (.ref s2.heap.objs.size) (compEnvC scope cl C X.env)) (compPost (model X.prog X.w) X.A X.xe use QQ (.ref s2.heap.objs.size) C) { s2 with heap:=h3,toks:=tn2 }) :
  wpAny (model X.prog X.w) X.A (comprehension (.DictComp kx vx [⟨tg,iter,[],0⟩] scope pos) scope X.env ps newDict false (eval iter X.env) use) QQ X.xe s:=by
 refine wpAny_comprehension_free (use:=use) rfl hs hclos hk hnames ?_
 refine thn (hi pins s σ H _ I h) λv s1 h1=>thn h1 λitv s2 h2=>?_
 obtain ⟨it,fp,tn,J,H1,rfl,I2,T,t0,hfp,hR⟩:=h2
 refine dh ?_
 refine wpAny_newFunctionEnv hhas.nocell (by intro y hy;cases hy) (λh3 hns hsb=>?_) hk
 dsimp only at hns hsb ⊢
 generalize hH2:s2.heap.push { cls:=.type "dict",dict:=none,data:=.dict #[] }=G2 at hns hsb ⊢
 have hC:G2.objs.size=s2.heap.objs.size+1:=by rw [←hH2,cX]
 have hlt:s2.heap.objs.size<G2.objs.size:=by lia
 have keep:∀b o,s2.heap.get? b=some o→h3.get? b=some o:=λb o e=>by
  rw [hsb.2 b (au (bB (af e) hlt))]
  exact ac _ (hH2▸ac _ e)
 have hD:h3.get? s2.heap.objs.size=some { cls:=.type "dict",data:=.dict #[] }:=by
  rw [hsb.2 _ (au hlt)]
  exact ac _ (hH2▸aq _ rfl)
 have t3:=T.keep 0 _ _ t0 λb _ o e=>keep b o e
 have loop:=λtn2=>go it fp tn J H1 s2 G2.objs.size h3 tn2 I2 T t3 hfp (λb hb=>let ⟨o,e,_⟩:=T.obj 0 _ t0 b hb;af e) (λb hb=>let ⟨o,e,_⟩:=T.obj 0 _ t0 b hb;⟨o,e⟩) hR hlt keep hns hD
 exact codeAny_compStart_dict (loop _) (T.self _ 0 _ _ _ t3 (loop _))
end
section
variable {X:Cx}{kx vx iter:Expr}{x:Str}{px pos:Pos}{scope:Scope}{cl:List (Str×Aj)}{M:List Nat}{wi:TI}{tk te:TE}
theorem qkv (hc:X.calm=true)(hclos:closureFor scope X.env=pure cl)(hcap:CapAll X.env cl)(hhas:HasAll cl scope.names)(hix:CapIx X scope cl M)(hk:scope.kind=.function)
  (hnames:∀y∈scope.names,y.2=.local→scope.names.lookup y.1=some .local) (hx:scope.names.lookup x=some .local) (hnd:(qxr X x M).Nodup) (hi:PI X (.Name x px) iter wi)
  (hkx:∀C s2 H2 fp pn,PE (z9 X scope cl x M C s2 H2 fp pn) kx tk) (he:∀C s2 H2 fp pn,PE (z9 X scope cl x M C s2 H2 fp pn) vx te) (hs:∀z,foldedSetIterable iter X.env z=pure z)
  {use:Option (Ag→Sem Unit)} {QQ:Ag→Ab→Prop} {pins:List (Aj×Obj)} {s:Ab} {σ:St} {H:Hp} {Q:VK} {ps:Pos} (I:Inv X pins σ H s) (h:wi σ H λJ H1=>qzg J M tk te σ H1 Q)
  (fin:∀(C:Aj) (s2 s4:Ab) (H1 H2:Hp) (fp:List Aj),Inv X pins σ H1 s2→s2.heap.objs.size<C→(∀b∈fp,jd X pins H1 b)→Inv (z9 X scope cl x M C s2 H1 fp (X.pn++pins)) [] (zn M σ none) H2 s4→Q (.ref s2.heap.objs.size) H2 →
   compPost (model X.prog X.w) X.A X.xe use QQ (.ref s2.heap.objs.size) C (.ok .next) s4) :
  wpAny (model X.prog X.w) X.A (comprehension (.DictComp kx vx [⟨.Name x px,iter,[],0⟩] scope pos) scope X.env ps newDict false (eval iter X.env) use) QQ X.xe s:=by
 refine qzn hclos hhas hk hnames hi hs I h λit fp tn J H1 s2 C h3 tn2 I2 T t3 hfp hbl hob hR hlt keep hns hD=>?_
 obtain ⟨W,⟨m0,w0⟩,hW⟩:=hR s2.heap.objs.size (I2.hok.fresh (ae _))
 have hxl:(relabel scope X.env).names.lookup x=some .local:=lookup_relabel_local hx
 refine Y0 (Y:=z9 X scope cl x M C s2 H1 fp (X.pn++pins)) (V:=λi n H2=>∃ys,W i n ys H2) (Qd:=Q (.ref s2.heap.objs.size)) (REST:=dctS kx vx s2.heap.objs.size (compEnvC scope cl C X.env) _) T hc (λ_ _ z=>z) (qjp ..) rfl rfl (wt (i:=0) hnd rfl (.inl hxl) (.inr hxl)) (qvj hcap I2 hlt hfp hbl) (λi n H2 ⟨ys,w⟩=>?_) (λH2 s4 J4 q=>fin C s2 s4 H1 H2 fp I2 hlt hfp J4 q) (I2.compD hcap hhas hix hk hlt keep hns hD hfp hob) ⟨[],w0⟩ t3 λb hb=>by rw [q9 (au (hbl b hb))];exact (hfp b hb).1
 obtain ⟨hp,hz,hcase⟩:=hW i n ys H2 w
 refine hcase.imp id λ⟨hgo,hy⟩=>⟨hgo,λv H3 yl=>⟨λσ4 H4=>σ4=zn M σ (some v)∧H3=H4,⟨rfl,rfl⟩,λ_ _ e=>?_⟩⟩
 obtain ⟨rfl,rfl⟩:=e
 refine ⟨Zc M σ v,λpins' s' J=>?_⟩
 refine aX (qjw (N:=λzs H5=>∃m',m'<n∧W (i+1) m' zs H5) (hkx _ _ _ _ _) (he _ _ _ _ _) J hz (hy v H3 yl)) (λr s5 ⟨e,H5,J5,zs,m',hm,w'⟩=>⟨e,H5,J5,m',hm,zs,w'⟩) λ_ _ z=>z
theorem qxq {i:Nat}{y:Str}{py spos:Pos}(hN:X.N.Nodup)(hyi:X.N[i]?=some y)(hyl:Loc X.env.scope y)(hc:X.calm=true)(hclos:closureFor scope X.env=pure cl)(hcap:CapAll X.env cl)(hhas:HasAll cl scope.names)(hix:CapIx X scope cl M)(hk:scope.kind=.function)
  (hnames:∀y∈scope.names,y.2=.local→scope.names.lookup y.1=some .local) (hx:scope.names.lookup x=some .local) (hnd:(qxr X x M).Nodup) (hi:PI X (.Name x px) iter wi)
  (hkx:∀C s2 H2 fp pn,PE (z9 X scope cl x M C s2 H2 fp pn) kx tk) (he:∀C s2 H2 fp pn,PE (z9 X scope cl x M C s2 H2 fp pn) vx te) (hs:autoParam (∀z,foldedSetIterable iter X.env z=pure z) aU3._auto_1)
  (hsw:autoParam (swapsWith (.DictComp kx vx [⟨.Name x px,iter,[],0⟩] scope pos) (some (.Name y py)) spos.line X.env=pure true) aU4._auto_1) (hyf:autoParam (X.fn y=true∨X.env.scope.names.lookup y=some .local) aU0._auto_1) :
  PS X (.Assign [.Name y py] (.DictComp kx vx [⟨.Name x px,iter,[],0⟩] scope pos) spos) (tAsg (tDComp M wi tk te) (qjs i)):=by
 intro pins s σ H D I h
 rw [exec_Assign_Name_used _ _ _ _ hsw]
 refine ai (dm (ai ?_))
 refine ai (aX (qkv hc hclos hcap hhas hix hk hnames hx hnd hi hkx he hs (use:=some (assign (.Name y py) X.env)) (QQ:=λ_ s'=>SP X pins D .next s') I h λC s2 s4 H1 H2 fp I2 hlt hfp J4 hq=>?_) (λ_ s' hq=>az (az hq)) λ_ _ e=>e)
 have I4:Inv X pins σ H2 s4:=I2.uncomp (h':=s4.heap) (bL hlt) hfp J4 (Heap.SameBut.refl _ _)
 have hCn:H2 C=none:=J4.free
 obtain ⟨mC,hnC,_⟩:=J4.loc
 obtain ⟨oC,esC,epC,hoC,hdC⟩:=id hnC
 have hCl:C≠X.env.locals:=λz=>aZ _ (bB hlt (z▸I2.lt))
 have hCs:X.s₀.heap.objs.size≤C:=bd I2.sz (bL hlt)
 have hCc:∀y c,X.env.cells.lookup y=some c→c≠C:=λy c e z=>by
  obtain ⟨v,o,e1,_⟩:=I2.cell y c e
  exact aZ _ (bB hlt (z▸af e1))
 have hCp:∀p∈X.pn++pins,p.1≠C:=λp hp z=>aZ _ (bB hlt (z▸af (I2.pin p hp).1))
 have hCf:C∉frs X.stack:=λz=>by
  rcases ak.mp (I2.stkSub C z) with q|q
  ·exact hCl q
  ·obtain ⟨_,o,e1,_⟩:=I2.funs.mem (b:=C) q
   exact aZ _ (bB hlt (af e1))
 have hCx:C∉X.fs:=λz=>by
  obtain ⟨_,o,e1,_⟩:=I2.funs.mem (b:=C) z
  exact aZ _ (bB hlt (af e1))
 have I4p:Inv X (pins++[(C,oC)]) σ H2 s4:=⟨I4.ok,I4.os,I4.bare,I4.base,I4.loc,I4.cell,I4.free,I4.freeC,λp hp=>by
  rcases bq.mp hp with q|q
  ·exact I4.pin p (bM _ q)
  ·rcases bq.mp q with q|q
   ·exact I4.pin p (aF _ q)
   ·rw [ao.mp q]
    exact ⟨hoC,hCn,hCl,hCx,λv z=>by rw [hdC.1] at z;cases z⟩,I4.hok,I4.len⟩
 show wpAny _ _ (assign (.Name y py) X.env (.ref s2.heap.objs.size)) _ _ _
 refine wpAny_assign_Name (j9 I4p hN hyi hyl (show RelV (.ref s2.heap.objs.size) (.ref s2.heap.objs.size) from rfl) (λs5 I5=>?_) hyf)
 have hC5:=(I5.pin (C,oC) (aF _ (aF _ (.head _)))).1
 exact ⟨mC,⟨oC,esC,epC,hC5,hdC⟩,λh' hs'=>⟨_,H2,I5.unpinned.but hCn hCs hCl hCc hCp hs',hq⟩⟩
end
end L2
namespace L2
open PySem
theorem qjh {M:List Nat}{x:Str}{te:TE}{σ:St}{H:Hp}{Q:VK}(f:Nat→V)(hn:x.cps.size≤1000000)(he:∀(i:Nat) (H':Hp) (R:VK),i<x.cps.size→Same H H'→R (f i) H'→te (zn M σ (some (.str ⟨#[x.cps.getD i 0]⟩))) H' R)
  (k:∀p,H p=none→Q (.ref p) (upd H p (.lst ((List.range x.cps.size).map f)))):W0 (ItS x) M te σ H Q:=by
 intro p np
 refine ⟨λi m ys H2=>i≤x.cps.size∧m=x.cps.size-i∧ys=(List.range i).map f∧H2=upd H p (.lst ys),⟨x.cps.size,aC _,rfl,rfl,rfl⟩,?_⟩
 rintro i m ys H2 ⟨hi,rfl,rfl,rfl⟩
 refine ⟨qj,?_,?_⟩
 ·rw [aa,bv]
  have:(1000000:Nat)<sizeLine:=by decide
  lia
 ·by_cases hlt:i<x.cps.size
  ·refine .inr ⟨hlt,?_⟩
   rintro v H3 ⟨rfl,rfl⟩
   refine he i (upd H p (.lst ((List.range i).map f))) _ hlt (Same.upd np) ⟨qj,x.cps.size-(i+1),⋯,⋯,rfl,?_,?_⟩
   ·rw [dO,aP]
    rfl
   ·rw [yk]
  ·refine .inl ⟨by show x.cps.size≤i;lia,?_⟩
   have:i=x.cps.size:=by lia
   subst this
   exact k p np
theorem qyp {M:List Nat}{d:Aj}{o:Obj}{cs:List (Key×V)}{tk te:TE}{σ:St}{H:Hp}{Q:VK}(f:Key→V)(hz:cs.length≤1000000)(nd:(cs.map (·.1)).Nodup)(hd:H d=some (.frz o (.dK cs)))
  (he:∀(k:Key) (H':Hp) (R:V→V→Hp→Prop),Same H H'→R (kV k) (f k) H'→tk (zn M σ (some (kV k))) H' λy H4=>te (zn M σ (some (kV k))) H4 λz H5=>R y z H5)
  (k:∀p,H p=none→Q (.ref p) (upd H p (.dK (cs.map λc=>(c.1,f c.1))))):qzg (ItD d o cs) M tk te σ H Q:=by
 intro p np
 have big:(1000000:Nat)<sizeLine:=by decide
 refine ⟨λi m ys H2=>i≤cs.length∧m=cs.length-i∧ys=(cs.take i).map (λc=>(c.1,f c.1))∧H2=upd H p (.dK ys),⟨cs.length,aC _,rfl,rfl,rfl⟩,?_⟩
 rintro i m ys H2 ⟨hi,rfl,rfl,rfl⟩
 have dp:d≠p:=qm hd np
 refine ⟨qj,by rw [aa,br];lia,?_⟩
 by_cases hlt:i<cs.length
 ·refine .inr ⟨⟨by rw [q9 dp];exact hd,hlt⟩,?_⟩
  rintro v H3 ⟨rfl,c,ec,rfl⟩
  refine he c.1 _ _ (Same.upd np) ⟨c.1,rfl,qj,cs.length-(i+1),⋯,⋯,rfl,?_,?_⟩
  ·have hn:wj ((cs.take i).map λc=>(c.1,f c.1)) c.1=none:=by
    unfold wj
    rw [List.find?_eq_none.mpr]
    ·rfl
    ·intro x hx
     obtain ⟨y,hy,rfl⟩:=aA.mp hx
     have hy2:y.1∈(cs.map (·.1)).take i:=by rw [←List.map_take];exact aA.mpr ⟨y,hy,rfl⟩
     intro z
     have z:y.1=c.1:=by simpa using z
     obtain ⟨j,hj,ej⟩:=cO hy2
     rw [br,aa] at hj
     rw [List.getElem_take] at ej
     have e2:(cs.map (·.1))[i]'(by rw [aa];exact hlt)=c.1:=by
      rw [dE]
      rw [al hlt] at ec
      rw [ap ec]
     have:=(du nd).mp (ej.trans (z.trans e2.symm))
     lia
   rw [qwh _ hn,cB,aP,ec]
   rfl
  ·rw [yk]
 ·refine .inl ⟨⟨by rw [q9 dp];exact hd,⋯⟩,?_⟩
  have:i=cs.length:=by lia
  subst this
  rw [bA]
  exact k p np
theorem for_di {d:Aj}{o:Obj}{cs:List (Key×V)}{g:TG}{tb:TS}{D:Ends}{σ:St}{H:Hp}(Pv:Nat→St→Hp→Prop)(h0:Pv 0 σ H)(hl:∀i σ H,i≤cs.length→Pv i σ H→H d=some (.frz o (.dK cs)))
  (hs:∀i c q σ H,cs[i]?=some c→H q=none→Pv i σ H→g (.ref q) σ (upd H q (.tup [kV c.1,c.2])) λσ2 H2=>tb { D with nx:=Pv (i+1),ct:=Pv (i+1),bk:=D.nx } σ2 H2) (hd:∀σ H,Pv cs.length σ H→D.nx σ H) :
  ∃W:Nat→Nat→St→Hp→Prop,(∃m,W 0 m σ H)∧∀i m σ H,W i m σ H →
   ((ItDI d o cs).stop i H∧D.nx σ H)∨((ItDI d o cs).go i H∧∃N:St→Hp→Prop,(∀σ' H',N σ' H'→∃m',m'<m∧W (i+1) m' σ' H')∧∀x H',(ItDI d o cs).yld i H x H'→g x σ H' λσ2 H2=>tb { D with nx:=N,ct:=N,bk:=D.nx } σ2 H2):=by
 refine ⟨λi m σ H=>m=cs.length-i∧i≤cs.length∧Pv i σ H,⟨cs.length,by simp,aC _,h0⟩,?_⟩
 rintro i m σ H ⟨rfl,hi,p⟩
 have q:=hl i σ H hi p
 by_cases hlt:i<cs.length
 ·refine .inr ⟨⟨q,hlt⟩,Pv (i+1),λσ' H' p'=>⟨cs.length-(i+1),⋯,rfl,hlt,p'⟩,?_⟩
  rintro x H' ⟨z,c,nz,rfl,ec,rfl⟩
  exact hs i c z σ H ec nz p
 ·have e:i=cs.length:=by lia
  subst e
  exact .inl ⟨⟨q,ae _⟩,hd σ H p⟩
def ex1 (R:List (Key×V))(c:Key×V):List (Key×V):=if c.2=.non then j7 R c.1 else zb R c.1 c.2
def exK (R cs:List (Key×V)):List (Key×V):=cs.foldl ex1 R
def bfK (R cs:List (Key×V)):List (Key×V):=cs.map λc=>(c.1,(wj R c.1).getD .non)
def ExOk (R cs:List (Key×V)):Prop:=∀(i:Nat) c,cs[i]?=some c→c.2=.non→(wj (exK R (cs.take i)) c.1).isSome=true
theorem wq4 (R:List (Key×V)){cs:List (Key×V)}{i:Nat}{c:Key×V}(h:cs[i]?=some c):exK R (cs.take (i+1))=ex1 (exK R (cs.take i)) c:=by
 unfold exK
 rw [cB,h,List.foldl_append]
 rfl
theorem wqx (R:List (Key×V))(c:Key×V):(ex1 R c).length≤R.length+1:=by
 unfold ex1
 split
 ·have:=qw2 R c.1
  lia
 ·exact vj R c.1 c.2
theorem wqg (R cs:List (Key×V)):(exK R cs).length≤R.length+cs.length:=by
 induction cs generalizing R with
 |nil=>exact ae _
 |cons c cs ih =>
  have h1:=ih (ex1 R c)
  have h2:=wqx R c
  show (exK (ex1 R c) cs).length≤_
  rw [aw]
  lia
def Kb (ch:List Aj)(H H':Hp):Prop:=∀b o,b∉ch→H b=some o→H' b=some o
section
variable {X:Cx}{C:Aj}{x:Str}{k:Nat}{sp:Sp}{E:St→XK}{p pos:Pos}
theorem qv8 (c:CCal X.prog X.w X.K X.mg X.base x C k sp)(hr:Room (k+1) X.A)(hg:Gl X x)(hx:kh X E)(hdb:autoParam ((x==("__debug__" : Str))=false) aU1._auto_1) :
  PE X (.Call (.Name x p) [] [] pos) (qx2 C sp E Q8):=by
 obtain ⟨f,fd,ps,hm,M,F,b⟩:=c.ex
 intro pins s σ H Q I h
 refine bT (ug I hg hm ?_ hdb)
 exact W.callWith_K0 I.kIn M.kp (Y5 (us:=[]) M F hr b hx I .nil h)
end
theorem Kb.rd {ch:List Aj}{H H':Hp}(k:Kb ch H H'){d:Aj}{kvs:List (Key×V)}(n:d∉ch)(h:Rd H d (.dK kvs)):Rd H' d (.dK kvs):=by
 rcases h with h|⟨o,h⟩
 ·exact .inl (k _ _ n h)
 ·exact .inr ⟨o,k _ _ n h⟩
theorem Kb.of {ch:List Aj}{H H':Hp}(s:Same H H'):Kb ch H H':=λc o _ e=>s c o e
end L2
namespace L2
open PySem PySem.Spec PyProof.Rows
theorem ht_gen {o:Expr}{m:Str}{apos pos:Pos}{e:Expr}{es:List Expr}{env:Env}(hb:attributeBase o m env (eval o env)=eval o env)(hf:methodCallForm ((e::es).length+0) (backTo pos (starEach (e::es) env)) (backToKw pos (keywordEach [] env))=true)(hp:methodCallPos true o env apos pos=pure pos) :
  eval (.Call (.Attribute o m apos) (e::es) [] pos) env=(do
   let ov ←eval o env
   standAt apos.atName
   let (f,first) ←holding [ov] (getMethod ov m (do return (←importBound o env).getD true))
   callWith pos f first (backTo pos (starEach (e::es) env)) (backToKw pos (keywordEach [] env))):=by
 rw [arm_eval_Call,hb]
 unfold methodCall
 rw [show (e::es).length+([]:List Keyword).length=(e::es).length+0 from rfl,hf,hp]
 rfl
section
variable {X:Cx}{C:Aj}{x m:Str}{k:Nat}{sp:Sp}{E:St→XK}{p pos apos:Pos}{e o:Expr}{es:List Expr}{ta te:TE}{t:TA}
theorem w8 {v j p'}(ha:PE X (.Constant v j p') te)(hr:PA X es t):PA X (.Constant v j p'::es) (zh te t):=xq ha hr rfl
theorem wx {v p'}(ha:PE X (.Name v p') te)(hr:PA X es t):PA X (.Name v p'::es) (zh te t):=xq ha hr rfl
theorem pa_cL {v p'}(ha:PE X (.List v p') te)(hr:PA X es t):PA X (.List v p'::es) (zh te t):=xq ha hr rfl
theorem pa_cT {v j p'}(ha:PE X (.Tuple v j p') te)(hr:PA X es t):PA X (.Tuple v j p'::es) (zh te t):=xq ha hr rfl
theorem k6 {a b c p'}(ha:PE X (.Call a b c p') te)(hr:PA X es t):PA X (.Call a b c p'::es) (zh te t):=xq ha hr rfl
theorem xu {a b c p'}(ha:PE X (.BinOp a b c p') te)(hr:PA X es t):PA X (.BinOp a b c p'::es) (zh te t):=xq ha hr rfl
theorem yh {a b p'}(ha:PE X (.Subscript a b p') te)(hr:PA X es t):PA X (.Subscript a b p'::es) (zh te t):=xq ha hr rfl
def qq7:List Expr→Bool
 |[]=>true
 |.Starred _ _::_=>false
 |_::r=>qq7 r
theorem Qh {env:Env}:∀ {es:List Expr},qq7 es=true→starEach es env=es.map λe=>(false,eval e env)
 |[],_=>rfl
 |e::r,h=>by
  cases e
  case Starred=>cases h
  all_goals exact bF _ (Qh (es:=r) h)
theorem Qz {pos:Pos}:∀ {l:List (Bool×Sem Ag)},(∀q∈l,q.1=false)→(backTo pos l).all (!·.1)=true∧(backTo pos l).any (·.1)=false:=by
 intro l h
 have key:∀q∈backTo pos l,q.1=false:=by
  intro q hq
  unfold backTo at hq
  obtain ⟨q',hq',rfl⟩:=aA.mp hq
  exact h q' hq'
 exact ⟨cF.mpr λq hq=>by rw [key q hq];rfl,List.any_eq_false.mpr λq hq=>by rw [key q hq];decide⟩
theorem zc (he:PE X o ta)(cl:Cls X.K C)(c:MCal X.prog X.w X.K X.mg X.base C m k sp)(hr:Room k X.A)(hx:kh X E)(ha:PA X (e::es) t)(hn:autoParam (qq7 (e::es)=true) aU4._auto_1)(hl:autoParam ((e::es).length+0<30) aU1._auto_1)
  (hb:autoParam (∀z,attributeBase o m X.env z=z) aU3._auto_1) (hp:autoParam (methodCallPos true o X.env apos pos=pure pos) aU4._auto_1):PE X (.Call (.Attribute o m apos) (e::es) [] pos) (Zp C m sp E ta t):=by
 have h1:starEach (e::es) X.env=(false,eval e X.env)::starEach es X.env:=by
  cases e
  case Starred=>cases hn
  all_goals rfl
 have h2:∀q∈starEach (e::es) X.env,q.1=false:=λq hq=>by
  rw [Qh hn] at hq
  obtain ⟨z,_,rfl⟩:=aA.mp hq
  rfl
 refine qj1 he cl c hr hx ha h1 (Qz λq hq=>h2 q (by rw [h1];exact ax _ hq)).2 (ht_gen (hb _) ?_ hp)
 unfold methodCallForm
 rw [(Qz (pos:=pos) h2).1]
 exact bn hl
theorem wb (c:Cal X.prog X.w X.K X.mg X.base x k sp)(hr:Room k X.A)(hg:Gl X x)(hx:kh X E)(ha:PA X (e::es) t)(hn:autoParam (qq7 (e::es)=true) aU4._auto_1)(hdb:autoParam ((x==("__debug__" : Str))=false) aU1._auto_1):PE X (.Call (.Name x p) (e::es) [] pos) (W5 sp E t):=by
 have h1:starEach (e::es) X.env=(false,eval e X.env)::starEach es X.env:=by
  cases e
  case Starred=>cases hn
  all_goals rfl
 have h2:∀q∈starEach (e::es) X.env,q.1=false:=λq hq=>by
  rw [Qh hn] at hq
  obtain ⟨z,_,rfl⟩:=aA.mp hq
  rfl
 exact quu c hr hg hx ha hdb h1 (Qz λq hq=>h2 q (by rw [h1];exact ax _ hq)).2
theorem wCA (c:Cal X.prog X.w X.K X.mg X.base x k sp)(ha:PA X (e::es) t)(hr:Room k X.A:=by exact Room.mono (by assumption) ⋯)(hg:autoParam (Gl X x) aU4._auto_1)(hx:kh X E:=by exact qr)(hn:autoParam (qq7 (e::es)=true) aU4._auto_1)(hdb:autoParam ((x==("__debug__" : Str))=false) aU1._auto_1):PE X (.Call (.Name x p) (e::es) [] pos) (W5 sp E t):=wb c hr hg hx ha hn hdb
end
end L2
namespace L2
open PySem PySem.Spec PyProof.Rows
def rSlS:V→Option Int→Option Int→Hp→VK→Prop:=λx lo hi H Q=>∃z,x=.str z∧z.length≤sizeLine∧Q (.str (Txt.slice z lo hi)) H
theorem sl_str {X:Cx}:SlR X rSlS:=by
 intro pins s σ H x v vl vu lo hi sl Q I rx hs pl pu h
 obtain ⟨z,rfl,hz,q⟩:=h
 obtain ⟨t,rfl⟩:=rx
 have fin:∀t' k,EP X pins σ Q (.str (Txt.slice z lo hi) t') { s with toks:=k }:=λt' k=>⟨.str (Txt.slice z lo hi),H,I.tok _,⟨_,rfl⟩,q⟩
 have le:=bd (Txt.slice_le z lo hi) hz
 obtain ⟨o,ho,hc,hd⟩:=hs
 refine ⟨"str",_,F.slot_str_getitem.lookup,typeIs_str _ _ _,?_⟩
 cases pl with
 |none =>
  cases pu with
  |none=>exact bQ (l:=none) (u:=none) (st:=none) ⟨o,ho,hc,hd⟩ rfl (cL ⟨le,fin⟩)
  |int j uj=>exact bQ (l:=none) (u:=some (j,uj)) (st:=none) ⟨o,ho,hc,hd⟩ rfl (cL ⟨le,fin⟩)
 |int i ui =>
  cases pu with
  |none=>exact bQ (l:=some (i,ui)) (u:=none) (st:=none) ⟨o,ho,hc,hd⟩ rfl (cL ⟨le,fin⟩)
  |int j uj=>exact bQ (l:=some (i,ui)) (u:=some (j,uj)) (st:=none) ⟨o,ho,hc,hd⟩ rfl (cL ⟨le,fin⟩)
end L2
namespace L2
open PySem PySem.Spec PyProof.Rows PySem.W
section
variable {X:Cx}{o e:Expr}{apos cpos:Pos}{td ty:TE}
end
section
variable {X:Cx}{tg l:Expr}{tl:TE}
end
theorem for_dk {d:Aj}{o:Obj}{cs:List (Key×V)}{g:TG}{tb:TS}{D:Ends}{σ:St}{H:Hp}(Pv:Nat→St→Hp→Prop)(h0:Pv 0 σ H)(hl:∀i σ H,i≤cs.length→Pv i σ H→H d=some (.frz o (.dK cs)))
  (hs:∀i c σ H,cs[i]?=some c→Pv i σ H→g (kV c.1) σ H λσ2 H2=>tb { D with nx:=Pv (i+1),ct:=Pv (i+1),bk:=D.nx } σ2 H2) (hd:∀σ H,Pv cs.length σ H→D.nx σ H) :
  ∃W:Nat→Nat→St→Hp→Prop,(∃m,W 0 m σ H)∧∀i m σ H,W i m σ H →
   ((ItD d o cs).stop i H∧D.nx σ H)∨((ItD d o cs).go i H∧∃N:St→Hp→Prop,(∀σ' H',N σ' H'→∃m',m'<m∧W (i+1) m' σ' H')∧∀x H',(ItD d o cs).yld i H x H'→g x σ H' λσ2 H2=>tb { D with nx:=N,ct:=N,bk:=D.nx } σ2 H2):=by
 refine ⟨λi m σ H=>m=cs.length-i∧i≤cs.length∧Pv i σ H,⟨cs.length,by simp,aC _,h0⟩,?_⟩
 rintro i m σ H ⟨rfl,hi,p⟩
 have q:=hl i σ H hi p
 by_cases hlt:i<cs.length
 ·refine .inr ⟨⟨q,hlt⟩,Pv (i+1),λσ' H' p'=>⟨cs.length-(i+1),⋯,rfl,hlt,p'⟩,?_⟩
  rintro x H' ⟨rfl,c,ec,rfl⟩
  exact hs i c σ _ ec p
 ·have e:i=cs.length:=by lia
  subst e
  exact .inl ⟨⟨q,ae _⟩,hd σ H p⟩
def thw (ds:List Aj)(H:Hp):Hp:=λb=>if b∈ds then (match H b with|some (.frz _ u)=>some u|x=>x) else H b
theorem J1 {ds:List Aj}{H:Hp}{b:Aj}(h:b∉ds):thw ds H b=H b:=ag h
theorem qz7 {ds:List Aj}{H:Hp}{b:Aj}{o:Obj}{u:HO}(h:b∈ds)(e:H b=some (.frz o u)):thw ds H b=some u:=by
 unfold thw
 rw [aj h,e]
theorem qzz (ds:List Aj)(H:Hp)(b:Aj):thw ds H b=H b∨(b∈ds∧∃o u,H b=some (.frz o u)∧thw ds H b=some u):=by
 by_cases h:b∈ds
 ·by_cases z:∃o u,H b=some (.frz o u)
  ·obtain ⟨o,u,e⟩:=z
   exact .inr ⟨h,o,u,e,qz7 h e⟩
  ·left
   unfold thw
   rw [aj h]
   cases e:H b with
   |none=>rfl
   |some w=>cases w <;> first | rfl | exact absurd ⟨_,_,e⟩ z
 ·exact .inl (J1 h)
theorem uc {ds:List Aj}{H:Hp}{b:Aj}{o:HO}(e:H b=some o)(h:∀p u,o≠.frz p u):thw ds H b=some o:=by
 rcases qzz ds H b with z|⟨_,p,u,z,_⟩
 ·rw [z];exact e
 ·rw [e] at z
  exact absurd (ap z) (h _ _)
theorem thw_ok {P:Ac}{w:Ah}{ds:List Aj}{H:Hp}{h:Heap}(x:HOk P w H h):HOk P w (thw ds H) h:=λa o e=>by
 have st:∀o,ObjOk P w H h a o→ObjOk P w (thw ds H) h a o:=λo y=>y.stay (λ_ _ _ q=>q) (λb q=>uc q λ_ _ z=>by cases z) λb xs q=>uc q λ_ _ z=>by cases z
 rcases qzz ds H a with z|⟨_,p,u,z,z2⟩
 ·rw [z] at e
  exact st o (x a o e)
 ·rw [z2] at e
  have e:=ap e
  rw [←e]
  obtain ⟨_,y⟩:=(show ObjOk P w H h a (.frz p u) from x a _ z)
  exact st u y
theorem FnOk.thaw {P:Ac}{w:Ah}{K:Aa}{mg:Str→Option Ag}{base:Heap}{CX:CXT}{k:Nat}{f:Aj}{fd:Ad}{ps:List Str}{sp:Sp}(F:FnOk P w K mg base CX k f fd ps sp) :
  FnOk P w K mg base CX k f fd ps (λvs H Q E=>sp vs H (λv H'=>∃ds,(∀d∈ds,∀o u,H d≠some (.frz o u))∧Q v (thw ds H')) E):=by
 refine ⟨λvs H Q E q=>F.len vs H _ E q,λA outer s H args us vs Q E hr he hb hv hs=>cw (F.run A outer s H args us vs _ E hr he hb hv hs) λr s' h=>?_⟩
 cases r with
 |error e=>exact h
 |ok fl =>
  cases fl with
  |ret u =>
   obtain ⟨v,H',os,bare,un,hok,rv,ds,nf,q⟩:=h
   refine ⟨v,thw ds H',os,bare,⟨un.keep,un.slot,λb o e n hx=>?_,un.there,λb xs e=>uc (un.tups b xs e) (λ_ _ z=>by cases z),λb o w' e=>?_,λb p e=>?_⟩,thw_ok hok,rv,q⟩
   ·have n':=un.free b o e n hx
    rcases qzz ds H' b with z|⟨_,p,u,z,_⟩
    ·rw [z];exact n'
    ·rw [n'] at z;cases z
   ·have e':=un.frzs b o w' e
    rw [J1 (λz=>nf b z o w' e)]
    exact e'
   ·obtain ⟨more,e'⟩:=un.tbls b p e
    exact ⟨more,uc e' λ_ _ z=>by cases z⟩
  |next=>exact h
  |brk=>exact h
  |cont=>exact h
end L2
namespace L2
open PySem PySem.Spec PyProof.Rows PySem.W
section
variable {X:Cx}
theorem qur:∀(qs:List Ag) (ss:List Str),qs.length=ss.length→(∀(i:Nat) v,qs[i]?=some v→∃x t,ss[i]?=some x∧v=Value.str x t)→StrsR qs ss:=by
 intro qs
 induction qs with
 |nil =>
  intro ss e _
  cases ss with
  |nil=>exact .nil
  |cons _ _=>simp at e
 |cons v qs ih =>
  intro ss e hh
  cases ss with
  |nil=>simp at e
  |cons x ss =>
   obtain ⟨x',t,e1,e2⟩:=hh 0 v rfl
   cases e1
   exact .cons ⟨t,e2⟩ (ih ss (by simpa using e) λi v ev=>hh (i+1) v ev)
theorem Y1:∀ {qs:List Ag} {ss:List Str},StrsR qs ss→Vals (ss.map V.str) qs
 |_,_,.nil=>.nil
 |_,_,.cons h t=>.cons h (Y1 t)
theorem Y4:∀ {ss:List Str} {qs:List Ag},Vals (ss.map V.str) qs→StrsR qs ss
 |[],_,h=>by cases h;exact .nil
 |s::ss,_,h=>by
  cases h with
  |cons h t=>exact .cons h (Y4 t)
theorem jn (hc:X.calm=true):z7 X (.type "list") (λxs H Q=>∃(a:Aj) (kvs:List (Key×V)) (ss:List Str),xs=[V.ref a]∧Rd H a (.dK kvs)∧kvs.map (·.1)=ss.map Sum.inr∧∀p,H p=none→Q (.ref p) (upd H p (.lst (ss.map V.str)))):=by
 intro pins s σ H xs us Q I r h
 obtain ⟨a,kvs,ss,rfl,e,hk,q⟩:=h
 obtain ⟨u,rfl,rx⟩:=jq r
 cases (show u=Value.ref a from rx)
 obtain ⟨z,lo,vs,rel,dd⟩:=yf I.hok e
 obtain ⟨ep,dd⟩:=dd.dictAt
 have hl:vs.length=kvs.length:=(bi rel).symm
 have hls:kvs.length=ss.length:=by have:=bF List.length hk;simpa using this
 refine kdl_call (kdl_dict lo) (I.ok.hd hc) dd (by rw [hl];exact z) λh' tk acc' c' hk' hD hacc=>?_
 have tS:StrsR acc'.toList ss:=qur _ _ (by rw [bw,hacc.1,hl,hls]) λi v ev=>by
  obtain ⟨k,x,e1,e2⟩:=hacc.2 i v (by rw [←ca];exact ev)
  have hi:=(aL.mp e1).1
  have ek:kvs[i]?=some kvs[i]:=al ⋯
  obtain ⟨qv,e3,_⟩:=qq2 rel ek
  rw [e1] at e3
  have e4:=bF (λl=>l[i]?) hk
  simp only [aI,ek,bG] at e4
  have hs:ss[i]?=some ss[i]:=al ⋯
  rw [hs,bG] at e4
  have e5:=ap e4
  have e6:k=kvs[i].1:=bF Prod.fst (ap e3)
  rw [e6,e5] at e2
  obtain ⟨t,rfl⟩:=(show ∃t,v=Value.str ss[i] t from qvp e2)
  exact ⟨ss[i],t,hs,rfl⟩
 exact ⟨.ref _,_,I.laid (t':=tk) hk' (ae _) (show ObjOk X.prog X.w _ h' _ (.lst (ss.map V.str)) from ⟨by rw [aa,←hls];exact z,acc'.toList,c',Y1 tS,by simpa using hD⟩),rfl,q _ (I.hok.fresh (ae _))⟩
theorem jx:z7 X (.builtin "sorted") (λxs H Q=>∃(a:Aj) (ss:List Str),xs=[.ref a]∧SqL X.K H a (ss.map V.str)∧ss.length<64 ∧
  ∀(l:Aj) (ms:List Str),H l=none→ms.Perm ss→ms.Pairwise (λx y=>¬ y.cps.toList<x.cps.toList)→Q (.ref l) (upd H l (.lst (ms.map V.str)))):=by
 intro pins s σ H xs us Q I r h
 obtain ⟨a,ss,rfl,hS,hn,q⟩:=h
 obtain ⟨u,rfl,ru⟩:=jq r
 cases (show u=Value.ref a from ru)
 have sz:(100001:Nat)<sizeLine:=by decide
 obtain ⟨qs,rv,pl,hz'⟩:=I.list hS
 have hil:s.heap.IsList a qs.toArray:=pl.isList
 have tS:=Y4 rv
 have hls:qs.length=ss.length:=by rw [←rv.length,aa]
 refine Calls.call_function_entry kind_sorted plain_sorted entry_sorted (args_sorted1 _) ?_
 unfold Builtin.«sorted»
 refine ai (m:=checkCount "sorted" 1 1 _) (az ?_)
 refine ai (collect_list hil ?_ ⋯)
 refine ai (dq ?_ ⋯)
 have hk':∀b o,s.heap.get? b=some o→((s.heap.push (seqObj "list" #[] 0)).update s.heap.objs.size (Obj.mapSeq (·++qs.toArray))).get? b=some o:=λb o q=>by
  have hlt:b<s.heap.objs.size:=af q
  rw [cQ _ _ _ _ (au hlt),Heap.get?_push_ne _ _ _ (au hlt)]
  exact q
 have hz:s.heap.objs.size≤((s.heap.push (seqObj "list" #[] 0)).update s.heap.objs.size (Obj.mapSeq (·++qs.toArray))).objs.size:=by rw [Heap.size_update,size_push'];lia
 generalize ((s.heap.push (seqObj "list" #[] 0)).update s.heap.objs.size (Obj.mapSeq (·++qs.toArray)))=h' at hk' hz
 obtain ⟨tk,etk⟩:∃tk,tk=s.toks:=⟨_,rfl⟩
 have hoL:(h'.push (seqObj "list" qs.toArray 0)).get? h'.objs.size=some (seqObj "list" qs.toArray 0):=aq _ rfl
 refine ai (cH (wpAny_call_entry slot_list_sort ⟨_,hoL,rfl⟩ entry_list_sort ?_ (args_list_sort _)))
 refine Ws (s:={ s with heap:=h'.push (seqObj "list" qs.toArray 0) }) hoL ⋯ tS λil pm up=>⟨_,rfl,az ⟨_,rfl,?_⟩⟩
 obtain ⟨e,he⟩:=ym hoL (il.map λi=>qs.getD i Value.none).toArray
 have nl:H h'.objs.size=none:=I.hok.fresh hz
 have hin:∀i∈il,i<ss.length:=λi hi=>by have:=bj.mp (pm.mem_iff.mp hi);lia
 have vals:∀(il:List Nat),(∀i∈il,i<ss.length)→Vals ((il.map λi=>ss.getD i Str.empty).map V.str) (il.map λi=>qs.getD i Value.none):=by
  intro il
  induction il with
  |nil=>intro _;exact .nil
  |cons i il ih =>
   intro hh
   obtain ⟨x,t,e1,e2⟩:=tS.at (hh i (.head _))
   refine .cons ?_ (ih λj hj=>hh j (.tail _ hj))
   show RelV (V.str (ss.getD i Str.empty)) (qs.getD i Value.none)
   rw [e2,aJ,e1]
   exact ⟨t,rfl⟩
 have pms:(il.map λi=>ss.getD i Str.empty).Perm ss:=by
  have h1:=pm.map λi=>ss.getD i Str.empty
  have h2:((List.range qs.length).map λi=>ss.getD i Str.empty)=ss:=by
   refine cx λi=>?_
   rw [aI]
   by_cases c:i<ss.length
   ·rw [cP ⋯,al c]
    show some (ss.getD i Str.empty)=_
    rw [aJ,al c]
    rfl
   ·rw [aR (by rw [bv];lia),aR ⋯]
    rfl
  rw [h2] at h1
  exact h1
 refine ⟨.ref _,_,I.laid (t':=s.toks) (λb u hb=>j3 (ac _ (hk' b u hb)) (au (av (af hb) hz)) _) hz (show ObjOk X.prog X.w _ _ _ (.lst ((il.map λi=>ss.getD i Str.empty).map V.str)) from ⟨?_,_,e,vals il hin,he⟩),rfl,q _ _ nl pms (cz.mpr up)⟩
 rw [aa,pms.length_eq]
 lia
end
end L2
namespace L2
open PySem PySem.Spec PyProof.Rows
section
variable {X:Cx}
theorem Q4:∀ {ss:List Str} {qs:List Ag},Vals (ss.map V.str) qs→∃l:List (Str×Tok),qs=strValues l∧l.map (·.1)=ss
 |[],_,h=>by cases h;exact ⟨[],rfl,rfl⟩
 |s::ss,_,h=>by
  cases h with
  |cons h t =>
   obtain ⟨k,rfl⟩:=h
   obtain ⟨l,rfl,rfl⟩:=Q4 t
   exact ⟨(s,k)::l,rfl,rfl⟩
theorem Wf:MtM X "str.join" (λx xs H Q=>∃(z:Str) (a:Aj) (ss:List Str),x=.str z∧xs=[.ref a]∧SqL X.K H a (ss.map V.str)∧JoinOk z ss=true∧Q (.str (Txt.join z ss)) H):=by
 intro pins s σ H x xs v us Q I rx rv h
 obtain ⟨z,a,ss,rfl,rfl,hS,ok,q⟩:=h
 obtain ⟨t,rfl⟩:=rx
 obtain ⟨u,rfl,ru⟩:=rv.one
 cases (show u=Value.ref a from ru)
 obtain ⟨qs,rv',pl,hz⟩:=I.list hS
 obtain ⟨l,rfl,e⟩:=Q4 rv'
 exact SC.join pl.isList e ok λt' k=>⟨.str _,H,I.tok _,⟨_,rfl⟩,q⟩
end
end L2
namespace L2
open PySem PySem.Spec PyProof.Rows
section
variable {X:Cx}
abbrev TF:=Str→St→Hp→(Str→Hp→Prop)→Prop
theorem Zw {M:Model}{A:Ae}{E:Ag→Ab→Prop}:∀(l:List (Sem Ag)) (acc:Str) (Q Q':Str→Ab→Prop) (s:Ab),Joins M A E l acc Q s→(∀o s,Q o s→Q' o s)→Joins M A E l acc Q' s
 |[],_,_,_,_,h,hQ=>hQ _ _ h
 |_::r,acc,Q,Q',_,h,hQ=>aX h (λ_ s1 ⟨y,t,e,z,hr⟩=>⟨y,t,e,z,Zw r (acc++y) Q Q' s1 hr hQ⟩) λ_ _ x=>x
def PF (X:Cx)(vs:List Expr)(t:TF):Prop :=
 ∀(acc:Str) (pins:List (Aj×Obj)) (s:Ab) (σ:St) (H:Hp) (Q:Str→Hp→Prop),Inv X pins σ H s→t acc σ H Q→Joins (model X.prog X.w) X.A X.xe (evalEach vs X.env) acc (λout s'=>∃H',Inv X pins σ H' s'∧Q out H') s
theorem pf_nil:PF X [] (λacc _ H Q=>Q acc H):=λ_ _ _ _ H _ I h=>⟨H,I,h⟩
theorem J3 {x j pos}{vs:List Expr}{t:TF}(h:PF X vs t):PF X (.Constant (.str x) j pos::vs) (λacc σ H Q=>(acc++x).length≤sizeLine∧t (acc++x) σ H Q):=by
 intro acc pins s σ H Q I q
 show wpAny _ _ (eval _ X.env) _ _ s
 exact Calls.Constant_str ⟨x,_,rfl,q.1,h _ _ _ _ _ _ (I.tok _) q.2⟩
theorem qqu {e:Expr}{te:TE}{pos:Pos}{vs:List Expr}{t:TF}(he:PE X e te)(h:PF X vs t):PF X (.FormattedValue e (-1) none pos::vs) (λacc σ H Q=>te σ H λv H' =>
  (∃z:Str,v=.str z∧z.length≤sizeLine∧(acc++z).length≤sizeLine∧t (acc++z) σ H' Q)∨(∃i:Int,v=.int i∧i.natAbs.log2<1920∧(acc++Str.ofString (toString i)).length≤sizeLine∧t (acc++Str.ofString (toString i)) σ H' Q)):=by
 intro acc pins s σ H Q I q
 show wpAny _ _ (eval _ X.env) _ _ s
 refine wpAny_FormattedValue_plain (thn (he pins s σ H _ I q) λu s1 ⟨v,H1,I1,r,q1⟩=>?_)
 rcases q1 with ⟨z,rfl,hz,ha,q1⟩|⟨i,rfl,hi,ha,q1⟩
 ·obtain ⟨t,rfl⟩:=r
  exact wpAny_formatField_str ⟨z,_,rfl,ha,h _ _ _ _ _ _ I1 q1⟩ ⟨z,_,rfl,ha,h _ _ _ _ _ _ (I1.tok _) q1⟩ hz
 ·obtain ⟨t,rfl⟩:=r
  exact wpAny_formatField_int hi ⟨_,_,rfl,ha,h _ _ _ _ _ _ (I1.tok _) q1⟩
theorem wqc {v1 v2:Expr}{rest:List Expr}{pos:Pos}{t:TF}(h:PF X (v1::v2::rest) t):PE X (.JoinedStr (v1::v2::rest) pos) (λσ H Q=>t Str.empty σ H λout H'=>out.length≤sizeLine∧Q (.str out) H'):=by
 intro pins s σ H Q I q
 exact wpAny_JoinedStr (Zw _ _ _ _ _ (h _ pins s σ H _ I q) λout s1 ⟨H1,I1,hz,q1⟩=>⟨hz,.str out,H1,I1.tok _,⟨_,rfl⟩,q1⟩)
end
end L2
namespace L2
open PySem PySem.Spec PyProof.Rows
theorem wqh (a b:Str):(a++b).cps.toList=a.cps.toList++b.cps.toList:=W.KT.app_list a b
theorem qu1 {a b:Str}(h:a.cps.toList=b.cps.toList):a=b:=by
 obtain ⟨a⟩:=a
 obtain ⟨b⟩:=b
 have h:a=b:=Array.toList_inj.mp h
 rw [h]
end L2
namespace My
open PySem L2
def top (i:Nat):Stmt:=PySem.Challenge.pw_crookroad_k55_house_written.main.body.getD i (.Pass ⟨0,0,0,0⟩)
abbrev zaq:Stmt:=top 17
theorem _root_.aU7 (h:True:=by decide +kernel):True:=h
theorem scA{N P:List Str}{c:Scope}(a:autoParam (c.kind=.function) aU4._auto_1)(b:autoParam (c.isCoroutine=false) aU4._auto_1)(d:autoParam (c.isGenerator=false) aU4._auto_1)(e:autoParam (N.Nodup) aU7._auto_1)(f:autoParam (N.take P.length=P) aU4._auto_1)(g:autoParam (∀x∈P,c.names.lookup x=some .local∨c.names.lookup x=some .cell) aU7._auto_1)(h:autoParam (∀y∈c.names,y.2≠.free) aU7._auto_1):FnScope N P c:=⟨a,b,d,e,f,g,h⟩
theorem Wz:FnScope ["bottom"] ["bottom"] (wu zaq):=scA
theorem Q7:xp "check_bottom" zaq ["bottom"]:=λ_ _ _ _ _ _ _ h=>bA1 h λ_=>rfl
abbrev zar:Stmt:=top 18
theorem u7:FnScope ["one","other"] ["one","other"] (wu zar):=scA
theorem uu:xp "common_divisor" zar ["one","other"]:=λ_ _ _ _ _ _ _ h=>bA2 h λ_ _=>rfl
abbrev zas:Stmt:=top 19
theorem qv1:FnScope ["top","bottom","divisor"] ["top","bottom"] (wu zas):=scA
theorem qk5:xp "lowest" zas ["top","bottom"]:=λ_ _ _ _ _ _ _ h=>bA2 h λ_ _=>rfl
abbrev zat:Stmt:=top 28
theorem qxt:FnScope ["heights","width"] ["heights"] (wu zat):=scA
theorem qx9:xp "is_line" zat ["heights"]:=λ_ _ _ _ _ _ _ h=>bA1 h λ_=>rfl
abbrev zau:Stmt:=x9 (top 29) 0
theorem Qu:FnScope ["self","heights"] ["self","heights"] (wu zau):=scA
theorem Qm:x4 "__init__" "Road.__init__" zau ["self","heights"]:=λ_ _ _ _ _ _ _ h=>bA2 h λ_ _=>rfl
abbrev zav:Stmt:=x9 (top 29) 1
theorem Yu:FnScope ["self"] ["self"] (wu zav):=scA
theorem Yn:x4 "width" "Road.width" zav ["self"]:=λ_ _ _ _ _ _ _ h=>bA1 h λ_=>rfl
abbrev zaw:Stmt:=x9 (top 29) 2
theorem Wx:FnScope ["self"] ["self"] (wu zaw):=scA
theorem Q6:x4 "corners" "Road.corners" zaw ["self"]:=λ_ _ _ _ _ _ _ h=>bA1 h λ_=>rfl
abbrev zax:Stmt:=x9 (top 29) 6
theorem Q9:FnScope ["self","point","top","bottom"] ["self","point"] (wu zax):=scA
theorem Wj:x4 "on_road" "Road.on_road" zax ["self","point"]:=λ_ _ _ _ _ _ _ h=>bA2 h λ_ _=>rfl
abbrev zay:Stmt:=x9 (top 31) 0
theorem y9:FnScope ["self","whose","point","times"] ["self","whose","point","times"] (wu zay):=scA
theorem yn:x4 "__init__" "Walker.__init__" zay ["self","whose","point","times"]:=λ_ _ _ _ _ _ _ h=>bA4 h λ_ _ _ _=>rfl
abbrev zaz:Stmt:=top 32
theorem qww:FnScope ["whose","point"] ["whose","point"] (wu zaz):=scA
theorem qxw:xp "set_down" zaz ["whose","point"]:=λ_ _ _ _ _ _ _ h=>bA2 h λ_ _=>rfl
abbrev za0:Stmt:=top 37
theorem qxs:FnScope ["name"] ["name"] (wu za0):=scA
theorem qzc:xp "is_name" za0 ["name"]:=λ_ _ _ _ _ _ _ h=>bA1 h λ_=>rfl
abbrev za1:Stmt:=top 38
theorem uw:FnScope ["name","things"] ["name","things"] (wu za1):=scA
theorem Qw:xp "check_new_name" za1 ["name","things"]:=λ_ _ _ _ _ _ _ h=>bA2 h λ_ _=>rfl
abbrev za2:Stmt:=top 39
theorem qxv:FnScope ["things","changes","before","name","thing"] ["things","changes"] (wu za2):=scA
theorem qw6:xp "exchange" za2 ["things","changes"]:=λ_ _ _ _ _ _ _ h=>bA2 h λ_ _=>rfl
abbrev za3:Stmt:=x9 (top 40) 0
theorem uk:FnScope ["self"] ["self"] (wu za3):=scA
theorem u9:x4 "__init__" "House.__init__" za3 ["self"]:=λ_ _ _ _ _ _ _ h=>bA1 h λ_=>rfl
abbrev za4:Stmt:=x9 (top 40) 1
theorem j8:FnScope ["self","name"] ["self","name"] (wu za4):=scA
theorem jt:x4 "road_called" "House.road_called" za4 ["self","name"]:=λ_ _ _ _ _ _ _ h=>bA2 h λ_ _=>rfl
abbrev za5:Stmt:=x9 (top 40) 2
theorem jh:FnScope ["self","name"] ["self","name"] (wu za5):=scA
theorem jf:x4 "walker_called" "House.walker_called" za5 ["self","name"]:=λ_ _ _ _ _ _ _ h=>bA2 h λ_ _=>rfl
abbrev za6:Stmt:=x9 (top 40) 4
theorem qxg:FnScope ["self","roads","walkers"] ["self","roads","walkers"] (wu za6):=scA
theorem qxn:x4 "do" "House.do" za6 ["self","roads","walkers"]:=λ_ _ _ _ _ _ _ h=>bA3 h λ_ _ _=>rfl
abbrev za7:Stmt:=x9 (top 40) 5
theorem Jp:FnScope ["self","name","heights"] ["self","name","heights"] (wu za7):=scA
theorem qqb:x4 "lay" "House.lay" za7 ["self","name","heights"]:=λ_ _ _ _ _ _ _ h=>bA3 h λ_ _ _=>rfl
abbrev za8:Stmt:=x9 (top 40) 10
theorem Zk:FnScope ["self","name","whose","point","road","here"] ["self","name","whose","point"] (wu za8):=scA
theorem Wr:x4 "place" "House.place" za8 ["self","name","whose","point"]:=λ_ _ _ _ _ _ _ h=>bA4 h λ_ _ _ _=>rfl
abbrev za9:Stmt:=x9 (top 40) 14
theorem yr:FnScope ["self","roads","walkers"] ["self"] (wu za9):=scA
theorem y7:x4 "take_back" "House.take_back" za9 ["self"]:=λ_ _ _ _ _ _ _ h=>bA1 h λ_=>rfl
abbrev zba:Stmt:=x9 (top 40) 16
theorem Zb:FnScope ["self"] ["self"] (wu zba):=scA
theorem Z4:x4 "deeds" "House.deeds" zba ["self"]:=λ_ _ _ _ _ _ _ h=>bA1 h λ_=>rfl
abbrev zbb:Stmt:=x9 (top 40) 17
theorem W9:FnScope ["self"] ["self"] (wu zbb):=scA
theorem Wt:x4 "names" "House.names" zbb ["self"]:=λ_ _ _ _ _ _ _ h=>bA1 h λ_=>rfl
abbrev zbc:Stmt:=x9 (top 40) 18
theorem yb:FnScope ["self","name"] ["self","name"] (wu zbc):=scA
theorem yc:x4 "corners_of" "House.corners_of" zbc ["self","name"]:=λ_ _ _ _ _ _ _ h=>bA2 h λ_ _=>rfl
abbrev zbd:Stmt:=x9 (top 40) 19
theorem Zq:FnScope ["self","name","walker"] ["self","name"] (wu zbd):=scA
theorem Z1:x4 "where" "House.where" zbd ["self","name"]:=λ_ _ _ _ _ _ _ h=>bA2 h λ_ _=>rfl
abbrev zbe:Stmt:=top 42
theorem qxp:FnScope ["house","name"] ["house","name"] (wu zbe):=scA
theorem qw1:xp "road_row" zbe ["house","name"]:=λ_ _ _ _ _ _ _ h=>bA2 h λ_ _=>rfl
abbrev zbf:Stmt:=top 43
theorem Yd:FnScope ["house","name","whose","top","bottom"] ["house","name"] (wu zbf):=scA
theorem Yf:xp "walker_row" zbf ["house","name"]:=λ_ _ _ _ _ _ _ h=>bA2 h λ_ _=>rfl
abbrev zbg:Stmt:=top 44
theorem Yz:FnScope ["house","roads","walkers","rows"] ["house"] (wu zbg):=scA
theorem Z9:xp "house_text" zbg ["house"]:=λ_ _ _ _ _ _ _ h=>bA1 h λ_=>rfl
abbrev zbh:Stmt:=top 46
theorem Jt:FnScope ["_law_script","_law_at"] ["_law_script","_law_at"] (wu zbh):=scA
theorem qqm:xp "_law_cell" zbh ["_law_script","_law_at"]:=λ_ _ _ _ _ _ _ h=>bA2 h λ_ _=>rfl
abbrev zbi:Stmt:=top 47
theorem qqz:FnScope ["_law_script","_law_at","_law_turn","_law_many","_law_cell_here","_law_left","_law_k","_law_low_here","_law_one","_law_two"] ["_law_script","_law_at","_law_turn","_law_many"] (wu zbi):=scA
theorem Jf:xp "_law_pick" zbi ["_law_script","_law_at","_law_turn","_law_many"]:=λ_ _ _ _ _ _ _ h=>bA4 h λ_ _ _ _=>rfl
abbrev zbj:Stmt:=top 48
theorem Yq:FnScope ["_law_script","_law_at","_law_letters","_law_size","_law_place","_law_shift","_law_made","_law_j","_law_name","_law_k","_law_sign"] ["_law_script","_law_at"] (wu zbj):=scA
theorem Yx:xp "_law_names" zbj ["_law_script","_law_at"]:=λ_ _ _ _ _ _ _ h=>bA2 h λ_ _=>rfl
abbrev zbk:Stmt:=top 49
theorem Yh:FnScope ["_law_script","_law_at","_law_wide","_law_row","_law_k"] ["_law_script","_law_at","_law_wide"] (wu zbk):=scA
theorem Yb:xp "_law_climb" zbk ["_law_script","_law_at","_law_wide"]:=λ_ _ _ _ _ _ _ h=>bA3 h λ_ _ _=>rfl
abbrev zbl:Stmt:=top 50
theorem Wv:FnScope ["_law_script","_law_at","_law_most","_law_wide","_law_kind"] ["_law_script","_law_at","_law_most"] (wu zbl):=scA
theorem Wq:xp "_law_heights" zbl ["_law_script","_law_at","_law_most"]:=λ_ _ _ _ _ _ _ h=>bA3 h λ_ _ _=>rfl
abbrev zbm:Stmt:=top 51
theorem qq0:FnScope ["_law_script","_law_at","_law_wide","_law_most","_law_bottom","_law_top","_law_by"] ["_law_script","_law_at","_law_wide","_law_most"] (wu zbm):=scA
theorem qq6:xp "_law_spot" zbm ["_law_script","_law_at","_law_wide","_law_most"]:=λ_ _ _ _ _ _ _ h=>bA4 h λ_ _ _ _=>rfl
abbrev zbn:Stmt:=top 52
theorem Zy:FnScope ["_law_one","_law_other"] ["_law_one","_law_other"] (wu zbn):=scA
theorem W2:xp "_law_common" zbn ["_law_one","_law_other"]:=λ_ _ _ _ _ _ _ h=>bA2 h λ_ _=>rfl
abbrev zbo:Stmt:=top 53
theorem qw3:FnScope ["_law_top","_law_bottom","_law_by"] ["_law_top","_law_bottom"] (wu zbo):=scA
theorem qw8:xp "_law_low" zbo ["_law_top","_law_bottom"]:=λ_ _ _ _ _ _ _ h=>bA2 h λ_ _=>rfl
abbrev zbp:Stmt:=top 54
theorem Yw:FnScope ["_law_script","_law_at","_law_names_here","_law_roads","_law_walkers","_law_j","_law_known","_law_whose","_law_wide","_law_point","_law_top","_law_bottom"] ["_law_script","_law_at"] (wu zbp):=scA
theorem Ym:xp "_law_stand" zbp ["_law_script","_law_at"]:=λ_ _ _ _ _ _ _ h=>bA2 h λ_ _=>rfl
abbrev zbq:Stmt:=top 55
theorem Jm:FnScope ["_law_roads","_law_walkers","_law_made","_law_name","_law_whose","_law_top","_law_bottom"] ["_law_roads","_law_walkers"] (wu zbq):=scA
theorem qqt:xp "_law_text" zbq ["_law_roads","_law_walkers"]:=λ_ _ _ _ _ _ _ h=>bA2 h λ_ _=>rfl
abbrev zag:Stmt:=top 56
theorem y6:FnScope ["_law_script","_law_at","_law_roads","_law_walkers","_law_house","_law_name","_law_order","_law_whose","_law_top","_law_bottom"] ["_law_script","_law_at","_law_roads","_law_walkers"] (wu zag):=scA
theorem yp:xp "_law_laid_house" zag ["_law_script","_law_at","_law_roads","_law_walkers"]:=λ_ _ _ _ _ _ _ h=>bA4 h λ_ _ _ _=>rfl
abbrev zbx:Stmt:=top 57
theorem ze2:FnScope ["_law_script","_law_roads","_law_walkers","_law_house","_law_due","_law_found","_law_other"] ["_law_script"] (wu zbx):=scA
local macro_rules | `(tactic| walk_at "sq")=>`(tactic| first | assumption | exact SqT.new | exact SqL.new | ((with_reducible refine Same.sqt (Same.upd (by assumption)) ?_);walk_at "sq") | ((with_reducible refine Same.sql (Same.upd (by assumption)) ?_);walk_at "sq"))
local macro_rules | `(tactic| walk_at "at")=>`(tactic| first | rfl | exact J9 (by lia) (by lia))
local macro_rules | `(tactic| walk_at "mul")=>`(tactic| first | assumption | exact IntMulOk.of_left (intBits_le_64 (by lia) (by lia)) | exact IntMulOk.of_right (intBits_le_64 (by lia) (by lia)) | exact Sm.ok (by assumption) (by assumption) (by lia))
local macro_rules | `(tactic| walk_at "pos")=>`(tactic| first | lia | decide +kernel)
local macro_rules | `(tactic| walk_at "div")=>`(tactic| exact ⟨by first | lia | decide +kernel,by unfold Sm;decide +kernel⟩)
local macro_rules | `(tactic| walk_at "loc")=>`(tactic| first | exact Or.inl rfl | exact Or.inr rfl)
local macro_rules | `(tactic| walk_at "cap")=>`(tactic| repeat (first | exact trivial | refine ⟨rfl,?_⟩))
local macro_rules | `(tactic| walk_at "has")=>`(tactic| repeat (first | exact trivial | (refine ⟨λz=>?_,(by lia),?_⟩;(first | exact ⟨_,rfl⟩ | cases z))))
local macro_rules | `(tactic| walk_at "cix")=>`(tactic| repeat (first | exact trivial | refine ⟨⟨_,_,rfl,rfl,rfl,rfl⟩,?_⟩))
local macro_rules | `(tactic| walk_at "hasK")=>`(tactic| repeat (first | exact trivial | (refine ⟨λz=>?_,λz=>?_,?_⟩;(first | exact ⟨_,rfl⟩ | cases z);(first | rfl | cases z))))
structure Txt (K:Aa)(mg:Str→Option Ag)(qy:Aj)(qh:Aj)(qx:Aj)(qp:Aj)(qf:Aj)(q8:Aj)(wv:Aj)(qb:Aj)(wz:Aj)(qt:Aj)(qu:Aj)(qw:Aj)(qg:Aj)(qz:Aj)(qq:Aj):Prop where
 len_:mg "len" = none
 abs_:mg "abs" = none
 range_:mg "range" = none
 list_:mg "list" = none
 min_:mg "min" = none
 max_:mg "max" = none
 all_:mg "all" = none
 any_:mg "any" = none
 sorted_:mg "sorted" = none
 enumerate_:mg "enumerate" = none
 dict_:mg "dict" = none
 isinstance_:mg "isinstance" = none
 int_:mg "int" = none
 bool_:mg "bool" = none
 tuple_:mg "tuple" = none
 str_:mg "str" = none
 zga:mg "RoadError" = some (.ref qy)
 zbr:ExcC K qy
 ze3:mg "BadLine" = some (.ref qh)
 zah:ExcC K qh
 zes:mg "BadBottom" = some (.ref qx)
 zaf:ExcC K qx
 ze4:mg "OffRoad" = some (.ref qp)
 zai:ExcC K qp
 zgb:mg "BadCount" = some (.ref qf)
 zbs:ExcC K qf
 zgc:mg "TooLong" = some (.ref q8)
 zbt:ExcC K q8
 zgd:mg "BadRow" = some (.ref wv)
 zbu:ExcC K wv
 ze5:mg "BadName" = some (.ref qb)
 zaj:ExcC K qb
 ze6:mg "Taken" = some (.ref wz)
 zak:ExcC K wz
 ze7:mg "NoRoad" = some (.ref qt)
 zal:ExcC K qt
 ze8:mg "NoWalker" = some (.ref qu)
 zam:ExcC K qu
 ze9:mg "NothingDone" = some (.ref qw)
 zan:ExcC K qw
 cl:Cls K qg
 na:NoAttr K qg "heights"
 zab:∃t,mg "WIDEST" = some (.int 24 t)
 zfa:mg "Road" = some (.ref qg)
 clW:Cls K qz
 clH:Cls K qq
 naWw:NoAttr K qz "whose"
 naWp:NoAttr K qz "point"
 naWt:NoAttr K qz "times"
 naHr:NoAttr K qq "roads"
 naHw:NoAttr K qq "walkers"
 naHd:NoAttr K qq "done"
 zfb:mg "Walker" = some (.ref qz)
 zfc:mg "House" = some (.ref qq)
 zbv:∃t,mg "LONGEST_TRACE" = some (.int 1000 t)
 zbw:∃t,mg "FARTHEST" = some (.int 1000000000000000000000000000000000000000000000000000000000000 t)
 zac:∃t,mg "LONGEST_NAME" = some (.int 12 t)
 zad:∃t,mg "GREATEST_BOTTOM" = some (.int 40 t)
 zae:∃t,mg "LETTERS" = some (.str "abcdefghijklmnopqrstuvwxyz" t)
abbrev FK(P:Ac)(w:Ah)(K:Aa)(mg:Str→Option Ag)(base:Heap):=FnOk P w K mg base (CXE P w)
section
variable {P:Ac}{w:Ah}{K:Aa}{mg:Str→Option Ag}{base:Heap}{qy:Aj}{qh:Aj}{qx:Aj}{qp:Aj}{qf:Aj}{q8:Aj}{wv:Aj}{qb:Aj}{wz:Aj}{qt:Aj}{qu:Aj}{qw:Aj}{qg:Aj}{qz:Aj}{qq:Aj}
variable {f:Aj}{fd:Ad}(T:Txt K mg qy qh qx qp qf q8 wv qb wz qt qu qw qg qz qq)
def qqc (C:Aj):Sp:=λvs H Q E=>∃b:Int,vs=[.int b]∧(1≤b→Q .non H)∧(b<1→E (.ref C) none H)
include T in
theorem quv (F:Fun K "check_bottom" "check_bottom" zaq f fd):FK P w K mg base 1 f fd ["bottom"] (qqc qx):=by
 have sc:=Wz
 refine F.okX sc (λvs H Q E h=>by obtain ⟨_,rfl,_⟩:=h;rfl) λ_ _ _ _ H vs Q E hr h=>?_
 obtain ⟨b,rfl,h1,h2⟩:=h
 refine ⟨_,(wq (xm (w4 Q3 (pv 0) qd (w9 _)) (wq (zp rfl T.zaf zj rfl T.zes (w8 xn qk))) w6)),?_⟩
 refine exI rfl (wc rfl rfl (exI rfl ?_))
 refine jy (λq1=>?_) (λq1=>?_)
 ·exact ⟨⋯,h2 q1⟩
 ·exact h1 ⋯
include T in
theorem qu3 (F:Fun K "_law_cell" "_law_cell" zbh f fd):FK P w K mg base 1 f fd ["_law_script","_law_at"] (qzx K):=by
 have sc:=Jt
 refine F.okX sc (λvs H Q E h=>by obtain ⟨_,_,_,rfl,_⟩:=h;rfl) λ_ _ _ _ H vs Q E hr h=>?_
 obtain ⟨a,ns,i,rfl,hS,h0,k⟩:=h
 have hlen:(ns.map V.int).length=ns.length:=aa _
 refine ⟨_,(qc (xm (w4 Q3 (pv 1) (wg xc rfl T.len_ aW (wx (pv 0) qk)) (w9 _)) (wq (wp (vc k7 (pv 0) (pv 1) (λ_ _=>rfl)))) w6)
   (qc (xm (w4 vb (wg xc rfl T.len_ aW (wx (pv 0) qk)) qd (w9 _)) (wq (wp (wy wn (wy xb qd (pv 1)) qd))) w6)
   (wq (wp (wy wn (vc k7 (pv 0) (wy zm (pv 1) (wg xc rfl T.len_ aW (wx (pv 0) qk))) (λ_ _=>rfl)) (wy xb qd (pv 1))))))),?_⟩
 refine exI rfl (exI rfl ⟨_,_,rfl,.inl hS,wc rfl rfl (exI rfl ?_)⟩)
 refine jy (λq1=>?_) (λq1=>?_)
 ·rw [hlen] at q1
  refine exI rfl (exI rfl (exX rfl rfl hS (J9 h0 q1) ?_))
  exact k _ (by rw [qwt,aj q1])
 ·rw [hlen] at q1
  refine exI rfl ⟨_,_,rfl,.inl hS,rfl,_,rfl,?_⟩
  rw [hlen]
  refine jj (λq2=>?_) (λq2=>?_)
  ·refine exI rfl (wc rfl rfl ⟨(by walk_at "mul"),wc rfl rfl ?_⟩)
   exact k _ (by rw [qwt,ag q1,aj q2])
  ·refine exI rfl (exI rfl (exI rfl ⟨_,_,rfl,.inl hS,wc rfl rfl ⟨(by rw [hlen];lia),?_⟩⟩))
   rw [hlen]
   refine exX rfl rfl hS (J9 (aT _ q2) (aU _ ⋯)) (exI rfl (wc rfl rfl ⟨(by walk_at "mul"),wc rfl rfl ?_⟩))
   exact k _ (by rw [qwt,ag q1,ag q2])
include T in
theorem qu9 (F:Fun K "_law_pick" "_law_pick" zbi f fd)(zfd:Cal P w K mg base "_law_cell" 1 (qzx K)):FK P w K mg base 2 f fd ["_law_script","_law_at","_law_turn","_law_many"] (v8 K):=by
 have sc:=qqz
 refine F.okX sc (λvs H Q E h=>by obtain ⟨_,_,_,_,_,rfl,_⟩:=h;rfl) λ_ _ _ _ H vs Q E hr h=>?_
 obtain ⟨a,ns,i,t,m,rfl,hS,h0,t0,t1,m0,k⟩:=h
 refine ⟨_,(qc (wf (i:=4) (wCA zfd (wx (pv 0) (wx (pv 1) qk))))
   (qc (xm (w4 op_ge (wg uh rfl T.abs_ u8 (wx (pv 4) qk)) (wy op_pow qd qd) (w9 _)) (qc (wf (i:=5) (wg uh rfl T.abs_ u8 (wx (pv 4) qk)))
   (qc (k4 aQ rfl (zw rfl T.range_ (wx (pv 2) qk)) (wt (i:=6)) (wq (wf (i:=5) (wy j0 (pv 5) qd))))
   (qc (xm (w4 Q3 (pv 4) qd (w9 _)) (wq (wf (i:=5) (wy zm (pv 5) qd))) w6)
   (wq (wp (wy zm (pv 5) (pv 3))))))) w6)
   (qc (wf (i:=7) (wy zm (pv 4) qd))
   (qc (wf (i:=8) (wy zm (wy wn (wy wn (wy xb (pv 7) qd) (wy xb (pv 2) qd)) qd) qd))
   (qc (wf (i:=9) (wy zm (wy wn (wy wn (wy xb (pv 8) (pv 8)) (wy xb (pv 7) qd)) (wy xb (pv 2) qd)) qd))
   (wq (wp (wy zm (wy zm (wy wn (wy wn (wy xb (pv 9) (pv 9)) (wy xb (pv 8) qd)) (wy xb (pv 2) qd)) qd) (pv 3))))))))),?_⟩
 refine exI rfl (exI rfl ?_)
 refine ⟨a,ns,i,rfl,hS,h0,λc hc=>?_⟩
 have fin:∀v,v=qxf c t%m→Q (.int v) H:=λv hv=>by
  refine k v (by rw [hv,qwg,hc]) ?_ ?_
  ·rw [hv];exact aT _ ⋯
  ·rw [hv];exact aU _ m0
 refine exI rfl (exI rfl (wc rfl rfl ⟨⟨⋯,⋯,⋯⟩,wc rfl rfl (exI rfl ?_)⟩))
 refine jy (λq1=>?_) (λq1=>?_)
 ·have q1':10 ^ 18≤js c:=q1
  refine exI rfl (exI rfl ?_)
  refine exI rfl ⟨t,rfl,⋯,⋯,vh (λj σ H1=>H1=H∧∃z,σ=[some (.ref a),some (.int i),some (.int t),some (.int m),some (.int c),some (.int (divs (js c) j)),z,none,none,none]) ⟨rfl,_,rfl⟩ ?_ ?_⟩
  ·rintro j σ H1 hj ⟨rfl,z,rfl⟩
   exact exI rfl (wc rfl rfl ⟨(by walk_at "div"),rfl,_,rfl⟩)
  ·rintro σ H1 ⟨rfl,z,rfl⟩
   refine exI rfl (wc rfl rfl (exI rfl ?_))
   refine jy (λq2=>?_) (λq2=>?_)
   ·refine exI rfl (wc rfl rfl ⟨(by walk_at "pos"),exI rfl (exI rfl (wc rfl rfl ⟨(by walk_at "pos"),?_⟩))⟩)
    exact fin _ (by rw [qyz q1' q2])
   ·refine exI rfl (exI rfl (wc rfl rfl ⟨(by walk_at "pos"),?_⟩))
    exact fin _ (by rw [qv2 q1' q2])
 ·have q1':¬ 10 ^ 18≤js c:=q1
  have l0:=aT c (show (1000003:Int)≠0 by decide)
  have l1:=aU c (show (0:Int)<1000003 by decide)
  refine exI rfl (wc rfl rfl ⟨(by walk_at "pos"),exI rfl (wc rfl rfl ⟨(by walk_at "mul"),exI rfl (wc rfl rfl ⟨(by walk_at "mul"),wc rfl rfl (wc rfl rfl (wc rfl rfl ⟨(by walk_at "pos"),?_⟩))⟩)⟩)⟩)
  have o0:0≤qqw c t:=aT _ ⋯
  have o1:qqw c t<999983:=aU _ ⋯
  refine ⟨V.int (qqw c t),rfl,V.int (qqw c t),rfl,wc rfl rfl ⟨(by walk_at "mul"),exI rfl (wc rfl rfl ⟨(by walk_at "mul"),wc rfl rfl (exI rfl (wc rfl rfl ⟨(by walk_at "mul"),wc rfl rfl (wc rfl rfl ⟨(by walk_at "pos"),?_⟩)⟩))⟩)⟩⟩
  have w0:0≤qwy c t:=aT _ ⋯
  have w1:qwy c t<1000033:=aU _ ⋯
  refine ⟨V.int (qwy c t),rfl,V.int (qwy c t),rfl,wc rfl rfl ⟨(by walk_at "mul"),V.int (qqw c t),rfl,wc rfl rfl ⟨(by walk_at "mul"),wc rfl rfl (exI rfl (wc rfl rfl ⟨(by walk_at "mul"),wc rfl rfl (wc rfl rfl ⟨(by walk_at "pos"),exI rfl (wc rfl rfl ⟨(by walk_at "pos"),?_⟩)⟩)⟩))⟩⟩⟩
  exact fin _ (by rw [qj7 q1'])
def Within (n f:Int)(m:Option Int):Prop:=f≤n∧∀b,m=some b→n≤b
def xv (ns:List Int):Prop:=2≤ns.length∧ns.length≤25∧∀h∈ns,0≤h∧h≤(ns.length:Int)-1
def Zf (K:Aa):Sp:=λvs H Q _=>∃(p:Aj) (ns:List Int),vs=[.ref p]∧SqL K H p (ns.map V.int)∧(xv ns→Q (.bl true) H)∧(¬ xv ns→Q (.bl false) H)
include T in
theorem qzu (F:Fun K "is_line" "is_line" zat f fd):FK P w K mg base 1 f fd ["heights"] (Zf K):=by
 have sc:=qxt
 refine F.okX sc (λvs H Q E h=>by obtain ⟨_,_,rfl,_⟩:=h;rfl) λ_ _ _ _ H vs Q E hr h=>?_
 obtain ⟨p,ns,rfl,hS,k1,k2⟩:=h
 have hlen:(ns.map V.int).length=ns.length:=aa _
 obtain ⟨tw,zab⟩:=T.zab
 refine ⟨_,(qc (wf (i:=1) (wy Qr (wg xc rfl T.len_ aW (wx (pv 0) qk)) qd))
   (qc (xm (PW.pt (qwd (w4 Q3 (pv 1) qd (w9 _)) (Zs (w4 Q2 (pv 1) (Wb (v:=V.int 24) rfl zab ⟨_,rfl⟩) (w9 _))))) (wq (wp qvx)) w6)
   (wq (wp (quk (yx op_ge (wg (Yj rfl) rfl T.min_ PyProof.Rows.boot_min (wx (pv 0) qk)) qd (w9 _)) (qjn (yx op_le (wg (Yv rfl) rfl T.max_ cD (wx (pv 0) qk)) (pv 1) (w9 _)))))))),?_⟩
 refine exI rfl ⟨_,_,rfl,.inl hS,wc rfl rfl ?_⟩
 refine exI rfl (wc rfl rfl (exI rfl ?_))
 rw [hlen]
 refine jy (λq1=>?_) (λq1=>?_)
 ·refine W7 ?_
  exact k2 (λz=>by have:=z.1;lia)
 ·refine exI rfl (wc rfl rfl (exI rfl ?_))
  refine jy (λq2=>?_) (λq2=>?_)
  ·exact k2 (λz=>by have:=z.2.1;lia)
  ·refine exI rfl ⟨p,ns,rfl,hS,⋯,λm hm hle=>(wc rfl rfl (exI rfl ?_))⟩
   refine jy (λq3=>?_) (λq3=>?_)
   ·refine exI rfl ⟨p,ns,rfl,hS,⋯,λm2 hm2 hle2=>(exI rfl (wc rfl rfl ?_))⟩
    show Q (.bl (decide (m2≤(ns.length:Int)-1))) H
    by_cases q4:m2≤(ns.length:Int)-1
    ·rw [bn q4]
     exact k1 ⟨⋯,⋯,λh hh=>by have:=hle h hh;have:=hle2 h hh;lia⟩
    ·rw [aY q4]
     exact k2 (λz=>q4 (z.2.2 m2 hm2).2)
   ·exact k2 (λz=>q3 (z.2.2 m hm).1)
def RoadAt (C:Aj)(H:Hp)(r:Aj)(ns:List Int):Prop:=∃dx q,H r=some (.ins C dx [("heights",.ref q)])∧H q=some (.lst (ns.map V.int))
variable {C r:Aj}{H H':Hp}
theorem RoadAt.same {ns:List Int}(h:RoadAt C H r ns)(s:Same H H'):RoadAt C H' r ns:=by
 obtain ⟨dx,q,h1,h2⟩:=h
 exact ⟨dx,q,s _ _ h1,s _ _ h2⟩
variable {q:Aj}
theorem u6:([("heights",V.ref q)]:List (Str×V)).lookup ("heights" : Str)=some (.ref q):=by
 rw [aK]
 simp
theorem y0 {m:Str}(h:¬ m = "heights"):([("heights",V.ref q)]:List (Str×V)).lookup m=none:=by
 rw [aK]
 have:(m==("heights" : Str))=false:=aS.mpr h
 rw [this]
 rfl
def qqy (K:Aa)(CB C:Aj):Sp:=λvs H Q E=>∃(r dx p:Aj) (ns:List Int),vs=[.ref r,.ref p]∧H r=some (.ins C dx [])∧SqL K H p (ns.map V.int) ∧
 (xv ns→∀H' q,H q=none→(∀b o,H b=some o→b≠r→H' b=some o)→H' r=some (.ins C dx [("heights",.ref q)])→H' q=some (.lst (ns.map V.int))→Q .non H')∧(¬ xv ns→E (.ref CB) none H)
include T in
theorem wq1 (F:Fun K "__init__" "Road.__init__" zau f fd)(zfe:Cal P w K mg base "is_line" 1 (Zf K)):FK P w K mg base 2 f fd ["self","heights"] (qqy K qh qg):=by
 have sc:=Qu
 refine F.okX sc (λvs H Q E h=>by obtain ⟨_,_,_,_,rfl,_⟩:=h;rfl) λ_ _ _ _ H vs Q E hr h=>?_
 obtain ⟨r,dx,p,ns,rfl,hr0,hS,k,x⟩:=h
 refine ⟨_,(qc (xm (qzb (qzr (wCA zfe (wx (pv 1) qk)))) (wq (zp rfl T.zah zj rfl T.ze3 (w8 xn qk))) w6)
   (wq (uq (pv 0) (x6 jr rfl T.list_ bg (wx (pv 1) qk)) rfl))),?_⟩
 refine ⟨_,rfl,p,ns,rfl,hS,λok=>(exI rfl ?_),λbad=>(exI rfl ?_)⟩
 ·refine Z8 ?_
  refine exI rfl ⟨_,_,rfl,.inl hS,λq nq=>?_⟩
  have hr1:upd H q (.lst (ns.map V.int)) r=some (.ins qg dx []):=by rw [q9 (qm hr0 nq)];exact hr0
  refine exI rfl ⟨r,qg,dx,[],rfl,hr1,T.cl,T.na,(by show 0<1000;decide),?_⟩
  refine k ok _ q nq (λb o e n=>?_) qj ?_
  ·rw [q9 n,q9 (qm e nq)]
   exact e
  ·rw [q9 (qm hr0 nq).symm,qj]
 ·refine W7 ?_
  exact ⟨sz1,x bad⟩
def qqj (C:Aj):Sp:=λvs H Q _=>∃(r:Aj) (ns:List Int),vs=[.ref r]∧RoadAt C H r ns∧Q (.int ((ns.length:Int)-1)) H
include T in
theorem quj (F:Fun K "width" "Road.width" zav f fd):FK P w K mg base 1 f fd ["self"] (qqj qg):=by
 have sc:=Yu
 refine F.okX sc (λvs H Q E h=>by obtain ⟨_,_,rfl,_⟩:=h;rfl) λ_ _ _ _ H vs Q E hr h=>?_
 obtain ⟨r,ns,rfl,⟨dx,q,h1,h2⟩,k⟩:=h
 refine ⟨_,(wq (wp (wy Qr (wg xc rfl T.len_ aW (xq (zx (pv 0) rfl) qk)) qd))),?_⟩
 refine exI rfl ⟨r,qg,dx,_,_,rfl,h1,T.cl,T.na,u6,q,exI rfl ⟨.inl (SqL.of h2),wc rfl rfl ?_⟩⟩
 rw [aa]
 exact k
def Qy (C:Aj):Sp:=λvs H Q _=>∃(r:Aj) (ns:List Int),vs=[.ref r]∧RoadAt C H r ns∧∀p,H p=none→Q (.ref p) (upd H p (.lst (ns.map V.int)))
include T in
theorem qzf (F:Fun K "corners" "Road.corners" zaw f fd):FK P w K mg base 1 f fd ["self"] (Qy qg):=by
 have sc:=Wx
 refine F.okX sc (λvs H Q E h=>by obtain ⟨_,_,rfl,_⟩:=h;rfl) λ_ _ _ _ H vs Q E hr h=>?_
 obtain ⟨r,ns,rfl,⟨dx,q,h1,h2⟩,k⟩:=h
 refine ⟨_,(wq (wp (x6 jr rfl T.list_ bg (xq (zx (pv 0) rfl) qk)))),?_⟩
 exact exI rfl ⟨r,qg,dx,_,_,rfl,h1,T.cl,T.na,u6,q,exI rfl ⟨.inl (SqL.of h2),λp np=>k p np⟩⟩
def InW (ns:List Int)(wd:Int):Prop:=(ns.length:Int)=wd+1∧∀h∈ns,0≤h∧h≤wd
def Wu (K:Aa):Sp:=λvs H Q _=>∃(a:Aj) (ns:List Int) (i wd:Int),vs=[.ref a,.int i,.int wd]∧SqL K H a (ns.map V.int)∧0≤i∧1≤wd∧wd≤24 ∧
 ∀p hs,H p=none→InW hs wd→Q (.ref p) (upd H p (.lst (hs.map V.int)))
include T in
theorem qj4 (F:Fun K "_law_climb" "_law_climb" zbk f fd)(zaa:Cal P w K mg base "_law_pick" 2 (v8 K)):FK P w K mg base 3 f fd ["_law_script","_law_at","_law_wide"] (Wu K):=by
 have sc:=Yh
 refine F.okX sc (λvs H Q E h=>by obtain ⟨_,_,_,_,rfl,_⟩:=h;rfl) λ_ _ _ _ H vs Q E hr h=>?_
 obtain ⟨a,ns,i,wd,rfl,hS,h0,w1,w2,k⟩:=h
 refine ⟨_,(qc (wf (i:=3) (yw (k6 (wCA zaa (wx (pv 0) (wx (pv 1) (w8 qd (xu (wy wn (pv 2) qd) qk))))) qk)))
   (qc (k4 aQ rfl (zw rfl T.range_ (wx (pv 2) qk)) (wt (i:=4)) (wq (zq (ur bu bC bD vg (pv 3) (k6 (wg (Y9 rfl) rfl T.max_ cD (w8 qd (k6 (wg (qv9 rfl) rfl T.min_ PyProof.Rows.boot_min (wx (pv 2) (xu (wy Qr (wy wn (vc k7 (pv 3) (pe_un qj6 qd) (λ_ _=>rfl)) (wy xb qd (wCA zaa (wx (pv 0) (wx (pv 1) (xu (wy wn qd (pv 4)) (w8 qd qk))))))) qd) qk))) qk))) qk)))))
   (wq (wp (pv 3))))),?_⟩
 refine exI rfl (exI rfl (exI rfl (wc rfl rfl ⟨a,ns,_,_,_,rfl,hS,h0,⋯,⋯,⋯,λr1 _ l1 u1=>⟨sz1,λp np=>?_⟩⟩)))
 refine ⟨_,rfl,wd,rfl,⋯,⋯,vh (λj σ H1=>∃(ys:List Int) (l:Int) (z:Option V),ys.length=j∧(∀h∈ys++[l],0≤h∧h≤wd)∧H1=upd H p (.lst ((ys++[l]).map V.int))∧σ=[some (.ref a),some (.int i),some (.int wd),some (.ref p),z])
  ⟨[],r1,none,rfl,(λh hh=>by have e:=ao.mp hh;subst e;lia),rfl,rfl⟩ ?_ ?_⟩
 ·rintro j σ H1 hj ⟨ys,l,z,hy,hb,rfl,rfl⟩
  have hp:upd H p (.lst ((ys++[l]).map V.int)) p=some (.lst ((ys++[l]).map V.int)):=qj
  have hS1:SqL K (upd H p (.lst ((ys++[l]).map V.int))) a (ns.map V.int):=Same.sql (Same.upd np) hS
  have hlast:atI ((ys++[l]).map V.int) (-1)=some (V.int l):=by
   rw [aP]
   exact qux _ _
  have hl:=hb l (by simp)
  refine exI rfl ⟨.inl ⟨rfl,_,SqL.of hp⟩,exI rfl (exI rfl (exI rfl (exX rfl rfl (SqL.of hp) hlast (exI rfl (exI rfl (exI rfl (wc rfl rfl ⟨a,ns,_,_,_,rfl,hS1,h0,⋯,⋯,⋯,λr2 _ l2 u2=>?_⟩)))))))⟩
  refine wc rfl rfl ⟨(by walk_at "mul"),wc rfl rfl (wc rfl rfl ⟨_,_,rfl,_,_,rfl,_,_,_,rfl,rfl,hp,?_,?_⟩)⟩
  ·rw [aa,aM,hy]
   have:(1000000:Nat)<sizeLine:=by decide
   simp only [aw,cv]
   lia
  ·refine ⟨ys++[l],(if (if l+2*r2-1<wd then l+2*r2-1 else wd)>0 then (if l+2*r2-1<wd then l+2*r2-1 else wd) else 0),_,by rw [aM,hy];rfl,λh hh=>?_,?_,rfl⟩
   ·rcases bq.mp hh with hh|hh
    ·exact hb h hh
    ·have e:=ao.mp hh
     subst e
     by_cases g1:l+2*r2-1<wd
     ·rw [aj g1]
      by_cases g2:l+2*r2-1>0
      ·rw [aj g2];lia
      ·rw [ag g2];lia
     ·rw [ag g1,aj (show wd>0 by lia)];lia
   ·rw [yk,aP (l₁:=ys++[l])]
    rfl
 ·rintro σ H1 ⟨ys,l,z,hy,hb,rfl,rfl⟩
  refine exI rfl (k p _ np ⟨?_,hb⟩)
  rw [aM,hy]
  simp only [aw,cv]
  lia
def Qp (K:Aa):Sp:=λvs H Q _=>∃(a:Aj) (ns:List Int) (i m:Int),vs=[.ref a,.int i,.int m]∧SqL K H a (ns.map V.int)∧0≤i∧1≤m∧m≤24 ∧
 ∀p hs wd,H p=none→1≤wd→wd≤m→InW hs wd→Q (.ref p) (upd H p (.lst (hs.map V.int)))
variable {wd:Int}
theorem qkc {n:Nat}(g:Nat→Int)(h1:(n:Int)=wd+1)(h2:∀i,i<n→0≤g i∧g i≤wd):InW ((List.range n).map g) wd:=by
 refine ⟨by rw [aa,bv];exact h1,λh hh=>?_⟩
 obtain ⟨i,hi,rfl⟩:=aA.mp hh
 exact h2 i (bj.mp hi)
theorem Yp (n:Nat)(g:Nat→Int):(List.range n).map (λi=>V.int (g i))=((List.range n).map g).map V.int:=by
 rw [be]
 rfl
include T in
theorem qzh (F:Fun K "_law_heights" "_law_heights" zbl f fd)(zaa:Cal P w K mg base "_law_pick" 2 (v8 K))(zff:Cal P w K mg base "_law_climb" 3 (Wu K)) :
  FK P w K mg base 4 f fd ["_law_script","_law_at","_law_most"] (Qp K):=by
 have sc:=Wv
 refine F.okX sc (λvs H Q E h=>by obtain ⟨_,_,_,_,rfl,_⟩:=h;rfl) λ_ _ _ _ H vs Q E hr h=>?_
 obtain ⟨a,ns,i,m,rfl,hS,h0,m1,m2,k⟩:=h
 refine ⟨_,(qc (wf (i:=3) (wy wn qd (wCA zaa (wx (pv 0) (wx (pv 1) (w8 qd (wx (pv 2) qk)))))))
   (qc (wf (i:=4) (wCA zaa (wx (pv 0) (wx (pv 1) (w8 qd (w8 qd qk))))))
   (qc (xm (w4 vb (pv 4) qd (w9 _)) (wq (wp (vz (M:=[3]) rfl rfl (by walk_at "cap") (by walk_at "has") (by walk_at "cix") rfl (by decide +kernel) rfl (show List.Nodup (["_law_k","_law_wide"]:List Str) by decide +kernel) (zw rfl T.range_ (xu (wy wn (pv 3) qd) qk)) (λ_ _ _ _ _=>(wy xb (pv 1) (wy zm (pv 0) qd)))))) w6)
   (qc (xm (w4 vb (pv 4) qd (w9 _)) (wq (wp (vz (M:=[]) rfl rfl (by walk_at "cap") (by walk_at "has") (by walk_at "cix") rfl (by decide +kernel) rfl (show List.Nodup (["_law_k"]:List Str) by decide +kernel) (zw rfl T.range_ (xu (wy wn (pv 3) qd) qk)) (λ_ _ _ _ _=>(pv 0))))) w6)
   (qc (xm (w4 vb (pv 4) qd (w9 _)) (wq (wp (vz (M:=[3]) rfl rfl (by walk_at "cap") (by walk_at "has") (by walk_at "cix") rfl (by decide +kernel) rfl (show List.Nodup (["_law_k","_law_wide"]:List Str) by decide +kernel) (zw rfl T.range_ (xu (wy wn (pv 3) qd) qk)) (λ_ _ _ _ _=>(wy Qr (pv 1) (pv 0)))))) w6)
   (qc (xm (w4 vb (pv 4) qd (w9 _)) (wq (wp (vz (M:=[3]) rfl rfl (by walk_at "cap") (by walk_at "has") (by walk_at "cix") rfl (by decide +kernel) rfl (show List.Nodup (["_law_k","_law_wide"]:List Str) by decide +kernel) (zw rfl T.range_ (xu (wy wn (pv 3) qd) qk)) (λ_ _ _ _ _=>(wy zm (wy wn (wy xb qd (pv 0)) qd) (wy wn (pv 1) qd)))))) w6)
   (qc (xm (PW.pt (qwd (w4 vb (pv 4) qd (w9 _)) (Zs (w4 vb (pv 4) qd (w9 _))))) (wq (wp (wCA zff (wx (pv 0) (wx (pv 1) (wx (pv 3) qk)))))) w6)
   (wq (wp (vz (M:=[0,1,3]) rfl rfl (by walk_at "cap") (by walk_at "has") (by walk_at "cix") rfl (by decide +kernel) rfl (show List.Nodup (["_law_k","_law_script","_law_at","_law_wide"]:List Str) by decide +kernel) (zw rfl T.range_ (xu (wy wn (pv 3) qd) qk)) (λ_ _ _ _ _=>(wb zaa (hr.mono ⋯) rfl qx7 (wx (pv 1) (wx (pv 2) (xu (wy wn qd (pv 0)) (xu (wy wn (pv 3) qd) qk)))))))))))))))),?_⟩
 refine exI rfl (exI rfl (exI rfl ⟨a,ns,_,_,_,rfl,hS,h0,⋯,⋯,⋯,λr1 _ l1 u1=>?_⟩))
 refine wc rfl rfl (exI rfl (exI rfl ⟨a,ns,_,_,_,rfl,hS,h0,⋯,⋯,⋯,λkd _ l2 u2=>?_⟩))
 have hn:((1+r1+1).toNat:Int)=1+r1+1:=by lia
 have hn2:(1+r1+1).toNat≤1000000:=by lia
 have fin:∀(g:Nat→Int) (p:Aj),(∀j,j<(1+r1+1).toNat→0≤g j∧g j≤1+r1)→H p=none→Q (.ref p) (upd H p (.lst ((List.range (1+r1+1).toNat).map λj=>V.int (g j)))):=λg p hg np=>by
  rw [Yp]
  exact k p _ (1+r1) np ⋯ ⋯ (qkc g hn hg)
 refine exI rfl ⟨rfl,_,rfl,jj (λq1=>?_) (λq1=>?_)⟩
 ·refine exI rfl (wc rfl rfl ⟨1+r1+1,rfl,⋯,⋯,kj (λj=>V.int ((1+r1)*(((0:Int)+j)%2))) hn2 (λj H' R hj hs hR=>?_) λp np=>fin _ p (λj hj=>?_) np⟩)
  ·exact exI rfl (exI rfl (wc rfl rfl ⟨(by walk_at "pos"),wc rfl rfl ⟨(by walk_at "mul"),hR⟩⟩))
  ·have a1:=aT ((0:Int)+j) (show (2:Int)≠0 by decide)
   have a2:=aU ((0:Int)+j) (show (0:Int)<2 by decide)
   rcases (by lia:((0:Int)+j)%2=0∨((0:Int)+j)%2=1) with e|e <;> rw [e] <;> lia
 ·refine exI rfl ⟨rfl,_,rfl,jj (λq2=>?_) (λq2=>?_)⟩
  ·refine exI rfl (wc rfl rfl ⟨1+r1+1,rfl,⋯,⋯,kj (λj=>V.int ((0:Int)+j)) hn2 (λj H' R hj hs hR=>?_) λp np=>fin _ p (λj hj=>by lia) np⟩)
   exact exI rfl hR
  ·refine exI rfl ⟨rfl,_,rfl,jj (λq3=>?_) (λq3=>?_)⟩
   ·refine exI rfl (wc rfl rfl ⟨1+r1+1,rfl,⋯,⋯,kj (λj=>V.int (1+r1-((0:Int)+j))) hn2 (λj H' R hj hs hR=>?_) λp np=>fin _ p (λj hj=>by lia) np⟩)
    exact exI rfl (exI rfl (wc rfl rfl hR))
   ·refine exI rfl ⟨rfl,_,rfl,jj (λq4=>?_) (λq4=>?_)⟩
    ·refine exI rfl (wc rfl rfl ⟨1+r1+1,rfl,⋯,⋯,kj (λj=>V.int ((2*((0:Int)+j)+1)%(1+r1+1))) hn2 (λj H' R hj hs hR=>?_) λp np=>fin _ p (λj hj=>?_) np⟩)
     ·exact exI rfl (wc rfl rfl ⟨(by walk_at "mul"),wc rfl rfl (exI rfl (wc rfl rfl (wc rfl rfl ⟨(by walk_at "pos"),hR⟩)))⟩)
     ·have a1:=aT (2*((0:Int)+j)+1) (show 1+r1+1≠0 by lia)
      have a2:=aU (2*((0:Int)+j)+1) (show 0<1+r1+1 by lia)
      lia
    ·have last:tRet (tComp [0,1,3] (iRng1 (zh (tOp (rI0 λi j=>.int (i+j)) (ud 3) (tC (.int 1))) Q8)) (W5 (v8 K) (λ_=>E0) (zh (ud 1) (zh (ud 2) (zh (tOp (rI0 λi j=>.int (i+j)) (tC (.int 3)) (ud 0)) (zh (tOp (rI0 λi j=>.int (i+j)) (ud 3) (tC (.int 1))) Q8))))))
       { nx:=λ_ H'=>Q .non H',rt:=Q } [some (.ref a),some (.int i),some (.int m),some (.int (1+r1)),some (.int kd)] H:=by
      refine exI rfl (wc rfl rfl ⟨1+r1+1,rfl,⋯,⋯,kj (λj=>V.int (qwg ns i (3+((0:Int)+j)) (1+r1+1))) hn2 (λj H' R hj hs hR=>?_) λp np=>fin _ p (λj hj=>?_) np⟩)
      ·refine exI rfl (exI rfl (exI rfl (wc rfl rfl (exI rfl (wc rfl rfl ⟨a,ns,_,_,_,rfl,Same.sql hs hS,h0,⋯,⋯,⋯,λr e _ _=>?_⟩)))))
       rw [e]
       exact hR
      ·have a1:=qyc ns i (3+((0:Int)+j)) (1+r1+1) ⋯
       have a2:=qy5 ns i (3+((0:Int)+j)) (1+r1+1) ⋯
       lia
     have climb:tRet (W5 (Wu K) (λ_=>E) (zh (ud 0) (zh (ud 1) (zh (ud 3) Q8)))) { nx:=λ_ H'=>Q .non H',rt:=Q } [some (.ref a),some (.int i),some (.int m),some (.int (1+r1)),some (.int kd)] H :=
      (exI rfl (exI rfl (exI rfl ⟨a,ns,i,1+r1,rfl,hS,h0,⋯,⋯,λp hs np hw=>k p hs (1+r1) np ⋯ ⋯ hw⟩)))
     refine exI rfl ⟨rfl,_,rfl,jj (λq5=>W7 climb) (λq5=>?_)⟩
     exact exI rfl ⟨rfl,_,rfl,jj (λq6=>climb) (λq6=>last)⟩
def Yt:Sp:=λvs H Q _=>∃x y:Int,vs=[.int x,.int y]∧0≤x∧0≤y∧Q (.int (Q5 x y)) H
theorem qw4 {tb:TS}{c:TT}{D:Ends}{x y:Int}(hx:0≤x)(hy:0≤y)(hc:c=tTest (tOp (rI0 λi j=>.bl (decide (j<i))) (ud 1) (tC (.int 0))))(hb:tb=tPar 0 1 (zh (ud 1) (zh (tOp (rI (λ_ j=>0<j) λi j=>.int (i%j)) (ud 0) (ud 1)) Q8)))
  (hD:D.nx [some (.int (Q5 x y)),some (.int 0)] H):qz3 c tb D [some (.int x),some (.int y)] H:=by
 subst hc hb
 refine quf (λσ H1=>H1=H∧∃u v:Int,σ=[some (.int u),some (.int v)]∧0≤u∧0≤v∧Q5 u v=Q5 x y) (λσ _=>match σ with|[_,some (.int v)]=>v.toNat|_=>0) ⟨rfl,x,y,rfl,hx,hy,rfl⟩ ?_ λσ H Q Q' h ⟨v,e,i,j,e1,e2,k,e3,q⟩=>⟨v,e,i,j,e1,e2,k,e3,h _ _ q⟩
 rintro σ H1 ⟨rfl,u,v,rfl,hu,hv,e⟩
 refine exI rfl (wc rfl rfl (exI rfl ?_))
 refine jy (λq=>?_) (λq=>?_)
 ·have h1:=aT u (show v≠0 by lia)
  have h2:=aU u q
  refine exI rfl (exI rfl (exI rfl (wc rfl rfl ⟨q,_,_,rfl,⟨rfl,v,u%v,rfl,hv,h1,?_⟩,?_⟩)))
  ·rw [qkk hu q,e]
  ·show (u%v).toNat<v.toNat
   lia
 ·have z:v=0:=by lia
  subst z
  rw [qkm hu] at e
  subst e
  exact hD
include T in
theorem zfg (F:Fun K "common_divisor" "common_divisor" zar f fd):FK P w K mg base 1 f fd ["one","other"] Yt:=by
 have sc:=u7
 refine F.okX sc (λvs H Q E h=>by obtain ⟨_,_,rfl,_⟩:=h;rfl) λ_ _ _ _ H vs Q E hr h=>?_
 obtain ⟨x,y,rfl,hx,hy,k⟩:=h
 refine ⟨_,(qc (qwb aQ (w4 Q2 (pv 1) qd (w9 _)) (wq (qyf (i:=0) (j:=1) rfl sc.nd rfl rfl ⋯ rfl rfl (wx (pv 1) (xu (wy zm (pv 0) (pv 1)) qk)) rfl)))
   (wq (wp (pv 0)))),?_⟩
 exact qw4 hx hy rfl rfl (exI rfl k)
include T in
theorem qv3 (F:Fun K "_law_common" "_law_common" zbn f fd):FK P w K mg base 1 f fd ["_law_one","_law_other"] Yt:=by
 have sc:=Zy
 refine F.okX sc (λvs H Q E h=>by obtain ⟨_,_,rfl,_⟩:=h;rfl) λ_ _ _ _ H vs Q E hr h=>?_
 obtain ⟨x,y,rfl,hx,hy,k⟩:=h
 refine ⟨_,(qc (qwb aQ (w4 Q2 (pv 1) qd (w9 _)) (wq (qyf (i:=0) (j:=1) rfl sc.nd rfl rfl ⋯ rfl rfl (wx (pv 1) (xu (wy zm (pv 0) (pv 1)) qk)) rfl)))
   (wq (wp (pv 0)))),?_⟩
 exact qw4 hx hy rfl rfl (exI rfl k)
def ptV (p:Int×Int):List V:=[.int p.1,.int p.2]
def Qq (C:Aj):Sp:=λvs H Q E=>∃t b:Int,vs=[.int t,.int b]∧(1≤b→Sm 9000 b∧∀p,H p=none→Q (.ref p) (upd H p (.tup (ptV (wm t b)))))∧(b<1→E (.ref C) none H)
include T in
theorem qv5 (F:Fun K "lowest" "lowest" zas f fd)(zfh:Cal P w K mg base "check_bottom" 1 (qqc qx))(zfi:Cal P w K mg base "common_divisor" 1 Yt) :
  FK P w K mg base 2 f fd ["top","bottom"] (Qq qx):=by
 have sc:=qv1
 refine F.okX sc (λvs H Q E h=>by obtain ⟨_,_,rfl,_⟩:=h;rfl) λ_ _ _ _ H vs Q E hr h=>?_
 obtain ⟨t,b,rfl,k,x⟩:=h
 refine ⟨_,(qc (zq (wCA zfh (wx (pv 1) qk)))
   (qc (wf (i:=2) (wCA zfi (k6 (wg uh rfl T.abs_ u8 (wx (pv 0) qk)) (wx (pv 1) qk))))
   (wq (wp (jz (xu (wy j0 (pv 0) (pv 2)) (xu (wy j0 (pv 1) (pv 2)) qk))))))),?_⟩
 refine ⟨_,rfl,b,rfl,λg1=>?_,λg1=>x g1⟩
 obtain ⟨sb,k⟩:=k g1
 have hg:=k9 (t:=t) g1
 have hs:Sm 9000 (gOf t b):=sb.of_le (by have:=qjk (t:=t) g1;lia)
 refine exI rfl (exI rfl (exI rfl ⟨js t,b,rfl,qvd t,⋯,?_⟩))
 refine exI rfl ⟨V.int (gOf t b),rfl,wc rfl rfl ⟨⟨⋯,hs⟩,exI rfl ⟨V.int (gOf t b),rfl,wc rfl rfl ⟨⟨⋯,hs⟩,sz2,λp n=>?_⟩⟩⟩⟩
 exact k p n
def qyx:Sp:=λvs H Q _=>∃t b:Int,vs=[.int t,.int b]∧1≤b∧Sm 9000 b∧∀p,H p=none→Q (.ref p) (upd H p (.tup (ptV (wm t b))))
include T in
theorem zfj (F:Fun K "_law_low" "_law_low" zbo f fd)(zfk:Cal P w K mg base "_law_common" 1 Yt):FK P w K mg base 2 f fd ["_law_top","_law_bottom"] qyx:=by
 have sc:=qw3
 refine F.okX sc (λvs H Q E h=>by obtain ⟨_,_,rfl,_⟩:=h;rfl) λ_ _ _ _ H vs Q E hr h=>?_
 obtain ⟨t,b,rfl,g1,sb,k⟩:=h
 have hg:=k9 (t:=t) g1
 have hs:Sm 9000 (gOf t b):=sb.of_le (by have:=qjk (t:=t) g1;lia)
 refine ⟨_,(qc (wf (i:=2) (wCA zfk (k6 (wg uh rfl T.abs_ u8 (wx (pv 0) qk)) (wx (pv 1) qk))))
   (wq (wp (jz (xu (wy j0 (pv 0) (pv 2)) (xu (wy j0 (pv 1) (pv 2)) qk)))))),?_⟩
 refine exI rfl (exI rfl (exI rfl ⟨js t,b,rfl,qvd t,⋯,?_⟩))
 refine exI rfl ⟨V.int (gOf t b),rfl,wc rfl rfl ⟨⟨⋯,hs⟩,exI rfl ⟨V.int (gOf t b),rfl,wc rfl rfl ⟨⟨⋯,hs⟩,sz2,λp n=>?_⟩⟩⟩⟩
 exact k p n
def jg (hs:List Int)(t b:Int):Prop:=0≤t∧t≤((hs.length:Int)-1)*b
def Z2 (K:Aa)(C CB CO:Aj):Sp:=λvs H Q E=>∃(r p:Aj) (hs:List Int) (t b:Int),vs=[.ref r,.ref p]∧RoadAt C H r hs∧xv hs∧SqT K H p [.int t,.int b] ∧
 (1≤b→Sm 8000 b∧(jg hs t b→∀q H',Same H H'→H' q=some (.tup (ptV (wm t b)))→Q (.ref q) H')∧(¬ jg hs t b→∀H',Same H H'→E (.ref CO) none H'))∧(b<1→E (.ref CB) none H)
include T in
theorem qzy (F:Fun K "on_road" "Road.on_road" zax f fd)(zfl:MCal P w K mg base qg "width" 1 (qqj qg))(zby:Cal P w K mg base "lowest" 2 (Qq qx)) :
  FK P w K mg base 3 f fd ["self","point"] (Z2 K qg qx qp):=by
 have sc:=Q9
 refine F.okX sc (λvs H Q E h=>by obtain ⟨_,_,_,_,_,rfl,_⟩:=h;rfl) λ_ _ _ _ H vs Q E hr h=>?_
 obtain ⟨r,p,hs,t,b,rfl,hR,hok,hp,kq,x⟩:=h
 obtain ⟨dx,q,h1,h2⟩:=id hR
 refine ⟨_,(qc (yq (wCA zby (yh (vc yt (pv 1) qd (λ_ _=>rfl)) (yh (vc yt (pv 1) qd (λ_ _=>rfl)) qk))) (jw rfl (xz (wt (i:=2)) (xz (wt (i:=3)) vw))))
   (qc (xm (PW.pt (qwd (w4 Q3 (pv 2) qd (w9 _)) (Zs (w4 Q2 (pv 2) (wy xb (jv (pv 0) T.cl zfl (hr.mono ⋯) qr) (pv 3)) (w9 _))))) (wq (zp rfl T.zai zj rfl T.ze4 (w8 xn qk))) w6)
   (wq (wp (jz (wx (pv 2) (wx (pv 3) qk))))))),?_⟩
 refine ⟨_,rfl,_,_,_,_,rfl,rfl,hp,rfl,_,rfl,_,_,_,_,rfl,rfl,hp,rfl,t,b,rfl,λhb=>⟨(kq hb).1.mono ⋯,λp1 n1=>?_⟩,λz=>x z⟩
 obtain ⟨sb,k1,k2⟩:=kq hb
 have s1:Same H (upd H p1 (.tup (ptV (wm t b)))):=Same.upd n1
 have hl:=hok.2.1
 refine ⟨p1,exI rfl ⟨SqT.new,rfl,_,_,rfl,_,_,rfl,rfl,?_⟩⟩
 refine exI rfl (wc rfl rfl (exI rfl ?_))
 refine jy (λq1=>?_) (λq1=>?_)
 ·refine W7 ?_
  exact ⟨sz1,k2 (λz=>by have:=(Jr hb).mp q1;have:=z.1;lia) _ s1⟩
 ·refine exI rfl (exI rfl ⟨r,dx,exI rfl ⟨s1 _ _ h1,y0 (by decide +kernel),r,hs,rfl,hR.same s1,exI rfl (wc rfl rfl ⟨IntMulOk.of_left (intBits_le_64 ⋯ ⋯),wc rfl rfl (exI rfl ?_)⟩)⟩⟩)
  refine jy (λq2=>?_) (λq2=>?_)
  ·exact ⟨sz1,k2 (λz=>by have:=(qzv hb).mp q2;have:=z.2;lia) _ s1⟩
  ·refine exI rfl (exI rfl ⟨sz2,λp2 n2=>?_⟩)
   refine k1 ⟨?_,?_⟩ p2 _ (s1.trans (Same.upd n2)) qj
   ·rcases cm t 0 with z|z
    ·exact absurd ((Jr hb).mpr z) q1
    ·exact z
   ·rcases cm (((hs.length:Int)-1)*b) t with z|z
    ·exact absurd ((qzv hb).mpr z) q2
    ·exact z
variable {x dx:Aj}
theorem qv4 (nx:H x=none)(nd:H dx=none)(h:∀b o,upd (upd H dx (.own x)) x (.ins C dx []) b=some o→b≠x→H' b=some o):Same H H':=λb o e =>
 h b o (by rw [q9 (qm e nx),q9 (qm e nd)];exact e) (qm e nx)
variable {p:Aj}
theorem Same.upd2 {o:HO}(s:Same H H')(n:H p=none):Same H (L2.upd H' p o):=λb u e=>by
 rw [q9 (qm e n)]
 exact s b u e
theorem quz {x y b d:Int}(hb:1≤b)(hd:1≤d):x*d=y*b↔wm x b=wm y d:=by
 constructor
 ·intro e
  rw [←uv (t:=x) hb hd,e,Int.mul_comm b d,uv hd hb]
 ·intro e
  have c1:=Jj (t:=x) hb
  have c2:=Jj (t:=y) hd
  have v1:=Jd (t:=x) hb
  rw [←e] at c2
  have h:x*d*(wm x b).2=y*b*(wm x b).2:=by
   have a1:x*d*(wm x b).2=x*(wm x b).2*d:=by grind
   have a2:y*b*(wm x b).2=y*(wm x b).2*b:=by grind
   rw [a1,a2,←c1,←c2]
   grind
  exact Int.eq_of_mul_eq_mul_right ⋯ h
variable {hs:List Int}{E:XK}
theorem qu2 {CB:Aj}{Pp:Hp→Prop}(f:H p=some (.lst (hs.map V.int)))(nx:H x=none)(nd:H dx=none)(k:xv hs→∀H',Same H H'→RoadAt C H' x hs→Pp H')(bad:¬ xv hs→∀H',Same H H'→E (.ref CB) none H') :
  qqy K CB C [.ref x,.ref p] (upd (upd H dx (.own x)) x (.ins C dx [])) (λr H2=>r=.non∧Pp H2) E:=by
 refine ⟨x,dx,p,hs,rfl,qj,SqL.of (by rw [q9 (qm f nx),q9 (qm f nd)];exact f),λok H4 q nq kp r l=>⟨rfl,k ok H4 (qv4 nx nd kp) ⟨dx,q,r,l⟩⟩,λz=>bad z _ ?_⟩
 exact λb o e=>by rw [q9 (qm e nx),q9 (qm e nd)];exact e
theorem low_on {t b:Int}(hb:1≤b)(hon:jg hs t b):jg hs (wm t b).1 (wm t b).2:=by
 constructor
 ·rcases cm (wm t b).1 0 with z|z
  ·have:=(Jr hb).mp z
   have:=hon.1
   lia
  ·exact z
 ·rcases cm (((hs.length:Int)-1)*(wm t b).2) (wm t b).1 with z|z
  ·have:=(qzv hb).mp z
   have:=hon.2
   lia
  ·exact z
def Pt (hs:List Int)(c:Int)(p:Int×Int):Prop:=1≤p.2∧p.2≤c∧gOf p.1 p.2=1∧jg hs p.1 p.2
theorem pt_low {t b:Int}(hb:1≤b)(hon:jg hs t b):Pt hs b (wm t b):=⟨Jd hb,low_le hb,qys hb,low_on hb hon⟩
theorem qvg {t b:Int}(hb:1≤b)(g:gOf t b=1):wm t b=(t,b):=by
 unfold wm
 rw [g,Int.ediv_one,Int.ediv_one]
def qqv (K:Aa):Sp:=λvs H Q _=>∃(a:Aj) (ns:List Int) (i wd mo:Int),vs=[.ref a,.int i,.int wd,.int mo]∧SqL K H a (ns.map V.int)∧0≤i∧1≤wd∧wd≤24∧6≤mo∧mo≤1000 ∧
 ∀p t b c,H p=none→1≤b→b≤mo→1≤c→c≤3→0≤t→t≤wd*b→Q (.ref p) (upd H p (.tup [.int (t*c),.int (b*c)]))
include T in
theorem qjc (F:Fun K "_law_spot" "_law_spot" zbm f fd)(zaa:Cal P w K mg base "_law_pick" 2 (v8 K)):FK P w K mg base 3 f fd ["_law_script","_law_at","_law_wide","_law_most"] (qqv K):=by
 have sc:=qq0
 refine F.okX sc (λvs H Q E h=>by obtain ⟨_,_,_,_,_,rfl,_⟩:=h;rfl) λ_ _ _ _ H vs Q E hr h=>?_
 obtain ⟨a,ns,i,wd,mo,rfl,hS,i0,w1,w2,o1,o2,k⟩:=h
 refine ⟨_,(qc (wf (i:=4) (wy wn qd (wCA zaa (wx (pv 0) (wx (pv 1) (w8 qd (wx (pv 3) qk)))))))
   (ux (xm (w4 vb (wCA zaa (wx (pv 0) (wx (pv 1) (w8 qd (w8 qd qk))))) qd (w9 _)) (wq (wf (i:=4) (wy wn qd (wy zm (pv 4) qd)))) w6)
   (qc (wf (i:=5) (wy wn (wy xb (wCA zaa (wx (pv 0) (wx (pv 1) (w8 qd (wx (pv 2) qk))))) (pv 4)) (wCA zaa (wx (pv 0) (wx (pv 1) (w8 qd (xu (wy wn (pv 4) qd) qk)))))))
   (qc (wf (i:=6) (wy wn qd (wCA zaa (wx (pv 0) (wx (pv 1) (w8 qd (w8 qd qk)))))))
   (wq (wp (jz (xu (wy xb (pv 5) (pv 6)) (xu (wy xb (pv 4) (pv 6)) qk))))))))),?_⟩
 refine exI rfl (exI rfl (exI rfl ⟨a,ns,_,_,_,rfl,hS,i0,⋯,⋯,⋯,λr1 _ l1 u1=>?_⟩))
 refine ⟨_,_,rfl,rfl,λσ H'=>∃b,σ=[some (.ref a),some (.int i),some (.int wd),some (.int mo),some (.int b),none,none]∧1≤b∧b≤mo∧H'=H,?_,?_⟩
 ·refine exI rfl (exI rfl ⟨a,ns,_,_,_,rfl,hS,i0,⋯,⋯,⋯,λr2 _ l2 u2=>?_⟩)
  refine ⟨rfl,_,rfl,jj (λq1=>?_) (λq1=>?_)⟩
  ·have e1:=aT (1+r1) (show (6:Int)≠0 by decide)
   have e2:=aU (1+r1) (show (0:Int)<6 by decide)
   exact ⟨_,rfl,_,_,rfl,rfl,(by walk_at "pos"),_,_,rfl,rfl,_,rfl,⋯,⋯,rfl⟩
  ·exact ⟨_,rfl,⋯,⋯,rfl⟩
 ·rintro σ Hx ⟨b,rfl,b1,b2,rfl⟩
  refine exI rfl (exI rfl (exI rfl ⟨a,ns,_,_,_,rfl,hS,i0,⋯,⋯,⋯,λr3 _ l3 u3=>?_⟩))
  refine exI rfl (wc rfl rfl ⟨(by walk_at "mul"),exI rfl (exI rfl (exI rfl (wc rfl rfl ⟨a,ns,_,_,_,rfl,hS,i0,⋯,⋯,⋯,λr4 _ l4 u4=>?_⟩)))⟩)
  refine wc rfl rfl ?_
  refine exI rfl (exI rfl ⟨a,ns,_,_,_,rfl,hS,i0,⋯,⋯,⋯,λr5 _ l5 u5=>?_⟩)
  refine wc rfl rfl ?_
  have h1:=cG (show r3≤wd-1 by lia) (show 0≤b by lia)
  have h2:(wd-1)*b=wd*b-b:=by rw [Int.sub_mul,Int.one_mul]
  have h3:=Int.mul_nonneg l3 (show 0≤b by lia)
  refine exI rfl ⟨V.int (1+r5),rfl,wc rfl rfl ⟨(by walk_at "mul"),exI rfl ⟨V.int (1+r5),rfl,wc rfl rfl ⟨(by walk_at "mul"),sz2,λp np=>?_⟩⟩⟩⟩
  exact k p _ b (1+r5) np b1 b2 ⋯ ⋯ ⋯ ⋯
def qq8 (c:Nat):Bool:=!(Builtin.Str.occurrences (Str.ofString "abcdefghijklmnopqrstuvwxyz") ⟨#[c]⟩ 0 (Str.ofString "abcdefghijklmnopqrstuvwxyz").length 1).isEmpty
def zk (x:Str):Bool:=decide (1≤x.length∧x.length≤12)&&(List.range x.cps.size).all λi=>qq8 (x.cps.getD i 0)
def W6:Sp:=λvs H Q _=>∃x:Str,vs=[.str x]∧x.length≤1000∧∀H',Same H H'→Q (.bl (zk x)) H'
include T in
theorem qx3 (F:Fun K "is_name" "is_name" za0 f fd):FK P w K mg base 1 f fd ["name"] W6:=by
 have sc:=qxs
 refine F.okX sc (λvs H Q E h=>by obtain ⟨_,rfl,_⟩:=h;rfl) λ_ _ _ _ H vs Q E hr h=>?_
 obtain ⟨x,rfl,hx,k⟩:=h
 obtain ⟨tn,zac⟩:=T.zac
 obtain ⟨tl,zae⟩:=T.zae
 have big:(1000000:Nat)<sizeLine:=by decide
 refine ⟨_,(qc (xm (PW.pt (qwd (w4 Q3 (wg uf rfl T.len_ aW (wx (pv 0) qk)) qd (w9 _)) (Zs (w4 Q2 (wg uf rfl T.len_ aW (wx (pv 0) qk)) (Wb (v:=V.int 12) rfl zac ⟨_,rfl⟩) (w9 _))))) (wq (wp qvx)) w6)
   (wq (wp (wg (Yc rfl) rfl T.all_ quc (xq (vz (M:=[]) rfl rfl (by walk_at "cap") (by walk_at "has") (by walk_at "cix") rfl (by decide +kernel) rfl (show List.Nodup (["sign"]:List Str) by decide +kernel) (pi_str (pv 0)) (λ_ _ _ _ _=>(yx qk4 (pv 0) (Wb (v:=V.str "abcdefghijklmnopqrstuvwxyz") rfl zae ⟨_,rfl⟩) rfl))) qk))))),?_⟩
 refine ⟨_,rfl,x,rfl,⋯,_,_,rfl,rfl,_,rfl,?_⟩
 have no:∀z:¬ (1≤x.length∧x.length≤12),zk x=false:=λz=>by unfold zk;rw [aY z];rfl
 refine jy (λq1=>?_) (λq1=>?_)
 ·refine W7 ?_
  have:=k H (Same.refl _)
  rw [no ⋯] at this
  exact this
 ·refine ⟨_,rfl,x,rfl,⋯,_,_,rfl,rfl,_,rfl,jy (λq2=>?_) (λq2=>?_)⟩
  ·have:=k H (Same.refl _)
   rw [no ⋯] at this
   exact this
  ·refine exI rfl ⟨x,rfl,qjh (λi=>.bl (qq8 (x.cps.getD i 0))) (by show x.length≤1000000;lia) (λi H' R hi hs hR=>?_) λp np=>?_⟩
   ·exact exI rfl (wc rfl rfl hR)
   ·have e:zk x=((List.range x.cps.size).map λi=>qq8 (x.cps.getD i 0)).all id:=by
     unfold zk
     rw [bn (show 1≤x.length∧x.length≤12 by lia),List.all_map]
     rfl
    refine ⟨p,(List.range x.cps.size).map λi=>qq8 (x.cps.getD i 0),rfl,?_,?_⟩
    ·rw [be]
     exact SqL.new
    ·rw [←e]
     exact k _ (Same.upd np)
def yz (CN CT:Aj):Sp:=λvs H Q E=>∃(x:Str) (d:Aj) (kvs:List (Key×V)),vs=[.str x,.ref d]∧x.length≤1000∧H d=some (.dK kvs) ∧
 (zk x=true→wj kvs (.inr x)=none→∀H',Same H H'→Q .non H')∧(zk x=false→∀H',Same H H'→E (.ref CN) none H')∧(zk x=true→(wj kvs (.inr x)).isSome=true→∀H',Same H H'→E (.ref CT) none H')
include T in
theorem qxk (F:Fun K "check_new_name" "check_new_name" za1 f fd)(zfm:Cal P w K mg base "is_name" 1 W6):FK P w K mg base 2 f fd ["name","things"] (yz qb wz):=by
 have sc:=uw
 refine F.okX sc (λvs H Q E h=>by obtain ⟨_,_,_,rfl,_⟩:=h;rfl) λ_ _ _ _ H vs Q E hr h=>?_
 obtain ⟨x,d,kvs,rfl,hx,hd,k,kn,kt⟩:=h
 refine ⟨_,(qc (xm (qzb (qzr (wCA zfm (wx (pv 0) qk)))) (wq (zp rfl T.zaj zj rfl T.ze5 (w8 xn qk))) w6)
   (wq (xm (qqf (pc_din (kf hr) (pv 0) (pv 1))) (wq (zp rfl T.zak zj rfl T.ze6 (w8 xn qk))) w6))),?_⟩
 refine exI rfl ⟨x,rfl,hx,λH1 s1=>(exI rfl ?_)⟩
 have dg:DGet H1 d (.str x) (wj kvs (.inr x)):=DGet.k (k:=.inr x) (s1 _ _ hd)
 cases hn:zk x with
 |false=>exact W7 ⟨sz1,kn hn H1 s1⟩
 |true =>
  refine Z8 (exI rfl (exI rfl ⟨d,exI rfl ⟨dg,_,rfl,?_⟩⟩))
  cases hv:wj kvs (.inr x) with
  |none=>exact Z8 (k hn hv H1 s1)
  |some v=>exact W7 ⟨sz1,kt hn (by rw [hv];rfl) H1 s1⟩
def qq4:Sp:=λvs H Q _=>∃(t c:Aj) (R cs:List (Key×V)),vs=[.ref t,.ref c]∧t≠c∧H t=some (.dK R)∧Rd H c (.dK cs)∧(cs.map (·.1)).Nodup∧R.length≤1000∧cs.length≤1000∧ExOk R cs ∧
 ∀q H',H q=none→H' q=some (.dK (bfK R cs))→H' t=some (.dK (exK R cs))→Rd H' c (.dK cs)→Kb [t,c] H H'→Q (.ref q) H'
include T in
theorem wq5 (F:Fun K "exchange" "exchange" za2 f fd):FK P w K mg base 1 f fd ["things","changes"] qq4:=by
 have sc:=qxv
 refine F.okX sc (λvs H Q E h=>by obtain ⟨_,_,_,_,rfl,_⟩:=h;rfl) λ_ _ _ s H vs Q E hr h=>?_
 obtain ⟨t,c,R,cs,rfl,tc,ht,hc,nd,lR,lc,ok,k⟩:=h
 have big:(1000000:Nat)<sizeLine:=by decide
 refine ⟨_,(qc (qxq (i:=2) (M:=[0]) sc.nd rfl (by walk_at "loc") rfl rfl (by walk_at "cap") (by walk_at "has") (by walk_at "cix") rfl (by decide +kernel) rfl (show List.Nodup (["name","things"]:List Str) by decide +kernel) (pi_dk (pv 1)) (λ_ _ _ _ _=>(pv 0)) (λ_ _ _ _ _=>(qub (kf hr) (pv 1) (pv 0) ⟨rfl,rfl,rfl,rfl⟩)))
   (qc (k4 aQ rfl (pi_di (pv 1)) (jw rfl (xz (wt (i:=3)) (xz (wt (i:=4)) vw))) (wq (xm (w4 op_isN (pv 4) pe_non (w9 _)) (wq (wqy (pv 0) (pv 3))) (wq (qqg (kf hr) (pv 0) (pv 3) (pv 4) rfl)))))
   (wq (wp (pv 2))))),?_⟩
 refine exI rfl ⟨c,cs,rfl,hc,λo H1 fz=>?_⟩
 have ht1:H1 t=some (.dK R):=by rw [fz.2 t tc];exact ht
 refine qyp (λk=>(wj R k).getD .non) ⋯ nd fz.1 (λk H' RR s' hR=>(exI rfl (exI rfl ⟨t,rfl,.inl ⟨R,.inl (s' _ _ ht1)⟩,exI rfl ⟨_,DGet.k (k:=k) (s' _ _ ht1),hR⟩⟩))) λq nq=>?_
 have nq0:H q=none:=by
  cases e:H q with
  |none=>rfl
  |some ob =>
   by_cases z:q=c
   ·rw [z,fz.1] at nq;cases nq
   ·rw [fz.2 q z,e] at nq;cases nq
 have s2:Same H1 (upd H1 q (.dK (bfK R cs))):=Same.upd nq
 have fq:upd H1 q (.dK (bfK R cs)) q=some (.dK (bfK R cs)):=qj
 have c2:upd H1 q (.dK (bfK R cs)) c=some (.frz o (.dK cs)):=s2 _ _ fz.1
 have t2:upd H1 q (.dK (bfK R cs)) t=some (.dK R):=s2 _ _ ht1
 have tq:t≠q:=qm ht1 nq
 have kb:Kb [t,c] H (upd H1 q (.dK (bfK R cs))):=λb ob nb e=>s2 _ _ (by rw [fz.2 b (λz=>nb (by simp [z]))];exact e)
 have sel:(cs.map λc=>(c.1,(wj R c.1).getD .non))=bfK R cs:=rfl
 rw [sel]
 generalize upd H1 q (.dK (bfK R cs))=H2 at fq c2 t2 kb
 refine exI rfl ⟨c,cs,rfl,.inr ⟨o,c2⟩,λo' H3 fz3=>?_⟩
 have cq:q≠c:=λz=>by rw [z,c2] at fq;cases fq
 have t3:H3 t=some (.dK R):=by rw [fz3.2 t tc];exact t2
 have q3:H3 q=some (.dK (bfK R cs)):=by rw [fz3.2 q cq];exact fq
 have kb3:Kb [t,c] H H3:=λb ob nb e=>by rw [fz3.2 b (λz=>nb (by simp [z]))];exact kb b ob nb e
 refine for_di (λi σ H'=>(∃z3 z4,σ=[some (.ref t),some (.ref c),some (.ref q),z3,z4])∧H' c=some (.frz o' (.dK cs))∧H' q=some (.dK (bfK R cs))∧H' t=some (.dK (exK R (cs.take i)))∧Kb [t,c] H H') ⟨⟨_,_,rfl⟩,fz3.1,q3,t3,kb3⟩ (λi σ H' hi h=>h.2.1) ?_ ?_
 ·rintro i cc z σ H' ec nz ⟨⟨z3,z4,rfl⟩,a1,a2,a3,a4⟩
  have s4:Same H' (upd H' z (.tup [kV cc.1,cc.2])):=Same.upd nz
  refine ⟨z,exI rfl ⟨SqT.new,rfl,_,_,rfl,_,_,rfl,rfl,?_⟩⟩
  have b1:=s4 _ _ a1
  have b2:=s4 _ _ a2
  have b3:=s4 _ _ a3
  have b4:Kb [t,c] H (upd H' z (.tup [kV cc.1,cc.2])):=λb ob nb e=>s4 _ _ (a4 b ob nb e)
  generalize upd H' z (.tup [kV cc.1,cc.2])=H4 at b1 b2 b3 b4
  have le:=wqg R (cs.take i)
  have lt:(cs.take i).length≤1000:=by rw [br];lia
  have et:=wq4 R ec
  have tq':t≠q:=tq
  have step:∀R',ex1 (exK R (cs.take i)) cc=R'→(∃z3' z4',[some (V.ref t),some (V.ref c),some (V.ref q),some (kV cc.1),some cc.2]=[some (V.ref t),some (V.ref c),some (V.ref q),z3',z4'])∧upd H4 t (.dK R') c=some (.frz o' (.dK cs))∧upd H4 t (.dK R') q=some (.dK (bfK R cs))∧upd H4 t (.dK R') t=some (.dK (exK R (cs.take (i+1))))∧Kb [t,c] H (upd H4 t (.dK R')):=λR' e=>by
   refine ⟨⟨_,_,rfl⟩,?_,?_,?_,λb ob nb e'=>?_⟩
   ·rw [q9 (aN tc)];exact b1
   ·rw [q9 (aN tq')];exact b2
   ·rw [qj,et,e]
   ·rw [q9 (λz=>nb (by simp [z]))];exact b4 b ob nb e'
  refine exI rfl ⟨rfl,_,rfl,jy (λhn=>?_) (λhn=>?_)⟩
  ·exact exI rfl (exI rfl ⟨t,_,cc.1,rfl,b3,rfl,ok i cc ec hn,step _ (by unfold ex1;rw [aj hn])⟩)
  ·exact exI rfl (exI rfl (exI rfl ⟨t,exI rfl ⟨DPut.k (k:=cc.1) b3 ⋯,step _ (by unfold ex1;rw [ag hn])⟩⟩))
 ·rintro σ H' ⟨⟨z3,z4,rfl⟩,a1,a2,a3,a4⟩
  rw [bA] at a3
  exact exI rfl (k q H' nq0 a2 a3 (.inr ⟨o',a1⟩) a4)
def hF (dr dw dd:Aj):List (Str×V):=[("roads",.ref dr),("walkers",.ref dw),("done",.ref dd)]
variable {dr dw dd:Aj}
theorem z8:(hF dr dw dd).lookup ("roads" : Str)=some (.ref dr):=by unfold hF;rw [aK];simp
theorem zg:(hF dr dw dd).lookup ("walkers" : Str)=some (.ref dw):=by
 unfold hF
 rw [aK,show (("walkers" : Str)==("roads" : Str))=false by decide +kernel]
 dsimp only
 rw [aK]
 simp
theorem yj:(hF dr dw dd).lookup ("done" : Str)=some (.ref dd):=by
 unfold hF
 rw [aK,show (("done" : Str)==("roads" : Str))=false by decide +kernel]
 dsimp only
 rw [aK,show (("done" : Str)==("walkers" : Str))=false by decide +kernel]
 dsimp only
 rw [aK]
 simp
theorem zv {dr dw dd:Aj}{m:Str}(h1:autoParam (¬ m = "roads") aU7._auto_1)(h2:autoParam (¬ m = "walkers") aU7._auto_1)(h3:autoParam (¬ m = "done") aU7._auto_1):(hF dr dw dd).lookup m=none:=by
 unfold hF
 rw [aK,aS.mpr h1]
 dsimp only
 rw [aK,aS.mpr h2]
 dsimp only
 rw [aK,aS.mpr h3]
 rfl
structure Hse (C:Aj)(H:Hp)(x dr dw dd:Aj)(R W:List (Key×V))(D:List V):Prop where
 ob:∃dx,H x=some (.ins C dx (hF dr dw dd))
 r:H dr=some (.dK R)
 w:H dw=some (.dK W)
 d:H dd=some (.lst D)
 ne:dr≠dw
variable {R W:List (Key×V)}{D:List V}
theorem Hse.kb (h:Hse C H x dr dw dd R W D){ch:List Aj}(k:Kb ch H H')(n:x∉ch∧dr∉ch∧dw∉ch∧dd∉ch):Hse C H' x dr dw dd R W D:=by
 obtain ⟨dx,e⟩:=h.ob
 exact ⟨⟨dx,k _ _ n.1 e⟩,k _ _ n.2.1 h.r,k _ _ n.2.2.1 h.w,k _ _ n.2.2.2 h.d,h.ne⟩
theorem Hse.same (h:Hse C H x dr dw dd R W D)(s:Same H H'):Hse C H' x dr dw dd R W D:=h.kb (ch:=[]) (Kb.of s) ⟨am,am,am,am⟩
def Wy (C:Aj):Sp:=λvs H Q _=>∃x dx,vs=[.ref x]∧H x=some (.ins C dx [])∧∀H' dr dw dd,H dr=none→H dw=none→H dd=none→Hse C H' x dr dw dd [] [] []→Kb [x] H H'→Q .non H'
include T in
theorem qy6 (F:Fun K "__init__" "House.__init__" za3 f fd):FK P w K mg base 1 f fd ["self"] (Wy qq):=by
 have sc:=uk
 refine F.okX sc (λvs H Q E h=>by obtain ⟨_,_,rfl,_⟩:=h;rfl) λ_ _ _ _ H vs Q E hr h=>?_
 obtain ⟨x,dx,rfl,hx,k⟩:=h
 refine ⟨_,(qc (uq (pv 0) jk rfl)
   (qc (uq (pv 0) jk rfl)
   (wq (uq (pv 0) (yw qk) rfl)))),?_⟩
 refine λdr n1=>exI rfl ⟨x,qq,dx,[],rfl,(by rw [q9 (qm hx n1)];exact hx),T.clH,T.naHr,(by show 0<1000;decide),?_⟩
 have e1:∀b o,b≠x→H b=some o→upd (upd H dr (.dK [])) x (.ins qq dx (zf "roads" (.ref dr) [])) b=some o:=λb o nb e=>by rw [q9 nb,q9 (qm e n1)];exact e
 have x1:upd (upd H dr (.dK [])) x (.ins qq dx (zf "roads" (.ref dr) [])) x=some (.ins qq dx (zf "roads" (.ref dr) [])):=qj
 have r1:upd (upd H dr (.dK [])) x (.ins qq dx (zf "roads" (.ref dr) [])) dr=some (.dK []):=by rw [q9 (qm hx n1).symm,qj]
 generalize upd (upd H dr (.dK [])) x (.ins qq dx (zf "roads" (.ref dr) []))=H1 at e1 x1 r1
 refine λdw n2=>exI rfl ⟨x,qq,dx,exI rfl ⟨(by rw [q9 (qm x1 n2)];exact x1),T.clH,T.naHw,(by show 1<1000;decide),?_⟩⟩
 have xr:x≠dr:=qm hx n1
 have e2:∀b o,b≠x→H1 b=some o→upd (upd H1 dw (.dK [])) x (.ins qq dx (zf "walkers" (.ref dw) (zf "roads" (.ref dr) []))) b=some o:=λb o nb e=>by rw [q9 nb,q9 (qm e n2)];exact e
 have x2:upd (upd H1 dw (.dK [])) x (.ins qq dx (zf "walkers" (.ref dw) (zf "roads" (.ref dr) []))) x=some (.ins qq dx (zf "walkers" (.ref dw) (zf "roads" (.ref dr) []))):=qj
 have w2:upd (upd H1 dw (.dK [])) x (.ins qq dx (zf "walkers" (.ref dw) (zf "roads" (.ref dr) []))) dw=some (.dK []):=by rw [q9 (qm x1 n2).symm,qj]
 have r2:=e2 dr _ xr.symm r1
 generalize upd (upd H1 dw (.dK [])) x (.ins qq dx (zf "walkers" (.ref dw) (zf "roads" (.ref dr) [])))=H2 at e2 x2 w2 r2
 have xw:x≠dw:=qm x1 n2
 refine ⟨sz0,λdd n3=>(exI rfl ⟨x,qq,dx,exI rfl ⟨(by rw [q9 (qm x2 n3)];exact x2),T.clH,T.naHd,(by show 2<1000;decide),?_⟩⟩)⟩
 have xd:x≠dd:=qm x2 n3
 have e3:∀b o,b≠x→H2 b=some o→upd (upd H2 dd (.lst [])) x (.ins qq dx (zf "done" (.ref dd) (zf "walkers" (.ref dw) (zf "roads" (.ref dr) [])))) b=some o:=λb o nb e=>by rw [q9 nb,q9 (qm e n3)];exact e
 have old:∀b o,b≠x→H b=some o→H2 b=some o:=λb o nb e=>e2 b o nb (e1 b o nb e)
 have non:∀b,b≠x→H2 b=none→H b=none:=λb nb e=>by
  cases q:H b with
  |none=>rfl
  |some o=>rw [old b o nb q] at e;cases e
 refine k _ dr dw dd n1 (by
  cases q:H dw with
  |none=>rfl
  |some o=>rw [e1 dw o xw.symm q] at n2;cases n2) (non dd xd.symm n3) ⟨⟨dx,qj⟩,e3 _ _ xr.symm r2,e3 _ _ xw.symm w2,?_,qm r1 n2⟩ λb o nb e=>e3 b o (λz=>nb (by simp [z])) (old b o (λz=>nb (by simp [z])) e)
 rw [q9 xd.symm,qj]
def km (C CN:Aj)(roads:Bool):Sp:=λvs H Q E=>∃(x dr dw dd:Aj) (R W:List (Key×V)) (D:List V) (n:Str),vs=[.ref x,.str n]∧Hse C H x dr dw dd R W D ∧
 (∀v,wj (if roads then R else W) (.inr n)=some v→Q v H)∧(wj (if roads then R else W) (.inr n)=none→E (.ref CN) none H)
include T in
theorem Z5 (F:Fun K "road_called" "House.road_called" za4 f fd):FK P w K mg base 1 f fd ["self","name"] (km qq qt true):=by
 have sc:=j8
 refine F.okX sc (λvs H Q E h=>by obtain ⟨_,_,_,_,_,_,_,_,rfl,_⟩:=h;rfl) λ_ _ _ _ H vs Q E hr h=>?_
 obtain ⟨x,dr,dw,dd,R,W,D,n,rfl,hh,k,kx⟩:=h
 obtain ⟨dx,hx⟩:=hh.ob
 have dg:DGet H dr (.str n) (wj R (.inr n)):=DGet.k (k:=.inr n) hh.r
 refine ⟨_,(qc (xm (qqf (Qc (kf hr) (pv 1) (zx (pv 0) rfl))) (wq (zp rfl T.zal zj rfl T.ze7 (w8 xn qk))) w6)
   (wq (wp (jm (kf hr) (zx (pv 0) rfl) (pv 1) (λ_ _=>rfl))))),?_⟩
 refine exI rfl (exI rfl ⟨x,qq,dx,_,_,rfl,hx,T.clH,T.naHr,z8,dr,exI rfl ⟨dg,_,rfl,?_⟩⟩)
 cases e:wj R (.inr n) with
 |none=>exact W7 ⟨sz1,kx e⟩
 |some v =>
  rw [e] at dg
  exact Z8 (exI rfl ⟨x,qq,dx,_,_,rfl,hx,T.clH,T.naHr,z8,exI rfl ⟨dr,v,rfl,dg,k v e⟩⟩)
include T in
theorem Qx (F:Fun K "walker_called" "House.walker_called" za5 f fd):FK P w K mg base 1 f fd ["self","name"] (km qq qu false):=by
 have sc:=jh
 refine F.okX sc (λvs H Q E h=>by obtain ⟨_,_,_,_,_,_,_,_,rfl,_⟩:=h;rfl) λ_ _ _ _ H vs Q E hr h=>?_
 obtain ⟨x,dr,dw,dd,R,W,D,n,rfl,hh,k,kx⟩:=h
 obtain ⟨dx,hx⟩:=hh.ob
 have dg:DGet H dw (.str n) (wj W (.inr n)):=DGet.k (k:=.inr n) hh.w
 refine ⟨_,(qc (xm (qqf (Qc (kf hr) (pv 1) (zx (pv 0) rfl))) (wq (zp rfl T.zam zj rfl T.ze8 (w8 xn qk))) w6)
   (wq (wp (jm (kf hr) (zx (pv 0) rfl) (pv 1) (λ_ _=>rfl))))),?_⟩
 refine exI rfl (exI rfl ⟨x,qq,dx,_,_,rfl,hx,T.clH,T.naHw,zg,dw,exI rfl ⟨dg,_,rfl,?_⟩⟩)
 cases e:wj W (.inr n) with
 |none=>exact W7 ⟨sz1,kx e⟩
 |some v =>
  rw [e] at dg
  exact Z8 (exI rfl ⟨x,qq,dx,_,_,rfl,hx,T.clH,T.naHw,zg,exI rfl ⟨dw,v,rfl,dg,k v e⟩⟩)
def spDo (C:Aj):Sp:=λvs H Q _=>∃(x dr dw dd c1 c2:Aj) (R W cs1 cs2:List (Key×V)) (D:List V),vs=[.ref x,.ref c1,.ref c2]∧Hse C H x dr dw dd R W D∧Rd H c1 (.dK cs1)∧Rd H c2 (.dK cs2)∧c1≠c2∧c1≠dr∧c1≠dw∧c2≠dr∧c2≠dw ∧
 (cs1.map (·.1)).Nodup∧(cs2.map (·.1)).Nodup∧R.length≤1000∧W.length≤1000∧cs1.length≤1000∧cs2.length≤1000∧D.length≤1000000∧ExOk R cs1∧ExOk W cs2 ∧
 ∀H' tp q1 q2,H tp=none→H q1=none→H q2=none→Hse C H' x dr dw dd (exK R cs1) (exK W cs2) (D++[.ref tp])→H' tp=some (.tup [.ref q1,.ref q2])→H' q1=some (.dK (bfK R cs1))→H' q2=some (.dK (bfK W cs2))→q1≠q2→Rd H' c2 (.dK cs2)→Kb [dr,dw,dd,c1,c2] H H'→Q .non H'
include T in
theorem zfn (F:Fun K "do" "House.do" za6 f fd)(zao:Cal P w K mg base "exchange" 1 qq4):FK P w K mg base 2 f fd ["self","roads","walkers"] (spDo qq):=by
 have sc:=qxg
 refine F.okX sc (λvs H Q E h=>by obtain ⟨_,_,_,_,_,_,_,_,_,_,_,rfl,_⟩:=h;rfl) λ_ _ _ _ H vs Q E hr h=>?_
 obtain ⟨x,dr,dw,dd,c1,c2,R,W,cs1,cs2,D,rfl,hh,h1,h2,n12,n1r,n1w,n2r,n2w,nd1,nd2,lR,lW,l1,l2,lD,ok1,ok2,k⟩:=h
 obtain ⟨dx,hx⟩:=hh.ob
 have big:(1000000:Nat)<sizeLine:=by decide
 have isI:∀ {b o},Rd H b (.dK o)→x≠b:=λ{b o} hb z=>by
  rcases hb with hb|⟨u,hb⟩ <;> (rw [←z,hx] at hb;cases hb)
 have isD:∀ {b o},Rd H b (.dK o)→dd≠b:=λ{b o} hb z=>by
  rcases hb with hb|⟨u,hb⟩ <;> (rw [←z,hh.d] at hb;cases hb)
 have xr:=isI (.inl hh.r)
 have xw:=isI (.inl hh.w)
 have x1:=isI h1
 have x2:=isI h2
 have dr':=isD (.inl hh.r)
 have dw':=isD (.inl hh.w)
 have d1:=isD h1
 have d2:=isD h2
 refine ⟨_,(wq (zq (ur bu bC bD vg (zx (pv 0) rfl) (pa_cT (jz (k6 (wCA zao (xq (zx (pv 0) rfl) (wx (pv 1) qk))) (k6 (wCA zao (xq (zx (pv 0) rfl) (wx (pv 2) qk))) qk))) qk)))),?_⟩
 refine exI rfl ⟨x,qq,dx,_,_,rfl,hx,T.clH,T.naHd,yj,.inl ⟨rfl,_,SqL.of hh.d⟩,?_⟩
 refine exI rfl ⟨x,qq,dx,_,_,rfl,hx,T.clH,T.naHr,z8,exI rfl ⟨dr,c1,R,cs1,rfl,aN n1r,hh.r,h1,nd1,lR,l1,ok1,λq1 H1 nq1 fq1 fr1 fc1 kb1=>?_⟩⟩
 have m1:∀b,b≠dr→b≠c1→b∉[dr,c1]:=λb a1 a2 z=>by
  rcases ak.mp z with z|z
  ·exact a1 z
  ·exact a2 (ao.mp z)
 have hx1:=kb1 _ _ (m1 x xr x1) hx
 have hw1:=kb1 _ _ (m1 dw (aN hh.ne) (aN n1w)) hh.w
 have hd1:=kb1 _ _ (m1 dd dr' d1) hh.d
 have hc2:=kb1.rd (m1 c2 n2r (aN n12)) h2
 refine exI rfl ⟨x,qq,dx,_,_,rfl,hx1,T.clH,T.naHw,zg,exI rfl ⟨dw,c2,W,cs2,rfl,aN n2w,hw1,hc2,nd2,lW,l2,ok2,λq2 H2 nq2 fq2 fw2 fc2 kb2=>?_⟩⟩
 have m2:∀b,b≠dw→b≠c2→b∉[dw,c2]:=λb a1 a2 z=>by
  rcases ak.mp z with z|z
  ·exact a1 z
  ·exact a2 (ao.mp z)
 have q1w:q1≠dw:=λz=>by rw [z,hh.w] at nq1;cases nq1
 have q1c:q1≠c2:=λz=>by rcases h2 with h2|⟨u,h2⟩ <;> (rw [z,h2] at nq1;cases nq1)
 have fq1':=kb2 _ _ (m2 q1 q1w q1c) fq1
 have q12:q1≠q2:=qm fq1 nq2
 have nq2':H q2=none:=by
  cases e:H q2 with
  |none=>rfl
  |some o =>
   by_cases z:q2=dr∨q2=c1
   ·rcases z with z|z
    ·rw [z,fr1] at nq2;cases nq2
    ·rcases fc1 with g|⟨u,g⟩ <;> (rw [z,g] at nq2;cases nq2)
   ·rw [kb1 _ _ (m1 q2 (λy=>z (.inl y)) (λy=>z (.inr y))) e] at nq2;cases nq2
 refine ⟨sz2,λtp ntp=>?_⟩
 have hx2:=kb2 _ _ (m2 x xw x2) hx1
 have hr2:=kb2 _ _ (m2 dr hh.ne (aN n2r)) fr1
 have hd2:=kb2 _ _ (m2 dd dw' d2) hd1
 have old:∀b o,b∉[dr,dw,dd,c1,c2]→H b=some o→H2 b=some o:=λb o nb e=>by
  simp only [ak,am,bH,not_or] at nb
  exact kb2 _ _ (m2 b nb.2.1 nb.2.2.2.2) (kb1 _ _ (m1 b nb.1 nb.2.2.2.1) e)
 have rd2:∀b,b=dr∨b=dw∨b=dd∨b=c1∨b=c2→H2 b≠none:=λb h z=>by
  rcases h with h|h|h|h|h
  ·rw [h,hr2] at z;cases z
  ·rw [h,fw2] at z;cases z
  ·rw [h,hd2] at z;cases z
  ·by_cases y:c1=dw
   ·exact n1w y
   ·rcases fc1 with g|⟨u,g⟩ <;> (rw [h,kb2 _ _ (m2 c1 n1w n12) g] at z;cases z)
  ·rcases fc2 with g|⟨u,g⟩ <;> (rw [h,g] at z;cases z)
 have ntp0:H tp=none:=by
  cases e:H tp with
  |none=>rfl
  |some o =>
   by_cases z:tp=dr∨tp=dw∨tp=dd∨tp=c1∨tp=c2
   ·exact absurd ntp (rd2 tp z)
   ·rw [old tp o (by simp only [ak,am,bH];exact z) e] at ntp;cases ntp
 have s3:Same H2 (upd H2 tp (.tup [.ref q1,.ref q2])):=Same.upd ntp
 have ft:upd H2 tp (.tup [.ref q1,.ref q2]) tp=some (.tup [.ref q1,.ref q2]):=qj
 generalize upd H2 tp (.tup [.ref q1,.ref q2])=H3 at s3 ft
 have hd3:=s3 _ _ hd2
 refine ⟨dd,D,_,rfl,rfl,hd3,⋯,?_⟩
 have ne3:∀b o,b≠dd→H3 b=some o→upd H3 dd (.lst (D++[.ref tp])) b=some o:=λb o nb e=>by rw [q9 nb];exact e
 have kq:∀b kv,H3 b=some (.dK kv)→b≠dd:=λb kv e z=>by rw [z,hd3] at e;cases e
 have rd3:Rd (upd H3 dd (.lst (D++[.ref tp]))) c2 (.dK cs2):=by
  rcases fc2 with e|⟨u,e⟩
  ·exact .inl (ne3 _ _ (aN d2) (s3 _ _ e))
  ·exact .inr ⟨u,ne3 _ _ (aN d2) (s3 _ _ e)⟩
 refine k _ tp q1 q2 ntp0 nq1 nq2' ⟨⟨dx,ne3 _ _ (λz=>by rw [z] at hx;rw [hh.d] at hx;cases hx) (s3 _ _ hx2)⟩,ne3 _ _ (aN dr') (s3 _ _ hr2),ne3 _ _ (aN dw') (s3 _ _ fw2),qj,hh.ne⟩ (ne3 _ _ (λz=>by rw [z,hd3] at ft;cases ft) ft) (ne3 _ _ (kq _ _ (s3 _ _ fq1')) (s3 _ _ fq1')) (ne3 _ _ (kq _ _ (s3 _ _ fq2)) (s3 _ _ fq2)) q12 rd3 λb o nb e=>?_
 exact ne3 _ _ (λz=>nb (by simp [z])) (s3 _ _ (old b o nb e))
def Js (C:Aj):Sp:=λvs H Q _=>∃(x dr dw dd:Aj) (R W:List (Key×V)) (D:List V),vs=[.ref x]∧Hse C H x dr dw dd R W D∧Q (.int D.length) H
include T in
theorem quq (F:Fun K "deeds" "House.deeds" zba f fd):FK P w K mg base 1 f fd ["self"] (Js qq):=by
 have sc:=Zb
 refine F.okX sc (λvs H Q E h=>by obtain ⟨_,_,_,_,_,_,_,rfl,_⟩:=h;rfl) λ_ _ _ _ H vs Q E hr h=>?_
 obtain ⟨x,dr,dw,dd,R,W,D,rfl,hh,k⟩:=h
 obtain ⟨dx,hx⟩:=hh.ob
 refine ⟨_,(wq (wp (wg xc rfl T.len_ aW (xq (zx (pv 0) rfl) qk)))),?_⟩
 exact exI rfl ⟨x,qq,dx,_,_,rfl,hx,T.clH,T.naHd,yj,dd,exI rfl ⟨.inl (SqL.of hh.d),k⟩⟩
def qqx (D:List V):Prop:=∀v∈D,∃a,v=V.ref a
theorem RoadAt.kb {CH:Aj}(h:RoadAt C H r hs)(ok:xv hs){ch:List Aj}{D:List V}(k:Kb ch H H')(rf:qqx D)(hc:∀b∈ch,(∃kv,Rd H b (.dK kv))∨H b=some (.lst D)):RoadAt C H' r hs:=by
 obtain ⟨dx,q,h1,h2⟩:=h
 refine ⟨dx,q,k _ _ (λz=>?_) h1,k _ _ (λz=>?_) h2⟩
 ·rcases hc r z with ⟨kv,e|⟨o,e⟩⟩|e <;> (rw [h1] at e;cases e)
 ·rcases hc q z with ⟨kv,e|⟨o,e⟩⟩|e
  ·rw [h2] at e;cases e
  ·rw [h2] at e;cases e
  ·rw [h2] at e
   have e:hs.map V.int=D:=by cases e;rfl
   have l:=ok.1
   have m:V.int (hs[0]'⋯)∈hs.map V.int:=aA.mpr ⟨_,bz _,rfl⟩
   rw [e] at m
   obtain ⟨a,ea⟩:=rf _ m
   cases ea
variable {H3:Hp}{c1:Aj}
theorem qyn {c2:Aj}{o1 o2 o3:HO}(n1:H c1=none)(s3:Same (upd H c1 o1) H3)(n2:upd H3 c1 o2 c2=none):Same H (upd (upd H3 c1 o2) c2 o3):=λb o e=>by
 have b1:b≠c1:=qm e n1
 have e3:H3 b=some o:=s3 _ _ (by rw [q9 b1];exact e)
 have e4:upd H3 c1 o2 b=some o:=by rw [q9 b1];exact e3
 rw [q9 (qm e4 n2)]
 exact e4
variable {n:Str}{Q:VK}
theorem wqd {CR:Aj}(hh:Hse C H x dr dw dd R W D)(n1:H c1=none)(s3:Same (upd H c1 (.dK [])) H3)(R3:RoadAt CR H3 r hs)(okl:xv hs)(rf:qqx D)(lR:R.length≤1000)(lW:W.length≤1000)(lD:D.length≤1000000)
  (k:∀H' tp q1 q2,H tp=none→H q1=none→H q2=none→Hse C H' x dr dw dd (zb R (.inr n) (.ref r)) W (D++[.ref tp])→H' tp=some (.tup [.ref q1,.ref q2])→H' q1=some (.dK [(.inr n,(wj R (.inr n)).getD .non)])→H' q2=some (.dK [])→q1≠q2→RoadAt CR H' r hs→Kb [dr,dw,dd] H H'→Q .non H') :
  ∀c2,upd H3 c1 (.dK [(.inr n,.ref r)]) c2=none→spDo C [.ref x,.ref c1,.ref c2] (upd (upd H3 c1 (.dK [(.inr n,.ref r)])) c2 (.dK [])) Q E:=by
 intro c2 n2
 have s4:Same H (upd (upd H3 c1 (.dK [(.inr n,.ref r)])) c2 (.dK [])):=qyn n1 s3 n2
 have c12:c1≠c2:=λz=>by rw [←z,qj] at n2;cases n2
 have e1:upd (upd H3 c1 (.dK [(.inr n,.ref r)])) c2 (.dK []) c1=some (.dK [(.inr n,.ref r)]):=by rw [q9 c12,qj]
 have e2:upd (upd H3 c1 (.dK [(.inr n,.ref r)])) c2 (.dK []) c2=some (.dK []):=qj
 have h31:H3 c1=some (.dK []):=s3 _ _ qj
 have R4:RoadAt CR (upd (upd H3 c1 (.dK [(.inr n,.ref r)])) c2 (.dK [])) r hs:=by
  obtain ⟨dx,q,a1,a2⟩:=R3
  have keep:∀b o,(∀kv,o≠HO.dK kv)→H3 b=some o→upd (upd H3 c1 (.dK [(.inr n,.ref r)])) c2 (.dK []) b=some o:=λb o no e=>by
   have b1:b≠c1:=λz=>by rw [z,h31] at e;cases e;exact no _ rfl
   have e4:upd H3 c1 (.dK [(.inr n,.ref r)]) b=some o:=by rw [q9 b1];exact e
   rw [q9 (qm e4 n2)]
   exact e4
  exact ⟨dx,q,keep _ _ (λkv z=>by cases z) a1,keep _ _ (λkv z=>by cases z) a2⟩
 have n20:H c2=none:=by
  cases q:H c2 with
  |none=>rfl
  |some o =>
   have b1:c2≠c1:=aN c12
   rw [q9 b1,s3 _ _ (show upd H c1 (.dK []) c2=some o by rw [q9 b1];exact q)] at n2
   cases n2
 generalize upd (upd H3 c1 (.dK [(.inr n,.ref r)])) c2 (.dK [])=H4 at s4 e1 e2 R4
 have hh4:=hh.same s4
 refine ⟨x,dr,dw,dd,c1,c2,R,W,[(.inr n,.ref r)],[],D,rfl,hh4,.inl e1,.inl e2,c12,(qm hh.r n1).symm,(qm hh.w n1).symm,(qm hh.r n20).symm,(qm hh.w n20).symm,aO.mpr ⟨am,aV⟩,aV,lR,lW,by show 1≤1000;decide,aC _,lD,λi c ec hc=>?_,(λi c ec hc=>nomatch ec),λH' tp q1 q2 a1 a2 a3 a4 a5 a6 a7 a8 _ a9=>?_⟩
 ·cases i with
  |zero=>cases ec;cases hc
  |succ i=>cases ec
 ·have no:∀b,H4 b=none→H b=none:=λb e=>xg s4 e
  have rd:RoadAt CR H' r hs:=R4.kb (CH:=C) okl a9 rf λb hb=>by
   simp only [ak,am,bH] at hb
   rcases hb with rfl|rfl|rfl|rfl|rfl
   ·exact .inl ⟨_,.inl hh4.r⟩
   ·exact .inl ⟨_,.inl hh4.w⟩
   ·exact .inr hh4.d
   ·exact .inl ⟨_,.inl e1⟩
   ·exact .inl ⟨_,.inl e2⟩
  refine k H' tp q1 q2 (no _ a1) (no _ a2) (no _ a3) a4 a5 a6 a7 a8 rd λb o nb e=>a9 b o (λz=>?_) (s4 _ _ e)
  simp only [ak,am,bH] at z nb
  rcases z with z|z|z|z|z
  ·exact nb (.inl z)
  ·exact nb (.inr (.inl z))
  ·exact nb (.inr (.inr z))
  ·rw [z,n1] at e;cases e
  ·rw [z,n20] at e;cases e
def RDeed (C CR:Aj)(H H':Hp)(x dr dw dd:Aj)(R W:List (Key×V))(D:List V)(n:Str)(hs:List Int):Prop:=∃r tp q1 q2,H tp=none∧H q1=none∧H q2=none∧Hse C H' x dr dw dd (zb R (.inr n) (.ref r)) W (D++[.ref tp])∧H' tp=some (.tup [.ref q1,.ref q2])∧H' q1=some (.dK [(.inr n,(wj R (.inr n)).getD .non)])∧H' q2=some (.dK [])∧q1≠q2∧RoadAt CR H' r hs∧Kb [dr,dw,dd] H H'
theorem RDeed.pre {CR:Aj}{H0:Hp}(h:RDeed C CR H H' x dr dw dd R W D n hs)(s:Same H0 H):RDeed C CR H0 H' x dr dw dd R W D n hs:=by
 obtain ⟨r,tp,q1,q2,a1,a2,a3,a4,a5,a6,a7,a8,a9,b1⟩:=h
 exact ⟨r,tp,q1,q2,xg s a1,xg s a2,xg s a3,a4,a5,a6,a7,a8,a9,λb o nb e=>b1 b o nb (s _ _ e)⟩
def Y3 (K:Aa)(C CR CN CT CL:Aj):Sp:=λvs H Q E=>∃(x dr dw dd p:Aj) (R W:List (Key×V)) (D:List V) (n:Str) (hs:List Int),vs=[.ref x,.str n,.ref p]∧Hse C H x dr dw dd R W D∧qqx D∧R.length≤1000∧W.length≤1000∧D.length≤1000000∧n.length≤1000∧H p=some (.lst (hs.map V.int)) ∧
 (zk n=true→wj R (.inr n)=none→xv hs→∀H',RDeed C CR H H' x dr dw dd R W D n hs→Q .non H')∧(zk n=false→∀H',Same H H'→E (.ref CN) none H')∧(zk n=true→(wj R (.inr n)).isSome=true→∀H',Same H H'→E (.ref CT) none H')∧(zk n=true→wj R (.inr n)=none→¬ xv hs→∀H',Same H H'→E (.ref CL) none H')
include T in
theorem zfo (F:Fun K "lay" "House.lay" za7 f fd)(zbz:Cal P w K mg base "check_new_name" 2 (yz qb wz))(zfp:CCal P w K mg base "Road" qg 2 (qqy K qh qg))(zb0:MCal P w K mg base qq "do" 2 (spDo qq)) :
  FK P w K mg base 4 f fd ["self","name","heights"] (Y3 K qq qg qb wz qh):=by
 have sc:=Jp
 refine F.okX sc (λvs H Q E h=>by obtain ⟨_,_,_,_,_,_,_,_,_,_,rfl,_⟩:=h;rfl) λ_ _ _ _ H vs Q E hr h=>?_
 obtain ⟨x,dr,dw,dd,p,R,W,D,n,hs,rfl,hh,rf,lR,lW,lD,ln,hp,k,kn,kt,kl⟩:=h
 obtain ⟨dx,hx⟩:=hh.ob
 refine ⟨_,(qc (zq (wCA zbz (wx (pv 1) (xq (zx (pv 0) rfl) qk))))
   (wq (zq (zc (pv 0) T.clH zb0 (hr.mono ⋯) qr (xq (qvf (qxm (pv 1) (qxx zfp (hr.mono ⋯) rfl qr (wx (pv 2) qk)) qvv) rfl rfl (λz=>nomatch z) ⋯) (xq jk qk)))))),?_⟩
 refine ⟨_,rfl,_,rfl,x,qq,dx,_,_,rfl,hx,T.clH,T.naHr,z8,n,dr,R,rfl,ln,hh.r,λa1 a2 H1 s1=>?_,kn,kt⟩
 have hh1:=hh.same s1
 refine exI rfl ⟨x,dx,exI rfl ⟨s1 _ _ hx,zv,λc1 n1=>(exI rfl (exI rfl (λr d0 nr nd0 ne0=>qu2 (H:=upd H1 c1 (.dK [])) (hs:=hs) (by rw [q9 (qm (s1 _ _ hp) n1)];exact s1 _ _ hp) nr nd0 (λokl H3 s3 R3=>?_) λz H3 s3=>kl a1 a2 z H3 (s1.trans (λb o e=>s3 _ _ (by rw [q9 (qm e n1)];exact e))))))⟩⟩
 refine ⟨s3 _ _ qj,[(.inr n,.ref r)],rfl,(show 1≤15 by decide),?_⟩
 exact wqd (E:=E) hh1 n1 s3 R3 okl rf lR lW lD λH' tp q1 q2 b1 b2 b3 b4 b5 b6 b7 b8 b9 kb=>k a1 a2 okl H' (RDeed.pre ⟨r,tp,q1,q2,b1,b2,b3,b4,b5,b6,b7,b8,b9,kb⟩ s1)
def j5 (C CR CN:Aj):Sp:=λvs H Q E=>∃(x dr dw dd:Aj) (R W:List (Key×V)) (D:List V) (n:Str),vs=[.ref x,.str n]∧Hse C H x dr dw dd R W D ∧
 (∀v,wj R (.inr n)=some v→∃r hs,v=.ref r∧RoadAt CR H r hs∧∀p,H p=none→Q (.ref p) (upd H p (.lst (hs.map V.int))))∧(wj R (.inr n)=none→E (.ref CN) none H)
include T in
theorem Yr (F:Fun K "corners_of" "House.corners_of" zbc f fd)(zb1:MCal P w K mg base qq "road_called" 1 (km qq qt true))(zfq:MCal P w K mg base qg "corners" 1 (Qy qg)) :
  FK P w K mg base 2 f fd ["self","name"] (j5 qq qg qt):=by
 have sc:=yb
 refine F.okX sc (λvs H Q E h=>by obtain ⟨_,_,_,_,_,_,_,_,rfl,_⟩:=h;rfl) λ_ _ _ _ H vs Q E hr h=>?_
 obtain ⟨x,dr,dw,dd,R,W,D,n,rfl,hh,k,kx⟩:=h
 obtain ⟨dx,hx⟩:=hh.ob
 refine ⟨_,(wq (wp (jv (zc (pv 0) T.clH zb1 (hr.mono ⋯) qr (wx (pv 1) qk)) T.cl zfq (hr.mono ⋯) qr))),?_⟩
 refine ⟨_,rfl,x,dx,_,rfl,hx,zv,_,rfl,x,dr,dw,dd,R,W,D,n,rfl,hh,λv e=>?_,kx⟩
 obtain ⟨r,hs,rfl,hR,q⟩:=k v e
 obtain ⟨dy,l,h1,h2⟩:=id hR
 exact ⟨r,dy,exI rfl ⟨h1,y0 (by decide +kernel),r,hs,rfl,hR,q⟩⟩
def W1 (C CN:Aj):Sp:=λvs H Q E=>∃(x dr dw dd:Aj) (R W:List (Key×V)) (D:List V),vs=[.ref x]∧Hse C H x dr dw dd R W D∧R.length≤1000∧W.length≤1000∧(D=[]→E (.ref CN) none H) ∧
 (∀D' v,D=D'++[v]→∃tp c1 c2 cs1 cs2,v=.ref tp∧H tp=some (.tup [.ref c1,.ref c2])∧Rd H c1 (.dK cs1)∧Rd H c2 (.dK cs2)∧c1≠c2∧c1≠dr∧c1≠dw∧c2≠dr∧c2≠dw∧(cs1.map (·.1)).Nodup∧(cs2.map (·.1)).Nodup∧cs1.length≤1000∧cs2.length≤1000∧ExOk R cs1∧ExOk W cs2 ∧
  ∀H',Hse C H' x dr dw dd (exK R cs1) (exK W cs2) D'→Rd H' c1 (.dK cs1)→Rd H' c2 (.dK cs2)→Kb [dr,dw,dd,c1,c2] H H'→Q .non H')
include T in
theorem qu5 (F:Fun K "take_back" "House.take_back" za9 f fd)(zao:Cal P w K mg base "exchange" 1 qq4):FK P w K mg base 2 f fd ["self"] (W1 qq qw):=by
 have sc:=yr
 refine F.okX sc (λvs H Q E h=>by obtain ⟨_,_,_,_,_,_,_,rfl,_⟩:=h;rfl) λ_ _ _ _ H vs Q E hr h=>?_
 obtain ⟨x,dr,dw,dd,R,W,D,rfl,hh,lR,lW,kx,k⟩:=h
 obtain ⟨dx,hx⟩:=hh.ob
 refine ⟨_,(qc (xm (w4 vb (wg xc rfl T.len_ aW (xq (zx (pv 0) rfl) qk)) qd (w9 _)) (wq (zp rfl T.zan zj rfl T.ze9 (w8 xn qk))) w6)
   (qc (yq (pe_bm0 bu PySem.F.slot_list_pop PySem.F.type_list_pop mt_pop (zx (pv 0) rfl)) (jw rfl (xz (wt (i:=1)) (xz (wt (i:=2)) vw))))
   (qc (zq (wCA zao (xq (zx (pv 0) rfl) (wx (pv 1) qk))))
   (wq (zq (wCA zao (xq (zx (pv 0) rfl) (wx (pv 2) qk)))))))),?_⟩
 refine exI rfl ⟨x,qq,dx,_,_,rfl,hx,T.clH,T.naHd,yj,dd,exI rfl ⟨.inl (SqL.of hh.d),rfl,_,rfl,jj (λz=>?_) (λz=>?_)⟩⟩
 ·exact ⟨sz1,kx (List.eq_nil_of_length_eq_zero ⋯)⟩
 ·have ne:D≠[]:=λy=>z (by rw [y];rfl)
  have eD:D=D.dropLast++[D.getLast ne]:=(List.dropLast_concat_getLast ne).symm
  obtain ⟨tp,c1,c2,cs1,cs2,ev,ht,h1,h2,n12,n1r,n1w,n2r,n2w,nd1,nd2,l1,l2,ok1,ok2,k⟩:=k _ _ eD
  have eL:D[D.length-1]?=some (.ref tp):=by rw [←List.getLast?_eq_getElem?,List.getLast?_eq_getLast ne,ev]
  refine exI rfl ⟨x,qq,dx,_,_,rfl,hx,T.clH,T.naHd,yj,.inl ⟨rfl,_,SqL.of hh.d⟩,dd,D,exI rfl ⟨rfl,hh.d,eL,?_⟩⟩
  have k0:∀b o,b≠dd→H b=some o→upd H dd (.lst D.dropLast) b=some o:=λb o nb e=>by rw [q9 nb];exact e
  have d0:upd H dd (.lst D.dropLast) dd=some (.lst D.dropLast):=qj
  have kd:∀b kv,Rd H b (.dK kv)→b≠dd:=λb kv hb y=>by rcases hb with hb|⟨o,hb⟩ <;> (rw [y,hh.d] at hb;cases hb)
  have kx':x≠dd:=λy=>by rw [y,hh.d] at hx;cases hx
  have kt:tp≠dd:=λy=>by rw [y,hh.d] at ht;cases ht
  have rd0:∀b kv,Rd H b (.dK kv)→Rd (upd H dd (.lst D.dropLast)) b (.dK kv):=λb kv hb=>by
   have nb:=kd b kv hb
   rcases hb with hb|⟨o,hb⟩
   ·exact .inl (k0 _ _ nb hb)
   ·exact .inr ⟨o,k0 _ _ nb hb⟩
  have r0:=k0 _ _ (kd _ _ (.inl hh.r)) hh.r
  have w0:=k0 _ _ (kd _ _ (.inl hh.w)) hh.w
  have x0:=k0 _ _ kx' hx
  have t0:=k0 _ _ kt ht
  have h10:=rd0 _ _ h1
  have h20:=rd0 _ _ h2
  have kb0:Kb [dd] H (upd H dd (.lst D.dropLast)):=λb o nb e=>k0 b o (λy=>nb (by simp [y])) e
  have dd1:=kd _ _ h1
  have dd2:=kd _ _ h2
  have ddr:=kd _ _ (.inl hh.r)
  have ddw:=kd _ _ (.inl hh.w)
  generalize upd H dd (.lst D.dropLast)=H0 at d0 r0 w0 x0 t0 h10 h20 kb0
  refine ⟨tp,exI rfl ⟨SqT.of t0,rfl,_,_,rfl,_,_,rfl,rfl,?_⟩⟩
  have isI:∀ {b o},Rd H0 b (.dK o)→x≠b:=λ{b o} hb y=>by rcases hb with hb|⟨u,hb⟩ <;> (rw [←y,x0] at hb;cases hb)
  have xr:=isI (.inl r0)
  have xw:=isI (.inl w0)
  have x1:=isI h10
  have x2:=isI h20
  have m1:∀b,b≠dr→b≠c1→b∉[dr,c1]:=λb a1 a2 y=>by
   rcases ak.mp y with y|y
   ·exact a1 y
   ·exact a2 (ao.mp y)
  have m2:∀b,b≠dw→b≠c2→b∉[dw,c2]:=λb a1 a2 y=>by
   rcases ak.mp y with y|y
   ·exact a1 y
   ·exact a2 (ao.mp y)
  refine exI rfl ⟨x,qq,dx,_,_,rfl,x0,T.clH,T.naHr,z8,exI rfl ⟨dr,c1,R,cs1,rfl,aN n1r,r0,h10,nd1,lR,l1,ok1,λq1 H1 nq1 fq1 fr1 fc1 kb1=>?_⟩⟩
  have hx1:=kb1 _ _ (m1 x xr x1) x0
  have hw1:=kb1 _ _ (m1 dw (aN hh.ne) (aN n1w)) w0
  have hd1:=kb1 _ _ (m1 dd (aN ddr) (aN dd1)) d0
  have hc2:=kb1.rd (m1 c2 n2r (aN n12)) h20
  refine exI rfl ⟨x,qq,dx,_,_,rfl,hx1,T.clH,T.naHw,zg,exI rfl ⟨dw,c2,W,cs2,rfl,aN n2w,hw1,hc2,nd2,lW,l2,ok2,λq2 H2 nq2 fq2 fw2 fc2 kb2=>?_⟩⟩
  refine k H2 ⟨⟨dx,kb2 _ _ (m2 x xw x2) hx1⟩,kb2 _ _ (m2 dr hh.ne (aN n2r)) fr1,fw2,kb2 _ _ (m2 dd (aN ddw) (aN dd2)) hd1,hh.ne⟩ (kb2.rd (m2 c1 n1w n12) fc1) fc2 λb o nb e=>?_
  simp only [ak,am,bH,not_or] at nb
  exact kb2 _ _ (m2 b nb.2.1 nb.2.2.2.2) (kb1 _ _ (m1 b nb.1 nb.2.2.2.1) (kb0 b o (by simpa using nb.2.2.1) e))
def wF (n:Str)(p t:Aj):List (Str×V):=[("whose",.str n),("point",.ref p),("times",.ref t)]
variable {t:Aj}
theorem qzk:(wF n p t).lookup ("whose" : Str)=some (.str n):=by unfold wF;rw [aK];simp
theorem qx4:(wF n p t).lookup ("point" : Str)=some (.ref p):=by
 unfold wF
 rw [aK,show (("point" : Str)==("whose" : Str))=false by decide +kernel]
 dsimp only
 rw [aK]
 simp
structure WkAt (C:Aj)(H:Hp)(y:Aj)(n:Str)(p:Aj)(pt:Int×Int)(t:Aj)(tv:List (List Key×V)):Prop where
 ob:∃dx,H y=some (.ins C dx (wF n p t))
 pt:H p=some (.tup [.int pt.1,.int pt.2])
 tm:H t=some (.dT tv)
variable {y:Aj}{tv:List (List Key×V)}
theorem WkAt.kb {pt:Int×Int}(h:WkAt C H y n p pt t tv){ch:List Aj}(k:Kb ch H H')(hc:∀b∈ch,(∃kv,Rd H b (.dK kv))∨∃D,H b=some (.lst D)):WkAt C H' y n p pt t tv:=by
 have no:∀b o,(∀kv,o≠HO.dK kv)→(∀u kv,o≠HO.frz u (.dK kv))→(∀D,o≠HO.lst D)→H b=some o→H' b=some o:=λb o a1 a2 a3 e=>k _ _ (λz=>by
  rcases hc b z with ⟨kv,q|⟨u,q⟩⟩|⟨D,q⟩
  ·rw [e] at q;cases q;exact a1 _ rfl
  ·rw [e] at q;cases q;exact a2 _ _ rfl
  ·rw [e] at q;cases q;exact a3 _ rfl) e
 obtain ⟨dx,e⟩:=h.ob
 exact ⟨⟨dx,no _ _ (λ_ z=>by cases z) (λ_ _ z=>by cases z) (λ_ z=>by cases z) e⟩,no _ _ (λ_ z=>by cases z) (λ_ _ z=>by cases z) (λ_ z=>by cases z) h.pt,no _ _ (λ_ z=>by cases z) (λ_ _ z=>by cases z) (λ_ z=>by cases z) h.tm⟩
theorem WkAt.same {pt:Int×Int}(h:WkAt C H y n p pt t tv)(s:Same H H'):WkAt C H' y n p pt t tv:=h.kb (ch:=[]) (Kb.of s) λb z=>nomatch z
def TmOk (tv:List (List Key×V)):Prop:=tv≠[]∧(tv.map (·.1)).Nodup∧∀q∈tv,∃a b c:Int,q=([.inl a,.inl b],.int c)∧0≤a∧a≤960∧1≤b∧b≤40
theorem TmOk.one {a b:Int}(a0:0≤a)(a1:a≤960)(b0:1≤b)(b1:b≤40):TmOk [([.inl a,.inl b],.int 1)]:=⟨λz=>(nomatch z),aO.mpr ⟨am,aV⟩,λq hq=>⟨a,b,1,ao.mp hq,a0,a1,b0,b1⟩⟩
def Wd (C:Aj):Sp:=λvs H Q _=>∃(y dx p t:Aj) (n:Str),vs=[.ref y,.str n,.ref p,.ref t]∧H y=some (.ins C dx [])∧∀H',H' y=some (.ins C dx (wF n p t))→Kb [y] H H'→Q .non H'
include T in
theorem qj0 (F:Fun K "__init__" "Walker.__init__" zay f fd):FK P w K mg base 1 f fd ["self","whose","point","times"] (Wd qz):=by
 have sc:=y9
 refine F.okX sc (λvs H Q E h=>by obtain ⟨_,_,_,_,_,rfl,_⟩:=h;rfl) λ_ _ _ _ H vs Q E hr h=>?_
 obtain ⟨y,dx,p,t,n,rfl,hy,k⟩:=h
 refine ⟨_,(qc (uq (pv 0) (pv 1) rfl)
   (qc (uq (pv 0) (pv 2) rfl)
   (wq (uq (pv 0) (pv 3) rfl)))),?_⟩
 refine exI rfl (exI rfl ⟨y,qz,dx,[],rfl,hy,T.clW,T.naWw,(by show 0<1000;decide),?_⟩)
 refine exI rfl (exI rfl ⟨y,qz,dx,exI rfl ⟨qj,T.clW,T.naWp,(by show 1<1000;decide),?_⟩⟩)
 refine exI rfl (exI rfl ⟨y,qz,dx,exI rfl ⟨qj,T.clW,T.naWt,(by show 2<1000;decide),?_⟩⟩)
 refine k _ qj λb o nb e=>?_
 have nb:b≠y:=λz=>nb (by simp [z])
 rw [q9 nb,q9 nb,q9 nb]
 exact e
theorem qk7 {Pp:Hp→Prop}(ny:H y=none)(nd:H dx=none)(k:∀H',Same H H'→(∃dx,H' y=some (.ins C dx (wF n p t)))→Pp H') :
  Wd C [.ref y,.str n,.ref p,.ref t] (upd (upd H dx (.own y)) y (.ins C dx [])) (λr H2=>r=.non∧Pp H2) E:=by
 refine ⟨y,dx,p,t,n,rfl,qj,λH' e kb=>⟨rfl,k H' (λb o eb=>kb b o (λz=>?_) ?_) ⟨dx,e⟩⟩⟩
 ·rw [ao.mp z,ny] at eb;cases eb
 ·rw [q9 (qm eb ny),q9 (qm eb nd)]
  exact eb
def Qb (C:Aj):Sp:=λvs H Q _=>∃(n:Str) (p:Aj) (pt:Int×Int),vs=[.str n,.ref p]∧H p=some (.tup [.int pt.1,.int pt.2])∧∀H' y t,H y=none→Same H H'→WkAt C H' y n p pt t [([.inl pt.1,.inl pt.2],.int 1)]→Q (.ref y) H'
include T in
theorem qw7 (F:Fun K "set_down" "set_down" zaz f fd)(zfr:CCal P w K mg base "Walker" qz 1 (Wd qz)):FK P w K mg base 3 f fd ["whose","point"] (Qb qz):=by
 have sc:=qww
 refine F.okX sc (λvs H Q E h=>by obtain ⟨_,_,_,rfl,_⟩:=h;rfl) λ_ _ _ _ H vs Q E hr h=>?_
 obtain ⟨n,p,pt,rfl,hp,k⟩:=h
 refine ⟨_,(wq (wp (qxx zfr (hr.mono ⋯) rfl qr (wx (pv 0) (wx (pv 1) (xq (qjr hr.units0 (pv 1) qd) qk)))))),?_⟩
 refine exI rfl (exI rfl (λt nt=>(exI rfl ⟨p,[.inl pt.1,.inl pt.2],rfl,(by rw [q9 (qm hp nt)];exact hp),qj,?_⟩)))
 have s1:Same H (upd (upd H t (.dT [])) t (.dT [([.inl pt.1,.inl pt.2],.int 1)])):=by
  rw [yk]
  exact Same.upd nt
 have f1:upd (upd H t (.dT [])) t (.dT [([.inl pt.1,.inl pt.2],.int 1)]) t=some (.dT [([.inl pt.1,.inl pt.2],.int 1)]):=qj
 generalize upd (upd H t (.dT [])) t (.dT [([.inl pt.1,.inl pt.2],.int 1)])=H1 at s1 f1
 exact λy dx ny nd ne=>qk7 ny nd λH' s2 e=>k H' y t (xg s1 ny) (s1.trans s2) ⟨e,s2 _ _ (s1 _ _ hp),s2 _ _ f1⟩
def HPt (hs:List Int)(pt:Int×Int):Prop:=xv hs∧Pt hs pt.2 pt∧pt.2≤40
theorem HPt.rng {pt:Int×Int}(h:HPt hs pt):0≤pt.1∧pt.1≤960∧1≤pt.2∧pt.2≤40:=by
 obtain ⟨ok,⟨h1,_,_,h0,h2⟩,h3⟩:=h
 have ol:=ok.2.1
 have o1:=ok.1
 have:((hs.length:Int)-1)*pt.2≤24*pt.2:=cG ⋯ ⋯
 lia
variable {CW:Aj}
theorem qks {c2:Aj}{whose:Str}{pt:Int×Int}(hh:Hse C H x dr dw dd R W D)(n1:H c1=none)(n2:upd H c1 (.dK []) c2=none)(s3:Same (upd (upd H c1 (.dK [])) c2 (.dK [])) H3)(W3:WkAt CW H3 y whose p pt t tv)(lR:R.length≤1000)(lW:W.length≤1000)(lD:D.length≤1000000)
  (k:∀H' tp q1 q2,H tp=none→H q1=none→H q2=none→Hse C H' x dr dw dd R (zb W (.inr n) (.ref y)) (D++[.ref tp])→H' tp=some (.tup [.ref q1,.ref q2])→H' q1=some (.dK [])→H' q2=some (.dK [(.inr n,(wj W (.inr n)).getD .non)])→q1≠q2→WkAt CW H' y whose p pt t tv→Kb [dr,dw,dd] H H'→Q .non H') :
  spDo C [.ref x,.ref c1,.ref c2] (upd H3 c2 (.dK [(.inr n,.ref y)])) Q E:=by
 have c12:c1≠c2:=λz=>by rw [←z,qj] at n2;cases n2
 have n20:H c2=none:=by rw [←n2,q9 (aN c12)]
 have s03:Same H H3:=λb o e=>s3 _ _ (by rw [q9 (qm e n20),q9 (qm e n1)];exact e)
 have h32:H3 c2=some (.dK []):=s3 _ _ qj
 have h31:H3 c1=some (.dK []):=s3 _ _ (by rw [q9 c12,qj])
 have keep:∀b o,(∀kv,o≠HO.dK kv)→H3 b=some o→upd H3 c2 (.dK [(.inr n,.ref y)]) b=some o:=λb o no e=>by
  rw [q9 (λz=>by rw [z,h32] at e;cases e;exact no _ rfl)]
  exact e
 have W4:WkAt CW (upd H3 c2 (.dK [(.inr n,.ref y)])) y whose p pt t tv:=by
  obtain ⟨dx,e⟩:=W3.ob
  exact ⟨⟨dx,keep _ _ (λkv z=>by cases z) e⟩,keep _ _ (λkv z=>by cases z) W3.pt,keep _ _ (λkv z=>by cases z) W3.tm⟩
 have s4:Same H (upd H3 c2 (.dK [(.inr n,.ref y)])):=λb o e=>by rw [q9 (qm e n20)];exact s03 _ _ e
 have e1:upd H3 c2 (.dK [(.inr n,.ref y)]) c1=some (.dK []):=by rw [q9 c12];exact h31
 have e2:upd H3 c2 (.dK [(.inr n,.ref y)]) c2=some (.dK [(.inr n,.ref y)]):=qj
 generalize upd H3 c2 (.dK [(.inr n,.ref y)])=H4 at s4 e1 e2 W4
 have hh4:=hh.same s4
 refine ⟨x,dr,dw,dd,c1,c2,R,W,[],[(.inr n,.ref y)],D,rfl,hh4,.inl e1,.inl e2,c12,(qm hh.r n1).symm,(qm hh.w n1).symm,(qm hh.r n20).symm,(qm hh.w n20).symm,aV,aO.mpr ⟨am,aV⟩,lR,lW,aC _,by show 1≤1000;decide,lD,(λi c ec hc=>nomatch ec),λi c ec hc=>?_,λH' tp q1 q2 a1 a2 a3 a4 a5 a6 a7 a8 _ a9=>?_⟩
 ·cases i with
  |zero=>cases ec;cases hc
  |succ i=>cases ec
 ·have no:∀b,H4 b=none→H b=none:=λb e=>xg s4 e
  have wk:WkAt CW H' y whose p pt t tv:=W4.kb a9 λb hb=>by
   simp only [ak,am,bH] at hb
   rcases hb with rfl|rfl|rfl|rfl|rfl
   ·exact .inl ⟨_,.inl hh4.r⟩
   ·exact .inl ⟨_,.inl hh4.w⟩
   ·exact .inr ⟨_,hh4.d⟩
   ·exact .inl ⟨_,.inl e1⟩
   ·exact .inl ⟨_,.inl e2⟩
  refine k H' tp q1 q2 (no _ a1) (no _ a2) (no _ a3) a4 a5 a6 a7 a8 wk λb o nb e=>a9 b o (λz=>?_) (s4 _ _ e)
  simp only [ak,am,bH] at z nb
  rcases z with z|z|z|z|z
  ·exact nb (.inl z)
  ·exact nb (.inr (.inl z))
  ·exact nb (.inr (.inr z))
  ·rw [z,n1] at e;cases e
  ·rw [z,n20] at e;cases e
def WDeed (C CW:Aj)(H H':Hp)(x dr dw dd:Aj)(R W:List (Key×V))(D:List V)(n whose:Str)(p:Aj)(pt:Int×Int)(t:Aj)(tv:List (List Key×V)):Prop:=∃y tp q1 q2,H tp=none∧H q1=none∧H q2=none∧Hse C H' x dr dw dd R (zb W (.inr n) (.ref y)) (D++[.ref tp])∧H' tp=some (.tup [.ref q1,.ref q2])∧H' q1=some (.dK [])∧H' q2=some (.dK [(.inr n,(wj W (.inr n)).getD .non)])∧q1≠q2∧WkAt CW H' y whose p pt t tv∧Kb [dr,dw,dd] H H'
theorem WDeed.pre {H0:Hp}{whose:Str}{pt:Int×Int}(h:WDeed C CW H H' x dr dw dd R W D n whose p pt t tv)(s:Same H0 H):WDeed C CW H0 H' x dr dw dd R W D n whose p pt t tv:=by
 obtain ⟨y,tp,q1,q2,a1,a2,a3,a4,a5,a6,a7,a8,a9,b1⟩:=h
 exact ⟨y,tp,q1,q2,xg s a1,xg s a2,xg s a3,a4,a5,a6,a7,a8,a9,λb o nb e=>b1 b o nb (s _ _ e)⟩
def qqs (C CW CN:Aj):Sp:=λvs H Q E=>∃(x dr dw dd:Aj) (R W:List (Key×V)) (D:List V) (n:Str),vs=[.ref x,.str n]∧Hse C H x dr dw dd R W D∧(wj W (.inr n)=none→E (.ref CN) none H) ∧
 (∀v,wj W (.inr n)=some v→∃y whose p pt t tv,v=.ref y∧WkAt CW H y whose p pt t tv∧∀q,H q=none→Q (.ref q) (upd H q (.tup [.str whose,.ref p])))
include T in
theorem qjj (F:Fun K "where" "House.where" zbd f fd)(zfs:MCal P w K mg base qq "walker_called" 1 (km qq qu false)) :
  FK P w K mg base 2 f fd ["self","name"] (qqs qq qz qu):=by
 have sc:=Zq
 refine F.okX sc (λvs H Q E h=>by obtain ⟨_,_,_,_,_,_,_,_,rfl,_⟩:=h;rfl) λ_ _ _ _ H vs Q E hr h=>?_
 obtain ⟨x,dr,dw,dd,R,W,D,n,rfl,hh,kx,k⟩:=h
 obtain ⟨dx,hx⟩:=hh.ob
 refine ⟨_,(qc (wf (i:=2) (zc (pv 0) T.clH zfs (hr.mono ⋯) qr (wx (pv 1) qk)))
   (wq (wp (jz (xq (zx (pv 2) rfl) (xq (zx (pv 2) rfl) qk)))))),?_⟩
 refine ⟨_,rfl,x,dx,_,rfl,hx,zv,_,rfl,x,dr,dw,dd,R,W,D,n,rfl,hh,λv e=>?_,kx⟩
 obtain ⟨y,whose,p,pt,t,tv,rfl,hW,q⟩:=k v e
 obtain ⟨dy,hy⟩:=hW.ob
 exact exI rfl ⟨y,qz,dy,_,_,rfl,hy,T.clW,T.naWw,qzk,exI rfl ⟨y,qz,dy,_,_,rfl,hy,T.clW,T.naWp,qx4,sz2,q⟩⟩
def uz (K:Aa)(C CR CW CN CT CNR CB CO:Aj):Sp:=λvs H Q E=>∃(x dr dw dd a:Aj) (R W:List (Key×V)) (D:List V) (n whose:Str) (t b:Int),vs=[.ref x,.str n,.str whose,.ref a]∧Hse C H x dr dw dd R W D∧R.length≤1000∧W.length≤1000∧D.length≤1000000∧n.length≤1000∧H a=some (.tup [.int t,.int b]) ∧
 (zk n=false→∀H',Same H H'→E (.ref CN) none H')∧(zk n=true→(wj W (.inr n)).isSome=true→∀H',Same H H'→E (.ref CT) none H')∧(zk n=true→wj W (.inr n)=none→(wj R (.inr whose)=none→∀H',Same H H'→E (.ref CNR) none H') ∧
  ∀v,wj R (.inr whose)=some v→∃r hs,v=.ref r∧RoadAt CR H r hs∧xv hs∧(b<1→∀H',Same H H'→E (.ref CB) none H')∧(1≤b→Sm 8000 b∧(40<(wm t b).2→∀H',Same H H'→E (.ref CB) none H')∧((wm t b).2≤40 →
   (¬ jg hs (wm t b).1 (wm t b).2→∀H',Same H H'→E (.ref CO) none H')∧(jg hs (wm t b).1 (wm t b).2→∀H' p t',WDeed C CW H H' x dr dw dd R W D n whose p (wm t b) t' [([.inl (wm t b).1,.inl (wm t b).2],.int 1)]→Q .non H'))))
theorem low1 {t b:Int}(h:1≤b):1≤(wm t b).2:=by
 have e:=qwz (t:=t) h
 have g:=k9 (t:=t) h
 show 1≤b/gOf t b
 by_cases z:1≤b/gOf t b
 ·exact z
 ·have:gOf t b*(b/gOf t b)≤0:=Int.mul_nonpos_of_nonneg_of_nonpos ⋯ ⋯
  lia
include T in
theorem qug (F:Fun K "place" "House.place" za8 f fd)(zbz:Cal P w K mg base "check_new_name" 2 (yz qb wz))(zb1:MCal P w K mg base qq "road_called" 1 (km qq qt true))(zby:Cal P w K mg base "lowest" 2 (Qq qx))(zft:MCal P w K mg base qg "on_road" 3 (Z2 K qg qx qp))(zfu:Cal P w K mg base "set_down" 3 (Qb qz))(zb0:MCal P w K mg base qq "do" 2 (spDo qq)) :
  FK P w K mg base 5 f fd ["self","name","whose","point"] (uz K qq qg qz qb wz qt qx qp):=by
 have sc:=Zk
 refine F.okX sc (λvs H Q E h=>by obtain ⟨_,_,_,_,_,_,_,_,_,_,_,_,rfl,_⟩:=h;rfl) λ_ _ _ _ H vs Q E hr h=>?_
 obtain ⟨x,dr,dw,dd,a,R,W,D,n,whose,t,b,rfl,hh,lR,lW,lD,ln,ha,kn,kt,k⟩:=h
 obtain ⟨dx,hx⟩:=hh.ob
 obtain ⟨tg,zad⟩:=T.zad
 refine ⟨_,(qc (zq (wCA zbz (wx (pv 1) (xq (zx (pv 0) rfl) qk))))
   (qc (wf (i:=4) (zc (pv 0) T.clH zb1 (hr.mono ⋯) qr (wx (pv 2) qk)))
   (qc (wf (i:=5) (wCA zby (yh (vc yt (pv 3) qd (λ_ _=>rfl)) (yh (vc yt (pv 3) qd (λ_ _=>rfl)) qk))))
   (qc (xm (w4 Q2 (vc yt (pv 5) qd (λ_ _=>rfl)) (Wb (v:=V.int 40) rfl zad ⟨_,rfl⟩) (w9 _)) (wq (zp rfl T.zaf zj rfl T.zes (w8 xn qk))) w6)
   (wq (zq (zc (pv 0) T.clH zb0 (hr.mono ⋯) qr (xq jk (xq (qvf (qxm (pv 1) (wCA zfu (wx (pv 2) (k6 (zc (pv 4) T.cl zft (hr.mono ⋯) qr (wx (pv 5) qk)) qk))) qvv) rfl rfl (λz=>nomatch z) ⋯) qk))))))))),?_⟩
 refine ⟨_,rfl,_,rfl,x,qq,dx,_,_,rfl,hx,T.clH,T.naHw,zg,n,dw,W,rfl,ln,hh.w,λa1 a2 H1 s1=>?_,kn,kt⟩
 obtain ⟨kr,k⟩:=k a1 a2
 have hh1:=hh.same s1
 refine ⟨_,rfl,x,dx,_,rfl,s1 _ _ hx,zv,_,rfl,x,dr,dw,dd,R,W,D,whose,rfl,hh1,λv e=>?_,λe=>kr e H1 s1⟩
 obtain ⟨r,hs,rfl,hR,okl,kb,k⟩:=k v e
 refine ⟨_,rfl,_,_,_,_,rfl,rfl,SqT.of (s1 _ _ ha),rfl,_,rfl,_,_,_,_,rfl,rfl,SqT.of (s1 _ _ ha),rfl,t,b,rfl,λb1=>?_,λb1=>kb b1 H1 s1⟩
 obtain ⟨sm,kg,k⟩:=k b1
 refine ⟨sm.mono ⋯,λp np=>?_⟩
 have s2:Same H (upd H1 p (.tup (ptV (wm t b)))):=s1.trans (Same.upd np)
 have f2:upd H1 p (.tup (ptV (wm t b))) p=some (.tup [.int (wm t b).1,.int (wm t b).2]):=qj
 generalize upd H1 p (.tup (ptV (wm t b)))=H2 at s2 f2
 have l1:=low1 (t:=t) b1
 refine exI rfl (exX rfl rfl (SqT.of f2) rfl (wc rfl rfl (exI rfl (jy (λz=>⟨sz1,kg ⋯ H2 s2⟩) (λz=>?_)))))
 obtain ⟨ko,k⟩:=k ⋯
 refine exI rfl ⟨x,dx,exI rfl ⟨s2 _ _ hx,zv,λc1 n1=>λc2 n2=>(exI rfl (exI rfl (exI rfl ?_)))⟩⟩
 obtain ⟨dy,l,h1,h2⟩:=id hR
 have sc2:Same H2 (upd (upd H2 c1 (.dK [])) c2 (.dK [])):=λb o e=>by
  have e4:upd H2 c1 (.dK []) b=some o:=by rw [q9 (qm e n1)];exact e
  rw [q9 (qm e4 n2)]
  exact e4
 have s3:=s2.trans sc2
 refine ⟨r,dy,_,rfl,s3 _ _ h1,y0 (by decide +kernel),_,rfl,r,p,hs,(wm t b).1,(wm t b).2,rfl,hR.same s3,okl,SqT.of (sc2 _ _ f2),λ_=>⟨(Sm.small (n:=65) ⋯ ⋯ ⋯).mono ⋯,λon q H3 s4 fq=>?_,λon H3 s4=>ko on H3 (s3.trans s4)⟩,λz=>absurd z ⋯⟩
 have e3:wm (wm t b).1 (wm t b).2=wm t b:=qvg l1 (qys b1)
 rw [e3] at fq
 refine ⟨whose,q,wm t b,rfl,fq,λH4 y t' ny s5 w5=>?_⟩
 refine ⟨s5 _ _ (s4 _ _ qj),[(.inr n,.ref y)],rfl,(show 1≤15 by decide),?_⟩
 exact qks (E:=E) (hh.same s2) n1 n2 (s4.trans s5) w5 lR lW lD λH' tp q1 q2 b1 b2 b3 b4 b5 b6 b7 b8 b9 kb=>k on H' q t' (WDeed.pre ⟨y,tp,q1,q2,b1,b2,b3,b4,b5,b6,b7,b8,b9,kb⟩ s2)
def J0 (C:Aj):Sp:=λvs H Q _=>∃(x dr dw dd:Aj) (R W:List (Key×V)) (D:List V) (rs ws:List Str),vs=[.ref x]∧Hse C H x dr dw dd R W D∧R.map (·.1)=rs.map Sum.inr∧R.length<64∧W.map (·.1)=ws.map Sum.inr∧W.length<64 ∧
 ∀(q l1 l2:Aj) (ms1 ms2:List Str) (H':Hp),Same H H'→ms1.Perm rs→ms1.Pairwise (λx y=>¬ y.cps.toList<x.cps.toList)→ms2.Perm ws→ms2.Pairwise (λx y=>¬ y.cps.toList<x.cps.toList)→H' l1=some (.lst (ms1.map V.str))→H' l2=some (.lst (ms2.map V.str))→H' q=some (.tup [.ref l1,.ref l2])→Q (.ref q) H'
include T in
theorem qju (F:Fun K "names" "House.names" zbb f fd):FK P w K mg base 1 f fd ["self"] (J0 qq):=by
 have sc:=W9
 refine F.okX sc (λvs H Q E h=>by obtain ⟨_,_,_,_,_,_,_,_,_,rfl,_⟩:=h;rfl) λ_ _ _ _ H vs Q E hr h=>?_
 obtain ⟨x,dr,dw,dd,R,W,D,rs,ws,rfl,hh,eR,lR,eW,lW,k⟩:=h
 obtain ⟨dx,hx⟩:=hh.ob
 refine ⟨_,(wq (wp (jz (k6 (wg (yd rfl) rfl T.sorted_ bE (xq (zx (pv 0) rfl) qk)) (k6 (wg (yd rfl) rfl T.sorted_ bE (xq (zx (pv 0) rfl) qk)) qk))))),?_⟩
 refine exI rfl ⟨x,qq,dx,_,_,rfl,hx,T.clH,T.naHr,z8,dr,R,rs,rfl,.inl hh.r,eR,lR,λl1 ms1 n1 pm1 st1=>?_⟩
 have s1:Same H (upd H l1 (.lst (ms1.map V.str))):=Same.upd n1
 have f1:upd H l1 (.lst (ms1.map V.str)) l1=some (.lst (ms1.map V.str)):=qj
 generalize upd H l1 (.lst (ms1.map V.str))=H1 at s1 f1
 refine exI rfl ⟨x,qq,dx,_,_,rfl,s1 _ _ hx,T.clH,T.naHw,zg,dw,W,ws,rfl,.inl (s1 _ _ hh.w),eW,lW,λl2 ms2 n2 pm2 st2=>?_⟩
 have s2:Same H1 (upd H1 l2 (.lst (ms2.map V.str))):=Same.upd n2
 have f2:upd H1 l2 (.lst (ms2.map V.str)) l2=some (.lst (ms2.map V.str)):=qj
 generalize upd H1 l2 (.lst (ms2.map V.str))=H2 at s2 f2
 refine ⟨sz2,λq nq=>?_⟩
 have s3:Same H2 (upd H2 q (.tup [.ref l1,.ref l2])):=Same.upd nq
 exact k q l1 l2 ms1 ms2 _ (s1.trans (s2.trans s3)) pm1 st1 pm2 st2 (s3 _ _ (s2 _ _ f1)) (s3 _ _ f2) qj
def qvs (C:Aj)(H H':Hp)(x dr dw dd:Aj)(R W:List (Key×V))(D:List V)(cs1 cs2:List (Key×V)):Prop:=∃tp q1 q2,H tp=none∧H q1=none∧H q2=none∧Hse C H' x dr dw dd (exK R cs1) (exK W cs2) (D++[.ref tp])∧H' tp=some (.tup [.ref q1,.ref q2])∧H' q1=some (.dK (bfK R cs1))∧H' q2=some (.dK (bfK W cs2))∧q1≠q2∧Kb [dr,dw,dd] H H'
variable {kvs:List (Key×V)}{v:V}
theorem qjx {k:Key}{u:V}(h:wj kvs k=some u):(zb kvs k v).map (·.1)=kvs.map (·.1):=by
 unfold zb
 rw [aj (by rw [ju,h];rfl),be]
 refine bO λkv _=>?_
 show (if kv.1=k then (kv.1,v) else kv).1=kv.1
 split <;> rfl
variable {ch:List Aj}
theorem Kb.sql (k:Kb ch H H'){a:Aj}{xs:List V}(h:SqL K H a xs)(d:(∀H',SqL K H' a xs)∨a∉ch):SqL K H' a xs:=by
 rcases d with d|d
 ·exact d H'
 ·rcases h with (e|⟨u,e⟩)|e
  ·exact .inl (.inl (k _ _ d e))
  ·exact .inl (.inr ⟨u,k _ _ d e⟩)
  ·exact .inr e
def Dl (H:Hp)(ch:List Aj):Prop:=∀b∈ch,(∃kv,Rd H b (.dK kv))∨∃D,qqx D∧H b=some (.lst D)
theorem Dl.nil:Dl H []:=λb hb=>nomatch hb
theorem Dl.cons {a:Aj}(h:(∃kv,Rd H a (.dK kv))∨∃D,qqx D∧H a=some (.lst D))(d:Dl H ch):Dl H (a::ch):=λb hb=>by
 rcases ak.mp hb with rfl|hb
 ·exact h
 ·exact d b hb
theorem Hse.dl (h:Hse C H x dr dw dd R W D)(rf:qqx D){ch:List Aj}(d:Dl H ch):Dl H (dr::dw::dd::ch):=.cons (.inl ⟨_,.inl h.r⟩) (.cons (.inl ⟨_,.inl h.w⟩) (.cons (.inr ⟨_,rf,h.d⟩) d))
theorem Dl.other (d:Dl H ch){a:Aj}{o:HO}(e:H a=some o)(n1:∀kv,o≠.dK kv)(n2:∀u kv,o≠.frz u (.dK kv))(n3:∀D,qqx D→o≠.lst D):a∉ch:=λz=>by
 rcases d a z with ⟨kv,y|⟨u,y⟩⟩|⟨D,rf,y⟩ <;> (rw [e] at y;injection y with y)
 ·exact n1 _ y
 ·exact n2 _ _ y
 ·exact n3 _ rf y
theorem Dl.tup (d:Dl H ch)(k:Kb ch H H'){a:Aj}{xs:List V}(e:H a=some (.tup xs)):H' a=some (.tup xs):=k _ _ (d.other e (λ_ z=>by cases z) (λ_ _ z=>by cases z) (λ_ _ z=>by cases z)) e
theorem quw (ok:xv hs){D:List V}(rf:qqx D)(e:HO.lst (hs.map V.int)=HO.lst D):False:=by
 have e:hs.map V.int=D:=by injection e
 have l:=ok.1
 have m:V.int (hs[0]'⋯)∈hs.map V.int:=aA.mpr ⟨_,bz _,rfl⟩
 rw [e] at m
 obtain ⟨a,ea⟩:=rf _ m
 cases ea
theorem Dl.row (d:Dl H ch)(k:Kb ch H H'){a:Aj}{hs:List Int}(ok:xv hs)(e:H a=some (.lst (hs.map V.int))):H' a=some (.lst (hs.map V.int)):=k _ _ (d.other e (λ_ z=>by cases z) (λ_ _ z=>by cases z) (λ_ rf z=>quw ok rf z)) e
theorem Dl.road (d:Dl H ch)(k:Kb ch H H'){r:Aj}{hs:List Int}(ok:xv hs)(h:RoadAt C H r hs):RoadAt C H' r hs:=by
 obtain ⟨dx,q,h1,h2⟩:=h
 exact ⟨dx,q,k _ _ (d.other h1 (λ_ z=>by cases z) (λ_ _ z=>by cases z) (λ_ _ z=>by cases z)) h1,d.row k ok h2⟩
theorem Dl.wk (d:Dl H ch)(k:Kb ch H H'){y:Aj}{n:Str}{p:Aj}{pt:Int×Int}{t:Aj}{tv:List (List Key×V)}(h:WkAt C H y n p pt t tv):WkAt C H' y n p pt t tv:=by
 obtain ⟨dx,e⟩:=h.ob
 have e2:=h.tm
 exact ⟨⟨dx,k _ _ (d.other e (λ_ z=>by cases z) (λ_ _ z=>by cases z) (λ_ _ z=>by cases z)) e⟩,d.tup k h.pt,k _ _ (d.other e2 (λ_ z=>by cases z) (λ_ _ z=>by cases z) (λ_ _ z=>by cases z)) e2⟩
theorem qz5 {n:Key}:exK W [(n,.ref y)]=zb W n (.ref y):=by
 show ex1 W (n,.ref y)=_
 unfold ex1
 rw [ag (λz=>by cases z)]
theorem qyh {k:Key}:([(k,v)].map (·.1)).Nodup:=aO.mpr ⟨am,aV⟩
def ovr (f:Key→Option V)(cs:List (Key×V)):Key→Option V:=λm=>match wj cs m with|none=>f m|some .non=>none|some v=>some v
theorem Z6 {k j:Key}(hj:j≠k):∀kvs:List (Key×V),wj (j7 kvs k) j=wj kvs j
 |[]=>rfl
 |p::r=>by
  have ih:=Z6 hj r
  unfold j7 at ih ⊢
  by_cases e:p.1=k
  ·rw [bP,ag (by simp [e]),ih,xj (λz=>hj (z.symm.trans e))]
  ·rw [bP,aj (by simp [e])]
   by_cases z:p.1=j
   ·rw [xy z,xy z]
   ·rw [xj z,xj z,ih]
theorem Y7 {k:Key}:∀kvs:List (Key×V),wj (j7 kvs k) k=none
 |[]=>rfl
 |p::r=>by
  have ih:=Y7 (k:=k) r
  unfold j7 at ih ⊢
  by_cases e:p.1=k
  ·rw [bP,ag (by simp [e]),ih]
  ·rw [bP,aj (by simp [e]),xj e,ih]
theorem qwp {k:Key}(h:k∉kvs.map (·.1)):wj kvs k=none:=by
 unfold wj
 rw [List.find?_eq_none.mpr λkv hk=>by simp only [cA];exact λz=>h (aA.mpr ⟨kv,hk,z⟩)]
 rfl
theorem qvu {k:Key}(h:wj kvs k=some v):(k,v)∈kvs:=by
 unfold wj at h
 obtain ⟨kv,e1,e2⟩:=Option.map_eq_some_iff.mp h
 have:=List.find?_some e1
 simp only [cA] at this
 have m:=List.mem_of_find?_eq_some e1
 rw [←this,←e2]
 exact m
theorem v9 (nd:(kvs.map (·.1)).Nodup){c:Key×V}(h:c∈kvs):wj kvs c.1=some c.2:=by
 induction kvs with
 |nil=>cases h
 |cons p r ih =>
  rw [aG] at nd
  obtain ⟨a,b⟩:=aO.mp nd
  rcases ak.mp h with rfl|h
  ·exact xy rfl
  ·rw [xj (λz=>a (by rw [z];exact aA.mpr ⟨c,h,rfl⟩))]
   exact ih b h
theorem qvh (R:List (Key×V))(c:Key×V)(m:Key):wj (ex1 R c) m=if m=c.1 then (if c.2=.non then none else some c.2) else wj R m:=by
 unfold ex1
 by_cases z:c.2=.non
 ·rw [aj z,aj z]
  by_cases y:m=c.1
  ·rw [aj y,y,Y7]
  ·rw [ag y,Z6 y]
 ·rw [ag z,ag z,uy]
theorem z0:∀(cs:List (Key×V)) (R:List (Key×V)),(cs.map (·.1)).Nodup→∀m,wj (exK R cs) m=ovr (wj R) cs m
 |[],R,_,m=>rfl
 |c::cs,R,nd,m=>by
  rw [aG] at nd
  obtain ⟨a,b⟩:=aO.mp nd
  show wj (exK (ex1 R c) cs) m=_
  rw [z0 cs (ex1 R c) b m]
  unfold ovr
  by_cases z:c.1=m
  ·rw [xy z,qwp (kvs:=cs) (by rw [←z];exact a)]
   show wj (ex1 R c) m=_
   rw [qvh,aj z.symm]
   cases c.2 <;> rfl
  ·rw [xj z]
   cases wj cs m with
   |none =>
    show wj (ex1 R c) m=_
    rw [qvh,ag (aN z)]
   |some v=>cases v <;> rfl
theorem qvq (R cs:List (Key×V)):(bfK R cs).map (·.1)=cs.map (·.1):=by
 unfold bfK
 rw [be]
 rfl
theorem val_bf (R cs:List (Key×V))(m:Key):wj (bfK R cs) m=(wj cs m).map λ_=>(wj R m).getD .non:=by
 induction cs with
 |nil=>rfl
 |cons c cs ih =>
  show wj ((c.1,(wj R c.1).getD .non)::bfK R cs) m=_
  by_cases z:c.1=m
  ·rw [xy (p:=(c.1,(wj R c.1).getD .non)) z,xy z,z]
   rfl
  ·rw [xj (p:=(c.1,(wj R c.1).getD .non)) z,xj z,ih]
variable {cs:List (Key×V)}
theorem qqn (nd:(cs.map (·.1)).Nodup)(hv:∀m,wj R m≠some .non)(m:Key):ovr (wj (exK R cs)) (bfK R cs) m=wj R m:=by
 unfold ovr
 rw [val_bf]
 cases e:wj cs m with
 |none =>
  show wj (exK R cs) m=_
  rw [z0 cs R nd,ovr,e]
 |some v =>
  show (match some ((wj R m).getD .non) with|none=>wj (exK R cs) m|some .non=>none|some v=>some v)=_
  have:=hv m
  cases e2:wj R m with
  |none=>rfl
  |some u =>
   rw [e2] at this
   cases u <;> first | rfl | exact absurd rfl this
def Zv (f:Key→Option V)(cs:List (Key×V)):Prop:=∀c∈cs,c.2=.non→(f c.1).isSome=true
theorem qvb (nd:(cs.map (·.1)).Nodup)(h:Zv (wj R) cs):ExOk R cs:=λi c ec hc=>by
 have hi:=(aL.mp ec).1
 have sub:((cs.take i).map (·.1)).Nodup:=by
  rw [List.map_take]
  exact nd.sublist (di _ _)
 rw [z0 _ _ sub]
 unfold ovr
 rw [qwp (kvs:=cs.take i) λz=>?_]
 ·exact h c (bt ec) hc
 ·obtain ⟨c',hc',e⟩:=aA.mp z
  obtain ⟨j,hj,ej⟩:=cO hc'
  rw [br] at hj
  rw [List.getElem_take] at ej
  have ei:=(aL.mp ec).2
  have:=(du (h₀:=by rw [aa];lia) (h₁:=by rw [aa];lia) nd (i:=j) (j:=i)).mp (by rw [dE,dE,ej,ei];exact e)
  lia
theorem go_bf (nd:(cs.map (·.1)).Nodup)(hv:∀m,wj R m≠some .non)(h:Zv (wj R) cs):Zv (wj (exK R cs)) (bfK R cs):=λc hc hn=>by
 obtain ⟨c0,h0,rfl⟩:=aA.mp hc
 have hn:(wj R c0.1).getD .non=.non:=hn
 show (wj (exK R cs) c0.1).isSome=true
 rw [z0 cs R nd,ovr,v9 nd h0]
 by_cases z:c0.2=.non
 ·have:=h c0 h0 z
  obtain ⟨v,ev⟩:=ar.mp this
  rw [ev] at hn
  have hn:v=.non:=hn
  rw [hn] at ev
  exact absurd ev (hv _)
 ·cases e:c0.2 <;> first | rfl | exact absurd e z
theorem qyy (nd:(R.map (·.1)).Nodup)(c:Key×V):((ex1 R c).map (·.1)).Nodup:=by
 unfold ex1
 split
 ·unfold j7
  exact nd.sublist (List.Sublist.map _ List.filter_sublist)
 ·cases e:wj R c.1 with
  |none =>
   rw [qwh _ e,aP,List.nodup_append]
   refine ⟨nd,aO.mpr ⟨am,aV⟩,λx hx y hy z=>?_⟩
   have hy:y=c.1:=ao.mp hy
   obtain ⟨p,hp,rfl⟩:=aA.mp hx
   have:=v9 nd hp
   rw [z,hy,e] at this
   cases this
  |some v=>rw [qjx e];exact nd
theorem qvy (nd:(R.map (·.1)).Nodup):∀cs:List (Key×V),((exK R cs).map (·.1)).Nodup:=λcs=>by
 induction cs generalizing R with
 |nil=>exact nd
 |cons c cs ih=>exact ih (qyy nd c)
def RefsF (f:Key→Option V):Prop:=∀m v,f m=some v→∃n a,m=.inr n∧v=.ref a
def j4 (cs:List (Key×V)):Prop:=∀c∈cs,∃n,c.1=.inr n∧(c.2=.non∨∃a,c.2=.ref a)
theorem RefsF.ovr {f:Key→Option V}(h:RefsF f){cs:List (Key×V)}(hc:j4 cs):RefsF (ovr f cs):=λm v e=>by
 unfold My.ovr at e
 cases e2:wj cs m with
 |none=>rw [e2] at e;exact h m v e
 |some u =>
  obtain ⟨n,e3,e4⟩:=hc _ (qvu e2)
  have e3:m=.inr n:=e3
  rcases e4 with e4|⟨a,e4⟩
  ·have e4:u=.non:=e4
   rw [e2,e4] at e
   cases e
  ·have e4:u=.ref a:=e4
   rw [e2,e4] at e
   cases e
   exact ⟨n,a,e3,rfl⟩
theorem RefsF.non {f:Key→Option V}(h:RefsF f)(m:Key):f m≠some .non:=λz=>by
 obtain ⟨_,_,_,e⟩:=h m _ z
 cases e
theorem RefsF.bf (h:RefsF (wj R)){cs:List (Key×V)}(hc:j4 cs):j4 (bfK R cs):=λc hc'=>by
 obtain ⟨c0,h0,rfl⟩:=aA.mp hc'
 obtain ⟨n,e,_⟩:=hc c0 h0
 refine ⟨n,e,?_⟩
 show (wj R c0.1).getD .non=.non∨_
 cases e2:wj R c0.1 with
 |none=>exact .inl rfl
 |some v =>
  obtain ⟨_,a,_,e3⟩:=h _ _ e2
  exact .inr ⟨a,e3⟩
structure Deed where
 tp:Aj
 q1:Aj
 q2:Aj
 cs1:List (Key×V)
 cs2:List (Key×V)
def DeedAt (H:Hp)(d:Deed):Prop:=H d.tp=some (.tup [.ref d.q1,.ref d.q2])∧Rd H d.q1 (.dK d.cs1)∧Rd H d.q2 (.dK d.cs2)
structure DeedOk (d:Deed):Prop where
 nd1:(d.cs1.map (·.1)).Nodup
 nd2:(d.cs2.map (·.1)).Nodup
 l1:d.cs1.length≤1000
 l2:d.cs2.length≤1000
 r1:j4 d.cs1
 r2:j4 d.cs2
 ne:d.q1≠d.q2
def Qv (ds:List Deed):List Aj:=ds.flatMap λd=>[d.q1,d.q2]
def jb (ds:List Deed):List V:=ds.reverse.map λd=>V.ref d.tp
theorem qxz (d:Deed)(ds:List Deed):jb (d::ds)=jb ds++[.ref d.tp]:=by
 unfold jb
 rw [dj,aP]
 rfl
theorem Jn (ds:List Deed):(jb ds).length=ds.length:=by
 unfold jb
 rw [aa,List.length_reverse]
theorem Zm (ds:List Deed):qqx (jb ds):=λv hv=>by
 obtain ⟨d,_,rfl⟩:=aA.mp hv
 exact ⟨_,rfl⟩
theorem Jg {d:Deed}{ds:List Deed}(h:d∈ds):d.q1∈Qv ds∧d.q2∈Qv ds:=⟨dF.mpr ⟨d,h,by simp⟩,dF.mpr ⟨d,h,by simp⟩⟩
def Und:(Key→Option V)→(Key→Option V)→List Deed→Prop
 |_,_,[]=>True
 |f,g,d::ds=>Zv f d.cs1∧Zv g d.cs2∧Und (ovr f d.cs1) (ovr g d.cs2) ds
structure Ho where
 x:Aj
 dr:Aj
 dw:Aj
 dd:Aj
 R:List (Key×V)
 W:List (Key×V)
 ds:List Deed
structure HoAt (C:Aj)(H:Hp)(o:Ho):Prop where
 hs:Hse C H o.x o.dr o.dw o.dd o.R o.W (jb o.ds)
 da:∀d∈o.ds,DeedAt H d∧DeedOk d
 nq:∀q∈Qv o.ds,q≠o.dr∧q≠o.dw
 un:Und (wj o.R) (wj o.W) o.ds
 nR:(o.R.map (·.1)).Nodup
 nW:(o.W.map (·.1)).Nodup
 fR:RefsF (wj o.R)
 fW:RefsF (wj o.W)
variable {o:Ho}
theorem HoAt.dl (h:HoAt C H o):Dl H [o.dr,o.dw,o.dd]:=h.hs.dl (Zm _) .nil
theorem HoAt.frame (h:HoAt C H o){ch:List Aj}(k:Kb ch H H')(dl:Dl H ch)(n:o.x∉ch∧o.dr∉ch∧o.dw∉ch∧o.dd∉ch)(rd:∀q∈ch,q∈Qv o.ds→∀kv,Rd H q (.dK kv)→Rd H' q (.dK kv)):HoAt C H' o:=by
 refine ⟨h.hs.kb k n,λd hd=>?_,h.nq,h.un,h.nR,h.nW,h.fR,h.fW⟩
 obtain ⟨⟨a,b,c⟩,e⟩:=h.da d hd
 obtain ⟨m1,m2⟩:=Jg hd
 refine ⟨⟨dl.tup k a,?_,?_⟩,e⟩
 ·by_cases z:d.q1∈ch
  ·exact rd _ z m1 _ b
  ·exact k.rd z b
 ·by_cases z:d.q2∈ch
  ·exact rd _ z m2 _ c
  ·exact k.rd z c
theorem HoAt.same (h:HoAt C H o)(s:Same H H'):HoAt C H' o:=h.frame (ch:=[]) (Kb.of s) Dl.nil ⟨am,am,am,am⟩ λq z=>nomatch z
def Ho.did (o:Ho)(tp q1 q2:Aj)(cs1 cs2:List (Key×V)):Ho:={ o with R:=exK o.R cs1,W:=exK o.W cs2,ds:=⟨tp,q1,q2,bfK o.R cs1,bfK o.W cs2⟩::o.ds }
theorem Y8 {f f' g g':Key→Option V}(ef:∀m,f m=f' m)(eg:∀m,g m=g' m){ds:List Deed}(h:Und f g ds):Und f' g' ds:=by
 have a:f=f':=funext ef
 have b:g=g':=funext eg
 subst a b
 exact h
theorem HoAt.did (h:HoAt C H o){cs1 cs2:List (Key×V)}(g:qvs C H H' o.x o.dr o.dw o.dd o.R o.W (jb o.ds) cs1 cs2)(nd1:(cs1.map (·.1)).Nodup)(nd2:(cs2.map (·.1)).Nodup)(l1:cs1.length≤1000)(l2:cs2.length≤1000)(r1:j4 cs1)(r2:j4 cs2)(g1:Zv (wj o.R) cs1)(g2:Zv (wj o.W) cs2):∃tp q1 q2,H tp=none∧H q1=none∧H q2=none∧HoAt C H' (o.did tp q1 q2 cs1 cs2)∧Kb [o.dr,o.dw,o.dd] H H':=by
 obtain ⟨tp,q1,q2,n0,n1,n2,h1,ft,f1,f2,ne,kb⟩:=g
 have hq:∀q∈Qv o.ds,∃kv,Rd H q (.dK kv):=λq hq=>by
  obtain ⟨d,hd,hq⟩:=dF.mp hq
  obtain ⟨⟨_,a,b⟩,_⟩:=h.da d hd
  simp only [ak,am,bH] at hq
  rcases hq with rfl|rfl
  ·exact ⟨_,a⟩
  ·exact ⟨_,b⟩
 have nin:∀q∈Qv o.ds,q∉[o.dr,o.dw,o.dd]:=λq hm z=>by
  obtain ⟨kv,e⟩:=hq q hm
  have nq:=h.nq q hm
  simp only [ak,am,bH] at z
  rcases z with z|z|z
  ·exact nq.1 z
  ·exact nq.2 z
  ·rcases e with e|⟨u,e⟩ <;> (rw [z,h.hs.d] at e;cases e)
 refine ⟨tp,q1,q2,n0,n1,n2,⟨by show Hse C H' o.x o.dr o.dw o.dd _ _ (jb (_::o.ds));rw [qxz];exact h1,λd hd=>?_,λq hm=>?_,?_,qvy h.nR _,qvy h.nW _,?_,?_⟩,kb⟩
 ·rcases ak.mp hd with rfl|hd
  ·exact ⟨⟨ft,.inl f1,.inl f2⟩,⟨by show ((bfK o.R cs1).map (·.1)).Nodup;rw [qvq];exact nd1,by show ((bfK o.W cs2).map (·.1)).Nodup;rw [qvq];exact nd2,by show (bfK o.R cs1).length≤_;unfold bfK;rw [aa];exact l1,by show (bfK o.W cs2).length≤_;unfold bfK;rw [aa];exact l2,h.fR.bf r1,h.fW.bf r2,ne⟩⟩
  ·obtain ⟨⟨a,b,c⟩,e⟩:=h.da d hd
   obtain ⟨m1,m2⟩:=Jg hd
   exact ⟨⟨h.dl.tup kb a,kb.rd (nin _ m1) b,kb.rd (nin _ m2) c⟩,e⟩
 ·have hm:q∈q1::q2::Qv o.ds:=hm
  rcases ak.mp hm with rfl|hm
  ·exact ⟨(qm h.hs.r n1).symm,(qm h.hs.w n1).symm⟩
  ·rcases ak.mp hm with rfl|hm
   ·exact ⟨(qm h.hs.r n2).symm,(qm h.hs.w n2).symm⟩
   ·exact h.nq q hm
 ·exact ⟨go_bf nd1 h.fR.non g1,go_bf nd2 h.fW.non g2,Y8 (λm=>(qqn nd1 h.fR.non m).symm) (λm=>(qqn nd2 h.fW.non m).symm) h.un⟩
 ·show RefsF (wj (exK o.R cs1))
  rw [show wj (exK o.R cs1)=ovr (wj o.R) cs1 from funext (z0 cs1 o.R nd1)]
  exact h.fR.ovr r1
 ·show RefsF (wj (exK o.W cs2))
  rw [show wj (exK o.W cs2)=ovr (wj o.W) cs2 from funext (z0 cs2 o.W nd2)]
  exact h.fW.ovr r2
def Ho.undo (o:Ho)(d:Deed)(ds:List Deed):Ho:={ o with R:=exK o.R d.cs1,W:=exK o.W d.cs2,ds:=ds }
theorem quh {kv kv':List (Key×V)}(h:Rd H q (.dK kv))(h':Rd H q (.dK kv')):kv=kv':=by
 rcases h with h|⟨u,h⟩ <;> rcases h' with h'|⟨u',h'⟩ <;> (rw [h] at h';cases h') <;> rfl
variable {CN:Aj}
theorem HoAt.take {d:Deed}{ds:List Deed}(h:HoAt C H o)(ed:o.ds=d::ds)(lR:o.R.length≤1000)(lW:o.W.length≤1000)
  (k:∀H',HoAt C H' (o.undo d ds)→Kb [o.dr,o.dw,o.dd,d.q1,d.q2] H H'→Dl H [o.dr,o.dw,o.dd,d.q1,d.q2]→(∀q kv,q∉[o.dr,o.dw,o.dd]→Rd H q (.dK kv)→Rd H' q (.dK kv))→Q .non H'):W1 C CN [.ref o.x] H Q E:=by
 have hh:=h.hs
 rw [ed,qxz] at hh
 have hd:d∈o.ds:=by rw [ed];exact aH ..
 obtain ⟨⟨dt,d1,d2⟩,dk⟩:=h.da d hd
 have m:=Jg hd
 have un:=h.un
 rw [ed] at un
 obtain ⟨u1,u2,u3⟩:=un
 refine ⟨o.x,o.dr,o.dw,o.dd,o.R,o.W,exI rfl ⟨hh,lR,lW,(λz=>absurd z (List.append_ne_nil_of_right_ne_nil _ (dG _ _))),λD' v e=>?_⟩⟩
 obtain ⟨e1,e2⟩:=List.append_inj' e rfl
 cases e2
 have nq1:=h.nq _ m.1
 have nq2:=h.nq _ m.2
 refine ⟨d.tp,d.q1,d.q2,d.cs1,d.cs2,rfl,dt,d1,d2,dk.ne,nq1.1,nq1.2,nq2.1,nq2.2,dk.nd1,dk.nd2,dk.l1,dk.l2,qvb dk.nd1 u1,qvb dk.nd2 u2,λH' hs' r1 r2 kb=>?_⟩
 rw [←e1] at hs'
 have dl:Dl H [o.dr,o.dw,o.dd,d.q1,d.q2]:=h.hs.dl (Zm _) (.cons (.inl ⟨_,d1⟩) (.cons (.inl ⟨_,d2⟩) .nil))
 have rdk:∀q kv,q∉[o.dr,o.dw,o.dd]→Rd H q (.dK kv)→Rd H' q (.dK kv):=λq kv nq e=>by
  by_cases z1:q=d.q1
  ·subst z1;rw [quh e d1];exact r1
  ·by_cases z2:q=d.q2
   ·subst z2;rw [quh e d2];exact r2
   ·refine kb.rd (λz=>?_) e
    simp only [ak,am,bH] at z nq
    rcases z with z|z|z|z|z
    ·exact nq (.inl z)
    ·exact nq (.inr (.inl z))
    ·exact nq (.inr (.inr z))
    ·exact z1 z
    ·exact z2 z
 have nin:∀q∈Qv o.ds,(∃kv,Rd H q (.dK kv))→q∉[o.dr,o.dw,o.dd]:=λq hm ⟨kv,e⟩ z=>by
  have nq:=h.nq q hm
  simp only [ak,am,bH] at z
  rcases z with z|z|z
  ·exact nq.1 z
  ·exact nq.2 z
  ·rcases e with e|⟨u,e⟩ <;> (rw [z,h.hs.d] at e;cases e)
 have sub:∀q∈Qv ds,q∈Qv o.ds:=λq hq=>by rw [ed];exact ax _ (ax _ hq)
 refine k H' ⟨hs',λd' hd'=>?_,λq hq=>h.nq q (sub q hq),?_,qvy h.nR _,qvy h.nW _,?_,?_⟩ kb dl rdk
 ·have hd'':d'∈o.ds:=by rw [ed];exact ax _ hd'
  obtain ⟨⟨a,b,c⟩,e⟩:=h.da d' hd''
  obtain ⟨m1,m2⟩:=Jg hd''
  exact ⟨⟨dl.tup kb a,rdk _ _ (nin _ m1 ⟨_,b⟩) b,rdk _ _ (nin _ m2 ⟨_,c⟩) c⟩,e⟩
 ·exact Y8 (λm=>(z0 d.cs1 o.R dk.nd1 m).symm) (λm=>(z0 d.cs2 o.W dk.nd2 m).symm) u3
 ·show RefsF (wj (exK o.R d.cs1))
  rw [show wj (exK o.R d.cs1)=ovr (wj o.R) d.cs1 from funext (z0 _ _ dk.nd1)]
  exact h.fR.ovr dk.r1
 ·show RefsF (wj (exK o.W d.cs2))
  rw [show wj (exK o.W d.cs2)=ovr (wj o.W) d.cs2 from funext (z0 _ _ dk.nd2)]
  exact h.fW.ovr dk.r2
structure Wk where
 wh:Str
 pt:Int×Int
 tv:List (List Key×V)
structure AH where
 rs:Str→Option (List Int)
 ws:Str→Option Wk
def AH.putW (a:AH)(n:Str)(w:Wk):AH:={ a with ws:=λm=>if m=n then some w else a.ws m }
def AH.putR (a:AH)(n:Str)(hs:List Int):AH:={ a with rs:=λm=>if m=n then some hs else a.rs m }
def RRep (CR:Aj)(H:Hp)(o:Option V):Option (List Int)→Prop
 |none=>o=none
 |some hs=>∃r,o=some (.ref r)∧RoadAt CR H r hs
def WRep (CW:Aj)(H:Hp)(o:Option V):Option Wk→Prop
 |none=>o=none
 |some w=>∃y p t,o=some (.ref y)∧WkAt CW H y w.wh p w.pt t w.tv
structure AOk (a:AH):Prop where
 lo:∀n hs,a.rs n=some hs→xv hs
 wo:∀n w,a.ws n=some w→TmOk w.tv∧∃hs,a.rs w.wh=some hs∧HPt hs w.pt
structure Rep (CR CW:Aj)(H:Hp)(f g:Key→Option V)(a:AH):Prop where
 r:∀n,RRep CR H (f (.inr n)) (a.rs n)
 w:∀n,WRep CW H (g (.inr n)) (a.ws n)
 ok:AOk a
variable {a:AH}
theorem Rep.dl {CR:Aj}{f g:Key→Option V}(h:Rep CR CW H f g a){ch:List Aj}(d:Dl H ch)(k:Kb ch H H'):Rep CR CW H' f g a:=by
 refine ⟨λn=>?_,λn=>?_,h.ok⟩
 ·have:=h.r n
  have lo:=h.ok.lo n
  cases e:a.rs n with
  |none=>rw [e] at this;exact this
  |some hs =>
   rw [e] at this
   obtain ⟨r,e1,ra⟩:=this
   exact ⟨r,e1,d.road k (lo hs e) ra⟩
 ·have:=h.w n
  cases e:a.ws n with
  |none=>rw [e] at this;exact this
  |some w =>
   rw [e] at this
   obtain ⟨y,p,t,e1,wk⟩:=this
   exact ⟨y,p,t,e1,d.wk k wk⟩
def Hist (CR CW:Aj)(H:Hp):List AH→(Key→Option V)→(Key→Option V)→List Deed→Prop
 |[],_,_,_=>True
 |a::as,f,g,ds=>Rep CR CW H f g a∧((ds=[]∧as=[])∨∃d ds',ds=d::ds'∧Hist CR CW H as (ovr f d.cs1) (ovr g d.cs2) ds')
theorem Hist.dl {CR:Aj}(d:Dl H ch)(k:Kb ch H H'):∀ {as:List AH} {f g:Key→Option V} {ds:List Deed},Hist CR CW H as f g ds→Hist CR CW H' as f g ds
 |[],_,_,_,_=>trivial
 |a::as,f,g,ds,h=>by
  obtain ⟨h1,h2⟩:=h
  refine ⟨h1.dl d k,?_⟩
  rcases h2 with h2|⟨d',ds',e,h2⟩
  ·exact .inl h2
  ·exact .inr ⟨d',ds',e,Hist.dl d k h2⟩
structure VH (C CR CW:Aj)(H:Hp)(o:Ho)(as:List AH):Prop where
 h:HoAt C H o
 t:Hist CR CW H as (wj o.R) (wj o.W) o.ds
variable {as:List AH}
theorem VH.same {CR:Aj}(v:VH C CR CW H o as)(s:Same H H'):VH C CR CW H' o as:=⟨v.h.same s,Hist.dl (ch:=[]) Dl.nil (Kb.of s) v.t⟩
theorem VH.rep {CR:Aj}(v:VH C CR CW H o (a::as)):Rep CR CW H (wj o.R) (wj o.W) a:=v.t.1
structure Nxt (H:Hp)(o o':Ho):Prop where
 x:o'.x=o.x
 dr:o'.dr=o.dr
 dw:o'.dw=o.dw
 dd:o'.dd=o.dd
 ds:∃d,o'.ds=d::o.ds∧H d.q1=none∧H d.q2=none
structure Prv (o o':Ho):Prop where
 x:o'.x=o.x
 dr:o'.dr=o.dr
 dw:o'.dw=o.dw
 dd:o'.dd=o.dd
 ds:∃d,o.ds=d::o'.ds
theorem VH.did {CR:Aj}{a':AH}(v:VH C CR CW H o (a::as)){cs1 cs2:List (Key×V)}(g:qvs C H H' o.x o.dr o.dw o.dd o.R o.W (jb o.ds) cs1 cs2)(nd1:(cs1.map (·.1)).Nodup)(nd2:(cs2.map (·.1)).Nodup)(l1:cs1.length≤1000)(l2:cs2.length≤1000)(r1:j4 cs1)(r2:j4 cs2)(g1:Zv (wj o.R) cs1)(g2:Zv (wj o.W) cs2)(rp:Kb [o.dr,o.dw,o.dd] H H'→Rep CR CW H' (ovr (wj o.R) cs1) (ovr (wj o.W) cs2) a') :
  ∃o',Nxt H o o'∧VH C CR CW H' o' (a'::a::as)∧Kb [o.dr,o.dw,o.dd] H H':=by
 obtain ⟨tp,q1,q2,n0,n1,n2,h',kb⟩:=v.h.did g nd1 nd2 l1 l2 r1 r2 g1 g2
 refine ⟨o.did tp q1 q2 cs1 cs2,⟨rfl,rfl,rfl,rfl,⟨⟨tp,q1,q2,bfK o.R cs1,bfK o.W cs2⟩,rfl,n1,n2⟩⟩,⟨h',?_⟩,kb⟩
 have e1:wj (exK o.R cs1)=ovr (wj o.R) cs1:=funext (z0 cs1 o.R nd1)
 have e2:wj (exK o.W cs2)=ovr (wj o.W) cs2:=funext (z0 cs2 o.W nd2)
 refine ⟨by show Rep CR CW H' (wj (exK o.R cs1)) (wj (exK o.W cs2)) a';rw [e1,e2];exact rp kb,.inr ⟨_,o.ds,rfl,?_⟩⟩
 show Hist CR CW H' (a::as) (ovr (wj (exK o.R cs1)) (bfK o.R cs1)) (ovr (wj (exK o.W cs2)) (bfK o.W cs2)) o.ds
 rw [show ovr (wj (exK o.R cs1)) (bfK o.R cs1)=wj o.R from funext (qqn nd1 v.h.fR.non),show ovr (wj (exK o.W cs2)) (bfK o.W cs2)=wj o.W from funext (qqn nd2 v.h.fW.non)]
 exact Hist.dl v.h.dl kb v.t
structure Nam (NM:List Str)(a:AH):Prop where
 r:∀n,(a.rs n).isSome=true→n∈NM
 w:∀n,(a.ws n).isSome=true→n∈NM
theorem qz6 {α:Type}[DecidableEq α]:∀(l m:List α),l.Nodup→(∀x∈l,x∈m)→l.length≤m.length
 |[],_,_,_=>aC _
 |a::l,m,nd,h=>by
  obtain ⟨n1,n2⟩:=aO.mp nd
  have ha:=h a (aH ..)
  have:=qz6 l (m.erase a) n2 λx hx=>(List.mem_erase_of_ne (λz=>n1 (by rw [←z];exact hx))).mpr (h x (ax _ hx))
  rw [List.length_erase_of_mem ha] at this
  have:=List.length_pos_of_mem ha
  rw [aw]
  lia
variable {NM:List Str}
theorem qqh (nd:(R.map (·.1)).Nodup)(h:∀k v,wj R k=some v→∃n,k=.inr n∧n∈NM):R.length≤NM.length:=by
 have:=qz6 (R.map (·.1)) (NM.map Sum.inr) nd λk hk=>by
  obtain ⟨c,hc,rfl⟩:=aA.mp hk
  obtain ⟨n,e,hn⟩:=h _ _ (v9 nd hc)
  rw [e]
  exact aA.mpr ⟨n,hn,rfl⟩
 rwa [aa,aa] at this
theorem VH.lens {CR:Aj}(v:VH C CR CW H o (a::as)){NM:List Str}(nm:Nam NM a):o.R.length≤NM.length∧o.W.length≤NM.length:=by
 refine ⟨qqh v.h.nR λk u e=>?_,qqh v.h.nW λk u e=>?_⟩
 ·obtain ⟨n,_,rfl,_⟩:=v.h.fR k u e
  refine ⟨n,rfl,nm.r n ?_⟩
  have:=v.rep.r n
  cases e2:a.rs n with
  |none =>
   rw [e2] at this
   have this:wj o.R (.inr n)=none:=this
   rw [this] at e;cases e
  |some _=>rfl
 ·obtain ⟨n,_,rfl,_⟩:=v.h.fW k u e
  refine ⟨n,rfl,nm.w n ?_⟩
  have:=v.rep.w n
  cases e2:a.ws n with
  |none =>
   rw [e2] at this
   have this:wj o.W (.inr n)=none:=this
   rw [this] at e;cases e
  |some _=>rfl
theorem Rep.road {CR:Aj}{f g:Key→Option V}(h:Rep CR CW H f g a){n:Str}{hs:List Int}(e:a.rs n=some hs):∃r,f (.inr n)=some (.ref r)∧RoadAt CR H r hs:=by
 have:=h.r n
 rw [e] at this
 exact this
theorem Rep.wk {CR:Aj}{f g:Key→Option V}(h:Rep CR CW H f g a){n:Str}{w:Wk}(e:a.ws n=some w):∃y p t,g (.inr n)=some (.ref y)∧WkAt CW H y w.wh p w.pt t w.tv:=by
 have:=h.w n
 rw [e] at this
 exact this
theorem Rep.noR {CR:Aj}{f g:Key→Option V}(h:Rep CR CW H f g a){n:Str}(e:a.rs n=none):f (.inr n)=none:=by
 have:=h.r n
 rw [e] at this
 exact this
theorem Rep.noW {CR:Aj}{f g:Key→Option V}(h:Rep CR CW H f g a){n:Str}(e:a.ws n=none):g (.inr n)=none:=by
 have:=h.w n
 rw [e] at this
 exact this
theorem qvn {f:Key→Option V}{k:Key}(m:Key):ovr f [(k,v)] m=if m=k then (if v=.non then none else some v) else f m:=by
 unfold ovr
 by_cases z:k=m
 ·rw [xy z,aj z.symm]
  cases v <;> rfl
 ·rw [xj z,ag (aN z)]
  rfl
theorem Rep.putW {CR:Aj}{f g:Key→Option V}(h:Rep CR CW H f g a){n:Str}{w:Wk}{y p t:Aj}(wk:WkAt CW H y w.wh p w.pt t w.tv)(tm:TmOk w.tv){hs:List Int}(er:a.rs w.wh=some hs)(hp:HPt hs w.pt):Rep CR CW H (ovr f []) (ovr g [(.inr n,.ref y)]) (a.putW n w):=by
 refine ⟨h.r,λm=>?_,h.ok.lo,λm w' e=>?_⟩
 ·rw [qvn]
  show WRep CW H _ (if m=n then some w else a.ws m)
  by_cases z:m=n
  ·rw [aj z,aj (by rw [z]),ag (λq=>by cases q)]
   exact ⟨y,p,t,rfl,wk⟩
  ·rw [ag z,ag (λq=>z (by injection q))]
   exact h.w m
 ·have e:(if m=n then some w else a.ws m)=some w':=e
  by_cases z:m=n
  ·rw [aj z] at e
   cases e
   exact ⟨tm,hs,er,hp⟩
  ·rw [ag z] at e
   exact h.ok.wo m w' e
theorem qw0:j4 [((Sum.inr n:Key),V.ref y)]:=λc hc=>by
 rw [ao.mp hc]
 exact ⟨n,rfl,.inr ⟨y,rfl⟩⟩
theorem qwf:j4 []:=λc hc=>nomatch hc
theorem qjt {f:Key→Option V}:Zv f []:=λc hc=>nomatch hc
theorem qyt {f:Key→Option V}{k:Key}:Zv f [(k,.ref y)]:=λc hc hn=>by
 rw [ao.mp hc] at hn
 cases hn
variable {wh:Str}
theorem WDeed.g {pt:Int×Int}(h:WDeed C CW H H' x dr dw dd R W D n wh p pt t tv):∃y,qvs C H H' x dr dw dd R W D [] [(.inr n,.ref y)]∧WkAt CW H' y wh p pt t tv:=by
 obtain ⟨y,tp,q1,q2,a1,a2,a3,a4,a5,a6,a7,a8,a9,b1⟩:=h
 refine ⟨y,⟨tp,q1,q2,a1,a2,a3,?_,a5,a6,a7,a8,b1⟩,a9⟩
 rw [qz5]
 exact a4
theorem RDeed.g {CR:Aj}(h:RDeed C CR H H' x dr dw dd R W D n hs):∃r,qvs C H H' x dr dw dd R W D [(.inr n,.ref r)] []∧RoadAt CR H' r hs:=by
 obtain ⟨r,tp,q1,q2,a1,a2,a3,a4,a5,a6,a7,a8,a9,b1⟩:=h
 refine ⟨r,⟨tp,q1,q2,a1,a2,a3,?_,a5,a6,a7,a8,b1⟩,a9⟩
 rw [qz5]
 exact a4
theorem VH.walk {CR:Aj}(v:VH C CR CW H o (a::as)){n:Str}{w:Wk}{p t:Aj}(g:WDeed C CW H H' o.x o.dr o.dw o.dd o.R o.W (jb o.ds) n w.wh p w.pt t w.tv)(tm:TmOk w.tv){hs:List Int}(er:a.rs w.wh=some hs)(hp:HPt hs w.pt):∃o',Nxt H o o'∧VH C CR CW H' o' (a.putW n w::a::as)∧Kb [o.dr,o.dw,o.dd] H H':=by
 obtain ⟨y,gd,wk⟩:=g.g
 exact v.did gd aV qyh (aC _) (show 1≤1000 by decide) qwf qw0 qjt qyt λkb=>(v.rep.dl v.h.dl kb).putW wk tm er hp
theorem VH.take {CR:Aj}{b:AH}(v:VH C CR CW H o (a::b::as))(lR:o.R.length≤1000)(lW:o.W.length≤1000)
  (k:∀H' o' d,Prv o o'→o.ds=d::o'.ds→VH C CR CW H' o' (b::as)→Kb [o.dr,o.dw,o.dd,d.q1,d.q2] H H'→Dl H [o.dr,o.dw,o.dd,d.q1,d.q2]→(∀q kv,q∉[o.dr,o.dw,o.dd]→Rd H q (.dK kv)→Rd H' q (.dK kv))→Q .non H'):W1 C CN [.ref o.x] H Q E:=by
 obtain ⟨h1,h2⟩:=v.t
 rcases h2 with ⟨_,h2⟩|⟨d,ds,ed,h2⟩
 ·cases h2
 have hd:d∈o.ds:=by rw [ed];exact aH ..
 obtain ⟨_,dk⟩:=v.h.da d hd
 refine v.h.take ed lR lW λH' h' kb dl rdk=>k H' (o.undo d ds) d ⟨rfl,rfl,rfl,rfl,⟨d,ed⟩⟩ ed ⟨h',?_⟩ kb dl rdk
 show Hist CR CW H' (b::as) (wj (exK o.R d.cs1)) (wj (exK o.W d.cs2)) ds
 rw [show wj (exK o.R d.cs1)=ovr (wj o.R) d.cs1 from funext (z0 _ _ dk.nd1),show wj (exK o.W d.cs2)=ovr (wj o.W) d.cs2 from funext (z0 _ _ dk.nd2)]
 exact Hist.dl dl kb h2
structure Ap (o p:Ho):Prop where
 rr:o.dr≠p.dr
 rw_:o.dr≠p.dw
 wr:o.dw≠p.dr
 ww:o.dw≠p.dw
 dd:o.dd≠p.dd
 q1:∀q∈Qv o.ds,q≠p.dr∧q≠p.dw
 q2:∀q∈Qv p.ds,q≠o.dr∧q≠o.dw
theorem VH.places {CR CT CNR CB CO:Aj}{pa:Aj}{t b:Int}(v:VH C CR CW H o (a::as)){NM:List Str}(nm:Nam NM a)(lN:NM.length≤100)(lD:o.ds.length≤10000)(nn:zk n=true)(ln:n.length≤1000)(en:a.ws n=none)(er:a.rs wh=some hs)(fp:H pa=some (.tup [.int t,.int b]))(b1:1≤b)(sm:Sm 8000 b)(hp:HPt hs (wm t b))
  (k:∀H' o',Nxt H o o'→VH C CR CW H' o' (a.putW n ⟨wh,wm t b,[([.inl (wm t b).1,.inl (wm t b).2],.int 1)]⟩::a::as)→Kb [o.dr,o.dw,o.dd] H H'→Q .non H'):uz K C CR CW CN CT CNR CB CO [.ref o.x,.str n,.str wh,.ref pa] H Q E:=by
 obtain ⟨r,err,ra⟩:=v.rep.road er
 have vn:=v.rep.noW en
 have lens:=v.lens nm
 refine ⟨o.x,o.dr,o.dw,o.dd,pa,o.R,o.W,_,n,wh,t,b,rfl,v.h.hs,⋯,⋯,by rw [Jn];lia,ln,fp,(λz=>by rw [nn] at z;cases z),(λ_ z=>by rw [vn] at z;cases z),λ_ _=>⟨(λz=>by rw [err] at z;cases z),λu eu=>?_⟩⟩
 rw [err] at eu
 cases eu
 refine ⟨r,hs,rfl,ra,hp.1,(λz=>absurd z ⋯),λ_=>⟨sm,(λz=>absurd z (by have:=hp.2.2;lia)),λ_=>⟨(λz=>absurd hp.2.1.2.2.2 z),λ_ H' p t' wd=>?_⟩⟩⟩
 have rg:=hp.rng
 obtain ⟨o',nx,v',kb⟩:=v.walk (w:=⟨wh,wm t b,[([.inl (wm t b).1,.inl (wm t b).2],.int 1)]⟩) wd (TmOk.one rg.1 rg.2.1 rg.2.2.1 rg.2.2.2) er hp
 exact k H' o' nx v' kb
def ku (c:Key×V):Str:=match c.1 with | .inr n=>n | .inl _ => ""
theorem vk (nd:(W.map (·.1)).Nodup)(h:RefsF (wj W)):W.map (·.1)=(W.map ku).map Sum.inr∧(W.map ku).Nodup:=by
 have e:W.map (·.1)=(W.map ku).map Sum.inr:=by
  rw [be]
  refine bO λc hc=>?_
  obtain ⟨n,_,e,_⟩:=h _ _ (v9 nd hc)
  show c.1=Sum.inr (ku c)
  unfold ku
  rw [e]
 refine ⟨e,?_⟩
 rw [e] at nd
 exact (cz.mp nd).imp λ{x y} hxy z=>hxy (by rw [z])
def AH.nil:AH:=⟨λ_=>none,λ_=>none⟩
theorem VH.nil {CR:Aj}(h:Hse C H x dr dw dd [] [] []):VH C CR CW H ⟨x,dr,dw,dd,[],[],[]⟩ [AH.nil] :=
 ⟨⟨h,(λd hd=>nomatch hd),(λq hq=>nomatch hq),trivial,aV,aV,(λm v e=>nomatch e),(λm v e=>nomatch e)⟩,⟨⟨(λ_=>rfl),(λ_=>rfl),⟨(λ_ _ e=>nomatch e),(λ_ _ e=>nomatch e)⟩⟩,.inl ⟨rfl,rfl⟩⟩⟩
theorem Nam.putR (h:Nam NM a){n:Str}(hn:n∈NM)(hs:List Int):Nam NM (a.putR n hs):=⟨λm e=>by
 have e:(if m=n then some hs else a.rs m).isSome=true:=e
 by_cases z:m=n
 ·rw [z];exact hn
 ·rw [ag z] at e
  exact h.r m e,h.w⟩
theorem Rep.putR {CR:Aj}{f g:Key→Option V}(h:Rep CR CW H f g a){n:Str}{hs:List Int}{r:Aj}(ra:RoadAt CR H r hs)(lo:xv hs)(hw:∀m w,a.ws m=some w→w.wh=n→HPt hs w.pt):Rep CR CW H (ovr f [(.inr n,.ref r)]) (ovr g []) (a.putR n hs):=by
 refine ⟨λm=>?_,h.w,λm hs' e=>?_,λm w e=>?_⟩
 ·rw [qvn]
  show RRep CR H _ (if m=n then some hs else a.rs m)
  by_cases z:m=n
  ·rw [aj z,aj (by rw [z]),ag (λq=>by cases q)]
   exact ⟨r,rfl,ra⟩
  ·rw [ag z,ag (λq=>z (by injection q))]
   exact h.r m
 ·have e:(if m=n then some hs else a.rs m)=some hs':=e
  by_cases z:m=n
  ·rw [aj z] at e
   cases e
   exact lo
  ·rw [ag z] at e
   exact h.ok.lo m hs' e
 ·obtain ⟨tm,hs',er,hp⟩:=h.ok.wo m w e
  by_cases z:w.wh=n
  ·exact ⟨tm,hs,aj z,hw m w e z⟩
  ·exact ⟨tm,hs',(ag z).trans er,hp⟩
theorem VH.road {CR:Aj}(v:VH C CR CW H o (a::as)){n:Str}{hs:List Int}(g:RDeed C CR H H' o.x o.dr o.dw o.dd o.R o.W (jb o.ds) n hs)(lo:xv hs)(hw:∀m w,a.ws m=some w→w.wh=n→HPt hs w.pt):∃o',Nxt H o o'∧VH C CR CW H' o' (a.putR n hs::a::as)∧Kb [o.dr,o.dw,o.dd] H H':=by
 obtain ⟨r,gd,ra⟩:=g.g
 exact v.did gd qyh aV (show 1≤1000 by decide) (aC _) qw0 qwf qyt qjt λkb=>(v.rep.dl v.h.dl kb).putR ra lo hw
theorem VH.lays {CR CT CL:Aj}(v:VH C CR CW H o (a::as)){NM:List Str}(nm:Nam NM a)(lN:NM.length≤100)(lD:o.ds.length≤10000)(nn:zk n=true)(ln:n.length≤1000)(en:a.rs n=none)(fp:H p=some (.lst (hs.map V.int)))(lo:xv hs)
  (k:∀H' o',Nxt H o o'→VH C CR CW H' o' (a.putR n hs::a::as)→Kb [o.dr,o.dw,o.dd] H H'→Q .non H'):Y3 K C CR CN CT CL [.ref o.x,.str n,.ref p] H Q E:=by
 have vn:=v.rep.noR en
 have lens:=v.lens nm
 refine ⟨o.x,o.dr,o.dw,o.dd,p,o.R,o.W,_,n,hs,rfl,v.h.hs,Zm _,⋯,⋯,by rw [Jn];lia,ln,fp,λ_ _ _ H' rd=>?_,(λz=>by rw [nn] at z;cases z),(λ_ z=>by rw [vn] at z;cases z),λ_ _ z=>absurd lo z⟩
 obtain ⟨o',nx,v',kb⟩:=v.road rd lo λm w e hw=>by
  obtain ⟨_,hs',er,_⟩:=v.rep.ok.wo m w e
  rw [hw,en] at er
  cases er
 exact k H' o' nx v' kb
def zu (cs:List Nat):Str:=⟨cs.toArray⟩
def Lets (cs:List Nat):Prop:=∀c∈cs,97≤c∧c<123
theorem let_at:∀i:Nat,i<26→atI (("abcdefghijklmnopqrstuvwxyz" : Str)).cps.toList (i:Int)=some (97+i):=by decide +kernel
theorem let_sz:(("abcdefghijklmnopqrstuvwxyz" : Str)).length≤sizeLine:=bd (show _≤1000 by decide +kernel) ⋯
theorem qjy:∀i:Nat,i<26→qq8 (97+i)=true:=by decide +kernel
theorem qyu (cs:List Nat)(c:Nat):zu cs++(⟨#[c]⟩:Str)=zu (cs++[c]):=by
 show (⟨cs.toArray++#[c]⟩:Str)=⟨(cs++[c]).toArray⟩
 simp
theorem vm (cs:List Nat):(zu cs).length=cs.length:=by
 show cs.toArray.size=_
 simp
theorem qun {cs:List Nat}(h:Lets cs)(l1:1≤cs.length)(l2:cs.length≤12):zk (zu cs)=true:=by
 unfold zk
 rw [vm,bn ⟨l1,l2⟩,Bool.true_and]
 refine cF.mpr λi hi=>?_
 have hi:i<cs.length:=by
  have:=bj.mp hi
  rw [show (zu cs).cps.size=cs.length from vm cs] at this
  exact this
 have e:(zu cs).cps.getD i 0=cs[i]:=by
  show cs.toArray.getD i 0=_
  simp [Array.getD,hi]
 rw [e]
 have:=h _ (bz hi)
 rw [show cs[i]=97+(cs[i]-97) by lia]
 exact qjy _ ⋯
theorem qzj (cs:List Nat){n:Nat}(hn:n≤cs.length):Txt.slice (zu cs) none (some (n:Int))=zu (cs.take n):=by
 have e0:Builtin.Str.strSliceIndices none (some (n:Int)) 1 (zu cs).length=Builtin.Str.strSliceIndices (some ((0:Nat):Int)) (some (n:Int)) 1 (zu cs).length:=by
  unfold Builtin.Str.strSliceIndices
  simp
  rw [show max (0:Int) (min 0 ((zu cs).length:Int))=0 by lia]
 have hn':n≤(zu cs).length:=by rw [vm];exact hn
 have e1:=StrLaws.sliced_plain (zu cs) (aC n) hn'
 have e2:=StrLaws.strSliceIndices_plain (aC n) hn'
 have e3:(zu cs).cps.toList=cs:=by
  show cs.toArray.toList=cs
  simp
 unfold Txt.slice
 rw [e0]
 split
 ·next h =>
  rw [e2] at h
  have:n=cs.length:=by simpa [vm] using h
  rw [this,bA]
 ·rw [e1,e3,List.drop_zero,Nat.sub_zero]
  rfl
def NmOk (place:Nat)(v:Nat)(cs:List Nat):Prop:=Lets cs∧1≤cs.length∧cs.length≤12∧cs[place]?=some (97+v)
def Z0 (K:Aa):Sp:=λvs H Q _=>∃(a:Aj) (ns:List Int) (i:Int),vs=[.ref a,.int i]∧SqL K H a (ns.map V.int)∧0≤i∧∀(q:Aj) (L:List (List Nat)) (H':Hp),Same H H'→H q=none→H' q=some (.lst (L.map λcs=>V.str (zu cs)))→L.length=5→(∀cs∈L,Lets cs∧1≤cs.length∧cs.length≤12)→L.Nodup→Q (.ref q) H'
include T in
theorem qkw (F:Fun K "_law_names" "_law_names" zbj f fd)(zaa:Cal P w K mg base "_law_pick" 2 (v8 K)):FK P w K mg base 3 f fd ["_law_script","_law_at"] (Z0 K):=by
 have sc:=Yq
 refine F.okX sc (λvs H Q E h=>by obtain ⟨_,_,_,rfl,_⟩:=h;rfl) λ_ _ _ _ H vs Q E hr h=>?_
 obtain ⟨a,ns,i,rfl,hS,h0,kk⟩:=h
 have big:(1000000:Nat)<sizeLine:=by decide
 have sm:∀z:Int,-(2 ^ 64)≤z→z≤2 ^ 64→Sm 65 z:=λz z1 z2=>Sm.small z1 z2 ⋯
 refine ⟨_,(qc (wf (i:=2) xn)
   (qc (wf (i:=3) (wy wn qd (wCA zaa (wx (pv 0) (wx (pv 1) (w8 qd (w8 qd qk)))))))
   (qc (wf (i:=4) (wCA zaa (wx (pv 0) (wx (pv 1) (w8 qd (wx (pv 3) qk))))))
   (qc (wf (i:=5) (wCA zaa (wx (pv 0) (wx (pv 1) (w8 qd (w8 qd qk))))))
   (qc (wf (i:=6) (yw qk))
   (qc (k4 aQ rfl (zw rfl T.range_ (w8 qd qk)) (wt (i:=7)) (qc (wf (i:=8) xn)
   (qc (k4 aQ rfl (zw rfl T.range_ (wx (pv 3) qk)) (wt (i:=9)) (qc (wf (i:=10) (wCA zaa (wx (pv 0) (wx (pv 1) (xu (wy wn qd (pv 9)) (w8 qd qk))))))
   (ux (xm (w4 vb (pv 9) (pv 4) (w9 _)) (wq (wf (i:=10) (wy zm (wy wn (pv 5) (wy xb qd (pv 7))) qd))) w6)
   (wq (wf (i:=8) (wy xt (pv 8) (vc ix_str (pv 2) (pv 10) (λ_ _=>rfl))))))))
   (ux (xm (w4 vb (wCA zaa (wx (pv 0) (wx (pv 1) (w8 qd (w8 qd qk))))) qd (w9 _)) (wq (wf (i:=8) (qy2 sl_str (pv 8) wq6 (wqr (wg (Y9 rfl) rfl T.max_ cD (xu (wy wn (pv 4) qd) (xu (wy Qr (pv 3) (wy zm (wy xb qd (pv 7)) qd)) qk))))))) w6)
   (wq (zq (ur bu bC bD vg (pv 6) (wx (pv 8) qk))))))))
   (wq (wp (pv 6))))))))),?_⟩
 refine exI rfl (exI rfl ⟨a,ns,_,_,_,rfl,hS,h0,⋯,⋯,⋯,λr0 _ l0 u0=>(wc rfl rfl ?_)⟩)
 refine exI rfl (exI rfl (exI rfl ⟨a,ns,_,_,_,rfl,hS,h0,⋯,⋯,⋯,λpl _ l1 u1=>?_⟩))
 refine exI rfl (exI rfl ⟨a,ns,_,_,_,rfl,hS,h0,⋯,⋯,⋯,λsf _ l2 u2=>?_⟩)
 refine ⟨sz0,λp np=>?_⟩
 refine ⟨_,rfl,⋯,⋯,vh (n:=(5:Int).toNat) (λj σ H'=>∃(L:List (List Nat)) (z1 z2 z3 z4:Option V),L.length=j∧(∀(t:Nat) cs,L[t]?=some cs→NmOk pl.toNat ((sf+5*t)%26).toNat cs)∧Same H H'∧H' p=some (.lst (L.map λcs=>V.str (zu cs)))∧σ=[some (.ref a),some (.int i),some (.str "abcdefghijklmnopqrstuvwxyz"),some (.int (1+r0)),some (.int pl),some (.int sf),some (.ref p),z1,z2,z3,z4])
  ⟨[],_,_,_,_,rfl,(λt cs e=>by cases e),Same.upd np,qj,rfl⟩ ?_ ?_⟩
 ·rintro j σ H1 hj ⟨L,z1,z2,z3,z4,lL,hL,s1,f1,rfl⟩
  have hj:j<5:=hj
  have m0:=aT (sf+5*((0:Int)+j)) (show (26:Int)≠0 by decide)
  have m1:=aU (sf+5*((0:Int)+j)) (show (0:Int)<26 by decide)
  refine ⟨_,rfl,1+r0,rfl,⋯,⋯,vh (n:=(1+r0).toNat) (λk σ H'=>∃(cs:List Nat) (z3 z4:Option V),cs.length=k∧Lets cs∧(pl.toNat<k→cs[pl.toNat]?=some (97+((sf+5*((0:Int)+j))%26).toNat))∧H'=H1∧σ=[some (.ref a),some (.int i),some (.str "abcdefghijklmnopqrstuvwxyz"),some (.int (1+r0)),some (.int pl),some (.int sf),some (.ref p),some (.int ((0:Int)+j)),some (.str (zu cs)),z3,z4])
   ⟨[],_,_,rfl,(λc hc=>nomatch hc),(λz=>absurd z ⋯),rfl,rfl⟩ ?_ ?_⟩
  ·rintro k σ H2 hk ⟨cs,z3,z4,lc,hc,hp,rfl,rfl⟩
   refine exI rfl (exI rfl (exI rfl (wc rfl rfl ⟨a,ns,_,_,_,rfl,s1.sql hS,h0,⋯,⋯,⋯,λsg _ g0 g1=>?_⟩)))
   refine ⟨λσ H'=>∃v:Int,0≤v∧v<26∧((0:Int)+k=pl→v=(sf+5*((0:Int)+j))%26)∧H'=H2∧σ=[some (.ref a),some (.int i),some (.str "abcdefghijklmnopqrstuvwxyz"),some (.int (1+r0)),some (.int pl),some (.int sf),some (.ref p),some (.int ((0:Int)+j)),some (.str (zu cs)),some (.int ((0:Int)+k)),some (.int v)],?_,?_⟩
   ·refine exI rfl (exI rfl ⟨rfl,_,rfl,jj (λe=>?_) (λe=>⟨sg,g0,g1,λz=>absurd z e,rfl,rfl⟩)⟩)
    exact ⟨_,rfl,_,rfl,_,_,rfl,rfl,(sm _ ⋯ ⋯).ok (sm _ ⋯ ⋯) ⋯,_,_,rfl,rfl,_,_,rfl,rfl,(by walk_at "pos"),_,m0,m1,λ_=>rfl,rfl,rfl⟩
   ·rintro σ H3 ⟨v,v0,v1,ve,rfl,rfl⟩
    have ea:=let_at v.toNat ⋯
    rw [cN v0] at ea
    refine exI rfl (exI rfl (exI rfl ⟨_,_,_,rfl,rfl,let_sz,ea,wc rfl rfl ⟨?_,?_⟩⟩))
    ·rw [vm]
     show cs.length+1≤_
     lia
    ·refine ⟨cs++[97+v.toNat],_,_,by rw [aM,lc];rfl,λc hc'=>?_,λz=>?_,rfl,by rw [←qyu];rfl⟩
     ·rcases bq.mp hc' with q|q
      ·exact hc c q
      ·rw [ao.mp q]
       lia
     ·rcases (by lia:pl.toNat<k∨pl.toNat=k) with q|q
      ·rw [bx ⋯]
       exact hp q
      ·rw [ba ⋯,lc,q,Nat.sub_self,ve ⋯]
       rfl
  ·rintro σ H2 ⟨cs,z3,z4,lc,hc,hp,rfl,rfl⟩
   have lc:cs.length=(1+r0).toNat:=lc
   have hp:=hp ⋯
   refine ⟨λσ H'=>∃(ds:List Nat),NmOk pl.toNat ((sf+5*((0:Int)+j))%26).toNat ds∧H'=H2∧σ=[some (.ref a),some (.int i),some (.str "abcdefghijklmnopqrstuvwxyz"),some (.int (1+r0)),some (.int pl),some (.int sf),some (.ref p),some (.int ((0:Int)+j)),some (.str (zu ds)),z3,z4],?_,?_⟩
   ·refine exI rfl (exI rfl ⟨a,ns,_,_,_,rfl,s1.sql hS,h0,⋯,⋯,⋯,λr3 _ l3 u3=>?_⟩)
    refine ⟨rfl,_,rfl,jj (λe=>?_) (λe=>⟨cs,⟨hc,⋯,⋯,hp⟩,rfl,rfl⟩)⟩
    have q0:=aT (2*((0:Int)+j)) (show (7:Int)≠0 by decide)
    refine exI rfl (exI rfl (wc rfl rfl (exI rfl (exI rfl (wc rfl rfl ⟨(sm _ ⋯ ⋯).ok (sm _ ⋯ ⋯) ⋯,wc rfl rfl ⟨(by walk_at "pos"),wc rfl rfl ⟨_,_,rfl,_,rfl,?_⟩⟩⟩)))))
    obtain ⟨n,hn,n1,n2⟩:∃n:Nat,(if 1+r0-2*((0:Int)+j)%7>pl+1 then 1+r0-2*((0:Int)+j)%7 else pl+1)=(n:Int)∧pl.toNat<n∧n≤cs.length:=by
     refine ⟨(if 1+r0-2*((0:Int)+j)%7>pl+1 then 1+r0-2*((0:Int)+j)%7 else pl+1).toNat,?_,?_,?_⟩ <;> split <;> lia
    have e8:Txt.slice (zu cs) none (some (if 1+r0-2*((0:Int)+j)%7>pl+1 then 1+r0-2*((0:Int)+j)%7 else pl+1))=zu (cs.take n):=by
     rw [hn]
     exact qzj cs n2
    have lt:(cs.take n).length=n:=by rw [br];lia
    refine ⟨zu cs,rfl,by rw [vm];lia,cs.take n,⟨λc hc'=>hc c (List.mem_of_mem_take hc'),⋯,⋯,?_⟩,rfl,by rw [←e8];rfl⟩
    rw [List.getElem?_take,aj n1]
    exact hp
   ·rintro σ H3 ⟨ds,hd,rfl,rfl⟩
    refine exI rfl ⟨.inl ⟨rfl,_,SqL.of f1⟩,exI rfl ⟨_,_,_,rfl,rfl,f1,?_,?_⟩⟩
    ·rw [aa,lL]
     lia
    ·refine ⟨L++[ds],_,_,_,_,by rw [aM,lL];rfl,λt cs' et=>?_,Same.upd2 s1 np,?_,rfl⟩
     ·rcases dI t L.length with q|q
      ·rw [bx q] at et
       exact hL t cs' et
      ·rw [ba q] at et
       have:t=L.length:=by
        rcases (by lia:t-L.length=0∨1≤t-L.length) with y|y
        ·lia
        ·rw [aR (by simpa using y)] at et
         cases et
       subst this
       rw [Nat.sub_self] at et
       cases et
       rw [Int.zero_add] at hd
       rw [lL]
       exact hd
     ·rw [aP]
      exact qj
 ·rintro σ H1 ⟨L,z1,z2,z3,z4,lL,hL,s1,f1,rfl⟩
  have lL:L.length=5:=lL
  refine exI rfl (kk p L H1 s1 np f1 lL (λcs hcs=>?_) ?_)
  ·obtain ⟨t,ht,rfl⟩:=List.mem_iff_getElem.mp hcs
   obtain ⟨q1,q2,q3,_⟩:=hL t _ (al ht)
   exact ⟨q1,q2,q3⟩
  ·refine List.pairwise_iff_getElem.mpr λx y hx hy hxy e=>?_
   have e1:=(hL x _ (al hx)).2.2.2
   have e2:=(hL y _ (al hy)).2.2.2
   rw [e,e2] at e1
   have e3:=ap e1
   have a0:=aT (sf+5*(x:Int)) (show (26:Int)≠0 by decide)
   have b0:=aT (sf+5*(y:Int)) (show (26:Int)≠0 by decide)
   have:(sf+5*(x:Int))%26=(sf+5*(y:Int))%26:=by lia
   lia
theorem qw9:∀ {l m:List Str},l.Nodup→m.Nodup→(∀x,x∈l↔x∈m)→l.Pairwise (λx y=>¬ y.cps.toList<x.cps.toList)→m.Pairwise (λx y=>¬ y.cps.toList<x.cps.toList)→l=m
 |[],[],_,_,_,_,_=>rfl
 |[],y::m,_,_,h,_,_=>absurd ((h y).mpr (aH ..)) am
 |x::l,[],_,_,h,_,_=>absurd ((h x).mp (aH ..)) am
 |x::l,y::m,n1,n2,h,p1,p2=>by
  obtain ⟨a1,m1⟩:=aO.mp n1
  obtain ⟨a2,m2⟩:=aO.mp n2
  obtain ⟨b1,q1⟩:=List.pairwise_cons.mp p1
  obtain ⟨b2,q2⟩:=List.pairwise_cons.mp p2
  have exy:x=y:=by
   rcases ak.mp ((h x).mp (aH ..)) with z|z
   ·exact z
   ·rcases ak.mp ((h y).mpr (aH ..)) with w|w
    ·exact w.symm
    ·have e:=List.le_antisymm (as:=x.cps.toList) (bs:=y.cps.toList) (b1 y w) (b2 x z)
     cases x;cases y
     simpa using e
  subst exy
  have:l=m:=qw9 m1 m2 (λz=>by
   have hz:=h z
   simp only [ak] at hz
   constructor
   ·intro hl
    rcases hz.mp (.inr hl) with w|w
    ·exact absurd (w▸hl) a1
    ·exact w
   ·intro hm
    rcases hz.mpr (.inr hm) with w|w
    ·exact absurd (w▸hm) a2
    ·exact w) q1 q2
  rw [this]
theorem zr (nd:(W.map (·.1)).Nodup)(h:RefsF (wj W))(n:Str):n∈W.map ku↔(wj W (.inr n)).isSome=true:=by
 have ek:=(vk nd h).1
 have:n∈W.map ku↔(Sum.inr n:Key)∈W.map (·.1):=by
  rw [ek]
  exact ⟨λh=>aA.mpr ⟨n,h,rfl⟩,λh=>by
   obtain ⟨n',h',e⟩:=aA.mp h
   have e:n'=n:=by injection e
   rw [←e];exact h'⟩
 rw [this]
 constructor
 ·intro h
  obtain ⟨c,hc,e⟩:=aA.mp h
  have:=v9 nd hc
  rw [e] at this
  rw [this];rfl
 ·intro h
  obtain ⟨u,eu⟩:=ar.mp h
  exact aA.mpr ⟨_,qvu eu,rfl⟩
def zd (i:Int):Str:=Str.ofString (toString i)
def qzm (n:Str)(hs:List Int):Str:=Txt.join " " (("road" : Str)::n::hs.map zd)
def qzq (n wh:Str)(pt:Int×Int):Str:=Str.empty ++ "walker " ++ n ++ " " ++ wh ++ " " ++ zd pt.1 ++ " " ++ zd pt.2
theorem yy {i:Int}(h0:0≤i)(h:i≤100000):i.natAbs.log2<1920:=by
 by_cases z:i.natAbs=0
 ·rw [z];decide
 ·refine (Nat.log2_lt z).mpr ?_
  have:(2:Nat) ^ 17≤2 ^ 1920:=Nat.pow_le_pow_right ⋯ ⋯
  have e:(2:Nat) ^ 17=131072:=by decide
  lia
theorem vt {i:Int}(h0:0≤i)(h:i≤100000):(zd i).length≤10:=PySem.W.KT.len_num h0 ⋯
theorem vq (a b:Str):(a++b).length=a.length+b.length:=by
 show (a.cps++b.cps).size=_
 rw [Array.size_append]
 rfl
theorem zy (lo:xv hs):hs.length≤25∧∀h∈hs,0≤h∧h≤100000:=by
 obtain ⟨_,h2,h3⟩:=lo
 exact ⟨h2,λh hh=>⟨(h3 h hh).1,by have:=(h3 h hh).2;lia⟩⟩
theorem ut (h:∀h∈hs,0≤h∧h≤100000):((hs.map zd).map (·.length)).sum≤10*hs.length:=by
 induction hs with
 |nil=>exact aC _
 |cons a l ih =>
  have:=ih λx hx=>h x (ax _ hx)
  have b:=vt (h a (aH ..)).1 (h a (aH ..)).2
  simp only [aG,cu,aw]
  lia
theorem Zn:("road" : Str).length=4:=by decide +kernel
theorem qw5 (lo:xv hs)(ln:n.length≤100):JoinOk " " (("road" : Str)::n::hs.map zd)=true:=by
 obtain ⟨h1,h2⟩:=zy lo
 have:=ut h2
 have e:=Zn
 refine bS ?_ (by decide +kernel)
 simp only [aG,cu,aw,aa] at this ⊢
 lia
theorem qwx (lo:xv hs)(ln:n.length≤100):(qzm n hs).length≤1000:=by
 obtain ⟨h1,h2⟩:=zy lo
 have:=ut h2
 have e:=Zn
 unfold qzm
 rw [show Txt.join " " (("road" : Str)::n::hs.map zd)=Str.join " " (("road" : Str)::n::hs.map zd) from bh _ _]
 refine bd (StrLaws.join_length_le _ _) ?_
 rw [show (" " : Str).length=1 by decide +kernel]
 simp only [aG,cu,aw,aa] at this ⊢
 lia
def Qj (C CR CW:Aj):Sp:=λvs H Q _=>∃(o:Ho) (a:AH) (as:List AH) (n:Str) (hs:List Int),vs=[.ref o.x,.str n]∧VH C CR CW H o (a::as)∧a.rs n=some hs∧n.length≤100∧∀H',Same H H'→Q (.str (qzm n hs)) H'
include T in
theorem qxc (F:Fun K "road_row" "road_row" zbe f fd)(zfv:MCal P w K mg base qq "corners_of" 2 (j5 qq qg qt)) :
  FK P w K mg base 3 f fd ["house","name"] (Qj qq qg qz):=by
 have sc:=qxp
 refine F.okX sc (λvs H Q E h=>by obtain ⟨_,_,_,_,_,rfl,_⟩:=h;rfl) λ_ _ _ _ H vs Q E hr h=>?_
 obtain ⟨o,a,as,n,hs,rfl,v,en,ln,k⟩:=h
 obtain ⟨r,er,ra⟩:=v.rep.road en
 have lo:=v.rep.ok.lo n hs en
 obtain ⟨dx,hx⟩:=v.h.hs.ob
 refine ⟨_,(wq (wp (ur bW cb ce Wf xn (xu (wy qjg (yw (w8 xn (wx (pv 1) qk))) (vz (M:=[]) rfl rfl (by walk_at "cap") (by walk_at "has") (by walk_at "cix") rfl (by decide +kernel) rfl (show List.Nodup (["height"]:List Str) by decide +kernel) (jp (zc (pv 0) T.clH zfv (hr.mono ⋯) qr (wx (pv 1) qk))) (λ_ _ _ _ _=>(x6 vf rfl T.str_ bJ (wx (pv 0) qk))))) qk)))),?_⟩
 refine ⟨rfl,exI rfl ⟨sz2,λp np=>?_⟩⟩
 have s1:Same H (upd H p (.lst [.str "road",.str n])):=Same.upd np
 have v1:=v.same s1
 obtain ⟨r',er',ra'⟩:=v1.rep.road en
 obtain ⟨dx1,hx1⟩:=v1.h.hs.ob
 refine ⟨_,rfl,o.x,dx1,_,rfl,hx1,zv,_,rfl,o.x,o.dr,o.dw,o.dd,o.R,o.W,_,n,rfl,v1.h.hs,λu eu=>?_,λz=>by rw [er'] at z;cases z⟩
 rw [er'] at eu
 cases eu
 refine ⟨r',hs,rfl,ra',λq nq=>?_⟩
 refine ⟨q,rfl,⟨_,SqL.of qj⟩,Y6 (λx=>match x with|.int i=>.str (zd i)|_=>.non) (SqL.of qj) (by rw [aa];have:=(zy lo).1;lia) (λx H' R hx' s2 hR=>?_) λl nl=>?_⟩
 ·obtain ⟨i,hi,rfl⟩:=aA.mp hx'
  have:=(zy lo).2 i hi
  exact exI rfl (exI rfl ⟨yy this.1 this.2,hR⟩)
 ·have e:(hs.map V.int).map (λx=>match x with|.int i=>V.str (zd i)|_=>.non)=(hs.map zd).map V.str:=by
   rw [be,be]
   rfl
  rw [e]
  have np1:q≠p:=λz=>by rw [z,qj] at nq;cases nq
  have np2:l≠p:=λz=>by rw [z,q9 np1.symm,qj] at nl;cases nl
  refine ⟨p,l,_,_,rfl,rfl,by rw [q9 np2.symm,q9 np1.symm];exact qj,qj,?_,λj nj=>?_⟩
  ·have:=(zy lo).1
   have big:(1000000:Nat)<sizeLine:=by decide
   simp only [aw,cv,aa]
   lia
  ·exact ⟨_,_,("road" : Str)::n::hs.map zd,rfl,rfl,SqL.of qj,qw5 lo ln,k _ (((s1.trans (Same.upd nq)).trans (Same.upd nl)).trans (Same.upd nj))⟩
theorem qxu {pt:Int×Int}(ln:n.length≤100)(lw:wh.length≤100)(h1:0≤pt.1∧pt.1≤100000)(h2:0≤pt.2∧pt.2≤100000):(qzq n wh pt).length≤1000:=by
 have a1:=vt h1.1 h1.2
 have a2:=vt h2.1 h2.2
 have e1:(Str.empty ++ "walker " : Str).length=7:=by decide +kernel
 have e2:(" " : Str).length=1:=by decide +kernel
 unfold qzq
 simp only [vq] at e1 ⊢
 lia
def j6 (C CR CW:Aj):Sp:=λvs H Q _=>∃(o:Ho) (a:AH) (as:List AH) (n:Str) (w:Wk),vs=[.ref o.x,.str n]∧VH C CR CW H o (a::as)∧a.ws n=some w∧n.length≤100∧w.wh.length≤100∧∀H',Same H H'→Q (.str (qzq n w.wh w.pt)) H'
include T in
theorem Yk (F:Fun K "walker_row" "walker_row" zbf f fd)(zfw:MCal P w K mg base qq "where" 2 (qqs qq qz qu)) :
  FK P w K mg base 3 f fd ["house","name"] (j6 qq qg qz):=by
 have sc:=Yd
 refine F.okX sc (λvs H Q E h=>by obtain ⟨_,_,_,_,_,rfl,_⟩:=h;rfl) λ_ _ _ _ H vs Q E hr h=>?_
 obtain ⟨o,a,as,n,wk,rfl,v,en,ln,lw,k⟩:=h
 refine ⟨_,(qc (yq (zc (pv 0) T.clH zfw (hr.mono ⋯) qr (wx (pv 1) qk)) (jw rfl (xz (wt (i:=2)) (xz (jw rfl (xz (wt (i:=3)) (xz (wt (i:=4)) vw))) vw))))
   (wq (wp (wqc (J3 (qqu (pv 1) (J3 (qqu (pv 2) (J3 (qqu (pv 3) (J3 (qqu (pv 4) pf_nil)))))))))))),?_⟩
 obtain ⟨y,p,tt,ey,wk'⟩:=v.rep.wk en
 obtain ⟨dx,hx⟩:=v.h.hs.ob
 obtain ⟨_,hs,_,hp⟩:=v.rep.ok.wo n wk en
 have rg:=hp.rng
 have g1:0≤wk.pt.1∧wk.pt.1≤100000:=by lia
 have g2:0≤wk.pt.2∧wk.pt.2≤100000:=by lia
 have big:(1000000:Nat)<sizeLine:=by decide
 have a1:=vt g1.1 g1.2
 have a2:=vt g2.1 g2.2
 have e1:(Str.empty ++ "walker " : Str).length=7:=by decide +kernel
 have e2:(" " : Str).length=1:=by decide +kernel
 unfold zd at a1 a2
 rw [vq] at e1
 refine exI rfl ⟨o.x,dx,exI rfl ⟨hx,zv,exI rfl ⟨o.x,o.dr,o.dw,o.dd,o.R,o.W,_,n,rfl,v.h.hs,(λz=>by rw [ey] at z;cases z),λu eu=>?_⟩⟩⟩
 rw [ey] at eu
 cases eu
 refine ⟨y,wk.wh,p,wk.pt,tt,wk.tv,rfl,wk',λq nq=>?_⟩
 have s1:Same H (upd H q (.tup [.str wk.wh,.ref p])):=Same.upd nq
 have fp:=(WkAt.same wk' s1).pt
 have kk:=k _ s1
 unfold qzq zd at kk
 refine ⟨q,exI rfl ⟨SqT.of qj,rfl,_,_,rfl,_,_,rfl,p,exI rfl ⟨SqT.of fp,rfl,_,_,rfl,_,_,rfl,rfl,rfl,?_⟩⟩⟩
 have z:∀m:Nat,m≤1000→m≤sizeLine:=λm h=>by lia
 have n1:=yy g1.1 g1.2
 have n2:=yy g2.1 g2.2
 refine ⟨z _ ?_,_,rfl,.inl ⟨n,rfl,z _ ⋯,z _ ?_,z _ ?_,_,rfl,.inl ⟨wk.wh,rfl,z _ ⋯,z _ ?_,z _ ?_,_,rfl,.inr ⟨wk.pt.1,rfl,n1,z _ ?_,z _ ?_,_,rfl,.inr ⟨wk.pt.2,rfl,n2,z _ ?_,z _ ?_,kk⟩⟩⟩⟩⟩ <;> simp only [vq] <;> lia
structure BA where
 rs:Str→Option (List Int)
 ws:Str→Option (Str×(Int×Int))
def AH.bk (a:AH):BA:=⟨a.rs,λn=>(a.ws n).map λw=>(w.wh,w.pt)⟩
def BA.putR (b:BA)(n:Str)(hs:List Int):BA:={ b with rs:=λm=>if m=n then some hs else b.rs m }
def BA.putW (b:BA)(n:Str)(w:Str×(Int×Int)):BA:={ b with ws:=λm=>if m=n then some w else b.ws m }
structure BOk (NM:List Str)(b:BA):Prop where
 lo:∀n hs,b.rs n=some hs→xv hs∧zk n=true∧n∈NM
 wo:∀n w,b.ws n=some w→zk n=true∧n∈NM∧∃hs,b.rs w.1=some hs∧HPt hs w.2
theorem BOk.nil:BOk NM AH.nil.bk:=⟨(λn hs e=>nomatch e),(λn w e=>nomatch e)⟩
variable {b:BA}
theorem BOk.putR (h:BOk NM b){n:Str}{hs:List Int}(lo:xv hs)(nn:zk n=true)(hn:n∈NM)(hw:∀m w,b.ws m=some w→w.1=n→HPt hs w.2):BOk NM (b.putR n hs):=by
 refine ⟨λm ks e=>?_,λm w e=>?_⟩
 ·have e:(if m=n then some hs else b.rs m)=some ks:=e
  by_cases z:m=n
  ·rw [aj z] at e;cases e;rw [z];exact ⟨lo,nn,hn⟩
  ·rw [ag z] at e;exact h.lo m ks e
 ·obtain ⟨a,c,ks,er,hp⟩:=h.wo m w e
  refine ⟨a,c,?_⟩
  by_cases z:w.1=n
  ·exact ⟨hs,aj z,hw m w e z⟩
  ·exact ⟨ks,(ag z).trans er,hp⟩
theorem BOk.putW (h:BOk NM b){n:Str}{w:Str×(Int×Int)}(nn:zk n=true)(hn:n∈NM){hs:List Int}(er:b.rs w.1=some hs)(hp:HPt hs w.2):BOk NM (b.putW n w):=by
 refine ⟨h.lo,λm w' e=>?_⟩
 have e:(if m=n then some w else b.ws m)=some w':=e
 by_cases z:m=n
 ·rw [aj z] at e;cases e;rw [z];exact ⟨nn,hn,hs,er,hp⟩
 ·rw [ag z] at e;exact h.wo m w' e
theorem AOk.bk (h:BOk NM a.bk):Nam NM a:=⟨λn e=>by
 cases er:a.rs n with
 |none=>rw [er] at e;cases e
 |some hs=>exact (h.lo n hs er).2.2,λn e=>by
 cases ew:a.ws n with
 |none=>rw [ew] at e;cases e
 |some w=>exact (h.wo n (w.wh,w.pt) (by show (a.ws n).map _=_;rw [ew];rfl)).2.1⟩
def RowAt (H:Hp)(o:Option V):Option (List Int)→Prop
 |none=>o=none
 |some hs=>xv hs∧∃p,o=some (.ref p)∧H p=some (.lst (hs.map V.int))
def WlkAt (H:Hp)(o:Option V):Option (Str×(Int×Int))→Prop
 |none=>o=none
 |some w=>∃p,o=some (.ref p)∧H p=some (.tup [.str w.1,.int w.2.1,.int w.2.2])
structure BP (H:Hp)(R W:List (Key×V))(b:BA):Prop where
 nR:(R.map (·.1)).Nodup
 nW:(W.map (·.1)).Nodup
 fR:RefsF (wj R)
 fW:RefsF (wj W)
 r:∀n,RowAt H (wj R (.inr n)) (b.rs n)
 w:∀n,WlkAt H (wj W (.inr n)) (b.ws n)
theorem BP.row (h:BP H R W b){n:Str}{hs:List Int}(e:b.rs n=some hs):xv hs∧∃p,wj R (.inr n)=some (.ref p)∧H p=some (.lst (hs.map V.int)):=by
 have:=h.r n
 rw [e] at this
 exact this
theorem BP.noR (h:BP H R W b){n:Str}(e:b.rs n=none):wj R (.inr n)=none:=by
 have:=h.r n
 rw [e] at this
 exact this
theorem BP.wlk (h:BP H R W b){n:Str}{v:Str×(Int×Int)}(e:b.ws n=some v):∃p,wj W (.inr n)=some (.ref p)∧H p=some (.tup [.str v.1,.int v.2.1,.int v.2.2]):=by
 have:=h.w n
 rw [e] at this
 exact this
theorem BP.noW (h:BP H R W b){n:Str}(e:b.ws n=none):wj W (.inr n)=none:=by
 have:=h.w n
 rw [e] at this
 exact this
theorem BP.kb (h:BP H R W b){ch:List Aj}(dl:Dl H ch)(k:Kb ch H H'):BP H' R W b:=by
 refine ⟨h.nR,h.nW,h.fR,h.fW,λn=>?_,λn=>?_⟩
 ·cases e:b.rs n with
  |none=>exact h.noR e
  |some hs =>
   obtain ⟨lo,p,e1,e2⟩:=h.row e
   exact ⟨lo,p,e1,dl.row k lo e2⟩
 ·cases e:b.ws n with
  |none=>exact h.noW e
  |some v =>
   obtain ⟨p,e1,e2⟩:=h.wlk e
   exact ⟨p,e1,dl.tup k e2⟩
theorem BP.same (h:BP H R W b)(s:Same H H'):BP H' R W b:=h.kb (ch:=[]) Dl.nil (Kb.of s)
theorem qwj (h:RefsF (wj R))(n:Str)(p:Aj):RefsF (wj (zb R (.inr n) (.ref p))):=λm v e=>by
 rw [uy] at e
 by_cases z:m=.inr n
 ·rw [aj z] at e;cases e;exact ⟨n,p,z,rfl⟩
 ·rw [ag z] at e;exact h m v e
theorem qyw (h:(R.map (·.1)).Nodup)(n:Key)(p:Aj):((zb R n (.ref p)).map (·.1)).Nodup:=by
 have:=qyy h (n,.ref p)
 unfold ex1 at this
 rw [ag (λz=>by cases z)] at this
 exact this
theorem BP.putR (h:BP H R W b){n:Str}{hs:List Int}{p:Aj}(lo:xv hs)(fp:H p=some (.lst (hs.map V.int))):BP H (zb R (.inr n) (.ref p)) W (b.putR n hs):=by
 refine ⟨qyw h.nR _ _,h.nW,qwj h.fR _ _,h.fW,λm=>?_,h.w⟩
 show RowAt H _ (if m=n then some hs else b.rs m)
 rw [uy]
 by_cases z:m=n
 ·rw [aj z,aj (by rw [z])]
  exact ⟨lo,p,rfl,fp⟩
 ·rw [ag z,ag (λy=>z (by injection y))]
  exact h.r m
theorem BP.putW (h:BP H R W b){n:Str}{v:Str×(Int×Int)}{p:Aj}(fp:H p=some (.tup [.str v.1,.int v.2.1,.int v.2.2])):BP H R (zb W (.inr n) (.ref p)) (b.putW n v):=by
 refine ⟨h.nR,qyw h.nW _ _,h.fR,qwj h.fW _ _,h.r,λm=>?_⟩
 show WlkAt H _ (if m=n then some v else b.ws m)
 rw [uy]
 by_cases z:m=n
 ·rw [aj z,aj (by rw [z])]
  exact ⟨p,rfl,fp⟩
 ·rw [ag z,ag (λy=>z (by injection y))]
  exact h.w m
theorem BP.lens (h:BP H R W b){NM:List Str}(bo:BOk NM b):R.length≤NM.length∧W.length≤NM.length:=by
 refine ⟨qqh h.nR λk u e=>?_,qqh h.nW λk u e=>?_⟩
 ·obtain ⟨n,_,rfl,_⟩:=h.fR k u e
  refine ⟨n,rfl,?_⟩
  cases e2:b.rs n with
  |none=>rw [h.noR e2] at e;cases e
  |some hs=>exact (bo.lo n hs e2).2.2
 ·obtain ⟨n,_,rfl,_⟩:=h.fW k u e
  refine ⟨n,rfl,?_⟩
  cases e2:b.ws n with
  |none=>rw [h.noW e2] at e;cases e
  |some v=>exact (bo.wo n v e2).2.1
structure B2 (H:Hp)(dr dw:Aj)(R W:List (Key×V))(b:BA):Prop where
 r:H dr=some (.dK R)
 w:H dw=some (.dK W)
 ne:dr≠dw
 bp:BP H R W b
theorem B2.dl (h:B2 H dr dw R W b):Dl H [dr,dw]:=.cons (.inl ⟨_,.inl h.r⟩) (.cons (.inl ⟨_,.inl h.w⟩) .nil)
theorem B2.same (h:B2 H dr dw R W b)(s:Same H H'):B2 H' dr dw R W b:=⟨s _ _ h.r,s _ _ h.w,h.ne,h.bp.same s⟩
theorem qy7 {a:Aj}{o:HO}(h:a∈ch):Kb ch H (upd H a o):=λb x nb e=>by
 rw [q9 (λz=>nb (by rw [z];exact h))]
 exact e
theorem B2.setR {R':List (Key×V)}{b':BA}(h:B2 H dr dw R W b)(hb:BP H R' W b'):B2 (upd H dr (.dK R')) dr dw R' W b':=by
 have k:Kb [dr,dw] H (upd H dr (.dK R')):=qy7 (by simp)
 exact ⟨qj,by rw [q9 (aN h.ne)];exact h.w,h.ne,hb.kb h.dl k⟩
theorem B2.setW {W':List (Key×V)}{b':BA}(h:B2 H dr dw R W b)(hb:BP H R W' b'):B2 (upd H dw (.dK W')) dr dw R W' b':=by
 have k:Kb [dr,dw] H (upd H dw (.dK W')):=qy7 (by simp)
 exact ⟨by rw [q9 h.ne];exact h.r,qj,h.ne,hb.kb h.dl k⟩
def SrtN (p:Str→Bool)(ms:List Str):Prop:=ms.Nodup∧(∀x,x∈ms↔p x=true)∧ms.Pairwise (λx y=>¬ y.cps.toList<x.cps.toList)
theorem SrtN.uniq {p:Str→Bool}{l m:List Str}(a:SrtN p l)(b:SrtN p m):l=m:=qw9 a.1 b.1 (λx=>(a.2.1 x).trans (b.2.1 x).symm) a.2.2 b.2.2
def xf (b:BA)(n:Str):Str:=qzm n ((b.rs n).getD [])
def x8 (b:BA)(n:Str):Str:=qzq n ((b.ws n).getD ("",0,0)).1 ((b.ws n).getD ("",0,0)).2
def Zx (b:BA)(ms1 ms2:List Str):Str:=Txt.join ("\n" : Str) (ms1.map (xf b)++ms2.map (x8 b))
theorem qzd {f:Str→Str}{N:Nat}:∀ {ms:List Str},(∀m∈ms,(f m).length≤N)→((ms.map f).map (·.length)).sum≤N*ms.length
 |[],_=>aC _
 |m::ms,h=>by
  have a:=h m (aH ..)
  have b:=qzd λx hx=>h x (ax m hx)
  simp only [aG,cu,aw]
  rw [Nat.mul_succ]
  lia
theorem Qs {f g:Str→Str}{ms1 ms2:List Str}(h1:∀m∈ms1,(f m).length≤1000)(h2:∀m∈ms2,(g m).length≤1000)(l1:ms1.length≤100)(l2:ms2.length≤100):JoinOk ("\n" : Str) (ms1.map f++ms2.map g)=true:=by
 refine bS ?_ (by decide +kernel)
 have a:=qzd h1
 have b:=qzd h2
 rw [aP,List.sum_append,aM,aa,aa]
 lia
def qx0 (C CR CW:Aj):Sp:=λvs H Q _=>∃(o:Ho) (a:AH) (as:List AH) (NM:List Str),vs=[.ref o.x]∧VH C CR CW H o (a::as)∧Nam NM a∧NM.length<60∧(∀n∈NM,n.length≤100)∧∀H' ms1 ms2,Same H H'→SrtN (λn=>(a.bk.rs n).isSome) ms1→SrtN (λn=>(a.bk.ws n).isSome) ms2→Q (.str (Zx a.bk ms1 ms2)) H'
include T in
theorem Z7 (F:Fun K "house_text" "house_text" zbg f fd)(zfx:MCal P w K mg base qq "names" 1 (J0 qq))(zfy:Cal P w K mg base "road_row" 3 (Qj qq qg qz))(zfz:Cal P w K mg base "walker_row" 3 (j6 qq qg qz)) :
  FK P w K mg base 4 f fd ["house"] (qx0 qq qg qz):=by
 have sc:=Yz
 refine F.okX sc (λvs H Q E h=>by obtain ⟨_,_,_,_,rfl,_⟩:=h;rfl) λ_ _ _ _ H vs Q E hr h=>?_
 obtain ⟨o,a,as,NM,rfl,v,nm,lN,nl,k⟩:=h
 obtain ⟨dx,hx⟩:=v.h.hs.ob
 obtain ⟨eR,nR⟩:=vk v.h.nR v.h.fR
 obtain ⟨eW,nW⟩:=vk v.h.nW v.h.fW
 have lens:=v.lens nm
 have big:(1000000:Nat)<sizeLine:=by decide
 refine ⟨_,(qc (yq (jv (pv 0) T.clH zfx (hr.mono ⋯) qr) (jw rfl (xz (wt (i:=1)) (xz (wt (i:=2)) vw))))
   (qc (wf (i:=3) (wy qjg (vz (M:=[0]) rfl rfl (by walk_at "cap") (by walk_at "has") (by walk_at "cix") rfl (by decide +kernel) rfl (show List.Nodup (["name","house"]:List Str) by decide +kernel) (jp (pv 1)) (λ_ _ _ _ _=>(wb zfy (hr.mono ⋯) rfl qx7 (wx (pv 1) (wx (pv 0) qk))))) (vz (M:=[0]) rfl rfl (by walk_at "cap") (by walk_at "has") (by walk_at "cix") rfl (by decide +kernel) rfl (show List.Nodup (["name","house"]:List Str) by decide +kernel) (jp (pv 2)) (λ_ _ _ _ _=>(wb zfz (hr.mono ⋯) rfl qx7 (wx (pv 1) (wx (pv 0) qk)))))))
   (wq (wp (ur bW cb ce Wf xn (wx (pv 3) qk)))))),?_⟩
 refine ⟨_,rfl,o.x,dx,_,rfl,hx,zv,o.x,o.dr,o.dw,o.dd,o.R,o.W,_,_,_,rfl,v.h.hs,eR,⋯,eW,⋯,λq l1 l2 ms1 ms2 H1 s1 p1 w1 p2 w2 f1 f2 fq=>?_⟩
 have S1:SrtN (λn=>(a.bk.rs n).isSome) ms1:=by
  refine ⟨p1.nodup_iff.mpr nR,λn=>?_,w1⟩
  rw [p1.mem_iff,zr v.h.nR v.h.fR]
  have:=v.rep.r n
  show _↔(a.rs n).isSome=true
  cases e:a.rs n with
  |none=>rw [e] at this;rw [show wj o.R (.inr n)=none from this];exact ⟨(λz=>nomatch z),(λz=>nomatch z)⟩
  |some hs=>rw [e] at this;obtain ⟨r,e1,_⟩:=this;rw [e1];exact ⟨λ_=>rfl,λ_=>rfl⟩
 have S2:SrtN (λn=>(a.bk.ws n).isSome) ms2:=by
  refine ⟨p2.nodup_iff.mpr nW,λn=>?_,w2⟩
  rw [p2.mem_iff,zr v.h.nW v.h.fW]
  have:=v.rep.w n
  show _↔((a.ws n).map _).isSome=true
  cases e:a.ws n with
  |none=>rw [e] at this;rw [show wj o.W (.inr n)=none from this];exact ⟨(λz=>nomatch z),(λz=>nomatch z)⟩
  |some hs=>rw [e] at this;obtain ⟨r,_,_,e1,_⟩:=this;rw [e1];exact ⟨λ_=>rfl,λ_=>rfl⟩
 have g1:∀n∈ms1,n.length≤100∧∃hs,a.rs n=some hs:=λn hn=>by
  have h:(a.rs n).isSome=true:=(S1.2.1 n).mp hn
  exact ⟨nl n (nm.r n h),ar.mp h⟩
 have g2:∀n∈ms2,n.length≤100∧∃w,a.ws n=some w∧w.wh.length≤100:=λn hn=>by
  have h:((a.ws n).map λw=>(w.wh,w.pt)).isSome=true:=(S2.2.1 n).mp hn
  rw [cg] at h
  obtain ⟨w,e⟩:=ar.mp h
  obtain ⟨_,hs,er,_⟩:=v.rep.ok.wo n w e
  exact ⟨nl n (nm.w n h),w,e,nl _ (nm.r _ (by rw [er];rfl))⟩
 have r1:∀n∈ms1,(xf a.bk n).length≤1000:=λn hn=>by
  obtain ⟨ln,hs,e⟩:=g1 n hn
  unfold xf
  rw [show a.bk.rs n=some hs from e]
  exact qwx (v.rep.ok.lo n hs e) ln
 have e2:∀n w,a.ws n=some w→a.bk.ws n=some (w.wh,w.pt):=λn w e=>by
  show (a.ws n).map _=_
  rw [e];rfl
 have r2:∀n∈ms2,(x8 a.bk n).length≤1000:=λn hn=>by
  obtain ⟨ln,w,e,lw⟩:=g2 n hn
  obtain ⟨_,hs,_,hp⟩:=v.rep.ok.wo n w e
  have rg:=hp.rng
  unfold x8
  rw [e2 n w e]
  exact qxu ln lw ⟨by show 0≤w.pt.1;lia,by show w.pt.1≤_;lia⟩ ⟨by show 0≤w.pt.2;lia,by show w.pt.2≤_;lia⟩
 have lm1:ms1.length≤60:=by rw [p1.length_eq,aa];lia
 have lm2:ms2.length≤60:=by rw [p2.length_eq,aa];lia
 refine ⟨q,exI rfl ⟨SqT.of fq,rfl,_,_,rfl,_,_,rfl,rfl,?_⟩⟩
 refine exI rfl ⟨l1,rfl,⟨_,SqL.of f1⟩,Zr (λx=>match x with|.str n=>.str (xf a.bk n)|_=>.non) (λx b=>by split <;> exact λz=>nomatch z) (SqL.of f1) (by rw [aa];lia) (λx H2 R hx2 s2 hR=>?_) λc1 H2 n1 s2 f3=>?_⟩
 ·obtain ⟨n,hn,rfl⟩:=aA.mp hx2
  obtain ⟨ln,hs,e⟩:=g1 n hn
  refine exI rfl (exI rfl ⟨o,a,as,n,hs,rfl,v.same (s1.trans s2),e,ln,λH3 s3=>?_⟩)
  have:=hR H3 s3
  dsimp only at this
  unfold xf at this
  rw [show a.bk.rs n=some hs from e] at this
  exact this
 refine exI rfl ⟨l2,rfl,⟨_,SqL.of (s2 _ _ f2)⟩,Zr (λx=>match x with|.str n=>.str (x8 a.bk n)|_=>.non) (λx b=>by split <;> exact λz=>nomatch z) (SqL.of (s2 _ _ f2)) (by rw [aa];lia) (λx H3 R hx3 s3 hR=>?_) λc2 H3 n2 s3 f4=>?_⟩
 ·obtain ⟨n,hn,rfl⟩:=aA.mp hx3
  obtain ⟨ln,w,e,lw⟩:=g2 n hn
  refine exI rfl (exI rfl ⟨o,a,as,n,w,rfl,v.same ((s1.trans s2).trans s3),e,ln,lw,λH4 s4=>?_⟩)
  have:=hR H4 s4
  dsimp only at this
  unfold x8 at this
  rw [e2 n w e] at this
  exact this
 have m1:(ms1.map V.str).map (λx=>match x with|.str n=>V.str (xf a.bk n)|_=>.non)=(ms1.map (xf a.bk)).map V.str:=by
  rw [be,be];rfl
 have m2:(ms2.map V.str).map (λx=>match x with|.str n=>V.str (x8 a.bk n)|_=>.non)=(ms2.map (x8 a.bk)).map V.str:=by
  rw [be,be];rfl
 rw [m1] at f3
 rw [m2] at f4
 refine ⟨c1,c2,_,_,rfl,rfl,s3 _ _ f3,f4,by simp only [aa];lia,λp np=>?_⟩
 refine ⟨rfl,exI rfl ⟨_,_,ms1.map (xf a.bk)++ms2.map (x8 a.bk),rfl,rfl,SqL.of (by rw [aP];exact qj),Qs r1 r2 ⋯ ⋯,?_⟩⟩
 exact k _ ms1 ms2 (((s1.trans s2).trans s3).trans (Same.upd np)) S1 S2
theorem qy8 (h:hs≠[]):("road " : Str)++n ++ " " ++ Txt.join " " (hs.map zd)=qzm n hs:=by
 unfold qzm
 rw [show Txt.join " " (hs.map zd)=Str.join " " (hs.map zd) from bh _ _,show Txt.join " " (("road" : Str)::n::hs.map zd)=Str.join " " (("road" : Str)::n::hs.map zd) from bh _ _]
 cases hs with
 |nil=>exact absurd rfl h
 |cons i l =>
  show _ = "road" ++ " " ++ (n ++ " " ++ Str.join " " ((i::l).map zd))
  refine qu1 ?_
  simp only [wqh]
  have e:("road " : Str).cps.toList=("road" : Str).cps.toList++(" " : Str).cps.toList:=by decide +kernel
  rw [e]
  simp only [List.append_assoc]
theorem qj9 (n wh:Str)(pt:Int×Int):("walker " : Str)++n ++ " " ++ wh ++ " " ++ zd pt.1 ++ " " ++ zd pt.2=qzq n wh pt:=by
 unfold qzq
 rw [PySem.W.KT.empty_app]
theorem qwu (lo:xv hs):JoinOk " " (hs.map zd)=true:=by
 obtain ⟨h1,h2⟩:=zy lo
 have:=ut h2
 refine bS ?_ (by decide +kernel)
 rw [aa]
 lia
theorem Yg (lo:xv hs):(Txt.join " " (hs.map zd)).length≤300:=by
 obtain ⟨h1,h2⟩:=zy lo
 have:=ut h2
 rw [show Txt.join " " (hs.map zd)=Str.join " " (hs.map zd) from bh _ _]
 refine bd (StrLaws.join_length_le _ _) ?_
 rw [show (" " : Str).length=1 by decide +kernel,aa]
 lia
theorem BP.in_r (h:BP H R W b)(n:Str):(wj R (.inr n)).isSome=(b.rs n).isSome:=by
 cases e:b.rs n with
 |none=>rw [h.noR e];rfl
 |some hs=>obtain ⟨_,p,e1,_⟩:=h.row e;rw [e1];rfl
theorem BP.in_w (h:BP H R W b)(n:Str):(wj W (.inr n)).isSome=(b.ws n).isSome:=by
 cases e:b.ws n with
 |none=>rw [h.noW e];rfl
 |some hs=>obtain ⟨p,e1,_⟩:=h.wlk e;rw [e1];rfl
theorem W8 {ms:List Str}{i:Nat}(e:(ms.map V.str)[i]?=some v):∃n,v=.str n∧n∈ms∧ms.take (i+1)=ms.take i++[n]:=by
 rw [aI] at e
 cases h:ms[i]? with
 |none=>rw [h] at e;cases e
 |some n =>
  rw [h] at e
  cases e
  exact ⟨n,rfl,bt h,by rw [cB,h];rfl⟩
def qqk:Sp:=λvs H Q _=>∃(dr dw:Aj) (R W:List (Key×V)) (b:BA) (NM:List Str),vs=[.ref dr,.ref dw]∧B2 H dr dw R W b∧BOk NM b∧NM.length<60∧(∀n∈NM,n.length≤100)∧∀H' ms1 ms2,Same H H'→SrtN (λn=>(b.rs n).isSome) ms1→SrtN (λn=>(b.ws n).isSome) ms2→Q (.str (Zx b ms1 ms2)) H'
include T in
theorem qjf (F:Fun K "_law_text" "_law_text" zbq f fd):FK P w K mg base 1 f fd ["_law_roads","_law_walkers"] qqk:=by
 have sc:=Jm
 refine F.okX sc (λvs H Q E h=>by obtain ⟨_,_,_,_,_,_,rfl,_⟩:=h;rfl) λ_ _ _ _ H vs Q E hr h=>?_
 obtain ⟨dr,dw,R,W,b,NM,rfl,hb,bo,lN,nl,k⟩:=h
 obtain ⟨eR,nR⟩:=vk hb.bp.nR hb.bp.fR
 obtain ⟨eW,nW⟩:=vk hb.bp.nW hb.bp.fW
 have lens:=hb.bp.lens bo
 have big:(1000000:Nat)<sizeLine:=by decide
 have z:∀m:Nat,m≤1000→m≤sizeLine:=λm h=>by lia
 refine ⟨_,(qc (wf (i:=2) (yw qk))
   (qc (k4 aQ rfl (jp (wg (jx) rfl T.sorted_ bE (k6 (x6 (jn rfl) rfl T.list_ bg (wx (pv 0) qk)) qk))) (wt (i:=3)) (wq (zq (ur bu bC bD vg (pv 2) (xu (wy xt (wy xt (wy xt xn (pv 3)) xn) (ur bW cb ce Wf xn (xq (vz (M:=[]) rfl rfl (by walk_at "cap") (by walk_at "has") (by walk_at "cix") rfl (by decide +kernel) rfl (show List.Nodup (["_law_height"]:List Str) by decide +kernel) (jp (jm (kf hr) (pv 0) (pv 3) (λ_ _=>rfl))) (λ_ _ _ _ _=>(x6 vf rfl T.str_ bJ (wx (pv 0) qk)))) qk))) qk)))))
   (qc (k4 aQ rfl (jp (wg (jx) rfl T.sorted_ bE (k6 (x6 (jn rfl) rfl T.list_ bg (wx (pv 1) qk)) qk))) (wt (i:=3)) (qc (yq (jm (kf hr) (pv 1) (pv 3) (λ_ _=>rfl)) (jw rfl (xz (wt (i:=4)) (xz (wt (i:=5)) (xz (wt (i:=6)) vw)))))
   (wq (zq (ur bu bC bD vg (pv 2) (xu (wy xt (wy xt (wy xt (wy xt (wy xt (wy xt (wy xt xn (pv 3)) xn) (pv 4)) xn) (x6 vf rfl T.str_ bJ (wx (pv 5) qk))) xn) (x6 vf rfl T.str_ bJ (wx (pv 6) qk))) qk))))))
   (wq (wp (ur bW cb ce Wf xn (wx (pv 2) qk))))))),?_⟩
 refine ⟨sz0,λp np=>?_⟩
 have s0:Same H (upd H p (.lst [])):=Same.upd np
 refine exI rfl ⟨_,_,_,rfl,.inl (s0 _ _ hb.r),eR,λl0 n0=>?_⟩
 refine ⟨_,_,rfl,SqL.of qj,by rw [aa];lia,λl1 ms1 n1 p1 w1=>?_⟩
 have S1:SrtN (λn=>(b.rs n).isSome) ms1:=⟨p1.nodup_iff.mpr nR,λn=>by rw [p1.mem_iff,zr hb.bp.nR hb.bp.fR,hb.bp.in_r],w1⟩
 have lm1:ms1.length≤60:=by rw [p1.length_eq,aa];lia
 have pl0:l0≠p:=λq=>by rw [q,qj] at n0;cases n0
 have pl1:l1≠p:=λq=>by rw [q,q9 pl0.symm,qj] at n1;cases n1
 have e5:("road " : Str).length=5:=by decide +kernel
 have e7:("walker " : Str).length=7:=by decide +kernel
 have e1:(" " : Str).length=1:=by decide +kernel
 refine ⟨l1,rfl,⟨_,SqL.of qj⟩,Zj (xs:=ms1.map V.str) (λi σ H1=>∃y,Same H H1∧H1 p=some (.lst (((ms1.take i).map (xf b)).map V.str))∧H1 l1=some (.lst (ms1.map V.str))∧σ=[some (.ref dr),some (.ref dw),some (.ref p),y,none,none,none])
  ⟨_,(s0.trans (Same.upd n0)).trans (Same.upd n1),by rw [q9 pl1.symm,q9 pl0.symm];exact qj,qj,rfl⟩ (λi σ H1 _ h=>by obtain ⟨_,_,_,h,_⟩:=h;exact SqL.of h) ?_ ?_⟩
 ·rintro i x σ H1 hi ⟨y,s1,f1,f2,rfl⟩
  obtain ⟨n,rfl,hn,ht⟩:=W8 hi
  obtain ⟨hs,er⟩:=ar.mp ((S1.2.1 n).mp hn)
  have hb1:=hb.same s1
  obtain ⟨lo,q,eq,fq⟩:=hb1.bp.row er
  have ln:=nl n (bo.lo n hs er).2.2
  have dg:DGet H1 dr (.str n) (wj R (.inr n)):=DGet.k (k:=.inr n) hb1.r
  rw [eq] at dg
  have jl:=Yg lo
  refine exI rfl ⟨.inl ⟨rfl,_,SqL.of f1⟩,exI rfl (wc rfl rfl ⟨z _ ⋯,wc rfl rfl ⟨z _ (by simp only [vq];lia),rfl,exI rfl (exI rfl ⟨dr,exI rfl ⟨dg,q,rfl,⟨_,SqL.of fq⟩,Y6 (λx=>match x with|.int i=>.str (zd i)|_=>.non) (SqL.of fq) (by rw [aa];have:=(zy lo).1;lia) (λx H' R' hx' s2 hR=>?_) λc nc=>?_⟩⟩)⟩⟩)⟩
  ·obtain ⟨j,hj,rfl⟩:=aA.mp hx'
   have:=(zy lo).2 j hj
   exact exI rfl (exI rfl ⟨yy this.1 this.2,hR⟩)
  ·have e:(hs.map V.int).map (λx=>match x with|.int i=>V.str (zd i)|_=>.non)=(hs.map zd).map V.str:=by
    rw [be,be]
    rfl
   rw [e]
   have pc:p≠c:=λq=>by rw [←q,f1] at nc;cases nc
   have lc:l1≠c:=λq=>by rw [←q,f2] at nc;cases nc
   refine ⟨_,c,hs.map zd,rfl,rfl,SqL.of qj,qwu lo,_,_,rfl,rfl,z _ (by simp only [vq];lia),p,_,_,rfl,rfl,by rw [q9 pc];exact f1,by simp only [aa,br];lia,?_⟩
   refine ⟨_,Same.upd2 (s1.trans (Same.upd nc)) np,?_,by rw [q9 pl1,q9 lc];exact f2,rfl⟩
   rw [ht,aP,aP]
   have e3:xf b n=("road " : Str)++n ++ " " ++ Txt.join " " (hs.map zd):=by
    unfold xf
    rw [er]
    refine (qy8 (λq=>?_)).symm
    have:=lo.1
    rw [show hs=[] from q] at this
    cases this
   rw [show [n].map (xf b)=[xf b n] from rfl,e3]
   exact qj
 rintro σ H1 ⟨y,s1,f1,f2,rfl⟩
 rw [aa,bA] at f1
 have hb1:=hb.same s1
 refine exI rfl ⟨_,_,_,rfl,.inl hb1.w,eW,λl2 n2=>?_⟩
 refine ⟨_,_,rfl,SqL.of qj,by rw [aa];lia,λl3 ms2 n3 p2 w2=>?_⟩
 have S2:SrtN (λn=>(b.ws n).isSome) ms2:=⟨p2.nodup_iff.mpr nW,λn=>by rw [p2.mem_iff,zr hb.bp.nW hb.bp.fW,hb.bp.in_w],w2⟩
 have lm2:ms2.length≤60:=by rw [p2.length_eq,aa];lia
 have s2:=s1.trans (Same.upd (o:=.lst ((W.map ku).map V.str)) n2)
 have s3:=s2.trans (Same.upd (o:=.lst (ms2.map V.str)) n3)
 have p3:l3≠p:=λq=>by rw [q,Same.upd n2 _ _ f1] at n3;cases n3
 refine ⟨l3,rfl,⟨_,SqL.of qj⟩,Zj (xs:=ms2.map V.str) (λi σ H1=>∃y1 y2 y3 y4,Same H H1∧H1 p=some (.lst ((ms1.map (xf b)++(ms2.take i).map (x8 b)).map V.str))∧H1 l3=some (.lst (ms2.map V.str))∧σ=[some (.ref dr),some (.ref dw),some (.ref p),y1,y2,y3,y4])
  ⟨_,_,_,_,s3,by rw [List.take_zero,cS,bY];exact Same.upd n3 _ _ (Same.upd n2 _ _ f1),qj,rfl⟩ (λi σ H1 _ h=>by obtain ⟨_,_,_,_,_,_,h,_⟩:=h;exact SqL.of h) ?_ ?_⟩
 ·rintro i x σ H2 hi ⟨y1,y2,y3,y4,sx,g1,g2,rfl⟩
  obtain ⟨n,rfl,hn,ht⟩:=W8 hi
  obtain ⟨v,ev⟩:=ar.mp ((S2.2.1 n).mp hn)
  have hb2:=hb.same sx
  obtain ⟨q,eq,fq⟩:=hb2.bp.wlk ev
  obtain ⟨nn,hN,hs,er,hp⟩:=bo.wo n v ev
  have ln:=nl n hN
  have lw:=nl v.1 (bo.lo v.1 hs er).2.2
  have rg:=hp.rng
  have q1:=vt (i:=v.2.1) ⋯ ⋯
  have q2:=vt (i:=v.2.2) ⋯ ⋯
  unfold zd at q1 q2
  have dg:DGet H2 dw (.str n) (wj W (.inr n)):=DGet.k (k:=.inr n) hb2.w
  rw [eq] at dg
  refine exI rfl (exI rfl ⟨dw,exI rfl ⟨dg,q,exI rfl ⟨SqT.of fq,rfl,_,_,rfl,_,_,rfl,_,_,rfl,rfl,?_⟩⟩⟩)
  refine exI rfl ⟨.inl ⟨rfl,_,SqL.of g1⟩,exI rfl (wc rfl rfl ⟨z _ ?_,wc rfl rfl ⟨z _ ?_,exI rfl (wc rfl rfl ⟨z _ ?_,wc rfl rfl ⟨z _ ?_,exI rfl (exI rfl ⟨yy ⋯ ⋯,wc rfl rfl ⟨z _ ?_,wc rfl rfl ⟨z _ ?_,exI rfl (exI rfl ⟨yy ⋯ ⋯,wc rfl rfl ⟨z _ ?_,p,wc rfl rfl ⟨g1,?_,?_⟩⟩⟩)⟩⟩⟩)⟩⟩)⟩⟩)⟩
  any_goals (first | lia | (simp only [vq];lia))
  ·simp only [aa,aM,br]
   lia
  ·refine ⟨_,_,_,_,Same.upd2 sx np,?_,by rw [q9 p3];exact g2,rfl⟩
   rw [ht,aP (l₁:=ms2.take i),←List.append_assoc,aP (l₂:=[n].map (x8 b))]
   have e3:x8 b n=("walker " : Str)++n ++ " " ++ v.1 ++ " " ++ zd v.2.1 ++ " " ++ zd v.2.2:=by
    unfold x8
    rw [ev]
    exact (qj9 n v.1 v.2).symm
   rw [show [n].map (x8 b)=[x8 b n] from rfl,e3]
   exact qj
 rintro σ H2 ⟨y1,y2,y3,y4,sx,g1,g2,rfl⟩
 rw [aa,bA] at g1
 have r1:∀n∈ms1,(xf b n).length≤1000:=λn hn=>by
  obtain ⟨hs,e⟩:=ar.mp ((S1.2.1 n).mp hn)
  obtain ⟨lo,_,hN⟩:=bo.lo n hs e
  unfold xf
  rw [e]
  exact qwx lo (nl n hN)
 have r2:∀n∈ms2,(x8 b n).length≤1000:=λn hn=>by
  obtain ⟨v,e⟩:=ar.mp ((S2.2.1 n).mp hn)
  obtain ⟨_,hN,hs,er,hp⟩:=bo.wo n v e
  have rg:=hp.rng
  unfold x8
  rw [e]
  exact qxu (nl n hN) (nl v.1 (bo.lo v.1 hs er).2.2) ⟨by show 0≤v.2.1;lia,by show v.2.1≤_;lia⟩ ⟨by show 0≤v.2.2;lia,by show v.2.2≤_;lia⟩
 exact ⟨rfl,exI rfl ⟨_,_,_,rfl,rfl,SqL.of g1,Qs r1 r2 ⋯ ⋯,k _ ms1 ms2 sx S1 S2⟩⟩
theorem qjb (h:InW hs wd)(h1:1≤wd)(h2:wd≤24):xv hs:=by
 obtain ⟨a,b⟩:=h
 exact ⟨⋯,⋯,λx hx=>by have:=b x hx;lia⟩
theorem uv {t b c:Int}(hb:1≤b)(hc:1≤c):wm (t*c) (b*c)=wm t b:=by
 have:1*1≤b*c:=dR hb hc ⋯ ⋯
 refine (quz ⋯ hb).mp ?_
 rw [Int.mul_assoc,Int.mul_comm c b]
theorem qj5 {t b c mo:Int}(lo:xv hs)(hw:wd=(hs.length:Int)-1)(b1:1≤b)(b2:b≤mo)(m:mo≤40)(c1:1≤c)(t0:0≤t)(t1:t≤wd*b):HPt hs (wm (t*c) (b*c)):=by
 rw [uv b1 c1]
 have on:jg hs t b:=⟨t0,by rw [←hw];exact t1⟩
 have pt:=pt_low b1 on
 exact ⟨lo,⟨pt.1,Int.le_refl _,pt.2.2.1,pt.2.2.2⟩,by have:=pt.2.1;lia⟩
theorem at_two {r:Int}(x y:Int)(h0:0≤r)(h1:r<2):atI [V.int x,V.int y] r=some (.int (if r=1 then y else x)):=by
 have:r=0∨r=1:=by lia
 rcases this with rfl|rfl <;> rfl
theorem at_int {c:Prop}[Decidable c](x y:Int):atI [V.int x,V.int y] (if decide c=true then 1 else 0)=some (.int (if c then y else x)):=by
 by_cases h:c
 ·rw [aj h,aj (bn h)];rfl
 ·rw [ag h,ag (by rw [aY h];exact aB)];rfl
theorem qz4 {L:List (List Nat)}{j:Nat}(hj:j<L.length):atI (L.map λcs=>V.str (zu cs)) ((0:Int)+j)=some (.str (zu L[j])):=by
 rw [Int.zero_add]
 refine Jh ?_
 rw [aI,al hj]
 rfl
def StandK (H:Hp)(Q:VK):Prop:=∀(q dr dw:Aj) (R W:List (Key×V)) (b:BA) (NM:List Str) (H':Hp),Same H H'→H dr=none→H dw=none→H' q=some (.tup [.ref dr,.ref dw])→B2 H' dr dw R W b→BOk NM b→NM.length=5→(∀n∈NM,n.length≤12)→Q (.ref q) H'
def qq3 (K:Aa):Sp:=λvs H Q _=>∃(a:Aj) (ns:List Int) (i:Int),vs=[.ref a,.int i]∧SqL K H a (ns.map V.int)∧0≤i∧StandK H Q
include T in
theorem qj3 (F:Fun K "_law_stand" "_law_stand" zbp f fd)(zf0:Cal P w K mg base "_law_names" 3 (Z0 K))(zaa:Cal P w K mg base "_law_pick" 2 (v8 K))(zf1:Cal P w K mg base "_law_heights" 4 (Qp K))(zf2:Cal P w K mg base "_law_spot" 3 (qqv K))(zf3:Cal P w K mg base "_law_low" 2 qyx):FK P w K mg base 5 f fd ["_law_script","_law_at"] (qq3 K):=by
 have sc:=Yw
 refine F.okX sc (λvs H Q E h=>by obtain ⟨_,_,_,rfl,_⟩:=h;rfl) λ_ _ _ _ H vs Q E hr h=>?_
 obtain ⟨a,ns,i,rfl,hS,i0,k⟩:=h
 have big:(1000000:Nat)<sizeLine:=by decide
 have sm:∀z:Int,-(2 ^ 64)≤z→z≤2 ^ 64→Sm 65 z:=λz z1 z2=>Sm.small z1 z2 ⋯
 refine ⟨_,(qc (wf (i:=2) (wCA zf0 (wx (pv 0) (wx (pv 1) qk))))
   (qc (wf (i:=3) jk)
   (qc (wf (i:=4) jk)
   (qc (k4 aQ rfl (zw rfl T.range_ (w8 qd qk)) (wt (i:=5)) (wq (xm (w4 Q3 (wCA zaa (wx (pv 0) (xu (wy wn (pv 1) qd) (wx (pv 5) (w8 qd qk))))) qd (w9 _)) (wq (qqg (kf hr) (pv 3) (vc k7 (pv 2) (pv 5) (λ_ _=>rfl)) (wCA zf1 (wx (pv 0) (xu (wy wn (wy wn (pv 1) qd) (pv 5)) (yh (vc k7 (yw (w8 qd (w8 qd qk))) (wCA zaa (wx (pv 0) (xu (wy wn (pv 1) qd) (xu (wy wn qd (pv 5)) (w8 qd qk))))) (λ_ _=>rfl)) qk)))) rfl)) w6)))
   (qc (wf (i:=6) (wg (jx) rfl T.sorted_ bE (k6 (x6 (jn rfl) rfl T.list_ bg (wx (pv 3) qk)) qk)))
   (qc (k4 aQ rfl (zw rfl T.range_ (w8 qd qk)) (wt (i:=5)) (wq (xm (PW.pt (pw_and (w4 Q2 (wg xc rfl T.len_ aW (wx (pv 6) qk)) qd (w9 _)) (wq3 (w4 Q3 (wCA zaa (wx (pv 0) (xu (wy wn (pv 1) qd) (xu (wy wn qd (pv 5)) (w8 qd qk))))) qd (w9 _))))) (qc (wf (i:=7) (vc k7 (pv 6) (wCA zaa (wx (pv 0) (xu (wy wn (pv 1) qd) (xu (wy wn qd (pv 5)) (k6 (wg xc rfl T.len_ aW (wx (pv 6) qk)) qk))))) (λ_ _=>rfl)))
   (qc (wf (i:=8) (wy Qr (wg xc rfl T.len_ aW (yh (jm (kf hr) (pv 3) (pv 7) (λ_ _=>rfl)) qk)) qd))
   (qc (wf (i:=9) (wCA zf2 (wx (pv 0) (xu (wy wn (wy wn (pv 1) qd) (pv 5)) (wx (pv 8) (yh (vc k7 (yw (w8 qd (w8 qd qk))) (x6 qkb rfl T.int_ PyProof.Rows.boot_int (xq (yx Q2 (pv 8) qd (w9 _)) qk)) (λ_ _=>rfl)) qk))))))
   (qc (yq (wCA zf3 (yh (vc yt (pv 9) qd (λ_ _=>rfl)) (yh (vc yt (pv 9) qd (λ_ _=>rfl)) qk))) (jw rfl (xz (wt (i:=10)) (xz (wt (i:=11)) vw))))
   (wq (qqg (kf hr) (pv 4) (vc k7 (pv 2) (pv 5) (λ_ _=>rfl)) (jz (wx (pv 7) (wx (pv 10) (wx (pv 11) qk)))) rfl)))))) w6)))
   (wq (wp (jz (wx (pv 3) (wx (pv 4) qk))))))))))),?_⟩
 refine exI rfl (exI rfl ⟨a,ns,i,rfl,hS,i0,λl L H1 s1 nl f1 lL hL nd=>?_⟩)
 refine λdr nr=>?_
 refine λdw nw=>?_
 have rw':dr≠dw:=λq=>by rw [←q,qj] at nw;cases nw
 have hN:∀(j:Nat) (hj:j<L.length),zk (zu L[j])=true∧zu L[j]∈L.map zu:=λj hj=>by
  obtain ⟨c1,c2,c3⟩:=hL _ (bz hj)
  exact ⟨qun c1 c2 c3,aA.mpr ⟨_,bz hj,rfl⟩⟩
 have nr0:=s1.free nr
 have nw0:H dw=none:=(s1.trans (Same.upd nr)).free nw
 have s3:=(s1.trans (Same.upd (o:=.dK []) nr)).trans (Same.upd (o:=.dK []) nw)
 have ndl:dr≠l:=λq=>by rw [q,f1] at nr;cases nr
 have nwl:dw≠l:=λq=>by rw [q,q9 ndl.symm,f1] at nw;cases nw
 have b0:B2 (upd (upd H1 dr (.dK [])) dw (.dK [])) dr dw [] [] AH.nil.bk:=⟨by rw [q9 rw'];exact qj,qj,rw',aV,aV,(λm v e=>nomatch e),(λm v e=>nomatch e),(λn=>rfl),(λn=>rfl)⟩
 refine ⟨_,rfl,⋯,⋯,vh (n:=(5:Int).toNat) (λj σ H2=>∃(R:List (Key×V)) (b:BA) (z:Option V),Same H H2∧B2 H2 dr dw R [] b∧BOk (L.map zu) b∧(∀n,b.ws n=none)∧H2 l=some (.lst (L.map λcs=>V.str (zu cs)))∧σ=[some (.ref a),some (.int i),some (.ref l),some (.ref dr),some (.ref dw),z,none,none,none,none,none,none])
  ⟨[],_,_,s3,b0,BOk.nil,(λ_=>rfl),by rw [q9 nwl.symm,q9 ndl.symm];exact f1,rfl⟩ ?_ ?_⟩
 ·rintro j σ H2 hj ⟨R,b,z,s2,hb,bo,hw,f2,rfl⟩
  have hj:j<5:=hj
  refine exI rfl (exI rfl (wc rfl rfl (exI rfl ⟨a,ns,_,_,_,rfl,s2.sql hS,⋯,⋯,⋯,⋯,λr _ l0 u0=>?_⟩)))
  refine wc rfl rfl (exI rfl (jy (λe=>?_) λe=>⟨R,b,_,s2,hb,bo,hw,f2,rfl⟩))
  refine exI rfl (exI rfl (wc rfl rfl (exI rfl (wc rfl rfl ⟨sz2,λp np=>?_⟩))))
  have s4:=s2.trans (Same.upd (o:=.lst [.int 4,.int 24]) np)
  refine exI rfl (exI rfl (wc rfl rfl (exI rfl (wc rfl rfl ⟨a,ns,_,_,_,rfl,s4.sql hS,⋯,⋯,⋯,⋯,λr' _ l1 u1=>?_⟩))))
  refine ⟨p,_,_,_,rfl,rfl,SqL.of qj,at_two 4 24 l1 u1,a,ns,_,_,rfl,s4.sql hS,⋯,(by split <;> lia),(by split <;> lia),λq hs wd nq h1 h2 iw=>?_⟩
  have lo:xv hs:=qjb iw h1 (by split at h2 <;> lia)
  have s5:=s4.trans (Same.upd (o:=.lst (hs.map V.int)) nq)
  have sb:=(Same.upd (H:=H2) (o:=.lst [.int 4,.int 24]) np).trans (Same.upd (o:=.lst (hs.map V.int)) nq)
  have hb5:=hb.same sb
  have f5:=sb _ _ f2
  have hj':j<L.length:=by lia
  have lens:=hb5.bp.lens bo
  have ll:(L.map zu).length=5:=by rw [aa];exact lL
  refine exI rfl (exI rfl (exI rfl ⟨l,_,_,_,rfl,rfl,SqL.of f5,qz4 hj',dr,exI rfl ⟨DPut.k (k:=.inr (zu L[j])) hb5.r ⋯,?_⟩⟩))
  refine ⟨_,b.putR (zu L[j]) hs,_,Same.upd2 s5 nr0,hb5.setR (hb5.bp.putR lo qj),bo.putR lo (hN j hj').1 (hN j hj').2 (λm w e'=>by rw [hw m] at e';cases e'),hw,by rw [q9 ndl.symm];exact f5,rfl⟩
 ·rintro σ H2 ⟨R,b,z,s2,hb,bo,hw,f2,rfl⟩
  obtain ⟨eR,nR⟩:=vk hb.bp.nR hb.bp.fR
  have lens:=hb.bp.lens bo
  have ll:(L.map zu).length=5:=by rw [aa];exact lL
  refine exI rfl ⟨_,_,_,rfl,.inl hb.r,eR,λl0 n0=>?_⟩
  refine ⟨_,_,rfl,SqL.of qj,by rw [aa];lia,λkn ms n1 p1 w1=>?_⟩
  have lm:ms.length≤5:=by rw [p1.length_eq,aa];lia
  have hm:∀n∈ms,∃hs,b.rs n=some hs:=λn hn=>by
   refine ar.mp ?_
   rw [←hb.bp.in_r]
   exact (zr hb.bp.nR hb.bp.fR n).mp (p1.mem_iff.mp hn)
  have sk:=(Same.upd (H:=H2) (o:=.lst ((R.map ku).map V.str)) n0).trans (Same.upd (o:=.lst (ms.map V.str)) n1)
  have nkw:dw≠kn:=λq=>by rw [←q,Same.upd n0 _ _ hb.w] at n1;cases n1
  refine ⟨_,rfl,⋯,⋯,vh (n:=(5:Int).toNat) (λj σ H2=>∃(W:List (Key×V)) (b':BA) (z1 z2 z3 z4 z5 z6:Option V),Same H H2∧B2 H2 dr dw R W b'∧BOk (L.map zu) b'∧b'.rs=b.rs∧H2 l=some (.lst (L.map λcs=>V.str (zu cs)))∧H2 kn=some (.lst (ms.map V.str))∧σ=[some (.ref a),some (.int i),some (.ref l),some (.ref dr),some (.ref dw),z1,some (.ref kn),z2,z3,z4,z5,z6])
   ⟨[],b,_,_,_,_,_,_,s2.trans sk,hb.same sk,bo,rfl,sk _ _ f2,qj,rfl⟩ ?_ ?_⟩
  ·rintro j σ H3 hj ⟨W,b',z1,z2,z3,z4,z5,z6,s4,hb',bo',er',f3,fk,rfl⟩
   have hj:j<5:=hj
   refine exI rfl ⟨kn,exI rfl ⟨.inl (SqL.of fk),wc rfl rfl (exI rfl (jy (λe1=>?_) λ_=>Z8 ⟨W,b',_,_,_,_,_,_,s4,hb',bo',er',f3,fk,rfl⟩))⟩⟩
   rw [aa] at e1
   refine exI rfl (exI rfl (wc rfl rfl (exI rfl (wc rfl rfl ⟨a,ns,_,_,_,rfl,s4.sql hS,⋯,⋯,⋯,⋯,λr _ l0 u0=>?_⟩))))
   refine wc rfl rfl (exI rfl (jy (λe=>?_) λe=>⟨W,b',_,_,_,_,_,_,s4,hb',bo',er',f3,fk,rfl⟩))
   refine exI rfl (exI rfl (exI rfl (wc rfl rfl (exI rfl (wc rfl rfl (exI rfl ⟨kn,exI rfl ⟨.inl (SqL.of fk),a,ns,_,_,_,rfl,s4.sql hS,⋯,⋯,⋯,(by rw [aa];lia),λr1 _ l1 u1=>?_⟩⟩))))))
   rw [aa] at u1
   have hr1:r1.toNat<ms.length:=by lia
   have at1:atI (ms.map V.str) r1=some (.str ms[r1.toNat]):=by
    have:=Jh (xs:=ms.map V.str) (j:=r1.toNat) (v:=.str ms[r1.toNat]) (by rw [aI,al hr1];rfl)
    rwa [cN l1] at this
   obtain ⟨hs,eh⟩:=hm _ (bz hr1)
   rw [←er'] at eh
   generalize ms[r1.toNat]=wh at at1 eh
   obtain ⟨lo,p,ep,fp⟩:=hb'.bp.row eh
   have dg:DGet H3 dr (.str wh) (wj R (.inr wh)):=DGet.k (k:=.inr wh) hb'.r
   rw [ep] at dg
   have hl:=lo.1
   have hl2:=lo.2.1
   refine ⟨kn,_,_,_,rfl,rfl,SqL.of fk,at1,?_⟩
   refine exI rfl (exI rfl ⟨dr,exI rfl ⟨dg,p,exI rfl ⟨.inl (SqL.of fp),wc rfl rfl ?_⟩⟩⟩)
   rw [aa]
   obtain ⟨mo,emo,m1,m2⟩:∃mo:Int,(if (12:Int)<(hs.length:Int)-1 then (12:Int) else 40)=mo∧12≤mo∧mo≤40:=⟨_,rfl,by split <;> lia,by split <;> lia⟩
   refine exI rfl (exI rfl (wc rfl rfl (exI rfl (wc rfl rfl (exI rfl ⟨sz2,λp2 np2=>?_⟩)))))
   have s5:=s4.trans (Same.upd (o:=.lst [.int 40,.int 12]) np2)
   refine exI rfl (wc rfl rfl (.inr ((exI rfl ⟨p2,_,_,_,rfl,rfl,SqL.of qj,at_int 40 12,a,ns,_,_,_,rfl,s5.sql hS,⋯,⋯,⋯,(by rw [emo];lia),(by rw [emo];lia),λq t bb c nq b1 b2 c1 c2 t0 t1=>?_⟩))))
   rw [emo] at b2
   have hbc1:1*1≤bb*c:=dR b1 c1 ⋯ ⋯
   have hbc2:bb*c≤40*3:=dR ⋯ c2 ⋯ ⋯
   refine exI rfl ⟨q,_,_,_,rfl,rfl,SqT.of qj,rfl,exI rfl ⟨q,_,_,_,rfl,rfl,SqT.of qj,rfl,_,_,rfl,⋯,Sm.small ⋯ ⋯ ⋯,λu nu=>?_⟩⟩
   refine ⟨u,exI rfl ⟨SqT.of qj,rfl,_,_,rfl,_,_,rfl,rfl,?_⟩⟩
   refine exI rfl (exI rfl (exI rfl ⟨(show 3≤sizeLine by decide),λv nv=>?_⟩))
   have sv:=(((Same.upd (H:=H3) (o:=.lst [.int 40,.int 12]) np2).trans (Same.upd (o:=.tup [.int (t*c),.int (bb*c)]) nq)).trans (Same.upd (o:=.tup (ptV (wm (t*c) (bb*c)))) nu)).trans (Same.upd (o:=.tup [.str wh,.int (wm (t*c) (bb*c)).1,.int (wm (t*c) (bb*c)).2]) nv)
   have hbv:=hb'.same sv
   have hj':j<L.length:=by lia
   have lens':=hbv.bp.lens bo'
   refine exI rfl (exI rfl (exI rfl ⟨l,_,_,_,rfl,rfl,SqL.of (sv _ _ f3),qz4 hj',dw,exI rfl ⟨DPut.k (k:=.inr (zu L[j])) hbv.w ⋯,?_⟩⟩))
   refine ⟨_,b'.putW (zu L[j]) (wh,wm (t*c) (bb*c)),_,_,_,_,_,_,Same.upd2 (s4.trans sv) nw0,hbv.setW (hbv.bp.putW (v:=(wh,wm (t*c) (bb*c))) qj),bo'.putW (hN j hj').1 (hN j hj').2 eh (qj5 lo rfl b1 b2 m2 c1 t0 t1),er',by rw [q9 nwl.symm];exact sv _ _ f3,by rw [q9 nkw.symm];exact sv _ _ fk,rfl⟩
  ·rintro σ H3 ⟨W,b',z1,z2,z3,z4,z5,z6,s4,hb',bo',er',f3,fk,rfl⟩
   refine exI rfl (exI rfl ⟨sz2,λq nq=>?_⟩)
   exact k q dr dw R W b' _ _ (s4.trans (Same.upd nq)) nr0 nw0 qj (hb'.same (Same.upd nq)) bo' ll (λn hn=>by
    obtain ⟨cs,hc,rfl⟩:=aA.mp hn
    rw [vm]
    exact (hL cs hc).2.2)
theorem VH.frame {CR:Aj}(v:VH C CR CW H o as){ch:List Aj}(k:Kb ch H H')(dl:Dl H ch)(n:o.x∉ch∧o.dr∉ch∧o.dw∉ch∧o.dd∉ch)(rd:∀q∈ch,q∈Qv o.ds→∀kv,Rd H q (.dK kv)→Rd H' q (.dK kv)):VH C CR CW H' o as:=⟨v.h.frame k dl n rd,Hist.dl dl k v.t⟩
structure New (H:Hp)(o:Ho):Prop where
 x:H o.x=none
 r:H o.dr=none
 w:H o.dw=none
 d:H o.dd=none
variable {H1:Hp}
theorem New.nxt {o':Ho}(h:New H o)(n:Nxt H1 o o'):New H o':=⟨by rw [n.x];exact h.x,by rw [n.dr];exact h.r,by rw [n.dw];exact h.w,by rw [n.dd];exact h.d⟩
theorem New.kb {H2:Hp}(h:New H o)(k:Kb ch H H1)(k2:Kb [o.dr,o.dw,o.dd] H1 H2):Kb ch H H2:=λx u nx e=>k2 _ _ (λz=>by
 simp only [ak,am,bH] at z
 rcases z with z|z|z
 ·rw [z,h.r] at e;cases e
 ·rw [z,h.w] at e;cases e
 ·rw [z,h.d] at e;cases e) (k x u nx e)
theorem BA.same {c:BA}(h1:∀n,b.rs n=c.rs n)(h2:∀n,b.ws n=c.ws n):b=c:=by
 obtain ⟨r,w⟩:=b
 obtain ⟨r',w'⟩:=c
 have e1:r=r':=funext h1
 have e2:w=w':=funext h2
 rw [e1,e2]
theorem qws {ks:List Str}{i:Nat}(nd:ks.Nodup)(e:ks.take (i+1)=ks.take i++[n]):n∉ks.take i:=λh=>by
 have:=(di (i+1) ks).nodup nd
 rw [e] at this
 exact (List.nodup_append.mp this).2.2 n h n (ao.mpr rfl) rfl
theorem qxj {d:Aj}{u:HO}(k:Kb [d] H H1)(e:H x=some u)(h:x≠d):H1 x=some u:=k x u (λz=>h (ao.mp z)) e
theorem sql_kb {d a:Aj}{xs:List V}(k:Kb [d] H H1)(e:H d=some (.dK R))(h:SqL K H a xs):SqL K H1 a xs:=by
 rcases h with h|h
 ·refine Kb.sql k (.inl h) (.inr λz=>?_)
  rw [ao.mp z] at h
  rcases h with h|⟨o,h⟩ <;> rw [e] at h <;> cases h
 ·exact .inr h
def wqw (K:Aa)(C CR CW:Aj):Sp:=λvs H Q _=>∃(a:Aj) (ns:List Int) (i:Int) (dr dw:Aj) (R W:List (Key×V)) (b:BA) (NM:List Str),vs=[.ref a,.int i,.ref dr,.ref dw]∧SqL K H a (ns.map V.int)∧0≤i∧B2 H dr dw R W b∧BOk NM b∧NM.length<60∧(∀n∈NM,n.length≤100) ∧
 ∀H' o1 (o:Ho) (a:AH) (as:List AH),H' dr=some (.frz o1 (.dK R))→Kb [dr] H H'→VH C CR CW H' o (a::as)→New H o→a.bk=b→o.ds.length=R.length+W.length→Q (.ref o.x) H'
include T in
theorem qjm (F:Fun K "_law_laid_house" "_law_laid_house" zag f fd)(zb2:CCal P w K mg base "House" qq 1 (Wy qq))(zap:MCal P w K mg base qq "lay" 4 (Y3 K qq qg qb wz qh))(zaa:Cal P w K mg base "_law_pick" 2 (v8 K))(zb3:MCal P w K mg base qq "place" 5 (uz K qq qg qz qb wz qt qx qp)) :
  FK P w K mg base 6 f fd ["_law_script","_law_at","_law_roads","_law_walkers"] (wqw K qq qg qz):=by
 have sc:=y6
 refine F.okX sc (λvs H Q E h=>by obtain ⟨_,_,_,_,_,_,_,_,_,rfl,_⟩:=h;rfl) λ_ _ _ _ H vs Q E hr h=>?_
 obtain ⟨a,ns,i9,dr,dw,R,W,b,NM,rfl,hS,i0,hb,bo,lN,nl,k⟩:=h
 obtain ⟨eR,nR⟩:=vk hb.bp.nR hb.bp.fR
 obtain ⟨eW,nW⟩:=vk hb.bp.nW hb.bp.fW
 have lens:=hb.bp.lens bo
 have big:(1000000:Nat)<sizeLine:=by decide
 refine ⟨_,(qc (wf (i:=4) (qv8 zb2 (hr.mono ⋯) rfl qr))
   (qc (k4 aQ rfl (pi_dk (pv 2)) (wt (i:=5)) (wq (zq (zc (pv 4) T.clH zap (hr.mono ⋯) qr (wx (pv 5) (k6 (x6 jr rfl T.list_ bg (yh (jm (kf hr) (pv 2) (pv 5) (λ_ _=>rfl)) qk)) qk))))))
   (qc (wf (i:=6) (x6 (jn rfl) rfl T.list_ bg (wx (pv 3) qk)))
   (ux (xm (w4 vb (wCA zaa (wx (pv 0) (wx (pv 1) (w8 qd (w8 qd qk))))) qd (w9 _)) (wq (wf (i:=6) (pe_rev (pv 6) (pe_un qj6 qd)))) w6)
   (qc (k4 aQ rfl (jp (pv 6)) (wt (i:=5)) (qc (yq (jm (kf hr) (pv 3) (pv 5) (λ_ _=>rfl)) (jw rfl (xz (wt (i:=7)) (xz (wt (i:=8)) (xz (wt (i:=9)) vw)))))
   (wq (zq (zc (pv 4) T.clH zb3 (hr.mono ⋯) qr (wx (pv 5) (wx (pv 7) (pa_cT (jz (xu (wy xb (pv 8) qd) (xu (wy xb (pv 9) qd) qk))) qk))))))))
   (wq (wp (pv 4)))))))),?_⟩
 refine λx d9 nx nd9 ne9=>⟨x,d9,rfl,qj,λH4 hr' hw' hd' n1' n2' n3' hse kb1=>⟨rfl,?_⟩⟩
 have s4:Same H H4:=λz o e=>kb1 z o (λy=>by rw [ao.mp y,nx] at e;cases e) (by rw [q9 (qm e nx),q9 (qm e nd9)];exact e)
 have fresh:∀ {b},upd (upd H d9 (HO.own x)) x (HO.ins qq d9 []) b=none→H b=none:=λ{b} m=>by
  cases e:H b with
  |none=>rfl
  |some o=>rw [q9 (qm e nx),q9 (qm e nd9),e] at m;cases m
 have v4:VH qq qg qz H4 ⟨x,hr',hw',hd',[],[],[]⟩ [AH.nil]:=VH.nil hse
 have nw4:New H ⟨x,hr',hw',hd',[],[],[]⟩:=⟨nx,fresh n1',fresh n2',fresh n3'⟩
 refine exI rfl ⟨dr,R,rfl,.inl (s4 _ _ hb.r),λo1 H7 fz7=>?_⟩
 have kb7:Kb [dr] H4 H7:=λy u ny e=>by rw [fz7.2 y (by simpa using ny)];exact e
 have kh7:Kb [dr] H H7:=λy u ny e=>kb7 _ _ ny (s4 _ _ e)
 have out:∀ {o:Ho},New H o→dr∉[o.dr,o.dw,o.dd]:=λ{o} h z=>by
  simp only [ak,am,bH] at z
  have:=hb.r
  rcases z with z|z|z
  ·rw [z,h.r] at this;cases this
  ·rw [z,h.w] at this;cases this
  ·rw [z,h.d] at this;cases this
 have nxd:x≠dr:=λz=>by rw [z,hb.r] at nx;cases nx
 have v7:VH qq qg qz H7 ⟨x,hr',hw',hd',[],[],[]⟩ [AH.nil]:=v4.frame kb7 (.cons (.inl ⟨_,.inl (s4 _ _ hb.r)⟩) .nil) (by
  have:=out nw4
  simp only [ak,am,bH,not_or] at this
  exact ⟨by simpa using nxd,by simpa using aN this.1,by simpa using aN this.2.1,by simpa using aN this.2.2⟩) (λq _ hq=>nomatch hq)
 refine for_dk (λi σ Hx=>∃(o:Ho) (a':AH) (as:List AH) (z:Option V),VH qq qg qz Hx o (a'::as)∧New H o∧o.ds.length=i∧Hx dr=some (.frz o1 (.dK R))∧Kb [dr] H Hx∧(∀n,a'.rs n=if n∈(R.map ku).take i then b.rs n else none)∧(∀n,a'.ws n=none)∧σ=[some (.ref a),some (.int i9),some (.ref dr),some (.ref dw),some (.ref o.x),z,none,none,none,none])
  ⟨_,_,_,_,v7,nw4,rfl,fz7.1,kh7,(λn=>rfl),(λn=>rfl),rfl⟩ (λi σ Hx _ h=>by obtain ⟨_,_,_,_,_,_,_,h,_⟩:=h;exact h) ?_ ?_
 ·rintro j c σ Hx hc ⟨o,a',as,z,v,nw,ld,fz,kb,hrs,hws,rfl⟩
  have hk:(R.map ku)[j]?=some (ku c):=by rw [aI,hc];rfl
  have hkc:c.1=.inr (ku c):=by
   have:=bF (λl=>l[j]?) eR
   simp only [aI,hc] at this
   simpa using this
  generalize ku c=n at hk hkc
  have ht:(R.map ku).take (j+1)=(R.map ku).take j++[n]:=by rw [cB,hk];rfl
  have hin:(b.rs n).isSome=true:=by
   rw [←hb.bp.in_r]
   exact (zr hb.bp.nR hb.bp.fR n).mp (bt hk)
  obtain ⟨hs,eh⟩:=ar.mp hin
  obtain ⟨lo,p,ep,fp⟩:=hb.bp.row eh
  have fp':Hx p=some (.lst (hs.map V.int)):=qxj kb fp (λq=>by rw [q,hb.r] at fp;cases fp)
  have dg:DGet Hx dr (.str n) (wj R (.inr n)):=.inl ⟨R,.inr n,.inr ⟨o1,fz⟩,rfl,rfl⟩
  rw [ep] at dg
  obtain ⟨lo',nn,hN⟩:=bo.lo n hs eh
  obtain ⟨dx,hx⟩:=v.h.hs.ob
  have ljR:j<R.length:=(aL.mp hc).1
  rw [hkc]
  refine exI rfl ⟨o.x,dx,exI rfl ⟨hx,zv,exI rfl (exI rfl (exI rfl ⟨dr,exI rfl ⟨dg,p,exI rfl ⟨.inl (SqL.of fp'),λl nl'=>?_⟩⟩⟩))⟩⟩
  have nm1:∀m,(a'.rs m).isSome=true→m∈NM:=λm e=>by
   rw [hrs m] at e
   by_cases q:m∈(R.map ku).take j
   ·rw [aj q] at e
    obtain ⟨hs',e'⟩:=ar.mp e
    exact (bo.lo m hs' e').2.2
   ·rw [ag q] at e;cases e
  have nm:Nam NM a':=⟨nm1,(λm e=>by rw [hws m] at e;cases e)⟩
  dsimp only [zh,Q8,tC]
  refine VH.lays (v.same (Same.upd nl')) nm ⋯ ⋯ nn (by have:=nl n hN;lia) (by rw [hrs n,ag (qws nR ht)]) qj lo λH' o' nx' v' kb'=>?_
  have kbl:Kb [dr] H (upd Hx l (.lst (hs.map V.int))):=λy u ny e=>Same.upd nl' _ _ (kb y u ny e)
  obtain ⟨d,ed,_⟩:=nx'.ds
  refine ⟨o',_,_,_,v',nw.nxt nx',by rw [ed,aw,ld],kb' _ _ (out nw) (Same.upd nl' _ _ fz),nw.kb kbl kb',λm=>?_,hws,by rw [nx'.x];rfl⟩
  show (if m=n then some hs else a'.rs m)=_
  rw [ht]
  by_cases q:m=n
  ·rw [aj q,aj (by rw [q];simp),q,eh]
  ·rw [ag q,hrs m]
   by_cases y:m∈(R.map ku).take j
   ·rw [aj y,aj (bM _ y)]
   ·rw [ag y,ag (λw'=>by rcases bq.mp w' with w'|w';exact y w';exact q (ao.mp w'))]
 ·rintro σ Hx ⟨o,a',as,z,v,nw,ld,fz,kb,hrs,hws,rfl⟩
  have ndw:dw≠dr:=hb.ne.symm
  have fw:Hx dw=some (.dK W):=qxj kb hb.w ndw
  have hrs':∀n,a'.rs n=b.rs n:=λn=>by
   rw [hrs n,←aa (f:=ku),bA]
   by_cases q:n∈R.map ku
   ·rw [aj q]
   ·rw [ag q]
    have q':¬ (b.rs n).isSome=true:=λy=>q ((zr hb.bp.nR hb.bp.fR n).mpr (by rw [hb.bp.in_r];exact y))
    cases e:b.rs n with
    |none=>rfl
    |some hs=>rw [e] at q';exact absurd rfl q'
  have hkW:∀n∈W.map ku,∃u,b.ws n=some u:=λn hn=>by
   refine ar.mp ?_
   rw [←hb.bp.in_w]
   exact (zr hb.bp.nW hb.bp.fW n).mp hn
  refine exI rfl ⟨_,_,_,rfl,.inl fw,eW,λl1 nl1=>?_⟩
  refine ⟨λσ H'=>∃(l2:Aj) (od:List Str),od.Perm (W.map ku)∧Same Hx H'∧H' l2=some (.lst (od.map V.str))∧Hx l2=none∧σ=[some (.ref a),some (.int i9),some (.ref dr),some (.ref dw),some (.ref o.x),z,some (.ref l2),none,none,none],?_,?_⟩
  ·refine exI rfl (exI rfl ⟨a,ns,_,_,_,rfl,(Same.upd nl1).sql (sql_kb kb hb.r hS),i0,⋯,⋯,⋯,λr _ r0 r1=>?_⟩)
   refine ⟨rfl,_,rfl,jj (λe=>?_) λe=>⟨l1,_,List.Perm.refl _,Same.upd nl1,qj,nl1,rfl⟩⟩
   refine exI rfl (exI rfl ⟨rfl,l1,exI rfl ⟨SqL.of qj,λl2 nl2=>?_⟩⟩)
   exact ⟨l2,(W.map ku).reverse,List.reverse_perm _,(Same.upd nl1).trans (Same.upd nl2),by rw [List.map_reverse];exact qj,(Same.upd nl1).free nl2,rfl⟩
  rintro σ H8 ⟨l2,od,pm,s8,f8,nl2,rfl⟩
  have ndO:od.Nodup:=pm.nodup_iff.mpr nW
  have lO:od.length=W.length:=by rw [pm.length_eq,aa]
  have kb8:Kb [dr] H H8:=λy u ny e=>s8 _ _ (kb y u ny e)
  have fresh2:H l2=none:=by
   cases e:H l2 with
   |none=>rfl
   |some u =>
    by_cases q:l2=dr
    ·rw [q,fz] at nl2;cases nl2
    ·rw [qxj kb e q] at nl2;cases nl2
  refine ⟨_,rfl,l2,rfl,⟨_,SqL.of f8⟩,Zj (xs:=od.map V.str) (λj σ Hy=>∃(o:Ho) (a':AH) (as:List AH) (z z1 z2 z3:Option V),VH qq qg qz Hy o (a'::as)∧New H o∧o.ds.length=R.length+j∧Hy dr=some (.frz o1 (.dK R))∧Kb [dr] H Hy∧Hy l2=some (.lst (od.map V.str))∧l2∉[o.dr,o.dw,o.dd]∧(∀n,a'.rs n=b.rs n)∧(∀n,a'.bk.ws n=if n∈od.take j then b.ws n else none)∧σ=[some (.ref a),some (.int i9),some (.ref dr),some (.ref dw),some (.ref o.x),z,some (.ref l2),z1,z2,z3])
   ⟨o,a',as,_,_,_,_,v.same s8,nw,by rw [ld];rfl,s8 _ _ fz,kb8,f8,?_,hrs',(λn=>by show (a'.ws n).map _=_;rw [hws n];rfl),rfl⟩ (λj σ Hy _ h=>by obtain ⟨_,_,_,_,_,_,_,_,_,_,_,_,h,_⟩:=h;exact SqL.of h) ?_ ?_⟩
  ·intro y
   simp only [ak,am,bH] at y
   rcases y with y|y|y <;> rw [y] at nl2
   ·rw [v.h.hs.r] at nl2;cases nl2
   ·rw [v.h.hs.w] at nl2;cases nl2
   ·rw [v.h.hs.d] at nl2;cases nl2
  ·rintro j y σ Hy hy ⟨o',a'',as',z',z1,z2,z3,v',nw',ld',fz',kb',f2',out2,hr2,hw2,rfl⟩
   obtain ⟨n,rfl,hn,ht⟩:=W8 hy
   obtain ⟨u,eu⟩:=hkW n (pm.mem_iff.mp hn)
   obtain ⟨q,eq,fq⟩:=hb.bp.wlk eu
   obtain ⟨nn,hN,hs,er,hp⟩:=bo.wo n u eu
   have rg:=hp.rng
   have fq':Hy q=some (.tup [.str u.1,.int u.2.1,.int u.2.2]):=qxj kb' fq (λy=>by rw [y,hb.r] at fq;cases fq)
   have dg:DGet Hy dw (.str n) (wj W (.inr n)):=DGet.k (k:=.inr n) (qxj kb' hb.w ndw)
   rw [eq] at dg
   have ljW:j<od.length:=by
    have:=(aL.mp hy).1
    rwa [aa] at this
   obtain ⟨dx,hx⟩:=v'.h.hs.ob
   have nm:Nam NM a'':=⟨(λm e=>by
    rw [hr2 m] at e
    obtain ⟨hs',e'⟩:=ar.mp e
    exact (bo.lo m hs' e').2.2),(λm e=>by
    have e2:(a''.bk.ws m).isSome=true:=by show ((a''.ws m).map _).isSome=true;rw [cg];exact e
    rw [hw2 m] at e2
    by_cases y:m∈od.take j
    ·rw [aj y] at e2
     obtain ⟨u',e'⟩:=ar.mp e2
     exact (bo.wo m u' e').2.1
    ·rw [ag y] at e2;cases e2)⟩
   have en:a''.ws n=none:=by
    have:=hw2 n
    rw [ag (qws ndO ht)] at this
    have this:(a''.ws n).map (λw=>(w.wh,w.pt))=none:=this
    cases e:a''.ws n with
    |none=>rfl
    |some w=>rw [e] at this;cases this
   have elow:wm (u.2.1*2) (u.2.2*2)=u.2:=by
    rw [uv rg.2.2.1 ⋯]
    exact qvg rg.2.2.1 hp.2.1.2.2.1
   refine exI rfl (exI rfl ⟨dw,exI rfl ⟨dg,q,exI rfl ⟨SqT.of fq',rfl,_,_,rfl,_,_,rfl,_,_,rfl,rfl,?_⟩⟩⟩)
   refine exI rfl ⟨o'.x,dx,exI rfl ⟨hx,zv,exI rfl (exI rfl (exI rfl (wc rfl rfl ⟨IntMulOk.of_right (intBits_le_64 ⋯ ⋯),exI rfl (wc rfl rfl ⟨IntMulOk.of_right (intBits_le_64 ⋯ ⋯),sz2,λp np=>?_⟩)⟩)))⟩⟩
   dsimp only [zh,Q8,tC]
   refine VH.places (v'.same (Same.upd np)) nm ⋯ ⋯ nn (by have:=nl n hN;lia) en (by rw [hr2];exact er) qj ⋯ (Sm.small ⋯ ⋯ ⋯) (by rw [elow];exact hp) λH' o2 nx' v2 kb2=>?_
   rw [elow] at v2
   have kbl:Kb [dr] H (upd Hy p (.tup [.int (u.2.1*2),.int (u.2.2*2)])):=λy u ny e=>Same.upd np _ _ (kb' y u ny e)
   obtain ⟨d,ed,_⟩:=nx'.ds
   refine ⟨o2,_,_,_,_,_,_,v2,nw'.nxt nx',by rw [ed,aw,ld',Nat.add_assoc],kb2 _ _ (out nw') (Same.upd np _ _ fz'),nw'.kb kbl kb2,kb2 _ _ out2 (Same.upd np _ _ f2'),by rw [nx'.dr,nx'.dw,nx'.dd];exact out2,hr2,λm=>?_,by rw [nx'.x];rfl⟩
   show (if m=n then some _ else a''.ws m).map _=_
   rw [ht]
   by_cases y:m=n
   ·rw [aj y,aj (by rw [y];simp),y,eu]
    rfl
   ·rw [ag y]
    refine Eq.trans (hw2 m) ?_
    by_cases y':m∈od.take j
    ·rw [aj y',aj (bM _ y')]
    ·rw [ag y',ag (λw'=>by rcases bq.mp w' with w'|w';exact y' w';exact y (ao.mp w'))]
  ·rintro σ Hy ⟨o',a'',as',z',z1,z2,z3,v',nw',ld',fz',kb',f2',out2,hr2,hw2,rfl⟩
   refine exI rfl (k Hy o1 o' a'' as' fz' kb' v' nw' (BA.same hr2 λn=>?_) (by rw [ld',aa,lO]))
   rw [hw2 n,aa,bA]
   by_cases q:n∈od
   ·rw [aj q]
   ·rw [ag q]
    have q':¬ (b.ws n).isSome=true:=λy=>q (pm.mem_iff.mpr ((zr hb.bp.nW hb.bp.fW n).mpr (by rw [hb.bp.in_w];exact y)))
    cases e:b.ws n with
    |none=>rfl
    |some u=>rw [e] at q';exact absurd rfl q'
def qx8 (K:Aa)(C CR CW:Aj):Sp:=λvs H Q _=>∃(a:Aj) (ns:List Int) (i:Int) (dr dw:Aj) (R W:List (Key×V)) (b:BA) (NM:List Str),vs=[.ref a,.int i,.ref dr,.ref dw]∧SqL K H a (ns.map V.int)∧0≤i∧B2 H dr dw R W b∧BOk NM b∧NM.length<60∧(∀n∈NM,n.length≤100) ∧
 ∀H' (o:Ho) (a:AH) (as:List AH),Same H H'→VH C CR CW H' o (a::as)→New H o→a.bk=b→o.ds.length=R.length+W.length→Q (.ref o.x) H'
include T in
theorem qus (F:Fun K "_law_laid_house" "_law_laid_house" zag f fd)(zb2:CCal P w K mg base "House" qq 1 (Wy qq))(zap:MCal P w K mg base qq "lay" 4 (Y3 K qq qg qb wz qh))(zaa:Cal P w K mg base "_law_pick" 2 (v8 K))(zb3:MCal P w K mg base qq "place" 5 (uz K qq qg qz qb wz qt qx qp)) :
  FK P w K mg base 6 f fd ["_law_script","_law_at","_law_roads","_law_walkers"] (qx8 K qq qg qz):=by
 refine FnOk.imp (FnOk.thaw (qjm T F zb2 zap zaa zb3)) λvs H Q E h=>?_
 obtain ⟨a,ns,i,dr,dw,R,W,b,NM,e,hS,i0,hb,bo,lN,nl,k⟩:=h
 refine ⟨a,ns,i,dr,dw,R,W,b,NM,e,hS,i0,hb,bo,lN,nl,λH' o1 o a' as fz kb v nw eb ld=>⟨[dr],λd hd o u z=>?_,?_⟩⟩
 ·rw [ao.mp hd,hb.r] at z;cases z
 have ft:thw [dr] H' dr=some (.dK R):=qz7 (by simp) fz
 have kt:Kb [dr] H' (thw [dr] H'):=λy u ny e=>by rw [J1 ny];exact e
 have no:∀y,H y=none→y≠dr:=λy h z=>by rw [z,hb.r] at h;cases h
 have out:o.x≠dr∧o.dr≠dr∧o.dw≠dr∧o.dd≠dr:=⟨no _ nw.x,no _ nw.r,no _ nw.w,no _ nw.d⟩
 refine k _ o a' as (λy u e=>?_) (v.frame kt (.cons (.inl ⟨_,.inr ⟨o1,fz⟩⟩) .nil) ⟨by simpa using out.1,by simpa using out.2.1,by simpa using out.2.2.1,by simpa using out.2.2.2⟩ λq hq _ kv e=>?_) nw eb ld
 ·by_cases z:y=dr
  ·rw [z,hb.r] at e
   rw [z,ft]
   exact e
  ·exact kt _ _ (by simpa using z) (kb _ _ (by simpa using z) e)
 ·rw [ao.mp hq] at e ⊢
  rcases e with e|⟨o2,e⟩
  ·rw [fz] at e;cases e
  ·rw [fz] at e
   cases e
   exact .inl ft
def Yy (l:List Str):Nat:=(l.map (·.length)).sum+l.length
theorem Qf:∀l:List Str,l≠[]→(Str.join ("\n" : Str) l).length+1=Yy l
 |[],h=>absurd rfl h
 |[x],_=>by
  show x.length+1=_
  simp [Yy]
 |x::y::l,_=>by
  have ih:=Qf (y::l) (dG _ _)
  have e:("\n" : Str).length=1:=by decide +kernel
  show (x ++ "\n" ++ Str.join "\n" (y::l)).length+1=_
  rw [vq,vq,e]
  unfold Yy at ih ⊢
  simp only [aG,cu,aw] at ih ⊢
  lia
theorem qyq (l:List Str):(Str.join ("\n" : Str) l).length≤Yy l:=by
 cases l with
 |nil=>exact aC _
 |cons x l=>have:=Qf (x::l) (dG _ _);lia
theorem qk6 {l m:List Str}(h:l.Perm m):Yy l=Yy m:=by
 unfold Yy
 rw [(h.map (·.length)).sum_nat,h.length_eq]
theorem qvt {ms1 ms2 ns1 ns2:List Str}(hn:b.rs n=none)(h1:SrtN (λn=>(b.rs n).isSome) ms1)(h2:SrtN (λn=>(b.ws n).isSome) ms2)(g1:SrtN (λm=>((b.putR n hs).rs m).isSome) ns1)(g2:SrtN (λm=>((b.putR n hs).ws m).isSome) ns2):Zx (b.putR n hs) ns1 ns2≠Zx b ms1 ms2:=by
 have e2:ns2=ms2:=SrtN.uniq g2 h2
 have nn:n∉ms1:=λz=>by
  have this:(b.rs n).isSome=true:=(h1.2.1 n).mp z
  rw [hn] at this
  cases this
 have pm:ns1.Perm (n::ms1):=(List.perm_ext_iff_of_nodup g1.1 (aO.mpr ⟨nn,h1.1⟩)).mpr λm=>by
  rw [g1.2.1 m,ak,h1.2.1 m]
  show (if m=n then some hs else b.rs m).isSome=true↔_
  by_cases z:m=n
  ·rw [aj z]
   exact ⟨λ_=>.inl z,λ_=>rfl⟩
  ·rw [ag z]
   exact ⟨λy=>.inr y,λy=>y.resolve_left z⟩
 have er:ms1.map (xf (b.putR n hs))=ms1.map (xf b):=bO λm hm=>by
  unfold xf
  rw [show (b.putR n hs).rs m=b.rs m from ag λy=>nn (by rw [←y];exact hm)]
 have ew:ns2.map (x8 (b.putR n hs))=ms2.map (x8 b):=by rw [e2];rfl
 intro z
 unfold Zx at z
 rw [ew] at z
 have j1:=bh ("\n" : Str) (ns1.map (xf (b.putR n hs))++ms2.map (x8 b))
 have j2:=bh ("\n" : Str) (ms1.map (xf b)++ms2.map (x8 b))
 have z:Str.join ("\n" : Str) (ns1.map (xf (b.putR n hs))++ms2.map (x8 b))=Str.join ("\n" : Str) (ms1.map (xf b)++ms2.map (x8 b)):=j1.symm.trans (z.trans j2)
 have pr:(ns1.map (xf (b.putR n hs))++ms2.map (x8 b)).Perm (xf (b.putR n hs) n::(ms1.map (xf b)++ms2.map (x8 b))):=by
  have:=(pm.map (xf (b.putR n hs))).append_right (ms2.map (x8 b))
  rw [aG,er] at this
  exact this
 have l1:=Qf (ns1.map (xf (b.putR n hs))++ms2.map (x8 b)) (λy=>by rw [y] at pr;exact absurd pr.length_eq (by simp))
 have l2:=qyq (ms1.map (xf b)++ms2.map (x8 b))
 rw [qk6 pr,z] at l1
 have l3:Yy (xf (b.putR n hs) n::(ms1.map (xf b)++ms2.map (x8 b)))=(xf (b.putR n hs) n).length+1+Yy (ms1.map (xf b)++ms2.map (x8 b)):=by
  unfold Yy
  simp only [aG,cu,aw]
  lia
 have l4:1≤(xf (b.putR n hs) n).length:=by
  unfold xf qzm
  rw [show Txt.join " " (("road" : Str)::n::_)=Str.join " " (("road" : Str)::n::_) from bh _ _]
  show 1≤("road" ++ " " ++ Str.join " " (n::_)).length
  rw [vq,vq,Zn]
  lia
 lia
theorem wqv:zk ("zzzzzzzzzzzz" : Str)=true:=by decide +kernel
include T in
theorem zf4 (F:Fun K "law" "law" zbx f fd)(zf5:Cal P w K mg base "_law_stand" 5 (qq3 K))(zf6:Cal P w K mg base "_law_laid_house" 6 (qx8 K qq qg qz))(zf7:Cal P w K mg base "_law_text" 1 qqk)(zb4:Cal P w K mg base "house_text" 4 (qx0 qq qg qz))(zaa:Cal P w K mg base "_law_pick" 2 (v8 K))(zap:MCal P w K mg base qq "lay" 4 (Y3 K qq qg qb wz qh))(zf8:MCal P w K mg base qq "take_back" 2 (W1 qq qw))(zf9:MCal P w K mg base qq "deeds" 1 (Js qq)) :
  FK P w K mg base 7 f fd ["_law_script"] (qz9 K):=by
 have sc:=ze2
 refine F.okX sc (λvs H Q E h=>by obtain ⟨_,_,rfl,_⟩:=h;rfl) λ_ _ _ _ H vs Q E hr h=>?_
 obtain ⟨a,ns,rfl,hS,hl,k⟩:=h
 refine ⟨_,(qc (yq (wCA zf5 (wx (pv 0) (w8 qd qk))) (jw rfl (xz (wt (i:=1)) (xz (wt (i:=2)) vw))))
   (qc (wf (i:=3) (wCA zf6 (wx (pv 0) (w8 qd (wx (pv 1) (wx (pv 2) qk))))))
   (qc (wf (i:=4) (wCA zf7 (wx (pv 1) (wx (pv 2) qk))))
   (qc (wf (i:=5) (wCA zb4 (wx (pv 3) qk)))
   (qc (xm (PW.pt (qwd (qzb (qzr (wg qwn rfl T.isinstance_ PyProof.Rows.boot_isinstance (wx (pv 5) (wx (wqq (v:=V.ty "str") rfl T.str_ bJ rfl) qk))))) (Zs (w4 op_ne (pv 5) (pv 4) (w9 _))))) (wq (wp qvx)) w6)
   (ux (xm (w4 vb (wCA zaa (wx (pv 0) (w8 qd (w8 qd (w8 qd qk))))) qd (w9 _)) (qc (wf (i:=6) xn)
   (wq (xm (qqf (Qc (kf hr) (pv 6) (pv 1))) (qc (zq (zc (pv 3) T.clH zap (hr.mono ⋯) qr (wx (pv 6) (pa_cL (yw (w8 qd (w8 qd qk))) qk))))
   (qc (xm (w4 vb (wCA zb4 (wx (pv 3) qk)) (pv 4) (w9 _)) (wq (wp qvx)) w6)
   (wq (zq (jv (pv 3) T.clH zf8 (hr.mono ⋯) qr))))) w6))) w6)
   (wq (wp (quk (yx vb (wCA zb4 (wx (pv 3) qk)) (pv 4) (w9 _)) (qjn (yx vb (jv (pv 3) T.clH zf9 (hr.mono ⋯) qr) (wy wn (wg Jc rfl T.len_ aW (wx (pv 1) qk)) (wg Jc rfl T.len_ aW (wx (pv 2) qk))) (w9 _)))))))))))),?_⟩
 refine exI rfl ⟨a,ns,exI rfl ⟨hS,⋯,λq dr dw R W b NM H1 s1 nr nw fq hb bo lN nl=>?_⟩⟩
 refine ⟨q,exI rfl ⟨SqT.of fq,rfl,_,_,rfl,_,_,rfl,rfl,?_⟩⟩
 have nl':∀n∈NM,n.length≤100:=λn hn=>by have:=nl n hn;lia
 refine ⟨_,rfl,_,rfl,_,rfl,a,ns,_,dr,dw,R,W,b,NM,rfl,s1.sql hS,⋯,hb,bo,⋯,nl',λH2 o ah as s2 v nw2 eb ld=>?_⟩
 have hb2:=hb.same s2
 refine ⟨_,rfl,_,rfl,dr,dw,R,W,b,NM,rfl,hb2,bo,⋯,nl',λH3 ms1 ms2 s3 S1 S2=>?_⟩
 have v3:=v.same s3
 have nm:Nam NM ah:=AOk.bk (by rw [eb];exact bo)
 refine ⟨_,rfl,o,ah,as,NM,rfl,v3,nm,⋯,nl',λH4 ns1 ns2 s4 R1 R2=>?_⟩
 rw [eb] at R1 R2 ⊢
 rw [SrtN.uniq R1 S1,SrtN.uniq R2 S2]
 have s4':=(s1.trans s2).trans (s3.trans s4)
 have v4:=v.same (s3.trans s4)
 have hb4:=hb.same (s2.trans (s3.trans s4))
 have nR:∀y,H1 y=none→dr≠y:=λy h z=>by rw [←z,hb.r] at h;cases h
 have nW:∀y,H1 y=none→dw≠y:=λy h z=>by rw [←z,hb.w] at h;cases h
 refine exI rfl ⟨_,_,_,_,rfl,TyOf.str _,rfl,_,rfl,Z8 ((exI rfl (exI rfl ⟨rfl,_,rfl,iteNS rfl ?_⟩)))⟩
 refine ⟨λσ H'=>∃(o':Ho) (as':List AH) (z:Option V),VH qq qg qz H' o' (ah::as')∧o'.ds.length=R.length+W.length∧H' dr=some (.dK R)∧H' dw=some (.dK W)∧σ=[some (.ref a),some (.ref dr),some (.ref dw),some (.ref o'.x),some (.str (Zx b ms1 ms2)),some (.str (Zx b ms1 ms2)),z],?_,?_⟩
 ·refine exI rfl ⟨a,ns,_,_,_,rfl,s4'.sql hS,⋯,⋯,⋯,⋯,λr _ r0 r1=>?_⟩
  refine ⟨rfl,_,rfl,jj (λe=>?_) λe=>⟨o,as,_,v4,ld,hb4.r,hb4.w,rfl⟩⟩
  have dg:DGet H4 dr (.str "zzzzzzzzzzzz") (wj R (.inr "zzzzzzzzzzzz")):=DGet.k (k:=.inr "zzzzzzzzzzzz") hb4.r
  refine exI rfl (exI rfl ⟨dr,exI rfl ⟨dg,_,rfl,?_⟩⟩)
  cases hz:b.rs "zzzzzzzzzzzz" with
  |some hs =>
   obtain ⟨_,p,ep,_⟩:=hb4.bp.row hz
   rw [ep]
   exact Z8 ⟨o,as,_,v4,ld,hb4.r,hb4.w,rfl⟩
  |none =>
   rw [hb4.bp.noR hz]
   refine W7 ?_
   have ez:ah.rs "zzzzzzzzzzzz" = none:=by rw [show ah.rs=b.rs from bF BA.rs eb];exact hz
   have lens:=hb4.bp.lens bo
   obtain ⟨dx,hx⟩:=v4.h.hs.ob
   refine exI rfl ⟨o.x,dx,exI rfl ⟨hx,zv,exI rfl ⟨sz2,λp np=>?_⟩⟩⟩
   dsimp only [zh,Q8,tC]
   refine VH.lays (hs:=[1,0]) (v4.same (Same.upd np)) nm ⋯ ⋯ wqv (by decide +kernel) ez qj ⟨⋯,⋯,λh hh=>by simp at hh;simp;lia⟩ λH5 o5 nx5 v5 kb5=>?_
   have nm5:Nam ("zzzzzzzzzzzz" :: NM) (ah.putR "zzzzzzzzzzzz" [1,0]):=Nam.putR ⟨λm e=>ax _ (nm.r m e),λm e=>ax _ (nm.w m e)⟩ (aH ..) _
   have e5:(ah.putR "zzzzzzzzzzzz" [1,0]).bk=b.putR "zzzzzzzzzzzz" [1,0]:=by rw [←eb];rfl
   refine ⟨_,rfl,o5,_,_,"zzzzzzzzzzzz" :: NM,by rw [nx5.x],v5,nm5,by rw [aw];lia,?_,λH6 ks1 ks2 s6 K1 K2=>?_⟩
   ·intro n hn
    rcases ak.mp hn with rfl|hn
    ·decide +kernel
    ·exact nl' n hn
   rw [e5] at K1 K2
   refine exI rfl ⟨rfl,_,rfl,jy (λz=>?_) λ_=>?_⟩
   ·rw [e5] at z
    exact absurd (V.str.inj z) (qvt hz S1 S2 K1 K2)
   have v6:=v5.same s6
   obtain ⟨dx6,hx6⟩:=v6.h.hs.ob
   rw [nx5.x,nx5.dr,nx5.dw,nx5.dd] at hx6
   refine exI rfl ⟨o.x,dx6,exI rfl ⟨hx6,zv,?_⟩⟩
   dsimp only [Q8]
   rw [←nx5.x]
   obtain ⟨d5,ed5,q1n,q2n⟩:=nx5.ds
   have l6:=v6.lens nm5
   have l7:(("zzzzzzzzzzzz" : Str)::NM).length=6:=by rw [aw,lN]
   refine VH.take v6 ⋯ ⋯ λH7 o7 d pv ed v7 kb7 _ _=>?_
   have edd:d5=d∧o.ds=o7.ds:=by
    rw [ed5] at ed
    exact ⟨List.cons.inj ed |>.1,List.cons.inj ed |>.2⟩
   have at7:∀(y:Aj) (u:HO),(∀m,H1 m=none→y≠m)→upd H4 p (.lst [.int 1,.int 0]) y=some u→H7 y=some u:=λy u hy e=>by
    refine kb7 _ _ (λz=>?_) (s6 _ _ (kb5 _ _ (λz=>?_) e))
    ·rw [nx5.dr,nx5.dw,nx5.dd] at z
     simp only [ak,am,bH] at z
     rcases z with z|z|z|z|z
     ·exact hy _ nw2.r z
     ·exact hy _ nw2.w z
     ·exact hy _ nw2.d z
     ·rw [z,←edd.1] at e
      rw [q1n] at e;cases e
     ·rw [z,←edd.1,q2n] at e;cases e
    ·simp only [ak,am,bH] at z
     rcases z with z|z|z
     ·exact hy _ nw2.r z
     ·exact hy _ nw2.w z
     ·exact hy _ nw2.d z
   exact ⟨o7,as,_,v7,by rw [←edd.2];exact ld,at7 _ _ nR (Same.upd np _ _ hb4.r),at7 _ _ nW (Same.upd np _ _ hb4.w),by rw [pv.x];rfl⟩
 ·rintro σ H' ⟨o',as',z,v',ld',fr,fw,rfl⟩
  refine ⟨_,rfl,o',ah,as',NM,rfl,v',nm,⋯,nl',λH5 ns1 ns2 s5 R1 R2=>?_⟩
  rw [eb] at R1 R2 ⊢
  rw [SrtN.uniq R1 S1,SrtN.uniq R2 S2]
  have v5:=v'.same s5
  obtain ⟨dx,hx⟩:=v5.h.hs.ob
  refine exI rfl ⟨rfl,_,rfl,jy (λ_=>?_) λq=>absurd rfl q⟩
  refine exI rfl ⟨o'.x,dx,exI rfl ⟨hx,zv,o'.x,o'.dr,o'.dw,o'.dd,o'.R,o'.W,exI rfl ⟨v5.h.hs,?_⟩⟩⟩
  refine exI rfl ⟨dr,R,rfl,s5 _ _ fr,exI rfl ⟨dw,W,rfl,s5 _ _ fw,wc rfl rfl ⟨rfl,?_⟩⟩⟩
  have e:decide (V.int ((jb o'.ds).length:Int)=V.int ((R.length:Int)+(W.length:Int)))=true:=bn (by rw [Jn,ld'];rfl)
  rw [e]
  exact k _
end
section
theorem all_mk {l:PySem.W.OpenLaw}{w:Ah}{K:Aa}{h:Heap}{mg:Str→Option Ag}{fa:Aj}{qy:Aj}{qh:Aj}{qx:Aj}{qp:Aj}{qf:Aj}{q8:Aj}{wv:Aj}{qb:Aj}{wz:Aj}{qt:Aj}{qu:Aj}{qw:Aj}{qg:Aj}{qz:Aj}{qq:Aj}{zet:Tok}{zeu:Tok}{zev:Tok}{zew:Tok}{zex:Tok}{zey:Tok}(X:K.In h)(G:h.Ns mainGlobals mg)(hfa:mg "law" = some (.ref fa))
  (zb5:DefIn K "_law_cell" zbh)
  (zb6:DefIn K "_law_pick" zbi)
  (zb7:DefIn K "check_bottom" zaq)
  (zb8:DefIn K "common_divisor" zar)
  (zb9:DefIn K "lowest" zas)
  (zca:DefIn K "is_line" zat)
  (zcb:DefIn K "set_down" zaz)
  (zcc:DefIn K "is_name" za0)
  (zcd:DefIn K "check_new_name" za1)
  (zce:DefIn K "exchange" za2)
  (zcf:DefIn K "_law_climb" zbk)
  (zcg:DefIn K "_law_heights" zbl)
  (zch:DefIn K "_law_common" zbn)
  (zci:DefIn K "_law_low" zbo)
  (zcj:DefIn K "_law_spot" zbm)
  (zck:DefIn K "_law_names" zbj)
  (zcl:DefIn K "road_row" zbe)
  (zcm:DefIn K "walker_row" zbf)
  (zcn:DefIn K "house_text" zbg)
  (zco:DefIn K "_law_stand" zbp)
  (zcp:DefIn K "_law_text" zbq)
  (zcq:DefIn K "_law_laid_house" zag)
  (zcr:DefIn K "law" zbx)
  (zcs:PySem.W.nsIn K mainGlobals "RoadError" = some (some (.ref qy)))
  (zbr:PySem.W.excIn K qy [.type "ValueError",.type "Exception",.type "BaseException",.type "object"] "ValueError.__new__" = true)
  (zct:PySem.W.nsIn K mainGlobals "BadLine" = some (some (.ref qh)))
  (zah:PySem.W.excIn K qh [.type "ValueError",.type "Exception",.type "BaseException",.type "object"] "ValueError.__new__" = true)
  (zcu:PySem.W.nsIn K mainGlobals "BadBottom" = some (some (.ref qx)))
  (zaf:PySem.W.excIn K qx [.type "ValueError",.type "Exception",.type "BaseException",.type "object"] "ValueError.__new__" = true)
  (zcv:PySem.W.nsIn K mainGlobals "OffRoad" = some (some (.ref qp)))
  (zai:PySem.W.excIn K qp [.type "ValueError",.type "Exception",.type "BaseException",.type "object"] "ValueError.__new__" = true)
  (zcw:PySem.W.nsIn K mainGlobals "BadCount" = some (some (.ref qf)))
  (zbs:PySem.W.excIn K qf [.type "ValueError",.type "Exception",.type "BaseException",.type "object"] "ValueError.__new__" = true)
  (zcx:PySem.W.nsIn K mainGlobals "TooLong" = some (some (.ref q8)))
  (zbt:PySem.W.excIn K q8 [.type "ValueError",.type "Exception",.type "BaseException",.type "object"] "ValueError.__new__" = true)
  (zcy:PySem.W.nsIn K mainGlobals "BadRow" = some (some (.ref wv)))
  (zbu:PySem.W.excIn K wv [.type "ValueError",.type "Exception",.type "BaseException",.type "object"] "ValueError.__new__" = true)
  (zcz:PySem.W.nsIn K mainGlobals "BadName" = some (some (.ref qb)))
  (zaj:PySem.W.excIn K qb [.type "ValueError",.type "Exception",.type "BaseException",.type "object"] "ValueError.__new__" = true)
  (zc0:PySem.W.nsIn K mainGlobals "Taken" = some (some (.ref wz)))
  (zak:PySem.W.excIn K wz [.type "ValueError",.type "Exception",.type "BaseException",.type "object"] "ValueError.__new__" = true)
  (zc1:PySem.W.nsIn K mainGlobals "NoRoad" = some (some (.ref qt)))
  (zal:PySem.W.excIn K qt [.type "ValueError",.type "Exception",.type "BaseException",.type "object"] "ValueError.__new__" = true)
  (zc2:PySem.W.nsIn K mainGlobals "NoWalker" = some (some (.ref qu)))
  (zam:PySem.W.excIn K qu [.type "ValueError",.type "Exception",.type "BaseException",.type "object"] "ValueError.__new__" = true)
  (zc3:PySem.W.nsIn K mainGlobals "NothingDone" = some (some (.ref qw)))
  (zan:PySem.W.excIn K qw [.type "ValueError",.type "Exception",.type "BaseException",.type "object"] "ValueError.__new__" = true)
  (zc4:PySem.W.nsIn K mainGlobals "Road" = some (some (.ref qg)))
  (zc5:PySem.W.plainGet K qg Str.empty=true)
  (zc6:PySem.W.hasDictIn K qg=true)
  (zc7:PySem.W.plainOver K qg=true)
  (zc8:PySem.W.findIn K (.ref qg) "__setattr__" = some (some (.builtin "object.__setattr__")))
  (zc9:PySem.W.makesIn K qg=true)
  (zda:PySem.W.keepIn K (.ref qg)=true)
  (zdb:MethIn K qg "__init__" "Road.__init__" zau)
  (zdc:MethIn K qg "width" "Road.width" zav)
  (zdd:MethIn K qg "corners" "Road.corners" zaw)
  (zde:MethIn K qg "on_road" "Road.on_road" zax)
  (zdf:PySem.W.nsIn K mainGlobals "Walker" = some (some (.ref qz)))
  (zdg:PySem.W.plainGet K qz Str.empty=true)
  (zdh:PySem.W.hasDictIn K qz=true)
  (zdi:PySem.W.plainOver K qz=true)
  (zdj:PySem.W.findIn K (.ref qz) "__setattr__" = some (some (.builtin "object.__setattr__")))
  (zdk:PySem.W.makesIn K qz=true)
  (zdl:PySem.W.keepIn K (.ref qz)=true)
  (zdm:MethIn K qz "__init__" "Walker.__init__" zay)
  (zdn:PySem.W.nsIn K mainGlobals "House" = some (some (.ref qq)))
  (zdo:PySem.W.plainGet K qq Str.empty=true)
  (zdp:PySem.W.hasDictIn K qq=true)
  (zdq:PySem.W.plainOver K qq=true)
  (zdr:PySem.W.findIn K (.ref qq) "__setattr__" = some (some (.builtin "object.__setattr__")))
  (zds:PySem.W.makesIn K qq=true)
  (zdt:PySem.W.keepIn K (.ref qq)=true)
  (zdu:MethIn K qq "__init__" "House.__init__" za3)
  (zdv:MethIn K qq "road_called" "House.road_called" za4)
  (zdw:MethIn K qq "walker_called" "House.walker_called" za5)
  (zdx:MethIn K qq "deeds" "House.deeds" zba)
  (zdy:MethIn K qq "do" "House.do" za6)
  (zdz:MethIn K qq "lay" "House.lay" za7)
  (zd0:MethIn K qq "corners_of" "House.corners_of" zbc)
  (zd1:MethIn K qq "take_back" "House.take_back" za9)
  (zd2:MethIn K qq "where" "House.where" zbd)
  (zd3:MethIn K qq "place" "House.place" za8)
  (zd4:MethIn K qq "names" "House.names" zbb)
  (zd5:PySem.W.findIn K (.ref qg) "heights" = some none)
  (zd6:PySem.W.findIn K (.ref qz) "whose" = some none)
  (zd7:PySem.W.findIn K (.ref qz) "point" = some none)
  (zd8:PySem.W.findIn K (.ref qz) "times" = some none)
  (zd9:PySem.W.findIn K (.ref qq) "roads" = some none)
  (zea:PySem.W.findIn K (.ref qq) "walkers" = some none)
  (zeb:PySem.W.findIn K (.ref qq) "done" = some none)
  (zab:PySem.W.nsIn K mainGlobals "WIDEST" = some (some (.int 24 zet)))
  (zbv:PySem.W.nsIn K mainGlobals "LONGEST_TRACE" = some (some (.int 1000 zeu)))
  (zbw:PySem.W.nsIn K mainGlobals "FARTHEST" = some (some (.int 1000000000000000000000000000000000000000000000000000000000000 zev)))
  (zac:PySem.W.nsIn K mainGlobals "LONGEST_NAME" = some (some (.int 12 zew)))
  (zad:PySem.W.nsIn K mainGlobals "GREATEST_BOTTOM" = some (some (.int 40 zex)))
  (zae:PySem.W.nsIn K mainGlobals "LETTERS" = some (some (.str "abcdefghijklmnopqrstuvwxyz" zey)))
  (zec:PySem.W.nsIn K mainGlobals "len" = some none)
  (zed:PySem.W.nsIn K mainGlobals "abs" = some none)
  (zee:PySem.W.nsIn K mainGlobals "range" = some none)
  (zef:PySem.W.nsIn K mainGlobals "list" = some none)
  (zeg:PySem.W.nsIn K mainGlobals "min" = some none)
  (zeh:PySem.W.nsIn K mainGlobals "max" = some none)
  (zei:PySem.W.nsIn K mainGlobals "all" = some none)
  (zej:PySem.W.nsIn K mainGlobals "any" = some none)
  (zek:PySem.W.nsIn K mainGlobals "sorted" = some none)
  (zel:PySem.W.nsIn K mainGlobals "enumerate" = some none)
  (zem:PySem.W.nsIn K mainGlobals "dict" = some none)
  (zen:PySem.W.nsIn K mainGlobals "isinstance" = some none)
  (zeo:PySem.W.nsIn K mainGlobals "int" = some none)
  (zep:PySem.W.nsIn K mainGlobals "bool" = some none)
  (zeq:PySem.W.nsIn K mainGlobals "tuple" = some none)
  (zer:PySem.W.nsIn K mainGlobals "str" = some none) :
  ∃fd:Ad,(∀(s:Ab) (v:Ag),BindsTo s fd ⟨[v],[]⟩ [("_law_script",v)])∧∀base:Heap,K.In base→base.Ns mainGlobals mg→FnOk l.prog w K mg base (CXE l.prog w) 7 fa fd ["_law_script"] (qz9 K):=by
 have T:Txt K mg qy qh qx qp qf q8 wv qb wz qt qu qw qg qz qq:=⟨aD X G zec,aD X G zed,aD X G zee,aD X G zef,aD X G zeg,aD X G zeh,aD X G zei,aD X G zej,aD X G zek,aD X G zel,aD X G zem,aD X G zen,aD X G zeo,aD X G zep,aD X G zeq,aD X G zer,aE X G zcs,⟨zbr⟩,aE X G zct,⟨zah⟩,aE X G zcu,⟨zaf⟩,aE X G zcv,⟨zai⟩,aE X G zcw,⟨zbs⟩,aE X G zcx,⟨zbt⟩,aE X G zcy,⟨zbu⟩,aE X G zcz,⟨zaj⟩,aE X G zc0,⟨zak⟩,aE X G zc1,⟨zal⟩,aE X G zc2,⟨zam⟩,aE X G zc3,⟨zan⟩,⟨zc5,zc6,zc7,zc8⟩,zd5,⟨zet,aE X G zab⟩,aE X G zc4,⟨zdg,zdh,zdi,zdj⟩,⟨zdo,zdp,zdq,zdr⟩,zd6,zd7,zd8,zd9,zea,zeb,aE X G zdf,aE X G zdn,⟨zeu,aE X G zbv⟩,⟨zev,aE X G zbw⟩,⟨zew,aE X G zac⟩,⟨zex,aE X G zad⟩,⟨zey,aE X G zae⟩⟩
 obtain ⟨f,fd,a,F⟩:=zcr.ex
 have e:=hfa.symm.trans (aE X G a)
 cases e
 refine ⟨fd,λs v=>?_,λbase kb nb=>?_⟩
 ·obtain ⟨oc,od,kV,doc,pm,an,cdv,ct,osl,rfl,lk,hcd⟩:=F.ex
  exact .of_eq rfl
 ·have c1:Cal l.prog w K mg base "_law_cell" 1 (qzx K):=zb5.cal X G qqm λf fd F=>qu3 T F
  have c2:Cal l.prog w K mg base "_law_pick" 2 (v8 K):=zb6.cal X G Jf λf fd F=>qu9 T F c1
  have c3:Cal l.prog w K mg base "check_bottom" 1 (qqc qx):=zb7.cal X G Q7 λf fd F=>quv T F
  have c4:Cal l.prog w K mg base "common_divisor" 1 Yt:=zb8.cal X G uu λf fd F=>zfg T F
  have c5:Cal l.prog w K mg base "lowest" 2 (Qq qx):=zb9.cal X G qk5 λf fd F=>qv5 T F c3 c4
  have c6:Cal l.prog w K mg base "is_line" 1 (Zf K):=zca.cal X G qx9 λf fd F=>qzu T F
  have c7:CCal l.prog w K mg base "Road" qg 2 (qqy K qh qg):=zdb.ccal T.zfa zc9 zda Qm λf fd F=>wq1 T F c6
  have c8:MCal l.prog w K mg base qg "width" 1 (qqj qg):=zdc.cal Yn λf fd F=>quj T F
  have c9:MCal l.prog w K mg base qg "corners" 1 (Qy qg):=zdd.cal Q6 λf fd F=>qzf T F
  have c10:MCal l.prog w K mg base qg "on_road" 3 (Z2 K qg qx qp):=zde.cal Wj λf fd F=>qzy T F c8 c5
  have c11:CCal l.prog w K mg base "Walker" qz 1 (Wd qz):=zdm.ccal T.zfb zdk zdl yn λf fd F=>qj0 T F
  have c12:Cal l.prog w K mg base "set_down" 3 (Qb qz):=zcb.cal X G qxw λf fd F=>qw7 T F c11
  have c13:Cal l.prog w K mg base "is_name" 1 W6:=zcc.cal X G qzc λf fd F=>qx3 T F
  have c14:Cal l.prog w K mg base "check_new_name" 2 (yz qb wz):=zcd.cal X G Qw λf fd F=>qxk T F c13
  have c15:Cal l.prog w K mg base "exchange" 1 qq4:=zce.cal X G qw6 λf fd F=>wq5 T F
  have c16:CCal l.prog w K mg base "House" qq 1 (Wy qq):=zdu.ccal T.zfc zds zdt u9 λf fd F=>qy6 T F
  have c17:MCal l.prog w K mg base qq "road_called" 1 (km qq qt true):=zdv.cal jt λf fd F=>Z5 T F
  have c18:MCal l.prog w K mg base qq "walker_called" 1 (km qq qu false):=zdw.cal jf λf fd F=>Qx T F
  have c19:MCal l.prog w K mg base qq "deeds" 1 (Js qq):=zdx.cal Z4 λf fd F=>quq T F
  have c20:MCal l.prog w K mg base qq "do" 2 (spDo qq):=zdy.cal qxn λf fd F=>zfn T F c15
  have c21:MCal l.prog w K mg base qq "lay" 4 (Y3 K qq qg qb wz qh):=zdz.cal qqb λf fd F=>zfo T F c14 c7 c20
  have c22:MCal l.prog w K mg base qq "corners_of" 2 (j5 qq qg qt):=zd0.cal yc λf fd F=>Yr T F c17 c9
  have c23:MCal l.prog w K mg base qq "take_back" 2 (W1 qq qw):=zd1.cal y7 λf fd F=>qu5 T F c15
  have c24:MCal l.prog w K mg base qq "where" 2 (qqs qq qz qu):=zd2.cal Z1 λf fd F=>qjj T F c18
  have c25:MCal l.prog w K mg base qq "place" 5 (uz K qq qg qz qb wz qt qx qp):=zd3.cal Wr λf fd F=>qug T F c14 c17 c5 c10 c12 c20
  have c26:MCal l.prog w K mg base qq "names" 1 (J0 qq):=zd4.cal Wt λf fd F=>qju T F
  have c27:Cal l.prog w K mg base "_law_climb" 3 (Wu K):=zcf.cal X G Yb λf fd F=>qj4 T F c2
  have c28:Cal l.prog w K mg base "_law_heights" 4 (Qp K):=zcg.cal X G Wq λf fd F=>qzh T F c2 c27
  have c29:Cal l.prog w K mg base "_law_common" 1 Yt:=zch.cal X G W2 λf fd F=>qv3 T F
  have c30:Cal l.prog w K mg base "_law_low" 2 qyx:=zci.cal X G qw8 λf fd F=>zfj T F c29
  have c31:Cal l.prog w K mg base "_law_spot" 3 (qqv K):=zcj.cal X G qq6 λf fd F=>qjc T F c2
  have c32:Cal l.prog w K mg base "_law_names" 3 (Z0 K):=zck.cal X G Yx λf fd F=>qkw T F c2
  have c33:Cal l.prog w K mg base "road_row" 3 (Qj qq qg qz):=zcl.cal X G qw1 λf fd F=>qxc T F c22
  have c34:Cal l.prog w K mg base "walker_row" 3 (j6 qq qg qz):=zcm.cal X G Yf λf fd F=>Yk T F c24
  have c35:Cal l.prog w K mg base "house_text" 4 (qx0 qq qg qz):=zcn.cal X G Z9 λf fd F=>Z7 T F c26 c33 c34
  have c36:Cal l.prog w K mg base "_law_stand" 5 (qq3 K):=zco.cal X G Ym λf fd F=>qj3 T F c32 c2 c28 c31 c30
  have c37:Cal l.prog w K mg base "_law_text" 1 qqk:=zcp.cal X G qqt λf fd F=>qjf T F
  have c38:Cal l.prog w K mg base "_law_laid_house" 6 (qx8 K qq qg qz):=zcq.cal X G yp λf fd F=>qus T F c16 c21 c2 c25
  exact zf4 T F c36 c38 c37 c35 c2 c21 c23 c19
theorem walk {l:PySem.W.OpenLaw}{q:Ac}{loose:List Str}{XP:(Str→Option Ag)→Heap→Prop}{YP:Ah→Heap→Prop}{d:DefRec}{K:Params→Aa}(hn:l.most=some 63)(hdf:d.params.defaults=[])
  (hY:∀(w:Ah) (h:Heap),YP w h→(K w.params).In h)
  (F:∀(w:Ah) (mg:Str→Option Ag) (fa:Aj) (h:Heap),(K w.params).In h→h.Ns mainGlobals mg→mg d.name=some (.ref fa) →
   ∃fd:Ad,(∀(s:Ab) (u:Ag),BindsTo s fd ⟨[u],[]⟩ [("_law_script",u)])∧∀base:Heap,(K w.params).In base→base.Ns mainGlobals mg→FnOk l.prog w (K w.params) mg base (CXE l.prog w) 7 fa fd ["_law_script"] (qz9 (K w.params))) :
  PySem.W.WalkO q loose XP YP l.row.toRowW d [] (λf vs=>PySem.call f vs) :=
 L2.qu7 (n:=63) (k:=7) (x := "_law_script") (CX:=λw=>CXE l.prog w) (sp:=λw=>qz9 (K w.params)) hn ⋯ hdf ⟨rfl,⋯,⋯⟩ hY F (λ_ _ a ns hl _ hS=>⟨a,ns,rfl,hS,hl,λ_=>rfl⟩) λ_ _ _ _ _ z=>CXE.no z
end
end My
open PySem PySem.W PyProof.Rows
local macro_rules | `(tactic| walk_at "def")=>`(tactic| (refine' L2.def_mk ?a ?l ?c ?k;(case a=>k_is);(case l=>k_is);(case c=>k_is);(case k=>k_is)))
local macro_rules | `(tactic| walk_at "defD")=>`(tactic| (refine' L2.defD_mk ?a ?l ?c ?k ?t;(case a=>k_is);(case l=>k_is);(case c=>k_is);(case k=>k_is);(case t=>k_is)))
local macro_rules | `(tactic| walk_at "meth")=>`(tactic| (refine' L2.wqz ?a ?i ?l ?c ?k;(case a=>k_is);(case i=>k_is);(case l=>k_is);(case c=>k_is);(case k=>k_is)))
section
open Lean
local macro_rules|`(universe $x*)=>do let mut r:=#[];for i in x do {let s:=i.getId.toString;let n:=((s.drop 1).toString.splitOn "_").map String.toNat!;for j in [n.head!:n.getLast!+1] do {r:=r.push (←`(command|theorem $(mkIdent (.str `PySem.W.Fast s!"tw{(Name.str `PySem.Challenge.cw_crookroad_k55_house_written_holds ((match s.front with|'h'=>"heap_"|'t'=>"tree_"|'v'=>"view_"|'s'=>"sts_"|'e'=>"env_"|_=>"o_")++toString j)).hash}")):ident:True:=trivial))}};return mkNullNode r
universe h39 h46 h796 t47 t70 t85 t100 t115 t130 t145 t160 t175 t190 t205 t220 t264 t294 t366 t415 t422 t606 t691 t767 t795 v39 o43_691 o695_795 s49 s71 s86 s101 s116 s131 s146 s161 s176 s191 s206 s221 s265 s295 s367 s416 s423 s695 s768 e41
end
theorem PySem.W.Fast.tw3222846702459856684:True:=trivial
theorem PySem.W.Fast.tw5886346871162555912:True:=trivial
set_option maxRecDepth 100000 in
set_option maxHeartbeats 0 in
theorem PySem.Challenge.cw_crookroad_k55_house_written_holds : PySem.Challenge.rw_crookroad_k55_house_written.Holds := by
 w_on;o_law;k_head;(case hw=>w_witness2)
 k_fill
 refine My.walk (l:=PySem.Challenge.rw_crookroad_k55_house_written) rfl rfl (fun w h Y=>PySem.W.kIn_of Y) ?F
 case F =>
  intro w mg fa h KX G hmg
  refine' My.all_mk KX G hmg ?zb5 ?zb6 ?zb7 ?zb8 ?zb9 ?zca ?zcb ?zcc ?zcd ?zce ?zcf ?zcg ?zch ?zci ?zcj ?zck ?zcl ?zcm ?zcn ?zco ?zcp ?zcq ?zcr ?zcs ?zbr ?zct ?zah ?zcu ?zaf ?zcv ?zai ?zcw ?zbs ?zcx ?zbt ?zcy ?zbu ?zcz ?zaj ?zc0 ?zak ?zc1 ?zal ?zc2 ?zam ?zc3 ?zan ?zc4 ?zc5 ?zc6 ?zc7 ?zc8 ?zc9 ?zda ?zdb ?zdc ?zdd ?zde ?zdf ?zdg ?zdh ?zdi ?zdj ?zdk ?zdl ?zdm ?zdn ?zdo ?zdp ?zdq ?zdr ?zds ?zdt ?zdu ?zdv ?zdw ?zdx ?zdy ?zdz ?zd0 ?zd1 ?zd2 ?zd3 ?zd4 ?zd5 ?zd6 ?zd7 ?zd8 ?zd9 ?zea ?zeb ?zab ?zbv ?zbw ?zac ?zad ?zae ?zec ?zed ?zee ?zef ?zeg ?zeh ?zei ?zej ?zek ?zel ?zem ?zen ?zeo ?zep ?zeq ?zer
  (case zb5=>walk_at "def")
  (case zb6=>walk_at "def")
  (case zb7=>walk_at "def")
  (case zb8=>walk_at "def")
  (case zb9=>walk_at "def")
  (case zca=>walk_at "def")
  (case zcb=>walk_at "def")
  (case zcc=>walk_at "def")
  (case zcd=>walk_at "def")
  (case zce=>walk_at "def")
  (case zcf=>walk_at "def")
  (case zcg=>walk_at "def")
  (case zch=>walk_at "def")
  (case zci=>walk_at "def")
  (case zcj=>walk_at "def")
  (case zck=>walk_at "def")
  (case zcl=>walk_at "def")
  (case zcm=>walk_at "def")
  (case zcn=>walk_at "def")
  (case zco=>walk_at "def")
  (case zcp=>walk_at "def")
  (case zcq=>walk_at "def")
  (case zcr=>walk_at "def")
  (case zcs=>k_is)
  (case zbr=>k_exc)
  (case zct=>k_is)
  (case zah=>k_exc)
  (case zcu=>k_is)
  (case zaf=>k_exc)
  (case zcv=>k_is)
  (case zai=>k_exc)
  (case zcw=>k_is)
  (case zbs=>k_exc)
  (case zcx=>k_is)
  (case zbt=>k_exc)
  (case zcy=>k_is)
  (case zbu=>k_exc)
  (case zcz=>k_is)
  (case zaj=>k_exc)
  (case zc0=>k_is)
  (case zak=>k_exc)
  (case zc1=>k_is)
  (case zal=>k_exc)
  (case zc2=>k_is)
  (case zam=>k_exc)
  (case zc3=>k_is)
  (case zan=>k_exc)
  (case zc4=>k_is)
  (case zc5=>k_is)
  (case zc6=>k_is)
  (case zc7=>k_is)
  (case zc8=>k_is)
  (case zc9=>k_is)
  (case zda=>k_is)
  (case zdb=>walk_at "meth")
  (case zdc=>walk_at "meth")
  (case zdd=>walk_at "meth")
  (case zde=>walk_at "meth")
  (case zdf=>k_is)
  (case zdg=>k_is)
  (case zdh=>k_is)
  (case zdi=>k_is)
  (case zdj=>k_is)
  (case zdk=>k_is)
  (case zdl=>k_is)
  (case zdm=>walk_at "meth")
  (case zdn=>k_is)
  (case zdo=>k_is)
  (case zdp=>k_is)
  (case zdq=>k_is)
  (case zdr=>k_is)
  (case zds=>k_is)
  (case zdt=>k_is)
  (case zdu=>walk_at "meth")
  (case zdv=>walk_at "meth")
  (case zdw=>walk_at "meth")
  (case zdx=>walk_at "meth")
  (case zdy=>walk_at "meth")
  (case zdz=>walk_at "meth")
  (case zd0=>walk_at "meth")
  (case zd1=>walk_at "meth")
  (case zd2=>walk_at "meth")
  (case zd3=>walk_at "meth")
  (case zd4=>walk_at "meth")
  (case zd5=>k_is)
  (case zd6=>k_is)
  (case zd7=>k_is)
  (case zd8=>k_is)
  (case zd9=>k_is)
  (case zea=>k_is)
  (case zeb=>k_is)
  (case zab=>k_is)
  (case zbv=>k_is)
  (case zbw=>k_is)
  (case zac=>k_is)
  (case zad=>k_is)
  (case zae=>k_is)
  (case zec=>k_is)
  (case zed=>k_is)
  (case zee=>k_is)
  (case zef=>k_is)
  (case zeg=>k_is)
  (case zeh=>k_is)
  (case zei=>k_is)
  (case zej=>k_is)
  (case zek=>k_is)
  (case zel=>k_is)
  (case zem=>k_is)
  (case zen=>k_is)
  (case zeo=>k_is)
  (case zep=>k_is)
  (case zeq=>k_is)
  (case zer=>k_is)
