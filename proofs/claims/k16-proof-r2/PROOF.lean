import PyProof.Rows.All
import Wide.All
import OpenK.AllK
import Wide.FinOn
import Lean
import PyProof.EqAt
import PyProof.EqKinds
import PyProof.TupleCall
import PyProof.Rows.SetFrom
import PyProof.Rows.SortShell
import PyProof.Rows.SortWalk
import PyProof.CollectIter
import PyProof.DictWalks
import PyProof.ListRange
import PyProof.ZipIter
import PyProof.ExcInit
import PyProof.ExcClass2
import PyProof.InstStore
import PyProof.InstStoreFacts
import PyProof.ReprRoads
import PyProof.Rows.FStr
import PySem.Challenge.RW_nocrossing_k16_which_refusal
set_option Elab.async false
set_option linter.all false
set_option maxRecDepth 100000
set_option maxHeartbeats 4000000
namespace NCP
open PySem PySem.W PyProof.Rows
def vtop (i:Nat):Stmt:=PySem.Challenge.pw_nocrossing_k16_which_refusal.main.body.getD i (.Pass ⟨0,0,0,0⟩)
def vw:Program:={PySem.Challenge.pw_nocrossing_k16_which_refusal with main:={PySem.Challenge.pw_nocrossing_k16_which_refusal.main with body:=[vtop 1,vtop 2,vtop 3,vtop 4,vtop 5,vtop 7,vtop 8,vtop 9,vtop 10,vtop 11,vtop 12,vtop 13,vtop 14,vtop 15,vtop 16,vtop 17,vtop 19,vtop 20,vtop 21,vtop 22,vtop 23,vtop 24,vtop 25,vtop 27,vtop 28,vtop 29,vtop 30,vtop 32,vtop 33,vtop 34,vtop 35,vtop 36,vtop 38,vtop 39,vtop 40,vtop 42,vtop 43,vtop 44,vtop 45,vtop 46,vtop 47,vtop 48,vtop 49,vtop 50,vtop 51,vtop 52,vtop 53,vtop 54]}}
local macro_rules | `(tactic| o_head $H:term) => `(tactic| exact False.elim (by assumption))
theorem fr (h:False):PySem.Challenge.rw_nocrossing_k16_which_refusal.Holds:=by
  w_on;o_law;k_head
def as0:List Addr:=[2,3,15,22,23,24,25,28,35,36,37,40,47,49,50,52,53,54,55,56,59,66,67,68,71,78,79,80,83,86,87,88,90,91,93,94,95,98,99,100,102,103,105,106,107,109,110,112,113,114,116,117,119,120,121,123,124,126,127,128,130,131,133,134,135,137,138,140,141,142,144,145,147,148,149,152,153,154,157,158,159,161,162,164,165,166,168,169,171,172,173,176,177,178,180,181,183,184,185,187,188,190,191,192,194,195,197,198,199,201,202,204,205,206,208,209,211,212,213,215,216,218,219,220,223,224,225,227,228,230,231,232,234,235,237,238,239,241,242,244,245,246,249,250,251,254,255,256,259,260,261,263,264,266,267,268,270,271,273,274,275,277,278,280,281,282,285,286,287,290,291,292,294,295,297,298,299,302,303,304,307,308,309,311,312,314,315,316,318,319,321,322,323,325,326,328,329,330,333,334,335,338,339]
def vx (s:Shared):Bool:=xlAt vw [] s&&recOk (RowW.records (OpenRow.toRowW (OpenLaw.row PySem.Challenge.rw_nocrossing_k16_which_refusal))) s
noncomputable abbrev hk:Hook:=kHook fr.heap_39 as0 (fun _=>by kernel_rfl)
theorem left:LeftO (OpenRow.toRowW (OpenLaw.row PySem.Challenge.rw_nocrossing_k16_which_refusal)).prog vw [] vx (Hook.obs hk) (Hook.val hk) 4882:=by
  intro w
  kernel_rfl
end NCP
set_option Elab.async false
set_option linter.all false
set_option maxRecDepth 100000
namespace L2
open PySem PySem.Spec PyProof.Rows
abbrev Key:=Sum Int Str
def keyIs:Key→Value→Bool
  | .inl k,v=>Value.isInt k v
  | .inr x,v=>Value.isStrOf x v
def keyH (w:World):Key→Int
  | .inl k=>hashInt k
  | .inr x=>hashStr w x
theorem wf:∀ {k:Key} {v:Value},keyIs k v=true→(∃ i t,k=Sum.inl i∧v=Value.int i t)∨(∃ x t,k=Sum.inr x∧v=Value.str x t)
  | .inl i,v,h=>by
    obtain ⟨t,e⟩:=Value.isInt_shape (k:=i) (v:=v) h
    exact .inl ⟨i,t,rfl,e⟩
  | .inr x,v,h=>by
    obtain ⟨t,e⟩:=Value.isStrOf_shape (x:=x) (v:=v) h
    exact .inr ⟨x,t,rfl,e⟩
theorem zk8 (i:Int) (t:Tok):keyIs (.inl i) (.int i t)=true:=by simp [keyIs,Value.isInt]
theorem zk9 (x:Str) (t:Tok):keyIs (.inr x) (.str x t)=true:=by simp [keyIs,Value.isStrOf]
theorem zp1 (a b:Int):decide ((Sum.inl a:Key)=Sum.inl b)=(a==b):=by
  by_cases e:a=b
  · subst e;simp
  · have h:¬ (Sum.inl a:Key)=Sum.inl b:=fun q=>e (Sum.inl.inj q)
    rw [decide_eq_false h]
    exact (beq_eq_false_iff_ne.mpr e).symm
theorem zp2 (a b:Str):decide ((Sum.inr a:Key)=Sum.inr b)=decide (a=b):=by
  by_cases e:a=b
  · subst e;simp
  · have h:¬ (Sum.inr a:Key)=Sum.inr b:=fun q=>e (Sum.inr.inj q)
    rw [decide_eq_false h,decide_eq_false e]
theorem zp3 (a:Int) (b:Str):decide ((Sum.inl a:Key)=Sum.inr b)=false:=decide_eq_false (fun q=>nomatch q)
theorem zp4 (a:Str) (b:Int):decide ((Sum.inr a:Key)=Sum.inl b)=false:=decide_eq_false (fun q=>nomatch q)
def mixKind (prog:Program) (w:World):PySem.KeyKind prog w Key where
  is:=keyIs
  hash:=keyH w
  inj:=fun v a b ha hb=>by
    rcases wf ha with ⟨i,t,rfl,rfl⟩ | ⟨x,t,rfl,rfl⟩
    · rcases wf hb with ⟨j,u,rfl,e⟩ | ⟨y,u,rfl,e⟩
      · injection e with e1 _;rw [e1]
      · exact nomatch e
    · rcases wf hb with ⟨j,u,rfl,e⟩ | ⟨y,u,rfl,e⟩
      · exact nomatch e
      · injection e with e1 _;rw [e1]
  byValue:=fun k v h=>by
    rcases wf h with ⟨i,t,rfl,rfl⟩ | ⟨x,t,rfl,rfl⟩ <;> rfl
  pyHash:=fun hv h=>by
    rcases wf hv with ⟨i,t,rfl,rfl⟩ | ⟨x,t,rfl,rfl⟩
    · exact wpAny_pyHash_int h
    · exact wpAny_pyHash_str h
  eqBool:=fun hu hv h=>by
    rcases wf hu with ⟨i,t,rfl,rfl⟩ | ⟨x,t,rfl,rfl⟩
    · rcases wf hv with ⟨j,u,rfl,rfl⟩ | ⟨y,u,rfl,rfl⟩
      · rw [zp1] at h;exact wpAny_eqBool_int h
      · rw [zp3] at h;exact SeqAt.EqAt.int_str i t y u _ _ _ _ h
    · rcases wf hv with ⟨j,u,rfl,rfl⟩ | ⟨y,u,rfl,rfl⟩
      · rw [zp4] at h;exact SeqAt.EqAt.str_int x t j u _ _ _ _ h
      · rw [zp2] at h;exact wpAny_eqBool_str h
  «strs»:=fun k x t v h=>by
    rcases wf h with ⟨i,u,rfl,e⟩ | ⟨y,u,rfl,e⟩
    · exact nomatch e
    · injection e with e1 _
      subst e1
      cases v <;> rfl
theorem zid (prog:Program) (w:World) (i:Int) (t:Tok):(mixKind prog w).is (.inl i) (.int i t)=true:=zk8 i t
theorem zie (prog:Program) (w:World) (x:Str) (t:Tok):(mixKind prog w).is (.inr x) (.str x t)=true:=zk9 x t
end L2
namespace L2
open PySem PySem.Spec PyProof.Rows
inductive V where
  | non | bl (b:Bool) | int (i:Int) | str (x:Str) | byt (b:Array UInt8) | flt (b:UInt64) | ref (a:Addr) | ty (n:String)
  deriving DecidableEq
def RelV:V→Value→Prop
  | .non,u=>u=Value.none
  | .bl b,u=>u=Value.bool b
  | .int i,u=>∃ t,u=Value.int i t
  | .str x,u=>∃ t,u=Value.str x t
  | .byt b,u=>∃ t,u=Value.bytes b t
  | .flt b,u=>∃ t,u=Value.float b t
  | .ref a,u=>u=Value.ref a
  | .ty n,u=>u=Value.type n
abbrev Vals:List V→List Value→Prop:=Paired RelV
theorem Vals.length {xs:List V} {us:List Value} (r:Vals xs us):xs.length=us.length:=Paired.length r
theorem Vals.get:∀ {xs:List V} {us:List Value} {i:Nat} {x:V},Vals xs us→xs[i]?=some x→∃ u,us[i]?=some u∧RelV x u
  | _,_,_,_,.nil,e=>by simp at e
  | _,_,0,_,.cons r _,e=>by simp at e;subst e;exact ⟨_,rfl,r⟩
  | _,_,i+1,x,.cons _ t,e=>by
    obtain ⟨u,h1,h2⟩:=Vals.get (i:=i) (x:=x) t (by simpa using e)
    exact ⟨u,by simpa using h1,h2⟩
theorem Vals.set {x:V} {u:Value} (r:RelV x u):∀ {xs:List V} {us:List Value} (i:Nat),Vals xs us→Vals (xs.set i x) (us.set i u)
  | _,_,_,.nil=>.nil
  | _,_,0,.cons _ t=>.cons r t
  | _,_,i+1,.cons q t=>.cons q (Vals.set r i t)
theorem Vals.append:∀ {xs ys:List V} {us ws:List Value},Vals xs us→Vals ys ws→Vals (xs++ys) (us++ws)
  | _,_,_,_,.nil,s=>s
  | _,_,_,_,.cons r t,s=>.cons r (Vals.append t s)
theorem Vals.take:∀ {xs:List V} {us:List Value} (n:Nat),Vals xs us→Vals (xs.take n) (us.take n)
  | _,_,0,_=>.nil
  | _,_,_+1,.nil=>.nil
  | _,_,n+1,.cons r t=>.cons r (Vals.take n t)
theorem Vals.drop:∀ {xs:List V} {us:List Value} (n:Nat),Vals xs us→Vals (xs.drop n) (us.drop n)
  | _,_,0,r=>r
  | _,_,_+1,.nil=>.nil
  | _,_,n+1,.cons _ t=>Vals.drop n t
def RelO:Option V→Option Value→Prop
  | some v,some u=>RelV v u
  | none,none=>True
  | _,_=>False
def KV {κ:Type}:List (κ × V)→List (κ × Value)→Prop:=Paired fun (p:κ × V) (q:κ × Value)=>p.1=q.1∧RelV p.2 q.2
def kV:Key→V
  | .inl i=>.int i
  | .inr x=>.str x
inductive HO where
  | lst (xs:List V)
  | tup (xs:List V)
  | dK (kvs:List (Key × V)) | dT (kvs:List (List Key × V))
  | set (S:Int→Bool) (n:Nat)
  | ins (C dx:Addr) (fs:List (Str × V))
  | own (x:Addr)
  | xd (fs:List (Str × V))
  | met (f x:Addr)
  | rng (lo hi:Int)
  | frz (o:Obj) (u:HO)
  | tbl (ps:Array Value)
  | ext (φ:Heap→Prop)
abbrev Hp:=Addr→Option HO
def upd (H:Hp) (a:Addr) (o:HO):Hp:=fun b=>if b=a then some o else H b
theorem ze {H:Hp} {a:Addr} {o:HO}:upd H a o a=some o:=by unfold upd;rw [if_pos rfl]
theorem zi {H:Hp} {a b:Addr} {o:HO} (h:b≠a):upd H a o b=H b:=by unfold upd;rw [if_neg h]
theorem ne_of {H:Hp} {a b:Addr} {o u:HO} (h:H a=some o) (h':H b=some u) (d:o≠u):a≠b:=by
  intro e;subst e;rw [h] at h';exact d (Option.some.inj h')
theorem zn {H:Hp} {a b:Addr} {o:HO} (h:H a=some o) (h':H b=none):a≠b:=by
  intro e;subst e;rw [h] at h';cases h'
section
variable (P:Program) (w:World)
def ObjOk (H:Hp) (h:Heap) (a:Addr):HO→Prop
  | .lst xs=>xs.length≤sizeLine∧∃ (its:List Value) (n:Nat),Vals xs its∧h.get? a=some {cls:=.type "list",data:=.seq its.toArray n}
  | .tup xs=>xs.length≤sizeLine∧∃ its:List Value,Vals xs its∧IsTup h a its.toArray
  | .dK kvs=>kvs.length≤sizeLine∧(a==sysModules)=false∧∃ vs,KV kvs vs∧h.DictOf (mixKind P w) a vs
  | .dT kvs=>kvs.length≤sizeLine∧(a==sysModules)=false∧∃ xs:List (List Key × Addr × Value),
      Paired (fun (p:List Key × V) (q:List Key × Addr × Value)=>p.1=q.1∧H q.2.1=some (.tup (p.1.map kV))∧RelV p.2 q.2.2) kvs xs ∧
      ∃ o es ep,h.get? a=some o∧o.ExactDict∧o.data=.dict es ep∧es.toList=xs.map (entryOfKey (tupleKind (mixKind P w)))∧(xs.map (·.1)).Nodup
  | .set S n=>h.SetOf (intKind P w) a S n
  | .ins C dx fs=>H dx=some (.own a)∧fs.length≤1000∧dx≠a∧h.get? a=some (PySem.W.instObj C dx) ∧
      ∃ mA,h.Ns1 dx mA∧(∀ f,RelO (fs.lookup f) (mA f))∧PySem.Within mA (fs.map (·.1))
  | .own _=>∃ o,h.get? a=some o
  | .xd fs=>∃ mA,h.Ns1 a mA∧∀ f,RelO (fs.lookup f) (mA f)
  | .rng lo hi=>∃ t u v,h.get? a=some {cls:=.type "range",data:=.fields #[.int lo t,.int hi u,.int 1 v]}
  | .frz o u=>h.get? a=some o∧ObjOk H h a u
  | .tbl ps=>h.get? a=some {cls:=.none,data:=.fields ps}
  | .met f x=>h.get? a=some (PySem.W.methodObj (.ref f) (.ref x))
  | .ext φ=>φ h∧(∃ o,h.get? a=some o)∧∀ h1 h2:Heap,φ h1→(∀ o,h1.get? a=some o→h2.get? a=some o)→φ h2
def HOk (H:Hp) (h:Heap):Prop:=∀ a o,H a=some o→ObjOk P w H h a o
end
section
variable {P:Program} {w:World} {H H':Hp} {h h':Heap} {a:Addr} {o:HO}
theorem ObjOk.lt (x:ObjOk P w H h a o):a<h.objs.size:=by
  cases o with
  | lst xs=>obtain ⟨_,_,_,_,e⟩:=x;exact Heap.lt_size e
  | tup xs=>obtain ⟨_,_,_,p⟩:=x;exact p.lt
  | dK kvs=>obtain ⟨_,_,_,_,o,_,_,e,_⟩:=x;exact Heap.lt_size e
  | dT kvs=>obtain ⟨_,_,_,_,o,_,_,e,_⟩:=x;exact Heap.lt_size e
  | set S n=>obtain ⟨o,_,_,_,e,_⟩:=x;exact Heap.lt_size e
  | ins C dx fs=>obtain ⟨_,_,_,e,_⟩:=x;exact Heap.lt_size e
  | own y=>obtain ⟨_,e⟩:=x;exact Heap.lt_size e
  | xd fs=>obtain ⟨_,⟨_,_,_,e,_⟩,_⟩:=x;exact Heap.lt_size e
  | rng lo hi=>obtain ⟨_,_,_,e⟩:=x;exact Heap.lt_size e
  | frz ob u=>obtain ⟨e,_⟩:=x;exact Heap.lt_size e
  | tbl ps=>exact Heap.lt_size (show h.get? a=some _ from x)
  | met f y=>exact Heap.lt_size (show h.get? a=some _ from x)
  | ext φ=>obtain ⟨_,⟨_,e⟩,_⟩:=x;exact Heap.lt_size e
theorem Paired.mapP {α β:Type} {F G:α→β→Prop}:∀ {l₁:List α} {l₂:List β},Paired F l₁ l₂→(∀ a b,F a b→G a b)→Paired G l₁ l₂
  | _,_,.nil,_=>.nil
  | _,_,.cons r t,f=>.cons (f _ _ r) (Paired.mapP t f)
theorem ObjOk.stay (x:ObjOk P w H h a o) (k:∀ b u,(b=a∨H b=some (.own a))→h.get? b=some u→h'.get? b=some u)
    (ho:∀ b,H b=some (.own a)→H' b=some (.own a)) (ht:∀ b xs,H b=some (.tup xs)→H' b=some (.tup xs)):ObjOk P w H' h' a o:=by
  induction o with
  | lst xs=>obtain ⟨z,its,n,r,e⟩:=x;exact ⟨z,its,n,r,k _ _ (.inl rfl) e⟩
  | tup xs=>obtain ⟨z,its,r,ob,e,c⟩:=x;exact ⟨z,its,r,ob,k _ _ (.inl rfl) e,c⟩
  | dK kvs=>obtain ⟨z,y,vs,r,ob,es,ep,e,c⟩:=x;exact ⟨z,y,vs,r,ob,es,ep,k _ _ (.inl rfl) e,c⟩
  | dT kvs =>
    obtain ⟨z,y,xs,r,ob,es,ep,e,c⟩:=x
    exact ⟨z,y,xs,Paired.mapP r fun p q z=>⟨z.1,ht _ _ z.2.1,z.2.2⟩,ob,es,ep,k _ _ (.inl rfl) e,c⟩
  | set S n=>obtain ⟨ob,es,ep,t,e,c⟩:=x;exact ⟨ob,es,ep,t,k _ _ (.inl rfl) e,c⟩
  | ins C dx fs =>
    obtain ⟨d,z,ne,e,mA,⟨od,es,ep,e2,c⟩,r⟩:=x
    exact ⟨ho _ d,z,ne,k _ _ (.inl rfl) e,mA,⟨od,es,ep,k _ _ (.inr d) e2,c⟩,r⟩
  | own y=>obtain ⟨ob,e⟩:=x;exact ⟨ob,k _ _ (.inl rfl) e⟩
  | xd fs=>obtain ⟨mA,⟨od,es,ep,e,c⟩,r⟩:=x;exact ⟨mA,⟨od,es,ep,k _ _ (.inl rfl) e,c⟩,r⟩
  | rng lo hi=>obtain ⟨t,u,v,e⟩:=x;exact ⟨t,u,v,k _ _ (.inl rfl) e⟩
  | frz ob u ih=>obtain ⟨e,q⟩:=x;exact ⟨k _ _ (.inl rfl) e,ih q⟩
  | tbl ps =>
    have e:h.get? a=some {cls:=.none,data:=.fields ps}:=x
    show h'.get? a=some {cls:=.none,data:=.fields ps}
    exact k a _ (.inl rfl) e
  | met f y =>
    have e:h.get? a=some (PySem.W.methodObj (.ref f) (.ref y)):=x
    show h'.get? a=some (PySem.W.methodObj (.ref f) (.ref y))
    exact k a _ (.inl rfl) e
  | ext φ=>obtain ⟨p,⟨o,e⟩,st⟩:=x;exact ⟨st _ _ p fun o q=>k _ _ (.inl rfl) q,⟨o,k _ _ (.inl rfl) e⟩,st⟩
theorem HOk.lt (x:HOk P w H h) (e:H a=some o):a<h.objs.size:=(x a o e).lt
theorem HOk.fresh (x:HOk P w H h) (e:h.objs.size≤a):H a=none:=by
  cases q:H a with
  | none=>rfl
  | some u=>exact absurd (Nat.lt_of_lt_of_le (x.lt q) e) (Nat.lt_irrefl _)
theorem HOk.kept (x:HOk P w H h) (k:∀ b u,h.get? b=some u→h'.get? b=some u):HOk P w H h':=fun a o e =>
  (x a o e).stay (fun b u _ q=>k b u q) (fun _ q=>q) fun _ _ q=>q
theorem HOk.laid (x:HOk P w H h) (k:∀ b u,h.get? b=some u→h'.get? b=some u) (hp:h.objs.size≤a) (new:ObjOk P w (upd H a o) h' a o):HOk P w (upd H a o) h':=fun b u e=>by
  have hn:=x.fresh hp
  by_cases hb:b=a
  · subst hb;rw [ze] at e;cases e;exact new
  · rw [zi hb] at e
    exact (x b u e).stay (fun c v _ q=>k c v q) (fun c q=>by rw [zi (zn q hn)];exact q) fun c xs q=>by rw [zi (zn q hn)];exact q
end
def Rd (H:Hp) (a:Addr) (u:HO):Prop:=H a=some u∨∃ o,H a=some (.frz o u)
theorem Rd.ok {P:Program} {w:World} {H:Hp} {h:Heap} {a:Addr} {u:HO} (r:Rd H a u) (x:HOk P w H h):ObjOk P w H h a u:=by
  rcases r with r | ⟨o,r⟩
  · exact x a u r
  · obtain ⟨_,q⟩:=x a _ r
    exact q
def Mut:Option HO→Prop
  | some (.lst _)=>True
  | some (.dK _)=>True
  | some (.dT _)=>True
  | some (.set _ _)=>True
  | some (.ins _ _ _)=>True
  | some (.ext _)=>True
  | _=>False
section
variable {P:Program} {w:World} {H:Hp} {h h':Heap} {x e:Addr} {o':HO}
theorem HOk.write (ok:HOk P w H h) (mu:Mut (H x)) (he:e=x∨H e=some (.own x)) (k:∀ b u,b≠e→h.get? b=some u→h'.get? b=some u) (heo:∃ u,h'.get? e=some u)
    (new:ObjOk P w (upd H x o') h' x o'):HOk P w (upd H x o') h':=fun b u q=>by
  have nown:∀ c y,H c=some (.own y)→c≠x:=fun c y r z=>by subst z;rw [r] at mu;exact mu
  have ntup:∀ c xs,H c=some (.tup xs)→c≠x:=fun c xs r z=>by subst z;rw [r] at mu;exact mu
  by_cases hb:b=x
  · subst hb;rw [ze] at q;cases q;exact new
  · rw [zi hb] at q
    by_cases hbe:b=e
    · have q':H b=some (.own x):=by
        rcases he with z | z
        · exact absurd (hbe.trans z) hb
        · rw [hbe];exact z
      rw [q] at q';cases q'
      obtain ⟨v,hv⟩:=heo
      exact ⟨v,by rw [hbe];exact hv⟩
    · refine (ok b u q).stay (fun c v hc r=>k c v ?_ r) (fun c r=>by rw [zi (nown c b r)];exact r) fun c xs r=>by rw [zi (ntup c xs r)];exact r
      rcases hc with rfl | hc
      · exact hbe
      · rintro rfl
        rcases he with z | z
        · exact nown c b hc z
        · rw [hc] at z;cases z;exact hb rfl
end
structure Un (fs ex:List Addr) (H H':Hp) (h h':Heap):Prop where
  keep:∀ b o,h.get? b=some o→H b=none→b ∉ fs→b ∉ ex→h'.get? b=some o
  slot:∀ b o,h.get? b=some o→H b=none→b∈fs→b ∉ ex→∃ sl,h'.get? b=some {o with slots:=sl}
  free:∀ b o,h.get? b=some o→H b=none→b ∉ ex→H' b=none
  there:∀ b o,h.get? b=some o→b ∉ ex→∃ o',h'.get? b=some o'
  tups:∀ b xs,H b=some (.tup xs)→H' b=some (.tup xs)
  frzs:∀ b o u,H b=some (.frz o u)→H' b=some (.frz o u)
  tbls:∀ b ps,H b=some (.tbl ps)→∃ more,H' b=some (.tbl (ps++more))
section
variable {fs fs' ex ex':List Addr} {H H1 H2:Hp} {h h1 h2 h':Heap} {a x e:Addr} {o:HO}
theorem Un.any (u:Un fs ex H H1 h h1) {b:Addr} {ob:Obj} (q:h.get? b=some ob) (n:H b=none) (hx:b ∉ ex):∃ sl,h1.get? b=some {ob with slots:=sl}:=by
  by_cases hb:b∈fs
  · exact u.slot b ob q n hb hx
  · exact ⟨ob.slots,u.keep b ob q n hb hx⟩
theorem Un.kept (k:∀ b u,h.get? b=some u→h'.get? b=some u):Un fs ex H H h h' :=
  ⟨fun b ob q _ _ _=>k b ob q,fun b ob q _ _ _=>⟨ob.slots,k b ob q⟩,fun _ _ _ n _=>n,fun b ob q _=>⟨ob,k b ob q⟩,fun _ _ q=>q,fun _ _ _ q=>q,fun _ ps q=>⟨#[],by rw [q];simp⟩⟩
theorem Un.refl:Un fs ex H H h h:=Un.kept fun _ _ q=>q
theorem Un.laid (k:∀ b u,h.get? b=some u→h'.get? b=some u) (hp:h.objs.size≤a) (hn:H a=none):Un fs ex H (upd H a o) h h' where
  keep:=fun b u q _ _ _=>k b u q
  slot:=fun b u q _ _ _=>⟨u.slots,k b u q⟩
  free:=fun b u q n _=>by rw [zi (Nat.ne_of_lt (Nat.lt_of_lt_of_le (Heap.lt_size q) hp))];exact n
  there:=fun b u q _=>⟨u,k b u q⟩
  tups:=fun b xs q=>by rw [zi (zn q hn)];exact q
  frzs:=fun b u xs q=>by rw [zi (zn q hn)];exact q
  tbls:=fun b ps q=>⟨#[],by rw [zi (zn q hn),q];simp⟩
theorem Un.write (mu:Mut (H x)) (he:e=x∨H e=some (.own x)) (k:∀ b u,b≠e→h.get? b=some u→h'.get? b=some u) (heo:∃ u,h'.get? e=some u):Un fs ex H (upd H x o) h h':=by
  have hx:∀ b,H b=none→b≠x:=fun b n z=>by subst z;rw [n] at mu;exact mu
  have hb:∀ b,H b=none→b≠e:=fun b n z=>by
    subst z
    rcases he with r | r
    · exact hx b n r
    · rw [n] at r;cases r
  have hm:∀ b u,H b=some u→¬ Mut (some u)→b≠x:=fun b u q nm z=>by subst z;rw [q] at mu;exact nm mu
  refine ⟨fun b u q n _ _=>k b u (hb b n) q,fun b u q n _ _=>⟨u.slots,k b u (hb b n) q⟩,fun b u q n _=>by rw [zi (hx b n)];exact n,fun b u q _=>?_,
    fun b xs q=>by rw [zi (hm b _ q fun z=>z)];exact q,fun b u xs q=>by rw [zi (hm b _ q fun z=>z)];exact q,fun b ps q=>⟨#[],by rw [zi (hm b _ q fun z=>z),q];simp⟩⟩
  by_cases hbe:b=e
  · subst hbe;exact heo
  · exact ⟨u,k b u hbe q⟩
end
def trk (h:Heap) (H:Hp):List Addr:=(List.range h.objs.size).filter fun a=>(H a).isSome
def hidT (h:Heap) (H:Hp):Heap:=PySem.W.hideAll h (trk h H)
theorem zla (h:Heap) (H:Hp):(hidT h H).objs.size=h.objs.size:=PySem.W.hideAll_size _ _
theorem zne {h:Heap} {H:Hp} {b:Addr} {o:Obj} (e:h.get? b=some o) (n:H b=none):(hidT h H).get? b=some o :=
  PySem.W.hideAll_get _ e fun hm=>by
    have q:(H b).isSome=true:=(List.mem_filter.mp hm).2
    rw [n] at q;simp at q
theorem zox {h:Heap} {H:Hp} {b:Addr} {o:Obj} (e:(hidT h H).get? b=some o):h.get? b=some o∧H b=none:=by
  have e':h.get? b=some o:=PySem.W.of_hideAll (trk h H) e
  refine ⟨e',?_⟩
  cases q:H b with
  | none=>rfl
  | some x =>
    have hm:b∈trk h H:=List.mem_filter.mpr ⟨List.mem_range.mpr (Heap.lt_size e'),by simp [q]⟩
    have z:(hidT h H).get? b=none:=PySem.W.hideAll_none (trk h H) hm
    rw [z] at e;cases e
end L2
namespace L2
open PySem PySem.Spec PyProof.Rows
structure Mod (K:PySem.W.Frag) (mg:Str→Option Value) (base:Heap):Prop where
  kin:K.In base
  glob:base.Ns mainGlobals mg
  blt:∃ mb,base.Ns builtinsNs mb∧∀ x:Str,x≠"__name__"→mb x=bootBuiltins x
  nolimit:base.NoLimit
structure Cx where
  prog:Program
  w:World
  K:PySem.W.Frag
  mg:Str→Option Value
  base:Heap
  A:Around
  N:List Str
  s₀:Shared
  H₀:Hp
  env:Env
  outer:List Env
  stack:List Env
  ex:List Addr
  fn:Str→Bool
  calm:Bool
  pn:List (Addr × Obj)
  xe:Value→Shared→Prop
def frs (l:List Env):List Addr:=l.filterMap (·.frame)
abbrev Cx.fs (X:Cx):List Addr:=frs X.outer
def Vis (sc:Scope) (x:Str):Prop:=sc.names.lookup x=some .local∨sc.names.lookup x=some .cell∨sc.names.lookup x=some .free
def Loc (sc:Scope) (x:Str):Prop:=sc.names.lookup x=some .local∨sc.names.lookup x=some .cell
def Look (env:Env) (h:Heap) (m:Str→Option Value) (x:Str) (u:Value):Prop :=
  (env.kindOf x=some .local∧m x=some u)∨((env.kindOf x=some .cell∨env.kindOf x=some .free)∧∃ c,env.cells.lookup x=some c∧h.IsCell c (some u))
structure Cx.Ok (X:Cx):Prop where
  mod:Mod X.K X.mg X.base
  kind:X.env.scope.kind=.function
  glob:X.env.globals=mainGlobals
  blt:X.env.builtins=builtinsNs
  above:X.s₀.heap.objs.size≤X.env.locals
  inj:∀ x y c,X.env.cells.lookup x=some c→X.env.cells.lookup y=some c→x=y
  has:∀ x,(X.env.kindOf x=some .cell∨X.env.kindOf x=some .free)→∃ c,X.env.cells.lookup x=some c
  cab:∀ x c,X.fn x=true→X.env.cells.lookup x=some c→X.s₀.heap.objs.size≤c
  hd:X.calm=true→X.A.handled=none
  frames:X.A.frames=some X.stack
  stk:X.stack=X.outer∨(X.stack=X.env::X.outer∧X.env.frame=some X.env.locals)
  exf:∀ b∈X.ex,b≠X.env.locals∧∀ x c,X.env.cells.lookup x=some c→c≠b
  bs:∀ b o,X.base.get? b=some o→X.s₀.heap.get? b=some o∧X.H₀ b=none
  bsz:X.base.objs.size≤X.s₀.heap.objs.size
  noex:∀ b o,X.base.get? b=some o→b ∉ X.ex
  exfs:∀ b∈X.ex,b ∉ X.fs
  funs:X.s₀.heap.FunFrames X.base X.outer
  frf:∀ b∈X.fs,X.H₀ b=none
structure Inv (X:Cx) (pins:List (Addr × Obj)) (σ:List (Option V)) (H:Hp) (s:Shared):Prop where
  ok:X.Ok
  os:s.os=X.s₀.os
  bare:AllBare s.gens
  base:Un X.fs X.ex X.H₀ H X.s₀.heap s.heap
  loc:∃ m,s.heap.Ns X.env.locals m∧∀ (i:Nat) (x:Str) (v:V),X.N[i]?=some x→σ[i]?=some (some v)→Vis X.env.scope x→∃ u,RelV v u∧Look X.env s.heap m x u
  cell:∀ x c,X.env.cells.lookup x=some c→∃ v,s.heap.IsCell c v
  free:H X.env.locals=none
  freeC:∀ x c,X.env.cells.lookup x=some c→H c=none
  pin:∀ p∈X.pn++pins,s.heap.get? p.1=some p.2∧H p.1=none∧p.1≠X.env.locals∧p.1 ∉ X.fs∧∀ v,p.2.data≠.cell v
  hok:HOk X.prog X.w H s.heap
  len:σ.length=X.N.length
section
variable {X:Cx} {pins:List (Addr × Obj)} {σ:List (Option V)} {H H':Hp} {s:Shared} {h':Heap}
theorem Cx.Ok.nofr (ok:X.Ok) {b:Addr} {o:Obj} (e:X.base.get? b=some o):b ∉ X.fs:=fun hb=>by
  have:=(ok.funs.mem hb).1
  rw [e] at this;cases this
theorem Inv.bs (I:Inv X pins σ H s):∀ b o,X.base.get? b=some o→s.heap.get? b=some o∧H b=none:=fun b o e =>
  ⟨I.base.keep b o (I.ok.bs b o e).1 (I.ok.bs b o e).2 (I.ok.nofr e) (I.ok.noex b o e),I.base.free b o (I.ok.bs b o e).1 (I.ok.bs b o e).2 (I.ok.noex b o e)⟩
theorem Inv.bk (I:Inv X pins σ H s):∀ b o,X.base.get? b=some o→s.heap.get? b=some o:=fun b o e=>(I.bs b o e).1
theorem Inv.mod (I:Inv X pins σ H s):Mod X.K X.mg X.base:=I.ok.mod
theorem Inv.kIn (I:Inv X pins σ H s):X.K.In s.heap:=I.ok.mod.kin.keeps I.bk
theorem Inv.lt (I:Inv X pins σ H s):X.env.locals<s.heap.objs.size:=let ⟨_,hn,_⟩:=I.loc;hn.lt
theorem Inv.sz (I:Inv X pins σ H s):X.s₀.heap.objs.size≤s.heap.objs.size:=Nat.le_trans I.ok.above (Nat.le_of_lt I.lt)
theorem Inv.nofs (I:Inv X pins σ H s) {a:Addr} (h:s.heap.objs.size≤a):a ∉ X.fs:=fun hb=>by
  obtain ⟨_,o,ho,_⟩:=I.ok.funs.mem hb
  exact absurd (Nat.lt_of_lt_of_le (Heap.lt_size ho) (Nat.le_trans I.sz h)) (Nat.lt_irrefl _)
theorem Inv.cne (I:Inv X pins σ H s):∀ x c,X.env.cells.lookup x=some c→c≠X.env.locals:=fun x c e z=>by
  obtain ⟨v,o,ho,hd⟩:=I.cell x c e
  obtain ⟨m,⟨o',es,ep,ho',hd',_⟩,_⟩:=I.loc
  rw [z,ho'] at ho;cases ho;rw [hd'] at hd;cases hd
theorem Inv.funs (I:Inv X pins σ H s):s.heap.FunFrames X.base X.outer:=by
  have all:∀ (l:List Env),(∀ b∈frs l,b∈X.fs)→X.s₀.heap.FunFrames X.base l→s.heap.FunFrames X.base l:=by
    intro l
    induction l with
    | nil=>intro _ _;trivial
    | cons env r ih =>
      intro hs hl
      obtain ⟨hk,⟨L,o,hf,hn,ho,hd⟩,hr⟩:=hl
      have hL:L∈X.fs:=hs L (by unfold frs;rw [List.filterMap_cons,hf];exact List.mem_cons_self)
      obtain ⟨sl,e⟩:=I.base.slot L o ho (I.ok.frf L hL) hL fun z=>I.ok.exfs L z hL
      exact ⟨hk,⟨L,_,hf,hn,e,hd⟩,ih (fun b hb=>hs b (by unfold frs;rw [List.filterMap_cons,hf];exact List.mem_cons_of_mem _ hb)) hr⟩
  exact all X.outer (fun _ hb=>hb) I.ok.funs
theorem Inv.stack (I:Inv X pins σ H s):s.heap.FunFrames X.base X.stack:=by
  rcases I.ok.stk with e | ⟨e,hf⟩
  · rw [e];exact I.funs
  · rw [e]
    obtain ⟨m,hn,_⟩:=I.loc
    refine .cons (by rw [I.ok.kind];decide) hf hn ?_ I.funs
    exact Heap.get?_none_of_le (Nat.le_trans I.ok.bsz I.ok.above)
theorem Inv.stkSub (I:Inv X pins σ H s):∀ b∈frs X.stack,b∈X.env.locals::X.fs:=fun b hb=>by
  rcases I.ok.stk with e | ⟨e,hf⟩
  · rw [e] at hb;exact List.mem_cons_of_mem _ hb
  · rw [e] at hb
    unfold frs at hb
    rw [List.filterMap_cons,hf] at hb
    exact hb
theorem Inv.stkFree (I:Inv X pins σ H s):∀ b∈frs X.stack,H b=none:=fun b hb=>by
  rcases List.mem_cons.mp (I.stkSub b hb) with e | hb
  · rw [e];exact I.free
  · obtain ⟨_,o,ho,_⟩:=I.ok.funs.mem hb
    exact I.base.free b o ho (I.ok.frf b hb) fun z=>I.ok.exfs b z hb
theorem Inv.step {g':Array GenState} {t':Nat} {d':Drawn} {ch:List Addr} (I:Inv X pins σ H s)
    (hch:∀ b∈ch,(b∈X.ex∨X.s₀.heap.objs.size≤b)∧b≠X.env.locals∧(∀ x c,X.env.cells.lookup x=some c→c≠b)∧∀ p∈X.pn++pins,p.1≠b)
    (keep:∀ b o,b≠X.env.locals→b ∉ X.fs→b ∉ ch→s.heap.get? b=some o→H b=none→h'.get? b=some o)
    (slot:∀ b o,b≠X.env.locals→b∈X.fs→b ∉ ch→s.heap.get? b=some o→H b=none→∃ sl,h'.get? b=some {o with slots:=sl}) (free:∀ b o,b ∉ ch→s.heap.get? b=some o→H b=none→H' b=none)
    (there:∀ b o,b ∉ ch→s.heap.get? b=some o→∃ o',h'.get? b=some o')
    (tups:∀ b xs,H b=some (.tup xs)→H' b=some (.tup xs)) (frzs:∀ b o u,H b=some (.frz o u)→H' b=some (.frz o u)) (tbls:∀ b ps,H b=some (.tbl ps)→∃ more,H' b=some (.tbl (ps++more)))
    (ns:∀ m,s.heap.Ns X.env.locals m→h'.Ns X.env.locals m) (hok:HOk X.prog X.w H' h') (hg:AllBare g') :
    Inv X pins σ H' {s with heap:=h',gens:=g',drawn:=d',toks:=t'}:=by
  have neL:∀ b o,X.s₀.heap.get? b=some o→b≠X.env.locals:=fun b o e=>Nat.ne_of_lt (Nat.lt_of_lt_of_le (Heap.lt_size e) I.ok.above)
  have neC:∀ b o,X.s₀.heap.get? b=some o→b ∉ X.ex→b ∉ ch:=fun b o e hx hb=>by
    rcases (hch b hb).1 with z | z
    · exact hx z
    · exact absurd (Nat.lt_of_lt_of_le (Heap.lt_size e) z) (Nat.lt_irrefl _)
  have cellK:∀ x c,X.env.cells.lookup x=some c→∀ v,s.heap.IsCell c v→h'.IsCell c v:=fun x c e v ⟨o,ho,hd⟩=>by
    have nch:c ∉ ch:=fun z=>(hch c z).2.2.1 x c e rfl
    by_cases hc:c∈X.fs
    · obtain ⟨sl,q⟩:=slot c o (I.cne x c e) hc nch ho (I.freeC x c e)
      exact ⟨_,q,hd⟩
    · exact ⟨o,keep c o (I.cne x c e) hc nch ho (I.freeC x c e),hd⟩
  refine ⟨I.ok,I.os,hg,⟨fun b o e n hb hx=>?_,fun b o e n hb hx=>?_,fun b o e n hx=>?_,fun b o e hx=>?_,fun b xs e=>tups b xs (I.base.tups b xs e),fun b o xs e=>frzs b o xs (I.base.frzs b o xs e),fun b ps e=>?_⟩,?_,fun x c e=>?_,?_,fun x c e=>?_,fun p hp=>?_,hok,I.len⟩
  · exact keep b o (neL b o e) hb (neC b o e hx) (I.base.keep b o e n hb hx) (I.base.free b o e n hx)
  · obtain ⟨sl,e1⟩:=I.base.slot b o e n hb hx
    obtain ⟨sl',e2⟩:=slot b _ (neL b o e) hb (neC b o e hx) e1 (I.base.free b o e n hx)
    exact ⟨sl',e2⟩
  · obtain ⟨o',e1⟩:=I.base.there b o e hx
    exact free b o' (neC b o e hx) e1 (I.base.free b o e n hx)
  · obtain ⟨o',e1⟩:=I.base.there b o e hx
    exact there b o' (neC b o e hx) e1
  · obtain ⟨m1,e1⟩:=I.base.tbls b ps e
    obtain ⟨m2,e2⟩:=tbls b _ e1
    exact ⟨m1++m2,by rw [e2,Array.append_assoc]⟩
  · obtain ⟨m,hn,hl⟩:=I.loc
    refine ⟨m,ns m hn,fun i x v e1 e2 e3=>?_⟩
    obtain ⟨u,r,l⟩:=hl i x v e1 e2 e3
    refine ⟨u,r,?_⟩
    rcases l with l | ⟨k,c,e,z⟩
    · exact .inl l
    · exact .inr ⟨k,c,e,cellK x c e _ z⟩
  · obtain ⟨v,z⟩:=I.cell x c e
    exact ⟨v,cellK x c e v z⟩
  · obtain ⟨m,⟨o,_,_,ho,_⟩,_⟩:=I.loc
    exact free _ o (fun z=>(hch _ z).2.1 rfl) ho I.free
  · obtain ⟨v,o,ho,hd⟩:=I.cell x c e
    exact free c o (fun z=>(hch c z).2.2.1 x c e rfl) ho (I.freeC x c e)
  · obtain ⟨e,n,ne,nf,d⟩:=I.pin p hp
    have nch:p.1 ∉ ch:=fun z=>(hch p.1 z).2.2.2 p hp rfl
    exact ⟨keep p.1 p.2 ne nf nch e n,free p.1 p.2 nch e n,ne,nf,d⟩
theorem Inv.un {t':Nat} (I:Inv X pins σ H s) (u:Un X.fs [] H H' s.heap h') (hok:HOk X.prog X.w H' h'):Inv X pins σ H' {s with heap:=h',toks:=t'}:=by
  obtain ⟨m,⟨o,es,ep,ho,r⟩,_⟩:=id I.loc
  obtain ⟨sl,hL⟩:=u.any ho I.free (by simp)
  exact I.step (g':=s.gens) (d':=s.drawn) (ch:=[]) (fun _ z=>nomatch z) (fun b o _ hb _ e n=>u.keep b o e n hb (by simp)) (fun b o _ hb _ e n=>u.slot b o e n hb (by simp)) (fun b o _ e n=>u.free b o e n (by simp)) (fun b o _ e=>u.there b o e (by simp)) u.tups u.frzs u.tbls (fun m' hm=>by
    obtain ⟨o',es',ep',ho',r'⟩:=hm
    rw [ho] at ho';cases ho'
    exact ⟨_,es',ep',hL,r'⟩) hok I.bare
theorem Inv.call {g':Array GenState} {t':Nat} {d':Drawn} {ch:List Addr} (I:Inv X pins σ H s) (u:Un (frs X.stack) ch H H' s.heap h') (hok:HOk X.prog X.w H' h') (hg:AllBare g')
    (hch:∀ b∈ch,(b∈X.ex∨X.s₀.heap.objs.size≤b)∧b≠X.env.locals∧(∀ x c,X.env.cells.lookup x=some c→c≠b)∧∀ p∈X.pn++pins,p.1≠b) :
    Inv X pins σ H' {s with heap:=h',gens:=g',drawn:=d',toks:=t'}:=by
  obtain ⟨m,⟨o,es,ep,ho,r⟩,_⟩:=id I.loc
  obtain ⟨sl,hL⟩:=u.any ho I.free fun z=>(hch _ z).2.1 rfl
  exact I.step (ch:=ch) hch (fun b o hL hb hc e n=>u.keep b o e n (fun z=>(List.mem_cons.mp (I.stkSub b z)).elim hL hb) hc) (fun b o _ _ hc e n=>u.any e n hc) (fun b o hc e n=>u.free b o e n hc) (fun b o hc e=>u.there b o e hc) u.tups u.frzs u.tbls (fun m' hm=>by
    obtain ⟨o',es',ep',ho',r'⟩:=hm
    rw [ho] at ho';cases ho'
    exact ⟨_,es',ep',hL,r'⟩) hok hg
theorem Inv.turned {t':Nat} {it:Addr} (I:Inv X pins σ H s) (k:∀ b o,b≠it→s.heap.get? b=some o→h'.get? b=some o) (hn:H it=none) (hL:it≠X.env.locals)
    (h1:it∈X.ex∨X.s₀.heap.objs.size≤it) (h2:∀ x c,X.env.cells.lookup x=some c→c≠it) (h3:∀ p∈X.pn++pins,p.1≠it):Inv X pins σ H {s with heap:=h',toks:=t'}:=by
  have nit:∀ b u,H b=some u→b≠it:=fun b u e z=>by rw [z,hn] at e;cases e
  refine I.step (g':=s.gens) (d':=s.drawn) (ch:=[it]) (fun b hb=>?_) (fun b o _ _ hc e _=>k b o (fun z=>hc (by simp [z])) e) (fun b o _ _ hc e _=>⟨o.slots,k b o (fun z=>hc (by simp [z])) e⟩) (fun _ _ _ _ n=>n)
    (fun b o hc e=>⟨o,k b o (fun z=>hc (by simp [z])) e⟩) (fun _ _ e=>e) (fun _ _ _ e=>e) (fun b ps e=>⟨#[],by rw [e];simp⟩) (fun m hm=>?_) (fun b u e=>?_) I.bare
  · have e:b=it:=by simpa using hb
    subst e
    exact ⟨h1,hL,h2,h3⟩
  · obtain ⟨o,es,ep,ho,r⟩:=hm
    exact ⟨o,es,ep,k _ o (Ne.symm hL) ho,r⟩
  · refine (I.hok b u e).stay (fun c v hc q=>k c v ?_ q) (fun _ q=>q) fun _ _ q=>q
    rcases hc with z | z
    · rw [z];exact nit b u e
    · exact nit c _ z
theorem Inv.tok (I:Inv X pins σ H s) (t:Nat):Inv X pins σ H {s with toks:=t}:=I.un (h':=s.heap) (t':=t) Un.refl I.hok
theorem Inv.kept {t':Nat} (I:Inv X pins σ H s) (k:∀ b u,s.heap.get? b=some u→h'.get? b=some u):Inv X pins σ H {s with heap:=h',toks:=t'}:=I.un (Un.kept k) (I.hok.kept k)
theorem Inv.laid {a:Addr} {o:HO} {t':Nat} (I:Inv X pins σ H s) (k:∀ b u,s.heap.get? b=some u→h'.get? b=some u) (hp:s.heap.objs.size≤a) (new:ObjOk X.prog X.w (upd H a o) h' a o) :
    Inv X pins σ (upd H a o) {s with heap:=h',toks:=t'}:=I.un (Un.laid k hp (I.hok.fresh hp)) (I.hok.laid k hp new)
theorem Inv.write {x e:Addr} {o:HO} {t':Nat} (I:Inv X pins σ H s) (mu:Mut (H x)) (he:e=x∨H e=some (.own x)) (k:∀ b u,b≠e→s.heap.get? b=some u→h'.get? b=some u) (heo:∃ u,h'.get? e=some u)
    (new:ObjOk X.prog X.w (upd H x o) h' x o):Inv X pins σ (upd H x o) {s with heap:=h',toks:=t'}:=I.un (Un.write mu he k heo) (I.hok.write mu he k heo new)
theorem Inv.weak {σ':List (Option V)} (I:Inv X pins σ H s) (hl:σ'.length=σ.length) (w:∀ (i:Nat) v,σ'[i]?=some (some v)→σ[i]?=some (some v)):Inv X pins σ' H s :=
  ⟨I.ok,I.os,I.bare,I.base,let ⟨m,hn,hl'⟩:=I.loc;⟨m,hn,fun i x v e1 e2 e3=>hl' i x v e1 (w i v e2) e3⟩,I.cell,I.free,I.freeC,I.pin,I.hok,hl.trans I.len⟩
theorem Inv.pins_of {pins':List (Addr × Obj)} (I:Inv X pins σ H s) (h:∀ p∈pins',s.heap.get? p.1=some p.2∧H p.1=none∧p.1≠X.env.locals∧p.1 ∉ X.fs∧∀ v,p.2.data≠.cell v):Inv X pins' σ H s :=
  ⟨I.ok,I.os,I.bare,I.base,I.loc,I.cell,I.free,I.freeC,fun p hp=>(List.mem_append.mp hp).elim (fun z=>I.pin p (List.mem_append_left _ z)) (h p),I.hok,I.len⟩
theorem zgx {N:List Str} (hN:N.Nodup) {i j:Nat} {x:Str} (a:N[i]?=some x) (b:N[j]?=some x):i=j:=by
  obtain ⟨h1,e1⟩:=List.getElem?_eq_some_iff.mp a
  obtain ⟨h2,e2⟩:=List.getElem?_eq_some_iff.mp b
  exact (List.getElem_inj hN).mp (e1.trans e2.symm)
theorem zfo {M:Model} {A:Around} {E:Value→Shared→Prop} {i:Nat} {x:Str} {v:V} {u:Value} {Q:Unit→Shared→Prop} (I:Inv X pins σ H s) (hN:X.N.Nodup) (hi:X.N[i]?=some x) (hx:Loc X.env.scope x) (r:RelV v u)
    (h:∀ s',Inv X pins (σ.set i (some v)) H s'→(∃ a,Heap.SameBut a s.heap s'.heap∧(a=X.env.locals∨X.env.cells.lookup x=some a))→Q () s') (hf:X.fn x=true∨X.env.scope.names.lookup x=some .local:=by first | exact .inl rfl | exact .inr rfl | assumption):wpAny M A (storeName X.env x u) Q E s:=by
  obtain ⟨m,hn,hl⟩:=id I.loc
  have hcls:(X.env.scope.kind==.class||(X.env.scope.kind==.module&&X.env.locals != X.env.globals))=false:=by rw [I.ok.kind];rfl
  have hiσ:i<σ.length:=by rw [I.len];exact (List.getElem?_eq_some_iff.mp hi).1
  have cne:=I.cne
  have tracked:∀ {a:Addr} {h':Heap},(∃ o,s.heap.get? a=some o∧H a=none)→Heap.SameBut a s.heap h'→HOk X.prog X.w H h':=fun {a h'} ha hs b ob e=>by
    obtain ⟨_,_,hfree⟩:=ha
    refine (I.hok b ob e).stay (fun c w' hc q=>(hs.2 c ?_).trans q) (fun _ q=>q) fun _ _ q=>q
    rintro rfl
    rcases hc with rfl | hc
    · rw [hfree] at e;cases e
    · rw [hfree] at hc;cases hc
  rcases hx with hk | hk
  · refine wpAny_storeName_local hk hn (fun h' hn' hs=>?_) hcls
    obtain ⟨oL,_,_,hoL,_⟩:=id hn
    refine h _ ⟨I.ok,I.os,I.bare,⟨fun b o e n hb hx=>?_,fun b o e n hb hx=>?_,I.base.free,fun b o e hx=>?_,I.base.tups,I.base.frzs,I.base.tbls⟩,⟨_,hn',fun j y v' e1 e2 e3=>?_⟩,fun y c e=>?_,I.free,I.freeC,fun p hp=>?_,tracked ⟨oL,hoL,I.free⟩ hs,by simpa using I.len⟩ ⟨_,hs,.inl rfl⟩
    · exact (hs.2 b (Nat.ne_of_lt (Nat.lt_of_lt_of_le (Heap.lt_size e) I.ok.above))).trans (I.base.keep b o e n hb hx)
    · obtain ⟨sl,e1⟩:=I.base.slot b o e n hb hx
      exact ⟨sl,(hs.2 b (Nat.ne_of_lt (Nat.lt_of_lt_of_le (Heap.lt_size e) I.ok.above))).trans e1⟩
    · obtain ⟨o',e1⟩:=I.base.there b o e hx
      exact ⟨o',(hs.2 b (Nat.ne_of_lt (Nat.lt_of_lt_of_le (Heap.lt_size e) I.ok.above))).trans e1⟩
    · by_cases hj:j=i
      · subst hj
        rw [hi] at e1;cases e1
        rw [List.getElem?_set_self hiσ] at e2
        cases e2
        exact ⟨u,r,.inl ⟨hk,by simp⟩⟩
      · rw [List.getElem?_set_ne (Ne.symm hj)] at e2
        obtain ⟨u',r',q⟩:=hl j y v' e1 e2 e3
        refine ⟨u',r',?_⟩
        rcases q with ⟨k,e⟩ | ⟨k,c,e,z⟩
        · refine .inl ⟨k,?_⟩
          have:y≠x:=fun e=>hj (zgx hN e1 (e ▸ hi))
          simp [this,e]
        · exact .inr ⟨k,c,e,z.sameBut hs (cne y c e)⟩
    · obtain ⟨w',z⟩:=I.cell y c e
      exact ⟨w',z.sameBut hs (cne y c e)⟩
    · obtain ⟨e,n,ne,nf,d⟩:=I.pin p hp
      exact ⟨(hs.2 p.1 ne).trans e,n,ne,nf,d⟩
  · have hfn:X.fn x=true:=by
      rcases hf with z | z
      · exact z
      · rw [z] at hk;cases hk
    obtain ⟨c,hc⟩:=I.ok.has x (.inl hk)
    obtain ⟨w',z⟩:=I.cell x c hc
    refine wpAny_storeName_cell I.ok.kind hk hc z (fun h' hc' hs=>?_)
    obtain ⟨oc,hoc,hocd⟩:=id z
    refine h {s with heap:=h'} ⟨I.ok,I.os,I.bare,⟨fun b o e n hb hx=>?_,fun b o e n hb hx=>?_,I.base.free,fun b o e hx=>?_,I.base.tups,I.base.frzs,I.base.tbls⟩,⟨m,hn.sameBut hs (Ne.symm (cne x c hc)),fun j y v' e1 e2 e3=>?_⟩,fun y c' e=>?_,I.free,I.freeC,fun p hp=>?_,tracked ⟨oc,hoc,I.freeC x c hc⟩ hs,by simpa using I.len⟩ ⟨c,hs,.inr hc⟩
    · exact (hs.2 b (Nat.ne_of_lt (Nat.lt_of_lt_of_le (Heap.lt_size e) (I.ok.cab x c hfn hc)))).trans (I.base.keep b o e n hb hx)
    · obtain ⟨sl,e1⟩:=I.base.slot b o e n hb hx
      exact ⟨sl,(hs.2 b (Nat.ne_of_lt (Nat.lt_of_lt_of_le (Heap.lt_size e) (I.ok.cab x c hfn hc)))).trans e1⟩
    · obtain ⟨o',e1⟩:=I.base.there b o e hx
      exact ⟨o',(hs.2 b (Nat.ne_of_lt (Nat.lt_of_lt_of_le (Heap.lt_size e) (I.ok.cab x c hfn hc)))).trans e1⟩
    · by_cases hj:j=i
      · subst hj
        rw [hi] at e1;cases e1
        rw [List.getElem?_set_self hiσ] at e2
        cases e2
        exact ⟨u,r,.inr ⟨.inl hk,c,hc,hc'⟩⟩
      · rw [List.getElem?_set_ne (Ne.symm hj)] at e2
        obtain ⟨u',r',q⟩:=hl j y v' e1 e2 e3
        refine ⟨u',r',?_⟩
        rcases q with q | ⟨k,c',e,z'⟩
        · exact .inl q
        · refine .inr ⟨k,c',e,z'.sameBut hs ?_⟩
          rintro rfl
          exact hj (zgx hN e1 (I.ok.inj _ _ _ e hc ▸ hi))
    · by_cases hcc:c'=c
      · subst hcc;exact ⟨_,hc'⟩
      · obtain ⟨w2,z2⟩:=I.cell y c' e
        exact ⟨w2,z2.sameBut hs hcc⟩
    · obtain ⟨e,n,ne,nf,d⟩:=I.pin p hp
      refine ⟨(hs.2 p.1 ?_).trans e,n,ne,nf,d⟩
      intro q
      rw [q,hoc] at e
      have q':oc=p.2:=Option.some.inj e
      exact d w' (by rw [← q'];exact hocd)
theorem zdz {M:Model} {A:Around} {E:Value→Shared→Prop} {i:Nat} {x:Str} {v:V} {u:Value} {Q:Unit→Shared→Prop} (I:Inv X pins σ H s) (hN:X.N.Nodup) (hi:X.N[i]?=some x) (hx:Loc X.env.scope x) (r:RelV v u)
    (h:∀ s',Inv X pins (σ.set i (some v)) H s'→Q () s') (hf:X.fn x=true∨X.env.scope.names.lookup x=some .local:=by first | exact .inl rfl | exact .inr rfl | assumption):wpAny M A (storeName X.env x u) Q E s :=
  zfo I hN hi hx r (fun s' I' _=>h s' I') hf
theorem Inv.call' {s':Shared} {ch:List Addr} (I:Inv X pins σ H s) (ho:s'.os=s.os) (u:Un (frs X.stack) ch H H' s.heap s'.heap) (hok:HOk X.prog X.w H' s'.heap) (hg:AllBare s'.gens)
    (hch:∀ b∈ch,(b∈X.ex∨X.s₀.heap.objs.size≤b)∧b≠X.env.locals∧(∀ x c,X.env.cells.lookup x=some c→c≠b)∧∀ p∈X.pn++pins,p.1≠b):Inv X pins σ H' s':=by
  obtain ⟨h',g',d',t',o'⟩:=s'
  have e:o'=s.os:=ho
  subst e
  exact I.call (g':=g') (t':=t') (d':=d') u hok hg hch
end
abbrev XK:=Value→Option Addr→Hp→Prop
abbrev St:=List (Option V)
abbrev VK:=V→Hp→Prop
abbrev TE:=St→Hp→VK→Prop
abbrev TT:=St→Hp→(Bool→Hp→Prop)→Prop
abbrev TA:=St→Hp→(List V→Hp→Prop)→Prop
structure Ends where
  nx:St→Hp→Prop
  rt:VK
  bk:St→Hp→Prop:=fun _ _=>False
  ct:St→Hp→Prop:=fun _ _=>False
abbrev TS:=Ends→St→Hp→Prop
def EP (X:Cx) (pins:List (Addr × Obj)) (σ:St) (Q:VK) (u:Value) (s':Shared):Prop:=∃ v H',Inv X pins σ H' s'∧RelV v u∧Q v H'
def TP (X:Cx) (pins:List (Addr × Obj)) (σ:St) (Q:Bool→Hp→Prop) (b:Bool) (s':Shared):Prop:=∃ H',Inv X pins σ H' s'∧Q b H'
def AP (X:Cx) (pins:List (Addr × Obj)) (σ:St) (Q:List V→Hp→Prop) (us:List Value) (s':Shared):Prop:=∃ vs H',Inv X pins σ H' s'∧Vals vs us∧Q vs H'
def SP (X:Cx) (pins:List (Addr × Obj)) (D:Ends) (f:Flow) (s':Shared):Prop :=
  match f with
  | .next=>∃ σ' H',Inv X pins σ' H' s'∧D.nx σ' H'
  | .brk=>∃ σ' H',Inv X pins σ' H' s'∧D.bk σ' H'
  | .cont=>∃ σ' H',Inv X pins σ' H' s'∧D.ct σ' H'
  | .ret u=>∃ v σ' H',Inv X pins σ' H' s'∧RelV v u∧D.rt v H'
def PE (X:Cx) (e:Expr) (t:TE):Prop :=
  ∀ (pins:List (Addr × Obj)) (s:Shared) (σ:St) (H:Hp) (Q:VK),Inv X pins σ H s→t σ H Q→wpAny (model X.prog X.w) X.A (eval e X.env) (EP X pins σ Q) X.xe s
def PT (X:Cx) (e:Expr) (t:TT):Prop :=
  ∀ (pins:List (Addr × Obj)) (s:Shared) (σ:St) (H:Hp) (Q:Bool→Hp→Prop),Inv X pins σ H s→t σ H Q→wpAny (model X.prog X.w) X.A (isTrue e X.env (eval e X.env)) (TP X pins σ Q) X.xe s
def PW (X:Cx) (e:Expr) (t:TT):Prop :=
  ∀ (whole:Sem Value) (pins:List (Addr × Obj)) (s:Shared) (σ:St) (H:Hp) (Q:Bool→Hp→Prop),Inv X pins σ H s→t σ H Q→wpAny (model X.prog X.w) X.A (isTrue e X.env whole) (TP X pins σ Q) X.xe s
theorem PW.pt {X:Cx} {e:Expr} {t:TT} (h:PW X e t):PT X e t:=h _
def PA (X:Cx) (es:List Expr) (t:TA):Prop :=
  ∀ (pos:Pos) (pins:List (Addr × Obj)) (s:Shared) (σ:St) (H:Hp) (Q:List V→Hp→Prop),Inv X pins σ H s→t σ H Q→wpAny (model X.prog X.w) X.A (spliced (backTo pos (starEach es X.env))) (AP X pins σ Q) X.xe s
def PS (X:Cx) (st:Stmt) (t:TS):Prop :=
  ∀ (pins:List (Addr × Obj)) (s:Shared) (σ:St) (H:Hp) (D:Ends),Inv X pins σ H s→t D σ H→wpAny (model X.prog X.w) X.A (exec st X.env) (SP X pins D) X.xe s
def PSs (X:Cx) (st:List Stmt) (t:TS):Prop :=
  ∀ (pins:List (Addr × Obj)) (s:Shared) (σ:St) (H:Hp) (D:Ends),Inv X pins σ H s→t D σ H→wpAny (model X.prog X.w) X.A (execs st X.env) (SP X pins D) X.xe s
theorem thn {α:Type} {t:Sem α} {Q Q':α→Shared→Prop} {M:Model} {A:Around} {E:Value→Shared→Prop} {s:Shared} (h:wpAny M A t Q E s) (hQ:∀ a s,Q a s→Q' a s):wpAny M A t Q' E s:=wpAny_mono h hQ fun _ _ x=>x
end L2
namespace L2
open PySem PySem.Spec PyProof.Rows
section
variable {X:Cx}
def tVar (i:Nat):TE:=fun σ H Q=>∃ v,σ[i]?=some (some v)∧Q v H
def tC (v:V):TE:=fun _ H Q=>Q v H
theorem zp5 {i:Nat} {x:Str} {pos:Pos} (hN:X.N[i]?=some x) (hv:Vis X.env.scope x) (hd:(x==("__debug__":Str))=false:=by decide) (hcd:(x==("__classdict__":Str))=false:=by decide):PE X (.Name x pos) (tVar i):=by
  intro pins s σ H Q I h
  obtain ⟨v,e,h⟩:=h
  obtain ⟨m,hn,hl⟩:=I.loc
  obtain ⟨u,r,l⟩:=hl i x v hN e hv
  have fin:EP X pins σ Q u s:=⟨v,H,I,r,h⟩
  rcases l with ⟨hk,hm⟩ | ⟨hk,c,hc,hcell⟩
  · exact wpAny_Name (wpAny_loadName_local I.ok.kind hk hn hm fin) hd
  · rcases hk with hk | hk
    · exact wpAny_Name (wpAny_loadName_cell I.ok.kind hk hc hcell fin) hd
    · exact wpAny_Name (wpAny_loadName_free I.ok.kind hk hc hcell fin hcd) hd
theorem zf {i j pos}:PE X (.Constant (.int i) j pos) (tC (.int i)):=fun _ _ _ H _ I h=>wpAny_Constant_int ⟨.int i,H,I.tok _,⟨_,rfl⟩,h⟩
theorem pe_bl {b j pos}:PE X (.Constant (.bool b) j pos) (tC (.bl b)):=fun _ _ _ H _ I h=>Constant_bool ⟨.bl b,H,I,rfl,h⟩
theorem zah {j pos}:PE X (.Constant .none j pos) (tC .non):=fun _ _ _ H _ I h=>Constant_none ⟨.non,H,I,rfl,h⟩
theorem zgy {x j pos}:PE X (.Constant (.str x) j pos) (tC (.str x)):=fun _ _ _ H _ I h=>Calls.Constant_str ⟨.str x,H,I.tok _,⟨_,rfl⟩,h⟩
def Gl (X:Cx) (x:Str):Prop:=X.env.kindOf x=some .globalImplicit
theorem zax {E:Value→Shared→Prop} {pins:List (Addr × Obj)} {s:Shared} {σ:St} {H:Hp} {x:Str} {u:Value} {pos:Pos} {Q:Value→Shared→Prop} (I:Inv X pins σ H s) (hg:Gl X x) (hm:X.mg x=some u) (h:Q u s)
    (hd:(x==("__debug__":Str))=false:=by decide):wpAny (model X.prog X.w) X.A (eval (.Name x pos) X.env) Q E s :=
  Calls.Name_function_global I.ok.kind hg (Calls.loadGlobal_global (by rw [I.ok.glob];exact I.mod.glob.keeps I.bk) hm h) hd
theorem zai {E:Value→Shared→Prop} {pins:List (Addr × Obj)} {s:Shared} {σ:St} {H:Hp} {x:Str} {u:Value} {pos:Pos} {Q:Value→Shared→Prop} (I:Inv X pins σ H s) (hg:Gl X x) (hm:X.mg x=none) (hv:bootBuiltins x=some u) (h:Q u s)
    (hn:x≠"__name__":=by decide) (hd:(x==("__debug__":Str))=false:=by decide):wpAny (model X.prog X.w) X.A (eval (.Name x pos) X.env) Q E s:=by
  obtain ⟨mb,h1,h2⟩:=I.mod.blt
  exact Calls.Name_function_global I.ok.kind hg (Calls.loadGlobal_builtin (by rw [I.ok.glob];exact I.mod.glob.keeps I.bk) hm (by rw [I.ok.blt];exact h1.keeps I.bk) ((h2 x hn).trans hv) h) hd
theorem vz {x:Str} {v:V} {u:Value} {pos:Pos} (hg:Gl X x) (hm:X.mg x=some u) (r:RelV v u) (hd:(x==("__debug__":Str))=false:=by decide):PE X (.Name x pos) (tC v) :=
  fun _ _ _ H _ I h=>zax I hg hm ⟨v,H,I,r,h⟩ hd
theorem ze1 {x:Str} {v:V} {u:Value} {pos:Pos} (hg:Gl X x) (hm:X.mg x=none) (hv:bootBuiltins x=some u) (r:RelV v u) (hn:x≠"__name__":=by decide) (hd:(x==("__debug__":Str))=false:=by decide):PE X (.Name x pos) (tC v) :=
  fun _ _ _ H _ I h=>zai I hg hm hv ⟨v,H,I,r,h⟩ hn hd
variable {a b:Expr} {ta tb:TE} {pos:Pos}
def PC (X:Cx) (op:CmpOp) (a b:Expr) (t:TE):Prop :=
  ∀ (pins:List (Addr × Obj)) (s:Shared) (σ:St) (H:Hp) (Q:VK),Inv X pins σ H s→t σ H Q →
    wpAny (model X.prog X.w) X.A (eval a X.env) (fun v s₁=>wpAny (model X.prog X.w) X.A (eval b X.env) (fun u s₂=>wpAny (model X.prog X.w) X.A (compareOp op v u) (EP X pins σ Q) X.xe s₂) X.xe s₁) X.xe s
def tB (t:TE):TT:=fun σ H Q=>t σ H fun x H1=>∃ c,x=.bl c∧Q c H1
theorem zlb {op:CmpOp} {t:TE} (h:PC X op a b t) (h1:behindInMarks op b=false:=by first | exact nobehind _ (by decide) (by decide) | rfl):PT X (.Compare a [op] [b] pos) (tB t):=by
  intro pins s σ H Q I hw
  refine wpAny_isTrue_Compare1 (thn (h pins s σ H _ I hw) fun v s1 h1=>thn h1 fun u s2 h2=>thn h2 fun c s3 ⟨x,H1,I1,r1,q1⟩=>?_) h1
  obtain ⟨d,rfl,q⟩:=q1
  cases r1
  exact wpAny_truthy_bool ⟨H1,I1,q⟩
theorem vc {e:Expr} {t:TE} (h:PE X e t) (he:∀ whole,isTrue e X.env whole=(do let v ← whole;standAt e.pos;holding [v] (truthy v)):=by intro _;rfl):PT X e (tB t):=by
  intro pins s σ H Q I hw
  refine isTrue_plain (thn (h pins s σ H _ I hw) fun v s1 ⟨x,H1,I1,r1,q1⟩=>?_) (he _)
  obtain ⟨d,rfl,q⟩:=q1
  cases r1
  exact wpAny_truthy_bool ⟨H1,I1,q⟩
variable {tA tB':TT} {rest:List Expr}
def tAnd (t u:TT):TT:=fun σ H Q=>t σ H fun c H1=>if c=true then u σ H1 Q else Q false H1
def tOr (t u:TT):TT:=fun σ H Q=>t σ H fun c H1=>if c=true then Q true H1 else u σ H1 Q
def tNot (t:TT):TT:=fun σ H Q=>t σ H fun c H1=>Q (!c) H1
theorem zb6 (ha:PT X a tA):PW X (.BoolOp .And [a] pos) tA:=by
  intro wh pins s σ H Q I h
  refine isTrue_and (thn (ha pins s σ H Q I h) fun c s1 e=>?_)
  cases c with
  | true=>exact isTrue_and_nil e
  | false=>exact e
theorem zcy (ha:PT X a tA):PW X (.BoolOp .Or [a] pos) tA:=by
  intro wh pins s σ H Q I h
  refine isTrue_or (thn (ha pins s σ H Q I h) fun c s1 e=>?_)
  cases c with
  | false=>exact isTrue_or_nil e
  | true=>exact e
theorem za9 (ha:PT X a tA) (hb:PW X (.BoolOp .And (b::rest) pos) tB'):PW X (.BoolOp .And (a::b::rest) pos) (tAnd tA tB'):=by
  intro wh pins s σ H Q I h
  refine isTrue_and (thn (ha pins s σ H _ I h) fun c s1 ⟨H1,I1,q1⟩=>?_)
  cases c with
  | true=>exact hb wh pins s1 σ H1 Q I1 q1
  | false=>exact ⟨H1,I1,q1⟩
theorem pw_or (ha:PT X a tA) (hb:PW X (.BoolOp .Or (b::rest) pos) tB'):PW X (.BoolOp .Or (a::b::rest) pos) (tOr tA tB'):=by
  intro wh pins s σ H Q I h
  refine isTrue_or (thn (ha pins s σ H _ I h) fun c s1 ⟨H1,I1,q1⟩=>?_)
  cases c with
  | true=>exact ⟨H1,I1,q1⟩
  | false=>exact hb wh pins s1 σ H1 Q I1 q1
theorem vt (ha:PT X a tA):PT X (.UnaryOp .Not a pos) (tNot tA):=by
  intro pins s σ H Q I h
  exact isTrue_not (ha pins s σ H (fun c H1=>Q (!c) H1) I h)
def tAndV (ta tb:TE):TE:=fun σ H Q=>ta σ H fun x H1=>∃ c,x=.bl c∧if c=true then tb σ H1 Q else Q (.bl false) H1
def tOrV (ta tb:TE):TE:=fun σ H Q=>ta σ H fun x H1=>∃ c,x=.bl c∧if c=true then Q (.bl true) H1 else tb σ H1 Q
def tNotV (ta:TE):TE:=fun σ H Q=>ta σ H fun x H1=>∃ c,x=.bl c∧Q (.bl (!c)) H1
theorem zba {op} {t:TE} (h:PE X a t):PE X (.BoolOp op [a] pos) t:=fun pins s σ H Q I hw=>BoolOp_one (h pins s σ H Q I hw)
theorem zb7 (ha:PE X a ta) (hb:PE X (.BoolOp .And (b::rest) pos) tb):PE X (.BoolOp .And (a::b::rest) pos) (tAndV ta tb):=by
  intro pins s σ H Q I h
  refine BoolOp_and (thn (ha pins s σ H _ I h) fun v s1 ⟨x,H1,I1,r1,q1⟩=>?_)
  obtain ⟨c,rfl,q1⟩:=q1
  cases r1
  refine wpAny_truthy_bool ?_
  cases c with
  | true=>exact hb pins s1 σ H1 Q I1 q1
  | false=>exact ⟨.bl false,H1,I1,rfl,q1⟩
theorem pe_or (ha:PE X a ta) (hb:PE X (.BoolOp .Or (b::rest) pos) tb):PE X (.BoolOp .Or (a::b::rest) pos) (tOrV ta tb):=by
  intro pins s σ H Q I h
  refine BoolOp_or (thn (ha pins s σ H _ I h) fun v s1 ⟨x,H1,I1,r1,q1⟩=>?_)
  obtain ⟨c,rfl,q1⟩:=q1
  cases r1
  refine wpAny_truthy_bool ?_
  cases c with
  | false=>exact hb pins s1 σ H1 Q I1 q1
  | true=>exact ⟨.bl true,H1,I1,rfl,q1⟩
theorem zeb (ha:PE X a ta):PE X (.UnaryOp .Not a pos) (tNotV ta):=by
  intro pins s σ H Q I h
  refine UnaryOp_ (thn (ha pins s σ H _ I h) fun v s1 ⟨x,H1,I1,r1,q1⟩=>?_)
  obtain ⟨c,rfl,q1⟩:=q1
  cases r1
  exact not_of (wpAny_truthy_bool ⟨.bl (!c),H1,I1,rfl,q1⟩)
def tIf (t:TT) (ta tb:TE):TE:=fun σ H Q=>t σ H fun c H1=>if c=true then ta σ H1 Q else tb σ H1 Q
theorem znf {c:Expr} (hc:PT X c tA) (ha:PE X a ta) (hb:PE X b tb):PE X (.IfExp c a b pos) (tIf tA ta tb):=by
  intro pins s σ H Q I h
  refine wpAny_IfExp (thn (hc pins s σ H _ I h) fun d s1 ⟨H1,I1,q1⟩=>?_)
  cases d with
  | true=>exact ha pins s1 σ H1 Q I1 q1
  | false=>exact hb pins s1 σ H1 Q I1 q1
end
end L2
namespace L2
open PySem PySem.Spec PyProof.Rows
def SqL (K:PySem.W.Frag) (H:Hp) (a:Addr) (xs:List V):Prop :=
  Rd H a (.lst xs) ∨
    ∃ (o:Obj) (its:Array Value) (n:Nat),K.lookup a=some o∧o.cls=.type "list"∧o.dict=none∧o.data=.seq its n∧its.size≤sizeLine∧Vals xs its.toList
def SqT (K:PySem.W.Frag) (H:Hp) (a:Addr) (xs:List V):Prop :=
  Rd H a (.tup xs) ∨
    ∃ (o:Obj) (its:Array Value) (n:Nat),K.lookup a=some o∧o.cls=.type "tuple"∧o.data=.seq its n∧its.size≤sizeLine∧Vals xs its.toList
def absV:Value→Option V
  | .none=>some .non
  | .bool b=>some (.bl b)
  | .int i _=>some (.int i)
  | .str x _=>some (.str x)
  | .bytes b _=>some (.byt b)
  | .float b _=>some (.flt b)
  | .ref a=>some (.ref a)
  | .type n=>some (.ty n)
  | _=>none
theorem RelV.abs {x:V} {u:Value} (r:RelV x u):absV u=some x:=by
  cases x with
  | non=>cases r;rfl
  | bl _=>cases r;rfl
  | int _=>obtain ⟨t,rfl⟩:=r;rfl
  | str _=>obtain ⟨t,rfl⟩:=r;rfl
  | byt _=>obtain ⟨t,rfl⟩:=r;rfl
  | flt _=>obtain ⟨t,rfl⟩:=r;rfl
  | ref _=>cases r;rfl
  | ty _=>cases r;rfl
theorem RelV.inj {x y:V} {u:Value} (r:RelV x u) (q:RelV y u):x=y:=Option.some.inj (r.abs.symm.trans q.abs)
theorem Vals.inj:∀ {xs ys:List V} {us:List Value},Vals xs us→Vals ys us→xs=ys
  | _,_,_,.nil,.nil=>rfl
  | _,_,_,.cons r t,.cons r' t'=>by rw [r.inj r',Vals.inj t t']
section
variable {X:Cx} {pins:List (Addr × Obj)} {σ:St} {H:Hp} {s:Shared} {a:Addr} {xs ys:List V}
theorem SqL.of {K:PySem.W.Frag} (h:H a=some (.lst xs)):SqL K H a xs:=.inl (.inl h)
theorem SqT.of {K:PySem.W.Frag} (h:H a=some (.tup xs)):SqT K H a xs:=.inl (.inl h)
theorem Inv.list (I:Inv X pins σ H s) (h:SqL X.K H a xs):∃ its:List Value,Vals xs its∧PlainL s.heap a its.toArray∧xs.length≤sizeLine:=by
  rcases h with h | ⟨o,its,n,hk,hc,hd,hs,hz,r⟩
  · obtain ⟨z,its,n,r,e⟩:=h.ok I.hok
    exact ⟨its,r,⟨_,n,e,rfl,rfl,rfl⟩,z⟩
  · refine ⟨its.toList,r,⟨o,n,I.kIn a o hk,hc,hd,by simpa using hs⟩,?_⟩
    have e:=r.length
    simp only [Array.length_toList] at e
    omega
theorem Inv.tuple (I:Inv X pins σ H s) (h:SqT X.K H a xs):∃ its:List Value,Vals xs its∧IsTup s.heap a its.toArray∧xs.length≤sizeLine:=by
  rcases h with h | ⟨o,its,n,hk,hc,hs,hz,r⟩
  · obtain ⟨z,its,r,p⟩:=h.ok I.hok
    exact ⟨its,r,p,z⟩
  · refine ⟨its.toList,r,⟨o,I.kIn a o hk,hc,n,by simpa using hs⟩,?_⟩
    have e:=r.length
    simp only [Array.length_toList] at e
    omega
theorem Inv.list_inj (I:Inv X pins σ H s) (h:SqL X.K H a xs) (h':SqL X.K H a ys):xs=ys:=by
  obtain ⟨its,r,⟨o,n,e,_,_,d⟩,_⟩:=I.list h
  obtain ⟨its',r',⟨o',n',e',_,_,d'⟩,_⟩:=I.list h'
  rw [e] at e';cases e'
  rw [d] at d'
  injection d' with d1 _
  have:its=its':=by simpa using congrArg Array.toList d1
  subst this
  exact r.inj r'
theorem Inv.tuple_inj (I:Inv X pins σ H s) (h:SqT X.K H a xs) (h':SqT X.K H a ys):xs=ys:=by
  obtain ⟨its,r,⟨o,e,_,n,d⟩,_⟩:=I.tuple h
  obtain ⟨its',r',⟨o',e',_,n',d'⟩,_⟩:=I.tuple h'
  rw [e] at e';cases e'
  rw [d] at d'
  injection d' with d1 _
  have:its=its':=by simpa using congrArg Array.toList d1
  subst this
  exact r.inj r'
end
abbrev Cx.wish (X:Cx) (E:Value→Shared→Prop):Cx:={X with xe:=E}
abbrev Cx.nox (X:Cx):Cx:=X.wish fun _ _=>False
theorem Cx.Ok.wish {X:Cx} (ok:X.Ok) (E:Value→Shared→Prop):(X.wish E).Ok :=
  ⟨ok.mod,ok.kind,ok.glob,ok.blt,ok.above,ok.inj,ok.has,ok.cab,ok.hd,ok.frames,ok.stk,ok.exf,ok.bs,ok.bsz,ok.noex,ok.exfs,ok.funs,ok.frf⟩
theorem Cx.Ok.unwish {X:Cx} {E:Value→Shared→Prop} (ok:(X.wish E).Ok):X.Ok :=
  ⟨ok.mod,ok.kind,ok.glob,ok.blt,ok.above,ok.inj,ok.has,ok.cab,ok.hd,ok.frames,ok.stk,ok.exf,ok.bs,ok.bsz,ok.noex,ok.exfs,ok.funs,ok.frf⟩
section
variable {X:Cx} {pins:List (Addr × Obj)} {σ:St} {H:Hp} {s:Shared} {E:Value→Shared→Prop}
theorem Inv.wish (I:Inv X pins σ H s) (E:Value→Shared→Prop):Inv (X.wish E) pins σ H s:=⟨I.ok.wish E,I.os,I.bare,I.base,I.loc,I.cell,I.free,I.freeC,I.pin,I.hok,I.len⟩
theorem Inv.unwish (I:Inv (X.wish E) pins σ H s):Inv X pins σ H s:=⟨I.ok.unwish,I.os,I.bare,I.base,I.loc,I.cell,I.free,I.freeC,I.pin,I.hok,I.len⟩
theorem SP.unwish {D:Ends} {f:Flow} {s':Shared} (h:SP (X.wish E) pins D f s'):SP X pins D f s':=by
  cases f with
  | next=>obtain ⟨σ',H',I,q⟩:=h;exact ⟨σ',H',I.unwish,q⟩
  | brk=>obtain ⟨σ',H',I,q⟩:=h;exact ⟨σ',H',I.unwish,q⟩
  | cont=>obtain ⟨σ',H',I,q⟩:=h;exact ⟨σ',H',I.unwish,q⟩
  | ret u=>obtain ⟨v,σ',H',I,r,q⟩:=h;exact ⟨v,σ',H',I.unwish,r,q⟩
theorem PSs.nox {st:List Stmt} {t:TS} (h:PSs X.nox st t):PSs X st t:=fun pins s σ H D I hw =>
  wpAny_mono (h pins s σ H D (I.wish _) hw) (fun _ _ q=>q.unwish) fun _ _ z=>False.elim z
end
section
variable {X:Cx} {st:Stmt} {rest:List Stmt} {t u:TS} {e:Expr} {te:TE} {pos:Pos}
def tNext:TS:=fun D σ H=>D.nx σ H
def tSeq (t u:TS):TS:=fun D σ H=>t {D with nx:=u D} σ H
theorem zu:PSs X [] tNext:=fun _ _ σ H _ I h=>wpAny_execs_nil ⟨σ,H,I,h⟩
theorem zd (h1:PS X st t) (h2:PSs X rest u):PSs X (st::rest) (tSeq t u):=by
  intro pins s σ H D I h
  refine wpAny_execs_cons (thn (h1 pins s σ H {D with nx:=u D} I h) fun f s1 q=>?_)
  cases f with
  | next =>
    obtain ⟨σ',H',I',q⟩:=q
    exact h2 pins s1 σ' H' D I' q
  | ret v=>exact q
  | brk=>exact q
  | cont=>exact q
theorem zg (h1:PS X st t):PSs X [st] t:=by
  intro pins s σ H D I h
  refine wpAny_execs_cons (thn (h1 pins s σ H D I h) fun f s1 q=>?_)
  cases f with
  | next=>exact wpAny_execs_nil q
  | ret v=>exact q
  | brk=>exact q
  | cont=>exact q
theorem Inv.quiet {pins:List (Addr × Obj)} {σ:St} {H:Hp} {s:Shared} (I:Inv X pins σ H s):interactive X.env=false:=by simp [interactive,I.ok.kind]
def tDrop (te:TE):TS:=fun D σ H=>te σ H fun _ H1=>D.nx σ H1
theorem zm (he:PE X e te) (hs:swapsWith e none pos.line X.env=pure false:=by rfl):PS X (.Expr e pos) (tDrop te):=by
  intro pins s σ H D I h
  exact wpAny_Expr_any (thn (he pins s σ H _ I h) fun v s1 ⟨x,H1,I1,r1,q1⟩=>⟨σ,H1,I1,q1⟩) I.quiet hs
def tRet (te:TE):TS:=fun D σ H=>te σ H D.rt
theorem zt (he:PE X e te):PS X (.Return (some e) pos) (tRet te):=by
  intro pins s σ H D I h
  exact wpAny_Return_some (thn (he pins s σ H _ I h) fun v s1 ⟨x,H1,I1,r1,q1⟩=>⟨x,σ,H1,I1,r1,q1⟩)
def tIfS (c:TT) (t u:TS):TS:=fun D σ H=>c σ H fun b H1=>if b=true then t D σ H1 else u D σ H1
theorem ps_if {c:Expr} {a b:List Stmt} {tc:TT} (hc:PT X c tc) (ha:PSs X a t) (hb:PSs X b u):PS X (.If c a b pos) (tIfS tc t u):=by
  intro pins s σ H D I h
  refine wpAny_If (thn (hc pins s σ H _ I h) fun d s1 ⟨H1,I1,q1⟩=>?_)
  cases d with
  | true=>exact ha pins s1 σ H1 D I1 q1
  | false=>exact hb pins s1 σ H1 D I1 q1
def tNever:TS:=fun _ _ _=>False
theorem yj {sts:List Stmt}:PSs X sts tNever:=fun _ _ _ _ _ _ h=>h.elim
end
abbrev TG:=V→St→Hp→(St→Hp→Prop)→Prop
abbrev TGs:=List V→St→Hp→(St→Hp→Prop)→Prop
def PG (X:Cx) (target:Expr) (t:TG):Prop :=
  ∀ (pins:List (Addr × Obj)) (s:Shared) (σ:St) (H:Hp) (v:V) (u:Value) (Q:St→Hp→Prop),Inv X pins σ H s→RelV v u→t v σ H Q →
    wpAny (model X.prog X.w) X.A (assign target X.env u) (fun _ s'=>∃ σ' H',Inv X pins σ' H' s'∧Q σ' H') X.xe s
def PGs (X:Cx) (ts:List Expr) (t:TGs):Prop :=
  ∀ (pins:List (Addr × Obj)) (s:Shared) (σ:St) (H:Hp) (vs:List V) (us:List Value) (Q:St→Hp→Prop),Inv X pins σ H s→Vals vs us→t vs σ H Q →
    wpAny (model X.prog X.w) X.A (assignInOrder ((assignEach ts X.env).map (·.2)) us) (fun _ s'=>∃ σ' H',Inv X pins σ' H' s'∧Q σ' H') X.xe s
abbrev TSet:=V→V→V→Hp→(Hp→Prop)→Prop
def PSet (X:Cx) (t:TSet):Prop :=
  ∀ (pins:List (Addr × Obj)) (s:Shared) (σ:St) (H:Hp) (o i v:V) (ov iv u:Value) (Q:Hp→Prop),Inv X pins σ H s→RelV o ov→RelV i iv→RelV v u→t o i v H Q →
    wpAny (model X.prog X.w) X.A (setItem ov iv u) (fun _ s'=>∃ H',Inv X pins σ H' s'∧Q H') X.xe s
section
variable {X:Cx} {pos:Pos}
def gName (i:Nat):TG:=fun v σ H Q=>Q (σ.set i (some v)) H
theorem zy {i:Nat} {x:Str} (hN:X.N.Nodup) (hi:X.N[i]?=some x) (hx:Loc X.env.scope x) (hf:X.fn x=true∨X.env.scope.names.lookup x=some .local:=by first | exact .inl rfl | exact .inr rfl | assumption):PG X (.Name x pos) (gName i):=by
  intro pins s σ H v u Q I r h
  exact wpAny_assign_Name (zdz I hN hi hx r (fun s' I'=>⟨_,H,I',h⟩) hf)
def gNil:TGs:=fun vs σ H Q=>vs=[]∧Q σ H
def gCons (t:TG) (u:TGs):TGs:=fun vs σ H Q=>∃ v r,vs=v::r∧t v σ H fun σ' H'=>u r σ' H' Q
theorem zjc:PGs X [] gNil:=by
  intro pins s σ H vs us Q I r h
  obtain ⟨e,h⟩:=h
  subst e
  cases r
  exact assignInOrder_nil ⟨σ,H,I,h⟩
theorem zcg {e:Expr} {es:List Expr} {t:TG} {u:TGs} (h1:PG X e t) (h2:PGs X es u)
    (hs:(assignEach (e::es) X.env).map (·.2)=assign e X.env::(assignEach es X.env).map (·.2):=by rfl):PGs X (e::es) (gCons t u):=by
  intro pins s σ H vs us Q I r h
  obtain ⟨v,vr,e1,h⟩:=h
  subst e1
  cases r with
  | cons r rr =>
    rw [hs]
    refine assignInOrder_cons (thn (h1 pins s σ H _ _ _ I r h) fun _ s1 ⟨σ1,H1,I1,q1⟩=>?_)
    exact h2 pins s1 σ1 H1 _ _ Q I1 rr q1
def gTup (K:PySem.W.Frag) (n:Nat) (t:TGs):TG:=fun v σ H Q=>∃ a xs,v=.ref a∧SqT K H a xs∧xs.length=n∧t xs σ H Q
theorem zlc {es:List Expr} {k:Nat} {t:TGs} {n:Nat} (hc:X.calm=true) (h:PGs X es t)
    (hn:(assignEach es X.env).length=n:=by rfl) (hst:(assignEach es X.env).findIdx? (·.1)=none:=by rfl):PG X (.Tuple es k pos) (gTup X.K n t):=by
  intro pins s σ H v u Q I r hw
  obtain ⟨a,xs,e1,hq,hl,hw⟩:=hw
  subst e1
  cases r
  obtain ⟨its,rv,ht,hz⟩:=I.tuple hq
  refine assign_Tuple_tuple (I.ok.hd hc) ht (by simp [hn,← hl,rv.length]) hst fun h' hx=>?_
  have I1:Inv X pins σ H {s with heap:=h'}:=I.kept (t':=s.toks) fun b o e=>hx b o (Nat.ne_of_lt (Heap.lt_size e)) e
  exact h pins _ σ H xs _ Q I1 (by simpa using rv) hw
def gSub (to ti:TE) (t:TSet):TG:=fun v σ H Q=>to σ H fun o H1=>ti σ H1 fun i H2=>t o i v H2 fun H3=>Q σ H3
theorem zaq {o i:Expr} {to ti:TE} {t:TSet} (ho:PE X o to) (hi:PE X i ti) (hs:PSet X t)
    (ha:∀ v,assign (.Subscript o i pos) X.env v=(do
      let ov ← holding [v] (eval o X.env)
      let iv ← holding [v,ov] (eval i X.env)
      standAt pos
      holding [v,ov,iv] (setItem ov iv v)
      release [v,ov,iv] []):=by intro _;rfl):PG X (.Subscript o i pos) (gSub to ti t):=by
  intro pins s σ H v u Q I r h
  rw [ha]
  refine wpAny_bind (wpAny_holding (thn (ho pins s σ H _ I h) fun ov s1 ⟨x,H1,I1,r1,q1⟩=>?_))
  refine wpAny_bind (wpAny_holding (thn (hi pins s1 σ H1 _ I1 q1) fun iv s2 ⟨y,H2,I2,r2,q2⟩=>?_))
  refine wpAny_bind (wpAny_standAt (wpAny_bind (wpAny_holding (thn (hs pins s2 σ H2 x y v ov iv u _ I2 r1 r2 r q2) fun _ s3 ⟨H3,I3,q3⟩=>?_))))
  exact wpAny_release ⟨σ,H3,I3,q3⟩
def tAsg (te:TE) (g:TG):TS:=fun D σ H=>te σ H fun x H1=>g x σ H1 D.nx
theorem zar {tg e:Expr} {te:TE} {g:TG} (he:PE X e te) (hg:PG X tg g) (hs:swapsWithSole [tg] e pos.line X.env=pure false:=by rfl) (hw:swappedStores [tg] e X.env=pure none:=by rfl)
    (h1:(assignEach [tg] X.env).map (·.2)=[assign tg X.env]:=by rfl):PS X (.Assign [tg] e pos) (tAsg te g):=by
  intro pins s σ H D I h
  refine wpAny_Assign_stores (thn (he pins s σ H _ I h) fun v s1 ⟨x,H1,I1,r1,q1⟩=>?_) hs hw
  rw [h1]
  exact thn (hg pins s1 σ H1 x v _ I1 r1 q1) fun _ s2 q=>q
theorem zk {i:Nat} {x:Str} {e:Expr} {te:TE} {pos':Pos} (hN:X.N.Nodup) (hi:X.N[i]?=some x) (hx:Loc X.env.scope x) (he:PE X e te) (hs:swapsWith e (some (.Name x pos')) pos.line X.env=pure false:=by rfl) (hf:X.fn x=true∨X.env.scope.names.lookup x=some .local:=by first | exact .inl rfl | exact .inr rfl | assumption) :
    PS X (.Assign [.Name x pos'] e pos) (tAsg te (gName i)):=by
  intro pins s σ H D I h
  refine wpAny_Assign_Name (thn (he pins s σ H _ I h) fun v s1 ⟨y,H1,I1,r1,q1⟩=>?_) hs
  exact zdz I1 hN hi hx r1 (fun s2 I2=>⟨_,H1,I2,q1⟩) hf
end
section
variable {X:Cx} {pos:Pos}
def tWhile (c:TT) (tb:TS):TS:=fun D σ H=>∃ W:Nat→St→Hp→Prop,(∃ m,W m σ H)∧∀ m σ H,W m σ H →
  c σ H fun b H1=>if b=true then ∃ N:St→Hp→Prop,(∀ σ' H',N σ' H'→∃ m',m'<m∧W m' σ' H')∧tb {D with nx:=N,ct:=N,bk:=D.nx} σ H1 else D.nx σ H1
theorem zgz {c:Expr} {body:List Stmt} {tc:TT} {tb:TS} (hp:PassesOwn (model X.prog X.w) X.A X.env X.xe) (hc:PT X c tc) (hb:PSs X body tb):PS X (.While c body [] pos) (tWhile tc tb):=by
  intro pins s σ H D I h
  obtain ⟨W,⟨m0,w0⟩,turn⟩:=h
  refine wpAny_While (codeAny_whileLoop (fun n s'=>∃ σ' H',Inv X pins σ' H' s'∧W n σ' H') ?_ m0 ⟨σ,H,I,w0⟩)
  rintro n s1 ⟨σ1,H1,I1,w1⟩
  refine wpAny_passesOwn hp (thn (hc pins s1 σ1 H1 _ I1 (turn n σ1 H1 w1)) fun b s2 ⟨H2,I2,q2⟩=>?_)
  cases b with
  | true =>
    obtain ⟨N,hN,q2⟩:=q2
    rw [if_pos rfl]
    refine wpAny_passesOwn hp (thn (hb pins s2 σ1 H2 _ I2 q2) fun f s3 q3=>?_)
    cases f with
    | next =>
      obtain ⟨σ3,H3,I3,n3⟩:=q3
      obtain ⟨m',hm,w3⟩:=hN σ3 H3 n3
      exact ⟨m',hm,σ3,H3,I3,w3⟩
    | cont =>
      obtain ⟨σ3,H3,I3,n3⟩:=q3
      obtain ⟨m',hm,w3⟩:=hN σ3 H3 n3
      exact ⟨m',hm,σ3,H3,I3,w3⟩
    | brk=>exact q3
    | ret v=>exact q3
  | false =>
    rw [if_neg Bool.false_ne_true]
    exact wpAny_execs_nil ⟨σ1,H2,I2,q2⟩
end
structure It where
  go:Nat→Hp→Prop
  yld:Nat→Hp→V→Hp→Prop
  stop:Nat→Hp→Prop
def FpOk (X:Cx) (pins:List (Addr × Obj)) (H:Hp) (b:Addr):Prop :=
  H b=none∧b≠X.env.locals∧b ∉ X.fs∧(b∈X.ex∨X.s₀.heap.objs.size≤b)∧(∀ x c,X.env.cells.lookup x=some c→c≠b)∧∀ p∈X.pn++pins,p.1≠b
theorem Inv.fpOk {X:Cx} {pins:List (Addr × Obj)} {σ:St} {H H':Hp} {s:Shared} {b:Addr} (I:Inv X pins σ H s) (hb:s.heap.objs.size≤b) (hn:H' b=none):FpOk X pins H' b:=by
  refine ⟨hn,Nat.ne_of_gt (Nat.lt_of_lt_of_le I.lt hb),I.nofs hb,.inr (Nat.le_trans I.sz hb),fun x c e z=>?_,fun p hp z=>?_⟩
  · obtain ⟨v,q⟩:=I.cell x c e
    exact absurd (Nat.lt_of_lt_of_le q.lt (by rw [z];exact hb)) (Nat.lt_irrefl _)
  · exact absurd (Nat.lt_of_lt_of_le (Heap.lt_size (I.pin p hp).1) (by rw [z];exact hb)) (Nat.lt_irrefl _)
structure Turn (P:Program) (w:World) (K:PySem.W.Frag) (tg:Expr) (J:It) (fp:List Addr) (it:Addr) (tn:Nat→Heap→Prop):Prop where
  mem:it∈fp
  obj:∀ i h,tn i h→∀ b∈fp,∃ o,h.get? b=some o∧∀ v,o.data≠.cell v
  keep:∀ i h h',tn i h→(∀ b∈fp,∀ o,h.get? b=some o→h'.get? b=some o)→tn i h'
  item:∀ (X:Cx),X.prog=P→X.w=w→X.K=K→X.calm=true→∀ (i:Nat) (pins:List (Addr × Obj)) (s:Shared) (σ:St) (H:Hp) (E:Value→Shared→Prop),Inv X pins σ H s→(∀ b∈fp,FpOk X pins H b)→tn i s.heap→J.go i H →
    wpAny (model P w) X.A (pyNext (.ref it)) (fun r s1=>∃ u,r=some u ∧
      wpAny (model P w) X.A (letOwnedTupleGo tg (.ref it) u) (fun _ s2=>∃ x H',Inv X pins σ H' s2∧RelV x u∧J.yld i H x H'∧tn (i+1) s2.heap∧∀ b∈fp,H' b=none) E s1) E s
  done:∀ (X:Cx),X.prog=P→X.w=w→X.K=K→X.calm=true→∀ (i:Nat) (pins:List (Addr × Obj)) (s:Shared) (σ:St) (H:Hp) (E:Value→Shared→Prop),Inv X pins σ H s→(∀ b∈fp,FpOk X pins H b)→tn i s.heap→J.stop i H →
    wpAny (model P w) X.A (pyNext (.ref it)) (fun r s1=>r=none∧Inv X pins σ H s1) E s
  self:∀ (A:Around) (i:Nat) (s:Shared) (Q:Value→Shared→Prop) (E:Value→Shared→Prop),tn i s.heap→Q (.ref it) s→wpAny (model P w) A (pyIter (.ref it)) Q E s
abbrev TI:=St→Hp→(It→Hp→Prop)→Prop
def PIE (X:Cx) (pins:List (Addr × Obj)) (σ:St) (tg:Expr) (R:It→Hp→Prop) (itv:Value) (s2:Shared):Prop :=
  ∃ (it:Addr) (fp:List Addr) (tn:Nat→Heap→Prop) (J:It) (H':Hp),itv=.ref it∧Inv X pins σ H' s2∧Turn X.prog X.w X.K tg J fp it tn∧tn 0 s2.heap∧(∀ b∈fp,FpOk X pins H' b)∧R J H'
def PI (X:Cx) (tg iter:Expr) (wi:TI):Prop :=
  ∀ (pins:List (Addr × Obj)) (s:Shared) (σ:St) (H:Hp) (R:It→Hp→Prop),Inv X pins σ H s→wi σ H R →
    wpAny (model X.prog X.w) X.A (eval iter X.env) (fun v s1=>wpAny (model X.prog X.w) X.A (pyIter v) (PIE X pins σ tg R) X.xe s1) X.xe s
theorem go_of {M:Model} {A:Around} {E:Value→Shared→Prop} {s:Shared} {tg:Expr} {it:Addr} {u:Value} {o:Obj} {n:String} {vs:Array Value} {Q:Unit→Shared→Prop} (ho:s.heap.get? it=some o) (hc:o.cls=.type n) (hd:o.data=.fields vs)
    (hn:["enumerate","zip","dict_itemiterator","dict_reverseitemiterator","odict_iterator","itertools.zip_longest","itertools.pairwise"].contains n=false) (hQ:Q () s):wpAny M A (letOwnedTupleGo tg (.ref it) u) Q E s:=by
  unfold letOwnedTupleGo
  cases tg <;> first
    | exact wpAny_pure hQ
    | (cases u <;> first
        | exact wpAny_pure hQ
        | (refine wpAny_bind (wpAny_load ho ?_)
           rw [hc,hd]
           show wpAny M A (if (["enumerate","zip","dict_itemiterator","dict_reverseitemiterator","odict_iterator","itertools.zip_longest","itertools.pairwise"].contains n&&vs[0]?==some (rawInt _))=true then _ else _) Q E s
           rw [if_neg (by intro h;rw [hn,Bool.false_and] at h;cases h)]
           exact wpAny_pure hQ))
def Itl (K:PySem.W.Frag) (a:Addr):It :=
  ⟨fun i H=>∃ xs x,SqL K H a xs∧xs[i]?=some x,fun i H x H'=>H'=H∧∀ xs,SqL K H a xs→xs[i]?=some x,fun i H=>∃ xs,SqL K H a xs∧xs.length≤i⟩
def Itt (K:PySem.W.Frag) (a:Addr):It :=
  ⟨fun i H=>∃ xs x,SqT K H a xs∧xs[i]?=some x,fun i H x H'=>H'=H∧∀ xs,SqT K H a xs→xs[i]?=some x,fun i H=>∃ xs,SqT K H a xs∧xs.length≤i⟩
def Itr (lo:Int) (n:Nat):It:=⟨fun i _=>i<n,fun i H x H'=>H'=H∧x=.int (lo+i),fun i _=>n≤i⟩
theorem zld {P:Program} {w:World} {K:PySem.W.Frag} {tg:Expr} (a it:Addr):Turn P w K tg (Itl K a) [it] it (fun i h=>h.IsListIter it a i) where
  mem:=by simp
  obj:=fun i h st b hb=>by
    have e:b=it:=by simpa using hb
    subst e
    obtain ⟨o,e,c,d⟩:=st
    exact ⟨o,e,fun v z=>by rw [d] at z;cases z⟩
  keep:=fun i h h' st k=>st.at fun o e=>k it (by simp) o e
  item:=by
    intro X hP hw hK hc i pins s σ H E I hf st hg
    subst hP hw hK
    obtain ⟨xs,x,hq,hx⟩:=hg
    obtain ⟨its,rv,p,hz⟩:=I.list hq
    obtain ⟨u,hu,ru⟩:=rv.get hx
    obtain ⟨f0,f1,f2,f3,f4,f5⟩:=hf it (by simp)
    refine wpAny_pyNext_list_item st p.isList (x:=u) (by simpa using hu) fun h' st' sb=>?_
    have I1:Inv X pins σ H {s with heap:=h'}:=I.turned (t':=s.toks) (fun b o hb e=>(sb.2 b hb).trans e) f0 f1 f3 f4 f5
    obtain ⟨o,e,c,d⟩:=id st'
    exact ⟨u,rfl,go_of (s:={s with heap:=h'}) e c d (by decide) ⟨x,H,I1,ru,⟨rfl,fun ys hy=>by rw [I.list_inj hy hq];exact hx⟩,st',fun b hb=>(hf b hb).1⟩⟩
  done:=by
    intro X hP hw hK hc i pins s σ H E I hf st hg
    subst hP hw hK
    obtain ⟨xs,hq,hx⟩:=hg
    obtain ⟨its,rv,p,hz⟩:=I.list hq
    obtain ⟨f0,f1,f2,f3,f4,f5⟩:=hf it (by simp)
    have hl:=rv.length
    exact wpAny_pyNext_list_end (I.ok.hd hc) st p.isList (by simp;omega) fun h' eb=>⟨rfl,I.turned (t':=s.toks) (fun b o hb e=>eb b o hb e) f0 f1 f3 f4 f5⟩
  self:=fun _ _ _ _ _ st h=>wpAny_pyIter_listiter st h
theorem zj1 {P:Program} {w:World} {K:PySem.W.Frag} {tg:Expr} (a it:Addr):Turn P w K tg (Itt K a) [it] it (fun i h=>h.IsTupleIter it a i) where
  mem:=by simp
  obj:=fun i h st b hb=>by
    have e:b=it:=by simpa using hb
    subst e
    obtain ⟨o,e,c,d⟩:=st
    exact ⟨o,e,fun v z=>by rw [d] at z;cases z⟩
  keep:=fun i h h' st k=>st.at fun o e=>k it (by simp) o e
  item:=by
    intro X hP hw hK hc i pins s σ H E I hf st hg
    subst hP hw hK
    obtain ⟨xs,x,hq,hx⟩:=hg
    obtain ⟨its,rv,p,hz⟩:=I.tuple hq
    obtain ⟨u,hu,ru⟩:=rv.get hx
    obtain ⟨f0,f1,f2,f3,f4,f5⟩:=hf it (by simp)
    refine wpAny_pyNext_tuple_item st (show s.heap.IsTuple a its.toArray from p) (x:=u) (by simpa using hu) fun h' st' sb=>?_
    have I1:Inv X pins σ H {s with heap:=h'}:=I.turned (t':=s.toks) (fun b o hb e=>(sb.2 b hb).trans e) f0 f1 f3 f4 f5
    obtain ⟨o,e,c,d⟩:=id st'
    exact ⟨u,rfl,go_of (s:={s with heap:=h'}) e c d (by decide) ⟨x,H,I1,ru,⟨rfl,fun ys hy=>by rw [I.tuple_inj hy hq];exact hx⟩,st',fun b hb=>(hf b hb).1⟩⟩
  done:=by
    intro X hP hw hK hc i pins s σ H E I hf st hg
    subst hP hw hK
    obtain ⟨xs,hq,hx⟩:=hg
    obtain ⟨its,rv,p,hz⟩:=I.tuple hq
    obtain ⟨f0,f1,f2,f3,f4,f5⟩:=hf it (by simp)
    have hl:=rv.length
    exact wpAny_pyNext_tuple_end (I.ok.hd hc) st (show s.heap.IsTuple a its.toArray from p) (by simp;omega) fun h' eb=>⟨rfl,I.turned (t':=s.toks) (fun b o hb e=>eb b o hb e) f0 f1 f3 f4 f5⟩
  self:=fun _ _ _ _ _ st h=>wpAny_pyIter_tupleiter st h
theorem zj2 {P:Program} {w:World} {K:PySem.W.Frag} {tg:Expr} (it:Addr) (lo:Int) (n:Nat):Turn P w K tg (Itr lo n) [it] it (fun i h=>IsRangeIter h it (lo+(i:Nat) * 1) ((n:Int) - (i:Nat)) 1) where
  mem:=by simp
  obj:=fun i h st b hb=>by
    have e:b=it:=by simpa using hb
    subst e
    exact ⟨_,st,fun v z=>by
      have z':Data.fields _=Data.cell v:=z
      cases z'⟩
  keep:=fun i h h' st k=>k it (by simp) _ st
  item:=by
    intro X hP hw hK hc i pins s σ H E I hf st hg
    subst hP hw hK
    obtain ⟨f0,f1,f2,f3,f4,f5⟩:=hf it (by simp)
    have W:=Walks.range (prog:=X.prog) (w:=X.w) (I.ok.hd hc) it lo 1 n
    refine W.item i s _ _ hg st fun v h' tk hv st' kk=>?_
    obtain ⟨t,rfl⟩:=hv
    have I1:Inv X pins σ H {s with heap:=h',toks:=tk}:=I.turned (fun b o hb e=>kk b o (by simpa using hb) e) f0 f1 f3 f4 f5
    refine ⟨_,rfl,go_of (s:={s with heap:=h',toks:=tk}) (n:="range_iterator") st' rfl rfl (by decide) ⟨.int (lo+i),H,I1,⟨t,?_⟩,⟨rfl,rfl⟩,st',fun b hb=>(hf b hb).1⟩⟩
    rw [Int.mul_one]
  done:=by
    intro X hP hw hK hc i pins s σ H E I hf st hg
    subst hP hw hK
    obtain ⟨f0,f1,f2,f3,f4,f5⟩:=hf it (by simp)
    exact wpAny_pyNext_range_end (I.ok.hd hc) st (by have:n≤i:=hg;omega) fun h' eb=>⟨rfl,I.turned (t':=s.toks) (fun b o hb e=>eb b o hb e) f0 f1 f3 f4 f5⟩
  self:=fun _ _ _ _ _ st h=>wpAny_pyIter_rangeiter st h
end L2
namespace L2
open PySem PySem.Spec PyProof.Rows
section
variable {X:Cx} {tg:Expr}
def iList (K:PySem.W.Frag) (tl:TE):TI:=fun σ H R=>tl σ H fun x H1=>∃ a,x=.ref a∧(∃ xs,SqL K H1 a xs)∧R (Itl K a) H1
def iTup (K:PySem.W.Frag) (tl:TE):TI:=fun σ H R=>tl σ H fun x H1=>∃ a,x=.ref a∧(∃ xs,SqT K H1 a xs)∧R (Itt K a) H1
theorem y2 {l:Expr} {tl:TE} (hl:PE X l tl):PI X tg l (iList X.K tl):=by
  intro pins s σ H R I h
  refine thn (hl pins s σ H _ I h) fun v s1 ⟨x,H1,I1,r1,q1⟩=>?_
  obtain ⟨a,e,⟨xs,hq⟩,q⟩:=q1
  subst e
  cases r1
  obtain ⟨its,rv,p,hz⟩:=I1.list hq
  refine wpAny_pyIter_list p.isList ?_
  refine ⟨s1.heap.objs.size,[s1.heap.objs.size],_,_,H1,rfl,I1.kept (t':=s1.toks) fun b o e=>Heap.get?_push_of_some _ e,zld a _,⟨_,Heap.get?_push_size _ rfl,rfl,rfl⟩,fun b hb=>?_,q⟩
  have e:b=s1.heap.objs.size:=by simpa using hb
  subst e
  exact I1.fpOk (Nat.le_refl _) (I1.hok.fresh (Nat.le_refl _))
theorem zp6 {l:Expr} {tl:TE} (hl:PE X l tl):PI X tg l (iTup X.K tl):=by
  intro pins s σ H R I h
  refine thn (hl pins s σ H _ I h) fun v s1 ⟨x,H1,I1,r1,q1⟩=>?_
  obtain ⟨a,e,⟨xs,hq⟩,q⟩:=q1
  subst e
  cases r1
  obtain ⟨its,rv,p,hz⟩:=I1.tuple hq
  refine wpAny_pyIter_tuple (show s1.heap.IsTuple a its.toArray from p) ?_
  refine ⟨s1.heap.objs.size,[s1.heap.objs.size],_,_,H1,rfl,I1.kept (t':=s1.toks) fun b o e=>Heap.get?_push_of_some _ e,zj1 a _,⟨_,Heap.get?_push_size _ rfl,rfl,rfl⟩,fun b hb=>?_,q⟩
  have e:b=s1.heap.objs.size:=by simpa using hb
  subst e
  exact I1.fpOk (Nat.le_refl _) (I1.hok.fresh (Nat.le_refl _))
theorem zg0 {pins:List (Addr × Obj)} {σ:St} {H:Hp} {s:Shared} {R:It→Hp→Prop} {E:Value→Shared→Prop} {lo hi:Int} {t u v:Tok} {tk:Nat} (I:Inv X pins σ H s) (h1 : -(2 ^ 62)≤lo) (h2:lo<2 ^ 62) (h3 : -(2 ^ 62)≤hi) (h4:hi<2 ^ 62)
    (q:R (Itr lo (hi - lo).toNat) H):wpAny (model X.prog X.w) X.A (pyIter (.ref s.heap.objs.size)) (PIE X pins σ tg R) E {s with heap:=s.heap.push {cls:=.type "range",data:=.fields #[.int lo t,.int hi u,.int 1 v]},toks:=tk}:=by
  refine wpAny_pyIter_range (IsRange.new ..) (small_one h1 h2 h3 h4) ?_
  have I1:Inv X pins σ H {s with heap:=s.heap.push {cls:=.type "range",data:=.fields #[.int lo t,.int hi u,.int 1 v]},toks:=tk}:=I.kept fun b o e=>Heap.get?_push_of_some _ e
  refine ⟨(s.heap.push {cls:=.type "range",data:=.fields #[.int lo t,.int hi u,.int 1 v]}).objs.size,[(s.heap.push {cls:=.type "range",data:=.fields #[.int lo t,.int hi u,.int 1 v]}).objs.size],_,_,H,rfl,
    I1.kept (t':=tk) fun b o e=>Heap.get?_push_of_some _ e,zj2 _ lo (hi - lo).toNat,?_,fun b hb=>?_,q⟩
  · have e1:lo+((0:Nat):Int) * 1=lo:=by simp
    have e2:(((hi - lo).toNat:Nat):Int) - ((0:Nat):Int)=Builtin.Range.rangeSize lo hi 1:=by rw [rangeSize_one];split <;> omega
    show IsRangeIter _ _ (lo+((0:Nat):Int) * 1) ((((hi - lo).toNat:Nat):Int) - ((0:Nat):Int)) 1
    rw [e1,e2]
    exact Heap.get?_push_size _ rfl
  · have e:b=(s.heap.push {cls:=.type "range",data:=.fields #[.int lo t,.int hi u,.int 1 v]}).objs.size:=by simpa using hb
    subst e
    exact I1.fpOk (Nat.le_refl _) (I1.hok.fresh (Nat.le_refl _))
def iRng1 (ta:TA):TI:=fun σ H R=>ta σ H fun vs H1=>∃ j:Int,vs=[.int j]∧-(2 ^ 62)≤j∧j<2 ^ 62∧R (Itr 0 j.toNat) H1
def iRng2 (ta:TA):TI:=fun σ H R=>ta σ H fun vs H1=>∃ i j:Int,vs=[.int i,.int j]∧(-(2 ^ 62)≤i∧i<2 ^ 62∧-(2 ^ 62)≤j∧j<2 ^ 62)∧R (Itr i (j - i).toNat) H1
theorem vd {a:Expr} {ta:TA} {p pos:Pos} (hg:Gl X "range") (hm:X.mg "range"=none) (ha:PA X [a] ta) (hs:starEach [a] X.env=[(false,eval a X.env)]:=by rfl):PI X tg (.Call (.Name "range" p) [a] [] pos) (iRng1 ta):=by
  intro pins s σ H R I h
  refine Call_ (zai I hg hm boot_range (PyProof.Rows.callWith_type1 (thn (ha pos pins s σ H _ I h) fun us s1 ⟨vs,H1,I1,r1,q1⟩=>?_) hs rfl))
  obtain ⟨j,e,q1,q2,q⟩:=q1
  subst e
  cases r1 with
  | cons r rr =>
    cases rr
    obtain ⟨t,rfl⟩:=r
    exact call_range_1 (zg0 I1 (by omega) (by omega) q1 q2 (by simpa using q))
theorem zbb {a b:Expr} {ta:TA} {p pos:Pos} (hg:Gl X "range") (hm:X.mg "range"=none) (ha:PA X [a,b] ta) (hs:starEach [a,b] X.env=[(false,eval a X.env),(false,eval b X.env)]:=by rfl) (hs2:starEach [b] X.env=[(false,eval b X.env)]:=by rfl) :
    PI X tg (.Call (.Name "range" p) [a,b] [] pos) (iRng2 ta):=by
  intro pins s σ H R I h
  refine Call_ (zai I hg hm boot_range (PyProof.Rows.callWith_type1 (thn (ha pos pins s σ H _ I h) fun us s1 ⟨vs,H1,I1,r1,q1⟩=>?_) (by rw [hs,hs2]) (by rw [hs2];rfl)))
  obtain ⟨i,j,e,⟨q1,q2,q3,q4⟩,q⟩:=q1
  subst e
  cases r1 with
  | cons r rr =>
    cases rr with
    | cons r' rr =>
      cases rr
      obtain ⟨t,rfl⟩:=r
      obtain ⟨t',rfl⟩:=r'
      exact call_range_2 (zg0 I1 q1 q2 q3 q4 q)
def tFor (wi:TI) (g:TG) (tb:TS):TS:=fun D σ H=>wi σ H fun J H1=>∃ W:Nat→Nat→St→Hp→Prop,(∃ m,W 0 m σ H1)∧∀ i m σ H,W i m σ H →
  (J.stop i H∧D.nx σ H)∨(J.go i H∧∃ N:St→Hp→Prop,(∀ σ' H',N σ' H'→∃ m',m'<m∧W (i+1) m' σ' H')∧∀ x H',J.yld i H x H'→g x σ H' fun σ2 H2=>tb {D with nx:=N,ct:=N,bk:=D.nx} σ2 H2)
def pinsAt (fp:List Addr) (h:Heap):List (Addr × Obj):=fp.filterMap fun b=>(h.get? b).map fun o=>(b,o)
theorem wv {fp:List Addr} {h:Heap} {b:Addr} {o:Obj} (hb:b∈fp) (e:h.get? b=some o):(b,o)∈pinsAt fp h:=List.mem_filterMap.mpr ⟨b,hb,by rw [e];rfl⟩
theorem zle {fp:List Addr} {h:Heap} {p:Addr × Obj} (hp:p∈pinsAt fp h):p.1∈fp∧h.get? p.1=some p.2:=by
  obtain ⟨b,hb,e⟩:=List.mem_filterMap.mp hp
  cases q:h.get? b with
  | none=>rw [q] at e;cases e
  | some o =>
    rw [q] at e
    have e':(b,o)=p:=Option.some.inj e
    subst e'
    exact ⟨hb,q⟩
theorem Inv.pinned {pins:List (Addr × Obj)} {σ:St} {H:Hp} {s:Shared} {fp:List Addr} (I:Inv X pins σ H s) (hf:∀ b∈fp,FpOk X pins H b) (ho:∀ b∈fp,∃ o,s.heap.get? b=some o∧∀ v,o.data≠.cell v):Inv X (pins++pinsAt fp s.heap) σ H s :=
  I.pins_of fun p hp=>(List.mem_append.mp hp).elim (fun z=>I.pin p (List.mem_append_right _ z)) fun z=>by
    obtain ⟨hb,e⟩:=zle z
    obtain ⟨f0,f1,f2,_⟩:=hf p.1 hb
    obtain ⟨o,e',d⟩:=ho p.1 hb
    rw [e] at e';cases e'
    exact ⟨e,f0,f1,f2,d⟩
theorem Inv.unpinned {pins pl:List (Addr × Obj)} {σ:St} {H:Hp} {s:Shared} (I:Inv X (pins++pl) σ H s):Inv X pins σ H s:=I.pins_of fun p hp=>I.pin p (List.mem_append_right _ (List.mem_append_left _ hp))
theorem yt {iter:Expr} {body:List Stmt} {wi:TI} {g:TG} {tb:TS} {pos:Pos} (hp:PassesOwn (model X.prog X.w) X.A X.env X.xe) (hc:X.calm=true) (hi:PI X tg iter wi) (hg:PG X tg g) (hb:PSs X body tb)
    (hs:∀ x,foldedSetIterable iter X.env x=pure x:=by intro _;rfl):PS X (.For tg iter body [] pos) (tFor wi g tb):=by
  intro pins s σ H D I h
  refine wpAny_For (thn (hi pins s σ H _ I h) fun v s1 h1=>thn h1 fun itv s2 h2=>?_) hs
  obtain ⟨it,fp,tn,J,H2,e,I2,T,st2,f2,W,⟨m0,w0⟩,turn⟩:=h2
  subst e
  have stat:∀ {H':Hp},(∀ b∈fp,H' b=none)→∀ b∈fp,FpOk X pins H' b:=fun hn b hb=>⟨hn b hb,(f2 b hb).2⟩
  refine codeAny_forLoop_any (fun n s'=>∃ i σ' H',Inv X pins σ' H' s'∧tn i s'.heap∧(∀ b∈fp,H' b=none)∧W i n σ' H') ?_ m0 ⟨0,σ,H2,I2,st2,fun b hb=>(f2 b hb).1,w0⟩
  rintro n s3 ⟨i,σ3,H3,I3,st3,fr3,w3⟩
  rcases turn i n σ3 H3 w3 with ⟨stop,qn⟩ | ⟨go,N,hN,step⟩
  · refine wpAny_passesOwn hp (thn (T.done X rfl rfl rfl hc i pins s3 σ3 H3 X.xe I3 (stat fr3) st3 stop) fun r s4 ⟨hr,I4⟩=>?_)
    subst hr
    exact wpAny_execs_nil ⟨σ3,H3,I4,qn⟩
  · refine wpAny_passesOwn hp (thn (T.item X rfl rfl rfl hc i pins s3 σ3 H3 X.xe I3 (stat fr3) st3 go) fun r s4 ⟨u,hr,h4⟩=>?_)
    subst hr
    refine wpAny_passesOwn hp (thn h4 fun _ s5 ⟨x,H5,I5,r5,y5,st5,fr5⟩=>?_)
    have I5':=I5.pinned (stat fr5) (T.obj _ _ st5)
    refine wpAny_passesOwn hp (thn (hg _ s5 σ3 H5 x u _ I5' r5 (step x H5 y5)) fun _ s6 ⟨σ6,H6,I6,q6⟩=>?_)
    refine wpAny_passesOwn hp (thn (hb _ s6 σ6 H6 _ I6 q6) fun f s7 q7=>?_)
    have again:∀ {σ7:St} {H7:Hp},Inv X (pins++pinsAt fp s5.heap) σ7 H7 s7→N σ7 H7→∃ m,m<n∧∃ i σ' H',Inv X pins σ' H' s7∧tn i s7.heap∧(∀ b∈fp,H' b=none)∧W i m σ' H':=fun {σ7 H7} I7 n7=>by
      obtain ⟨m',hm,w7⟩:=hN σ7 H7 n7
      refine ⟨m',hm,i+1,σ7,H7,I7.unpinned,T.keep _ _ _ st5 fun b hb o e=>(I7.pin (b,o) (List.mem_append_right _ (List.mem_append_right _ (wv hb e)))).1,fun b hb=>?_,w7⟩
      obtain ⟨o,e,d⟩:=T.obj _ _ st5 b hb
      exact (I7.pin (b,o) (List.mem_append_right _ (List.mem_append_right _ (wv hb e)))).2.1
    cases f with
    | next=>obtain ⟨σ7,H7,I7,n7⟩:=q7;exact again I7 n7
    | cont=>obtain ⟨σ7,H7,I7,n7⟩:=q7;exact again I7 n7
    | brk=>obtain ⟨σ7,H7,I7,q7⟩:=q7;exact ⟨σ7,H7,I7.unpinned,q7⟩
    | ret v=>obtain ⟨x7,σ7,H7,I7,r7,q7⟩:=q7;exact ⟨x7,σ7,H7,I7.unpinned,r7,q7⟩
end
theorem vk {K:PySem.W.Frag} {a:Addr} {xs:List V} {g:TG} {tb:TS} {D:Ends} {σ:St} {H:Hp} (Pv:Nat→St→Hp→Prop) (h0:Pv 0 σ H) (hl:∀ i σ H,i≤xs.length→Pv i σ H→SqL K H a xs)
    (hs:∀ i x σ H,xs[i]?=some x→Pv i σ H→g x σ H fun σ2 H2=>tb {D with nx:=Pv (i+1),ct:=Pv (i+1),bk:=D.nx} σ2 H2) (hd:∀ σ H,Pv xs.length σ H→D.nx σ H) :
    ∃ W:Nat→Nat→St→Hp→Prop,(∃ m,W 0 m σ H)∧∀ i m σ H,W i m σ H →
      ((Itl K a).stop i H∧D.nx σ H)∨((Itl K a).go i H∧∃ N:St→Hp→Prop,(∀ σ' H',N σ' H'→∃ m',m'<m∧W (i+1) m' σ' H')∧∀ x H',(Itl K a).yld i H x H'→g x σ H' fun σ2 H2=>tb {D with nx:=N,ct:=N,bk:=D.nx} σ2 H2):=by
  refine ⟨fun i m σ H=>m=xs.length - i∧i≤xs.length∧Pv i σ H,⟨xs.length,by simp,Nat.zero_le _,h0⟩,?_⟩
  rintro i m σ H ⟨rfl,hi,p⟩
  have q:=hl i σ H hi p
  by_cases hlt:i<xs.length
  · refine .inr ⟨⟨xs,xs[i],q,by simp [hlt]⟩,Pv (i+1),fun σ' H' p'=>⟨xs.length - (i+1),by omega,rfl,hlt,p'⟩,fun x H' y=>?_⟩
    obtain ⟨e,y⟩:=y
    subst e
    exact hs i x σ _ (y xs q) p
  · have e:i=xs.length:=by omega
    subst e
    exact .inl ⟨⟨xs,q,Nat.le_refl _⟩,hd σ H p⟩
theorem wn {lo:Int} {n:Nat} {g:TG} {tb:TS} {D:Ends} {σ:St} {H:Hp} (Pv:Nat→St→Hp→Prop) (h0:Pv 0 σ H)
    (hs:∀ i σ H,i<n→Pv i σ H→g (.int (lo+i)) σ H fun σ2 H2=>tb {D with nx:=Pv (i+1),ct:=Pv (i+1),bk:=D.nx} σ2 H2) (hd:∀ σ H,Pv n σ H→D.nx σ H) :
    ∃ W:Nat→Nat→St→Hp→Prop,(∃ m,W 0 m σ H)∧∀ i m σ H,W i m σ H →
      ((Itr lo n).stop i H∧D.nx σ H)∨((Itr lo n).go i H∧∃ N:St→Hp→Prop,(∀ σ' H',N σ' H'→∃ m',m'<m∧W (i+1) m' σ' H')∧∀ x H',(Itr lo n).yld i H x H'→g x σ H' fun σ2 H2=>tb {D with nx:=N,ct:=N,bk:=D.nx} σ2 H2):=by
  refine ⟨fun i m σ H=>m=n - i∧i≤n∧Pv i σ H,⟨n,by simp,Nat.zero_le _,h0⟩,?_⟩
  rintro i m σ H ⟨rfl,hi,p⟩
  by_cases hlt:i<n
  · refine .inr ⟨hlt,Pv (i+1),fun σ' H' p'=>⟨n - (i+1),by omega,rfl,hlt,p'⟩,fun x H' y=>?_⟩
    obtain ⟨e,y⟩:=y
    subst e y
    exact hs i σ _ hlt p
  · have e:i=n:=by omega
    subst e
    exact .inl ⟨Nat.le_refl _,hd σ H p⟩
end L2
namespace L2
open PySem PySem.Spec PyProof.Rows
abbrev R2:=V→V→Hp→VK→Prop
def OpR (X:Cx) (f:Value→Value→Sem Value) (r:R2):Prop :=
  ∀ (pins:List (Addr × Obj)) (s:Shared) (σ:St) (H:Hp) (x y:V) (v u:Value) (Q:VK),Inv X pins σ H s→RelV x v→RelV y u→r x y H Q →
    wpAny (model X.prog X.w) X.A (f v u) (EP X pins σ Q) X.xe s
def UnR (X:Cx) (f:Value→Sem Value) (r:V→Hp→VK→Prop):Prop :=
  ∀ (pins:List (Addr × Obj)) (s:Shared) (σ:St) (H:Hp) (x:V) (v:Value) (Q:VK),Inv X pins σ H s→RelV x v→r x H Q →
    wpAny (model X.prog X.w) X.A (f v) (EP X pins σ Q) X.xe s
def CallR (X:Cx) (f:Value) (r:List V→Hp→VK→Prop):Prop :=
  ∀ (pins:List (Addr × Obj)) (s:Shared) (σ:St) (H:Hp) (xs:List V) (us:List Value) (Q:VK),Inv X pins σ H s→Vals xs us→r xs H Q →
    wpAny (model X.prog X.w) X.A (call f us) (EP X pins σ Q) X.xe s
def tOp (r:R2) (ta tb:TE):TE:=fun σ H Q=>ta σ H fun x H1=>tb σ H1 fun y H2=>r x y H2 Q
def tUn (r:V→Hp→VK→Prop) (ta:TE):TE:=fun σ H Q=>ta σ H fun x H1=>r x H1 Q
def rI (C:Int→Int→Prop) (g:Int→Int→V):R2:=fun x y H Q=>∃ i j,x=.int i∧y=.int j∧C i j∧Q (g i j) H
def rI0 (g:Int→Int→V):R2:=fun x y H Q=>∃ i j,x=.int i∧y=.int j∧Q (g i j) H
def rU (g:Int→V):V→Hp→VK→Prop:=fun x H Q=>∃ i,x=.int i∧Q (g i) H
section
variable {X:Cx} {a b c:Expr} {ta tb tc:TE} {pos:Pos}
theorem binT (ha:PE X a ta) (hb:PE X b tb) {pins:List (Addr × Obj)} {s:Shared} {σ:St} {H:Hp} {R:V→V→Hp→Prop} (I:Inv X pins σ H s)
    (h:ta σ H fun x H1=>tb σ H1 fun y H2=>R x y H2) {Q:Value→Shared→Prop} {f:Value→Value→Sem Value}
    (hf:∀ v u s2 x y H2,Inv X pins σ H2 s2→RelV x v→RelV y u→R x y H2→wpAny (model X.prog X.w) X.A (f v u) Q X.xe s2) :
    wpAny (model X.prog X.w) X.A (eval a X.env) (fun v s₁=>wpAny (model X.prog X.w) X.A (eval b X.env) (fun u s₂=>wpAny (model X.prog X.w) X.A (f v u) Q X.xe s₂) X.xe s₁) X.xe s:=by
  refine thn (ha pins s σ H _ I h) fun v s1 ⟨x,H1,I1,r1,q1⟩=>?_
  refine thn (hb pins s1 σ H1 _ I1 q1) fun u s2 ⟨y,H2,I2,r2,q2⟩=>?_
  exact hf v u s2 x y H2 I2 r1 r2 q2
theorem pe_op {op:Operator} {r:R2} (ho:OpR X (binaryOp op) r) (ha:PE X a ta) (hb:PE X b tb):PE X (.BinOp a op b pos) (tOp r ta tb):=by
  intro pins s σ H Q I h
  exact wpAny_BinOp (binT ha hb I h fun v u s2 x y H2 I2 rx ry q=>ho pins s2 σ H2 x y v u Q I2 rx ry q)
theorem pe_un {op:UnaryOp} {r:V→Hp→VK→Prop} (ho:UnR X (unaryOp op) r) (ha:PE X a ta):PE X (.UnaryOp op a pos) (tUn r ta):=by
  intro pins s σ H Q I h
  exact UnaryOp_ (thn (ha pins s σ H _ I h) fun v s1 ⟨x,H1,I1,r1,q1⟩=>ho pins s1 σ H1 x v Q I1 r1 q1)
theorem opI {f:Value→Value→Sem Value} {C:Int→Int→Prop} {g:Int→Int→Int}
    (rule:∀ (i j:Int) (t u:Tok) (s:Shared) (Q:Value→Shared→Prop) (E:Value→Shared→Prop),C i j→Q (.int (g i j) s.toks) {s with toks:=s.toks+1}→wpAny (model X.prog X.w) X.A (f (.int i t) (.int j u)) Q E s) :
    OpR X f (rI C fun i j=>.int (g i j)):=by
  intro pins s σ H x y v u Q I rx ry h
  obtain ⟨i,j,rfl,rfl,hc,q⟩:=h
  obtain ⟨t,rfl⟩:=rx
  obtain ⟨t',rfl⟩:=ry
  exact rule i j t t' s _ _ hc ⟨.int (g i j),H,I.tok _,⟨_,rfl⟩,q⟩
theorem opI0 {f:Value→Value→Sem Value} {g:Int→Int→Int}
    (rule:∀ (i j:Int) (t u:Tok) (s:Shared) (Q:Value→Shared→Prop) (E:Value→Shared→Prop),Q (.int (g i j) s.toks) {s with toks:=s.toks+1}→wpAny (model X.prog X.w) X.A (f (.int i t) (.int j u)) Q E s) :
    OpR X f (rI0 fun i j=>.int (g i j)):=by
  intro pins s σ H x y v u Q I rx ry h
  obtain ⟨i,j,rfl,rfl,q⟩:=h
  obtain ⟨t,rfl⟩:=rx
  obtain ⟨t',rfl⟩:=ry
  exact rule i j t t' s _ _ ⟨.int (g i j),H,I.tok _,⟨_,rfl⟩,q⟩
theorem opB0 {f:Value→Value→Sem Value} {g:Int→Int→Bool}
    (rule:∀ (i j:Int) (t u:Tok) (s:Shared) (Q:Value→Shared→Prop) (E:Value→Shared→Prop),Q (.bool (g i j)) s→wpAny (model X.prog X.w) X.A (f (.int i t) (.int j u)) Q E s) :
    OpR X f (rI0 fun i j=>.bl (g i j)):=by
  intro pins s σ H x y v u Q I rx ry h
  obtain ⟨i,j,rfl,rfl,q⟩:=h
  obtain ⟨t,rfl⟩:=rx
  obtain ⟨t',rfl⟩:=ry
  exact rule i j t t' s _ _ ⟨.bl (g i j),H,I,rfl,q⟩
def CDiv (i j:Int):Prop:=0<j∧j<1073741824
def CMul (i j:Int):Prop:=(-(2 ^ 64)<i∧i<2 ^ 64)∨(-(2 ^ 64)<j∧j<2 ^ 64)
theorem CMul.ok {i j:Int} (h:CMul i j):IntMulOk i j:=by
  rcases h with ⟨h1,h2⟩ | ⟨h1,h2⟩
  · exact .of_left (intBits_le_64 h1 h2)
  · exact .of_right (intBits_le_64 h1 h2)
theorem yu:OpR X (binaryOp .Add) (rI0 fun i j=>.int (i+j)):=opI0 fun _ _ _ _ _ _ _ q=>add_int q
theorem vv:OpR X (binaryOp .Sub) (rI0 fun i j=>.int (i - j)):=opI0 fun _ _ _ _ _ _ _ q=>sub_int q
theorem zec:OpR X (binaryOp .Mult) (rI CMul fun i j=>.int (i * j)):=opI fun _ _ _ _ _ _ _ hc q=>mul_int q hc.ok
theorem zay:OpR X (binaryOp .FloorDiv) (rI CDiv fun i j=>.int (i / j)):=opI fun i j _ _ _ _ _ hc q=>by
  have h1:(0:Int)<j:=hc.1
  have h2:j<1073741824:=hc.2
  exact floordiv_int (by omega) (by rw [Int.fdiv_eq_ediv_of_nonneg i (by omega)];exact q) (.inl (PyProof.noPylong_small (by omega)))
theorem xp:OpR X (binaryOp .Mod) (rI (fun _ j=>0<j) fun i j=>.int (i % j)):=opI fun i j _ _ _ _ _ hc q=>by
  have h1:(0:Int)<j:=hc
  exact mod_int' (by omega) (by rw [Int.fmod_eq_emod_of_nonneg i (by omega)];exact q)
theorem unI {f:Value→Sem Value} {g:Int→Int}
    (rule:∀ (i:Int) (t:Tok) (s:Shared) (Q:Value→Shared→Prop) (E:Value→Shared→Prop),Q (.int (g i) s.toks) {s with toks:=s.toks+1}→wpAny (model X.prog X.w) X.A (f (.int i t)) Q E s) :
    UnR X f (rU fun i=>.int (g i)):=by
  intro pins s σ H x v Q I rx h
  obtain ⟨i,rfl,q⟩:=h
  obtain ⟨t,rfl⟩:=rx
  exact rule i t s _ _ ⟨.int (g i),H,I.tok _,⟨_,rfl⟩,q⟩
theorem zg1:UnR X (unaryOp .USub) (rU fun i=>.int (-i)):=unI fun _ _ _ _ _ q=>neg_int q
end
def scal:V→V→Bool
  | .non,.non=>true | .non,.int _=>true | .int _,.non=>true | .non,.bl _=>true | .bl _,.non=>true | .non,.str _=>true | .str _,.non=>true
  | .int _,.int _=>true | .bl _,.bl _=>true | .str _,.str _=>true | .byt _,.byt _=>true
  | .int _,.str _=>true | .str _,.int _=>true | .bl _,.str _=>true | .str _,.bl _=>true
  | _,_=>false
def rEq:R2:=fun x y H Q=>scal x y=true∧Q (.bl (decide (x=y))) H
def rNe:R2:=fun x y H Q=>scal x y=true∧Q (.bl (!decide (x=y))) H
theorem zjd {i j:Int}:decide (V.int i=V.int j)=(i==j):=by
  rw [Bool.eq_iff_iff]
  simp
theorem zlf {i j:Bool}:decide (V.bl i=V.bl j)=(i==j):=by
  rw [Bool.eq_iff_iff]
  simp
theorem zje {i j:Str}:decide (V.str i=V.str j)=(i==j):=by
  rw [Bool.eq_iff_iff]
  simp
theorem zjf {i j:Array UInt8}:decide (V.byt i=V.byt j)=(i.toList==j.toList):=by
  rw [Bool.eq_iff_iff]
  cases i
  cases j
  simp
section
variable {X:Cx} {a b c:Expr} {ta tb tc:TE} {pos:Pos}
theorem yl {pins:List (Addr × Obj)} {σ:St} {H:Hp} {s:Shared} {Q:VK} {k k':Bool} (I:Inv X pins σ H s) (q:Q (.bl k) H) (e:k=k'):EP X pins σ Q (.bool k') s:=by
  subst e
  exact ⟨.bl k,H,I,rfl,q⟩
theorem op_eq:OpR X (compareOp .Eq) rEq:=by
  intro pins s σ H x y v u Q I rx ry h
  obtain ⟨hs,q⟩:=h
  cases x with
  | non =>
    cases rx
    cases y with
    | non=>cases ry;exact PySem.EqNone.eq_none_none (yl I q (by simp))
    | bl j=>cases ry;exact PySem.EqNone.eq_none_bool (yl I q (by simp))
    | int j=>obtain ⟨t',rfl⟩:=ry;exact PySem.EqNone.eq_none_int (yl I q (by simp))
    | str j=>obtain ⟨t',rfl⟩:=ry;exact PySem.EqNone.eq_none_str (yl I q (by simp))
    | _=>exact absurd (show false=true from hs) Bool.false_ne_true
  | bl i =>
    cases rx
    cases y with
    | non=>cases ry;exact PySem.EqNone.eq_bool_none (yl I q (by simp))
    | bl j=>cases ry;exact eq_bool (yl I q zlf)
    | str j=>obtain ⟨t',rfl⟩:=ry;exact PySem.EqMixed.eq_bool_str (yl I q (by simp))
    | _=>exact absurd (show false=true from hs) Bool.false_ne_true
  | int i =>
    obtain ⟨t,rfl⟩:=rx
    cases y with
    | non=>cases ry;exact PySem.EqNone.eq_int_none (yl I q (by simp))
    | int j=>obtain ⟨t',rfl⟩:=ry;exact eq_int (yl I q zjd)
    | str j=>obtain ⟨t',rfl⟩:=ry;exact PySem.EqMixed.eq_int_str (yl I q (by simp))
    | _=>exact absurd (show false=true from hs) Bool.false_ne_true
  | str i =>
    obtain ⟨t,rfl⟩:=rx
    cases y with
    | non=>cases ry;exact PySem.EqNone.eq_str_none (yl I q (by simp))
    | bl j=>cases ry;exact PySem.EqMixed.eq_str_bool (yl I q (by simp))
    | int j=>obtain ⟨t',rfl⟩:=ry;exact PySem.EqMixed.eq_str_int (yl I q (by simp))
    | str j=>obtain ⟨t',rfl⟩:=ry;exact eq_str (yl I q zje)
    | _=>exact absurd (show false=true from hs) Bool.false_ne_true
  | byt i =>
    obtain ⟨t,rfl⟩:=rx
    cases y with
    | byt j=>obtain ⟨t',rfl⟩:=ry;exact PySem.W.eq_bytes (yl I q zjf)
    | _=>exact absurd (show false=true from hs) Bool.false_ne_true
  | _=>cases y <;> exact absurd (show false=true from hs) Bool.false_ne_true
theorem op_ne:OpR X (compareOp .NotEq) rNe:=by
  intro pins s σ H x y v u Q I rx ry h
  obtain ⟨hs,q⟩:=h
  cases x with
  | non =>
    cases rx
    cases y with
    | non=>cases ry;exact PySem.EqNone.ne_none_none (yl I q (by simp))
    | bl j=>cases ry;exact PySem.EqNone.ne_none_bool (yl I q (by simp))
    | int j=>obtain ⟨t',rfl⟩:=ry;exact PySem.EqNone.ne_none_int (yl I q (by simp))
    | str j=>obtain ⟨t',rfl⟩:=ry;exact PySem.EqNone.ne_none_str (yl I q (by simp))
    | _=>exact absurd (show false=true from hs) Bool.false_ne_true
  | bl i =>
    cases rx
    cases y with
    | non=>cases ry;exact PySem.EqNone.ne_bool_none (yl I q (by simp))
    | bl j=>cases ry;exact ne_bool (yl I q (congrArg not zlf))
    | str j=>obtain ⟨t',rfl⟩:=ry;exact PySem.EqMixed.ne_bool_str (yl I q (by simp))
    | _=>exact absurd (show false=true from hs) Bool.false_ne_true
  | int i =>
    obtain ⟨t,rfl⟩:=rx
    cases y with
    | non=>cases ry;exact PySem.EqNone.ne_int_none (yl I q (by simp))
    | int j=>obtain ⟨t',rfl⟩:=ry;exact ne_int (yl I q (congrArg not zjd))
    | str j=>obtain ⟨t',rfl⟩:=ry;exact PySem.EqMixed.ne_int_str (yl I q (by simp))
    | _=>exact absurd (show false=true from hs) Bool.false_ne_true
  | str i =>
    obtain ⟨t,rfl⟩:=rx
    cases y with
    | non=>cases ry;exact PySem.EqNone.ne_str_none (yl I q (by simp))
    | bl j=>cases ry;exact PySem.EqMixed.ne_str_bool (yl I q (by simp))
    | int j=>obtain ⟨t',rfl⟩:=ry;exact PySem.EqMixed.ne_str_int (yl I q (by simp))
    | str j=>obtain ⟨t',rfl⟩:=ry;exact ne_str (yl I q (congrArg not zje))
    | _=>exact absurd (show false=true from hs) Bool.false_ne_true
  | byt i =>
    obtain ⟨t,rfl⟩:=rx
    cases y with
    | byt j=>obtain ⟨t',rfl⟩:=ry;exact PySem.W.ne_bytes (yl I q (congrArg not zjf))
    | _=>exact absurd (show false=true from hs) Bool.false_ne_true
  | _=>cases y <;> exact absurd (show false=true from hs) Bool.false_ne_true
theorem op_lt:OpR X (compareOp .Lt) (rI0 fun i j=>.bl (decide (i<j))):=opB0 fun _ _ _ _ _ _ _ q=>lt_int q
theorem op_le:OpR X (compareOp .LtE) (rI0 fun i j=>.bl (decide (i≤j))):=opB0 fun _ _ _ _ _ _ _ q=>le_int q
theorem op_gt:OpR X (compareOp .Gt) (rI0 fun i j=>.bl (decide (j<i))):=opB0 fun _ _ _ _ _ _ _ q=>gt_int q
theorem zp7:OpR X (compareOp .Is) (fun x y H Q=>y=.non∧Q (.bl (decide (x=.non))) H):=by
  intro pins s σ H x y v u Q I rx ry h
  obtain ⟨rfl,q⟩:=h
  cases ry
  refine is_none_gen (yl I q ?_)
  cases x <;> first
    | (cases rx;rfl)
    | (obtain ⟨t,rfl⟩:=rx;rfl)
theorem zde:OpR X (compareOp .IsNot) (fun x y H Q=>y=.non∧Q (.bl (!decide (x=.non))) H):=by
  intro pins s σ H x y v u Q I rx ry h
  obtain ⟨rfl,q⟩:=h
  cases ry
  refine isnot_none_gen (yl I q ?_)
  cases x <;> first
    | (cases rx;rfl)
    | (obtain ⟨t,rfl⟩:=rx;rfl)
theorem nomark (b:Expr) {op:CmpOp} (h:op≠.In:=by decide) (h2:op≠.NotIn:=by decide):behindInMarks op b=false:=by
  have e1:(op==CmpOp.In)=false:=by cases op <;> first | rfl | exact absurd rfl h
  have e2:(op==CmpOp.NotIn)=false:=by cases op <;> first | rfl | exact absurd rfl h2
  cases b <;> simp [behindInMarks,e1,e2]
theorem x8 {op:CmpOp} {r:R2} (ho:OpR X (compareOp op) r) (ha:PE X a ta) (hb:PE X b tb) (hm:behindInMarks op b=false):PE X (.Compare a [op] [b] pos) (tOp r ta tb):=by
  intro pins s σ H Q I h
  exact wpAny_Compare1 (binT ha hb I h fun v u s2 x y H2 I2 rx ry q=>ho pins s2 σ H2 x y v u Q I2 rx ry q) hm
def tTest (t:TE):TT:=fun σ H Q=>t σ H fun x H'=>∃ k,x=.bl k∧Q k H'
theorem zv {op:CmpOp} {r:R2} (ho:OpR X (compareOp op) r) (ha:PE X a ta) (hb:PE X b tb) (hm:behindInMarks op b=false):PT X (.Compare a [op] [b] pos) (tTest (tOp r ta tb)):=by
  intro pins s σ H Q I h
  refine wpAny_isTrue_Compare1 (thn (ha pins s σ H _ I h) fun v s1 ⟨x,H1,I1,r1,q1⟩=>thn (hb pins s1 σ H1 _ I1 q1) fun u s2 ⟨y,H2,I2,r2,q2⟩ =>
    thn (ho pins s2 σ H2 x y v u _ I2 r1 r2 q2) fun c s3 ⟨z,H3,I3,r3,k,e,q3⟩=>?_) hm
  subst e
  cases r3
  exact wpAny_truthy_bool ⟨H3,I3,q3⟩
def tChain (r r':R2) (ta tb tc:TE):TE:=fun σ H Q=>ta σ H fun x H1=>tb σ H1 fun y H2=>r x y H2 fun z H3=>∃ k,z=.bl k ∧
  (if k=true then tc σ H3 fun w' H4=>r' y w' H4 Q else Q (.bl false) H3)
theorem zng {op op':CmpOp} {r r':R2} (ho:OpR X (compareOp op) r) (ho':OpR X (compareOp op') r') (ha:PE X a ta) (hb:PE X b tb) (hc:PE X c tc)
    (hm:lastMarks [op,op'] [b,c]=false:=by with_unfolding_all rfl):PE X (.Compare a [op,op'] [b,c] pos) (tChain r r' ta tb tc):=by
  intro pins s σ H Q I h
  refine Compare_chain (thn (ha pins s σ H _ I h) fun v s1 ⟨x,H1,I1,r1,q1⟩=>chain_link (thn (hb pins s1 σ H1 _ I1 q1) fun u s2 ⟨y,H2,I2,r2,q2⟩ =>
    thn (ho pins s2 σ H2 x y v u _ I2 r1 r2 q2) fun d s3 ⟨z,H3,I3,r3,k,e,q3⟩=>?_)) hm
  subst e
  cases r3
  refine wpAny_truthy_bool ?_
  cases k with
  | false=>exact ite_ff ⟨.bl false,H3,I3,rfl,q3⟩
  | true=>exact ite_tt (chain_last (thn (hc pins s3 σ H3 _ I3 q3) fun w' s4 ⟨z',H4,I4,r4,q4⟩=>ho' pins s4 σ H4 y z' u w' Q I4 r2 r4 q4))
theorem line63:(sizeLine:Nat)<2 ^ 63:=by rw [sizeLine_eq];decide
theorem vals1 {x:V} {us:List Value} (r:Vals [x] us):∃ u,us=[u]∧RelV x u:=by
  cases r with
  | cons r1 r2=>cases r2;exact ⟨_,rfl,r1⟩
theorem vals2 {x y:V} {us:List Value} (r:Vals [x,y] us):∃ u w',us=[u,w']∧RelV x u∧RelV y w':=by
  cases r with
  | cons r1 r2 =>
    cases r2 with
    | cons r3 r4=>cases r4;exact ⟨_,_,rfl,r1,r3⟩
theorem zlg (hc:X.calm=true):CallR X (.builtin "max") (fun xs H Q=>∃ i j,xs=[.int i,.int j]∧Q (.int (if j>i then j else i)) H):=by
  intro pins s σ H xs us Q I r h
  obtain ⟨i,j,rfl,q⟩:=h
  obtain ⟨u,w',rfl,⟨t,rfl⟩,⟨t',rfl⟩⟩:=vals2 r
  refine max_two_ints (I.ok.hd hc) fun h' tk k=>⟨_,H,I.kept k,?_,q⟩
  by_cases hj:j>i
  · rw [if_pos hj,if_pos hj];exact ⟨_,rfl⟩
  · rw [if_neg hj,if_neg hj];exact ⟨_,rfl⟩
end
end L2
namespace L2
open PySem PySem.Spec PyProof.Rows
structure ObjM (h:Heap) (x dx C:Addr) (mA:Str→Option Value):Prop where
  obj:h.get? x=some (PySem.W.instObj C dx)
  ns:h.Ns1 dx mA
  ne:dx≠x
theorem zlh {h:Heap} {dx:Addr} {mA:Str→Option Value} (n:h.Ns1 dx mA):∃ od,h.get? dx=some od∧∀ name,PySem.W.lookIn name od=some (mA name):=by
  obtain ⟨o,es,ep,ho,hd,hk,_,hm⟩:=n
  refine ⟨o,ho,fun name=>?_⟩
  have e:=hm name
  unfold nsFind findBy at e
  rw [← Array.find?_toList] at e
  unfold PySem.W.lookIn
  rw [hd]
  dsimp only
  split
  · rename_i y q
    rw [q] at e
    exact congrArg some e
  · rename_i q
    rw [q] at e
    have a:es.toList.any (·.refKey)=false:=by
      rw [List.any_eq_false]
      intro y hy
      obtain ⟨z,t,hkey⟩:=hk y (Array.mem_toList_iff.mp hy)
      simp [DictEntry.refKey,hkey]
    have a':¬ es.toList.any (·.refKey)=true:=by rw [a];exact Bool.false_ne_true
    rw [if_neg a']
    exact congrArg some e
theorem ObjM.look {h:Heap} {x dx C:Addr} {mA:Str→Option Value} (I:ObjM h x dx C mA):∃ od,PySem.W.InstAt h x (PySem.W.instObj C dx) C (some od)∧∀ name,PySem.W.lookIn name od=some (mA name) :=
  let ⟨od,ho,hl⟩:=zlh I.ns
  ⟨od,⟨I.obj,rfl,rfl,ho⟩,hl⟩
section
variable {prog:Program} {w:World} {A:Around} {E:Value→Shared→Prop} {s:Shared} {K:PySem.W.Frag} {x dx C f:Addr} {mA:Str→Option Value} {name:Str} {v:Value}
end
theorem RelO.some_of {v:V} {o:Option Value} (r:RelO (some v) o):∃ u,o=some u∧RelV v u:=by
  cases o with
  | none=>exact (show False from r).elim
  | some u=>exact ⟨u,rfl,r⟩
section
variable {P:Program} {w:World} {H H':Hp} {h h':Heap} {a C dx:Addr} {fs fs':List (Str × V)}
theorem zoy (hok:HOk P w H h) (e:H a=some (.ins C dx fs)):∃ mA,ObjM h a dx C mA∧(∀ f,RelO (fs.lookup f) (mA f))∧PySem.Within mA (fs.map (·.1))∧fs.length≤1000∧H dx=some (.own a):=by
  obtain ⟨d,z,ne,ob,mA,n,r,q⟩:=(show ObjOk P w H h a (.ins C dx fs) from hok a _ e)
  exact ⟨mA,⟨ob,n,ne⟩,r,q,z,d⟩
end
structure Cls (K:PySem.W.Frag) (C:Addr):Prop where
  pg:PySem.W.plainGet K C Str.empty=true
  hd:PySem.W.hasDictIn K C=true
  po:PySem.W.plainOver K C=true
  sa:PySem.W.findIn K (.ref C) "__setattr__"=some (some (.builtin "object.__setattr__"))
theorem Cls.get {K:PySem.W.Frag} {C:Addr} (c:Cls K C) (f:Str):PySem.W.plainGet K C f=true:=c.pg
section
variable {X:Cx} {pins:List (Addr × Obj)} {σ:St} {H:Hp} {s:Shared} {a C dx:Addr} {fs:List (Str × V)} {f:Str} {v:V} {A:Around} {E:Value→Shared→Prop}
theorem zoz {prog:Program} {w:World} {env:Env} {e:Expr} {f:Str} {pos:Pos} {s:Shared} {Q:Value→Shared→Prop} (hb:attributeBase e f env (eval e env)=eval e env)
    (h:wpAny (model prog w) A (eval e env) (fun o s₁=>wpAny (model prog w) A (getAttr o f true) Q E s₁) E s):wpAny (model prog w) A (eval (.Attribute e f pos) env) Q E s :=
  Attribute_any_ h (by rw [arm_eval_Attribute,hb])
end
section
variable {X:Cx} {o e value:Expr} {f:Str} {pos pos' tpos:Pos} {ta tv:TE}
end
section
variable {X:Cx} {pins:List (Addr × Obj)} {σ:St} {H:Hp} {s:Shared} {A:Around} {E:Value→Shared→Prop} {Q:Value→Shared→Prop} {c:Value} {b:Bool}
inductive TyOf (K:PySem.W.Frag) (H:Hp):V→Value→Prop where
  | non:TyOf K H .non (.type "NoneType")
  | bl (x:Bool):TyOf K H (.bl x) (.type "bool")
  | int (i:Int):TyOf K H (.int i) (.type "int")
  | str (x:Str):TyOf K H (.str x) (.type "str")
  | flt (x:UInt64):TyOf K H (.flt x) (.type "float")
  | lst {a:Addr} {xs:List V} (e:H a=some (.lst xs)):TyOf K H (.ref a) (.type "list")
  | frz {a:Addr} {o:Obj} {xs:List V} (e:H a=some (.frz o (.lst xs))):TyOf K H (.ref a) (.type "list")
  | tup {a:Addr} {xs:List V} (e:H a=some (.tup xs)):TyOf K H (.ref a) (.type "tuple")
  | dK {a:Addr} {kvs:List (Key × V)} (e:H a=some (.dK kvs)):TyOf K H (.ref a) (.type "dict")
  | dT {a:Addr} {kvs:List (List Key × V)} (e:H a=some (.dT kvs)):TyOf K H (.ref a) (.type "dict")
  | ins {a C dx:Addr} {fs:List (Str × V)} (e:H a=some (.ins C dx fs)) (cl:Cls K C) (ha:PySem.W.findIn K (.ref C) "__class__"=some (some (.builtin "object.__class__")))
      (hn:PySem.W.specialIn K (.builtin "object.__class__") "__get__"=some (some (.builtin "getset_descriptor.__get__"))) (htk:PySem.W.takesIn K (.builtin "object.__class__")=some true)
      (hm:PySem.W.mroIn K C (.type "object")=some true):TyOf K H (.ref a) (.ref C)
theorem zli {x:V} {u t:Value} (I:Inv X pins σ H s) (rx:RelV x u) (ty:TyOf X.K H x t) (e:PySem.W.kitOne X.K t c=some b) (h:∀ tk,Q (.bool b) {s with toks:=tk}) :
    wpAny (model X.prog X.w) A (call (.builtin "isinstance") [u,c]) Q E s:=by
  cases ty with
  | non=>cases (show u=Value.none from rx);exact PySem.W.kia_one PySem.W.kitx_none I.kIn True.intro e (fun z=>nomatch z) h
  | bl y=>cases (show u=Value.bool y from rx);exact PySem.W.kia_one PySem.W.kitx_bool I.kIn True.intro e (fun z=>nomatch z) h
  | int i=>obtain ⟨t,q⟩:=(show ∃ t,u=Value.int i t from rx);cases q;exact PySem.W.kia_one PySem.W.kitx_int I.kIn True.intro e (fun z=>nomatch z) h
  | str y=>obtain ⟨t,q⟩:=(show ∃ t,u=Value.str y t from rx);cases q;exact PySem.W.kia_one PySem.W.kitx_str I.kIn True.intro e (fun z=>nomatch z) h
  | flt y=>obtain ⟨t,q⟩:=(show ∃ t,u=Value.float y t from rx);cases q;exact PySem.W.kia_one PySem.W.kitx_float I.kIn True.intro e (fun z=>nomatch z) h
  | @lst a xs ea =>
    cases (show u=Value.ref a from rx)
    obtain ⟨_,_,n,_,h1⟩:=(show ObjOk X.prog X.w H s.heap a (.lst xs) from I.hok a _ ea)
    exact PySem.W.kia_one PySem.W.kitx_list I.kIn ⟨_,h1,rfl⟩ e (fun z=>nomatch z) h
  | @frz a ob xs ea =>
    cases (show u=Value.ref a from rx)
    obtain ⟨_,_,_,n,_,h1⟩:=(show ObjOk X.prog X.w H s.heap a (.frz ob (.lst xs)) from I.hok a _ ea)
    exact PySem.W.kia_one PySem.W.kitx_list I.kIn ⟨_,h1,rfl⟩ e (fun z=>nomatch z) h
  | @tup a xs ea =>
    cases (show u=Value.ref a from rx)
    obtain ⟨_,_,_,p⟩:=(show ObjOk X.prog X.w H s.heap a (.tup xs) from I.hok a _ ea)
    obtain ⟨o,h1,h2,_⟩:=p
    exact PySem.W.kia_one PySem.W.kitx_tuple I.kIn ⟨o,h1,h2⟩ e (fun z=>nomatch z) h
  | @dK a kvs ea =>
    cases (show u=Value.ref a from rx)
    obtain ⟨_,_,vs,_,p⟩:=(show ObjOk X.prog X.w H s.heap a (.dK kvs) from I.hok a _ ea)
    obtain ⟨o,es,ep,h1,h2,_⟩:=p
    exact PySem.W.kia_one PySem.W.kitx_dict I.kIn ⟨o,h1,h2.1⟩ e (fun z=>nomatch z) h
  | @dT a kvs ea =>
    cases (show u=Value.ref a from rx)
    obtain ⟨_,_,xs,_,o,es,ep,h1,h2,_⟩:=(show ObjOk X.prog X.w H s.heap a (.dT kvs) from I.hok a _ ea)
    exact PySem.W.kia_one PySem.W.kitx_dict I.kIn ⟨o,h1,h2.1⟩ e (fun z=>nomatch z) h
  | @ins a C dx fs ea cl ha hn htk hm =>
    cases (show u=Value.ref a from rx)
    obtain ⟨mA,O,_⟩:=zoy I.hok ea
    obtain ⟨od,J,_⟩:=O.look
    exact PySem.W.kia_one (PySem.W.kitx_own (cl.get _) cl.hd ha hn htk hm) I.kIn J e (fun z=>nomatch z) h
end
end L2
namespace L2
open PySem PySem.Spec PyProof.Rows
structure Room (k:Nat) (A:Around):Prop where
  hd:A.handled=none
  dp:A.depth+3 * k+5<recursionLimit
  un:A.units+16 * k+200<cLine
  gd:A.guards=some []
theorem Room.mono {j k:Nat} {A:Around} (r:Room k A) (h:j≤k):Room j A:=⟨r.hd,by have:=r.dp;omega,by have:=r.un;omega,r.gd⟩
theorem Room.deeper {k:Nat} {A:Around} (r:Room (k+1) A) (env:Env):Room k (A.deeper env) :=
  ⟨r.hd,by have:=r.dp;show A.depth+1+3 * k+5<_;omega,by have:=r.un;show A.units+3+16 * k+200<_;omega,r.gd⟩
theorem zj3 {A:Around} {C:Addr} {us:List Value} {kw:List (Str × Value)}:(A.under (.builtin "type.__call__" ⟨.ref C::us,kw⟩)).depth=A.depth+1:=by
  first | rfl | simp [Around.under,Code.weight,Code.isCreation,Code.isGuard,Code.isCaller,Code.frames,Code.isFrame,guardIds]
theorem zj4 {A:Around} {C:Addr} {us:List Value} {kw:List (Str × Value)}:(A.under (.builtin "type.__call__" ⟨.ref C::us,kw⟩)).units=A.units+1:=by
  first | rfl | simp [Around.under,Code.cUnits,Code.frames,Code.isFrame]
theorem Room.make {k:Nat} {A:Around} (r:Room (k+1) A) (C:Addr) (us:List Value) (kw:List (Str × Value)):Room k (A.under (.builtin "type.__call__" ⟨.ref C::us,kw⟩)) :=
  ⟨r.hd,by have:=r.dp;rw [zj3];omega,by have:=r.un;rw [zj4];omega,by first | exact r.gd | (simpa [Around.under,Code.guards,Code.isGuard,pushGuards,guardIds] using r.gd)⟩
theorem Room.depth {k:Nat} {A:Around} (r:Room k A):A.depth<recursionLimit:=by have:=r.dp;omega
theorem Room.units {k:Nat} {A:Around} (r:Room k A):A.units+64<cLine:=by have:=r.un;omega
def tNil:TA:=fun _ H Q=>Q [] H
def tCons (ta:TE) (tr:TA):TA:=fun σ H Q=>ta σ H fun x H1=>tr σ H1 fun xs H2=>Q (x::xs) H2
section
variable {X:Cx} {e:Expr} {es:List Expr} {te:TE} {t:TA} {pos:Pos}
theorem zc:PA X [] tNil:=fun _ _ _ _ H Q I h=>Calls.spliced_nil ⟨[],H,I,.nil,h⟩
theorem za (ha:PE X e te) (hr:PA X es t) (hs:starEach (e::es) X.env=(false,eval e X.env)::starEach es X.env:=by rfl):PA X (e::es) (tCons te t):=by
  intro pos pins s σ H Q I h
  rw [hs]
  show wpAny _ _ (spliced ((false,eval e X.env)::backTo pos (starEach es X.env))) _ _ s
  refine Calls.spliced_cons (thn (ha pins s σ H _ I h) fun u s1 ⟨x,H1,I1,r1,q1⟩=>?_)
  exact thn (hr pos pins s1 σ H1 _ I1 q1) fun us s2 ⟨xs,H2,I2,r2,q2⟩=>⟨x::xs,H2,I2,.cons r1 r2,q2⟩
def tTup (t:TA):TE:=fun σ H Q=>t σ H fun xs H1=>xs.length≤sizeLine∧∀ p,H1 p=none→Q (.ref p) (upd H1 p (.tup xs))
def tLst (t:TA):TE:=fun σ H Q=>t σ H fun xs H1=>xs.length≤sizeLine∧∀ p,H1 p=none→Q (.ref p) (upd H1 p (.lst xs))
theorem zed {x1} (h:PA X es t):PE X (.Tuple es x1 pos) (tTup t):=by
  intro pins s σ H Q I hq
  refine wpAny_Tuple_spliced (thn (h pos pins s σ H _ I hq) fun us s1 ⟨xs,H1,I1,r,z,q⟩=>⟨by rw [← r.length];exact z,?_⟩)
  have hf:H1 s1.heap.objs.size=none:=I1.hok.fresh (Nat.le_refl _)
  refine ⟨.ref s1.heap.objs.size,upd H1 s1.heap.objs.size (.tup xs),I1.laid (t':=s1.toks) (fun b u e=>Heap.get?_push_of_some _ e) (Nat.le_refl _) ?_,rfl,q _ hf⟩
  exact ⟨z,us,r,⟨_,Heap.get?_push_size _ rfl,rfl,_,rfl⟩⟩
theorem ym (h:PA X es t):PE X (.List es pos) (tLst t):=by
  intro pins s σ H Q I hq
  refine wpAny_List_spliced (thn (h pos pins s σ H _ I hq) fun us s1 ⟨xs,H1,I1,r,z,q⟩=>⟨by rw [← r.length];exact z,?_⟩)
  have hf:H1 s1.heap.objs.size=none:=I1.hok.fresh (Nat.le_refl _)
  refine ⟨.ref s1.heap.objs.size,upd H1 s1.heap.objs.size (.lst xs),I1.laid (t':=s1.toks) (fun b u e=>Heap.get?_push_of_some _ e) (Nat.le_refl _) ?_,rfl,q _ hf⟩
  exact ⟨z,us,0,r,Heap.get?_push_size _ rfl⟩
end
abbrev Sp:=List V→Hp→VK→XK→Prop
abbrev CXT:=List Env→Hp→Shared→XK→Value→Shared→Prop
structure Env0 (P:Program) (w:World) (K:PySem.W.Frag) (mg:Str→Option Value) (base:Heap) (A:Around) (outer:List Env) (s:Shared) (H:Hp):Prop where
  frames:A.frames=some outer
  mod:Mod K mg base
  bs:∀ b o,base.get? b=some o→s.heap.get? b=some o∧H b=none
  bsz:base.objs.size≤s.heap.objs.size
  funs:s.heap.FunFrames base outer
  frf:∀ b∈frs outer,H b=none
  hok:HOk P w H s.heap
  bare:AllBare s.gens
def CE (outer:List Env) (P:Program) (w:World) (H:Hp) (s:Shared) (Q:VK) (u:Value) (s':Shared):Prop :=
  ∃ v H',s'.os=s.os∧AllBare s'.gens∧Un (frs outer) [] H H' s.heap s'.heap∧HOk P w H' s'.heap∧RelV v u∧Q v H'
def CR (CX:CXT) (outer:List Env) (P:Program) (w:World) (H:Hp) (s:Shared) (Q:VK) (E:XK) (r:Result) (s':Shared):Prop :=
  match r with
  | .ok (.ret u)=>CE outer P w H s Q u s'
  | .ok _=>False
  | .error e=>CX outer H s E e s'
structure FnOk (P:Program) (w:World) (K:PySem.W.Frag) (mg:Str→Option Value) (base:Heap) (CX:CXT) (k:Nat) (f:Addr) (fd:FuncData) (ps:List Str) (sp:Sp):Prop where
  len:∀ vs H Q E,sp vs H Q E→vs.length=ps.length
  run:∀ (A:Around) (outer:List Env) (s:Shared) (H:Hp) (args:Args) (us:List Value) (vs:List V) (Q:VK) (E:XK),Room k A→Env0 P w K mg base A outer s H→BindsTo s fd args (ps.zip us)→Vals vs us→sp vs H Q E →
    codeAny (model P w) A (.call (.ref f) args) (CR CX outer P w H s Q E) s
theorem Env0.make {P:Program} {w:World} {K:PySem.W.Frag} {mg:Str→Option Value} {base:Heap} {A:Around} {outer:List Env} {s:Shared} {H:Hp} (e:Env0 P w K mg base A outer s H) (C:Addr) (us:List Value) (kw:List (Str × Value)) :
    Env0 P w K mg base (A.under (.builtin "type.__call__" ⟨.ref C::us,kw⟩)) outer s H:=⟨by first | exact e.frames | (simpa [Around.under,Code.envs,Code.isFrame,pushEnvs] using e.frames),e.mod,e.bs,e.bsz,e.funs,e.frf,e.hok,e.bare⟩
section
variable {X:Cx} {pins:List (Addr × Obj)} {σ:St} {H:Hp} {s s':Shared}
theorem Inv.env0 (I:Inv X pins σ H s):Env0 X.prog X.w X.K X.mg X.base X.A X.stack s H :=
  ⟨I.ok.frames,I.ok.mod,I.bs,Nat.le_trans I.ok.bsz I.sz,I.stack,I.stkFree,I.hok,I.bare⟩
theorem Inv.after {Q:VK} {u:Value} (I:Inv X pins σ H s) (h:CE X.stack X.prog X.w H s Q u s'):EP X pins σ Q u s':=by
  obtain ⟨v,H',os,bare,un,hok,r,q⟩:=h
  obtain ⟨hh,g,d,t,os'⟩:=s'
  obtain rfl:os'=s.os:=os
  exact ⟨v,H',I.call (h':=hh) (g':=g) (d':=d) (t':=t) (ch:=[]) un hok bare (fun b z=>absurd z (by simp)),r,q⟩
end
def tCall (sp:Sp) (dvs:List V) (E:XK) (t:TA):TE:=fun σ H Q=>t σ H fun vs H1=>sp (vs++dvs) H1 Q E
def Binds (K:PySem.W.Frag) (fd:FuncData) (ps:List Str) (ds:List Value):Prop :=
  ∀ (s:Shared) (us:List Value),K.In s.heap→(us++ds).length=ps.length→BindsTo s fd ⟨us,[]⟩ (ps.zip (us++ds))
theorem Binds.all {K:PySem.W.Frag} {fd:FuncData} {ps:List Str} (h:∀ us:List Value,us.length=ps.length→bindArgs fd ⟨us,[]⟩=pure (ps.zip us)):Binds K fd ps []:=fun s us _ hl=>by
  rw [List.append_nil] at hl ⊢
  exact .of_eq (h us hl)
def Passes (CX:CXT) (X:Cx) (E:XK):Prop:=∀ (pins:List (Addr × Obj)) (σ:St) (H:Hp) (s:Shared) (e:Value) (s':Shared),Inv X pins σ H s→CX X.stack H s E e s'→X.xe e s'
section
variable {X:Cx} {CX:CXT} {k:Nat} {f C:Addr} {fd:FuncData} {ps:List Str} {sp:Sp} {dvs:List V} {ds:List Value} {E:XK} {x m:Str} {p pos apos:Pos} {e o:Expr} {es:List Expr} {ta:TE} {t:TA}
theorem zp8 {pins:List (Addr × Obj)} {σ:St} {H:Hp} {s:Shared} {Q:VK} {us:List Value} {vs:List V} (F:FnOk X.prog X.w X.K X.mg X.base CX k f fd ps sp) (hr:Room k X.A) (hb:Binds X.K fd ps ds) (hd:Vals dvs ds) (hx:Passes CX X E)
    (I:Inv X pins σ H s) (r:Vals vs us) (h:sp (vs++dvs) H Q E):wpAny (model X.prog X.w) X.A (call (.ref f) us) (EP X pins σ Q) X.xe s:=by
  have r2:Vals (vs++dvs) (us++ds):=r.append hd
  have hl:(us++ds).length=ps.length:=by rw [← r2.length];exact F.len _ _ _ _ h
  refine wpAny_call (codeAny_mono (F.run X.A X.stack s H ⟨us,[]⟩ (us++ds) (vs++dvs) Q E hr I.env0 (hb s us I.kIn hl) r2 h) fun r s' hq=>?_)
  cases r with
  | error e=>exact hx pins σ H s e s' I hq
  | ok fl =>
    cases fl with
    | ret u=>exact I.after hq
    | next=>exact False.elim hq
    | brk=>exact False.elim hq
    | cont=>exact False.elim hq
theorem zh (F:FnOk X.prog X.w X.K X.mg X.base CX k f fd ps sp) (hr:Room k X.A) (hg:Gl X x) (hm:X.mg x=some (.ref f)) (hk:PySem.W.keepIn X.K (.ref f)=true) (hb:Binds X.K fd ps ds) (hd:Vals dvs ds) (hx:Passes CX X E)
    (ha:PA X (e::es) t) (hdb:(x==("__debug__":Str))=false:=by decide) (he:starEach (e::es) X.env=(false,eval e X.env)::starEach es X.env:=by rfl) (hpl:(backTo pos (starEach es X.env)).any (·.1)=false:=by rfl) :
    PE X (.Call (.Name x p) (e::es) [] pos) (tCall sp dvs E t):=by
  intro pins s σ H Q I h
  refine wpAny_Call_Name_kw (zax I hg hm ?_ hdb)
  refine PySem.W.callWith_K (h₀:=X.base) I.ok.mod.kin hk (thn (ha pos pins s σ H _ I h) fun us s1 ⟨vs,H1,I1,r,q⟩=>⟨I1.kIn,?_⟩) he hpl
  exact zp8 F hr hb hd hx I1 r q
end
section
variable {X:Cx} {CX:CXT} {k:Nat} {f C:Addr} {fd:FuncData} {ps ks:List Str} {sp:Sp} {E:XK} {x m:Str} {p pos apos kpos:Pos} {e o:Expr} {es:List Expr} {kws:List Keyword} {te ta:TE} {t tk:TA} {nm:Option Str}
variable {g:List Value→List Value→List Value} {gV:List V→List V→List V}
end
structure FnScope (N P:List Str) (sc:Scope):Prop where
  kind:sc.kind=.function
  co:sc.isCoroutine=false
  gen:sc.isGenerator=false
  nd:N.Nodup
  pre:N.take P.length=P
  par:∀ x∈P,sc.names.lookup x=some .local∨sc.names.lookup x=some .cell
  nofree:∀ y∈sc.names,y.2≠.free
theorem zfp {kindOf:Str→Option NameKind} {x:Str}:∀ {binds:List (Str × Value)} {m:Str→Option Value},(∀ v,(x,v) ∉ binds)→bindL kindOf binds m x=m x
  | [],_,_=>rfl
  | (n,v)::r,m,h=>by
    unfold bindL
    rw [zfp fun w hw=>h w (List.mem_cons_of_mem _ hw)]
    split
    · have:x≠n:=by rintro rfl;exact h v List.mem_cons_self
      simp [this]
    · rfl
theorem zfq {kindOf:Str→Option NameKind} {x:Str}:∀ {binds:List (Str × Value)} {m:Str→Option Value},(∀ v,(x,v) ∉ binds)→bindC kindOf binds m x=m x
  | [],_,_=>rfl
  | (n,v)::r,m,h=>by
    unfold bindC
    rw [zfq fun w hw=>h w (List.mem_cons_of_mem _ hw)]
    split
    · rfl
    · have:x≠n:=by rintro rfl;exact h v List.mem_cons_self
      simp [this]
theorem zfr {kindOf:Str→Option NameKind} {x:Str} {v:Value}:∀ {P:List Str} {vs:List Value} {i:Nat} {m:Str→Option Value},P.Nodup→P[i]?=some x→vs[i]?=some v→kindOf x=some .local →
    bindL kindOf (P.zip vs) m x=some v
  | [],_,_,_,_,h,_,_=>by simp at h
  | _::_,[],_,_,_,_,h,_=>by simp at h
  | p::P,w::vs,0,m,nd,h1,h2,hk=>by
    simp at h1 h2;subst h1;subst h2
    show bindL kindOf ((p,w)::P.zip vs) m p=_
    unfold bindL
    rw [zfp fun v hv=>(List.nodup_cons.mp nd).1 (List.of_mem_zip hv).1,if_pos hk]
    simp
  | p::P,w::vs,i+1,m,nd,h1,h2,hk=>by
    show bindL kindOf ((p,w)::P.zip vs) m x=_
    unfold bindL
    exact zfr (i:=i) (List.nodup_cons.mp nd).2 (by simpa using h1) (by simpa using h2) hk
theorem zfs {kindOf:Str→Option NameKind} {x:Str} {v:Value}:∀ {P:List Str} {vs:List Value} {i:Nat} {m:Str→Option Value},P.Nodup→P[i]?=some x→vs[i]?=some v→kindOf x≠some .local →
    bindC kindOf (P.zip vs) m x=some v
  | [],_,_,_,_,h,_,_=>by simp at h
  | _::_,[],_,_,_,_,h,_=>by simp at h
  | p::P,w::vs,0,m,nd,h1,h2,hk=>by
    simp at h1 h2;subst h1;subst h2
    show bindC kindOf ((p,w)::P.zip vs) m p=_
    unfold bindC
    rw [zfq fun v hv=>(List.nodup_cons.mp nd).1 (List.of_mem_zip hv).1,if_neg hk]
    simp
  | p::P,w::vs,i+1,m,nd,h1,h2,hk=>by
    show bindC kindOf ((p,w)::P.zip vs) m x=_
    unfold bindC
    exact zfs (i:=i) (List.nodup_cons.mp nd).2 (by simpa using h1) (by simpa using h2) hk
def start (N:List Str) (vs:List V):St:=vs.map some++List.replicate (N.length - vs.length) none
def cxOf (CX:CXT) (P:Program) (w:World) (K:PySem.W.Frag) (mg:Str→Option Value) (base:Heap) (N:List Str) (qual:Str) (scope:Scope) (f:Addr) (cd:Value) (A:Around) (outer:List Env) (s:Shared) (H:Hp) (E:XK):Cx where
  prog:=P
  w:=w
  K:=K
  mg:=mg
  base:=base
  A:=A.deeper (envOfC qual scope s.heap.objs.size f cd)
  N:=N
  s₀:=s
  H₀:=H
  env:=envOfC qual scope s.heap.objs.size f cd
  outer:=outer
  stack:=envOfC qual scope s.heap.objs.size f cd::outer
  ex:=[]
  calm:=true
  fn:=fun _=>true
  pn:=[]
  xe:=fun e s'=>wpAny (model P w) (A.deeper (envOfC qual scope s.heap.objs.size f cd)) (leaving (envOfC qual scope s.heap.objs.size f cd) e) (fun _ s''=>CX outer H s E e s'') (fun e' s''=>CX outer H s E e' s'') s'
theorem zg2 {sc:Scope} {n:Nat} {x:Str} (h:sc.names.lookup x=some .cell):∃ c,(cellsFrom n sc.names []).lookup x=some c:=by
  have q:=PySem.W.cellsFrom_some sc.names n [] (.inl h)
  exact Option.isSome_iff_exists.mp q
theorem zft {CX:CXT} {P:Program} {w:World} {K:PySem.W.Frag} {mg:Str→Option Value} {base:Heap} {N ps:List Str} {qual:Str} {scope:Scope} {f:Addr} {cd:Value} {A:Around} {outer:List Env} {s s1:Shared} {H:Hp} {E:XK} {us:List Value} {vs:List V}
    (S:FnScope N ps scope) (hd:A.handled=none) (e0:Env0 P w K mg base A outer s H) (hl:vs.length=ps.length) (r:Vals vs us)
    (x:InCallC s s.heap.objs.size (bindL (envOfC qual scope s.heap.objs.size f cd).kindOf (ps.zip us) fun _=>none) (cellsFrom (s.heap.objs.size+1) scope.names []) (bindC (envOfC qual scope s.heap.objs.size f cd).kindOf (ps.zip us) fun _=>none) s1) :
    Inv (cxOf CX P w K mg base N qual scope f cd A outer s H E) [] (start N vs) H s1:=by
  have hpl:ps.length≤N.length:=by have:=congrArg List.length S.pre;rw [List.length_take] at this;omega
  obtain ⟨h1,tk,rfl,hk⟩:=x.done
  have noA:∀ b:Addr,b ∉ (cxOf CX P w K mg base N qual scope f cd A outer s H E).ex:=fun b z=>absurd (show b∈([]:List Addr) from z) (by simp)
  refine ⟨⟨e0.mod,S.kind,rfl,rfl,Nat.le_refl _,fun y z c h1 h2=>?_,fun y hy=>?_,fun y c _ h=>?_,fun _=>hd,Around.frames_deeper e0.frames,.inr ⟨rfl,rfl⟩,fun b z=>absurd z (noA b),e0.bs,e0.bsz,fun b _ _=>noA b,fun b z=>absurd z (noA b),e0.funs,e0.frf⟩,
    rfl,e0.bare,Un.kept hk,⟨_,x.toInCall.ns,fun i y v h1 h2 h3=>?_⟩,fun y c h=>⟨_,x.cell y c h⟩,e0.hok.fresh (Nat.le_refl _),fun y c h=>?_,fun p hp=>absurd (show p∈([]:List (Addr × Obj)) from hp) (by simp),e0.hok.kept hk,?_⟩
  · exact name_of_addr x.apart (PySem.mem_of_lookup h1) (PySem.mem_of_lookup h2)
  · have hy:scope.names.lookup y=some .cell∨scope.names.lookup y=some .free:=hy
    rcases hy with hy | hy
    · exact zg2 hy
    · exact absurd rfl (S.nofree _ (PySem.mem_of_lookup hy))
  · exact Nat.le_of_lt (x.above y c (PySem.mem_of_lookup h))
  · have hi:i<vs.length:=by
      unfold start at h2
      by_cases hi:i<vs.length
      · exact hi
      · rw [List.getElem?_append_right (by simpa using hi)] at h2
        rw [List.getElem?_replicate] at h2
        split at h2 <;> cases h2
    have ha:vs[i]?=some v:=by
      unfold start at h2
      rw [List.getElem?_append_left (by simpa using hi),List.getElem?_map] at h2
      cases e:vs[i]? with
      | none=>rw [e] at h2;cases h2
      | some a=>rw [e] at h2;cases h2;rfl
    obtain ⟨u,hu,rv⟩:=r.get ha
    have hp:ps[i]?=some y:=by
      rw [← S.pre,List.getElem?_take_of_lt (by omega)];exact h1
    have ndP:ps.Nodup:=by rw [← S.pre];exact S.nd.sublist (List.take_sublist _ _)
    refine ⟨u,rv,?_⟩
    rcases S.par y (List.mem_of_getElem? hp) with k | k
    · exact .inl ⟨k,zfr ndP hp hu k⟩
    · obtain ⟨c,e⟩:=zg2 (n:=s.heap.objs.size+1) k
      refine .inr ⟨.inl k,c,e,?_⟩
      have q:=x.cell y c e
      rw [zfs ndP hp hu (by show scope.names.lookup y≠_;rw [k];decide)] at q
      exact q
  · exact e0.hok.fresh (Nat.le_of_lt (x.above y c (PySem.mem_of_lookup h)))
  · unfold start
    show _=N.length
    rw [List.length_append,List.length_map,List.length_replicate]
    omega
theorem fn_of {CX:CXT} {P:Program} {w:World} {K:PySem.W.Frag} {mg:Str→Option Value} {base:Heap} {k:Nat} {f:Addr} {name qual:Str} {params:Arguments} {body:List Stmt} {scope:Scope} {dV kV doc pm cdv ct oc:Value} {an od:Option Addr}
    {osl:Array (Option Value)} {N ps:List Str} {sp:Sp} (lk:K.lookup f=some ⟨oc,od,.func (PySem.W.fnOf name qual params body scope dV kV doc pm an cdv ct),osl⟩) (hcd:PySem.W.codeIn K cdv qual=true) (S:FnScope N ps scope)
    (len:∀ vs H Q E,sp vs H Q E→vs.length=ps.length)
    (hbody:∀ (A:Around) (outer:List Env) (s:Shared) (H:Hp) (vs:List V) (Q:VK) (E:XK),Room k (A.deeper (envOfC qual scope s.heap.objs.size f cdv))→sp vs H Q E →
      ∃ t,PSs (cxOf CX P w K mg base N qual scope f cdv A outer s H E) body t∧t {nx:=fun _ H'=>Q .non H',rt:=Q} (start N vs) H) :
    FnOk P w K mg base CX (k+1) f (PySem.W.fnOf name qual params body scope dV kV doc pm an cdv ct) ps sp:=by
  refine ⟨len,fun A outer s H args us vs Q E hr e0 hb r hsp=>?_⟩
  have hl:=len _ _ _ _ hsp
  have KX:K.In s.heap:=e0.mod.kin.keeps fun b o e=>(e0.bs b o e).1
  have lim:s.heap.NoLimit:=e0.mod.nolimit.keeps fun b o e=>(e0.bs b o e).1
  have hkind:∀ y∈ps.zip us,scope.names.lookup y.1=some .local∨(scope.names.lookup y.1=some .cell∧((cellsFrom (s.heap.objs.size+1) scope.names []).lookup y.1).isSome=true):=fun ⟨n,v⟩ hy=>by
    rcases S.par n (List.of_mem_zip hy).1 with q | q
    · exact .inl q
    · exact .inr ⟨q,PySem.W.cellsFrom_some _ _ _ (.inl q)⟩
  refine codeAny_call_function hr.depth (KX _ _ lk) rfl S.co S.gen rfl (PySem.W.codeRec_of KX hcd) (hb _ _ _ _ ?_)
  refine wpAny_newFunctionEnv_cells S.kind hkind fun env he s1 x=>?_
  subst he
  refine ⟨lim.keeps x.toInCall.keep,codeAny_func ?_⟩
  obtain ⟨t,ht,hq⟩:=hbody A outer s H vs Q E (hr.deeper _) hsp
  have I:Inv (cxOf CX P w K mg base N qual scope f cdv A outer s H E) [] (start N vs) H s1:=zft S hr.hd e0 hl r x
  refine wpAny_mono (ht [] s1 (start N vs) H _ I hq) (fun fl s' hs=>?_) fun e s' hs=>hs
  have fin:∀ {σ':St} {H':Hp} {v:V} {u:Value},Inv (cxOf CX P w K mg base N qual scope f cdv A outer s H E) [] σ' H' s'→RelV v u→Q v H'→CE outer P w H s Q u s' :=
    fun {σ' H' v u} J rv q=>⟨v,H',J.os,J.bare,J.base,J.hok,rv,q⟩
  cases fl with
  | ret u =>
    obtain ⟨v,σ',H',J,rv,q⟩:=hs
    exact fin J rv q
  | next =>
    obtain ⟨σ',H',J,q⟩:=hs
    exact fin (v:=V.non) (u:=Value.none) J rfl q
  | brk =>
    obtain ⟨_,_,_,q⟩:=hs
    exact False.elim q
  | cont =>
    obtain ⟨_,_,_,q⟩:=hs
    exact False.elim q
end L2
namespace L2
open PySem PySem.Spec PyProof.Rows
section
variable {X:Cx} {x:Str} {p pos:Pos} {e:Expr} {es:List Expr} {t:TA} {id T:String} {r:List V→Hp→VK→Prop}
def tCB (r:List V→Hp→VK→Prop) (t:TA):TE:=fun σ H Q=>t σ H fun vs H1=>r vs H1 Q
theorem zp (hc:CallR X (.builtin id) r) (hg:Gl X x) (hm:X.mg x=none) (hv:bootBuiltins x=some (.builtin id)) (ha:PA X (e::es) t) (hn:x≠"__name__":=by decide) (hdb:(x==("__debug__":Str))=false:=by decide)
    (he:starEach (e::es) X.env=(false,eval e X.env)::starEach es X.env:=by rfl) (hpl:(backTo pos (starEach es X.env)).any (·.1)=false:=by rfl):PE X (.Call (.Name x p) (e::es) [] pos) (tCB r t):=by
  intro pins s σ H Q I h
  refine wpAny_Call_Name_kw (zai I hg hm hv ?_ hn hdb)
  exact PyProof.Rows.callWith_builtin1 (thn (ha pos pins s σ H _ I h) fun us s1 ⟨vs,H1,I1,r1,q1⟩=>hc pins s1 σ H1 vs us Q I1 r1 q1) he hpl
theorem x9 (hc:CallR X (.type T) r) (hg:Gl X x) (hm:X.mg x=none) (hv:bootBuiltins x=some (.type T)) (ha:PA X (e::es) t) (hn:x≠"__name__":=by decide) (hdb:(x==("__debug__":Str))=false:=by decide)
    (he:starEach (e::es) X.env=(false,eval e X.env)::starEach es X.env:=by rfl) (hpl:(backTo pos (starEach es X.env)).any (·.1)=false:=by rfl):PE X (.Call (.Name x p) (e::es) [] pos) (tCB r t):=by
  intro pins s σ H Q I h
  refine wpAny_Call_Name_kw (zai I hg hm hv ?_ hn hdb)
  exact PyProof.Rows.callWith_type1 (thn (ha pos pins s σ H _ I h) fun us s1 ⟨vs,H1,I1,r1,q1⟩=>hc pins s1 σ H1 vs us Q I1 r1 q1) he hpl
end
end L2
namespace HT
open PySem PyProof.Rows
section
open PySem.SeqAt
open PySem.AutoSeq1 (wpAny_loadPart')
open PySem.MeetsSeq PySem.MeetsSeq2 PySem.MeetsSeq3
end
section
variable {prog:Program} {w:World} {A:Around} {E:Value→Shared→Prop} {s:Shared}
def sIx (n d:Nat):Option Int→Nat
  | none=>d
  | some v=>if v<0 then (v+(n:Int)).toNat else min v.toNat n
theorem sIx_none (n d:Nat):sIx n d none=d:=rfl
theorem sIx_nat (n d k:Nat):sIx n d (some (k:Int))=min k n:=by
  show (if (k:Int)<0 then ((k:Int)+(n:Int)).toNat else min (k:Int).toNat n)=min k n
  rw [if_neg (by omega),Int.toNat_natCast]
end
end HT
namespace L2
open PySem PySem.Spec PyProof.Rows
abbrev TO:=St→Hp→(Option Int→Hp→Prop)→Prop
def PO (X:Cx) (e:Option Expr) (t:TO):Prop :=
  ∀ (pins:List (Addr × Obj)) (s:Shared) (σ:St) (H:Hp) (Q:Option Int→Hp→Prop),Inv X pins σ H s→t σ H Q →
    wpAny (model X.prog X.w) X.A (evalPart e X.env) (fun u s'=>∃ o H',Inv X pins σ H' s'∧IsPart u o∧Q o H') X.xe s
def tNoPart:TO:=fun _ H Q=>Q none H
def tPart (t:TE):TO:=fun σ H Q=>t σ H fun x H1=>∃ i,x=.int i∧Q (some i) H1
theorem zbj {ns:List Int}:∀ {us:List Value},Vals (ns.map V.int) us→IntsAre us ns:=by
  induction ns with
  | nil=>intro us r;rw [List.map_nil] at r;cases r;exact .nil
  | cons n ns ih =>
    intro us r
    rw [List.map_cons] at r
    cases r with
    | cons r1 r2 =>
      obtain ⟨t,e⟩:=r1
      subst e
      exact .cons n t (ih r2)
section
variable {X:Cx} {e:Expr} {te:TE} {lo hi:Option Expr} {tl th:TO} {pos p2:Pos}
theorem yv:PO X none tNoPart:=by
  intro pins s σ H Q I h
  rw [evalPart_none]
  exact wpAny_pure ⟨none,H,I,.none,h⟩
theorem yh (h:PE X e te):PO X (some e) (tPart te):=by
  intro pins s σ H Q I hw
  rw [evalPart_some]
  refine thn (h pins s σ H _ I hw) fun u s1 ⟨x,H1,I1,r1,q1⟩=>?_
  obtain ⟨i,rfl,q⟩:=q1
  obtain ⟨t,rfl⟩:=r1
  exact ⟨some i,H1,I1,.int i t,q⟩
def SlR (X:Cx) (r:V→Option Int→Option Int→Hp→VK→Prop):Prop :=
  ∀ (pins:List (Addr × Obj)) (s:Shared) (σ:St) (H:Hp) (x:V) (v vl vu:Value) (lo hi:Option Int) (sl:Addr) (Q:VK),Inv X pins σ H s→RelV x v→s.heap.IsSliceOf sl vl vu .none→IsPart vl lo→IsPart vu hi→r x lo hi H Q →
    ∃ T id,typeLookup (.type T) "__getitem__"=pure (some (.builtin id))∧s.TypeIs v T∧wpAny (model X.prog X.w) X.A (getItem v (.ref sl)) (EP X pins σ Q) X.xe s
def tSl (r:V→Option Int→Option Int→Hp→VK→Prop) (te:TE) (tl th:TO):TE:=fun σ H Q=>te σ H fun x H1=>tl σ H1 fun l H2=>th σ H2 fun u H3=>r x l u H3 Q
theorem yi {r:V→Option Int→Option Int→Hp→VK→Prop} (hr:SlR X r) (he:PE X e te) (hl:PO X lo tl) (hu:PO X hi th):PE X (.Subscript e (.Slice lo hi none p2) pos) (tSl r te tl th):=by
  intro pins s σ H Q I h
  refine Subscript_ (thn (he pins s σ H _ I h) fun v s1 ⟨x,H1,I1,r1,q1⟩=>?_)
  refine wpAny_Slice (thn (hl pins s1 σ H1 _ I1 q1) fun vl s2 ⟨l,H2,I2,pl,q2⟩=>thn (hu pins s2 σ H2 _ I2 q2) fun vu s3 ⟨u,H3,I3,pu,q3⟩=>?_)
  rw [evalPart_none]
  refine wpAny_pure ?_
  have I4:Inv X pins σ H3 {s3 with heap:=s3.heap.push {cls:=.type "slice",data:=.fields #[vl,vu,.none]}}:=I3.kept (t':=s3.toks) fun b ob q=>Heap.get?_push_of_some _ q
  obtain ⟨T,id,hT,ht,hg⟩:=hr pins {s3 with heap:=s3.heap.push {cls:=.type "slice",data:=.fields #[vl,vu,.none]}} σ H3 x v vl vu l u s3.heap.objs.size Q I4 r1 (Heap.IsSliceOf.new ..) pl pu q3
  show wpAny (model X.prog X.w) X.A (subscriptTail e (.Slice lo hi none p2) v (.ref s3.heap.objs.size)) (EP X pins σ Q) X.xe {s3 with heap:=s3.heap.push {cls:=.type "slice",data:=.fields #[vl,vu,.none]}}
  exact tail_any (ops:=[.ref s3.heap.objs.size,v]) ht hT hg (by with_unfolding_all rfl)
def cutV (xs:List V) (lo hi:Option Int):List V:=(xs.drop (HT.sIx xs.length 0 lo)).take (HT.sIx xs.length xs.length hi - HT.sIx xs.length 0 lo)
theorem zif (xs:List V) (lo hi:Option Int):(cutV xs lo hi).length≤xs.length:=by
  unfold cutV
  rw [List.length_take,List.length_drop]
  omega
end
end L2
namespace L2
open PySem PySem.Spec PyProof.Rows
def ixN (n:Nat) (i:Int):Option Nat:=if 0≤i then (if i<n then some i.toNat else none) else if -(n:Int)≤i then some (i+n).toNat else none
def atI {α:Type} (xs:List α) (i:Int):Option α:=(ixN xs.length i).bind fun j=>xs[j]?
theorem zjg {n:Nat} {i:Int} {j:Nat} (h:ixN n i=some j):seqIndex? i n=some j∧j<n∧-(n:Int)≤i∧i<n:=by
  unfold ixN at h
  by_cases h0:0≤i
  · rw [if_pos h0] at h
    by_cases h1:i<n
    · rw [if_pos h1] at h
      have e:i.toNat=j:=Option.some.inj h
      exact ⟨by rw [seqIndex_of h0 h1,e],by omega,by omega,h1⟩
    · rw [if_neg h1] at h;cases h
  · rw [if_neg h0] at h
    by_cases h1 : -(n:Int)≤i
    · rw [if_pos h1] at h
      have e:(i+n).toNat=j:=Option.some.inj h
      exact ⟨by rw [seqIndex_neg (by omega) h1,e],by omega,h1,by omega⟩
    · rw [if_neg h1] at h;cases h
theorem ze2 {α:Type} {xs:List α} {i:Int} {v:α} (h:atI xs i=some v):∃ j,seqIndex? i xs.length=some j∧xs[j]?=some v∧j<xs.length∧-(xs.length:Int)≤i∧i<xs.length:=by
  unfold atI at h
  cases e:ixN xs.length i with
  | none=>rw [e] at h;cases h
  | some j =>
    rw [e] at h
    obtain ⟨h1,h2,h3,h4⟩:=zjg e
    exact ⟨j,h1,h,h2,h3,h4⟩
theorem xq {α:Type} {xs:List α} {j:Nat} {v:α} (h:xs[j]?=some v):atI xs (j:Int)=some v:=by
  have hj:j<xs.length:=(List.getElem?_eq_some_iff.mp h).1
  have e:ixN xs.length (j:Int)=some j:=by
    unfold ixN
    rw [if_pos (by omega),if_pos (by omega)];simp
  unfold atI;rw [e];exact h
def PlainIx (b:Expr):Prop:=∀ o i,subscripted b false o i=operate [o,i] (getItem o i)
def IxR (X:Cx) (r:R2):Prop :=
  ∀ (value slice:Expr) (pins:List (Addr × Obj)) (s:Shared) (σ:St) (H:Hp) (x y:V) (v u:Value) (Q:VK),Inv X pins σ H s→RelV x v→RelV y u→r x y H Q →
    subscripted slice false v u=operate [v,u] (getItem v u)→wpAny (model X.prog X.w) X.A (subscriptTail value slice v u) (EP X pins σ Q) X.xe s
def MtR (X:Cx) (id:String) (r:V→List V→Hp→VK→Prop):Prop :=
  ∀ (pins:List (Addr × Obj)) (s:Shared) (σ:St) (H:Hp) (x:V) (xs:List V) (v:Value) (us:List Value) (Q:VK),Inv X pins σ H s→RelV x v→Vals xs us→r x xs H Q →
    wpAny (model X.prog X.w) X.A (call (.builtin id) (v::us)) (EP X pins σ Q) X.xe s
section
variable {X:Cx} {a b:Expr} {ta tb:TE} {pos:Pos}
theorem pe_ix {r:R2} (hr:IxR X r) (ha:PE X a ta) (hb:PE X b tb) (hs:PlainIx b):PE X (.Subscript a b pos) (tOp r ta tb):=by
  intro pins s σ H Q I h
  exact Subscript_ (binT ha hb I h fun v u s2 x y H2 I2 rx ry q=>hr a b pins s2 σ H2 x y v u Q I2 rx ry q (hs _ _))
def rIxL (K:PySem.W.Frag):R2:=fun x y H Q=>∃ p xs i v,x=.ref p∧y=.int i∧SqL K H p xs∧atI xs i=some v∧Q v H
def rIxT (K:PySem.W.Frag):R2:=fun x y H Q=>∃ p xs i v,x=.ref p∧y=.int i∧SqT K H p xs∧atI xs i=some v∧Q v H
def rIxS:R2:=fun x y H Q=>∃ z i c,x=.str z∧y=.int i∧z.length≤sizeLine∧atI z.cps.toList i=some c∧Q (.str ⟨#[c]⟩) H
theorem zw:IxR X (rIxL X.K):=by
  intro value slice pins s σ H x y v u Q I rx ry h hs
  obtain ⟨p,xs,i,z,rfl,rfl,hq,he,q⟩:=h
  cases rx
  obtain ⟨t,rfl⟩:=ry
  obtain ⟨its,r,pl,hz⟩:=I.list hq
  obtain ⟨j,h1,h2,h3,h4,h5⟩:=ze2 he
  obtain ⟨w,ew,rw'⟩:=r.get h2
  have hl:=r.length
  have hn:=line63
  have fin:EP X pins σ Q w s:=⟨z,H,I,rw',q⟩
  by_cases h0:0≤i
  · have hj:i.toNat=j:=by
      rw [seqIndex_of h0 h5] at h1
      exact Option.some.inj h1
    exact item_listR pl.isList h0 (by omega) (by rw [hj];simpa using ew) fin hs
  · have hj:(i+(its.toArray.size:Int)).toNat=j:=by
      rw [seqIndex_neg (by omega) h4] at h1
      rw [List.size_toArray,← hl]
      exact Option.some.inj h1
    exact subscriptTail_builtinR (x:=w) pl.isList.typeIs slot_list_getitem.lookup
      (wpAny_getItem_list_neg (Q:=fun r s'=>r=w∧EP X pins σ Q r s') pl.isList (by omega) (by rw [List.size_toArray] <;> omega) (by omega) (by rw [hj];simpa using ew) ⟨rfl,fin⟩) hs
theorem zaj:IxR X (rIxT X.K):=by
  intro value slice pins s σ H x y v u Q I rx ry h hs
  obtain ⟨p,xs,i,z,rfl,rfl,hq,he,q⟩:=h
  cases rx
  obtain ⟨t,rfl⟩:=ry
  obtain ⟨its,r,pl,hz⟩:=I.tuple hq
  obtain ⟨j,h1,h2,h3,h4,h5⟩:=ze2 he
  obtain ⟨w,ew,rw'⟩:=r.get h2
  have hl:=r.length
  have hn:=line63
  have fin:EP X pins σ Q w s:=⟨z,H,I,rw',q⟩
  exact subscriptTail_builtinR (x:=w) pl.typeIs slot_tuple_getitem.lookup
    (getItem_tuple (j:=j) (Q:=fun r s'=>r=w∧EP X pins σ Q r s') pl (by omega) (by omega) (by rw [List.size_toArray,← hl];exact h1) (by simpa using ew) ⟨rfl,fin⟩) hs
theorem zp9:IxR X rIxS:=by
  intro value slice pins s σ H x y v u Q I rx ry h hs
  obtain ⟨z,i,c,rfl,rfl,hz,he,q⟩:=h
  obtain ⟨t,rfl⟩:=rx
  obtain ⟨t',rfl⟩:=ry
  obtain ⟨j,h1,h2,h3,h4,h5⟩:=ze2 he
  have hl:z.cps.toList.length=z.length:=by simp [Str.length]
  rw [hl] at h1 h4 h5
  have hn:=line63
  exact tail_any (typeIs_str s z t) slot_str_getitem.lookup (getItem_str (c:=c) (by
    have e1:decide (i < -(2 ^ 63:Int))=false:=decide_eq_false (by omega)
    have e2:decide (i ≥ 2 ^ 63)=false:=decide_eq_false (by omega)
    rw [e1,e2,Bool.or_false]) (by rw [h1];simpa using h2) ⟨.str ⟨#[c]⟩,H,I.tok _,⟨_,rfl⟩,q⟩) hs
theorem zj5 (its:List Value) (n j:Nat) (u:Value):Obj.mapSeq (·.setIfInBounds j u) {cls:=.type "list",data:=.seq its.toArray n}={cls:=.type "list",data:=.seq (its.set j u).toArray n}:=by
  simp [Obj.mapSeq]
theorem Inv.lst {pins:List (Addr × Obj)} {σ:St} {H:Hp} {s:Shared} {p:Addr} {xs:List V} (I:Inv X pins σ H s) (h:H p=some (.lst xs)) :
    ∃ (its:List Value) (n:Nat),Vals xs its∧s.heap.get? p=some {cls:=.type "list",data:=.seq its.toArray n}∧xs.length≤sizeLine:=by
  obtain ⟨z,its,n,r,e⟩:=I.hok p _ h
  exact ⟨its,n,r,e,z⟩
theorem Inv.lstUpd {pins:List (Addr × Obj)} {σ:St} {H:Hp} {s:Shared} {p:Addr} {xs ys:List V} {its its':List Value} {n n':Nat} {f:Obj→Obj} (I:Inv X pins σ H s) (h:H p=some (.lst xs))
    (ho:s.heap.get? p=some {cls:=.type "list",data:=.seq its.toArray n}) (hf:f {cls:=.type "list",data:=.seq its.toArray n}={cls:=.type "list",data:=.seq its'.toArray n'}) (r:Vals ys its') (hz:ys.length≤sizeLine) (t:Nat) :
    Inv X pins σ (upd H p (.lst ys)) {s with heap:=s.heap.update p f,toks:=t}:=by
  have e:(s.heap.update p f).get? p=some {cls:=.type "list",data:=.seq its'.toArray n'}:=by
    rw [Heap.get?_update_self f ho (by rw [hf] <;> rfl),hf]
  refine I.write (x:=p) (e:=p) (by rw [h];trivial) (.inl rfl) (fun b u hb q=>(Heap.get?_update_other _ _ (Ne.symm hb)).trans q) ⟨_,e⟩ ?_
  exact ⟨hz,its',n',r,e⟩
def rSetL:V→V→V→Hp→(Hp→Prop)→Prop:=fun o i v H Q=>∃ p xs k j,o=.ref p∧i=.int k∧H p=some (.lst xs)∧ixN xs.length k=some j∧Q (upd H p (.lst (xs.set j v)))
theorem vm:PSet X rSetL:=by
  intro pins s σ H o i v ov iv u Q I ro ri rv h
  obtain ⟨p,xs,k,j,rfl,rfl,hp,hj,q⟩:=h
  cases ro
  obtain ⟨t,rfl⟩:=ri
  obtain ⟨its,n,r,ho,hz⟩:=I.lst hp
  obtain ⟨h1,h2,h3,h4⟩:=zjg hj
  have hl:=r.length
  have hn:=line63
  have I':Inv X pins σ (upd H p (.lst (xs.set j v))) {s with heap:=s.heap.update p (Obj.mapSeq (·.setIfInBounds j u))} :=
    I.lstUpd hp ho (zj5 its n j u) (r.set rv j) (by rw [List.length_set];exact hz) s.toks
  by_cases h0:0≤k
  · have hk:k.toNat=j:=by
      rw [seqIndex_of h0 h4] at h1
      exact Option.some.inj h1
    exact PySem.W.ki_setAt ho h0 (by omega) (by rw [List.size_toArray,← hl];exact h4) (by rw [hk];exact ⟨_,I',q⟩)
  · have hk:(k+(its.toArray.size:Int)).toNat=j:=by
      rw [seqIndex_neg (by omega) h3] at h1
      rw [List.size_toArray,← hl]
      exact Option.some.inj h1
    exact PySem.W.ki_setBack ho (by omega) (by rw [List.size_toArray,← hl];exact h3) (by omega) (by rw [hk];exact ⟨_,I',q⟩)
theorem zg3 (lo hi:Option Int) (n:Nat):(sliceBounds lo hi none n).1=((HT.sIx n 0 lo:Nat):Int)∧(sliceBounds lo hi none n).2.1=((HT.sIx n n hi:Nat):Int)∧(sliceBounds lo hi none n).2.2=1:=by
  refine ⟨?_,?_,rfl⟩
  · cases lo with
    | none=>simp [sliceBounds,HT.sIx]
    | some i =>
      simp only [sliceBounds,HT.sIx,Option.getD_none,show (1:Int)>0 by decide,if_true]
      by_cases h:i<0
      · simp only [h,if_true] <;> omega
      · simp only [h,if_false] <;> omega
  · cases hi with
    | none=>simp [sliceBounds,HT.sIx]
    | some i =>
      simp only [sliceBounds,HT.sIx,Option.getD_none,show (1:Int)>0 by decide,if_true]
      by_cases h:i<0
      · simp only [h,if_true] <;> omega
      · simp only [h,if_false] <;> omega
theorem zga (its:List Value) (lo hi:Option Int):slicePick its.toArray lo hi none=((its.drop (HT.sIx its.length 0 lo)).take (HT.sIx its.length its.length hi - HT.sIx its.length 0 lo)).toArray:=by
  obtain ⟨h1,h2,h3⟩:=zg3 lo hi its.toArray.size
  unfold slicePick
  rw [h1,h2,h3]
  simp only [sliceRange_one,pick_run,List.size_toArray] <;> rfl
def rSlL (K:PySem.W.Frag):V→Option Int→Option Int→Hp→VK→Prop:=fun x lo hi H Q=>∃ a xs,x=.ref a∧SqL K H a xs∧∀ p,H p=none→Q (.ref p) (upd H p (.lst (cutV xs lo hi)))
theorem yp:SlR X (rSlL X.K):=by
  intro pins s σ H x v vl vu lo hi sl Q I rx hs pl pu h
  obtain ⟨a,xs,rfl,hx,q⟩:=h
  cases rx
  obtain ⟨its,r,ht,hz⟩:=I.list hx
  have hlen:=r.length
  refine ⟨"list",_,slot_list_getitem.lookup,ht.isList.typeIs,?_⟩
  refine wpAny_getItem_list_slice ht.isList hs pl pu .none (by simp) ?_ (by rw [List.size_toArray] <;> omega)
  rw [zga,← hlen]
  refine ⟨.ref s.heap.objs.size,_,I.laid (t':=s.toks) (o:=.lst (cutV xs lo hi)) (fun b ob q=>Heap.get?_push_of_some _ q) (Nat.le_refl _) ?_,rfl,q _ (I.hok.fresh (Nat.le_refl _))⟩
  exact ⟨Nat.le_trans (zif xs lo hi) hz,_,0,(r.drop (HT.sIx xs.length 0 lo)).take (HT.sIx xs.length xs.length hi - HT.sIx xs.length 0 lo),Heap.get?_push_size _ rfl⟩
def flatV:V→Bool
  | .non=>true
  | .bl _=>true
  | .int _=>true
  | .str _=>true
  | _=>false
def eqV:V→V→Bool
  | .non,.non=>true
  | .bl a,.bl b=>a==b
  | .bl a,.int b=>(if a then 1 else 0)==b
  | .int a,.bl b=>a==(if b then 1 else 0)
  | .int a,.int b=>a==b
  | .str a,.str b=>a==b
  | _,_=>false
theorem zqa {A:Around} {s:Shared} {y x:V} {u v:Value} (ry:RelV y u) (rx:RelV x v) (fy:flatV y=true) (fx:flatV x=true):SeqAt.EqAt A s u v (eqV y x):=by
  cases y with
  | non =>
    cases ry
    cases x with
    | non=>cases rx;exact SeqAt.EqAt.same _
    | bl b=>cases rx;exact SeqAt.EqAt.none_bool b
    | int b=>obtain ⟨t,rfl⟩:=rx;exact SeqAt.EqAt.none_int b t
    | str b=>obtain ⟨t,rfl⟩:=rx;exact SeqAt.EqAt.none_str b t
    | _=>exact absurd (show false=true from fx) Bool.false_ne_true
  | bl a =>
    cases ry
    cases x with
    | non=>cases rx;exact SeqAt.EqAt.bool_none a
    | bl b=>cases rx;exact SeqAt.EqAt.bool_bool a b
    | int b=>obtain ⟨t,rfl⟩:=rx;exact SeqAt.EqAt.bool_int a b t
    | str b=>obtain ⟨t,rfl⟩:=rx;exact SeqAt.EqAt.bool_str a b t
    | _=>exact absurd (show false=true from fx) Bool.false_ne_true
  | int a =>
    obtain ⟨t',rfl⟩:=ry
    cases x with
    | non=>cases rx;exact SeqAt.EqAt.int_none a t'
    | bl b=>cases rx;exact SeqAt.EqAt.int_bool a t' b
    | int b=>obtain ⟨t,rfl⟩:=rx;exact SeqAt.EqAt.int_int a t' b t
    | str b=>obtain ⟨t,rfl⟩:=rx;exact SeqAt.EqAt.int_str a t' b t
    | _=>exact absurd (show false=true from fx) Bool.false_ne_true
  | str a =>
    obtain ⟨t',rfl⟩:=ry
    cases x with
    | non=>cases rx;exact SeqAt.EqAt.str_none a t'
    | bl b=>cases rx;exact SeqAt.EqAt.str_bool a t' b
    | int b=>obtain ⟨t,rfl⟩:=rx;exact SeqAt.EqAt.str_int a t' b t
    | str b=>obtain ⟨t,rfl⟩:=rx;exact SeqAt.EqAt.str_str a t' b t
    | _=>exact absurd (show false=true from fx) Bool.false_ne_true
  | _=>exact absurd (show false=true from fy) Bool.false_ne_true
def eqU (x:V) (u:Value):Bool:=match u with
  | .none=>eqV .non x
  | .bool b=>eqV (.bl b) x
  | .int i _=>eqV (.int i) x
  | .str z _=>eqV (.str z) x
  | _=>false
theorem zg4 {x y:V} {u:Value} (r:RelV y u) (f:flatV y=true):eqU x u=eqV y x:=by
  cases y with
  | non=>cases r;rfl
  | bl b=>cases r;rfl
  | int i=>obtain ⟨t,rfl⟩:=r;rfl
  | str z=>obtain ⟨t,rfl⟩:=r;rfl
  | _=>exact absurd (show false=true from f) Bool.false_ne_true
theorem zb8 {x:V}:∀ {xs:List V} {us:List Value},Vals xs us→xs.all flatV=true→us.any (eqU x)=xs.any fun y=>eqV y x
  | _,_,.nil,_=>rfl
  | y::xs,u::us,.cons r t,f=>by
    rw [List.all_cons,Bool.and_eq_true] at f
    rw [List.any_cons,List.any_cons,zg4 r f.1,zb8 t f.2]
theorem zaz {A:Around} {s:Shared} {x:V} {v:Value} (rx:RelV x v) (fx:flatV x=true):∀ {xs:List V} {us:List Value},Vals xs us→xs.all flatV=true→∀ u∈us,SeqAt.EqAt A s u v (eqU x u)
  | _,_,.nil,_=>fun u hu=>by cases hu
  | y::xs,u::us,.cons r t,f=>fun u' hu=>by
    rw [List.all_cons,Bool.and_eq_true] at f
    rcases List.mem_cons.mp hu with rfl | hu
    · rw [zg4 r f.1];exact zqa r rx f.1 fx
    · exact zaz rx fx t f.2 u' hu
def inV (x:V) (xs:List V):Bool:=xs.any fun y=>eqV y x
def rIn (K:PySem.W.Frag) (neg:Bool):R2:=fun x y H Q=>∃ p xs,y=.ref p∧(SqL K H p xs∨SqT K H p xs)∧flatV x=true∧xs.all flatV=true∧Q (.bl (if neg then !inV x xs else inV x xs)) H
theorem zfu:OpR X (compareOp .In) (rIn X.K false):=by
  intro pins s σ H x y v u Q I rx ry h
  obtain ⟨p,xs,rfl,hq,fx,fs,q⟩:=h
  cases ry
  rcases hq with hq | hq
  · obtain ⟨its,r,pl,hz⟩:=I.list hq
    refine SeqAt.in_listAt (eqU x) pl.isList (fun w hw=>zaz rx fx r fs w (by simpa using hw)) ⟨.bl _,H,I,rfl,?_⟩
    rw [show its.toArray.any (eqU x)=its.any (eqU x) by simp,zb8 r fs]
    exact q
  · obtain ⟨its,r,pl,hz⟩:=I.tuple hq
    refine SeqAt.in_tupleAt (eqU x) pl (fun w hw=>zaz rx fx r fs w (by simpa using hw)) ⟨.bl _,H,I,rfl,?_⟩
    rw [show its.toArray.any (eqU x)=its.any (eqU x) by simp,zb8 r fs]
    exact q
theorem zg5:OpR X (compareOp .NotIn) (rIn X.K true):=by
  intro pins s σ H x y v u Q I rx ry h
  obtain ⟨p,xs,rfl,hq,fx,fs,q⟩:=h
  cases ry
  rcases hq with hq | hq
  · obtain ⟨its,r,pl,hz⟩:=I.list hq
    refine SeqAt.notIn_listAt (eqU x) pl.isList (fun w hw=>zaz rx fx r fs w (by simpa using hw)) ⟨.bl _,H,I,rfl,?_⟩
    rw [show its.toArray.any (eqU x)=its.any (eqU x) by simp,zb8 r fs]
    exact q
  · obtain ⟨its,r,pl,hz⟩:=I.tuple hq
    refine SeqAt.notIn_tupleAt (eqU x) pl (fun w hw=>zaz rx fx r fs w (by simpa using hw)) ⟨.bl _,H,I,rfl,?_⟩
    rw [show its.toArray.any (eqU x)=its.any (eqU x) by simp,zb8 r fs]
    exact q
theorem ya:CallR X (.builtin "len") (fun xs H Q=>∃ p ys,xs=[.ref p]∧(SqL X.K H p ys∨SqT X.K H p ys)∧Q (.int ys.length) H):=by
  intro pins s σ H xs us Q I r h
  obtain ⟨p,ys,rfl,hq,q⟩:=h
  obtain ⟨u,rfl,rx⟩:=vals1 r
  cases rx
  have hn:=line63
  rcases hq with hq | hq
  · obtain ⟨its,r',pl,hz⟩:=I.list hq
    have hlen:=r'.length
    exact Calls.call_len_list pl.isList (by simp only [List.size_toArray] <;> omega) ⟨.int ys.length,H,I.tok _,⟨s.toks+1,by rw [List.size_toArray,hlen]⟩,q⟩
  · obtain ⟨its,r',pl,hz⟩:=I.tuple hq
    have hlen:=r'.length
    exact len_tuple pl (by simp only [List.size_toArray] <;> omega) ⟨.int ys.length,H,I.tok _,⟨s.toks+1,by rw [List.size_toArray,hlen]⟩,q⟩
theorem zas:CallR X (.type "list") (fun xs H Q=>∃ p ys,xs=[.ref p]∧(SqL X.K H p ys∨SqT X.K H p ys)∧∀ l,H l=none→Q (.ref l) (upd H l (.lst ys))):=by
  intro pins s σ H xs us Q I r h
  obtain ⟨p,ys,rfl,hq,q⟩:=h
  obtain ⟨u,rfl,rx⟩:=vals1 r
  cases rx
  have fin:∀ (its:List Value),Vals ys its→ys.length≤sizeLine→∀ (h':Heap) (c':Nat),(∀ b o',s.heap.get? b=some o'→h'.get? b=some o') →
      h'.get? s.heap.objs.size=some {cls:=.type "list",dict:=none,data:=.seq its.toArray c',slots:=#[]}→EP X pins σ Q (.ref s.heap.objs.size) {s with heap:=h'}:=fun its r' hz h' c' kp e =>
    ⟨.ref s.heap.objs.size,_,I.laid (t':=s.toks) kp (Nat.le_refl _) (show ObjOk X.prog X.w _ h' _ (.lst ys) from ⟨hz,its,c',r',e⟩),rfl,q _ (I.hok.fresh (Nat.le_refl _))⟩
  rcases hq with hq | hq
  · obtain ⟨its,r',pl,hz⟩:=I.list hq
    have hlen:=r'.length
    obtain ⟨o,ho,hc,n,hd⟩:=pl.isList
    exact call_list_seq p (.inl rfl) ho hc hd (fun h' c' kp e=>fin its r' hz h' c' kp e) (by simp only [List.size_toArray] <;> omega)
  · obtain ⟨its,r',pl,hz⟩:=I.tuple hq
    have hlen:=r'.length
    obtain ⟨o,ho,hc,n,hd⟩:=pl
    exact call_list_seq p (.inr rfl) ho hc hd (fun h' c' kp e=>fin its r' hz h' c' kp e) (by simp only [List.size_toArray] <;> omega)
def tyV (K:PySem.W.Frag) (T:String) (x:V) (H:Hp):Prop:=match x with
  | .str _=>T="str"
  | .int _=>T="int"
  | .ref p=>(T="list"∧∃ xs,SqL K H p xs)∨(T="tuple"∧∃ o,K.lookup p=some o∧o.cls=.type "tuple"∧o.dict=none) ∨
      (T="dict"∧((∃ kvs,H p=some (.dK kvs))∨∃ kvs,H p=some (.dT kvs)))∨(T="set"∧∃ S n,H p=some (.set S n))
  | _=>False
theorem zlj {pins:List (Addr × Obj)} {σ:St} {H:Hp} {s:Shared} {T:String} {x:V} {v:Value} (I:Inv X pins σ H s) (r:RelV x v) (ty:tyV X.K T x H) :
    s.TypeIs v T∧∀ a,v=.ref a→∃ ob,s.heap.get? a=some ob∧ob.dict=none:=by
  cases x with
  | str z =>
    obtain ⟨t,rfl⟩:=r
    cases (show T="str" from ty)
    exact ⟨typeIs_str s z t,fun _ e=>nomatch e⟩
  | int i =>
    obtain ⟨t,rfl⟩:=r
    cases (show T="int" from ty)
    exact ⟨typeIs_int s i t,fun _ e=>nomatch e⟩
  | ref p =>
    cases r
    rcases ty with ⟨rfl,xs,hq⟩ | ⟨rfl,o,hk,hc,hd⟩ | ⟨rfl,hk⟩ | ⟨rfl,S,n,hk⟩
    · obtain ⟨its,_,pl,_⟩:=I.list hq
      refine ⟨pl.isList.typeIs,fun a e=>?_⟩
      cases e
      obtain ⟨o,n,e,c,hd,_⟩:=pl
      exact ⟨o,e,hd⟩
    · refine ⟨⟨o,I.kIn p o hk,hc⟩,fun a e=>?_⟩
      cases e
      exact ⟨o,I.kIn _ o hk,hd⟩
    · have z:∃ o,s.heap.get? p=some o∧o.ExactDict:=by
        rcases hk with ⟨kvs,hk⟩ | ⟨kvs,hk⟩
        · obtain ⟨_,_,_,_,o,_,_,e,ex,_⟩:=I.hok p _ hk
          exact ⟨o,e,ex⟩
        · obtain ⟨_,_,_,_,o,_,_,e,ex,_⟩:=I.hok p _ hk
          exact ⟨o,e,ex⟩
      obtain ⟨o,e,ex⟩:=z
      refine ⟨⟨o,e,ex.1⟩,fun a e2=>?_⟩
      cases e2
      exact ⟨o,e,ex.2.1⟩
    · obtain ⟨o,_,_,_,e,ex,_⟩:=I.hok p _ hk
      refine ⟨⟨o,e,ex.1⟩,fun a e2=>?_⟩
      cases e2
      exact ⟨o,e,ex.2.1⟩
  | _=>exact False.elim ty
def tBM0 (K:PySem.W.Frag) (T:String) (r:V→List V→Hp→VK→Prop) (to:TE):TE:=fun σ H Q=>to σ H fun x H1=>tyV K T x H1∧r x [] H1 Q
def tBM (K:PySem.W.Frag) (T:String) (r:V→List V→Hp→VK→Prop) (to:TE) (t:TA):TE:=fun σ H Q=>to σ H fun x H1=>tyV K T x H1∧t σ H1 fun xs H2=>r x xs H2 Q
variable {o e:Expr} {es:List Expr} {to:TE} {t:TA} {name:Str} {apos cpos:Pos} {T id:String} {r:V→List V→Hp→VK→Prop}
theorem zlk (pa:PlainAttrs T) (slot:Slot T name id) (hty:typeOf (.builtin id)=pure (.type "method_descriptor")) (hm:MtR X id r) (ho:PE X o to)
    (hbase:attributeBase o name X.env (eval o X.env)=eval o X.env:=by rfl) (hline:(apos.endLine==cpos.line)=true:=by rfl):PE X (.Call (.Attribute o name apos) [] [] cpos) (tBM0 X.K T r to):=by
  intro pins s σ H Q I h
  refine wpAny_Call_method0_late hbase hline (thn (ho pins s σ H _ I h) fun v s1 ⟨x,H1,I1,r1,ty,q1⟩=>?_)
  obtain ⟨h1,h2⟩:=zlj I1 r1 ty
  exact ⟨T,id,pa,slot,hty,h1,h2,Calls.callWith_builtin rfl (PySem.evalArgs_none (hm pins s1 σ H1 x [] v [] Q I1 r1 .nil q1))⟩
theorem pe_bm (pa:PlainAttrs T) (slot:Slot T name id) (hty:typeOf (.builtin id)=pure (.type "method_descriptor")) (hm:MtR X id r) (ho:PE X o to) (ha:PA X (e::es) t)
    (hbase:attributeBase o name X.env (eval o X.env)=eval o X.env:=by rfl)
    (hfew:((backTo cpos (starEach (e::es) X.env)).all (fun x=>!x.1)&&(backToKw cpos (keywordEach [] X.env)).all (fun x=>x.1.isSome)
      && decide ((e::es).length+([]:List Keyword).length+(if ([]:List Keyword).isEmpty then 0 else 1)<30))=true:=by rfl)
    (hline:(apos.endLine==cpos.line)=true:=by rfl) (hs:starEach (e::es) X.env=(false,eval e X.env)::starEach es X.env:=by rfl) (hplain:(backTo cpos (starEach es X.env)).any (·.1)=false:=by rfl) :
    PE X (.Call (.Attribute o name apos) (e::es) [] cpos) (tBM X.K T r to t):=by
  intro pins s σ H Q I h
  refine wpAny_Call_method_late hbase hfew hline rfl (thn (ho pins s σ H _ I h) fun v s1 ⟨x,H1,I1,r1,ty,q1⟩=>?_)
  obtain ⟨h1,h2⟩:=zlj I1 r1 ty
  refine ⟨T,id,pa,slot,hty,h1,h2,?_⟩
  have hA:=ha cpos pins s1 σ H1 _ I1 q1
  rw [hs] at hA ⊢
  refine Calls.callWith_builtin (by show (false||(backTo cpos (starEach es X.env)).any (·.1))=false;rw [hplain] <;> rfl) (Calls.evalArgs_plain ?_)
  exact thn hA fun us s2 ⟨vs,H2,I2,r2,q2⟩=>hm pins s2 σ H2 x vs v us Q I2 r1 r2 q2
end
end L2
namespace L2
open PySem PySem.Spec PyProof.Rows
def MtM (X:Cx) (id:String) (r:V→List V→Hp→VK→Prop):Prop :=
  ∀ (pins:List (Addr × Obj)) (s:Shared) (σ:St) (H:Hp) (x:V) (xs:List V) (v:Value) (us:List Value) (Q:VK),Inv X pins σ H s→RelV x v→Vals xs us→r x xs H Q →
    wpAny (model X.prog X.w) X.A (call (.builtin id) (v::us)) (EP X pins σ Q) X.xe s
theorem Vals.one:∀ {x:V} {us:List Value},Vals [x] us→∃ u,us=[u]∧RelV x u
  | _,_,.cons r .nil=>⟨_,rfl,r⟩
theorem Vals.zero:∀ {us:List Value},Vals [] us→us=[]
  | _,.nil=>rfl
theorem Vals.reverse {xs:List V} {us:List Value} (h:Vals xs us):Vals xs.reverse us.reverse:=by
  induction h with
  | nil=>exact .nil
  | cons r t ih=>rw [List.reverse_cons,List.reverse_cons];exact Vals.append ih (.cons r .nil)
theorem Vals.rep {xs:List V} {us:List Value} (h:Vals xs us):∀ k:Nat,Vals (List.replicate k xs).flatten (List.replicate k us).flatten
  | 0=>.nil
  | k+1=>by
    rw [List.replicate_succ,List.replicate_succ,List.flatten_cons,List.flatten_cons]
    exact Vals.append h (Vals.rep h k)
theorem zfv (its:List Value):∀ (k:Nat) (acc:List Value),
    List.foldl (fun x1 x2=>x1++x2) acc.toArray (List.replicate k its.toArray)=(acc++(List.replicate k its).flatten).toArray
  | 0,acc=>by simp
  | k+1,acc=>by
    have e:acc.toArray++its.toArray=(acc++its).toArray:=by simp
    have e2:(acc++its)++(List.replicate k its).flatten=acc++(List.replicate (k+1) its).flatten:=by
      rw [List.replicate_succ,List.flatten_cons,List.append_assoc]
    rw [← e2,← zfv its k (acc++its),← e,List.replicate_succ,List.foldl_cons]
section
variable {X:Cx} {pins:List (Addr × Obj)} {σ:St} {H:Hp} {s:Shared} {l b:Addr} {xs ys zs:List V}
theorem Inv.lset {its its':List Value} {n:Nat} {f:Array Value→Array Value} {t':Nat} (I:Inv X pins σ H s) (hH:H l=some (.lst xs))
    (e:s.heap.get? l=some {cls:=.type "list",data:=.seq its.toArray n}) (hf:f its.toArray=its'.toArray) (hv:Vals ys its') (hz:ys.length≤sizeLine) :
    Inv X pins σ (upd H l (.lst ys)) {s with heap:=s.heap.update l (Obj.mapSeq f),toks:=t'}:=by
  have q:=PySem.IsL.update e f
  rw [hf] at q
  refine I.write (x:=l) (e:=l) (by rw [hH];exact trivial) (.inl rfl) (fun b' u hb hu=>(Heap.get?_update_other s.heap (Obj.mapSeq f) (Ne.symm hb)).trans hu) ⟨_,q⟩ ?_
  exact ⟨hz,its',_,hv,q⟩
theorem Inv.lnew {its:List Value} {t':Nat} (I:Inv X pins σ H s) (hv:Vals ys its) (hz:ys.length≤sizeLine) :
    Inv X pins σ (upd H s.heap.objs.size (.lst ys)) {s with heap:=s.heap.push {cls:=.type "list",data:=.seq its.toArray},toks:=t'} :=
  I.laid (fun _ _ q=>Heap.get?_push_of_some _ q) (Nat.le_refl _) ⟨hz,its,0,hv,Heap.get?_push_size _ rfl⟩
theorem Inv.fresh (I:Inv X pins σ H s):H s.heap.objs.size=none:=I.hok.fresh (Nat.le_refl _)
theorem Inv.lstM (I:Inv X pins σ H s) (hH:H l=some (.lst xs)):xs.length≤sizeLine∧∃ (its:List Value) (n:Nat),Vals xs its∧xs.length=its.length∧s.heap.get? l=some {cls:=.type "list",data:=.seq its.toArray n}:=by
  obtain ⟨z,its,n,r,e⟩:=I.hok l _ hH
  exact ⟨z,its,n,r,r.length,e⟩
theorem notLongL {n:Nat} (h:n≤sizeLine):Builtin.List.listTooLong n=false:=by
  unfold Builtin.List.listTooLong
  exact decide_eq_false (by omega)
end
section
variable {X:Cx}
def rAppend:V→List V→Hp→VK→Prop:=fun x vs H Q=>∃ l xs y,x=.ref l∧vs=[y]∧H l=some (.lst xs)∧xs.length<sizeLine∧Q .non (upd H l (.lst (xs++[y])))
theorem wa:MtM X "list.append" rAppend:=by
  intro pins s σ H x vs v us Q I rx rv h
  obtain ⟨l,xs,y,rfl,rfl,hH,hz,q⟩:=h
  cases rx
  obtain ⟨u,rfl,ru⟩:=rv.one
  obtain ⟨z,its,n,r,hl,e⟩:=I.lstM hH
  refine call_meets F.slot_list_append ⟨_,e,rfl⟩ F.entry_list_append (F.args_list_append_2 _ _) (PySem.list_append l its.toArray n u (by rw [List.size_toArray];omega)) ⟨e,?_⟩
  refine ⟨.non,_,I.lset (its':=its++[u]) hH e (by simp) (r.append (.cons ru .nil)) ?_,rfl,q⟩
  rw [List.length_append,List.length_singleton]
  omega
def rExtend:V→List V→Hp→VK→Prop:=fun x vs H Q=>∃ l b xs zs,x=.ref l∧vs=[.ref b]∧H l=some (.lst xs)∧H b=some (.lst zs)∧xs.length+zs.length≤sizeLine∧Q .non (upd H l (.lst (xs++zs)))
theorem zll:MtM X "list.extend" rExtend:=by
  intro pins s σ H x vs v us Q I rx rv h
  obtain ⟨l,b,xs,zs,rfl,rfl,hH,hB,hz,q⟩:=h
  cases rx
  obtain ⟨u,rfl,ru⟩:=rv.one
  cases ru
  obtain ⟨z,its,n,r,hl,e⟩:=I.lstM hH
  obtain ⟨z2,its2,n2,r2,hl2,e2⟩:=I.lstM hB
  have hsz:its.toArray.size+its2.toArray.size≤sizeLine:=by rw [List.size_toArray,List.size_toArray];omega
  have hlong:¬ (!its.toArray.isEmpty&&Builtin.List.listTooLong (its.toArray.size+its2.toArray.size))=true:=by
    rw [notLongL hsz,Bool.and_false]
    exact Bool.false_ne_true
  refine call_meets F.slot_list_extend ⟨_,e,rfl⟩ F.entry_list_extend (F.args_list_extend_2 _ _)
    (AutoSeq1.list_extend_list_list_0 l its.toArray n b its2.toArray n2 hlong (by rw [List.size_toArray];omega) (by omega)) ⟨e,e2,?_⟩
  refine ⟨.non,_,I.lset (its':=its++its2) hH e (by simp) (r.append r2) ?_,rfl,q⟩
  rw [List.length_append]
  omega
def rCat:R2:=fun x y H Q=>∃ l b xs zs,x=.ref l∧y=.ref b∧H l=some (.lst xs)∧H b=some (.lst zs)∧xs.length+zs.length≤sizeLine∧∀ p,H p=none→Q (.ref p) (upd H p (.lst (xs++zs)))
theorem wo:OpR X (binaryOp .Add) rCat:=by
  intro pins s σ H x y v u Q I rx ry h
  obtain ⟨l,b,xs,zs,rfl,rfl,hH,hB,hz,q⟩:=h
  cases rx
  cases ry
  obtain ⟨z,its,n,r,hl,e⟩:=I.lstM hH
  obtain ⟨z2,its2,n2,r2,hl2,e2⟩:=I.lstM hB
  refine PySem.P.add_list e e2 ?_ (by rw [List.size_toArray,List.size_toArray];omega)
  have ea:its.toArray++its2.toArray=(its++its2).toArray:=by simp
  rw [ea]
  exact ⟨.ref _,_,I.lnew (t':=s.toks) (r.append r2) (by rw [List.length_append];omega),rfl,q _ I.fresh⟩
def rRep:R2:=fun x y H Q=>∃ l k xs,x=.ref l∧y=.int k∧H l=some (.lst xs)∧-(2 ^ 63)≤k∧k<2 ^ 63∧xs.length * k.toNat≤sizeLine ∧
  ∀ p,H p=none→Q (.ref p) (upd H p (.lst (List.replicate k.toNat xs).flatten))
theorem zo0 {α:Type} (xs:List α) (k:Nat):(List.replicate k xs).flatten.length=k * xs.length:=by
  induction k with
  | zero=>simp
  | succ k ih=>rw [List.replicate_succ,List.flatten_cons,List.length_append,ih,Nat.succ_mul,Nat.add_comm]
theorem zb9:OpR X (binaryOp .Mult) rRep:=by
  intro pins s σ H x y v u Q I rx ry h
  obtain ⟨l,k,xs,rfl,rfl,hH,h1,h2,hz,q⟩:=h
  cases rx
  obtain ⟨t,rfl⟩:=ry
  obtain ⟨z,its,n,r,hl,e⟩:=I.lstM hH
  have hlen:its.toArray.size * k.toNat≤sizeLine:=by rw [List.size_toArray,← hl];exact hz
  have hcap:¬ its.toArray.size * k.toNat>(2 ^ 63 - 1) / 8:=by
    have:(sizeLine:Nat)≤(2 ^ 63 - 1) / 8:=by decide
    omega
  have hfit:¬ (!Builtin.List.listFitsIndex k)=true:=by
    rw [fitsIndex_both h1 h2]
    exact Bool.false_ne_true
  have hlong:¬ Builtin.List.listTooLong (its.toArray.size * k.toNat)=true:=by
    rw [notLongL hlen]
    exact Bool.false_ne_true
  have hnew:List.foldl (fun x1 x2=>x1++x2) #[] (List.replicate (if its.toArray.isEmpty=true then 0 else k.toNat) its.toArray)=(List.replicate k.toNat its).flatten.toArray:=by
    have f0:∀ m:Nat,List.foldl (fun x1 x2=>x1++x2) #[] (List.replicate m its.toArray)=(List.replicate m its).flatten.toArray:=fun m=>by
      have:=zfv its m []
      rw [List.nil_append] at this
      exact this
    rw [f0]
    cases its with
    | nil=>simp
    | cons a r'=>rw [if_neg (by simp)]
  refine wpAny_binaryOp_repeat_ref (T:="list") (U:="int") (by decide) ⟨_,e,rfl⟩ (fun s'=>typeIs_int s' k t) noFill_list_mul F.fills_int_mul F.slot_int_rmul repeat_list F.slot_int_index.lookup
    (call_meets F.slot_int_rmul (typeIs_int s k t) F.entry_int_rmul (F.args_int_rmul_2 _ _) (int___rmul___int_list k t l its.toArray n)
      ⟨e,rfl,⟨_,e,rfl⟩,call_meets F.slot_list_mul ⟨_,e,rfl⟩ F.entry_list_mul (F.args_list_mul_2 _ _) (AutoListH.list___mul___list_int_3 l its.toArray n k t hfit hcap hlong) ⟨e,?_⟩⟩)
  rw [hnew]
  exact ⟨.ref _,_,I.lnew (t':=s.toks) (r.rep k.toNat) (by rw [zo0,Nat.mul_comm];exact hz),rfl,q _ I.fresh⟩
end
section
variable {prog:Program} {w:World} {A:Around} {E:Value→Shared→Prop} {s:Shared}
end
section
variable {X:Cx}
end
end L2
namespace L2
open PySem PySem.Spec PyProof.Rows
section
variable {κ:Type} [DecidableEq κ]
def valV (kvs:List (κ × V)) (k:κ):Option V:=(kvs.find? fun kv=>decide (kv.1=k)).map (·.2)
def putK (kvs:List (κ × V)) (k:κ) (v:V):List (κ × V) :=
  if (kvs.any fun kv=>decide (kv.1=k))=true then kvs.map (fun kv=>if kv.1=k then (kv.1,v) else kv) else kvs++[(k,v)]
theorem zch {p:κ × V} {r:List (κ × V)} {k:κ} (e:p.1=k):valV (p::r) k=some p.2:=by simp [valV,List.find?_cons,e]
theorem zci {p:κ × V} {r:List (κ × V)} {k:κ} (e:¬ p.1=k):valV (p::r) k=valV r k:=by simp [valV,List.find?_cons,e]
theorem zd0 (k:κ):∀ kvs:List (κ × V),(kvs.any fun kv=>decide (kv.1=k))=(valV kvs k).isSome
  | []=>rfl
  | p::r=>by
    rw [List.any_cons]
    by_cases e:p.1=k
    · simp only [zch e,decide_eq_true e,Bool.true_or,Option.isSome_some]
    · rw [zci e,decide_eq_false e,Bool.false_or];exact zd0 k r
theorem zdi (kvs:List (κ × V)) (k:κ) (v:V):(putK kvs k v).length≤kvs.length+1:=by
  unfold putK
  split
  · rw [List.length_map];omega
  · rw [List.length_append,List.length_cons,List.length_nil];omega
theorem RelO.isSome_eq {o:Option V} {u:Option Value} (r:RelO o u):o.isSome=u.isSome:=by
  cases o with
  | none=>cases u with
    | none=>rfl
    | some _=>exact (show False from r).elim
  | some _=>cases u with
    | none=>exact (show False from r).elim
    | some _=>rfl
theorem KV.val {kvs:List (κ × V)} {vs:List (κ × Value)} (r:KV kvs vs) (k:κ):RelO (valV kvs k) (valueAt vs k):=by
  unfold KV at r
  induction r with
  | nil=>exact True.intro
  | @cons p q ps qs h t ih =>
    obtain ⟨h1,h2⟩:=h
    by_cases e:p.1=k
    · have e':q.1=k:=h1.symm.trans e
      have b:valueAt (q::qs) k=some q.2:=by simp [valueAt,List.find?_cons,e']
      rw [zch e,b];exact h2
    · have e':¬ q.1=k:=fun z=>e (h1.trans z)
      have b:valueAt (q::qs) k=valueAt qs k:=by simp [valueAt,List.find?_cons,e']
      rw [zci e,b];exact ih
theorem KV.any {kvs:List (κ × V)} {vs:List (κ × Value)} (r:KV kvs vs) (k:κ):(kvs.any fun kv=>decide (kv.1=k))=vs.any fun kv=>decide (kv.1=k):=by
  unfold KV at r
  induction r with
  | nil=>rfl
  | cons h t ih=>rw [List.any_cons,List.any_cons,ih,h.1]
theorem KV.repl {kvs:List (κ × V)} {vs:List (κ × Value)} (r:KV kvs vs) (k:κ) {y:V} {u:Value} (ry:RelV y u) :
    KV (kvs.map fun kv=>if kv.1=k then (kv.1,y) else kv) (vs.map fun kv=>if kv.1=k then (kv.1,u) else kv):=by
  unfold KV at r ⊢
  induction r with
  | nil=>exact .nil
  | @cons p q ps qs h t ih =>
    rw [List.map_cons,List.map_cons]
    refine .cons ?_ ih
    obtain ⟨h1,h2⟩:=h
    by_cases e:p.1=k
    · rw [if_pos e,if_pos (h1.symm.trans e)];exact ⟨h1,ry⟩
    · rw [if_neg e,if_neg (fun z=>e (h1.trans z))];exact ⟨h1,h2⟩
theorem KV.put {kvs:List (κ × V)} {vs:List (κ × Value)} (r:KV kvs vs) (k:κ) {y:V} {u:Value} (ry:RelV y u):KV (putK kvs k y) (stored vs k u):=by
  unfold putK stored
  rw [r.any k]
  by_cases e:(vs.any fun kv=>decide (kv.1=k))=true
  · rw [if_pos e,if_pos e];exact r.repl k ry
  · rw [if_neg e,if_neg e];exact Paired.snoc r ⟨rfl,ry⟩
theorem KV.length {kvs:List (κ × V)} {vs:List (κ × Value)} (r:KV kvs vs):kvs.length=vs.length:=Paired.length r
end
theorem kV_is {P:Program} {w:World} {k:Key} {u:Value} (r:RelV (kV k) u):(mixKind P w).is k u=true:=by
  cases k with
  | inl i=>obtain ⟨t,e⟩:=(show ∃ t,u=Value.int i t from r);subst e;exact zid P w i t
  | inr x=>obtain ⟨t,e⟩:=(show ∃ t,u=Value.str x t from r);subst e;exact zie P w x t
theorem zfw {P:Program} {w:World}:∀ {ks:List Key} {us:List Value},Vals (ks.map kV) us→ItemsAre (mixKind P w) ks us
  | [],_,r=>by rw [List.map_nil] at r;cases r;exact .nil
  | k::ks,_,r=>by
    rw [List.map_cons] at r
    cases r with
    | cons h t=>exact .cons (kV_is h) (zfw t)
abbrev KT (H:Hp):List (List Key × V)→List (List Key × Addr × Value)→Prop:=Paired fun p q=>p.1=q.1∧H q.2.1=some (.tup (p.1.map kV))∧RelV p.2 q.2.2
theorem KT.val {H:Hp} {kvs:List (List Key × V)} {xs:List (List Key × Addr × Value)} (r:KT H kvs xs) (k:List Key):RelO (valV kvs k) ((atKey xs k).map (·.2)):=by
  induction r with
  | nil=>exact True.intro
  | @cons p q ps qs h t ih =>
    obtain ⟨h1,_,h2⟩:=h
    by_cases e:p.1=k
    · have e':q.1=k:=h1.symm.trans e
      have b:atKey (q::qs) k=some q.2:=by simp [atKey,List.find?_cons,e']
      rw [zch e,b];exact h2
    · have e':¬ q.1=k:=fun z=>e (h1.trans z)
      have b:atKey (q::qs) k=atKey qs k:=by simp [atKey,List.find?_cons,e']
      rw [zci e,b];exact ih
theorem KT.repl {H:Hp} {kvs:List (List Key × V)} {xs:List (List Key × Addr × Value)} (r:KT H kvs xs) (k:List Key) {y:V} {u:Value} (ry:RelV y u) :
    KT H (kvs.map fun kv=>if kv.1=k then (kv.1,y) else kv) (xs.map (putAt k u)):=by
  induction r with
  | nil=>exact .nil
  | @cons p q ps qs h t ih =>
    rw [List.map_cons,List.map_cons]
    refine .cons ?_ ih
    obtain ⟨h1,h2,h3⟩:=h
    unfold putAt
    by_cases e:p.1=k
    · rw [if_pos e,if_pos (h1.symm.trans e)];exact ⟨h1,h2,ry⟩
    · rw [if_neg e,if_neg (fun z=>e (h1.trans z))];exact ⟨h1,h2,h3⟩
theorem KT.put {H:Hp} {kvs:List (List Key × V)} {xs:List (List Key × Addr × Value)} (r:KT H kvs xs) (k:List Key) {b:Addr} {y:V} {u:Value} (hb:H b=some (.tup (k.map kV))) (ry:RelV y u) :
    KT H (putK kvs k y) (storedH xs k b u):=by
  have e:(kvs.any fun kv=>decide (kv.1=k))=(atKey xs k).isSome:=by
    rw [zd0,(r.val k).isSome_eq,Option.isSome_map]
  unfold putK storedH
  rw [e]
  by_cases q:(atKey xs k).isSome=true
  · rw [if_pos q,if_pos q];exact r.repl k ry
  · rw [if_neg q,if_neg q];exact Paired.snoc r ⟨rfl,hb,ry⟩
theorem KT.keeps {H H':Hp} {kvs:List (List Key × V)} {xs:List (List Key × Addr × Value)} (r:KT H kvs xs) (ht:∀ b ys,H b=some (.tup ys)→H' b=some (.tup ys)):KT H' kvs xs :=
  Paired.mapP r fun _ _ z=>⟨z.1,ht _ _ z.2.1,z.2.2⟩
section
variable {P:Program} {w:World} {H:Hp} {h:Heap} {a:Addr}
theorem rd_of {u:HO} (ok:HOk P w H h) (e:Rd H a u):ObjOk P w H h a u:=e.ok ok
theorem dk_rd {kvs:List (Key × V)} (ok:HOk P w H h) (e:Rd H a (.dK kvs)):kvs.length≤sizeLine∧(a==sysModules)=false∧∃ vs,KV kvs vs∧h.DictOf (mixKind P w) a vs :=
  show ObjOk P w H h a (.dK kvs) from rd_of ok e
theorem dk_of {kvs:List (Key × V)} (ok:HOk P w H h) (e:H a=some (.dK kvs)):kvs.length≤sizeLine∧(a==sysModules)=false∧∃ vs,KV kvs vs∧h.DictOf (mixKind P w) a vs:=dk_rd ok (.inl e)
theorem zee {ks:List Key} (ok:HOk P w H h) (e:H a=some (.tup (ks.map kV))):(tupleKind (mixKind P w)).is h ks a:=by
  obtain ⟨_,its,r,o,h1,h2,n,h3⟩:=(show ObjOk P w H h a (.tup (ks.map kV)) from ok a _ e)
  exact ⟨o,its.toArray,n,h1,h2,h3,by simpa using zfw r⟩
theorem dt_rd {kvs:List (List Key × V)} (ok:HOk P w H h) (e:Rd H a (.dT kvs)):kvs.length≤sizeLine∧(a==sysModules)=false ∧
    ∃ xs,KT H kvs xs∧h.DictOfH (tupleKind (mixKind P w)) a xs:=by
  obtain ⟨z,y,xs,r,o,es,ep,h1,h2,h3,h4,h5⟩:=(show ObjOk P w H h a (.dT kvs) from rd_of ok e)
  refine ⟨z,y,xs,r,o,es,ep,h1,h2,h3,h4,fun x hx=>?_,h5⟩
  have all:∀ {l:List (List Key × V)} {m:List (List Key × Addr × Value)},KT H l m→∀ x∈m,(tupleKind (mixKind P w)).is h x.1 x.2.1:=by
    intro l m q
    induction q with
    | nil=>intro x hx;exact nomatch hx
    | @cons p q ps qs hq t ih =>
      intro x hx
      rcases List.mem_cons.mp hx with e | hx
      · subst e
        exact zee ok (by rw [← hq.1];exact hq.2.1)
      · exact ih x hx
  exact all r x hx
theorem dt_of {kvs:List (List Key × V)} (ok:HOk P w H h) (e:H a=some (.dT kvs)):kvs.length≤sizeLine∧(a==sysModules)=false ∧
    ∃ xs,KT H kvs xs∧h.DictOfH (tupleKind (mixKind P w)) a xs:=dt_rd ok (.inl e)
end
def DGet (H:Hp) (a:Addr) (y:V) (r:Option V):Prop :=
  (∃ kvs k,Rd H a (.dK kvs)∧y=kV k∧r=valV kvs k)∨∃ kvs k b,Rd H a (.dT kvs)∧y=.ref b∧H b=some (.tup (k.map kV))∧r=valV kvs k
def DPut (H:Hp) (a:Addr) (y v:V) (H':Hp):Prop :=
  (∃ kvs k,H a=some (.dK kvs)∧y=kV k∧kvs.length<sizeLine∧H'=upd H a (.dK (putK kvs k v))) ∨
  ∃ kvs k b,H a=some (.dT kvs)∧y=.ref b∧H b=some (.tup (k.map kV))∧kvs.length<sizeLine∧H'=upd H a (.dT (putK kvs k v))
theorem DGet.k {H:Hp} {a:Addr} {kvs:List (Key × V)} {k:Key} (e:H a=some (.dK kvs)):DGet H a (kV k) (valV kvs k):=.inl ⟨kvs,k,.inl e,rfl,rfl⟩
theorem DGet.t {H:Hp} {a b:Addr} {kvs:List (List Key × V)} {k:List Key} (e:H a=some (.dT kvs)) (eb:H b=some (.tup (k.map kV))):DGet H a (.ref b) (valV kvs k):=.inr ⟨kvs,k,b,.inl e,rfl,eb,rfl⟩
theorem DPut.k {H:Hp} {a:Addr} {kvs:List (Key × V)} {k:Key} {v:V} (e:H a=some (.dK kvs)) (hl:kvs.length<sizeLine):DPut H a (kV k) v (upd H a (.dK (putK kvs k v))):=.inl ⟨kvs,k,e,rfl,hl,rfl⟩
theorem DPut.t {H:Hp} {a b:Addr} {kvs:List (List Key × V)} {k:List Key} {v:V} (e:H a=some (.dT kvs)) (eb:H b=some (.tup (k.map kV))) (hl:kvs.length<sizeLine) :
    DPut H a (.ref b) v (upd H a (.dT (putK kvs k v))):=.inr ⟨kvs,k,b,e,rfl,eb,hl,rfl⟩
section
variable {X:Cx} {pins:List (Addr × Obj)} {σ:St} {H:Hp} {s:Shared} {a:Addr} {y v:V} {u r:Value} {o:Option V} {A:Around} {E:Value→Shared→Prop}
theorem Inv.big (I:Inv X pins σ H s):sysModules<s.heap.objs.size:=by
  have h:mainGlobals<s.heap.objs.size:=(I.mod.glob.keeps I.bk).lt
  exact Nat.lt_trans (by decide) h
theorem zlm {Q:Value→Shared→Prop} (hu:A.units+1<cLine) (I:Inv X pins σ H s) (g:DGet H a y (some v)) (ry:RelV y u) (h:∀ w' s',Inv X pins σ H s'→RelV v w'→Q w' s') :
    wpAny (model X.prog X.w) A (getItem (.ref a) u) Q E s:=by
  rcases g with ⟨kvs,k,e,ey,l⟩ | ⟨kvs,k,b,e,ey,eb,l⟩
  · subst ey
    obtain ⟨z,hd,vs,rel,dd⟩:=dk_rd I.hok e
    obtain ⟨w',hw,rw'⟩:=RelO.some_of (v:=v) (o:=valueAt vs k) (by rw [l];exact rel.val k)
    exact wpAny_getItem_of (kV_is ry) dd.mapOf hw (h w' _ (I.tok _) rw')
  · subst ey
    cases (show u=Value.ref b from ry)
    obtain ⟨z,hd,xs,rel,dd⟩:=dt_rd I.hok e
    obtain ⟨w',hw,rw'⟩:=RelO.some_of (v:=v) (o:=(atKey xs k).map (·.2)) (by rw [l];exact rel.val k)
    obtain ⟨p,hp,hp2⟩:=Option.map_eq_some_iff.mp hw
    refine wpAny_getItem_heap (tupleKind_room_in1 hu) (zee I.hok eb) dd hp ?_
    rw [hp2]
    exact h w' _ (I.tok _) rw'
theorem zo1 {Q:Value→Shared→Prop} (hu:A.units+1<cLine) (I:Inv X pins σ H s) (g:DGet H a y o) (ry:RelV y u) (h:∀ s',Inv X pins σ H s'→Q (.bool (!o.isSome)) s') :
    wpAny (model X.prog X.w) A (compareOp .NotIn u (.ref a)) Q E s:=by
  rcases g with ⟨kvs,k,e,ey,l⟩ | ⟨kvs,k,b,e,ey,eb,l⟩
  · subst ey
    obtain ⟨z,hd,vs,rel,dd⟩:=dk_rd I.hok e
    refine wpAny_notIn_of (kV_is ry) hd dd.mapOf ?_
    rw [← (rel.val k).isSome_eq,← l]
    exact h _ (I.tok _)
  · subst ey
    cases (show u=Value.ref b from ry)
    obtain ⟨z,hd,xs,rel,dd⟩:=dt_rd I.hok e
    refine wpAny_notIn_heap (tupleKind_room_in1 hu) (zee I.hok eb) hd dd ?_
    have q:=(rel.val k).isSome_eq
    rw [Option.isSome_map] at q
    rw [← q,← l]
    exact h _ (I.tok _)
theorem zjh {h':Heap} {t':Nat} {ob:HO} (I:Inv X pins σ H s) (mu:Mut (H a)) (hs:Heap.SameBut a s.heap h') (he:∃ q,h'.get? a=some q) (new:ObjOk X.prog X.w (upd H a ob) h' a ob) :
    Inv X pins σ (upd H a ob) {s with heap:=h',toks:=t'} :=
  I.write (x:=a) (e:=a) mu (.inl rfl) (fun b q hb z=>(hs.2 b hb).trans z) he new
theorem zqb {P:Program} {w:World} {H':Hp} {h':Heap} {kvs:List (Key × V)} {vs:List (Key × Value)} (z:kvs.length≤sizeLine) (hd:(a==sysModules)=false) (rel:KV kvs vs) (dd:h'.DictOf (mixKind P w) a vs) :
    ObjOk P w H' h' a (.dK kvs):=⟨z,hd,vs,rel,dd⟩
theorem zln {H':Hp} {Q:Unit→Shared→Prop} (hu:A.units+1<cLine) (I:Inv X pins σ H s) (g:DPut H a y v H') (ry:RelV y u) (rv:RelV v r) (h:∀ s',Inv X pins σ H' s'→Q () s') :
    wpAny (model X.prog X.w) A (setItem (.ref a) u r) Q E s:=by
  rcases g with ⟨kvs,k,e,ey,l,eH⟩ | ⟨kvs,k,b,e,ey,eb,l,eH⟩
  · subst ey eH
    obtain ⟨z,hd,vs,rel,dd⟩:=dk_of I.hok e
    have hz:vs.length≤sizeLine:=by rw [← rel.length];exact z
    have hl:(putK kvs k v).length≤sizeLine:=by have:=zdi kvs k v;omega
    refine wpAny_setItem_pairs (hsz:=hz) (kV_is ry) dd fun h' dd' hs=>h _ ?_
    have he:∃ q,h'.get? a=some q:=let ⟨q,_,_,hq,_⟩:=dd';⟨q,hq⟩
    exact zjh I (by rw [e];exact True.intro) hs he (zqb hl hd (rel.put k rv) dd')
  · subst ey eH
    cases (show u=Value.ref b from ry)
    obtain ⟨z,hd,xs,rel,dd⟩:=dt_of I.hok e
    have hz:xs.length≤sizeLine:=by rw [← Paired.length rel];exact z
    have hl:(putK kvs k v).length≤sizeLine:=by have:=zdi kvs k v;omega
    refine wpAny_setItem_heap (hsz:=hz) (tupleKind_room_in1 hu) (zee I.hok eb) dd fun h' dd' hs=>h _ ?_
    obtain ⟨q,es,ep,hq,h2,h3,h4,_,h5⟩:=dd'
    refine zjh I (by rw [e];exact True.intro) hs ⟨q,hq⟩ ⟨hl,hd,_,(rel.put k eb rv).keeps fun c ys ec=>?_,q,es,ep,hq,h2,h3,h4,h5⟩
    rw [zi (ne_of ec e (fun z=>nomatch z))]
    exact ec
end
section
variable {X:Cx} {pins:List (Addr × Obj)} {σ:St} {H:Hp} {s:Shared} {a:Addr} {kvs:List (Key × V)} {k:Key} {u:Value} {A:Around} {E:Value→Shared→Prop}
end
def NoSl (i:Expr):Prop:=∀ ov iv,subscripted i false ov iv=operate [ov,iv] (getItem ov iv)
theorem zo2 {prog:Program} {w:World} {A:Around} {E:Value→Shared→Prop} {s:Shared} {env:Env} {value slice:Expr} {pos:Pos} {T id:String} {Q:Value→Shared→Prop}
    (hl:typeLookup (.type T) "__getitem__"=pure (some (.builtin id))) (hs:NoSl slice)
    (h:wpAny (model prog w) A (eval value env) (fun o s₁=>wpAny (model prog w) A (eval slice env) (fun i s₂=>s₂.TypeIs o T∧wpAny (model prog w) A (getItem o i) Q E s₂) E s₁) E s) :
    wpAny (model prog w) A (eval (.Subscript value slice pos) env) Q E s:=by
  refine Subscript_ (wpAny_mono h (fun o s₁ h₁=>wpAny_mono h₁ (fun i s₂ h₂=>?_) fun _ _ x=>x) fun _ _ x=>x)
  obtain ⟨hT,h₂⟩:=h₂
  unfold subscriptTail
  refine wpAny_bind ?_
  rw [getitemInPython_of_ne hT.not_modules]
  refine wpAny_bind (wpAny_specialOf hT hl ?_)
  have fin:wpAny (model prog w) A (subscripted slice false o i) (fun r s₃=>wpAny (model prog w) A (letTemporaryGo value o r >>= fun _=>pure r) Q E s₃) E s₂:=by
    rw [hs o i]
    exact wpAny_operating (wpAny_mono h₂ (fun r s₃ h₃=>wpAny_bind (wpAny_letTemporaryGo (wpAny_pure h₃))) fun _ _ x=>x)
  first
    | exact wpAny_pure (wpAny_bind fin)
    | exact wpAny_bind (wpAny_pure (wpAny_bind fin))
    | exact wpAny_bind fin
theorem zig {X:Cx} {pins:List (Addr × Obj)} {σ:St} {H:Hp} {s:Shared} {a:Addr} {y:V} {o:Option V} (I:Inv X pins σ H s) (g:DGet H a y o):s.TypeIs (.ref a) "dict":=by
  rcases g with ⟨kvs,k,e,_,_⟩ | ⟨kvs,k,b,e,_,_,_⟩
  · obtain ⟨_,_,vs,_,dd⟩:=dk_rd I.hok e
    exact dd.typeIs
  · obtain ⟨_,_,xs,_,dd⟩:=dt_rd I.hok e
    exact dd.typeIs
def tDGet (td ty:TE):TE:=fun σ H Q=>td σ H fun x H1=>ty σ H1 fun y H2=>∃ a v,x=.ref a∧DGet H2 a y (some v)∧Q v H2
def tDNotIn (ty td:TE):TE:=fun σ H Q=>ty σ H fun y H1=>td σ H1 fun x H2=>∃ a o,x=.ref a∧DGet H2 a y o∧Q (.bl (!o.isSome)) H2
def sDPut (td ty tv:TE):TS:=fun D σ H=>tv σ H fun v H1=>td σ H1 fun x H2=>ty σ H2 fun y H3=>∃ a H4,x=.ref a∧DPut H3 a y v H4∧D.nx σ H4
section
variable {X:Cx} {o i e value:Expr} {pos pos' tpos:Pos} {td ty tv:TE}
theorem zji (hu:X.A.units+1<cLine) (ho:PE X o td) (hi:PE X i ty) (hs:NoSl i):PE X (.Subscript o i pos) (tDGet td ty):=by
  intro pins s σ H Q I h
  refine zo2 PySem.F.slot_dict_getitem.lookup hs (thn (ho pins s σ H _ I h) fun u s1 ⟨x,H1,I1,rx,q1⟩=>thn (hi pins s1 σ H1 _ I1 q1) fun iv s2 ⟨y,H2,I2,ry,a,v,ex,g,q2⟩=>?_)
  subst ex
  obtain rfl:u=Value.ref a:=rx
  exact ⟨zig I2 g,zlm hu I2 g ry fun w' s3 I3 rw'=>⟨v,H2,I3,rw',q2⟩⟩
theorem zfx (hu:X.A.units+1<cLine) (hi:PE X i ty) (ho:PE X o td):PC X .NotIn i o (tDNotIn ty td):=by
  intro pins s σ H Q I h
  refine thn (hi pins s σ H _ I h) fun iv s1 ⟨y,H1,I1,ry,q1⟩=>thn (ho pins s1 σ H1 _ I1 q1) fun u s2 ⟨x,H2,I2,rx,a,ov,ex,g,q2⟩=>?_
  subst ex
  obtain rfl:u=Value.ref a:=rx
  exact zo1 hu I2 g ry fun s3 I3=>⟨.bl (!ov.isSome),H2,I3,rfl,q2⟩
theorem zjj (hu:X.A.units+1<cLine) (ho:PE X o td) (hi:PE X i ty) (hv:PE X value tv) (hs:swapsWith value (some (.Subscript o i pos')) pos.line X.env=pure false) :
    PS X (.Assign [.Subscript o i pos'] value pos) (sDPut td ty tv):=by
  intro pins s σ H D I h
  refine wpAny_Assign_Subscript (thn (hv pins s σ H _ I h) fun r s1 ⟨v,H1,I1,rv,q1⟩=>thn (ho pins s1 σ H1 _ I1 q1) fun u s2 ⟨x,H2,I2,rx,q2⟩=>thn (hi pins s2 σ H2 _ I2 q2) fun iv s3 ⟨y,H3,I3,ry,a,H4,ex,g,q3⟩=>?_) hs
  subst ex
  obtain rfl:u=Value.ref a:=rx
  exact zln hu I3 g ry rv fun s4 I4=>⟨σ,H4,I4,q3⟩
end
theorem znh {P:Program} {w:World} {H:Hp} (h:Heap) (hb:sysModules<h.objs.size):ObjOk P w H (h.push {cls:=.type "dict",data:=.dict #[]}) h.objs.size (.dK []) :=
  ⟨Nat.zero_le _,beq_eq_false_iff_ne.mpr (Ne.symm (Nat.ne_of_lt hb)),[],.nil,Heap.DictOf.new h⟩
theorem zni {P:Program} {w:World} {H:Hp} (h:Heap) (hb:sysModules<h.objs.size):ObjOk P w H (h.push {cls:=.type "dict",data:=.dict #[]}) h.objs.size (.dT []) :=
  ⟨Nat.zero_le _,beq_eq_false_iff_ne.mpr (Ne.symm (Nat.ne_of_lt hb)),[],.nil,_,#[],0,Heap.get?_push_size _ rfl,⟨rfl,rfl,rfl⟩,rfl,rfl,List.nodup_nil⟩
def tDNewK:TE:=fun _ H Q=>∀ p,H p=none→Q (.ref p) (upd H p (.dK []))
def tDNewT:TE:=fun _ H Q=>∀ p,H p=none→Q (.ref p) (upd H p (.dT []))
section
variable {X:Cx} {pos:Pos}
theorem znj:PE X (.Dict [] [] pos) tDNewK:=fun pins s σ H Q I h =>
  wpAny_Dict_empty ⟨.ref s.heap.objs.size,_,I.laid (a:=s.heap.objs.size) (o:=.dK []) (t':=s.toks) (fun _ _ q=>Heap.get?_push_of_some _ q) (Nat.le_refl _) (znh s.heap I.big),rfl,h _ (I.hok.fresh (Nat.le_refl _))⟩
theorem znk:PE X (.Dict [] [] pos) tDNewT:=fun pins s σ H Q I h =>
  wpAny_Dict_empty ⟨.ref s.heap.objs.size,_,I.laid (a:=s.heap.objs.size) (o:=.dT []) (t':=s.toks) (fun _ _ q=>Heap.get?_push_of_some _ q) (Nat.le_refl _) (zni s.heap I.big),rfl,h _ (I.hok.fresh (Nat.le_refl _))⟩
end
section
variable {X:Cx} {pins:List (Addr × Obj)} {σ:St} {H:Hp} {s:Shared} {a:Addr} {y d:V} {u r:Value} {o:Option V} {A:Around} {E:Value→Shared→Prop}
end
section
variable {X:Cx} {o e f:Expr} {apos cpos:Pos} {td ty tx:TE}
end
section
variable {X:Cx} {pins:List (Addr × Obj)} {σ:St} {H:Hp} {s:Shared} {a:Addr} {kvs:List (Key × V)} {A:Around} {E:Value→Shared→Prop}
end
section
variable {X:Cx} {pins:List (Addr × Obj)} {σ:St} {H:Hp} {s:Shared} {a:Addr} {y:V} {u:Value} {A:Around} {E:Value→Shared→Prop}
end
end L2
namespace Att
open PySem PySem.W PySem.Calls PyProof.Rows
theorem zef {P:Params} {h:Heap}:∀ (ns:List Int) (vs:List Value),WellAll P h vs (ns.map WData.int)→IntsAre vs ns:=by
  intro ns
  induction ns with
  | nil =>
    intro vs w
    rw [List.map_nil] at w
    cases w
    exact .nil
  | cons n ns ih =>
    intro vs w
    rw [List.map_cons] at w
    cases w with
    | cons a b =>
      cases a
      exact .cons _ _ (ih _ b)
theorem zlo {l:OpenLaw} {n:Nat} (hn:l.most=some n) {P:Params} {h:Heap} {args:List WData} {vals:List Value}
    (hpre:l.row.toRowW.claim.pre args=true) (hwl:WellAll P h vals args) :
    ∃ a vs ns,vals=[Value.ref a]∧args=[WData.list (ns.map WData.int)]∧h.get? a=some {cls:=.type "list",data:=.seq vs.toArray}∧IntsAre vs ns∧ns.length≤n:=by
  have hsh:WShape.hasAll [] args [.list .int]=true:=(pre_splitW hpre).1
  have hc:l.pre.holds [] {args:=args}=true:=(pre_splitW hpre).2
  obtain ⟨d,r,rfl,h1,h2⟩:=hasAllW_cons hsh
  obtain rfl:=hasAllW_nil h2
  obtain ⟨xs,rfl,h3⟩:=hasW_list h1
  obtain ⟨ns,rfl⟩:=items_int h3
  have hlen:ns.length≤n:=by
    unfold OpenLaw.pre at hc
    have h4:(WTm.not (.lt (.lit (.int (n:Int))) (.len (.arg 0)))).holds [] {args:=[.list (ns.map .int)]}=true:=by
      have h4:=(holds_andW hc).1
      rw [hn] at h4
      exact h4
    have h5:=condW_of h4 (w_not (w_lt w_lit (w_len_list (w_arg rfl))))
    rw [List.length_map] at h5
    refine Nat.le_of_not_lt fun q=>?_
    have q':(n:Int)<((ns.length:Nat):Int):=by omega
    first
      | (rw [decide_eq_true q'] at h5;exact absurd h5 (by decide))
      | (simp at h5;omega)
  cases hwl with
  | cons w1 w2 =>
    cases w2
    cases w1 with
    | list ho hall=>exact ⟨_,_,ns,rfl,rfl,ho,zef ns _ hall,hlen⟩
theorem zlp (l:OpenLaw) (args:List WData):l.row.toRowW.claim.post args (.bool true) args=true :=
  postW_of (r:=l.row.toRowW) (X:=(true==true))
    (show WShape.has [] (.bool true) .bool=true by first | rfl | decide | simp [WShape.has,WShape.arms,WShape.armsAll])
    (show (WTm.eq .res (.lit (.bool true))).value [] {args:=args,res:=some (.bool true),after:=args}=some (.bool (true==true)) from w_eq_bool (w_res rfl) w_lit) rfl
theorem attach_call {l:OpenLaw} {n:Nat} {q:Program} {loose:List Str} {XP:(Str→Option Value)→Heap→Prop} {YP:World→Heap→Prop} {d:DefRec}
    (hn:l.most=some n) (hdf:d.params.defaults=[])
    (call:∀ (w:World) (s₀ s₁:Shared) (mg mb:Str→Option Value) (fa:Addr) (o:Obj) (pm cd doc:Value) (a:Addr) (vs:List Value) (ns:List Int),
      Ground q loose [] XP w s₀ mg mb s₁.heap→YP w s₁.heap →
      s₁.heap.get? fa=some o→o.data=.func (docDef d.name d.params d.body d.scope pm cd doc)→s₁.heap.CodeRec cd d.name→mg d.name=some (.ref fa) →
      s₁.heap.get? a=some {cls:=.type "list",data:=.seq vs.toArray}→IntsAre vs ns→ns.length≤n→s₁.gens=#[] →
      codeAny (model l.prog w) callerA (.call (.ref fa) ⟨[.ref a],[]⟩) (fun r s'=>r=.ok (.ret (.bool true))∧OldK s₁.heap s'.heap∧s'.os=s₁.os∧AllBare s'.gens) s₁) :
    WalkO q loose XP YP l.row.toRowW d [] (fun f vs=>PySem.call f vs):=by
  intro w s₀ s₁ mg mb G Y fa o pm cd doc dV kV ho hd hcd hD hmg hg args vals as hpre hlay hrd hwl hlo
  obtain rfl:dV=.none:=Dflts.none hD hdf
  obtain rfl:kV=.none:=Dflts.noKw hD
  obtain ⟨a,vs,ns,rfl,rfl,hobj,hints,hlen⟩:=zlo hn hpre hwl
  refine enter_call (codeAny_mono (call w s₀ s₁ mg mb fa o pm cd doc a vs ns G Y ho (fd_plain hd) hcd hmg hobj hints hlen hg) fun r s' hq=>?_)
  obtain ⟨rfl,h2,h3,h4⟩:=hq
  exact ⟨.inl ⟨.bool true,.bool true,[],rfl,fun _=>rfl,.bool true,zlp l _,fun _=>⟨List.Pairwise.nil,fun _ hm=>(nomatch hm)⟩⟩,h2,h3,h4⟩
section
variable {prog:Program} {w:World} {A:Around} {E:Value→Shared→Prop} {s:Shared} {K:Frag}
end
end Att
namespace L2
open PySem PySem.Spec PyProof.Rows
theorem zbw:∀ {vs:List Value} {ns:List Int},IntsAre vs ns→Vals (ns.map V.int) vs
  | _,_,.nil=>.nil
  | _,_,.cons n t h=>.cons ⟨t,rfl⟩ (zbw h)
def Only (H:Hp):Prop:=∀ b,H b=none∨∃ o xs,H b=some (.frz o (.lst xs))
theorem znl {P:Program} {w:World} {K:PySem.W.Frag} {mg mb:Str→Option Value} {CX:CXT} {k:Nat} {fa a:Addr} {fd:FuncData} {x:Str} {sp:Sp} {s₁:Shared} {vs:List Value} {ns:List Int}
    (KX:K.In s₁.heap) (hns:s₁.heap.Ns mainGlobals mg) (hb:s₁.heap.Ns builtinsNs mb) (hbb:∀ x:Str,x≠"__name__"→mb x=bootBuiltins x) (hlim:s₁.heap.NoLimit) (hg:s₁.gens=#[])
    (ha:s₁.heap.get? a=some {cls:=.type "list",data:=.seq vs.toArray}) (hi:IntsAre vs ns) (hl:ns.length≤sizeLine) (hr:Room k callerA)
    (F:∀ base:Heap,K.In base→base.Ns mainGlobals mg→FnOk P w K mg base CX k fa fd [x] sp) (hbind:∀ (s:Shared) (u:Value),BindsTo s fd ⟨[u],[]⟩ [(x,u)])
    (hsp:∀ H:Hp,Only H→SqL K H a (ns.map V.int)→sp [.ref a] H (fun v _=>v=.bl true) fun _ _ _=>False)
    (hCX:∀ H e s',CX [] H s₁ (fun _ _ _=>False) e s'→False) :
    codeAny (model P w) callerA (.call (.ref fa) ⟨[.ref a],[]⟩) (fun r s'=>r=.ok (.ret (.bool true))∧OldK s₁.heap s'.heap∧s'.os=s₁.os∧AllBare s'.gens) s₁:=by
  have rv:=zbw hi
  have lenV:=hi.length
  have core:∀ H:Hp,Only H→SqL K H a (ns.map V.int)→HOk P w H s₁.heap→(∀ b,H b≠none→b=a)→(H a≠none→K.lookup a=none) →
      codeAny (model P w) callerA (.call (.ref fa) ⟨[.ref a],[]⟩) (fun r s'=>r=.ok (.ret (.bool true))∧OldK s₁.heap s'.heap∧s'.os=s₁.os∧AllBare s'.gens) s₁:=by
    intro H hO hS hok hA hK
    have base_of:∀ {b:Addr} {o:Obj},s₁.heap.get? b=some o→H b=none→(hidT s₁.heap H).get? b=some o:=fun e n=>zne e n
    have noA:∀ {b:Addr} {o:Obj} {es:Array DictEntry} {ep:Nat},s₁.heap.get? b=some o→o.data=.dict es ep→H b=none:=fun {b o es ep} e d=>by
      cases q:H b with
      | none=>rfl
      | some u =>
        have e':b=a:=hA b (by rw [q];simp)
        subst e'
        rw [ha] at e;cases e
        have d':Data.seq vs.toArray _=Data.dict es ep:=d
        cases d'
    have nsK:∀ {b:Addr} {m:Str→Option Value},s₁.heap.Ns b m→(hidT s₁.heap H).Ns b m:=fun {b m} ⟨o,es,ep,e,d,r⟩=>⟨o,es,ep,base_of e (noA e d),d,r⟩
    have hKb:K.In (hidT s₁.heap H):=fun b o e=>base_of (KX b o e) (by
      cases q:H b with
      | none=>rfl
      | some u =>
        have e':b=a:=hA b (by rw [q];simp)
        subst e'
        rw [hK (by rw [q];simp)] at e;cases e)
    have hM:Mod K mg (hidT s₁.heap H):=⟨hKb,nsK hns,⟨mb,nsK hb,hbb⟩,let ⟨mc,h1,h2⟩:=hlim;⟨mc,nsK h1,h2⟩⟩
    have e0:Env0 P w K mg (hidT s₁.heap H) callerA [] s₁ H:=⟨rfl,hM,fun b o e=>zox e,Nat.le_of_eq (zla _ _),trivial,fun b hb=>absurd (show b∈([]:List Addr) from hb) (by simp),hok,.of_eq hg⟩
    refine codeAny_mono ((F _ hKb (nsK hns)).run callerA [] s₁ H ⟨[.ref a],[]⟩ [.ref a] [.ref a] _ _ hr e0 (hbind s₁ (.ref a)) (.cons rfl .nil) (hsp H hO hS)) fun r s' h=>?_
    cases r with
    | error e=>exact (hCX H e s' h).elim
    | ok fl =>
      cases fl with
      | next=>exact False.elim h
      | brk=>exact False.elim h
      | cont=>exact False.elim h
      | ret u =>
        obtain ⟨v,H',os,bare,un,hok',r',q⟩:=h
        have q':v=.bl true:=q
        subst q'
        obtain rfl:u=Value.bool true:=r'
        refine ⟨rfl,OldK.of_keep fun b o e=>?_,os,bare⟩
        cases q:H b with
        | none=>exact un.keep b o e q (by intro z;exact absurd (show b∈([]:List Addr) from z) (by simp)) (by simp)
        | some u =>
          rcases hO b with z | ⟨ob,xs,z⟩
          · rw [q] at z;cases z
          · have z2:=un.frzs b ob _ z
            obtain ⟨e1,_⟩:=hok b _ z
            obtain ⟨e2,_⟩:=hok' b _ z2
            rw [e] at e1;cases e1
            exact e2
  cases hk:K.lookup a with
  | some o =>
    have e:=KX a o hk
    rw [ha] at e
    cases e
    refine core (fun _=>none) (fun _=>.inl rfl) (.inr ⟨_,vs.toArray,_,hk,rfl,rfl,rfl,by rw [List.size_toArray,lenV];exact hl,by simpa using rv⟩) (fun b u z=>by have z':(none:Option HO)=some u:=z;cases z') (fun b z=>absurd rfl z) fun z=>absurd rfl z
  | none =>
    refine core (fun b=>if b=a then some (.frz {cls:=.type "list",data:=.seq vs.toArray} (.lst (ns.map V.int))) else none) (fun b=>?_) (.inl (.inr ⟨{cls:=.type "list",data:=.seq vs.toArray},if_pos rfl⟩)) (fun b u z=>?_) (fun b z=>?_) fun _=>hk
    · by_cases hb:b=a
      · exact .inr ⟨_,_,if_pos hb⟩
      · exact .inl (if_neg hb)
    · by_cases hb:b=a
      · have z':=(if_pos hb).symm.trans z
        cases z'
        subst hb
        exact ⟨ha,by rw [List.length_map];exact hl,vs,_,rv,ha⟩
      · have z':=(if_neg hb).symm.trans z
        cases z'
    · by_cases hb:b=a
      · exact hb
      · exact absurd (if_neg hb) z
end L2
namespace L2
open PySem PySem.Spec PyProof.Rows
theorem zq2 {l:PySem.W.OpenLaw} {n k:Nat} {q:Program} {loose:List Str} {XP:(Str→Option Value)→Heap→Prop} {YP:World→Heap→Prop} {d:DefRec} {K:Params→PySem.W.Frag} {CX:World→CXT} {sp:World→Sp} {x:Str}
    (hn:l.most=some n) (hn2:n≤sizeLine) (hdf:d.params.defaults=[]) (hr:Room k callerA)
    (hY:∀ (w:World) (h:Heap),YP w h→(K w.params).In h)
    (F:∀ (w:World) (mg:Str→Option Value) (fa:Addr) (h:Heap),(K w.params).In h→h.Ns mainGlobals mg→mg d.name=some (.ref fa) →
      ∃ fd:FuncData,(∀ (s:Shared) (u:Value),BindsTo s fd ⟨[u],[]⟩ [(x,u)]) ∧
        ∀ base:Heap,(K w.params).In base→base.Ns mainGlobals mg→FnOk l.prog w (K w.params) mg base (CX w) k fa fd [x] (sp w))
    (hsp:∀ (w:World) (H:Hp) (a:Addr) (ns:List Int),ns.length≤n→Only H→SqL (K w.params) H a (ns.map V.int)→sp w [.ref a] H (fun v _=>v=.bl true) fun _ _ _=>False)
    (hCX:∀ (w:World) (H:Hp) (s:Shared) (e:Value) (s':Shared),CX w [] H s (fun _ _ _=>False) e s'→False) :
    PySem.W.WalkO q loose XP YP l.row.toRowW d [] (fun f vs=>PySem.call f vs):=by
  refine Att.attach_call hn hdf fun w s₀ s₁ mg mb fa o pm cd doc a vs ns G Y ho hd hcd hmg hobj hints hlen hg=>?_
  have KX:=hY w _ Y
  obtain ⟨fd,hb,hF⟩:=F w mg fa _ KX G.T.g hmg
  exact znl KX G.T.g G.T.b G.T.builtins G.T.nolimit hg hobj hints (Nat.le_trans hlen hn2) hr hF hb (fun H hO hS=>hsp w H a ns hlen hO hS) fun H e s'=>hCX w H s₁ e s'
end L2
namespace L2
open PySem PySem.Spec PyProof.Rows
def inClass (s:Stmt) (j:Nat):Stmt:=match s with
  | .ClassDef _ _ _ body _ _ _ _ _ _ _=>body.getD j (.Pass ⟨0,0,0,0⟩)
  | _=>.Pass ⟨0,0,0,0⟩
def defArgs (s:Stmt):Arguments:=match s with
  | .FunctionDef _ a _ _ _ _ _ _ _ _=>a
  | _=>{posonlyargs:=[],args:=[],vararg:=none,kwonlyargs:=[],kw_defaults:=[],kwarg:=none,defaults:=[]}
def defBody (s:Stmt):List Stmt:=match s with
  | .FunctionDef _ _ b _ _ _ _ _ _ _=>b
  | _=>[]
def defScope (s:Stmt):Scope:=match s with
  | .FunctionDef _ _ _ _ _ _ sc _ _ _=>sc
  | _=>{kind:=.function,names:=[],isGenerator:=false,isCoroutine:=false}
abbrev E0:XK:=fun _ _ _=>False
structure Fun (K:PySem.W.Frag) (x qual:Str) (st:Stmt) (f:Addr) (fd:FuncData):Prop where
  ex:∃ (oc:Value) (od:Option Addr) (kV doc pm:Value) (an:Option Addr) (cdv ct:Value) (osl:Array (Option Value)),
    fd=PySem.W.fnOf x qual (defArgs st) (defBody st) (defScope st) .none kV doc pm an cdv ct∧K.lookup f=some ⟨oc,od,.func fd,osl⟩∧PySem.W.codeIn K cdv qual=true
  kp:PySem.W.keepIn K (.ref f)=true
section
variable {P:Program} {w:World} {K:PySem.W.Frag} {mg:Str→Option Value} {base:Heap}
theorem Fun.binds {x qual:Str} {st:Stmt} {f:Addr} {fd:FuncData} {ps:List Str} (F:Fun K x qual st f fd)
    (h:∀ (kV doc pm:Value) (an:Option Addr) (cdv ct:Value) (us:List Value),us.length=ps.length→bindArgs (PySem.W.fnOf x qual (defArgs st) (defBody st) (defScope st) .none kV doc pm an cdv ct) ⟨us,[]⟩=pure (ps.zip us)):Binds K fd ps []:=by
  obtain ⟨oc,od,kV,doc,pm,an,cdv,ct,osl,rfl,lk,hcd⟩:=F.ex
  exact .all (h kV doc pm an cdv ct)
theorem zj {x qual:Str} {st:Stmt} {f:Addr} {oc:Value} {od an:Option Addr} {osl:Array (Option Value)} {kV doc pm cdv ct:Value} (l:K.lookup f=some ⟨oc,od,.func (PySem.W.fnOf x qual (defArgs st) (defBody st) (defScope st) .none kV doc pm an cdv ct),osl⟩)
    (c:PySem.W.codeIn K cdv qual=true) (k:PySem.W.keepIn K (.ref f)=true):Fun K x qual st f (PySem.W.fnOf x qual (defArgs st) (defBody st) (defScope st) .none kV doc pm an cdv ct):=⟨⟨oc,od,kV,doc,pm,an,cdv,ct,osl,rfl,l,c⟩,k⟩
end
theorem hu_of {A:Around} {k:Nat} (hr:Room k A):A.units+1<cLine:=Nat.lt_of_le_of_lt (Nat.add_le_add_left (by decide:1≤64) _) hr.units
theorem small1000 {n:Nat} (h:n≤1000):n<sizeLine:=Nat.lt_of_le_of_lt h (by decide)
section
variable {X:Cx}
theorem pv (i:Nat) {x:Str} {pos:Pos} (hN:X.N[i]?=some x:=by rfl) (hv:Vis X.env.scope x:=by first | exact Or.inl rfl | exact Or.inr (Or.inl rfl) | exact Or.inr (Or.inr rfl)) (hd:(x==("__debug__":Str))=false:=by decide)
    (hcd:(x==("__classdict__":Str))=false:=by decide):PE X (.Name x pos) (tVar i):=zp5 hN hv hd hcd
end
theorem iteF {A B:Prop} (h:B):if false=true then A else B:=by
  rw [if_neg Bool.false_ne_true]
  exact h
theorem iteT {A B:Prop} (h:A):if true=true then A else B:=by
  rw [if_pos rfl]
  exact h
theorem iteNS {c A B:Prop} [Decidable c] (hc:c) (h:B):if (!decide c)=true then A else B:=by
  rw [decide_eq_true hc]
  exact iteF h
def Same (H H':Hp):Prop:=∀ b o,H b=some o→H' b=some o
theorem Same.refl (H:Hp):Same H H:=fun _ _ h=>h
theorem Same.trans {H H1 H2:Hp} (a:Same H H1) (b:Same H1 H2):Same H H2:=fun c o h=>b c o (a c o h)
theorem Same.free {H H':Hp} (e:Same H H') {l:Addr} (h:H' l=Option.none):H l=Option.none:=by
  cases q:H l with
  | none=>rfl
  | some o =>
    rw [e l o q] at h
    cases h
theorem Same.seq {K:PySem.W.Frag} {H H':Hp} {a:Addr} {xs:List V} (e:Same H H') (h:SqL K H a xs):SqL K H' a xs:=by
  rcases h with (h | ⟨o,h⟩) | h
  · exact .inl (.inl (e _ _ h))
  · exact .inl (.inr ⟨o,e _ _ h⟩)
  · exact .inr h
end L2
namespace L2
open PySem PySem.Spec PyProof.Rows
section
variable {X:Cx}
end
section
variable {κ:Type} [DecidableEq κ]
end
end L2
set_option linter.unusedSectionVars false
namespace NC
variable {α:Type} [DecidableEq α]
def addMark (acc:List α) (m:α):List α:=if m∈acc then acc else acc++[m]
def marks (w:List α):List α:=w.foldl addMark []
def pos (w:List α) (m:α):List Nat:=(List.range w.length).filter (fun i=>decide (w[i]?=some m))
def gather (w:List α):List (List Nat):=(marks w).map (pos w)
def canon (w:List α):List Nat:=w.map (fun x=>(marks w).idxOf x)
theorem xl (w:List α) (m:α):marks (w++[m])=addMark (marks w) m:=by
  simp [marks,List.foldl_append]
theorem zih {acc:List α} {m x:α}:x∈addMark acc m↔x∈acc∨x=m:=by
  unfold addMark
  split
  · constructor
    · exact .inl
    · rintro (h | rfl)
      · exact h
      · assumption
  · simp
theorem zgb {acc:List α} {m:α} (h:acc.Nodup):(addMark acc m).Nodup:=by
  unfold addMark
  split
  · exact h
  · rename_i hm
    rw [List.nodup_append]
    refine ⟨h,by simp,?_⟩
    rintro a ha b hb rfl
    simp at hb
    exact hm (hb ▸ ha)
theorem wb {P:List α→Prop} (h0:P []) (h1:∀ w m,P w→P (w++[m])) (w:List α):P w:=by
  have:∀ n (w:List α),w.length=n→P w:=by
    intro n
    induction n with
    | zero=>intro w hw;rw [List.length_eq_zero_iff.mp hw];exact h0
    | succ n ih =>
      intro w hw
      have hne:w≠[]:=by intro e;subst e;simp at hw
      rw [← List.dropLast_concat_getLast hne]
      exact h1 _ _ (ih _ (by simp [hw]))
  exact this _ w rfl
theorem mem_marks {w:List α} {x:α}:x∈marks w↔x∈w:=by
  induction w using wb with
  | h0=>simp [marks]
  | h1 w m ih=>rw [xl,zih,ih];simp
theorem za6 (w:List α):(marks w).Nodup:=by
  induction w using wb with
  | h0=>simp [marks]
  | h1 w m ih=>rw [xl];exact zgb ih
theorem mem_pos {w:List α} {m:α} {i:Nat}:i∈pos w m↔w[i]?=some m:=by
  unfold pos
  rw [List.mem_filter,List.mem_range]
  constructor
  · rintro ⟨_,h⟩;exact of_decide_eq_true h
  · intro h
    refine ⟨?_,decide_eq_true h⟩
    obtain ⟨h1,_⟩:=List.getElem?_eq_some_iff.mp h
    exact h1
theorem zbo (w:List α) (m:α):(pos w m).Pairwise (·<·):=List.Pairwise.filter _ List.pairwise_lt_range
theorem zcj (w:List α) (m x:α):pos (w++[m]) x=pos w x++(if m=x then [w.length] else []):=by
  unfold pos
  rw [List.length_append,List.length_singleton,List.range_succ,List.filter_append]
  congr 1
  · apply List.filter_congr
    intro i hi
    rw [List.mem_range] at hi
    rw [List.getElem?_append_left hi]
  · simp only [List.filter_cons,List.filter_nil]
    have:(w++[m])[w.length]?=some m:=by simp
    rw [this]
    by_cases h:m=x
    · simp [h]
    · simp [h]
theorem zeg {w:List α} {m:α} (h:m∈w):pos w m≠[]:=by
  obtain ⟨i,hi,e⟩:=List.mem_iff_getElem.mp h
  intro hn
  have:i∈pos w m:=mem_pos.mpr (by rw [List.getElem?_eq_getElem hi,e])
  rw [hn] at this
  simp at this
theorem zo3 {w:List α} {m:α} (h:m ∉ w):pos w m=[]:=by
  rw [List.eq_nil_iff_forall_not_mem]
  intro i hi
  obtain ⟨hl,e⟩:=List.getElem?_eq_some_iff.mp (mem_pos.mp hi)
  exact h (e ▸ List.getElem_mem hl)
theorem ye (w:List α):(gather w).length=(marks w).length:=by simp [gather]
theorem vn {w:List α} {m:α} (h:m ∉ w):gather (w++[m])=gather w++[[w.length]]:=by
  unfold gather
  rw [xl,addMark,if_neg (by rw [mem_marks];exact h),List.map_append]
  congr 1
  · apply List.map_congr_left
    intro x hx
    rw [zcj,if_neg,List.append_nil]
    rintro rfl
    exact h (mem_marks.mp hx)
  · simp [zcj,zo3 h]
theorem zab {w:List α} {m:α} (h:m∈w):gather (w++[m])=(gather w).set ((marks w).idxOf m) (pos w m++[w.length]):=by
  unfold gather
  rw [xl,addMark,if_pos (mem_marks.mpr h)]
  apply List.ext_getElem?
  intro i
  rw [List.getElem?_set,List.getElem?_map,List.getElem?_map]
  by_cases hi:(marks w).idxOf m=i
  · subst hi
    have hl:(marks w).idxOf m<(marks w).length:=List.idxOf_lt_length_of_mem (mem_marks.mpr h)
    rw [if_pos rfl,List.length_map,if_pos hl,List.getElem?_eq_getElem hl,List.getElem_idxOf]
    simp [zcj]
  · rw [if_neg hi]
    cases e:(marks w)[i]? with
    | none=>rfl
    | some x =>
      simp only [Option.map_some,Option.some.injEq]
      rw [zcj,if_neg,List.append_nil]
      rintro rfl
      obtain ⟨hl,e2⟩:=List.getElem?_eq_some_iff.mp e
      exact hi (by rw [← e2];exact (za6 w).idxOf_getElem i hl)
theorem vo {w:List α} {m:α} (h:m∈w):(gather w)[(marks w).idxOf m]?=some (pos w m):=by
  unfold gather
  have hl:(marks w).idxOf m<(marks w).length:=List.idxOf_lt_length_of_mem (mem_marks.mpr h)
  rw [List.getElem?_map,List.getElem?_eq_getElem hl,List.getElem_idxOf]
  rfl
theorem mem_gather {w:List α} {b:List Nat}:b∈gather w↔∃ m∈w,b=pos w m:=by
  unfold gather
  rw [List.mem_map]
  constructor
  · rintro ⟨m,hm,rfl⟩;exact ⟨m,mem_marks.mp hm,rfl⟩
  · rintro ⟨m,hm,rfl⟩;exact ⟨m,mem_marks.mpr hm,rfl⟩
theorem zbp:∀ {l:List (List Nat)} {i:Nat} {x:List Nat} {n:Nat},l[i]?=some x→(l.set i (x++[n])).flatten.Perm (l.flatten++[n])
  | [],i,x,n,h=>by simp at h
  | y::l,0,x,n,h=>by
    simp at h;subst h
    simp only [List.set_cons_zero,List.flatten_cons,List.append_assoc]
    exact List.Perm.append_left _ List.perm_append_comm
  | y::l,i+1,x,n,h=>by
    simp at h
    simp only [List.set_cons_succ,List.flatten_cons,List.append_assoc]
    exact List.Perm.append_left _ (zbp h)
theorem zak (w:List α):(gather w).flatten.Perm (List.range w.length):=by
  induction w using wb with
  | h0=>simp [gather,marks]
  | h1 w m ih =>
    rw [List.length_append,List.length_singleton,List.range_succ]
    by_cases h:m∈w
    · rw [zab h]
      exact (zbp (vo h)).trans (ih.append_right _)
    · rw [vn h,List.flatten_append]
      exact ih.append_right _
theorem xt {w:List α} {b:List Nat} (h:b∈gather w):b≠[]:=by
  obtain ⟨m,hm,rfl⟩:=mem_gather.mp h
  exact zeg hm
theorem zdj {w:List α} {b:List Nat} (h:b∈gather w):b.Pairwise (·<·):=by
  obtain ⟨m,hm,rfl⟩:=mem_gather.mp h
  exact zbo w m
theorem yr {w:List α} {b:List Nat} (h:b∈gather w) {i:Nat} (hi:i∈b):i<w.length:=by
  obtain ⟨m,hm,rfl⟩:=mem_gather.mp h
  obtain ⟨hl,_⟩:=List.getElem?_eq_some_iff.mp (mem_pos.mp hi)
  exact hl
theorem zg6 {l:List Nat} (h:l≠[]) (r:List Nat) (d:Nat):(l++r).headD d=l.headD d:=by
  cases l with
  | nil=>exact absurd rfl h
  | cons x l=>rfl
theorem zbf (w:List α):((gather w).map (fun b=>b.headD 0)).Pairwise (·<·):=by
  induction w using wb with
  | h0=>simp [gather,marks]
  | h1 w m ih =>
    by_cases h:m∈w
    · rw [zab h,List.map_set]
      have e:((gather w).map fun b=>b.headD 0).set ((marks w).idxOf m) ((pos w m++[w.length]).headD 0)=(gather w).map fun b=>b.headD 0:=by
        rw [zg6 (zeg h)]
        apply List.ext_getElem?
        intro i
        rw [List.getElem?_set]
        split
        · rename_i hi
          subst hi
          rw [List.getElem?_map,vo h,List.length_map,ye,if_pos (List.idxOf_lt_length_of_mem (mem_marks.mpr h))]
          rfl
        · rfl
      rw [e]
      exact ih
    · rw [vn h,List.map_append,List.pairwise_append]
      refine ⟨ih,by simp,?_⟩
      intro a ha b hb
      simp at hb
      subst hb
      obtain ⟨bl,hbl,rfl⟩:=List.mem_map.mp ha
      refine yr hbl ?_
      have:=xt hbl
      cases bl with
      | nil=>exact absurd rfl this
      | cons x l=>simp
structure Parting (n:Int) (bs:List (List Int)):Prop where
  lo:0≤n
  hi:n≤10
  ne:∀ b∈bs,b≠[]
  rise:∀ b∈bs,b.Pairwise (·<·)
  firsts:(bs.map (fun b=>b.headD 0)).Pairwise (·<·)
  perm:bs.flatten.Perm ((List.range n.toNat).map (fun (k:Nat)=>(k:Int)))
abbrev zl (b:List Nat):List Int:=b.map (fun (k:Nat)=>(k:Int))
abbrev zb (bs:List (List Nat)):List (List Int):=bs.map zl
theorem zdk {b:List Nat} (h:b.Pairwise (·<·)):(zl b).Pairwise (·<·):=by
  rw [zl,List.pairwise_map]
  exact h.imp (fun {a b} h=>by omega)
theorem ze3 {w:List α} (h:w.length≤10):Parting (w.length:Int) (zb (gather w)) where
  lo:=by omega
  hi:=by omega
  ne:=by
    intro b hb
    obtain ⟨c,hc,rfl⟩:=List.mem_map.mp hb
    have:=xt hc
    simpa [zl] using this
  rise:=by
    intro b hb
    obtain ⟨c,hc,rfl⟩:=List.mem_map.mp hb
    exact zdk (zdj hc)
  firsts:=by
    have e:(zb (gather w)).map (fun b=>b.headD 0)=zl ((gather w).map fun b=>b.headD 0):=by
      simp only [zb,zl,List.map_map]
      apply List.map_congr_left
      intro b hb
      cases b <;> simp
    rw [e]
    exact zdk (zbf w)
  perm:=by
    rw [Int.toNat_natCast]
    have e:(zb (gather w)).flatten=zl (gather w).flatten:=by
      simp [zb,zl,List.map_flatten]
    rw [e]
    exact (zak w).map _
def IsCross (w:List α) (a b c d:Nat):Prop:=a<b∧b<c∧c<d∧d<w.length∧w[a]?=w[c]?∧w[b]?=w[d]?∧w[a]?≠w[b]?
def Free (w:List α):Prop:=∀ a b c d,¬ IsCross w a b c d
theorem zx (w:List α):(canon w).length=w.length:=by simp [canon]
theorem zcz (w:List α) (i:Nat):(canon w)[i]?=w[i]?.map (fun x=>(marks w).idxOf x):=by simp [canon]
theorem zlq {l:List α} {a b:α} (ha:a∈l) (h:l.idxOf a=l.idxOf b):a=b:=by
  have hl:l.idxOf a<l.length:=List.idxOf_lt_length_of_mem ha
  have hl':l.idxOf b<l.length:=by rw [← h];exact hl
  have e1:l[l.idxOf a]=a:=List.getElem_idxOf hl
  have e2:l[l.idxOf b]=b:=List.getElem_idxOf hl'
  rw [← e1,← e2]
  congr 1
theorem yq {w:List α} {i j:Nat} (hi:i<w.length) (hj:j<w.length):(canon w)[i]?=(canon w)[j]?↔w[i]?=w[j]?:=by
  rw [zcz,zcz,List.getElem?_eq_getElem hi,List.getElem?_eq_getElem hj]
  simp only [Option.map_some,Option.some.injEq]
  constructor
  · intro h
    exact zlq (mem_marks.mpr (List.getElem_mem hi)) h
  · intro h;rw [h]
theorem cross_canon {w:List α} {a b c d:Nat}:IsCross (canon w) a b c d↔IsCross w a b c d:=by
  unfold IsCross
  rw [zx]
  constructor
  · rintro ⟨h1,h2,h3,h4,h5,h6,h7⟩
    exact ⟨h1,h2,h3,h4,(yq (by omega) (by omega)).mp h5,(yq (by omega) (by omega)).mp h6,fun h=>h7 ((yq (by omega) (by omega)).mpr h)⟩
  · rintro ⟨h1,h2,h3,h4,h5,h6,h7⟩
    exact ⟨h1,h2,h3,h4,(yq (by omega) (by omega)).mpr h5,(yq (by omega) (by omega)).mpr h6,fun h=>h7 ((yq (by omega) (by omega)).mp h)⟩
theorem free_canon {w:List α}:Free (canon w)↔Free w:=by
  unfold Free
  constructor
  · intro h a b c d hx;exact h a b c d (cross_canon.mpr hx)
  · intro h a b c d hx;exact h a b c d (cross_canon.mp hx)
def fplace (c:Int) (L:Nat):Int:=if c / 64 % 2=1 then max 0 ((L:Int) - 1 - c % ((L:Int)+1) % 2) else c % ((L:Int)+1)
theorem zlr (c:Int) (L:Nat):0≤fplace c L:=by
  unfold fplace
  split
  · omega
  · exact Int.emod_nonneg _ (by omega)
theorem zls (c:Int) (L:Nat):fplace c L≤L:=by
  unfold fplace
  have h1:0≤c % ((L:Int)+1):=Int.emod_nonneg _ (by omega)
  have h2:c % ((L:Int)+1)<(L:Int)+1:=Int.emod_lt_of_pos _ (by omega)
  split <;> omega
def fstep (s:List Nat × List Nat) (c:Int):List Nat × List Nat :=
  if (fplace c s.1.length).toNat=s.1.length then (s.1++[(marks s.2).length],s.2++[(marks s.2).length])
  else (s.1.take ((fplace c s.1.length).toNat+1),s.2++[s.1.getD (fplace c s.1.length).toNat 0])
def freeState (cs:List Int):List Nat × List Nat:=cs.foldl fstep ([],[])
def freeWord (cs:List Int):List Nat:=(freeState cs).2
theorem zca (cs:List Int) (c:Int):freeState (cs++[c])=fstep (freeState cs) c:=by simp [freeState]
theorem zbg (cs:List Int):(freeState cs).2.length=cs.length∧(freeState cs).1.length≤cs.length:=by
  induction cs using wb with
  | h0=>simp [freeState]
  | h1 cs c ih =>
    rw [zca]
    unfold fstep
    split
    · simp;omega
    · simp;omega
theorem zbx (cs:List Int):(freeWord cs).length=cs.length:=(zbg cs).1
def cells (script:List Int) (at_ n:Nat):List Int:=(List.range n).map (fun k=>script.getD (at_+k) 0)
theorem wz (script:List Int) (at_ n:Nat):(cells script at_ n).length=n:=by simp [cells]
theorem zj6 (script:List Int) (at_ n:Nat):cells script at_ (n+1)=cells script at_ n++[script.getD (at_+n) 0]:=by
  simp [cells,List.range_succ]
def IsOrder (bs:List (List Nat)) (n:Nat) (o:List Nat):Prop :=
  o.length=n∧∀ b∈bs,∀ j,j<b.length→o[b.getD j 0]?=some (b.getD ((j+1) % b.length) 0)
theorem vp {w:List α} {i i' j j':Nat} {b b':List Nat} {p:Nat} (hb:(gather w)[i]?=some b) (hb':(gather w)[i']?=some b') (hp:b[j]?=some p) (hp':b'[j']?=some p):i=i'∧j=j':=by
  unfold gather at hb hb'
  rw [List.getElem?_map] at hb hb'
  obtain ⟨m,hm,rfl⟩:=Option.map_eq_some_iff.mp hb
  obtain ⟨m',hm',rfl⟩:=Option.map_eq_some_iff.mp hb'
  have e1:=mem_pos.mp (List.mem_of_getElem? hp)
  have e2:=mem_pos.mp (List.mem_of_getElem? hp')
  rw [e1] at e2
  cases e2
  obtain ⟨h1,g1⟩:=List.getElem?_eq_some_iff.mp hm
  obtain ⟨h2,g2⟩:=List.getElem?_eq_some_iff.mp hm'
  obtain ⟨h3,g3⟩:=List.getElem?_eq_some_iff.mp hp
  obtain ⟨h4,g4⟩:=List.getElem?_eq_some_iff.mp hp'
  refine ⟨(List.getElem_inj (za6 w)).mp (g1.trans g2.symm),?_⟩
  have nd:(pos w m).Nodup:=(zbo w m).imp (fun {a b} h=>Nat.ne_of_lt h)
  exact (List.getElem_inj nd).mp (g3.trans g4.symm)
end NC
set_option linter.unusedSectionVars false
namespace NC
variable {α β γ:Type} [DecidableEq α] [DecidableEq β] [DecidableEq γ]
def Below (w:List α) (v:List β):Prop:=w.length=v.length∧∀ i j:Nat,i<w.length→j<w.length→w[i]?=w[j]?→v[i]?=v[j]?
omit [DecidableEq α] in
theorem Below.refl (w:List α):Below w w:=⟨rfl,fun _ _ _ _ h=>h⟩
omit [DecidableEq α] [DecidableEq β] [DecidableEq γ] in
theorem Below.trans {w:List α} {v:List β} {u:List γ} (h:Below w v) (k:Below v u):Below w u :=
  ⟨h.1.trans k.1,fun i j hi hj e=>k.2 i j (by have:=h.1;omega) (by have:=h.1;omega) (h.2 i j hi hj e)⟩
theorem wg (w:List α):Below w (canon w)∧Below (canon w) w :=
  ⟨⟨(zx w).symm,fun i j hi hj e=>(yq hi hj).mpr e⟩,⟨zx w,fun i j hi hj e=>(yq (by rwa [zx] at hi) (by rwa [zx] at hj)).mp e⟩⟩
theorem zlt {w:List α} {v:List β} (h1:Below w v) (h2:Below v w) {k:Nat} {m:α} {n:β} (e1:w[k]?=some m) (e2:v[k]?=some n):pos w m=pos v n:=by
  have hl:=h1.1
  have hk:k<w.length:=(List.getElem?_eq_some_iff.mp e1).1
  unfold pos
  rw [← hl]
  apply List.filter_congr
  intro i hi
  rw [List.mem_range] at hi
  have:w[i]?=some m↔v[i]?=some n:=by
    rw [← e1,← e2]
    exact ⟨h1.2 i k hi hk,h2.2 i k (by omega) (by omega)⟩
  simp [this]
theorem zg7:∀ (l:Nat) {w:List α} {v:List β},w.length=l→Below w v→Below v w→gather w=gather v:=by
  intro l
  induction l with
  | zero =>
    intro w v hl h1 h2
    have hv:v.length=0:=by have:=h1.1;omega
    rw [List.length_eq_zero_iff.mp hl,List.length_eq_zero_iff.mp hv]
    rfl
  | succ l ih =>
    intro w v hl h1 h2
    have hlv:v.length=l+1:=by have:=h1.1;omega
    obtain ⟨w',m,rfl⟩:∃ w' m,w=w'++[m]:=⟨w.dropLast,w.getLast (by intro e;subst e;simp at hl),(List.dropLast_concat_getLast _).symm⟩
    obtain ⟨v',n,rfl⟩:∃ v' n,v=v'++[n]:=⟨v.dropLast,v.getLast (by intro e;subst e;simp at hlv),(List.dropLast_concat_getLast _).symm⟩
    have lw:w'.length=l:=by simpa using hl
    have lv:v'.length=l:=by simpa using hlv
    have gw:∀ {i},i<l→(w'++[m])[i]?=w'[i]?:=fun hi=>List.getElem?_append_left (by omega)
    have gv:∀ {i},i<l→(v'++[n])[i]?=v'[i]?:=fun hi=>List.getElem?_append_left (by omega)
    have gwl:(w'++[m])[l]?=some m:=by rw [← lw];simp
    have gvl:(v'++[n])[l]?=some n:=by rw [← lv];simp
    have b1:Below w' v':=⟨by omega,fun i j hi hj e=>by
      have:=h1.2 i j (by simp;omega) (by simp;omega) (by rw [gw (by omega),gw (by omega)];exact e)
      rwa [gv (by omega),gv (by omega)] at this⟩
    have b2:Below v' w':=⟨by omega,fun i j hi hj e=>by
      have:=h2.2 i j (by simp;omega) (by simp;omega) (by rw [gv (by omega),gv (by omega)];exact e)
      rwa [gw (by omega),gw (by omega)] at this⟩
    have IH:=ih lw b1 b2
    have mem_iff:∀ k,k<l→(w'[k]?=some m↔v'[k]?=some n):=fun k hk=>by
      constructor
      · intro e
        have:=h1.2 k l (by simp;omega) (by simp;omega) (by rw [gw hk,gwl,e])
        rwa [gv hk,gvl] at this
      · intro e
        have:=h2.2 k l (by simp;omega) (by simp;omega) (by rw [gv hk,gvl,e])
        rwa [gw hk,gwl] at this
    by_cases hm:m∈w'
    · obtain ⟨k,hk,e⟩:=List.mem_iff_getElem.mp hm
      have ek:w'[k]?=some m:=by rw [List.getElem?_eq_getElem hk,e]
      have ek':v'[k]?=some n:=(mem_iff k (by omega)).mp ek
      have hn:n∈v':=List.mem_of_getElem? ek'
      have ep:=zlt b1 b2 ek ek'
      rw [zab hm,zab hn,IH,ep,lw,lv]
      congr 1
      have g1:=vo hm
      have g2:=vo hn
      rw [IH,ep] at g1
      have hk2:k∈pos v' n:=mem_pos.mpr ek'
      obtain ⟨j,hj,ej⟩:=List.mem_iff_getElem.mp hk2
      have ej':(pos v' n)[j]?=some k:=by rw [List.getElem?_eq_getElem hj,ej]
      exact (vp g1 g2 ej' ej').1
    · have hn:n ∉ v':=by
        intro hn
        obtain ⟨k,hk,e⟩:=List.mem_iff_getElem.mp hn
        have ek':v'[k]?=some n:=by rw [List.getElem?_eq_getElem hk,e]
        exact hm (List.mem_of_getElem? ((mem_iff k (by omega)).mpr ek'))
      rw [vn hm,vn hn,IH,lw,lv]
theorem zc0 {w:List α} {v:List β} (h1:Below w v) (h2:Below v w):gather w=gather v:=zg7 w.length rfl h1 h2
theorem zb3 {w:List α} {i p:Nat} {b:List Nat} (hb:(gather w)[i]?=some b) (hp:p∈b):(canon w)[p]?=some i:=by
  unfold gather at hb
  rw [List.getElem?_map] at hb
  obtain ⟨m,hm,rfl⟩:=Option.map_eq_some_iff.mp hb
  rw [zcz,mem_pos.mp hp]
  obtain ⟨hi,e⟩:=List.getElem?_eq_some_iff.mp hm
  simp only [Option.map_some,Option.some.injEq]
  rw [← e]
  exact (za6 w).idxOf_getElem i hi
theorem zd1 {w:List α} {p:Nat} (hp:p<w.length):∃ (i:Nat) (b:List Nat),(gather w)[i]?=some b∧p∈b:=by
  have hm:w[p]∈w:=List.getElem_mem hp
  exact ⟨_,_,vo hm,mem_pos.mpr (List.getElem?_eq_getElem hp)⟩
def meetW (w:List α) (v:List β):List (α × β):=w.zip v
omit [DecidableEq α] [DecidableEq β] in
theorem wq {w:List α} {v:List β} (hl:w.length=v.length):(meetW w v).length=w.length:=by
  unfold meetW;rw [List.length_zip];omega
omit [DecidableEq α] [DecidableEq β] in
theorem zbq {w:List α} {v:List β} (hl:w.length=v.length) {i j:Nat} (hi:i<w.length) (hj:j<w.length):(meetW w v)[i]?=(meetW w v)[j]?↔w[i]?=w[j]?∧v[i]?=v[j]?:=by
  have li:i<(meetW w v).length:=by rw [wq hl];exact hi
  have lj:j<(meetW w v).length:=by rw [wq hl];exact hj
  rw [List.getElem?_eq_getElem li,List.getElem?_eq_getElem lj,List.getElem?_eq_getElem hi,List.getElem?_eq_getElem hj,List.getElem?_eq_getElem (by omega:i<v.length),List.getElem?_eq_getElem (by omega:j<v.length)]
  have z:∀ k (h:k<(meetW w v).length) (h1:k<w.length) (h2:k<v.length),(meetW w v)[k]=(w[k],v[k]):=fun k h h1 h2=>List.getElem_zip
  rw [z i li hi (by omega),z j lj hj (by omega)]
  simp only [Option.some.injEq,Prod.mk.injEq]
omit [DecidableEq α] [DecidableEq β] in
theorem zlu {w:List α} {v:List β} (hl:w.length=v.length):Below (meetW w v) w :=
  ⟨wq hl,fun i j hi hj e=>((zbq hl (by rwa [wq hl] at hi) (by rwa [wq hl] at hj)).mp e).1⟩
omit [DecidableEq α] [DecidableEq β] in
theorem zj7 {w:List α} {v:List β} (hl:w.length=v.length):Below (meetW w v) v :=
  ⟨(wq hl).trans hl,fun i j hi hj e=>((zbq hl (by rwa [wq hl] at hi) (by rwa [wq hl] at hj)).mp e).2⟩
omit [DecidableEq α] [DecidableEq β] [DecidableEq γ] in
theorem zgc {w:List α} {v:List β} {u:List γ} (h1:Below u w) (h2:Below u v):Below u (meetW w v):=by
  have hl:w.length=v.length:=h1.1.symm.trans h2.1
  refine ⟨h1.1.trans (wq hl).symm,fun i j hi hj e=>?_⟩
  have hi':i<w.length:=by have:=h1.1;omega
  have hj':j<w.length:=by have:=h1.1;omega
  exact (zbq hl hi' hj').mpr ⟨h1.2 i j hi hj e,h2.2 i j hi hj e⟩
omit [DecidableEq α] [DecidableEq β] in
theorem zlv {w:List α} {v:List β} (hl:w.length=v.length) (f1:Free w) (f2:Free v):Free (meetW w v):=by
  rintro a b c d ⟨h1,h2,h3,h4,h5,h6,h7⟩
  rw [wq hl] at h4
  rw [zbq hl (by omega) (by omega)] at h5 h6
  apply h7
  rw [zbq hl (by omega) (by omega)]
  constructor
  · by_cases q:w[a]?=w[b]?
    · exact q
    · exact absurd ⟨h1,h2,h3,h4,h5.1,h6.1,q⟩ (f1 a b c d)
  · by_cases q:v[a]?=v[b]?
    · exact q
    · exact absurd ⟨h1,h2,h3,by omega,h5.2,h6.2,q⟩ (f2 a b c d)
def madeOne (w:List Nat) (kept gone:Nat):List Nat:=w.map fun x=>if x=gone then kept else x
theorem za7 (w:List Nat) (k g:Nat):(madeOne w k g).length=w.length:=by simp [madeOne]
theorem wx (w:List Nat) (k g i:Nat):(madeOne w k g)[i]?=w[i]?.map fun x=>if x=g then k else x:=by simp [madeOne]
theorem zbh (w:List Nat) (k g:Nat):Below w (madeOne w k g):=⟨(za7 w k g).symm,fun i j _ _ e=>by rw [wx,wx,e]⟩
theorem zcu {w:List Nat} {v:List β} {p q k g:Nat} (h:Below w v) (hp:w[p]?=some k) (hq:w[q]?=some g) (e:v[p]?=v[q]?):Below (madeOne w k g) v:=by
  have lp:=(List.getElem?_eq_some_iff.mp hp).1
  have lq:=(List.getElem?_eq_some_iff.mp hq).1
  refine ⟨(za7 w k g).trans h.1,fun i j hi hj eij=>?_⟩
  rw [za7] at hi hj
  rw [wx,wx,List.getElem?_eq_getElem hi,List.getElem?_eq_getElem hj] at eij
  simp only [Option.map_some,Option.some.injEq] at eij
  have kq:∀ {i:Nat} (hi:i<w.length),w[i]=g→v[i]?=v[q]?:=fun {i} hi e1=>h.2 i q hi lq (by rw [List.getElem?_eq_getElem hi,e1,hq])
  have kp:∀ {i:Nat} (hi:i<w.length),w[i]=k→v[i]?=v[p]?:=fun {i} hi e1=>h.2 i p hi lp (by rw [List.getElem?_eq_getElem hi,e1,hp])
  by_cases h1:w[i]=g
  · by_cases h2:w[j]=g
    · rw [kq hi h1,kq hj h2]
    · rw [if_pos h1,if_neg h2] at eij
      rw [kq hi h1,kp hj eij.symm,e]
  · by_cases h2:w[j]=g
    · rw [if_neg h1,if_pos h2] at eij
      rw [kp hi eij,kq hj h2,e]
    · rw [if_neg h1,if_neg h2] at eij
      exact h.2 i j hi hj (by rw [List.getElem?_eq_getElem hi,List.getElem?_eq_getElem hj,eij])
theorem zgd {w:List Nat} {p q k g:Nat} (hp:w[p]?=some k) (hq:w[q]?=some g):(madeOne w k g)[p]?=(madeOne w k g)[q]?:=by
  rw [wx,wx,hp,hq]
  simp
theorem zj8 {w:List α} {v:List β} {a b c d:Nat} (h:Below w v) (f:Free v) (x:IsCross w a b c d):v[a]?=v[b]?:=by
  obtain ⟨h1,h2,h3,h4,h5,h6,_⟩:=x
  have e1:=h.2 a c (by omega) (by omega) h5
  have e2:=h.2 b d (by omega) (by omega) h6
  by_cases q:v[a]?=v[b]?
  · exact q
  · exact absurd ⟨h1,h2,h3,by have:=h.1;omega,e1,e2,q⟩ (f a b c d)
end NC
set_option linter.unusedSectionVars false
namespace NC
theorem zfy:∀ ns:List Int,(∀ i,i<ns.length - 1→ns.getD i 0<ns.getD (i+1) 0)↔ns.Pairwise (·<·)
  | []=>by simp
  | [x]=>by simp
  | x::y::r=>by
    have ih:=zfy (y::r)
    constructor
    · intro h
      have h2:(y::r).Pairwise (·<·):=ih.mp fun i hi=>by
        have:=h (i+1) (by simp at hi ⊢;omega)
        simpa using this
      have h0:x<y:=by simpa using h 0 (by simp)
      rw [List.pairwise_cons]
      refine ⟨fun z hz=>?_,h2⟩
      rcases List.mem_cons.mp hz with rfl | hz
      · exact h0
      · exact Int.lt_trans h0 ((List.pairwise_cons.mp h2).1 z hz)
    · intro h
      rw [List.pairwise_cons] at h
      have h2:=ih.mpr h.2
      intro i hi
      cases i with
      | zero=>simpa using h.1 y (by simp)
      | succ i =>
        have:=h2 i (by simp at hi ⊢;omega)
        simpa using this
theorem zlw (ns:List Int):((List.range (ns.length - 1)).map fun i=>decide (ns.getD i 0<ns.getD (i+1) 0)).all id=decide (ns.Pairwise (·<·)):=by
  rw [Bool.eq_iff_iff,decide_eq_true_iff,← zfy,List.all_map,List.all_eq_true]
  simp
theorem zbr {ms:List Int} {n:Nat} (h:ms.Pairwise (·≤·)):ms=(List.range n).map (fun (k:Nat)=>(k:Int))↔ms.Perm ((List.range n).map (fun (k:Nat)=>(k:Int))):=by
  constructor
  · rintro rfl;exact List.Perm.refl _
  · intro p
    have s2:((List.range n).map (fun (k:Nat)=>(k:Int))).Pairwise (·≤·):=by
      rw [List.pairwise_map]
      exact List.pairwise_lt_range.imp (fun {a b} h=>by omega)
    exact List.Perm.eq_of_pairwise (fun a b _ _ h1 h2=>Int.le_antisymm h1 h2) h s2 p
end NC
set_option linter.unusedSectionVars false
namespace NC
variable {α:Type} [DecidableEq α]
def PlacesTo (w:List α) (i k:Nat) (L:List Nat):Prop:=L.length=w.length∧∀ (j:Nat) (b:List Nat) (m p:Nat),(gather w)[j]?=some b→b[m]?=some p→(j<i∨(j=i∧m<k))→L[p]?=some j
theorem zc1 (w:List α):PlacesTo w 0 0 (List.replicate w.length 0):=⟨by simp,fun j b m p _ _ h=>by omega⟩
theorem zdl {w:List α} {i k p:Nat} {b L:List Nat} (h:PlacesTo w i k L) (hb:(gather w)[i]?=some b) (hp:b[k]?=some p):PlacesTo w i (k+1) (L.set p i):=by
  have hl:p<L.length:=by rw [h.1];exact yr (List.mem_of_getElem? hb) (List.mem_of_getElem? hp)
  refine ⟨by simpa using h.1,fun j b' m q hb' hq hjm=>?_⟩
  rw [List.getElem?_set]
  by_cases e:p=q
  · subst e
    obtain ⟨rfl,rfl⟩:=vp hb hb' hp hq
    rw [if_pos rfl,if_pos hl]
  · rw [if_neg e]
    refine h.2 j b' m q hb' hq ?_
    rcases hjm with z | ⟨z1,z2⟩
    · exact .inl z
    · subst z1
      rw [hb] at hb'
      cases hb'
      have:m≠k:=fun z=>by subst z;rw [hp] at hq;exact e (Option.some.inj hq)
      exact .inr ⟨rfl,by omega⟩
theorem zdm {w:List α} {i:Nat} {b L:List Nat} (h:PlacesTo w i b.length L) (hb:(gather w)[i]?=some b):PlacesTo w (i+1) 0 L:=by
  refine ⟨h.1,fun j b' m p hb' hp hjm=>h.2 j b' m p hb' hp ?_⟩
  by_cases e:j=i
  · subst e
    rw [hb] at hb'
    cases hb'
    exact .inr ⟨rfl,(List.getElem?_eq_some_iff.mp hp).1⟩
  · exact .inl (by omega)
theorem zeh {w:List α} {L:List Nat} (h:PlacesTo w (gather w).length 0 L):L=canon w:=by
  apply List.ext_getElem?
  intro p
  by_cases hp:p<w.length
  · obtain ⟨i,b,hb,hpb⟩:=zd1 hp
    obtain ⟨m,hm,e⟩:=List.mem_iff_getElem.mp hpb
    rw [zb3 hb hpb]
    exact h.2 i b m p hb (by rw [List.getElem?_eq_getElem hm,e]) (.inl (List.getElem?_eq_some_iff.mp hb).1)
  · rw [List.getElem?_eq_none_iff.mpr (by have:=h.1;omega),List.getElem?_eq_none_iff.mpr (by rw [zx];omega)]
def OrdTo (w:List α) (i:Nat) (D:Nat→Prop) (L:List Nat):Prop:=L.length=w.length∧∀ (j:Nat) (b:List Nat) (m p:Nat),(gather w)[j]?=some b→b[m]?=some p→(j<i∨(j=i∧D m))→L[p]?=b[(m+1) % b.length]?
theorem zlx (w:List α) (D:Nat→Prop) (hD:∀ m,¬ D m):OrdTo w 0 D (List.replicate w.length 0):=⟨by simp,fun j b m p _ _ h=>by
  rcases h with h | ⟨_,h⟩
  · omega
  · exact absurd h (hD m)⟩
theorem znm {w:List α} {i k p v:Nat} {D D':Nat→Prop} {b L:List Nat} (h:OrdTo w i D L) (hb:(gather w)[i]?=some b) (hp:b[k]?=some p) (hv:b[(k+1) % b.length]?=some v) (hD:∀ m,m<b.length→D' m→m=k∨D m):OrdTo w i D' (L.set p v):=by
  have hl:p<L.length:=by rw [h.1];exact yr (List.mem_of_getElem? hb) (List.mem_of_getElem? hp)
  refine ⟨by simpa using h.1,fun j b' m q hb' hq hjm=>?_⟩
  rw [List.getElem?_set]
  by_cases e:p=q
  · subst e
    obtain ⟨rfl,rfl⟩:=vp hb hb' hp hq
    rw [hb] at hb'
    cases hb'
    rw [if_pos rfl,if_pos hl,hv]
  · rw [if_neg e]
    refine h.2 j b' m q hb' hq ?_
    rcases hjm with z | ⟨z1,z2⟩
    · exact .inl z
    · subst z1
      rw [hb] at hb'
      cases hb'
      rcases hD m (List.getElem?_eq_some_iff.mp hq).1 z2 with z | z
      · subst z;rw [hp] at hq;exact absurd (Option.some.inj hq) e
      · exact .inr ⟨rfl,z⟩
theorem znn {w:List α} {i:Nat} {D D':Nat→Prop} {b L:List Nat} (h:OrdTo w i D L) (hb:(gather w)[i]?=some b) (hD:∀ m,m<b.length→D m) (hD':∀ m,¬ D' m):OrdTo w (i+1) D' L:=by
  refine ⟨h.1,fun j b' m p hb' hp hjm=>h.2 j b' m p hb' hp ?_⟩
  by_cases e:j=i
  · subst e
    rw [hb] at hb'
    cases hb'
    exact .inr ⟨rfl,hD m (List.getElem?_eq_some_iff.mp hp).1⟩
  · rcases hjm with z | ⟨z1,z2⟩
    · exact .inl (by omega)
    · exact absurd z2 (hD' m)
theorem zo4 {w:List α} {D:Nat→Prop} {L:List Nat} (h:OrdTo w (gather w).length D L):IsOrder (gather w) w.length L:=by
  refine ⟨h.1,fun b hb j hj=>?_⟩
  obtain ⟨i,hi,e⟩:=List.mem_iff_getElem.mp hb
  have hb':(gather w)[i]?=some b:=by rw [List.getElem?_eq_getElem hi,e]
  have hm:(j+1) % b.length<b.length:=Nat.mod_lt _ (by omega)
  have:=h.2 i b j (b.getD j 0) hb' (by rw [List.getD_eq_getElem?_getD,List.getElem?_eq_getElem hj];rfl) (.inl hi)
  rw [this,List.getD_eq_getElem?_getD,List.getElem?_eq_getElem hm]
  rfl
theorem ze4 {w:List α} (h:∀ a b c d,a<w.length→¬ IsCross w a b c d):Free w:=fun a b c d x=>h a b c d (by obtain ⟨h1,h2,h3,h4,_⟩:=x;omega) x
end NC
set_option linter.unusedSectionVars false
namespace NC
theorem getD_some {v:List Nat} {i:Nat} (h:i<v.length):v[i]?=some (v.getD i 0):=by
  rw [List.getD_eq_getElem?_getD,List.getElem?_eq_getElem h];rfl
def CrossBC (v:List Nat) (b c:Nat):Prop:=b<c∧c<v.length∧v.getD b 0≠v.getD c 0∧v.getD c 0∈v.take b∧v.getD b 0∈v.drop (c+1)
theorem zj9 {v:List Nat} {a b c d:Nat} (x:IsCross v a b c d):CrossBC v b c:=by
  obtain ⟨h1,h2,h3,h4,h5,h6,h7⟩:=x
  have ea:=getD_some (v:=v) (i:=a) (by omega)
  have eb:=getD_some (v:=v) (i:=b) (by omega)
  have ec:=getD_some (v:=v) (i:=c) (by omega)
  have ed:=getD_some (v:=v) (i:=d) (by omega)
  refine ⟨h2,by omega,fun z=>h7 (by rw [h5,eb,ec,z]),?_,?_⟩
  · rw [List.mem_iff_getElem?]
    exact ⟨a,by rw [List.getElem?_take,if_pos h1,h5,ec]⟩
  · rw [List.mem_iff_getElem?]
    exact ⟨d - (c+1),by rw [List.getElem?_drop,show c+1+(d - (c+1))=d by omega,← h6,eb]⟩
theorem zii {v:List Nat} {b c:Nat} (h:CrossBC v b c):∃ a d,IsCross v a b c d:=by
  obtain ⟨h1,h2,h3,h4,h5⟩:=h
  obtain ⟨a,ha⟩:=List.mem_iff_getElem?.mp h4
  obtain ⟨d,hd⟩:=List.mem_iff_getElem?.mp h5
  rw [List.getElem?_take] at ha
  rw [List.getElem?_drop] at hd
  split at ha
  · rename_i hab
    have eb:=getD_some (v:=v) (i:=b) (by omega)
    have ec:=getD_some (v:=v) (i:=c) (by omega)
    have hdl:=(List.getElem?_eq_some_iff.mp hd).1
    refine ⟨a,c+1+d,hab,h1,by omega,hdl,by rw [ha,ec],by rw [eb,hd],fun z=>h3 ?_⟩
    rw [ha,eb] at z
    exact (Option.some.inj z).symm
  · cases ha
theorem zka {v:List Nat} (h:∀ b c,b<v.length→¬ CrossBC v b c):Free v:=fun a b c d x=>by
  have y:=zj9 x
  exact h b c (by have:=y.1;have:=y.2.1;omega) y
def anyWord (cs:List Int):List Nat:=cs.map fun c=>(c % 4).toNat
theorem za0 (cs:List Int):(anyWord cs).length=cs.length:=by simp [anyWord]
variable {α β:Type} [DecidableEq α] [DecidableEq β]
theorem zd2 {w:List α} {v:List β} (hl:w.length=v.length):Below w v↔∀ b∈gather w,∀ p∈b,(canon v).getD p 0=(canon v).getD (b.headD 0) 0:=by
  constructor
  · intro h b hb p hp
    obtain ⟨m,hm,rfl⟩:=mem_gather.mp hb
    have hne:=xt hb
    have hh:(pos w m).headD 0∈pos w m:=by
      cases e:pos w m with
      | nil=>exact absurd e hne
      | cons x r=>simp
    have l1:=yr hb hp
    have l2:=yr hb hh
    have e:=h.2 p _ l1 l2 (by rw [mem_pos.mp hp,mem_pos.mp hh])
    have e2:=(yq (w:=v) (i:=p) (j:=(pos w m).headD 0) (by omega) (by omega)).mpr e
    rw [getD_some (by rw [zx];omega),getD_some (by rw [zx];omega)] at e2
    exact Option.some.inj e2
  · intro h
    refine ⟨hl,fun i j hi hj e=>?_⟩
    have hb:pos w w[i]∈gather w:=mem_gather.mpr ⟨_,List.getElem_mem hi,rfl⟩
    have h1:=h _ hb i (mem_pos.mpr (List.getElem?_eq_getElem hi))
    have h2:=h _ hb j (mem_pos.mpr (by rw [← e,List.getElem?_eq_getElem hi]))
    refine (yq (w:=v) (by omega) (by omega)).mp ?_
    rw [getD_some (by rw [zx];omega),getD_some (by rw [zx];omega),h1,h2]
theorem zc2 {b:List Nat} (h:b≠[]):b.headD 0∈b:=by
  cases b with
  | nil=>exact absurd rfl h
  | cons x r=>simp
end NC
set_option linter.unusedSectionVars false
namespace NC
theorem zge {w:List Nat} {k g:Nat} (hk:k∈w) (hg:g∈w) (hne:k≠g):(marks (madeOne w k g)).length<(marks w).length:=by
  have h1:∀ x∈marks (madeOne w k g),x∈(marks w).erase g:=by
    intro x hx
    rw [mem_marks,madeOne,List.mem_map] at hx
    obtain ⟨y,hy,e⟩:=hx
    by_cases hyg:y=g
    · rw [if_pos hyg] at e
      subst e
      rw [List.mem_erase_of_ne hne]
      exact mem_marks.mpr hk
    · rw [if_neg hyg] at e
      subst e
      rw [List.mem_erase_of_ne hyg]
      exact mem_marks.mpr hy
  have nd:=za6 (madeOne w k g)
  have h2:(marks (madeOne w k g)).length≤((marks w).erase g).length:=by
    generalize marks (madeOne w k g)=L at nd h1
    generalize (marks w).erase g=M at h1
    clear hk hg hne
    induction L generalizing M with
    | nil=>exact Nat.zero_le _
    | cons x L ih =>
      rw [List.nodup_cons] at nd
      have hx:=h1 x (by simp)
      have:=ih nd.2 (M.erase x) (fun y hy=>by
        have hyx:y≠x:=fun e=>nd.1 (e ▸ hy)
        exact (List.mem_erase_of_ne hyx).mpr (h1 y (by simp [hy])))
      rw [List.length_erase_of_mem hx] at this
      have hpos:0<M.length:=List.length_pos_of_mem hx
      simp only [List.length_cons]
      omega
  have hg':g∈marks w:=mem_marks.mpr hg
  rw [List.length_erase_of_mem hg'] at h2
  have hpos:0<(marks w).length:=List.length_pos_of_mem hg'
  omega
structure IsMeet (w v u:List Nat):Prop where
  left:Below u w
  right:Below u v
  great:∀ x:List Nat,Below x w→Below x v→Below x u
structure IsJoin (w v u:List Nat):Prop where
  left:Below w u
  right:Below v u
  free:Free u
  least:∀ x:List Nat,Free x→Below w x→Below v x→Below u x
structure Joining (w v:List Nat) (i k:Nat) (L:List Nat):Prop where
  low:Below w L
  done:∀ (j:Nat) (b:List Nat) (m p:Nat),(gather v)[j]?=some b→b[m]?=some p→(j<i∨(j=i∧m<k))→L[p]?=L[b.headD 0]?
  least:∀ x:List Nat,Below w x→Below v x→Below L x
theorem zgf (w v:List Nat):Joining w v 0 0 w:=⟨Below.refl w,fun j b m p _ _ h=>by omega,fun x h _=>h⟩
theorem zam {w v L:List Nat} {i k:Nat} (h:Joining w v i k L):L.length=w.length:=h.low.1.symm
theorem zg8 {w v L:List Nat} {i:Nat} {b:List Nat} (h:Joining w v i b.length L) (hb:(gather v)[i]?=some b):Joining w v (i+1) 0 L:=by
  refine ⟨h.low,fun j b' m p hb' hp hjm=>h.done j b' m p hb' hp ?_,h.least⟩
  by_cases e:j=i
  · subst e
    rw [hb] at hb'
    cases hb'
    exact .inr ⟨rfl,(List.getElem?_eq_some_iff.mp hp).1⟩
  · exact .inl (by omega)
theorem zij {v x:List Nat} {b:List Nat} {p q:Nat} (h:Below v x) (hb:b∈gather v) (hp:p∈b) (hq:q∈b):x[p]?=x[q]?:=by
  obtain ⟨m,hm,rfl⟩:=mem_gather.mp hb
  exact h.2 p q (yr hb hp) (yr hb hq) (by rw [mem_pos.mp hp,mem_pos.mp hq])
theorem zg9 {w v L:List Nat} {i k p:Nat} {b:List Nat} (hl:w.length=v.length) (h:Joining w v i k L) (hb:(gather v)[i]?=some b) (hp:b[k]?=some p):Joining w v i (k+1) (madeOne L (L.getD (b.headD 0) 0) (L.getD p 0)):=by
  have hbm:=List.mem_of_getElem? hb
  have hpm:=List.mem_of_getElem? hp
  have hhm:=zc2 (xt hbm)
  have lL:=zam h
  have l1:p<L.length:=by have:=yr hbm hpm;omega
  have l2:b.headD 0<L.length:=by have:=yr hbm hhm;omega
  refine ⟨h.low.trans (zbh L _ _),fun j b' m q hb' hq hjm=>?_,fun x hx1 hx2=>?_⟩
  · by_cases e:j=i∧m=k
    · obtain ⟨rfl,rfl⟩:=e
      rw [hb] at hb'
      cases hb'
      rw [hp] at hq
      cases hq
      exact (zgd (getD_some l2) (getD_some l1)).symm
    · have:=h.done j b' m q hb' hq (by omega)
      rw [wx,wx,this]
  · exact zcu (h.least x hx1 hx2) (getD_some l2) (getD_some l1) (zij hx2 hbm hhm hpm)
theorem zik {w v L:List Nat} (hl:w.length=v.length) (h:Joining w v (gather v).length 0 L):Below v L:=by
  have lL:=zam h
  refine ⟨by omega,fun i j hi hj e=>?_⟩
  have hb:pos v v[i]∈gather v:=mem_gather.mpr ⟨_,List.getElem_mem hi,rfl⟩
  have hi':i∈pos v v[i]:=mem_pos.mpr (List.getElem?_eq_getElem hi)
  have hj':j∈pos v v[i]:=mem_pos.mpr (by rw [← e,List.getElem?_eq_getElem hi])
  obtain ⟨n,hn,en⟩:=List.mem_iff_getElem.mp hb
  obtain ⟨m1,hm1,e1⟩:=List.mem_iff_getElem.mp hi'
  obtain ⟨m2,hm2,e2⟩:=List.mem_iff_getElem.mp hj'
  have q1:=h.done n _ m1 i (by rw [List.getElem?_eq_getElem hn,en]) (by rw [List.getElem?_eq_getElem hm1,e1]) (.inl hn)
  have q2:=h.done n _ m2 j (by rw [List.getElem?_eq_getElem hn,en]) (by rw [List.getElem?_eq_getElem hm2,e2]) (.inl hn)
  rw [q1,q2]
structure Freeing (w v L:List Nat):Prop where
  left:Below w L
  right:Below v L
  least:∀ x:List Nat,Free x→Below w x→Below v x→Below L x
theorem zkb {w v L:List Nat} (hl:w.length=v.length) (h:Joining w v (gather v).length 0 L):Freeing w v L:=⟨h.low,zik hl h,fun x _ h1 h2=>h.least x h1 h2⟩
theorem zc3 {w v L:List Nat} {a b c d:Nat} (h:Freeing w v L) (x:IsCross L a b c d):Freeing w v (madeOne L (L.getD a 0) (L.getD b 0))∧(marks (madeOne L (L.getD a 0) (L.getD b 0))).length<(marks L).length:=by
  obtain ⟨h1,h2,h3,h4,h5,h6,h7⟩:=id x
  have ea:=getD_some (v:=L) (i:=a) (by omega)
  have eb:=getD_some (v:=L) (i:=b) (by omega)
  have hne:L.getD a 0≠L.getD b 0:=fun z=>h7 (by rw [ea,eb,z])
  refine ⟨⟨h.left.trans (zbh L _ _),h.right.trans (zbh L _ _),fun y hf hy1 hy2=>?_⟩,zge (List.mem_of_getElem? ea) (List.mem_of_getElem? eb) hne⟩
  exact zcu (h.least y hf hy1 hy2) ea eb (zj8 (h.least y hf hy1 hy2) hf x)
theorem zil {w v L:List Nat} (h:Freeing w v L) (hf:Free L):IsJoin w v L:=⟨h.left,h.right,hf,h.least⟩
theorem Below.canonL {w v:List Nat} (h:Below w v):Below (canon w) v:=(wg w).2.trans h
theorem Below.canonR {w v:List Nat} (h:Below w v):Below w (canon v):=h.trans (wg v).1
theorem IsJoin.uncanon {w v u:List Nat} (h:IsJoin (canon w) v u):IsJoin w v u:=⟨(wg w).1.trans h.left,h.right,h.free,fun x hf h1 h2=>h.least x hf h1.canonL h2⟩
theorem zim {w v:List Nat} (hl:w.length=v.length) (u:List Nat) (hu:Below u (meetW (canon w) (canon v))) (hu':Below (meetW (canon w) (canon v)) u):IsMeet w v u:=by
  have hl':(canon w).length=(canon v).length:=by rw [zx,zx];exact hl
  exact ⟨(hu.trans (zlu hl')).trans (wg w).2,(hu.trans (zj7 hl')).trans (wg v).2,fun x h1 h2=>(zgc h1.canonR h2.canonR).trans hu'⟩
theorem zd3 {w v:List Nat} (hl:w.length=v.length) (f1:Free w) (f2:Free v):Free (canon (meetW (canon w) (canon v))):=by
  rw [free_canon]
  exact zlv (by rw [zx,zx];exact hl) (free_canon.mpr f1) (free_canon.mpr f2)
theorem zha {α:Type} [DecidableEq α] (w:List α):gather (canon w)=gather w:=zc0 (wg w).2 (wg w).1
theorem zd4 {n:Nat}:∀ {bs:List (List Int)},bs.flatten.Perm ((List.range n).map (fun (k:Nat)=>(k:Int)))→(∀ b∈bs,b≠[])→(bs.map fun b=>b.headD 0).Nodup:=by
  intro bs hp hne
  have nd:bs.flatten.Nodup:=by
    rw [hp.nodup_iff,List.nodup_iff_pairwise_ne,List.pairwise_map]
    exact List.pairwise_lt_range.imp (fun {a b} h=>by omega)
  clear hp
  induction bs with
  | nil=>simp
  | cons b bs ih =>
    rw [List.flatten_cons,List.nodup_append] at nd
    rw [List.map_cons,List.nodup_cons]
    refine ⟨fun hm=>?_,ih (fun c hc=>hne c (by simp [hc])) nd.2.1⟩
    obtain ⟨c,hc,e⟩:=List.mem_map.mp hm
    have hb0:b.headD 0∈b:=by
      cases b with
      | nil=>exact absurd rfl (hne [] (by simp))
      | cons x r=>simp
    have hc0:c.headD 0∈c:=by
      cases c with
      | nil=>exact absurd rfl (hne [] (by simp [hc]))
      | cons x r=>simp
    exact nd.2.2 _ hb0 _ (List.mem_flatten.mpr ⟨c,hc,hc0⟩) e.symm
theorem zno {n:Int} {bs:List (List Int)}:Parting n bs↔0≤n∧n≤10∧(∀ b∈bs,b≠[]∧b.Pairwise (·<·))∧bs.flatten.Perm ((List.range n.toNat).map (fun (k:Nat)=>(k:Int)))∧(bs.map fun b=>b.headD 0).Pairwise (·≤·):=by
  constructor
  · intro h
    exact ⟨h.lo,h.hi,fun b hb=>⟨h.ne b hb,h.rise b hb⟩,h.perm,h.firsts.imp fun {a b} x=>by omega⟩
  · rintro ⟨h1,h2,h3,h4,h5⟩
    refine ⟨h1,h2,fun b hb=>(h3 b hb).1,fun b hb=>(h3 b hb).2,?_,h4⟩
    have nd:=zd4 h4 fun b hb=>(h3 b hb).1
    rw [List.nodup_iff_pairwise_ne] at nd
    exact (h5.and nd).imp fun {a b} x=>by omega
end NC
namespace NC
theorem zkc {b ms:List Int} (h1:b.Pairwise (·<·)) (h2:ms.Pairwise (·<·)) (h:∀ k,k∈ms↔k∈b):b=ms:=by
  have n1:b.Nodup:=List.nodup_iff_pairwise_ne.mpr (h1.imp fun {a b} x=>by omega)
  have n2:ms.Nodup:=List.nodup_iff_pairwise_ne.mpr (h2.imp fun {a b} x=>by omega)
  have p:b.Perm ms:=(List.perm_ext_iff_of_nodup n1 n2).mpr fun k=>(h k).symm
  exact List.Perm.eq_of_pairwise (fun a b _ _ h1 h2=>by omega) h1 h2 p
theorem zdn:∀ {bs:List (List Int)},(∀ b∈bs,b≠[])→bs.length≤bs.flatten.length
  | [],_=>Nat.zero_le _
  | b::bs,h=>by
    have h1:=zdn (bs:=bs) fun c hc=>h c (by simp [hc])
    have h2:0<b.length:=List.length_pos_iff.mpr (h b (by simp))
    rw [List.flatten_cons,List.length_append,List.length_cons]
    omega
theorem zin {ns ms:List Int} (hp:ms.Perm ns) (hs:ms.Pairwise (·≤·)):ns=ms↔ns.Pairwise (·≤·):=by
  constructor
  · rintro rfl;exact hs
  · intro h
    exact List.Perm.eq_of_pairwise (fun a b _ _ h1 h2=>Int.le_antisymm h1 h2) h hs hp.symm
end NC
set_option linter.unusedSectionVars false
namespace NC
end NC
set_option linter.all false
namespace NC
def Sat (w:List Nat) (i j:Nat):Prop:=∀ a b:Nat,a<w.length→b<w.length→i<a→a≤j→¬ (i<b∧b≤j)→w[a]?≠w[b]?
theorem znp (w:List Nat) (i:Nat):Sat w i i:=fun a b _ _ h1 h2 _=>by omega
theorem zfz {w:List Nat} {i j k:Nat} (h1:i≤j) (h2:j≤k) (s1:Sat w i j) (s2:Sat w j k):Sat w i k:=fun a b ha hb l1 l2 n=>by
  by_cases h:a≤j
  · exact s1 a b ha hb l1 h (by omega)
  · exact s2 a b ha hb (by omega) l2 (by omega)
theorem zhb {w:List Nat} {i j k:Nat} (h1:i≤j) (h2:j≤k) (s1:Sat w i k) (s2:Sat w i j):Sat w j k:=fun a b ha hb l1 l2 n=>by
  by_cases h:i<b∧b≤j
  · exact Ne.symm (s2 b a hb ha h.1 h.2 (by omega))
  · exact s1 a b ha hb (by omega) l2 (by omega)
theorem zf0 {w:List Nat} {i j k:Nat} (h1:i≤j) (h2:j≤k) (s1:Sat w i k) (s2:Sat w j k):Sat w i j:=fun a b ha hb l1 l2 n=>by
  by_cases h:j<b∧b≤k
  · exact Ne.symm (s2 b a hb ha h.1 h.2 (by omega))
  · exact s1 a b ha hb l1 (by omega) (by omega)
def Kr (w:List Nat) (i j:Nat):Prop:=(i≤j∧Sat w i j)∨(j≤i∧Sat w j i)
theorem zcb {w:List Nat} {i j:Nat} (h:Kr w i j):Kr w j i:=h.elim .inr .inl
theorem za1 {w:List Nat} {i j k:Nat} (h1:Kr w i j) (h2:Kr w j k):Kr w i k:=by
  rcases h1 with ⟨a1,s1⟩ | ⟨a1,s1⟩ <;> rcases h2 with ⟨a2,s2⟩ | ⟨a2,s2⟩
  · exact .inl ⟨by omega,zfz a1 a2 s1 s2⟩
  · rcases Nat.le_total i k with h | h
    · exact .inl ⟨h,zf0 h a2 s1 s2⟩
    · exact .inr ⟨h,zf0 h a1 s2 s1⟩
  · rcases Nat.le_total i k with h | h
    · exact .inl ⟨h,zhb a1 h s2 s1⟩
    · exact .inr ⟨h,zhb a2 h s1 s2⟩
  · exact .inr ⟨by omega,zfz a2 a1 s2 s1⟩
theorem kr_lt {w:List Nat} {i j:Nat} (h:i≤j) (k:Kr w i j):Sat w i j:=by
  rcases k with ⟨_,s⟩ | ⟨a,s⟩
  · exact s
  · have:i=j:=by omega
    subst this
    exact s
structure IsContrary (w u:List Nat):Prop where
  len:u.length=w.length
  iff:∀ i j:Nat,i<w.length→j<w.length→(u[i]?=u[j]?↔Kr w i j)
open Classical in
noncomputable def krFirst (w:List Nat) (i:Nat):Nat:=((List.range (i+1)).find? fun j=>decide (Sat w j i)).getD i
theorem zc4 (w:List Nat) (i:Nat):krFirst w i≤i∧Sat w (krFirst w i) i∧∀ j,j<krFirst w i→¬ Sat w j i:=by
  unfold krFirst
  cases e:(List.range (i+1)).find? (fun j=>@decide (Sat w j i) (Classical.propDecidable _)) with
  | none =>
    have:=List.find?_eq_none.mp e i (List.mem_range.mpr (Nat.lt_succ_self _))
    simp only [decide_eq_true_eq] at this
    exact absurd (znp w i) this
  | some j =>
    have h1:=List.find?_some e
    simp only [decide_eq_true_eq] at h1
    have h2:=List.mem_range.mp (List.mem_of_find?_eq_some e)
    refine ⟨by show j≤i;omega,h1,fun k hk hs=>?_⟩
    have hk:k<j:=hk
    obtain ⟨_,as,bs,e1,h3⟩:=List.find?_eq_some_iff_append.mp e
    have hkm:k∈as:=by
      have hlen:as.length=j:=by
        have h4:(List.range (i+1))[as.length]?=some j:=by rw [e1,List.getElem?_append_right (Nat.le_refl _)];simp
        have h5:=(List.getElem?_eq_some_iff.mp h4)
        obtain ⟨h6,h7⟩:=h5
        rw [List.getElem_range] at h7
        exact h7
      have h4:(List.range (i+1))[k]?=some k:=by rw [List.getElem?_range (by omega)]
      rw [e1,List.getElem?_append_left (by omega)] at h4
      exact List.mem_of_getElem? h4
    have:=h3 k hkm
    simp only [Bool.not_eq_true',decide_eq_false_iff_not] at this
    exact this hs
noncomputable def krWord (w:List Nat):List Nat:=(List.range w.length).map (krFirst w)
theorem zly (w:List Nat):IsContrary w (krWord w):=by
  refine ⟨by simp [krWord],fun i j hi hj=>?_⟩
  have gi:(krWord w)[i]?=some (krFirst w i):=by simp [krWord,hi]
  have gj:(krWord w)[j]?=some (krFirst w j):=by simp [krWord,hj]
  rw [gi,gj]
  obtain ⟨l1,s1,m1⟩:=zc4 w i
  obtain ⟨l2,s2,m2⟩:=zc4 w j
  constructor
  · intro e
    have e:=Option.some.inj e
    exact za1 (.inr ⟨l1,s1⟩) (.inl ⟨by omega,by rw [e];exact s2⟩)
  · intro h
    congr 1
    rcases Nat.lt_trichotomy (krFirst w i) (krFirst w j) with z | z | z
    · exact absurd (kr_lt (by omega) (za1 (.inl ⟨l1,s1⟩) h)) (m2 _ z)
    · exact z
    · exact absurd (kr_lt (by omega) (za1 (.inl ⟨l2,s2⟩) (zcb h))) (m1 _ z)
theorem zo5 {w:List Nat} (f:Free w) {m m':Nat} (hlt:m<m') (hm:m'<w.length) (e:w[m]?=w[m']?) (no:∀ x,m<x→x<m'→w[x]?≠w[m]?):Sat w m (m' - 1):=fun a b ha hb l1 l2 n z=>by
  have ham:w[a]?≠w[m]?:=no a l1 (by omega)
  rcases Nat.lt_trichotomy b m with h | h | h
  · exact f b m a m' ⟨h,l1,by omega,hm,z.symm,e,fun q=>ham (by rw [z];exact q)⟩
  · subst h;exact ham z
  · rcases Nat.lt_trichotomy b m' with h' | h' | h'
    · exact n ⟨h,by omega⟩
    · subst h';exact ham (by rw [z];exact e.symm)
    · exact f m a m' b ⟨l1,by omega,h',hb,e,z,fun q=>ham q.symm⟩
theorem zdo {w:List Nat} (f:Free w) {m0 m:Nat} (hle:m0≤m) (hm:m<w.length) (e:w[m0]?=w[m]?) (lo:∀ x,x<m0→w[x]?≠w[m]?) (hi:∀ x,m<x→x<w.length→w[x]?≠w[m]?) {a b:Nat} (ha:m0≤a) (ha2:a≤m) (hb:b<w.length) (nb:¬ (m0≤b∧b≤m)):w[a]?≠w[b]?:=fun z=>by
  by_cases q:w[a]?=w[m]?
  · by_cases h:b<m0
    · exact lo b h (by rw [← z];exact q)
    · exact hi b (by omega) hb (by rw [← z];exact q)
  · have a1:m0≠a:=fun k=>q (by rw [← k];exact e)
    have a2:a≠m:=fun k=>q (by rw [k])
    by_cases h:b<m0
    · exact f b m0 a m ⟨h,by omega,by omega,hm,z.symm,e,fun k=>q (by rw [z,k];exact e)⟩
    · exact f m0 a m b ⟨by omega,by omega,by omega,hb,e,z,fun k=>q (by rw [← k];exact e)⟩
theorem zf1 {w:List Nat} (f:Free w) {m0 m:Nat} (hpos:0<m0) (hle:m0≤m) (hm:m<w.length) (e:w[m0]?=w[m]?) (lo:∀ x,x<m0→w[x]?≠w[m]?) (hi:∀ x,m<x→x<w.length→w[x]?≠w[m]?):Sat w (m0 - 1) m:=fun a b ha hb l1 l2 n =>
  zdo f hle hm e lo hi (by omega) l2 hb (by omega)
theorem znq {w:List Nat} (f:Free w) {m:Nat} (hm:m<w.length) (e:w[0]?=w[m]?) (hi:∀ x,m<x→x<w.length→w[x]?≠w[m]?):Sat w m (w.length - 1):=fun a b ha hb l1 l2 n z=>by
  refine zdo f (Nat.zero_le m) hm e (fun x hx=>absurd hx (Nat.not_lt_zero x)) hi (a:=b) (b:=a) (Nat.zero_le _) ?_ ha (by omega) z.symm
  omega
theorem zby {w:List Nat} {p:Nat}:∀ j:Nat,p≤j→∃ m,p≤m∧m≤j∧w[m]?=w[p]?∧∀ x,m<x→x≤j→w[x]?≠w[p]?
  | 0,h=>⟨0,by omega,Nat.le_refl _,by rw [show p=0 by omega],fun x h1 h2=>by omega⟩
  | j+1,h=>by
    by_cases e:w[j+1]?=w[p]?
    · exact ⟨j+1,h,Nat.le_refl _,e,fun x h1 h2=>by omega⟩
    · have hp:p≤j:=by
        rcases Nat.lt_or_ge j p with z | z
        · have:p=j+1:=by omega
          exact absurd (by rw [this]) e
        · exact z
      obtain ⟨m,h1,h2,h3,h4⟩:=zby j hp
      refine ⟨m,h1,by omega,h3,fun x l1 l2=>?_⟩
      rcases Nat.lt_or_ge j x with z | z
      · rw [show x=j+1 by omega];exact e
      · exact h4 x l1 z
theorem zei {w:List Nat} {p:Nat}:∀ (k j:Nat),p=j+k→∃ m,j≤m∧m≤p∧w[m]?=w[p]?∧∀ x,j≤x→x<m→w[x]?≠w[p]?
  | 0,j,h=>⟨p,by omega,Nat.le_refl _,rfl,fun x h1 h2=>by omega⟩
  | k+1,j,h=>by
    by_cases e:w[j]?=w[p]?
    · exact ⟨j,Nat.le_refl _,by omega,e,fun x h1 h2=>by omega⟩
    · obtain ⟨m,h1,h2,h3,h4⟩:=zei (w:=w) (p:=p) k (j+1) (by omega)
      refine ⟨m,by omega,h2,h3,fun x l1 l2=>?_⟩
      rcases Nat.lt_or_ge x (j+1) with z | z
      · rw [show x=j by omega];exact e
      · exact h4 x z l2
end NC
set_option linter.all false
namespace NC
def Nxt (w:List Nat) (p q:Nat):Prop:=w[q]?=w[p]?∧((p<q∧∀ x,p<x→x<q→w[x]?≠w[p]?)∨(q≤p∧(∀ x,p<x→x<w.length→w[x]?≠w[p]?)∧∀ x,x<q→w[x]?≠w[p]?))
theorem zkd {w:List Nat} {p q q':Nat} (hq:q<w.length) (hq':q'<w.length) (h:Nxt w p q) (h':Nxt w p q'):q=q':=by
  obtain ⟨e,h⟩:=h
  obtain ⟨e',h'⟩:=h'
  rcases h with ⟨l,n⟩ | ⟨l,hi,lo⟩ <;> rcases h' with ⟨l',n'⟩ | ⟨l',hi',lo'⟩
  · rcases Nat.lt_trichotomy q q' with z | z | z
    · exact absurd e (n' q l z)
    · exact z
    · exact absurd e' (n q' l' z)
  · exact absurd e (hi' q l hq)
  · exact absurd e' (hi q' l' hq')
  · rcases Nat.lt_trichotomy q q' with z | z | z
    · exact absurd e (lo' q z)
    · exact z
    · exact absurd e' (lo q' z)
theorem zat {w o:List Nat} (h:IsOrder (gather w) w.length o) {p:Nat} (hp:p<w.length):∃ q,q<w.length∧o[p]?=some q∧Nxt w p q:=by
  have hb:pos w w[p]∈gather w:=mem_gather.mpr ⟨_,List.getElem_mem hp,rfl⟩
  have hwp:w[p]?=some w[p]:=List.getElem?_eq_getElem hp
  have hm:p∈pos w w[p]:=mem_pos.mpr hwp
  obtain ⟨j,hj,e⟩:=List.mem_iff_getElem.mp hm
  have e':(pos w w[p]).getD j 0=p:=by rw [List.getD_eq_getElem?_getD,List.getElem?_eq_getElem hj];exact e
  have a:=h.2 _ hb j hj
  rw [e'] at a
  have hk:(j+1) % (pos w w[p]).length<(pos w w[p]).length:=Nat.mod_lt _ (by omega)
  have eq:(pos w w[p]).getD ((j+1) % (pos w w[p]).length) 0=(pos w w[p])[(j+1) % (pos w w[p]).length]:=by rw [List.getD_eq_getElem?_getD,List.getElem?_eq_getElem hk];rfl
  rw [eq] at a
  have hq:=mem_pos.mp (List.getElem_mem hk)
  have rise:=zbo w w[p]
  have mono:∀ {i k:Nat} (hi:i<(pos w w[p]).length) (hk:k<(pos w w[p]).length),i<k→(pos w w[p])[i]<(pos w w[p])[k]:=fun {i k} hi hk l=>(List.pairwise_iff_getElem.mp rise) i k hi hk l
  refine ⟨_,(List.getElem?_eq_some_iff.mp hq).1,a,by rw [hq,hwp],?_⟩
  by_cases hl:j+1<(pos w w[p]).length
  · refine .inl ⟨?_,fun x l1 l2 z=>?_⟩
    · have:=mono hj (show (j+1) % (pos w w[p]).length<(pos w w[p]).length from hk) (by rw [Nat.mod_eq_of_lt hl];omega)
      rw [e] at this
      exact this
    · rw [hwp] at z
      obtain ⟨k,hk',ek⟩:=List.mem_iff_getElem.mp (mem_pos.mpr z)
      have g:∀ i (hi:i<(pos w w[p]).length),i=(j+1) % (pos w w[p]).length→(pos w w[p])[i]=(pos w w[p])[(j+1) % (pos w w[p]).length]:=fun i hi ei=>by subst ei;rfl
      rw [← g (j+1) hl (Nat.mod_eq_of_lt hl).symm] at l2
      rcases Nat.lt_trichotomy k j with t | t | t
      · have:=mono hk' hj t;omega
      · subst t;omega
      · rcases Nat.lt_or_ge (j+1) k with t' | t'
        · have:=mono hl hk' t';omega
        · have:k=j+1:=by omega
          subst this;omega
  · have hz:(j+1) % (pos w w[p]).length=0:=by rw [show j+1=(pos w w[p]).length by omega,Nat.mod_self]
    have g:(pos w w[p])[(j+1) % (pos w w[p]).length]=(pos w w[p])[0]'(by omega):=by
      have:∀ i (hi:i<(pos w w[p]).length),i=0→(pos w w[p])[i]=(pos w w[p])[0]'(by omega):=fun i hi ei=>by subst ei;rfl
      exact this _ hk hz
    rw [g]
    have low:∀ k (hk:k<(pos w w[p]).length),(pos w w[p])[0]'(by omega)≤(pos w w[p])[k]:=fun k hk=>by
      rcases Nat.eq_zero_or_pos k with t | t
      · subst t;exact Nat.le_refl _
      · exact Nat.le_of_lt (mono (by omega) hk t)
    refine .inr ⟨?_,fun x l1 l2 z=>?_,fun x l z=>?_⟩
    · have:=low j hj;omega
    · rw [hwp] at z
      obtain ⟨k,hk',ek⟩:=List.mem_iff_getElem.mp (mem_pos.mpr z)
      rcases Nat.lt_trichotomy k j with t | t | t
      · have:=mono hk' hj t;omega
      · subst t;omega
      · omega
    · rw [hwp] at z
      obtain ⟨k,hk',ek⟩:=List.mem_iff_getElem.mp (mem_pos.mpr z)
      have:=low k hk';omega
theorem zhc {w u:List Nat} (f:Free w) (hu:IsContrary w u) {p c:Nat} (hp:p<w.length) (hc:c<w.length) (h:Nxt u p c):Nxt w c ((p+1) % w.length):=by
  obtain ⟨e,h⟩:=h
  have kpc:=(hu.iff c p hc hp).mp e
  rcases h with ⟨l,no⟩ | ⟨l,hi,lo⟩
  · have s:=kr_lt (by omega) (zcb kpc)
    have out:∀ x,x<w.length→¬ (p<x∧x≤c)→w[x]?≠w[c]?:=fun x hx n=>Ne.symm (s c x hc hx l (Nat.le_refl _) n)
    obtain ⟨m0,n1,n2,n3,n4⟩:=zei (w:=w) (p:=c) c 0 (by omega)
    have hm0:p<m0:=by
      apply Classical.byContradiction
      intro z
      exact out m0 (by omega) (by omega) n3
    have g:=zf1 f (by omega) n2 hc n3 (fun x hx=>n4 x (Nat.zero_le _) hx) fun x l1 l2=>out x l2 (by omega)
    have em:m0=p+1:=by
      apply Classical.byContradiction
      intro z
      have k1:Kr w (m0 - 1) c:=.inl ⟨by omega,g⟩
      exact no (m0 - 1) (by omega) (by omega) ((hu.iff _ p (by omega) hp).mpr (za1 k1 kpc))
    rw [Nat.mod_eq_of_lt (show p+1<w.length by omega)]
    refine ⟨by rw [← em];exact n3,.inr ⟨by omega,fun x l1 l2=>out x l2 (by omega),fun x l1=>out x (by omega) (by omega)⟩⟩
  · rw [hu.len] at hi
    have noHi:∀ x,p<x→x<w.length→¬ Kr w x p:=fun x l1 l2 k=>hi x l1 l2 ((hu.iff x p l2 hp).mpr k)
    have noLo:∀ x,x<c→¬ Kr w x p:=fun x l1 k=>lo x l1 ((hu.iff x p (by omega) hp).mpr k)
    by_cases hn:p+1<w.length
    · rw [Nat.mod_eq_of_lt hn]
      have ex:∃ q0,q0≤p∧w[q0]?=w[p+1]?:=by
        apply Classical.byContradiction
        intro z
        obtain ⟨m,m1,m2,m3,m4⟩:=zby (w:=w) (p:=p+1) (w.length - 1) (by omega)
        have g:=zf1 f (m0:=p+1) (m:=m) (by omega) m1 (by omega) m3.symm (fun x hx q=>z ⟨x,by omega,by rw [q,m3]⟩) fun x l1 l2=>by rw [m3];exact m4 x l1 (by omega)
        exact noHi m (by omega) (by omega) (zcb (.inl ⟨by omega,g⟩))
      obtain ⟨q0,h1,h2⟩:=ex
      obtain ⟨q,a1,a2,a3,a4⟩:=zby (w:=w) (p:=q0) p h1
      have g:=zo5 f (m:=q) (m':=p+1) (by omega) hn (by rw [a3,h2]) fun x l1 l2=>by rw [a3];exact a4 x l1 (by omega)
      have kq:Kr w q p:=.inl ⟨a2,g⟩
      have hcq:c=q:=by
        rcases Nat.lt_trichotomy c q with t | t | t
        · have s:=kr_lt (by omega) (za1 kpc (zcb kq))
          exact absurd (by rw [a3,h2]) (s q (p+1) (by omega) hn t (Nat.le_refl _) (by omega))
        · exact t
        · exact absurd kq (noLo q t)
      subst hcq
      exact ⟨by rw [a3,h2],.inl ⟨by omega,fun x l1 l2=>by rw [a3];exact a4 x l1 (by omega)⟩⟩
    · have ep:p+1=w.length:=by omega
      rw [ep,Nat.mod_self]
      obtain ⟨m,m1,m2,m3,m4⟩:=zby (w:=w) (p:=0) (w.length - 1) (by omega)
      have top:∀ x,m<x→x<w.length→w[x]?≠w[m]?:=fun x l1 l2=>by rw [m3];exact m4 x l1 (by omega)
      have g:=znq f (by omega) m3.symm top
      have km:Kr w m p:=.inl ⟨by omega,by rw [show p=w.length - 1 by omega];exact g⟩
      have hcm:c=m:=by
        rcases Nat.lt_trichotomy c m with t | t | t
        · have s:=kr_lt (by omega) (za1 kpc (zcb km))
          exact absurd m3 (s m 0 (by omega) (by omega) t (Nat.le_refl _) (by omega))
        · exact t
        · exact absurd km (noLo m t)
      subst hcm
      exact ⟨m3.symm,.inr ⟨Nat.zero_le _,top,fun x l1=>absurd l1 (Nat.not_lt_zero x)⟩⟩
theorem zhd {w u o s:List Nat} (f:Free w) (hu:IsContrary w u) (ho:IsOrder (gather w) w.length o) (hs:IsOrder (gather u) w.length s) {p:Nat} (hp:p<w.length):∃ c,s[p]?=some c∧c<w.length∧o[c]?=some ((p+1) % w.length):=by
  obtain ⟨c,c1,c2,c3⟩:=zat (w:=u) (o:=s) (by rw [hu.len];exact hs) (p:=p) (by rw [hu.len];exact hp)
  rw [hu.len] at c1
  obtain ⟨q,q1,q2,q3⟩:=zat ho c1
  have:=zkd q1 (Nat.mod_lt _ (by omega)) q3 (zhc f hu hp c1 c3)
  subst this
  exact ⟨c,c2,c1,q2⟩
end NC
set_option linter.all false
namespace NC
def BackTo (o:List Nat) (i:Nat) (L:List Nat):Prop:=L.length=o.length∧∀ p q:Nat,p<i→o[p]?=some q→L[q]?=some p
theorem zio {o L:List Nat} {i q:Nat} (nd:o.Nodup) (lt:∀ q∈o,q<o.length) (h:BackTo o i L) (hq:o[i]?=some q):BackTo o (i+1) (L.set q i):=by
  refine ⟨by rw [List.length_set];exact h.1,fun p q' hp hq'=>?_⟩
  by_cases e:p=i
  · subst e
    rw [hq] at hq'
    have:=Option.some.inj hq'
    subst this
    rw [List.getElem?_set_self (by rw [h.1];exact lt _ (List.mem_of_getElem? hq))]
  · have hne:q≠q':=fun z=>e (by
      subst z
      obtain ⟨l1,e1⟩:=List.getElem?_eq_some_iff.mp hq
      obtain ⟨l2,e2⟩:=List.getElem?_eq_some_iff.mp hq'
      exact (List.getElem_inj nd).mp (e2.trans e1.symm))
    rw [List.getElem?_set_ne hne]
    exact h.2 p q' (by omega) hq'
theorem zo6 {w:List Nat} {p p' q:Nat} (hp:p<w.length) (hp':p'<w.length) (h:Nxt w p q) (h':Nxt w p' q):p=p':=by
  have key:∀ {p p':Nat},p<w.length→p'<w.length→Nxt w p q→Nxt w p' q→p<p'→False:=by
    intro p p' hp hp' h h' lt
    obtain ⟨e,h⟩:=h
    obtain ⟨e',h'⟩:=h'
    have ee:w[p']?=w[p]?:=e'.symm.trans e
    rcases h with ⟨l,n⟩ | ⟨l,hi,lo⟩
    · rcases h' with ⟨l',n'⟩ | ⟨l',hi',lo'⟩
      · exact n p' lt l' ee
      · exact lo' p l ee.symm
    · exact hi p' lt hp' ee
  rcases Nat.lt_trichotomy p p' with z | z | z
  · exact (key hp hp' h h' z).elim
  · exact z
  · exact (key hp' hp h' h z).elim
theorem ziq {w o:List Nat} (h:IsOrder (gather w) w.length o):o.Nodup∧∀ q∈o,q<o.length:=by
  have hl:o.length=w.length:=h.1
  constructor
  · rw [List.Nodup,List.pairwise_iff_getElem]
    intro i j hi hj hij e
    obtain ⟨q,hq,e1,n1⟩:=zat h (p:=i) (by omega)
    obtain ⟨q',hq',e2,n2⟩:=zat h (p:=j) (by omega)
    rw [List.getElem?_eq_getElem hi] at e1
    rw [List.getElem?_eq_getElem hj,← e] at e2
    have e:=Option.some.inj (e1.symm.trans e2)
    subst e
    have:=zo6 (by omega) (by omega) n1 n2
    omega
  · intro q hq
    obtain ⟨i,hi,e⟩:=List.mem_iff_getElem.mp hq
    obtain ⟨q',hq',e1,n1⟩:=zat h (p:=i) (by omega)
    rw [List.getElem?_eq_getElem hi,e] at e1
    have e1:=Option.some.inj e1
    omega
theorem zgg {b:List Nat} (h:b.Pairwise (·<·)):b.Nodup:=h.imp (fun h=>Nat.ne_of_lt h)
def nextOf (w:List Nat) (p:Nat):Nat:=(pos w (w.getD p 0)).getD (((pos w (w.getD p 0)).idxOf p+1) % (pos w (w.getD p 0)).length) 0
theorem zhe (w:List Nat):∃ o,IsOrder (gather w) w.length o:=by
  refine ⟨(List.range w.length).map (nextOf w),by simp,fun b hb j hj=>?_⟩
  obtain ⟨m,hm,rfl⟩:=mem_gather.mp hb
  have e:(pos w m)[j]?=some (pos w m)[j]:=List.getElem?_eq_getElem hj
  have eg:(pos w m).getD j 0=(pos w m)[j]:=by rw [List.getD_eq_getElem?_getD,e];rfl
  have hw:w[(pos w m)[j]]?=some m:=mem_pos.mp (List.getElem_mem hj)
  have hlt:=(List.getElem?_eq_some_iff.mp hw).1
  have hd:w.getD (pos w m)[j] 0=m:=by rw [List.getD_eq_getElem?_getD,hw];rfl
  have hi:(pos w m).idxOf (pos w m)[j]=j:=(zgg (zbo w m)).idxOf_getElem j hj
  rw [eg,List.getElem?_map,List.getElem?_range hlt]
  simp only [Option.map_some,nextOf,hd,hi]
def rot (w:List Nat):List Nat:=w.drop 1++w.take 1
theorem zjk (w:List Nat):(rot w).length=w.length:=by
  unfold rot
  rw [List.length_append,List.length_drop,List.length_take]
  omega
theorem zo7 {w:List Nat} {p:Nat} (h:p<w.length):(rot w)[p]?=w[(p+1) % w.length]?:=by
  unfold rot
  by_cases e:p+1<w.length
  · rw [List.getElem?_append_left (by rw [List.length_drop];omega),List.getElem?_drop,Nat.mod_eq_of_lt e,Nat.add_comm]
  · have e1:p+1=w.length:=by omega
    rw [List.getElem?_append_right (by rw [List.length_drop];omega),List.length_drop,e1,Nat.mod_self,show p - (w.length - 1)=0 by omega,List.getElem?_take]
    simp
theorem ze5 {w u o b s:List Nat} (f:Free w) (hu:IsContrary w u) (ho:IsOrder (gather w) w.length o) (hs:IsOrder (gather u) w.length s) (hb:BackTo o o.length b):rot b=s:=by
  have lo:o.length=w.length:=ho.1
  have lb:b.length=w.length:=by rw [hb.1,lo]
  have ls:s.length=w.length:=hs.1
  apply List.ext_getElem?
  intro p
  by_cases hp:p<w.length
  · obtain ⟨c,e1,hc,e2⟩:=zhd f hu ho hs hp
    rw [e1,zo7 (by omega),lb]
    exact hb.2 c _ (by omega) e2
  · rw [List.getElem?_eq_none_iff.mpr (by rw [zjk];omega),List.getElem?_eq_none_iff.mpr (by omega)]
def RLab (u:List Nat) (i:Nat) (T:Nat→Nat→Prop) (D:List (Option Nat)):Prop :=
  D.length=u.length∧∀ (j:Nat) (b:List Nat) (m p:Nat),(gather u)[j]?=some b→b[m]?=some p→((b.headD 0<i∨T j m)→D[p]?=some (some (b.headD 0)))∧(¬ (b.headD 0<i∨T j m)→D[p]?=some none)
theorem zke (u:List Nat):RLab u 0 (fun _ _=>False) (List.replicate u.length none):=by
  refine ⟨by simp,fun j b m p hb hp=>⟨fun h=>by simp at h,fun _=>?_⟩⟩
  have:=yr (List.mem_of_getElem? hb) (List.mem_of_getElem? hp)
  rw [List.getElem?_replicate,if_pos this]
theorem zaa {b:List Nat} (h:b≠[]):b[0]?=some (b.headD 0):=by
  cases b with
  | nil=>exact absurd rfl h
  | cons x r=>rfl
theorem znr {u b0:List Nat} {i j0 k p:Nat} {D:List (Option Nat)} (hb0:(gather u)[j0]?=some b0) (hp:b0[k]?=some p) (hd:b0.headD 0=i) (h:RLab u i (fun j m=>j=j0∧m<k) D):RLab u i (fun j m=>j=j0∧m<k+1) (D.set p (some i)):=by
  refine ⟨by rw [List.length_set];exact h.1,fun j b m q hb hq=>?_⟩
  have hlt:p<D.length:=by rw [h.1];exact yr (List.mem_of_getElem? hb0) (List.mem_of_getElem? hp)
  by_cases e:q=p
  · subst e
    obtain ⟨rfl,rfl⟩:=vp hb0 hb hp hq
    rw [hb0] at hb
    have hb:=Option.some.inj hb
    subst hb
    rw [List.getElem?_set_self hlt,hd]
    exact ⟨fun _=>rfl,fun z=>absurd (.inr ⟨rfl,by omega⟩) z⟩
  · rw [List.getElem?_set_ne (Ne.symm e)]
    have g:=h.2 j b m q hb hq
    have iff:(j=j0∧m<k+1)↔(j=j0∧m<k):=by
      constructor
      · rintro ⟨rfl,l⟩
        refine ⟨rfl,?_⟩
        rcases Nat.lt_or_ge m k with l | l
        · exact l
        · have:m=k:=by omega
          subst this
          rw [hb0] at hb
          have hb:=Option.some.inj hb
          subst hb
          rw [hp] at hq
          exact absurd (Option.some.inj hq).symm e
      · rintro ⟨rfl,l⟩;exact ⟨rfl,by omega⟩
    show ((b.headD 0<i∨(j=j0∧m<k+1))→_)∧(¬ (b.headD 0<i∨(j=j0∧m<k+1))→_)
    rw [iff]
    exact g
theorem zlz {u b0:List Nat} {i j0:Nat} {D:List (Option Nat)} (hb0:(gather u)[j0]?=some b0) (hd:b0.headD 0=i) (h:RLab u i (fun j m=>j=j0∧m<b0.length) D):RLab u (i+1) (fun _ _=>False) D:=by
  refine ⟨h.1,fun j b m q hb hq=>?_⟩
  have g:=h.2 j b m q hb hq
  have iff:(b.headD 0<i+1∨False)↔(b.headD 0<i∨(j=j0∧m<b0.length)):=by
    constructor
    · rintro (l | l)
      · rcases Nat.lt_or_ge (b.headD 0) i with l' | l'
        · exact .inl l'
        · have e:b.headD 0=i:=by omega
          have h1:=zaa (xt (List.mem_of_getElem? hb))
          have h2:=zaa (xt (List.mem_of_getElem? hb0))
          rw [e] at h1
          rw [hd] at h2
          obtain ⟨rfl,_⟩:=vp hb hb0 h1 h2
          rw [hb0] at hb
          have hb:=Option.some.inj hb
          subst hb
          exact .inr ⟨rfl,(List.getElem?_eq_some_iff.mp hq).1⟩
      · exact l.elim
    · rintro (l | ⟨rfl,l⟩)
      · exact .inl (by omega)
      · rw [hb0] at hb
        have hb:=Option.some.inj hb
        subst hb
        exact .inl (by omega)
  rw [iff]
  exact g
theorem zl0 {u b0:List Nat} {i j0 k:Nat} {D:List (Option Nat)} (hb0:(gather u)[j0]?=some b0) (hk:b0[k]?=some i) (hd:b0.headD 0<i) (h:RLab u i (fun _ _=>False) D):RLab u (i+1) (fun _ _=>False) D:=by
  refine ⟨h.1,fun j b m q hb hq=>?_⟩
  have g:=h.2 j b m q hb hq
  have iff:(b.headD 0<i+1∨False)↔(b.headD 0<i∨False):=by
    constructor
    · rintro (l | l)
      · rcases Nat.lt_or_ge (b.headD 0) i with l' | l'
        · exact .inl l'
        · have e:b.headD 0=i:=by omega
          have h1:=zaa (xt (List.mem_of_getElem? hb))
          rw [e] at h1
          obtain ⟨rfl,_⟩:=vp hb hb0 h1 hk
          rw [hb0] at hb
          have hb:=Option.some.inj hb
          subst hb
          omega
      · exact l.elim
    · rintro (l | l)
      · exact .inl (by omega)
      · exact l.elim
  rw [iff]
  exact g
theorem zl1 {u:List Nat} {i j0:Nat} {D:List (Option Nat)} (h:RLab u i (fun _ _=>False) D):RLab u i (fun j m=>j=j0∧m<0) D:=by
  refine ⟨h.1,fun j b m q hb hq=>?_⟩
  have g:=h.2 j b m q hb hq
  have iff:(b.headD 0<i∨(j=j0∧m<0))↔(b.headD 0<i∨False):=by
    constructor
    · rintro (l | ⟨_,l⟩)
      · exact .inl l
      · omega
    · rintro (l | l)
      · exact .inl l
      · exact l.elim
  rw [iff]
  exact g
theorem zjl {u b:List Nat} {j m p:Nat} (hb:(gather u)[j]?=some b) (hp:b[m]?=some p):b.headD 0≤p:=by
  have r:=zdj (List.mem_of_getElem? hb)
  cases b with
  | nil=>simp at hp
  | cons x t =>
    cases m with
    | zero=>simp at hp;simp [hp]
    | succ m =>
      have hm:p∈t:=List.mem_of_getElem? (by simpa using hp)
      exact Nat.le_of_lt ((List.pairwise_cons.mp r).1 p hm)
theorem zns {u:List Nat} {D:List (Option Nat)} (h:RLab u u.length (fun _ _=>False) D):∃ L:List Nat,D=L.map some∧L.length=u.length∧Below L u∧Below u L:=by
  have all:∀ p,p<u.length→∃ (j:Nat) (b:List Nat),(gather u)[j]?=some b∧p∈b∧D[p]?=some (some (b.headD 0)):=by
    intro p hp
    obtain ⟨j,b,hb,hm⟩:=zd1 hp
    obtain ⟨m,hm',e⟩:=List.mem_iff_getElem.mp hm
    have e':b[m]?=some p:=by rw [List.getElem?_eq_getElem hm',e]
    have h1:=zjl hb e'
    exact ⟨j,b,hb,hm,(h.2 j b m p hb e').1 (.inl (by omega))⟩
  have eD:D=(D.map fun o=>o.getD 0).map some:=by
    apply List.ext_getElem?
    intro p
    rw [List.getElem?_map,List.getElem?_map]
    by_cases hp:p<u.length
    · obtain ⟨j,b,_,_,e⟩:=all p hp
      rw [e];rfl
    · rw [List.getElem?_eq_none_iff.mpr (by rw [h.1];omega)];rfl
  have key:∀ i j:Nat,i<u.length→j<u.length→((D.map fun o=>o.getD 0)[i]?=(D.map fun o=>o.getD 0)[j]?↔u[i]?=u[j]?):=by
    intro i j hi hj
    obtain ⟨x,b,hb,hm,e⟩:=all i hi
    obtain ⟨y,c,hc,hn,e'⟩:=all j hj
    rw [List.getElem?_map,List.getElem?_map,e,e',← yq hi hj,zb3 hb hm,zb3 hc hn]
    simp only [Option.map_some,Option.getD_some,Option.some.injEq]
    constructor
    · intro z
      have h1:=zaa (xt (List.mem_of_getElem? hb))
      have h2:=zaa (xt (List.mem_of_getElem? hc))
      rw [z] at h1
      exact (vp hb hc h1 h2).1
    · rintro rfl
      rw [hb] at hc
      rw [Option.some.inj hc]
  have lD:(D.map fun o=>o.getD 0).length=u.length:=by rw [List.length_map];exact h.1
  exact ⟨_,eD,lD,⟨lD,fun i j hi hj e=>(key i j (by omega) (by omega)).mp e⟩,⟨lD.symm,fun i j hi hj e=>(key i j hi hj).mpr e⟩⟩
end NC
set_option linter.all false
set_option maxRecDepth 100000
namespace NC
def En:Nat→Nat→Nat
  | 0,_=>1
  | r+1,o=>((List.range (o+1)).map fun i=>En r (i+1)).sum
def endRow (n r:Nat):List Nat:=(List.range (n+1 - r)).map (En r)
def endRows (n:Nat):List (List Nat):=(List.range (n+1)).map (endRow n)
theorem zbk (n r:Nat):(endRow n r).length=n+1 - r:=by simp [endRow]
theorem zdp (n:Nat):(endRows n).length=n+1:=by simp [endRows]
theorem zkf {n r o:Nat} (h:o<n+1 - r):(endRow n r)[o]?=some (En r o):=by simp [endRow,h]
theorem za8 {n r:Nat} (h:r<n+1):(endRows n)[r]?=some (endRow n r):=by simp [endRows,h]
theorem zo8 {α:Type} (f:Nat→α) (m c:Nat) (h:c+1≤m):(((List.range m).map f).drop 1).take c=(List.range c).map fun i=>f (i+1):=by
  apply List.ext_getElem?
  intro i
  rw [List.getElem?_take]
  by_cases hi:i<c
  · rw [if_pos hi,List.getElem?_drop,List.getElem?_map,List.getElem?_map,List.getElem?_range (by omega),List.getElem?_range hi,Nat.add_comm]
    rfl
  · rw [if_neg hi,List.getElem?_eq_none_iff.mpr (by simpa using hi)]
theorem zo9 {n r c:Nat} (h:c+1≤n+1 - r):((endRow n r).drop 1).take c=(List.range c).map fun i=>En r (i+1):=zo8 (En r) _ c h
theorem zpa {n r o:Nat} (h:o+2≤n+1 - r):(((endRow n r).drop 1).take (o+1)).sum=En (r+1) o:=by
  rw [zo9 (by omega)]
  rfl
theorem row0 (n:Nat):endRow n 0=List.replicate (n+1) 1:=by
  apply List.ext_getElem?
  intro i
  by_cases h:i<n+1
  · rw [zkf (by omega),List.getElem?_replicate,if_pos h]
    rfl
  · rw [List.getElem?_eq_none_iff.mpr (by rw [zbk];omega),List.getElem?_eq_none_iff.mpr (by simpa using h)]
theorem zhf {n i:Nat} (h:i+1<n+1):(endRows n).take (i+1)++[endRow n (i+1)]=(endRows n).take (i+2):=by
  rw [List.take_succ (i:=i+1),za8 h]
  rfl
def chs (n:Nat):Nat→Nat
  | 0=>1
  | k+1=>chs n k * (n - k) / (k+1)
theorem zqc:∀ n k:Nat,n≤10→k≤10→chs n k≤1000:=by
  have h:∀ n:Fin 11,∀ k:Fin 11,chs n.1 k.1≤1000:=by decide +kernel
  intro n k hn hk
  exact h ⟨n,by omega⟩ ⟨k,by omega⟩
theorem znt (l:List Nat):((l.map fun (x:Nat)=>(x:Int))).sum=((l.sum:Nat):Int):=by
  induction l with
  | nil=>rfl
  | cons a l ih=>rw [List.map_cons,List.sum_cons,List.sum_cons,ih];omega
end NC
set_option linter.all false
set_option maxRecDepth 100000
namespace NC
def cnt (l:List Nat) (x:Nat):Nat:=(l.filter fun y=>decide (y<x)).length
def nst (n k:Nat) (s:List Nat × Nat) (x:Nat):List Nat × Nat:=(s.1.take (cnt s.1 x)++[x],s.2+(((endRow n (n - k - 1)).drop 1).take (cnt s.1 x)).sum)
def nrun (n:Nat):Nat→List Nat × Nat→List Nat→List Nat × Nat
  | _,s,[]=>s
  | k,s,x::w=>nrun n (k+1) (nst n k s x) w
def numOf (w:List Nat):Nat:=(nrun w.length 0 ([],0) (canon w)).2
theorem zqd (l:List Nat) (x:Nat):cnt l x≤l.length:=List.length_filter_le _ _
end NC
set_option linter.all false
set_option maxRecDepth 100000
namespace NC
abbrev dg (p:Nat):Nat:=48+p
def tl:List (List Nat)→List Nat
  | []=>[]
  | [b]=>b.map dg
  | b::c::r=>b.map dg++124::tl (c::r)
def jn:List (List Nat)→List Nat
  | []=>[]
  | [p]=>p
  | p::q::r=>p++124::jn (q::r)
theorem tl_jn:∀ bs:List (List Nat),tl bs=jn (bs.map fun b=>b.map dg)
  | []=>rfl
  | [b]=>rfl
  | b::c::r=>by
    show b.map dg++124::tl (c::r)=b.map dg++124::jn ((c::r).map fun b=>b.map dg)
    rw [tl_jn (c::r)]
end NC
set_option linter.all false
set_option maxRecDepth 100000
namespace NC
def tw (k:Nat):Nat:=k ^ (k - 2)
def stp (s:Nat × Nat) (l:Nat):Nat × Nat:=(s.1 * chs (s.2+(l - 1)) (l - 1) * tw l,s.2+(l - 1))
def wup (ls:List Nat):Nat:=(ls.foldl stp (1,0)).1
def stepsOf:List Nat→Nat
  | []=>0
  | l::ls=>(l - 1)+stepsOf ls
end NC
set_option linter.all false
set_option maxRecDepth 100000
namespace NC
theorem znu {a b:List Nat} (ha:a.Pairwise (·<·)) (hb:b.Pairwise (·<·)) (h:∀ x,x∈a↔x∈b):a=b:=by
  have na:a.Nodup:=ha.imp (fun h=>Nat.ne_of_lt h)
  have nb:b.Nodup:=hb.imp (fun h=>Nat.ne_of_lt h)
  exact List.Perm.eq_of_pairwise (fun x y _ _ h1 h2=>absurd h1 (Nat.lt_asymm h2)) ha hb ((List.perm_ext_iff_of_nodup na nb).mpr h)
theorem zgh {α:Type} [DecidableEq α] {u:List α} {M:List (List Nat)} (hp:M.Perm (gather u)) (hs:(M.map fun b=>b.headD 0).Pairwise (·≤·)):M=gather u:=by
  have hf:=zbf u
  have h1:M.Pairwise (fun a b=>a.headD 0≤b.headD 0):=by rw [List.pairwise_map] at hs;exact hs
  have h2:(gather u).Pairwise (fun a b=>a.headD 0≤b.headD 0):=by
    rw [List.pairwise_map] at hf
    exact hf.imp fun h=>Nat.le_of_lt h
  refine List.Perm.eq_of_pairwise (fun a b ha hb z1 z2=>?_) h1 h2 hp
  have ha':=hp.mem_iff.mp ha
  obtain ⟨i,hi⟩:=List.mem_iff_getElem?.mp ha'
  obtain ⟨j,hj⟩:=List.mem_iff_getElem?.mp hb
  have e:(gather u)[i]?=(gather u)[j]?:=by
    obtain ⟨hi',e1⟩:=List.getElem?_eq_some_iff.mp hi
    obtain ⟨hj',e2⟩:=List.getElem?_eq_some_iff.mp hj
    rw [List.pairwise_iff_getElem] at hf
    rcases Nat.lt_trichotomy i j with k | k | k
    · have:=hf i j (by simpa using hi') (by simpa using hj') k
      simp only [List.getElem_map,e1,e2] at this
      omega
    · rw [k]
    · have:=hf j i (by simpa using hj') (by simpa using hi') k
      simp only [List.getElem_map,e1,e2] at this
      omega
  rw [hi,hj] at e
  exact Option.some.inj e
end NC
set_option linter.all false
set_option maxRecDepth 100000
namespace NC
theorem zd5:∀ {cs:List (List Nat)},cs.flatten.Nodup→∀ {i j:Nat} {b c:List Nat} {x:Nat},cs[i]?=some b→cs[j]?=some c→x∈b→x∈c→i=j
  | [],_,i,j,b,c,x,hi,_,_,_=>by simp at hi
  | b0::r,nd,i,j,b,c,x,hi,hj,hb,hc=>by
    rw [List.flatten_cons,List.nodup_append] at nd
    obtain ⟨_,ndr,dj⟩:=nd
    match i,j,hi,hj with
    | 0,0,_,_=>rfl
    | 0,j+1,hi,hj =>
      simp at hi hj
      subst hi
      exact absurd rfl (dj x hb x (List.mem_flatten.mpr ⟨c,List.mem_of_getElem? hj,hc⟩))
    | i+1,0,hi,hj =>
      simp at hi hj
      subst hj
      exact absurd rfl (dj x hc x (List.mem_flatten.mpr ⟨b,List.mem_of_getElem? hi,hb⟩))
    | i+1,j+1,hi,hj =>
      simp at hi hj
      rw [zd5 ndr hi hj hb hc]
theorem zdq {cs:List (List Nat)} (h:(cs.map fun b=>b.headD 0).Pairwise (·<·)):cs.Nodup:=by
  rw [List.pairwise_map] at h
  rw [List.nodup_iff_pairwise_ne]
  exact h.imp fun {a b} z e=>by rw [e] at z;omega
theorem zir {cs:List (List Nat)} {m:Nat} (ne:∀ b∈cs,b≠[]) (rise:∀ b∈cs,b.Pairwise (·<·)) (firsts:(cs.map fun b=>b.headD 0).Pairwise (·<·)) (perm:cs.flatten.Perm (List.range m)) :
    ∃ w:List Nat,w.length=m∧cs=gather w:=by
  have nd:cs.flatten.Nodup:=perm.nodup_iff.mpr List.nodup_range
  let f:Nat→Nat:=fun q=>cs.findIdx fun b=>decide (q∈b)
  let w:List Nat:=(List.range m).map f
  have wget:∀ x j,w[x]?=some j↔x<m∧f x=j:=fun x j=>by
    show ((List.range m).map f)[x]?=some j↔_
    rw [List.getElem?_map]
    by_cases h:x<m
    · rw [List.getElem?_range h];simp [h]
    · rw [List.getElem?_eq_none (by simpa using h)];simp [h]
  have own:∀ x,x<m→∃ b,cs[f x]?=some b∧x∈b:=fun x hx=>by
    have h1:x∈cs.flatten:=perm.mem_iff.mpr (List.mem_range.mpr hx)
    obtain ⟨c,hc,hxc⟩:=List.mem_flatten.mp h1
    have h2:f x<cs.length:=List.findIdx_lt_length_of_exists ⟨c,hc,by simpa using hxc⟩
    refine ⟨cs[f x],List.getElem?_eq_getElem h2,?_⟩
    have:=List.findIdx_getElem (xs:=cs) (p:=fun b=>decide (x∈b)) (w:=h2)
    simpa using this
  have lt:∀ b∈cs,∀ x∈b,x<m:=fun b hb x hx=>List.mem_range.mp (perm.mem_iff.mp (List.mem_flatten.mpr ⟨b,hb,hx⟩))
  have hpos:∀ j b,cs[j]?=some b→pos w j=b:=fun j b hb=>by
    have hm:=List.mem_of_getElem? hb
    refine znu (zbo w j) (rise b hm) fun x=>?_
    rw [mem_pos,wget]
    constructor
    · rintro ⟨hx,e⟩
      obtain ⟨c,hc,hxc⟩:=own x hx
      rw [e,hb] at hc
      cases hc
      exact hxc
    · intro hx
      have hl:=lt b hm x hx
      obtain ⟨c,hc,hxc⟩:=own x hl
      exact ⟨hl,zd5 nd hc hb hxc hx⟩
  refine ⟨w,by show ((List.range m).map f).length=m;simp,zgh ?_ (firsts.imp fun {a b} z=>Nat.le_of_lt z)⟩
  rw [List.perm_ext_iff_of_nodup (zdq firsts) (zdq (zbf w))]
  intro b
  rw [mem_gather]
  constructor
  · intro hb
    obtain ⟨j,hj⟩:=List.mem_iff_getElem?.mp hb
    cases hbb:b with
    | nil=>exact absurd hbb (ne b hb)
    | cons x r =>
      have hx:x∈b:=by rw [hbb];simp
      have hl:=lt b hb x hx
      obtain ⟨c,hc,hxc⟩:=own x hl
      have e:=zd5 nd hc hj hxc hx
      refine ⟨j,List.mem_of_getElem? ((wget x j).mpr ⟨hl,e⟩),?_⟩
      rw [hpos j b hj,hbb]
  · rintro ⟨j,hj,rfl⟩
    obtain ⟨x,hx⟩:=List.mem_iff_getElem?.mp hj
    obtain ⟨hl,e⟩:=(wget x j).mp hx
    obtain ⟨c,hc,_⟩:=own x hl
    rw [e] at hc
    rw [hpos j c hc]
    exact List.mem_of_getElem? hc
theorem zhg {n:Int} {bs:List (List Int)} (h:Parting n bs):∃ w:List Nat,w.length≤10∧n=(w.length:Int)∧bs=zb (gather w):=by
  obtain ⟨m,rfl⟩:∃ m:Nat,n=(m:Int):=⟨n.toNat,by have:=h.lo;omega⟩
  have hi:=h.hi
  have hp:=h.perm
  rw [Int.toNat_natCast] at hp
  have nat:∀ b∈bs,∀ x∈b,(x.toNat:Int)=x:=fun b hb x hx=>by
    obtain ⟨k,_,e⟩:=List.mem_map.mp (hp.mem_iff.mp (List.mem_flatten.mpr ⟨b,hb,hx⟩))
    rw [← e];rfl
  let cs:List (List Nat):=bs.map fun b=>b.map Int.toNat
  have ebs:bs=zb cs:=by
    show bs=(bs.map fun b=>b.map Int.toNat).map zl
    rw [List.map_map]
    conv=>lhs;rw [← List.map_id bs]
    refine List.map_congr_left fun b hb=>?_
    show b=(b.map Int.toNat).map fun (k:Nat)=>(k:Int)
    rw [List.map_map]
    conv=>lhs;rw [← List.map_id b]
    exact List.map_congr_left fun x hx=>(nat b hb x hx).symm
  have hin:∀ c∈cs,zl c∈bs:=fun c hc=>by rw [ebs];exact List.mem_map.mpr ⟨c,hc,rfl⟩
  obtain ⟨w,hw,e⟩:=zir (cs:=cs) (m:=m) (fun c hc z=>h.ne _ (hin c hc) (by rw [z];rfl)) (fun c hc=>by
      have:=h.rise _ (hin c hc)
      rw [zl,List.pairwise_map] at this
      exact this.imp fun {a b} z=>by omega) (by
      have:=h.firsts
      have e1:bs.map (fun b=>b.headD 0)=zl (cs.map fun b=>b.headD 0):=by
        rw [ebs]
        simp only [zb,zl,List.map_map]
        exact List.map_congr_left fun b _=>by cases b <;> simp
      rw [e1,zl,List.pairwise_map] at this
      exact this.imp fun {a b} z=>by omega) (by
      have e2:cs.flatten=bs.flatten.map Int.toNat:=by
        show (bs.map fun b=>b.map Int.toNat).flatten=_
        rw [List.map_flatten]
      rw [e2]
      have:=hp.map Int.toNat
      rw [List.map_map] at this
      have e3:(List.range m).map (Int.toNat ∘ fun (k:Nat)=>(k:Int))=List.range m:=by
        conv=>rhs;rw [← List.map_id (List.range m)]
        exact List.map_congr_left fun x _=>by simp
      rw [e3] at this
      exact this)
  exact ⟨w,by omega,by rw [hw],by rw [ebs,e]⟩
end NC
set_option Elab.async false
set_option linter.all false
set_option maxRecDepth 100000
set_option maxHeartbeats 4000000
namespace L2
open PySem PySem.Spec PyProof.Rows
section
variable {X:Cx} {pins:List (Addr × Obj)} {σ:List (Option V)} {H:Hp} {s:Shared} {h':Heap}
theorem Inv.laidCh {a:Addr} {o:HO} {t':Nat} {ch:List Addr} (I:Inv X pins σ H s) (hch:∀ b∈ch,FpOk X pins H b)
    (k:∀ b u,b ∉ ch→s.heap.get? b=some u→h'.get? b=some u) (hp:s.heap.objs.size≤a) (new:ObjOk X.prog X.w (upd H a o) h' a o) :
    Inv X pins σ (upd H a o) {s with heap:=h',toks:=t'}:=by
  have hn:H a=none:=I.hok.fresh hp
  refine I.step (g':=s.gens) (d':=s.drawn) (ch:=ch) (fun b hb=>?_) (fun b u _ _ hc e _=>k b u hc e) (fun b u _ _ hc e _=>⟨u.slots,k b u hc e⟩) (fun b u hc e n=>?_)
    (fun b u hc e=>⟨u,k b u hc e⟩) (fun b xs e=>?_) (fun b u v e=>?_) (fun b ps e=>?_) (fun m hm=>?_) ?_ I.bare
  · obtain ⟨f0,f1,f2,f3,f4,f5⟩:=hch b hb
    exact ⟨f3,f1,f4,f5⟩
  · rw [zi (Nat.ne_of_lt (Nat.lt_of_lt_of_le (Heap.lt_size e) hp))];exact n
  · rw [zi (zn e hn)];exact e
  · rw [zi (zn e hn)];exact e
  · exact ⟨#[],by rw [zi (zn e hn),e];simp⟩
  · obtain ⟨ob,es,ep,ho,r⟩:=hm
    exact ⟨ob,es,ep,k _ _ (fun z=>(hch _ z).2.1 rfl) ho,r⟩
  · intro b u e
    by_cases hb:b=a
    · subst hb;rw [ze] at e;cases e;exact new
    · rw [zi hb] at e
      refine (I.hok b u e).stay (fun c v hc q=>k c v ?_ q) (fun c q=>by rw [zi (zn q hn)];exact q) fun c xs q=>by rw [zi (zn q hn)];exact q
      intro z
      have hz:=(hch c z).1
      rcases hc with rfl | hc
      · rw [hz] at e;cases e
      · rw [hz] at hc;cases hc
theorem Inv.turnedCh {t':Nat} {ch:List Addr} (I:Inv X pins σ H s) (hch:∀ b∈ch,FpOk X pins H b)
    (k:∀ b u,b ∉ ch→s.heap.get? b=some u→h'.get? b=some u):Inv X pins σ H {s with heap:=h',toks:=t'}:=by
  refine I.step (g':=s.gens) (d':=s.drawn) (ch:=ch) (fun b hb=>?_) (fun b u _ _ hc e _=>k b u hc e) (fun b u _ _ hc e _=>⟨u.slots,k b u hc e⟩) (fun b u hc e n=>n)
    (fun b u hc e=>⟨u,k b u hc e⟩) (fun b xs e=>e) (fun b u v e=>e) (fun b ps e=>⟨#[],by rw [e];simp⟩) (fun m hm=>?_) ?_ I.bare
  · obtain ⟨f0,f1,f2,f3,f4,f5⟩:=hch b hb
    exact ⟨f3,f1,f4,f5⟩
  · obtain ⟨ob,es,ep,ho,r⟩:=hm
    exact ⟨ob,es,ep,k _ _ (fun z=>(hch _ z).2.1 rfl) ho,r⟩
  · intro b u e
    refine (I.hok b u e).stay (fun c v hc q=>k c v ?_ q) (fun c q=>q) fun c xs q=>q
    intro z
    have hz:=(hch c z).1
    rcases hc with rfl | hc
    · rw [hz] at e;cases e
    · rw [hz] at hc;cases hc
theorem zck {P:Program} {w:World} {h:Heap} {a:Addr} {x y:V} {u v:Value} (rx:RelV x u) (ry:RelV y v) (e:h.get? a=some {cls:=.type "tuple",data:=.seq #[u,v]}):ObjOk P w H h a (.tup [x,y]):=by
  refine ⟨by show 2≤sizeLine;decide,[u,v],.cons rx (.cons ry .nil),_,e,rfl,_,rfl⟩
end
def Ite (K:PySem.W.Frag) (a:Addr):It :=
  ⟨fun i H=>∃ xs x,SqL K H a xs∧xs[i]?=some x,fun i H v H'=>∃ t x,v=.ref t∧H t=none∧H'=upd H t (.tup [.int i,x])∧∀ xs,SqL K H a xs→xs[i]?=some x,fun i H=>∃ xs,SqL K H a xs∧xs.length≤i⟩
theorem zl2 {P:Program} {w:World} {K:PySem.W.Frag} {elts:List Expr} {k:Nat} {tpos:Pos} (a e it:Addr) (hne:e≠it) :
    Turn P w K (.Tuple elts k tpos) (Ite K a) [e,it] e (fun i h=>(∃ old,IsEnum h e it i old)∧h.IsListIter it a i) where
  mem:=by simp
  obj:=fun i h st b hb=>by
    obtain ⟨⟨old,he⟩,o,ho,c,d⟩:=st
    rcases List.mem_cons.mp hb with rfl | hb
    · exact ⟨_,he,fun v z=>by cases z⟩
    · rw [List.mem_singleton.mp hb]
      exact ⟨o,ho,fun v z=>by rw [d] at z;cases z⟩
  keep:=fun i h h' st k=>by
    obtain ⟨⟨old,he⟩,hit⟩:=st
    exact ⟨⟨old,k e (by simp) _ he⟩,hit.at fun o q=>k it (by simp) o q⟩
  item:=by
    intro X hP hw hK hc i pins s σ H E I hf st hg
    subst hP hw hK
    obtain ⟨⟨old,he⟩,hit⟩:=st
    obtain ⟨xs,x,hq,hx⟩:=hg
    obtain ⟨its,rv,p,hz⟩:=I.list hq
    obtain ⟨u,hu,ru⟩:=rv.get hx
    have heH:e<s.heap.objs.size:=Heap.lt_size he
    refine wpAny_pyNext_enum_item he hit p.isList (x:=u) (by simpa using hu) hne fun h1 heo hit1 ht1 hz1 hk1=>?_
    refine ⟨_,rfl,wpAny_letOwnedTupleGo_enum heo fun h2 he2 hs2=>?_⟩
    replace hs2:Heap.SameBut e h1 h2:=hs2
    have kk:∀ b o,b ∉ [e,it]→s.heap.get? b=some o→h2.get? b=some o:=fun b o hb q=>by
      have hb1:b≠e:=fun z=>hb (by simp [z])
      have hb2:b≠it:=fun z=>hb (by simp [z])
      exact (hs2.2 b hb1).trans (hk1 b o hb1 hb2 q)
    have new:h2.get? s.heap.objs.size=some {cls:=.type "tuple",data:=.seq #[.int i s.toks,u]}:=(hs2.2 _ (Nat.ne_of_gt heH)).trans ht1
    have I1:=I.laidCh (h':=h2) (a:=s.heap.objs.size) (o:=.tup [.int i,x]) (t':=s.toks+1) hf kk (Nat.le_refl _) (zck ⟨_,rfl⟩ ru new)
    refine ⟨.ref s.heap.objs.size,_,I1,rfl,⟨_,x,rfl,I.hok.fresh (Nat.le_refl _),rfl,fun ys hy=>by rw [I.list_inj hy hq];exact hx⟩,⟨⟨u,by simpa using he2⟩,hit1.at fun o q=>(hs2.2 it (Ne.symm hne)).trans q⟩,fun b hb=>?_⟩
    have hb0:b<s.heap.objs.size:=by
      rcases List.mem_cons.mp hb with z | z
      · rw [z];exact heH
      · rw [List.mem_singleton.mp z];obtain ⟨o,ho,_⟩:=hit;exact Heap.lt_size ho
    rw [zi (Nat.ne_of_lt hb0)]
    exact (hf b hb).1
  done:=by
    intro X hP hw hK hc i pins s σ H E I hf st hg
    subst hP hw hK
    obtain ⟨⟨old,he⟩,hit⟩:=st
    obtain ⟨xs,hq,hx⟩:=hg
    obtain ⟨its,rv,p,hz⟩:=I.list hq
    have hl:=rv.length
    exact wpAny_pyNext_enum_end (I.ok.hd hc) he hit p.isList (by simp;omega) fun h' eb=>⟨rfl,I.turnedCh (t':=s.toks) hf fun b o hb q=>eb b o (fun z=>hb (by simp [z])) q⟩
  self:=fun _ _ _ _ _ st h=>by
    obtain ⟨⟨old,he⟩,_⟩:=st
    exact wpAny_pyIter_enum he h
def Itz (K:PySem.W.Frag) (a b:Addr):It :=
  ⟨fun i H=>∃ xs ys x y,SqL K H a xs∧SqL K H b ys∧xs[i]?=some x∧ys[i]?=some y,fun i H v H'=>∃ t x y,v=.ref t∧H t=none∧H'=upd H t (.tup [x,y])∧∀ xs ys,SqL K H a xs→SqL K H b ys→xs[i]?=some x∧ys[i]?=some y,
    fun i H=>∃ xs ys,SqL K H a xs∧SqL K H b ys∧(xs.length≤i∨ys.length≤i)⟩
structure ZA (z TI TO i1 i2:Addr):Prop where
  TIz:TI≠z
  TOz:TO≠z
  i1z:i1≠z
  i2z:i2≠z
  TITO:TI≠TO
  TIi1:TI≠i1
  TIi2:TI≠i2
  TOi1:TO≠i1
  TOi2:TO≠i2
  i12:i1≠i2
theorem zl3 (n:Nat):ZA (n+4) (n+2) (n+3) n (n+1):=⟨(show (n+2:Nat)≠n+4 by omega),(show (n+3:Nat)≠n+4 by omega),(show (n:Nat)≠n+4 by omega),(show (n+1:Nat)≠n+4 by omega),(show (n+2:Nat)≠n+3 by omega),(show (n+2:Nat)≠n by omega),(show (n+2:Nat)≠n+1 by omega),(show (n+3:Nat)≠n by omega),(show (n+3:Nat)≠n+1 by omega),(show (n:Nat)≠n+1 by omega)⟩
def ZipSt (z TI TO i1 i2 a b:Addr) (i:Nat) (h:Heap):Prop :=
  IsZip h z TI TO .none∧IsPair h TI (.ref i1) (.ref i2)∧(∃ u v,IsPair h TO u v)∧h.IsListIter i1 a i∧h.IsListIter i2 b i
theorem zb4 {h:Heap} {z TI TO i1 i2 a b:Addr} {i:Nat} {its its2:Array Value} (D:ZA z TI TO i1 i2) (st:ZipSt z TI TO i1 i2 a b i h) (p:PlainL h a its) (q:PlainL h b its2):ZipApart z TI TO i1 i2 a b:=by
  obtain ⟨hz,hTI,⟨u,v,hTO⟩,⟨o1,ho1,c1,_⟩,⟨o2,ho2,c2,_⟩⟩:=st
  obtain ⟨oa,na,ea,ca,_⟩:=p
  obtain ⟨ob,nb,eb,cb,_⟩:=q
  refine ⟨D.TIz,D.TOz,D.i1z,D.i2z,D.TITO,D.TIi1,D.TIi2,D.TOi1,D.TOi2,D.i12,?_,?_,?_,?_,?_,?_,?_,?_⟩
  · rintro rfl;rw [hz] at ea;cases ea;simp at ca
  · rintro rfl;rw [hTO] at ea;cases ea;simp at ca
  · rintro rfl;rw [ho1] at ea;cases ea;rw [c1] at ca;simp at ca
  · rintro rfl;rw [ho2] at ea;cases ea;rw [c2] at ca;simp at ca
  · rintro rfl;rw [hz] at eb;cases eb;simp at cb
  · rintro rfl;rw [hTO] at eb;cases eb;simp at cb
  · rintro rfl;rw [ho1] at eb;cases eb;rw [c1] at cb;simp at cb
  · rintro rfl;rw [ho2] at eb;cases eb;rw [c2] at cb;simp at cb
theorem znv {P:Program} {w:World} {K:PySem.W.Frag} {elts:List Expr} {k:Nat} {tpos:Pos} (a b z TI TO i1 i2:Addr) (D:ZA z TI TO i1 i2) :
    Turn P w K (.Tuple elts k tpos) (Itz K a b) [z,TI,TO,i1,i2] z (ZipSt z TI TO i1 i2 a b) where
  mem:=by simp
  obj:=fun i h st c hc=>by
    obtain ⟨hz,hTI,⟨u,v,hTO⟩,⟨o1,ho1,c1,d1⟩,⟨o2,ho2,c2,d2⟩⟩:=st
    simp at hc
    rcases hc with rfl | rfl | rfl | rfl | rfl
    · exact ⟨_,hz,fun v z=>by cases z⟩
    · exact ⟨_,hTI,fun v z=>by cases z⟩
    · exact ⟨_,hTO,fun v z=>by cases z⟩
    · exact ⟨_,ho1,fun v z=>by rw [d1] at z;cases z⟩
    · exact ⟨_,ho2,fun v z=>by rw [d2] at z;cases z⟩
  keep:=fun i h h' st k=>by
    obtain ⟨hz,hTI,⟨u,v,hTO⟩,h1,h2⟩:=st
    exact ⟨k z (by simp) _ hz,k TI (by simp) _ hTI,⟨u,v,k TO (by simp) _ hTO⟩,h1.at fun o q=>k i1 (by simp) o q,h2.at fun o q=>k i2 (by simp) o q⟩
  item:=by
    intro X hP hw hK hc i pins s σ H E I hf st hg
    subst hP hw hK
    obtain ⟨xs,ys,x,y,hqa,hqb,hx,hy⟩:=hg
    obtain ⟨its,rv,p,hz⟩:=I.list hqa
    obtain ⟨its2,rv2,p2,hz2⟩:=I.list hqb
    obtain ⟨u,hu,ru⟩:=rv.get hx
    obtain ⟨v,hv,rw'⟩:=rv2.get hy
    have ZD:=zb4 D st p p2
    obtain ⟨hzz,hTI,⟨u0,v0,hTO⟩,h1,h2⟩:=id st
    have hlz:z<s.heap.objs.size:=Heap.lt_size hzz
    refine wpAny_pyNext_zip_item ZD hzz hTI hTO h1 h2 p.isList p2.isList (x:=u) (y:=v) (by simpa using hu) (by simpa using hv) fun h3 a1 a2 a3 a4 a5 a6 hk=>?_
    refine ⟨_,rfl,wpAny_letOwnedTupleGo_zip a1 fun h4 hz4 hs4=>?_⟩
    replace hs4:Heap.SameBut z h3 h4:=hs4
    have kk:∀ c o,c ∉ [z,TI,TO,i1,i2]→s.heap.get? c=some o→h4.get? c=some o:=fun c o hb q=>by
      have e1:c≠z:=fun e=>hb (by simp [e])
      have e2:c≠TO:=fun e=>hb (by simp [e])
      have e3:c≠i1:=fun e=>hb (by simp [e])
      have e4:c≠i2:=fun e=>hb (by simp [e])
      exact (hs4.2 c e1).trans (hk c o e1 e2 e3 e4 q)
    have new:h4.get? s.heap.objs.size=some {cls:=.type "tuple",data:=.seq #[u,v]}:=(hs4.2 _ (Nat.ne_of_gt hlz)).trans a5
    have I1:=I.laidCh (h':=h4) (a:=s.heap.objs.size) (o:=.tup [x,y]) (t':=s.toks) hf kk (Nat.le_refl _) (zck ru rw' new)
    refine ⟨.ref s.heap.objs.size,_,I1,rfl,⟨_,x,y,rfl,I.hok.fresh (Nat.le_refl _),rfl,fun xs' ys' q1 q2=>by rw [I.list_inj q1 hqa,I.list_inj q2 hqb];exact ⟨hx,hy⟩⟩,?_,fun c hb=>?_⟩
    · exact ⟨hz4,(hs4.2 _ D.TIz).trans (hk _ _ D.TIz D.TITO D.TIi1 D.TIi2 hTI),⟨u,v,(hs4.2 _ D.TOz).trans a2⟩,a3.at fun o q=>(hs4.2 _ D.i1z).trans q,a4.at fun o q=>(hs4.2 _ D.i2z).trans q⟩
    · have hb0:c<s.heap.objs.size:=by
        simp at hb
        rcases hb with rfl | rfl | rfl | rfl | rfl
        · exact hlz
        · exact Heap.lt_size hTI
        · exact Heap.lt_size hTO
        · obtain ⟨o,ho,_⟩:=h1;exact Heap.lt_size ho
        · obtain ⟨o,ho,_⟩:=h2;exact Heap.lt_size ho
      rw [zi (Nat.ne_of_lt hb0)]
      exact (hf c hb).1
  done:=by
    intro X hP hw hK hc i pins s σ H E I hf st hg
    subst hP hw hK
    obtain ⟨xs,ys,hqa,hqb,hx⟩:=hg
    obtain ⟨its,rv,p,hz⟩:=I.list hqa
    obtain ⟨its2,rv2,p2,hz2⟩:=I.list hqb
    have hl:=rv.length
    have hl2:=rv2.length
    have ZD:=zb4 D st p p2
    obtain ⟨hzz,hTI,⟨u0,v0,hTO⟩,h1,h2⟩:=id st
    refine wpAny_pyNext_zip_end (I.ok.hd hc) ZD hzz hTI hTO h1 h2 p.isList p2.isList ?_ fun h' hk=>⟨rfl,I.turnedCh (t':=s.toks) hf fun c o hb q=>?_⟩
    · rcases hx with hx | hx
      · exact .inl (by simp;omega)
      · exact .inr (by simp;omega)
    · exact hk c o (fun e=>hb (by simp [e])) (fun e=>hb (by simp [e])) (fun e=>hb (by simp [e])) (fun e=>hb (by simp [e])) q
  self:=fun _ _ _ _ _ st h=>wpAny_pyIter_zip st.1 h
section
variable {X:Cx} {elts:List Expr} {k:Nat} {tpos:Pos}
def iEnum (K:PySem.W.Frag) (ta:TA):TI:=fun σ H R=>ta σ H fun vs H1=>∃ a,vs=[.ref a]∧(∃ xs,SqL K H1 a xs)∧R (Ite K a) H1
def iZip (K:PySem.W.Frag) (ta:TA):TI:=fun σ H R=>ta σ H fun vs H1=>∃ a b,vs=[.ref a,.ref b]∧(∃ xs,SqL K H1 a xs)∧(∃ ys,SqL K H1 b ys)∧R (Itz K a b) H1
theorem za2 {a:Expr} {ta:TA} {p pos:Pos} (hg:Gl X "enumerate") (hm:X.mg "enumerate"=none) (ha:PA X [a] ta) (hs:starEach [a] X.env=[(false,eval a X.env)]:=by rfl) :
    PI X (.Tuple elts k tpos) (.Call (.Name "enumerate" p) [a] [] pos) (iEnum X.K ta):=by
  intro pins s σ H R I h
  refine Call_ (zai I hg hm boot_enumerate (PyProof.Rows.callWith_type1 (thn (ha pos pins s σ H _ I h) fun us s1 ⟨vs,H1,I1,r1,q1⟩=>?_) hs rfl))
  obtain ⟨l,rfl,⟨xs,hq⟩,q⟩:=q1
  obtain ⟨u,rfl,ru⟩:=vals1 r1
  cases ru
  obtain ⟨its,rv,pl,hz⟩:=I1.list hq
  refine call_enumerate_list pl.isList fun h1 he hit hsz hk=>?_
  have I2:Inv X pins σ H1 {s1 with heap:=h1}:=I1.kept (t':=s1.toks) hk
  refine wpAny_pyIter_enum he ⟨s1.heap.objs.size+1,[s1.heap.objs.size+1,s1.heap.objs.size],_,_,H1,rfl,I2,zl2 l (s1.heap.objs.size+1) s1.heap.objs.size (Nat.succ_ne_self _),⟨⟨_,he⟩,hit⟩,fun b hb=>?_,q⟩
  have hle:s1.heap.objs.size≤b:=by
    simp at hb
    rcases hb with rfl | rfl <;> omega
  exact I1.fpOk hle (I1.hok.fresh hle)
theorem zqe {a b:Expr} {ta:TA} {p pos:Pos} (hg:Gl X "zip") (hm:X.mg "zip"=none) (ha:PA X [a,b] ta) (hs:starEach [a,b] X.env=[(false,eval a X.env),(false,eval b X.env)]:=by rfl) (hs2:starEach [b] X.env=[(false,eval b X.env)]:=by rfl) :
    PI X (.Tuple elts k tpos) (.Call (.Name "zip" p) [a,b] [] pos) (iZip X.K ta):=by
  intro pins s σ H R I h
  refine Call_ (zai I hg hm boot_zip (PyProof.Rows.callWith_type1 (thn (ha pos pins s σ H _ I h) fun us s1 ⟨vs,H1,I1,r1,q1⟩=>?_) (by rw [hs,hs2]) (by rw [hs2];rfl)))
  obtain ⟨l1,l2,rfl,⟨xs,hq⟩,⟨ys,hq2⟩,q⟩:=q1
  obtain ⟨u,v,rfl,ru,rv'⟩:=vals2 r1
  cases ru
  cases rv'
  obtain ⟨its,rv,pl,hz⟩:=I1.list hq
  obtain ⟨its2,rv2,pl2,hz2⟩:=I1.list hq2
  refine call_zip_2 pl.isList pl2.isList fun h1 hz1 hTI hTO hi1 hi2 hsz hk=>?_
  have I2:Inv X pins σ H1 {s1 with heap:=h1}:=I1.kept (t':=s1.toks) hk
  refine wpAny_pyIter_zip hz1 ⟨s1.heap.objs.size+4,[s1.heap.objs.size+4,s1.heap.objs.size+2,s1.heap.objs.size+3,s1.heap.objs.size,s1.heap.objs.size+1],_,_,H1,rfl,I2,
    znv l1 l2 (s1.heap.objs.size+4) (s1.heap.objs.size+2) (s1.heap.objs.size+3) s1.heap.objs.size (s1.heap.objs.size+1) (zl3 _),⟨hz1,hTI,⟨_,_,hTO⟩,hi1,hi2⟩,fun c hb=>?_,q⟩
  have hle:s1.heap.objs.size≤c:=by
    simp at hb
    rcases hb with rfl | rfl | rfl | rfl | rfl <;> omega
  exact I1.fpOk hle (I1.hok.fresh hle)
end
section
variable {prog:Program} {w:World} {A:Around} {R:Result→Shared→Prop} {s:Shared}
theorem zc5 {elt target iter:Expr} {scope:Scope} {pos:Pos} {it acc:Value} {env:Env} (I:Nat→Shared→Prop)
    (turn:∀ n s,I n s→wpAny (model prog w) A (pyNext it) (fun r s₁=>match r with
      | none=>R (.ok .next) s₁
      | some v=>wpAny (model prog w) A (letOwnedTupleGo target it v) (fun _ s₀=>wpAny (model prog w) A (assign target env v) (fun _ s₂=>wpAny (model prog w) A (eval elt env) (fun x s₃ =>
          wpAny (model prog w) A (call (.builtin "list.append") [acc,x]) (fun _ s₄=>∃ m,m<n∧I m s₄) (notedBy (model prog w) A env fun e s'=>R (.error e) s') s₃)
          (notedBy (model prog w) A env fun e s'=>R (.error e) s') s₂) (notedBy (model prog w) A env fun e s'=>R (.error e) s') s₀) (notedBy (model prog w) A env fun e s'=>R (.error e) s') s₁) (notedBy (model prog w) A env fun e s'=>R (.error e) s') s)
    (n:Nat) (h:I n s) :
    codeAny (model prog w) A (.compLoop (.ListComp elt [⟨target,iter,[],0⟩] scope pos) 0 it acc env) R s:=by
  refine codeAny_loop rfl I (fun n s hI=>?_) n h
  show wpAny _ _ ((compTurn (.ListComp elt [⟨target,iter,[],0⟩] scope pos) 0 it acc env).onRaise (fun x=>do noteFrame x env;theTreesLotGoes x)) _ _ s
  refine wpAny_noted ?_
  rw [compTurn_list1]
  refine wpAny_bind (wpAny_standAt (wpAny_bind (wpAny_mono (turn n s hI) (fun r s₁ h₁=>?_) fun _ _ h'=>h')))
  cases r with
  | none=>exact wpAny_pure h₁
  | some v =>
    exact wpAny_bind (wpAny_mono h₁ (fun _ s₀ h₀=>wpAny_bind (wpAny_mono h₀ (fun _ s₂ h₂=>wpAny_bind (wpAny_bind (wpAny_mono h₂ (fun x s₃ h₃=>wpAny_bind (wpAny_mono h₃
      (fun _ s₄ h₄=>wpAny_pure (wpAny_pure ⟨rfl,h₄⟩)) fun _ _ h'=>h')) fun _ _ h'=>h'))) fun _ _ h'=>h')) fun _ _ h'=>h')
end
def cxC (X:Cx) (scope:Scope) (cl:List (Str × Addr)) (C:Addr) (N:List Str) (s:Shared) (H:Hp) (fp:List Addr):Cx where
  prog:=X.prog
  w:=X.w
  K:=X.K
  mg:=X.mg
  base:=X.base
  A:=X.A
  N:=N
  s₀:=s
  H₀:=H
  env:=compEnvC scope cl C X.env
  outer:=X.stack
  stack:=X.stack
  ex:=fp
  calm:=X.calm
  fn:=fun _=>false
  pn:=X.pn
  xe:=fun _ _=>False
def frOf (js:List (Option Nat)) (σ:St):St:=js.map fun o=>o.bind fun j=>(σ[j]?).join
def FrOk (X:Cx):List Str→List (Option Nat)→Prop
  | [],[]=>True
  | _::N,none::js=>FrOk X N js
  | x::N,some j::js=>(X.N[j]?=some x∧(X.env.scope.names.lookup x=some .cell∨X.env.scope.names.lookup x=some .free))∧FrOk X N js
  | _,_=>False
theorem FrOk.len {X:Cx}:∀ {N:List Str} {js:List (Option Nat)},FrOk X N js→js.length=N.length
  | [],[],_=>rfl
  | _::N,none::js,h=>by simp [FrOk.len (N:=N) (js:=js) h]
  | _::N,some j::js,h=>by simp [FrOk.len (N:=N) (js:=js) h.2]
theorem FrOk.at_ {X:Cx}:∀ {N:List Str} {js:List (Option Nat)} {i:Nat} {x:Str} {j:Nat},FrOk X N js→N[i]?=some x→js[i]?=some (some j)→X.N[j]?=some x∧(X.env.scope.names.lookup x=some .cell∨X.env.scope.names.lookup x=some .free)
  | [],[],_,_,_,_,e,_=>by simp at e
  | _::N,none::js,0,_,_,_,_,e=>by simp at e
  | _::N,none::js,i+1,x,j,h,e1,e2=>FrOk.at_ (N:=N) (js:=js) (i:=i) h (by simpa using e1) (by simpa using e2)
  | _::N,some _::js,0,_,_,h,e1,e2=>by simp at e1 e2;subst e1 e2;exact h.1
  | _::N,some _::js,i+1,x,j,h,e1,e2=>FrOk.at_ (N:=N) (js:=js) (i:=i) h.2 (by simpa using e1) (by simpa using e2)
structure CpScope (X:Cx) (scope:Scope) (N:List Str) (js:List (Option Nat)):Prop where
  kind:scope.kind=.function
  nocell:∀ y∈scope.names,y.2≠.cell
  names:∀ y∈scope.names,y.2=.local→scope.names.lookup y.1=some .local
  clos:∀ y∈scope.names,y.2=.free→X.env.scope.names.lookup y.1=some .cell∨X.env.scope.names.lookup y.1=some .free
  fr:FrOk X N js
  frk:∀ (i:Nat) (x:Str) (j:Nat),N[i]?=some x→js[i]?=some (some j)→(relabel scope X.env).names.lookup x=some .cell∨(relabel scope X.env).names.lookup x=some .free
theorem zcl {scope:Scope} {env:Env} (h:∀ y∈scope.names,y.2=.free→∃ c,env.cells.lookup y.1=some c) :
    ∃ cl,closureFor scope env=pure cl∧(∀ x c,cl.lookup x=some c→env.cells.lookup x=some c)∧∀ x,(x,NameKind.free)∈scope.names→∃ c,cl.lookup x=some c:=by
  have go:∀ (ns:List (Str × NameKind)) (acc:List (Str × Addr)),(∀ y∈ns,y.2=.free→∃ c,env.cells.lookup y.1=some c)→(∀ x c,acc.lookup x=some c→env.cells.lookup x=some c) →
      ∃ cl,(forIn ns acc fun (x:Str × NameKind) (cs:List (Str × Addr))=>(if (x.2==NameKind.free)=true then (do let c ← cellOf env x.1;pure (ForInStep.yield ((x.1,c)::cs))) else pure (ForInStep.yield cs):Sem (ForInStep (List (Str × Addr)))))=pure cl ∧
        (∀ x c,cl.lookup x=some c→env.cells.lookup x=some c)∧(∀ x,(x,NameKind.free)∈ns→∃ c,cl.lookup x=some c)∧∀ x c,acc.lookup x=some c→∃ c',cl.lookup x=some c':=by
    intro ns
    induction ns with
    | nil=>intro acc _ ha;exact ⟨acc,by rw [List.forIn_nil],ha,fun x z=>by simp at z,fun x c e=>⟨c,e⟩⟩
    | cons y ns ih =>
      intro acc hy ha
      obtain ⟨n,k⟩:=y
      rw [List.forIn_cons]
      by_cases hk:k=.free
      · subst hk
        obtain ⟨c,hc⟩:=hy (n,.free) List.mem_cons_self rfl
        obtain ⟨cl,e,h1,h2,h3⟩:=ih ((n,c)::acc) (fun y hm=>hy y (List.mem_cons_of_mem _ hm)) fun x d e=>by
          rw [List.lookup_cons] at e
          split at e
          · rename_i q
            cases e
            rw [show x=n from by simpa using q]
            exact hc
          · exact ha x d e
        refine ⟨cl,?_,h1,fun x hx=>?_,fun x d e=>?_⟩
        · have e0:cellOf env n=pure c:=by unfold cellOf;rw [hc]
          simp only [beq_self_eq_true,if_true,e0]
          exact e
        · rcases List.mem_cons.mp hx with z | z
          · cases z
            exact h3 n c (by simp [List.lookup_cons])
          · exact h2 x z
        · by_cases hx:x=n
          · subst hx;exact h3 x c (by simp [List.lookup_cons])
          · exact h3 x d (by rw [List.lookup_cons,show (x==n)=false from by simpa using hx];exact e)
      · have hb:(k==NameKind.free)=false:=by simpa using hk
        obtain ⟨cl,e,h1,h2,h3⟩:=ih acc (fun y hm=>hy y (List.mem_cons_of_mem _ hm)) ha
        refine ⟨cl,?_,h1,fun x hx=>?_,h3⟩
        · simp only [hb,Bool.false_eq_true,if_false]
          exact e
        · rcases List.mem_cons.mp hx with z | z
          · cases z;exact absurd rfl hk
          · exact h2 x z
  obtain ⟨cl,e,h1,h2,_⟩:=go scope.names [] h (fun x c e=>by simp at e)
  refine ⟨cl,?_,h1,h2⟩
  unfold closureFor
  simp only
  rw [show (forIn scope.names ([]:List (Str × Addr)) fun (x:Str × NameKind) (r:List (Str × Addr))=>_)=_ from e]
  rfl
theorem zc6 {scope:Scope} {env:Env} {x:Str} (nocell:∀ y∈scope.names,y.2≠.cell) (h:(relabel scope env).names.lookup x=some .cell∨(relabel scope env).names.lookup x=some .free):(x,NameKind.free)∈scope.names:=by
  have go:∀ k,(k=.cell∨k=.free)→(relabel scope env).names.lookup x=some k→(x,NameKind.free)∈scope.names:=by
    intro k hk e
    have hm:=PySem.mem_of_lookup e
    obtain ⟨⟨n,k'⟩,hy,q⟩:=List.mem_map.mp (show (x,k)∈scope.names.map _ from hm)
    dsimp only at q
    split at q
    · rename_i hc
      have hf:k'=.free:=by
        simp only [Bool.and_eq_true,beq_iff_eq] at hc
        exact hc.1.1
      injection q with q1 q2
      subst q1 hf
      exact hy
    · injection q with q1 q2
      subst q1 q2
      rcases hk with rfl | rfl
      · exact absurd rfl (nocell _ hy)
      · exact hy
  rcases h with h | h
  · exact go _ (.inl rfl) h
  · exact go _ (.inr rfl) h
section
variable {X:Cx} {pins:List (Addr × Obj)} {σ:St} {H:Hp} {s:Shared} {scope:Scope} {cl:List (Str × Addr)} {C:Addr} {N:List Str} {js:List (Option Nat)} {fp:List Addr}
theorem zqf (I:Inv X pins σ H s) (S:CpScope X scope N js) (h1:∀ x c,cl.lookup x=some c→X.env.cells.lookup x=some c) (h2:∀ x,(x,NameKind.free)∈scope.names→∃ c,cl.lookup x=some c)
    (hC:s.heap.objs.size≤C) (f:∀ b∈fp,FpOk X pins H b) (lt:∀ b∈fp,b<s.heap.objs.size):(cxC X scope cl C N s H fp).Ok where
  mod:=I.ok.mod
  kind:=S.kind
  glob:=I.ok.glob
  blt:=I.ok.blt
  above:=hC
  inj:=fun x y c e1 e2=>I.ok.inj x y c (h1 x c e1) (h1 y c e2)
  has:=fun x hx=>h2 x (zc6 S.nocell hx)
  cab:=fun x c h _=>by cases h
  hd:=I.ok.hd
  frames:=I.ok.frames
  stk:=.inl rfl
  exf:=fun b hb=>⟨Nat.ne_of_lt (Nat.lt_of_lt_of_le (lt b hb) hC),fun x c e=>(f b hb).2.2.2.2.1 x c (h1 x c e)⟩
  bs:=I.bs
  bsz:=Nat.le_trans I.ok.bsz I.sz
  noex:=fun b o e hb=>by
    rcases (f b hb).2.2.2.1 with z | z
    · exact I.ok.noex b o e z
    · exact absurd (Nat.lt_of_lt_of_le (Heap.lt_size e) (Nat.le_trans I.ok.bsz z)) (Nat.lt_irrefl _)
  exfs:=fun b hb hbf=>by
    rcases List.mem_cons.mp (I.stkSub b hbf) with z | z
    · exact (f b hb).2.1 z
    · exact (f b hb).2.2.1 z
  funs:=I.stack
  frf:=I.stkFree
theorem ze6 {h1:Heap} {t':Nat} {m:Str→Option Value} (I:Inv X pins σ H s) (S:CpScope X scope N js) (k1:∀ x c,cl.lookup x=some c→X.env.cells.lookup x=some c) (k2:∀ x,(x,NameKind.free)∈scope.names→∃ c,cl.lookup x=some c)
    (hC:s.heap.objs.size≤C) (f:∀ b∈fp,FpOk X pins H b) (lt:∀ b∈fp,b<s.heap.objs.size) (old:∀ b o,s.heap.get? b=some o→h1.get? b=some o) (ns:h1.Ns C m) :
    Inv (cxC X scope cl C N s H fp) pins (frOf js σ) H {s with heap:=h1,toks:=t'} where
  ok:=zqf I S k1 k2 hC f lt
  os:=rfl
  bare:=I.bare
  base:=Un.kept old
  loc:=by
    refine ⟨m,ns,fun i x v e1 e2 e3=>?_⟩
    have e1:N[i]?=some x:=e1
    unfold frOf at e2
    rw [List.getElem?_map] at e2
    cases ej:js[i]? with
    | none=>rw [ej] at e2;cases e2
    | some o =>
      rw [ej] at e2
      cases o with
      | none=>cases e2
      | some j =>
        have e2':(σ[j]?).join=some v:=by simpa using e2
        have e4:σ[j]?=some (some v):=by
          cases q:σ[j]? with
          | none=>rw [q] at e2';cases e2'
          | some o =>
            rw [q] at e2'
            have:o=some v:=by simpa using e2'
            rw [this]
        obtain ⟨hN,hk⟩:=S.fr.at_ e1 ej
        have hk2:=S.frk i x j e1 ej
        obtain ⟨c',hc'⟩:=k2 x (zc6 S.nocell hk2)
        obtain ⟨m0,hn0,hl0⟩:=I.loc
        obtain ⟨u,ru,l⟩:=hl0 j x v hN e4 (by rcases hk with q | q;exact .inr (.inl q);exact .inr (.inr q))
        refine ⟨u,ru,.inr ⟨hk2,c',hc',?_⟩⟩
        rcases l with ⟨l1,_⟩ | ⟨_,c,hc,o,ho,hd⟩
        · have l1:X.env.scope.names.lookup x=some .local:=l1
          rcases hk with q | q
          · rw [q] at l1;cases l1
          · rw [q] at l1;cases l1
        · rw [k1 x c' hc'] at hc
          cases hc
          exact ⟨o,old _ _ ho,hd⟩
  cell:=fun x c e=>by
    obtain ⟨v,o,ho,hd⟩:=I.cell x c (k1 x c e)
    exact ⟨v,o,old _ _ ho,hd⟩
  free:=I.hok.fresh hC
  freeC:=fun x c e=>I.freeC x c (k1 x c e)
  pin:=fun p hp=>by
    obtain ⟨e,n,ne,nf,d⟩:=I.pin p hp
    refine ⟨old _ _ e,n,Nat.ne_of_lt (Nat.lt_of_lt_of_le (Heap.lt_size e) hC),fun z=>?_,d⟩
    rcases List.mem_cons.mp (I.stkSub p.1 z) with q | q
    · exact ne q
    · exact nf q
  hok:=I.hok.kept old
  len:=by
    show (js.map _).length=N.length
    rw [List.length_map]
    exact S.fr.len
def CW (J:It) (g:TG) (te:TE) (p:Addr) (τ0:St) (H1:Hp) (Q:VK):Prop :=
  ∃ W:Nat→Nat→List V→St→Hp→Prop,(∃ m,W 0 m [] τ0 (upd H1 p (.lst [])))∧∀ i m ys τ H2,W i m ys τ H2 →
    (J.stop i H2∧Q (.ref p) H2)∨(J.go i H2∧∀ x H3,J.yld i H2 x H3→g x τ H3 fun τ4 H4=>te τ4 H4 fun y H5=>H5 p=some (.lst ys)∧ys.length<sizeLine∧∃ m',m'<m∧W (i+1) m' (ys++[y]) τ4 (upd H5 p (.lst (ys++[y]))))
def tComp (js:List (Option Nat)) (wi:TI) (g:TG) (te:TE):TE:=fun σ H Q=>wi σ H fun J H1=>∀ p,H1 p=none→CW J g te p (frOf js σ) H1 Q
theorem zf2 {elt target iter:Expr} {pos pos':Pos} {wi:TI} {g:TG} {te:TE} (hc:X.calm=true) (S:CpScope X scope N js) (hi:PI X target iter wi)
    (hg:∀ cl C s H fp,PG (cxC X scope cl C N s H fp) target g) (he:∀ cl C s H fp,PE (cxC X scope cl C N s H fp) elt te) (hs:∀ x,foldedSetIterable iter X.env x=pure x)
    {use:Option (Value→Sem Unit)} {QQ:Value→Shared→Prop} {Q:VK} (I:Inv X pins σ H s) (h:tComp js wi g te σ H Q)
    (hfin:∀ (p C:Addr) (H':Hp) (s':Shared) (m:Str→Option Value),Inv X pins σ H' s'→Q (.ref p) H'→FpOk X pins H' C→s'.heap.Ns C m→compPost (model X.prog X.w) X.A X.xe use QQ (.ref p) C (.ok .next) s') :
    wpAny (model X.prog X.w) X.A (comprehension (.ListComp elt [⟨target,iter,[],0⟩] scope pos) scope X.env pos' (newList []) false (eval iter X.env) use) QQ X.xe s:=by
  obtain ⟨cl,hclos,k1,k2⟩:=zcl (scope:=scope) (env:=X.env) (fun y hy hk=>I.ok.has y.1 (S.clos y hy hk))
  refine wpAny_comprehension_free (use:=use) rfl hs hclos S.kind S.names (thn (hi pins s σ H _ I h) fun v s1 h1=>thn h1 fun itv s2 h2=>?_)
  obtain ⟨it,fp,tn,J,H2,e,I2,T,st2,f2,q⟩:=h2
  subst e
  obtain ⟨W,⟨m0,w0⟩,turn⟩:=q s2.heap.objs.size I2.fresh
  have ltf:∀ b∈fp,b<s2.heap.objs.size:=fun b hb=>by
    obtain ⟨o,ho,_⟩:=T.obj _ _ st2 b hb
    exact Heap.lt_size ho
  refine wpAny_newObj_type (wpAny_newFunctionEnv S.nocell (by intro y hy;simp at hy) (fun h1 hns1 hsb1=>?_) S.kind)
  dsimp only at hns1 hsb1 ⊢
  have I3:Inv X pins σ (upd H2 s2.heap.objs.size (.lst [])) {s2 with heap:=s2.heap.push {cls:=.type "list",data:=.seq ([]:List Value).toArray},toks:=s2.toks}:=I2.lnew (t':=s2.toks) .nil (by show 0≤sizeLine;exact Nat.zero_le _)
  generalize hh3:s2.heap.push {cls:=.type "list",dict:=none,data:=.seq ([]:List Value).toArray}=h3 at I3 hns1 hsb1 ⊢
  generalize hH3:upd H2 s2.heap.objs.size (.lst [])=H3 at I3 w0
  have hz3:h3.objs.size=s2.heap.objs.size+1:=by rw [← hh3,Heap.size_push]
  have up3:∀ b o,s2.heap.get? b=some o→h3.get? b=some o:=fun b o e=>by rw [← hh3];exact Heap.get?_push_of_some _ e
  have f3:∀ b∈fp,FpOk X pins H3 b:=fun b hb=>⟨by rw [← hH3,zi (Nat.ne_of_lt (ltf b hb))];exact (f2 b hb).1,(f2 b hb).2⟩
  have lt3:∀ b∈fp,b<h3.objs.size:=fun b hb=>by rw [hz3];exact Nat.lt_succ_of_lt (ltf b hb)
  have old:∀ b o,h3.get? b=some o→h1.get? b=some o:=fun b o e=>hsb1.extBut b o (Nat.ne_of_lt (Heap.lt_size e)) (Heap.get?_push_of_some _ e)
  have I4:=ze6 (t':=s2.toks+([]:List (Str × Value)).length) (C:=h3.objs.size) (fp:=fp) I3 S k1 k2 (Nat.le_refl _) f3 lt3 old hns1
  have st4:tn 0 h1:=T.keep _ _ _ st2 fun b _ o e=>old b o (up3 b o e)
  have stat:∀ {H':Hp},(∀ b∈fp,H' b=none)→∀ b∈fp,FpOk (cxC X scope cl h3.objs.size N {s2 with heap:=h3,toks:=s2.toks} H3 fp) pins H' b:=fun {H'} hn b hb=>by
    obtain ⟨g0,g1,g2,g3,g4,g5⟩:=f3 b hb
    refine ⟨hn b hb,Nat.ne_of_lt (lt3 b hb),fun z=>?_,.inl hb,fun x c e=>g4 x c (k1 x c e),g5⟩
    rcases List.mem_cons.mp (I3.stkSub b z) with q | q
    · exact g1 q
    · exact g2 q
  have loop:codeAny (model X.prog X.w) X.A (.compLoop (.ListComp elt [⟨target,iter,[],0⟩] scope pos) 0 (.ref it) (.ref s2.heap.objs.size) (compEnvC scope cl h3.objs.size X.env))
      (compPost (model X.prog X.w) X.A X.xe use QQ (.ref s2.heap.objs.size) h3.objs.size) {s2 with heap:=h1,toks:=s2.toks+([]:List (Str × Value)).length}:=by
    refine zc5 (fun n s'=>∃ i ys τ H',Inv (cxC X scope cl h3.objs.size N {s2 with heap:=h3,toks:=s2.toks} H3 fp) pins τ H' s'∧tn i s'.heap∧(∀ b∈fp,H' b=none)∧W i n ys τ H') ?_ m0
      ⟨0,[],_,H3,I4,st4,fun b hb=>(f3 b hb).1,w0⟩
    rintro n s5 ⟨i,ys,τ,H5,I5,st5,fr5,w5⟩
    rcases turn i n ys τ H5 w5 with ⟨stop,qn⟩ | ⟨go,step⟩
    · refine wpAny_mono (T.done (cxC X scope cl h3.objs.size N {s2 with heap:=h3,toks:=s2.toks} H3 fp) rfl rfl rfl hc i pins s5 τ H5 _ I5 (stat fr5) st5 stop) (fun r s6 h6=>?_) fun _ _ z=>z
      obtain ⟨hr,I6⟩:=h6
      subst hr
      obtain ⟨m6,hn6,_⟩:=I6.loc
      refine hfin s2.heap.objs.size h3.objs.size H5 s6 m6 (I3.call' (ch:=fp) I6.os I6.base I6.hok I6.bare fun b hb=>?_) qn (I3.fpOk (Nat.le_refl _) I6.free) hn6
      obtain ⟨g0,g1,g2,g3,g4,g5⟩:=f3 b hb
      exact ⟨g3,g1,g4,g5⟩
    · refine wpAny_mono (T.item (cxC X scope cl h3.objs.size N {s2 with heap:=h3,toks:=s2.toks} H3 fp) rfl rfl rfl hc i pins s5 τ H5 _ I5 (stat fr5) st5 go) (fun r s6 h6=>?_) fun _ _ z=>z
      obtain ⟨u,hr,h6⟩:=h6
      subst hr
      refine wpAny_mono h6 (fun _ s7 h7=>?_) fun _ _ z=>z
      obtain ⟨x,H7,I7,rx,y7,st7,fr7⟩:=h7
      have I7':=I7.pinned (stat fr7) (T.obj _ _ st7)
      refine wpAny_mono (hg cl h3.objs.size _ H3 fp _ s7 τ H7 x u _ I7' rx (step x H7 y7)) (fun _ s8 h8=>?_) fun _ _ z=>False.elim z
      obtain ⟨τ8,H8,I8,q8⟩:=h8
      refine wpAny_mono (he cl h3.objs.size _ H3 fp _ s8 τ8 H8 _ I8 q8) (fun y' s9 h9=>?_) fun _ _ z=>False.elim z
      obtain ⟨y,H9,I9,ry,e9,l9,m',hm,w9⟩:=h9
      refine wpAny_mono (wa (X:=cxC X scope cl h3.objs.size N {s2 with heap:=h3,toks:=s2.toks} H3 fp) _ s9 τ8 H9 (.ref s2.heap.objs.size) [y] (.ref s2.heap.objs.size) [y']
        (fun _ H10=>H10=upd H9 s2.heap.objs.size (.lst (ys++[y]))) I9 rfl (.cons ry .nil) ⟨_,ys,y,rfl,rfl,e9,l9,rfl⟩) (fun _ s10 h10=>?_) fun _ _ z=>False.elim z
      obtain ⟨_,H10,I10,_,e10⟩:=h10
      subst e10
      refine ⟨m',hm,i+1,ys++[y],τ8,_,I10.unpinned,T.keep _ _ _ st7 fun b hb o e=>(I10.pin (b,o) (List.mem_append_right _ (List.mem_append_right _ (wv hb e)))).1,fun b hb=>?_,w9⟩
      obtain ⟨o,e,d⟩:=T.obj _ _ st7 b hb
      exact (I10.pin (b,o) (List.mem_append_right _ (List.mem_append_right _ (wv hb e)))).2.1
  exact codeAny_compStart_list loop (T.self X.A 0 _ _ _ st4 loop)
theorem wc {elt target iter:Expr} {pos:Pos} {wi:TI} {g:TG} {te:TE} (hc:X.calm=true) (S:CpScope X scope N js) (hi:PI X target iter wi)
    (hg:∀ cl C s H fp,PG (cxC X scope cl C N s H fp) target g) (he:∀ cl C s H fp,PE (cxC X scope cl C N s H fp) elt te) (hs:∀ x,foldedSetIterable iter X.env x=pure x:=by intro _;rfl) :
    PE X (.ListComp elt [⟨target,iter,[],0⟩] scope pos) (tComp js wi g te):=by
  intro pins s σ H Q I h
  rw [eval_ListComp]
  refine zf2 (use:=none) hc S hi hg he hs I h fun p C H' s' m I' q f hn=>⟨m,hn,fun h' hs'=>⟨.ref p,H',?_,rfl,q⟩⟩
  obtain ⟨f0,f1,f2,f3,f4,f5⟩:=f
  exact I'.turned (t':=s'.toks) (fun b o hb e=>(hs'.2 b hb).trans e) f0 f1 f3 f4 f5
theorem zjm {i:Nat} {y:Str} {py:Pos} {elt target iter:Expr} {pos spos:Pos} {wi:TI} {g:TG} {te:TE} (hN:X.N.Nodup) (hiN:X.N[i]?=some y) (hx:Loc X.env.scope y) (hc:X.calm=true) (S:CpScope X scope N js) (hi:PI X target iter wi)
    (hg:∀ cl C s H fp,PG (cxC X scope cl C N s H fp) target g) (he:∀ cl C s H fp,PE (cxC X scope cl C N s H fp) elt te)
    (hsw:swapsWith (.ListComp elt [⟨target,iter,[],0⟩] scope pos) (some (.Name y py)) spos.line X.env=pure true:=by rfl)
    (hs:∀ x,foldedSetIterable iter X.env x=pure x:=by intro _;rfl) (hf:X.fn y=true∨X.env.scope.names.lookup y=some .local:=by first | exact .inl rfl | exact .inr rfl | assumption) :
    PS X (.Assign [.Name y py] (.ListComp elt [⟨target,iter,[],0⟩] scope pos) spos) (tAsg (tComp js wi g te) (gName i)):=by
  intro pins s σ H D I h
  rw [exec_Assign_Name_used _ _ _ _ hsw]
  refine wpAny_bind (wpAny_standAt (wpAny_bind ?_))
  show wpAny _ X.A (do let _ ← comprehension (.ListComp elt [⟨target,iter,[],0⟩] scope pos) scope X.env _ (newList []) false (eval iter X.env) (some (assign (.Name y py) X.env))) _ _ s
  refine wpAny_bind (wpAny_mono (zf2 (use:=some (assign (.Name y py) X.env)) (QQ:=fun _ s'=>SP X pins D .next s') hc S hi hg he hs I h ?_) (fun _ s' hq=>wpAny_pure (wpAny_pure hq)) fun _ _ e=>e)
  intro p C H' s' m I' q f hn
  obtain ⟨f0,f1,f2,f3,f4,f5⟩:=f
  show wpAny _ X.A (assign (.Name y py) X.env (.ref p)) _ _ _
  refine wpAny_assign_Name (zfo I' hN hiN hx (v:=.ref p) rfl (fun s'' I'' ⟨a,sb,ha⟩=>⟨m,hn.sameBut sb ?_,fun h' hs'=>⟨_,H',?_,q⟩⟩) hf)
  · rintro rfl
    rcases ha with z | z
    · exact f1 z
    · exact f4 _ _ z rfl
  · exact I''.turned (t':=s''.toks) (fun b o hb e=>(hs'.2 b hb).trans e) f0 f1 f3 f4 f5
end
end L2
set_option Elab.async false
set_option linter.all false
set_option maxRecDepth 100000
set_option maxHeartbeats 4000000
namespace L2
open PySem PySem.Spec PyProof.Rows
section
variable {X:Cx}
theorem Vals.bools:∀ {bs:List Bool} {us:List Value} {i:Nat} {v:Value},Vals (bs.map V.bl) us→us[i]?=some v→∃ b,bs[i]?=some b∧v=.bool b
  | [],_,_,_,.nil,e=>by simp at e
  | b::bs,_,0,v,.cons r _,e=>by
    have e':_=v:=Option.some.inj e
    exact ⟨b,rfl,by rw [← e'];exact r⟩
  | _::bs,_,i+1,v,.cons _ t,e=>Vals.bools (bs:=bs) (i:=i) t (by simpa using e)
theorem zl4 (bs:List Bool):(List.range bs.length).all (fun i=>bs.getD i true)=bs.all id:=by
  rw [Bool.eq_iff_iff]
  simp only [List.all_eq_true,List.mem_range,id]
  constructor
  · intro h b hb
    obtain ⟨i,hi,e⟩:=List.mem_iff_getElem.mp hb
    have:=h i hi
    rw [List.getD_eq_getElem?_getD,List.getElem?_eq_getElem hi] at this
    rw [← e];exact this
  · intro h i hi
    rw [List.getD_eq_getElem?_getD,List.getElem?_eq_getElem hi]
    exact h _ (List.getElem_mem hi)
theorem zac (hc:X.calm=true):CallR X (.builtin "all") (fun xs H Q=>∃ (p:Addr) (bs:List Bool),xs=[.ref p]∧SqL X.K H p (bs.map V.bl)∧Q (.bl (bs.all id)) H):=by
  intro pins s σ H xs us Q I r h
  obtain ⟨p,bs,rfl,hq,q⟩:=h
  obtain ⟨u,rfl,ru⟩:=vals1 r
  cases ru
  obtain ⟨its,rv,pl,hz⟩:=I.list hq
  have hlen:its.length=bs.length:=by have:=rv.length;simpa using this.symm
  have hp:p<s.heap.objs.size:=by obtain ⟨o,n,e,_⟩:=pl;exact Heap.lt_size e
  refine call_all_walk (wpAny_pyIter_list pl.isList ?_)
  refine ⟨s.heap.objs.size,_,_,_,_,_,fun i=>bs.getD i true,rfl,Walks.list (A:=X.A.in1) (I.ok.hd hc) _ p (Nat.ne_of_lt hp) its.toArray,⟨⟨_,Heap.get?_push_size _ rfl,rfl,rfl⟩,pl.isList.push _⟩,?_,fun h' tk hk=>?_⟩
  · intro i v s' Q' E' hP hQ'
    have hi:its[i]?=some v:=by simpa using hP
    obtain ⟨b,hb,e⟩:=rv.bools hi
    subst e
    refine wpAny_truthy_bool ?_
    have hQ2:Q' (bs.getD i true) s':=hQ'
    rw [List.getD_eq_getElem?_getD,hb] at hQ2
    exact hQ2
  · have I1:Inv X pins σ H {s with heap:=h',toks:=tk}:=I.kept fun b o e=>hk b o (by simp;exact Nat.ne_of_lt (Heap.lt_size e)) (Heap.get?_push_of_some _ e)
    refine ⟨.bl (bs.all id),H,I1,?_,q⟩
    show Value.bool _=_
    rw [List.size_toArray,hlen,zl4]
theorem zbi (hc:X.calm=true):CallR X (.builtin "sum") (fun xs H Q=>∃ (p:Addr) (ns:List Int),xs=[.ref p]∧SqL X.K H p (ns.map V.int)∧Q (.int ns.sum) H):=by
  intro pins s σ H xs us Q I r h
  obtain ⟨p,ns,rfl,hq,q⟩:=h
  obtain ⟨u,rfl,ru⟩:=vals1 r
  cases ru
  obtain ⟨its,rv,pl,hz⟩:=I.list hq
  have hi:IntsAre its ns:=zbj rv
  obtain ⟨xs,e⟩:=hi.allInts.items
  refine sum_intListG (xs:=xs) (I.ok.hd hc) (by rw [← e];exact pl.isList) fun h' tk t' hk=>?_
  have e2:preSum (numAt xs) xs.size=ns.sum:=by
    rw [preSum_eq,List.take_of_length_le (by simp),← nums_intItems,← e]
    show (numsOf its).sum=_
    rw [hi.numsOf]
  rw [e2]
  exact ⟨.int ns.sum,H,I.kept hk,⟨_,rfl⟩,q⟩
theorem zao:CallR X (.builtin "sorted") (fun xs H Q=>∃ (p:Addr) (ns:List Int),xs=[.ref p]∧SqL X.K H p (ns.map V.int)∧ns.length<64∧∀ (l:Addr) (ms:List Int),H l=none→ms.Perm ns→ms.Pairwise (·≤·)→Q (.ref l) (upd H l (.lst (ms.map V.int)))):=by
  intro pins s σ H xs us Q I r h
  obtain ⟨p,ns,rfl,hq,hl,q⟩:=h
  obtain ⟨u,rfl,ru⟩:=vals1 r
  cases ru
  obtain ⟨its,rv,pl,hz⟩:=I.list hq
  have hi:IntsAre its ns:=zbj rv
  have hlen:its.length=ns.length:=by have:=rv.length;simpa using this.symm
  refine sorted_ints pl.isList hi (by omega) fun out ms h1 h2 h3=>?_
  obtain ⟨e,he⟩:=sortedAll_at s.heap its out
  have hn:H (s.heap.objs.size+1)=none:=I.hok.fresh (Nat.le_succ _)
  have hv:Vals (ms.map V.int) out.toList:=zbw h1
  have hlo:(ms.map V.int).length≤sizeLine:=by
    rw [List.length_map,h2.length_eq]
    exact Nat.le_of_lt (Nat.lt_trans hl (by decide))
  refine ⟨.ref (s.heap.objs.size+1),_,I.laid (o:=.lst (ms.map V.int)) (t':=s.toks) (h':=sortedAll s.heap its out) (fun b o q=>sortedAll_old q) (Nat.le_succ _) ⟨hlo,out.toList,e,hv,by simpa [seqObj] using he⟩,rfl,q _ ms hn h2 h3⟩
theorem zgi (hc:X.calm=true):CallR X (.type "set") (fun xs H Q=>∃ (p:Addr) (ns:List Int),xs=[.ref p]∧SqL X.K H p (ns.map V.int)∧ns.length≤1000 ∧
    ∀ l,H l=none→Q (.ref l) (upd H l (.set (fun k=>(firstMet (fun i=>ns.getD i 0) ns.length).any (·==k)) (firstMet (fun i=>ns.getD i 0) ns.length).length))):=by
  intro pins s σ H xs us Q I r h
  obtain ⟨p,ns,rfl,hq,hl,q⟩:=h
  obtain ⟨u,rfl,ru⟩:=vals1 r
  cases ru
  obtain ⟨its,rv,pl,hz⟩:=I.list hq
  have hi:IntsAre its ns:=zbj rv
  have hlen:its.length=ns.length:=by have:=rv.length;simpa using this.symm
  refine call_set_list (items:=its.toArray) (ns:=ns) (I.ok.hd hc) pl.isList (by simpa using hi) (by rw [List.size_toArray,hlen];exact Nat.lt_of_le_of_lt (Nat.succ_le_succ hl) (by decide)) fun h' tk hS hk=>?_
  have ez:its.toArray.size=ns.length:=by rw [List.size_toArray,hlen]
  rw [ez] at hS
  exact ⟨.ref s.heap.objs.size,_,I.laid (o:=.set _ _) (t':=tk) (fun b o e=>hk b o (Heap.lt_size e) e) (Nat.le_refl _) hS,rfl,q _ I.fresh⟩
theorem zgj:CallR X (.builtin "len") (fun xs H Q=>∃ (p:Addr) (S:Int→Bool) (n:Nat),xs=[.ref p]∧H p=some (.set S n)∧Q (.int n) H):=by
  intro pins s σ H xs us Q I r h
  obtain ⟨p,S,n,rfl,hp,q⟩:=h
  obtain ⟨u,rfl,ru⟩:=vals1 r
  cases ru
  obtain ⟨o,es,ep,t,ho,hex,hd,_,_,hb,hf,hn⟩:=(show s.heap.SetOf (intKind X.prog X.w) p S n from I.hok p _ hp)
  refine call_len_set ho hex hd hf (Int.lt_of_lt_of_le (show (es.size:Int)<4096 from by unfold scanBound at hb;omega) (by decide)) ?_
  rw [hn]
  exact ⟨.int n,H,I.tok _,⟨_,rfl⟩,q⟩
theorem zdr:CallR X (.type "range") (fun xs H Q=>∃ j:Int,xs=[.int j]∧∀ r,H r=none→Q (.ref r) (upd H r (.rng 0 j))):=by
  intro pins s σ H xs us Q I r h
  obtain ⟨j,rfl,q⟩:=h
  obtain ⟨u,rfl,ru⟩:=vals1 r
  obtain ⟨t,rfl⟩:=ru
  refine call_range_1 ⟨.ref s.heap.objs.size,_,I.laid (o:=.rng 0 j) (fun b o e=>Heap.get?_push_of_some _ e) (Nat.le_refl _) ⟨_,_,_,Heap.get?_push_size _ rfl⟩,rfl,q _ I.fresh⟩
theorem zkg {acc:Array Value} {n:Nat} (h:ItemsOf (fun i v=>∃ t,v=Value.int ((0:Int)+(i:Nat) * 1) t) acc n):Vals ((List.range n).map fun (i:Nat)=>V.int (i:Int)) acc.toList:=by
  obtain ⟨hz,hI⟩:=h
  have go:∀ (m:Nat) (us:List Value) (k:Nat),us.length=m→(∀ j v,us[j]?=some v→∃ t,v=Value.int ((k+j:Nat):Int) t)→Vals ((List.range' k m).map fun (i:Nat)=>V.int (i:Int)) us:=by
    intro m
    induction m with
    | zero=>intro us k hu _;rw [List.length_eq_zero_iff.mp hu];exact .nil
    | succ m ih =>
      intro us k hu h
      cases us with
      | nil=>simp at hu
      | cons u us =>
        rw [List.range'_succ]
        refine .cons ?_ (ih us (k+1) (by simpa using hu) fun j v e=>?_)
        · obtain ⟨t,e⟩:=h 0 u rfl
          exact ⟨t,by simpa using e⟩
        · obtain ⟨t,e⟩:=h (j+1) v (by simpa using e)
          exact ⟨t,by rw [e];congr 1;omega⟩
  rw [List.range_eq_range']
  refine go n acc.toList 0 (by simpa using hz) fun j v e=>?_
  obtain ⟨t,q⟩:=hI j v (by simpa using e)
  exact ⟨t,by rw [q];congr 1;omega⟩
theorem zcv (hc:X.calm=true):CallR X (.type "list") (fun xs H Q=>∃ (p:Addr) (n:Nat),xs=[.ref p]∧H p=some (.rng 0 n)∧n≤1000∧∀ l,H l=none→Q (.ref l) (upd H l (.lst ((List.range n).map fun (i:Nat)=>V.int (i:Int))))):=by
  intro pins s σ H xs us Q I r h
  obtain ⟨p,n,rfl,hp,hn,q⟩:=h
  obtain ⟨u,rfl,ru⟩:=vals1 r
  cases ru
  obtain ⟨t,u,v,e⟩:=(show ∃ t u v,s.heap.get? p=some {cls:=.type "range",data:=.fields #[.int 0 t,.int (n:Int) u,.int 1 v]} from I.hok p _ hp)
  refine call_list_range (n:=n) (I.ok.hd hc) e (small_one (by decide) (by decide) (by omega) (by omega)) (by rw [rangeSize_one];split <;> omega) (Nat.le_trans hn (by decide)) fun h' tk acc c hk ha hI=>?_
  refine ⟨.ref s.heap.objs.size,_,I.laid (o:=.lst _) (t':=tk) hk (Nat.le_refl _) ⟨?_,acc.toList,c,zkg hI,by simpa using ha⟩,rfl,q _ I.fresh⟩
  rw [List.length_map,List.length_range]
  exact Nat.le_trans hn (by decide)
def RdD (X:Cx) (H:Hp) (x:V) (d:PyData):Prop:=∀ (pins:List (Addr × Obj)) (σ:St) (s:Shared) (u:Value),Inv X pins σ H s→RelV x u→∃ as,Reads s.heap u d as
theorem zqg {H:Hp} {i:Int}:RdD X H (.int i) (.int i):=fun _ _ _ u _ r=>by
  obtain ⟨t,rfl⟩:=r
  exact ⟨_,.int i t⟩
theorem rd_bl {H:Hp} {b:Bool}:RdD X H (.bl b) (.bool b):=fun _ _ _ u _ r=>by
  cases (show u=.bool b from r)
  exact ⟨_,.bool b⟩
theorem zds {pins:List (Addr × Obj)} {σ:St} {H:Hp} {s:Shared} (I:Inv X pins σ H s):∀ {xs:List V} {us:List Value} {ds:List PyData},Vals xs us→Paired (RdD X H) xs ds→∃ as,ReadsAll s.heap us ds as
  | _,_,_,.nil,.nil=>⟨_,.nil⟩
  | _,_,_,.cons r t,.cons q t'=>by
    obtain ⟨as,h1⟩:=q pins σ s _ I r
    obtain ⟨bs,h2⟩:=zds I t t'
    exact ⟨_,.cons h1 h2⟩
theorem zad {H:Hp} {a:Addr} {xs:List V} {ds:List PyData} (h:SqL X.K H a xs) (p:Paired (RdD X H) xs ds):RdD X H (.ref a) (.list ds):=fun pins σ s u I r=>by
  cases (show u=.ref a from r)
  obtain ⟨its,rv,⟨o,n,e,c,_,d⟩,_⟩:=I.list h
  obtain ⟨as,hr⟩:=zds I rv p
  exact ⟨_,.list e c d (by simpa using hr)⟩
theorem zcm {α β γ:Type} {F:β→γ→Prop} {f:α→β} {g:α→γ} (h:∀ a,F (f a) (g a)):∀ xs:List α,Paired F (xs.map f) (xs.map g)
  | []=>.nil
  | x::xs=>.cons (h x) (zcm h xs)
theorem zae {H:Hp} {a:Addr} {ns:List Int} (h:SqL X.K H a (ns.map V.int)):RdD X H (.ref a) (.list (ns.map .int)):=zad h (zcm (fun _=>zqg) ns)
theorem zcn {H:Hp} {a:Addr} {ns:List Bool} (h:SqL X.K H a (ns.map V.bl)):RdD X H (.ref a) (.list (ns.map .bool)):=zad h (zcm (fun _=>rd_bl) ns)
structure Enc {α:Type} [DecidableEq α] (f:α→PyData) (n:Nat):Prop where
  eq:∀ a b,PyData.eqv (f a) (f b)=decide (a=b)
  lay:∀ a,(f a).canLay0=true
  dep:∀ a,(f a).depth≤n
theorem enc_int:Enc PyData.int 0:=⟨fun a b=>by
  show (a==b)=_
  by_cases e:a=b
  · subst e;simp
  · simp [e],fun _=>by simp only [PyData.canLay0],fun _=>by simp [PyData.depth]⟩
theorem enc_bool:Enc PyData.bool 0:=⟨fun a b=>by
  show (a==b)=_
  cases a <;> cases b <;> rfl,fun _=>by simp only [PyData.canLay0],fun _=>by simp [PyData.depth]⟩
theorem zej {α:Type} [DecidableEq α] {f:α→PyData} (h:∀ a b,PyData.eqv (f a) (f b)=decide (a=b)):∀ xs ys:List α,PyData.eqvAll (xs.map f) (ys.map f)=decide (xs=ys)
  | [],[]=>by simp [PyData.eqvAll]
  | [],_::_=>by simp [PyData.eqvAll]
  | _::_,[]=>by simp [PyData.eqvAll]
  | x::xs,y::ys=>by
    rw [List.map_cons,List.map_cons,PyData.eqvAll,h,zej h xs ys]
    by_cases e:x=y
    · by_cases e2:xs=ys
      · simp [e,e2]
      · simp [e,e2]
    · simp [e]
theorem zek {α:Type} {f:α→PyData} (h:∀ a,(f a).canLay0=true):∀ xs:List α,PyData.canLayAll0 (xs.map f)=true
  | []=>by simp [PyData.canLayAll0]
  | x::xs=>by rw [List.map_cons,PyData.canLayAll0,h,zek h xs];rfl
theorem zel {α:Type} {f:α→PyData} {n:Nat} (h:∀ a,(f a).depth≤n):∀ xs:List α,PyData.depthAll (xs.map f)≤n
  | []=>by simp [PyData.depthAll]
  | x::xs=>by rw [List.map_cons,PyData.depthAll];exact Nat.max_le.mpr ⟨h x,zel h xs⟩
theorem Enc.list {α:Type} [DecidableEq α] {f:α→PyData} {n:Nat} (e:Enc f n):Enc (fun xs:List α=>PyData.list (xs.map f)) (n+1) :=
  ⟨fun a b=>by rw [PyData.eqv];exact zej e.eq a b,fun a=>by rw [PyData.canLay0];exact zek e.lay a,fun a=>by rw [PyData.depth];exact Nat.succ_le_succ (zel e.dep a)⟩
def rEqE (X:Cx) {α:Type} [DecidableEq α] (f:α→PyData):R2:=fun x y H Q=>∃ a b:α,RdD X H x (f a)∧RdD X H y (f b)∧Q (.bl (decide (a=b))) H
def rNeE (X:Cx) {α:Type} [DecidableEq α] (f:α→PyData):R2:=fun x y H Q=>∃ a b:α,RdD X H x (f a)∧RdD X H y (f b)∧Q (.bl (!decide (a=b))) H
theorem zhh {α:Type} [DecidableEq α] {f:α→PyData} {n:Nat} (e:Enc f n) (hu:X.A.units+64<cLine) (hn:n≤64:=by decide):OpR X (compareOp .Eq) (rEqE X f):=by
  intro pins s σ H x y v u Q I rx ry h
  obtain ⟨a,b,ra,rb,q⟩:=h
  obtain ⟨as,r1⟩:=ra pins σ s v I rx
  obtain ⟨bs,r2⟩:=rb pins σ s u I ry
  refine SeqAt.compareEq_reads r1 r2 (e.lay a) (e.lay b) (Nat.lt_of_le_of_lt (Nat.add_le_add_left (Nat.le_trans (Nat.min_le_left ..) (Nat.le_trans (e.dep a) hn)) _) hu) ?_
  rw [e.eq]
  exact ⟨.bl _,H,I,rfl,q⟩
theorem zem {α:Type} [DecidableEq α] {f:α→PyData} {n:Nat} (e:Enc f n) (hu:X.A.units+64<cLine) (hn:n≤64:=by decide):OpR X (compareOp .NotEq) (rNeE X f):=by
  intro pins s σ H x y v u Q I rx ry h
  obtain ⟨a,b,ra,rb,q⟩:=h
  obtain ⟨as,r1⟩:=ra pins σ s v I rx
  obtain ⟨bs,r2⟩:=rb pins σ s u I ry
  refine SeqAt.compareNe_reads r1 r2 (e.lay a) (e.lay b) (Nat.lt_of_le_of_lt (Nat.add_le_add_left (Nat.le_trans (Nat.min_le_left ..) (Nat.le_trans (e.dep a) hn)) _) hu) ?_
  rw [e.eq]
  exact ⟨.bl _,H,I,rfl,q⟩
theorem znw {T:String}:CallR X (.builtin "isinstance") (fun xs H Q=>∃ x t b,xs=[x,.ty T]∧TyOf X.K H x t∧PySem.W.kitOne X.K t (.type T)=some b∧Q (.bl b) H):=by
  intro pins s σ H xs us Q I r h
  obtain ⟨x,t,b,rfl,ty,e,q⟩:=h
  obtain ⟨u,v,rfl,ru,rv⟩:=vals2 r
  cases (show v=.type T from rv)
  exact zli I ru ty e fun tk=>⟨.bl b,H,I.tok tk,rfl,q⟩
def rIndex:V→List V→Hp→VK→Prop:=fun x vs H Q=>∃ (l:Addr) (ns:List Int) (n:Int),x=.ref l∧vs=[.int n]∧H l=some (.lst (ns.map V.int))∧n∈ns∧Q (.int (ns.idxOf n)) H
theorem znx:MtM X "list.index" rIndex:=by
  intro pins s σ H x vs v us Q I rx rv h
  obtain ⟨l,ns,n,rfl,rfl,hH,hm,q⟩:=h
  cases rx
  obtain ⟨u,rfl,ru⟩:=rv.one
  obtain ⟨t,rfl⟩:=ru
  obtain ⟨z,its,k,r,hl,e⟩:=I.lstM hH
  have hlen:ns.length=its.length:=by simpa using hl
  have hj:ns.idxOf n<ns.length:=List.idxOf_lt_length_of_mem hm
  have hz:ns.length≤sizeLine:=by simpa using z
  have at_:∀ j (h:j<its.toArray.size),eqU (.int n) its.toArray[j]=(ns[j]'(by simpa [hlen] using h)==n):=fun j h=>by
    have hjn:j<ns.length:=by simpa [hlen] using h
    obtain ⟨w,ew,rw'⟩:=r.get (i:=j) (x:=.int ns[j]) (by rw [List.getElem?_map,List.getElem?_eq_getElem hjn];rfl)
    have:its.toArray[j]=w:=by
      have h2:its[j]?=some w:=ew
      obtain ⟨h3,h4⟩:=List.getElem?_eq_some_iff.mp h2
      simpa using h4
    rw [this,zg4 rw' rfl]
    rfl
  refine call_meets F.slot_list_index ⟨_,e,rfl⟩ F.entry_list_index (F.args_list_index_2 _ _) (SeqAt.list_indexAt l its.toArray k _ _ (.int n t) (eqU (.int n)) (ns.idxOf n) (by simpa [← hlen] using hj) ?_ ?_ ?_) ⟨e,?_,?_⟩
  · have h1:=line63
    have:(ns.idxOf n:Int)<(sizeLine:Int)+1:=by omega
    have h2:sizeLine+1<2 ^ 63 - 1:=by rw [sizeLine_eq];decide
    omega
  · rw [at_ _ (by simpa [← hlen] using hj)]
    simp
  · intro m hm' hlt
    rw [at_ m hm']
    have:m<ns.length:=by omega
    exact List.not_of_lt_findIdx (p:=fun x=>x==n) (show m<List.findIdx (fun x=>x==n) ns from hlt)
  · intro y hy
    exact zaz (x:=.int n) ⟨t,rfl⟩ rfl r (by simp [flatV]) y (by simpa using hy)
  · exact ⟨.int (ns.idxOf n),H,I.tok _,⟨_,rfl⟩,q⟩
end
end L2
set_option Elab.async false
set_option linter.all false
set_option maxRecDepth 100000
set_option maxHeartbeats 4000000
namespace L2
open PySem PySem.Spec PyProof.Rows
def CxNo (CX:CXT):Prop:=∀ o H s e s',CX o H s E0 e s'→False
theorem passN {X:Cx} {CX:CXT} (h:CxNo CX):Passes CX X E0:=fun _ _ _ _ _ _ _ q=>(h _ _ _ _ _ q).elim
section
variable {CX:CXT} {P:Program} {w:World} {K:PySem.W.Frag} {mg:Str→Option Value} {base:Heap}
theorem Fun.okX {x qual:Str} {st:Stmt} {f:Addr} {fd:FuncData} {N ps:List Str} {k:Nat} {sp:Sp} (F:Fun K x qual st f fd) (S:FnScope N ps (defScope st)) (len:∀ vs H Q E,sp vs H Q E→vs.length=ps.length)
    (hbody:∀ (cdv:Value) (A:Around) (outer:List Env) (s:Shared) (H:Hp) (vs:List V) (Q:VK) (E:XK),Room k (A.deeper (envOfC qual (defScope st) s.heap.objs.size f cdv))→sp vs H Q E →
      ∃ t,PSs (cxOf CX P w K mg base N qual (defScope st) f cdv A outer s H E).nox (defBody st) t∧t {nx:=fun _ H'=>Q .non H',rt:=Q} (start N vs) H):FnOk P w K mg base CX (k+1) f fd ps sp:=by
  obtain ⟨oc,od,kV,doc,pm,an,cdv,ct,osl,rfl,lk,hcd⟩:=F.ex
  refine fn_of lk hcd S len fun A outer s H vs Q E hr hsp=>?_
  obtain ⟨t,h,q⟩:=hbody cdv A outer s H vs Q E hr hsp
  exact ⟨t,h.nox,q⟩
end
def frCheck (psc:Scope) (pN:List Str) (scope:Scope):List Str→List (Option Nat)→Bool
  | [],[]=>true
  | _::N,none::js=>frCheck psc pN scope N js
  | x::N,some j::js=>(pN[j]?==some x)&&(psc.names.lookup x==some .cell||psc.names.lookup x==some .free)&&(scope.names.lookup x==some .free)&&frCheck psc pN scope N js
  | _,_=>false
def cpCheck (psc:Scope) (pN:List Str) (scope:Scope) (N:List Str) (js:List (Option Nat)):Bool :=
  (scope.kind==.function)&&scope.names.all (fun y=>y.2 != .cell)&&scope.names.all (fun y=>y.2 != .local||scope.names.lookup y.1==some .local) &&
    scope.names.all (fun y=>y.2 != .free||(psc.names.lookup y.1==some .cell||psc.names.lookup y.1==some .free))&&frCheck psc pN scope N js
theorem zaw {env:Env}:∀ {names:List (Str × NameKind)} {x:Str},names.lookup x=some .free →
    (names.map fun (n,k)=>if (k==NameKind.free&&env.scope.kind==.function&&env.kindOf n==some .cell) then (n,NameKind.cell) else (n,k)).lookup x=some .cell ∨
    (names.map fun (n,k)=>if (k==NameKind.free&&env.scope.kind==.function&&env.kindOf n==some .cell) then (n,NameKind.cell) else (n,k)).lookup x=some .free
  | [],_,h=>by simp at h
  | (n,k)::r,x,h=>by
    have ih:=@zaw env r x
    rw [List.map_cons]
    dsimp only
    rw [List.lookup_cons] at h
    cases hx:x==n with
    | true =>
      rw [hx] at h
      have hk:k=.free:=Option.some.inj h
      subst hk
      split
      · exact .inl (by rw [List.lookup_cons,hx])
      · exact .inr (by rw [List.lookup_cons,hx])
    | false =>
      rw [hx] at h
      split
      · rw [List.lookup_cons,hx];exact ih h
      · rw [List.lookup_cons,hx];exact ih h
theorem zco {X:Cx} {psc:Scope} {pN:List Str} {scope:Scope} (e1:X.env.scope=psc) (e2:X.N=pN):∀ {N:List Str} {js:List (Option Nat)},frCheck psc pN scope N js=true→FrOk X N js
  | [],[],_=>trivial
  | _::N,none::js,h=>zco (N:=N) (js:=js) e1 e2 h
  | x::N,some j::js,h=>by
    unfold frCheck at h
    simp only [Bool.and_eq_true,Bool.or_eq_true,beq_iff_eq] at h
    exact ⟨⟨by rw [e2];exact h.1.1.1,by rw [e1];exact h.1.1.2⟩,zco e1 e2 h.2⟩
  | [],_::_,h=>by simp [frCheck] at h
  | _::_,[],h=>by simp [frCheck] at h
theorem zc7 {psc:Scope} {pN:List Str} {scope:Scope}:∀ {N:List Str} {js:List (Option Nat)} {i:Nat} {x:Str} {j:Nat},frCheck psc pN scope N js=true→N[i]?=some x→js[i]?=some (some j)→scope.names.lookup x=some .free
  | [],[],_,_,_,_,e,_=>by simp at e
  | _::N,none::js,0,_,_,_,_,e=>by simp at e
  | _::N,none::js,i+1,x,j,h,e1,e2=>zc7 (N:=N) (js:=js) (i:=i) h (by simpa using e1) (by simpa using e2)
  | y::N,some k::js,0,x,j,h,e1,e2=>by
    unfold frCheck at h
    simp only [Bool.and_eq_true,Bool.or_eq_true,beq_iff_eq] at h
    have:y=x:=by simpa using e1
    rw [← this]
    exact h.1.2
  | y::N,some k::js,i+1,x,j,h,e1,e2=>by
    unfold frCheck at h
    simp only [Bool.and_eq_true] at h
    exact zc7 (N:=N) (js:=js) (i:=i) h.2 (by simpa using e1) (by simpa using e2)
  | [],_::_,_,_,_,h,_,_=>by simp [frCheck] at h
  | _::_,[],_,_,_,h,_,_=>by simp [frCheck] at h
theorem cpS {X:Cx} {scope:Scope} {N:List Str} {js:List (Option Nat)} (psc:Scope) (pN:List Str) (h:cpCheck psc pN scope N js=true) (e1:X.env.scope=psc:=by rfl) (e2:X.N=pN:=by rfl):CpScope X scope N js:=by
  unfold cpCheck at h
  simp only [Bool.and_eq_true,beq_iff_eq,List.all_eq_true,Bool.or_eq_true,bne_iff_ne,ne_eq] at h
  obtain ⟨⟨⟨⟨h1,h2⟩,h3⟩,h4⟩,h5⟩:=h
  refine ⟨h1,h2,fun y hy hl=>?_,fun y hy hf=>?_,zco e1 e2 h5,fun i x j a b=>zaw (zc7 h5 a b)⟩
  · rcases h3 y hy with z | z
    · exact absurd hl z
    · exact z
  · rw [e1]
    rcases h4 y hy with z | z
    · exact absurd hf z
    · exact z
theorem Same.new {H:Hp} {l:Addr} {o:HO} (h:H l=none):Same H (upd H l o):=fun b u e=>by rw [zi (zn e h)];exact e
theorem Same.upd {H H1:Hp} {l:Addr} {o:HO} (s:Same H H1) (h:H l=none):Same H (L2.upd H1 l o):=fun b u e=>by rw [zi (zn e h)];exact s b u e
theorem vi {J:It} {g:TG} {te:TE} {p:Addr} {τ0:St} {H1 Hs:Hp} {Q:VK} (n:Nat) (f:Nat→V) (Iv:St→Prop) (s1:Same Hs H1) (hp:Hs p=none) (hn:n≤sizeLine)
    (go:∀ i H2,i<n→Same Hs H2→J.go i H2) (stop:∀ H2,Same Hs H2→J.stop n H2) (i0:Iv τ0)
    (step:∀ (i:Nat) (τ:St) (H2:Hp) (x:V) (H3:Hp) (R:St→V→Hp→Prop),i<n→Iv τ→Same Hs H2→J.yld i H2 x H3→(∀ τ4 H5,Iv τ4→Same H2 H5→R τ4 (f i) H5)→g x τ H3 fun τ4 H4=>te τ4 H4 fun y H5=>R τ4 y H5)
    (fin:∀ H2,Same Hs H2→H2 p=some (.lst ((List.range n).map f))→Q (.ref p) H2) :
    CW J g te p τ0 H1 Q:=by
  refine ⟨fun i m ys τ H2=>m=n - i∧i≤n∧ys=(List.range i).map f∧Same Hs H2∧H2 p=some (.lst ys)∧Iv τ,⟨n,rfl,Nat.zero_le _,rfl,s1.upd hp,ze,i0⟩,?_⟩
  rintro i m ys τ H2 ⟨rfl,hi,rfl,s2,h2,iv⟩
  by_cases hlt:i<n
  · refine .inr ⟨go i H2 hlt s2,fun x H3 y3=>step i τ H2 x H3 _ hlt iv s2 y3 fun τ4 H5 iv4 s5=>?_⟩
    refine ⟨s5 _ _ h2,?_,n - (i+1),by omega,rfl,hlt,?_,(s2.trans s5).upd hp,ze,iv4⟩
    · rw [List.length_map,List.length_range];omega
    · rw [List.range_succ,List.map_append];rfl
  · have e:i=n:=by omega
    subst e
    exact .inl ⟨stop H2 s2,fin H2 s2 h2⟩
theorem zap {K:PySem.W.Frag} {a:Addr} {xs:List V} {g:TG} {tb:TS} {D:Ends} {σ:St} {H:Hp} (Pv:Nat→St→Hp→Prop) (h0:Pv 0 σ H) (hl:∀ i σ H,i≤xs.length→Pv i σ H→SqL K H a xs)
    (hs:∀ (i:Nat) (x:V) (σ:St) (H:Hp) (t:Addr),xs[i]?=some x→Pv i σ H→H t=none→g (.ref t) σ (upd H t (.tup [.int i,x])) fun σ2 H2=>tb {D with nx:=Pv (i+1),ct:=Pv (i+1),bk:=D.nx} σ2 H2) (hd:∀ σ H,Pv xs.length σ H→D.nx σ H) :
    ∃ W:Nat→Nat→St→Hp→Prop,(∃ m,W 0 m σ H)∧∀ i m σ H,W i m σ H →
      ((Ite K a).stop i H∧D.nx σ H)∨((Ite K a).go i H∧∃ N:St→Hp→Prop,(∀ σ' H',N σ' H'→∃ m',m'<m∧W (i+1) m' σ' H')∧∀ x H',(Ite K a).yld i H x H'→g x σ H' fun σ2 H2=>tb {D with nx:=N,ct:=N,bk:=D.nx} σ2 H2):=by
  refine ⟨fun i m σ H=>m=xs.length - i∧i≤xs.length∧Pv i σ H,⟨xs.length,by simp,Nat.zero_le _,h0⟩,?_⟩
  rintro i m σ H ⟨rfl,hi,p⟩
  have q:=hl i σ H hi p
  by_cases hlt:i<xs.length
  · refine .inr ⟨⟨xs,xs[i],q,by simp [hlt]⟩,Pv (i+1),fun σ' H' p'=>⟨xs.length - (i+1),by omega,rfl,hlt,p'⟩,fun x H' y=>?_⟩
    obtain ⟨t,z,rfl,ht,rfl,y⟩:=y
    exact hs i z σ H t (y xs q) p ht
  · have e:i=xs.length:=by omega
    subst e
    exact .inl ⟨⟨xs,q,Nat.le_refl _⟩,hd σ H p⟩
theorem zbc (xs:List V) (k:Nat):cutV xs (some (k:Int)) none=xs.drop k:=by
  unfold cutV
  rw [HT.sIx_nat,HT.sIx_none]
  by_cases h:k≤xs.length
  · rw [Nat.min_eq_left h,List.take_of_length_le (by rw [List.length_drop];exact Nat.le_refl _)]
  · rw [Nat.min_eq_right (by omega),List.drop_of_length_le (by omega:xs.length≤xs.length),List.drop_of_length_le (by omega:xs.length≤k),List.take_nil]
theorem zcc (xs:List V) (k:Nat):cutV xs none (some (k:Int))=xs.take k:=by
  unfold cutV
  rw [HT.sIx_nat,HT.sIx_none,List.drop_zero,Nat.sub_zero]
  by_cases h:k≤xs.length
  · rw [Nat.min_eq_left h]
  · rw [Nat.min_eq_right (by omega),List.take_of_length_le (Nat.le_refl _),List.take_of_length_le (by omega)]
theorem zcp (n:Int):∀ ns:List Int,inV (.int n) (ns.map V.int)=decide (n∈ns)
  | []=>by simp [inV]
  | m::ns=>by
    have ih:=zcp n ns
    unfold inV at ih ⊢
    rw [List.map_cons,List.any_cons,ih]
    show ((m==n)||_)=_
    by_cases e:m=n
    · simp [e]
    · have e':¬ n=m:=fun h=>e h.symm
      simp [e,e']
theorem zc8 (ns:List Int):(ns.map V.int).all flatV=true:=by
  rw [List.all_map,List.all_eq_true]
  intro x _
  rfl
theorem iteD {c A B:Prop} [Decidable c] (h1:c→A) (h2:¬ c→B):if decide c=true then A else B:=by
  by_cases h:c
  · rw [if_pos (decide_eq_true h)];exact h1 h
  · rw [if_neg (by simpa using h)];exact h2 h
theorem iteND {c A B:Prop} [Decidable c] (h1:¬ c→A) (h2:c→B):if (!decide c)=true then A else B:=by
  by_cases h:c
  · rw [if_neg (by simpa using h)];exact h2 h
  · rw [if_pos (by simpa using h)];exact h1 h
theorem iteB {b:Bool} {A B:Prop} (h1:b=true→A) (h2:b=false→B):if b=true then A else B:=by
  cases b with
  | true=>rw [if_pos rfl];exact h1 rfl
  | false=>rw [if_neg (by decide)];exact h2 rfl
section
variable {X:Cx}
def g2 (K:PySem.W.Frag) (i j:Nat):TG:=fun v σ H Q=>∃ a x y,v=.ref a∧SqT K H a [x,y]∧Q ((σ.set i (some x)).set j (some y)) H
theorem zbs {x y:Str} {px py:Pos} {k:Nat} {pos:Pos} (i j:Nat) (hc:X.calm=true) (hN:X.N.Nodup) (hi:X.N[i]?=some x) (hj:X.N[j]?=some y) (hx:X.env.scope.names.lookup x=some .local) (hy:X.env.scope.names.lookup y=some .local) :
    PG X (.Tuple [.Name x px,.Name y py] k pos) (g2 X.K i j):=by
  intro pins s σ H v u Q I r h
  obtain ⟨a,v1,v2,rfl,hq,q⟩:=h
  refine zlc hc (zcg (zy (i:=i) hN hi (.inl hx) (.inr hx)) (zcg (zy (i:=j) hN hj (.inl hy) (.inr hy)) zjc)) rfl rfl pins s σ H (.ref a) u Q I r ?_
  exact ⟨a,_,rfl,hq,rfl,_,_,rfl,_,_,rfl,rfl,q⟩
end
theorem PE.imp {X:Cx} {e:Expr} {t t':TE} (h:PE X e t) (k:∀ σ H Q,t' σ H Q→t σ H Q):PE X e t':=fun pins s σ H Q I q=>h pins s σ H Q I (k σ H Q q)
theorem vf {K:PySem.W.Frag} {a:Addr} {xs:List V} {g:TG} {te:TE} {p:Addr} {τ0:St} {H1 Hs:Hp} {Q:VK} (f:Nat→V) (Iv:St→Prop) (s1:Same Hs H1) (hp:Hs p=none) (ha:SqL K Hs a xs) (hn:xs.length≤sizeLine) (i0:Iv τ0)
    (step:∀ (i:Nat) (x:V) (τ:St) (H2:Hp) (R:St→V→Hp→Prop),xs[i]?=some x→Iv τ→Same Hs H2→(∀ τ4 H5,Iv τ4→Same H2 H5→R τ4 (f i) H5)→g x τ H2 fun τ4 H4=>te τ4 H4 fun y H5=>R τ4 y H5)
    (fin:∀ H2,Same Hs H2→H2 p=some (.lst ((List.range xs.length).map f))→Q (.ref p) H2) :
    CW (Itl K a) g te p τ0 H1 Q:=by
  refine vi (J:=Itl K a) xs.length f Iv s1 hp hn (fun i H2 hi s2=>⟨xs,xs[i],s2.seq ha,List.getElem?_eq_getElem hi⟩) (fun H2 s2=>⟨xs,s2.seq ha,Nat.le_refl _⟩) i0 ?_ fin
  rintro i τ H2 x H3 R hi iv s2 ⟨rfl,y⟩ k
  exact step i x τ _ R (y xs (s2.seq ha)) iv s2 k
def tCut (t:TS):TS:=fun D σ H=>∃ M:St→Hp→Prop,t {D with nx:=M} σ H∧∀ σ' H',M σ' H'→D.nx σ' H'
theorem wu {X:Cx} {st:Stmt} {t:TS} (h:PS X st t):PS X st (tCut t):=by
  intro pins s σ H D I q
  obtain ⟨M,q1,q2⟩:=q
  refine thn (h pins s σ H _ I q1) fun f s1 z=>?_
  cases f with
  | next=>obtain ⟨σ',H',I',m⟩:=z;exact ⟨σ',H',I',q2 σ' H' m⟩
  | brk=>exact z
  | cont=>exact z
  | ret u=>exact z
end L2
set_option Elab.async false
set_option linter.all false
set_option maxRecDepth 100000
set_option maxHeartbeats 4000000
namespace L2
open PySem PySem.Spec PyProof.Rows
section
variable {X:Cx}
def PCh (X:Cx) (ops:List CmpOp) (es:List Expr) (t:V→TT):Prop :=
  ∀ (pos:Pos) (pins:List (Addr × Obj)) (s:Shared) (σ:St) (H:Hp) (x:V) (v:Value) (Q:Bool→Hp→Prop),Inv X pins σ H s→RelV x v→t x σ H Q →
    wpAny (model X.prog X.w) X.A (testChain pos v ops (evalEach es X.env)) (TP X pins σ Q) X.xe s
def cLast (r:R2) (tb:TE):V→TT:=fun x σ H Q=>tb σ H fun y H1=>r x y H1 fun z H2=>∃ k,z=.bl k∧Q k H2
def cLink (r:R2) (tb:TE) (t:V→TT):V→TT:=fun x σ H Q=>tb σ H fun y H1=>r x y H1 fun z H2=>∃ k,z=.bl k∧if k=true then t y σ H2 Q else Q false H2
theorem zhi {op:CmpOp} {r:R2} {b:Expr} {tb:TE} (ho:OpR X (compareOp op) r) (hb:PE X b tb):PCh X [op] [b] (cLast r tb):=by
  intro pos pins s σ H x v Q I rx h
  refine test_last (thn (hb pins s σ H _ I h) fun u s2 ⟨y,H2,I2,r2,q2⟩=>thn (ho pins s2 σ H2 x y v u _ I2 rx r2 q2) fun d s3 ⟨z,H3,I3,r3,k,e,q3⟩=>?_)
  subst e
  cases r3
  exact wpAny_truthy_bool ⟨H3,I3,q3⟩
theorem zbt {op op':CmpOp} {ops:List CmpOp} {r:R2} {b b':Expr} {es:List Expr} {tb:TE} {t:V→TT} (ho:OpR X (compareOp op) r) (hb:PE X b tb) (hr:PCh X (op'::ops) (b'::es) t) :
    PCh X (op::op'::ops) (b::b'::es) (cLink r tb t):=by
  intro pos pins s σ H x v Q I rx h
  refine test_link (thn (hb pins s σ H _ I h) fun u s2 ⟨y,H2,I2,r2,q2⟩=>thn (ho pins s2 σ H2 x y v u _ I2 rx r2 q2) fun d s3 ⟨z,H3,I3,r3,k,e,q3⟩=>?_)
  subst e
  cases r3
  refine wpAny_truthy_bool ?_
  cases k with
  | false=>exact ite_ff ⟨H3,I3,q3⟩
  | true=>exact ite_tt (hr pos pins s3 σ H3 y u Q I3 r2 q3)
theorem zf3 {a b b':Expr} {op op':CmpOp} {ops:List CmpOp} {es:List Expr} {pos:Pos} {ta:TE} {t:V→TT} (ha:PE X a ta) (h:PCh X (op::op'::ops) (b::b'::es) t)
    (hm:lastMarks (op::op'::ops) (b::b'::es)=false:=by with_unfolding_all rfl):PT X (.Compare a (op::op'::ops) (b::b'::es) pos) (fun σ H Q=>ta σ H fun x H1=>t x σ H1 Q):=by
  intro pins s σ H Q I q
  exact isTrue_chain (thn (ha pins s σ H _ I q) fun v s1 ⟨x,H1,I1,r1,q1⟩=>h pos pins s1 σ H1 x v Q I1 r1 q1) hm
end
theorem zny {K:PySem.W.Frag} {a:Addr} {xs:List V} {g:TG} {te:TE} {p:Addr} {τ0:St} {H1 Hs:Hp} {Q:VK} (f:Nat→V) (Iv:St→Prop) (s1:Same Hs H1) (hp:Hs p=none) (ha:∀ H2,Same Hs H2→SqT K H2 a xs) (hn:xs.length≤sizeLine) (i0:Iv τ0)
    (step:∀ (i:Nat) (x:V) (τ:St) (H2:Hp) (R:St→V→Hp→Prop),xs[i]?=some x→Iv τ→Same Hs H2→(∀ τ4 H5,Iv τ4→Same H2 H5→R τ4 (f i) H5)→g x τ H2 fun τ4 H4=>te τ4 H4 fun y H5=>R τ4 y H5)
    (fin:∀ H2,Same Hs H2→H2 p=some (.lst ((List.range xs.length).map f))→Q (.ref p) H2) :
    CW (Itt K a) g te p τ0 H1 Q:=by
  refine vi (J:=Itt K a) xs.length f Iv s1 hp hn (fun i H2 hi s2=>⟨xs,xs[i],ha H2 s2,List.getElem?_eq_getElem hi⟩) (fun H2 s2=>⟨xs,ha H2 s2,Nat.le_refl _⟩) i0 ?_ fin
  rintro i τ H2 x H3 R hi iv s2 ⟨rfl,y⟩ k
  exact step i x τ _ R (y xs (ha _ s2)) iv s2 k
end L2
set_option Elab.async false
set_option linter.all false
set_option maxRecDepth 100000
namespace SW
open PySem
def Ris (xs:Array Nat):Prop:=∀ (i k u v:Nat),i<k→xs[i]?=some u→xs[k]?=some v→u<v
theorem ze7 {xs:Array Nat} {j:Nat} (hr:Ris xs):∀ (fuel lo hi:Nat),lo≤hi→hi≤xs.size→hi - lo≤fuel →
    (∀ i v,i<lo→xs[i]?=some v→v<j)→(∀ i v,hi≤i→xs[i]?=some v→j≤v) →
    SetTable.below.go xs j fuel lo hi≤xs.size∧(∀ i v,i<SetTable.below.go xs j fuel lo hi→xs[i]?=some v→v<j)∧(∀ i v,SetTable.below.go xs j fuel lo hi≤i→xs[i]?=some v→j≤v)
  | 0,lo,hi,h1,h2,h3,hl,hh=>by
    have e:lo=hi:=by omega
    subst e
    unfold SetTable.below.go
    exact ⟨h2,hl,hh⟩
  | fuel+1,lo,hi,h1,h2,h3,hl,hh=>by
    unfold SetTable.below.go
    by_cases hlt:lo<hi
    · rw [if_pos hlt]
      have hm:(lo+hi) / 2<xs.size:=by omega
      have em:xs[(lo+hi) / 2]?=some xs[(lo+hi) / 2]:=Array.getElem?_eq_getElem hm
      have eg:xs.getD ((lo+hi) / 2) j=xs[(lo+hi) / 2]:=by simp [Array.getD,hm]
      dsimp only
      rw [eg]
      by_cases hc:xs[(lo+hi) / 2]<j
      · rw [if_pos hc]
        refine ze7 hr fuel ((lo+hi) / 2+1) hi (by omega) h2 (by omega) (fun i v hi' e=>?_) hh
        by_cases z:i=(lo+hi) / 2
        · rw [z,em] at e;cases e;exact hc
        · exact Nat.lt_trans (hr i _ v _ (by omega) e em) hc
      · rw [if_neg hc]
        refine ze7 hr fuel lo ((lo+hi) / 2) (by omega) (by omega) (by omega) hl (fun i v hi' e=>?_)
        by_cases z:i=(lo+hi) / 2
        · rw [z,em] at e;cases e;omega
        · have:=hr _ i _ v (by omega) em e;omega
    · rw [if_neg hlt]
      have e:lo=hi:=by omega
      subst e
      exact ⟨h2,hl,hh⟩
theorem zen {xs:Array Nat} (hr:Ris xs) (j:Nat):SetTable.below xs j≤xs.size∧(∀ i v,i<SetTable.below xs j→xs[i]?=some v→v<j)∧(∀ i v,SetTable.below xs j≤i→xs[i]?=some v→j≤v):=by
  unfold SetTable.below
  refine ze7 hr xs.size 0 xs.size (Nat.zero_le _) (Nat.le_refl _) (by omega) (fun i v h=>by omega) (fun i v h e=>?_)
  have:=(Array.getElem?_eq_some_iff.mp e).1
  omega
theorem ris_list {xs:Array Nat}:Ris xs↔xs.toList.Pairwise (·<·):=by
  rw [List.pairwise_iff_getElem]
  constructor
  · intro h i j hi hj hij
    exact h i j _ _ hij (by rw [← Array.getElem?_toList,List.getElem?_eq_getElem hi]) (by rw [← Array.getElem?_toList,List.getElem?_eq_getElem hj])
  · intro h i j u v hij e1 e2
    rw [← Array.getElem?_toList] at e1 e2
    obtain ⟨h1,rfl⟩:=List.getElem?_eq_some_iff.mp e1
    obtain ⟨h2,rfl⟩:=List.getElem?_eq_some_iff.mp e2
    exact h i j h1 h2 hij
theorem zkh {xs:Array Nat} {j:Nat} (hr:Ris xs) (hn:xs[SetTable.below xs j]?≠some j):Ris (SetTable.insertAt xs (SetTable.below xs j) j):=by
  obtain ⟨h0,h1,h2⟩:=zen hr j
  generalize SetTable.below xs j=p at *
  rw [ris_list,SetTable.toList_insertAt,List.pairwise_append]
  have hp:=ris_list.mp hr
  refine ⟨hp.sublist (List.take_sublist _ _),?_,?_⟩
  · rw [List.pairwise_cons]
    refine ⟨fun v hv=>?_,hp.sublist (List.drop_sublist _ _)⟩
    obtain ⟨i,hi⟩:=List.mem_iff_getElem?.mp hv
    rw [List.getElem?_drop,Array.getElem?_toList] at hi
    have hle:=h2 (p+i) v (by omega) hi
    by_cases e:v=j
    · subst e
      exfalso
      have hpl:p<xs.size:=by have:=(Array.getElem?_eq_some_iff.mp hi).1;omega
      have ep:xs[p]?=some xs[p]:=Array.getElem?_eq_getElem hpl
      have g:=h2 p _ (Nat.le_refl _) ep
      by_cases z:i=0
      · subst z;exact hn hi
      · have:=hr p (p+i) _ _ (by omega) ep hi;omega
    · omega
  · intro a ha b hb
    obtain ⟨i,hi⟩:=List.mem_iff_getElem?.mp ha
    rw [List.getElem?_take] at hi
    split at hi
    · rw [Array.getElem?_toList] at hi
      have h3:=h1 i a (by assumption) hi
      rcases List.mem_cons.mp hb with rfl | hb
      · exact h3
      · obtain ⟨k,hk⟩:=List.mem_iff_getElem?.mp hb
        rw [List.getElem?_drop,Array.getElem?_toList] at hk
        have:=h2 _ b (Nat.le_add_right p k) hk
        omega
    · cases hi
structure TOk (tx:Bool) (t:SetTable):Prop where
  led:t.led=!tx
  dum:t.dummies=#[]
  ris:t.plain=true→Ris t.place
theorem zl5 (tx:Bool):TOk tx (.fresh 0 0 (!tx)):=⟨rfl,rfl,fun _ i k u v _ e _=>by simp [SetTable.fresh] at e⟩
theorem zbz {tx:Bool} {t:SetTable} (h:TOk tx t) (n:Nat):TOk tx (t.standIn n):=⟨h.led,rfl,fun e=>by simp [SetTable.standIn] at e⟩
theorem zdt {t:SetTable} (hd:t.dummies=#[]) {f:Nat→Int} {h:Int}:∀ (fuel:Nat) (p:SetTable.Probe) (j:Nat) (d:Option Nat),SetTable.probe.go t f h fuel p=some (.empty j d)→t.slot j=.empty∧d=p.dummy
  | 0,p,j,d,e=>by simp [SetTable.probe.go] at e
  | fuel+1,p,j,d,e=>by
    unfold SetTable.probe.go at e
    have nd:t.slot p.j≠.dummy:=by
      unfold SetTable.slot
      dsimp only
      rw [hd]
      split
      · intro z;cases z
      · simp [SetTable.has]
    have adv:(t.advance p).dummy=p.dummy:=by
      unfold SetTable.advance
      split <;> rfl
    cases hs:t.slot p.j with
    | empty =>
      rw [hs] at e
      injection e with e
      injection e with e1 e2
      subst e1
      exact ⟨hs,e2.symm⟩
    | dummy=>exact absurd hs nd
    | live i =>
      rw [hs] at e
      dsimp only at e
      split at e
      · cases e
      · obtain ⟨g1,g2⟩:=zdt hd fuel _ j d e
        exact ⟨g1,g2.trans adv⟩
theorem zki {t:SetTable} {j:Nat} (h:t.slot j=.empty):t.place[SetTable.below t.place j]?≠some j:=by
  intro e
  unfold SetTable.slot at h
  dsimp only at h
  rw [if_pos (by rw [e];simp)] at h
  cases h
theorem zpb {tx:Bool} {t:SetTable} {j:Nat} (h:TOk tx t) (hj:t.slot j=.empty):TOk tx (t.put j).1:=by
  unfold SetTable.put
  refine ⟨h.led,?_,fun e=>zkh (h.ris e) (zki hj)⟩
  dsimp only
  rw [h.dum]
  simp [SetTable.has]
theorem zpc {tx:Bool} {t:SetTable} (h:TOk tx t) (es:Array (Int × Value)) (k:Int) (x:Value):TOk tx (layNew t es k x).2.1:=by
  unfold layNew
  split
  · rename_i slot wd hf
    unfold SetTable.freeSlot at hf
    have hs:t.slot slot=.empty:=by
      cases hp:t.probe (fun _=>k+1) k (t.probeStart k) with
      | none=>rw [hp] at hf;cases hf
      | some m =>
        rw [hp] at hf
        cases m with
        | candidate _ _ _=>cases hf
        | empty j d =>
          obtain ⟨g1,g2⟩:=zdt h.dum _ _ j d hp
          have g2:d=none:=g2
          subst g2
          injection hf with hf
          injection hf with hf _
          have hf:j=slot:=hf
          rw [← hf];exact g1
    have g:=zpb h hs
    dsimp only
    unfold SetTable.orStandIn
    split
    · exact g
    · exact zbz g _
  · exact zbz h _
theorem zl6 {tx:Bool} {t:SetTable} (h:TOk tx t) (es:Array (Int × Value)) (n:Nat):TOk tx (relayAll t es n).2.1:=by
  unfold relayAll
  split
  · rename_i t' order hr
    dsimp only
    split
    · unfold SetTable.relaid SetTable.laid at hr
      cases ho:SetTable.layClean (SetTable.sizeAbove n - 1) (es.map (·.1)) with
      | none=>rw [ho] at hr;cases hr
      | some owner =>
        rw [ho] at hr
        injection hr with hr
        injection hr with hr _
        subst hr
        refine ⟨h.led,rfl,fun _=>?_⟩
        rw [ris_list]
        dsimp only
        rw [List.pairwise_map]
        refine List.Pairwise.filterMap _ ?_ (List.pairwise_lt_range (n:=SetTable.sizeAbove n - 1+1))
        intro a a' haa b hb b' hb'
        obtain ⟨_,_,rfl⟩:=Option.map_eq_some_iff.mp hb
        obtain ⟨_,_,rfl⟩:=Option.map_eq_some_iff.mp hb'
        exact haa
    · exact zbz h _
  · exact zbz h _
theorem zl7 {tx:Bool} {t:SetTable} (h:TOk tx t):TOk tx {t with plain:=false}:=⟨h.led,h.dum,fun e=>by cases e⟩
theorem zcq {α:Type}:∀ {l:List α} {i:Nat} (h:i<l.length),(l[i]::l.eraseIdx i).Perm l
  | x::l,0,_=>.refl _
  | x::l,i+1,h=>((List.Perm.swap _ _ _).trans ((zcq (l:=l) (i:=i) (by simpa using h)).cons x))
theorem zjn {α:Type} (next:Nat→Nat):∀ (fuel k:Nat) (left:List α) (out:Array α),left.length=fuel→(pickOrder.go next fuel k left out).toList.Perm (out.toList++left)
  | 0,k,left,out,h=>by
    rw [List.length_eq_zero_iff.mp h]
    unfold pickOrder.go
    simp
  | fuel+1,k,left,out,h=>by
    unfold pickOrder.go
    have hl:next k % left.length<left.length:=Nat.mod_lt _ (by omega)
    rw [List.getElem?_eq_getElem hl]
    dsimp only
    refine (zjn next fuel (k+1) _ _ (by rw [List.length_eraseIdx_of_lt hl];omega)).trans ?_
    rw [Array.toList_push,List.append_assoc]
    refine List.Perm.append_left _ ?_
    exact zcq hl
theorem zl8 {α:Type} (next:Nat→Nat) (xs:Array α):(pickOrder next xs).toList.Perm xs.toList:=by
  unfold pickOrder
  have:=zjn next xs.size 0 xs.toList #[] (by simp)
  simpa using this
end SW
set_option Elab.async false
set_option linter.all false
set_option maxRecDepth 100000
namespace SW
open PySem
abbrev tx (w:World):Bool:=w.params.followText "set-order"
section
variable {prog:Program} {w:World} {A:Around} {E:Value→Shared→Prop} {s:Shared}
def SetR (prog:Program) (w:World) (h:Heap) (a:Addr) (S:Int→Bool) (n:Nat):Prop :=
  ∃ o es ep t,h.get? a=some o∧o.ExactSet∧o.data=.set es ep t∧ElemsOf (intKind prog w) es.toList∧(∀ k,S k=true↔∃ e∈es.toList,(intKind prog w).is k e.2=true) ∧
    es.size<scanBound∧t.fits es.size=true∧es.size=n∧TOk (tx w) t
theorem SetR.at {h h':Heap} {a:Addr} {S:Int→Bool} {n:Nat} (r:SetR prog w h a S n) (k:∀ o,h.get? a=some o→h'.get? a=some o):SetR prog w h' a S n:=by
  obtain ⟨o,es,ep,t,ho,z⟩:=r
  exact ⟨o,es,ep,t,k o ho,z⟩
theorem SetR.congr {h:Heap} {a:Addr} {S S':Int→Bool} {n n':Nat} (r:SetR prog w h a S n) (e:∀ k,S k=S' k) (en:n=n'):SetR prog w h a S' n':=by
  obtain rfl:S=S':=funext e
  subst en
  exact r
theorem zeo {h:Heap} {a:Addr} {o:Obj} {es es':Array (Int × Value)} {ep:Nat} {t t':SetTable} {S':Int→Bool} (ho:h.get? a=some o) (hex:o.ExactSet) (hd:o.data=.set es ep t)
    (hel:ElemsOf (intKind prog w) es'.toList) (hmem:∀ k,S' k=true↔∃ e∈es'.toList,(intKind prog w).is k e.2=true) (hb:es'.size<scanBound) (hf:t'.fits es'.size=true) (hk:TOk (tx w) t') :
    (h.update a (Obj.putSet es' t')).get? a=some {o with data:=.set es' (ep+1) t'}∧SetR prog w (h.update a (Obj.putSet es' t')) a S' es'.size:=by
  obtain ⟨g,_⟩:=SetOf_store (knd:=intKind prog w) ho hex hd hel hmem hb hf
  exact ⟨g,_,es',ep+1,t',g,hex,rfl,hel,hmem,hb,hf,rfl,hk⟩
theorem zpd (b:Bool) {s₁:Shared} {Q':Unit→Shared→Prop} (q:Q' () s₁):wpAny (model prog w) A (match b with | true=>rule "set.scan.the-table-gave-way" | false=>pure ()) Q' E s₁:=by
  cases b
  · exact wpAny_pure q
  · exact wpAny_rule q
theorem zl9 {g:Bool→Sem Unit} (hg:∀ (b:Bool) (s₁:Shared) (Q':Unit→Shared→Prop),Q' () s₁→wpAny (model prog w) A (g b) Q' E s₁) {a:Addr} {o:Obj} {es es1:Array (Int × Value)} {ep:Nat} {t t2:SetTable} {S':Int→Bool} {wd:Bool} {R:Option Bool→Shared→Prop}
    (ho:s.heap.get? a=some o) (hex:o.ExactSet) (hd:o.data=.set es ep t) (hel1:ElemsOf (intKind prog w) es1.toList) (hmem1:∀ k,S' k=true↔∃ e∈es1.toList,(intKind prog w).is k e.2=true)
    (hb1:es1.size<scanBound) (hf2:t2.fits es1.size=true) (hk:TOk (tx w) t2) (h:∀ h',Heap.SameBut a s.heap h'→SetR prog w h' a S' es1.size→R (some true) {s with heap:=h'}) :
    wpAny (model prog w) A (do
        storeSet a es1 t2
        if (!wd&&t2.tooFull)=true then do
            g (relayAll t2 es1 (SetTable.grown es1.size)).2.2
            storeSet a (relayAll t2 es1 (SetTable.grown es1.size)).1 (relayAll t2 es1 (SetTable.grown es1.size)).2.1
            pure (some true)
          else pure (some true)) R E s:=by
  obtain ⟨ho1,hS1⟩:=zeo (prog:=prog) (S':=S') ho hex hd hel1 hmem1 hb1 hf2 hk
  have sb:=Heap.SameBut.update s.heap a (Obj.putSet es1 t2)
  refine wpAny_bind (wpAny_storeSet_of ho hd ?_ (fits_of_scanBound hb1))
  split
  · have hp:=relayAll_perm t2 es1 (SetTable.grown es1.size)
    have hfr:=relayAll_fits t2 es1 (SetTable.grown es1.size)
    have hkr:=zl6 hk es1 (SetTable.grown es1.size)
    generalize relayAll t2 es1 (SetTable.grown es1.size)=L at hp hfr hkr ⊢
    obtain ⟨es2,t3,gv⟩:=L
    have hz:es2.size=es1.size:=by
      have:=hp.length_eq
      simpa using this
    have hb2:es2.size<scanBound:=by rw [hz];exact hb1
    refine wpAny_bind (hg _ _ _ (wpAny_bind (wpAny_storeSet_of ho1 rfl ?_ (fits_of_scanBound hb2))))
    obtain ⟨_,hS2⟩:=zeo (prog:=prog) (S':=S') ho1 hex rfl (hel1.perm hp) (fun k=>(hmem1 k).trans ⟨fun ⟨e,m,q⟩=>⟨e,hp.mem_iff.mpr m,q⟩,fun ⟨e,m,q⟩=>⟨e,hp.mem_iff.mp m,q⟩⟩) hb2 hfr hkr
    rw [hz] at hS2
    exact wpAny_pure (h _ (sb.trans (Heap.SameBut.update _ a _)) hS2)
  · exact wpAny_pure (h _ sb hS1)
theorem add_R {a:Addr} {S:Int→Bool} {n:Nat} {k:Int} {x:Value} {Q:Bool→Shared→Prop} (hkey:(intKind prog w).is k x=true) (hsc:x.scannable=true) (r:SetR prog w s.heap a S n) (room:n+1<scanBound)
    (h:∀ h',Heap.SameBut a s.heap h'→SetR prog w h' a (fun k'=>S k'||decide (k'=k)) (if S k then n else n+1)→Q (!S k) {s with heap:=h'}) :
    wpAny (model prog w) A (setAddHashed a x ((intKind prog w).hash k)) Q E s:=by
  obtain ⟨o,es,ep,t,ho,hex,hd,hel,hmem,hb,hf,hn,hk⟩:=r
  unfold setAddHashed setAddHashedIn
  refine wpAny_holding (wpAny_bind (wpAny_setState_of ho hd hf ?_))
  dsimp only
  rw [byScan_of hsc hb hel]
  simp only [↓reduceIte]
  unfold setAddByScan
  refine wpAny_bind ?_
  refine wpAny_bind (wpAny_rule (wpAny_bind (wpAny_setScan_of hkey ho hd hf hel ?_)))
  cases hr:List.findIdx? (fun e=>(intKind prog w).is k e.2) es.toList with
  | some j =>
    obtain ⟨hj,hpj,_⟩:=List.findIdx?_eq_some_iff_getElem.mp hr
    have hSk:S k=true:=(hmem k).mpr ⟨_,List.getElem_mem hj,hpj⟩
    have q:=h s.heap (Heap.SameBut.refl a s.heap) ⟨o,es,ep,t,ho,hex,hd,hel,fun k'=>by
      rw [Bool.or_eq_true,decide_eq_true_eq,← hmem k']
      exact ⟨fun z=>z.elim id fun e=>e ▸ hSk,.inl⟩,hb,hf,by rw [hSk];exact hn,hk⟩
    rw [hSk] at q
    exact wpAny_pure (wpAny_pure q)
  | none =>
    have hSk:S k=false:=by
      cases hq:S k with
      | false=>rfl
      | true =>
        obtain ⟨e,m,p⟩:=(hmem k).mp hq
        have:=List.findIdx?_eq_none_iff.mp hr e m
        rw [p] at this
        cases this
    have hperm:=layNew_perm t es ((intKind prog w).hash k) x
    have hfits:=layNew_fits t es ((intKind prog w).hash k) x
    have htok:=zpc hk es ((intKind prog w).hash k) x
    dsimp only
    generalize layNew t es ((intKind prog w).hash k) x=L at hperm hfits htok ⊢
    obtain ⟨es1,t1,wd,gv⟩:=L
    dsimp only at hperm hfits htok ⊢
    rw [Array.toList_push] at hperm
    have hz:es1.size=n+1:=by
      have:=hperm.length_eq
      simpa [hn] using this
    have fin:∀ h',Heap.SameBut a s.heap h'→SetR prog w h' a (fun k'=>S k'||decide (k'=k)) es1.size→Q true {s with heap:=h'}:=fun h' sb r'=>by
      have q:=h h' sb
      rw [hSk] at q
      rw [hz] at r'
      exact q r'
    have hb1:es1.size<scanBound:=by rw [hz];exact room
    refine wpAny_bind (zpd _ ?_)
    split
    · refine wpAny_bind ?_
      rw [hashByValue_scannable 8 hsc]
      refine wpAny_pure (zl9 (fun b s₁ Q' q=>?_) ho hex hd ((hel.push hkey hsc).perm hperm) (mem_push_iff hkey hmem hperm) hb1 ?_ ?_ fun h' sb r'=>?_)
      · cases b
        · exact wpAny_pure q
        · exact wpAny_rule q
      · split
        · exact hfits
        · exact SetTable.fits_plain_off hfits
      · split
        · exact htok
        · exact zl7 htok
      · exact wpAny_pure (fin h' sb r')
    · refine wpAny_bind (wpAny_pure ?_)
      simp only [↓reduceIte]
      refine zl9 (fun b s₁ Q' q=>?_) ho hex hd ((hel.push hkey hsc).perm hperm) (mem_push_iff hkey hmem hperm) hb1 hfits htok fun h' sb r'=>?_
      · cases b
        · exact wpAny_pure q
        · exact wpAny_rule q
      · exact wpAny_pure (fin h' sb r')
end
end SW
set_option Elab.async false
set_option linter.all false
set_option maxRecDepth 100000
namespace SW
open PySem PySem.Spec PyProof.Rows
section
variable {prog:Program} {w:World} {A:Around} {E:Value→Shared→Prop} {R:Result→Shared→Prop} {I:Addr} {fp wr:List Addr} {G:Array GenState→Array GenState→Prop} {n:Nat} {P:Nat→Value→Prop} {St:Nat→Shared→Prop} {s:Shared}
abbrev metB (val:Nat→Int) (i:Nat):Int→Bool:=fun k=>(firstMet val i).any (·==k)
theorem zqh (W:WalksS prog w A.in1 I fp wr G n P St) (S:Addr) (hSf:S ∉ fp) (val:Nat→Int) (hval:∀ i v,P i v→∃ t,v=.int (val i) t) (hb:n+1<scanBound) :
    ∀ (k i:Nat) (s:Shared),n - i=k→i≤n→St i s→SetR prog w s.heap S (metB val i) (firstMet val i).length →
      (∀ s',Moved (S::wr) G s s'→SetR prog w s'.heap S (metB val n) (firstMet val n).length→R (.ok (.ret .none)) s') →
      codeAny (model prog w) A (.builtin "set.update.loop" ⟨[.ref S,.ref I],[]⟩) R s:=by
  have nw:S ∉ wr:=fun h=>hSf (W.sub _ h)
  have up:∀ b∈wr,b∈S::wr:=fun b h=>List.mem_cons_of_mem _ h
  intro k
  induction k with
  | zero =>
    intro i s hk hi st r hR
    obtain rfl:i=n:=by omega
    refine codeAny_builtin F.entry_set_update_loop ?_
    rw [Around.under_plainId F.plain_set_update_loop _]
    show wpAny _ A.in1 (pyNext (.ref I) >>= _) _ _ s
    refine wpAny_bind (W.done s _ _ st fun s' hm=>?_)
    show wpAny _ A.in1 (ret Value.none) _ _ s'
    exact wpAny_pure (hR s' (hm.mono up) (r.at fun o e=>hm.heap S o nw e))
  | succ k ih =>
    intro i s hk hi st r hR
    have hlt:i<n:=by omega
    refine codeAny_builtin F.entry_set_update_loop ?_
    rw [Around.under_plainId F.plain_set_update_loop _]
    show wpAny _ A.in1 (pyNext (.ref I) >>= _) _ _ s
    refine wpAny_bind (W.item i s _ _ hlt st fun v s' hP st' hm=>?_)
    obtain ⟨t,rfl⟩:=hval i v hP
    show wpAny _ A.in1 (holding [Value.int (val i) t] (setAdd S (.int (val i) t)) >>= _) _ _ s'
    refine wpAny_bind (wpAny_holding ?_)
    unfold setAdd
    have room:(firstMet val i).length+1<scanBound:=by have:=firstMet_length_le val i;omega
    refine wpAny_holding (wpAny_bind ((intKind prog w).pyHash (k:=val i) (intKind_is _ _ _ _) (add_R (s:={s' with toks:=s'.toks+1}) (intKind_is _ _ _ _) rfl (r.at fun o e=>hm.heap S o nw e) room fun h' sb r2=>?_)))
    have r3:SetR prog w h' S (metB val (i+1)) (firstMet val (i+1)).length:=r2.congr (fun k'=>by show _=(firstMet val (i+1)).any _;rw [firstMet_succ,step_any]) (by rw [firstMet_succ,step_length])
    refine wpAny_pure ⟨plainId_quiet F.plain_set_update_loop _,ih (i+1) _ (by omega) hlt (W.frame _ s' _ _ st' (Nat.le_succ _) fun b hb o e=>?_) r3 fun s'' hm2 r4=>?_⟩
    · rw [sb.2 b fun z:b=S=>hSf (by rw [← z];exact hb)];exact e
    · refine hR s'' (Moved.trans W.gtrans ((hm.mono up).then_heap (Nat.le_succ _) fun b o hb e=>?_) hm2) r4
      rw [sb.2 b fun z:b=S=>hb (by rw [z];exact List.mem_cons_self)];exact e
abbrev set0 (w:World):Obj:={cls:=.type "set",dict:=none,data:=.set #[] 0 (.fresh 0 0 (!tx w))}
theorem new_R (a:Value) {Q₁:Value→Shared→Prop} (h:Q₁ (.ref s.heap.objs.size) {s with heap:=s.heap.push (set0 w)}) :
    codeAny (model prog w) A (.call (.builtin "set.__new__") ⟨[.type "set",a],[]⟩) (wants Q₁ E) s:=by
  refine codeAny_of_tree ?_
  show wpAny _ A.in1 (do checkBuiltinCall "set.__new__" ⟨[.type "set",a],[]⟩;again (.builtin "set.__new__" ⟨[.type "set",a],[]⟩)) _ _ s
  refine wpAny_bind (wpAny_of_eq (F.newCall_set_1 a) (wpAny_pure ⟨plainId_quiet F.plain_set_new _,codeAny_builtin F.entry_set_new ?_⟩))
  rw [Around.under_plainId F.plain_set_new _]
  unfold Builtin.«set.__new__» Builtin.Frozenset.newClass
  have hsub:=sub_set_self
  obtain ⟨hp,g,d,tk,os⟩:=s
  dsimp only
  wp_walk
  refine wpAny_askSetting (wpAny_pure ?_)
  dsimp only
  simp only [newObj]
  exact wpAny_bind (wpAny_alloc (wpAny_pure (wpAny_pure h)))
set_option maxHeartbeats 3200000 in
theorem set_R {l:Addr} {items:Array Value} {ns:List Int} {Q:Value→Shared→Prop} (hh:A.handled=none) (hl:s.heap.IsList l items) (hi:IntsAre items.toList ns) (hb:items.size+1<scanBound)
    (h:∀ (h':Heap) (tk:Nat),SetR prog w h' s.heap.objs.size (metB (fun i=>ns.getD i 0) items.size) (firstMet (fun i=>ns.getD i 0) items.size).length →
      (∀ b o,b<s.heap.objs.size→s.heap.get? b=some o→h'.get? b=some o)→Q (.ref s.heap.objs.size) {s with heap:=h',toks:=tk}) :
    wpAny (model prog w) A (call (.type "set") [.ref l]) Q E s:=by
  obtain ⟨c,tl,hmro⟩:=F.called_set.mro
  have hmade:=F.called_set.made
  have hsub:=F.called_set.sub
  refine wpAny_call (codeAny_of_tree ?_)
  show wpAny _ _ (callAny (.type "set") _) _ _ _
  refine wpAny_pure ⟨Code.quiet_builtin _ (by decide +kernel),codeAny_builtin F.entry_type_call ?_⟩
  rw [Around.under_plain (weight_type_call_type "set" [.ref l] []) rfl]
  have h1:=F.called_set.notType
  have h2:=F.called_set.canCreate
  have hct:=F.typeCall_set_1 (.ref l)
  repeat (any_goals (first | assumption | wp_step))
  refine codeAny_mono (new_R (.ref l) (E:=E) (Q₁:=fun obj s₁=>obj=.ref s.heap.objs.size∧s₁={s with heap:=s.heap.push (set0 w)}) ⟨rfl,rfl⟩) fun r s₁ hr=>?_
  cases r with
  | error e=>exact hr
  | ok fl =>
    cases fl with
    | ret obj =>
      obtain ⟨rfl,rfl⟩:=hr
      have hS:(s.heap.push (set0 w)).get? s.heap.objs.size=some (set0 w):=Heap.get?_push_size _ rfl
      have hT:Shared.TypeIs {s with heap:=s.heap.push (set0 w)} (.ref s.heap.objs.size) "set":=⟨_,hS,rfl⟩
      have hli:=F.called_set.init.lookup
      have hbi:=F.called_set.init.bind (.ref s.heap.objs.size)
      repeat (any_goals (first | assumption | wp_step))
      refine codeAny_mono (codeAny_call_builtin (R:=wants (fun r s₂=>r=.none∧∃ h' tk,s₂={s with heap:=h',toks:=tk}∧SetR prog w h' s.heap.objs.size (metB (fun i=>ns.getD i 0) items.size) (firstMet (fun i=>ns.getD i 0) items.size).length ∧
          (∀ b o,b<s.heap.objs.size→s.heap.get? b=some o→h'.get? b=some o)) E) F.called_set.init.plain F.entry_set_init (check_set_init_1 hT ?_)) fun r₂ s₂ hr₂=>?_
      · obtain ⟨ol,hol,hcl,nl,hdl⟩:=hl
        obtain ⟨ocls,odict,odata,oslots⟩:=ol
        simp only at hcl hdl
        subst hcl;subst hdl
        have hol':(s.heap.push (set0 w)).get? l=some {cls:=.type "list",dict:=odict,data:=.seq items nl,slots:=oslots}:=Heap.get?_push_of_some _ hol
        have hsls:=F.sub_list_set
        have hslf:=F.sub_list_frozenset
        have hne:(Value.type "list"==Value.type "dict")=false:=by decide
        have hl1:(s.heap.push (set0 w)).IsList l items:=⟨_,hol',rfl,nl,rfl⟩
        unfold Builtin.«set.__init__» noKeywords Builtin.Frozenset.updateFrom
        generalize hPI:pyIter=PI
        wp_walk
        subst hPI
        have hlS:l<s.heap.objs.size:=Heap.lt_size hol
        have hh3:A.in1.in1.in1.handled=none:=by simp [hh]
        have zz:(s.heap.push (set0 w)).objs.size=s.heap.objs.size+1:=Heap.size_push ..
        have nI:l≠(s.heap.push (set0 w)).objs.size:=by rw [zz];exact Nat.ne_of_lt (Nat.lt_succ_of_lt hlS)
        have nf:s.heap.objs.size ∉ [(s.heap.push (set0 w)).objs.size,l]:=by
          rw [zz]
          simp only [List.mem_cons,List.mem_singleton,List.not_mem_nil,or_false,not_or]
          exact ⟨Nat.ne_of_lt (Nat.lt_succ_self _),Nat.ne_of_gt hlS⟩
        refine wpAny_pyIter_list hl1 (wpAny_bind (wpAny_runValue ?_))
        refine zqh ((Walks.list hh3 _ l nI items).toS) s.heap.objs.size nf (fun i=>ns.getD i 0) (fun i v hv=>IntsAre.int_at hi i v (by rw [Array.getElem?_toList];exact hv)) hb (items.size - 0) 0 _ (by omega) (Nat.zero_le _)
          ⟨⟨_,Heap.get?_push_size _ rfl,rfl,rfl⟩,(hl1.push _)⟩ ?hS0 ?hR
        case hS0 =>
          refine ⟨set0 w,#[],0,_,Heap.get?_push_of_some _ hS,⟨rfl,rfl,rfl⟩,rfl,fun e he=>by simp at he,fun k=>?_,by decide,by rfl,rfl,zl5 _⟩
          show ([]:List Int).any _=true↔_
          simp
        case hR =>
          intro s' hm r'
          obtain ⟨h',g',d',tk',os'⟩:=s'
          obtain rfl:g'=s.gens:=hm.gens
          obtain rfl:d'=s.drawn:=hm.drawn
          obtain rfl:os'=s.os:=hm.os
          show wpAny _ _ _ _ _ _
          refine wpAny_pure ?_
          show wpAny _ _ (ret Value.none) _ _ _
          refine wpAny_pure ⟨rfl,h',tk',rfl,r',fun b o hb e=>?_⟩
          refine hm.heap b o ?_ (Heap.get?_push_of_some _ (Heap.get?_push_of_some _ e))
          rw [zz]
          simp only [List.mem_cons,List.mem_singleton,List.not_mem_nil,or_false,not_or]
          exact ⟨Nat.ne_of_lt hb,Nat.ne_of_lt (Nat.lt_succ_of_lt hb)⟩
      · cases r₂ with
        | error e=>exact hr₂
        | ok fl₂ =>
          cases fl₂ with
          | ret r =>
            obtain ⟨rfl,h',tk,rfl,r',hk'⟩:=hr₂
            repeat (any_goals (first | assumption | wp_step))
            exact h _ _ r' hk'
          | _=>exact hr₂.elim
    | _=>exact hr.elim
end
end SW
set_option Elab.async false
set_option linter.all false
set_option maxRecDepth 100000
namespace SW
open PySem PySem.Spec PyProof.Rows
theorem zcw:Slot "set" "__iter__" "set.__iter__" :=
  .of (owner:="set") (n:="__iter__") (by rw [typeLookup_type,builtinLookup_eq_fast];kernel_rfl) (by decide +kernel) (by decide +kernel) (by decide +kernel)
    (by first | exact .inl (by decide +kernel) | exact .inr (by decide +kernel)) (by rw [isSubtype_type];kernel_rfl)
theorem slot_si_next:Slot "set_iterator" "__next__" "set_iterator.__next__" :=
  .of (owner:="set_iterator") (n:="__next__") (by rw [typeLookup_type,builtinLookup_eq_fast];kernel_rfl) (by decide +kernel) (by decide +kernel) (by decide +kernel)
    (by first | exact .inl (by decide +kernel) | exact .inr (by decide +kernel)) (by rw [isSubtype_type];kernel_rfl)
theorem zc9:Slot "set_iterator" "__iter__" "set_iterator.__iter__" :=
  .of (owner:="set_iterator") (n:="__iter__") (by rw [typeLookup_type,builtinLookup_eq_fast];kernel_rfl) (by decide +kernel) (by decide +kernel) (by decide +kernel)
    (by first | exact .inl (by decide +kernel) | exact .inr (by decide +kernel)) (by rw [isSubtype_type];kernel_rfl)
theorem ze8:entryFor table "set.__iter__"=some Builtin.«frozenset.__iter__»:=entryFor_alias (id':="frozenset.__iter__") (by kernel_rfl) rfl (by decide +kernel) (by kernel_rfl)
theorem zan:entryFor table "set_iterator.__next__"=some Builtin.«set_iterator.__next__»:=entryFor_of_fast (by kernel_rfl)
theorem zgk:entryFor table "set_iterator.__iter__"=some Builtin.«dict_keyiterator.__iter__»:=entryFor_alias (id':="dict_keyiterator.__iter__") (by kernel_rfl) rfl (by decide +kernel) (by kernel_rfl)
theorem zgl (a:Value):argsOk "set.__iter__" ⟨[a],[]⟩:=by unfold argsOk;kernel_rfl
theorem zau (a:Value):argsOk "set_iterator.__next__" ⟨[a],[]⟩:=by unfold argsOk;kernel_rfl
theorem zhj (a:Value):argsOk "set_iterator.__iter__" ⟨[a],[]⟩:=by unfold argsOk;kernel_rfl
section
variable {prog:Program} {w:World} {A:Around} {E:Value→Shared→Prop} {s:Shared}
theorem zma {src:Source} {n:Nat} {Q:Nat→Shared→Prop} (hn:n≠0) (h:∀ i d,i<n→Q i {s with drawn:=d}):wpAny (model prog w) A (choose src n) Q E s:=fun Γ p hΓ=>by
  show Sem.wp _ _ (Sem.choose src n Sem.pure) _ _ _ _
  rw [Sem.wp_choose]
  refine ⟨hn,?_⟩
  rw [Sem.wp_pure]
  exact h _ _ (Nat.mod_lt _ (Nat.pos_of_ne_zero hn))
theorem zjo {α:Type}:∀ (n:Nat) (xs:List α) (s:Shared) {Q:List α→Shared→Prop},xs.length=n→(∀ ys d,ys.Perm xs→Q ys {s with drawn:=d})→wpAny (model prog w) A (drawOrder n xs) Q E s
  | 0,xs,s,Q,hl,h=>by
    rw [List.length_eq_zero_iff.mp hl] at h ⊢
    unfold drawOrder
    exact wpAny_pure (h [] s.drawn (.refl _))
  | n+1,[],s,Q,hl,h=>by simp at hl
  | n+1,x::xs,s,Q,hl,h=>by
    unfold drawOrder
    refine wpAny_bind (zma (by simp) fun i d hi=>?_)
    rw [List.getElem?_eq_getElem hi]
    dsimp only
    refine wpAny_bind (zjo n _ _ (by rw [List.length_eraseIdx_of_lt hi];simp at hl ⊢;omega) fun ys d' hp=>?_)
    exact wpAny_pure (h _ _ ((hp.cons _).trans (zcq hi)))
structure Lies (w:World) (h:Heap) (a:Addr) (es:Array (Int × Value)) (ep:Nat) (t:SetTable):Prop where
  ex:∃ o,h.get? a=some o∧o.ExactSet∧o.data=.set es ep t
  fits:t.fits es.size=true
  tok:TOk (tx w) t
theorem Lies.at {h h':Heap} {a:Addr} {es:Array (Int × Value)} {ep:Nat} {t:SetTable} (l:Lies w h a es ep t) (k:∀ o,h.get? a=some o→h'.get? a=some o):Lies w h' a es ep t:=by
  obtain ⟨⟨o,ho,z⟩,f,tk⟩:=l
  exact ⟨⟨o,k o ho,z⟩,f,tk⟩
theorem Lies.state {a:Addr} {es:Array (Int × Value)} {ep:Nat} {t:SetTable} {Q:(Array (Int × Value) × Nat × SetTable)→Shared→Prop} (l:Lies w s.heap a es ep t) (h:Q (es,ep,t) s):wpAny (model prog w) A (setState a) Q E s:=by
  obtain ⟨⟨o,ho,_,hd⟩,hf,_⟩:=l
  exact wpAny_setState_of ho hd hf h
theorem Lies.typeIs {a:Addr} {es:Array (Int × Value)} {ep:Nat} {t:SetTable} (l:Lies w s.heap a es ep t):s.TypeIs (.ref a) "set":=by
  obtain ⟨⟨o,ho,hex,_⟩,_,_⟩:=l
  exact ⟨o,ho,hex.1⟩
theorem zb0 {Q:Bool→Shared→Prop} (h:Q (tx w) s):wpAny (model prog w) A setsByText Q E s:=by
  unfold setsByText
  exact wpAny_bind (wpAny_askSetting (wpAny_pure h))
structure Path (w:World) (a:Addr) (es:Array (Int × Value)) (ep:Nat) (t:SetTable) (vals:List Value) (slot:Nat→Nat):Prop where
  zero:slot 0=0
  perm:vals.Perm (es.toList.map (·.2))
  next:∀ {prog:Program} {A:Around} {E:Value→Shared→Prop} {s:Shared} {i:Nat} {Q:Option (Value × Nat)→Shared→Prop},Lies w s.heap a es ep t→i≤vals.length→Q (vals[i]?.map fun x=>(x,slot (i+1))) s→wpAny (model prog w) A (setNext a (slot i) i ep) Q E s
theorem zmb {a:Addr} {es:Array (Int × Value)} {ep:Nat} {t:SetTable} (ht:tx w=true):Path w a es ep t ((pickOrder (w.params.setOrder a ep) es).toList.map (·.2)) (fun _=>0) where
  zero:=rfl
  perm:=(zl8 _ es).map _
  next:=by
    intro prog A E s i Q l hi h
    unfold setNext
    refine wpAny_bind (l.state ?_)
    dsimp only
    refine wpAny_bind (zb0 ?_)
    rw [if_pos ht,if_neg (by simp)]
    refine wpAny_bind (m:=setWalk a) ?_
    unfold setWalk
    refine wpAny_bind (l.state ?_)
    dsimp only
    refine wpAny_bind (zb0 ?_)
    rw [if_pos ht]
    refine wpAny_bind (wpAny_askSetting (wpAny_pure (wpAny_pure ?_)))
    rw [List.getElem?_map,Array.getElem?_toList,Option.map_map] at h
    exact h
theorem zkj {a:Addr} {es:Array (Int × Value)} {ep:Nat} {t:SetTable} (ht:tx w=false) (hd:(!t.plain&&decide (es.size>1))=false) (hf:t.fits es.size=true) (tk:TOk (tx w) t) :
    Path w a es ep t (es.toList.map (·.2)) (fun i=>if i=0 then 0 else t.place.getD (i - 1) 0+1) where
  zero:=rfl
  perm:=.refl _
  next:=by
    intro prog A E s i Q l hi h
    have hz:t.place.size=es.size:=by
      unfold SetTable.fits at hf
      simp only [Bool.and_eq_true,beq_iff_eq] at hf
      exact hf.1
    have hr:Ris t.place:=by
      cases hp:t.plain with
      | true=>exact tk.ris hp
      | false =>
        rw [hp] at hd
        have:¬ es.size>1:=by simpa using hd
        intro i k u v hik e1 e2
        have:=(Array.getElem?_eq_some_iff.mp e2).1
        omega
    rw [List.length_map,Array.length_toList] at hi
    have hb:SetTable.below t.place (if i=0 then 0 else t.place.getD (i - 1) 0+1)=i:=by
      obtain ⟨h0,h1,h2⟩:=zen hr (if i=0 then 0 else t.place.getD (i - 1) 0+1)
      generalize hrr:SetTable.below t.place (if i=0 then 0 else t.place.getD (i - 1) 0+1)=r at h0 h1 h2
      by_cases z:i=0
      · subst z
        rw [if_pos rfl] at h1
        by_cases hr0:r=0
        · exact hr0
        · have:=h1 0 t.place[0] (by omega) (Array.getElem?_eq_getElem (by omega))
          omega
      · rw [if_neg z] at h1 h2
        have hl:i - 1<t.place.size:=by omega
        have eg:t.place.getD (i - 1) 0=t.place[i - 1]:=by simp [Array.getD,hl]
        rw [eg] at h1 h2
        have e1:t.place[i - 1]?=some t.place[i - 1]:=Array.getElem?_eq_getElem hl
        have g1:¬ r≤i - 1:=fun q=>by have:=h2 (i - 1) _ q e1;omega
        have g2:¬ i<r:=fun q=>by
          have e2:t.place[i]?=some t.place[i]:=Array.getElem?_eq_getElem (by omega)
          have q1:=h1 i _ q e2
          have q2:=hr (i - 1) i _ _ (by omega) e1 e2
          omega
        omega
    unfold setNext
    refine wpAny_bind (l.state ?_)
    dsimp only
    refine wpAny_bind (zb0 ?_)
    rw [ht,if_neg (by simp)]
    show wpAny _ _ (if (!t.plain&&decide (es.size>1))=true then _ else _) _ _ _
    rw [hd,if_neg (by simp)]
    have hl:t.led=true:=by rw [tk.led,ht];rfl
    refine wpAny_bind (wpAny_of_eq (a:=()) ?_ ?_)
    · show (if (!t.led&&!es.isEmpty)=true then _ else _)=_
      rw [hl]
      rfl
    rw [hb]
    refine wpAny_pure ?_
    rw [List.getElem?_map,Array.getElem?_toList] at h
    by_cases hlt:i<es.size
    · rw [Array.getElem?_eq_getElem hlt] at h ⊢
      rw [Array.getElem?_eq_getElem (show i<t.place.size by omega)]
      have eg:t.place.getD (i+1 - 1) 0=t.place[i]:=by
        have:i<t.place.size:=by omega
        simp [Array.getD,this]
      rw [if_neg (by omega),eg] at h
      exact h
    · rw [Array.getElem?_eq_none (by omega)] at h ⊢
      exact h
end
end SW
set_option Elab.async false
set_option linter.all false
set_option maxRecDepth 100000
namespace SW
open PySem PySem.Spec PyProof.Rows
section
variable {prog:Program} {w:World} {A:Around} {E:Value→Shared→Prop} {s:Shared}
abbrev itObj (a:Addr) (first:Value) (i n ep:Nat):Obj:={cls:=.type "set_iterator",dict:=none,data:=.fields #[first,.int i 0,.ref a,.int n 0,.int ep 0],slots:=#[]}
theorem Lies.entries {a:Addr} {es:Array (Int × Value)} {ep:Nat} {t:SetTable} {Q:Array (Int × Value)→Shared→Prop} (l:Lies w s.heap a es ep t) (h:Q es s):wpAny (model prog w) A (setEntries a) Q E s:=by
  unfold setEntries
  exact wpAny_bind (l.state (wpAny_pure h))
theorem zpe {it a:Addr} {es:Array (Int × Value)} {ep:Nat} {t:SetTable} {vals:List Value} {slot:Nat→Nat} {i:Nat} {x:Value} {Q:Option Value→Shared→Prop} (pth:Path w a es ep t vals slot)
    (hit:s.heap.get? it=some (itObj a (.int (slot i) 0) i es.size ep)) (l:Lies w s.heap a es ep t) (hx:vals[i]?=some x)
    (hQ:∀ h',h'.get? it=some (itObj a (.int (slot (i+1)) 0) (i+1) es.size ep)→Heap.SameBut it s.heap h'→Q (some x) {s with heap:=h'}):wpAny (model prog w) A (pyNext (.ref it)) Q E s:=by
  have hT:s.TypeIs (.ref it) "set_iterator":=⟨_,hit,rfl⟩
  have hil:=(List.getElem?_eq_some_iff.mp hx).1
  unfold pyNext
  refine wpAny_bind (wpAny_attempt (wpAny_callSpecial?_slot (name:=Str.ofString "__next__") hT slot_si_next (wpAny_call_entry slot_si_next hT zan ?_ (zau _))))
  show wpAny _ _ (fieldsOf (.ref it) >>= _) _ _ s
  refine wpAny_bind (wpAny_fieldsOf hit rfl ?_)
  show wpAny _ _ (setEntries a >>= _) _ _ s
  refine wpAny_bind (l.entries ?_)
  rw [if_neg (by simp)]
  show wpAny _ _ (setNext a ((slot i:Nat):Int).toNat ((i:Nat):Int).toNat ((ep:Nat):Int).toNat >>= _) _ _ s
  rw [Int.toNat_natCast,Int.toNat_natCast,Int.toNat_natCast]
  refine wpAny_bind (pth.next l (Nat.le_of_lt hil) ?_)
  rw [hx]
  dsimp only [Option.map_some]
  refine wpAny_bind (wpAny_setField_rec hit (by simp) fun h1 g1 sb1=>?_)
  refine wpAny_bind (wpAny_setField_rec (s:={s with heap:=h1}) g1 (by simp) fun h2 g2 sb2=>?_)
  refine wpAny_pure ⟨x,rfl,wpAny_pure (hQ h2 ?_ (sb1.trans sb2))⟩
  rw [g2]
  simp [rawInt]
theorem zqi {it a:Addr} {es:Array (Int × Value)} {ep:Nat} {t:SetTable} {vals:List Value} {slot:Nat→Nat} {Q:Option Value→Shared→Prop} (hh:A.handled=none) (pth:Path w a es ep t vals slot)
    (hit:s.heap.get? it=some (itObj a (.int (slot vals.length) 0) vals.length es.size ep)) (l:Lies w s.heap a es ep t)
    (hQ:∀ h',Heap.ExtBut it s.heap h'→Q none {s with heap:=h'}):wpAny (model prog w) A (pyNext (.ref it)) Q E s:=by
  have hT:s.TypeIs (.ref it) "set_iterator":=⟨_,hit,rfl⟩
  unfold pyNext
  refine wpAny_bind (wpAny_attempt (wpAny_callSpecial?_slot (name:=Str.ofString "__next__") hT slot_si_next (wpAny_call_entry slot_si_next hT zan ?_ (zau _))))
  show wpAny _ _ (fieldsOf (.ref it) >>= _) _ _ s
  refine wpAny_bind (wpAny_fieldsOf hit rfl ?_)
  show wpAny _ _ (setEntries a >>= _) _ _ s
  refine wpAny_bind (l.entries ?_)
  rw [if_neg (by simp)]
  show wpAny _ _ (setNext a ((slot vals.length:Nat):Int).toNat ((vals.length:Nat):Int).toNat ((ep:Nat):Int).toNat >>= _) _ _ s
  rw [Int.toNat_natCast,Int.toNat_natCast,Int.toNat_natCast]
  refine wpAny_bind (pth.next l (Nat.le_refl _) ?_)
  rw [List.getElem?_eq_none (Nat.le_refl _)]
  dsimp only [Option.map_none]
  refine wpAny_bind (wpAny_setField_rec hit (by simp) fun h1 g1 sb1=>?_)
  show wpAny _ _ (newExc (.type "StopIteration") [] >>= _) _ _ _
  refine wpAny_bind ?_
  simp only [newExc,newTuple]
  refine wpAny_bind (wpAny_newObj_type ?_ (by size_fits))
  refine wpAny_bind (m:=firstArgMember _ _) (wpAny_of_eq (a:=Value.none) (by first | rfl | (simp only [firstArgMember];rfl)) ?_)
  refine wpAny_newObj_type ?_ (by size_fits)
  simp only [raiseNew]
  refine wpAny_bind (wpAny_handled ?_)
  rw [show A.in1.handled=none from hh]
  refine wpAny_bind (wpAny_pure (wpAny_throw ?_))
  refine wpAny_bind (wpAny_isInstance (T:="StopIteration") (b:=true) ⟨_,Heap.get?_push_size _ rfl,rfl⟩ isSubtype_stop ?_)
  exact wpAny_pure (hQ _ ((sb1.extBut.push _).push _))
theorem zjp {it a:Addr} {first:Value} {i n ep:Nat} {Q:Value→Shared→Prop} (hit:s.heap.get? it=some (itObj a first i n ep)) (h:Q (.ref it) s):wpAny (model prog w) A (pyIter (.ref it)) Q E s:=by
  have hT:s.TypeIs (.ref it) "set_iterator":=⟨_,hit,rfl⟩
  refine wpAny_pyIter_slot hT zc9 (wpAny_call_entry zc9 hT zgk ?_ (zhj _))
  show wpAny _ _ (ret (.ref it)) _ _ s
  exact wpAny_pure ⟨_,rfl,"set_iterator",_,hT,slot_si_next.lookup,h⟩
theorem zkk {it a:Addr} {es:Array (Int × Value)} {ep:Nat} {t:SetTable} {vals:List Value} {slot:Nat→Nat} (hh:A.handled=none) (hne:a≠it) (pth:Path w a es ep t vals slot) :
    Walks prog w A it [it,a] [it] vals.length (fun i v=>vals[i]?=some v) (fun i h=>h.get? it=some (itObj a (.int (slot i) 0) i es.size ep)∧Lies w h a es ep t) where
  sub:=fun b hb=>by simp at hb;simp [hb]
  frame:=fun _ _ _ st hk=>⟨hk it (by simp) _ st.1,st.2.at fun o e=>hk a (by simp) o e⟩
  item:=fun i s Q E hi st hQ=>by
    refine zpe pth st.1 st.2 (x:=vals[i]) (by simp [hi]) fun h' hit' sb=>?_
    exact hQ _ h' s.toks (by simp [hi]) ⟨hit',st.2.at fun o e=>sb.extBut a o hne e⟩ (fun b o hb e=>sb.extBut b o (fun h=>hb (by simp [h])) e)
  done:=fun s Q E st hQ=>zqi hh pth st.1 st.2 fun h' he=>hQ h' s.toks (fun b o hb e=>he b o (fun h=>hb (by simp [h])) e)
  self:=fun _ _ _ _ st hQ=>zjp st.1 hQ
theorem zpf {it a tp:Addr} {es:Array (Int × Value)} {ep:Nat} {t:SetTable} {ps:List Nat} {ot:Obj} {nt i j:Nat} {e:Int × Value} {Q:Option Value→Shared→Prop}
    (hit:s.heap.get? it=some (itObj a (.ref tp) i es.size ep)) (htp:s.heap.get? tp=some ot) (hot:ot.data=.seq (ps.map fun (k:Nat)=>rawInt k).toArray nt) (l:Lies w s.heap a es ep t) (hj:ps[i]?=some j) (he:es[j]?=some e)
    (hQ:∀ h',h'.get? it=some (itObj a (.ref tp) (i+1) es.size ep)→Heap.SameBut it s.heap h'→Q (some e.2) {s with heap:=h'}):wpAny (model prog w) A (pyNext (.ref it)) Q E s:=by
  have hT:s.TypeIs (.ref it) "set_iterator":=⟨_,hit,rfl⟩
  unfold pyNext
  refine wpAny_bind (wpAny_attempt (wpAny_callSpecial?_slot (name:=Str.ofString "__next__") hT slot_si_next (wpAny_call_entry slot_si_next hT zan ?_ (zau _))))
  show wpAny _ _ (fieldsOf (.ref it) >>= _) _ _ s
  refine wpAny_bind (wpAny_fieldsOf hit rfl ?_)
  show wpAny _ _ (setEntries a >>= _) _ _ s
  refine wpAny_bind (l.entries ?_)
  rw [if_neg (by simp)]
  show wpAny _ _ (seqItems? (.ref tp) >>= _) _ _ s
  refine wpAny_bind (wpAny_seqItems htp hot ?_)
  dsimp only
  have e1:(ps.map fun (k:Nat)=>rawInt k).toArray[((i:Nat):Int).toNat]?=some (rawInt j):=by
    rw [Int.toNat_natCast,List.getElem?_toArray,List.getElem?_map,hj]
    rfl
  rw [e1]
  show wpAny _ _ (setNextDrawn a ((j:Nat):Int).toNat ((ep:Nat):Int).toNat >>= _) _ _ s
  rw [Int.toNat_natCast,Int.toNat_natCast]
  unfold setNextDrawn
  refine wpAny_bind (wpAny_bind (l.state ?_))
  dsimp only
  rw [if_neg (by simp),he]
  refine wpAny_pure ?_
  refine wpAny_bind (wpAny_setField_rec hit (by simp) fun h1 g1 sb1=>?_)
  refine wpAny_pure ⟨e.2,rfl,wpAny_pure (hQ h1 ?_ sb1)⟩
  rw [g1]
  simp [rawInt]
theorem zqj {it a tp:Addr} {es:Array (Int × Value)} {ep:Nat} {t:SetTable} {ps:List Nat} {ot:Obj} {nt:Nat} {Q:Option Value→Shared→Prop} (hh:A.handled=none)
    (hit:s.heap.get? it=some (itObj a (.ref tp) ps.length es.size ep)) (htp:s.heap.get? tp=some ot) (hot:ot.data=.seq (ps.map fun (k:Nat)=>rawInt k).toArray nt) (l:Lies w s.heap a es ep t)
    (hQ:∀ h',Heap.ExtBut it s.heap h'→Q none {s with heap:=h'}):wpAny (model prog w) A (pyNext (.ref it)) Q E s:=by
  have hT:s.TypeIs (.ref it) "set_iterator":=⟨_,hit,rfl⟩
  unfold pyNext
  refine wpAny_bind (wpAny_attempt (wpAny_callSpecial?_slot (name:=Str.ofString "__next__") hT slot_si_next (wpAny_call_entry slot_si_next hT zan ?_ (zau _))))
  show wpAny _ _ (fieldsOf (.ref it) >>= _) _ _ s
  refine wpAny_bind (wpAny_fieldsOf hit rfl ?_)
  show wpAny _ _ (setEntries a >>= _) _ _ s
  refine wpAny_bind (l.entries ?_)
  rw [if_neg (by simp)]
  show wpAny _ _ (seqItems? (.ref tp) >>= _) _ _ s
  refine wpAny_bind (wpAny_seqItems htp hot ?_)
  dsimp only
  have e1:(ps.map fun (k:Nat)=>rawInt k).toArray[((ps.length:Nat):Int).toNat]?=none:=by
    rw [Int.toNat_natCast,List.getElem?_toArray,List.getElem?_eq_none (by simp)]
  rw [e1]
  dsimp only
  refine wpAny_bind (wpAny_setField_rec hit (by simp) fun h1 g1 sb1=>?_)
  refine wpAny_bind (wpAny_setField_rec (s:={s with heap:=h1}) g1 (by simp) fun h2 g2 sb2=>?_)
  show wpAny _ _ (newExc (.type "StopIteration") [] >>= _) _ _ _
  refine wpAny_bind ?_
  simp only [newExc,newTuple]
  refine wpAny_bind (wpAny_newObj_type ?_ (by size_fits))
  refine wpAny_bind (m:=firstArgMember _ _) (wpAny_of_eq (a:=Value.none) (by first | rfl | (simp only [firstArgMember];rfl)) ?_)
  refine wpAny_newObj_type ?_ (by size_fits)
  simp only [raiseNew]
  refine wpAny_bind (wpAny_handled ?_)
  rw [show A.in1.handled=none from hh]
  refine wpAny_bind (wpAny_pure (wpAny_throw ?_))
  refine wpAny_bind (wpAny_isInstance (T:="StopIteration") (b:=true) ⟨_,Heap.get?_push_size _ rfl,rfl⟩ isSubtype_stop ?_)
  exact wpAny_pure (hQ _ (((sb1.trans sb2).extBut.push _).push _))
theorem zkl {it a tp:Addr} {es:Array (Int × Value)} {ep:Nat} {t:SetTable} {ps:List Nat} (hh:A.handled=none) (hne:a≠it) (hne2:tp≠it) (hp:∀ (i j:Nat),ps[i]?=some j→j<es.size) :
    Walks prog w A it [it,a,tp] [it] ps.length (fun i v=>∃ j e,ps[i]?=some j∧es[j]?=some e∧v=e.2) (fun i h=>h.get? it=some (itObj a (.ref tp) i es.size ep)∧Lies w h a es ep t∧∃ ot nt,h.get? tp=some ot∧ot.data=.seq (ps.map fun (k:Nat)=>rawInt k).toArray nt) where
  sub:=fun b hb=>by simp at hb;simp [hb]
  frame:=fun _ _ _ st hk=>⟨hk it (by simp) _ st.1,st.2.1.at fun o e=>hk a (by simp) o e,by obtain ⟨_,_,ot,nt,g1,g2⟩:=st;exact ⟨ot,nt,hk tp (by simp) _ g1,g2⟩⟩
  item:=fun i s Q E hi st hQ=>by
    obtain ⟨st1,st2,ot,nt,g1,g2⟩:=st
    have ej:ps[i]?=some ps[i]:=List.getElem?_eq_getElem hi
    have ee:es[ps[i]]?=some (es[ps[i]]'(hp i _ ej)):=Array.getElem?_eq_getElem (hp i _ ej)
    refine zpf st1 g1 g2 st2 ej ee fun h' hit' sb=>?_
    exact hQ _ h' s.toks ⟨_,_,ej,ee,rfl⟩ ⟨hit',st2.at fun o e=>sb.extBut a o hne e,ot,nt,sb.extBut tp _ hne2 g1,g2⟩ (fun b o hb e=>sb.extBut b o (fun h=>hb (by simp [h])) e)
  done:=fun s Q E st hQ=>by
    obtain ⟨st1,st2,ot,nt,g1,g2⟩:=st
    exact zqj hh st1 g1 g2 st2 fun h' he=>hQ h' s.toks (fun b o hb e=>he b o (fun h=>hb (by simp [h])) e)
  self:=fun _ _ _ _ st hQ=>zjp st.1 hQ
end
end SW
set_option Elab.async false
set_option linter.all false
set_option maxRecDepth 100000
namespace SW
open PySem PySem.Spec PyProof.Rows
theorem zhk:typeLookup (.type "set") "__len__"=pure (some (.builtin "set.__len__")):=by rw [typeLookup_type,builtinLookup_eq_fast];kernel_rfl
theorem zgm:splitId "set.__len__"=some ("set","__len__"):=by decide +kernel
section
variable {prog:Program} {w:World} {A:Around} {E:Value→Shared→Prop} {s:Shared}
theorem zhl (L:List Value):∀ ps:List Nat,(∀ j∈ps,j<L.length)→ps.filterMap (fun j=>L[j]?)=ps.map fun j=>(L[j]?).getD .none
  | [],_=>rfl
  | j::ps,h=>by
    have hl:=h j (by simp)
    rw [List.filterMap_cons,List.map_cons,List.getElem?_eq_getElem hl,zhl L ps fun k hk=>h k (by simp [hk])]
    rfl
theorem znz {a:Addr} {es:Array (Int × Value)} {ep:Nat} {t:SetTable} {Q:Value→Shared→Prop} (l:Lies w s.heap a es ep t) (hz:es.size≤1000)
    (h1:∀ vals slot,Path w a es ep t vals slot→Q (.ref s.heap.objs.size) {s with heap:=s.heap.push (itObj a (.int (slot 0) 0) 0 es.size ep)})
    (h2:∀ (ps:List Nat) (d:Drawn),ps.Perm (List.range es.size)→Q (.ref (s.heap.objs.size+1)) {s with heap:=(s.heap.push (seqObj "tuple" (ps.map fun (k:Nat)=>rawInt k).toArray 0)).push (itObj a (.ref s.heap.objs.size) 0 es.size ep),drawn:=d}) :
    wpAny (model prog w) A (pyIter (.ref a)) Q E s:=by
  refine wpAny_pyIter_slot l.typeIs zcw (wpAny_call_entry zcw l.typeIs ze8 ?_ (zgl _))
  show wpAny _ _ (Builtin.Frozenset.sizeOf a >>= _) _ _ s
  unfold Builtin.Frozenset.sizeOf
  refine wpAny_bind (wpAny_bind (l.entries (wpAny_pure ?_)))
  refine wpAny_bind (m:=setDrawn a) ?_
  unfold setDrawn
  refine wpAny_bind (l.state ?_)
  dsimp only
  refine wpAny_bind (zb0 (wpAny_pure ?_))
  show wpAny _ _ (if (!tx w&&(!t.plain&&decide (es.size>1)))=true then _ else _) _ _ s
  by_cases hd:(!tx w&&(!t.plain&&decide (es.size>1)))=true
  · rw [if_pos hd]
    refine wpAny_bind (m:=drawOrder es.size (List.range es.size)) (zjo es.size (List.range es.size) s (by simp) fun ps d hp=>?_)
    refine wpAny_bind (wpAny_newTuple ?_ (by
      have:=hp.length_eq
      rw [List.length_range] at this
      rw [List.length_map,this,sizeLine_eq]
      omega))
    refine wpAny_bind (m:=setEpoch a) ?_
    unfold setEpoch
    have l2:Lies w (s.heap.push (seqObj "tuple" (ps.map fun (k:Nat)=>rawInt k).toArray 0)) a es ep t:=l.at fun o e=>Heap.get?_push_of_some _ e
    refine wpAny_bind (Lies.state (s:={s with heap:=s.heap.push (seqObj "tuple" (ps.map fun (k:Nat)=>rawInt k).toArray 0),drawn:=d}) l2 (wpAny_pure ?_))
    have zz:(s.heap.push (seqObj "tuple" (ps.map fun (k:Nat)=>rawInt k).toArray 0)).objs.size=s.heap.objs.size+1:=Heap.size_push ..
    refine wpAny_bind (wpAny_newObj_type (wpAny_pure ⟨_,rfl,"set_iterator",_,⟨_,Heap.get?_push_size _ rfl,rfl⟩,slot_si_next.lookup,?_⟩))
    have:=h2 ps d hp
    rw [← zz] at this
    exact this
  · rw [if_neg hd]
    refine wpAny_bind (wpAny_pure ?_)
    refine wpAny_bind (m:=setEpoch a) ?_
    unfold setEpoch
    refine wpAny_bind (l.state (wpAny_pure ?_))
    refine wpAny_bind (wpAny_newObj_type (wpAny_pure ⟨_,rfl,"set_iterator",_,⟨_,Heap.get?_push_size _ rfl,rfl⟩,slot_si_next.lookup,?_⟩))
    cases ht:tx w with
    | true=>exact h1 _ _ (zmb ht)
    | false =>
      rw [ht] at hd
      have hd':(!t.plain&&decide (es.size>1))=false:=by simpa using hd
      exact h1 _ _ (zkj ht hd' l.fits l.tok)
theorem zhm {L it a:Addr} {es:Array (Int × Value)} {ep:Nat} {t:SetTable} {xs:List String} {R:PySem.Fin→Shared→Prop} (l:Lies w s.heap a es ep t) (hL:s.heap.get? L=some {cls:=.type "list",dict:=none,data:=.seq #[] 0,slots:=#[]})
    (hx:xs.any (fun x=>Value.type "set"==Value.type x)=true)
    (hK:∀ h' c,h'.get? L=some {cls:=.type "list",dict:=none,data:=.seq #[] c,slots:=#[]}→Heap.SameBut L s.heap h'→R (.again (.builtin "list.extend.loop" ⟨[.ref L,.ref it,.ref L],[]⟩)) {s with heap:=h'}) :
    wpAny (model prog w) A (do
      let room ← holding [.ref it] (Builtin.List.listLengthHint (.ref a))
      if room||xs.any (Value.type "set"==.type ·) then rule "list.extend.makes-room";Builtin.List.listTouch (.ref L)
      again (.builtin "list.extend.loop" ⟨[.ref L,.ref it,.ref L],[]⟩)) R E s:=by
  have hT:=l.typeIs
  refine wpAny_bind (wpAny_holding ?_)
  unfold Builtin.List.listLengthHint
  refine wpAny_bind (wpAny_specialOf hT zhk ?_)
  dsimp only
  rw [zgm]
  refine wpAny_bind (wpAny_isInstance (b:=true) hT (by rw [isSubtype_type];kernel_rfl) ?_)
  rw [if_neg (by decide)]
  rw [if_pos (by decide +kernel)]
  refine wpAny_bind (wpAny_typeOf hT (wpAny_pure ?_))
  rw [if_pos (by rw [hx];rfl)]
  refine wpAny_bind (wpAny_rule (wpAny_bind ?_))
  show wpAny _ _ (updateSeq L (·.push .none) >>= fun _=>updateSeq L (·.pop)) _ _ _
  have g1:=Heap.get?_update_self (Obj.mapSeq (·.push Value.none)) hL rfl
  refine wpAny_bind (wpAny_updateSeq hL rfl (wpAny_updateSeq g1 rfl ?_))
  have g2:=Heap.get?_update_self (Obj.mapSeq (·.pop)) g1 rfl
  exact wpAny_pure (hK _ _ g2 ((Heap.SameBut.update ..).trans (Heap.SameBut.update ..)))
theorem zis {a:Addr} {es:Array (Int × Value)} {ep:Nat} {t:SetTable} {Q:List Value→Shared→Prop} (hh:A.handled=none) (l:Lies w s.heap a es ep t) (hz:es.size≤1000)
    (h:∀ vs s',vs.Perm (es.toList.map (·.2))→(∀ b o,s.heap.get? b=some o→s'.heap.get? b=some o)→s'.gens=s.gens→s'.os=s.os→Q vs s'):wpAny (model prog w) A (collect (.ref a)) Q E s:=by
  have hlt:a<s.heap.objs.size:=by obtain ⟨⟨o,ho,_⟩,_,_⟩:=l;exact Heap.lt_size ho
  have hzl:es.size≤sizeLine:=by rw [sizeLine_eq];omega
  unfold collect
  refine wpAny_bind (wpAny_runValue (codeAny_builtin F.entry_proto_collect ?_))
  rw [Around.under_plainId F.plain_proto_collect _]
  show wpAny _ A.in1 (newList [] >>= fun l=>again (.builtin "list.__iadd__" ⟨[l,.ref a],[]⟩)) _ _ s
  refine wpAny_bind (wpAny_newObj_type (wpAny_pure ⟨plainId_quiet F.plain_list_iadd _,codeAny_builtin F.entry_list_iadd ?_⟩))
  rw [Around.under_plainId F.plain_list_iadd _]
  generalize hL0:s.heap.push {cls:=Value.type "list",dict:=none,data:=.seq ([]:List Value).toArray 0,slots:=#[]}=g0
  have z0:g0.objs.size=s.heap.objs.size+1:=by rw [← hL0];exact Heap.size_push ..
  have up0:∀ b o,s.heap.get? b=some o→g0.get? b=some o:=fun b o e=>by rw [← hL0];exact Heap.get?_push_of_some _ e
  have at0:g0.get? s.heap.objs.size=some {cls:=.type "list",dict:=none,data:=.seq #[] 0,slots:=#[]}:=by rw [← hL0];exact Heap.get?_push_size _ rfl
  have l0:Lies w g0 a es ep t:=l.at fun o e=>up0 a o e
  have hsr:Builtin.List.listSameRef (.ref s.heap.objs.size) (.ref a)=false:=by simp [Builtin.List.listSameRef,Nat.ne_of_gt hlt]
  show wpAny _ A.in1 (Builtin.List.listExtendWith (.ref s.heap.objs.size) (.ref a) (.ref s.heap.objs.size)) _ _ {s with heap:=g0}
  unfold Builtin.List.listExtendWith
  refine wpAny_bind (wpAny_typeOf (Lies.typeIs (s:={s with heap:=g0}) l0) ?_)
  rw [if_neg (by rw [hsr];decide)]
  refine wpAny_bind (znz (s:={s with heap:=g0}) l0 hz (fun vals slot pth=>?_) (fun ps d hp=>?_))
  · have hit:(g0.push (itObj a (.int (slot 0) 0) 0 es.size ep)).get? g0.objs.size=some (itObj a (.int (slot 0) 0) 0 es.size ep):=Heap.get?_push_size _ rfl
    have upi:∀ b o,g0.get? b=some o→(g0.push (itObj a (.int (slot 0) 0) 0 es.size ep)).get? b=some o:=fun b o e=>Heap.get?_push_of_some _ e
    have nLi:s.heap.objs.size≠g0.objs.size:=by rw [z0];exact Nat.ne_of_lt (Nat.lt_succ_self _)
    have nai:a≠g0.objs.size:=by rw [z0];exact Nat.ne_of_lt (Nat.lt_succ_of_lt hlt)
    have hvl:vals.length=es.size:=by have:=pth.perm.length_eq;simpa using this
    refine zhm (s:={s with heap:=g0.push (itObj a (.int (slot 0) 0) 0 es.size ep)}) (l0.at fun o e=>upi a o e) (upi _ _ at0) (by decide +kernel) fun h' c hL' sb=>?_
    refine ⟨plainId_quiet F.plain_extend_loop _,codeAny_extend_loopS (zkk (prog:=prog) (A:=A.in1.in1) (by simp [hh]) nai pth).toS.of_in1 (by rw [hvl];exact hzl) s.heap.objs.size (by simp [nLi,Nat.ne_of_gt hlt]) _ (vals.length - 0) 0 _ #[] c (by omega) (Nat.zero_le _)
      ⟨sb.extBut _ _ (Ne.symm nLi) hit,(l0.at fun o e=>upi a o e).at fun o e=>sb.extBut _ _ (Nat.ne_of_lt hlt) e⟩ hL' (ItemsOf.nil _) fun s' acc c' hm hS' hacc=>?_⟩
    show wpAny _ A (load s.heap.objs.size >>= _) _ _ s'
    refine wpAny_bind (wpAny_load hS' (wpAny_pure (h _ _ ?_ ?_ hm.gens hm.os)))
    · have e:acc.toList=vals:=by
        apply List.ext_getElem?
        intro i
        by_cases hi:i<acc.size
        · rw [Array.getElem?_toList,Array.getElem?_eq_getElem hi]
          exact (hacc.2 i _ (Array.getElem?_eq_getElem hi)).symm
        · rw [List.getElem?_eq_none (by simpa using hi),List.getElem?_eq_none (by rw [← hacc.1];omega)]
      rw [e]
      exact pth.perm
    · intro b o e
      have hb:=Heap.lt_size e
      refine hm.heap b o ?_ (sb.extBut b o (Nat.ne_of_lt hb) (upi b o (up0 b o e)))
      have n1:b≠s.heap.objs.size:=Nat.ne_of_lt hb
      have n2:b≠g0.objs.size:=by rw [z0];exact Nat.ne_of_lt (Nat.lt_succ_of_lt hb)
      simp [n1,n2]
  · generalize hto:seqObj "tuple" (ps.map fun (k:Nat)=>rawInt k).toArray 0=to
    have z1:(g0.push to).objs.size=g0.objs.size+1:=Heap.size_push ..
    have hit:((g0.push to).push (itObj a (.ref g0.objs.size) 0 es.size ep)).get? (g0.objs.size+1)=some (itObj a (.ref g0.objs.size) 0 es.size ep):=by rw [← z1];exact Heap.get?_push_size _ rfl
    have htp:((g0.push to).push (itObj a (.ref g0.objs.size) 0 es.size ep)).get? g0.objs.size=some to:=Heap.get?_push_of_some _ (Heap.get?_push_size _ (by rw [← hto];rfl))
    have upi:∀ b o,g0.get? b=some o→((g0.push to).push (itObj a (.ref g0.objs.size) 0 es.size ep)).get? b=some o:=fun b o e=>Heap.get?_push_of_some _ (Heap.get?_push_of_some _ e)
    have nLi:s.heap.objs.size≠g0.objs.size+1:=by rw [z0];exact Nat.ne_of_lt (Nat.lt_succ_of_lt (Nat.lt_succ_self _))
    have nLt:s.heap.objs.size≠g0.objs.size:=by rw [z0];exact Nat.ne_of_lt (Nat.lt_succ_self _)
    have nai:a≠g0.objs.size+1:=by rw [z0];exact Nat.ne_of_lt (Nat.lt_succ_of_lt (Nat.lt_succ_of_lt hlt))
    have hvl:ps.length=es.size:=by have:=hp.length_eq;simpa using this
    have hps:∀ (i j:Nat),ps[i]?=some j→j<es.size:=fun i j e=>List.mem_range.mp (hp.mem_iff.mp (List.mem_of_getElem? e))
    refine zhm (s:={s with heap:=(g0.push to).push (itObj a (.ref g0.objs.size) 0 es.size ep),drawn:=d}) (l0.at fun o e=>upi a o e) (upi _ _ at0) (by decide +kernel) fun h' c hL' sb=>?_
    refine ⟨plainId_quiet F.plain_extend_loop _,codeAny_extend_loopS (zkl (prog:=prog) (A:=A.in1.in1) (tp:=g0.objs.size) (t:=t) (by simp [hh]) nai (Nat.ne_of_lt (Nat.lt_succ_self _)) hps).toS.of_in1 (by rw [hvl];exact hzl) s.heap.objs.size (by simp [nLi,nLt,Nat.ne_of_gt hlt]) _ (ps.length - 0) 0 _ #[] c (by omega) (Nat.zero_le _)
      ⟨sb.extBut _ _ (Ne.symm nLi) hit,(l0.at fun o e=>upi a o e).at fun o e=>sb.extBut _ _ (Nat.ne_of_lt hlt) e,to,0,sb.extBut _ _ (Ne.symm nLt) htp,by rw [← hto]⟩ hL' (ItemsOf.nil _) fun s' acc c' hm hS' hacc=>?_⟩
    show wpAny _ A (load s.heap.objs.size >>= _) _ _ s'
    refine wpAny_bind (wpAny_load hS' (wpAny_pure (h _ _ ?_ ?_ hm.gens hm.os)))
    · have e:acc.toList=ps.filterMap fun j=>(es.toList.map (·.2))[j]?:=by
        have e2:=zhl (es.toList.map (·.2)) ps fun j hj=>by simpa using List.mem_range.mp (hp.mem_iff.mp hj)
        rw [e2]
        apply List.ext_getElem?
        intro i
        by_cases hi:i<acc.size
        · rw [Array.getElem?_toList,Array.getElem?_eq_getElem hi]
          obtain ⟨j,e,h1,h2,h3⟩:=hacc.2 i _ (Array.getElem?_eq_getElem hi)
          rw [List.getElem?_map,h1,h3]
          simp [h2]
        · rw [List.getElem?_eq_none (by simpa using hi),List.getElem?_eq_none (by rw [List.length_map,← hacc.1];omega)]
      rw [e]
      have p1:=hp.filterMap (fun j=>(es.toList.map (·.2))[j]?)
      refine p1.trans ?_
      have p2:=List.filterMap_getElem?_range_length (es.toList.map (·.2))
      rw [List.length_map,Array.length_toList] at p2
      rw [p2]
    · intro b o e
      have hb:=Heap.lt_size e
      refine hm.heap b o ?_ (sb.extBut b o (Nat.ne_of_lt hb) (upi b o (up0 b o e)))
      have n1:b≠s.heap.objs.size:=Nat.ne_of_lt hb
      have n2:b≠g0.objs.size+1:=by rw [z0];exact Nat.ne_of_lt (Nat.lt_succ_of_lt (Nat.lt_succ_of_lt hb))
      simp [n1,n2]
end
end SW
set_option Elab.async false
set_option linter.all false
set_option maxRecDepth 100000
namespace SW
open PySem PySem.Spec PyProof.Rows
theorem zda {v:Value} {vs:List Value} {ks:List Int} (h:IntsAre (v::vs) ks):∃ k t ks',v=.int k t∧ks=k::ks'∧IntsAre vs ks':=by
  cases h with
  | cons n t hr=>exact ⟨n,t,_,rfl,rfl,hr⟩
theorem zmc {vs vs':List Value} (p:vs.Perm vs'):∀ {ks:List Int},IntsAre vs' ks→∃ ks',IntsAre vs ks'∧ks'.Perm ks:=by
  induction p with
  | nil=>intro ks h;exact ⟨ks,h,.refl _⟩
  | cons x _ ih =>
    intro ks h
    obtain ⟨k,t,ks',rfl,rfl,hr⟩:=zda h
    obtain ⟨q,h1,h2⟩:=ih hr
    exact ⟨k::q,.cons k t h1,h2.cons k⟩
  | swap x y l =>
    intro ks h
    obtain ⟨k,t,ks',rfl,rfl,hr⟩:=zda h
    obtain ⟨k2,t2,ks2,rfl,rfl,hr2⟩:=zda hr
    exact ⟨k2::k::ks2,.cons k2 t2 (.cons k t hr2),.swap _ _ _⟩
  | trans _ _ ih1 ih2 =>
    intro ks h
    obtain ⟨k1,a1,p1⟩:=ih2 h
    obtain ⟨k2,a2,p2⟩:=ih1 a1
    exact ⟨k2,a2,p2.trans p1⟩
section
variable {prog:Program} {w:World} {A:Around} {E:Value→Shared→Prop} {s:Shared}
theorem zqk {k:Int} {v:Value} (h:(intKind prog w).is k v=true):∃ t,v=.int k t:=by
  have h:v.isInt k=true:=h
  cases v with
  | int n t =>
    have:n=k:=by simpa [Value.isInt] using h
    exact ⟨t,by rw [this]⟩
  | _=>simp [Value.isInt] at h
theorem sorted_set {a:Addr} {es:Array (Int × Value)} {ep:Nat} {t:SetTable} {ks:List Int} {Q:Value→Shared→Prop} (hh:A.handled=none) (l:Lies w s.heap a es ep t) (hI:IntsAre (es.toList.map (·.2)) ks) (h64:es.size<64)
    (h:∀ (r:Addr) (out:Array Value) (n:Nat) (ms:List Int) (s':Shared),IntsAre out.toList ms→ms.Perm ks→ms.Pairwise (·≤·)→s'.heap.get? r=some (seqObj "list" out n)→s.heap.get? r=none→(∀ b o,s.heap.get? b=some o→s'.heap.get? b=some o)→s'.gens=s.gens→s'.os=s.os→Q (.ref r) s') :
    wpAny (model prog w) A (call (.builtin "sorted") [.ref a]) Q E s:=by
  refine Calls.call_function_entry kind_sorted plain_sorted entry_sorted (args_sorted1 _) ?_
  unfold Builtin.«sorted»
  refine wpAny_bind (m:=checkCount "sorted" 1 1 _) (wpAny_pure ?_)
  refine wpAny_bind (zis (by simp [hh]) l (by omega) fun vs s1 hp k1 hg ho=>?_)
  refine wpAny_bind (wpAny_newList ?_ (by
    have:vs.length=es.size:=by simpa using hp.length_eq
    rw [this,sizeLine_eq]
    omega))
  obtain ⟨ks1,hI1,hp1⟩:=zmc hp hI
  have hvl:vs.length<64:=by
    have:vs.length=es.size:=by simpa using hp.length_eq
    omega
  have hL:(s1.heap.push (seqObj "list" vs.toArray 0)).get? s1.heap.objs.size=some (seqObj "list" vs.toArray 0):=Heap.get?_push_size _ rfl
  show wpAny _ _ _ _ _ {s1 with heap:=s1.heap.push (seqObj "list" vs.toArray 0)}
  refine wpAny_bind (wpAny_holding (wpAny_call_entry slot_list_sort ⟨_,hL,rfl⟩ entry_list_sort (list_sort_tree hL hI1 hvl fun out ns' a1 a2 a3=>⟨_,rfl,?_⟩) (args_list_sort _)))
  obtain ⟨e,he⟩:=sortedHeap_at (out:=out) hL
  refine wpAny_pure ⟨_,rfl,h s1.heap.objs.size out e ns' _ a1 (a2.trans hp1) a3 he ?_ (fun b o q=>?_) hg ho⟩
  · cases q:s.heap.get? s1.heap.objs.size with
    | none=>rfl
    | some o=>exact absurd (Heap.lt_size (k1 _ _ q)) (Nat.lt_irrefl _)
  · have q1:=k1 b o q
    have hb:=Heap.lt_size q1
    have zz:=size_push' s1.heap (seqObj "list" vs.toArray 0)
    have hb2:b<(s1.heap.push (seqObj "list" vs.toArray 0)).objs.size:=by rw [zz];exact Nat.lt_succ_of_lt hb
    have hne:b≠s1.heap.objs.size:=Nat.ne_of_lt hb
    have g:=sortedHeap_old (vs:=vs) (out:=out) hne hb2
    have g2:=Heap.get?_push_of_some (seqObj "list" vs.toArray 0) q1
    rw [g2] at g
    exact g
theorem SetR.lies {h:Heap} {a:Addr} {S:Int→Bool} {n:Nat} (r:SetR prog w h a S n):∃ es ep t ks,Lies w h a es ep t∧IntsAre (es.toList.map (·.2)) ks∧es.size=n∧∀ k,k∈ks↔S k=true:=by
  obtain ⟨o,es,ep,t,ho,hex,hd,hel,hmem,hb,hf,hn,hk⟩:=r
  have go:∀ l:List (Int × Value),ElemsOf (intKind prog w) l→∃ ks,IntsAre (l.map (·.2)) ks∧∀ k,k∈ks↔∃ e∈l,(intKind prog w).is k e.2=true:=by
    intro l
    induction l with
    | nil=>intro _;exact ⟨[],.nil,by simp⟩
    | cons e l ih =>
      intro h
      obtain ⟨ks,h1,h2⟩:=ih h.tail
      obtain ⟨⟨k,hk,_⟩,_⟩:=h.head
      obtain ⟨tk,ev⟩:∃ t,e.2=.int k t:=zqk hk
      refine ⟨k::ks,by rw [List.map_cons,ev];exact .cons k tk h1,fun k'=>?_⟩
      rw [List.mem_cons,h2]
      constructor
      · rintro (rfl | ⟨e',m,q⟩)
        · exact ⟨e,by simp,hk⟩
        · exact ⟨e',by simp [m],q⟩
      · rintro ⟨e',m,q⟩
        rcases List.mem_cons.mp m with rfl | m
        · exact .inl ((intKind prog w).inj _ _ _ q hk)
        · exact .inr ⟨e',m,q⟩
  obtain ⟨ks,h1,h2⟩:=go es.toList hel
  exact ⟨es,ep,t,ks,⟨⟨o,ho,hex,hd⟩,hf,hk⟩,h1,hn,fun k=>(h2 k).trans (hmem k).symm⟩
theorem perm_of_cover:∀ {D L:List Int},D.Nodup→(∀ x∈D,x∈L)→L.length=D.length→L.Perm D
  | [],L,_,_,hl=>by
    have:L=[]:=List.length_eq_zero_iff.mp (by simpa using hl)
    rw [this]
  | d::D,L,hn,hs,hl=>by
    rw [List.nodup_cons] at hn
    have hd:d∈L:=hs d (by simp)
    refine (List.perm_cons_erase hd).trans (List.Perm.cons d (perm_of_cover hn.2 (fun x hx=>?_) ?_))
    · have:x≠d:=fun e=>hn.1 (e ▸ hx)
      exact (List.mem_erase_of_ne this).mpr (hs x (by simp [hx]))
    · rw [List.length_erase_of_mem hd,hl]
      simp
end
end SW
set_option Elab.async false
set_option linter.all false
set_option maxRecDepth 100000
set_option maxHeartbeats 4000000
namespace L2
open PySem PySem.Spec PyProof.Rows
theorem ObjOk.there {P:Program} {w:World} {H:Hp} {h:Heap} {a:Addr} {o:HO} (x:ObjOk P w H h a o):∃ u,h.get? a=some u:=by
  induction o with
  | lst xs=>obtain ⟨_,_,_,_,e⟩:=x;exact ⟨_,e⟩
  | tup xs=>obtain ⟨_,_,_,o,e,_⟩:=x;exact ⟨_,e⟩
  | dK kvs=>obtain ⟨_,_,_,_,o,_,_,e,_⟩:=x;exact ⟨_,e⟩
  | dT kvs=>obtain ⟨_,_,_,_,o,_,_,e,_⟩:=x;exact ⟨_,e⟩
  | set S n=>obtain ⟨o,_,_,_,e,_⟩:=x;exact ⟨_,e⟩
  | ins C dx fs=>obtain ⟨_,_,_,e,_⟩:=x;exact ⟨_,e⟩
  | own _=>exact x
  | xd fs=>obtain ⟨_,⟨_,_,_,e,_⟩,_⟩:=x;exact ⟨_,e⟩
  | rng lo hi=>obtain ⟨_,_,_,e⟩:=x;exact ⟨_,e⟩
  | frz o u=>exact ⟨_,x.1⟩
  | tbl ps=>exact ⟨_,x⟩
  | met f x'=>exact ⟨_,x⟩
  | ext φ=>exact x.2.1
section
variable {X:Cx} {pins:List (Addr × Obj)} {σ:St} {H:Hp} {s:Shared}
theorem Inv.laidN {a:Addr} {o:HO} {s':Shared} (I:Inv X pins σ H s) (k:∀ b u,s.heap.get? b=some u→s'.heap.get? b=some u) (hn:s.heap.get? a=none) (hg:s'.gens=s.gens) (ho:s'.os=s.os) (new:ObjOk X.prog X.w (upd H a o) s'.heap a o) :
    Inv X pins σ (upd H a o) s':=by
  obtain ⟨h',g',d',t',os'⟩:=s'
  obtain rfl:os'=s.os:=ho
  obtain rfl:g'=s.gens:=hg
  have Ha:H a=none:=by
    cases q:H a with
    | none=>rfl
    | some u =>
      obtain ⟨v,hv⟩:=(I.hok a u q).there
      rw [hn] at hv
      cases hv
  have na:∀ b u,s.heap.get? b=some u→b≠a:=fun b u e z=>by rw [z,hn] at e;cases e
  refine I.step (ch:=[]) (fun b hb=>absurd hb (by simp)) (fun b u _ _ _ e _=>k b u e) (fun b u _ _ _ e _=>⟨u.slots,k b u e⟩) (fun b u _ e n=>by rw [zi (na b u e)];exact n)
    (fun b u _ e=>⟨u,k b u e⟩) (fun b xs e=>by rw [zi (zn e Ha)];exact e) (fun b u v e=>by rw [zi (zn e Ha)];exact e) (fun b ps e=>⟨#[],by rw [zi (zn e Ha),e];simp⟩) (fun m hm=>hm.keeps k) ?_ I.bare
  intro b u e
  by_cases hb:b=a
  · subst hb;rw [ze] at e;cases e;exact new
  · rw [zi hb] at e
    exact (I.hok b u e).stay (fun c v _ q=>k c v q) (fun c q=>by rw [zi (zn q Ha)];exact q) fun c xs q=>by rw [zi (zn q Ha)];exact q
end
section
variable {X:Cx}
def setO (P:Program) (w:World) (l:Addr) (ns:List Int):HO:=.ext fun h=>SW.SetR P w h l (SW.metB (fun i=>ns.getD i 0) ns.length) (firstMet (fun i=>ns.getD i 0) ns.length).length
theorem zkm (hc:X.calm=true):CallR X (.type "set") (fun xs H Q=>∃ (p:Addr) (ns:List Int),xs=[.ref p]∧SqL X.K H p (ns.map V.int)∧ns.length≤1000∧∀ l,H l=none→Q (.ref l) (upd H l (setO X.prog X.w l ns))):=by
  intro pins s σ H xs us Q I r h
  obtain ⟨p,ns,rfl,hq,hl,q⟩:=h
  obtain ⟨u,rfl,ru⟩:=vals1 r
  cases ru
  obtain ⟨its,rv,pl,hz⟩:=I.list hq
  have hi:IntsAre its ns:=zbj rv
  have hlen:its.length=ns.length:=by have:=rv.length;simpa using this.symm
  have ez:its.toArray.size=ns.length:=by rw [List.size_toArray,hlen]
  refine SW.set_R (items:=its.toArray) (ns:=ns) (I.ok.hd hc) pl.isList (by simpa using hi) (by rw [ez];exact Nat.lt_of_le_of_lt (Nat.succ_le_succ hl) (by decide)) fun h' tk hS hk=>?_
  rw [ez] at hS
  obtain ⟨o,es,ep,t,ho,_⟩:=id hS
  exact ⟨.ref s.heap.objs.size,_,I.laid (o:=setO X.prog X.w s.heap.objs.size ns) (t':=tk) (fun b o e=>hk b o (Heap.lt_size e) e) (Nat.le_refl _) ⟨hS,⟨o,ho⟩,fun h1 h2 r1 k=>r1.at k⟩,rfl,q _ I.fresh⟩
theorem za3 (val:Nat→Int):∀ i,(firstMet val i).Nodup
  | 0=>by rw [firstMet_zero];exact List.nodup_nil
  | i+1=>by
    rw [firstMet_succ]
    unfold step_dedup
    have ih:=za3 val i
    split
    · exact ih
    · rename_i hn
      rw [List.nodup_append]
      refine ⟨ih,by simp,fun x hx y hy e=>hn ?_⟩
      simp at hy
      rw [List.any_eq_true]
      exact ⟨x,hx,by rw [e,hy];simp⟩
theorem zhn (ns:List Int) (k:Int):(firstMet (fun i=>ns.getD i 0) ns.length).any (·==k)=true↔k∈ns:=by
  rw [firstMet_any,List.any_map,List.any_eq_true]
  constructor
  · rintro ⟨i,hi,e⟩
    have hi:=List.mem_range.mp hi
    have e:ns.getD i 0=k:=by simpa using e
    rw [List.getD_eq_getElem?_getD,List.getElem?_eq_getElem hi] at e
    rw [← e]
    exact List.getElem_mem hi
  · intro h
    obtain ⟨i,hi,e⟩:=List.mem_iff_getElem.mp h
    refine ⟨i,List.mem_range.mpr hi,?_⟩
    show (ns.getD i 0==k)=true
    rw [List.getD_eq_getElem?_getD,List.getElem?_eq_getElem hi,← e]
    simp
theorem zep (hc:X.calm=true):CallR X (.builtin "sorted") (fun xs H Q=>∃ (p:Addr) (ns:List Int),xs=[.ref p]∧H p=some (setO X.prog X.w p ns)∧ns.length<64 ∧
    ∀ (l:Addr) (ms:List Int),H l=none→ms.Pairwise (·<·)→(∀ k,k∈ms↔k∈ns)→ms.length≤ns.length→Q (.ref l) (upd H l (.lst (ms.map V.int)))):=by
  intro pins s σ H xs us Q I r h
  obtain ⟨p,ns,rfl,hp,hl,q⟩:=h
  obtain ⟨u,rfl,ru⟩:=vals1 r
  cases ru
  obtain ⟨hS,_,_⟩:=(show ObjOk X.prog X.w H s.heap p (setO X.prog X.w p ns) from I.hok p _ hp)
  obtain ⟨es,ep,t,ks,L,hI,hz,hks⟩:=hS.lies
  have hle:=firstMet_length_le (fun i=>ns.getD i 0) ns.length
  have hkl:ks.length=(firstMet (fun i=>ns.getD i 0) ns.length).length:=by
    have:=hI.length
    rw [List.length_map,Array.length_toList] at this
    omega
  have hmem:∀ k,k∈ks↔k∈ns:=fun k=>(hks k).trans (zhn ns k)
  have hperm:ks.Perm (firstMet (fun i=>ns.getD i 0) ns.length):=SW.perm_of_cover (za3 _ _) (fun x hx=>(hks x).mpr (by rw [List.any_eq_true];exact ⟨x,hx,by simp⟩)) hkl
  have hnd:ks.Nodup:=hperm.nodup_iff.mpr (za3 _ _)
  refine SW.sorted_set (I.ok.hd hc) L hI (by omega) fun r out n ms s' h1 h2 h3 h4 h5 h6 h7 h8=>?_
  have hn:H r=none:=by
    cases e:H r with
    | none=>rfl
    | some o =>
      obtain ⟨v,hv⟩:=(I.hok r o e).there
      rw [h5] at hv
      cases hv
  have hml:(ms.map V.int).length≤sizeLine:=by
    rw [List.length_map,h2.length_eq,hkl]
    exact Nat.le_trans hle (Nat.le_trans (Nat.le_of_lt hl) (by decide))
  refine ⟨.ref r,_,I.laidN (o:=.lst (ms.map V.int)) h6 h5 h7 h8 ⟨hml,out.toList,n,zbw h1,by simpa [seqObj] using h4⟩,rfl,q r ms hn ?_ (fun k=>(h2.mem_iff).trans (hmem k)) (by rw [h2.length_eq,hkl];exact hle)⟩
  have nd2:ms.Nodup:=h2.nodup_iff.mpr hnd
  rw [List.nodup_iff_pairwise_ne] at nd2
  exact (h3.and nd2).imp fun {a b} x=>by omega
end
end L2
set_option Elab.async false
set_option linter.all false
set_option maxRecDepth 100000
namespace SW
open PySem PySem.Spec PyProof.Rows
theorem zgn:typeLookup (.type "dict_values") "__len__"=pure (some (.builtin "dict_values.__len__")):=by rw [typeLookup_type,builtinLookup_eq_fast];kernel_rfl
theorem ze9:splitId "dict_values.__len__"=some ("dict_values","__len__"):=by decide +kernel
def RawD (h:Heap) (d:Addr) (es:Array DictEntry) (ep:Nat):Prop:=∃ o,h.get? d=some o∧o.ExactDict∧o.data=.dict es ep
theorem RawD.at {h h':Heap} {d:Addr} {es:Array DictEntry} {ep:Nat} (r:RawD h d es ep) (k:∀ o,h.get? d=some o→h'.get? d=some o):RawD h' d es ep:=by
  obtain ⟨o,ho,z⟩:=r
  exact ⟨o,k o ho,z⟩
section
variable {prog:Program} {w:World} {A:Around} {E:Value→Shared→Prop} {s:Shared}
theorem zmd {v d:Addr} {es:Array DictEntry} {ep:Nat} {Q:Value→Shared→Prop} (hv:s.heap.IsValuesView v d) (hm:RawD s.heap d es ep)
    (hQ:Q (.ref s.heap.objs.size) {s with heap:=s.heap.push {cls:=.type "dict_valueiterator",data:=.fields #[.ref d,.int 0 0,.int es.size 0,.int ep 0]}}) :
    wpAny (model prog w) A (pyIter (.ref v)) Q E s:=by
  obtain ⟨ov,hov,hcv,hdv⟩:=id hv
  obtain ⟨o,ho,hc,hdat⟩:=id hm
  refine wpAny_pyIter_slot hv.typeIs F.slot_dict_values_iter (wpAny_call_entry F.slot_dict_values_iter hv.typeIs F.entry_dict_values_iter ?_ (F.args_dict_values_iter_1 _))
  unfold Builtin.«dict_values.__iter__»
  refine wpAny_bind (wpAny_pure (wpAny_bind ?_))
  unfold Builtin.Dict_items.dictOf
  refine wpAny_bind (wpAny_field hov hdv (x:=.ref d) rfl (wpAny_pure (wpAny_bind ?_)))
  unfold Builtin.Dict_items.newIterator
  refine wpAny_bind (wpAny_dictEntries ho hdat (wpAny_bind (wpAny_dictEpoch ho hdat ?_)))
  have hown:Builtin.Dict_items.ownsTuple "dict_valueiterator"=false:=by decide
  simp only [hown,Bool.false_eq_true,if_false]
  refine wpAny_newObj_type (wpAny_pure ⟨_,rfl,"dict_valueiterator",_,⟨_,Heap.get?_push_size _ rfl,rfl⟩,F.slot_dict_valueiterator_next.lookup,?_⟩)
  simpa [rawInt] using hQ
theorem zme {it d:Addr} {i ep:Nat} {es:Array DictEntry} {Q:Option Value→Shared→Prop} (hit:s.heap.IsValIter it d i es.size ep) (hm:RawD s.heap d es ep) (hx:i<es.size)
    (hQ:∀ h',h'.IsValIter it d (i+1) es.size ep→Heap.SameBut it s.heap h'→Q (some es[i].val) {s with heap:=h'}):wpAny (model prog w) A (pyNext (.ref it)) Q E s:=by
  obtain ⟨o,ho,hc,hd⟩:=id hit
  obtain ⟨od,hod,hcd,hdd⟩:=id hm
  unfold pyNext
  refine wpAny_bind (wpAny_attempt (wpAny_callSpecial?_slot (name:=Str.ofString "__next__") hit.typeIs F.slot_dict_valueiterator_next (wpAny_call_entry F.slot_dict_valueiterator_next hit.typeIs F.entry_dict_valueiterator_next ?_ (F.args_dict_valueiterator_next_1 _))))
  refine wpAny_bind (wpAny_pure (wpAny_bind (wpAny_bind ?_)))
  first | refine wpAny_bind (wpAny_typeNameOfWhole_valiter hit.typeIs (wpAny_pure ?_)) | refine wpAny_bind (wpAny_typeNameOf_valiter hit.typeIs (wpAny_pure ?_))
  refine wpAny_bind (wpAny_fieldsOf ho hd ?_)
  have hown:Builtin.Dict_items.ownsTuple "dict_valueiterator"=false:=by decide
  simp only [hown,Bool.false_eq_true,if_false]
  show wpAny _ _ (if (Value.ref d==Value.none)=true then _ else _) _ _ s
  rw [if_neg (show ¬ ((Value.ref d==Value.none)=true) from Bool.false_ne_true)]
  refine wpAny_bind (wpAny_pure (wpAny_bind (wpAny_dictEntries hod hdd ?_)))
  rw [if_neg (by simp)]
  refine wpAny_bind (wpAny_pure (wpAny_bind (wpAny_dictEpoch hod hdd ?_)))
  rw [if_neg (by simp)]
  refine wpAny_pure ?_
  simp only [show ¬ ((i:Int)<0) from by omega,if_false,Int.toNat_natCast,Array.getElem?_eq_getElem hx]
  refine wpAny_bind ?_
  first | refine wpAny_bind (wpAny_typeNameOfWhole_valiter hit.typeIs (wpAny_pure ?_)) | refine wpAny_bind (wpAny_typeNameOf_valiter hit.typeIs (wpAny_pure ?_))
  refine wpAny_bind (wpAny_isOneOf_valiter hit.typeIs ?_)
  show wpAny _ _ (setField (.ref it) 1 (rawInt ((i:Int)+1)) >>= _) _ _ s
  refine wpAny_bind (wpAny_setField ho hd (by simp) ?_)
  generalize hg:s.heap.update it (Obj.mapFields (·.setIfInBounds 1 (rawInt ((i:Int)+1))))=g
  have hit':g.IsValIter it d (i+1) es.size ep:=by
    rw [← hg]
    exact ⟨_,Heap.get?_update_self _ ho (Obj.isFreed_of_fields (Obj.data_mapFields hd _)),(Obj.cls_mapFields ..).trans hc,by rw [Obj.data_mapFields hd];simp [rawInt]⟩
  have hsb:Heap.SameBut it s.heap g:=by rw [← hg];exact Heap.SameBut.update ..
  refine wpAny_bind (wpAny_holding (wpAny_bind (wpAny_isOneOf_valiter (s:={s with heap:=g}) hit'.typeIs (wpAny_bind (wpAny_isOneOf_valiter (s:={s with heap:=g}) hit'.typeIs ?_)))))
  show wpAny _ _ (pure es[i].val) _ _ _
  exact wpAny_pure (wpAny_pure ⟨_,rfl,wpAny_pure (hQ _ hit' hsb)⟩)
theorem zn0 {it d:Addr} {ep:Nat} {es:Array DictEntry} {Q:Option Value→Shared→Prop} (hh:A.handled=none) (hit:s.heap.IsValIter it d es.size es.size ep) (hm:RawD s.heap d es ep)
    (hQ:∀ h',Heap.ExtBut it s.heap h'→Q none {s with heap:=h'}):wpAny (model prog w) A (pyNext (.ref it)) Q E s:=by
  obtain ⟨o,ho,hc,hd⟩:=id hit
  obtain ⟨od,hod,hcd,hdd⟩:=id hm
  unfold pyNext
  refine wpAny_bind (wpAny_attempt (wpAny_callSpecial?_slot (name:=Str.ofString "__next__") hit.typeIs F.slot_dict_valueiterator_next (wpAny_call_entry F.slot_dict_valueiterator_next hit.typeIs F.entry_dict_valueiterator_next ?_ (F.args_dict_valueiterator_next_1 _))))
  refine wpAny_bind (wpAny_pure (wpAny_bind (wpAny_bind ?_)))
  first | refine wpAny_bind (wpAny_typeNameOfWhole_valiter hit.typeIs (wpAny_pure ?_)) | refine wpAny_bind (wpAny_typeNameOf_valiter hit.typeIs (wpAny_pure ?_))
  refine wpAny_bind (wpAny_fieldsOf ho hd ?_)
  have hown:Builtin.Dict_items.ownsTuple "dict_valueiterator"=false:=by decide
  simp only [hown,Bool.false_eq_true,if_false]
  show wpAny _ _ (if (Value.ref d==Value.none)=true then _ else _) _ _ s
  rw [if_neg (show ¬ ((Value.ref d==Value.none)=true) from Bool.false_ne_true)]
  refine wpAny_bind (wpAny_pure (wpAny_bind (wpAny_dictEntries hod hdd ?_)))
  rw [if_neg (by simp)]
  refine wpAny_bind (wpAny_pure (wpAny_bind (wpAny_dictEpoch hod hdd ?_)))
  rw [if_neg (by simp)]
  refine wpAny_pure ?_
  simp only [show ¬ ((es.size:Int)<0) from by omega,if_false,Int.toNat_natCast,Array.getElem?_eq_none (Nat.le_refl es.size)]
  refine wpAny_bind ?_
  first | refine wpAny_bind (wpAny_typeNameOfWhole_valiter hit.typeIs (wpAny_pure ?_)) | refine wpAny_bind (wpAny_typeNameOf_valiter hit.typeIs (wpAny_pure ?_))
  show wpAny _ _ (setField (.ref it) 0 .none >>= _) _ _ s
  refine wpAny_bind (wpAny_setField ho hd (by simp) ?_)
  show wpAny _ _ (newExc (.type "StopIteration") [] >>= _) _ _ _
  refine wpAny_bind ?_
  simp only [newExc,newTuple]
  refine wpAny_bind (wpAny_newObj_type ?_ (by size_fits))
  refine wpAny_bind (m:=firstArgMember _ _) (wpAny_of_eq (a:=Value.none) (by first | rfl | (simp only [firstArgMember];rfl)) ?_)
  refine wpAny_newObj_type ?_ (by size_fits)
  simp only [raiseNew]
  refine wpAny_bind (wpAny_handled ?_)
  rw [show A.in1.handled=none from hh]
  refine wpAny_bind (wpAny_pure (wpAny_throw ?_))
  refine wpAny_bind (wpAny_isInstance (T:="StopIteration") (b:=true) ⟨_,Heap.get?_push_size _ rfl,rfl⟩ isSubtype_stop ?_)
  exact wpAny_pure (hQ _ (((Heap.SameBut.update ..).extBut.push _).push _))
theorem zmf {it d:Addr} {es:Array DictEntry} {ep:Nat} (hh:A.handled=none) (hne:d≠it) :
    Walks prog w A it [it,d] [it] es.size (fun i v=>∃ h:i<es.size,v=es[i].val) (fun i h=>h.IsValIter it d i es.size ep∧RawD h d es ep) where
  sub:=fun b hb=>by simp at hb;simp [hb]
  frame:=fun _ _ _ st hk=>⟨st.1.at fun o e=>hk it (by simp) o e,st.2.at fun o e=>hk d (by simp) o e⟩
  item:=fun i s Q E hi st hQ=>by
    refine zme st.1 st.2 hi fun h' hit' sb=>?_
    exact hQ _ h' s.toks ⟨hi,rfl⟩ ⟨hit',st.2.at fun o e=>sb.extBut d o hne e⟩ (fun b o hb e=>sb.extBut b o (fun h=>hb (by simp [h])) e)
  done:=fun s Q E st hQ=>zn0 hh st.1 st.2 fun h' he=>hQ h' s.toks (fun b o hb e=>he b o (fun h=>hb (by simp [h])) e)
  self:=fun _ _ _ _ st hQ=>wpAny_pyIter_valiter st.1 hQ
theorem zmg {L it a d:Addr} {xs:List String} {c:Nat} {res:Value} {R:PySem.Fin→Shared→Prop} (hv:s.heap.IsValuesView a d) (hL:s.heap.get? L=some {cls:=.type "list",dict:=none,data:=.seq #[] c,slots:=#[]})
    (hx:xs.any (fun x=>Value.type "dict_values"==Value.type x)=true)
    (hK:∀ h' c,h'.get? L=some {cls:=.type "list",dict:=none,data:=.seq #[] c,slots:=#[]}→Heap.SameBut L s.heap h'→R (.again (.builtin "list.extend.loop" ⟨[.ref L,.ref it,res],[]⟩)) {s with heap:=h'}) :
    wpAny (model prog w) A (do
      let room ← holding [.ref it] (Builtin.List.listLengthHint (.ref a))
      if room||xs.any (Value.type "dict_values"==.type ·) then rule "list.extend.makes-room";Builtin.List.listTouch (.ref L)
      again (.builtin "list.extend.loop" ⟨[.ref L,.ref it,res],[]⟩)) R E s:=by
  have hT:=hv.typeIs
  refine wpAny_bind (wpAny_holding ?_)
  unfold Builtin.List.listLengthHint
  refine wpAny_bind (wpAny_specialOf hT zgn ?_)
  dsimp only
  rw [ze9]
  refine wpAny_bind (wpAny_isInstance (b:=true) hT (by rw [isSubtype_type];kernel_rfl) ?_)
  rw [if_neg (by decide),if_pos (by decide +kernel)]
  refine wpAny_bind (wpAny_typeOf hT (wpAny_pure ?_))
  rw [if_pos (by rw [hx];rfl)]
  refine wpAny_bind (wpAny_rule (wpAny_bind ?_))
  show wpAny _ _ (updateSeq L (·.push .none) >>= fun _=>updateSeq L (·.pop)) _ _ _
  have g1:=Heap.get?_update_self (Obj.mapSeq (·.push Value.none)) hL rfl
  refine wpAny_bind (wpAny_updateSeq hL rfl (wpAny_updateSeq g1 rfl ?_))
  have g2:=Heap.get?_update_self (Obj.mapSeq (·.pop)) g1 rfl
  exact wpAny_pure (hK _ _ g2 ((Heap.SameBut.update ..).trans (Heap.SameBut.update ..)))
theorem list_vals {v d:Addr} {es:Array DictEntry} {ep:Nat} {Q:Value→Shared→Prop} (hh:A.handled=none) (hv:s.heap.IsValuesView v d) (hm:RawD s.heap d es ep) (hz:es.size≤1000)
    (h:∀ h' tk (acc:Array Value) c,(∀ b o,s.heap.get? b=some o→h'.get? b=some o)→h'.get? s.heap.objs.size=some {cls:=.type "list",dict:=none,data:=.seq acc c,slots:=#[]}→acc.toList=es.toList.map (·.val)→Q (.ref s.heap.objs.size) {s with heap:=h',toks:=tk}) :
    wpAny (model prog w) A (call (.type "list") [.ref v]) Q E s:=by
  refine callType_codes (Q₁:=fun obj s₁=>obj=.ref s.heap.objs.size∧s₁={s with heap:=s.heap.push {cls:=.type "list",data:=.seq #[]}}) F.called_list (F.typeCall_list_1 _) F.entry_list_init (code_list_new _ ⟨rfl,rfl⟩) fun obj s₁ h₁=>?_
  obtain ⟨rfl,rfl⟩:=h₁
  have hvl:v<s.heap.objs.size:=by obtain ⟨o,ho,_⟩:=hv;exact Heap.lt_size ho
  have hdl:d<s.heap.objs.size:=by obtain ⟨o,ho,_⟩:=hm;exact Heap.lt_size ho
  have hS:(s.heap.push {cls:=.type "list",data:=.seq #[]}).get? s.heap.objs.size=some {cls:=.type "list",data:=.seq #[]}:=Heap.get?_push_size _ rfl
  refine ⟨⟨_,hS,rfl⟩,F.args_list_init_2 _ _,?_⟩
  show wpAny _ _ (do let old ← Builtin.List.listItems (.ref s.heap.objs.size);Builtin.List.listUpdate (.ref s.heap.objs.size) (fun _=>#[]);letGo old.toList.reverse;Builtin.List.listExtendWith (.ref s.heap.objs.size) (.ref v) .none) _ _ _
  refine wpAny_bind ?_
  unfold Builtin.List.listItems
  refine wpAny_bind (wpAny_seqItems hS rfl (wpAny_pure ?_))
  show wpAny _ _ (updateSeq s.heap.objs.size (fun _=>#[]) >>= fun _=>letGo (#[]:Array Value).toList.reverse >>= fun _=>Builtin.List.listExtendWith (.ref s.heap.objs.size) (.ref v) .none) _ _ _
  refine wpAny_bind (wpAny_updateSeq hS rfl ?_)
  have hS₂:=Heap.get?_update_self (Obj.mapSeq (fun _=>(#[]:Array Value))) hS rfl
  refine wpAny_bind (wpAny_letGo ?_)
  generalize hg0:(s.heap.push {cls:=Value.type "list",dict:=none,data:=.seq #[] 0,slots:=#[]}).update s.heap.objs.size (Obj.mapSeq (fun _=>(#[]:Array Value)))=g0 at hS₂ ⊢
  have z0:g0.objs.size=s.heap.objs.size+1:=by rw [← hg0,Heap.size_update];exact Heap.size_push ..
  have up0:∀ b o,s.heap.get? b=some o→g0.get? b=some o:=fun b o e=>by
    rw [← hg0]
    exact (Heap.get?_update_other _ _ (Nat.ne_of_gt (Heap.lt_size e))).trans (Heap.get?_push_of_some _ e)
  have hv0:g0.IsValuesView v d:=by obtain ⟨o,ho,q⟩:=hv;exact ⟨o,up0 _ _ ho,q⟩
  have hm0:RawD g0 d es ep:=hm.at fun o e=>up0 d o e
  have hsr:Builtin.List.listSameRef (.ref s.heap.objs.size) (.ref v)=false:=by simp [Builtin.List.listSameRef,Nat.ne_of_gt hvl]
  unfold Builtin.List.listExtendWith
  refine wpAny_bind (wpAny_typeOf (Heap.IsValuesView.typeIs (s:={s with heap:=g0}) hv0) ?_)
  rw [if_neg (by rw [hsr];decide)]
  refine wpAny_bind (zmd (s:={s with heap:=g0}) hv0 hm0 ?_)
  generalize hio:({cls:=Value.type "dict_valueiterator",data:=.fields #[.ref d,.int 0 0,.int es.size 0,.int ep 0]}:Obj)=io
  have hit:(g0.push io).IsValIter g0.objs.size d 0 es.size ep:=⟨io,Heap.get?_push_size _ (by rw [← hio];rfl),by rw [← hio],by rw [← hio];rfl⟩
  have upi:∀ b o,g0.get? b=some o→(g0.push io).get? b=some o:=fun b o e=>Heap.get?_push_of_some _ e
  have nLi:s.heap.objs.size≠g0.objs.size:=by rw [z0];exact Nat.ne_of_lt (Nat.lt_succ_self _)
  have ndi:d≠g0.objs.size:=by rw [z0];exact Nat.ne_of_lt (Nat.lt_succ_of_lt hdl)
  have hv1:(g0.push io).IsValuesView v d:=by obtain ⟨o,ho,q⟩:=hv0;exact ⟨o,upi _ _ ho,q⟩
  refine zmg (s:={s with heap:=g0.push io}) hv1 (upi _ _ hS₂) (by decide +kernel) fun h' c hL' sb=>?_
  refine ⟨plainId_quiet F.plain_extend_loop _,codeAny_extend_loopS (zmf (prog:=prog) (A:=A.in1.in1) (es:=es) (ep:=ep) (by simp [hh]) ndi).toS (by rw [sizeLine_eq];omega) s.heap.objs.size (by simp [nLi,Nat.ne_of_gt hdl]) _ (es.size - 0) 0 _ #[] c (by omega) (Nat.zero_le _)
    ⟨hit.at fun o e=>sb.extBut _ _ (Ne.symm nLi) e,(hm0.at fun o e=>upi d o e).at fun o e=>sb.extBut _ _ (Nat.ne_of_lt hdl) e⟩ hL' (ItemsOf.nil _) fun s' acc c' hm' hS' hacc=>?_⟩
  refine ⟨rfl,?_⟩
  rw [Moved.eq_with hm']
  refine h s'.heap s'.toks acc c' (fun b o e=>?_) hS' ?_
  · have hb:=Heap.lt_size e
    refine hm'.heap b o ?_ (sb.extBut b o (Nat.ne_of_lt hb) (upi b o (up0 b o e)))
    have n1:b≠s.heap.objs.size:=Nat.ne_of_lt hb
    have n2:b≠g0.objs.size:=by rw [z0];exact Nat.ne_of_lt (Nat.lt_succ_of_lt hb)
    simp [n1,n2]
  · apply List.ext_getElem?
    intro i
    rw [List.getElem?_map]
    by_cases hi:i<acc.size
    · rw [Array.getElem?_toList,Array.getElem?_eq_getElem hi]
      obtain ⟨hi2,e⟩:=hacc.2 i _ (Array.getElem?_eq_getElem hi)
      rw [Array.getElem?_toList,Array.getElem?_eq_getElem hi2,e]
      rfl
    · rw [List.getElem?_eq_none (by simpa using hi),List.getElem?_eq_none (by rw [Array.length_toList,← hacc.1];omega)]
      rfl
end
end SW
set_option Elab.async false
set_option linter.all false
set_option maxRecDepth 100000
namespace SW
open PySem PySem.Spec PyProof.Rows
abbrev zipO (TI TO T:Addr) (f:Bool):Obj:={cls:=.type "zip",dict:=none,data:=.fields #[rawInt T,.bool f,.bool false,.ref TI,.ref TO],slots:=#[]}
section
variable {prog:Program} {w:World} {A:Around} {E:Value→Shared→Prop} {s:Shared}
theorem zn1 {a:Addr} {o:Obj} {Q:Option Obj→Shared→Prop} (ho:s.heap.get? a=some o) (h:Q (some o) s):wpAny (model prog w) A (loadIfAlive a) Q E s:=fun Γ p hΓ=>by
  show Sem.wp _ _ (Sem.loadIfAlive a Sem.pure) _ _ _ _
  rw [Sem.wp_loadIfAlive,ho,Sem.wp_pure]
  exact h
theorem zho {z TI TO T:Addr} {f:Bool} {ot:Obj} {Q:Bool→Shared→Prop} (hz:s.heap.get? z=some (zipO TI TO T f)) (hT:s.heap.get? T=some ot)
    (h:∀ h',h'.get? z=some (zipO TI TO T true)→Heap.SameBut z s.heap h'→Q false {s with heap:=h'}):wpAny (model prog w) A (Builtin.SmallTypes.ownedTupleIsFree (.ref z)) Q E s:=by
  unfold Builtin.SmallTypes.ownedTupleIsFree
  refine wpAny_bind (wpAny_field hz rfl (x:=rawInt T) rfl ?_)
  show wpAny _ _ (loadIfAlive ((T:Nat):Int).toNat >>= _) _ _ _
  rw [Int.toNat_natCast]
  refine wpAny_bind (zn1 hT ?_)
  rw [if_neg (by simp)]
  refine wpAny_bind (wpAny_field hz rfl (x:=.bool f) rfl ?_)
  cases f with
  | true =>
    rw [if_neg (by decide)]
    exact wpAny_pure (h s.heap hz (Heap.SameBut.refl _ _))
  | false =>
    rw [if_pos (by decide)]
    refine wpAny_bind (wpAny_setField_rec hz (by simp) fun h1 g1 sb1=>wpAny_pure (h h1 ?_ sb1))
    rw [g1]
    rfl
theorem zpg {z TI TO T i1 i2 l1 l2:Addr} {k1 k2:Nat} {xs ys:Array Value} {x y:Value} {f:Bool} {ot:Obj} {Q:Value→Shared→Prop} (D:ZipApart z TI TO i1 i2 l1 l2)
    (hz:s.heap.get? z=some (zipO TI TO T f)) (hT:s.heap.get? T=some ot) (hTI:IsPair s.heap TI (.ref i1) (.ref i2))
    (h1:s.heap.IsListIter i1 l1 k1) (h2:s.heap.IsListIter i2 l2 k2) (hl1:s.heap.IsList l1 xs) (hl2:s.heap.IsList l2 ys) (hx:xs[k1]?=some x) (hy:ys[k2]?=some y)
    (hQ:∀ h',h'.get? z=some (zipO TI TO T true)→h'.IsListIter i1 l1 (k1+1)→h'.IsListIter i2 l2 (k2+1)→IsPair h' s.heap.objs.size x y →
      (∀ c o,c≠z→c≠i1→c≠i2→s.heap.get? c=some o→h'.get? c=some o)→Q (.ref s.heap.objs.size) {s with heap:=h'}) :
    wpAny (model prog w) A (Builtin.«zip.__next__» ⟨[.ref z],[]⟩) (fun fin s'=>∃ v,fin=.done (.ret v)∧Q v s') E s:=by
  show wpAny _ _ (field (.ref z) 2 >>= _) _ _ _
  refine wpAny_bind (wpAny_field hz rfl (x:=.bool false) rfl ?_)
  show wpAny _ _ (field (.ref z) 3 >>= _) _ _ _
  refine wpAny_bind (wpAny_field hz rfl (x:=.ref TI) rfl (wpAny_bind (wpAny_seqItems hTI rfl ?_)))
  show wpAny _ _ (Builtin.SmallTypes.ownedTupleIsFree (.ref z) >>= _) _ _ _
  refine wpAny_bind (zho hz hT fun ha ga sa=>?_)
  rw [if_neg (by decide)]
  dsimp only
  rw [← Array.forIn_toList]
  refine wpAny_bind ?_
  simp only [List.forIn_cons,List.forIn_nil]
  have upa:∀ c o,c≠z→s.heap.get? c=some o→ha.get? c=some o:=fun c o hc e=>sa.extBut _ _ hc e
  refine wpAny_bind (wpAny_bind (wpAny_holding ?_))
  show wpAny _ _ (Builtin.SmallTypes.nextOf (.ref i1) >>= _) _ _ _
  refine wpAny_bind (wpAny_nextOf_list_item (s:={s with heap:=ha}) (h1.extBut sa.extBut D.i1z) (hl1.extBut sa.extBut D.l1z) hx fun hb h1b sb=>wpAny_pure (wpAny_pure ?_))
  refine wpAny_bind (wpAny_bind (wpAny_holding ?_))
  show wpAny _ _ (Builtin.SmallTypes.nextOf (.ref i2) >>= _) _ _ _
  refine wpAny_bind (wpAny_nextOf_list_item (s:={s with heap:=hb}) ((h2.extBut sa.extBut D.i2z).extBut sb.extBut D.i12.symm) ((hl2.extBut sa.extBut D.l2z).extBut sb.extBut D.l2i1) hy fun hc h2c sc=>wpAny_pure (wpAny_pure (wpAny_pure ?_)))
  dsimp only
  refine wpAny_bind (wpAny_newTuple ?_ (by show 2≤sizeLine;decide))
  have hsz:hc.objs.size=s.heap.objs.size:=by rw [sc.1,sb.1,sa.1]
  have gz:hc.get? z=some (zipO TI TO T true):=sc.extBut _ _ D.i2z.symm (sb.extBut _ _ D.i1z.symm ga)
  have h1c:hc.IsListIter i1 l1 (k1+1):=h1b.extBut sc.extBut D.i12
  refine wpAny_pure ⟨_,rfl,?_⟩
  have fin:=hQ (hc.push {cls:=.type "tuple",data:=.seq #[x,y]}) (Heap.get?_push_of_some _ gz) (h1c.at fun o e=>Heap.get?_push_of_some _ e) (h2c.at fun o e=>Heap.get?_push_of_some _ e) (by rw [← hsz];exact Heap.get?_push_size _ rfl)
    fun c o c1 c2 c3 e=>Heap.get?_push_of_some _ (sc.extBut _ _ c3 (sb.extBut _ _ c2 (upa c o c1 e)))
  rw [← hsz] at fin
  exact fin
theorem zql {z TI TO T i1 i2 l1 l2:Addr} {k1:Nat} {xs:Array Value} {f:Bool} {ot:Obj} {Q:PySem.Fin→Shared→Prop} (hh:A.handled=none) (D:ZipApart z TI TO i1 i2 l1 l2)
    (hz:s.heap.get? z=some (zipO TI TO T f)) (hT:s.heap.get? T=some ot) (hTI:IsPair s.heap TI (.ref i1) (.ref i2))
    (h1:s.heap.IsListIter i1 l1 k1) (hl1:s.heap.IsList l1 xs) (hx:xs[k1]?=none)
    (hE:∀ h' e,(∀ c o,c≠z→c≠i1→s.heap.get? c=some o→h'.get? c=some o)→(∃ o,h'.get? e=some o∧o.cls=.type "StopIteration")→E (.ref e) {s with heap:=h'}) :
    wpAny (model prog w) A (Builtin.«zip.__next__» ⟨[.ref z],[]⟩) Q E s:=by
  show wpAny _ _ (field (.ref z) 2 >>= _) _ _ _
  refine wpAny_bind (wpAny_field hz rfl (x:=.bool false) rfl ?_)
  show wpAny _ _ (field (.ref z) 3 >>= _) _ _ _
  refine wpAny_bind (wpAny_field hz rfl (x:=.ref TI) rfl (wpAny_bind (wpAny_seqItems hTI rfl ?_)))
  show wpAny _ _ (Builtin.SmallTypes.ownedTupleIsFree (.ref z) >>= _) _ _ _
  refine wpAny_bind (zho hz hT fun ha ga sa=>?_)
  rw [if_neg (by decide)]
  dsimp only
  rw [← Array.forIn_toList]
  refine wpAny_bind ?_
  simp only [List.forIn_cons,List.forIn_nil]
  refine wpAny_bind (wpAny_bind (wpAny_holding ?_))
  show wpAny _ _ (Builtin.SmallTypes.nextOf (.ref i1) >>= _) _ _ _
  refine wpAny_bind (wpAny_nextOf_list_end (s:={s with heap:=ha}) hh (h1.extBut sa.extBut D.i1z) (hl1.extBut sa.extBut D.l1z) hx fun hb e sb he=>?_)
  exact hE hb e (fun c o c1 c2 q=>sb _ _ c2 (sa.extBut _ _ c1 q)) he
theorem zl_next {z TI TO T i1 i2 l1 l2:Addr} {k1 k2:Nat} {xs ys:Array Value} {x y:Value} {f:Bool} {ot:Obj} {Q:Option Value→Shared→Prop} (D:ZipApart z TI TO i1 i2 l1 l2)
    (hz:s.heap.get? z=some (zipO TI TO T f)) (hT:s.heap.get? T=some ot) (hTI:IsPair s.heap TI (.ref i1) (.ref i2))
    (h1:s.heap.IsListIter i1 l1 k1) (h2:s.heap.IsListIter i2 l2 k2) (hl1:s.heap.IsList l1 xs) (hl2:s.heap.IsList l2 ys) (hx:xs[k1]?=some x) (hy:ys[k2]?=some y)
    (hQ:∀ h',h'.get? z=some (zipO TI TO T true)→h'.IsListIter i1 l1 (k1+1)→h'.IsListIter i2 l2 (k2+1)→IsPair h' s.heap.objs.size x y →
      (∀ c o,c≠z→c≠i1→c≠i2→s.heap.get? c=some o→h'.get? c=some o)→Q (some (.ref s.heap.objs.size)) {s with heap:=h'}):wpAny (model prog w) A (pyNext (.ref z)) Q E s:=by
  have hTy:s.TypeIs (.ref z) "zip":=⟨_,hz,rfl⟩
  unfold pyNext
  exact wpAny_bind (wpAny_attempt (wpAny_callSpecial?_slot (name:=Str.ofString "__next__") hTy F.slot_zip_next (wpAny_call_entry F.slot_zip_next hTy F.entry_zip_next
      (zpg D hz hT hTI h1 h2 hl1 hl2 hx hy fun h' a1 a2 a3 a4 a5=>wpAny_pure (hQ h' a1 a2 a3 a4 a5)) (F.args_zip_next_1 _))))
theorem zl_stop {z TI TO T i1 i2 l1 l2:Addr} {k1:Nat} {xs:Array Value} {f:Bool} {ot:Obj} {Q:Option Value→Shared→Prop} (hh:A.handled=none) (D:ZipApart z TI TO i1 i2 l1 l2)
    (hz:s.heap.get? z=some (zipO TI TO T f)) (hT:s.heap.get? T=some ot) (hTI:IsPair s.heap TI (.ref i1) (.ref i2)) (h1:s.heap.IsListIter i1 l1 k1) (hl1:s.heap.IsList l1 xs) (hx:xs[k1]?=none)
    (hQ:∀ h',(∀ c o,c≠z→c≠i1→s.heap.get? c=some o→h'.get? c=some o)→Q none {s with heap:=h'}):wpAny (model prog w) A (pyNext (.ref z)) Q E s:=by
  have hTy:s.TypeIs (.ref z) "zip":=⟨_,hz,rfl⟩
  unfold pyNext
  refine wpAny_bind (wpAny_attempt (wpAny_callSpecial?_slot (name:=Str.ofString "__next__") hTy F.slot_zip_next (wpAny_call_entry F.slot_zip_next hTy F.entry_zip_next (zql (i2:=i2) (l2:=l2) hh D hz hT hTI h1 hl1 hx fun h' e hk he=>?_) (F.args_zip_next_1 _))))
  obtain ⟨o,ho,hc⟩:=he
  exact wpAny_bind (wpAny_isInstance (T:="StopIteration") (b:=true) ⟨o,ho,hc⟩ isSubtype_stop (wpAny_pure (hQ _ hk)))
end
end SW
set_option Elab.async false
set_option linter.all false
set_option maxRecDepth 100000
set_option maxHeartbeats 4000000
namespace L2
open PySem PySem.Spec PyProof.Rows
section
variable {X:Cx}
def viewO (l d:Addr):HO:=.ext fun h=>h.IsValuesView l d
def IsDt (H:Hp) (a:Addr) (vs:List V):Prop:=(∃ kvs,H a=some (.dK kvs)∧vs=kvs.map (·.2))∨∃ kvs,H a=some (.dT kvs)∧vs=kvs.map (·.2)
def rValues:V→List V→Hp→VK→Prop:=fun x us H Q=>∃ a vs,x=.ref a∧us=[]∧IsDt H a vs∧∀ l,H l=none→Q (.ref l) (upd H l (viewO l a))
theorem zmh {pins:List (Addr × Obj)} {σ:St} {H:Hp} {s:Shared} {a:Addr} {vs:List V} (I:Inv X pins σ H s) (h:IsDt H a vs) :
    (a==sysModules)=false∧vs.length≤sizeLine∧∃ es ep,SW.RawD s.heap a es ep∧Vals vs (es.toList.map (·.val)):=by
  rcases h with ⟨kvs,h,rfl⟩ | ⟨kvs,h,rfl⟩
  · obtain ⟨z,y,ws,r,o,es,ep,ho,ex,hd,hk,hp,hn⟩:=I.hok a _ h
    refine ⟨y,by simpa using z,es,ep,⟨o,ho,ex,hd⟩,?_⟩
    have e:es.toList.map (·.val)=ws.map (·.2):=by
      apply List.ext_getElem?
      intro i
      rw [List.getElem?_map,List.getElem?_map]
      have hl:es.toList.length=ws.length:=hp.length
      by_cases hi:i<ws.length
      · have e1:es.toList[i]?=some es.toList[i]:=List.getElem?_eq_getElem (by omega)
        have e2:ws[i]?=some (ws[i].1,ws[i].2):=List.getElem?_eq_getElem hi
        have:=(hp.get? e1 e2).2
        rw [e1,e2]
        simp only [Option.map_some]
        rw [this]
      · rw [List.getElem?_eq_none (by omega),List.getElem?_eq_none (by omega)]
        rfl
    rw [e]
    clear e hp hn h z
    induction r with
    | nil=>exact .nil
    | cons q t ih=>exact .cons q.2 ih
  · obtain ⟨z,y,ws,r,o,es,ep,ho,ex,hd,he,hn⟩:=I.hok a _ h
    refine ⟨y,by simpa using z,es,ep,⟨o,ho,ex,hd⟩,?_⟩
    rw [he]
    clear he hn h z
    induction r with
    | nil=>exact .nil
    | cons q t ih=>exact .cons q.2.2 ih
theorem zf4:MtM X "dict.values" rValues:=by
  intro pins s σ H x us v ws Q I rx rv h
  obtain ⟨a,vs,rfl,rfl,hd,q⟩:=h
  cases rx
  have hus:=rv.zero
  subst hus
  obtain ⟨hy,_,es,ep,⟨o,ho,ex,hdat⟩,_⟩:=zmh I hd
  have hT:s.TypeIs (.ref a) "dict":=⟨o,ho,ex.1⟩
  refine wpAny_call_entry PySem.F.slot_dict_values hT PySem.F.entry_dict_values ?_ (PySem.F.args_dict_values_1 _)
  refine wpAny_bind ?_
  unfold Builtin.Dict.noArgs
  refine wpAny_bind (wpAny_notOrdered_dict hT ?_)
  show wpAny _ _ (pure a) _ _ s
  refine wpAny_pure ?_
  show wpAny _ _ (Builtin.Dict.showsAll a >>= _) _ _ s
  unfold Builtin.Dict.showsAll
  rw [if_neg (by rw [hy];exact Bool.false_ne_true)]
  refine wpAny_bind (wpAny_pure (wpAny_bind (wpAny_newObj_type (wpAny_pure ⟨_,rfl,?_⟩))))
  have hv:(s.heap.push {cls:=.type "dict_values",data:=.fields #[.ref a]}).IsValuesView s.heap.objs.size a:=⟨_,Heap.get?_push_size _ rfl,rfl,rfl⟩
  refine ⟨.ref s.heap.objs.size,_,I.laid (o:=viewO s.heap.objs.size a) (t':=s.toks) (fun b o e=>Heap.get?_push_of_some _ e) (Nat.le_refl _) ⟨hv,?_,fun h1 h2 r1 k=>?_⟩,rfl,q _ I.fresh⟩
  · obtain ⟨o,ho,_⟩:=hv;exact ⟨o,ho⟩
  · obtain ⟨o,ho,z⟩:=r1;exact ⟨o,k o ho,z⟩
theorem zcd (hc:X.calm=true):CallR X (.type "list") (fun xs H Q=>∃ l a vs,xs=[.ref l]∧H l=some (viewO l a)∧IsDt H a vs∧vs.length≤1000∧∀ p,H p=none→Q (.ref p) (upd H p (.lst vs))):=by
  intro pins s σ H xs us Q I r h
  obtain ⟨l,a,vs,rfl,hl,hd,hz,q⟩:=h
  obtain ⟨u,rfl,ru⟩:=vals1 r
  cases ru
  obtain ⟨hv,_,_⟩:=(show ObjOk X.prog X.w H s.heap l (viewO l a) from I.hok l _ hl)
  obtain ⟨_,hzl,es,ep,rd,rv⟩:=zmh I hd
  have hes:es.size≤1000:=by
    have:vs.length=es.size:=by simpa using rv.length
    omega
  refine SW.list_vals (I.ok.hd hc) hv rd hes fun h' tk acc c k e eacc=>?_
  exact ⟨.ref s.heap.objs.size,_,I.laid (o:=.lst vs) (t':=tk) k (Nat.le_refl _) ⟨hzl,es.toList.map (·.val),c,rv,by rw [e,← eacc]⟩,rfl,q _ I.fresh⟩
end
section
variable {X:Cx} {pins:List (Addr × Obj)} {σ:St} {H:Hp} {s:Shared}
theorem Inv.track {a:Addr} {o:HO} (I:Inv X pins σ H s) (f:FpOk X pins H a) (new:ObjOk X.prog X.w (upd H a o) s.heap a o) (hcl:∀ b∈frs X.stack,b≠a):Inv X pins σ (upd H a o) s:=by
  obtain ⟨f0,f1,f2,f3,f4,f5⟩:=f
  have I2:=I.step (ch:=[a]) (H':=upd H a o) (h':=s.heap) (g':=s.gens) (d':=s.drawn) (t':=s.toks) (fun b hb=>by rw [List.mem_singleton.mp hb];exact ⟨f3,f1,f4,f5⟩) (fun b u _ _ _ e _=>e) (fun b u _ _ _ e _=>⟨u.slots,e⟩)
    (fun b u hb e n=>by rw [zi (fun z=>hb (by simp [z]))];exact n) (fun b u _ e=>⟨u,e⟩) (fun b xs e=>by rw [zi (zn e f0)];exact e) (fun b u v e=>by rw [zi (zn e f0)];exact e)
    (fun b ps e=>⟨#[],by rw [zi (zn e f0),e];simp⟩) (fun m hm=>hm) ?_ I.bare
  · exact I2
  · intro b u e
    by_cases hb:b=a
    · subst hb;rw [ze] at e;cases e;exact new
    · rw [zi hb] at e
      exact (I.hok b u e).stay (fun c v _ q=>q) (fun c q=>by rw [zi (zn q f0)];exact q) fun c xs q=>by rw [zi (zn q f0)];exact q
end
theorem zmi:typeLookup (.type "zip") "__len__"=pure none:=by rw [typeLookup_type,builtinLookup_eq_fast];kernel_rfl
theorem zkn:typeLookup (.type "zip") "__length_hint__"=pure none:=by rw [typeLookup_type,builtinLookup_eq_fast];kernel_rfl
structure ZCore (X:Cx) (pins:List (Addr × Obj)) (σ:St) (H1:Hp) (xs ys:List V) (a b z TI TO i1 i2 L:Addr) (i:Nat) (ts:List Addr) (H2:Hp) (s:Shared):Prop where
  inv:Inv X pins σ H2 s
  own:∀ d∈[z,TI,TO,i1,i2,L],FpOk X pins H2 d∧d<s.heap.objs.size
  zip:(i=0∧IsZip s.heap z TI TO .none)∨∃ T f,ts.head?=some T∧s.heap.get? z=some (SW.zipO TI TO T f)
  ti:IsPair s.heap TI (.ref i1) (.ref i2)
  to:∃ u v,IsPair s.heap TO u v
  it1:s.heap.IsListIter i1 a i
  it2:s.heap.IsListIter i2 b i
  prs:Paired (fun t (p:V × V)=>H1 t=none∧H2 t=some (.tup [p.1,p.2])) ts ((xs.zip ys).take i)
  nd:ts.Nodup
  same:Same H1 H2
  old:∀ t∈ts,t<s.heap.objs.size
  nL:L ∉ ts
theorem zd6 {α β:Type} {F:α→β→Prop}:∀ {l₁:List α} {l₂:List β} {i:Nat} {a:α},Paired F l₁ l₂→l₁[i]?=some a→∃ b,l₂[i]?=some b∧F a b
  | _,_,_,_,.nil,e=>by simp at e
  | _,_,0,_,.cons r _,e=>by
    have e:=Option.some.inj e
    subst e
    exact ⟨_,rfl,r⟩
  | _,_,i+1,_,.cons _ t,e=>zd6 (i:=i) t (by simpa using e)
theorem zf5 {α β:Type} {F:α→β→Prop} {a:α} {b:β}:∀ {l₁:List α} {l₂:List β},Paired F l₁ l₂→F a b→Paired F (l₁++[a]) (l₂++[b])
  | _,_,.nil,h=>.cons h .nil
  | _,_,.cons h₁ t,h=>.cons h₁ (zf5 t h)
theorem zdb {α β:Type} {F G:α→β→Prop}:∀ {as:List α} {bs:List β},(∀ a b,a∈as→F a b→G a b)→Paired F as bs→Paired G as bs
  | _,_,_,.nil=>.nil
  | _,_,f,.cons r t=>.cons (f _ _ (by simp) r) (zdb (fun a b h=>f a b (by simp [h])) t)
section
variable {X:Cx} {pins:List (Addr × Obj)} {σ:St} {H1:Hp} {xs ys:List V} {a b z TI TO i1 i2 L:Addr} {i:Nat} {ts:List Addr} {H2:Hp} {s:Shared} {A:Around} {E:Value→Shared→Prop} {Q:Option Value→Shared→Prop}
theorem zph (D:ZipApart z TI TO i1 i2 a b) (nL:∀ d∈[z,TI,TO,i1,i2],L≠d) (S:ZCore X pins σ H1 xs ys a b z TI TO i1 i2 L i ts H2 s) {x y:V} (ha:SqL X.K H1 a xs) (hb:SqL X.K H1 b ys) (hx:xs[i]?=some x) (hy:ys[i]?=some y)
    (hQ:∀ (t:Addr) (h':Heap),ZCore X pins σ H1 xs ys a b z TI TO i1 i2 L (i+1) (ts++[t]) (upd H2 t (.tup [x,y])) {s with heap:=h'}→(∀ o,s.heap.get? L=some o→h'.get? L=some o)→Q (some (.ref t)) {s with heap:=h'}) :
    wpAny (model X.prog X.w) A (pyNext (.ref z)) Q E s:=by
  obtain ⟨its,rv,p,hz⟩:=S.inv.list (S.same.seq ha)
  obtain ⟨its2,rv2,p2,hz2⟩:=S.inv.list (S.same.seq hb)
  obtain ⟨u,hu,ru⟩:=rv.get hx
  obtain ⟨v,hv,rw'⟩:=rv2.get hy
  have hzip:(xs.zip ys)[i]?=some (x,y):=by
    obtain ⟨l1,e1⟩:=List.getElem?_eq_some_iff.mp hx
    obtain ⟨l2,e2⟩:=List.getElem?_eq_some_iff.mp hy
    rw [List.getElem?_eq_getElem (by rw [List.length_zip];omega),List.getElem_zip,e1,e2]
  have htk:(xs.zip ys).take (i+1)=(xs.zip ys).take i++[(x,y)]:=by rw [List.take_add_one,hzip];rfl
  have hN:H2 s.heap.objs.size=none:=S.inv.fresh
  have hNt:s.heap.objs.size ∉ ts:=fun m=>absurd (S.old _ m) (Nat.lt_irrefl _)
  have h1N:H1 s.heap.objs.size=none:=S.same.free hN
  have fpz:∀ d∈[z,TI,TO,i1,i2],FpOk X pins H2 d:=fun d hd=>(S.own d (by simp at hd ⊢;rcases hd with h | h | h | h | h <;> simp [h])).1
  have fin:∀ h3:Heap,(∀ c o,c ∉ [z,TI,TO,i1,i2]→s.heap.get? c=some o→h3.get? c=some o)→IsPair h3 s.heap.objs.size u v→s.heap.objs.size<h3.objs.size→(∃ T f,(ts++[s.heap.objs.size]).head?=some T∧h3.get? z=some (SW.zipO TI TO T f)) →
      IsPair h3 TI (.ref i1) (.ref i2)→(∃ u v,IsPair h3 TO u v)→h3.IsListIter i1 a (i+1)→h3.IsListIter i2 b (i+1)→Q (some (.ref s.heap.objs.size)) {s with heap:=h3}:=by
    intro h3 hk a5 hsz zz tii too j1 j2
    have I1:=S.inv.laidCh (h':=h3) (a:=s.heap.objs.size) (o:=.tup [x,y]) (t':=s.toks) fpz hk (Nat.le_refl _) (zck ru rw' a5)
    refine hQ s.heap.objs.size h3 ⟨I1,fun d hd=>?_,.inr zz,tii,too,j1,j2,?_,?_,S.same.upd h1N,fun t ht=>?_,?_⟩ fun o e=>hk L o (fun m=>nL L m rfl) e
    · obtain ⟨⟨g0,g⟩,hl⟩:=S.own d hd
      exact ⟨⟨by rw [zi (Nat.ne_of_lt hl)];exact g0,g⟩,Nat.lt_trans hl hsz⟩
    · rw [htk]
      refine zf5 (zdb (fun t q ht e=>⟨e.1,?_⟩) S.prs) ⟨h1N,ze⟩
      have hne:t≠s.heap.objs.size:=fun q=>hNt (by rw [← q];exact ht)
      rw [zi hne]
      exact e.2
    · rw [List.nodup_append]
      exact ⟨S.nd,by simp,fun x hx y hy e=>hNt (by simp at hy;rw [← hy,← e];exact hx)⟩
    · rcases List.mem_append.mp ht with ht | ht
      · exact Nat.lt_trans (S.old t ht) hsz
      · simp at ht;rw [ht];exact hsz
    · have:=(S.own L (by simp)).2
      simp [S.nL,Nat.ne_of_lt this]
  have ltO:∀ d∈[z,TI,TO,i1,i2],s.heap.objs.size≠d:=fun d hd=>Nat.ne_of_gt (S.own d (by simp at hd ⊢;rcases hd with h | h | h | h | h <;> simp [h])).2
  rcases S.zip with ⟨rfl,hz0⟩ | ⟨T,f,hT,hzz⟩
  · obtain ⟨u0,v0,hTO⟩:=S.to
    refine wpAny_pyNext_zip_item D hz0 S.ti hTO S.it1 S.it2 p.isList p2.isList (x:=u) (y:=v) (by simpa using hu) (by simpa using hv) fun h3 a1 a2 a3 a4 a5 a6 hk=>?_
    have hts:ts=[]:=by
      have:=S.prs
      rw [List.take_zero] at this
      cases this
      rfl
    refine fin h3 (fun c o hc e=>hk c o (fun q=>hc (by simp [q])) (fun q=>hc (by simp [q])) (fun q=>hc (by simp [q])) (fun q=>hc (by simp [q])) e) a5 (by rw [a6];exact Nat.lt_succ_self _) ⟨s.heap.objs.size,false,by rw [hts];rfl,a1⟩
      (hk _ _ D.TIz D.TITO D.TIi1 D.TIi2 S.ti) ⟨u,v,a2⟩ a3 a4
  · have hT0:ts[0]?=some T:=by rw [← hT,List.head?_eq_getElem?]
    obtain ⟨pr,_,hpr⟩:=zd6 S.prs hT0
    obtain ⟨ot,hot⟩:=(S.inv.hok T _ hpr.2).there
    refine SW.zl_next D hzz hot S.ti S.it1 S.it2 p.isList p2.isList (x:=u) (y:=v) (by simpa using hu) (by simpa using hv) fun h3 a1 a2 a3 a4 hk=>?_
    refine fin h3 (fun c o hc e=>hk c o (fun q=>hc (by simp [q])) (fun q=>hc (by simp [q])) (fun q=>hc (by simp [q])) e) a4 (Heap.lt_size a4) ⟨T,true,?_,a1⟩
      (hk _ _ D.TIz D.TIi1 D.TIi2 S.ti) ?_ a2 a3
    · cases ts with
      | nil=>cases hT
      | cons t r=>exact hT
    · obtain ⟨u0,v0,hTO⟩:=S.to
      exact ⟨u0,v0,hk _ _ D.TOz D.TOi1 D.TOi2 hTO⟩
theorem zpi (hc:A.handled=none) (D:ZipApart z TI TO i1 i2 a b) (nL:∀ d∈[z,TI,TO,i1,i2],L≠d) (S:ZCore X pins σ H1 xs ys a b z TI TO i1 i2 L xs.length ts H2 s) (hl:xs.length=ys.length) (ha:SqL X.K H1 a xs) (hb:SqL X.K H1 b ys)
    (hQ:∀ h',Inv X pins σ H2 {s with heap:=h'}→(∀ o,s.heap.get? L=some o→h'.get? L=some o)→Q none {s with heap:=h'}):wpAny (model X.prog X.w) A (pyNext (.ref z)) Q E s:=by
  obtain ⟨its,rv,p,hz⟩:=S.inv.list (S.same.seq ha)
  obtain ⟨its2,rv2,p2,hz2⟩:=S.inv.list (S.same.seq hb)
  have hl1:=rv.length
  have hl2:=rv2.length
  have fpz:∀ d∈[z,TI,TO,i1,i2],FpOk X pins H2 d:=fun d hd=>(S.own d (by simp at hd ⊢;rcases hd with h | h | h | h | h <;> simp [h])).1
  rcases S.zip with ⟨h0,hz0⟩ | ⟨T,f,hT,hzz⟩
  · obtain ⟨u0,v0,hTO⟩:=S.to
    refine wpAny_pyNext_zip_end hc D hz0 S.ti hTO S.it1 S.it2 p.isList p2.isList (.inl (by simp;omega)) fun h' hk=>?_
    have kk:∀ c o,c ∉ [z,TI,TO,i1,i2]→s.heap.get? c=some o→h'.get? c=some o:=fun c o hc e=>hk c o (fun q=>hc (by simp [q])) (fun q=>hc (by simp [q])) (fun q=>hc (by simp [q])) (fun q=>hc (by simp [q])) e
    exact hQ h' (S.inv.turnedCh (t':=s.toks) fpz kk) fun o e=>kk L o (fun m=>nL L m rfl) e
  · have hT0:ts[0]?=some T:=by rw [← hT,List.head?_eq_getElem?]
    obtain ⟨pr,_,hpr⟩:=zd6 S.prs hT0
    obtain ⟨ot,hot⟩:=(S.inv.hok T _ hpr.2).there
    refine SW.zl_stop hc D hzz hot S.ti S.it1 p.isList (by simp;omega) fun h' hk=>?_
    have kk:∀ c o,c ∉ [z,TI,TO,i1,i2]→s.heap.get? c=some o→h'.get? c=some o:=fun c o hc e=>hk c o (fun q=>hc (by simp [q])) (fun q=>hc (by simp [q])) e
    exact hQ h' (S.inv.turnedCh (t':=s.toks) fpz kk) fun o e=>kk L o (fun m=>nL L m rfl) e
theorem zn2 (nL:∀ d∈[z,TI,TO,i1,i2],L≠d) (S:ZCore X pins σ H1 xs ys a b z TI TO i1 i2 L i ts H2 s) {h':Heap} (sb:Heap.SameBut L s.heap h'):ZCore X pins σ H1 xs ys a b z TI TO i1 i2 L i ts H2 {s with heap:=h'}:=by
  have k:∀ c o,c≠L→s.heap.get? c=some o→h'.get? c=some o:=fun c o hc e=>(sb.2 c hc).trans e
  have fL:∀ d∈[L],FpOk X pins H2 d:=fun d hd=>by rw [List.mem_singleton.mp hd];exact (S.own L (by simp)).1
  have nz:z≠L:=fun q=>nL z (by simp) q.symm
  have nti:TI≠L:=fun q=>nL TI (by simp) q.symm
  have nto:TO≠L:=fun q=>nL TO (by simp) q.symm
  have n1:i1≠L:=fun q=>nL i1 (by simp) q.symm
  have n2:i2≠L:=fun q=>nL i2 (by simp) q.symm
  refine ⟨S.inv.turnedCh (t':=s.toks) fL fun c o hc e=>k c o (fun q=>hc (by simp [q])) e,fun d hd=>?_,?_,k _ _ nti S.ti,?_,S.it1.at fun o e=>k _ _ n1 e,S.it2.at fun o e=>k _ _ n2 e,S.prs,S.nd,S.same,fun t ht=>by show _<h'.objs.size;rw [sb.1];exact S.old t ht,S.nL⟩
  · obtain ⟨g,hl⟩:=S.own d hd
    exact ⟨g,by show _<h'.objs.size;rw [sb.1];exact hl⟩
  · rcases S.zip with ⟨e,q⟩ | ⟨T,f,e,q⟩
    · exact .inl ⟨e,k _ _ nz q⟩
    · exact .inr ⟨T,f,e,k _ _ nz q⟩
  · obtain ⟨u,v,q⟩:=S.to
    exact ⟨u,v,k _ _ nto q⟩
end
section
variable {X:Cx} {pins:List (Addr × Obj)} {σ:St} {H1:Hp} {xs ys:List V} {a b z TI TO i1 i2 L:Addr} {A:Around} {R:Result→Shared→Prop} {res:Value}
theorem zpj (hh:A.in1.handled=none) (D:ZipApart z TI TO i1 i2 a b) (nL:∀ d∈[z,TI,TO,i1,i2],L≠d) (hl:xs.length=ys.length) (hz:xs.length≤1000) (ha:SqL X.K H1 a xs) (hb:SqL X.K H1 b ys)
    (hR:∀ s ts H2 acc c,Inv X pins σ H2 s→FpOk X pins H2 L→s.heap.get? L=some {cls:=.type "list",dict:=none,data:=.seq acc c,slots:=#[]}→acc.toList=ts.map Value.ref →
      Paired (fun t (p:V × V)=>H1 t=none∧H2 t=some (.tup [p.1,p.2])) ts (xs.zip ys)→ts.Nodup→Same H1 H2→L ∉ ts→R (.ok (.ret res)) s) :
    ∀ (k i:Nat) (s:Shared) (acc:Array Value) (c:Nat) (ts:List Addr) (H2:Hp),xs.length - i=k→i≤xs.length→ZCore X pins σ H1 xs ys a b z TI TO i1 i2 L i ts H2 s →
      s.heap.get? L=some {cls:=.type "list",dict:=none,data:=.seq acc c,slots:=#[]}→acc.toList=ts.map Value.ref→codeAny (model X.prog X.w) A (.builtin "list.extend.loop" ⟨[.ref L,.ref z,res],[]⟩) R s:=by
  intro k
  induction k with
  | zero =>
    intro i s acc c ts H2 hk hi S hL hacc
    obtain rfl:i=xs.length:=by omega
    refine codeAny_builtin F.entry_extend_loop ?_
    rw [Around.under_plainId F.plain_extend_loop _]
    show wpAny _ A.in1 (pyNext (.ref z) >>= _) _ _ s
    refine wpAny_bind (zpi hh D nL S hl ha hb fun h' I' kL=>?_)
    refine wpAny_pure (hR _ ts H2 acc c I' (S.own L (by simp)).1 (kL _ hL) hacc ?_ S.nd S.same S.nL)
    have:=S.prs
    rw [List.take_of_length_le (by rw [List.length_zip];omega)] at this
    exact this
  | succ k ih =>
    intro i s acc c ts H2 hk hi S hL hacc
    have hlt:i<xs.length:=by omega
    refine codeAny_builtin F.entry_extend_loop ?_
    rw [Around.under_plainId F.plain_extend_loop _]
    show wpAny _ A.in1 (pyNext (.ref z) >>= _) _ _ s
    refine wpAny_bind (zph D nL S ha hb (List.getElem?_eq_getElem hlt) (List.getElem?_eq_getElem (by omega)) fun t h' S' kL=>?_)
    have hL':=kL _ hL
    have htl:ts.length=i:=by
      have:∀ {α β:Type} {F:α→β→Prop} {l₁:List α} {l₂:List β},Paired F l₁ l₂→l₁.length=l₂.length:=by
        intro α β F l₁ l₂ p
        induction p with
        | nil=>rfl
        | cons _ _ ih=>simp [ih]
      have:=this S.prs
      rw [List.length_take,List.length_zip] at this
      omega
    have hal:acc.size=i:=by
      have:=congrArg List.length hacc
      simpa [htl] using this
    show wpAny _ A.in1 (updateSeq L (·.push (.ref t)) >>= _) _ _ _
    refine wpAny_bind (wpAny_updateSeq hL' rfl ?_ (by rw [hal,sizeLine_eq];omega) (by show (acc.push (.ref t)).size≤sizeLine+1;rw [Array.size_push,hal,sizeLine_eq];omega))
    refine wpAny_pure ⟨plainId_quiet F.plain_extend_loop _,ih (i+1) _ (acc.push (.ref t)) _ (ts++[t]) _ (by omega) hlt (zn2 nL S' (Heap.SameBut.update ..)) (Heap.get?_update_self _ hL' rfl) ?_⟩
    rw [Array.toList_push,hacc,List.map_append]
    rfl
end
section
variable {X:Cx}
def tListZip (K:PySem.W.Frag) (ta:TA):TE:=fun σ H Q=>ta σ H fun vs H1=>∃ a b xs ys,vs=[.ref a,.ref b]∧SqL K H1 a xs∧SqL K H1 b ys∧xs.length=ys.length∧xs.length≤1000 ∧
  ∀ (L:Addr) (ts:List Addr) (H':Hp),Same H1 H'→H1 L=none→L ∉ ts→ts.Nodup→H' L=some (.lst (ts.map V.ref))→Paired (fun t (p:V × V)=>H1 t=none∧H' t=some (.tup [p.1,p.2])) ts (xs.zip ys)→Q (.ref L) H'
theorem zit {a b:Expr} {ta:TA} {p p2 pos pos2:Pos} (hc:X.calm=true) (hg:Gl X "list") (hm:X.mg "list"=none) (hg2:Gl X "zip") (hm2:X.mg "zip"=none) (ha:PA X [a,b] ta)
    (hs0:starEach [Expr.Call (.Name "zip" p2) [a,b] [] pos2] X.env=[(false,eval (.Call (.Name "zip" p2) [a,b] [] pos2) X.env)]:=by rfl)
    (hs:starEach [a,b] X.env=[(false,eval a X.env),(false,eval b X.env)]:=by rfl) (hs2:starEach [b] X.env=[(false,eval b X.env)]:=by rfl) :
    PE X (.Call (.Name "list" p) [.Call (.Name "zip" p2) [a,b] [] pos2] [] pos) (tListZip X.K ta):=by
  intro pins s σ H Q I h
  refine Call_ (zai I hg hm boot_list (PyProof.Rows.callWith_type1 ?_ hs0 rfl))
  rw [hs0]
  show wpAny _ _ (spliced ((false,eval (.Call (.Name "zip" p2) [a,b] [] pos2) X.env)::[])) _ _ s
  refine Calls.spliced_cons (Call_ (zai I hg2 hm2 boot_zip (PyProof.Rows.callWith_type1 (thn (ha pos2 pins s σ H _ I h) fun us s1 ⟨vs,H1,I1,r1,q1⟩=>?_) (by rw [hs,hs2]) (by rw [hs2];rfl))))
  obtain ⟨l1,l2,xs,ys,rfl,hq,hq2,hl,hz,q⟩:=q1
  obtain ⟨u,v,rfl,ru,rv'⟩:=vals2 r1
  cases ru
  cases rv'
  obtain ⟨its,rv,pl,hz1⟩:=I1.list hq
  obtain ⟨its2,rv2,pl2,hz2⟩:=I1.list hq2
  refine call_zip_2 pl.isList pl2.isList fun h1 hz1 hTI hTO hi1 hi2 hsz hk=>?_
  refine Calls.spliced_nil ?_
  have D:=zb4 (zl3 s1.heap.objs.size) (h:=h1) (i:=0) ⟨hz1,hTI,⟨_,_,hTO⟩,hi1,hi2⟩ (its:=its.toArray) (its2:=its2.toArray) (pl.keeps hk) (pl2.keeps hk)
  refine callType_codes (Q₁:=fun obj s₁=>obj=.ref h1.objs.size∧s₁={s1 with heap:=h1.push {cls:=.type "list",data:=.seq #[]}}) F.called_list (F.typeCall_list_1 _) F.entry_list_init (code_list_new _ ⟨rfl,rfl⟩) fun obj s₁ h₁=>?_
  obtain ⟨rfl,rfl⟩:=h₁
  have hS:(h1.push {cls:=.type "list",data:=.seq #[]}).get? h1.objs.size=some {cls:=.type "list",data:=.seq #[]}:=Heap.get?_push_size _ rfl
  refine ⟨⟨_,hS,rfl⟩,F.args_list_init_2 _ _,?_⟩
  show wpAny _ _ (do let old ← Builtin.List.listItems (.ref h1.objs.size);Builtin.List.listUpdate (.ref h1.objs.size) (fun _=>#[]);letGo old.toList.reverse;Builtin.List.listExtendWith (.ref h1.objs.size) (.ref (s1.heap.objs.size+4)) .none) _ _ _
  refine wpAny_bind ?_
  unfold Builtin.List.listItems
  refine wpAny_bind (wpAny_seqItems hS rfl (wpAny_pure ?_))
  show wpAny _ _ (updateSeq h1.objs.size (fun _=>#[]) >>= fun _=>letGo (#[]:Array Value).toList.reverse >>= fun _=>Builtin.List.listExtendWith (.ref h1.objs.size) (.ref (s1.heap.objs.size+4)) .none) _ _ _
  refine wpAny_bind (wpAny_updateSeq hS rfl ?_)
  have hS₂:=Heap.get?_update_self (Obj.mapSeq (fun _=>(#[]:Array Value))) hS rfl
  refine wpAny_bind (wpAny_letGo ?_)
  generalize hg0:(h1.push {cls:=Value.type "list",dict:=none,data:=.seq #[] 0,slots:=#[]}).update h1.objs.size (Obj.mapSeq (fun _=>(#[]:Array Value)))=g0 at hS₂ ⊢
  have z0:g0.objs.size=h1.objs.size+1:=by rw [← hg0,Heap.size_update];exact Heap.size_push ..
  have up0:∀ b o,h1.get? b=some o→g0.get? b=some o:=fun b o e=>by
    rw [← hg0]
    exact (Heap.get?_update_other _ _ (Nat.ne_of_gt (Heap.lt_size e))).trans (Heap.get?_push_of_some _ e)
  have nL:∀ d∈[s1.heap.objs.size+4,s1.heap.objs.size+2,s1.heap.objs.size+3,s1.heap.objs.size,s1.heap.objs.size+1],h1.objs.size≠d:=fun d hd=>by
    rw [hsz]
    simp at hd
    rcases hd with h | h | h | h | h <;> subst h
    · exact (show (s1.heap.objs.size+5:Nat)≠s1.heap.objs.size+4 by omega)
    · exact (show (s1.heap.objs.size+5:Nat)≠s1.heap.objs.size+2 by omega)
    · exact (show (s1.heap.objs.size+5:Nat)≠s1.heap.objs.size+3 by omega)
    · exact (show (s1.heap.objs.size+5:Nat)≠s1.heap.objs.size by omega)
    · exact (show (s1.heap.objs.size+5:Nat)≠s1.heap.objs.size+1 by omega)
  have hsr:Builtin.List.listSameRef (.ref h1.objs.size) (.ref (s1.heap.objs.size+4))=false:=by
    have:=nL (s1.heap.objs.size+4) (by simp)
    simp [Builtin.List.listSameRef,this]
  have gz:IsZip g0 (s1.heap.objs.size+4) (s1.heap.objs.size+2) (s1.heap.objs.size+3) .none:=up0 _ _ hz1
  unfold Builtin.List.listExtendWith
  refine wpAny_bind (wpAny_typeOf (s:={s1 with heap:=g0}) (T:="zip") ⟨_,gz,rfl⟩ ?_)
  rw [if_neg (by rw [hsr];decide)]
  refine wpAny_bind (wpAny_pyIter_zip (s:={s1 with heap:=g0}) gz ?_)
  refine wpAny_bind (wpAny_holding ?_)
  unfold Builtin.List.listLengthHint
  refine wpAny_bind (wpAny_specialOf (s:={s1 with heap:=g0}) (T:="zip") ⟨_,gz,rfl⟩ zmi ?_)
  show wpAny _ _ (specialOf (.ref (s1.heap.objs.size+4)) (Str.ofString "__length_hint__") >>= _) _ _ _
  refine wpAny_bind (wpAny_specialOf (s:={s1 with heap:=g0}) (T:="zip") ⟨_,gz,rfl⟩ zkn (wpAny_pure ?_))
  rw [if_pos (by rfl)]
  refine wpAny_bind (wpAny_rule (wpAny_bind ?_))
  show wpAny _ _ (updateSeq h1.objs.size (·.push .none) >>= fun _=>updateSeq h1.objs.size (·.pop)) _ _ _
  have e1:=Heap.get?_update_self (Obj.mapSeq (·.push Value.none)) hS₂ rfl
  refine wpAny_bind (wpAny_updateSeq hS₂ rfl (wpAny_updateSeq e1 rfl ?_))
  have e2:=Heap.get?_update_self (Obj.mapSeq (·.pop)) e1 rfl
  have sb:Heap.SameBut h1.objs.size g0 ((g0.update h1.objs.size (Obj.mapSeq (·.push Value.none))).update h1.objs.size (Obj.mapSeq (·.pop))):=(Heap.SameBut.update ..).trans (Heap.SameBut.update ..)
  generalize (g0.update h1.objs.size (Obj.mapSeq (·.push Value.none))).update h1.objs.size (Obj.mapSeq (·.pop))=g2 at e2 sb ⊢
  have up2:∀ b o,h1.get? b=some o→g2.get? b=some o:=fun b o e=>(sb.2 b (Nat.ne_of_lt (Heap.lt_size e))).trans (up0 b o e)
  have z2:g2.objs.size=s1.heap.objs.size+6:=by rw [sb.1,z0,hsz]
  have I2:Inv X pins σ H1 {s1 with heap:=g2}:=I1.kept (t':=s1.toks) fun b o e=>up2 b o (hk b o e)
  refine wpAny_pure ⟨plainId_quiet F.plain_extend_loop _,zpj (X:=X) (pins:=pins) (σ:=σ) (H1:=H1) (xs:=xs) (ys:=ys) (by have:=I1.ok.hd hc;simp [this]) D nL hl hz hq hq2 (fun s3 ts H3 acc c I3 fL gL hacc hprs hnd hsame hnL=>?_) (xs.length - 0) 0 _ #[] _ [] H1 rfl (Nat.zero_le _)
    ⟨I2,fun d hd=>?_,.inl ⟨rfl,up2 _ _ hz1⟩,up2 _ _ hTI,⟨_,_,up2 _ _ hTO⟩,hi1.at fun o e=>up2 _ _ e,hi2.at fun o e=>up2 _ _ e,by rw [List.take_zero];exact .nil,List.nodup_nil,Same.refl _,fun t ht=>by simp at ht,by simp⟩ e2 rfl⟩
  · refine ⟨rfl,?_⟩
    have hvl:(ts.map V.ref).length≤sizeLine:=by
      have:∀ {α β:Type} {F:α→β→Prop} {l₁:List α} {l₂:List β},Paired F l₁ l₂→l₁.length=l₂.length:=by
        intro α β F l₁ l₂ p
        induction p with
        | nil=>rfl
        | cons _ _ ih=>simp [ih]
      have:=this hprs
      rw [List.length_zip] at this
      rw [List.length_map,sizeLine_eq]
      omega
    have hvals:Vals (ts.map V.ref) (ts.map Value.ref):=by
      clear hacc hprs hnd hnL hvl
      induction ts with
      | nil=>exact .nil
      | cons t r ih=>exact .cons rfl ih
    have I4:=I3.track (o:=.lst (ts.map V.ref)) fL ⟨hvl,ts.map Value.ref,c,hvals,by rw [gL,← hacc]⟩ (fun b hb=>?_)
    · refine ⟨.ref h1.objs.size,_,I4,rfl,q h1.objs.size ts _ (hsame.upd (hsame.free fL.1)) (hsame.free fL.1) hnL hnd ze (zdb (fun t pr ht e=>⟨e.1,?_⟩) hprs)⟩
      have hne:t≠h1.objs.size:=fun q=>hnL (by rw [← q];exact ht)
      rw [zi hne]
      exact e.2
    · rcases List.mem_cons.mp (I3.stkSub b hb) with q | q
      · rw [q];exact Ne.symm fL.2.1
      · exact fun z=>fL.2.2.1 (by rw [← z];exact q)
  · have hle:s1.heap.objs.size≤d∧d<s1.heap.objs.size+6:=by
      rw [hsz] at hd
      simp at hd
      rcases hd with h | h | h | h | h | h <;> subst h
      · exact (show s1.heap.objs.size≤s1.heap.objs.size+4∧s1.heap.objs.size+4<s1.heap.objs.size+6 by omega)
      · exact (show s1.heap.objs.size≤s1.heap.objs.size+2∧s1.heap.objs.size+2<s1.heap.objs.size+6 by omega)
      · exact (show s1.heap.objs.size≤s1.heap.objs.size+3∧s1.heap.objs.size+3<s1.heap.objs.size+6 by omega)
      · exact (show s1.heap.objs.size≤s1.heap.objs.size∧s1.heap.objs.size<s1.heap.objs.size+6 by omega)
      · exact (show s1.heap.objs.size≤s1.heap.objs.size+1∧s1.heap.objs.size+1<s1.heap.objs.size+6 by omega)
      · exact (show s1.heap.objs.size≤s1.heap.objs.size+5∧s1.heap.objs.size+5<s1.heap.objs.size+6 by omega)
    exact ⟨I1.fpOk hle.1 (I1.hok.fresh hle.1),by show d<g2.objs.size;rw [z2];exact hle.2⟩
end
end L2
set_option Elab.async false
set_option linter.all false
set_option maxRecDepth 100000
set_option maxHeartbeats 4000000
namespace L2
open PySem PySem.Spec PyProof.Rows
def XAt (B:Heap) (l:List Env) (e:Addr) (cls:Value) (dct:Option Addr) (tb:Option Value) (h:Heap):Prop :=
  B.StaysIn h∧B.get? e=none∧h.FunFrames B l∧∃ oe vs,h.get? e=some oe∧oe.cls=cls∧oe.dict=dct∧oe.data=.fields vs∧vs[2]?=some .none ∧
    match tb with
    | none=>vs[1]?=some .none
    | some fl=>∃ T oT ts,vs[1]?=some (.ref T)∧B.get? T=none∧T≠e∧h.get? T=some oT∧oT.data=.fields ts∧ts[3]?=some fl
def Thr (h h':Heap):Prop:=∀ b o,h.get? b=some o→∃ o',h'.get? b=some o'
theorem Thr.trans {h h1 h2:Heap} (a:Thr h h1) (b:Thr h1 h2):Thr h h2:=fun c o e=>let ⟨o1,e1⟩:=a c o e;b c o1 e1
theorem Thr.kept {h h':Heap} (k:∀ b o,h.get? b=some o→h'.get? b=some o):Thr h h':=fun b o e=>⟨o,k b o e⟩
theorem Thr.fld {h:Heap} {a:Addr} {o:Obj} {vs:Array Value} (f:Array Value→Array Value) (e:h.get? a=some o) (hd:o.data=.fields vs):Thr h (h.update a (Obj.mapFields f)):=fun b ob eb=>by
  by_cases z:b=a
  · subst z
    exact ⟨_,Heap.get?_update_self _ e (Obj.isFreed_of_fields (Obj.data_mapFields hd _))⟩
  · exact ⟨ob,by rw [Heap.get?_update_other _ _ (Ne.symm z)];exact eb⟩
section
variable {M:Model} {A:Around} {E:Value→Shared→Prop} {s:Shared} {B:Heap} {l outer:List Env} {e:Addr} {cls:Value} {dct:Option Addr}
theorem zb1 {h:Heap} {a:Addr} {o:Obj} {vs:Array Value} (f:Array Value→Array Value) (e:h.get? a=some o) (hd:o.data=.fields vs):h.UpToSlots (h.update a (Obj.mapFields f)):=fun b ob eb hn=>by
  have z:b≠a:=fun z=>by subst z;rw [e] at eb;cases eb;exact hn _ hd
  exact ⟨ob.slots,by rw [Heap.get?_update_other _ _ (Ne.symm z)];exact eb⟩
theorem zcr {h:Heap} {a:Addr} {o:Obj} {vs:Array Value} (f:Array Value→Array Value) (e:h.get? a=some o) (hd:o.data=.fields vs) (hl:h.FunFrames B l):(h.update a (Obj.mapFields f)).FunFrames B l :=
  hl.of_keeps fun b ob eb hn=>by
    obtain ⟨sl,z⟩:=zb1 f e hd b ob eb hn
    exact ⟨_,z,rfl⟩
theorem zdc {h:Heap} {a:Addr} (f:Array Value→Array Value) (k:B.StaysIn h) (n:B.get? a=none):B.StaysIn (h.update a (Obj.mapFields f)):=fun b o eb=>by
  rw [Heap.get?_update_other _ _ (fun z=>by rw [← z,n] at eb;cases eb)]
  exact k b o eb
theorem zjq {env:Env} {L:Addr} {head:Value} {hadNext:Bool} {Q:Unit→Shared→Prop} {oe:Obj} {vs:Array Value} (hfr:A.frames=some (env::outer)) (hf:env.frame=some L)
    (hk:B.StaysIn s.heap) (hen:B.get? e=none) (hl:s.heap.FunFrames B (env::outer)) (he:s.heap.get? e=some oe) (hd:oe.data=.fields vs) (hsz:1<vs.size) (h2:vs[2]?=some .none)
    (hQ:∀ h',XAt B (env::outer) e oe.cls oe.dict (some (rawInt L)) h'→s.heap.UpToSlots h'→Thr s.heap h'→Q () {s with heap:=h'}) :
    wpAny M A (do let a ← frameOf env;let pl ← entryPlaceOf L hadNext;let b ← EntryCells.newEntry head a .none (rawInt L) .none pl;setField (.ref e) 1 b) Q E s:=by
  have hene:e ∉ (env::outer).filterMap (·.frame):=fun hm=>by
    obtain ⟨_,o,ho,hnf⟩:=hl.mem hm
    rw [he] at ho;injection ho with ho;subst ho;exact hnf vs hd
  refine wpAny_bind (wpAny_frameOf_fun hfr hl hf fun h₁ hs₁=>?_)
  refine wpAny_bind (wpAny_entryPlaceOf fun pl hpl=>?_)
  unfold EntryCells.newEntry newFields
  refine wpAny_bind (wpAny_newObj_type ?_ (hpl.sizeOk5 _ _ _ _ _))
  have he₁:h₁.get? e=some oe:=(hs₁.2.1 e hene).trans he
  have kb₁:B.StaysIn h₁:=fun b o hbo=>(hs₁.2.1 b fun hm=>by rw [(hl.mem hm).1] at hbo;cases hbo).trans (hk b o hbo)
  generalize ht:([head,.ref L,.none,rawInt L,.none]++(if pl.isEmpty then List.replicate 6 Value.none else pl)).toArray=tvs
  have ht3:tvs[3]?=some (rawInt L):=by rw [← ht];rcases hpl with rfl | ⟨_,_,_,_,_,_,_,rfl⟩ <;> simp
  have he₂:=Heap.get?_push_of_some (h:=h₁) {cls:=.type "traceback",dict:=none,data:=.fields tvs} he₁
  have sl₁:s.heap.UpToSlots h₁:=fun b o hb _=>hs₁.2.2 b o hb
  have th₁:Thr s.heap h₁:=fun b o hb=>let ⟨sl,z⟩:=hs₁.2.2 b o hb;⟨_,z⟩
  have fr₁:h₁.FunFrames B (env::outer):=hl.of_keeps fun b o hb hn=>let ⟨sl,z⟩:=sl₁ b o hb hn;⟨_,z,rfl⟩
  have kp:∀ b o,h₁.get? b=some o→(h₁.push {cls:=.type "traceback",dict:=none,data:=.fields tvs}).get? b=some o:=fun b o hb=>Heap.get?_push_of_some _ hb
  refine wpAny_setField he₂ hd hsz (hQ _ ⟨zdc _ (fun b o hb=>kp b o (kb₁ b o hb)) hen,hen,zcr _ he₂ hd (fr₁.of_keeps fun b o hb _=>⟨o,kp b o hb,rfl⟩),?_⟩ (sl₁.trans ((Heap.UpToSlots.of_keeps kp).trans (zb1 _ he₂ hd))) (th₁.trans ((Thr.kept kp).trans (Thr.fld _ he₂ hd))))
  have hTe:h₁.objs.size≠e:=Nat.ne_of_gt (Heap.lt_size he₁)
  have hd₃:=Obj.data_mapFields hd (·.setIfInBounds 1 (Value.ref h₁.objs.size))
  exact ⟨_,_,Heap.get?_update_self _ he₂ (Obj.isFreed_of_fields hd₃),Obj.cls_mapFields _ _,by cases oe;simp only at hd;subst hd;rfl,hd₃,by rw [Array.getElem?_setIfInBounds_ne (by decide)];exact h2,
    h₁.objs.size,_,_,by simp [hsz],kb₁.fresh,hTe,by rw [Heap.get?_update_other _ _ (Ne.symm hTe)];exact Heap.get?_push_size h₁ rfl,rfl,ht3⟩
theorem zhp {env:Env} {L:Addr} {Q:Unit→Shared→Prop} (hfr:A.frames=some (env::outer)) (hf:env.frame=some L) (x:XAt B (env::outer) e cls dct none s.heap)
    (hQ:∀ h',XAt B (env::outer) e cls dct (some (rawInt L)) h'→s.heap.UpToSlots h'→Thr s.heap h'→Q () {s with heap:=h'}):wpAny M A (noteFrame (.ref e) env) Q E s:=by
  obtain ⟨f1,f2,f3,oe,vs,he,rfl,rfl,hd,h2,h1⟩:=x
  unfold noteFrame
  simp only [hf]
  refine wpAny_bind (wpAny_field he hd h1 ?_)
  rw [if_neg (by decide)]
  exact zjq hfr hf f1 f2 f3 he hd (Array.getElem?_eq_some_iff.mp h1).1 h2 hQ
theorem zmj {env:Env} {L:Addr} {Q:Unit→Shared→Prop} (hfr:A.frames=some (env::outer)) (hf:env.frame=some L) (x:XAt B (env::outer) e cls dct (some .none) s.heap)
    (hQ:∀ h',XAt B (env::outer) e cls dct (some (rawInt L)) h'→s.heap.UpToSlots h'→Thr s.heap h'→Q () {s with heap:=h'}):wpAny M A (noteFrame (.ref e) env) Q E s:=by
  obtain ⟨f1,f2,f3,oe,vs,he,rfl,rfl,hd,h2,T,oT,ts,h1,hnT,hTe,hT,hdT,h3⟩:=x
  unfold noteFrame
  simp only [hf]
  refine wpAny_bind (wpAny_field he hd h1 ?_)
  rw [if_pos (show (Value.ref T != Value.none)=true from by simp)]
  refine wpAny_bind (wpAny_field hT hdT h3 ?_)
  rw [if_neg (show ¬ ((Value.none==rawInt L)=true) from by simp [rawInt])]
  refine wpAny_bind (wpAny_setField hT hdT (Array.getElem?_eq_some_iff.mp h3).1 ?_)
  refine zjq (oe:=oe) (vs:=vs) (s:={s with heap:=_}) hfr hf (zdc _ f1 hnT) f2 (zcr _ hT hdT f3) (by rw [Heap.get?_update_other _ _ hTe];exact he) hd (Array.getElem?_eq_some_iff.mp h1).1 h2 fun h' y sl th=>hQ h' y ((zb1 _ hT hdT).trans sl) ((Thr.fld _ hT hdT).trans th)
theorem zeq {fl:Value} {Q:Unit→Shared→Prop} (x:XAt B l e cls dct (some fl) s.heap) (hQ:∀ h',XAt B l e cls dct (some .none) h'→s.heap.UpToSlots h'→Thr s.heap h'→Q () {s with heap:=h'}):wpAny M A (setFlight (.ref e) none) Q E s:=by
  obtain ⟨f1,f2,f3,oe,vs,he,rfl,rfl,hd,h2,T,oT,ts,h1,hnT,hTe,hT,hdT,h3⟩:=x
  have hsz3:3<ts.size:=(Array.getElem?_eq_some_iff.mp h3).1
  unfold setFlight
  refine wpAny_bind (wpAny_field he hd h1 ?_)
  rw [if_pos (show (Value.ref T != Value.none)=true from by simp)]
  refine wpAny_setField hT hdT hsz3 (hQ _ ⟨zdc _ f1 hnT,f2,zcr _ hT hdT f3,oe,vs,by rw [Heap.get?_update_other _ _ hTe];exact he,rfl,rfl,hd,h2,T,_,_,h1,hnT,hTe,Heap.get?_update_self _ hT (Obj.isFreed_of_fields (Obj.data_mapFields hdT _)),Obj.data_mapFields hdT _,by simp [hsz3]⟩ (zb1 _ hT hdT) (Thr.fld _ hT hdT))
theorem zcx {env:Env} {L:Addr} {Q:Unit→Shared→Prop} (hfr:A.frames=some (env::outer)) (hf:env.frame=some L) (x:XAt B (env::outer) e cls dct none s.heap)
    (hQ:∀ h',XAt B outer e cls dct (some .none) h'→s.heap.UpToSlots h'→Thr s.heap h'→Q () {s with heap:=h'}):wpAny M A (leaving env (.ref e)) Q E s:=by
  unfold leaving
  refine wpAny_bind (zhp hfr hf x fun h1 x1 s1 t1=>zeq (s:={s with heap:=h1}) x1 fun h2 x2 s2 t2=>hQ h2 ⟨x2.1,x2.2.1,x2.2.2.1.2.2,x2.2.2.2⟩ (s1.trans s2) (t1.trans t2))
theorem zpk {env:Env} {L:Addr} {Q:Unit→Shared→Prop} (hfr:A.frames=some (env::outer)) (hf:env.frame=some L) (x:XAt B (env::outer) e cls dct (some .none) s.heap)
    (hQ:∀ h',XAt B outer e cls dct (some .none) h'→s.heap.UpToSlots h'→Thr s.heap h'→Q () {s with heap:=h'}):wpAny M A (leaving env (.ref e)) Q E s:=by
  unfold leaving
  refine wpAny_bind (zmj hfr hf x fun h1 x1 s1 t1=>zeq (s:={s with heap:=h1}) x1 fun h2 x2 s2 t2=>hQ h2 ⟨x2.1,x2.2.1,x2.2.2.1.2.2,x2.2.2.2⟩ (s1.trans s2) (t1.trans t2))
end
end L2
set_option Elab.async false
set_option linter.all false
set_option maxRecDepth 100000
set_option maxHeartbeats 4000000
namespace L2
open PySem PySem.Spec PyProof.Rows
def CXe (P:Program) (w:World):CXT:=fun outer H s E e s'=>∃ (ea:Addr) (cls:Value) (dct:Option Addr) (H':Hp) (B:Heap),e=.ref ea∧s'.os=s.os∧AllBare s'.gens∧Un (frs outer) [] H H' s.heap s'.heap∧HOk P w H' B ∧
  XAt B outer ea cls dct (some .none) s'.heap∧(∀ b o,s.heap.get? b=some o→H b=none→b ∉ frs outer→B.get? b=some o)∧s.heap.get? ea=none∧H' ea=none∧E cls dct H'
structure Lv (X:Cx) (E:XK):Prop where
  xe:X.xe=fun e s'=>wpAny (model X.prog X.w) X.A (leaving X.env e) (fun _ s''=>CXe X.prog X.w X.outer X.H₀ X.s₀ E e s'') (fun e' s''=>CXe X.prog X.w X.outer X.H₀ X.s₀ E e' s'') s'
  ex:X.ex=[]
  st:X.stack=X.env::X.outer
  fr:X.env.frame=some X.env.locals
section
variable {X:Cx} {pins:List (Addr × Obj)} {σ:St} {H H':Hp} {s:Shared} {h1 h2 B:Heap} {E:XK}
theorem zf6 (hst:X.stack=X.env::X.outer) (hfr:X.env.frame=some X.env.locals):frs X.stack=X.env.locals::X.fs:=by
  rw [hst]
  unfold frs
  rw [List.filterMap_cons,hfr]
  rfl
theorem zhq (I:Inv X pins σ H s) (hex:X.ex=[]) (u:Un (frs X.stack) [] H H' s.heap h1) (kb:∀ b o,s.heap.get? b=some o→H b=none→b ∉ frs X.stack→B.get? b=some o) (bk:B.StaysIn h2) (sl:h1.UpToSlots h2) (th:Thr h1 h2) :
    Un X.fs [] X.H₀ H' X.s₀.heap h2:=by
  have nx:∀ b:Addr,b ∉ X.ex:=fun b z=>by rw [hex] at z;cases z
  refine ⟨fun b o e n hb _=>?_,fun b o e n hb _=>?_,fun b o e n _=>?_,fun b o e _=>?_,fun b xs e=>u.tups b xs (I.base.tups b xs e),fun b o xs e=>u.frzs b o xs (I.base.frzs b o xs e),fun b ps e=>?_⟩
  · refine bk b o (kb b o (I.base.keep b o e n hb (nx b)) (I.base.free b o e n (nx b)) fun z=>?_)
    rcases List.mem_cons.mp (I.stkSub b z) with q | q
    · exact absurd (Nat.lt_of_lt_of_le (Heap.lt_size e) I.ok.above) (by rw [q];exact Nat.lt_irrefl _)
    · exact hb q
  · obtain ⟨sl1,e1⟩:=I.base.slot b o e n hb (nx b)
    obtain ⟨sl2,e2⟩:=u.any e1 (I.base.free b o e n (nx b)) (by simp)
    obtain ⟨_,o',eo,hn⟩:=I.ok.funs.mem hb
    rw [e] at eo
    cases eo
    obtain ⟨sl3,e3⟩:=sl b _ e2 hn
    exact ⟨sl3,e3⟩
  · obtain ⟨o',e1⟩:=I.base.there b o e (nx b)
    exact u.free b o' e1 (I.base.free b o e n (nx b)) (by simp)
  · obtain ⟨o1,e1⟩:=I.base.there b o e (nx b)
    obtain ⟨o2,e2⟩:=u.there b o1 e1 (by simp)
    exact th b o2 e2
  · obtain ⟨m1,e1⟩:=I.base.tbls b ps e
    obtain ⟨m2,e2⟩:=u.tbls b _ e1
    exact ⟨m1++m2,by rw [e2,Array.append_assoc]⟩
theorem passL (L:Lv X E):Passes (CXe X.prog X.w) X E:=by
  rintro pins σ H s e s' I ⟨ea,cls,dct,H',B,rfl,os,bare,u,hok,x,kb,new,fr,q⟩
  rw [L.xe]
  have hfr:=I.ok.frames
  rw [L.st] at hfr x
  refine zpk hfr L.fr x fun h2 x2 sl th=>?_
  refine ⟨ea,cls,dct,H',B,rfl,os.trans I.os,bare,zhq I L.ex u kb x2.1 sl th,hok,x2,fun b o e n hb=>?_,?_,fr,q⟩
  · have nx:b ∉ X.ex:=fun z=>by rw [L.ex] at z;cases z
    refine kb b o (I.base.keep b o e n hb nx) (I.base.free b o e n nx) fun z=>?_
    rcases List.mem_cons.mp (I.stkSub b z) with q | q
    · exact absurd (Nat.lt_of_lt_of_le (Heap.lt_size e) I.ok.above) (by rw [q];exact Nat.lt_irrefl _)
    · exact hb q
  · cases q:X.s₀.heap.get? ea with
    | none=>rfl
    | some o =>
      obtain ⟨o',e'⟩:=I.base.there ea o q (by rw [L.ex];simp)
      rw [new] at e'
      cases e'
theorem zd7 {P:Program} {w:World} {h:Heap} {as:List Addr} (k:HOk P w H h) (n:∀ b∈as,H b=none):HOk P w H (PySem.W.hideAll h as):=fun a o e =>
  (k a o e).stay (fun b u hb q=>PySem.W.hideAll_get _ q fun z=>by
    rcases hb with rfl | hb
    · rw [n _ z] at e;cases e
    · rw [n _ z] at hb;cases hb) (fun _ q=>q) fun _ _ q=>q
theorem ziu {s':Shared} {e:Addr} {cls:Value} {args:List Value} (L:Lv X E) (I:Inv X pins σ H s) (hs:s'={s with heap:=s'.heap}) (x:Heap.MadeExcOf s.heap s'.heap e cls args) (q:E cls none H):X.xe (.ref e) s':=by
  rw [L.xe]
  have hfr:=I.ok.frames
  have hstk:=I.stack
  have hfs:=zf6 L.st L.fr
  have hsF:=I.stkFree
  rw [L.st] at hfr hstk
  obtain ⟨t,he,_,_⟩:=x.there
  have hin:∀ env∈X.env::X.outer,∀ a,env.frame=some a→a∈frs X.stack:=fun env hm a ha=>by
    rw [L.st]
    exact List.mem_filterMap.mpr ⟨env,hm,ha⟩
  have en:(PySem.W.hideAll s.heap (frs X.stack)).get? e=none:=by
    cases q:(PySem.W.hideAll s.heap (frs X.stack)).get? e with
    | none=>rfl
    | some o =>
      have:=PySem.W.of_hideAll _ q
      rw [x.new] at this
      cases this
  have xa:XAt (PySem.W.hideAll s.heap (frs X.stack)) (X.env::X.outer) e cls none none s'.heap:=by
    refine ⟨fun b o q=>x.keeps b o (PySem.W.of_hideAll _ q),en,(PySem.W.funFrames_hide hstk hin).of_keeps fun b o q _=>⟨o,x.keeps b o q,rfl⟩,_,_,he,rfl,rfl,rfl,rfl,rfl⟩
  have kb:∀ b o,s.heap.get? b=some o→H b=none→b ∉ frs X.stack→(PySem.W.hideAll s.heap (frs X.stack)).get? b=some o:=fun b o q _ hb=>PySem.W.hideAll_get _ q hb
  refine zcx hfr L.fr xa fun h2 x2 sl th=>?_
  have u:Un (frs X.stack) [] H H s.heap s'.heap:=Un.kept x.keeps
  refine ⟨e,cls,none,H,_,rfl,?_,?_,zhq I L.ex u kb x2.1 sl th,zd7 I.hok hsF,x2,fun b o e n hb=>?_,?_,?_,q⟩
  · rw [hs];exact I.os
  · rw [hs];exact I.bare
  · have nx:b ∉ X.ex:=fun z=>by rw [L.ex] at z;cases z
    refine kb b o (I.base.keep b o e n hb nx) (I.base.free b o e n nx) fun z=>?_
    rcases List.mem_cons.mp (I.stkSub b z) with q | q
    · exact absurd (Nat.lt_of_lt_of_le (Heap.lt_size e) I.ok.above) (by rw [q];exact Nat.lt_irrefl _)
    · exact hb q
  · cases q:X.s₀.heap.get? e with
    | none=>rfl
    | some o =>
      obtain ⟨o',e'⟩:=I.base.there e o q (by rw [L.ex];simp)
      rw [x.new] at e'
      cases e'
  · cases q:H e with
    | none=>rfl
    | some o =>
      exfalso
      have hb:=zd7 I.hok hsF
      have:=I.hok.lt q
      have:∃ o',s.heap.get? e=some o':=by
        have k:=I.hok e o q
        cases o with
        | lst xs=>obtain ⟨_,_,_,_,e⟩:=k;exact ⟨_,e⟩
        | tup xs=>obtain ⟨_,_,_,_,e,_⟩:=k;exact ⟨_,e⟩
        | dK kvs=>obtain ⟨_,_,_,_,o,_,_,e,_⟩:=k;exact ⟨_,e⟩
        | dT kvs=>obtain ⟨_,_,_,_,o,_,_,e,_⟩:=k;exact ⟨_,e⟩
        | set S n=>obtain ⟨o,_,_,_,e,_⟩:=k;exact ⟨_,e⟩
        | ins C dx fs=>obtain ⟨_,_,_,e,_⟩:=k;exact ⟨_,e⟩
        | own y=>obtain ⟨_,e⟩:=k;exact ⟨_,e⟩
        | xd fs=>obtain ⟨_,⟨_,_,_,e,_⟩,_⟩:=k;exact ⟨_,e⟩
        | rng lo hi=>obtain ⟨_,_,_,e⟩:=k;exact ⟨_,e⟩
        | frz ob u=>obtain ⟨e,_⟩:=k;exact ⟨_,e⟩
        | tbl ps=>exact ⟨_,k⟩
        | met f y=>exact ⟨_,k⟩
        | ext φ=>obtain ⟨_,⟨o,e⟩,_⟩:=k;exact ⟨_,e⟩
      obtain ⟨o',e'⟩:=this
      rw [x.new] at e'
      cases e'
def tRaise (E:XK) (C:Addr) (t:TA):TS:=fun _ σ H=>t σ H fun vs H1=>vs.length≤sizeLine∧E (.ref C) none H1
theorem zn3 {x:Str} {C:Addr} {Bt newId initId:String} {bm:List Value} {np cpos pos:Pos} {e₀:Expr} {es:List Expr} {t:TA} (L:Lv X E) (hc:X.calm=true) (O:OwnCls x C bm newId X.mg X.base) (FB:ExcBaseFacts Bt newId initId bm) (hg:Gl X x)
    (ha:PA X (e₀::es) t) (hd:(x==("__debug__":Str))=false:=by decide) (he:starEach (e₀::es) X.env=(false,eval e₀ X.env)::starEach es X.env:=by rfl) (hpl:(backTo cpos (starEach es X.env)).any (·.1)=false:=by rfl) :
    PS X (.Raise (some (.Call (.Name x np) (e₀::es) [] cpos)) none pos) (tRaise E C t):=by
  intro pins s σ H D I h
  obtain ⟨tl,N,nm,q,bs,hdct,sn,sub,ab,col,dd,k0,k1,k2,k3,k5,mN,hC,hN,hni,T⟩:=O.obj
  refine wpAny_Raise_call_subT (C:=C) (nm:=nm) (q:=q) (N:=N) (bs:=bs) (bm:=tl) (hdct:=hdct) (sn:=sn) (sub:=sub) (ab:=ab) (col:=col) (dd:=dd) (k0:=k0) (k1:=k1) (k2:=k2) (k3:=k3) (k5:=k5)
    FB (mN:=mN) (T.hasType FB.hasBase) (I.ok.hd hc) (by rw [he];show (false||(backTo cpos (starEach es X.env)).any (·.1))=false;rw [hpl];rfl) hni (zax I hg O.bound ⟨rfl,?_⟩ hd)
  have hx:=ha cpos pins s σ H _ I h
  rw [he] at hx ⊢
  refine Calls.evalArgs_plain (thn hx fun us s1 ⟨vs,H1,I1,r,hl,q⟩=>⟨rfl,by rw [← r.length];exact hl,I1.bk _ _ hC,hN.keeps I1.bk,T.keeps I1.bk,fun h' e m=>?_⟩)
  exact ziu L I1 rfl m q
end
end L2
set_option Elab.async false
set_option linter.all false
set_option maxRecDepth 100000
set_option maxHeartbeats 4000000
namespace PySem.W
open PySem PySem.Spec PySem.Calls PyProof.Rows
section
variable {prog:Program} {w:World} {A:Around} {E:Value→Shared→Prop} {s:Shared} {K:Frag} {x D:Addr} {ox:Obj} {odo:Option Obj}
structure ExcCls (K:Frag) (D:Addr):Prop where
  cls:(clsIn K D).isSome=true
  ga:findIn K (.ref D) "__getattribute__"=some (some (.builtin "BaseException.__getattribute__"))
  hk:findIn K (.ref D) "__getattr__"=some none
  at_:findIn K (.ref D) "__class__"=some (some (.builtin "object.__class__"))
  get:specialIn K (.builtin "object.__class__") "__get__"=some (some (.builtin "getset_descriptor.__get__"))
  tk:takesIn K (.builtin "object.__class__")=some true
  obj:mroIn K D (.type "object")=some true
  exc:mroIn K D (.type "BaseException")=some true
theorem zmk (c:ExcCls K D):findObj K D odo "__class__"=some (.bind (.builtin "getset_descriptor.__get__") (.builtin "object.__class__")):=by
  obtain ⟨cd,hcd⟩:=Option.isSome_iff_exists.mp c.cls
  unfold findObj
  rw [hcd,c.at_]
  simp only [Option.bind_some,c.get,c.tk]
theorem zf7 {nm:Value} {Q:Unit→Shared→Prop} (c:ExcCls K D) (X:K.In s.heap) (I:InstAt s.heap x ox D odo) (h:Q () s):wpAny (model prog w) A (checkBuiltinCall "BaseException.__getattribute__" ⟨[.ref x,nm],[]⟩) Q E s:=by
  obtain ⟨hh,g,d,t,os⟩:=s
  have hk:builtinKind "BaseException.__getattribute__"=some .slot:=by decide +kernel
  have hsplit:splitId "BaseException.__getattribute__"=some ("BaseException","__getattribute__"):=by decide +kernel
  have ha:=F.args_bexc_ga (.ref x) nm
  have L0:=I.type (M:=model prog w)
  have L1:=looks_mroIn (M:=model prog w) X c.exc
  simp only [checkBuiltinCall,hk,hsplit]
  refine wpAny_bind ?_
  unfold isInstance
  repeat (first | lk | wp_step)
  exact h
theorem zml {tk:Tok} {Q:Fin→Shared→Prop} (c:ExcCls K D) (X:K.In s.heap) (I:InstAt s.heap x ox D odo) (h:Q (.done (.ret (.ref D))) s):wpAny (model prog w) A (Builtin.«object.__getattribute__» ⟨[.ref x,.str "__class__" tk],[]⟩) Q E s:=by
  obtain ⟨hh,g,d,t,os⟩:=s
  have L0:=I.type (M:=model prog w)
  have L1:=looks_find (M:=model prog w) X I (zmk c)
  unfold Builtin.«object.__getattribute__»
  repeat (first | with_reducible refine Looks.at (by assumption) ?_ | wp_step)
  refine class_get (s:=⟨hh,g,d,t,os⟩) X I c.obj ?_
  repeat (first | with_reducible refine Looks.at (by assumption) ?_ | wp_step)
  exact h
theorem zmm {Q:Option Value→Shared→Prop} (c:ExcCls K D) (X:K.In s.heap) (I:InstAt s.heap x ox D odo) (h:Q (some (.ref D)) {s with toks:=s.toks+1}):wpAny (model prog w) A (getAttr? (.ref x) "__class__") Q E s:=by
  obtain ⟨hh,g,d,t,os⟩:=s
  have L0:=I.type (M:=model prog w)
  have L1:=looks_findIn (M:=model prog w) X c.ga
  have L2:=looks_findIn (M:=model prog w) X c.hk
  unfold getAttr? getAttrBy? getAttrBy
  refine wpAny_bind (wpAny_mkText (wpAny_bind (wpAny_attempt (wpAny_holding (wpAny_bind (L0.at (wpAny_bind (L1.at ?_))))))))
  show wpAny _ _ (getAttrByItsOwn _ _ _ _ _ _) _ _ _
  unfold getAttrByItsOwn
  refine wpAny_bind (show wpAny _ _ (typeLookup (.ref D) "__getattr__") _ _ _ from L2.at ?_)
  refine wpAny_bind (wpAny_attempt (wpAny_holding ?_))
  show wpAny _ _ (boundAndCalled _ _ _) _ _ _
  unfold boundAndCalled
  refine wpAny_bind (wpAny_of_eq (F.attr_ValueError.ga.bind (.ref x)) ?_)
  refine wpAny_call (codeAny_call_builtin F.attr_ValueError.ga.plain F.entry_bexc_ga (zf7 (s:=⟨hh,g,d,t+1,os⟩) c X I (zml (s:=⟨hh,g,d,t+1,os⟩) c X I ?_)))
  refine wpAny_mono (Q:=fun v s'=>v=.ref D∧s'=⟨hh,g,d,t+1,os⟩) ?_ ?_ fun _ _ z=>z
  · repeat (first | lk | wp_step)
    exact ⟨rfl,rfl⟩
  · rintro v s' ⟨rfl,rfl⟩
    exact wpAny_pure h
theorem zq1 {oe:Obj} {od:Option Obj} (c:ExcCls K D):KitX K (.ref x) (.ref D) (fun h=>InstAt h x oe D od) where
  ty:=fun _ _ _ I=>I.type
  it:=fun _ _ X _=>by
    obtain ⟨cdD,hcD⟩:=Option.isSome_iff_exists.mp c.cls
    unfold clsIn at hcD
    split at hcD
    · rename_i c' d' cd' sl' ho
      intro A' Q' E' s' k q
      unfold isType loadHead
      exact wpAny_bind (wpAny_loadPart (k _ _ (X _ _ ho)) (wpAny_pure q))
    · cases hcD
  ne:=fun h tp dd its n sl X htp=>by
    obtain ⟨cdD,hcD⟩:=Option.isSome_iff_exists.mp c.cls
    refine Bool.eq_false_iff.mpr fun q=>?_
    have e:D=tp:=Value.ref.inj (beq_iff_eq.mp q)
    subst e
    unfold clsIn at hcD
    split at hcD
    · rename_i c' d' cd' sl' ho
      have z:=(X _ _ ho).symm.trans htp
      cases z
    · cases hcD
  ca:=fun X I k=>zmm c X I k
end
end PySem.W
set_option Elab.async false
set_option linter.all false
set_option maxRecDepth 100000
set_option maxHeartbeats 4000000
namespace L2
open PySem PySem.Spec PyProof.Rows
theorem zgo:entryFor table "proto.unchain"=some Builtin.«proto.unchain»:=entryFor_of_tree (by kernel_rfl)
section
variable {prog:Program} {w:World} {A:Around} {E:Value→Shared→Prop} {s:Shared}
theorem zko {α:Type} {e h:Addr} {oe oh:Obj} {es vs:Array Value} {Q:α→Shared→Prop} (hh:A.handled=some (.ref h)) (he:s.heap.get? e=some oe) (hed:oe.data=.fields es) (hz:2<es.size) (hn:h≠e) (ho:s.heap.get? h=some oh) (hd:oh.data=.fields vs) (h2:vs[2]?=some .none)
    (q:E (.ref e) {s with heap:=s.heap.update e (Obj.mapFields (·.setIfInBounds 2 (.ref h)))}):wpAny (model prog w) A (raiseNew (.ref e):Sem α) Q E s:=by
  simp only [raiseNew]
  refine wpAny_bind (wpAny_handled ?_)
  rw [hh]
  have hne:(Value.ref h != Value.ref e)=true:=by
    rw [bne_iff_ne]
    intro z
    exact hn (Value.ref.inj z)
  simp only [hne,if_true]
  refine wpAny_bind (wpAny_holding (wpAny_runValue (codeAny_builtin zgo ?_)))
  unfold Builtin.«proto.unchain»
  refine wpAny_bind (wpAny_field ho hd h2 ?_)
  rw [if_pos (by rfl)]
  refine wpAny_bind (wpAny_pure (wpAny_pure ?_))
  refine wpAny_bind ?_
  show wpAny _ _ (setField (.ref e) 2 (.ref h)) _ _ _
  exact wpAny_setField he hed hz (wpAny_throw q)
theorem ziv {it h:Addr} {x left step:Int} {oh:Obj} {vs:Array Value} {Q:Option Value→Shared→Prop} (hh:A.handled=some (.ref h)) (ho:s.heap.get? h=some oh) (hd:oh.data=.fields vs) (h2:vs[2]?=some .none) (hit:IsRangeIter s.heap it x left step) (hleft:left≤0)
    (hQ:∀ h',Heap.ExtBut it s.heap h'→Q none {s with heap:=h'}):wpAny (model prog w) A (pyNext (.ref it)) Q E s:=by
  have hT:s.TypeIs (.ref it) "range_iterator":=⟨_,hit,rfl⟩
  unfold pyNext
  refine wpAny_bind (wpAny_attempt (wpAny_callSpecial?_slot (name:=Str.ofString "__next__") hT F.slot_range_iterator_next
    (wpAny_call_entry F.slot_range_iterator_next hT F.entry_range_iterator_next ?_ (F.args_range_iterator_next_1 _))))
  show wpAny _ _ (field (.ref it) 0 >>= _) _ _ s
  refine wpAny_bind (wpAny_field hit rfl (x:=rawInt x) rfl ?_)
  show wpAny _ _ (field (.ref it) 1 >>= _) _ _ s
  refine wpAny_bind (wpAny_field hit rfl (x:=rawInt left) rfl ?_)
  show wpAny _ _ (field (.ref it) 2 >>= _) _ _ s
  refine wpAny_bind (wpAny_field hit rfl (x:=rawInt step) rfl ?_)
  show wpAny _ _ (if left≤0 then _ else _) _ _ s
  rw [if_pos hleft]
  refine wpAny_bind (wpAny_rule ?_)
  refine wpAny_bind ?_
  show wpAny _ _ (newExc (.type "StopIteration") [] >>= _) _ _ _
  refine wpAny_bind ?_
  simp only [newExc,newTuple]
  refine wpAny_bind (wpAny_newObj_type ?_ (by size_fits))
  refine wpAny_bind (m:=firstArgMember _ _) (wpAny_of_eq (a:=Value.none) (by first | rfl | (simp only [firstArgMember];rfl)) ?_)
  refine wpAny_newObj_type ?_ (by size_fits)
  have lt:=Heap.lt_size ho
  refine zko (oh:=oh) (vs:=vs) (show A.in1.handled=some (.ref h) from hh) (Heap.get?_push_size _ rfl) rfl (by show 2<6;decide) (by rw [Heap.size_push];exact Nat.ne_of_lt (Nat.lt_succ_of_lt lt)) (Heap.get?_push_of_some _ (Heap.get?_push_of_some _ ho)) hd h2 ?_
  have hnew:=Heap.get?_update_self (Obj.mapFields (·.setIfInBounds 2 (Value.ref h))) (Heap.get?_push_size (s.heap.push {cls:=.type "tuple",data:=.seq ([]:List Value).toArray}) (o:={cls:=.type "StopIteration",data:=.fields #[.ref s.heap.objs.size,.none,.none,.none,.bool false,.none]}) rfl) rfl
  refine wpAny_bind (wpAny_isInstance (T:="StopIteration") (b:=true) ⟨_,hnew,rfl⟩ isSubtype_stop ?_)
  refine wpAny_pure (hQ _ ?_)
  intro b o hb e
  have ltb:=Heap.lt_size e
  rw [Heap.get?_update_other _ _ (by rw [Heap.size_push];exact Nat.ne_of_gt (Nat.lt_succ_of_lt ltb))]
  exact Heap.get?_push_of_some _ (Heap.get?_push_of_some _ e)
end
structure Hnd (X:Cx) (h:Addr) (oe:Obj):Prop where
  hd:X.A.handled=some (.ref h)
  pn:(h,oe)∈X.pn
  cx:∃ vs,oe.data=.fields vs∧vs[2]?=some .none
section
variable {X:Cx} {pins:List (Addr × Obj)} {σ:St} {H:Hp} {s:Shared} {it h:Addr} {oe:Obj} {n i:Nat} {tg:Expr} {E:Value→Shared→Prop}
theorem zn4 (I:Inv X pins σ H s) (f:FpOk X pins H it) (st:IsRangeIter s.heap it (i:Int) ((n:Int) - (i:Int)) 1) (hlt:i<n) :
    wpAny (model X.prog X.w) X.A (pyNext (.ref it)) (fun r s1=>∃ u,r=some u∧wpAny (model X.prog X.w) X.A (letOwnedTupleGo tg (.ref it) u) (fun _ s2=>Inv X pins σ H s2∧RelV (.int (i:Int)) u∧IsRangeIter s2.heap it ((i+1:Nat):Int) ((n:Int) - ((i+1:Nat):Int)) 1) E s1) E s:=by
  obtain ⟨f0,f1,f2,f3,f4,f5⟩:=f
  refine wpAny_pyNext_range_item st (by omega) fun h' st' sb=>⟨_,rfl,?_⟩
  have I1:Inv X pins σ H {s with heap:=h',toks:=s.toks+1}:=I.turned (fun b o hb e=>(sb.2 b hb).trans e) f0 f1 f3 f4 f5
  have st2:IsRangeIter h' it ((i+1:Nat):Int) ((n:Int) - ((i+1:Nat):Int)) 1:=by
    have e2:((n:Int) - ((i+1:Nat):Int))=((n:Int) - (i:Int) - 1):=by omega
    rw [e2]
    exact st'
  exact go_of (s:={s with heap:=h',toks:=s.toks+1}) (n:="range_iterator") st2 rfl rfl (by decide) ⟨I1,⟨_,rfl⟩,st2⟩
theorem zn5 (Hd:Hnd X h oe) (I:Inv X pins σ H s) (f:FpOk X pins H it) (st:IsRangeIter s.heap it (i:Int) ((n:Int) - (i:Int)) 1) (hge:n≤i) :
    wpAny (model X.prog X.w) X.A (pyNext (.ref it)) (fun r s1=>r=none∧Inv X pins σ H s1) E s:=by
  obtain ⟨f0,f1,f2,f3,f4,f5⟩:=f
  obtain ⟨vs,hd,h2⟩:=Hd.cx
  exact ziv Hd.hd (I.pin (h,oe) (List.mem_append_left _ Hd.pn)).1 hd h2 st (by omega) fun h' eb=>⟨rfl,I.turned (t':=s.toks) (fun b o hb e=>eb b o hb e) f0 f1 f3 f4 f5⟩
end
def PRE (X:Cx) (pins:List (Addr × Obj)) (σ:St) (R:Nat→Hp→Prop) (itv:Value) (s2:Shared):Prop:=∃ (it:Addr) (n:Nat) (H':Hp),itv=.ref it∧Inv X pins σ H' s2∧IsRangeIter s2.heap it 0 n 1∧FpOk X pins H' it∧R n H'
section
variable {X:Cx} {pins:List (Addr × Obj)} {σ:St} {H:Hp} {s:Shared} {scope:Scope} {cl:List (Str × Addr)} {C:Addr} {N:List Str} {js:List (Option Nat)} {h:Addr} {oe:Obj}
theorem zn6 {a:Expr} {ta:TA} {p pos:Pos} {R:Nat→Hp→Prop} (hg:Gl X "range") (hm:X.mg "range"=none) (ha:PA X [a] ta) (I:Inv X pins σ H s) (q:ta σ H fun vs H1=>∃ j:Int,vs=[.int j]∧-(2 ^ 62)≤j∧j<2 ^ 62∧R j.toNat H1)
    (hs:starEach [a] X.env=[(false,eval a X.env)]:=by rfl):wpAny (model X.prog X.w) X.A (eval (.Call (.Name "range" p) [a] [] pos) X.env) (fun v s1=>wpAny (model X.prog X.w) X.A (pyIter v) (PRE X pins σ R) X.xe s1) X.xe s:=by
  refine Call_ (zai I hg hm boot_range (PyProof.Rows.callWith_type1 (thn (ha pos pins s σ H _ I q) fun us s1 ⟨vs,H1,I1,r1,q1⟩=>?_) hs rfl))
  obtain ⟨j,e,q1,q2,q⟩:=q1
  subst e
  cases r1 with
  | cons r rr =>
    cases rr
    obtain ⟨t,rfl⟩:=r
    refine call_range_1 (wpAny_pyIter_range (IsRange.new ..) (small_one (by decide) (by decide) q1 q2) ?_)
    refine ⟨_,j.toNat,H1,rfl,(I1.kept fun b o e=>Heap.get?_push_of_some _ (Heap.get?_push_of_some _ e)),?_,?_,q⟩
    · have e2:Builtin.Range.rangeSize 0 j 1=((j.toNat:Nat):Int):=by
        rw [rangeSize_one]
        split <;> omega
      show Heap.get? _ _=some _
      rw [← e2]
      exact Heap.get?_push_size _ rfl
    · exact I1.fpOk (by rw [Heap.size_push];exact Nat.le_succ _) (I1.hok.fresh (by rw [Heap.size_push];exact Nat.le_succ _))
theorem zkp {elt target a:Expr} {p0 pos0 pos pos':Pos} {ta:TA} {g:TG} {te:TE} (Hd:Hnd X h oe) (S:CpScope X scope N js) (hgr:Gl X "range") (hmr:X.mg "range"=none) (ha:PA X [a] ta)
    (hg:∀ cl C s H fp,PG (cxC X scope cl C N s H fp) target g) (he:∀ cl C s H fp,PE (cxC X scope cl C N s H fp) elt te) (hs:∀ x,foldedSetIterable (.Call (.Name "range" p0) [a] [] pos0) X.env x=pure x) (hst:starEach [a] X.env=[(false,eval a X.env)])
    {use:Option (Value→Sem Unit)} {QQ:Value→Shared→Prop} {Q:VK} (I:Inv X pins σ H s) (hw:tComp js (iRng1 ta) g te σ H Q)
    (hfin:∀ (p C:Addr) (H':Hp) (s':Shared) (m:Str→Option Value),Inv X pins σ H' s'→Q (.ref p) H'→FpOk X pins H' C→s'.heap.Ns C m→compPost (model X.prog X.w) X.A X.xe use QQ (.ref p) C (.ok .next) s') :
    wpAny (model X.prog X.w) X.A (comprehension (.ListComp elt [⟨target,.Call (.Name "range" p0) [a] [] pos0,[],0⟩] scope pos) scope X.env pos' (newList []) false (eval (.Call (.Name "range" p0) [a] [] pos0) X.env) use) QQ X.xe s:=by
  obtain ⟨cl,hclos,k1,k2⟩:=zcl (scope:=scope) (env:=X.env) (fun y hy hk=>I.ok.has y.1 (S.clos y hy hk))
  refine wpAny_comprehension_free (use:=use) rfl hs hclos S.kind S.names (thn (zn6 (R:=fun n H1=>∀ p,H1 p=none→CW (Itr 0 n) g te p (frOf js σ) H1 Q) hgr hmr ha I hw hst) fun v s1 h1=>thn h1 fun itv s2 h2=>?_)
  obtain ⟨it,n,H2,e,I2,st2,f2,q⟩:=h2
  subst e
  obtain ⟨W,⟨m0,w0⟩,turn⟩:=q s2.heap.objs.size I2.fresh
  have ltf:it<s2.heap.objs.size:=Heap.lt_size st2
  refine wpAny_newObj_type (wpAny_newFunctionEnv S.nocell (by intro y hy;simp at hy) (fun h1 hns1 hsb1=>?_) S.kind)
  dsimp only at hns1 hsb1 ⊢
  have I3:Inv X pins σ (upd H2 s2.heap.objs.size (.lst [])) {s2 with heap:=s2.heap.push {cls:=.type "list",data:=.seq ([]:List Value).toArray},toks:=s2.toks}:=I2.lnew (t':=s2.toks) .nil (by show 0≤sizeLine;exact Nat.zero_le _)
  generalize hh3:s2.heap.push {cls:=.type "list",dict:=none,data:=.seq ([]:List Value).toArray}=h3 at I3 hns1 hsb1 ⊢
  generalize hH3:upd H2 s2.heap.objs.size (.lst [])=H3 at I3 w0
  have hz3:h3.objs.size=s2.heap.objs.size+1:=by rw [← hh3,Heap.size_push]
  have up3:∀ b o,s2.heap.get? b=some o→h3.get? b=some o:=fun b o e=>by rw [← hh3];exact Heap.get?_push_of_some _ e
  have f3:∀ b∈[it],FpOk X pins H3 b:=fun b hb=>by
    have e:b=it:=by simpa using hb
    subst e
    exact ⟨by rw [← hH3,zi (Nat.ne_of_lt ltf)];exact f2.1,f2.2⟩
  have lt3:∀ b∈[it],b<h3.objs.size:=fun b hb=>by
    have e:b=it:=by simpa using hb
    subst e
    rw [hz3];exact Nat.lt_succ_of_lt ltf
  have old:∀ b o,h3.get? b=some o→h1.get? b=some o:=fun b o e=>hsb1.extBut b o (Nat.ne_of_lt (Heap.lt_size e)) (Heap.get?_push_of_some _ e)
  have I4:=ze6 (t':=s2.toks+([]:List (Str × Value)).length) (C:=h3.objs.size) (fp:=[it]) I3 S k1 k2 (Nat.le_refl _) f3 lt3 old hns1
  have st4:IsRangeIter h1 it ((0:Nat):Int) ((n:Int) - ((0:Nat):Int)) 1:=by
    rw [show ((n:Int) - ((0:Nat):Int))=n from by omega]
    exact old _ _ (up3 _ _ st2)
  have stat:∀ {H':Hp},H' it=none→∀ b∈[it],FpOk (cxC X scope cl h3.objs.size N {s2 with heap:=h3,toks:=s2.toks} H3 [it]) pins H' b:=fun {H'} hn b hb=>by
    have e:b=it:=by simpa using hb
    obtain ⟨g0,g1,g2,g3,g4,g5⟩:=f3 b hb
    refine ⟨by rw [e];exact hn,Nat.ne_of_lt (lt3 b hb),fun z=>?_,.inl hb,fun x c e=>g4 x c (k1 x c e),g5⟩
    rcases List.mem_cons.mp (I3.stkSub b z) with q | q
    · exact g1 q
    · exact g2 q
  have HdC:Hnd (cxC X scope cl h3.objs.size N {s2 with heap:=h3,toks:=s2.toks} H3 [it]) h oe:=⟨Hd.hd,Hd.pn,Hd.cx⟩
  have loop:codeAny (model X.prog X.w) X.A (.compLoop (.ListComp elt [⟨target,.Call (.Name "range" p0) [a] [] pos0,[],0⟩] scope pos) 0 (.ref it) (.ref s2.heap.objs.size) (compEnvC scope cl h3.objs.size X.env))
      (compPost (model X.prog X.w) X.A X.xe use QQ (.ref s2.heap.objs.size) h3.objs.size) {s2 with heap:=h1,toks:=s2.toks+([]:List (Str × Value)).length}:=by
    refine zc5 (fun m s'=>∃ (i:Nat) (ys:List V) (τ:St) (H':Hp),Inv (cxC X scope cl h3.objs.size N {s2 with heap:=h3,toks:=s2.toks} H3 [it]) pins τ H' s'∧IsRangeIter s'.heap it (i:Int) ((n:Int) - (i:Int)) 1∧H' it=none∧W i m ys τ H') ?_ m0
      ⟨0,[],_,H3,I4,st4,(f3 it (by simp)).1,w0⟩
    rintro m s5 ⟨i,ys,τ,H5,I5,st5,fr5,w5⟩
    rcases turn i m ys τ H5 w5 with ⟨stop,qn⟩ | ⟨go,step⟩
    · refine wpAny_mono (zn5 (X:=cxC X scope cl h3.objs.size N {s2 with heap:=h3,toks:=s2.toks} H3 [it]) HdC I5 (stat fr5 it (by simp)) st5 stop) (fun r s6 h6=>?_) fun _ _ z=>z
      obtain ⟨hr,I6⟩:=h6
      subst hr
      obtain ⟨m6,hn6,_⟩:=I6.loc
      refine hfin s2.heap.objs.size h3.objs.size H5 s6 m6 (I3.call' (ch:=[it]) I6.os I6.base I6.hok I6.bare fun b hb=>?_) qn (I3.fpOk (Nat.le_refl _) I6.free) hn6
      obtain ⟨g0,g1,g2,g3,g4,g5⟩:=f3 b hb
      exact ⟨g3,g1,g4,g5⟩
    · refine wpAny_mono (zn4 (X:=cxC X scope cl h3.objs.size N {s2 with heap:=h3,toks:=s2.toks} H3 [it]) (tg:=target) I5 (stat fr5 it (by simp)) st5 go) (fun r s6 h6=>?_) fun _ _ z=>z
      obtain ⟨u,hr,h6⟩:=h6
      subst hr
      refine wpAny_mono h6 (fun _ s7 h7=>?_) fun _ _ z=>z
      obtain ⟨I7,rx,st7⟩:=h7
      have obj7:∀ b∈[it],∃ o,s7.heap.get? b=some o∧∀ v,o.data≠.cell v:=fun b hb=>by
        have e:b=it:=by simpa using hb
        subst e
        exact ⟨_,st7,fun v z=>by
          have z':Data.fields _=Data.cell v:=z
          cases z'⟩
      have I7':=I7.pinned (stat fr5) obj7
      have step':=step (.int (i:Int)) H5 ⟨rfl,by rw [Int.zero_add]⟩
      refine wpAny_mono (hg cl h3.objs.size _ H3 [it] _ s7 τ H5 (.int (i:Int)) u _ I7' rx step') (fun _ s8 h8=>?_) fun _ _ z=>False.elim z
      obtain ⟨τ8,H8,I8,q8⟩:=h8
      refine wpAny_mono (he cl h3.objs.size _ H3 [it] _ s8 τ8 H8 _ I8 q8) (fun y' s9 h9=>?_) fun _ _ z=>False.elim z
      obtain ⟨y,H9,I9,ry,e9,l9,m',hm,w9⟩:=h9
      refine wpAny_mono (wa (X:=cxC X scope cl h3.objs.size N {s2 with heap:=h3,toks:=s2.toks} H3 [it]) _ s9 τ8 H9 (.ref s2.heap.objs.size) [y] (.ref s2.heap.objs.size) [y']
        (fun _ H10=>H10=upd H9 s2.heap.objs.size (.lst (ys++[y]))) I9 rfl (.cons ry .nil) ⟨_,ys,y,rfl,rfl,e9,l9,rfl⟩) (fun _ s10 h10=>?_) fun _ _ z=>False.elim z
      obtain ⟨_,H10,I10,_,e10⟩:=h10
      subst e10
      have pin10:=I10.pin _ (List.mem_append_right _ (List.mem_append_right _ (wv (fp:=[it]) (b:=it) (by simp) st7)))
      exact ⟨m',hm,i+1,ys++[y],τ8,_,I10.unpinned,pin10.1,pin10.2.1,w9⟩
  exact codeAny_compStart_list loop (wpAny_pyIter_rangeiter st4 loop)
theorem zf8 {elt target a:Expr} {p0 pos0 pos:Pos} {ta:TA} {g:TG} {te:TE} (Hd:Hnd X h oe) (S:CpScope X scope N js) (hgr:Gl X "range") (hmr:X.mg "range"=none) (ha:PA X [a] ta)
    (hg:∀ cl C s H fp,PG (cxC X scope cl C N s H fp) target g) (he:∀ cl C s H fp,PE (cxC X scope cl C N s H fp) elt te) (hs:∀ x,foldedSetIterable (.Call (.Name "range" p0) [a] [] pos0) X.env x=pure x:=by intro _;rfl)
    (hst:starEach [a] X.env=[(false,eval a X.env)]:=by rfl):PE X (.ListComp elt [⟨target,.Call (.Name "range" p0) [a] [] pos0,[],0⟩] scope pos) (tComp js (iRng1 ta) g te):=by
  intro pins s σ H Q I hq
  rw [eval_ListComp]
  refine zkp (use:=none) Hd S hgr hmr ha hg he hs hst I hq fun p C H' s' m I' q f hn=>⟨m,hn,fun h' hs'=>⟨.ref p,H',?_,rfl,q⟩⟩
  obtain ⟨f0,f1,f2,f3,f4,f5⟩:=f
  exact I'.turned (t':=s'.toks) (fun b o hb e=>(hs'.2 b hb).trans e) f0 f1 f3 f4 f5
end
end L2
set_option Elab.async false
set_option linter.all false
set_option maxRecDepth 100000
set_option maxHeartbeats 4000000
namespace L2
open PySem PySem.Spec PyProof.Rows
structure RoomH (k:Nat) (A:Around):Prop where
  dp:A.depth+3 * k+5<recursionLimit
  un:A.units+16 * k+200<cLine
theorem Room.h {k:Nat} {A:Around} (r:Room k A):RoomH k A:=⟨r.dp,r.un⟩
theorem RoomH.deeper {k:Nat} {A:Around} (r:RoomH (k+1) A) (env:Env):RoomH k (A.deeper env) :=
  ⟨by have:=r.dp;show A.depth+1+3 * k+5<_;omega,by have:=r.un;show A.units+3+16 * k+200<_;omega⟩
theorem RoomH.depth {k:Nat} {A:Around} (r:RoomH k A):A.depth<recursionLimit:=by have:=r.dp;omega
def Ctx0 (oe:Obj):Prop:=∃ vs,oe.data=.fields vs∧vs[2]?=some .none
abbrev CXno:CXT:=fun _ _ _ _ _ _=>False
abbrev Eno:XK:=fun _ _ _=>False
structure FnOkH (P:Program) (w:World) (K:PySem.W.Frag) (mg:Str→Option Value) (base:Heap) (k:Nat) (f:Addr) (fd:FuncData) (ps:List Str) (sp:Addr→Obj→Sp):Prop where
  len:∀ h oe vs H Q E,sp h oe vs H Q E→vs.length=ps.length
  run:∀ (A:Around) (outer:List Env) (s:Shared) (H:Hp) (args:Args) (us:List Value) (vs:List V) (Q:VK) (h:Addr) (oe:Obj),RoomH k A→A.handled=some (.ref h)→Env0 P w K mg base A outer s H→s.heap.get? h=some oe→H h=none→h ∉ frs outer→Ctx0 oe →
    BindsTo s fd args (ps.zip us)→Vals vs us→sp h oe vs H Q Eno→codeAny (model P w) A (.call (.ref f) args) (CR CXno outer P w H s Q Eno) s
def cxH (P:Program) (w:World) (K:PySem.W.Frag) (mg:Str→Option Value) (base:Heap) (N:List Str) (qual:Str) (scope:Scope) (f:Addr) (cd:Value) (A:Around) (outer:List Env) (s:Shared) (H:Hp) (h:Addr) (oe:Obj):Cx :=
  {cxOf CXno P w K mg base N qual scope f cd A outer s H Eno with calm:=false,pn:=[(h,oe)],xe:=fun _ _=>False}
theorem zqm {P:Program} {w:World} {K:PySem.W.Frag} {mg:Str→Option Value} {base:Heap} {k:Nat} {f:Addr} {name qual:Str} {params:Arguments} {body:List Stmt} {scope:Scope} {dV kV doc pm cdv ct oc:Value} {an od:Option Addr}
    {osl:Array (Option Value)} {N ps:List Str} {sp:Addr→Obj→Sp} (lk:K.lookup f=some ⟨oc,od,.func (PySem.W.fnOf name qual params body scope dV kV doc pm an cdv ct),osl⟩) (hcd:PySem.W.codeIn K cdv qual=true) (S:FnScope N ps scope)
    (len:∀ h oe vs H Q E,sp h oe vs H Q E→vs.length=ps.length)
    (hbody:∀ (A:Around) (outer:List Env) (s:Shared) (H:Hp) (vs:List V) (Q:VK) (h:Addr) (oe:Obj),RoomH k (A.deeper (envOfC qual scope s.heap.objs.size f cdv))→Hnd (cxH P w K mg base N qual scope f cdv A outer s H h oe) h oe→sp h oe vs H Q Eno →
      ∃ t,PSs (cxH P w K mg base N qual scope f cdv A outer s H h oe) body t∧t {nx:=fun _ H'=>Q .non H',rt:=Q} (start N vs) H) :
    FnOkH P w K mg base (k+1) f (PySem.W.fnOf name qual params body scope dV kV doc pm an cdv ct) ps sp:=by
  refine ⟨len,fun A outer s H args us vs Q h oe hr hh e0 ho hn hfr hcx hb r hsp=>?_⟩
  have hl:=len _ _ _ _ _ _ hsp
  have KX:K.In s.heap:=e0.mod.kin.keeps fun b o e=>(e0.bs b o e).1
  have lim:s.heap.NoLimit:=e0.mod.nolimit.keeps fun b o e=>(e0.bs b o e).1
  have hkind:∀ y∈ps.zip us,scope.names.lookup y.1=some .local∨(scope.names.lookup y.1=some .cell∧((cellsFrom (s.heap.objs.size+1) scope.names []).lookup y.1).isSome=true):=fun ⟨n,v⟩ hy=>by
    rcases S.par n (List.of_mem_zip hy).1 with q | q
    · exact .inl q
    · exact .inr ⟨q,PySem.W.cellsFrom_some _ _ _ (.inl q)⟩
  refine codeAny_call_function hr.depth (KX _ _ lk) rfl S.co S.gen rfl (PySem.W.codeRec_of KX hcd) (hb _ _ _ _ ?_)
  refine wpAny_newFunctionEnv_cells S.kind hkind fun env he s1 x=>?_
  subst he
  refine ⟨lim.keeps x.toInCall.keep,codeAny_func ?_⟩
  have e1:Env0 P w K mg base {A with handled:=none} outer s H:=⟨e0.frames,e0.mod,e0.bs,e0.bsz,e0.funs,e0.frf,e0.hok,e0.bare⟩
  have I0:Inv (cxOf CXno P w K mg base N qual scope f cdv {A with handled:=none} outer s H Eno) [] (start N vs) H s1:=zft S rfl e1 hl r x
  have I:Inv (cxH P w K mg base N qual scope f cdv A outer s H h oe) [] (start N vs) H s1:=by
    refine ⟨⟨I0.ok.mod,I0.ok.kind,I0.ok.glob,I0.ok.blt,I0.ok.above,I0.ok.inj,I0.ok.has,I0.ok.cab,fun z=>?_,Around.frames_deeper e0.frames,I0.ok.stk,I0.ok.exf,I0.ok.bs,I0.ok.bsz,I0.ok.noex,I0.ok.exfs,I0.ok.funs,I0.ok.frf⟩,
      I0.os,I0.bare,I0.base,I0.loc,I0.cell,I0.free,I0.freeC,fun p hp=>?_,I0.hok,I0.len⟩
    · have z':false=true:=z
      cases z'
    · have e:p=(h,oe):=by
        have hp':p∈[(h,oe)]++([]:List (Addr × Obj)):=hp
        simpa using hp'
      subst e
      refine ⟨I0.base.keep h oe ho hn hfr (fun z=>absurd (show h∈([]:List Addr) from z) (by simp)),hn,Nat.ne_of_lt (Heap.lt_size ho),hfr,fun v z=>?_⟩
      obtain ⟨vs,hd,_⟩:=hcx
      have z':oe.data=Data.cell v:=z
      rw [hd] at z'
      cases z'
  have Hd:Hnd (cxH P w K mg base N qual scope f cdv A outer s H h oe) h oe:=⟨hh,List.mem_singleton.mpr rfl,hcx⟩
  obtain ⟨t,ht,hq⟩:=hbody A outer s H vs Q h oe (hr.deeper _) Hd hsp
  refine wpAny_mono (ht [] s1 (start N vs) H _ I hq) (fun fl s' hs=>?_) fun e s' hs=>False.elim hs
  have fin:∀ {σ':St} {H':Hp} {v:V} {u:Value},Inv (cxH P w K mg base N qual scope f cdv A outer s H h oe) [] σ' H' s'→RelV v u→Q v H'→CE outer P w H s Q u s' :=
    fun {σ' H' v u} J rv q=>⟨v,H',J.os,J.bare,J.base,J.hok,rv,q⟩
  cases fl with
  | ret u =>
    obtain ⟨v,σ',H',J,rv,q⟩:=hs
    exact fin J rv q
  | next =>
    obtain ⟨σ',H',J,q⟩:=hs
    exact fin (v:=V.non) (u:=Value.none) J rfl q
  | brk =>
    obtain ⟨_,_,_,q⟩:=hs
    exact False.elim q
  | cont =>
    obtain ⟨_,_,_,q⟩:=hs
    exact False.elim q
section
variable {X:Cx} {k:Nat} {f:Addr} {fd:FuncData} {ps:List Str} {sp:Addr→Obj→Sp} {x:Str} {p pos:Pos} {e:Expr} {es:List Expr} {t:TA} {h:Addr} {oe:Obj}
theorem zd8 (Hd:Hnd X h oe) (F:FnOkH X.prog X.w X.K X.mg X.base k f fd ps sp) (hr:RoomH k X.A) (hg:Gl X x) (hm:X.mg x=some (.ref f)) (hk:PySem.W.keepIn X.K (.ref f)=true) (hb:Binds X.K fd ps [])
    (ha:PA X (e::es) t) (hdb:(x==("__debug__":Str))=false:=by decide) (he:starEach (e::es) X.env=(false,eval e X.env)::starEach es X.env:=by rfl) (hpl:(backTo pos (starEach es X.env)).any (·.1)=false:=by rfl) :
    PE X (.Call (.Name x p) (e::es) [] pos) (tCall (sp h oe) [] Eno t):=by
  intro pins s σ H Q I hq
  refine wpAny_Call_Name_kw (zax I hg hm ?_ hdb)
  refine PySem.W.callWith_K (h₀:=X.base) I.ok.mod.kin hk (thn (ha pos pins s σ H _ I hq) fun us s1 ⟨vs,H1,I1,r,q⟩=>⟨I1.kIn,?_⟩) he hpl
  have q:sp h oe (vs++[]) H1 Q Eno:=q
  rw [List.append_nil] at q
  have hl:(us++([]:List Value)).length=ps.length:=by rw [List.append_nil,← r.length];exact F.len _ _ _ _ _ _ q
  have hb1:=hb s1 us I1.kIn hl
  rw [List.append_nil] at hb1
  obtain ⟨e1,n1,ne,nf,_⟩:=I1.pin (h,oe) (List.mem_append_left _ Hd.pn)
  have hfr:h ∉ frs X.stack:=fun z=>(List.mem_cons.mp (I1.stkSub h z)).elim ne nf
  refine wpAny_call (codeAny_mono (F.run X.A X.stack s1 H1 ⟨us,[]⟩ us vs Q h oe hr Hd.hd I1.env0 e1 n1 hfr Hd.cx hb1 r q) fun r s' hq=>?_)
  cases r with
  | error e=>exact False.elim hq
  | ok fl =>
    cases fl with
    | ret u=>exact I1.after hq
    | next=>exact False.elim hq
    | brk=>exact False.elim hq
    | cont=>exact False.elim hq
theorem zbu (Hd:Hnd X h oe) {C:Addr} {c:V} {cv:Value} {b:Bool} (hc:oe.cls=.ref C) (hdd:oe.dict=none) (ec:PySem.W.ExcCls X.K C) (rc:RelV c cv) (hcv:∀ u,RelV c u→u=cv) (q:PySem.W.kitOne X.K (.ref C) cv=some b) :
    CallR X (.builtin "isinstance") (fun xs H Q=>xs=[.ref h,c]∧Q (.bl b) H):=by
  rintro pins s σ H xs us Q I r ⟨rfl,hq⟩
  cases r with
  | cons r1 r2 =>
    cases r2 with
    | cons r3 r4 =>
      cases r4
      cases r1
      obtain rfl:=hcv _ r3
      obtain ⟨vs,hd,_⟩:=Hd.cx
      have hI:PySem.W.InstAt s.heap h oe C none:=⟨(I.pin (h,oe) (List.mem_append_left _ Hd.pn)).1,hc,by unfold PySem.W.notCls;rw [hd],by rw [hdd];trivial⟩
      exact PySem.W.kia_one (PySem.W.zq1 ec) I.kIn hI q (fun z=>nomatch z) fun tk=>⟨.bl b,H,I.tok tk,rfl,hq⟩
end
theorem ziw {prog:Program} {w:World} {A:Around} {E:Value→Shared→Prop} {s:Shared} {K:PySem.W.Frag} {e C R:Addr} {oe:Obj} {Q:Bool→Shared→Prop} (X:K.In s.heap) (he:s.heap.get? e=some oe) (hc:oe.cls=.ref C) (t1:PySem.W.typeIn K (.ref R)=some (.type "type"))
    (c1:(PySem.W.clsIn K R).isSome=true) (x1:PySem.W.mroIn K R (.type "BaseException")=some true) (x2:PySem.W.mroIn K C (.ref R)=some true) (h:Q true s):wpAny (model prog w) A (excMatches (.ref e) (.ref R)) Q E s:=by
  obtain ⟨hh,g,d,t,os⟩:=s
  have L0:PySem.W.Looks (model prog w) hh (typeOf (.ref e)) (.ref C):=hc ▸ (PySem.W.Looks.ld he).andThen .now
  have L1:=PySem.W.looks_typeIn (M:=model prog w) X t1
  have L2:PySem.W.Looks (model prog w) hh (isType (.ref R)) true:=by
    obtain ⟨cdD,hcD⟩:=Option.isSome_iff_exists.mp c1
    unfold PySem.W.clsIn at hcD
    split at hcD
    · rename_i c' d' cd' sl' ho
      intro A' Q' E' s' k q
      unfold isType loadHead
      exact wpAny_bind (wpAny_loadPart (k _ _ (X _ _ ho)) (wpAny_pure q))
    · cases hcD
  have L3:=PySem.W.looks_mroIn (M:=model prog w) X x1
  have L4:=PySem.W.looks_mroIn (M:=model prog w) X x2
  have f:=tc_notTuple
  unfold excMatches isInstance isExcClass
  repeat (first | lk | wp_step)
  exact h
end L2
set_option Elab.async false
set_option linter.all false
set_option maxRecDepth 100000
set_option maxHeartbeats 4000000
namespace L2
open PySem PySem.Spec PyProof.Rows
abbrev Cx.tried (X:Cx) (pn:List (Addr × Obj)) (xe:Value→Shared→Prop):Cx:={X with pn:=pn,xe:=xe}
abbrev Cx.caught (X:Cx) (pn:List (Addr × Obj)) (ea:Addr):Cx:={X with A:=X.A.mark (some (.ref ea)),calm:=false,pn:=pn,xe:=fun _ _=>False}
section
variable {X:Cx} {pins:List (Addr × Obj)} {σ:St} {H H':Hp} {s:Shared} {B:Heap}
theorem Inv.tried {xe:Value→Shared→Prop} (I:Inv X pins σ H s):Inv (X.tried (X.pn++pins) xe) [] σ H s :=
  ⟨⟨I.ok.mod,I.ok.kind,I.ok.glob,I.ok.blt,I.ok.above,I.ok.inj,I.ok.has,I.ok.cab,I.ok.hd,I.ok.frames,I.ok.stk,I.ok.exf,I.ok.bs,I.ok.bsz,I.ok.noex,I.ok.exfs,I.ok.funs,I.ok.frf⟩,
    I.os,I.bare,I.base,I.loc,I.cell,I.free,I.freeC,fun p hp=>I.pin p (by simpa using hp),I.hok,I.len⟩
theorem Inv.untried {pl:List (Addr × Obj)} {xe:Value→Shared→Prop} (ok:X.Ok) (I:Inv (X.tried (X.pn++pins) xe) pl σ H s):Inv X pins σ H s :=
  ⟨ok,I.os,I.bare,I.base,I.loc,I.cell,I.free,I.freeC,fun p hp=>I.pin p (List.mem_append_left _ hp),I.hok,I.len⟩
theorem Inv.uncaught {pl:List (Addr × Obj)} {ea:Addr} {more:List (Addr × Obj)} (ok:X.Ok) (I:Inv (X.caught (X.pn++pins++more) ea) pl σ H s):Inv X pins σ H s :=
  ⟨ok,I.os,I.bare,I.base,I.loc,I.cell,I.free,I.freeC,fun p hp=>I.pin p (List.mem_append_left _ (List.mem_append_left _ hp)),I.hok,I.len⟩
theorem Inv.caught {ea:Addr} {more:List (Addr × Obj)} (I:Inv X pins σ H s) (hm:∀ p∈more,s.heap.get? p.1=some p.2∧H p.1=none∧p.1≠X.env.locals∧p.1 ∉ X.fs∧∀ v,p.2.data≠.cell v):Inv (X.caught (X.pn++pins++more) ea) [] σ H s :=
  ⟨⟨I.ok.mod,I.ok.kind,I.ok.glob,I.ok.blt,I.ok.above,I.ok.inj,I.ok.has,I.ok.cab,fun z=>(by have z':false=true:=z;cases z'),I.ok.frames,I.ok.stk,I.ok.exf,I.ok.bs,I.ok.bsz,I.ok.noex,I.ok.exfs,I.ok.funs,I.ok.frf⟩,
    I.os,I.bare,I.base,I.loc,I.cell,I.free,I.freeC,fun p hp=>by
      have hp':p∈X.pn++pins∨p∈more:=by
        rcases List.mem_append.mp hp with z | z
        · exact List.mem_append.mp z
        · cases z
      exact hp'.elim (I.pin p) (hm p),I.hok,I.len⟩
theorem Inv.forget {h':Heap} {m:Str→Option Value} {t':Nat} (I:Inv X pins σ H s) (hn:h'.Ns X.env.locals m) (sb:Heap.SameBut X.env.locals s.heap h'):Inv X pins (List.replicate X.N.length none) H {s with heap:=h',toks:=t'}:=by
  have neL:∀ b o,X.s₀.heap.get? b=some o→b≠X.env.locals:=fun b o e=>Nat.ne_of_lt (Nat.lt_of_lt_of_le (Heap.lt_size e) I.ok.above)
  refine ⟨I.ok,I.os,I.bare,⟨fun b o e n hb hx=>(sb.2 b (neL b o e)).trans (I.base.keep b o e n hb hx),fun b o e n hb hx=>?_,I.base.free,fun b o e hx=>?_,I.base.tups,I.base.frzs,I.base.tbls⟩,⟨m,hn,fun i x v e1 e2=>?_⟩,fun x c e=>?_,I.free,I.freeC,fun p hp=>?_,fun b u e=>?_,?_⟩
  · obtain ⟨sl,e1⟩:=I.base.slot b o e n hb hx
    exact ⟨sl,(sb.2 b (neL b o e)).trans e1⟩
  · obtain ⟨o',e1⟩:=I.base.there b o e hx
    exact ⟨o',(sb.2 b (neL b o e)).trans e1⟩
  · rw [List.getElem?_replicate] at e2
    split at e2 <;> cases e2
  · obtain ⟨v,z⟩:=I.cell x c e
    exact ⟨v,z.sameBut sb (I.cne x c e)⟩
  · obtain ⟨e,n,ne,nf,d⟩:=I.pin p hp
    exact ⟨(sb.2 p.1 ne).trans e,n,ne,nf,d⟩
  · refine (I.hok b u e).stay (fun c v hc q=>(sb.2 c ?_).trans q) (fun _ q=>q) fun _ _ q=>q
    rintro rfl
    rcases hc with z | z
    · rw [← z,I.free] at e;cases e
    · rw [I.free] at z;cases z
  · rw [List.length_replicate]
theorem Inv.landed {s':Shared} {h1 h2:Heap} (I:Inv X pins σ H s) (u:Un (frs X.stack) [] H H' s.heap h1) (kb:∀ b o,s.heap.get? b=some o→H b=none→b ∉ frs X.stack→B.get? b=some o) (bk:B.StaysIn h2) (sl:h1.UpToSlots h2) (th:Thr h1 h2) (hok:HOk X.prog X.w H' B)
    (os:s'.os=s.os) (bare:AllBare s'.gens) (hs:s'.heap=h2):Inv X pins σ H' s':=by
  subst hs
  refine I.call' (ch:=[]) os ⟨fun b o e n hb _=>bk b o (kb b o e n hb),fun b o e n hb _=>?_,fun b o e n _=>u.free b o e n (by simp),fun b o e _=>?_,u.tups,u.frzs,u.tbls⟩ (hok.kept bk) bare fun b z=>nomatch z
  · obtain ⟨sl1,e1⟩:=u.any e n (by simp)
    obtain ⟨_,o',eo,hnf⟩:=I.stack.mem hb
    rw [e] at eo
    cases eo
    obtain ⟨sl2,e2⟩:=sl b _ e1 hnf
    exact ⟨sl2,e2⟩
  · obtain ⟨o1,e1⟩:=u.there b o e (by simp)
    exact th b o1 e1
end
def tTry (n:Nat) (j:Nat) (tb:TS) (R:XK) (th:Addr→Obj→TS):TS:=fun D σ H=>tb D σ H∧∀ cls dct H' ea oe,R cls dct H'→H' ea=none→oe.cls=cls→oe.dict=dct→th ea oe {nx:=fun _ _=>False,rt:=D.rt} ((List.replicate n none).set j (some (.ref ea))) H'
theorem zhr {X:Cx} {body:List Stmt} {tb:TS} {R:XK} {th:Addr→Obj→TS} {x n:Str} {np hpos pos:Pos} {b₀:Stmt} {suite:List Stmt} {j:Nat} {CR:Addr} (hst:X.stack=X.env::X.outer) (hfr:X.env.frame=some X.env.locals)
    (hb:∀ pn xe,Passes (CXe X.prog X.w) (X.tried pn xe) R→PSs (X.tried pn xe) body tb)
    (hh:∀ pn ea oe,Hnd (X.caught pn ea) ea oe→PSs (X.caught pn ea) (b₀::suite) (th ea oe))
    (hR:∀ cls dct H',R cls dct H'→∃ C,cls=.ref C∧PySem.W.mroIn X.K C (.ref CR)=some true)
    (t1:PySem.W.typeIn X.K (.ref CR)=some (.type "type")) (c1:(PySem.W.clsIn X.K CR).isSome=true) (x1:PySem.W.mroIn X.K CR (.type "BaseException")=some true)
    (hg:Gl X x) (hm:X.mg x=some (.ref CR)) (hN:X.N.Nodup) (hj:X.N[j]?=some n) (hl:X.env.scope.names.lookup n=some .local) (hdb:(x==("__debug__":Str))=false:=by decide) :
    PS X (.Try body [.ExceptHandler (some (.Name x np)) (some n) (b₀::suite) hpos] [] [] pos) (tTry X.N.length j tb R th):=by
  rintro pins s σ H D I ⟨q1,q2⟩
  refine wpAny_Try_except ?_
  generalize hE:(fun (e:Value) (s₁:Shared)=>wpAny (model X.prog X.w) X.A (noteFrame e X.env) (fun _ s₂=>wpAny (model X.prog X.w) X.A (setFlight e none) (fun _ s₃=>wpAny (model X.prog X.w) X.A (handleBy e X.env [.ExceptHandler (some (.Name x np)) (some n) (b₀::suite) hpos]) (SP X pins D) X.xe s₃) X.xe s₂) X.xe s₁)=E1
  have pass:Passes (CXe X.prog X.w) (X.tried (X.pn++pins) E1) R:=by
    rintro pins' σ' H1 s1 e s2 I1 ⟨ea,cls,dct,H2,B,rfl,os,bare,u,hok,xa,kb,new,fr,r⟩
    show E1 _ _
    rw [← hE]
    have J1:Inv X pins σ' H1 s1:=Inv.untried I.ok I1
    have hfrm:=I.ok.frames
    rw [hst] at hfrm
    have xa0:XAt B (X.env::X.outer) ea cls dct (some .none) s2.heap:=by rw [← hst];exact xa
    refine zmj hfrm hfr xa0 fun h3 x3 sl3 th3=>zeq (s:={s2 with heap:=h3}) x3 fun h4 x4 sl4 th4=>?_
    obtain ⟨C,rfl,hsub⟩:=hR _ _ _ r
    have J4:Inv X pins σ' H2 {s2 with heap:=h4}:=J1.landed u kb x4.1 (sl3.trans sl4) (th3.trans th4) hok os bare rfl
    have J4c:Inv (X.caught (X.pn++pins++[]) ea) [] σ' H2 {s2 with heap:=h4}:=J4.caught fun p hp=>nomatch hp
    refine wpAny_handleBy_cons (codeAny_handlers_test (zax (X:=X.caught (X.pn++pins++[]) ea) J4c hg hm ?_ hdb)) (by intro z;cases z)
    obtain ⟨oe4,vs4,he4,hc4,_⟩:=x4.2.2.2
    refine ziw (K:=X.K) J4.kIn he4 hc4 t1 c1 x1 hsub ?_
    refine codeAny_handlers_suite_as ?_
    refine zeq (s:={s2 with heap:=h4}) x4 fun h5 x5 sl5 th5=>?_
    have J5:Inv X pins σ' H2 {s2 with heap:=h5}:=J1.landed u kb x5.1 ((sl3.trans sl4).trans sl5) ((th3.trans th4).trans th5) hok os bare rfl
    obtain ⟨oe,vs,he5,hc5,hd5,hdat,hctx,_⟩:=x5.2.2.2
    have hfrs:=zf6 hst hfr
    have nofr:∀ b∈frs X.stack,b≠ea:=fun b hb z=>by
      have hb':b∈frs (X.env::X.outer):=by rw [← hst];exact hb
      obtain ⟨_,o',eo,hnf⟩:=x5.2.2.1.mem hb'
      rw [z,he5] at eo
      cases eo
      exact hnf _ hdat
    have J5c:Inv (X.caught (X.pn++pins++[(ea,oe)]) ea) [] σ' H2 {s2 with heap:=h5}:=J5.caught fun p hp=>by
      have e:p=(ea,oe):=by simpa using hp
      subst e
      refine ⟨he5,fr,fun z=>nofr X.env.locals (by rw [hfrs];exact List.mem_cons_self ..) z.symm,fun z=>nofr _ (by rw [hfrs];exact List.mem_cons_of_mem _ z) rfl,fun v z=>?_⟩
      have z':oe.data=Data.cell v:=z
      rw [hdat] at z'
      cases z'
    have Hd:Hnd (X.caught (X.pn++pins++[(ea,oe)]) ea) ea oe:=⟨rfl,List.mem_append_right _ (List.mem_singleton.mpr rfl),vs,hdat,hctx⟩
    have J5n:Inv (X.caught (X.pn++pins++[(ea,oe)]) ea) [] (List.replicate X.N.length none) H2 {s2 with heap:=h5}:=J5c.weak (by rw [List.length_replicate];exact J5c.len.symm) fun i v e=>by
      rw [List.getElem?_replicate] at e
      split at e <;> cases e
    refine zdz (X:=X.caught (X.pn++pins++[(ea,oe)]) ea) J5n hN hj (.inl hl) (v:=.ref ea) rfl (fun s6 J6=>?_) (.inr hl)
    refine wpAny_mono (hh _ ea oe Hd [] s6 _ H2 _ J6 (q2 _ _ _ ea oe r fr hc5 hd5)) (fun f s7 h7=>?_) fun _ _ z=>False.elim z
    cases f with
    | ret v =>
      obtain ⟨v',σ7,H7,J7,rv,q7⟩:=h7
      obtain ⟨m7,hn7,_⟩:=J7.loc
      refine wpAny_nameGoes hl hn7 (by rw [I.ok.kind];rfl) fun h8 m8 hn8 sb8=>?_
      exact ⟨v',_,H7,(Inv.uncaught I.ok J7).forget hn8 sb8,rv,q7⟩
    | next=>obtain ⟨_,_,_,z⟩:=h7;exact False.elim z
    | brk=>obtain ⟨_,_,_,z⟩:=h7;exact False.elim z
    | cont=>obtain ⟨_,_,_,z⟩:=h7;exact False.elim z
  refine wpAny_mono (hb _ _ pass [] s σ H D I.tried q1) (fun f s1 h1=>?_) fun e s1 h1=>h1
  cases f with
  | next =>
    obtain ⟨σ1,H1,J1,q⟩:=h1
    exact wpAny_execs_nil ⟨σ1,H1,Inv.untried I.ok J1,q⟩
  | ret v =>
    obtain ⟨v',σ1,H1,J1,rv,q⟩:=h1
    exact ⟨v',σ1,H1,Inv.untried I.ok J1,rv,q⟩
  | brk =>
    obtain ⟨σ1,H1,J1,q⟩:=h1
    exact ⟨σ1,H1,Inv.untried I.ok J1,q⟩
  | cont =>
    obtain ⟨σ1,H1,J1,q⟩:=h1
    exact ⟨σ1,H1,Inv.untried I.ok J1,q⟩
end L2
set_option Elab.async false
set_option linter.all false
set_option maxRecDepth 100000
set_option maxHeartbeats 4000000
namespace L2
open PySem PySem.Spec PyProof.Rows
theorem cxNoE {P:Program} {w:World}:CxNo (CXe P w):=fun _ _ _ _ _ ⟨_,_,_,_,_,_,_,_,_,_,_,_,_,_,z⟩=>z
section
variable {X:Cx} {e st:Expr} {te:TE} {ts:TO} {pos p2:Pos}
def tRev (K:PySem.W.Frag) (te:TE) (ts:TO):TE:=fun σ H Q=>te σ H fun x H1=>ts σ H1 fun o H2=>o=some (-1)∧∃ a xs,x=.ref a∧SqL K H2 a xs∧∀ p,H2 p=none→Q (.ref p) (upd H2 p (.lst xs.reverse))
theorem zmn {ops:Value→Value→List Value} (he:PE X e te) (hu:PO X (some st) ts) (ho:∀ v u,subscripted (.Slice none none (some st) p2) false v u=operate (ops v u) (getItem v u)):PE X (.Subscript e (.Slice none none (some st) p2) pos) (tRev X.K te ts):=by
  intro pins s σ H Q I h
  refine Subscript_ (thn (he pins s σ H _ I h) fun v s1 ⟨x,H1,I1,r1,q1⟩=>?_)
  refine wpAny_Slice ?_
  rw [evalPart_none]
  refine wpAny_pure (wpAny_pure (thn (hu pins s1 σ H1 _ I1 q1) fun vu s3 ⟨u,H3,I3,pu,q3⟩=>?_))
  obtain ⟨rfl,a,xs,rfl,hx,q⟩:=q3
  cases r1
  have I4:Inv X pins σ H3 {s3 with heap:=s3.heap.push {cls:=.type "slice",data:=.fields #[.none,.none,vu]}}:=I3.kept (t':=s3.toks) fun b ob q=>Heap.get?_push_of_some _ q
  show wpAny (model X.prog X.w) X.A (subscriptTail e (.Slice none none (some st) p2) (.ref a) (.ref s3.heap.objs.size)) (EP X pins σ Q) X.xe {s3 with heap:=s3.heap.push {cls:=.type "slice",data:=.fields #[.none,.none,vu]}}
  obtain ⟨its,r,ht,hz⟩:=I4.list hx
  have hlen:=r.length
  refine tail_any (ops:=ops (.ref a) (.ref s3.heap.objs.size)) ht.isList.typeIs slot_list_getitem.lookup (wpAny_getItem_list_slice ht.isList (Heap.IsSliceOf.new ..) .none .none pu (by decide) ?_ (by rw [List.size_toArray] <;> omega)) (ho _ _)
  rw [PySem.W.krv_pick]
  refine ⟨.ref _,_,I4.laid (t':=s3.toks) (o:=.lst xs.reverse) (fun b ob q=>Heap.get?_push_of_some _ q) (Nat.le_refl _) ?_,rfl,q _ (I4.hok.fresh (Nat.le_refl _))⟩
  exact ⟨by rw [List.length_reverse];exact hz,_,0,r.reverse,Heap.get?_push_size _ rfl⟩
end
section
variable {CX:CXT} {P:Program} {w:World} {K:PySem.W.Frag} {mg:Str→Option Value} {base:Heap}
theorem Fun.okE {x qual:Str} {st:Stmt} {f:Addr} {fd:FuncData} {N ps:List Str} {k:Nat} {sp:Sp} (F:Fun K x qual st f fd) (S:FnScope N ps (defScope st)) (len:∀ vs H Q E,sp vs H Q E→vs.length=ps.length)
    (hbody:∀ (cdv:Value) (A:Around) (outer:List Env) (s:Shared) (H:Hp) (vs:List V) (Q:VK) (E:XK),Room k (A.deeper (envOfC qual (defScope st) s.heap.objs.size f cdv))→sp vs H Q E →
      ∃ t,PSs (cxOf CX P w K mg base N qual (defScope st) f cdv A outer s H E) (defBody st) t∧t {nx:=fun _ H'=>Q .non H',rt:=Q} (start N vs) H):FnOk P w K mg base CX (k+1) f fd ps sp:=by
  obtain ⟨oc,od,kV,doc,pm,an,cdv,ct,osl,rfl,lk,hcd⟩:=F.ex
  exact fn_of lk hcd S len fun A outer s H vs Q E hr hsp=>hbody cdv A outer s H vs Q E hr hsp
theorem Fun.okH {x qual:Str} {st:Stmt} {f:Addr} {fd:FuncData} {N ps:List Str} {k:Nat} {sp:Addr→Obj→Sp} (F:Fun K x qual st f fd) (S:FnScope N ps (defScope st)) (len:∀ h oe vs H Q E,sp h oe vs H Q E→vs.length=ps.length)
    (hbody:∀ (cdv:Value) (A:Around) (outer:List Env) (s:Shared) (H:Hp) (vs:List V) (Q:VK) (h:Addr) (oe:Obj),RoomH k (A.deeper (envOfC qual (defScope st) s.heap.objs.size f cdv))→Hnd (cxH P w K mg base N qual (defScope st) f cdv A outer s H h oe) h oe→sp h oe vs H Q Eno →
      ∃ t,PSs (cxH P w K mg base N qual (defScope st) f cdv A outer s H h oe) (defBody st) t∧t {nx:=fun _ H'=>Q .non H',rt:=Q} (start N vs) H):FnOkH P w K mg base (k+1) f fd ps sp:=by
  obtain ⟨oc,od,kV,doc,pm,an,cdv,ct,osl,rfl,lk,hcd⟩:=F.ex
  exact zqm lk hcd S len fun A outer s H vs Q h oe hr hd hsp=>hbody cdv A outer s H vs Q h oe hr hd hsp
theorem lv_of {N:List Str} {qual:Str} {scope:Scope} {f:Addr} {cd:Value} {A:Around} {outer:List Env} {s:Shared} {H:Hp} {E:XK}:Lv (cxOf (CXe P w) P w K mg base N qual scope f cd A outer s H E) E:=⟨rfl,rfl,rfl,rfl⟩
end
end L2
set_option Elab.async false
set_option linter.all false
set_option maxRecDepth 100000
set_option maxHeartbeats 4000000
namespace PySem.W
open PySem PySem.Spec PySem.Calls PyProof.Rows
section
variable {prog:Program} {w:World} {A:Around} {E:Value→Shared→Prop} {s:Shared} {K:Frag} {x D:Addr} {ox:Obj} {odo:Option Obj}
theorem zgp {tk:Tok} {f:Str} {v:Value} {Q:Fin→Shared→Prop} (hf:findObj K D odo f=some (.value v)) (X:K.In s.heap) (I:InstAt s.heap x ox D odo) (h:Q (.done (.ret v)) s):wpAny (model prog w) A (Builtin.«object.__getattribute__» ⟨[.ref x,.str f tk],[]⟩) Q E s:=by
  obtain ⟨hh,g,d,t,os⟩:=s
  have L0:=I.type (M:=model prog w)
  have L1:=looks_find (M:=model prog w) X I hf
  unfold Builtin.«object.__getattribute__»
  repeat (first | with_reducible refine Looks.at (by assumption) ?_ | wp_step)
  exact h
theorem zq3 {f:Str} {a:Addr} {Q:Value→Shared→Prop} (c:ExcCls K D) (hf:findObj K D odo f=some (.value (.ref a))) (X:K.In s.heap) (I:InstAt s.heap x ox D odo) (h:Q (.ref a) {s with toks:=s.toks+1}):wpAny (model prog w) A (getAttr (.ref x) f true) Q E s:=by
  obtain ⟨hh,g,d,t,os⟩:=s
  have L0:=I.type (M:=model prog w)
  have L1:=looks_findIn (M:=model prog w) X c.ga
  have L2:=looks_findIn (M:=model prog w) X c.hk
  unfold getAttr getAttrBy
  refine wpAny_bind (wpAny_mkText (wpAny_holding (wpAny_bind (L0.at (wpAny_bind (L1.at ?_))))))
  show wpAny _ _ (getAttrByItsOwn _ _ _ _ _ _) _ _ _
  unfold getAttrByItsOwn
  refine wpAny_bind (show wpAny _ _ (typeLookup (.ref D) "__getattr__") _ _ _ from L2.at ?_)
  refine wpAny_bind (wpAny_attempt (wpAny_holding ?_))
  show wpAny _ _ (boundAndCalled _ _ _) _ _ _
  unfold boundAndCalled
  refine wpAny_bind (wpAny_of_eq (F.attr_ValueError.ga.bind (.ref x)) ?_)
  refine wpAny_call (codeAny_call_builtin F.attr_ValueError.ga.plain F.entry_bexc_ga (zf7 (s:=⟨hh,g,d,t+1,os⟩) c X I (zgp (s:=⟨hh,g,d,t+1,os⟩) hf X I ?_)))
  repeat (first | lk | wp_step)
  exact h
end
end PySem.W
namespace L2
open PySem PySem.Spec PyProof.Rows
section
variable {X:Cx} {h:Addr} {oe:Obj}
theorem zbd (Hd:Hnd X h oe) {C dx:Addr} {c:V} {cv:Value} {b:Bool} (hc:oe.cls=.ref C) (hdd:oe.dict=some dx) (ec:PySem.W.ExcCls X.K C) (rc:RelV c cv) (hcv:∀ u,RelV c u→u=cv) (q:PySem.W.kitOne X.K (.ref C) cv=some b) :
    CallR X (.builtin "isinstance") (fun xs H Q=>xs=[.ref h,c]∧(∃ fs,H dx=some (.xd fs))∧Q (.bl b) H):=by
  rintro pins s σ H xs us Q I r ⟨rfl,⟨fs,hx⟩,hq⟩
  cases r with
  | cons r1 r2 =>
    cases r2 with
    | cons r3 r4 =>
      cases r4
      cases r1
      obtain rfl:=hcv _ r3
      obtain ⟨vs,hd,_⟩:=Hd.cx
      obtain ⟨mA,⟨od,es,ep,e,_⟩,_⟩:=I.hok dx _ hx
      have hI:PySem.W.InstAt s.heap h oe C (some od):=⟨(I.pin (h,oe) (List.mem_append_left _ Hd.pn)).1,hc,by unfold PySem.W.notCls;rw [hd],by rw [hdd];exact e⟩
      exact PySem.W.kia_one (PySem.W.zq1 ec) I.kIn hI q (fun z=>nomatch z) fun tk=>⟨.bl b,H,I.tok tk,rfl,hq⟩
theorem zn7 (Hd:Hnd X h oe) {C dx:Addr} {n f:Str} {te:TE} {e:Expr} {pos:Pos} (hc:oe.cls=.ref C) (hdd:oe.dict=some dx) (ec:PySem.W.ExcCls X.K C) (hh:PySem.W.hasDictIn X.K C=true) (hf:PySem.W.findIn X.K (.ref C) f=some none)
    (he:PE X e te) (hb:attributeBase e f X.env (eval e X.env)=eval e X.env):PE X (.Attribute e f pos) (fun σ H Q=>te σ H fun x H1=>x=.ref h∧∃ fs t,H1 dx=some (.xd fs)∧fs.lookup f=some (.ref t)∧Q (.ref t) H1):=by
  intro pins s σ H Q I hq
  refine zoz hb (thn (he pins s σ H _ I hq) fun v s1 ⟨x,H1,I1,rx,q⟩=>?_)
  obtain ⟨rfl,fs,t,hx,hl,q⟩:=q
  cases rx
  obtain ⟨vs,hd,_⟩:=Hd.cx
  obtain ⟨mA,hn,hr⟩:=I1.hok dx _ hx
  obtain ⟨od,es,ep,e1,e2,e3,e4,e5⟩:=id hn
  have hI:PySem.W.InstAt s1.heap h oe C (some od):=⟨(I1.pin (h,oe) (List.mem_append_left _ Hd.pn)).1,hc,by unfold PySem.W.notCls;rw [hd],by rw [hdd];exact e1⟩
  have hm:mA f=some (.ref t):=by
    have z:=hr f
    rw [hl] at z
    cases e:mA f with
    | none=>rw [e] at z;cases z
    | some u =>
      rw [e] at z
      have z:RelV (.ref t) u:=z
      cases z
      rfl
  have hlk:PySem.W.lookIn f od=some (some (.ref t)):=by
    rw [← e5 f] at hm
    unfold nsFind findBy at hm
    unfold PySem.W.lookIn
    rw [e2]
    obtain ⟨l⟩:=es
    rw [List.find?_toArray] at hm
    obtain ⟨x,h1,h2⟩:=Option.map_eq_some_iff.mp hm
    show (match l.find? (fun e=>e.key.isStr f) with | some e=>some (some e.val) | none=>_)=_
    rw [h1]
    exact congrArg (fun z=>some (some z)) h2
  exact PySem.W.zq3 ec (PySem.W.findObj_own hh hf rfl hlk) I1.kIn hI ⟨.ref t,H1,I1.tok _,rfl,q⟩
end
end L2
set_option Elab.async false
set_option linter.all false
set_option maxRecDepth 100000
set_option maxHeartbeats 4000000
namespace PySem
open PyProof.Rows
section
variable {prog:Program} {w:World} {A:Around} {E:Value→Shared→Prop} {h:Heap} {g:Array GenState} {d:Drawn} {t:Nat} {os:OsState}
variable {nm q:Str} {C N:Addr} {bs bm bmB:List Value} {hdct:Bool} {sn:List Str} {sub:List Value} {ab:Bool} {col:Option Bool} {dd:Option Addr} {k0 k1 k2 k3 k5:Option Value} {B newId initId:String}
abbrev excTup (r:List Value):Obj:={cls:=.type "tuple",data:=.seq r.toArray}
abbrev excBare (c t:Addr):Obj:={cls:=.ref c,data:=.fields #[.ref t,.none,.none,.none,.bool false,.none]}
theorem zhs (FB:ExcBaseFacts B newId initId bmB) (T:OwnTail h bmB bm) {mN:Str→Option Value} {r:List Value} {fI:Addr} {oI:Obj} {Q:Fin→Shared→Prop}
    (at_:h.get? C=some (excClassObj nm q C N bs bm hdct sn sub ab col dd k0 k1 k2 k3 k5 newId)) (nsC:h.Ns N mN) (own:mN "__init__"=some (.ref fI)) (fnAt:h.get? fI=some oI) (fnC:oI.cls=.type "function") (hz:r.length≤sizeLine)
    (k:∀ h1 e,h.objs.size≤e→Heap.MadeExcOf h h1 e (.ref C) r→wpAny (model prog w) A (call (.ref fI) (.ref e::r)) (fun v s1=>v=.none∧Q (.done (.ret (.ref e))) s1) E ⟨h1,g,d,t,os⟩) :
    wpAny (model prog w) A (Builtin.«type.__call__» ⟨.ref C::r,[]⟩) Q E ⟨h,g,d,t,os⟩:=by
  repeat (first
    | with_reducible refine wpAny_loadPart_at at_ ?_
    | with_reducible refine wpAny_madeBy_exc at_ ?_
    | wp_step)
  refine codeAny_call_builtin_code (Code.quiet_builtin _ FB.quiet) (wpAny_check_new_subT FB T at_ ?_)
  refine codeAny_exc_new_subT FB T at_ ?_ hz
  show wpAny _ _ _ _ _ _
  have up:∀ b o,h.get? b=some o→((h.push (excTup r)).push (excBare C h.objs.size)).get? b=some o:=fun b o e=>Heap.get?_push_of_some _ (Heap.get?_push_of_some _ e)
  have at1:=up _ _ at_
  have fn1:=up _ _ fnAt
  have ns1:=nsC.keeps up
  have T1:=T.keeps up
  have ex1:((h.push (excTup r)).push (excBare C h.objs.size)).get? (h.objs.size+1)=some (excBare C h.objs.size):=by heap_get
  have inC:(Value.ref C::bm).contains (.ref C)=true:=by simp
  unfold isInstance
  repeat (first
    | with_reducible refine wpAny_loadPart_at ex1 ?_
    | (with_reducible refine wpAny_isSubtype_exc at1 ?_;rw [inC])
    | wp_step)
  show wpAny _ _ (typeLookup (.ref C) _) _ _ _
  refine wpAny_typeLookup_tail at1 ns1 T1 FB.mroIs FB.init.lookup ?_
  rw [own]
  refine wpAny_holding (wpAny_bind ?_)
  unfold bindSpecial
  refine wpAny_bind (wpAny_typeOf (T:="function") ⟨_,fn1,fnC⟩ ?_)
  rw [if_pos (by decide)]
  refine wpAny_pure (wpAny_bind (wpAny_mono (k _ (h.objs.size+1) (Nat.le_succ _) ⟨up,Heap.get?_none_of_le (Nat.le_succ _),h.objs.size,ex1,Heap.get?_none_of_le (Nat.le_refl _),?_⟩) (fun v s1 hv=>?_) fun _ _ z=>z))
  · exact Heap.get?_push_of_some _ (Heap.get?_push_at rfl rfl)
  · obtain ⟨rfl,hQ⟩:=hv
    wp_walk
    exact hQ
theorem zht (FB:ExcBaseFacts B newId initId bmB) (T:OwnTail h bmB bm) {mN:Str→Option Value} {r:List Value} {fI:Addr} {oI:Obj} {Q:Value→Shared→Prop}
    (at_:h.get? C=some (excClassObj nm q C N bs bm hdct sn sub ab col dd k0 k1 k2 k3 k5 newId)) (nsC:h.Ns N mN) (own:mN "__init__"=some (.ref fI)) (fnAt:h.get? fI=some oI) (fnC:oI.cls=.type "function") (hz:r.length≤sizeLine)
    (k:∀ h1 e,h.objs.size≤e→Heap.MadeExcOf h h1 e (.ref C) r→wpAny (model prog w) (A.under (.builtin "type.__call__" ⟨.ref C::r,[]⟩)) (call (.ref fI) (.ref e::r)) (fun v s1=>v=.none∧Q (.ref e) s1) E ⟨h1,g,d,t,os⟩) :
    wpAny (model prog w) A (call (.ref C) r) Q E ⟨h,g,d,t,os⟩:=by
  have z1:=tc_lookup
  have z2:=tc_bind (.ref C)
  have z3:(⟨h,g,d,t,os⟩:Shared).TypeIs (.ref C) "type":=⟨_,at_,rfl⟩
  refine wpAny_call (codeAny_of_tree ?_)
  show wpAny _ _ (callAny (.ref C) _) _ _ _
  repeat (any_goals (first
    | assumption
    | with_reducible refine wpAny_loadPart_at at_ ?_
    | wp_step))
  refine ⟨rfl,?_⟩
  exact codeAny_call_builtin_at (Code.quiet_builtin _ (by decide +kernel)) entry_typeCall (wpAny_check_type_call_sub at_ (zhs FB T at_ nsC own fnAt fnC hz fun h1 e z m=>k h1 e z m))
end
end PySem
set_option Elab.async false
set_option linter.all false
set_option maxRecDepth 100000
set_option maxHeartbeats 4000000
namespace PySem.W
open PySem PySem.Spec PySem.Calls PyProof.Rows
section
variable {prog:Program} {w:World} {A:Around} {E:Value→Shared→Prop} {s:Shared} {K:Frag} {x C:Addr} {ox:Obj} {od:Option Obj} {cd:ClassData}
inductive OverV:List Value→Prop
  | base:OverV [.type "ValueError",.type "Exception",.type "BaseException",.type "object"]
  | own {a:Addr} {r:List Value}:OverV r→OverV (.ref a::r)
theorem OverV.obj {l:List Value} (o:OverV l):l.contains (.type "object")=true:=by
  induction o with
  | base=>decide
  | own _ ih=>rw [List.contains_cons,ih,Bool.or_true]
theorem OverV.passes {l:List Value} (o:OverV l) (self:Value):refuseLoop self "__setattr__" l=pure ():=by
  induction o with
  | base=>exact PySem.F.store_ValueError.passes self
  | own _ ih=>rw [refuseLoop_ref];exact ih
theorem OverV.ne {l:List Value} (o:OverV l):l.isEmpty=false:=by cases o <;> rfl
theorem zq0 {name:Str} {v:Value} {Q:Unit→Shared→Prop} (X:K.In s.heap) (I:InstAt s.heap x ox C none) (hd0:ox.dict=none) (hc:clsIn K C=some cd) (ho:OverV cd.mro) (hh:cd.hasDict=true)
    (hs:findIn K (.ref C) "__setattr__"=some (some (.builtin "object.__setattr__"))) (ht:findIn K (.ref C) name=some none)
    (k:∀ (h1:Heap) (D:Addr) (tk:Nat),s.heap.objs.size≤D→h1.Ns1 D (fun y=>if y=name then some v else none)→h1.get? x=some {ox with dict:=some D}→(∀ b o,b≠x→s.heap.get? b=some o→h1.get? b=some o)→Q () {s with heap:=h1,toks:=tk}) :
    wpAny (model prog w) A (setAttr (.ref x) name v) Q E s:=by
  refine set_plain X I hs ?_
  obtain ⟨hp,g,d,t,os⟩:=s
  dsimp only at *
  have SF:=PySem.F.store_object
  have sub:Looks (model prog w) hp (isInstance (.ref x) (.type "object")) true:=I.type.andThen (looks_mroIn X (by unfold mroIn;rw [hc,Option.bind_some,if_neg (by rw [ho.ne];decide),ho.obj]))
  refine codeAny_call_builtin SF.slot.plain SF.entry (@check_slot (model prog w) _ _ ⟨hp,g,d,t+1,os⟩ "object.__setattr__" "object" "__setattr__" (.ref x) [.str name t,v] [] _ SF.kind SF.split sub (SF.args (.ref x) (.str name t) v) ?_)
  have hm:Looks (model prog w) hp (mroOf (.ref C)) cd.mro:=(looks_clsIn X hc).andThen .now
  rw [osa_eq,refuse_eq]
  refine wpAny_bind (wpAny_bind (I.type.here (wpAny_bind (hm.here ?_))))
  rw [ho.passes]
  refine wpAny_pure (wpAny_bind (I.type.here (wpAny_bind ((looks_findIn X ht).here (wpAny_bind (wpAny_pure ?_))))))
  show wpAny _ _ (Builtin.ObjectAttr.storeInOwnDict _ _ _ _ _ _) _ _ _
  obtain ⟨hx,hcl,hn,-⟩:=I
  obtain ⟨oc,odi,oda,osl⟩:=ox
  dsimp only at hcl hd0
  subst hcl hd0
  refine wpAny_bind (wpAny_pure (wpAny_bind (wpAny_bind (wpAny_loadPart hx (wpAny_bind ((looks_clsIn X hc).here ?_))))))
  rw [hh,if_neg (by decide)]
  dsimp only
  rw [if_neg (by simp [typeHasDict])]
  split
  · rename_i c
    cases hn
  · have hx1:(hp.push {cls:=.type "dict",data:=.dict #[]}).get? x=some {cls:=.ref C,data:=oda,slots:=osl}:=Heap.get?_push_of_some _ hx
    have nxs:x≠hp.objs.size:=Nat.ne_of_lt (Heap.lt_size hx)
    refine wpAny_bind (wpAny_alloc' (wpAny_bind (wpAny_update' hx1 (wpAny_pure ?_))))
    have dAt:((hp.push {cls:=.type "dict",data:=.dict #[]}).update x fun o=>{cls:=o.cls,dict:=some hp.objs.size,data:=o.data,slots:=o.slots}).get? hp.objs.size=some {cls:=.type "dict",data:=.dict #[]} :=
      (Heap.get?_update_ne _ _ _ _ nxs.symm).trans (Heap.get?_push_at rfl rfl)
    have dNs:((hp.push {cls:=.type "dict",data:=.dict #[]}).update x fun o=>{cls:=o.cls,dict:=some hp.objs.size,data:=o.data,slots:=o.slots}).Ns hp.objs.size (fun _=>none):=⟨_,#[],_,dAt,rfl,fun e he=>absurd he (by simp),fun _=>rfl⟩
    show wpAny _ _ (Builtin.ObjectAttr.storeInDict hp.objs.size (.str name t) name v) _ _ _
    unfold Builtin.ObjectAttr.storeInDict Builtin.ObjectAttr.newKeyGuard
    refine wpAny_bind (wpAny_pure (wpAny_bind (wpAny_nsSet1 (Heap.Ns1.of_empty dNs) fun h1 n1 same=>?_)))
    obtain ⟨oD,esD,epD,a1,a2,a3⟩:=n1.count (Within.cons name v Within.nil)
    refine wpAny_bind (wpAny_lookBehind a1 (by rw [a2];exact pastItsLine_dict (Nat.le_trans a3 (by rw [List.length_cons,List.length_nil,sizeLine_eq];omega))) ?_)
    refine wpAny_pure ?_
    refine k h1 hp.objs.size _ (Nat.le_refl _) ?_ ?_ fun b o hb e=>?_
    · obtain ⟨o',es,ep,e1,e2,e3,eu,e4⟩:=n1
      exact ⟨o',es,ep,e1,e2,e3,eu,fun y=>by rw [e4 y]⟩
    · refine (same.2 x nxs).trans (Heap.get?_update_self _ hx1 ?_)
      have hfr:=(Heap.get?_some_iff.mp hx).2
      cases oda <;> first | rfl | exact hfr
    · exact (same.2 b (Nat.ne_of_lt (Heap.lt_size e))).trans ((Heap.get?_update_ne _ _ _ _ hb).trans (Heap.get?_push_of_some _ e))
end
end PySem.W
set_option Elab.async false
set_option linter.all false
set_option maxRecDepth 100000
set_option maxHeartbeats 4000000
namespace PySem
open PyProof.Rows
section
variable {prog:Program} {w:World} {A:Around} {E:Value→Shared→Prop} {h:Heap} {g:Array GenState} {d:Drawn} {t:Nat} {os:OsState}
variable {nm q:Str} {C N:Addr} {bs bm bmB:List Value} {hdct:Bool} {sn:List Str} {sub:List Value} {ab:Bool} {col:Option Bool} {dd:Option Addr} {k0 k1 k2 k3 k5:Option Value} {B newId initId:String}
theorem zfa (FB:ExcBaseFacts B newId initId bmB) (T:OwnTail h bmB bm) {e:Addr} {v:Value} {tp:Addr} {Q:Value→Shared→Prop}
    (at_:h.get? C=some (excClassObj nm q C N bs bm hdct sn sub ab col dd k0 k1 k2 k3 k5 newId)) (he:h.get? e=some (excBare C tp))
    (k:∀ h1 tp1,(∀ b o,b≠e→h.get? b=some o→h1.get? b=some o)→h1.get? e=some (excBare C tp1)→Q .none ⟨h1,g,d,t,os⟩) :
    wpAny (model prog w) A (call (.builtin initId) [.ref e,v]) Q E ⟨h,g,d,t,os⟩:=by
  refine wpAny_call (codeAny_call_builtin FB.init.plain FB.initEntry (wpAny_check_init_subT FB T at_ he rfl ?_))
  wp_walk
  refine k _ h.objs.size (fun b o nb e1=>(Heap.get?_update_ne _ _ _ _ nb).trans (Heap.get?_push_of_some _ e1)) ?_
  exact (Heap.get?_update_self _ (Heap.get?_push_of_some _ he) rfl)
end
end PySem
set_option Elab.async false
set_option linter.all false
set_option maxRecDepth 100000
set_option maxHeartbeats 4000000
namespace L2
open PySem PySem.Spec PyProof.Rows
theorem zdf:∀ n:Fin 10,(PyData.int (n.1:Int)).shown.length=1:=by decide +kernel
theorem zn8 {a b c d:Nat} (ha:a<10) (hb:b<10) (hc:c<10) (hd:d<10):(PyData.tuple [.int a,.int b,.int c,.int d]).shown.length≤12:=by
  have h1:=zdf ⟨a,ha⟩
  have h2:=zdf ⟨b,hb⟩
  have h3:=zdf ⟨c,hc⟩
  have h4:=zdf ⟨d,hd⟩
  rw [PyData.shown,PyData.shownAll,PyData.shownAll,PyData.shownAll,PyData.shownAll,PyData.shownAll]
  dsimp only at h1 h2 h3 h4
  generalize (PyData.int (a:Int)).shown=x1 at *
  generalize (PyData.int (b:Int)).shown=x2 at *
  generalize (PyData.int (c:Int)).shown=x3 at *
  generalize (PyData.int (d:Int)).shown=x4 at *
  have e:=join_length_add [x1,x2,x3,x4] (by simp)
  simp [piled] at e
  unfold tupleText
  rw [strLen_append,strLen_append]
  have e2:((if ([x1,x2,x3,x4]:List Str).length==1 then ",)" else ")":String):Str).length=1:=by rfl
  have e1:("(":Str).length=1:=by rfl
  rw [e2,e1]
  omega
theorem shb {a b c d:Nat} (ha:a<10) (hb:b<10) (hc:c<10) (hd:d<10):(PyData.tuple [.int (a:Int),.int b,.int c,.int d]).showable=true:=by
  have z:∀ n:Fin 10,(PyData.int (n.1:Int)).showable=true:=by decide +kernel
  rw [PyData.showable,PyData.showableAll,PyData.showableAll,PyData.showableAll,PyData.showableAll,PyData.showableAll,z ⟨a,ha⟩,z ⟨b,hb⟩,z ⟨c,hc⟩,z ⟨d,hd⟩]
  rfl
theorem nodc {a b c d:Int}:(PyData.tuple [.int a,.int b,.int c,.int d]).hasDict=false:=by
  simp [PyData.hasDict,PyData.hasDictAll]
theorem dpt {a b c d:Int}:(PyData.tuple [.int a,.int b,.int c,.int d]).depth=1:=by
  simp [PyData.depth,PyData.depthAll]
theorem fmt4 {prog:Program} {w:World} {A:Around} {E:Value→Shared→Prop} {s:Shared} {t:Addr} {o:Obj} {a b c d n:Nat} {t1 t2 t3 t4:Tok} {Q:Value→Shared→Prop} (hg:A.guards=some []) (hu:A.units+64<cLine)
    (h1:s.heap.get? t=some o) (h2:o.cls=.type "tuple") (h3:o.data=.seq #[.int a t1,.int b t2,.int c t3,.int d t4] n) (ha:a<10) (hb:b<10) (hc:c<10) (hd:d<10)
    (hQ:∀ (y:Str) h' u tk,y.length≤12→(∀ b o,s.heap.get? b=some o→h'.get? b=some o)→Q (.str y u) {s with heap:=h',toks:=tk}):wpAny (model prog w) A (formatField (.ref t) Str.empty) Q E s:=by
  have r:Reads s.heap (.ref t) (.tuple [.int a,.int b,.int c,.int d]) _:=.tuple h1 h2 h3 (.cons (.int _ _) (.cons (.int _ _) (.cons (.int _ _) (.cons (.int _ _) .nil))))
  have l:=zn8 ha hb hc hd
  exact formatField_of_reads r (shb ha hb hc hd) (fun z=>by rw [nodc] at z;cases z) hg (by rw [dpt];omega) (fun _ _ e=>e) (fun h' u tk hk=>hQ _ h' u tk l hk) (Nat.le_trans l (by decide))
section
variable {X:Cx}
theorem zn9 (hg:X.A.guards=some []) (hu:X.A.units+64<cLine) {x:Str} {j:Nat} {p1 p2 pos:Pos} {e:Expr} {te:TE} (hx:x.length≤1000) (he:PE X e te) :
    PE X (.JoinedStr [.Constant (.str x) j p1,.FormattedValue e (-1) none p2] pos) (fun σ H Q=>te σ H fun v H1=>∃ (t:Addr) (a b c d:Nat),v=.ref t∧H1 t=some (.tup [.int a,.int b,.int c,.int d])∧a<10∧b<10∧c<10∧d<10∧∀ y:Str,Q (.str y) H1):=by
  intro pins s σ H Q I hq
  have hz:(1100:Nat)≤sizeLine:=by decide
  have e0:(Str.empty++x).length=x.length:=by
    rw [strLen_append]
    exact Nat.zero_add _
  refine @JoinedStr_many (model X.prog X.w) X.A X.xe s X.env _ _ [] pos _ (@joinParts_cons (model X.prog X.w) X.A X.xe s Str.empty _ _ _ (Calls.Constant_str ⟨by rw [e0];omega,?_⟩))
  generalize hO:(Str.empty++x)=out at e0 ⊢
  refine @joinParts_cons (model X.prog X.w) X.A X.xe _ out _ _ _ (FormattedValue_plain ?_)
  refine thn (he pins _ σ H _ (I.tok _) hq) fun v s1 ⟨y,H1,I1,rv,t,a,b,c,d,ey,ht,ha,hb,hc,hd,q⟩=>?_
  subst ey
  cases rv
  obtain ⟨its,rv,⟨o,h1,h2,n,h3⟩,_⟩:=I1.tuple (SqT.of ht)
  obtain ⟨t1,t2,t3,t4,rfl⟩:∃ t1 t2 t3 t4,its=[.int a t1,.int b t2,.int c t3,.int d t4]:=by
    cases rv with
    | cons r1 rv =>
      cases rv with
      | cons r2 rv =>
        cases rv with
        | cons r3 rv =>
          cases rv with
          | cons r4 rv =>
            cases rv
            obtain ⟨t1,rfl⟩:=r1
            obtain ⟨t2,rfl⟩:=r2
            obtain ⟨t3,rfl⟩:=r3
            obtain ⟨t4,rfl⟩:=r4
            exact ⟨t1,t2,t3,t4,rfl⟩
  refine fmt4 hg hu h1 h2 h3 ha hb hc hd fun y h' u tk hl hk=>?_
  have e1:(out++y).length≤sizeLine:=by
    rw [strLen_append,e0]
    omega
  exact ⟨e1,@joinParts_nil (model X.prog X.w) X.A X.xe _ (out++y) _ ⟨.str (out++y),H1,(I1.kept (t':=tk) hk).tok _,⟨_,rfl⟩,q _⟩ e1⟩
end
end L2
set_option Elab.async false
set_option linter.all false
set_option maxRecDepth 100000
set_option maxHeartbeats 4000000
namespace L2
open PySem PySem.Spec PyProof.Rows
abbrev bmVE:List Value:=[.type "ValueError",.type "Exception",.type "BaseException",.type "object"]
def XBare (C e:Addr):HO:=.ext fun h=>∃ tp,h.get? e=some (excBare C tp)
def XWith (C e D:Addr):HO:=.ext fun h=>∃ tp,h.get? e=some {excBare C tp with dict:=some D}
theorem zhu {P:Program} {w:World} {H:Hp} {h:Heap} {C e tp:Addr} (he:h.get? e=some (excBare C tp)):ObjOk P w H h e (XBare C e):=by
  unfold XBare
  exact ⟨⟨tp,he⟩,⟨_,he⟩,fun h1 h2 ⟨tp,q⟩ k=>⟨tp,k _ q⟩⟩
theorem zoa {P:Program} {w:World} {H:Hp} {h:Heap} {C e D tp:Addr} (he:h.get? e=some {excBare C tp with dict:=some D}):ObjOk P w H h e (XWith C e D):=by
  unfold XWith
  exact ⟨⟨tp,he⟩,⟨_,he⟩,fun h1 h2 ⟨tp,q⟩ k=>⟨tp,k _ q⟩⟩
theorem zqn {H:Hp} {a:Addr} {o:HO} (h:H a=some o):upd H a o=H:=by
  funext b
  unfold upd
  split
  · rename_i z
    rw [z,h]
  · rfl
structure OwnI (C fI:Addr) (base:Heap):Prop where
  obj:∃ (tl:List Value) (N:Addr) (nm q:Str) (bs:List Value) (hdct:Bool) (sn:List Str) (sub:List Value) (ab:Bool) (col:Option Bool) (dd:Option Addr) (k0 k1 k2 k3 k5:Option Value) (mN:Str→Option Value),
    base.get? C=some (excClassObj nm q C N bs tl hdct sn sub ab col dd k0 k1 k2 k3 k5 "ValueError.__new__")∧base.Ns N mN∧mN "__init__"=some (.ref fI)∧OwnTail base bmVE tl
structure RInit (K:PySem.W.Frag) (R:Addr):Prop where
  ga:PySem.W.specialIn K (.ref R) "__getattribute__"=some (some (.builtin "type.__getattribute__"))
  rd:PySem.W.readsIn K R (.type "type")=true
  fc:PySem.W.findCls K (.ref R) (.type "type") "__init__"=some (.val (.builtin "ValueError.__init__"))
structure XSet (K:PySem.W.Frag) (C:Addr) (f:Str):Prop where
  cls:∃ cd,PySem.W.clsIn K C=some cd∧PySem.W.OverV cd.mro∧cd.hasDict=true
  sa:PySem.W.findIn K (.ref C) "__setattr__"=some (some (.builtin "object.__setattr__"))
  no:PySem.W.findIn K (.ref C) f=some none
section
variable {X:Cx} {pins:List (Addr × Obj)} {σ:St} {H:Hp} {s:Shared}
theorem zob {x:Str} {R C fI:Addr} {np apos pos:Pos} {e1 e2:Expr} {t:TA} {pl:Sem Bool} (RI:RInit X.K R) (O:OwnI C fI X.base) (hg:Gl X x) (hm:X.mg x=some (.ref R)) (ha:PA X (e1::e2::[]) t) (hdb:(x==("__debug__":Str))=false:=by decide)
    (he:starEach (e1::e2::[]) X.env=(false,eval e1 X.env)::starEach (e2::[]) X.env:=by rfl) (hpl:(backTo pos (starEach (e2::[]) X.env)).any (·.1)=false:=by rfl)
    (ht:eval (.Call (.Attribute (.Name x np) "__init__" apos) (e1::e2::[]) [] pos) X.env=(do
      let ov ← eval (.Name x np) X.env
      standAt apos.atName
      let (f,first) ← holding [ov] (getMethod ov "__init__" pl)
      callWith pos f first (backTo pos (starEach (e1::e2::[]) X.env)) (backToKw pos (keywordEach [] X.env))):=by rfl) :
    PE X (.Call (.Attribute (.Name x np) "__init__" apos) (e1::e2::[]) [] pos) (fun σ H Q=>t σ H fun vs H1=>∃ (e:Addr) (v:V),vs=[.ref e,v]∧H1 e=some (XBare C e)∧Q .non H1):=by
  intro pins s σ H Q I hq
  refine PySem.W.methodCall_KW (pl:=pl) (zax I hg hm ?_ hdb) ht
  refine PySem.W.method_cls I.kIn RI.ga (PySem.W.cls_value (mc:=.type "type") I.kIn RI.rd RI.fc rfl ?_)
  refine PyProof.Rows.callWith_builtin1 (thn (ha pos pins _ σ H _ (I.tok _) hq) fun us s1 ⟨vs,H1,I1,r1,e,v,ev,hx,q⟩=>?_) he hpl
  subst ev
  cases r1 with
  | cons ra rb =>
    cases rb with
    | cons rb rc =>
      cases rc
      cases ra
      obtain ⟨⟨tp,hx1⟩,_,_⟩:(∃ tp,s1.heap.get? e=some (excBare C tp))∧_∧_:=I1.hok e _ hx
      obtain ⟨tl,N,nm,qn,bs,hdct,sn,sub,ab,col,dd,k0,k1,k2,k3,k5,mN,hC,hN,hni,T⟩:=O.obj
      have hC1:=I1.bk _ _ hC
      have T1:=T.keeps I1.bk
      obtain ⟨hh,g,d,tk,os⟩:=s1
      refine zfa PySem.F.excBase_ValueError T1 hC1 hx1 fun h1 tp1 kk he1=>⟨.non,H1,?_,rfl,q⟩
      have J:=I1.write (x:=e) (e:=e) (o:=XBare C e) (h':=h1) (t':=tk) (by rw [hx];exact True.intro) (.inl rfl) (fun b u hb z=>kk b u hb z) ⟨_,he1⟩ (zhu he1)
      rw [zqn hx] at J
      exact J
theorem Inv.stored {e D C:Addr} {h1:Heap} {t':Nat} {f:Str} {y:V} {u:Value} (I:Inv X pins σ H s) (he:H e=some (XBare C e)) (hD:s.heap.objs.size≤D) (hn:h1.Ns1 D (fun z=>if z=f then some u else none)) (ry:RelV y u)
    (ho:∃ tp,h1.get? e=some {excBare C tp with dict:=some D}) (k:∀ b o,b≠e→s.heap.get? b=some o→h1.get? b=some o) :
    Inv X pins σ (upd (upd H e (XWith C e D)) D (.xd [(f,y)])) {s with heap:=h1,toks:=t'}:=by
  have hDn:H D=none:=I.hok.fresh hD
  have hne:D≠e:=fun z=>by rw [z,he] at hDn;cases hDn
  have at2:∀ b,b≠e→b≠D→upd (upd H e (XWith C e D)) D (.xd [(f,y)]) b=H b:=fun b h1 h2=>by rw [zi h2,zi h1]
  have ne1:∀ b o,H b=some o→o≠XBare C e→b≠e:=fun b o q z w=>by rw [w,he] at q;cases q;exact z rfl
  have ne2:∀ b o,H b=some o→b≠D:=fun b o q w=>by rw [w,hDn] at q;cases q
  have ne0:∀ b,H b=none→b≠e:=fun b q w=>by rw [w,he] at q;cases q
  obtain ⟨tp,hx⟩:=ho
  refine I.un ⟨fun b o q n _ _=>k b o (ne0 b n) q,fun b o q n _ _=>⟨o.slots,k b o (ne0 b n) q⟩,fun b o q n _=>?_,fun b o q _=>?_,fun b xs q=>?_,fun b o xs q=>?_,fun b ps q=>⟨#[],?_⟩⟩ fun b o q=>?_
  · rw [at2 b (ne0 b n) (Nat.ne_of_lt (Nat.lt_of_lt_of_le (Heap.lt_size q) hD))];exact n
  · by_cases z:b=e
    · subst z;exact ⟨_,hx⟩
    · exact ⟨o,k b o z q⟩
  · rw [at2 b (ne1 b _ q (by unfold XBare;intro z;cases z)) (ne2 b _ q)];exact q
  · rw [at2 b (ne1 b _ q (by unfold XBare;intro z;cases z)) (ne2 b _ q)];exact q
  · rw [at2 b (ne1 b _ q (by unfold XBare;intro z;cases z)) (ne2 b _ q),q];simp
  · by_cases z:b=D
    · subst z
      rw [ze] at q
      cases q
      refine ⟨_,hn,fun g=>?_⟩
      show RelO (([(f,y)]:List (Str × V)).lookup g) (if g=f then some u else none)
      by_cases w:g=f
      · subst w
        rw [if_pos rfl,List.lookup_cons_self]
        exact ry
      · rw [if_neg w]
        have e1:([(f,y)]:List (Str × V)).lookup g=none:=by
          rw [List.lookup_cons]
          have:(g==f)=false:=by simpa using w
          rw [this]
          rfl
        rw [e1]
        exact True.intro
    · by_cases w:b=e
      · subst w
        rw [zi z,ze] at q
        cases q
        exact zoa hx
      · rw [at2 b w z] at q
        refine (I.hok b o q).stay (fun c v hc r=>k c v ?_ r) (fun c r=>?_) fun c xs r=>?_
        · rcases hc with rfl | hc
          · exact w
          · exact ne1 c _ hc (by unfold XBare;intro z;cases z)
        · rw [at2 c (ne1 c _ r (by unfold XBare;intro z;cases z)) (ne2 c _ r)];exact r
        · rw [at2 c (ne1 c _ r (by unfold XBare;intro z;cases z)) (ne2 c _ r)];exact r
theorem zpl {o value:Expr} {f:Str} {pos pos':Pos} {ta tv:TE} {C:Addr} (S:XSet X.K C f) (ha:PE X o ta) (hv:PE X value tv) (hs:swapsWith value (some (.Attribute o f pos')) pos.line X.env=pure false) :
    PS X (.Assign [.Attribute o f pos'] value pos) (fun D σ H=>tv σ H fun y H1=>ta σ H1 fun x H2=>∃ e,x=.ref e∧H2 e=some (XBare C e)∧∀ Dd,H2 Dd=none→Dd≠e→D.nx σ (upd (upd H2 e (XWith C e Dd)) Dd (.xd [(f,y)]))):=by
  intro pins s σ H D I h
  refine plainObj_wpAny_Assign_Attribute (thn (hv pins s σ H _ I h) fun u s1 ⟨y,H1,I1,ry,q⟩=>thn (ha pins s1 σ H1 _ I1 q) fun ov s2 ⟨x,H2,I2,rx,e,ex,hx,q2⟩=>?_) hs
  subst ex
  obtain rfl:ov=Value.ref e:=rx
  obtain ⟨⟨tp,hx1⟩,_,_⟩:(∃ tp,s2.heap.get? e=some (excBare C tp))∧_∧_:=I2.hok e _ hx
  obtain ⟨cd,hc,ho,hd⟩:=S.cls
  refine PySem.W.zq0 I2.kIn ⟨hx1,rfl,rfl,True.intro⟩ rfl hc ho hd S.sa S.no fun h1 Dd tk hD hn he k=>?_
  have hDn:H2 Dd=none:=I2.hok.fresh hD
  exact ⟨σ,_,I2.stored (t':=tk) hx hD hn ry ⟨tp,he⟩ k,q2 Dd hDn fun z=>by rw [z,hx] at hDn;cases hDn⟩
end
end L2
set_option Elab.async false
set_option linter.all false
set_option maxRecDepth 100000
set_option maxHeartbeats 4000000
namespace PySem
open PyProof.Rows
section
variable {M:Model} {A:Around} {E:Value→Shared→Prop} {env:Env}
variable {nm q:Str} {C N:Addr} {bs bm:List Value} {hdct:Bool} {sn:List Str} {sub:List Value} {ab:Bool} {col:Option Bool} {dd:Option Addr} {k0 k1 k2 k3 k5:Option Value} {newId:String}
theorem zix {s:Shared} {x:Sem Value} {Q:Flow→Shared→Prop} (hb:bm.contains (.type "BaseException")=true) (hn:A.handled=none)
    (h:wpAny M A x (fun v s1=>∃ e t dct,v=.ref e∧s1.heap.get? C=some (excClassObj nm q C N bs bm hdct sn sub ab col dd k0 k1 k2 k3 k5 newId)∧s1.heap.get? e=some {excBare C t with dict:=dct}∧E (.ref e) s1) E s) :
    wpAny M A (raiseStmt env (some x) none) Q E s:=by
  have hin:(Value.ref C::bm).contains (.type "BaseException")=true:=by rw [List.contains_cons,hb,Bool.or_true]
  unfold raiseStmt
  refine wpAny_bind (wpAny_mono h (fun v s1 h1=>?_) fun _ _ z=>z)
  obtain ⟨e,t,dct,rfl,hC,he,hE⟩:=h1
  obtain ⟨hp,g,d,tk,os⟩:=s1
  repeat (first
    | with_reducible refine wpAny_loadPart_at he ?_
    | with_reducible refine wpAny_loadPart_at hC ?_
    | (with_reducible refine wpAny_isSubtype_exc hC ?_;rw [hin])
    | wp_step)
  exact wpAny_raiseNew_none hn hE
end
end PySem
namespace L2
open PySem PySem.Spec PyProof.Rows
section
variable {X:Cx} {pins:List (Addr × Obj)} {σ:St} {H H':Hp} {s:Shared} {h1 h2 B:Heap} {E:XK}
def drp (H:Hp) (e:Addr):Hp:=fun b=>if b=e then none else H b
theorem zd9 {H:Hp} {e:Addr}:drp H e e=none:=by unfold drp;rw [if_pos rfl]
theorem zbe {H:Hp} {e b:Addr} (h:b≠e):drp H e b=H b:=by unfold drp;rw [if_neg h]
theorem zcs {H:Hp} {e b:Addr} (h:H b=none):drp H e b=none:=by unfold drp;split <;> first | rfl | exact h
theorem Inv.drop {e:Addr} {φ:Heap→Prop} (I:Inv X pins σ H s) (he:H e=some (.ext φ)):Inv X pins σ (drp H e) s:=by
  have ne:∀ b o,H b=some o→(∀ ψ,o≠.ext ψ)→b≠e:=fun b o q z w=>by rw [w,he] at q;cases q;exact z _ rfl
  refine ⟨I.ok,I.os,I.bare,⟨I.base.keep,I.base.slot,fun b o q n hx=>zcs (I.base.free b o q n hx),I.base.there,fun b xs q=>?_,fun b o xs q=>?_,fun b ps q=>?_⟩,I.loc,I.cell,zcs I.free,fun x c q=>zcs (I.freeC x c q),
    fun p hp=>?_,fun b o q=>?_,I.len⟩
  · have z:=I.base.tups b xs q
    rw [zbe (ne b _ z fun ψ w=>by cases w)];exact z
  · have z:=I.base.frzs b o xs q
    rw [zbe (ne b _ z fun ψ w=>by cases w)];exact z
  · obtain ⟨m,z⟩:=I.base.tbls b ps q
    exact ⟨m,by rw [zbe (ne b _ z fun ψ w=>by cases w)];exact z⟩
  · obtain ⟨a,b,c,d,f⟩:=I.pin p hp
    exact ⟨a,zcs b,c,d,f⟩
  · have z:b≠e:=fun z=>by rw [z,zd9] at q;cases q
    rw [zbe z] at q
    exact (I.hok b o q).stay (fun _ _ _ r=>r) (fun c r=>by rw [zbe (ne c _ r fun ψ w=>by cases w)];exact r) fun c xs r=>by rw [zbe (ne c _ r fun ψ w=>by cases w)];exact r
theorem zmo {e:Addr} (I:Inv X pins σ H s) (hex:X.ex=[]) (ne:X.s₀.heap.get? e=none) (kb:∀ b o,b≠e→s.heap.get? b=some o→H b=none→b ∉ frs X.stack→B.get? b=some o) (bk:B.StaysIn h2) (sl:s.heap.UpToSlots h2) (th:Thr s.heap h2) :
    Un X.fs [] X.H₀ H X.s₀.heap h2:=by
  have nx:∀ b:Addr,b ∉ X.ex:=fun b z=>by rw [hex] at z;cases z
  have nb:∀ b o,X.s₀.heap.get? b=some o→b≠e:=fun b o q z=>by rw [z,ne] at q;cases q
  refine ⟨fun b o q n hb _=>?_,fun b o q n hb _=>?_,fun b o q n _=>I.base.free b o q n (nx b),fun b o q _=>?_,I.base.tups,I.base.frzs,I.base.tbls⟩
  · refine bk b o (kb b o (nb b o q) (I.base.keep b o q n hb (nx b)) (I.base.free b o q n (nx b)) fun z=>?_)
    rcases List.mem_cons.mp (I.stkSub b z) with y | y
    · exact absurd (Nat.lt_of_lt_of_le (Heap.lt_size q) I.ok.above) (by rw [y];exact Nat.lt_irrefl _)
    · exact hb y
  · obtain ⟨sl1,e1⟩:=I.base.slot b o q n hb (nx b)
    obtain ⟨_,o',eo,hn⟩:=I.ok.funs.mem hb
    rw [q] at eo
    cases eo
    obtain ⟨sl3,e3⟩:=sl b _ e1 hn
    exact ⟨sl3,e3⟩
  · obtain ⟨o1,e1⟩:=I.base.there b o q (nx b)
    exact th b o1 e1
theorem zhv {e C D tp:Addr} {φ:Heap→Prop} (L:Lv X E) (J:Inv X pins σ H s) (he:H e=some (.ext φ)) (ho:s.heap.get? e=some {excBare C tp with dict:=some D}) (new:X.s₀.heap.get? e=none) (q:E (.ref C) (some D) (drp H e)):X.xe (.ref e) s:=by
  rw [L.xe]
  have I:=J.drop he
  have hfr:=I.ok.frames
  have hstk:=I.stack
  rw [L.st] at hfr hstk
  have hin:∀ env∈X.env::X.outer,∀ a,env.frame=some a→a∈e::frs X.stack:=fun env hm a ha=>by
    rw [L.st]
    exact List.mem_cons_of_mem _ (List.mem_filterMap.mpr ⟨env,hm,ha⟩)
  have en:(PySem.W.hideAll s.heap (e::frs X.stack)).get? e=none:=PySem.W.hideAll_none _ (List.mem_cons_self ..)
  have xa:XAt (PySem.W.hideAll s.heap (e::frs X.stack)) (X.env::X.outer) e (.ref C) (some D) none s.heap :=
    ⟨fun b o r=>PySem.W.of_hideAll _ r,en,PySem.W.funFrames_hide hstk hin,_,_,ho,rfl,rfl,rfl,rfl,rfl⟩
  have kb:∀ b o,b≠e→s.heap.get? b=some o→drp H e b=none→b ∉ frs X.stack→(PySem.W.hideAll s.heap (e::frs X.stack)).get? b=some o:=fun b o z r _ hb=>PySem.W.hideAll_get _ r fun w=>(List.mem_cons.mp w).elim z hb
  refine zcx hfr L.fr xa fun h2 x2 sl th=>?_
  refine ⟨e,.ref C,some D,drp H e,_,rfl,I.os,I.bare,zmo I L.ex new kb x2.1 sl th,zd7 I.hok fun b hb=>?_,x2,fun b o r n hb=>?_,new,zd9,q⟩
  · rcases List.mem_cons.mp hb with z | z
    · rw [z];exact zd9
    · exact I.stkFree b z
  · have nx:b ∉ X.ex:=fun z=>by rw [L.ex] at z;cases z
    refine kb b o (fun z=>by rw [z,new] at r;cases r) (I.base.keep b o r n hb nx) (I.base.free b o r n nx) fun z=>?_
    rcases List.mem_cons.mp (I.stkSub b z) with y | y
    · exact absurd (Nat.lt_of_lt_of_le (Heap.lt_size r) I.ok.above) (by rw [y];exact Nat.lt_irrefl _)
    · exact hb y
def spXInit (C:Addr) (f:Str):Sp:=fun vs H Q _=>∃ (e t:Addr) (a b c d:Nat),vs=[.ref e,.ref t]∧H e=some (XBare C e)∧H t=some (.tup [.int a,.int b,.int c,.int d])∧a<10∧b<10∧c<10∧d<10 ∧
  ∀ D,H D=none→D≠e→Q .non (upd (upd H e (XWith C e D)) D (.xd [(f,.ref t)]))
def tRaiseI (E:XK) (C:Addr) (f:Str) (t:TA):TS:=fun _ σ H=>t σ H fun vs H1=>∃ (p:Addr) (a b c d:Nat),vs=[.ref p]∧H1 p=some (.tup [.int a,.int b,.int c,.int d])∧a<10∧b<10∧c<10∧d<10 ∧
  ∀ D H2,Same H1 H2→H2 D=some (.xd [(f,.ref p)])→E (.ref C) (some D) H2
theorem zmp {x f:Str} {C fI:Addr} {fd:FuncData} {ps:List Str} {k:Nat} {oI:Obj} {np cpos pos:Pos} {e₀:Expr} {t:TA} (L:Lv X E) (hc:X.calm=true) (O:OwnI C fI X.base) (hm:X.mg x=some (.ref C)) (hg:Gl X x)
    (hI:X.K.lookup fI=some oI) (hIc:oI.cls=.type "function") (F:FnOk X.prog X.w X.K X.mg X.base (CXe X.prog X.w) k fI fd ps (spXInit C f)) (hbd:Binds X.K fd ps []) (hr:Room (k+1) X.A)
    (ha:PA X (e₀::[]) t) (hd:(x==("__debug__":Str))=false:=by decide) (he:starEach (e₀::[]) X.env=(false,eval e₀ X.env)::starEach [] X.env:=by rfl) :
    PS X (.Raise (some (.Call (.Name x np) (e₀::[]) [] cpos)) none pos) (tRaiseI E C f t):=by
  intro pins s σ H D I h
  obtain ⟨tl,N,nm,qn,bs,hdct,sn,sub,ab,col,dd,k0,k1,k2,k3,k5,mN,hC,hN,hni,T⟩:=O.obj
  have FB:=PySem.F.excBase_ValueError
  rw [arm_exec_Raise]
  refine wpAny_bind (wpAny_standAt (zix (C:=C) (nm:=nm) (q:=qn) (N:=N) (bs:=bs) (bm:=tl) (hdct:=hdct) (sn:=sn) (sub:=sub) (ab:=ab) (col:=col) (dd:=dd) (k0:=k0) (k1:=k1) (k2:=k2) (k3:=k3) (k5:=k5) (newId:="ValueError.__new__") (T.hasType FB.hasBase) (I.ok.hd hc) ?_))
  refine wpAny_bind (wpAny_mono (wpAny_Call_ofName (zax I hg hm ?_ hd)) (fun v s3 h3=>wpAny_bind (wpAny_standAt (wpAny_pure h3))) fun _ _ z=>z)
  have hx:=ha cpos pins s σ H _ I h
  have hpl:(backTo cpos (starEach (e₀::[]) X.env)).any (·.1)=false:=by rw [he];rfl
  unfold callWith
  refine wpAny_bind (wpAny_holding ?_)
  rw [he] at hx ⊢
  refine Calls.evalArgs_plain (thn hx fun us s1 ⟨vs,H1,I1,r,p,a,b,c,d,ev,hp,a1,a2,a3,a4,q⟩=>?_)
  subst ev
  cases r with
  | cons r1 r2 =>
    cases r2
    cases r1
    refine wpAny_bind (wpAny_standAt ?_)
    have hC1:=I1.bk _ _ hC
    have hN1:=hN.keeps I1.bk
    have T1:=T.keeps I1.bk
    have hI1:=I1.kIn _ _ hI
    obtain ⟨hp1,g,dr,tk,os⟩:=s1
    refine wpAny_bind (wpAny_keeperOf_exc hC1 ?_)
    refine wpAny_bind (zht FB T1 hC1 hN1 hni hI1 hIc (show [Value.ref p].length≤sizeLine from by show 1≤sizeLine;decide) fun h2 e hze m=>?_)
    obtain ⟨tp,het,_,_⟩:=m.there
    have hne:H1 e=none:=I1.hok.fresh hze
    have I2:Inv X pins σ (upd H1 e (XBare C e)) ⟨h2,g,dr,tk,os⟩:=I1.laid (t':=tk) (fun b u z=>m.keeps b u z) hze (zhu het)
    have hsp:spXInit C f [.ref e,.ref p] (upd H1 e (XBare C e)) (fun v H3=>v=.non∧∃ D,H1 D=none∧D≠e∧H3=upd (upd (upd H1 e (XBare C e)) e (XWith C e D)) D (.xd [(f,.ref p)])) (fun _ _ _=>False):=by
      refine ⟨e,p,a,b,c,d,rfl,ze,?_,a1,a2,a3,a4,fun D hD hDe=>⟨rfl,D,?_,hDe,rfl⟩⟩
      · rw [zi (fun z=>by rw [z,hne] at hp;cases hp)];exact hp
      · rw [zi hDe] at hD;exact hD
    have hl:=F.len _ _ _ _ hsp
    have r2:Vals [V.ref e,V.ref p] [Value.ref e,Value.ref p]:=.cons rfl (.cons rfl .nil)
    have hb1:=hbd ⟨h2,g,dr,tk,os⟩ [.ref e,.ref p] I2.kIn hl
    rw [List.append_nil] at hb1
    refine wpAny_call (codeAny_mono (F.run _ X.stack _ _ ⟨[.ref e,.ref p],[]⟩ [.ref e,.ref p] _ _ _ (hr.make C [.ref p] []) (I2.env0.make C [.ref p] []) hb1 r2 hsp) fun rr s' hq=>?_)
    cases rr with
    | error z=>exact False.elim (cxNoE _ _ _ _ _ hq)
    | ok fl =>
      cases fl with
      | next=>exact False.elim hq
      | brk=>exact False.elim hq
      | cont=>exact False.elim hq
      | ret u =>
        obtain ⟨v,H3,J,rv,⟨ev,D,hD,hDe,eH⟩⟩:=I2.after hq
        subst ev
        have h3e:H3 e=some (XWith C e D):=by rw [eH,zi (Ne.symm hDe),ze]
        obtain ⟨⟨tp3,ho3⟩,_,_⟩:(∃ tp,s'.heap.get? e=some {excBare C tp with dict:=some D})∧_∧_:=J.hok e _ h3e
        refine ⟨rv,wpAny_bind (wpAny_holding (wpAny_point (wpAny_pure ⟨e,tp3,some D,rfl,J.bk _ _ hC,ho3,?_⟩)))⟩
        refine zhv L J h3e ho3 ?_ (q D (drp H3 e) (fun b o z=>?_) ?_)
        · cases z:X.s₀.heap.get? e with
          | none=>rfl
          | some o =>
            obtain ⟨o',z'⟩:=I1.base.there e o z (by rw [L.ex];simp)
            have z':hp1.get? e=some o':=z'
            have nw:hp1.get? e=none:=m.new
            rw [nw] at z'
            cases z'
        · have n1:b≠e:=fun w=>by rw [w,hne] at z;cases z
          have n2:b≠D:=fun w=>by rw [w,hD] at z;cases z
          rw [zbe n1,eH,zi n2,zi n1,zi n1];exact z
        · rw [zbe hDe,eH,ze]
end
end L2
set_option Elab.async false
set_option linter.all false
set_option maxRecDepth 100000
set_option maxHeartbeats 4000000
namespace L2
open PySem PySem.SeqAt PySem.MeetsSeq PySem.MeetsSeq2 PySem.MeetsSeq3 PySem.SeqRoads2
open PySem.AutoSeq1 (wpAny_loadPart')
section
variable {X:Cx}
end
end L2
set_option Elab.async false
set_option linter.all false
set_option maxRecDepth 100000
set_option maxHeartbeats 4000000
namespace L2
open PySem PySem.Spec PyProof.Rows
section
variable {prog:Program} {w:World} {A:Around} {R:Result→Shared→Prop} {s:Shared}
theorem zgq {elt target iter tst:Expr} {scope:Scope} {pos:Pos} {it acc:Value} {env:Env} (I:Nat→Shared→Prop)
    (turn:∀ n s,I n s→wpAny (model prog w) A (pyNext it) (fun r s₁=>match r with
      | none=>R (.ok .next) s₁
      | some v=>wpAny (model prog w) A (letOwnedTupleGo target it v) (fun _ s₀=>wpAny (model prog w) A (assign target env v) (fun _ s₂=>wpAny (model prog w) A (isTrue tst env (eval tst env)) (fun ok s₂' =>
          if ok=true then wpAny (model prog w) A (eval elt env) (fun x s₃ =>
            wpAny (model prog w) A (call (.builtin "list.append") [acc,x]) (fun _ s₄=>∃ m,m<n∧I m s₄) (notedBy (model prog w) A env fun e s'=>R (.error e) s') s₃) (notedBy (model prog w) A env fun e s'=>R (.error e) s') s₂'
          else ∃ m,m<n∧I m s₂')
          (notedBy (model prog w) A env fun e s'=>R (.error e) s') s₂) (notedBy (model prog w) A env fun e s'=>R (.error e) s') s₀) (notedBy (model prog w) A env fun e s'=>R (.error e) s') s₁) (notedBy (model prog w) A env fun e s'=>R (.error e) s') s)
    (n:Nat) (h:I n s) :
    codeAny (model prog w) A (.compLoop (.ListComp elt [⟨target,iter,[tst],0⟩] scope pos) 0 it acc env) R s:=by
  refine codeAny_loop rfl I (fun n s hI=>?_) n h
  show wpAny _ _ ((compTurn (.ListComp elt [⟨target,iter,[tst],0⟩] scope pos) 0 it acc env).onRaise (fun x=>do noteFrame x env;theTreesLotGoes x)) _ _ s
  refine wpAny_noted ?_
  rw [compTurn_list]
  refine wpAny_bind (wpAny_standAt (wpAny_bind (wpAny_mono (turn n s hI) (fun r s₁ h₁=>?_) fun _ _ h'=>h')))
  cases r with
  | none=>exact wpAny_pure h₁
  | some v =>
    refine wpAny_bind (wpAny_mono h₁ (fun _ s₀ h₀=>?_) fun _ _ h'=>h')
    refine wpAny_bind (wpAny_mono h₀ (fun _ s₂ h₂=>?_) fun _ _ h'=>h')
    refine wpAny_bind (wpAny_tests_one (wpAny_mono h₂ (fun ok s₃ h₃=>?_) fun _ _ h'=>h'))
    cases ok with
    | false=>exact wpAny_pure ⟨rfl,h₃⟩
    | true =>
      rw [if_pos rfl] at h₃
      exact wpAny_bind (wpAny_bind (wpAny_mono h₃ (fun x s₄ h₄=>wpAny_bind (wpAny_mono h₄ (fun _ s₅ h₅=>wpAny_pure (wpAny_pure ⟨rfl,h₅⟩)) fun _ _ h'=>h')) fun _ _ h'=>h'))
end
section
variable {X:Cx} {pins:List (Addr × Obj)} {σ:St} {H:Hp} {s:Shared} {scope:Scope} {cl:List (Str × Addr)} {C:Addr} {N:List Str} {js:List (Option Nat)} {fp:List Addr}
def CWf (J:It) (g:TG) (tt:TT) (te:TE) (p:Addr) (τ0:St) (H1:Hp) (Q:VK):Prop :=
  ∃ W:Nat→Nat→List V→St→Hp→Prop,(∃ m,W 0 m [] τ0 (upd H1 p (.lst [])))∧∀ i m ys τ H2,W i m ys τ H2 →
    (J.stop i H2∧Q (.ref p) H2)∨(J.go i H2∧∀ x H3,J.yld i H2 x H3→g x τ H3 fun τ4 H4=>tt τ4 H4 fun ok H4'=>if ok=true then te τ4 H4' fun y H5=>H5 p=some (.lst ys)∧ys.length<sizeLine∧∃ m',m'<m∧W (i+1) m' (ys++[y]) τ4 (upd H5 p (.lst (ys++[y]))) else ∃ m',m'<m∧W (i+1) m' ys τ4 H4')
def tCompF (js:List (Option Nat)) (wi:TI) (g:TG) (tt:TT) (te:TE):TE:=fun σ H Q=>wi σ H fun J H1=>∀ p,H1 p=none→CWf J g tt te p (frOf js σ) H1 Q
theorem zkq {elt target iter tst:Expr} {pos pos':Pos} {wi:TI} {g:TG} {tt:TT} {te:TE} (hc:X.calm=true) (S:CpScope X scope N js) (hi:PI X target iter wi)
    (hg:∀ cl C s H fp,PG (cxC X scope cl C N s H fp) target g) (ht:∀ cl C s H fp,PT (cxC X scope cl C N s H fp) tst tt) (he:∀ cl C s H fp,PE (cxC X scope cl C N s H fp) elt te) (hs:∀ x,foldedSetIterable iter X.env x=pure x)
    {use:Option (Value→Sem Unit)} {QQ:Value→Shared→Prop} {Q:VK} (I:Inv X pins σ H s) (h:tCompF js wi g tt te σ H Q)
    (hfin:∀ (p C:Addr) (H':Hp) (s':Shared) (m:Str→Option Value),Inv X pins σ H' s'→Q (.ref p) H'→FpOk X pins H' C→s'.heap.Ns C m→compPost (model X.prog X.w) X.A X.xe use QQ (.ref p) C (.ok .next) s') :
    wpAny (model X.prog X.w) X.A (comprehension (.ListComp elt [⟨target,iter,[tst],0⟩] scope pos) scope X.env pos' (newList []) false (eval iter X.env) use) QQ X.xe s:=by
  obtain ⟨cl,hclos,k1,k2⟩:=zcl (scope:=scope) (env:=X.env) (fun y hy hk=>I.ok.has y.1 (S.clos y hy hk))
  refine wpAny_comprehension_free (use:=use) rfl hs hclos S.kind S.names (thn (hi pins s σ H _ I h) fun v s1 h1=>thn h1 fun itv s2 h2=>?_)
  obtain ⟨it,fp,tn,J,H2,e,I2,T,st2,f2,q⟩:=h2
  subst e
  obtain ⟨W,⟨m0,w0⟩,turn⟩:=q s2.heap.objs.size I2.fresh
  have ltf:∀ b∈fp,b<s2.heap.objs.size:=fun b hb=>by
    obtain ⟨o,ho,_⟩:=T.obj _ _ st2 b hb
    exact Heap.lt_size ho
  refine wpAny_newObj_type (wpAny_newFunctionEnv S.nocell (by intro y hy;simp at hy) (fun h1 hns1 hsb1=>?_) S.kind)
  dsimp only at hns1 hsb1 ⊢
  have I3:Inv X pins σ (upd H2 s2.heap.objs.size (.lst [])) {s2 with heap:=s2.heap.push {cls:=.type "list",data:=.seq ([]:List Value).toArray},toks:=s2.toks}:=I2.lnew (t':=s2.toks) .nil (by show 0≤sizeLine;exact Nat.zero_le _)
  generalize hh3:s2.heap.push {cls:=.type "list",dict:=none,data:=.seq ([]:List Value).toArray}=h3 at I3 hns1 hsb1 ⊢
  generalize hH3:upd H2 s2.heap.objs.size (.lst [])=H3 at I3 w0
  have hz3:h3.objs.size=s2.heap.objs.size+1:=by rw [← hh3,Heap.size_push]
  have up3:∀ b o,s2.heap.get? b=some o→h3.get? b=some o:=fun b o e=>by rw [← hh3];exact Heap.get?_push_of_some _ e
  have f3:∀ b∈fp,FpOk X pins H3 b:=fun b hb=>⟨by rw [← hH3,zi (Nat.ne_of_lt (ltf b hb))];exact (f2 b hb).1,(f2 b hb).2⟩
  have lt3:∀ b∈fp,b<h3.objs.size:=fun b hb=>by rw [hz3];exact Nat.lt_succ_of_lt (ltf b hb)
  have old:∀ b o,h3.get? b=some o→h1.get? b=some o:=fun b o e=>hsb1.extBut b o (Nat.ne_of_lt (Heap.lt_size e)) (Heap.get?_push_of_some _ e)
  have I4:=ze6 (t':=s2.toks+([]:List (Str × Value)).length) (C:=h3.objs.size) (fp:=fp) I3 S k1 k2 (Nat.le_refl _) f3 lt3 old hns1
  have st4:tn 0 h1:=T.keep _ _ _ st2 fun b _ o e=>old b o (up3 b o e)
  have stat:∀ {H':Hp},(∀ b∈fp,H' b=none)→∀ b∈fp,FpOk (cxC X scope cl h3.objs.size N {s2 with heap:=h3,toks:=s2.toks} H3 fp) pins H' b:=fun {H'} hn b hb=>by
    obtain ⟨g0,g1,g2,g3,g4,g5⟩:=f3 b hb
    refine ⟨hn b hb,Nat.ne_of_lt (lt3 b hb),fun z=>?_,.inl hb,fun x c e=>g4 x c (k1 x c e),g5⟩
    rcases List.mem_cons.mp (I3.stkSub b z) with q | q
    · exact g1 q
    · exact g2 q
  have loop:codeAny (model X.prog X.w) X.A (.compLoop (.ListComp elt [⟨target,iter,[tst],0⟩] scope pos) 0 (.ref it) (.ref s2.heap.objs.size) (compEnvC scope cl h3.objs.size X.env))
      (compPost (model X.prog X.w) X.A X.xe use QQ (.ref s2.heap.objs.size) h3.objs.size) {s2 with heap:=h1,toks:=s2.toks+([]:List (Str × Value)).length}:=by
    refine zgq (fun n s'=>∃ i ys τ H',Inv (cxC X scope cl h3.objs.size N {s2 with heap:=h3,toks:=s2.toks} H3 fp) pins τ H' s'∧tn i s'.heap∧(∀ b∈fp,H' b=none)∧W i n ys τ H') ?_ m0
      ⟨0,[],_,H3,I4,st4,fun b hb=>(f3 b hb).1,w0⟩
    rintro n s5 ⟨i,ys,τ,H5,I5,st5,fr5,w5⟩
    rcases turn i n ys τ H5 w5 with ⟨stop,qn⟩ | ⟨go,step⟩
    · refine wpAny_mono (T.done (cxC X scope cl h3.objs.size N {s2 with heap:=h3,toks:=s2.toks} H3 fp) rfl rfl rfl hc i pins s5 τ H5 _ I5 (stat fr5) st5 stop) (fun r s6 h6=>?_) fun _ _ z=>z
      obtain ⟨hr,I6⟩:=h6
      subst hr
      obtain ⟨m6,hn6,_⟩:=I6.loc
      refine hfin s2.heap.objs.size h3.objs.size H5 s6 m6 (I3.call' (ch:=fp) I6.os I6.base I6.hok I6.bare fun b hb=>?_) qn (I3.fpOk (Nat.le_refl _) I6.free) hn6
      obtain ⟨g0,g1,g2,g3,g4,g5⟩:=f3 b hb
      exact ⟨g3,g1,g4,g5⟩
    · refine wpAny_mono (T.item (cxC X scope cl h3.objs.size N {s2 with heap:=h3,toks:=s2.toks} H3 fp) rfl rfl rfl hc i pins s5 τ H5 _ I5 (stat fr5) st5 go) (fun r s6 h6=>?_) fun _ _ z=>z
      obtain ⟨u,hr,h6⟩:=h6
      subst hr
      refine wpAny_mono h6 (fun _ s7 h7=>?_) fun _ _ z=>z
      obtain ⟨x,H7,I7,rx,y7,st7,fr7⟩:=h7
      have I7':=I7.pinned (stat fr7) (T.obj _ _ st7)
      refine wpAny_mono (hg cl h3.objs.size _ H3 fp _ s7 τ H7 x u _ I7' rx (step x H7 y7)) (fun _ s8 h8=>?_) fun _ _ z=>False.elim z
      obtain ⟨τ8,H8,I8,q8⟩:=h8
      refine wpAny_mono (ht cl h3.objs.size _ H3 fp _ s8 τ8 H8 _ I8 q8) (fun ok s8t h8t=>?_) fun _ _ z=>False.elim z
      obtain ⟨H8t,I8t,q8t⟩:=h8t
      cases ok with
      | true =>
        rw [if_pos rfl] at q8t
        show wpAny _ _ (eval elt _) _ _ _
        refine wpAny_mono (he cl h3.objs.size _ H3 fp _ s8t τ8 H8t _ I8t q8t) (fun y' s9 h9=>?_) fun _ _ z=>False.elim z
        obtain ⟨y,H9,I9,ry,e9,l9,m',hm,w9⟩:=h9
        refine wpAny_mono (wa (X:=cxC X scope cl h3.objs.size N {s2 with heap:=h3,toks:=s2.toks} H3 fp) _ s9 τ8 H9 (.ref s2.heap.objs.size) [y] (.ref s2.heap.objs.size) [y']
          (fun _ H10=>H10=upd H9 s2.heap.objs.size (.lst (ys++[y]))) I9 rfl (.cons ry .nil) ⟨_,ys,y,rfl,rfl,e9,l9,rfl⟩) (fun _ s10 h10=>?_) fun _ _ z=>False.elim z
        obtain ⟨_,H10,I10,_,e10⟩:=h10
        subst e10
        refine ⟨m',hm,i+1,ys++[y],τ8,_,I10.unpinned,T.keep _ _ _ st7 fun b hb o e=>(I10.pin (b,o) (List.mem_append_right _ (List.mem_append_right _ (wv hb e)))).1,fun b hb=>?_,w9⟩
        obtain ⟨o,e,d⟩:=T.obj _ _ st7 b hb
        exact (I10.pin (b,o) (List.mem_append_right _ (List.mem_append_right _ (wv hb e)))).2.1
      | false =>
        rw [if_neg (by decide)] at q8t
        show ∃ m,m<n∧_
        obtain ⟨m',hm,w9⟩:=q8t
        refine ⟨m',hm,i+1,ys,τ8,_,I8t.unpinned,T.keep _ _ _ st7 fun b hb o e=>(I8t.pin (b,o) (List.mem_append_right _ (List.mem_append_right _ (wv hb e)))).1,fun b hb=>?_,w9⟩
        obtain ⟨o,e,d⟩:=T.obj _ _ st7 b hb
        exact (I8t.pin (b,o) (List.mem_append_right _ (List.mem_append_right _ (wv hb e)))).2.1
  exact codeAny_compStart_list loop (T.self X.A 0 _ _ _ st4 loop)
theorem zmq {elt target iter tst:Expr} {pos:Pos} {wi:TI} {g:TG} {tt:TT} {te:TE} (hc:X.calm=true) (S:CpScope X scope N js) (hi:PI X target iter wi)
    (hg:∀ cl C s H fp,PG (cxC X scope cl C N s H fp) target g) (ht:∀ cl C s H fp,PT (cxC X scope cl C N s H fp) tst tt) (he:∀ cl C s H fp,PE (cxC X scope cl C N s H fp) elt te) (hs:∀ x,foldedSetIterable iter X.env x=pure x:=by intro _;rfl) :
    PE X (.ListComp elt [⟨target,iter,[tst],0⟩] scope pos) (tCompF js wi g tt te):=by
  intro pins s σ H Q I h
  rw [eval_ListComp]
  refine zkq (use:=none) hc S hi hg ht he hs I h fun p C H' s' m I' q f hn=>⟨m,hn,fun h' hs'=>⟨.ref p,H',?_,rfl,q⟩⟩
  obtain ⟨f0,f1,f2,f3,f4,f5⟩:=f
  exact I'.turned (t':=s'.toks) (fun b o hb e=>(hs'.2 b hb).trans e) f0 f1 f3 f4 f5
theorem zpm {x y:Str} {px py:Pos} {k:Nat} {pos:Pos} (i j:Nat) (hc:X.calm=true) (hN:X.N.Nodup) (hi:X.N[i]?=some x) (hj:X.N[j]?=some y) (hx:X.env.scope.names.lookup x=some .local) (hy:X.env.scope.names.lookup y=some .cell) (hf:X.fn y=true:=by rfl) :
    PG X (.Tuple [.Name x px,.Name y py] k pos) (g2 X.K i j):=by
  intro pins s σ H v u Q I r h
  obtain ⟨a,v1,v2,rfl,hq,q⟩:=h
  refine zlc hc (zcg (zy (i:=i) hN hi (.inl hx) (.inr hx)) (zcg (zy (i:=j) hN hj (.inr hy) (.inl hf)) zjc)) rfl rfl pins s σ H (.ref a) u Q I r ?_
  exact ⟨a,_,rfl,hq,rfl,_,_,rfl,_,_,rfl,rfl,q⟩
theorem ziy {K:PySem.W.Frag} {a:Addr} {xs:List V} {g:TG} {tt:TT} {te:TE} {p:Addr} {τ0:St} {H1 Hs:Hp} {Q:VK} (f:V→Bool) (Iv:St→Prop) (s1:Same Hs H1) (hp:Hs p=none) (ha:SqL K Hs a xs) (hn:xs.length≤sizeLine) (i0:Iv τ0)
    (step:∀ (i:Nat) (x:V) (τ:St) (H2:Hp) (R1:St→V→Hp→Prop) (R0:St→Hp→Prop),xs[i]?=some x→Iv τ→Same Hs H2→(f x=true→∀ τ' H',Iv τ'→Same H2 H'→R1 τ' x H')→(f x=false→∀ τ' H',Iv τ'→Same H2 H'→R0 τ' H') →
      g x τ H2 fun τ4 H4=>tt τ4 H4 fun ok H4'=>if ok=true then te τ4 H4' fun y H5=>R1 τ4 y H5 else R0 τ4 H4')
    (fin:∀ H2,Same Hs H2→H2 p=some (.lst (xs.filter f))→Q (.ref p) H2):CWf (Itl K a) g tt te p τ0 H1 Q:=by
  refine ⟨fun i m ys τ H2=>m=xs.length - i∧i≤xs.length∧ys=(xs.take i).filter f∧Iv τ∧Same Hs H2∧H2 p=some (.lst ys),⟨xs.length,by simp,Nat.zero_le _,by simp,i0,s1.upd hp,ze⟩,?_⟩
  rintro i m ys τ H2 ⟨rfl,hi,rfl,iv,s2,h2⟩
  have q:=s2.seq ha
  by_cases hlt:i<xs.length
  · refine .inr ⟨⟨xs,xs[i],q,by simp [hlt]⟩,fun x H3 y=>?_⟩
    obtain ⟨e,y⟩:=y
    subst e
    have hx:=y xs q
    have hlen:((xs.take i).filter f).length<sizeLine:=by
      have h1:=List.length_filter_le f (xs.take i)
      rw [List.length_take] at h1
      omega
    have et:xs.take (i+1)=xs.take i++[x]:=by rw [List.take_add_one,hx];rfl
    refine step i x τ _ (fun τ4 y H5=>H5 p=some (.lst ((xs.take i).filter f))∧((xs.take i).filter f).length<sizeLine∧∃ m',m'<xs.length - i∧(m'=xs.length - (i+1)∧i+1≤xs.length∧(xs.take i).filter f++[y]=(xs.take (i+1)).filter f∧Iv τ4∧Same Hs (upd H5 p (.lst ((xs.take i).filter f++[y])))∧(upd H5 p (.lst ((xs.take i).filter f++[y]))) p=some (.lst ((xs.take i).filter f++[y]))))
      (fun τ4 H4=>∃ m',m'<xs.length - i∧(m'=xs.length - (i+1)∧i+1≤xs.length∧(xs.take i).filter f=(xs.take (i+1)).filter f∧Iv τ4∧Same Hs H4∧H4 p=some (.lst ((xs.take i).filter f)))) hx iv s2 (fun hf τ' H' iv' s'=>?_) (fun hf τ' H' iv' s'=>?_)
    · refine ⟨s' _ _ h2,hlen,_,by omega,rfl,hlt,?_,iv',(s2.trans s').upd hp,ze⟩
      rw [et,List.filter_append]
      simp [hf]
    · refine ⟨_,by omega,rfl,hlt,?_,iv',s2.trans s',s' _ _ h2⟩
      rw [et,List.filter_append]
      simp [hf]
  · have e:i=xs.length:=by omega
    subst e
    rw [List.take_length] at h2
    exact .inl ⟨⟨xs,q,Nat.le_refl _⟩,fin _ s2 h2⟩
end
end L2
set_option Elab.async false
set_option linter.all false
set_option maxRecDepth 100000
set_option maxHeartbeats 4000000
namespace L2
open PySem PySem.Spec PyProof.Rows PySem.Builtin PySem.Builtin.Str
section
variable {X:Cx} {tg:Expr}
theorem zf9:∀ {ts:List Str} {us:List Value},Vals (ts.map V.str) us→∃ l:List (Str × Tok),us=strValues l∧l.map (·.1)=ts
  | [],_,.nil=>⟨[],rfl,rfl⟩
  | t::ts,_,.cons r rr=>by
    obtain ⟨k,rfl⟩:=r
    obtain ⟨l,e1,e2⟩:=zf9 rr
    exact ⟨(t,k)::l,by rw [e1];rfl,by rw [List.map_cons,e2]⟩
def rJoin (K:PySem.W.Frag):V→List V→Hp→VK→Prop:=fun x vs H Q=>∃ sep p ts,x=.str sep∧vs=[.ref p]∧SqL K H p (ts.map V.str)∧JoinOk sep ts=true∧Q (.str (Str.join sep ts)) H
theorem zjr:MtM X "str.join" (rJoin X.K):=by
  intro pins s σ H x vs v us Q I rx rv h
  obtain ⟨sep,p,ts,rfl,rfl,hq,hok,q⟩:=h
  obtain ⟨t,rfl⟩:=rx
  obtain ⟨u,rfl,ru⟩:=rv.one
  cases ru
  obtain ⟨its,r,pl,hz⟩:=I.list hq
  obtain ⟨l,rfl,hl⟩:=zf9 r
  refine SC.join pl.isList hl hok fun t' k=>⟨.str (Str.join sep ts),H,I.tok k,⟨t',?_⟩,q⟩
  rw [show Txt.join sep ts=Str.join sep ts from StrLaws.glued_eq_join sep ts]
end
abbrev FIG:Str:="0123456789"
end L2
set_option Elab.async false
set_option linter.all false
set_option maxRecDepth 100000
set_option maxHeartbeats 4000000
namespace L2
open PySem PyProof.Rows PySem.SeqAt
section
variable {prog:Program} {w:World} {A:Around} {E:Value→Shared→Prop} {s:Shared} {key:Value→Nat} {knd:SortKind} {a₀:Array Keyed} {st:SortSt}
end
end L2
set_option Elab.async false
set_option linter.all false
set_option maxRecDepth 100000
set_option maxHeartbeats 4000000
namespace L2
open PySem PyProof.Rows PySem.SeqAt
section
variable {prog:Program} {w:World} {A:Around} {E:Value→Shared→Prop} {s:Shared} {key:Value→Nat} {knd:SortKind}
end
end L2
set_option Elab.async false
set_option linter.all false
set_option maxRecDepth 100000
set_option maxHeartbeats 4000000
namespace L2
open PySem PyProof.Rows PySem.SeqAt
section
variable {prog:Program} {w:World} {A:Around} {E:Value→Shared→Prop} {s:Shared} {key:Value→Nat}
end
end L2
set_option Elab.async false
set_option linter.all false
set_option maxRecDepth 100000
set_option maxHeartbeats 4000000
namespace L2
open PySem PyProof.Rows PySem.SeqAt
section
variable {X:Cx}
end
end L2
set_option Elab.async false
set_option linter.all false
set_option maxRecDepth 100000
set_option maxHeartbeats 4000000
namespace NCP
open PySem L2 NC
abbrev iv (xs:List Int):List V:=xs.map V.int
def LL (H:Hp) (p:Addr) (bs:List (List Int)):Prop:=∃ as:List Addr,H p=some (.lst (as.map V.ref))∧Paired (fun a b=>H a=some (.lst (iv b))) as bs
structure NewLL (H H':Hp) (p:Addr) (bs:List (List Int)):Prop where
  same:Same H H'
  np:H p=none
  ex:∃ as:List Addr,H' p=some (.lst (as.map V.ref))∧Paired (fun a b=>H a=none∧H' a=some (.lst (iv b))) as bs∧as.Nodup
structure NewI (H H':Hp) (p:Addr) (ns:List Int):Prop where
  same:Same H H'
  np:H p=none
  at_:H' p=some (.lst (iv ns))
theorem y9 {α β:Type} {F G:α→β→Prop} (f:∀ a b,F a b→G a b):∀ {l₁:List α} {l₂:List β},Paired F l₁ l₂→Paired G l₁ l₂
  | _,_,.nil=>.nil
  | _,_,.cons r t=>.cons (f _ _ r) (y9 f t)
theorem yk {α β:Type} {F:α→β→Prop}:∀ {l₁:List α} {l₂:List β},Paired F l₁ l₂→l₁.length=l₂.length
  | _,_,.nil=>rfl
  | _,_,.cons _ t=>by simp [yk t]
theorem yd {α β:Type} {F:α→β→Prop}:∀ {l₁:List α} {l₂:List β} {i:Nat} {a:α},Paired F l₁ l₂→l₁[i]?=some a→∃ b,l₂[i]?=some b∧F a b
  | _,_,_,_,.nil,e=>by simp at e
  | _,_,0,_,.cons r _,e=>by
    have e:=Option.some.inj e
    subst e
    exact ⟨_,rfl,r⟩
  | _,_,i+1,_,.cons _ t,e=>yd (i:=i) t (by simpa using e)
theorem zal {α β:Type} {F:α→β→Prop}:∀ {l₁:List α} {l₂:List β} {i:Nat} {b:β},Paired F l₁ l₂→l₂[i]?=some b→∃ a,l₁[i]?=some a∧F a b
  | _,_,_,_,.nil,e=>by simp at e
  | _,_,0,_,.cons r _,e=>by
    have e:=Option.some.inj e
    subst e
    exact ⟨_,rfl,r⟩
  | _,_,i+1,_,.cons _ t,e=>zal (i:=i) t (by simpa using e)
theorem v8 {α β:Type} {F:α→β→Prop} {a:α} {b:β}:∀ {l₁:List α} {l₂:List β},Paired F l₁ l₂→F a b→Paired F (l₁++[a]) (l₂++[b])
  | _,_,.nil,h=>.cons h .nil
  | _,_,.cons h₁ t,h=>.cons h₁ (v8 t h)
theorem LL.mono {H H':Hp} {p:Addr} {bs:List (List Int)} (s:Same H H') (h:LL H p bs):LL H' p bs:=by
  obtain ⟨as,h1,h2⟩:=h
  exact ⟨as,s _ _ h1,y9 (fun a b e=>s _ _ e) h2⟩
theorem NewLL.ll {H H':Hp} {p:Addr} {bs:List (List Int)} (h:NewLL H H' p bs):LL H' p bs:=by
  obtain ⟨as,h1,h2,_⟩:=h.ex
  exact ⟨as,h1,y9 (fun a b e=>e.2) h2⟩
structure Dn (K:PySem.W.Frag) (mg:Str→Option Value) (x:Str) (st:Stmt) (ps:List Str) (f:Addr) (fd:FuncData):Prop where
  fn:Fun K x x st f fd
  at_:mg x=some (.ref f)
  bd:Binds K fd ps []
def spCell (K:PySem.W.Frag):Sp:=fun vs H Q _=>∃ (a:Addr) (ns:List Int) (k:Nat),vs=[.ref a,.int k]∧SqL K H a (iv ns)∧Q (.int (ns.getD k 0)) H
def spRises (K:PySem.W.Frag):Sp:=fun vs H Q _=>∃ (a:Addr) (ns:List Int),vs=[.ref a]∧SqL K H a (iv ns)∧ns.length≤1000∧∀ H',Same H H'→Q (.bl (decide (ns.Pairwise (·<·)))) H'
def spPointsIn:Sp:=fun vs H Q _=>∃ (p:Addr) (bs:List (List Int)),vs=[.ref p]∧LL H p bs∧bs.flatten.length≤1000∧∀ l H',NewI H H' l bs.flatten→Q (.ref l) H'
def spIsParting:Sp:=fun vs H Q _=>∃ (n:Int) (p:Addr) (bs:List (List Int)),vs=[.int n,.ref p]∧LL H p bs∧bs.length≤1000∧bs.flatten.length<64∧(∀ b∈bs,b.length≤1000)∧∀ (b:Bool) (H':Hp),Same H H'→(b=true↔Parting n bs)→Q (.bl b) H'
def spNoRefuse:Sp:=fun vs H Q _=>∃ (n:Int) (p:Addr) (bs:List (List Int)),vs=[.int n,.ref p]∧LL H p bs∧bs.length≤1000∧bs.flatten.length<64∧(∀ b∈bs,b.length≤1000)∧Parting n bs∧∀ H',Same H H'→Q .non H'
def spBlockPlaces:Sp:=fun vs H Q _=>∃ (p:Addr) (w:List Nat),vs=[.int w.length,.ref p]∧LL H p (zb (gather w))∧w.length≤1000∧∀ l H',NewI H H' l (zl (canon w))→Q (.ref l) H'
def spFirstCrossing (K:PySem.W.Frag):Sp:=fun vs H Q _=>∃ (a:Addr) (w:List Nat),vs=[.ref a]∧SqL K H a (iv (zl w))∧w.length≤1000∧(Free w→∀ H',Same H H'→Q .non H') ∧
  ∀ (t a b c d:Nat) (H':Hp),IsCross w a b c d→Same H H'→H t=none→H' t=some (.tup [.int a,.int b,.int c,.int d])→Q (.ref t) H'
def spNoCross:Sp:=fun vs H Q _=>∃ (p:Addr) (w:List Nat),vs=[.int w.length,.ref p]∧LL H p (zb (gather w))∧w.length≤1000∧Free w∧∀ H',Same H H'→Q .non H'
def spFree1:Sp:=fun vs H Q _=>∃ (p:Addr) (w:List Nat),vs=[.int w.length,.ref p]∧LL H p (zb (gather w))∧w.length≤10∧Free w∧∀ H',Same H H'→Q .non H'
def spOrderOf:Sp:=fun vs H Q _=>∃ (p:Addr) (w:List Nat),vs=[.int w.length,.ref p]∧LL H p (zb (gather w))∧w.length≤10∧Free w∧∀ l o H',IsOrder (gather w) w.length o→NewI H H' l (zl o)→Q (.ref l) H'
def spGathered (K:PySem.W.Frag):Sp:=fun vs H Q _=>∃ (a:Addr) (w:List Nat),vs=[.ref a]∧SqL K H a (iv (zl w))∧w.length≤1000∧∀ p H',NewLL H H' p (zb (gather w))→Q (.ref p) H'
def spFreeBy (K:PySem.W.Frag):Sp:=fun vs H Q _=>∃ (a:Addr) (ns:List Int) (k n:Nat),vs=[.ref a,.int k,.int n]∧SqL K H a (iv ns)∧n≤1000∧∀ p H',NewLL H H' p (zb (gather (freeWord (cells ns k n))))→Q (.ref p) H'
def spLaw (K:PySem.W.Frag):Sp:=fun vs H Q _=>∃ (a:Addr) (ns:List Int),vs=[.ref a]∧SqL K H a (iv ns)∧ns.length≤63∧∀ H',Q (.bl true) H'
end NCP
set_option Elab.async false
set_option linter.all false
set_option maxRecDepth 100000
set_option maxHeartbeats 4000000
namespace NCP
open PySem L2 NC
theorem we {as:List Addr} {i:Nat} {x:V} (h:(as.map V.ref)[i]?=some x):∃ a,as[i]?=some a∧x=.ref a:=by
  rw [List.getElem?_map] at h
  obtain ⟨a,e,rfl⟩:=Option.map_eq_some_iff.mp h
  exact ⟨a,e,rfl⟩
theorem yf {n:Nat} (h:n≤1000):n≤sizeLine:=Nat.le_of_lt (small1000 h)
theorem vh {α:Type} {l:List α} {i:Nat} {x:α} (h:l[i]?=some x):l.take (i+1)=l.take i++[x]:=by
  rw [List.take_add_one,h];rfl
theorem za4:(["block"]:List Str).Nodup:=by decide +kernel
structure GBlt (mg:Str→Option Value):Prop where
  all:mg "all"=none
  zip:mg "zip"=none
  len:mg "len"=none
  sorted:mg "sorted"=none
  list:mg "list"=none
  range:mg "range"=none
  enum:mg "enumerate"=none
  max:mg "max"=none
  set:mg "set"=none
  isi:mg "isinstance"=none
  int:mg "int"=none
  bool:mg "bool"=none
  tuple:mg "tuple"=none
  sum:mg "sum"=none
theorem zaf {n k:Nat} (h:k<n):ixN n (k:Int)=some k:=by
  unfold ixN
  rw [if_pos (by omega),if_pos (by omega)]
  simp
theorem zea (n:Nat):(List.replicate n [V.int 0]).flatten=iv (zl (List.replicate n 0)):=by
  induction n with
  | zero=>rfl
  | succ n ih =>
    rw [List.replicate_succ,List.flatten_cons,ih,List.replicate_succ]
    rfl
theorem zer (L:List Nat) (p v:Nat):(iv (zl L)).set p (.int v)=iv (zl (L.set p v)):=by
  unfold iv zl
  rw [List.map_set,List.map_set]
theorem vy {b:List Nat} {k:Nat} {x:V} (h:(iv (zl b))[k]?=some x):∃ p,b[k]?=some p∧x=.int (p:Int):=by
  rw [List.getElem?_map,List.getElem?_map] at h
  cases e:b[k]? with
  | none=>rw [e] at h;cases h
  | some p =>
    rw [e] at h
    exact ⟨p,rfl,(Option.some.inj h).symm⟩
theorem iv_of {b:List Nat} {k p:Nat} (h:b[k]?=some p):(iv (zl b))[k]?=some (.int (p:Int)):=by
  rw [List.getElem?_map,List.getElem?_map,h]
  rfl
theorem zce {bs:List (List Nat)} {i:Nat} {b:List Int} (h:(zb bs)[i]?=some b):∃ c,bs[i]?=some c∧b=zl c:=by
  rw [List.getElem?_map] at h
  cases e:bs[i]? with
  | none=>rw [e] at h;cases h
  | some c =>
    rw [e] at h
    exact ⟨c,rfl,(Option.some.inj h).symm⟩
theorem vq {wd:List Nat} (h:wd.length≤10):Parting (wd.length:Int) (zb (gather wd)):=ze3 h
theorem w4 (wd:List Nat):(zb (gather wd)).flatten.length=wd.length:=by
  have e:(zb (gather wd)).flatten=zl (gather wd).flatten:=by simp [zb,zl,List.map_flatten]
  rw [e,List.length_map,(zak wd).length_eq,List.length_range]
theorem wj (wd:List Nat):(zb (gather wd)).length≤wd.length:=by
  rw [List.length_map,ye]
  have h:∀ l:List Nat,(marks l).length≤l.length:=by
    intro l
    induction l using wb with
    | h0=>simp [marks]
    | h1 l m ih =>
      rw [xl,addMark]
      split
      · simp;omega
      · simp;omega
  exact h wd
theorem xh {b:List Int}:∀ {bs:List (List Int)},b∈bs→b.length≤bs.flatten.length
  | x::r,h=>by
    rw [List.flatten_cons,List.length_append]
    rcases List.mem_cons.mp h with rfl | h
    · omega
    · have:=xh h;omega
theorem vj (wd:List Nat):∀ b∈zb (gather wd),b.length≤wd.length:=by
  intro b hb
  rw [← w4 wd]
  exact xh hb
theorem zbl {α β:Type} {F F':α→β→Prop} {a:α} {b':β}:∀ {as:List α} {bs:List β} {i:Nat},Paired F as bs→as.Nodup→as[i]?=some a→(∀ x y,x≠a→F x y→F' x y)→F' a b'→Paired F' as (bs.set i b')
  | _,_,_,.nil,_,e,_,_=>by simp at e
  | x::as,y::bs,0,.cons r t,nd,e,h1,h2=>by
    have e:=Option.some.inj e
    subst e
    rw [List.nodup_cons] at nd
    refine .cons h2 ?_
    have go:∀ {as:List α} {bs:List β},Paired F as bs→x ∉ as→Paired F' as bs:=by
      intro as bs t
      induction t with
      | nil=>intro _;exact .nil
      | cons r t ih=>intro hn;exact .cons (h1 _ _ (fun z=>hn (by simp [z])) r) (ih fun z=>hn (by simp [z]))
    exact go t nd.1
  | x::as,y::bs,i+1,.cons r t,nd,e,h1,h2=>by
    rw [List.nodup_cons] at nd
    have e:as[i]?=some a:=by simpa using e
    exact .cons (h1 _ _ (fun z=>nd.1 (z ▸ List.mem_of_getElem? e)) r) (zbl t nd.2 e h1 h2)
theorem zag {α β:Type} {F G:α→β→Prop}:∀ {as:List α} {bs:List β},(∀ a b,a∈as→F a b→G a b)→Paired F as bs→Paired G as bs
  | _,_,_,.nil=>.nil
  | _,_,f,.cons r t=>.cons (f _ _ (by simp) r) (zag (fun a b h=>f a b (by simp [h])) t)
theorem zl_mem {m:Nat} {ms:List Nat}:(m:Int)∈zl ms↔m∈ms:=by
  rw [List.mem_map]
  constructor
  · rintro ⟨k,hk,e⟩
    have:k=m:=by omega
    exact this ▸ hk
  · intro h;exact ⟨m,h,rfl⟩
theorem zmr (m:Nat):∀ ms:List Nat,(zl ms).idxOf (m:Int)=ms.idxOf m
  | []=>rfl
  | k::ms=>by
    show ((k:Int)::zl ms).idxOf (m:Int)=_
    rw [List.idxOf_cons,List.idxOf_cons,zmr m ms]
    have e:((k:Int)==(m:Int))=(k==m):=by
      by_cases h:k=m
      · subst h;simp
      · have h':¬ ((k:Int)=(m:Int)):=by omega
        rw [beq_eq_false_iff_ne.mpr h,beq_eq_false_iff_ne.mpr h']
    rw [e]
structure GMid (H H2:Hp) (pm pf:Addr) (ms:List Nat) (cs:List (List Nat)):Prop where
  same:Same H H2
  hm:H pm=none
  hf:H pf=none
  ne:pm≠pf
  am:H2 pm=some (.lst (iv (zl ms)))
  ex:∃ as:List Addr,H2 pf=some (.lst (as.map V.ref))∧Paired (fun a b=>H a=none∧H2 a=some (.lst (iv b))) as (zb cs)∧as.Nodup∧pm ∉ as∧pf ∉ as
theorem GMid.later {H H2 H3:Hp} {pm pf:Addr} {ms:List Nat} {cs:List (List Nat)} (g:GMid H H2 pm pf ms cs) (s:Same H2 H3):GMid H H3 pm pf ms cs:=by
  obtain ⟨as,h1,h2,h3⟩:=g.ex
  exact ⟨g.same.trans s,g.hm,g.hf,g.ne,s _ _ g.am,as,s _ _ h1,y9 (fun a b e=>⟨e.1,s _ _ e.2⟩) h2,h3⟩
theorem zoc (l:List Nat):(marks l).length≤l.length:=by
  have:=wj l
  rw [List.length_map,ye] at this
  exact this
theorem zod (s:List Nat × List Nat) (c:Int) {p:Nat} (hp:(fplace c s.1.length).toNat=p):fstep s c=((if p=s.1.length then s.1++[(marks s.2).length] else s.1).take (p+1),s.2++[(if p=s.1.length then s.1++[(marks s.2).length] else s.1).getD p 0]):=by
  unfold fstep
  rw [hp]
  split
  · rename_i h
    rw [h,List.take_of_length_le (by simp)]
    congr 1
    simp
  · rfl
theorem zdu:∀ (ws:List Nat) (acc:List Nat),(zl ws).foldl PyProof.Rows.step_dedup (zl acc)=zl (ws.foldl addMark acc)
  | [],acc=>rfl
  | x::ws,acc=>by
    show (zl ws).foldl PyProof.Rows.step_dedup (PyProof.Rows.step_dedup (zl acc) (x:Int))=zl (ws.foldl addMark (addMark acc x))
    have e:PyProof.Rows.step_dedup (zl acc) (x:Int)=zl (addMark acc x):=by
      unfold PyProof.Rows.step_dedup addMark
      have h:((zl acc).any fun y=>y==(x:Int))=decide (x∈acc):=by
        rw [Bool.eq_iff_iff,List.any_eq_true,decide_eq_true_iff]
        constructor
        · rintro ⟨y,hy,e⟩
          rw [beq_iff_eq] at e
          subst e
          exact zl_mem.mp hy
        · intro h;exact ⟨x,zl_mem.mpr h,by simp⟩
      rw [h]
      by_cases hx:x∈acc
      · simp [hx]
      · simp [hx,zl]
    rw [e]
    exact zdu ws (addMark acc x)
theorem zoe (ws:List Nat):(PyProof.Rows.firstMet (fun i=>(zl ws).getD i 0) (zl ws).length).length=(marks ws).length:=by
  unfold PyProof.Rows.firstMet
  have e:(List.range (zl ws).length).map (fun i=>(zl ws).getD i 0)=zl ws:=by
    apply List.ext_getElem?
    intro i
    rw [List.getElem?_map]
    by_cases h:i<(zl ws).length
    · rw [List.getElem?_range h,List.getElem?_eq_getElem h]
      simp only [Option.map_some,Option.some.injEq]
      rw [List.getD_eq_getElem?_getD,List.getElem?_eq_getElem h]
      rfl
    · rw [List.getElem?_eq_none_iff.mpr (by simpa using h),List.getElem?_eq_none_iff.mpr (by omega)]
      rfl
  rw [e]
  have:=zdu ws []
  rw [show zl ([]:List Nat)=[] from rfl] at this
  rw [this,List.length_map]
  rfl
section
variable {K:PySem.W.Frag}
theorem zes:PySem.W.kitOne K (.type "tuple") (.type "tuple")=some true:=by unfold PySem.W.kitOne;rw [if_pos (by decide)]
end
section
variable {X:Cx} {K:PySem.W.Frag}
theorem rd_LL {H:Hp} {p:Addr} {bs:List (List Int)} (h:LL H p bs):RdD X H (.ref p) (.list (bs.map fun b=>.list (b.map .int))):=by
  obtain ⟨as,h1,h2⟩:=h
  refine zad (SqL.of h1) ?_
  have go:∀ {as:List Addr} {bs:List (List Int)},Paired (fun a b=>H a=some (.lst (iv b))) as bs→Paired (RdD X H) (as.map V.ref) (bs.map fun b=>.list (b.map .int)):=by
    intro as bs t
    induction t with
    | nil=>exact .nil
    | cons r t ih=>exact .cons (zae (SqL.of r)) ih
  exact go h2
def eCopy:TE:=fun τ H Q=>∃ (a:Addr) (xs:List V),τ[0]?=some (some (.ref a))∧H a=some (.lst xs)∧∀ l,H l=none→Q (.ref l) (upd H l (.lst xs))
theorem zdv {a p:Addr} {bs:List (List Int)} {H1:Hp} {v:Option V} {Q:VK} (hL:LL H1 a bs) (hp:H1 p=none) (hn:bs.length≤1000) (fin:∀ H2,NewLL H1 H2 p bs→Q (.ref p) H2):CW (Itl K a) (gName 0) eCopy p [v] H1 Q:=by
  obtain ⟨as,ha,hbs⟩:=hL
  have hal:=yk hbs
  refine ⟨fun i m ys τ H2=>m=bs.length - i∧i≤bs.length∧(∃ v,τ=[v])∧Same H1 H2∧∃ hs:List Addr,ys=hs.map V.ref∧H2 p=some (.lst ys)∧Paired (fun x b=>H1 x=none∧H2 x=some (.lst (iv b))) hs (bs.take i)∧hs.Nodup∧p ∉ hs,
    ⟨_,rfl,Nat.zero_le _,⟨_,rfl⟩,Same.new hp,[],rfl,ze,.nil,List.nodup_nil,by simp⟩,?_⟩
  rintro i m ys τ H2 ⟨rfl,hi,⟨v,rfl⟩,s2,hs,rfl,h2,hP,hnd,hph⟩
  by_cases hlt:i<bs.length
  · have hia:i<as.length:=by omega
    refine .inr ⟨⟨as.map V.ref,.ref as[i],SqL.of (s2 _ _ ha),by rw [List.getElem?_map,List.getElem?_eq_getElem hia];rfl⟩,?_⟩
    rintro x H3 ⟨rfl,hx⟩
    obtain ⟨ai,hai,rfl⟩:=we (hx _ (SqL.of (s2 _ _ ha)))
    obtain ⟨b,hb,hab⟩:=yd hbs hai
    refine ⟨ai,_,rfl,s2 _ _ hab,fun l hl=>?_⟩
    have s5:=Same.new (o:=.lst (iv b)) hl
    have hl1:H1 l=none:=s2.free hl
    have npl:l≠p:=fun z=>by rw [z,h2] at hl;cases hl
    have nin:l ∉ hs:=fun z=>by
      obtain ⟨k,hk,ek⟩:=List.mem_iff_getElem.mp z
      obtain ⟨c,_,hc⟩:=yd hP (i:=k) (a:=l) (by rw [List.getElem?_eq_getElem hk,ek])
      rw [hl] at hc
      cases hc.2
    have hlen:hs.length=i:=by rw [yk hP,List.length_take];omega
    refine ⟨s5 _ _ h2,?_,bs.length - (i+1),by omega,rfl,hlt,⟨_,rfl⟩,((s2.trans s5).upd hp),hs++[l],by simp,ze,?_,?_,?_⟩
    · rw [List.length_map,hlen];exact small1000 (by omega)
    · rw [vh hb]
      refine v8 (zag (fun x c hx e=>⟨e.1,?_⟩) hP) ⟨hl1,?_⟩
      · have n1:x≠p:=fun z=>hph (z ▸ hx)
        rw [zi n1]
        exact s5 _ _ e.2
      · rw [zi npl,ze]
    · rw [List.nodup_append]
      exact ⟨hnd,by simp,fun x hx y hy e=>nin (by simp at hy;rw [← hy,← e];exact hx)⟩
    · simp [hph,Ne.symm npl]
  · have e:i=bs.length:=by omega
    subst e
    refine .inl ⟨⟨as.map V.ref,SqL.of (s2 _ _ ha),by rw [List.length_map];omega⟩,fin H2 ⟨s2,hp,hs,h2,?_,hnd⟩⟩
    rw [List.take_length] at hP
    exact hP
end
theorem zof:(["point"]:List Str).Nodup:=by decide +kernel
theorem zog (n:Nat):(List.range n).map (fun _=>V.int 0)=iv (zl (List.replicate n 0)):=by
  rw [List.map_const',List.length_range]
  simp [iv,zl]
end NCP
set_option Elab.async false
set_option linter.all false
set_option maxRecDepth 100000
set_option maxHeartbeats 4000000
namespace NCP
open PySem L2 NC
def spAnyBy (K:PySem.W.Frag):Sp:=fun vs H Q _=>∃ (a:Addr) (ns:List Int) (k n:Nat),vs=[.ref a,.int k,.int n]∧SqL K H a (iv ns)∧n≤1000∧∀ p H',NewLL H H' p (zb (gather (anyWord (cells ns k n))))→Q (.ref p) H'
def spCrosses:Sp:=fun vs H Q _=>∃ (p:Addr) (w:List Nat),vs=[.int w.length,.ref p]∧LL H p (zb (gather w))∧w.length≤1000∧(Free w→∀ H',Same H H'→Q (.bl false) H')∧(¬ Free w→∀ H',Same H H'→Q (.bl true) H')
def spBelow:Sp:=fun vs H Q _=>∃ (p q:Addr) (w v:List Nat),vs=[.int w.length,.ref p,.ref q]∧w.length=v.length∧LL H p (zb (gather w))∧LL H q (zb (gather v))∧w.length≤10∧∀ (b:Bool) H',(b=true↔Below w v)→Same H H'→Q (.bl b) H'
def spWithin:Sp:=fun vs H Q _=>∃ (p q:Addr) (b u:List Nat),vs=[.ref p,.ref q]∧H p=some (.lst (iv (zl b)))∧H q=some (.lst (iv (zl u)))∧b.length≤1000∧(∀ x∈b,x<u.length) ∧
  ∀ H',Same H H'→Q (.bl (decide (∀ x∈b,u.getD x 0=u.getD (b.headD 0) 0))) H'
theorem zb2 (v:List Nat) (b:Nat):cutV (iv (zl v)) none (some (b:Int))=iv (zl (v.take b)):=by
  rw [zcc]
  simp [iv,zl,List.map_take]
theorem zb5 (v:List Nat) (b:Nat):cutV (iv (zl v)) (some (b:Int)) none=iv (zl (v.drop b)):=by
  rw [zbc]
  simp [iv,zl,List.map_drop]
theorem NewLL.before {H H1 H':Hp} {p:Addr} {bs:List (List Int)} (s:Same H H1) (N:NewLL H1 H' p bs):NewLL H H' p bs:=by
  obtain ⟨as,h4,h5,h6⟩:=N.ex
  exact ⟨s.trans N.same,s.free N.np,as,h4,y9 (fun x b e=>⟨s.free e.1,e.2⟩) h5,h6⟩
theorem at_iv {v:List Nat} {i:Nat} (h:i<v.length):atI (iv (zl v)) (i:Int)=some (.int (v.getD i 0:Int)):=xq (iv_of (getD_some h))
theorem zqo (ns:List Int) (at_ n:Nat):(List.range n).map (fun k=>V.int (ns.getD (at_+k) 0 % 4))=iv (zl (anyWord (cells ns at_ n))):=by
  unfold anyWord cells iv zl
  rw [List.map_map,List.map_map,List.map_map]
  apply List.map_congr_left
  intro k _
  show V.int _=V.int _
  congr 1
  show _=(((ns.getD (at_+k) 0 % 4).toNat:Nat):Int)
  omega
theorem natMod (z:Int) (m:Nat) (h:0<m):∃ n:Nat,z % (m:Int)=n∧n<m :=
  ⟨(z % (m:Int)).toNat,(Int.toNat_of_nonneg (Int.emod_nonneg _ (by omega))).symm,by have:=Int.emod_lt_of_pos z (show (0:Int)<(m:Int) by omega);have:=Int.emod_nonneg z (show (m:Int)≠0 by omega);omega⟩
theorem zhw (a b:Nat):decide (V.int (a:Int)=V.int (b:Int))=decide (a=b):=by
  rw [Bool.eq_iff_iff,decide_eq_true_iff,decide_eq_true_iff]
  constructor
  · intro z;injection z with z;omega
  · intro z;rw [z]
theorem zpn (v:List Nat) (k g:Nat):(List.range v.length).map (fun i=>V.int ((if v.getD i 0=g then k else v.getD i 0:Nat):Int))=iv (zl (madeOne v k g)):=by
  apply List.ext_getElem?
  intro i
  unfold madeOne iv zl
  rw [List.getElem?_map,List.getElem?_map,List.getElem?_map,List.getElem?_map]
  by_cases hi:i<v.length
  · rw [List.getElem?_range hi,getD_some hi]
    rfl
  · rw [List.getElem?_eq_none_iff.mpr (by simpa using hi),List.getElem?_eq_none_iff.mpr (by omega)]
    rfl
theorem nd_k3:(["k","script","at"]:List Str).Nodup:=by decide +kernel
theorem nd_pw:(["point","word"]:List Str).Nodup:=by decide +kernel
theorem nd_pp:(["point","places","block"]:List Str).Nodup:=by decide +kernel
theorem nd_bp:(["block","places"]:List Str).Nodup:=by decide +kernel
end NCP
set_option Elab.async false
set_option linter.all false
set_option maxRecDepth 100000
set_option maxHeartbeats 4000000
namespace NCP
open PySem L2 NC
def ixd {α:Type} [DecidableEq α] (ms:List α) (m:α):Nat:=ms.idxOf m
theorem zjs {α:Type} [DecidableEq α] {ms:List α} {m:α} (h:m ∉ ms):ixd (ms++[m]) m=ms.length:=by
  unfold ixd
  rw [List.idxOf_append,if_neg h]
  simp
theorem zet {α:Type} [DecidableEq α] {ms:List α} {m:α} (h:m∈ms):ixd ms m<ms.length:=List.idxOf_lt_length_of_mem h
theorem zdw {α:Type} [DecidableEq α] {w:List α} {m:α} (h:m∈w):(gather w)[ixd (marks w) m]?=some (pos w m):=vo h
theorem zdx {α:Type} [DecidableEq α] {w:List α} {m:α} (h:m∈w):gather (w++[m])=(gather w).set (ixd (marks w) m) (pos w m++[w.length]):=zab h
section
variable {α κ:Type} [DecidableEq α] [DecidableEq κ]
def mkv (ky:α→κ) (ms:List α) (as:List Addr):List (κ × V):=List.zipWith (fun m a=>(ky m,V.ref a)) ms as
theorem zjt (ky:α→κ) {ms:List α} {as:List Addr} (h:ms.length=as.length):(mkv ky ms as).length=ms.length:=by simp [mkv,h]
theorem zcf (ky:α→κ):∀ {ms:List α} {as:List Addr},ms.length=as.length→(mkv ky ms as).map (·.2)=as.map V.ref
  | [],[],_=>rfl
  | m::ms,a::as,h=>by
    show V.ref a::(mkv ky ms as).map (·.2)=_
    rw [zcf ky (by simpa using h)]
    rfl
  | [],_::_,h=>by simp at h
  | _::_,[],h=>by simp at h
theorem zbn {ky:α→κ} (inj:∀ x y,ky x=ky y→x=y) (m:α):∀ {ms:List α} {as:List Addr},ms.length=as.length→valV (mkv ky ms as) (ky m)=if m∈ms then (as[ixd ms m]?).map V.ref else none
  | [],[],_=>rfl
  | x::ms,a::as,h=>by
    show valV ((ky x,V.ref a)::mkv ky ms as) (ky m)=_
    by_cases e:x=m
    · subst e
      rw [zch rfl,if_pos (by simp)]
      simp [ixd]
    · rw [zci (fun q=>e (inj _ _ q)),zbn inj m (by simpa using h)]
      have hi:ixd (x::ms) m=ixd ms m+1:=by unfold ixd;rw [List.idxOf_cons,beq_eq_false_iff_ne.mpr e];rfl
      rw [hi]
      by_cases hm:m∈ms
      · rw [if_pos hm,if_pos (by simp [hm]),List.getElem?_cons_succ]
      · have e':¬ m=x:=fun q=>e q.symm
        rw [if_neg hm,if_neg (by simp [hm,e'])]
  | [],_::_,h=>by simp at h
  | _::_,[],h=>by simp at h
theorem zhx (ky:α→κ) (m:α) (p:Addr):∀ {ms:List α} {as:List Addr},ms.length=as.length→mkv ky ms as++[(ky m,V.ref p)]=mkv ky (ms++[m]) (as++[p])
  | [],[],_=>rfl
  | x::ms,a::as,h=>by
    show (ky x,V.ref a)::(mkv ky ms as++[(ky m,V.ref p)])=(ky x,V.ref a)::mkv ky (ms++[m]) (as++[p])
    rw [zhx ky m p (by simpa using h)]
  | [],_::_,h=>by simp at h
  | _::_,[],h=>by simp at h
theorem zju {ky:α→κ} (inj:∀ x y,ky x=ky y→x=y) {m:α} {p:Addr} {ms:List α} {as:List Addr} (h:ms.length=as.length) (hm:m ∉ ms):putK (mkv ky ms as) (ky m) (.ref p)=mkv ky (ms++[m]) (as++[p]):=by
  unfold putK
  rw [if_neg (by rw [zd0,zbn inj m h,if_neg hm];simp),zhx ky m p h]
end
def kyI (m:Nat):Key:=Sum.inl (m:Int)
def kyP (p:Nat × Nat):List Key:=[Sum.inl (p.1:Int),Sum.inl (p.2:Int)]
theorem zfb (x y:Nat) (h:kyI x=kyI y):x=y:=by
  unfold kyI at h
  injection h with h
  omega
theorem zfc (x y:Nat × Nat) (h:kyP x=kyP y):x=y:=by
  unfold kyP at h
  injection h with h1 h2
  injection h2 with h2 _
  injection h1 with h1
  injection h2 with h2
  exact Prod.ext (by omega) (by omega)
theorem zbm {α:Type} [DecidableEq α] (w:List α):(gather w).length≤w.length:=by
  rw [ye]
  induction w using wb with
  | h0=>simp [marks]
  | h1 l m ih =>
    rw [xl,addMark]
    split
    · simp;omega
    · simp;omega
structure DMid (H H2:Hp) (pd:Addr) (as:List Addr) (cs:List (List Nat)):Prop where
  same:Same H H2
  hd:H pd=none
  prs:Paired (fun a b=>H a=none∧H2 a=some (.lst (iv b))) as (zb cs)
  nd:as.Nodup
  np:pd ∉ as
theorem DMid.later {H H2 H3:Hp} {pd:Addr} {as:List Addr} {cs:List (List Nat)} (g:DMid H H2 pd as cs) (s:Same H2 H3):DMid H H3 pd as cs :=
  ⟨g.same.trans s,g.hd,y9 (fun a b e=>⟨e.1,s _ _ e.2⟩) g.prs,g.nd,g.np⟩
theorem DMid.len {H H2:Hp} {pd:Addr} {as:List Addr} {cs:List (List Nat)} (g:DMid H H2 pd as cs):as.length=cs.length:=by
  have:=yk g.prs
  simpa using this
def spBlocksByI (K:PySem.W.Frag):Sp:=fun vs H Q _=>∃ (a:Addr) (w:List Nat),vs=[.ref a]∧SqL K H a (iv (zl w))∧w.length≤1000∧∀ p H',NewLL H H' p (zb (gather w))→Q (.ref p) H'
def spBlocksByP (K:PySem.W.Frag):Sp:=fun vs H Q _=>∃ (a:Addr) (ts:List Addr) (w:List (Nat × Nat)),vs=[.ref a]∧SqL K H a (ts.map V.ref)∧Paired (fun t (p:Nat × Nat)=>H t=some (.tup [.int (p.1:Int),.int (p.2:Int)])) ts w∧w.length≤1000∧∀ p H',NewLL H H' p (zb (gather w))→Q (.ref p) H'
def spFreeBoth:Sp:=fun vs H Q _=>∃ (p q:Addr) (w v:List Nat),vs=[.int w.length,.ref p,.ref q]∧w.length=v.length∧LL H p (zb (gather w))∧LL H q (zb (gather v))∧w.length≤10∧Free w∧Free v∧∀ H',Same H H'→Q .non H'
def spMet:Sp:=fun vs H Q _=>∃ (p q:Addr) (w v:List Nat),vs=[.int w.length,.ref p,.ref q]∧w.length=v.length∧LL H p (zb (gather w))∧LL H q (zb (gather v))∧w.length≤10∧Free w∧Free v ∧
  ∀ r u H',IsMeet w v u→Free u→NewLL H H' r (zb (gather u))→Q (.ref r) H'
def spJoined:Sp:=fun vs H Q _=>∃ (p q:Addr) (w v:List Nat),vs=[.int w.length,.ref p,.ref q]∧w.length=v.length∧LL H p (zb (gather w))∧LL H q (zb (gather v))∧w.length≤10∧Free w∧Free v ∧
  ∀ r u H',IsJoin w v u→NewLL H H' r (zb (gather u))→Q (.ref r) H'
def spMadeOne (K:PySem.W.Frag):Sp:=fun vs H Q _=>∃ (a:Addr) (w:List Nat) (k g:Nat),vs=[.ref a,.int k,.int g]∧SqL K H a (iv (zl w))∧w.length≤1000∧∀ l H',NewI H H' l (zl (madeOne w k g))→Q (.ref l) H'
def spMadeFree:Sp:=fun vs H Q _=>∃ (a:Addr) (L:List Nat) (Pr:List Nat→Prop),vs=[.ref a]∧H a=some (.lst (iv (zl L)))∧L.length≤1000∧Pr L∧(∀ L a b c d,Pr L→IsCross L a b c d→Pr (madeOne L (L.getD a 0) (L.getD b 0))) ∧
  ∀ r u H',Pr u→Free u→u.length=L.length→Same H H'→H' r=some (.lst (iv (zl u)))→Q (.ref r) H'
def spGood:Sp:=fun vs H Q _=>∃ (n:Int) (p:Addr) (bs:List (List Int)),vs=[.int n,.ref p]∧LL H p bs∧bs.length≤1000∧bs.flatten.length<64∧∀ (b:Bool) H',Same H H'→(b=true↔Parting n bs)→Q (.bl b) H'
theorem zqp:(["label","kept","gone"]:List Str).Nodup:=by decide +kernel
theorem zqq (w v:List Nat):(iv (zl w)).zip (iv (zl v))=(w.zip v).map fun p=>(V.int (p.1:Int),V.int (p.2:Int)):=by
  induction w generalizing v with
  | nil=>rfl
  | cons x w ih =>
    cases v with
    | nil=>rfl
    | cons y v =>
      show (V.int x,V.int y)::(iv (zl w)).zip (iv (zl v))=_
      rw [ih]
      rfl
theorem zdy {α β γ:Type} {F:α→γ→Prop} {f:β→γ}:∀ {as:List α} {bs:List β},Paired F as (bs.map f)→Paired (fun a b=>F a (f b)) as bs
  | _,[],h=>by cases h;exact .nil
  | _,b::bs,h=>by
    cases h with
    | cons r t=>exact .cons r (zdy t)
theorem LL.bounds {wd:List Nat} (h:wd.length≤10):(zb (gather wd)).length≤1000∧(zb (gather wd)).flatten.length<64∧∀ b∈zb (gather wd),b.length≤1000:=by
  have h1:=wj wd
  have h2:=w4 wd
  exact ⟨by omega,by omega,fun b hb=>by have:=vj wd b hb;omega⟩
theorem zms {bs:List (List Int)} (i:Nat):(bs.take i).flatten.length≤bs.flatten.length:=by
  conv=>rhs;rw [← List.take_append_drop i bs,List.flatten_append,List.length_append]
  omega
theorem zoh (bs:List (List Int)):((bs.map fun b=>(b.length:Int))).sum=(bs.flatten.length:Int):=by
  induction bs with
  | nil=>rfl
  | cons b bs ih =>
    rw [List.map_cons,List.sum_cons,ih,List.flatten_cons,List.length_append]
    omega
end NCP
set_option Elab.async false
set_option linter.all false
set_option maxRecDepth 100000
set_option maxHeartbeats 4000000
namespace NCP
open PySem L2 NC
abbrev bmV:List Value:=[.type "ValueError",.type "Exception",.type "BaseException",.type "object"]
structure Cl4 (K:PySem.W.Frag) (mg:Str→Option Value) (R C0 C1 C2 C3:Addr):Prop where
  r:mg "RingError"=some (.ref R)
  n0:mg "NoParting"=some (.ref C0)
  n1:mg "Crossing"=some (.ref C1)
  n2:mg "NoNumber"=some (.ref C2)
  n3:mg "NoNote"=some (.ref C3)
  ve:mg "ValueError"=none
  rt:PySem.W.typeIn K (.ref R)=some (.type "type")
  rc:(PySem.W.clsIn K R).isSome=true
  rx:PySem.W.mroIn K R (.type "BaseException")=some true
  s0:PySem.W.mroIn K C0 (.ref R)=some true
  e0:PySem.W.ExcCls K C0
  k0:PySem.W.kitOne K (.ref C0) (.ref C0)=some true
  k1:PySem.W.kitOne K (.ref C0) (.ref C1)=some false
  k2:PySem.W.kitOne K (.ref C0) (.ref C2)=some false
  k3:PySem.W.kitOne K (.ref C0) (.ref C3)=some false
  kv:PySem.W.kitOne K (.ref C0) (.type "ValueError")=some true
  x0:PySem.W.excIn K C0 bmV "ValueError.__new__"=true
theorem zav {K:PySem.W.Frag} {C:Addr} {v:Value} {b:Bool} (h:PySem.W.mroIn K C v=some b):(PySem.W.clsIn K C).isSome=true:=by
  obtain ⟨cd,e,_⟩:=Option.bind_eq_some_iff.mp h
  rw [e];rfl
theorem zqr {K:PySem.W.Frag} {h:Heap} {mg:Str→Option Value} {x:Str} {C:Addr} {bm:List Value} {id:String} (X:K.In h) (hb:mg x=some (.ref C)) (q:PySem.W.excIn K C bm id=true):PyProof.Rows.OwnCls x C bm id mg h:=by
  refine ⟨hb,?_⟩
  unfold PySem.W.excIn at q
  split at q
  · rename_i dd cd sl ho
    split at q
    · rename_i C' tl k0 k1 k2 k3 n k5 hm hs
      simp only [Bool.and_eq_true,beq_iff_eq,Bool.not_eq_true'] at q
      obtain ⟨⟨⟨⟨⟨rfl,rfl⟩,hdel⟩,ht⟩,hok⟩,hni⟩:=q
      obtain ⟨nm,bs,mro,ns,qn,hd,sn,sub,ab,col,del⟩:=cd
      dsimp only at hm hdel hok hni
      subst hm hdel
      have hsl:sl=#[k0,k1,k2,k3,some (.builtin n),k5]:=by
        obtain ⟨l⟩:=sl
        simp only at hs
        rw [hs]
      subst hsl
      exact ⟨tl,ns,nm,qn,bs,hd,sn,sub,ab,col,dd,k0,k1,k2,k3,k5,_,X _ _ ho,.of_isNs (PySem.W.isNs_of_in X hok),PySem.W.nsMap_none_of_in X hok hni,PySem.W.tail_of_in X ht⟩
    · cases q
  · cases q
def spRefuse (C:Addr):Sp:=fun vs H _ E=>∃ (n:Int) (p:Addr) (bs:List (List Int)),vs=[.int n,.ref p]∧LL H p bs∧bs.length≤1000∧bs.flatten.length<64∧(∀ b∈bs,b.length≤1000)∧¬ Parting n bs∧∀ H',Same H H'→E (.ref C) none H'
section
variable {α β:Type} {F:α→β→Prop}
theorem zjv:∀ {as:List α} {bs:List β} (n:Nat),Paired F as bs→Paired F (as.take n) (bs.take n)
  | _,_,0,_=>.nil
  | _,_,n+1,.nil=>.nil
  | _,_,n+1,.cons r t=>.cons r (zjv n t)
theorem zjw:∀ {as:List α} {bs:List β} (n:Nat),Paired F as bs→Paired F (as.drop n) (bs.drop n)
  | _,_,0,h=>h
  | _,_,n+1,.nil=>.nil
  | _,_,n+1,.cons r t=>zjw n t
theorem zeu:∀ {as cs:List α} {bs ds:List β},Paired F as bs→Paired F cs ds→Paired F (as++cs) (bs++ds)
  | _,_,_,_,.nil,h=>h
  | _,_,_,_,.cons r t,h=>.cons r (zeu t h)
theorem zmt:∀ {as:List α} {bs:List β},Paired F as bs→Paired F as.reverse bs.reverse
  | _,_,.nil=>.nil
  | _,_,.cons r t=>by
    rw [List.reverse_cons,List.reverse_cons]
    exact zeu (zmt t) (.cons r .nil)
theorem zmu {a:α} {b:β} (h:F a b):∀ {as:List α} {bs:List β} (n:Nat),Paired F as bs→Paired F (as.set n a) (bs.set n b)
  | _,_,_,.nil=>.nil
  | _,_,0,.cons r t=>.cons h t
  | _,_,n+1,.cons r t=>.cons r (zmu h n t)
end
theorem zpo (bs:List (List Int)) (n:Nat):(bs.take n).flatten.length≤bs.flatten.length:=by
  have e:bs.flatten=(bs.take n).flatten++(bs.drop n).flatten:=by rw [← List.flatten_append,List.take_append_drop]
  rw [e,List.length_append];omega
theorem zpp (bs:List (List Int)) (n:Nat):(bs.drop n).flatten.length≤bs.flatten.length:=by
  have e:bs.flatten=(bs.take n).flatten++(bs.drop n).flatten:=by rw [← List.flatten_append,List.take_append_drop]
  rw [e,List.length_append];omega
theorem zhy:∀ bs:List (List Int),bs.reverse.flatten.length=bs.flatten.length
  | []=>rfl
  | b::bs=>by
    rw [List.reverse_cons,List.flatten_append,List.length_append,zhy bs,List.flatten_cons,List.length_append]
    simp;omega
theorem zhz (c:List Int):∀ (bs:List (List Int)) (n:Nat),(bs.set n c).flatten.length≤bs.flatten.length+c.length
  | [],_=>by simp
  | b::bs,0=>by simp;omega
  | b::bs,n+1=>by
    have:=zhz c bs n
    simp only [List.set_cons_succ,List.flatten_cons,List.length_append];omega
theorem zmv:∀ {bs:List (List Int)},(∀ b∈bs,b≠[])→bs.length≤bs.flatten.length
  | [],_=>by simp
  | b::bs,h=>by
    have h1:=zmv (bs:=bs) fun c hc=>h c (List.mem_cons_of_mem _ hc)
    have h2:0<b.length:=List.length_pos_iff.mpr (h b (List.mem_cons_self ..))
    simp only [List.flatten_cons,List.length_append,List.length_cons];omega
theorem iv_at {b:List Int} {k:Nat} (h:k<b.length):atI (iv b) (k:Int)=some (.int b[k]):=xq (by rw [List.getElem?_map,List.getElem?_eq_getElem h];rfl)
theorem zmw {as:List Addr} {k:Nat} {a:Addr} (h:as[k]?=some a):atI (as.map V.ref) (k:Int)=some (.ref a):=xq (by rw [List.getElem?_map,h];rfl)
theorem nd_kw:(["k","wanted"]:List Str).Nodup:=by decide +kernel
end NCP
set_option Elab.async false
set_option linter.all false
set_option maxRecDepth 100000
set_option maxHeartbeats 4000000
namespace NCP
open PySem L2 NC
def oV:Option Nat→V
  | none=>.non
  | some k=>.int (k:Int)
theorem zoi (n:Nat):(List.replicate n [V.non]).flatten=(List.replicate n (none:Option Nat)).map oV:=by
  induction n with
  | zero=>rfl
  | succ n ih =>
    rw [List.replicate_succ,List.flatten_cons,ih,List.replicate_succ]
    rfl
theorem zqs {D:List (Option Nat)} {p:Nat} {o:Option Nat} (h:D[p]?=some o):(D.map oV)[p]?=some (oV o):=by rw [List.getElem?_map,h];rfl
theorem zpq (L:List Nat):(L.map some).map oV=iv (zl L):=by
  unfold iv zl
  rw [List.map_map,List.map_map]
  rfl
def spBack:Sp:=fun vs H Q _=>∃ (a:Addr) (o:List Nat),vs=[.ref a]∧H a=some (.lst (iv (zl o)))∧o.length≤1000∧o.Nodup∧(∀ q∈o,q<o.length)∧∀ l b H',BackTo o o.length b→NewI H H' l (zl b)→Q (.ref l) H'
def spRound:Sp:=fun vs H Q _=>∃ (a:Addr) (u s:List Nat),vs=[.ref a]∧H a=some (.lst (iv (zl s)))∧u.length≤1000∧IsOrder (gather u) u.length s∧∀ l L H',L.length=u.length→Below L u→Below u L→NewI H H' l (zl L)→Q (.ref l) H'
def spContrary:Sp:=fun vs H Q _=>∃ (p:Addr) (w:List Nat),vs=[.int w.length,.ref p]∧LL H p (zb (gather w))∧w.length≤10∧Free w∧∀ r u H',IsContrary w u→NewLL H H' r (zb (gather u))→Q (.ref r) H'
def spTurned:Sp:=fun vs H Q _=>∃ (p:Addr) (w:List Nat),vs=[.int w.length,.ref p]∧LL H p (zb (gather w))∧w.length≤10∧Free w∧∀ r H',NewLL H H' r (zb (gather (rot (canon w))))→Q (.ref r) H'
end NCP
set_option Elab.async false
set_option linter.all false
set_option maxRecDepth 100000
set_option maxHeartbeats 4000000
namespace NCP
open PySem L2 NC
theorem zoj (xs:List V) {lo hi:Nat} (h1:lo≤xs.length) (h2:hi≤xs.length):cutV xs (some (lo:Int)) (some (hi:Int))=(xs.drop lo).take (hi - lo):=by
  unfold cutV
  rw [HT.sIx_nat,HT.sIx_nat,Nat.min_eq_left h1,Nat.min_eq_left h2]
theorem zev (v:List Nat) {lo hi:Nat} (h1:lo≤v.length) (h2:hi≤v.length):cutV (iv (zl v)) (some (lo:Int)) (some (hi:Int))=iv (zl ((v.drop lo).take (hi - lo))):=by
  rw [zoj _ (by simpa using h1) (by simpa using h2)]
  simp [iv,zl,List.map_take,List.map_drop]
theorem zmx (l:List Nat):(zl l).sum=((l.sum:Nat):Int):=znt l
def spEndings:Sp:=fun vs H Q _=>∃ n:Nat,vs=[.int n]∧n≤10∧∀ p H',NewLL H H' p (zb (endRows n))→Q (.ref p) H'
def spChoices:Sp:=fun vs H Q _=>∃ n k:Nat,vs=[.int n,.int k]∧n≤1000∧k≤n∧Q (.int (chs n k:Nat)) H
theorem zok {n:Nat} (f:Nat→Nat):(List.range n).map (fun k=>V.int (f k:Nat))=iv (zl ((List.range n).map f)):=by
  simp [iv,zl]
end NCP
set_option Elab.async false
set_option linter.all false
set_option maxRecDepth 100000
set_option maxHeartbeats 4000000
namespace NCP
open PySem L2 NC
def spNumberOf:Sp:=fun vs H Q _=>∃ (p:Addr) (w:List Nat),vs=[.int w.length,.ref p]∧LL H p (zb (gather w))∧w.length≤10∧Free w∧∀ H',Same H H'→Q (.int (numOf w:Nat)) H'
theorem zqt {H:Hp} {p:Addr} {n r:Nat} (h:LL H p (zb (endRows n))) (hr:r<n+1):∃ (as:List Addr) (a:Addr),H p=some (.lst (as.map V.ref))∧(as.map V.ref)[r]?=some (.ref a)∧H a=some (.lst (iv (zl (endRow n r)))):=by
  obtain ⟨as,h1,h2⟩:=h
  obtain ⟨a,ha,hab⟩:=zal h2 (i:=r) (b:=zl (endRow n r)) (by rw [List.getElem?_map,za8 hr];rfl)
  exact ⟨as,a,h1,by rw [List.getElem?_map,ha];rfl,hab⟩
end NCP
set_option Elab.async false
set_option linter.all false
set_option maxRecDepth 100000
set_option maxHeartbeats 4000000
namespace NCP
open PySem L2 NC
structure ClW (K:PySem.W.Frag) (mg:Str→Option Value) (R C0 C1 C2 C3:Addr) (j:Nat) (C:Addr):Prop where
  r:mg "RingError"=some (.ref R)
  n0:mg "NoParting"=some (.ref C0)
  n1:mg "Crossing"=some (.ref C1)
  n2:mg "NoNumber"=some (.ref C2)
  n3:mg "NoNote"=some (.ref C3)
  ve:mg "ValueError"=none
  rt:PySem.W.typeIn K (.ref R)=some (.type "type")
  rc:(PySem.W.clsIn K R).isSome=true
  rx:PySem.W.mroIn K R (.type "BaseException")=some true
  s:PySem.W.mroIn K C (.ref R)=some true
  e:PySem.W.ExcCls K C
  k0:PySem.W.kitOne K (.ref C) (.ref C0)=some (decide (j=0))
  k1:PySem.W.kitOne K (.ref C) (.ref C1)=some (decide (j=1))
  k2:PySem.W.kitOne K (.ref C) (.ref C2)=some (decide (j=2))
  k3:PySem.W.kitOne K (.ref C) (.ref C3)=some (decide (j=3))
  kv:PySem.W.kitOne K (.ref C) (.type "ValueError")=some true
abbrev four (j:Nat):List Bool:=[decide (j=0),decide (j=1),decide (j=2),decide (j=3)]
def spOtherW (C:Addr) (j:Nat) (h:Addr) (oe:Obj):Sp:=fun vs H Q _=>∃ wd:Nat,vs=[.ref h,.int wd]∧wd<4∧oe.cls=.ref C∧oe.dict=none∧∀ H',Same H H'→Q (.bl (!decide (j=wd))) H'
theorem zjx {j wd:Nat} (hj:j<4) (hw:wd<4):four j=four wd↔j=wd:=by
  have h:∀ a b:Fin 4,four a.1=four b.1↔a.1=b.1:=by decide
  exact h ⟨j,hj⟩ ⟨wd,hw⟩
end NCP
set_option Elab.async false
set_option linter.all false
set_option maxRecDepth 100000
set_option maxHeartbeats 4000000
namespace NCP
open PySem L2 NC PySem.Builtin PySem.Builtin.Str
abbrev mk (l:List Nat):Str:=⟨l.toArray⟩
theorem zq4 (l:List Nat):(mk l).cps.toList=l:=by simp
theorem zqu (l:List Nat):(mk l).length=l.length:=by simp [Str.length]
theorem zew (a b:List Nat):mk a++mk b=mk (a++b):=by
  show (⟨a.toArray++b.toArray⟩:Str)=_
  simp
theorem zex:∀ l:List Nat,Str.join (mk []) (l.map fun c=>mk [c])=mk l
  | []=>rfl
  | [c]=>rfl
  | c::d::r=>by
    show mk [c]++mk []++Str.join (mk []) ((d::r).map fun c=>mk [c])=_
    rw [zex (d::r),zew,zew]
    rfl
theorem zh0:∀ ps:List (List Nat),Str.join (mk [124]) (ps.map mk)=mk (jn ps)
  | []=>rfl
  | [p]=>rfl
  | p::q::r=>by
    show mk p++mk [124]++Str.join (mk [124]) ((q::r).map mk)=_
    rw [zh0 (q::r),zew,zew]
    show mk (p++[124]++jn (q::r))=mk (p++124::jn (q::r))
    rw [List.append_assoc]
    rfl
theorem zjy {sep:Str} {ts:List Str} (h:(ts.map (·.length)).sum+ts.length * sep.length≤1000):JoinOk sep ts=true:=by
  have key:∀ (l:List Str) (a:Nat),l.foldl (fun acc p=>acc+p.length+sep.length) a=a+(l.map (·.length)).sum+l.length * sep.length:=by
    intro l
    induction l with
    | nil=>intro a;simp
    | cons x l ih =>
      intro a
      rw [List.foldl_cons,ih,List.map_cons,List.sum_cons,List.length_cons,Nat.succ_mul]
      omega
  unfold JoinOk
  rw [List.foldl_toArray,key]
  simp only [Bool.not_eq_true']
  have hh:=yf h
  simpa [tooLong] using hh
theorem zqv:∀ p:Nat,p<10→atI FIG.cps.toList (p:Int)=some (dg p):=by
  have h:∀ p:Fin 10,atI FIG.cps.toList (p.1:Int)=some (dg p.1):=by decide +kernel
  intro p hp
  exact h ⟨p,hp⟩
def spBlockShown:Sp:=fun vs H Q _=>∃ (a:Addr) (b:List Nat),vs=[.ref a]∧H a=some (.lst (iv (zl b)))∧b.length≤100∧(∀ p∈b,p<10)∧∀ H',Same H H'→Q (.str (mk (b.map dg))) H'
def spShown:Sp:=fun vs H Q _=>∃ (p:Addr) (w:List Nat),vs=[.int w.length,.ref p]∧LL H p (zb (gather w))∧w.length≤10∧∀ H',Same H H'→Q (.str (mk (tl (gather w)))) H'
end NCP
set_option Elab.async false
set_option linter.all false
set_option maxRecDepth 100000
set_option maxHeartbeats 4000000
namespace NCP
open PySem L2 NC
abbrev lens (w:List Nat):List Nat:=(gather w).map List.length
def spWaysIn:Sp:=fun vs H Q _=>∃ k:Nat,vs=[.int k]∧1≤k∧k≤10∧∀ H',Same H H'→Q (.int (tw k:Nat)) H'
def spWaysUp:Sp:=fun vs H Q _=>∃ (p:Addr) (w:List Nat),vs=[.int w.length,.ref p]∧LL H p (zb (gather w))∧w.length≤10∧Free w∧∀ H',Same H H'→Q (.int (wup (lens w):Nat)) H'
theorem tw_le {k:Nat} (h:k≤10):tw k≤100000000:=by
  have:∀ k:Fin 11,tw k.1≤100000000:=by decide +kernel
  exact this ⟨k,by omega⟩
theorem zey:∀ {bs:List (List Nat)},(∀ b∈bs,b≠[])→stepsOf (bs.map List.length)+bs.length=bs.flatten.length
  | [],_=>rfl
  | b::bs,h=>by
    have ih:=zey (bs:=bs) fun c hc=>h c (by simp [hc])
    have hb:0<b.length:=List.length_pos_iff.mpr (h b (by simp))
    rw [List.flatten_cons,List.length_append,List.length_cons]
    show (b.length - 1)+stepsOf (bs.map List.length)+(bs.length+1)=_
    omega
theorem zkr (w:List Nat):stepsOf (lens w)+(gather w).length=w.length:=by
  have h:=zey (bs:=gather w) fun b hb=>xt hb
  rw [(zak w).length_eq,List.length_range] at h
  exact h
theorem zh1 {b:List Nat}:∀ {bs:List (List Nat)},b∈bs→b.length≤bs.flatten.length
  | c::bs,h=>by
    rw [List.flatten_cons,List.length_append]
    rcases List.mem_cons.mp h with rfl | h
    · omega
    · have:=zh1 h
      omega
theorem zpr {w:List Nat} {l:Nat} (h:l∈lens w):1≤l∧l≤w.length:=by
  obtain ⟨b,hb,rfl⟩:=List.mem_map.mp h
  have h1:=List.length_pos_iff.mpr (xt hb)
  have h2:=zh1 hb
  rw [(zak w).length_eq,List.length_range] at h2
  omega
theorem zh2 {ls:List Nat} {i l:Nat} (h:ls[i]?=some l):stepsOf (ls.drop i)=(l - 1)+stepsOf (ls.drop (i+1)):=by
  obtain ⟨hi,e⟩:=List.getElem?_eq_some_iff.mp h
  rw [List.drop_eq_getElem_cons hi,e]
  rfl
end NCP
set_option Elab.async false
set_option linter.all false
set_option maxRecDepth 100000
set_option maxHeartbeats 4000000
namespace NCP
open PySem L2 NC
def XCr (C1:Addr) (u:List Nat) (H:Hp) (E:XK):Prop:=∀ (D t:Addr) (a b c d:Nat) (H':Hp),Same H H'→H' D=some (.xd [("points",.ref t)])→H' t=some (.tup [.int a,.int b,.int c,.int d])→IsCross u a b c d→E (.ref C1) (some D) H'
def XNo (C0:Addr) (H:Hp) (E:XK):Prop:=∀ H',Same H H'→E (.ref C0) none H'
theorem XCr.mono {C1:Addr} {u:List Nat} {H H1:Hp} {E:XK} (h:XCr C1 u H E) (s:Same H H1):XCr C1 u H1 E:=fun D t a b c d H' s'=>h D t a b c d H' (s.trans s')
theorem XNo.mono {C0:Addr} {H H1:Hp} {E:XK} (h:XNo C0 H E) (s:Same H H1):XNo C0 H1 E:=fun H' s'=>h H' (s.trans s')
structure AnyL (H:Hp) (p:Addr) (bs:List (List Int)):Prop where
  ll:LL H p bs
  z1:bs.length≤1000
  z2:bs.flatten.length<64
  z3:∀ b∈bs,b.length≤1000
theorem AnyL.mono {H H1:Hp} {p:Addr} {bs:List (List Int)} (h:AnyL H p bs) (s:Same H H1):AnyL H1 p bs:=⟨h.ll.mono s,h.z1,h.z2,h.z3⟩
def Wd (n:Int) (bs:List (List Int)) (w:List Nat):Prop:=n=(w.length:Int)∧bs=zb (gather w)∧w.length≤10
theorem wd_of {n:Int} {bs:List (List Int)} (h:Parting n bs):∃ w,Wd n bs w:=let ⟨w,a,b,c⟩:=zhg h;⟨w,b,c,a⟩
theorem Wd.ok {n:Int} {bs:List (List Int)} {w:List Nat} (h:Wd n bs w):Parting n bs:=by
  obtain ⟨rfl,rfl,z⟩:=h
  exact vq z
theorem Wd.len {n:Int} {bs cs:List (List Int)} {w v:List Nat} (h:Wd n bs w) (h':Wd n cs v):w.length=v.length:=by
  have a:=h.1
  have b:=h'.1
  omega
def spCrossR (C1:Addr):Sp:=fun vs H _ E=>∃ (p:Addr) (w:List Nat),vs=[.int w.length,.ref p]∧LL H p (zb (gather w))∧w.length≤10∧¬ Free w∧XCr C1 w H E
def spOneR (C0 C1:Addr):Sp:=fun vs H _ E=>∃ (n:Int) (p:Addr) (bs:List (List Int)),vs=[.int n,.ref p]∧AnyL H p bs∧((¬ Parting n bs∧XNo C0 H E)∨∃ w,Wd n bs w∧¬ Free w∧XCr C1 w H E)
def spTwoR (C0 C1:Addr):Sp:=fun vs H _ E=>∃ (n:Int) (p q:Addr) (bs cs:List (List Int)),vs=[.int n,.ref p,.ref q]∧AnyL H p bs∧AnyL H q cs ∧
  (((¬ Parting n bs∨¬ Parting n cs)∧XNo C0 H E)∨∃ w v,Wd n bs w∧Wd n cs v∧((¬ Free w∧XCr C1 w H E)∨(Free w∧¬ Free v∧XCr C1 v H E)))
def spTwoN (C0:Addr):Sp:=fun vs H _ E=>∃ (n:Int) (p q:Addr) (bs cs:List (List Int)),vs=[.int n,.ref p,.ref q]∧AnyL H p bs∧AnyL H q cs∧(¬ Parting n bs∨¬ Parting n cs)∧XNo C0 H E
def spOne (C0 C1:Addr):Sp:=fun vs H Q E=>∃ (n:Int) (p:Addr) (bs:List (List Int)),vs=[.int n,.ref p]∧AnyL H p bs ∧
  ((¬ Parting n bs∧XNo C0 H E)∨(∃ w,Wd n bs w∧¬ Free w∧XCr C1 w H E)∨∃ w,Wd n bs w∧Free w∧∀ v H',Same H H'→Q v H')
def spTwo' (C0 C1:Addr):Sp:=fun vs H Q E=>∃ (n:Int) (p q:Addr) (bs cs:List (List Int)),vs=[.int n,.ref p,.ref q]∧AnyL H p bs∧AnyL H q cs ∧
  (((¬ Parting n bs∨¬ Parting n cs)∧XNo C0 H E)∨(∃ w v,Wd n bs w∧Wd n cs v∧((¬ Free w∧XCr C1 w H E)∨(Free w∧¬ Free v∧XCr C1 v H E)))∨∃ w v,Wd n bs w∧Wd n cs v∧Free w∧Free v∧∀ v H',Same H H'→Q v H')
def spTwoB (C0:Addr):Sp:=fun vs H Q E=>∃ (n:Int) (p q:Addr) (bs cs:List (List Int)),vs=[.int n,.ref p,.ref q]∧AnyL H p bs∧AnyL H q cs ∧
  (((¬ Parting n bs∨¬ Parting n cs)∧XNo C0 H E)∨∃ w v,Wd n bs w∧Wd n cs v∧∀ v H',Same H H'→Q v H')
def spOneS (C0:Addr):Sp:=fun vs H Q E=>∃ (n:Int) (p:Addr) (bs:List (List Int)),vs=[.int n,.ref p]∧AnyL H p bs∧((¬ Parting n bs∧XNo C0 H E)∨∃ w,Wd n bs w∧∀ v H',Same H H'→Q v H')
section
variable {P:Program} {w:World} {K:PySem.W.Frag} {mg:Str→Option Value} {base:Heap} {CX:CXT} {k:Nat} {f:Addr} {fd:FuncData} {ps:List Str} {C0 C1:Addr}
theorem FnOk.or {sp1 sp2 sp:Sp} (F1:FnOk P w K mg base CX k f fd ps sp1) (F2:FnOk P w K mg base CX k f fd ps sp2) (h:∀ vs H Q E,sp vs H Q E→sp1 vs H Q E∨sp2 vs H Q E):FnOk P w K mg base CX k f fd ps sp :=
  ⟨fun vs H Q E q=>(h vs H Q E q).elim (F1.len vs H Q E) (F2.len vs H Q E),fun A outer s H args us vs Q E hr he hb hv hs=>(h vs H Q E hs).elim (F1.run A outer s H args us vs Q E hr he hb hv) (F2.run A outer s H args us vs Q E hr he hb hv)⟩
def Tells1 (sp:Sp):Prop:=∀ (p:Addr) (u:List Nat) (H:Hp) (Q:VK) (E:XK),LL H p (zb (gather u))→u.length≤10→Free u→(∀ v H',Same H H'→Q v H')→sp [.int u.length,.ref p] H Q E
theorem zdd {sp:Sp} (t:Tells1 sp) (F1:FnOk P w K mg base CX k f fd ps (spOneR C0 C1)) (F2:FnOk P w K mg base CX k f fd ps sp):FnOk P w K mg base CX k f fd ps (spOne C0 C1):=by
  refine FnOk.or F1 F2 fun vs H Q E h=>?_
  obtain ⟨n,p,bs,rfl,hL,h | h | ⟨u,⟨rfl,rfl,hz⟩,hF,q⟩⟩:=h
  · exact .inl ⟨n,p,bs,rfl,hL,.inl h⟩
  · exact .inl ⟨n,p,bs,rfl,hL,.inr h⟩
  · exact .inr (t p u H Q E hL.ll hz hF q)
def Tells2 (sp:Sp):Prop:=∀ (p q:Addr) (u v:List Nat) (H:Hp) (Q:VK) (E:XK),u.length=v.length→LL H p (zb (gather u))→LL H q (zb (gather v))→u.length≤10→Free u→Free v→(∀ v H',Same H H'→Q v H')→sp [.int u.length,.ref p,.ref q] H Q E
theorem zmy {sp:Sp} (t:Tells2 sp) (F1:FnOk P w K mg base CX k f fd ps (spTwoR C0 C1)) (F2:FnOk P w K mg base CX k f fd ps sp):FnOk P w K mg base CX k f fd ps (spTwo' C0 C1):=by
  refine FnOk.or F1 F2 fun vs H Q E h=>?_
  obtain ⟨n,p,q,bs,cs,rfl,hL,hM,h | h | ⟨u,v,h1,h2,f1,f2,qq⟩⟩:=h
  · exact .inl ⟨n,p,q,bs,cs,rfl,hL,hM,.inl h⟩
  · exact .inl ⟨n,p,q,bs,cs,rfl,hL,hM,.inr h⟩
  · have e:=h1.len h2
    obtain ⟨rfl,rfl,hz⟩:=h1
    obtain ⟨_,rfl,_⟩:=h2
    exact .inr (t p q u v H Q E e hL.ll hM.ll hz f1 f2 qq)
theorem zps (F1:FnOk P w K mg base CX k f fd ps (spTwoN C0)) (F2:FnOk P w K mg base CX k f fd ps spBelow):FnOk P w K mg base CX k f fd ps (spTwoB C0):=by
  refine FnOk.or F1 F2 fun vs H Q E h=>?_
  obtain ⟨n,p,q,bs,cs,rfl,hL,hM,h | ⟨u,v,h1,h2,qq⟩⟩:=h
  · exact .inl ⟨n,p,q,bs,cs,rfl,hL,hM,h⟩
  · have e:=h1.len h2
    obtain ⟨rfl,rfl,hz⟩:=h1
    obtain ⟨_,rfl,_⟩:=h2
    exact .inr ⟨p,q,u,v,rfl,e,hL.ll,hM.ll,hz,fun b H' _ s=>qq _ H' s⟩
theorem zpt (F1:FnOk P w K mg base CX k f fd ps (spRefuse C0)) (F2:FnOk P w K mg base CX k f fd ps spShown):FnOk P w K mg base CX k f fd ps (spOneS C0):=by
  refine FnOk.or F1 F2 fun vs H Q E h=>?_
  obtain ⟨n,p,bs,rfl,hL,h | ⟨u,⟨rfl,rfl,hz⟩,qq⟩⟩:=h
  · exact .inl ⟨n,p,bs,rfl,hL.ll,hL.z1,hL.z2,hL.z3,h.1,h.2⟩
  · exact .inr ⟨p,u,rfl,hL.ll,hz,fun H' s=>qq _ H' s⟩
theorem zpu:Tells1 spOrderOf:=fun p u H Q E hL hz hF q=>⟨p,u,rfl,hL,hz,hF,fun l o H' _ N=>q _ H' N.same⟩
theorem zks:Tells1 spContrary:=fun p u H Q E hL hz hF q=>⟨p,u,rfl,hL,hz,hF,fun r u' H' _ N=>q _ H' N.same⟩
theorem zol:Tells1 spTurned:=fun p u H Q E hL hz hF q=>⟨p,u,rfl,hL,hz,hF,fun r H' N=>q _ H' N.same⟩
theorem zqw:Tells1 spWaysUp:=fun p u H Q E hL hz hF q=>⟨p,u,rfl,hL,hz,hF,fun H' s=>q _ H' s⟩
theorem zom:Tells1 spNumberOf:=fun p u H Q E hL hz hF q=>⟨p,u,rfl,hL,hz,hF,fun H' s=>q _ H' s⟩
theorem t_met:Tells2 spMet:=fun p q u v H Q E e h1 h2 hz f1 f2 qq=>⟨p,q,u,v,rfl,e,h1,h2,hz,f1,f2,fun r w' H' _ _ N=>qq _ H' N.same⟩
theorem zon:Tells2 spJoined:=fun p q u v H Q E e h1 h2 hz f1 f2 qq=>⟨p,q,u,v,rfl,e,h1,h2,hz,f1,f2,fun r w' H' _ N=>qq _ H' N.same⟩
end
end NCP
set_option Elab.async false
set_option linter.all false
set_option maxRecDepth 100000
set_option maxHeartbeats 4000000
namespace L2
open PySem PySem.Spec PyProof.Rows
theorem PS.imp {X:Cx} {st:Stmt} {t t':TS} (h:PS X st t) (k:∀ D σ H,t' D σ H→t D σ H):PS X st t':=fun pins s σ H D I q=>h pins s σ H D I (k D σ H q)
theorem zmz {X:Cx} {h:Addr} {oe:Obj} (Hd:Hnd X h oe) {C:Addr} {n f:Str} {te:TE} {e:Expr} {pos:Pos} (ec:PySem.W.ExcCls X.K C) (hh:PySem.W.hasDictIn X.K C=true) (hf:PySem.W.findIn X.K (.ref C) f=some none)
    (he:PE X e te) (hb:attributeBase e f X.env (eval e X.env)=eval e X.env):PE X (.Attribute e f pos) (fun σ H Q=>oe.cls=.ref C∧∃ dx,oe.dict=some dx∧te σ H fun x H1=>x=.ref h∧∃ fs t,H1 dx=some (.xd fs)∧fs.lookup f=some (.ref t)∧Q (.ref t) H1):=by
  rintro pins s σ H Q I ⟨hc,dx,hdd,hq⟩
  exact zn7 (n:=f) Hd hc hdd ec hh hf he hb pins s σ H Q I hq
end L2
namespace NCP
open PySem L2 NC
def overB:List Value→Bool
  | []=>false
  | v::r=>v::r==bmVE||match v with
    | .ref _=>overB r
    | _=>false
theorem zh3:∀ {l:List Value},overB l=true→PySem.W.OverV l
  | [],h=>nomatch h
  | v::r,h=>by
    unfold overB at h
    rw [Bool.or_eq_true] at h
    rcases h with h | h
    · rw [eq_of_beq h]
      exact .base
    · split at h
      · exact .own (zh3 h)
      · cases h
def ownI (K:PySem.W.Frag) (C fI:Addr):Bool :=
  match K.lookup C with
  | some ⟨.type "type",_,.cls cd,sl⟩=>(match cd.mro,sl.toList with
    | .ref D::tl,[_,_,_,_,some (.builtin i),_]=>D==C&&(i=="ValueError.__new__")&&!cd.hasDel&&PySem.W.tailIn K bmVE tl&&PySem.W.nsOkIn K cd.ns&&(PySem.W.nsIn K cd.ns "__init__"==some (some (.ref fI))&&(overB cd.mro&&cd.hasDict))
    | _,_=>false)
  | _=>false
theorem zpv {K:PySem.W.Frag} {h:Heap} {N:Addr} {m:Str→Option Value} {x:Str} {v:Value} (X:K.In h) (G:h.Ns N m) (e:PySem.W.nsIn K N x=some (some v)):m x=some v:=by
  obtain ⟨o,es,ep,ho,hd,_,hf⟩:=G
  unfold PySem.W.nsIn at e
  split at e
  · rename_i c d es1 n1 sl q
    have z:=X _ _ q
    rw [ho] at z
    cases z
    cases hd
    split at e
    · rename_i en he
      cases e
      rw [← hf]
      unfold nsFind findBy
      rw [← Array.find?_toList,he]
      rfl
    · split at e <;> cases e
  · cases e
theorem zpw {K:PySem.W.Frag} {h:Heap} {C fI:Addr} (X:K.In h) (q:ownI K C fI=true):OwnI C fI h∧∃ cd,PySem.W.clsIn K C=some cd∧PySem.W.OverV cd.mro∧cd.hasDict=true:=by
  unfold ownI at q
  split at q
  · rename_i dd cd sl ho
    split at q
    · rename_i D tl k0 k1 k2 k3 n k5 hm hs
      simp only [Bool.and_eq_true,beq_iff_eq,Bool.not_eq_true'] at q
      obtain ⟨⟨⟨⟨⟨rfl,rfl⟩,hdel⟩,ht⟩,hok⟩,hni,hov,hhd⟩:=q
      refine ⟨?_,cd,?_,zh3 hov,hhd⟩
      · obtain ⟨nm,bs,mro,ns,qn,hd,sn,sub,ab,col,del⟩:=cd
        dsimp only at hm hdel hok hni
        subst hm hdel
        have hsl:sl=#[k0,k1,k2,k3,some (.builtin "ValueError.__new__"),k5]:=by
          obtain ⟨l⟩:=sl
          simp only at hs
          rw [hs]
        subst hsl
        exact ⟨tl,ns,nm,qn,bs,hd,sn,sub,ab,col,dd,k0,k1,k2,k3,k5,_,X _ _ ho,.of_isNs (PySem.W.isNs_of_in X hok),zpv X (.of_isNs (PySem.W.isNs_of_in X hok)) hni,PySem.W.tail_of_in X ht⟩
      · unfold PySem.W.clsIn
        rw [ho]
    · cases q
  · cases q
def spOtherD (C:Addr) (j:Nat) (h:Addr) (oe:Obj):Sp:=fun vs H Q _=>∃ (wd:Nat) (dx:Addr) (fs:List (Str × V)),vs=[.ref h,.int wd]∧wd<4∧oe.cls=.ref C∧oe.dict=some dx∧H dx=some (.xd fs)∧∀ H',Same H H'→Q (.bl (!decide (j=wd))) H'
def Bad (wh:Nat) (n:Int) (bs cs:List (List Int)):Prop:=¬ Parting n bs∨(5≤wh∧wh≤7∧¬ Parting n cs)
def Crossed (wh:Nat) (n:Int) (bs cs:List (List Int)) (u:List Nat):Prop:=wh<7∧∃ w,Wd n bs w∧((wh<5∧¬ Free w∧u=w)∨(5≤wh∧∃ v,Wd n cs v∧((¬ Free w∧u=w)∨(Free w∧¬ Free v∧u=v))))
def Fine (wh:Nat) (n:Int) (bs cs:List (List Int)):Prop:=∃ w,Wd n bs w∧(wh<7→Free w)∧(5≤wh→wh≤7→∃ v,Wd n cs v∧(wh<7→Free v))
def Comes (C0 C1:Addr) (wh:Nat) (n:Int) (bs cs:List (List Int)) (H:Hp) (E:XK) (R:Hp→Prop):Prop :=
  (Bad wh n bs cs∧XNo C0 H E)∨(∃ u,Crossed wh n bs cs u∧XCr C1 u H E)∨(Fine wh n bs cs∧∀ H',Same H H'→R H')
theorem Comes.imp {C0 C1:Addr} {wh:Nat} {n:Int} {bs cs:List (List Int)} {H:Hp} {E:XK} {R R':Hp→Prop} (h:Comes C0 C1 wh n bs cs H E R) (k:∀ H',R H'→R' H'):Comes C0 C1 wh n bs cs H E R' :=
  Or.imp id (fun h=>Or.imp id (fun h=>⟨h.1,fun H' s=>k H' (h.2 H' s)⟩) h) h
def spCalled (C0 C1:Addr):Sp:=fun vs H Q E=>∃ (wh:Nat) (n:Int) (p q:Addr) (bs cs:List (List Int)),vs=[.int wh,.int n,.ref p,.ref q]∧wh<9∧AnyL H p bs∧AnyL H q cs∧Comes C0 C1 wh n bs cs H E fun H'=>Q .non H'
section
variable {C0 C1 p q:Addr} {wh:Nat} {n:Int} {bs cs:List (List Int)} {H:Hp} {E:XK} {R:Hp→Prop}
theorem zbv (hw:wh<5) (hL:AnyL H p bs) (h:Comes C0 C1 wh n bs cs H E R):spOne C0 C1 [.int n,.ref p] H (fun _ H'=>R H') E:=by
  refine ⟨n,p,bs,rfl,hL,?_⟩
  rcases h with ⟨hb,x⟩ | ⟨u,⟨_,w,hW,hc⟩,x⟩ | ⟨⟨w,hW,hF,_⟩,q⟩
  · exact .inl ⟨hb.elim id fun z=>absurd z.1 (by omega),x⟩
  · rcases hc with ⟨_,hF,rfl⟩ | ⟨z,_⟩
    · exact .inr (.inl ⟨u,hW,hF,x⟩)
    · omega
  · exact .inr (.inr ⟨w,hW,hF (by omega),fun _ H' s=>q H' s⟩)
theorem zh4 (hw:5≤wh) (hw':wh<7) (hL:AnyL H p bs) (hM:AnyL H q cs) (h:Comes C0 C1 wh n bs cs H E R):spTwo' C0 C1 [.int n,.ref p,.ref q] H (fun _ H'=>R H') E:=by
  refine ⟨n,p,q,bs,cs,rfl,hL,hM,?_⟩
  rcases h with ⟨hb,x⟩ | ⟨u,⟨_,w,hW,hc⟩,x⟩ | ⟨⟨w,hW,hF,h2⟩,q⟩
  · exact .inl ⟨hb.imp id fun z=>z.2.2,x⟩
  · rcases hc with ⟨z,_⟩ | ⟨_,v,hV,⟨hF,rfl⟩ | ⟨hF,hF2,rfl⟩⟩
    · omega
    · exact .inr (.inl ⟨u,v,hW,hV,.inl ⟨hF,x⟩⟩)
    · exact .inr (.inl ⟨w,u,hW,hV,.inr ⟨hF,hF2,x⟩⟩)
  · obtain ⟨v,hV,hF2⟩:=h2 hw (by omega)
    exact .inr (.inr ⟨w,v,hW,hV,hF hw',hF2 hw',fun _ H' s=>q H' s⟩)
theorem zm0 (hw:wh=7) (hL:AnyL H p bs) (hM:AnyL H q cs) (h:Comes C0 C1 wh n bs cs H E R):spTwoB C0 [.int n,.ref p,.ref q] H (fun _ H'=>R H') E:=by
  refine ⟨n,p,q,bs,cs,rfl,hL,hM,?_⟩
  rcases h with ⟨hb,x⟩ | ⟨u,⟨z,_⟩,x⟩ | ⟨⟨w,hW,hF,h2⟩,q⟩
  · exact .inl ⟨hb.imp id fun z=>z.2.2,x⟩
  · omega
  · obtain ⟨v,hV,_⟩:=h2 (by omega) (by omega)
    exact .inr ⟨w,v,hW,hV,fun _ H' s=>q H' s⟩
theorem zm1 (hw:wh=8) (hL:AnyL H p bs) (h:Comes C0 C1 wh n bs cs H E R):spOneS C0 [.int n,.ref p] H (fun _ H'=>R H') E:=by
  refine ⟨n,p,bs,rfl,hL,?_⟩
  rcases h with ⟨hb,x⟩ | ⟨u,⟨z,_⟩,x⟩ | ⟨⟨w,hW,_,_⟩,q⟩
  · exact .inl ⟨hb.elim id fun z=>absurd z.2.1 (by omega),x⟩
  · omega
  · exact .inr ⟨w,hW,fun _ H' s=>q H' s⟩
end
def tW (wh k:Nat) (σ0:St) (E:XK) (sp:Sp) (vs:List V):TS:=fun D σ H=>σ=σ0∧(wh=k→sp vs H (fun _ H'=>D.nx σ0 H') E)∧(wh≠k→D.nx σ0 H)
theorem yb {wh k:Nat} {σ0:St} {E:XK} {sp:Sp} {vs:List V} {D:Ends} {H:Hp} (h:wh≠k) (q:D.nx σ0 H):tW wh k σ0 E sp vs D σ0 H:=⟨rfl,fun z=>absurd z h,fun _=>q⟩
def spTold16:Sp:=fun vs H Q _=>∃ (wh:Nat) (n:Int) (p q:Addr) (bs cs:List (List Int)),vs=[.int wh,.int n,.ref p,.ref q]∧wh<9∧AnyL H p bs∧AnyL H q cs ∧
  ((Bad wh n bs cs∧∀ r H',Same H H'→H' r=some (.tup [.int 1,.non])→Q (.ref r) H') ∨
   (∃ u,Crossed wh n bs cs u∧∀ (r t a b c d:Nat) H',Same H H'→H' r=some (.tup [.int 2,.ref t])→H' t=some (.tup [.int a,.int b,.int c,.int d])→IsCross u a b c d→Q (.ref r) H') ∨
   (Fine wh n bs cs∧∀ r H',Same H H'→H' r=some (.tup [.int 0,.non])→Q (.ref r) H'))
def spIsCr:Sp:=fun vs H Q _=>∃ (p t:Addr) (w:List Nat) (a b c d:Nat),vs=[.int w.length,.ref p,.ref t]∧LL H p (zb (gather w))∧w.length≤10∧H t=some (.tup [.int a,.int b,.int c,.int d])∧IsCross w a b c d∧∀ H',Same H H'→Q (.bl true) H'
def spSpoilt2:Sp:=fun vs H Q _=>∃ (p:Addr) (cell:Int) (bs:List (List Int)),vs=[.ref p,.int cell]∧LL H p bs∧bs≠[]∧(∀ b∈bs,b≠[])∧bs.flatten.length≤12∧∀ r bs' H',Same H H'→AnyL H' r bs'→Q (.ref r) H'
end NCP
namespace NCP
open PySem L2
def top (i:Nat):Stmt:=PySem.Challenge.pw_nocrossing_k16_which_refusal.main.body.getD i (.Pass ⟨0,0,0,0⟩)
abbrev y1:Stmt:=inClass (top 3) 0
abbrev v9:Stmt:=top 8
abbrev wk:Stmt:=top 9
abbrev yx:Stmt:=top 10
abbrev zr:Stmt:=top 11
abbrev yg:Stmt:=top 12
abbrev yw:Stmt:=top 13
abbrev yn:Stmt:=top 14
abbrev yc:Stmt:=top 15
abbrev zo:Stmt:=top 16
abbrev xf:Stmt:=top 17
abbrev y4:Stmt:=top 19
abbrev va:Stmt:=top 20
abbrev zq:Stmt:=top 21
abbrev s_met:Stmt:=top 22
abbrev xu:Stmt:=top 23
abbrev wl:Stmt:=top 24
abbrev w6:Stmt:=top 25
abbrev xj:Stmt:=top 27
abbrev xg:Stmt:=top 28
abbrev xw:Stmt:=top 29
abbrev w8:Stmt:=top 30
abbrev wy:Stmt:=top 32
abbrev vg:Stmt:=top 33
abbrev xm:Stmt:=top 34
abbrev wt:Stmt:=top 35
abbrev y6:Stmt:=top 36
abbrev y8:Stmt:=top 39
abbrev vb:Stmt:=top 40
abbrev yy:Stmt:=top 42
abbrev yz:Stmt:=top 43
abbrev xn:Stmt:=top 44
abbrev xk:Stmt:=top 45
abbrev xx:Stmt:=top 46
abbrev xo:Stmt:=top 47
abbrev wm:Stmt:=top 48
abbrev y0:Stmt:=top 49
abbrev xy:Stmt:=top 50
abbrev xz:Stmt:=top 51
abbrev ww:Stmt:=top 52
abbrev yo:Stmt:=top 53
abbrev s_law:Stmt:=top 54
end NCP
namespace NCP
open PySem L2 NC
section
variable {P:Program} {w:World} {K:PySem.W.Frag} {mg:Str→Option Value} {base:Heap}
theorem zoo:FnScope ["self","points"] ["self","points"] (defScope y1):=⟨rfl,rfl,rfl,by decide +kernel,rfl,by decide +kernel,by decide +kernel⟩
theorem zop {f fI R C:Addr} {fd:FuncData} (hR:mg "RingError"=some (.ref R)) (RI:RInit K R) (O:OwnI C fI base) (S:XSet K C "points") (F:Fun K "__init__" "Crossing.__init__" y1 f fd) :
    FnOk P w K mg base (CXe P w) 1 f fd ["self","points"] (spXInit C "points"):=by
  refine F.okE zoo (fun vs H Q E h=>?_) (fun cdv A outer s H vs Q E hr h=>?_)
  · obtain ⟨e,t,a,b,c,d,rfl,_⟩:=h
    rfl
  · obtain ⟨e,t,a,b,c,d,rfl,he,ht,ha,hb,hc,hd,q⟩:=h
    refine ⟨_,zd (zm (zob (C:=C) (fI:=fI) RI O rfl hR (za (pv 0) (za (zn9 hr.gd hr.units (by decide) (pv 1)) zc)))) (zg (zpl S (pv 0) (pv 1) rfl)),?_⟩
    refine ⟨_,rfl,_,rfl,t,a,b,c,d,rfl,ht,ha,hb,hc,hd,fun y=>⟨e,.str y,rfl,he,?_⟩⟩
    exact ⟨_,rfl,_,rfl,e,rfl,he,fun D hD hDe=>q D hD hDe⟩
end
end NCP
namespace NCP
open PySem L2 NC
section
variable {P:Program} {w:World} {K:PySem.W.Frag} {mg:Str→Option Value} {base:Heap}
theorem sc_cross_e:FnScope ["points","blocks","found"] ["points","blocks"] (defScope yc):=⟨rfl,rfl,rfl,by decide +kernel,rfl,by decide +kernel,by decide +kernel⟩
theorem zkt {f fB fF fI C1:Addr} {fd fdB fdF fdI:FuncData} {oI:Obj} (O:OwnI C1 fI base) (hC:mg "Crossing"=some (.ref C1)) (hI:K.lookup fI=some oI) (hIc:oI.cls=.type "function")
    (GI:FnOk P w K mg base (CXe P w) 1 fI fdI ["self","points"] (spXInit C1 "points")) (bI:Binds K fdI ["self","points"] []) (F:Fun K "refuse_crossing" "refuse_crossing" yc f fd)
    (DB:Dn K mg "block_places" yg ["points","blocks"] fB fdB) (GB:FnOk P w K mg base (CXe P w) 1 fB fdB ["points","blocks"] spBlockPlaces)
    (DF:Dn K mg "first_crossing" yn ["labels"] fF fdF) (GF:FnOk P w K mg base (CXe P w) 1 fF fdF ["labels"] (spFirstCrossing K)):FnOk P w K mg base (CXe P w) 3 f fd ["points","blocks"] (spCrossR C1):=by
  refine F.okE sc_cross_e (fun vs H Q E h=>?_) (fun cdv A outer s H vs Q E hr h=>?_)
  · obtain ⟨p,wd,rfl,_⟩:=h
    rfl
  · obtain ⟨p,wd,rfl,hL,hz,hF,q⟩:=h
    have nd:=sc_cross_e.nd
    have hr1:=hr.mono (show 1≤2 by decide)
    refine ⟨_,zd (zk (i:=2) nd rfl (Or.inl rfl) (zh GF hr1 rfl DF.at_ DF.fn.kp DF.bd .nil (passN cxNoE) (za (zh GB hr1 rfl DB.at_ DB.fn.kp DB.bd .nil (passN cxNoE) (za (pv 0) (za (pv 1) zc))) zc)))
      (zg (ps_if (zv zde (pv 2) zah (nomark _)) (zg (zmp (f:="points") lv_of rfl O hC rfl hI hIc GI bI hr (za (pv 2) zc))) zu)),?_⟩
    have hz3:wd.length≤1000:=by omega
    refine ⟨_,rfl,_,rfl,p,wd,rfl,hL,hz3,fun l H1 N1=>⟨l,canon wd,rfl,SqL.of N1.at_,by rw [zx];exact hz3,fun z H2 s2=>?_,fun t a b c d H2 x s2 ht h2=>?_⟩⟩
    · exact absurd (free_canon.mp z) hF
    · have x':=cross_canon.mp x
      obtain ⟨x1,x2,x3,x4,_⟩:=id x'
      refine ⟨_,rfl,rfl,_,rfl,iteT ?_⟩
      refine ⟨_,rfl,t,a,b,c,d,rfl,h2,by omega,by omega,by omega,by omega,fun D H3 s3 h3=>?_⟩
      exact q D t a b c d H3 ((N1.same.trans s2).trans s3) h3 (s3 _ _ h2) x'
end
end NCP
namespace NCP
open PySem L2 NC
section
variable {P:Program} {w:World} {K:PySem.W.Frag} {mg:Str→Option Value} {base:Heap} {C0 C1:Addr}
theorem zm2:FnScope ["points","blocks"] ["points","blocks"] (defScope zo):=⟨rfl,rfl,rfl,by decide +kernel,rfl,by decide +kernel,by decide +kernel⟩
theorem zm3 {f fN fC:Addr} {fd fdN fdC:FuncData} (F:Fun K "refuse_unless_free" "refuse_unless_free" zo f fd)
    (DN:Dn K mg "refuse_no_parting" zr ["points","blocks"] fN fdN) (GN:FnOk P w K mg base (CXe P w) 3 fN fdN ["points","blocks"] spNoRefuse) (GNE:FnOk P w K mg base (CXe P w) 3 fN fdN ["points","blocks"] (spRefuse C0))
    (DC:Dn K mg "refuse_crossing" yc ["points","blocks"] fC fdC) (GC:FnOk P w K mg base (CXe P w) 3 fC fdC ["points","blocks"] (spCrossR C1)):FnOk P w K mg base (CXe P w) 4 f fd ["points","blocks"] (spOneR C0 C1):=by
  refine F.okE zm2 (fun vs H Q E h=>?_) (fun cdv A outer s H vs Q E hr h=>?_)
  · obtain ⟨n,p,bs,rfl,_⟩:=h
    rfl
  · obtain ⟨n,p,bs,rfl,hL,⟨hP,q⟩ | ⟨u,hW,hF,q⟩⟩:=h
    · refine ⟨_,zd (zm (zh GNE hr rfl DN.at_ DN.fn.kp DN.bd .nil (passL lv_of) (za (pv 0) (za (pv 1) zc)))) yj,?_⟩
      exact ⟨_,rfl,_,rfl,n,p,bs,rfl,hL.ll,hL.z1,hL.z2,hL.z3,hP,q⟩
    · refine ⟨_,zd (zm (zh GN hr rfl DN.at_ DN.fn.kp DN.bd .nil (passN cxNoE) (za (pv 0) (za (pv 1) zc))))
        (zg (zm (zh GC hr rfl DC.at_ DC.fn.kp DC.bd .nil (passL lv_of) (za (pv 0) (za (pv 1) zc))))),?_⟩
      have hP:=hW.ok
      obtain ⟨rfl,rfl,hz⟩:=hW
      refine ⟨_,rfl,_,rfl,_,p,_,rfl,hL.ll,hL.z1,hL.z2,hL.z3,hP,fun H1 s1=>?_⟩
      exact ⟨_,rfl,_,rfl,p,u,rfl,hL.ll.mono s1,hz,hF,q.mono s1⟩
theorem zm4:FnScope ["points","one","other"] ["points","one","other"] (defScope zq):=⟨rfl,rfl,rfl,by decide +kernel,rfl,by decide +kernel,by decide +kernel⟩
theorem zm5 {f fN fC:Addr} {fd fdN fdC:FuncData} (F:Fun K "refuse_unless_both_free" "refuse_unless_both_free" zq f fd)
    (DN:Dn K mg "refuse_no_parting" zr ["points","blocks"] fN fdN) (GN:FnOk P w K mg base (CXe P w) 3 fN fdN ["points","blocks"] spNoRefuse) (GNE:FnOk P w K mg base (CXe P w) 3 fN fdN ["points","blocks"] (spRefuse C0))
    (DC:Dn K mg "refuse_crossing" yc ["points","blocks"] fC fdC) (GC0:FnOk P w K mg base (CXe P w) 2 fC fdC ["points","blocks"] spNoCross) (GC:FnOk P w K mg base (CXe P w) 3 fC fdC ["points","blocks"] (spCrossR C1)) :
    FnOk P w K mg base (CXe P w) 4 f fd ["points","one","other"] (spTwoR C0 C1):=by
  refine F.okE zm4 (fun vs H Q E h=>?_) (fun cdv A outer s H vs Q E hr h=>?_)
  · obtain ⟨n,p,q,bs,cs,rfl,_⟩:=h
    rfl
  · obtain ⟨n,p,q,bs,cs,rfl,hL,hM,⟨hP,x⟩ | ⟨u,v,hW,hV,hF⟩⟩:=h
    · by_cases h1:Parting n bs
      · have h2:¬ Parting n cs:=hP.elim (fun z=>absurd h1 z) id
        refine ⟨_,zd (zm (zh GN hr rfl DN.at_ DN.fn.kp DN.bd .nil (passN cxNoE) (za (pv 0) (za (pv 1) zc))))
          (zd (zm (zh GNE hr rfl DN.at_ DN.fn.kp DN.bd .nil (passL lv_of) (za (pv 0) (za (pv 2) zc)))) yj),?_⟩
        refine ⟨_,rfl,_,rfl,n,p,bs,rfl,hL.ll,hL.z1,hL.z2,hL.z3,h1,fun H1 s1=>?_⟩
        have hM1:=hM.mono s1
        exact ⟨_,rfl,_,rfl,n,q,cs,rfl,hM1.ll,hM.z1,hM.z2,hM.z3,h2,x.mono s1⟩
      · refine ⟨_,zd (zm (zh GNE hr rfl DN.at_ DN.fn.kp DN.bd .nil (passL lv_of) (za (pv 0) (za (pv 1) zc)))) yj,?_⟩
        exact ⟨_,rfl,_,rfl,n,p,bs,rfl,hL.ll,hL.z1,hL.z2,hL.z3,h1,x⟩
    · have hr2:=hr.mono (show 2≤3 by decide)
      have e:=hW.len hV
      have h1:=hW.ok
      have h2:=hV.ok
      obtain ⟨rfl,rfl,hz⟩:=hW
      obtain ⟨en,rfl,_⟩:=hV
      rcases hF with ⟨hF,x⟩ | ⟨hF,hF2,x⟩
      · refine ⟨_,zd (zm (zh GN hr rfl DN.at_ DN.fn.kp DN.bd .nil (passN cxNoE) (za (pv 0) (za (pv 1) zc))))
          (zd (zm (zh GN hr rfl DN.at_ DN.fn.kp DN.bd .nil (passN cxNoE) (za (pv 0) (za (pv 2) zc))))
          (zd (zm (zh GC hr rfl DC.at_ DC.fn.kp DC.bd .nil (passL lv_of) (za (pv 0) (za (pv 1) zc)))) yj)),?_⟩
        refine ⟨_,rfl,_,rfl,_,p,_,rfl,hL.ll,hL.z1,hL.z2,hL.z3,h1,fun H1 s1=>?_⟩
        refine ⟨_,rfl,_,rfl,_,q,_,rfl,hM.ll.mono s1,hM.z1,hM.z2,hM.z3,h2,fun H2 s2=>?_⟩
        exact ⟨_,rfl,_,rfl,p,u,rfl,hL.ll.mono (s1.trans s2),hz,hF,x.mono (s1.trans s2)⟩
      · refine ⟨_,zd (zm (zh GN hr rfl DN.at_ DN.fn.kp DN.bd .nil (passN cxNoE) (za (pv 0) (za (pv 1) zc))))
          (zd (zm (zh GN hr rfl DN.at_ DN.fn.kp DN.bd .nil (passN cxNoE) (za (pv 0) (za (pv 2) zc))))
          (zd (zm (zh GC0 hr2 rfl DC.at_ DC.fn.kp DC.bd .nil (passN cxNoE) (za (pv 0) (za (pv 1) zc))))
          (zg (zm (zh GC hr rfl DC.at_ DC.fn.kp DC.bd .nil (passL lv_of) (za (pv 0) (za (pv 2) zc))))))),?_⟩
        refine ⟨_,rfl,_,rfl,_,p,_,rfl,hL.ll,hL.z1,hL.z2,hL.z3,h1,fun H1 s1=>?_⟩
        refine ⟨_,rfl,_,rfl,_,q,_,rfl,hM.ll.mono s1,hM.z1,hM.z2,hM.z3,h2,fun H2 s2=>?_⟩
        have s02:=s1.trans s2
        refine ⟨_,rfl,_,rfl,p,u,rfl,hL.ll.mono s02,by omega,hF,fun H3 s3=>?_⟩
        have s03:=s02.trans s3
        refine ⟨_,rfl,_,rfl,q,v,?_,hM.ll.mono s03,by omega,hF2,x.mono s03⟩
        rw [e]
        rfl
end
end NCP
namespace NCP
open PySem L2 NC
section
variable {P:Program} {w:World} {K:PySem.W.Frag} {mg:Str→Option Value} {base:Heap} {C0 C1:Addr}
theorem zgr:FnScope ["points","blocks","order","block","place","point"] ["points","blocks"] (defScope xf):=⟨rfl,rfl,rfl,by decide +kernel,rfl,by decide +kernel,by decide +kernel⟩
theorem zgs {f fU:Addr} {fd fdU:FuncData} (F:Fun K "order_of" "order_of" xf f fd) (DU:Dn K mg "refuse_unless_free" zo ["points","blocks"] fU fdU)
    (GU:FnOk P w K mg base (CXe P w) 4 fU fdU ["points","blocks"] (spOneR C0 C1)):FnOk P w K mg base (CXe P w) 5 f fd ["points","blocks"] (spOneR C0 C1):=by
  refine F.okE zgr (fun vs H Q E h=>?_) (fun cdv A outer s H vs Q E hr h=>?_)
  · obtain ⟨n,p,bs,rfl,_⟩:=h
    rfl
  · obtain ⟨n,p,bs,rfl,hL,x⟩:=h
    refine ⟨_,zd (zm (zh GU hr rfl DU.at_ DU.fn.kp DU.bd .nil (passL lv_of) (za (pv 0) (za (pv 1) zc)))) yj,?_⟩
    exact ⟨_,rfl,_,rfl,n,p,bs,rfl,hL,x⟩
theorem ziz:FnScope ["points","blocks","places"] ["points","blocks"] (defScope w8):=⟨rfl,rfl,rfl,by decide +kernel,rfl,by decide +kernel,by decide +kernel⟩
theorem zi0 {f fU:Addr} {fd fdU:FuncData} (F:Fun K "turned" "turned" w8 f fd) (DU:Dn K mg "refuse_unless_free" zo ["points","blocks"] fU fdU)
    (GU:FnOk P w K mg base (CXe P w) 4 fU fdU ["points","blocks"] (spOneR C0 C1)):FnOk P w K mg base (CXe P w) 5 f fd ["points","blocks"] (spOneR C0 C1):=by
  refine F.okE ziz (fun vs H Q E h=>?_) (fun cdv A outer s H vs Q E hr h=>?_)
  · obtain ⟨n,p,bs,rfl,_⟩:=h
    rfl
  · obtain ⟨n,p,bs,rfl,hL,x⟩:=h
    refine ⟨_,zd (zm (zh GU hr rfl DU.at_ DU.fn.kp DU.bd .nil (passL lv_of) (za (pv 0) (za (pv 1) zc)))) yj,?_⟩
    exact ⟨_,rfl,_,rfl,n,p,bs,rfl,hL,x⟩
theorem zh5:FnScope ["points","blocks","ways","steps","block"] ["points","blocks"] (defScope wt):=⟨rfl,rfl,rfl,by decide +kernel,rfl,by decide +kernel,by decide +kernel⟩
theorem zh6 {f fU:Addr} {fd fdU:FuncData} (F:Fun K "ways_up" "ways_up" wt f fd) (DU:Dn K mg "refuse_unless_free" zo ["points","blocks"] fU fdU)
    (GU:FnOk P w K mg base (CXe P w) 4 fU fdU ["points","blocks"] (spOneR C0 C1)):FnOk P w K mg base (CXe P w) 5 f fd ["points","blocks"] (spOneR C0 C1):=by
  refine F.okE zh5 (fun vs H Q E h=>?_) (fun cdv A outer s H vs Q E hr h=>?_)
  · obtain ⟨n,p,bs,rfl,_⟩:=h
    rfl
  · obtain ⟨n,p,bs,rfl,hL,x⟩:=h
    refine ⟨_,zd (zm (zh GU hr rfl DU.at_ DU.fn.kp DU.bd .nil (passL lv_of) (za (pv 0) (za (pv 1) zc)))) yj,?_⟩
    exact ⟨_,rfl,_,rfl,n,p,bs,rfl,hL,x⟩
theorem zfd:FnScope ["points","blocks","table","opened","number","point","place","choice"] ["points","blocks"] (defScope y6):=⟨rfl,rfl,rfl,by decide +kernel,rfl,by decide +kernel,by decide +kernel⟩
theorem zfe {f fU:Addr} {fd fdU:FuncData} (F:Fun K "number_of" "number_of" y6 f fd) (DU:Dn K mg "refuse_unless_free" zo ["points","blocks"] fU fdU)
    (GU:FnOk P w K mg base (CXe P w) 4 fU fdU ["points","blocks"] (spOneR C0 C1)):FnOk P w K mg base (CXe P w) 5 f fd ["points","blocks"] (spOneR C0 C1):=by
  refine F.okE zfd (fun vs H Q E h=>?_) (fun cdv A outer s H vs Q E hr h=>?_)
  · obtain ⟨n,p,bs,rfl,_⟩:=h
    rfl
  · obtain ⟨n,p,bs,rfl,hL,x⟩:=h
    refine ⟨_,zd (zm (zh GU hr rfl DU.at_ DU.fn.kp DU.bd .nil (passL lv_of) (za (pv 0) (za (pv 1) zc)))) yj,?_⟩
    exact ⟨_,rfl,_,rfl,n,p,bs,rfl,hL,x⟩
theorem sc_contrary_r:FnScope ["points","blocks","back"] ["points","blocks"] (defScope xw):=⟨rfl,rfl,rfl,by decide +kernel,rfl,by decide +kernel,by decide +kernel⟩
theorem zgt {f fO fK:Addr} {fd fdO fdK:FuncData} (F:Fun K "contrary" "contrary" xw f fd) (DO:Dn K mg "order_of" xf ["points","blocks"] fO fdO)
    (GO:FnOk P w K mg base (CXe P w) 5 fO fdO ["points","blocks"] (spOneR C0 C1)) (DK:Dn K mg "order_back" xj ["order"] fK fdK) (GK:FnOk P w K mg base (CXe P w) 1 fK fdK ["order"] spBack):FnOk P w K mg base (CXe P w) 6 f fd ["points","blocks"] (spOneR C0 C1):=by
  refine F.okE sc_contrary_r (fun vs H Q E h=>?_) (fun cdv A outer s H vs Q E hr h=>?_)
  · obtain ⟨n,p,bs,rfl,_⟩:=h
    rfl
  · obtain ⟨n,p,bs,rfl,hL,x⟩:=h
    have nd:=sc_contrary_r.nd
    have hr1:=hr.mono (show 1≤5 by decide)
    refine ⟨_,zd (zk (i:=2) nd rfl (Or.inl rfl) (zh GK hr1 rfl DK.at_ DK.fn.kp DK.bd .nil (passN cxNoE) (za (zh GO hr rfl DO.at_ DO.fn.kp DO.bd .nil (passL lv_of) (za (pv 0) (za (pv 1) zc))) zc))) yj,?_⟩
    exact ⟨_,rfl,_,rfl,n,p,bs,rfl,hL,x⟩
theorem zoq:FnScope ["points","one","other"] ["points","one","other"] (defScope s_met):=⟨rfl,rfl,rfl,by decide +kernel,rfl,by decide +kernel,by decide +kernel⟩
theorem zor {f fU:Addr} {fd fdU:FuncData} (F:Fun K "met" "met" s_met f fd) (DU:Dn K mg "refuse_unless_both_free" zq ["points","one","other"] fU fdU)
    (GU:FnOk P w K mg base (CXe P w) 4 fU fdU ["points","one","other"] (spTwoR C0 C1)):FnOk P w K mg base (CXe P w) 5 f fd ["points","one","other"] (spTwoR C0 C1):=by
  refine F.okE zoq (fun vs H Q E h=>?_) (fun cdv A outer s H vs Q E hr h=>?_)
  · obtain ⟨n,p,q,bs,cs,rfl,_⟩:=h
    rfl
  · obtain ⟨n,p,q,bs,cs,rfl,x⟩:=h
    refine ⟨_,zd (zm (zh GU hr rfl DU.at_ DU.fn.kp DU.bd .nil (passL lv_of) (za (pv 0) (za (pv 1) (za (pv 2) zc))))) yj,?_⟩
    exact ⟨_,rfl,_,rfl,_,rfl,n,p,q,bs,cs,rfl,x⟩
theorem zi1:FnScope ["points","one","other","labels","block","point"] ["points","one","other"] (defScope w6):=⟨rfl,rfl,rfl,by decide +kernel,rfl,by decide +kernel,by decide +kernel⟩
theorem zi2 {f fU:Addr} {fd fdU:FuncData} (F:Fun K "joined" "joined" w6 f fd) (DU:Dn K mg "refuse_unless_both_free" zq ["points","one","other"] fU fdU)
    (GU:FnOk P w K mg base (CXe P w) 4 fU fdU ["points","one","other"] (spTwoR C0 C1)):FnOk P w K mg base (CXe P w) 5 f fd ["points","one","other"] (spTwoR C0 C1):=by
  refine F.okE zi1 (fun vs H Q E h=>?_) (fun cdv A outer s H vs Q E hr h=>?_)
  · obtain ⟨n,p,q,bs,cs,rfl,_⟩:=h
    rfl
  · obtain ⟨n,p,q,bs,cs,rfl,x⟩:=h
    refine ⟨_,zd (zm (zh GU hr rfl DU.at_ DU.fn.kp DU.bd .nil (passL lv_of) (za (pv 0) (za (pv 1) (za (pv 2) zc))))) yj,?_⟩
    exact ⟨_,rfl,_,rfl,_,rfl,n,p,q,bs,cs,rfl,x⟩
theorem zku:FnScope ["points","one","other","places"] ["points","one","other"] (defScope va):=⟨rfl,rfl,rfl,by decide +kernel,rfl,by decide +kernel,by decide +kernel⟩
theorem zkv {f fN:Addr} {fd fdN:FuncData} (F:Fun K "below" "below" va f fd) (DN:Dn K mg "refuse_no_parting" zr ["points","blocks"] fN fdN)
    (GN:FnOk P w K mg base (CXe P w) 3 fN fdN ["points","blocks"] spNoRefuse) (GNE:FnOk P w K mg base (CXe P w) 3 fN fdN ["points","blocks"] (spRefuse C0)):FnOk P w K mg base (CXe P w) 4 f fd ["points","one","other"] (spTwoN C0):=by
  refine F.okE zku (fun vs H Q E h=>?_) (fun cdv A outer s H vs Q E hr h=>?_)
  · obtain ⟨n,p,q,bs,cs,rfl,_⟩:=h
    rfl
  · obtain ⟨n,p,q,bs,cs,rfl,hL,hM,hP,x⟩:=h
    by_cases h1:Parting n bs
    · have h2:¬ Parting n cs:=hP.elim (fun z=>absurd h1 z) id
      refine ⟨_,zd (zm (zh GN hr rfl DN.at_ DN.fn.kp DN.bd .nil (passN cxNoE) (za (pv 0) (za (pv 1) zc))))
        (zd (zm (zh GNE hr rfl DN.at_ DN.fn.kp DN.bd .nil (passL lv_of) (za (pv 0) (za (pv 2) zc)))) yj),?_⟩
      refine ⟨_,rfl,_,rfl,n,p,bs,rfl,hL.ll,hL.z1,hL.z2,hL.z3,h1,fun H1 s1=>?_⟩
      have hM1:=hM.mono s1
      exact ⟨_,rfl,_,rfl,n,q,cs,rfl,hM1.ll,hM.z1,hM.z2,hM.z3,h2,x.mono s1⟩
    · refine ⟨_,zd (zm (zh GNE hr rfl DN.at_ DN.fn.kp DN.bd .nil (passL lv_of) (za (pv 0) (za (pv 1) zc)))) yj,?_⟩
      exact ⟨_,rfl,_,rfl,n,p,bs,rfl,hL.ll,hL.z1,hL.z2,hL.z3,h1,x⟩
theorem zkw:FnScope ["points","blocks"] ["points","blocks"] (defScope vb):=⟨rfl,rfl,rfl,by decide +kernel,rfl,by decide +kernel,by decide +kernel⟩
theorem zkx {f fN:Addr} {fd fdN:FuncData} (F:Fun K "shown" "shown" vb f fd) (DN:Dn K mg "refuse_no_parting" zr ["points","blocks"] fN fdN)
    (GNE:FnOk P w K mg base (CXe P w) 3 fN fdN ["points","blocks"] (spRefuse C0)):FnOk P w K mg base (CXe P w) 4 f fd ["points","blocks"] (spRefuse C0):=by
  refine F.okE zkw (fun vs H Q E h=>?_) (fun cdv A outer s H vs Q E hr h=>?_)
  · obtain ⟨n,p,bs,rfl,_⟩:=h
    rfl
  · obtain ⟨n,p,bs,rfl,x⟩:=h
    refine ⟨_,zd (zm (zh GNE hr rfl DN.at_ DN.fn.kp DN.bd .nil (passL lv_of) (za (pv 0) (za (pv 1) zc)))) yj,?_⟩
    exact ⟨_,rfl,_,rfl,n,p,bs,rfl,x⟩
end
end NCP
namespace NCP
open PySem L2 NC
section
variable {P:Program} {w:World} {K:PySem.W.Frag} {mg:Str→Option Value} {base:Heap}
abbrev nOther:List Str:=["e","wanted","sorts"]
theorem sc_other_w:FnScope nOther ["e","wanted"] (defScope y0):=⟨rfl,rfl,rfl,by decide +kernel,rfl,by decide +kernel,by decide +kernel⟩
def eKindW (wd:Nat):TE:=fun τ H Q=>∃ k:Nat,τ=[some (.int k),some (.int (wd:Nat))]∧Q (.bl (decide (V.int (k:Int)=V.int (wd:Int)))) H
theorem zky {f R C0 C1 C2 C3 C:Addr} {j:Nat} {fd:FuncData} (hj:j<4) (B:GBlt mg) (c:ClW K mg R C0 C1 C2 C3 j C) (F:Fun K "_law_other" "_law_other" y0 f fd):FnOkH P w K mg base 1 f fd ["e","wanted"] (spOtherW C j):=by
  refine F.okH sc_other_w (fun h oe vs H Q E q=>?_) (fun cdv A outer s H vs Q h oe hr Hd q=>?_)
  · obtain ⟨wd,rfl,_⟩:=q
    rfl
  · obtain ⟨wd,rfl,hw,hc,hdd,q⟩:=q
    have nd:=sc_other_w.nd
    have hu:A.units+3+64<cLine:=by have:=hr.un;simp only [Nat.mul_zero,Nat.add_zero] at this;exact Nat.lt_of_le_of_lt (by show A.units+3+64≤A.units+3+200;omega) this
    refine ⟨_,zd (zk (i:=2) nd rfl (Or.inl rfl) (ym (za
        (zp (zbu Hd (c:=.ref C0) hc hdd c.e rfl (fun u z=>z) c.k0) (by rfl) B.isi PyProof.Rows.boot_isinstance (za (pv 0) (za (vz (v:=.ref C0) rfl c.n0 rfl) zc))) (za
        (zp (zbu Hd (c:=.ref C1) hc hdd c.e rfl (fun u z=>z) c.k1) (by rfl) B.isi PyProof.Rows.boot_isinstance (za (pv 0) (za (vz (v:=.ref C1) rfl c.n1 rfl) zc))) (za
        (zp (zbu Hd (c:=.ref C2) hc hdd c.e rfl (fun u z=>z) c.k2) (by rfl) B.isi PyProof.Rows.boot_isinstance (za (pv 0) (za (vz (v:=.ref C2) rfl c.n2 rfl) zc))) (za
        (zp (zbu Hd (c:=.ref C3) hc hdd c.e rfl (fun u z=>z) c.k3) (by rfl) B.isi PyProof.Rows.boot_isinstance (za (pv 0) (za (vz (v:=.ref C3) rfl c.n3 rfl) zc))) zc))))))
      (zg (zt (pe_or (x8 (zem enc_bool.list hu) (pv 2)
        (zf8 (g:=gName 0) (te:=eKindW wd) Hd (cpS (N:=["k","wanted"]) (js:=[none,some 1]) (defScope y0) nOther (by decide +kernel)) rfl B.range (za zf zc)
          (by intros;exact zy (i:=0) nd_kw rfl (Or.inl rfl) (Or.inr rfl))
          (by
            intros
            refine (x8 op_eq (pv 0) (pv 1) (nomark _)).imp fun τ H Q h=>?_
            obtain ⟨k,rfl,q⟩:=h
            exact ⟨_,rfl,_,rfl,rfl,q⟩)) (nomark _))
        (zba (zeb (zp (zbu Hd (c:=.ty "ValueError") hc hdd c.e rfl (fun u z=>z) c.kv) (by rfl) B.isi PyProof.Rows.boot_isinstance (za (pv 0) (za (ze1 (v:=.ty "ValueError") rfl c.ve PyProof.Rows.Boot.«ValueError» rfl) zc)))))))),?_⟩
    refine ⟨_,rfl,rfl,_,rfl,rfl,_,rfl,rfl,_,rfl,rfl,by show 4≤sizeLine;decide,fun l hl=>?_⟩
    have hl1:(upd H l (.lst ((four j).map V.bl))) l=some (.lst ((four j).map V.bl)):=ze
    have s1:=Same.new (o:=.lst ((four j).map V.bl)) hl
    refine ⟨_,rfl,4,rfl,by decide,by decide,fun p hp=>?_⟩
    refine vi (J:=Itr 0 4) (Hs:=upd H l (.lst ((four j).map V.bl))) 4 (fun k=>.bl (decide (V.int (k:Int)=V.int (wd:Int)))) (fun τ=>∃ v,τ=[v,some (.int (wd:Nat))]) (Same.refl _) hp (yf (by decide)) (fun i H2 hi _=>hi) (fun H2 _=>Nat.le_refl _) ⟨_,rfl⟩ ?_ ?_
    · rintro i τ H2 x H3 R hi ⟨v,rfl⟩ s2 ⟨rfl,rfl⟩ k
      rw [Int.zero_add]
      exact ⟨i,rfl,k _ _ ⟨_,rfl⟩ (Same.refl _)⟩
    · intro H2 s2 h2
      have e4:(List.range 4).map (fun (k:Nat)=>V.bl (decide (V.int (k:Int)=V.int (wd:Int))))=(four wd).map V.bl:=by
        have:∀ b:Fin 4,(List.range 4).map (fun (k:Nat)=>V.bl (decide (V.int (k:Int)=V.int (b.1:Int))))=(four b.1).map V.bl:=by decide
        exact this ⟨wd,hw⟩
      rw [e4] at h2
      refine ⟨four j,four wd,zcn (SqL.of (s2 _ _ hl1)),zcn (SqL.of h2),_,rfl,?_⟩
      have ed:decide (four j=four wd)=decide (j=wd):=by
        rw [Bool.eq_iff_iff,decide_eq_true_iff,decide_eq_true_iff]
        exact zjx hj hw
      rw [ed]
      have q:=q H2 (s1.trans s2)
      by_cases hjw:j=wd
      · rw [show (!decide (j=wd))=false from by simp [hjw]] at q ⊢
        exact iteF ⟨_,rfl,rfl,_,rfl,q⟩
      · rw [show (!decide (j=wd))=true from by simp [hjw]] at q ⊢
        exact iteT q
end
end NCP
namespace NCP
open PySem L2 NC
section
variable {P:Program} {w:World} {K:PySem.W.Frag} {mg:Str→Option Value} {base:Heap}
abbrev nOtherD:List Str:=["e","wanted","sorts"]
theorem sc_other_d:FnScope nOtherD ["e","wanted"] (defScope y0):=⟨rfl,rfl,rfl,by decide +kernel,rfl,by decide +kernel,by decide +kernel⟩
def eKindD (wd:Nat):TE:=fun τ H Q=>∃ k:Nat,τ=[some (.int k),some (.int (wd:Nat))]∧Q (.bl (decide (V.int (k:Int)=V.int (wd:Int)))) H
theorem zkz {f R C0 C1 C2 C3 C:Addr} {j:Nat} {fd:FuncData} (hj:j<4) (B:GBlt mg) (c:ClW K mg R C0 C1 C2 C3 j C) (F:Fun K "_law_other" "_law_other" y0 f fd):FnOkH P w K mg base 1 f fd ["e","wanted"] (spOtherD C j):=by
  refine F.okH sc_other_d (fun h oe vs H Q E q=>?_) (fun cdv A outer s H vs Q h oe hr Hd q=>?_)
  · obtain ⟨wd,dx,fs,rfl,_⟩:=q
    rfl
  · obtain ⟨wd,dx,fs,rfl,hw,hc,hdd,hx,q⟩:=q
    have nd:=sc_other_d.nd
    have hu:A.units+3+64<cLine:=by have:=hr.un;simp only [Nat.mul_zero,Nat.add_zero] at this;exact Nat.lt_of_le_of_lt (by show A.units+3+64≤A.units+3+200;omega) this
    refine ⟨_,zd (zk (i:=2) nd rfl (Or.inl rfl) (ym (za
        (zp (zbd Hd (c:=.ref C0) hc hdd c.e rfl (fun u z=>z) c.k0) (by rfl) B.isi PyProof.Rows.boot_isinstance (za (pv 0) (za (vz (v:=.ref C0) rfl c.n0 rfl) zc))) (za
        (zp (zbd Hd (c:=.ref C1) hc hdd c.e rfl (fun u z=>z) c.k1) (by rfl) B.isi PyProof.Rows.boot_isinstance (za (pv 0) (za (vz (v:=.ref C1) rfl c.n1 rfl) zc))) (za
        (zp (zbd Hd (c:=.ref C2) hc hdd c.e rfl (fun u z=>z) c.k2) (by rfl) B.isi PyProof.Rows.boot_isinstance (za (pv 0) (za (vz (v:=.ref C2) rfl c.n2 rfl) zc))) (za
        (zp (zbd Hd (c:=.ref C3) hc hdd c.e rfl (fun u z=>z) c.k3) (by rfl) B.isi PyProof.Rows.boot_isinstance (za (pv 0) (za (vz (v:=.ref C3) rfl c.n3 rfl) zc))) zc))))))
      (zg (zt (pe_or (x8 (zem enc_bool.list hu) (pv 2)
        (zf8 (g:=gName 0) (te:=eKindD wd) Hd (cpS (N:=["k","wanted"]) (js:=[none,some 1]) (defScope y0) nOtherD (by decide +kernel)) rfl B.range (za zf zc)
          (by intros;exact zy (i:=0) nd_kw rfl (Or.inl rfl) (Or.inr rfl))
          (by
            intros
            refine (x8 op_eq (pv 0) (pv 1) (nomark _)).imp fun τ H Q h=>?_
            obtain ⟨k,rfl,q⟩:=h
            exact ⟨_,rfl,_,rfl,rfl,q⟩)) (nomark _))
        (zba (zeb (zp (zbd Hd (c:=.ty "ValueError") hc hdd c.e rfl (fun u z=>z) c.kv) (by rfl) B.isi PyProof.Rows.boot_isinstance (za (pv 0) (za (ze1 (v:=.ty "ValueError") rfl c.ve PyProof.Rows.Boot.«ValueError» rfl) zc)))))))),?_⟩
    refine ⟨_,rfl,rfl,⟨fs,hx⟩,_,rfl,rfl,⟨fs,hx⟩,_,rfl,rfl,⟨fs,hx⟩,_,rfl,rfl,⟨fs,hx⟩,by show 4≤sizeLine;decide,fun l hl=>?_⟩
    have hl1:(upd H l (.lst ((four j).map V.bl))) l=some (.lst ((four j).map V.bl)):=ze
    have s1:=Same.new (o:=.lst ((four j).map V.bl)) hl
    refine ⟨_,rfl,4,rfl,by decide,by decide,fun p hp=>?_⟩
    refine vi (J:=Itr 0 4) (Hs:=upd H l (.lst ((four j).map V.bl))) 4 (fun k=>.bl (decide (V.int (k:Int)=V.int (wd:Int)))) (fun τ=>∃ v,τ=[v,some (.int (wd:Nat))]) (Same.refl _) hp (yf (by decide)) (fun i H2 hi _=>hi) (fun H2 _=>Nat.le_refl _) ⟨_,rfl⟩ ?_ ?_
    · rintro i τ H2 x H3 R hi ⟨v,rfl⟩ s2 ⟨rfl,rfl⟩ k
      rw [Int.zero_add]
      exact ⟨i,rfl,k _ _ ⟨_,rfl⟩ (Same.refl _)⟩
    · intro H2 s2 h2
      have e4:(List.range 4).map (fun (k:Nat)=>V.bl (decide (V.int (k:Int)=V.int (wd:Int))))=(four wd).map V.bl:=by
        have:∀ b:Fin 4,(List.range 4).map (fun (k:Nat)=>V.bl (decide (V.int (k:Int)=V.int (b.1:Int))))=(four b.1).map V.bl:=by decide
        exact this ⟨wd,hw⟩
      rw [e4] at h2
      refine ⟨four j,four wd,zcn (SqL.of (s2 _ _ hl1)),zcn (SqL.of h2),_,rfl,?_⟩
      have ed:decide (four j=four wd)=decide (j=wd):=by
        rw [Bool.eq_iff_iff,decide_eq_true_iff,decide_eq_true_iff]
        exact zjx hj hw
      rw [ed]
      have q:=q H2 (s1.trans s2)
      by_cases hjw:j=wd
      · rw [show (!decide (j=wd))=false from by simp [hjw]] at q ⊢
        exact iteF ⟨_,rfl,rfl,⟨fs,(s1.trans s2) _ _ hx⟩,_,rfl,q⟩
      · rw [show (!decide (j=wd))=true from by simp [hjw]] at q ⊢
        exact iteT q
end
end NCP
namespace NCP
open PySem L2 NC
section
variable {P:Program} {w:World} {K:PySem.W.Frag} {mg:Str→Option Value} {base:Heap} {C0 C1:Addr}
abbrev nCalled:List Str:=["which","points","one","other"]
theorem zm6:FnScope nCalled ["which","points","one","other"] (defScope xz):=⟨rfl,rfl,rfl,by decide +kernel,rfl,by decide +kernel,by decide +kernel⟩
theorem zm7 {f fO fK fT fW fN fM fJ fB fS:Addr} {fd fdO fdK fdT fdW fdN fdM fdJ fdB fdS:FuncData} (F:Fun K "_law_called" "_law_called" xz f fd)
    (DO:Dn K mg "order_of" xf ["points","blocks"] fO fdO) (GO:FnOk P w K mg base (CXe P w) 5 fO fdO ["points","blocks"] (spOne C0 C1))
    (DK:Dn K mg "contrary" xw ["points","blocks"] fK fdK) (GK:FnOk P w K mg base (CXe P w) 6 fK fdK ["points","blocks"] (spOne C0 C1))
    (DT:Dn K mg "turned" w8 ["points","blocks"] fT fdT) (GT:FnOk P w K mg base (CXe P w) 5 fT fdT ["points","blocks"] (spOne C0 C1))
    (DW:Dn K mg "ways_up" wt ["points","blocks"] fW fdW) (GW:FnOk P w K mg base (CXe P w) 5 fW fdW ["points","blocks"] (spOne C0 C1))
    (DN:Dn K mg "number_of" y6 ["points","blocks"] fN fdN) (GN:FnOk P w K mg base (CXe P w) 5 fN fdN ["points","blocks"] (spOne C0 C1))
    (DM:Dn K mg "met" s_met ["points","one","other"] fM fdM) (GM:FnOk P w K mg base (CXe P w) 5 fM fdM ["points","one","other"] (spTwo' C0 C1))
    (DJ:Dn K mg "joined" w6 ["points","one","other"] fJ fdJ) (GJ:FnOk P w K mg base (CXe P w) 5 fJ fdJ ["points","one","other"] (spTwo' C0 C1))
    (DB:Dn K mg "below" va ["points","one","other"] fB fdB) (GB:FnOk P w K mg base (CXe P w) 4 fB fdB ["points","one","other"] (spTwoB C0))
    (DS:Dn K mg "shown" vb ["points","blocks"] fS fdS) (GS:FnOk P w K mg base (CXe P w) 4 fS fdS ["points","blocks"] (spOneS C0))
    : FnOk P w K mg base (CXe P w) 7 f fd ["which","points","one","other"] (spCalled C0 C1):=by
  refine F.okE zm6 (fun vs H Q E h=>?_) (fun cdv A outer s H vs Q E hr h=>?_)
  · obtain ⟨wh,n,p,q,bs,cs,rfl,_⟩:=h
    rfl
  · obtain ⟨wh,n,p,q,bs,cs,rfl,hw,hL,hM,x⟩:=h
    have hr5:=hr.mono (show 5≤6 by decide)
    have hr4:=hr.mono (show 4≤6 by decide)
    have hr6:=hr
    refine ⟨_,zd (PS.imp (t':=tW wh 0 (start nCalled [.int wh,.int n,.ref p,.ref q]) E (spOne C0 C1) [.int n,.ref p]) (ps_if (zv op_eq (pv 0) zf (nomark _)) (zg (zm (zh GO hr5 (by rfl) DO.at_ DO.fn.kp DO.bd .nil (passL lv_of) (za (pv 1) (za (pv 2) zc))))) zu) (fun D σ H h=>by
          obtain ⟨rfl,h1,h2⟩:=h
          exact ⟨_,rfl,rfl,_,rfl,iteD (fun e=>⟨_,rfl,_,rfl,h1 (Int.ofNat.inj (V.int.inj e))⟩) fun e=>h2 fun z=>e (by rw [z];rfl)⟩))
        (zd (PS.imp (t':=tW wh 1 (start nCalled [.int wh,.int n,.ref p,.ref q]) E (spOne C0 C1) [.int n,.ref p]) (ps_if (zv op_eq (pv 0) zf (nomark _)) (zg (zm (zh GK hr6 (by rfl) DK.at_ DK.fn.kp DK.bd .nil (passL lv_of) (za (pv 1) (za (pv 2) zc))))) zu) (fun D σ H h=>by
          obtain ⟨rfl,h1,h2⟩:=h
          exact ⟨_,rfl,rfl,_,rfl,iteD (fun e=>⟨_,rfl,_,rfl,h1 (Int.ofNat.inj (V.int.inj e))⟩) fun e=>h2 fun z=>e (by rw [z];rfl)⟩))
        (zd (PS.imp (t':=tW wh 2 (start nCalled [.int wh,.int n,.ref p,.ref q]) E (spOne C0 C1) [.int n,.ref p]) (ps_if (zv op_eq (pv 0) zf (nomark _)) (zg (zm (zh GT hr5 (by rfl) DT.at_ DT.fn.kp DT.bd .nil (passL lv_of) (za (pv 1) (za (pv 2) zc))))) zu) (fun D σ H h=>by
          obtain ⟨rfl,h1,h2⟩:=h
          exact ⟨_,rfl,rfl,_,rfl,iteD (fun e=>⟨_,rfl,_,rfl,h1 (Int.ofNat.inj (V.int.inj e))⟩) fun e=>h2 fun z=>e (by rw [z];rfl)⟩))
        (zd (PS.imp (t':=tW wh 3 (start nCalled [.int wh,.int n,.ref p,.ref q]) E (spOne C0 C1) [.int n,.ref p]) (ps_if (zv op_eq (pv 0) zf (nomark _)) (zg (zm (zh GW hr5 (by rfl) DW.at_ DW.fn.kp DW.bd .nil (passL lv_of) (za (pv 1) (za (pv 2) zc))))) zu) (fun D σ H h=>by
          obtain ⟨rfl,h1,h2⟩:=h
          exact ⟨_,rfl,rfl,_,rfl,iteD (fun e=>⟨_,rfl,_,rfl,h1 (Int.ofNat.inj (V.int.inj e))⟩) fun e=>h2 fun z=>e (by rw [z];rfl)⟩))
        (zd (PS.imp (t':=tW wh 4 (start nCalled [.int wh,.int n,.ref p,.ref q]) E (spOne C0 C1) [.int n,.ref p]) (ps_if (zv op_eq (pv 0) zf (nomark _)) (zg (zm (zh GN hr5 (by rfl) DN.at_ DN.fn.kp DN.bd .nil (passL lv_of) (za (pv 1) (za (pv 2) zc))))) zu) (fun D σ H h=>by
          obtain ⟨rfl,h1,h2⟩:=h
          exact ⟨_,rfl,rfl,_,rfl,iteD (fun e=>⟨_,rfl,_,rfl,h1 (Int.ofNat.inj (V.int.inj e))⟩) fun e=>h2 fun z=>e (by rw [z];rfl)⟩))
        (zd (PS.imp (t':=tW wh 5 (start nCalled [.int wh,.int n,.ref p,.ref q]) E (spTwo' C0 C1) [.int n,.ref p,.ref q]) (ps_if (zv op_eq (pv 0) zf (nomark _)) (zg (zm (zh GM hr5 (by rfl) DM.at_ DM.fn.kp DM.bd .nil (passL lv_of) (za (pv 1) (za (pv 2) (za (pv 3) zc)))))) zu) (fun D σ H h=>by
          obtain ⟨rfl,h1,h2⟩:=h
          exact ⟨_,rfl,rfl,_,rfl,iteD (fun e=>⟨_,rfl,_,rfl,_,rfl,h1 (Int.ofNat.inj (V.int.inj e))⟩) fun e=>h2 fun z=>e (by rw [z];rfl)⟩))
        (zd (PS.imp (t':=tW wh 6 (start nCalled [.int wh,.int n,.ref p,.ref q]) E (spTwo' C0 C1) [.int n,.ref p,.ref q]) (ps_if (zv op_eq (pv 0) zf (nomark _)) (zg (zm (zh GJ hr5 (by rfl) DJ.at_ DJ.fn.kp DJ.bd .nil (passL lv_of) (za (pv 1) (za (pv 2) (za (pv 3) zc)))))) zu) (fun D σ H h=>by
          obtain ⟨rfl,h1,h2⟩:=h
          exact ⟨_,rfl,rfl,_,rfl,iteD (fun e=>⟨_,rfl,_,rfl,_,rfl,h1 (Int.ofNat.inj (V.int.inj e))⟩) fun e=>h2 fun z=>e (by rw [z];rfl)⟩))
        (zd (PS.imp (t':=tW wh 7 (start nCalled [.int wh,.int n,.ref p,.ref q]) E (spTwoB C0) [.int n,.ref p,.ref q]) (ps_if (zv op_eq (pv 0) zf (nomark _)) (zg (zm (zh GB hr4 (by rfl) DB.at_ DB.fn.kp DB.bd .nil (passL lv_of) (za (pv 1) (za (pv 2) (za (pv 3) zc)))))) zu) (fun D σ H h=>by
          obtain ⟨rfl,h1,h2⟩:=h
          exact ⟨_,rfl,rfl,_,rfl,iteD (fun e=>⟨_,rfl,_,rfl,_,rfl,h1 (Int.ofNat.inj (V.int.inj e))⟩) fun e=>h2 fun z=>e (by rw [z];rfl)⟩))
        (zg (PS.imp (t':=tW wh 8 (start nCalled [.int wh,.int n,.ref p,.ref q]) E (spOneS C0) [.int n,.ref p]) (ps_if (zv op_eq (pv 0) zf (nomark _)) (zg (zm (zh GS hr4 (by rfl) DS.at_ DS.fn.kp DS.bd .nil (passL lv_of) (za (pv 1) (za (pv 2) zc))))) zu) (fun D σ H h=>by
          obtain ⟨rfl,h1,h2⟩:=h
          exact ⟨_,rfl,rfl,_,rfl,iteD (fun e=>⟨_,rfl,_,rfl,h1 (Int.ofNat.inj (V.int.inj e))⟩) fun e=>h2 fun z=>e (by rw [z];rfl)⟩)))))))))),?_⟩
    exact ⟨rfl,fun e=>zbv (by omega) hL (x.imp fun H' z=>yb (by omega) (yb (by omega) (yb (by omega) (yb (by omega) (yb (by omega) (yb (by omega) (yb (by omega) (yb (by omega) z)))))))),fun e0=>⟨rfl,fun e=>zbv (by omega) hL (x.imp fun H' z=>yb (by omega) (yb (by omega) (yb (by omega) (yb (by omega) (yb (by omega) (yb (by omega) (yb (by omega) z))))))),fun e1=>⟨rfl,fun e=>zbv (by omega) hL (x.imp fun H' z=>yb (by omega) (yb (by omega) (yb (by omega) (yb (by omega) (yb (by omega) (yb (by omega) z)))))),fun e2=>⟨rfl,fun e=>zbv (by omega) hL (x.imp fun H' z=>yb (by omega) (yb (by omega) (yb (by omega) (yb (by omega) (yb (by omega) z))))),fun e3=>⟨rfl,fun e=>zbv (by omega) hL (x.imp fun H' z=>yb (by omega) (yb (by omega) (yb (by omega) (yb (by omega) z)))),fun e4=>⟨rfl,fun e=>zh4 (by omega) (by omega) hL hM (x.imp fun H' z=>yb (by omega) (yb (by omega) (yb (by omega) z))),fun e5=>⟨rfl,fun e=>zh4 (by omega) (by omega) hL hM (x.imp fun H' z=>yb (by omega) (yb (by omega) z)),fun e6=>⟨rfl,fun e=>zm0 e hL hM (x.imp fun H' z=>yb (by omega) z),fun e7=>⟨rfl,fun e=>zm1 e hL (x.imp fun H' z=>z),fun e8=>absurd hw (by omega)⟩⟩⟩⟩⟩⟩⟩⟩⟩
end
end NCP
namespace NCP
open PySem L2 NC
section
variable {P:Program} {w:World} {K:PySem.W.Frag} {mg:Str→Option Value} {base:Heap}
abbrev nTold:List Str:=["which","points","one","other","e"]
theorem sc_told:FnScope nTold ["which","points","one","other"] (defScope ww):=⟨rfl,rfl,rfl,by decide +kernel,rfl,by decide +kernel,by decide +kernel⟩
theorem zm8 {f fC fO R C0 C1 C2 C3:Addr} {fd fdC fdO:FuncData} (c0:ClW K mg R C0 C1 C2 C3 0 C0) (c1:ClW K mg R C0 C1 C2 C3 1 C1) (hh:PySem.W.hasDictIn K C1=true) (hf:PySem.W.findIn K (.ref C1) "points"=some none)
    (F:Fun K "_law_told" "_law_told" ww f fd)
    (DC:Dn K mg "_law_called" xz ["which","points","one","other"] fC fdC) (GC:FnOk P w K mg base (CXe P w) 7 fC fdC ["which","points","one","other"] (spCalled C0 C1))
    (DO:Dn K mg "_law_other" y0 ["e","wanted"] fO fdO) (GO:FnOkH P w K mg base 1 fO fdO ["e","wanted"] (spOtherW C0 0)) (GD:FnOkH P w K mg base 1 fO fdO ["e","wanted"] (spOtherD C1 1)) :
    FnOk P w K mg base (CXe P w) 8 f fd ["which","points","one","other"] spTold16:=by
  refine F.okE sc_told (fun vs H Q E h=>?_) (fun cdv A outer s H vs Q E hr h=>?_)
  · obtain ⟨wh,n,p,q,bs,cs,rfl,_⟩:=h
    rfl
  · obtain ⟨wh,n,p,p2,bs,cs,rfl,hw,hL,hM,h⟩:=h
    have hr1:=(hr.mono (show 1≤7 by decide)).h
    rcases h with ⟨hb,q⟩ | ⟨u,hc,q⟩ | ⟨hf,q⟩
    · refine ⟨_,zd (zhr (R:=fun cls dct H'=>cls=.ref C0∧dct=none∧Same H H') (CR:=R) (j:=4) rfl rfl
          (fun pn xe hx=>zg (zm (zh GC hr rfl DC.at_ DC.fn.kp DC.bd .nil hx (za (pv 0) (za (pv 1) (za (pv 2) (za (pv 3) zc)))))))
          (fun pn ea oe Hd=>zd (ps_if (vt (vc (zd8 Hd GO ⟨hr1.dp,hr1.un⟩ rfl DO.at_ DO.fn.kp DO.bd (za (pv 4) (za zf zc))))) (zg (zt (zed (za zf (za zah zc))))) zu) yj)
          (fun cls dct H' h=>⟨C0,h.1,c0.s⟩) c0.rt c0.rc c0.rx rfl c0.r sc_told.nd rfl rfl) yj,?_⟩
      refine ⟨?_,?_⟩
      · exact ⟨_,rfl,_,rfl,_,rfl,_,rfl,wh,n,p,p2,bs,cs,rfl,hw,hL,hM,.inl ⟨hb,fun H' s'=>⟨rfl,rfl,s'⟩⟩⟩
      · rintro cls dct H' ea oe ⟨rfl,rfl,s'⟩ hn hc hd
        refine ⟨_,rfl,0,rfl,by decide,hc,hd,fun H2 s2=>⟨_,rfl,iteT ?_⟩⟩
        exact ⟨by show 2≤sizeLine;decide,fun r hr=>q r _ ((s'.trans s2).trans (Same.new hr)) ze⟩
    · refine ⟨_,zd (zhr (R:=fun cls dct H'=>cls=.ref C1∧∃ (D t a b c d:Nat),dct=some D∧Same H H'∧H' D=some (.xd [("points",.ref t)])∧H' t=some (.tup [.int a,.int b,.int c,.int d])∧IsCross u a b c d) (CR:=R) (j:=4) rfl rfl
          (fun pn xe hx=>zg (zm (zh GC hr rfl DC.at_ DC.fn.kp DC.bd .nil hx (za (pv 0) (za (pv 1) (za (pv 2) (za (pv 3) zc)))))))
          (fun pn ea oe Hd=>zd (ps_if (vt (vc (zd8 Hd GD ⟨hr1.dp,hr1.un⟩ rfl DO.at_ DO.fn.kp DO.bd (za (pv 4) (za zf zc))))) yj zu)
            (zd (ps_if (vt (vc (zd8 Hd GD ⟨hr1.dp,hr1.un⟩ rfl DO.at_ DO.fn.kp DO.bd (za (pv 4) (za zf zc))))) (zg (zt (zed (za zf (za (zmz (n:="points") (C:=C1) Hd c1.e hh hf (pv 4) rfl) zc))))) zu) yj))
          (fun cls dct H' h=>⟨C1,h.1,c1.s⟩) c1.rt c1.rc c1.rx rfl c1.r sc_told.nd rfl rfl) yj,?_⟩
      refine ⟨?_,?_⟩
      · exact ⟨_,rfl,_,rfl,_,rfl,_,rfl,wh,n,p,p2,bs,cs,rfl,hw,hL,hM,.inr (.inl ⟨u,hc,fun D t a b c d H' s' h1 h2 x=>⟨rfl,D,t,a,b,c,d,rfl,s',h1,h2,x⟩⟩)⟩
      · rintro cls dct H' ea oe ⟨rfl,D,t,a,b,c,d,rfl,s',h1,h2,x⟩ hn hcl hd
        refine ⟨_,rfl,0,D,_,rfl,by decide,hcl,hd,h1,fun H2 s2=>⟨_,rfl,iteF ?_⟩⟩
        refine ⟨_,rfl,1,D,_,rfl,by decide,hcl,hd,s2 _ _ h1,fun H3 s3=>⟨_,rfl,iteT ?_⟩⟩
        have s23:=s2.trans s3
        refine ⟨hcl,D,hd,_,rfl,rfl,_,t,s23 _ _ h1,rfl,by show 2≤sizeLine;decide,fun r hr=>?_⟩
        exact q r t a b c d _ ((s'.trans s23).trans (Same.new hr)) ze ((s23.trans (Same.new hr)) _ _ h2) x
    · refine ⟨_,zd (zhr (R:=fun _ _ _=>False) (CR:=R) (j:=4) (th:=fun _ _=>tNever) rfl rfl
          (fun pn xe hx=>zg (zm (zh GC hr rfl DC.at_ DC.fn.kp DC.bd .nil hx (za (pv 0) (za (pv 1) (za (pv 2) (za (pv 3) zc)))))))
          (fun pn ea oe Hd=>yj) (fun cls dct H' h=>h.elim) c0.rt c0.rc c0.rx rfl c0.r sc_told.nd rfl rfl) (zg (zt (zed (za zf (za zah zc))))),?_⟩
      refine ⟨⟨_,rfl,_,rfl,_,rfl,_,rfl,wh,n,p,p2,bs,cs,rfl,hw,hL,hM,.inr (.inr ⟨hf,fun H' s'=>?_⟩)⟩,fun _ _ _ _ _ z=>z.elim⟩
      exact ⟨by show 2≤sizeLine;decide,fun r hr=>q r _ (s'.trans (Same.new hr)) ze⟩
end
end NCP
namespace NCP
open PySem L2 NC
section
variable {CX:CXT} {P:Program} {w:World} {K:PySem.W.Frag} {mg:Str→Option Value} {base:Heap}
abbrev nIsCr:List Str:=["points","blocks","found","word","marks"]
theorem sc_iscr:FnScope nIsCr ["points","blocks","found"] (defScope yo):=⟨rfl,rfl,rfl,by decide +kernel,rfl,by decide +kernel,by decide +kernel⟩
def eWordIn:TE:=fun τ H Q=>∃ (pt:Nat) (l:Addr) (v:List Nat),τ=[some (.int pt),some (.ref l)]∧H l=some (.lst (iv (zl v)))∧pt<v.length∧Q (.int (v.getD pt 0:Nat)) H
theorem zpx {f fW:Addr} {fd fdW:FuncData} (hX:CxNo CX) (B:GBlt mg) (F:Fun K "_law_is_crossing" "_law_is_crossing" yo f fd)
    (DW:Dn K mg "_law_word" xx ["points","blocks"] fW fdW) (GW:FnOk P w K mg base CX 1 fW fdW ["points","blocks"] spBlockPlaces):FnOk P w K mg base CX 2 f fd ["points","blocks","found"] spIsCr:=by
  refine F.okX sc_iscr (fun vs H Q E h=>?_) (fun cdv A outer s H vs Q E hr h=>?_)
  · obtain ⟨p,t,wd,a,b,c,d,rfl,_⟩:=h
    rfl
  · obtain ⟨p,t,wd,xa,xb,xc,xd,rfl,hL,hn10,ht,x,q⟩:=h
    have nd:=sc_iscr.nd
    refine ⟨_,zd (ps_if (PW.pt (pw_or (vt (vc (zp (znw (T:="tuple")) (by rfl) B.isi PyProof.Rows.boot_isinstance (za (pv 2) (za (ze1 (v:=.ty "tuple") (by rfl) B.tuple PyProof.Rows.boot_tuple rfl) zc)))))
          (pw_or (zv op_ne (zp ya (by rfl) B.len PySem.boot_len (za (pv 2) zc)) zf (nomark _))
          (zcy (vt (zf3 zf (zbt op_le (pe_ix zaj (pv 2) zf (fun _ _=>rfl)) (zbt op_lt (pe_ix zaj (pv 2) zf (fun _ _=>rfl)) (zbt op_lt (pe_ix zaj (pv 2) zf (fun _ _=>rfl))
          (zbt op_lt (pe_ix zaj (pv 2) zf (fun _ _=>rfl)) (zhi op_lt (pv 0)))))))))))) (zg (zt pe_bl)) zu)
      (zd (zk (i:=3) nd rfl (Or.inr rfl) (zh GW hr rfl DW.at_ DW.fn.kp DW.bd .nil (passN hX) (za (pv 0) (za (pv 1) zc))))
      (zd (zjm (i:=4) (g:=gName 0) (te:=eWordIn) nd rfl (Or.inl rfl) rfl (cpS (N:=["point","word"]) (js:=[none,some 3]) (defScope yo) nIsCr (by decide +kernel)) (zp6 (pv 2))
        (by intros;exact zy (i:=0) nd_pw rfl (Or.inl rfl) (Or.inr rfl))
        (by
          intros
          refine (pe_ix zw (pv 1) (pv 0) (fun _ _=>rfl)).imp fun τ H Q h=>?_
          obtain ⟨pt,l,v,rfl,hl,hlt,q⟩:=h
          exact ⟨_,rfl,_,rfl,l,_,_,_,rfl,rfl,SqL.of hl,at_iv hlt,q⟩))
      (zg (zt (zb7 (x8 op_eq (pe_ix zw (pv 4) zf (fun _ _=>rfl)) (pe_ix zw (pv 4) zf (fun _ _=>rfl)) (nomark _))
        (zb7 (x8 op_eq (pe_ix zw (pv 4) zf (fun _ _=>rfl)) (pe_ix zw (pv 4) zf (fun _ _=>rfl)) (nomark _))
        (zba (x8 op_ne (pe_ix zw (pv 4) zf (fun _ _=>rfl)) (pe_ix zw (pv 4) zf (fun _ _=>rfl)) (nomark _))))))))),?_⟩
    have hn1000:wd.length≤1000:=by omega
    have hT:SqT K H t [.int xa,.int xb,.int xc,.int xd]:=SqT.of ht
    obtain ⟨x1,x2,x3,x4,x5,x6,x7⟩:=x
    have la:xa<wd.length:=by omega
    have lb:xb<wd.length:=by omega
    have lc:xc<wd.length:=by omega
    refine ⟨_,rfl,_,_,true,rfl,.tup ht,zes,_,rfl,iteF ?_⟩
    refine ⟨_,rfl,t,_,rfl,.inr hT,rfl,_,rfl,iteNS rfl ?_⟩
    refine ⟨_,rfl,t,_,0,.int xa,rfl,rfl,hT,rfl,_,_,rfl,rfl,_,rfl,?_⟩
    rw [if_pos (by simp)]
    refine ⟨_,rfl,t,_,1,.int xb,rfl,rfl,hT,rfl,_,_,rfl,rfl,_,rfl,?_⟩
    rw [if_pos (by simpa using x1)]
    refine ⟨_,rfl,t,_,2,.int xc,rfl,rfl,hT,rfl,_,_,rfl,rfl,_,rfl,?_⟩
    rw [if_pos (by simpa using x2)]
    refine ⟨_,rfl,t,_,3,.int xd,rfl,rfl,hT,rfl,_,_,rfl,rfl,_,rfl,?_⟩
    rw [if_pos (by simpa using x3)]
    refine ⟨_,rfl,_,_,rfl,rfl,_,rfl,?_⟩
    rw [show decide ((xd:Int)<(wd.length:Int))=true from by simpa using x4]
    refine iteF ?_
    refine ⟨_,rfl,_,rfl,p,wd,rfl,hL,hn1000,fun l H7 N7=>?_⟩
    have hT7:∀ H8,Same H7 H8→SqT K H8 t [.int xa,.int xb,.int xc,.int xd]:=fun H8 s8=>SqT.of ((N7.same.trans s8) _ _ ht)
    have hcl:=zx wd
    refine ⟨_,rfl,t,rfl,⟨_,hT7 H7 (Same.refl _)⟩,fun pm hpm=>?_⟩
    refine zny (K:=K) (xs:=[.int xa,.int xb,.int xc,.int xd]) (Hs:=H7) (fun i=>.int ((canon wd).getD ([xa,xb,xc,xd].getD i 0) 0:Nat)) (fun τ=>∃ v,τ=[v,some (.ref l)]) (Same.refl _) hpm hT7 (by show 4≤sizeLine;decide) ⟨_,rfl⟩ ?_ ?_
    · rintro i y τ H8 R hi ⟨v,rfl⟩ s8 k
      obtain ⟨z,rfl,hz,ez⟩:∃ z:Nat,y=.int (z:Int)∧z<wd.length∧[xa,xb,xc,xd].getD i 0=z:=by
        match i,hi with
        | 0,hi=>exact ⟨xa,(Option.some.inj hi).symm,la,rfl⟩
        | 1,hi=>exact ⟨xb,(Option.some.inj hi).symm,lb,rfl⟩
        | 2,hi=>exact ⟨xc,(Option.some.inj hi).symm,lc,rfl⟩
        | 3,hi=>exact ⟨xd,(Option.some.inj hi).symm,x4,rfl⟩
      rw [ez] at k
      exact ⟨z,l,canon wd,rfl,s8 _ _ N7.at_,by rw [hcl];exact hz,k _ _ ⟨_,rfl⟩ (Same.refl _)⟩
    intro H8 s8 h8
    have hM:SqL K H8 pm [.int ((canon wd).getD xa 0:Nat),.int ((canon wd).getD xb 0:Nat),.int ((canon wd).getD xc 0:Nat),.int ((canon wd).getD xd 0:Nat)]:=SqL.of h8
    have eac:(canon wd).getD xa 0=(canon wd).getD xc 0:=by
      have:=(yq la lc).mpr x5
      rw [getD_some (by omega),getD_some (by omega)] at this
      exact Option.some.inj this
    have ebd:(canon wd).getD xb 0=(canon wd).getD xd 0:=by
      have:=(yq lb x4).mpr x6
      rw [getD_some (by omega),getD_some (by omega)] at this
      exact Option.some.inj this
    have eab:¬ (canon wd).getD xa 0=(canon wd).getD xb 0:=fun z=>x7 ((yq la lb).mp (by rw [getD_some (by omega),getD_some (by omega),z]))
    rw [← eac,← ebd] at hM
    refine ⟨_,rfl,pm,_,0,_,rfl,rfl,hM,rfl,_,rfl,pm,_,2,_,rfl,rfl,hM,rfl,rfl,_,rfl,?_⟩
    rw [if_pos (by simp)]
    refine ⟨_,rfl,pm,_,1,_,rfl,rfl,hM,rfl,_,rfl,pm,_,3,_,rfl,rfl,hM,rfl,rfl,_,rfl,?_⟩
    rw [if_pos (by simp)]
    refine ⟨_,rfl,pm,_,0,_,rfl,rfl,hM,rfl,_,rfl,pm,_,1,_,rfl,rfl,hM,rfl,rfl,?_⟩
    have e9:(!decide (V.int (((canon wd).getD xa 0:Nat):Int)=V.int (((canon wd).getD xb 0:Nat):Int)))=true:=by
      rw [Bool.not_eq_true',decide_eq_false_iff_not]
      intro z
      injection z with z
      exact eab (by omega)
    rw [e9]
    exact q H8 (N7.same.trans s8)
end
end NCP
namespace NCP
open PySem L2 NC
section
variable {CX:CXT} {P:Program} {w:World} {K:PySem.W.Frag} {mg:Str→Option Value} {base:Heap}
theorem zjz {H:Hp} {a:Addr} {b:List Int} {as:List Addr} {bs:List (List Int)} (h:H a=some (.lst (iv b))) (n:Nat) (p:Paired (fun a b=>H a=some (.lst (iv b))) as bs):Paired (fun a b=>H a=some (.lst (iv b))) (as.set n a) (bs.set n b):=zmu (F:=fun a b=>H a=some (.lst (iv b))) h n p
def tPut16 (K:PySem.W.Frag) (te:TE) (hi:TO):TE:=tOp rCat (tOp rCat (tSl (rSlL K) (tVar 0) tNoPart (tPart (tVar 2))) (tLst (tCons te tNil))) (tSl (rSlL K) (tVar 0) hi tNoPart)
theorem put16 {K:PySem.W.Frag} {σ:St} {H H1:Hp} {p:Addr} {as:List Addr} {bs:List (List Int)} {at_ m:Nat} {te:TE} {hi:TO} {Q:VK} (h0:σ[0]?=some (some (.ref p))) (h3:σ[2]?=some (some (.int at_)))
    (hte:∀ H' R,Same H1 H'→(∀ (ln:Addr) (c:List Int) H2,Same H' H2→H2 ln=some (.lst (iv c))→c.length≤14→R (.ref ln) H2)→te σ H' R) (hh:∀ H' R,R (some (m:Int)) H'→hi σ H' R)
    (s:Same H H1) (hp:H p=some (.lst (as.map V.ref))) (hbs:Paired (fun a b=>H a=some (.lst (iv b))) as bs) (hbl:bs.length≤13) (hfl:bs.flatten.length≤13)
    (q:∀ r bs' H',Same H H'→AnyL H' r bs'→Q (.ref r) H'):tPut16 K te hi σ H1 Q:=by
  have hal:=yk hbs
  refine ⟨_,h0,_,h3,_,rfl,p,_,rfl,SqL.of (s _ _ hp),fun c1 hc1=>?_⟩
  rw [zcc]
  have t1:=Same.new (o:=.lst ((as.map V.ref).take at_)) hc1
  refine hte _ _ t1 fun ln c H2 s2 hln hc=>⟨by show 1≤sizeLine;decide,fun c2 hc2=>?_⟩
  have t2:=Same.new (o:=.lst [.ref ln]) hc2
  refine ⟨c1,c2,_,_,rfl,rfl,(s2.trans t2) _ _ ze,ze,?_,fun c3 hc3=>?_⟩
  · rw [List.length_take,List.length_map,hal]
    exact yf (by simp;omega)
  have t3:=Same.new (o:=.lst ((as.map V.ref).take at_++[.ref ln])) hc3
  have t13:=((t1.trans s2).trans t2).trans t3
  refine ⟨_,h0,hh _ _ ⟨p,_,rfl,SqL.of (t13 _ _ (s _ _ hp)),fun c4 hc4=>?_⟩⟩
  rw [zbc]
  have t4:=Same.new (o:=.lst ((as.map V.ref).drop m)) hc4
  refine ⟨c3,c4,_,_,rfl,rfl,t4 _ _ ze,ze,?_,fun c5 hc5=>?_⟩
  · rw [List.length_append,List.length_take,List.length_drop,List.length_map,hal]
    exact yf (by simp;omega)
  have t5:=Same.new (o:=.lst (((as.map V.ref).take at_++[.ref ln])++(as.map V.ref).drop m)) hc5
  have t25:=((t2.trans t3).trans t4).trans t5
  have t15:=(t13.trans t4).trans t5
  have fl1:=zpo bs at_
  have fl2:=zpp bs m
  have tot:(bs.take at_++[c]++bs.drop m).flatten.length≤40:=by
    simp only [List.flatten_append,List.length_append,List.flatten_cons,List.flatten_nil,List.length_nil]
    omega
  refine q c5 (bs.take at_++[c]++bs.drop m) _ (s.trans t15) ⟨⟨as.take at_++[ln]++as.drop m,?_,zeu (zeu (zjv _ ?_) (.cons (t25 _ _ hln) .nil)) (zjw _ ?_)⟩,?_,by omega,fun b hb=>?_⟩
  · rw [ze]
    simp
  · exact y9 (fun a b e=>t15 _ _ (s _ _ e)) hbs
  · exact y9 (fun a b e=>t15 _ _ (s _ _ e)) hbs
  · simp only [List.length_append,List.length_take,List.length_drop,List.length_cons,List.length_nil]
    omega
  · have:=xh hb
    omega
def tLine16 (K:PySem.W.Frag) (te:TE) (hi:TO):TE:=tOp rCat (tOp rCat (tSl (rSlL K) (tVar 3) tNoPart (tPart (tVar 5))) (tLst (tCons te tNil))) (tSl (rSlL K) (tVar 3) hi tNoPart)
theorem line16 {K:PySem.W.Frag} {σ:St} {H:Hp} {ab:Addr} {b:List Int} {spot m:Nat} {x:Int} {te:TE} {hi:TO} {Q:VK} (h4:σ[3]?=some (some (.ref ab))) (h5:σ[5]?=some (some (.int spot))) (hte:∀ H' R,Same H H'→R (.int x) H'→te σ H' R) (hh:∀ H' R,R (some (m:Int)) H'→hi σ H' R)
    (hb:H ab=some (.lst (iv b))) (hl:b.length≤13) (hs:spot<b.length) (hm:spot≤m) (q:∀ (ln:Addr) (c:List Int) H',Same H H'→H' ln=some (.lst (iv c))→c.length≤14→Q (.ref ln) H'):tLine16 K te hi σ H Q:=by
  refine ⟨_,h4,_,h5,_,rfl,ab,_,rfl,SqL.of hb,fun c1 hc1=>?_⟩
  rw [zcc]
  have t1:=Same.new (o:=.lst ((iv b).take spot)) hc1
  refine hte _ _ t1 ⟨by show 1≤sizeLine;decide,fun c2 hc2=>?_⟩
  have t2:=Same.new (o:=.lst [.int x]) hc2
  refine ⟨c1,c2,_,_,rfl,rfl,t2 _ _ ze,ze,?_,fun c3 hc3=>?_⟩
  · rw [List.length_take,List.length_map]
    exact yf (by simp;omega)
  have t3:=Same.new (o:=.lst ((iv b).take spot++[.int x])) hc3
  refine ⟨_,h4,hh _ _ ⟨ab,_,rfl,SqL.of (t3 _ _ (t2 _ _ (t1 _ _ hb))),fun c4 hc4=>?_⟩⟩
  rw [zbc]
  have t4:=Same.new (o:=.lst ((iv b).drop m)) hc4
  refine ⟨c3,c4,_,_,rfl,rfl,t4 _ _ ze,ze,?_,fun c5 hc5=>?_⟩
  · rw [List.length_append,List.length_take,List.length_drop,List.length_map]
    exact yf (by simp;omega)
  have t5:=Same.new (o:=.lst (((iv b).take spot++[.int x])++(iv b).drop m)) hc5
  refine q c5 (b.take spot++[x]++b.drop m) _ ((((t1.trans t2).trans t3).trans t4).trans t5) ?_ ?_
  · rw [ze]
    simp [iv]
  · simp only [List.length_append,List.length_take,List.length_drop,List.length_cons,List.length_nil]
    omega
abbrev nSpoilt16:List Str:=["blocks","cell","at","block","how","spot","line","place","rest"]
theorem sc_spoilt16:FnScope nSpoilt16 ["blocks","cell"] (defScope xy):=⟨rfl,rfl,rfl,by decide +kernel,rfl,by decide +kernel,by decide +kernel⟩
theorem zi3 {f:Addr} {fd:FuncData} (B:GBlt mg) (F:Fun K "_law_spoilt" "_law_spoilt" xy f fd):FnOk P w K mg base CX 1 f fd ["blocks","cell"] spSpoilt2:=by
  refine F.okX sc_spoilt16 (fun vs H Q E h=>?_) (fun cdv A outer s H vs Q E hr h=>?_)
  · obtain ⟨p,cell,bs,rfl,_⟩:=h
    rfl
  · obtain ⟨p,cell,bs,rfl,hL,hne,hne2,hfl,q⟩:=h
    obtain ⟨as,hp,hbs⟩:=id hL
    have nd:=sc_spoilt16.nd
    refine ⟨_,zd (zk (i:=2) nd rfl (Or.inl rfl) (pe_op xp (pv 1) (zp ya (by rfl) B.len PySem.boot_len (za (pv 0) zc))))
      (zd (zk (i:=3) nd rfl (Or.inl rfl) (pe_ix zw (pv 0) (pv 2) (fun _ _=>rfl)))
      (zd (zk (i:=4) nd rfl (Or.inl rfl) (pe_op xp (pe_op zay (pv 1) zf) zf))
      (zd (ps_if (zv op_eq (pv 4) zf (nomark _)) (zg (zt (pe_op wo (pe_op wo (yi yp (pv 0) yv (yh (pv 2))) (ym (za (yi yp (pv 3) (yh zf) yv) zc))) (yi yp (pv 0) (yh (pe_op yu (pv 2) zf)) yv)))) zu)
      (zd (ps_if (zv op_eq (pv 4) zf (nomark _)) (zg (zt (pe_op wo (pe_op wo (yi yp (pv 0) yv (yh (pv 2))) (ym (za (pe_op wo (yi yp (pv 3) yv (yh zf)) (pv 3)) zc))) (yi yp (pv 0) (yh (pe_op yu (pv 2) zf)) yv)))) zu)
      (zd (ps_if (zv op_eq (pv 4) zf (nomark _)) (zg (zt (pe_op wo (pe_op wo (yi yp (pv 0) yv (yh (pv 2))) (ym (za (ym zc) zc))) (yi yp (pv 0) (yh (pv 2)) yv)))) zu)
      (zd (ps_if (zv op_eq (pv 4) zf (nomark _)) (zg (zt (zmn (ops:=fun v u=>[v,u]) (pv 0) (yh (pe_un zg1 zf)) (fun _ _=>rfl)))) zu)
      (zd (ps_if (zv op_eq (pv 4) zf (nomark _)) (zg (zt (pe_op wo (pe_op wo (yi yp (pv 0) yv (yh (pv 2))) (ym (za (zmn (ops:=fun v u=>[v,u]) (pv 3) (yh (pe_un zg1 zf)) (fun _ _=>rfl)) zc))) (yi yp (pv 0) (yh (pe_op yu (pv 2) zf)) yv)))) zu)
      (zd (zk (i:=5) nd rfl (Or.inl rfl) (pe_op xp (pe_op zay (pv 1) zf) (zp ya (by rfl) B.len PySem.boot_len (za (pv 3) zc))))
      (zd (zk (i:=6) nd rfl (Or.inl rfl) (pe_op wo (pe_op wo (yi yp (pv 3) yv (yh (pv 5))) (ym (za (pe_op vv (pe_op xp (pe_op zay (pv 1) zf) zf) zf) zc))) (yi yp (pv 3) (yh (pe_op yu (pv 5) zf)) yv)))
      (zd (wu (ps_if (zv op_eq (pv 4) zf (nomark _)) (zd (zk (i:=7) nd rfl (Or.inl rfl) (pe_op xp (pe_op zay (pv 1) zf) (zp ya (by rfl) B.len PySem.boot_len (za (pv 3) zc)))) (zd (zk (i:=6) nd rfl (Or.inl rfl) (x9 zas (by rfl) B.list PyProof.Rows.boot_list (za (pv 3) zc))) (zd (zar (pe_ix zw (pv 3) (pv 7) (fun _ _=>rfl)) (zaq (pv 6) (pv 5) vm)) (zg (zar (pe_ix zw (pv 3) (pv 5) (fun _ _=>rfl)) (zaq (pv 6) (pv 7) vm)))))) zu))
      (zd (ps_if (zv op_lt (pv 4) zf (nomark _)) (zg (zt (pe_op wo (pe_op wo (yi yp (pv 0) yv (yh (pv 2))) (ym (za (pv 6) zc))) (yi yp (pv 0) (yh (pe_op yu (pv 2) zf)) yv)))) zu)
      (zd (zk (i:=7) nd rfl (Or.inl rfl) (pe_op xp (pe_op zay (pv 1) zf) (zp ya (by rfl) B.len PySem.boot_len (za (pv 0) zc))))
      (zd (zk (i:=8) nd rfl (Or.inl rfl) (x9 zas (by rfl) B.list PyProof.Rows.boot_list (za (pv 0) zc)))
      (zd (zar (pe_ix zw (pv 0) (pv 7) (fun _ _=>rfl)) (zaq (pv 8) (pv 2) vm))
      (zd (zar (pv 3) (zaq (pv 8) (pv 7) vm))
      (zg (zt (pv 8)))))))))))))))))),?_⟩
    have hal:=yk hbs
    have hbl:=zmv hne2
    have hb0:0<bs.length:=List.length_pos_iff.mpr hne
    obtain ⟨at_,eat,hat⟩:=natMod cell as.length (by omega)
    obtain ⟨ab,hab⟩:∃ a,as[at_]?=some a:=⟨as[at_],List.getElem?_eq_getElem hat⟩
    obtain ⟨b,hb,hbH⟩:=yd hbs hab
    have hbm:=List.mem_of_getElem? hb
    have hbne:0<b.length:=List.length_pos_iff.mpr (hne2 b hbm)
    have hbl12:b.length≤12:=Nat.le_trans (xh hbm) hfl
    obtain ⟨spot,espot,hspot⟩:=natMod (cell / 128) b.length hbne
    refine ⟨_,rfl,_,rfl,p,_,rfl,.inl (SqL.of hp),_,_,rfl,rfl,(by rw [List.length_map];omega),?_⟩
    show gName 2 (V.int (cell % ((List.map V.ref as).length:Int))) _ _ _
    rw [List.length_map,eat]
    refine ⟨_,rfl,_,rfl,p,_,_,_,rfl,rfl,SqL.of hp,zmw hab,?_⟩
    refine ⟨_,rfl,_,_,rfl,rfl,⟨by decide,by decide⟩,_,_,rfl,rfl,(by show (0:Int)<8;decide),?_⟩
    show gName 4 (V.int (cell / 16 % 8)) _ _ _
    generalize cell / 16 % 8=how
    refine ⟨_,rfl,rfl,_,rfl,iteD (fun _=>?_) fun _=>?_⟩
    · refine put16 (K:=K) (m:=at_+1) rfl rfl (fun H' R s' k=>?_) (fun H' R r=>⟨_,rfl,_,_,rfl,rfl,_,rfl,r⟩) (Same.refl _) hp hbs (by omega) (by omega) q
      refine ⟨_,rfl,_,rfl,ab,_,rfl,SqL.of (s' _ _ hbH),fun ln hln=>?_⟩
      rw [show cutV (iv b) (some 1) none=(iv b).drop 1 from zbc (iv b) 1]
      exact k ln (b.drop 1) _ (Same.new hln) (by rw [ze];simp [iv]) (by rw [List.length_drop];omega)
    refine ⟨_,rfl,rfl,_,rfl,iteD (fun _=>?_) fun _=>?_⟩
    · refine put16 (K:=K) (m:=at_+1) rfl rfl (fun H' R s' k=>?_) (fun H' R r=>⟨_,rfl,_,_,rfl,rfl,_,rfl,r⟩) (Same.refl _) hp hbs (by omega) (by omega) q
      refine ⟨_,rfl,_,rfl,ab,_,rfl,SqL.of (s' _ _ hbH),fun c1 hc1=>?_⟩
      rw [show cutV (iv b) none (some 1)=(iv b).take 1 from zcc (iv b) 1]
      have t1:=Same.new (o:=.lst ((iv b).take 1)) hc1
      refine ⟨_,rfl,c1,ab,_,_,rfl,rfl,ze,t1 _ _ (s' _ _ hbH),?_,fun ln hln=>?_⟩
      · rw [List.length_take,List.length_map]
        exact yf (by omega)
      · exact k ln (b.take 1++b) _ (t1.trans (Same.new hln)) (by rw [ze];simp [iv]) (by rw [List.length_append,List.length_take];omega)
    refine ⟨_,rfl,rfl,_,rfl,iteD (fun _=>?_) fun _=>?_⟩
    · refine put16 (K:=K) (m:=at_) rfl rfl (fun H' R s' k=>?_) (fun H' R r=>⟨_,rfl,_,rfl,r⟩) (Same.refl _) hp hbs (by omega) (by omega) q
      exact ⟨Nat.zero_le _,fun ln hln=>k ln [] _ (Same.new hln) ze (by decide)⟩
    refine ⟨_,rfl,rfl,_,rfl,iteD (fun _=>?_) fun _=>?_⟩
    · refine ⟨_,rfl,_,rfl,_,rfl,rfl,p,_,rfl,SqL.of hp,fun r hr0=>?_⟩
      have sm:=Same.new (o:=.lst (as.map V.ref).reverse) hr0
      refine q r bs.reverse _ sm ⟨⟨as.reverse,by rw [ze];simp,zmt (y9 (fun a b e=>sm _ _ e) hbs)⟩,by rw [List.length_reverse];omega,by rw [zhy];omega,fun c hc=>?_⟩
      have:=xh hc
      rw [zhy] at this
      omega
    refine ⟨_,rfl,rfl,_,rfl,iteD (fun _=>?_) fun _=>?_⟩
    · refine put16 (K:=K) (m:=at_+1) rfl rfl (fun H' R s' k=>?_) (fun H' R r=>⟨_,rfl,_,_,rfl,rfl,_,rfl,r⟩) (Same.refl _) hp hbs (by omega) (by omega) q
      refine ⟨_,rfl,_,rfl,_,rfl,rfl,ab,_,rfl,SqL.of (s' _ _ hbH),fun ln hln=>?_⟩
      exact k ln b.reverse _ (Same.new hln) (by rw [ze];simp [iv]) (by rw [List.length_reverse];omega)
    refine ⟨_,rfl,_,_,rfl,rfl,⟨by decide,by decide⟩,_,rfl,ab,_,rfl,.inl (SqL.of hbH),_,_,rfl,rfl,(by rw [List.length_map];omega),?_⟩
    show gName 5 (V.int (cell / 128 % ((iv b).length:Int))) _ _ _
    rw [List.length_map,espot]
    refine line16 (K:=K) (m:=spot+1) (x:=cell / 1280 % 16 - 3) rfl rfl (fun H' R _ r=>⟨_,rfl,_,_,rfl,rfl,⟨by decide,by decide⟩,_,_,rfl,rfl,(by show (0:Int)<16;decide),_,_,rfl,rfl,r⟩) (fun H' R r=>⟨_,rfl,_,_,rfl,rfl,_,rfl,r⟩) hbH (by omega) hspot (Nat.le_succ _) fun l0 c0 H1 s1 h1 hc0=>?_
    refine ⟨fun σ H'=>∃ (ln:Addr) (c:List Int) (v:Option V),σ=[some (.ref p),some (.int cell),some (.int at_),some (.ref ab),some (.int how),some (.int spot),some (.ref ln),v,none]∧Same H H'∧H' ln=some (.lst (iv c))∧c.length≤14,?_,?_⟩
    · refine ⟨_,rfl,rfl,_,rfl,iteD (fun _=>?_) fun _=>⟨l0,c0,none,rfl,s1,h1,hc0⟩⟩
      obtain ⟨place,eplace,hplace⟩:=natMod (cell / 1280) b.length hbne
      have hb1:=s1 _ _ hbH
      refine ⟨_,rfl,_,_,rfl,rfl,⟨by decide,by decide⟩,_,rfl,ab,_,rfl,.inl (SqL.of hb1),_,_,rfl,rfl,(by rw [List.length_map];omega),?_⟩
      show gName 7 (V.int (cell / 1280 % ((iv b).length:Int))) _ _ _
      rw [List.length_map,eplace]
      refine ⟨_,rfl,ab,_,rfl,.inl (SqL.of hb1),fun ln hln=>?_⟩
      have t1:=Same.new (o:=.lst (iv b)) hln
      refine ⟨_,rfl,_,rfl,ab,_,_,_,rfl,rfl,SqL.of (t1 _ _ hb1),iv_at hplace,_,rfl,_,rfl,ln,_,_,spot,rfl,rfl,ze,zaf (by rw [List.length_map];exact hspot),?_⟩
      have n1:ab≠ln:=zn hb1 hln
      refine ⟨_,rfl,_,rfl,ab,_,_,_,rfl,rfl,SqL.of (by rw [zi n1];exact t1 _ _ hb1),iv_at hspot,_,rfl,_,rfl,ln,_,_,place,rfl,rfl,ze,zaf (by rw [List.length_set,List.length_map];exact hplace),?_⟩
      refine ⟨ln,(b.set spot b[place]).set place b[spot],_,rfl,s1.trans ((t1.upd hln).upd hln),?_,by rw [List.length_set,List.length_set];omega⟩
      rw [ze]
      simp [iv,List.map_set]
    rintro σ H2 ⟨ln,c,v,rfl,s2,h2,hc⟩
    have hp2:=s2 _ _ hp
    have hb2:=s2 _ _ hbH
    have hbs2:Paired (fun a b=>H2 a=some (.lst (iv b))) as bs:=y9 (fun a b e=>s2 _ _ e) hbs
    refine ⟨_,rfl,_,_,rfl,rfl,_,rfl,iteD (fun _=>?_) fun _=>?_⟩
    · exact put16 (K:=K) (H:=H) (m:=at_+1) rfl rfl (fun H' R s' k=>⟨_,rfl,k ln c _ (Same.refl _) (s' _ _ h2) hc⟩) (fun H' R r=>⟨_,rfl,_,_,rfl,rfl,_,rfl,r⟩) s2 hp hbs (by omega) (by omega) q
    obtain ⟨place,eplace,hplace⟩:=natMod (cell / 1280) as.length (by omega)
    obtain ⟨a2,ha2⟩:∃ a,as[place]?=some a:=⟨as[place],List.getElem?_eq_getElem hplace⟩
    obtain ⟨b2,hb2',hb2H⟩:=yd hbs2 ha2
    have hb2m:=xh (List.mem_of_getElem? hb2')
    refine ⟨_,rfl,_,_,rfl,rfl,⟨by decide,by decide⟩,_,rfl,p,_,rfl,.inl (SqL.of hp2),_,_,rfl,rfl,(by rw [List.length_map];omega),?_⟩
    show gName 7 (V.int (cell / 1280 % ((List.map V.ref as).length:Int))) _ _ _
    rw [List.length_map,eplace]
    refine ⟨_,rfl,p,_,rfl,.inl (SqL.of hp2),fun r hr0=>?_⟩
    have t1:=Same.new (o:=.lst (as.map V.ref)) hr0
    refine ⟨_,rfl,_,rfl,p,_,_,_,rfl,rfl,SqL.of (t1 _ _ hp2),zmw ha2,_,rfl,_,rfl,r,_,_,at_,rfl,rfl,ze,zaf (by rw [List.length_map];exact hat),?_⟩
    refine ⟨_,rfl,_,rfl,_,rfl,r,_,_,place,rfl,rfl,ze,zaf (by rw [List.length_set,List.length_map];exact hplace),?_⟩
    have sm:=((t1.upd hr0 (o:=.lst ((as.map V.ref).set at_ (.ref a2)))).upd hr0 (o:=.lst (((as.map V.ref).set at_ (.ref a2)).set place (.ref ab))))
    have f1:=zhz b2 bs at_
    have f2:=zhz b (bs.set at_ b2) place
    refine ⟨_,rfl,q r ((bs.set at_ b2).set place b) _ (s2.trans sm) ⟨⟨(as.set at_ a2).set place ab,?_,zjz (sm _ _ hb2) _ (zjz (sm _ _ hb2H) _ (y9 (fun a b e=>sm _ _ e) hbs2))⟩,?_,by omega,fun c hc=>?_⟩⟩
    · rw [ze]
      simp [List.map_set]
    · rw [List.length_set,List.length_set]
      omega
    · have:=xh hc
      omega
end
end NCP
namespace NCP
open PySem L2 NC
section
variable {P:Program} {w:World} {K:PySem.W.Frag} {mg:Str→Option Value} {base:Heap}
theorem zi4:FnScope ["points","blocks"] ["points","blocks"] (defScope zr):=⟨rfl,rfl,rfl,by decide +kernel,rfl,by decide +kernel,by decide +kernel⟩
theorem zi5 {f fI R C0 C1 C2 C3:Addr} {fd fdI:FuncData} (KB:K.In base) (c:Cl4 K mg R C0 C1 C2 C3) (F:Fun K "refuse_no_parting" "refuse_no_parting" zr f fd)
    (DI:Dn K mg "is_parting" yx ["points","blocks"] fI fdI) (GI:FnOk P w K mg base (CXe P w) 2 fI fdI ["points","blocks"] spIsParting):FnOk P w K mg base (CXe P w) 3 f fd ["points","blocks"] (spRefuse C0):=by
  refine F.okE zi4 (fun vs H Q E h=>?_) (fun cdv A outer s H vs Q E hr h=>?_)
  · obtain ⟨n,p,bs,rfl,_⟩:=h
    rfl
  · obtain ⟨n,p,bs,rfl,hL,hz,hz2,hz3,hP,q⟩:=h
    refine ⟨_,zg (ps_if (vt (vc (zh GI hr rfl DI.at_ DI.fn.kp DI.bd .nil (passN cxNoE) (za (pv 0) (za (pv 1) zc)))))
      (zg (zn3 (C:=C0) lv_of rfl (zqr KB c.n0 c.x0) PySem.F.excBase_ValueError rfl (za zgy zc))) zu),?_⟩
    refine ⟨_,rfl,_,rfl,n,p,bs,rfl,hL,hz,hz2,hz3,fun b H' s hb=>⟨b,rfl,?_⟩⟩
    have e:b=false:=by
      cases b with
      | false=>rfl
      | true=>exact absurd (hb.mp rfl) hP
    subst e
    exact ⟨by show 1≤sizeLine;decide,q H' s⟩
end
end NCP
namespace NCP
open PySem L2 NC
section
variable {CX:CXT} {P:Program} {w:World} {K:PySem.W.Frag} {mg:Str→Option Value} {base:Heap}
def eRises:TE:=fun τ H Q=>∃ i j,τ[0]?=some (some (.int i))∧τ[1]?=some (some (.int j))∧Q (.bl (decide (i<j))) H
theorem nd_lh:(["low","high"]:List Str).Nodup:=by decide +kernel
theorem zos:FnScope ["numbers"] ["numbers"] (defScope v9):=⟨rfl,rfl,rfl,by decide +kernel,rfl,by decide +kernel,by decide +kernel⟩
theorem zot {f:Addr} {fd:FuncData} (F:Fun K "rises" "rises" v9 f fd) (gAll:mg "all"=none) (gZip:mg "zip"=none):FnOk P w K mg base CX 1 f fd ["numbers"] (spRises K):=by
  refine F.okX zos (fun vs H Q E h=>?_) (fun cdv A outer s H vs Q E hr h=>?_)
  · obtain ⟨a,ns,rfl,_⟩:=h
    rfl
  · obtain ⟨a,ns,rfl,hS,hl,q⟩:=h
    refine ⟨_,zg (zt (zp (zac rfl) (by rfl) gAll PyProof.Rows.boot_all (za
      (wc (g:=g2 K 0 1) (te:=eRises) rfl (cpS (N:=["low","high"]) (js:=[none,none]) (defScope v9) ["numbers"] (by decide +kernel))
        (zqe (by rfl) gZip (za (pv 0) (za (yi yp (pv 0) (yh zf) yv) zc)))
        (by intros;exact zbs 0 1 rfl nd_lh rfl rfl rfl rfl)
        (by intros;exact (x8 op_lt (pv 0) (pv 1) (nomark _)).imp fun τ H Q ⟨i,j,e1,e2,q⟩=>⟨_,e1,_,e2,_,_,rfl,rfl,q⟩)) zc))),?_⟩
    refine ⟨_,rfl,_,rfl,1,rfl,a,_,rfl,hS,fun p1 h1=>⟨a,p1,rfl,⟨_,(Same.new h1).seq hS⟩,⟨_,SqL.of ze⟩,fun p2 h2=>?_⟩⟩
    have e1:cutV (iv ns) (some (1:Int)) none=(iv ns).drop 1:=zbc (iv ns) 1
    rw [e1] at h2 ⊢
    have s1:=Same.new (o:=.lst ((iv ns).drop 1)) h1
    refine vi (J:=Itz K a p1) (Hs:=upd H p1 (.lst ((iv ns).drop 1))) (ns.length - 1) (fun i=>.bl (decide (ns.getD i 0<ns.getD (i+1) 0))) (fun τ=>∃ u v,τ=[u,v]) (Same.refl _) h2 ?_ ?_ ?_ ⟨_,_,rfl⟩ ?_ ?_
    · exact Nat.le_trans (Nat.sub_le _ _) (Nat.le_of_lt (small1000 hl))
    · intro i H2 hi s2
      refine ⟨_,_,.int (ns.getD i 0),.int (ns.getD (i+1) 0),s2.seq (s1.seq hS),SqL.of (s2 _ _ ze),?_,?_⟩
      · rw [List.getElem?_map,List.getD_eq_getElem?_getD,List.getElem?_eq_getElem (by omega:i<ns.length)];rfl
      · rw [List.getElem?_drop,List.getElem?_map,List.getD_eq_getElem?_getD,Nat.add_comm,List.getElem?_eq_getElem (by omega:i+1<ns.length)];rfl
    · intro H2 s2
      exact ⟨_,_,s2.seq (s1.seq hS),SqL.of (s2 _ _ ze),.inr (by rw [List.length_drop,List.length_map];exact Nat.le_refl _)⟩
    · rintro i τ H2 x H3 R hi ⟨u,v,rfl⟩ s2 ⟨t,x',y',rfl,ht,rfl,hxy⟩ k
      obtain ⟨hx,hy⟩:=hxy _ _ (s2.seq (s1.seq hS)) (SqL.of (s2 _ _ ze))
      have ex:x'=.int (ns.getD i 0):=by
        rw [List.getElem?_map,List.getElem?_eq_getElem (by omega:i<ns.length)] at hx
        rw [List.getD_eq_getElem?_getD,List.getElem?_eq_getElem (by omega:i<ns.length)]
        exact (Option.some.inj hx).symm
      have ey:y'=.int (ns.getD (i+1) 0):=by
        rw [List.getElem?_drop,List.getElem?_map,Nat.add_comm,List.getElem?_eq_getElem (by omega:i+1<ns.length)] at hy
        rw [List.getD_eq_getElem?_getD,List.getElem?_eq_getElem (by omega:i+1<ns.length)]
        exact (Option.some.inj hy).symm
      subst ex ey
      exact ⟨t,_,_,rfl,SqT.of ze,_,_,rfl,rfl,k _ _ ⟨_,_,rfl⟩ (Same.new ht)⟩
    · intro H2 s2 h3
      refine ⟨p2,(List.range (ns.length - 1)).map fun i=>decide (ns.getD i 0<ns.getD (i+1) 0),rfl,SqL.of (by rw [h3,List.map_map];rfl),?_⟩
      rw [zlw]
      exact q H2 (s1.trans s2)
end
end NCP
namespace NCP
open PySem L2 NC
section
variable {CX:CXT} {P:Program} {w:World} {K:PySem.W.Frag} {mg:Str→Option Value} {base:Heap}
theorem sc_points_in:FnScope ["blocks","told","block"] ["blocks"] (defScope wk):=⟨rfl,rfl,rfl,by decide +kernel,rfl,by decide +kernel,by decide +kernel⟩
theorem zh7 {f:Addr} {fd:FuncData} (F:Fun K "points_in" "points_in" wk f fd):FnOk P w K mg base CX 1 f fd ["blocks"] spPointsIn:=by
  refine F.okX sc_points_in (fun vs H Q E h=>?_) (fun cdv A outer s H vs Q E hr h=>?_)
  · obtain ⟨p,bs,rfl,_⟩:=h
    rfl
  · obtain ⟨p,bs,rfl,hL,hz,q⟩:=h
    obtain ⟨as,hp,hbs⟩:=id hL
    refine ⟨_,zd (zk (i:=1) sc_points_in.nd rfl (Or.inl rfl) (ym zc))
      (zd (yt PassesOwn.never rfl (y2 (pv 0)) (zy (i:=2) sc_points_in.nd rfl (Or.inl rfl))
        (zg (zm (pe_bm PySem.F.plainAttrs_list PySem.F.slot_list_extend PySem.F.type_list_extend zll (pv 1) (za (pv 2) zc)))))
      (zg (zt (pv 1)))),?_⟩
    refine ⟨Nat.zero_le _,fun l hl=>⟨_,rfl,p,rfl,⟨_,SqL.of (Same.new hl _ _ hp)⟩,vk (K:=K) (a:=p) (xs:=as.map V.ref)
      (fun i σ H2=>∃ v,σ=[some (.ref p),some (.ref l),v]∧Same H H2∧H2 l=some (.lst (iv (bs.take i).flatten))) ⟨none,rfl,Same.new hl,ze⟩ (fun i σ H2 _ ⟨_,_,s2,_⟩=>SqL.of (s2 _ _ hp)) ?_ ?_⟩⟩
    · rintro i x σ H2 hi ⟨v,rfl,s2,h2⟩
      obtain ⟨a,ha,rfl⟩:=we hi
      obtain ⟨b,hb,hab⟩:=yd hbs ha
      have e:=vh hb
      have hlen:((bs.take i).flatten++b).length≤bs.flatten.length:=by
        have:(bs.take (i+1)).flatten.length≤bs.flatten.length:=by
          conv=>rhs;rw [← List.take_append_drop (i+1) bs,List.flatten_append,List.length_append]
          omega
        rw [e,List.flatten_append] at this
        simpa using this
      refine ⟨_,rfl,.inl ⟨rfl,_,SqL.of h2⟩,_,rfl,l,a,_,_,rfl,rfl,h2,s2 _ _ hab,?_,?_⟩
      · rw [List.length_map,List.length_map,← List.length_append]
        exact yf (Nat.le_trans hlen hz)
      · refine ⟨_,rfl,s2.upd hl,?_⟩
        rw [ze,e,List.flatten_append]
        simp [iv]
    · rintro σ H2 ⟨v,rfl,s2,h2⟩
      refine ⟨_,rfl,q l H2 ⟨s2,hl,?_⟩⟩
      rw [List.length_map,yk hbs,List.take_length] at h2
      exact h2
end
end NCP
namespace NCP
open PySem L2 NC
section
variable {CX:CXT} {P:Program} {w:World} {K:PySem.W.Frag} {mg:Str→Option Value} {base:Heap}
def eOk:TE:=fun τ H Q=>∃ (a:Addr) (b:List Int),τ[0]?=some (some (.ref a))∧H a=some (.lst (iv b))∧b.length≤1000∧∀ H',Same H H'→Q (.bl (decide (b≠[]∧b.Pairwise (·<·)))) H'
def eHead:TE:=fun τ H Q=>∃ (a:Addr) (b:List Int),τ[0]?=some (some (.ref a))∧H a=some (.lst (iv b))∧b≠[]∧Q (.int (b.headD 0)) H
theorem zgu:FnScope ["points","blocks"] ["points","blocks"] (defScope yx):=⟨rfl,rfl,rfl,by decide +kernel,rfl,by decide +kernel,by decide +kernel⟩
theorem zdg {n:Int} {bs:List (List Int)} (h0:0≤n) (h1:n≤10) (h2:∀ b∈bs,b≠[]∧b.Pairwise (·<·)) (h3:(bs.map (fun b=>b.headD 0)).Pairwise (·<·)) {ms:List Int} (hp:ms.Perm bs.flatten) (hs:ms.Pairwise (·≤·)) :
    decide (ms=(List.range n.toNat).map (fun (k:Nat)=>(k:Int)))=true↔Parting n bs:=by
  rw [decide_eq_true_iff,zbr hs]
  constructor
  · intro h
    exact ⟨h0,h1,fun b hb=>(h2 b hb).1,fun b hb=>(h2 b hb).2,h3,hp.symm.trans h⟩
  · intro h
    exact hp.trans h.perm
theorem zgv {f fR fP:Addr} {fd fdR fdP:FuncData} (hX:CxNo CX) (B:GBlt mg) (F:Fun K "is_parting" "is_parting" yx f fd) (hmp:∃ t,mg "MOST_POINTS"=some (.int 10 t))
    (DR:Dn K mg "rises" v9 ["numbers"] fR fdR) (GR:FnOk P w K mg base CX 1 fR fdR ["numbers"] (spRises K)) (DP:Dn K mg "points_in" wk ["blocks"] fP fdP) (GP:FnOk P w K mg base CX 1 fP fdP ["blocks"] spPointsIn) :
    FnOk P w K mg base CX 2 f fd ["points","blocks"] spIsParting:=by
  obtain ⟨tk,hmp⟩:=hmp
  refine F.okX zgu (fun vs H Q E h=>?_) (fun cdv A outer s H vs Q E hr h=>?_)
  · obtain ⟨n,p,bs,rfl,_⟩:=h
    rfl
  · obtain ⟨n,p,bs,rfl,hL,hz,hz2,hz3,q⟩:=h
    obtain ⟨as,hp,hbs⟩:=id hL
    have hal:=yk hbs
    refine ⟨_,zd (ps_if (PW.pt (pw_or (zv op_lt (pv 0) zf (nomark _)) (zcy (zv op_gt (pv 0) (vz (v:=.int 10) (by rfl) hmp ⟨_,rfl⟩) (nomark _))))) (zg (zt pe_bl)) zu)
      (zd (ps_if (vt (vc (zp (zac rfl) (by rfl) B.all PyProof.Rows.boot_all (za
          (wc (g:=gName 0) (te:=eOk) rfl (cpS (N:=["block"]) (js:=[none]) (defScope yx) ["points","blocks"] (by decide +kernel)) (y2 (pv 1))
            (by intros;exact zy (i:=0) za4 rfl (Or.inl rfl) (Or.inr rfl))
            (by
              intros
              refine (zb7 (x8 op_gt (zp ya (by rfl) B.len PySem.boot_len (za (pv 0) zc)) zf (nomark _)) (zba (zh GR hr (by rfl) DR.at_ DR.fn.kp DR.bd .nil (passN hX) (za (pv 0) zc)))).imp fun τ H Q h=>?_
              obtain ⟨a,b,e,hb,hl,q⟩:=h
              refine ⟨_,e,a,_,rfl,.inl (SqL.of hb),_,_,rfl,rfl,_,rfl,iteD (fun h=>?_) (fun h=>?_)⟩
              · refine ⟨_,e,a,b,rfl,SqL.of hb,hl,fun H' s=>?_⟩
                have hne:b≠[]:=by rintro rfl;simp at h
                have e2:decide (b≠[]∧b.Pairwise (·<·))=decide (b.Pairwise (·<·)):=by simp [hne]
                rw [← e2]
                exact q H' s
              · have hne:b=[]:=by
                  cases b with
                  | nil=>rfl
                  | cons x r=>exact absurd (by simp) h
                have e2:decide (b≠[]∧b.Pairwise (·<·))=false:=by simp [hne]
                rw [← e2]
                exact q H (Same.refl _))) zc)))) (zg (zt pe_bl)) zu)
      (zd (ps_if (vt (vc (zh GR hr rfl DR.at_ DR.fn.kp DR.bd .nil (passN hX) (za
          (wc (g:=gName 0) (te:=eHead) rfl (cpS (N:=["block"]) (js:=[none]) (defScope yx) ["points","blocks"] (by decide +kernel)) (y2 (pv 1))
            (by intros;exact zy (i:=0) za4 rfl (Or.inl rfl) (Or.inr rfl))
            (by
              intros
              refine (pe_ix zw (pv 0) zf (fun _ _=>rfl)).imp fun τ H Q h=>?_
              obtain ⟨a,b,e,hb,hne,q⟩:=h
              refine ⟨_,e,a,_,0,_,rfl,rfl,SqL.of hb,?_,q⟩
              cases b with
              | nil=>exact absurd rfl hne
              | cons x r=>exact xq (j:=0) rfl)) zc)))) (zg (zt pe_bl)) zu)
      (zg (zt (x8 (zhh enc_int.list hr.units) (zp zao (by rfl) B.sorted PyProof.Rows.boot_sorted (za (zh GP hr rfl DP.at_ DP.fn.kp DP.bd .nil (passN hX) (za (pv 1) zc)) zc))
        (x9 (zcv rfl) (by rfl) B.list PyProof.Rows.boot_list (za (x9 zdr (by rfl) B.range PyProof.Rows.boot_range (za (pv 0) zc)) zc)) (nomark _)))))),?_⟩
    have no:∀ H',Same H H'→¬ Parting n bs→Q (.bl false) H':=fun H' s z=>q false H' s ⟨(fun z2=>by cases z2),fun z2=>absurd z2 z⟩
    refine ⟨_,rfl,_,_,rfl,rfl,_,rfl,iteD (fun h0=>no H (Same.refl _) fun z=>by have:=z.lo;omega) fun h0=>?_⟩
    refine ⟨_,rfl,_,_,rfl,rfl,_,rfl,iteD (fun h1=>no H (Same.refl _) fun z=>by have:=z.hi;omega) fun h1=>?_⟩
    refine ⟨_,rfl,p,rfl,⟨_,SqL.of hp⟩,fun p1 hp1=>vf (K:=K) (xs:=as.map V.ref) (Hs:=H) (fun i=>.bl (decide (bs.getD i []≠[]∧(bs.getD i []).Pairwise (·<·)))) (fun τ=>∃ v,τ=[v]) (Same.refl _) hp1 (SqL.of hp) (by rw [List.length_map,hal];exact yf hz) ⟨_,rfl⟩ ?_ ?_⟩
    · rintro i x τ H2 R hi ⟨v,rfl⟩ s2 k
      obtain ⟨a,ha,rfl⟩:=we hi
      obtain ⟨b,hb,hab⟩:=yd hbs ha
      have e:bs.getD i []=b:=by rw [List.getD_eq_getElem?_getD,hb];rfl
      rw [e] at k
      exact ⟨a,b,rfl,s2 _ _ hab,hz3 b (List.mem_of_getElem? hb),fun H' s3=>k _ H' ⟨_,rfl⟩ s3⟩
    intro H2 s2 h2
    refine ⟨p1,(List.range as.length).map fun i=>decide (bs.getD i []≠[]∧(bs.getD i []).Pairwise (·<·)),rfl,SqL.of (by rw [h2,List.length_map,List.map_map];rfl),_,rfl,?_⟩
    have eall:((List.range as.length).map fun i=>decide (bs.getD i []≠[]∧(bs.getD i []).Pairwise (·<·))).all id=decide (∀ b∈bs,b≠[]∧b.Pairwise (·<·)):=by
      rw [Bool.eq_iff_iff,decide_eq_true_iff,List.all_map,List.all_eq_true]
      simp only [List.mem_range,Function.comp,id,decide_eq_true_eq]
      constructor
      · intro h b hb
        obtain ⟨i,hi,e⟩:=List.mem_iff_getElem.mp hb
        have:=h i (by omega)
        rw [List.getD_eq_getElem?_getD,List.getElem?_eq_getElem hi] at this
        rw [← e];exact this
      · intro h i hi
        rw [List.getD_eq_getElem?_getD,List.getElem?_eq_getElem (by omega:i<bs.length)]
        exact h _ (List.getElem_mem _)
    rw [eall]
    refine iteND (fun h3=>no H2 s2 fun z=>h3 fun b hb=>⟨z.ne b hb,z.rise b hb⟩) fun h3=>?_
    have hp2:=s2 _ _ hp
    refine ⟨_,rfl,p,rfl,⟨_,SqL.of hp2⟩,fun p3 hp3=>vf (K:=K) (xs:=as.map V.ref) (Hs:=H2) (fun i=>.int ((bs.getD i []).headD 0)) (fun τ=>∃ v,τ=[v]) (Same.refl _) hp3 (SqL.of hp2) (by rw [List.length_map,hal];exact yf hz) ⟨_,rfl⟩ ?_ ?_⟩
    · rintro i x τ H4 R hi ⟨v,rfl⟩ s4 k
      obtain ⟨a,ha,rfl⟩:=we hi
      obtain ⟨b,hb,hab⟩:=yd hbs ha
      have e:bs.getD i []=b:=by rw [List.getD_eq_getElem?_getD,hb];rfl
      rw [e] at k
      exact ⟨a,b,rfl,s4 _ _ (s2 _ _ hab),(h3 b (List.mem_of_getElem? hb)).1,k _ H4 ⟨_,rfl⟩ (Same.refl _)⟩
    intro H4 s4 h4
    have efirst:(List.range (as.map V.ref).length).map (fun i=>V.int ((bs.getD i []).headD 0))=iv (bs.map fun b=>b.headD 0):=by
      rw [List.length_map,hal]
      apply List.ext_getElem?
      intro i
      rw [List.getElem?_map,List.getElem?_map,List.getElem?_map]
      by_cases hi:i<bs.length
      · rw [List.getElem?_range hi,List.getElem?_eq_getElem hi]
        simp [hi]
      · rw [List.getElem?_eq_none_iff.mpr (by simpa using hi),List.getElem?_eq_none_iff.mpr (by omega)]
        rfl
    rw [efirst] at h4
    refine ⟨p3,_,rfl,SqL.of h4,by rw [List.length_map];exact hz,fun H5 s5=>⟨_,rfl,?_⟩⟩
    refine iteND (fun h6=>no H5 ((s2.trans s4).trans s5) fun z=>h6 z.firsts) fun h6=>?_
    have s05:=(s2.trans s4).trans s5
    refine ⟨_,rfl,p,bs,rfl,hL.mono s05,Nat.le_trans (Nat.le_of_lt hz2) (by decide),fun l H6 N6=>⟨l,_,rfl,SqL.of N6.at_,hz2,fun l2 ms hl2 hperm hsort=>?_⟩⟩
    refine ⟨_,rfl,_,rfl,fun r hr0=>⟨r,n.toNat,rfl,?_,?_,fun l3 hl3=>?_⟩⟩
    · rw [ze]
      congr 2
      omega
    · omega
    · have s7:Same H (upd (upd (upd H6 l2 (.lst (iv ms))) r (.rng 0 n)) l3 (.lst ((List.range n.toNat).map fun (i:Nat)=>V.int (i:Int)))) :=
        (((s05.trans N6.same).trans (Same.new hl2)).trans (Same.new hr0)).trans (Same.new hl3)
      refine ⟨ms,(List.range n.toNat).map fun (k:Nat)=>(k:Int),zae (SqL.of ?_),zae (SqL.of ?_),q _ _ s7 (zdg (by omega) (by omega) h3 h6 hperm hsort)⟩
      · rw [zi (zn (o:=.lst (iv ms)) (by rw [zi (zn ze hr0),ze]) hl3),zi (zn ze hr0),ze]
      · rw [ze,List.map_map]
        rfl
end
end NCP
namespace NCP
open PySem L2 NC
section
variable {CX:CXT} {P:Program} {w:World} {K:PySem.W.Frag} {mg:Str→Option Value} {base:Heap}
theorem zct:FnScope ["points","blocks"] ["points","blocks"] (defScope zr):=⟨rfl,rfl,rfl,by decide +kernel,rfl,by decide +kernel,by decide +kernel⟩
theorem zh8 {f fI:Addr} {fd fdI:FuncData} (hX:CxNo CX) (F:Fun K "refuse_no_parting" "refuse_no_parting" zr f fd)
    (DI:Dn K mg "is_parting" yx ["points","blocks"] fI fdI) (GI:FnOk P w K mg base CX 2 fI fdI ["points","blocks"] spIsParting):FnOk P w K mg base CX 3 f fd ["points","blocks"] spNoRefuse:=by
  refine F.okX zct (fun vs H Q E h=>?_) (fun cdv A outer s H vs Q E hr h=>?_)
  · obtain ⟨n,p,bs,rfl,_⟩:=h
    rfl
  · obtain ⟨n,p,bs,rfl,hL,hz,hz2,hz3,hP,q⟩:=h
    refine ⟨_,zg (ps_if (vt (vc (zh GI hr rfl DI.at_ DI.fn.kp DI.bd .nil (passN hX) (za (pv 0) (za (pv 1) zc))))) yj zu),?_⟩
    refine ⟨_,rfl,_,rfl,n,p,bs,rfl,hL,hz,hz2,hz3,fun b H' s hb=>⟨b,rfl,?_⟩⟩
    rw [hb.mpr hP]
    exact iteF (q H' s)
end
end NCP
namespace NCP
open PySem L2 NC
section
variable {CX:CXT} {P:Program} {w:World} {K:PySem.W.Frag} {mg:Str→Option Value} {base:Heap}
theorem sc_block_places:FnScope ["points","blocks","places","place","block","point"] ["points","blocks"] (defScope yg):=⟨rfl,rfl,rfl,by decide +kernel,rfl,by decide +kernel,by decide +kernel⟩
theorem zez {f:Addr} {fd:FuncData} (B:GBlt mg) (F:Fun K "block_places" "block_places" yg f fd):FnOk P w K mg base CX 1 f fd ["points","blocks"] spBlockPlaces:=by
  refine F.okX sc_block_places (fun vs H Q E h=>?_) (fun cdv A outer s H vs Q E hr h=>?_)
  · obtain ⟨p,wd,rfl,_⟩:=h
    rfl
  · obtain ⟨p,wd,rfl,hL,hz,q⟩:=h
    obtain ⟨as,hp,hbs⟩:=id hL
    have nd:=sc_block_places.nd
    refine ⟨_,zd (zk (i:=2) nd rfl (Or.inl rfl) (pe_op zb9 (ym (za zf zc)) (pv 0)))
      (zd (yt PassesOwn.never rfl (za2 (by rfl) B.enum (za (pv 1) zc)) (zbs 3 4 rfl nd rfl rfl rfl rfl)
        (zg (yt PassesOwn.never rfl (y2 (pv 4)) (zy (i:=5) nd rfl (Or.inl rfl))
          (zg (zar (pv 3) (zaq (pv 2) (pv 5) vm))))))
      (zg (zt (pv 2)))),?_⟩
    refine ⟨by show 1≤sizeLine;decide,fun l0 hl0=>⟨_,rfl,l0,_,_,rfl,rfl,ze,by omega,by omega,?_,fun l hl1=>?_⟩⟩
    · rw [Int.toNat_natCast]
      exact yf (by simpa using hz)
    have hl:H l=none:=(Same.new hl0).free hl1
    rw [Int.toNat_natCast,zea]
    have s1:Same H (upd (upd H l0 (.lst [.int 0])) l (.lst (iv (zl (List.replicate wd.length 0))))):=(Same.new hl0).upd hl
    refine ⟨_,rfl,p,rfl,⟨_,SqL.of (s1 _ _ hp)⟩,zap (K:=K) (a:=p) (xs:=as.map V.ref)
      (fun i σ H2=>∃ v3 v4 v5 L,σ=[some (.int wd.length),some (.ref p),some (.ref l),v3,v4,v5]∧Same H H2∧H2 l=some (.lst (iv (zl L)))∧PlacesTo wd i 0 L)
      ⟨none,none,none,_,rfl,s1,ze,zc1 wd⟩ (fun i σ H2 _ ⟨_,_,_,_,_,s2,_⟩=>SqL.of (s2 _ _ hp)) ?_ ?_⟩
    · rintro i x σ H2 t hi ⟨v3,v4,v5,L,rfl,s2,h2,hP⟩ ht
      obtain ⟨a,ha,rfl⟩:=we hi
      obtain ⟨b',hb',hab⟩:=yd hbs ha
      obtain ⟨b,hb,rfl⟩:=zce hb'
      have s3:Same H (upd H2 t (.tup [.int i,.ref a])):=s2.trans (Same.new ht)
      refine ⟨t,_,_,rfl,SqT.of ze,_,rfl,a,rfl,⟨_,SqL.of (s3 _ _ hab)⟩,vk (K:=K) (a:=a) (xs:=iv (zl b))
        (fun k σ H3=>∃ v5 L,σ=[some (.int wd.length),some (.ref p),some (.ref l),some (.int i),some (.ref a),v5]∧Same H H3∧H3 l=some (.lst (iv (zl L)))∧PlacesTo wd i k L)
        ⟨v5,L,rfl,s3,Same.new ht _ _ h2,hP⟩ (fun k σ H3 _ ⟨_,_,_,s4,_⟩=>SqL.of (s4 _ _ hab)) ?_ ?_⟩
      · rintro k x σ H3 hk ⟨v5,L,rfl,s4,h4,hP⟩
        obtain ⟨pt,hpt,rfl⟩:=vy hk
        have hlt:pt<L.length:=by rw [hP.1];exact yr (List.mem_of_getElem? hb) (List.mem_of_getElem? hpt)
        refine ⟨_,rfl,_,rfl,_,rfl,l,_,_,pt,rfl,rfl,h4,zaf (by simpa using hlt),?_⟩
        refine ⟨_,L.set pt i,rfl,s4.upd hl,?_,zdl hP hb hpt⟩
        rw [ze,zer]
      · rintro σ H3 ⟨v5,L,rfl,s4,h4,hP⟩
        rw [List.length_map,List.length_map] at hP
        exact ⟨_,_,_,L,rfl,s4,h4,zdm hP hb⟩
    · rintro σ H2 ⟨v3,v4,v5,L,rfl,s2,h2,hP⟩
      rw [List.length_map,yk hbs,List.length_map] at hP
      rw [zeh hP] at h2
      exact ⟨_,rfl,q l H2 ⟨s2,hl,h2⟩⟩
end
end NCP
namespace NCP
open PySem L2 NC
section
variable {CX:CXT} {P:Program} {w:World} {K:PySem.W.Frag} {mg:Str→Option Value} {base:Heap}
theorem sc_first_crossing:FnScope ["labels","points","a","b","c","d"] ["labels"] (defScope yn):=⟨rfl,rfl,rfl,by decide +kernel,rfl,by decide +kernel,by decide +kernel⟩
theorem zdh {f:Addr} {fd:FuncData} (B:GBlt mg) (F:Fun K "first_crossing" "first_crossing" yn f fd):FnOk P w K mg base CX 1 f fd ["labels"] (spFirstCrossing K):=by
  refine F.okX sc_first_crossing (fun vs H Q E h=>?_) (fun cdv A outer s H vs Q E hr h=>?_)
  · obtain ⟨l,wd,rfl,_⟩:=h
    rfl
  · obtain ⟨l,wd,rfl,hS,hz,q1,q2⟩:=h
    have nd:=sc_first_crossing.nd
    refine ⟨_,zd (zk (i:=1) nd rfl (Or.inl rfl) (zp ya (by rfl) B.len PySem.boot_len (za (pv 0) zc)))
      (zd (yt PassesOwn.never rfl (vd rfl B.range (za (pv 1) zc)) (zy (i:=2) nd rfl (Or.inl rfl))
        (zg (yt PassesOwn.never rfl (zbb rfl B.range (za (pe_op yu (pv 2) zf) (za (pv 1) zc))) (zy (i:=3) nd rfl (Or.inl rfl))
          (zg (yt PassesOwn.never rfl (zbb rfl B.range (za (pe_op yu (pv 3) zf) (za (pv 1) zc))) (zy (i:=4) nd rfl (Or.inl rfl))
            (zg (yt PassesOwn.never rfl (zbb rfl B.range (za (pe_op yu (pv 4) zf) (za (pv 1) zc))) (zy (i:=5) nd rfl (Or.inl rfl))
              (zg (ps_if (PW.pt (za9 (zv op_eq (pe_ix zw (pv 0) (pv 2) (fun _ _=>rfl)) (pe_ix zw (pv 0) (pv 4) (fun _ _=>rfl)) (nomark _))
                  (za9 (zv op_eq (pe_ix zw (pv 0) (pv 3) (fun _ _=>rfl)) (pe_ix zw (pv 0) (pv 5) (fun _ _=>rfl)) (nomark _))
                  (zb6 (zv op_ne (pe_ix zw (pv 0) (pv 2) (fun _ _=>rfl)) (pe_ix zw (pv 0) (pv 3) (fun _ _=>rfl)) (nomark _))))))
                (zg (zt (zed (za (pv 2) (za (pv 3) (za (pv 4) (za (pv 5) zc))))))) zu)))))))))
      (zg (zt zah))),?_⟩
    have hat:∀ i,i<wd.length→atI (iv (zl wd)) (i:Int)=some (.int (wd.getD i 0:Int)):=fun i hi =>
      xq (iv_of (by rw [List.getD_eq_getElem?_getD,List.getElem?_eq_getElem hi];rfl))
    have hget:∀ i,i<wd.length→wd[i]?=some (wd.getD i 0):=fun i hi=>by rw [List.getD_eq_getElem?_getD,List.getElem?_eq_getElem hi];rfl
    refine ⟨_,rfl,l,_,rfl,.inl hS,?_⟩
    rw [List.length_map,List.length_map]
    refine ⟨_,rfl,_,rfl,by omega,by omega,?_⟩
    rw [Int.toNat_natCast]
    refine wn (lo:=0) (n:=wd.length) (fun i σ H2=>∃ v2 v3 v4 v5,σ=[some (.ref l),some (.int wd.length),v2,v3,v4,v5]∧H=H2∧∀ a b c d,a<i→¬ IsCross wd a b c d)
      ⟨none,none,none,none,rfl,rfl,fun _ _ _ _ h=>by omega⟩ ?_ ?_
    · rintro a σ H2 ha ⟨v2,v3,v4,v5,rfl,rfl,ia⟩
      rw [Int.zero_add]
      refine ⟨_,rfl,_,_,rfl,rfl,_,rfl,_,_,rfl,⟨by omega,by omega,by omega,by omega⟩,?_⟩
      rw [show ((wd.length:Int) - ((a:Int)+1)).toNat=wd.length - (a+1) from by omega]
      refine wn (fun j σ H2=>∃ v3 v4 v5,σ=[some (.ref l),some (.int wd.length),some (.int a),v3,v4,v5]∧H=H2∧∀ b c d,b<a+1+j→¬ IsCross wd a b c d)
        ⟨v3,v4,v5,rfl,rfl,fun b c d h x=>by have:=x.1;omega⟩ ?_ ?_
      · rintro jb σ H2 hjb ⟨v3,v4,v5,rfl,rfl,ib⟩
        rw [show (a:Int)+1+(jb:Int)=((a+1+jb:Nat):Int) from by omega]
        generalize hb:a+1+jb=b at ib
        refine ⟨_,rfl,_,_,rfl,rfl,_,rfl,_,_,rfl,⟨by omega,by omega,by omega,by omega⟩,?_⟩
        rw [show ((wd.length:Int) - ((b:Int)+1)).toNat=wd.length - (b+1) from by omega]
        refine wn (fun j σ H2=>∃ v4 v5,σ=[some (.ref l),some (.int wd.length),some (.int a),some (.int b),v4,v5]∧H=H2∧∀ c d,c<b+1+j→¬ IsCross wd a b c d)
          ⟨v4,v5,rfl,rfl,fun c d h x=>by have:=x.2.1;omega⟩ ?_ ?_
        · rintro jc σ H2 hjc ⟨v4,v5,rfl,rfl,ic⟩
          rw [show (b:Int)+1+(jc:Int)=((b+1+jc:Nat):Int) from by omega]
          generalize hcc:b+1+jc=c at ic
          refine ⟨_,rfl,_,_,rfl,rfl,_,rfl,_,_,rfl,⟨by omega,by omega,by omega,by omega⟩,?_⟩
          rw [show ((wd.length:Int) - ((c:Int)+1)).toNat=wd.length - (c+1) from by omega]
          refine wn (fun j σ H2=>∃ v5,σ=[some (.ref l),some (.int wd.length),some (.int a),some (.int b),some (.int c),v5]∧H=H2∧∀ d,d<c+1+j→¬ IsCross wd a b c d)
            ⟨v5,rfl,rfl,fun d h x=>by have:=x.2.2.1;omega⟩ ?_ ?_
          · rintro jd σ H2 hjd ⟨v5,rfl,rfl,id_⟩
            rw [show (c:Int)+1+(jd:Int)=((c+1+jd:Nat):Int) from by omega]
            generalize hdd:c+1+jd=d at id_
            have la:a<wd.length:=by omega
            have lb:b<wd.length:=by omega
            have lc:c<wd.length:=by omega
            have ld:d<wd.length:=by omega
            have go:¬ IsCross wd a b c d→∃ v5,([some (.ref l),some (.int wd.length),some (.int a),some (.int b),some (.int c),some (.int d)]:St)=[some (.ref l),some (.int wd.length),some (.int a),some (.int b),some (.int c),v5]∧H=H∧∀ d,d<c+1+(jd+1)→¬ IsCross wd a b c d:=fun hn=>by
              refine ⟨_,rfl,rfl,fun d' h=>?_⟩
              by_cases e:d'=d
              · subst e;exact hn
              · exact id_ d' (by omega)
            refine ⟨_,rfl,_,rfl,l,_,_,_,rfl,rfl,hS,hat a la,_,rfl,_,rfl,l,_,_,_,rfl,rfl,hS,hat c lc,rfl,_,rfl,iteD (fun e1=>?_) fun e1=>?_⟩
            · refine ⟨_,rfl,_,rfl,l,_,_,_,rfl,rfl,hS,hat b lb,_,rfl,_,rfl,l,_,_,_,rfl,rfl,hS,hat d ld,rfl,_,rfl,iteD (fun e2=>?_) fun e2=>?_⟩
              · refine ⟨_,rfl,_,rfl,l,_,_,_,rfl,rfl,hS,hat a la,_,rfl,_,rfl,l,_,_,_,rfl,rfl,hS,hat b lb,rfl,_,rfl,iteND (fun e3=>?_) fun e3=>?_⟩
                · have e1':wd.getD a 0=wd.getD c 0:=by injection e1 with z;omega
                  have e2':wd.getD b 0=wd.getD d 0:=by injection e2 with z;omega
                  have e3':wd.getD a 0≠wd.getD b 0:=fun z=>e3 (by rw [z])
                  refine ⟨_,rfl,_,rfl,_,rfl,_,rfl,by show 4≤sizeLine;decide,fun t ht=>?_⟩
                  exact q2 t a b c d _ ⟨by omega,by omega,by omega,ld,by rw [hget a la,hget c lc,e1'],by rw [hget b lb,hget d ld,e2'],by rw [hget a la,hget b lb];exact fun z=>e3' (Option.some.inj z)⟩ (Same.new ht) ht ze
                · refine go fun x=>?_
                  have:=x.2.2.2.2.2.2
                  rw [hget a la,hget b lb] at this
                  exact this (by congr 1;injection e3 with z;omega)
              · refine go fun x=>?_
                have:=x.2.2.2.2.2.1
                rw [hget b lb,hget d ld] at this
                exact e2 (by rw [Option.some.inj this])
            · refine go fun x=>?_
              have:=x.2.2.2.2.1
              rw [hget a la,hget c lc] at this
              exact e1 (by rw [Option.some.inj this])
          · rintro σ H2 ⟨v5,rfl,rfl,id_⟩
            refine ⟨_,_,rfl,rfl,fun c' d' h=>?_⟩
            by_cases e:c'=c
            · subst e
              intro x
              exact id_ d' (by have:=x.2.2.2.1;omega) x
            · exact ic c' d' (by omega)
        · rintro σ H2 ⟨v4,v5,rfl,rfl,ic⟩
          refine ⟨_,_,_,rfl,rfl,fun b' c' d' h=>?_⟩
          by_cases e:b'=b
          · subst e
            intro x
            exact ic c' d' (by have:=x.2.2.1;have:=x.2.2.2.1;omega) x
          · exact ib b' c' d' (by omega)
      · rintro σ H2 ⟨v3,v4,v5,rfl,rfl,ib⟩
        refine ⟨_,_,_,_,rfl,rfl,fun a' b' c' d' h=>?_⟩
        by_cases e:a'=a
        · subst e
          intro x
          exact ib b' c' d' (by have:=x.2.1;have:=x.2.2.1;have:=x.2.2.2.1;omega) x
        · exact ia a' b' c' d' (by omega)
    · rintro σ H2 ⟨v2,v3,v4,v5,rfl,rfl,ia⟩
      exact q1 (ze4 ia) H (Same.refl _)
end
end NCP
namespace NCP
open PySem L2 NC
section
variable {CX:CXT} {P:Program} {w:World} {K:PySem.W.Frag} {mg:Str→Option Value} {base:Heap}
theorem sc_refuse_crossing:FnScope ["points","blocks","found"] ["points","blocks"] (defScope yc):=⟨rfl,rfl,rfl,by decide +kernel,rfl,by decide +kernel,by decide +kernel⟩
theorem zi6 {f fB fF:Addr} {fd fdB fdF:FuncData} (hX:CxNo CX) (F:Fun K "refuse_crossing" "refuse_crossing" yc f fd)
    (DB:Dn K mg "block_places" yg ["points","blocks"] fB fdB) (GB:FnOk P w K mg base CX 1 fB fdB ["points","blocks"] spBlockPlaces)
    (DF:Dn K mg "first_crossing" yn ["labels"] fF fdF) (GF:FnOk P w K mg base CX 1 fF fdF ["labels"] (spFirstCrossing K)):FnOk P w K mg base CX 2 f fd ["points","blocks"] spNoCross:=by
  refine F.okX sc_refuse_crossing (fun vs H Q E h=>?_) (fun cdv A outer s H vs Q E hr h=>?_)
  · obtain ⟨p,wd,rfl,_⟩:=h
    rfl
  · obtain ⟨p,wd,rfl,hL,hz,hF,q⟩:=h
    have nd:=sc_refuse_crossing.nd
    refine ⟨_,zd (zk (i:=2) nd rfl (Or.inl rfl) (zh GF hr rfl DF.at_ DF.fn.kp DF.bd .nil (passN hX) (za (zh GB hr rfl DB.at_ DB.fn.kp DB.bd .nil (passN hX) (za (pv 0) (za (pv 1) zc))) zc)))
      (zg (ps_if (zv zde (pv 2) zah (nomark _)) yj zu)),?_⟩
    refine ⟨_,rfl,_,rfl,p,wd,rfl,hL,hz,fun l H1 N1=>⟨l,canon wd,rfl,SqL.of N1.at_,by rw [zx];exact hz,fun _ H2 s2=>?_,fun t a b c d H2 x _ _ _=>?_⟩⟩
    · refine ⟨_,rfl,rfl,_,rfl,?_⟩
      exact iteF (q H2 (N1.same.trans s2))
    · exact absurd (cross_canon.mp x) (hF a b c d)
end
end NCP
namespace NCP
open PySem L2 NC
section
variable {CX:CXT} {P:Program} {w:World} {K:PySem.W.Frag} {mg:Str→Option Value} {base:Heap}
theorem zff:FnScope ["points","blocks"] ["points","blocks"] (defScope zo):=⟨rfl,rfl,rfl,by decide +kernel,rfl,by decide +kernel,by decide +kernel⟩
theorem zfg {f fN fC:Addr} {fd fdN fdC:FuncData} (hX:CxNo CX) (F:Fun K "refuse_unless_free" "refuse_unless_free" zo f fd)
    (DN:Dn K mg "refuse_no_parting" zr ["points","blocks"] fN fdN) (GN:FnOk P w K mg base CX 3 fN fdN ["points","blocks"] spNoRefuse)
    (DC:Dn K mg "refuse_crossing" yc ["points","blocks"] fC fdC) (GC:FnOk P w K mg base CX 2 fC fdC ["points","blocks"] spNoCross):FnOk P w K mg base CX 4 f fd ["points","blocks"] spFree1:=by
  refine F.okX zff (fun vs H Q E h=>?_) (fun cdv A outer s H vs Q E hr h=>?_)
  · obtain ⟨p,wd,rfl,_⟩:=h
    rfl
  · obtain ⟨p,wd,rfl,hL,hz,hF,q⟩:=h
    have hr2:=hr.mono (show 2≤3 by decide)
    refine ⟨_,zd (zm (zh GN hr rfl DN.at_ DN.fn.kp DN.bd .nil (passN hX) (za (pv 0) (za (pv 1) zc))))
      (zg (zm (zh GC hr2 rfl DC.at_ DC.fn.kp DC.bd .nil (passN hX) (za (pv 0) (za (pv 1) zc))))),?_⟩
    have hz4:wd.length≤1000:=Nat.le_trans hz (by decide)
    refine ⟨_,rfl,_,rfl,_,p,_,rfl,hL,Nat.le_trans (wj wd) hz4,by rw [w4];omega,fun b hb=>Nat.le_trans (vj wd b hb) hz4,vq hz,fun H1 s1=>?_⟩
    refine ⟨_,rfl,_,rfl,p,wd,rfl,hL.mono s1,hz4,hF,fun H2 s2=>?_⟩
    exact q H2 (s1.trans s2)
end
end NCP
namespace NCP
open PySem L2 NC
section
variable {CX:CXT} {P:Program} {w:World} {K:PySem.W.Frag} {mg:Str→Option Value} {base:Heap}
theorem zh9:FnScope ["points","one","other"] ["points","one","other"] (defScope zq):=⟨rfl,rfl,rfl,by decide +kernel,rfl,by decide +kernel,by decide +kernel⟩
theorem zia {f fN fC:Addr} {fd fdN fdC:FuncData} (hX:CxNo CX) (F:Fun K "refuse_unless_both_free" "refuse_unless_both_free" zq f fd)
    (DN:Dn K mg "refuse_no_parting" zr ["points","blocks"] fN fdN) (GN:FnOk P w K mg base CX 3 fN fdN ["points","blocks"] spNoRefuse)
    (DC:Dn K mg "refuse_crossing" yc ["points","blocks"] fC fdC) (GC:FnOk P w K mg base CX 2 fC fdC ["points","blocks"] spNoCross):FnOk P w K mg base CX 4 f fd ["points","one","other"] spFreeBoth:=by
  refine F.okX zh9 (fun vs H Q E h=>?_) (fun cdv A outer s H vs Q E hr h=>?_)
  · obtain ⟨p,q,w1,w2,rfl,_⟩:=h
    rfl
  · obtain ⟨p1,p2,w1,w2,rfl,hl,L1,L2,hz,f1,f2,q⟩:=h
    have hr2:=hr.mono (show 2≤3 by decide)
    refine ⟨_,zd (zm (zh GN hr rfl DN.at_ DN.fn.kp DN.bd .nil (passN hX) (za (pv 0) (za (pv 1) zc))))
      (zd (zm (zh GN hr rfl DN.at_ DN.fn.kp DN.bd .nil (passN hX) (za (pv 0) (za (pv 2) zc))))
      (zd (zm (zh GC hr2 rfl DC.at_ DC.fn.kp DC.bd .nil (passN hX) (za (pv 0) (za (pv 1) zc))))
      (zg (zm (zh GC hr2 rfl DC.at_ DC.fn.kp DC.bd .nil (passN hX) (za (pv 0) (za (pv 2) zc))))))),?_⟩
    have hz2:w2.length≤10:=by omega
    have b1:=LL.bounds hz
    have b2:=LL.bounds hz2
    refine ⟨_,rfl,_,rfl,_,p1,_,rfl,L1,b1.1,b1.2.1,b1.2.2,vq hz,fun H1 s1=>?_⟩
    rw [hl]
    refine ⟨_,rfl,_,rfl,_,p2,_,rfl,L2.mono s1,b2.1,b2.2.1,b2.2.2,vq hz2,fun H2 s2=>?_⟩
    have s02:=s1.trans s2
    rw [← hl]
    refine ⟨_,rfl,_,rfl,p1,w1,rfl,L1.mono s02,by omega,f1,fun H3 s3=>?_⟩
    have s03:=s02.trans s3
    rw [hl]
    refine ⟨_,rfl,_,rfl,p2,w2,rfl,L2.mono s03,by omega,f2,fun H4 s4=>?_⟩
    exact q H4 (s03.trans s4)
end
end NCP
namespace NCP
open PySem L2 NC
section
variable {CX:CXT} {P:Program} {w:World} {K:PySem.W.Frag} {mg:Str→Option Value} {base:Heap}
theorem sc_blocks_by_i:FnScope ["labels","blocks","point","label"] ["labels"] (defScope yw):=⟨rfl,rfl,rfl,by decide +kernel,rfl,by decide +kernel,by decide +kernel⟩
theorem zfh {f:Addr} {fd:FuncData} (B:GBlt mg) (F:Fun K "blocks_by" "blocks_by" yw f fd):FnOk P w K mg base CX 1 f fd ["labels"] (spBlocksByI K):=by
  refine F.okX sc_blocks_by_i (fun vs H Q E h=>?_) (fun cdv A outer s H vs Q E hr h=>?_)
  · obtain ⟨a,wd,rfl,_⟩:=h
    rfl
  · obtain ⟨a,wd,rfl,hS,  hz,q⟩:=h
    have nd:=sc_blocks_by_i.nd
    have hu:=hu_of hr
    refine ⟨_,zd (zk (i:=1) nd rfl (Or.inl rfl) znj)
      (zd (yt PassesOwn.never rfl (za2 (by rfl) B.enum (za (pv 0) zc)) (zbs 2 3 rfl nd rfl rfl rfl rfl)
        (zd (wu (ps_if (zlb (zfx hu (pv 3) (pv 1)) (by with_unfolding_all rfl)) (zg (zjj hu (pv 1) (pv 3) (ym zc) rfl)) zu))
        (zg (zm (pe_bm PySem.F.plainAttrs_list PySem.F.slot_list_append PySem.F.type_list_append wa (zji hu (pv 1) (pv 3) (fun _ _=>rfl)) (za (pv 2) zc))))))
      (zg (zt (x9 (zcd rfl) (by rfl) B.list PyProof.Rows.boot_list (za (zlk PySem.F.plainAttrs_dict PySem.F.slot_dict_values PySem.F.type_dict_values zf4 (pv 1)) zc))))),?_⟩
    refine fun pd hpd=>?_
    have s0:Same H (upd H pd (.dK [])):=Same.new hpd
    refine ⟨_,rfl,a,rfl,⟨_,s0.seq hS⟩,zap (K:=K) (a:=a) (xs:=iv (zl wd))
      (fun i σ H2=>∃ v2 v3 as,σ=[some (.ref a),some (.ref pd),v2,v3]∧DMid H H2 pd as (gather (wd.take i))∧H2 pd=some (.dK (mkv kyI (marks (wd.take i)) as)))
      ⟨none,none,[],rfl,⟨s0,hpd,.nil,List.nodup_nil,by simp⟩,ze⟩ (fun i σ H2 _ ⟨_,_,_,_,g,_⟩=>g.same.seq hS) ?_ ?_⟩
    · rintro i x σ H2 t hi ⟨v2,v3,as,rfl,g,hdp⟩ ht
      obtain ⟨m,hmi,rfl⟩:=vy hi
      have hiw:i<wd.length:=(List.getElem?_eq_some_iff.mp hmi).1
      have et:=vh hmi
      have lt:(wd.take i).length=i:=by rw [List.length_take];omega
      have mlw:(marks (wd.take i)).length≤i:=by
        have:=zbm (wd.take i)
        rw [ye] at this
        omega
      refine ⟨t,_,_,rfl,SqT.of ze,?_⟩
      have sN:=Same.new (o:=.tup [.int i,(.int m)]) ht
      have g:=g.later sN
      have hdp:=sN _ _ hdp
      generalize upd H2 t (.tup [.int i,(.int m)])=H3 at g hdp  ⊢
      have hml:(marks (wd.take i)).length=as.length:=by rw [g.len,ye]
      refine ⟨fun σ H4=>σ=[some (.ref a),some (.ref pd),some (.int i),some (.int m)]∧∃ as cs c,DMid H H4 pd as cs∧H4 pd=some (.dK (mkv kyI (marks (wd.take (i+1))) as))∧m∈marks (wd.take (i+1))∧(marks (wd.take (i+1))).length=as.length∧cs[ixd (marks (wd.take (i+1))) m]?=some c∧c.length≤i ∧
        cs.set (ixd (marks (wd.take (i+1))) m) (c++[i])=gather (wd.take (i+1)),?_,?_⟩
      · refine ⟨_,rfl,_,rfl,pd,_,rfl,DGet.k (k:=kyI m) hdp,_,rfl,?_⟩
        rw [zbn zfb m hml]
        by_cases hn:m∈marks (wd.take i)
        ·
          rw [if_pos hn]
          have hn':m∈wd.take i:=mem_marks.mp hn
          have em:marks (wd.take (i+1))=marks (wd.take i):=by rw [et,xl,addMark,if_pos hn]
          have hix:ixd (marks (wd.take i)) m<as.length:=by rw [← hml];exact zet hn
          rw [List.getElem?_eq_getElem hix]
          refine iteF ?_
          rw [em]
          refine ⟨rfl,as,gather (wd.take i),pos (wd.take i) m,g,hdp,hn,hml,zdw hn',?_,?_⟩
          · have:=List.length_filter_le (fun k=>decide ((wd.take i)[k]?=some m)) (List.range (wd.take i).length)
            unfold pos
            rw [List.length_range,lt] at this
            rw [lt]
            exact this
          · rw [et,zdx hn',lt]
        ·
          rw [if_neg hn]
          have hn':m ∉ wd.take i:=fun z=>hn (mem_marks.mpr z)
          refine iteT ?_
          refine ⟨Nat.zero_le _,fun pn hpn=>?_⟩
          have sP:=Same.new (o:=.lst []) hpn
          have hdp1:=sP _ _ hdp
          refine ⟨_,rfl,_,rfl,pd,_,rfl,DPut.k (k:=kyI m) hdp1 (by rw [zjt kyI hml];exact small1000 (by omega)),?_⟩
          have em:marks (wd.take (i+1))=marks (wd.take i)++[m]:=by rw [et,xl,addMark,if_neg hn]
          have nix:ixd (marks (wd.take i)++[m]) m=(marks (wd.take i)).length:=zjs hn
          have npd:pd≠pn:=zn hdp hpn
          have Hn:H pn=none:=g.same.free hpn
          have nin:pn ∉ as:=fun z=>by
            obtain ⟨k,hk,ek⟩:=List.mem_iff_getElem.mp z
            obtain ⟨b,_,hb⟩:=yd g.prs (i:=k) (a:=pn) (by rw [List.getElem?_eq_getElem hk,ek])
            rw [hpn] at hb
            cases hb.2
          rw [em,zju zfb hml hn]
          refine ⟨rfl,as++[pn],gather (wd.take i)++[[]],[],⟨(g.same.upd Hn).upd hpd,hpd,?_,?_,?_⟩,ze,by simp,by simp [hml],?_,Nat.zero_le _,?_⟩
          · rw [show zb (gather (wd.take i)++[[]])=zb (gather (wd.take i))++[[]] from List.map_append ..]
            refine v8 (zag (fun x b hx e=>⟨e.1,?_⟩) g.prs) ⟨Hn,?_⟩
            · have x1:x≠pd:=fun z=>g.np (z ▸ hx)
              have x2:x≠pn:=fun z=>nin (z ▸ hx)
              rw [zi x1,zi x2]
              exact e.2
            · rw [zi (Ne.symm npd),ze]
              rfl
          · rw [List.nodup_append]
            exact ⟨g.nd,by simp,fun x hx y hy e=>nin (by simp at hy;rw [← hy,← e];exact hx)⟩
          · simp [g.np,npd]
          · rw [nix,← ye]
            simp
          · rw [nix,← ye,et,vn hn',lt]
            simp
      · rintro σ H4 ⟨rfl,as,cs,c,g4,hd4,hmm,hml4,hc,hcl,hset⟩
        have hix:ixd (marks (wd.take (i+1))) m<as.length:=by rw [← hml4];exact zet hmm
        obtain ⟨ac,hac,hfree,hcon⟩:=zal g4.prs (i:=ixd (marks (wd.take (i+1))) m) (b:=zl c) (by rw [List.getElem?_map,hc];rfl)
        refine ⟨_,rfl,_,rfl,pd,.ref ac,rfl,?_,.inl ⟨rfl,_,SqL.of hcon⟩,_,rfl,ac,_,_,rfl,rfl,hcon,small1000 (by simp;omega),?_⟩
        · have:=DGet.k (k:=kyI m) hd4
          rw [zbn zfb m hml4,if_pos hmm,hac] at this
          exact this
        · have acm:ac∈as:=List.mem_of_getElem? hac
          have n1:pd≠ac:=fun z=>g4.np (z ▸ acm)
          refine ⟨_,_,as,rfl,⟨g4.same.upd hfree,hpd,?_,g4.nd,g4.np⟩,by rw [zi n1];exact hd4⟩
          rw [← hset,zb,List.map_set]
          refine zbl g4.prs g4.nd hac (fun x y hx e=>⟨e.1,by rw [zi hx];exact e.2⟩) ⟨hfree,?_⟩
          rw [ze]
          simp [iv,zl]
    · rintro σ H2 ⟨v2,v3,as,rfl,g,hdp⟩
      rw [List.length_map,List.length_map,List.take_length] at g hdp
      have hml:(marks wd).length=as.length:=by rw [g.len,ye]
      have dt:IsDt H2 pd (as.map V.ref):=.inl ⟨_,hdp,(zcf kyI hml).symm⟩
      refine ⟨_,rfl,.inr (.inr (.inl ⟨rfl,.inl ⟨_,hdp⟩⟩)),pd,_,rfl,rfl,dt,fun pv hpv=>?_⟩
      have sV:=Same.new (o:=viewO pv pd) hpv
      have g:=g.later sV
      have hdp:=sV _ _ hdp
      have dt:IsDt (upd H2 pv (viewO pv pd)) pd (as.map V.ref):=.inl ⟨_,hdp,(zcf kyI hml).symm⟩
      refine ⟨pv,pd,_,rfl,ze,dt,?_,fun pl hpl=>?_⟩
      · rw [List.length_map,g.len]
        have:=zbm wd
        omega
      · have hpl0:=g.same.free hpl
        have g:=g.later (Same.new (o:=.lst (as.map V.ref)) hpl)
        exact q pl _ ⟨g.same,hpl0,as,ze,g.prs,g.nd⟩
end
end NCP
namespace NCP
open PySem L2 NC
section
variable {CX:CXT} {P:Program} {w:World} {K:PySem.W.Frag} {mg:Str→Option Value} {base:Heap}
theorem sc_blocks_by_p:FnScope ["labels","blocks","point","label"] ["labels"] (defScope yw):=⟨rfl,rfl,rfl,by decide +kernel,rfl,by decide +kernel,by decide +kernel⟩
theorem zfi {f:Addr} {fd:FuncData} (B:GBlt mg) (F:Fun K "blocks_by" "blocks_by" yw f fd):FnOk P w K mg base CX 1 f fd ["labels"] (spBlocksByP K):=by
  refine F.okX sc_blocks_by_p (fun vs H Q E h=>?_) (fun cdv A outer s H vs Q E hr h=>?_)
  · obtain ⟨a,ts,wd,rfl,_⟩:=h
    rfl
  · obtain ⟨a,ts,wd,rfl,hS,hP,hz,q⟩:=h
    have nd:=sc_blocks_by_p.nd
    have hu:=hu_of hr
    refine ⟨_,zd (zk (i:=1) nd rfl (Or.inl rfl) znk)
      (zd (yt PassesOwn.never rfl (za2 (by rfl) B.enum (za (pv 0) zc)) (zbs 2 3 rfl nd rfl rfl rfl rfl)
        (zd (wu (ps_if (zlb (zfx hu (pv 3) (pv 1)) (by with_unfolding_all rfl)) (zg (zjj hu (pv 1) (pv 3) (ym zc) rfl)) zu))
        (zg (zm (pe_bm PySem.F.plainAttrs_list PySem.F.slot_list_append PySem.F.type_list_append wa (zji hu (pv 1) (pv 3) (fun _ _=>rfl)) (za (pv 2) zc))))))
      (zg (zt (x9 (zcd rfl) (by rfl) B.list PyProof.Rows.boot_list (za (zlk PySem.F.plainAttrs_dict PySem.F.slot_dict_values PySem.F.type_dict_values zf4 (pv 1)) zc))))),?_⟩
    refine fun pd hpd=>?_
    have s0:Same H (upd H pd (.dT [])):=Same.new hpd
    refine ⟨_,rfl,a,rfl,⟨_,s0.seq hS⟩,zap (K:=K) (a:=a) (xs:=ts.map V.ref)
      (fun i σ H2=>∃ v2 v3 as,σ=[some (.ref a),some (.ref pd),v2,v3]∧DMid H H2 pd as (gather (wd.take i))∧H2 pd=some (.dT (mkv kyP (marks (wd.take i)) as)))
      ⟨none,none,[],rfl,⟨s0,hpd,.nil,List.nodup_nil,by simp⟩,ze⟩ (fun i σ H2 _ ⟨_,_,_,_,g,_⟩=>g.same.seq hS) ?_ ?_⟩
    · rintro i x σ H2 t hi ⟨v2,v3,as,rfl,g,hdp⟩ ht
      obtain ⟨tm,htm1,rfl⟩:=we hi
      obtain ⟨m,hmi,htm0⟩:=yd hP htm1
      have g0s:=g.same
      have hiw:i<wd.length:=(List.getElem?_eq_some_iff.mp hmi).1
      have et:=vh hmi
      have lt:(wd.take i).length=i:=by rw [List.length_take];omega
      have mlw:(marks (wd.take i)).length≤i:=by
        have:=zbm (wd.take i)
        rw [ye] at this
        omega
      refine ⟨t,_,_,rfl,SqT.of ze,?_⟩
      have sN:=Same.new (o:=.tup [.int i,(.ref tm)]) ht
      have g:=g.later sN
      have hdp:=sN _ _ hdp
      have htm:=(sN _ _ (g0s _ _ htm0))
      generalize upd H2 t (.tup [.int i,(.ref tm)])=H3 at g hdp htm ⊢
      have hml:(marks (wd.take i)).length=as.length:=by rw [g.len,ye]
      refine ⟨fun σ H4=>σ=[some (.ref a),some (.ref pd),some (.int i),some (.ref tm)]∧∃ as cs c,DMid H H4 pd as cs∧H4 pd=some (.dT (mkv kyP (marks (wd.take (i+1))) as))∧m∈marks (wd.take (i+1))∧(marks (wd.take (i+1))).length=as.length∧cs[ixd (marks (wd.take (i+1))) m]?=some c∧c.length≤i ∧
        cs.set (ixd (marks (wd.take (i+1))) m) (c++[i])=gather (wd.take (i+1))∧H4 tm=some (.tup [.int (m.1:Int),.int (m.2:Int)]),?_,?_⟩
      · refine ⟨_,rfl,_,rfl,pd,_,rfl,DGet.t (k:=kyP m) hdp htm,_,rfl,?_⟩
        rw [zbn zfc m hml]
        by_cases hn:m∈marks (wd.take i)
        ·
          rw [if_pos hn]
          have hn':m∈wd.take i:=mem_marks.mp hn
          have em:marks (wd.take (i+1))=marks (wd.take i):=by rw [et,xl,addMark,if_pos hn]
          have hix:ixd (marks (wd.take i)) m<as.length:=by rw [← hml];exact zet hn
          rw [List.getElem?_eq_getElem hix]
          refine iteF ?_
          rw [em]
          refine ⟨rfl,as,gather (wd.take i),pos (wd.take i) m,g,hdp,hn,hml,zdw hn',?_,?_,htm⟩
          · have:=List.length_filter_le (fun k=>decide ((wd.take i)[k]?=some m)) (List.range (wd.take i).length)
            unfold pos
            rw [List.length_range,lt] at this
            rw [lt]
            exact this
          · rw [et,zdx hn',lt]
        ·
          rw [if_neg hn]
          have hn':m ∉ wd.take i:=fun z=>hn (mem_marks.mpr z)
          refine iteT ?_
          refine ⟨Nat.zero_le _,fun pn hpn=>?_⟩
          have sP:=Same.new (o:=.lst []) hpn
          have hdp1:=sP _ _ hdp
          refine ⟨_,rfl,_,rfl,pd,_,rfl,DPut.t (k:=kyP m) hdp1 (sP _ _ htm) (by rw [zjt kyP hml];exact small1000 (by omega)),?_⟩
          have em:marks (wd.take (i+1))=marks (wd.take i)++[m]:=by rw [et,xl,addMark,if_neg hn]
          have nix:ixd (marks (wd.take i)++[m]) m=(marks (wd.take i)).length:=zjs hn
          have npd:pd≠pn:=zn hdp hpn
          have Hn:H pn=none:=g.same.free hpn
          have nin:pn ∉ as:=fun z=>by
            obtain ⟨k,hk,ek⟩:=List.mem_iff_getElem.mp z
            obtain ⟨b,_,hb⟩:=yd g.prs (i:=k) (a:=pn) (by rw [List.getElem?_eq_getElem hk,ek])
            rw [hpn] at hb
            cases hb.2
          rw [em,zju zfc hml hn]
          refine ⟨rfl,as++[pn],gather (wd.take i)++[[]],[],⟨(g.same.upd Hn).upd hpd,hpd,?_,?_,?_⟩,ze,by simp,by simp [hml],?_,Nat.zero_le _,?_,(by rw [zi (ne_of htm hdp (by intro z;cases z))];exact sP _ _ htm)⟩
          · rw [show zb (gather (wd.take i)++[[]])=zb (gather (wd.take i))++[[]] from List.map_append ..]
            refine v8 (zag (fun x b hx e=>⟨e.1,?_⟩) g.prs) ⟨Hn,?_⟩
            · have x1:x≠pd:=fun z=>g.np (z ▸ hx)
              have x2:x≠pn:=fun z=>nin (z ▸ hx)
              rw [zi x1,zi x2]
              exact e.2
            · rw [zi (Ne.symm npd),ze]
              rfl
          · rw [List.nodup_append]
            exact ⟨g.nd,by simp,fun x hx y hy e=>nin (by simp at hy;rw [← hy,← e];exact hx)⟩
          · simp [g.np,npd]
          · rw [nix,← ye]
            simp
          · rw [nix,← ye,et,vn hn',lt]
            simp
      · rintro σ H4 ⟨rfl,as,cs,c,g4,hd4,hmm,hml4,hc,hcl,hset,htm4⟩
        have hix:ixd (marks (wd.take (i+1))) m<as.length:=by rw [← hml4];exact zet hmm
        obtain ⟨ac,hac,hfree,hcon⟩:=zal g4.prs (i:=ixd (marks (wd.take (i+1))) m) (b:=zl c) (by rw [List.getElem?_map,hc];rfl)
        refine ⟨_,rfl,_,rfl,pd,.ref ac,rfl,?_,.inl ⟨rfl,_,SqL.of hcon⟩,_,rfl,ac,_,_,rfl,rfl,hcon,small1000 (by simp;omega),?_⟩
        · have:=DGet.t (k:=kyP m) hd4 htm4
          rw [zbn zfc m hml4,if_pos hmm,hac] at this
          exact this
        · have acm:ac∈as:=List.mem_of_getElem? hac
          have n1:pd≠ac:=fun z=>g4.np (z ▸ acm)
          refine ⟨_,_,as,rfl,⟨g4.same.upd hfree,hpd,?_,g4.nd,g4.np⟩,by rw [zi n1];exact hd4⟩
          rw [← hset,zb,List.map_set]
          refine zbl g4.prs g4.nd hac (fun x y hx e=>⟨e.1,by rw [zi hx];exact e.2⟩) ⟨hfree,?_⟩
          rw [ze]
          simp [iv,zl]
    · rintro σ H2 ⟨v2,v3,as,rfl,g,hdp⟩
      rw [List.length_map,yk hP,List.take_length] at g hdp
      have hml:(marks wd).length=as.length:=by rw [g.len,ye]
      have dt:IsDt H2 pd (as.map V.ref):=.inr ⟨_,hdp,(zcf kyP hml).symm⟩
      refine ⟨_,rfl,.inr (.inr (.inl ⟨rfl,.inr ⟨_,hdp⟩⟩)),pd,_,rfl,rfl,dt,fun pv hpv=>?_⟩
      have sV:=Same.new (o:=viewO pv pd) hpv
      have g:=g.later sV
      have hdp:=sV _ _ hdp
      have dt:IsDt (upd H2 pv (viewO pv pd)) pd (as.map V.ref):=.inr ⟨_,hdp,(zcf kyP hml).symm⟩
      refine ⟨pv,pd,_,rfl,ze,dt,?_,fun pl hpl=>?_⟩
      · rw [List.length_map,g.len]
        have:=zbm wd
        omega
      · have hpl0:=g.same.free hpl
        have g:=g.later (Same.new (o:=.lst (as.map V.ref)) hpl)
        exact q pl _ ⟨g.same,hpl0,as,ze,g.prs,g.nd⟩
end
end NCP
namespace NCP
open PySem L2 NC
section
variable {CX:CXT} {P:Program} {w:World} {K:PySem.W.Frag} {mg:Str→Option Value} {base:Heap}
theorem sc_order_of:FnScope ["points","blocks","order","block","place","point"] ["points","blocks"] (defScope xf):=⟨rfl,rfl,rfl,by decide +kernel,rfl,by decide +kernel,by decide +kernel⟩
theorem zi7 {f fU:Addr} {fd fdU:FuncData} (hX:CxNo CX) (B:GBlt mg) (F:Fun K "order_of" "order_of" xf f fd)
    (DU:Dn K mg "refuse_unless_free" zo ["points","blocks"] fU fdU) (GU:FnOk P w K mg base CX 4 fU fdU ["points","blocks"] spFree1):FnOk P w K mg base CX 5 f fd ["points","blocks"] spOrderOf:=by
  refine F.okX sc_order_of (fun vs H Q E h=>?_) (fun cdv A outer s H vs Q E hr h=>?_)
  · obtain ⟨p,wd,rfl,_⟩:=h
    rfl
  · obtain ⟨p,wd,rfl,hL,hz,hF,q⟩:=h
    obtain ⟨as,hp,hbs⟩:=id hL
    have nd:=sc_order_of.nd
    refine ⟨_,zd (zm (zh GU hr rfl DU.at_ DU.fn.kp DU.bd .nil (passN hX) (za (pv 0) (za (pv 1) zc))))
      (zd (zk (i:=2) nd rfl (Or.inl rfl) (pe_op zb9 (ym (za zf zc)) (pv 0)))
      (zd (yt PassesOwn.never rfl (y2 (pv 1)) (zy (i:=3) nd rfl (Or.inl rfl))
        (zg (yt PassesOwn.never rfl (za2 (by rfl) B.enum (za (pv 3) zc)) (zbs 4 5 rfl nd rfl rfl rfl rfl)
          (zg (zar (pe_ix zw (pv 3) (pe_op xp (pe_op yu (pv 4) zf) (zp ya (by rfl) B.len PySem.boot_len (za (pv 3) zc))) (fun _ _=>rfl)) (zaq (pv 2) (pv 5) vm))))))
      (zg (zt (pv 2))))),?_⟩
    have hz4:wd.length≤1000:=Nat.le_trans hz (by decide)
    refine ⟨_,rfl,_,rfl,p,wd,rfl,hL,hz,hF,fun H2 s02=>?_⟩
    refine ⟨by show 1≤sizeLine;decide,fun l0 hl0=>⟨_,rfl,l0,_,_,rfl,rfl,ze,by omega,by omega,?_,fun l hl1=>?_⟩⟩
    · rw [Int.toNat_natCast]
      exact yf (by simpa using hz4)
    have hl2:H2 l=none:=(Same.new hl0).free hl1
    have hl:H l=none:=s02.free hl2
    rw [Int.toNat_natCast,zea]
    have s3:Same H (upd (upd H2 l0 (.lst [.int 0])) l (.lst (iv (zl (List.replicate wd.length 0))))):=s02.trans ((Same.new hl0).upd hl2)
    refine ⟨_,rfl,p,rfl,⟨_,SqL.of (s3 _ _ hp)⟩,vk (K:=K) (a:=p) (xs:=as.map V.ref)
      (fun i σ H2=>∃ v3 v4 v5 L,σ=[some (.int wd.length),some (.ref p),some (.ref l),v3,v4,v5]∧Same H H2∧H2 l=some (.lst (iv (zl L)))∧OrdTo wd i (fun _=>False) L)
      ⟨none,none,none,_,rfl,s3,ze,zlx wd _ (fun _ z=>z)⟩ (fun i σ H2 _ ⟨_,_,_,_,_,s2,_⟩=>SqL.of (s2 _ _ hp)) ?_ ?_⟩
    · rintro i x σ H4 hi ⟨v3,v4,v5,L,rfl,s4,h4,hO⟩
      obtain ⟨a,ha,rfl⟩:=we hi
      obtain ⟨b',hb',hab⟩:=yd hbs ha
      obtain ⟨b,hb,rfl⟩:=zce hb'
      refine ⟨_,rfl,a,rfl,⟨_,SqL.of (s4 _ _ hab)⟩,zap (K:=K) (a:=a) (xs:=iv (zl b))
        (fun k σ H3=>∃ v4 v5 L,σ=[some (.int wd.length),some (.ref p),some (.ref l),some (.ref a),v4,v5]∧Same H H3∧H3 l=some (.lst (iv (zl L)))∧OrdTo wd i (fun m=>m<k) L)
        ⟨v4,v5,L,rfl,s4,h4,⟨hO.1,fun j b m p e1 e2 e3=>hO.2 j b m p e1 e2 (e3.elim .inl fun z=>by omega)⟩⟩ (fun k σ H3 _ ⟨_,_,_,_,s4,_⟩=>SqL.of (s4 _ _ hab)) ?_ ?_⟩
      · rintro k x σ H5 t hk ⟨v4,v5,L,rfl,s5,h5,hO⟩ ht
        obtain ⟨pt,hpt,rfl⟩:=vy hk
        have hkb:k<b.length:=(List.getElem?_eq_some_iff.mp hpt).1
        have hlt:pt<L.length:=by rw [hO.1];exact yr (List.mem_of_getElem? hb) (List.mem_of_getElem? hpt)
        have hm:(k+1) % b.length<b.length:=Nat.mod_lt _ (by omega)
        obtain ⟨v,hv⟩:∃ v,b[(k+1) % b.length]?=some v:=⟨_,List.getElem?_eq_getElem hm⟩
        have s6:Same H (upd H5 t (.tup [.int k,.int pt])):=s5.trans (Same.new ht)
        have e5:((k:Int)+1) % (((iv (zl b)).length:Nat):Int)=(((k+1) % b.length:Nat):Int):=by
          rw [List.length_map,List.length_map,Int.natCast_emod]
          rfl
        refine ⟨t,_,_,rfl,SqT.of ze,_,rfl,_,rfl,_,_,rfl,rfl,_,rfl,a,_,rfl,.inl (SqL.of (s6 _ _ hab)),_,_,rfl,rfl,?_,?_⟩
        · rw [List.length_map,List.length_map];omega
        refine ⟨a,_,_,_,rfl,congrArg V.int e5,SqL.of (s6 _ _ hab),xq (iv_of hv),_,rfl,_,rfl,l,_,_,pt,rfl,rfl,Same.new ht _ _ h5,zaf (by simpa using hlt),?_⟩
        refine ⟨_,_,L.set pt v,rfl,s6.upd hl,?_,znm hO hb hpt hv (fun m _ h=>by omega)⟩
        rw [ze,zer]
      · rintro σ H5 ⟨v4,v5,L,rfl,s5,h5,hO⟩
        rw [List.length_map,List.length_map] at hO
        exact ⟨_,_,_,L,rfl,s5,h5,znn hO hb (fun m h=>h) (fun _ z=>z)⟩
    · rintro σ H4 ⟨v3,v4,v5,L,rfl,s4,h4,hO⟩
      rw [List.length_map,yk hbs,List.length_map] at hO
      exact ⟨_,rfl,q l L H4 (zo4 hO) ⟨s4,hl,h4⟩⟩
end
end NCP
namespace NCP
open PySem L2 NC
section
variable {CX:CXT} {P:Program} {w:World} {K:PySem.W.Frag} {mg:Str→Option Value} {base:Heap}
theorem sc_order_back:FnScope ["order","back","point","following"] ["order"] (defScope xj):=⟨rfl,rfl,rfl,by decide +kernel,rfl,by decide +kernel,by decide +kernel⟩
theorem zgw {f:Addr} {fd:FuncData} (B:GBlt mg) (F:Fun K "order_back" "order_back" xj f fd):FnOk P w K mg base CX 1 f fd ["order"] spBack:=by
  refine F.okX sc_order_back (fun vs H Q E h=>?_) (fun cdv A outer s H vs Q E hr h=>?_)
  · obtain ⟨a,o,rfl,_⟩:=h
    rfl
  · obtain ⟨a,o,rfl,ha,hz,hnd,hlt,q⟩:=h
    have nd:=sc_order_back.nd
    refine ⟨_,zd (zk (i:=1) nd rfl (Or.inl rfl) (pe_op zb9 (ym (za zf zc)) (zp ya (by rfl) B.len PySem.boot_len (za (pv 0) zc))))
      (zd (yt PassesOwn.never rfl (za2 (by rfl) B.enum (za (pv 0) zc)) (zbs 2 3 rfl nd rfl rfl rfl rfl)
        (zg (zar (pv 2) (zaq (pv 1) (pv 3) vm))))
      (zg (zt (pv 1)))),?_⟩
    have el:(iv (zl o)).length=o.length:=by simp
    refine ⟨by show 1≤sizeLine;decide,fun l0 hl0=>⟨_,rfl,a,_,rfl,.inl (SqL.of (Same.new hl0 _ _ ha)),l0,_,_,rfl,rfl,ze,by omega,by omega,?_,fun l hl1=>?_⟩⟩
    · rw [Int.toNat_natCast,el]
      exact yf (by simpa using hz)
    have hl:H l=none:=(Same.new hl0).free hl1
    rw [Int.toNat_natCast,el,zea]
    have s1:Same H (upd (upd H l0 (.lst [.int 0])) l (.lst (iv (zl (List.replicate o.length 0))))):=(Same.new hl0).upd hl
    refine ⟨_,rfl,a,rfl,⟨_,SqL.of (s1 _ _ ha)⟩,zap (K:=K) (a:=a) (xs:=iv (zl o))
      (fun i σ H2=>∃ v2 v3 L,σ=[some (.ref a),some (.ref l),v2,v3]∧Same H H2∧H2 l=some (.lst (iv (zl L)))∧BackTo o i L)
      ⟨none,none,_,rfl,s1,ze,by simp,fun p q h=>by omega⟩ (fun i σ H2 _ ⟨_,_,_,_,s2,_⟩=>SqL.of (s2 _ _ ha)) ?_ ?_⟩
    · rintro i x σ H2 t hi ⟨v2,v3,L,rfl,s2,h2,hB⟩ ht
      obtain ⟨pt,hpt,rfl⟩:=vy hi
      have hlp:pt<L.length:=by rw [hB.1];exact hlt _ (List.mem_of_getElem? hpt)
      have s3:Same H (upd H2 t (.tup [.int i,.int pt])):=s2.trans (Same.new ht)
      refine ⟨t,_,_,rfl,SqT.of ze,_,rfl,_,rfl,_,rfl,l,_,_,pt,rfl,rfl,Same.new ht _ _ h2,zaf (by simpa using hlp),?_⟩
      refine ⟨_,_,L.set pt i,rfl,s3.upd hl,?_,zio hnd hlt hB hpt⟩
      rw [ze,zer]
    · rintro σ H2 ⟨v2,v3,L,rfl,s2,h2,hB⟩
      rw [el] at hB
      exact ⟨_,rfl,q l L H2 hB ⟨s2,hl,h2⟩⟩
end
end NCP
namespace NCP
open PySem L2 NC
section
variable {CX:CXT} {P:Program} {w:World} {K:PySem.W.Frag} {mg:Str→Option Value} {base:Heap}
theorem sc_round_labels:FnScope ["order","labels","start","point"] ["order"] (defScope xg):=⟨rfl,rfl,rfl,by decide +kernel,rfl,by decide +kernel,by decide +kernel⟩
theorem ze0 {f:Addr} {fd:FuncData} (B:GBlt mg) (F:Fun K "round_labels" "round_labels" xg f fd):FnOk P w K mg base CX 1 f fd ["order"] spRound:=by
  refine F.okX sc_round_labels (fun vs H Q E h=>?_) (fun cdv A outer s H vs Q E hr h=>?_)
  · obtain ⟨a,u,o,rfl,_⟩:=h
    rfl
  · obtain ⟨a,u,o,rfl,ha,hz,ho,q⟩:=h
    have nd:=sc_round_labels.nd
    have hol:o.length=u.length:=ho.1
    refine ⟨_,zd (zk (i:=1) nd rfl (Or.inl rfl) (pe_op zb9 (ym (za zah zc)) (zp ya (by rfl) B.len PySem.boot_len (za (pv 0) zc))))
      (zd (yt PassesOwn.never rfl (vd rfl B.range (za (zp ya (by rfl) B.len PySem.boot_len (za (pv 0) zc)) zc)) (zy (i:=2) nd rfl (Or.inl rfl))
        (zd (zk (i:=3) nd rfl (Or.inl rfl) (pv 2))
        (zg (zgz PassesOwn.never (zv zp7 (pe_ix zw (pv 1) (pv 3) (fun _ _=>rfl)) zah (nomark _))
          (zd (zar (pv 2) (zaq (pv 1) (pv 3) vm))
          (zg (zk (i:=3) nd rfl (Or.inl rfl) (pe_ix zw (pv 0) (pv 3) (fun _ _=>rfl)))))))))
      (zg (zt (pv 1)))),?_⟩
    have el:(iv (zl o)).length=u.length:=by simp [hol]
    refine ⟨by show 1≤sizeLine;decide,fun l0 hl0=>⟨_,rfl,a,_,rfl,.inl (SqL.of (Same.new hl0 _ _ ha)),l0,_,_,rfl,rfl,ze,by omega,by omega,?_,fun l hl1=>?_⟩⟩
    · rw [Int.toNat_natCast,el]
      exact yf (by simpa using hz)
    have hl:H l=none:=(Same.new hl0).free hl1
    rw [Int.toNat_natCast,el,zoi]
    have s1:Same H (upd (upd H l0 (.lst [.non])) l (.lst ((List.replicate u.length (none:Option Nat)).map oV))):=(Same.new hl0).upd hl
    refine ⟨_,rfl,a,_,rfl,.inl (SqL.of (s1 _ _ ha)),_,rfl,by omega,by omega,?_⟩
    rw [Int.toNat_natCast,el]
    refine wn (lo:=0) (n:=u.length) (fun i σ H2=>∃ v2 v3 D,σ=[some (.ref a),some (.ref l),v2,v3]∧Same H H2∧H2 l=some (.lst (D.map oV))∧RLab u i (fun _ _=>False) D)
      ⟨none,none,_,rfl,s1,ze,zke u⟩ ?_ ?_
    · rintro i σ H2 hi ⟨v2,v3,D0,rfl,s2,h2,hR⟩
      rw [Int.zero_add]
      obtain ⟨j0,b0,hb0,hm0⟩:=zd1 hi
      obtain ⟨m0,hm0',em0⟩:=List.mem_iff_getElem.mp hm0
      have ei:b0[m0]?=some i:=by rw [List.getElem?_eq_getElem hm0',em0]
      have hle:=zjl hb0 ei
      have hbl:0<b0.length:=by omega
      refine ⟨_,rfl,fun m σ H3=>∃ k D pt,σ=[some (.ref a),some (.ref l),some (.int i),some (.int (pt:Nat))]∧Same H H3∧H3 l=some (.lst (D.map oV))∧m=b0.length - k ∧
        ((b0.headD 0=i∧k≤b0.length∧b0[k % b0.length]?=some pt∧RLab u i (fun j m=>j=j0∧m<k) D)∨(b0.headD 0<i∧pt=i∧RLab u i (fun _ _=>False) D)),⟨b0.length,?_⟩,?_⟩
      · refine ⟨0,D0,i,rfl,s2,h2,by omega,?_⟩
        by_cases e:b0.headD 0=i
        · refine .inl ⟨e,Nat.zero_le _,?_,zl1 hR⟩
          rw [Nat.zero_mod,← e]
          exact zaa (List.ne_nil_of_length_pos hbl)
        · exact .inr ⟨by omega,rfl,hR⟩
      · rintro m σ H3 ⟨k,D,pt,rfl,s3,h3,rfl,hc⟩
        have ix:∀ {x:Option Nat},D[pt]?=some x→atI (D.map oV) ((pt:Nat):Int)=some (oV x):=fun e=>xq (zqs e)
        rcases hc with ⟨hd,hk,hpt,hR⟩ | ⟨hd,rfl,hR⟩
        · by_cases hkl:k<b0.length
          · rw [Nat.mod_eq_of_lt hkl] at hpt
            have eD:=(hR.2 j0 b0 k pt hb0 hpt).2 (by rintro (z | ⟨_,z⟩) <;> omega)
            have hlp:pt<D.length:=(List.getElem?_eq_some_iff.mp eD).1
            refine ⟨_,rfl,_,rfl,l,_,_,_,rfl,rfl,SqL.of h3,ix eD,rfl,_,rfl,iteT ?_⟩
            refine ⟨fun σ' H'=>∃ m',m'<b0.length - k∧∃ k D pt,σ'=[some (.ref a),some (.ref l),some (.int i),some (.int (pt:Nat))]∧Same H H'∧H' l=some (.lst (D.map oV))∧m'=b0.length - k ∧
              ((b0.headD 0=i∧k≤b0.length∧b0[k % b0.length]?=some pt∧RLab u i (fun j m=>j=j0∧m<k) D)∨(b0.headD 0<i∧pt=i∧RLab u i (fun _ _=>False) D)),fun σ' H' h=>h,?_⟩
            have hnx:=ho.2 b0 (List.mem_of_getElem? hb0) k hkl
            have eg:b0.getD k 0=pt:=by rw [List.getD_eq_getElem?_getD,hpt];rfl
            rw [eg] at hnx
            have hmm:(k+1) % b0.length<b0.length:=Nat.mod_lt _ hbl
            have hq:b0[(k+1) % b0.length]?=some (b0.getD ((k+1) % b0.length) 0):=by rw [List.getD_eq_getElem?_getD,List.getElem?_eq_getElem hmm];rfl
            have hal:a≠l:=zn ha hl
            refine ⟨_,rfl,_,rfl,_,rfl,l,_,_,pt,rfl,rfl,h3,zaf (by simpa using hlp),?_⟩
            refine ⟨_,rfl,_,rfl,a,_,_,_,rfl,rfl,SqL.of (by rw [zi hal];exact s3 _ _ ha),xq (iv_of hnx),?_⟩
            refine ⟨b0.length - (k+1),by omega,k+1,D.set pt (some i),_,rfl,s3.upd hl,?_,rfl,.inl ⟨hd,hkl,hq,znr hb0 hpt hd hR⟩⟩
            rw [ze,List.map_set]
            rfl
          · have hke:k=b0.length:=by omega
            subst hke
            rw [Nat.mod_self,zaa (List.ne_nil_of_length_pos hbl),hd] at hpt
            have hpt:=Option.some.inj hpt
            subst hpt
            have e0:b0[0]?=some i:=by rw [zaa (List.ne_nil_of_length_pos hbl),hd]
            have eD:=(hR.2 j0 b0 0 i hb0 e0).1 (.inr ⟨rfl,hbl⟩)
            refine ⟨_,rfl,_,rfl,l,_,_,_,rfl,rfl,SqL.of h3,ix eD,rfl,_,rfl,iteF ?_⟩
            exact ⟨_,_,D,rfl,s3,h3,zlz hb0 hd hR⟩
        · have eD:=(hR.2 j0 b0 m0 pt hb0 ei).1 (.inl hd)
          refine ⟨_,rfl,_,rfl,l,_,_,_,rfl,rfl,SqL.of h3,ix eD,rfl,_,rfl,iteF ?_⟩
          exact ⟨_,_,D,rfl,s3,h3,zl0 hb0 ei hd hR⟩
    · rintro σ H2 ⟨v2,v3,D,rfl,s2,h2,hR⟩
      obtain ⟨L,rfl,hl1,hl2,hl3⟩:=zns hR
      rw [zpq] at h2
      exact ⟨_,rfl,q l L H2 hl1 hl2 hl3 ⟨s2,hl,h2⟩⟩
end
end NCP
namespace NCP
open PySem L2 NC
section
variable {CX:CXT} {P:Program} {w:World} {K:PySem.W.Frag} {mg:Str→Option Value} {base:Heap}
theorem sc_contrary:FnScope ["points","blocks","back"] ["points","blocks"] (defScope xw):=⟨rfl,rfl,rfl,by decide +kernel,rfl,by decide +kernel,by decide +kernel⟩
theorem zi8 {f fO fK fR fY:Addr} {fd fdO fdK fdR fdY:FuncData} (hX:CxNo CX) (F:Fun K "contrary" "contrary" xw f fd)
    (DO:Dn K mg "order_of" xf ["points","blocks"] fO fdO) (GO:FnOk P w K mg base CX 5 fO fdO ["points","blocks"] spOrderOf)
    (DK:Dn K mg "order_back" xj ["order"] fK fdK) (GK:FnOk P w K mg base CX 1 fK fdK ["order"] spBack)
    (DR:Dn K mg "round_labels" xg ["order"] fR fdR) (GR:FnOk P w K mg base CX 1 fR fdR ["order"] spRound)
    (DY:Dn K mg "blocks_by" yw ["labels"] fY fdY) (GY:FnOk P w K mg base CX 1 fY fdY ["labels"] (spBlocksByI K)):FnOk P w K mg base CX 6 f fd ["points","blocks"] spContrary:=by
  refine F.okX sc_contrary (fun vs H Q E h=>?_) (fun cdv A outer s H vs Q E hr h=>?_)
  · obtain ⟨p,wd,rfl,_⟩:=h
    rfl
  · obtain ⟨p,wd,rfl,hL,hz,hF,q⟩:=h
    have nd:=sc_contrary.nd
    have hr1:=hr.mono (show 1≤5 by decide)
    refine ⟨_,zd (zk (i:=2) nd rfl (Or.inl rfl) (zh GK hr1 rfl DK.at_ DK.fn.kp DK.bd .nil (passN hX) (za (zh GO hr rfl DO.at_ DO.fn.kp DO.bd .nil (passN hX) (za (pv 0) (za (pv 1) zc))) zc)))
      (zg (zt (zh GY hr1 rfl DY.at_ DY.fn.kp DY.bd .nil (passN hX) (za (zh GR hr1 rfl DR.at_ DR.fn.kp DR.bd .nil (passN hX) (za
        (pe_op wo (yi yp (pv 2) (yh zf) yv) (yi yp (pv 2) yv (yh zf))) zc)) zc)))),?_⟩
    refine ⟨_,rfl,_,rfl,p,wd,rfl,hL,hz,hF,fun l1 o H1 ho N1=>?_⟩
    have hol:o.length=wd.length:=ho.1
    obtain ⟨o1,o2⟩:=ziq ho
    refine ⟨l1,o,rfl,N1.at_,by omega,o1,o2,fun l2 b H2 hb N2=>?_⟩
    have hbl:b.length=wd.length:=by rw [hb.1,hol]
    have hu:=zly wd
    obtain ⟨so,hso⟩:=zhe (krWord wd)
    have hul:(krWord wd).length=wd.length:=hu.len
    have erot:rot b=so:=ze5 hF hu ho (by rw [← hul];exact hso) hb
    have c1:=zb5 b 1
    have c2:=zb2 b 1
    refine ⟨_,rfl,_,rfl,l2,_,rfl,SqL.of N2.at_,fun p1 hp1=>?_⟩
    have t1:=Same.new (o:=.lst (iv (zl (b.drop 1)))) hp1
    rw [show cutV (iv (zl b)) (some 1) none=iv (zl (b.drop 1)) from c1]
    refine ⟨_,rfl,_,rfl,l2,_,rfl,SqL.of (t1 _ _ N2.at_),fun p2 hp2=>?_⟩
    have t2:=Same.new (o:=.lst (iv (zl (b.take 1)))) hp2
    rw [show cutV (iv (zl b)) none (some 1)=iv (zl (b.take 1)) from c2]
    refine ⟨p1,p2,_,_,rfl,rfl,t2 _ _ ze,ze,?_,fun p3 hp3=>?_⟩
    · simp only [List.length_map,List.length_drop,List.length_take]
      exact yf (by omega)
    have e3:iv (zl (b.drop 1))++iv (zl (b.take 1))=iv (zl so):=by
      rw [← erot]
      simp [rot,iv,zl]
    rw [e3]
    refine ⟨p3,krWord wd,so,rfl,ze,by omega,hso,fun l3 L H3 e1 e2 e4 N3=>?_⟩
    refine ⟨l3,L,rfl,SqL.of N3.at_,by omega,fun r H4 N4=>?_⟩
    rw [zc0 e2 e4] at N4
    exact q r (krWord wd) H4 hu (N4.before (((((N1.same.trans N2.same).trans t1).trans t2).trans (Same.new hp3)).trans N3.same))
end
end NCP
namespace NCP
open PySem L2 NC
section
variable {CX:CXT} {P:Program} {w:World} {K:PySem.W.Frag} {mg:Str→Option Value} {base:Heap}
theorem sc_turned:FnScope ["points","blocks","places"] ["points","blocks"] (defScope w8):=⟨rfl,rfl,rfl,by decide +kernel,rfl,by decide +kernel,by decide +kernel⟩
theorem zm9 {f fU fB fY:Addr} {fd fdU fdB fdY:FuncData} (hX:CxNo CX) (F:Fun K "turned" "turned" w8 f fd)
    (DU:Dn K mg "refuse_unless_free" zo ["points","blocks"] fU fdU) (GU:FnOk P w K mg base CX 4 fU fdU ["points","blocks"] spFree1)
    (DB:Dn K mg "block_places" yg ["points","blocks"] fB fdB) (GB:FnOk P w K mg base CX 1 fB fdB ["points","blocks"] spBlockPlaces)
    (DY:Dn K mg "blocks_by" yw ["labels"] fY fdY) (GY:FnOk P w K mg base CX 1 fY fdY ["labels"] (spBlocksByI K)):FnOk P w K mg base CX 5 f fd ["points","blocks"] spTurned:=by
  refine F.okX sc_turned (fun vs H Q E h=>?_) (fun cdv A outer s H vs Q E hr h=>?_)
  · obtain ⟨p,wd,rfl,_⟩:=h
    rfl
  · obtain ⟨p,wd,rfl,hL,hz,hF,q⟩:=h
    have nd:=sc_turned.nd
    have hr1:=hr.mono (show 1≤4 by decide)
    refine ⟨_,zd (zm (zh GU hr rfl DU.at_ DU.fn.kp DU.bd .nil (passN hX) (za (pv 0) (za (pv 1) zc))))
      (zd (zk (i:=2) nd rfl (Or.inl rfl) (zh GB hr1 rfl DB.at_ DB.fn.kp DB.bd .nil (passN hX) (za (pv 0) (za (pv 1) zc))))
      (zg (zt (zh GY hr1 rfl DY.at_ DY.fn.kp DY.bd .nil (passN hX) (za
        (pe_op wo (yi yp (pv 2) (yh zf) yv) (yi yp (pv 2) yv (yh zf))) zc))))),?_⟩
    refine ⟨_,rfl,_,rfl,p,wd,rfl,hL,hz,hF,fun H1 s1=>?_⟩
    refine ⟨_,rfl,_,rfl,p,wd,rfl,hL.mono s1,by omega,fun l2 H2 N2=>?_⟩
    have hcl:=zx wd
    have hrl:=zjk (canon wd)
    generalize hb:canon wd=b at N2 hcl hrl q
    have c1:=zb5 b 1
    have c2:=zb2 b 1
    refine ⟨_,rfl,_,rfl,l2,_,rfl,SqL.of N2.at_,fun p1 hp1=>?_⟩
    have t1:=Same.new (o:=.lst (iv (zl (b.drop 1)))) hp1
    rw [show cutV (iv (zl b)) (some 1) none=iv (zl (b.drop 1)) from c1]
    refine ⟨_,rfl,_,rfl,l2,_,rfl,SqL.of (t1 _ _ N2.at_),fun p2 hp2=>?_⟩
    have t2:=Same.new (o:=.lst (iv (zl (b.take 1)))) hp2
    rw [show cutV (iv (zl b)) none (some 1)=iv (zl (b.take 1)) from c2]
    refine ⟨p1,p2,_,_,rfl,rfl,t2 _ _ ze,ze,?_,fun p3 hp3=>?_⟩
    · simp only [List.length_map,List.length_drop,List.length_take]
      exact yf (by omega)
    have e3:iv (zl (b.drop 1))++iv (zl (b.take 1))=iv (zl (rot b)):=by
      simp [rot,iv,zl]
    rw [e3]
    refine ⟨p3,rot b,rfl,SqL.of ze,by omega,fun r H4 N4=>?_⟩
    exact q r H4 (N4.before ((((s1.trans N2.same).trans t1).trans t2).trans (Same.new hp3)))
end
end NCP
namespace NCP
open PySem L2 NC
section
variable {CX:CXT} {P:Program} {w:World} {K:PySem.W.Frag} {mg:Str→Option Value} {base:Heap}
theorem sc_choices:FnScope ["things","chosen","ways","taken"] ["things","chosen"] (defScope vg):=⟨rfl,rfl,rfl,by decide +kernel,rfl,by decide +kernel,by decide +kernel⟩
theorem zk0 {f:Addr} {fd:FuncData} (B:GBlt mg) (F:Fun K "choices" "choices" vg f fd):FnOk P w K mg base CX 1 f fd ["things","chosen"] spChoices:=by
  refine F.okX sc_choices (fun vs H Q E h=>?_) (fun cdv A outer s H vs Q E hr h=>?_)
  · obtain ⟨n,k,rfl,_⟩:=h
    rfl
  · obtain ⟨n,k,rfl,hz,hk,q⟩:=h
    have nd:=sc_choices.nd
    refine ⟨_,zd (zk (i:=2) nd rfl (Or.inl rfl) zf)
      (zd (yt PassesOwn.never rfl (vd rfl B.range (za (pv 1) zc)) (zy (i:=3) nd rfl (Or.inl rfl))
        (zg (zk (i:=2) nd rfl (Or.inl rfl) (pe_op zay (pe_op zec (pv 2) (pe_op vv (pv 0) (pv 3))) (pe_op yu (pv 3) zf)))))
      (zg (zt (pv 2)))),?_⟩
    refine ⟨_,rfl,_,rfl,by omega,by omega,?_⟩
    rw [Int.toNat_natCast]
    refine wn (lo:=0) (n:=k) (fun i σ H2=>∃ v3,σ=[some (.int n),some (.int k),some (.int (chs n i:Nat)),v3]∧H=H2) ⟨none,rfl,rfl⟩ ?_ ?_
    · rintro i σ H2 hi ⟨v3,rfl,rfl⟩
      rw [Int.zero_add]
      refine ⟨_,rfl,_,rfl,_,rfl,_,_,rfl,rfl,_,_,rfl,rfl,.inr ⟨by omega,by omega⟩,_,rfl,_,_,rfl,rfl,_,_,rfl,rfl,⟨by omega,by omega⟩,?_⟩
      have e:((chs n i:Nat):Int) * ((n:Int) - (i:Int)) / ((i:Int)+1)=((chs n (i+1):Nat):Int):=by
        rw [show ((n:Int) - (i:Int))=((n - i:Nat):Int) by omega,show ((i:Int)+1)=((i+1:Nat):Int) from rfl,← Int.natCast_mul,← Int.natCast_ediv]
        rfl
      show gName 2 (V.int _) _ _ _
      rw [e]
      exact ⟨_,rfl,rfl⟩
    · rintro σ H2 ⟨v3,rfl,rfl⟩
      exact ⟨_,rfl,q⟩
end
end NCP
namespace NCP
open PySem L2 NC
section
variable {CX:CXT} {P:Program} {w:World} {K:PySem.W.Frag} {mg:Str→Option Value} {base:Heap}
theorem sc_ways_within:FnScope ["size","ways","factor"] ["size"] (defScope xm):=⟨rfl,rfl,rfl,by decide +kernel,rfl,by decide +kernel,by decide +kernel⟩
theorem zfj {f:Addr} {fd:FuncData} (F:Fun K "ways_within" "ways_within" xm f fd):FnOk P w K mg base CX 1 f fd ["size"] spWaysIn:=by
  refine F.okX sc_ways_within (fun vs H Q E h=>?_) (fun cdv A outer s H vs Q E hr h=>?_)
  · obtain ⟨k,rfl,_⟩:=h
    rfl
  · obtain ⟨k,rfl,hk1,hk,q⟩:=h
    have nd:=sc_ways_within.nd
    refine ⟨_,zd (zk (i:=1) nd rfl (Or.inl rfl) zf)
      (zd (yt PassesOwn.never rfl (y2 (pe_op zb9 (ym (za (pv 0) zc)) (pe_op vv (pv 0) zf))) (zy (i:=2) nd rfl (Or.inl rfl))
        (zg (zk (i:=1) nd rfl (Or.inl rfl) (pe_op zec (pv 1) (pv 2)))))
      (zg (zt (pv 1)))),?_⟩
    refine ⟨_,rfl,by show 1≤sizeLine;decide,fun l0 hl0=>⟨_,rfl,_,_,rfl,rfl,l0,_,_,rfl,rfl,ze,by omega,by omega,?_,fun l1 hl1=>?_⟩⟩
    · show 1 * ((k:Int) - 2).toNat≤sizeLine
      exact yf (by omega)
    have er:(List.replicate ((k:Int) - 2).toNat [V.int k]).flatten=List.replicate (k - 2) (V.int k):=by
      rw [show ((k:Int) - 2).toNat=k - 2 by omega]
      generalize k - 2=m
      induction m with
      | zero=>rfl
      | succ m ih =>
        rw [List.replicate_succ,List.flatten_cons,ih]
        rfl
    have s1:=(Same.new (o:=.lst [.int k]) hl0).trans (Same.new (o:=.lst (List.replicate ((k:Int) - 2).toNat [V.int k]).flatten) hl1)
    have h1:(upd (upd H l0 (.lst [.int k])) l1 (.lst (List.replicate ((k:Int) - 2).toNat [V.int k]).flatten)) l1=some (.lst (List.replicate ((k:Int) - 2).toNat [V.int k]).flatten):=ze
    generalize upd (upd H l0 (.lst [.int k])) l1 (.lst (List.replicate ((k:Int) - 2).toNat [V.int k]).flatten)=H1 at s1 h1 ⊢
    rw [er] at h1
    refine ⟨l1,rfl,⟨_,SqL.of h1⟩,vk (K:=K) (a:=l1) (xs:=List.replicate (k - 2) (V.int k)) (fun i σ H2=>∃ v2,σ=[some (.int k),some (.int (k ^ i:Nat)),v2]∧H1=H2) ⟨none,rfl,rfl⟩ (fun i σ H2 _ ⟨_,_,e⟩=>e ▸ SqL.of h1) ?_ ?_⟩
    · rintro i x σ H2 hi ⟨v2,rfl,rfl⟩
      have hx:=List.eq_of_mem_replicate (List.mem_of_getElem? hi)
      subst hx
      refine ⟨_,rfl,_,rfl,_,_,rfl,rfl,.inr ⟨by omega,by omega⟩,?_⟩
      show gName 1 (V.int (((k ^ i:Nat):Int) * (k:Int))) _ _ _
      rw [← Int.natCast_mul,← Nat.pow_succ]
      exact ⟨_,rfl,rfl⟩
    · rintro σ H2 ⟨v2,rfl,rfl⟩
      rw [List.length_replicate]
      exact ⟨_,rfl,q _ s1⟩
end
end NCP
namespace NCP
open PySem L2 NC
section
variable {CX:CXT} {P:Program} {w:World} {K:PySem.W.Frag} {mg:Str→Option Value} {base:Heap}
theorem sc_ways_up:FnScope ["points","blocks","ways","steps","block"] ["points","blocks"] (defScope wt):=⟨rfl,rfl,rfl,by decide +kernel,rfl,by decide +kernel,by decide +kernel⟩
theorem zk1 {f fU fC fW:Addr} {fd fdU fdC fdW:FuncData} (hX:CxNo CX) (B:GBlt mg) (F:Fun K "ways_up" "ways_up" wt f fd)
    (DU:Dn K mg "refuse_unless_free" zo ["points","blocks"] fU fdU) (GU:FnOk P w K mg base CX 4 fU fdU ["points","blocks"] spFree1)
    (DC:Dn K mg "choices" vg ["things","chosen"] fC fdC) (GC:FnOk P w K mg base CX 1 fC fdC ["things","chosen"] spChoices)
    (DW:Dn K mg "ways_within" xm ["size"] fW fdW) (GW:FnOk P w K mg base CX 1 fW fdW ["size"] spWaysIn):FnOk P w K mg base CX 5 f fd ["points","blocks"] spWaysUp:=by
  refine F.okX sc_ways_up (fun vs H Q E h=>?_) (fun cdv A outer s H vs Q E hr h=>?_)
  · obtain ⟨p,wd,rfl,_⟩:=h
    rfl
  · obtain ⟨p,wd,rfl,hL,hz,hF,q⟩:=h
    have nd:=sc_ways_up.nd
    have hr1:=hr.mono (show 1≤4 by decide)
    refine ⟨_,zd (zm (zh GU hr rfl DU.at_ DU.fn.kp DU.bd .nil (passN hX) (za (pv 0) (za (pv 1) zc))))
      (zd (zk (i:=2) nd rfl (Or.inl rfl) zf)
      (zd (zk (i:=3) nd rfl (Or.inl rfl) zf)
      (zd (yt PassesOwn.never rfl (y2 (pv 1)) (zy (i:=4) nd rfl (Or.inl rfl))
        (zd (zk (i:=3) nd rfl (Or.inl rfl) (pe_op vv (pe_op yu (pv 3) (zp ya (by rfl) B.len PySem.boot_len (za (pv 4) zc))) zf))
        (zg (zk (i:=2) nd rfl (Or.inl rfl) (pe_op zec (pe_op zec (pv 2) (zh GC hr1 rfl DC.at_ DC.fn.kp DC.bd .nil (passN hX) (za (pv 3) (za (pe_op vv (zp ya (by rfl) B.len PySem.boot_len (za (pv 4) zc)) zf) zc))))
          (zh GW hr1 rfl DW.at_ DW.fn.kp DW.bd .nil (passN hX) (za (zp ya (by rfl) B.len PySem.boot_len (za (pv 4) zc)) zc)))))))
      (zg (zt (pv 2)))))),?_⟩
    refine ⟨_,rfl,_,rfl,p,wd,rfl,hL,hz,hF,fun H1 s1=>?_⟩
    have hL1:=hL.mono s1
    obtain ⟨as,hp,hbs⟩:=id hL1
    have hal:as.length=(lens wd).length:=by rw [yk hbs,List.length_map,List.length_map]
    have hst:=zkr wd
    refine ⟨_,rfl,p,rfl,⟨_,SqL.of hp⟩,vk (K:=K) (a:=p) (xs:=as.map V.ref)
      (fun i σ H2=>∃ (v4:Option V) (st:Nat × Nat),σ=[some (.int wd.length),some (.ref p),some (.int (st.1:Nat)),some (.int (st.2:Nat)),v4]∧Same H1 H2∧st=((lens wd).take i).foldl stp (1,0)∧st.2+stepsOf ((lens wd).drop i)=stepsOf (lens wd))
      ⟨none,(1,0),rfl,Same.refl _,rfl,by rw [List.drop_zero];exact Nat.zero_add _⟩ (fun i σ H2 _ ⟨_,_,_,s2,_⟩=>SqL.of (s2 _ _ hp)) ?_ ?_⟩
    · rintro i x σ H2 hi ⟨v4,st,rfl,s2,est,hst2⟩
      obtain ⟨t,ht,rfl⟩:=we hi
      obtain ⟨b',hb',hbt⟩:=yd hbs ht
      obtain ⟨b,hb,rfl⟩:∃ b,(gather wd)[i]?=some b∧b'=zl b:=by
        rw [List.getElem?_map] at hb'
        obtain ⟨b,h1,h2⟩:=Option.map_eq_some_iff.mp hb'
        exact ⟨b,h1,h2.symm⟩
      have hl:(lens wd)[i]?=some b.length:=by rw [List.getElem?_map,hb];rfl
      obtain ⟨hb1,hb2⟩:=zpr (List.mem_of_getElem? hl)
      have hdr:=zh2 hl
      have h2:=s2 _ _ hbt
      have hbl:(iv (zl b)).length=b.length:=by rw [List.length_map,List.length_map]
      have hst10:st.2+(b.length - 1)≤10:=by omega
      refine ⟨_,rfl,_,rfl,t,_,rfl,.inl (SqL.of h2),_,_,rfl,rfl,_,_,rfl,rfl,?_⟩
      show gName 3 (V.int ((st.2:Int)+((iv (zl b)).length:Int) - 1)) _ _ _
      rw [hbl,show (st.2:Int)+(b.length:Int) - 1=((st.2+(b.length - 1):Nat):Int) by omega]
      refine ⟨_,rfl,_,rfl,_,rfl,t,_,rfl,.inl (SqL.of h2),_,_,rfl,rfl,st.2+(b.length - 1),b.length - 1,?_,by omega,by omega,?_⟩
      · rw [hbl,show ((b.length - 1:Nat):Int)=(b.length:Int) - 1 by omega]
        rfl
      have hc:=zqc (st.2+(b.length - 1)) (b.length - 1) hst10 (by omega)
      have ht2:=tw_le (k:=b.length) (by omega)
      refine ⟨_,_,rfl,rfl,.inr ⟨by omega,by omega⟩,_,rfl,t,_,rfl,.inl (SqL.of h2),b.length,by rw [hbl];rfl,hb1,by omega,fun H3 s3=>?_⟩
      refine ⟨_,_,rfl,rfl,.inr ⟨by omega,by omega⟩,?_⟩
      show gName 2 (V.int (((st.1:Nat):Int) * ((chs (st.2+(b.length - 1)) (b.length - 1):Nat):Int) * ((tw b.length:Nat):Int))) _ _ _
      rw [← Int.natCast_mul,← Int.natCast_mul]
      refine ⟨_,stp st b.length,rfl,s2.trans s3,?_,?_⟩
      · rw [List.take_add_one,hl,List.foldl_append,← est]
        rfl
      · show st.2+(b.length - 1)+stepsOf ((lens wd).drop (i+1))=_
        omega
    · rintro σ H2 ⟨v4,st,rfl,s2,est,_⟩
      rw [List.length_map,hal,List.take_length] at est
      refine ⟨_,rfl,?_⟩
      rw [est]
      exact q _ (s1.trans s2)
end
end NCP
namespace NCP
open PySem L2 NC
section
variable {CX:CXT} {P:Program} {w:World} {K:PySem.W.Frag} {mg:Str→Option Value} {base:Heap}
abbrev nEnd:List Str:=["points","table","rest","fewer"]
theorem sc_endings:FnScope nEnd ["points"] (defScope wy):=⟨rfl,rfl,rfl,by decide +kernel,rfl,by decide +kernel,by decide +kernel⟩
theorem nd_of:(["opened","fewer"]:List Str).Nodup:=by decide +kernel
def eEnd (n r:Nat):TE:=fun τ H Q=>∃ (a:Addr) (o:Nat),τ=[some (.int o),some (.ref a)]∧o+2≤n+1 - r∧H a=some (.lst (iv (zl (endRow n r))))∧∀ H',Same H H'→Q (.int (En (r+1) o:Nat)) H'
theorem zk2 {f:Addr} {fd:FuncData} (B:GBlt mg) (F:Fun K "endings" "endings" wy f fd):FnOk P w K mg base CX 1 f fd ["points"] spEndings:=by
  refine F.okX sc_endings (fun vs H Q E h=>?_) (fun cdv A outer s H vs Q E hr h=>?_)
  · obtain ⟨n,rfl,_⟩:=h
    rfl
  · obtain ⟨n,rfl,hz,q⟩:=h
    have nd:=sc_endings.nd
    refine ⟨_,zd (zk (i:=1) nd rfl (Or.inl rfl) (ym (za (pe_op zb9 (ym (za zf zc)) (pe_op yu (pv 0) zf)) zc)))
      (zd (yt PassesOwn.never rfl (zbb rfl B.range (za zf (za (pe_op yu (pv 0) zf) zc))) (zy (i:=2) nd rfl (Or.inl rfl))
        (zd (zk (i:=3) nd rfl (Or.inr rfl) (pe_ix zw (pv 1) (pe_op vv (pv 2) zf) (fun _ _=>rfl)))
        (zg (zm (pe_bm PySem.F.plainAttrs_list PySem.F.slot_list_append PySem.F.type_list_append wa (pv 1) (za
          (wc (g:=gName 0) (te:=fun τ H Q=>∃ r,eEnd n r τ H Q) rfl (cpS (N:=["opened","fewer"]) (js:=[none,some 3]) (defScope wy) nEnd (by decide +kernel)) (vd rfl B.range (za (pe_op yu (pe_op vv (pv 0) (pv 2)) zf) zc))
            (by intros;exact zy (i:=0) nd_of rfl (Or.inl rfl) (Or.inr rfl))
            (by
              intros
              refine (zp (zbi rfl) (by rfl) B.sum PyProof.Rows.boot_sum (za (yi yp (pv 1) (yh zf) (yh (pe_op yu (pv 0) zf))) zc)).imp fun τ H Q h=>?_
              obtain ⟨r,a,o,rfl,ho,ha,q⟩:=h
              refine ⟨_,rfl,_,rfl,_,rfl,_,_,rfl,rfl,_,rfl,a,_,rfl,SqL.of ha,fun p hp=>?_⟩
              have e:=zev (endRow n r) (lo:=1) (hi:=o+2) (by rw [zbk];omega) (by rw [zbk];omega)
              rw [show ((o+2:Nat):Int)=(o:Int)+2 from rfl] at e
              rw [show ((1:Nat):Int)=1 from rfl] at e
              rw [e]
              refine ⟨p,zl (((endRow n r).drop 1).take (o+2 - 1)),rfl,SqL.of ze,?_⟩
              rw [zmx,show o+2 - 1=o+1 from rfl,zpa ho]
              exact q _ (Same.new hp))) zc))))))
      (zg (zt (pv 1)))),?_⟩
    refine ⟨by show 1≤sizeLine;decide,fun l0 hl0=>⟨_,rfl,_,_,rfl,rfl,l0,_,_,rfl,rfl,ze,by omega,by omega,?_,fun l1 hl1=>?_⟩⟩
    · show 1 * ((n:Int)+1).toNat≤sizeLine
      exact yf (by omega)
    refine ⟨by show 1≤sizeLine;decide,fun pt hpt=>?_⟩
    have en:((n:Int)+1).toNat=n+1:=by omega
    have er:(List.replicate ((n:Int)+1).toNat [V.int 1]).flatten=iv (zl (endRow n 0)):=by
      rw [en,row0]
      have:∀ k:Nat,(List.replicate k [V.int 1]).flatten=iv (zl (List.replicate k 1)):=by
        intro k
        induction k with
        | zero=>rfl
        | succ k ih=>rw [List.replicate_succ,List.flatten_cons,ih,List.replicate_succ];rfl
      exact this _
    rw [er] at hpt ⊢
    have n1:H l1=none:=(Same.new hl0).free hl1
    have sA:=Same.new (o:=.lst [.int 1]) hl0
    have sB:=Same.new (o:=.lst (iv (zl (endRow n 0)))) hl1
    have sC:=Same.new (o:=.lst [.ref l1]) hpt
    have npt:H pt=none:=(sA.trans sB).free hpt
    have ne1:pt≠l1:=Ne.symm (zn ze hpt)
    have s1:=(sA.trans sB).trans sC
    have t1:(upd (upd (upd H l0 (.lst [.int 1])) l1 (.lst (iv (zl (endRow n 0))))) pt (.lst [.ref l1])) l1=some (.lst (iv (zl (endRow n 0)))):=sC _ _ ze
    refine ⟨_,rfl,_,_,rfl,rfl,_,_,rfl,⟨by omega,by omega,by omega,by omega⟩,?_⟩
    rw [show ((n:Int)+1 - 1).toNat=n by omega]
    refine wn (lo:=1) (n:=n) (fun i σ H2=>∃ (v2 v3:Option V) (as:List Addr),σ=[some (.int n),some (.ref pt),v2,v3]∧Same H H2∧H2 pt=some (.lst (as.map V.ref))∧Paired (fun a b=>H a=none∧H2 a=some (.lst (iv b))) as (zb ((endRows n).take (i+1)))∧as.Nodup∧pt ∉ as)
      ⟨none,none,[l1],rfl,s1,ze,?_,by simp,by simp [ne1]⟩ ?_ ?_
    · rw [List.take_succ,za8 (by omega)]
      exact .cons ⟨n1,t1⟩ .nil
    · rintro i σ H2 hi ⟨v2,v3,as,rfl,s2,h2,hP,hnd,hout⟩
      have hl:=yk hP
      rw [List.length_map,List.length_take,zdp] at hl
      have hl:as.length=i+1:=by omega
      obtain ⟨a,ha⟩:∃ a,as[i]?=some a:=⟨as[i],List.getElem?_eq_getElem (by omega)⟩
      obtain ⟨b',hb',hab⟩:=yd hP ha
      have hb2:b'=zl (endRow n i):=by
        rw [List.getElem?_map,List.getElem?_take,if_pos (by omega),za8 (by omega)] at hb'
        exact (Option.some.inj hb').symm
      subst hb2
      have e1:(1:Int)+(i:Int) - 1=(i:Int):=by omega
      have hget:(as.map V.ref)[i]?=some (.ref a):=by rw [List.getElem?_map,ha];rfl
      refine ⟨_,rfl,_,rfl,_,_,rfl,rfl,pt,_,_,_,rfl,rfl,SqL.of h2,by rw [e1];exact xq hget,?_⟩
      refine ⟨_,rfl,.inl ⟨rfl,_,SqL.of h2⟩,_,rfl,_,rfl,_,_,rfl,rfl,_,_,rfl,rfl,_,rfl,by omega,by omega,fun pl hpl=>?_⟩
      have hnp:H pl=none:=s2.free hpl
      rw [show ((n:Int) - (1+(i:Int))+1).toNat=n - i by omega]
      refine vi (J:=Itr 0 (n - i)) (Hs:=H2) (n - i) (fun o=>.int (En (i+1) o:Nat)) (fun τ=>∃ v,τ=[v,some (.ref a)]) (Same.refl _) hpl (yf (by omega)) (fun i H2 hi _=>hi) (fun H2 _=>Nat.le_refl _) ⟨_,rfl⟩ ?_ ?_
      · rintro o τ H3 x H4 R ho ⟨v,rfl⟩ s3 ⟨rfl,rfl⟩ k
        rw [Int.zero_add]
        have ho':o<n - i:=ho
        exact ⟨i,a,o,rfl,by omega,s3 _ _ hab.2,fun H' s'=>k _ _ ⟨_,rfl⟩ s'⟩
      intro H3 s3 h3
      rw [zok] at h3
      have erow:(List.range (n - i)).map (En (i+1))=endRow n (i+1):=by
        unfold endRow
        rw [show n+1 - (i+1)=n - i by omega]
      rw [erow] at h3
      have hpl2:pl≠pt:=Ne.symm (zn h2 hpl)
      refine ⟨pt,_,_,rfl,rfl,s3 _ _ h2,small1000 (by rw [List.length_map];omega),?_⟩
      refine ⟨_,_,as++[pl],rfl,(s2.trans s3).upd npt,?_,?_,?_,?_⟩
      · rw [ze,List.map_append];rfl
      · rw [← zhf (show i+1<n+1 by omega)]
        unfold zb
        rw [List.map_append]
        refine v8 (zag (fun x b hx e=>⟨e.1,?_⟩) hP) ⟨hnp,?_⟩
        · rw [zi (fun (z:x=pt)=>hout (z ▸ hx))]
          exact s3 _ _ e.2
        · rw [zi hpl2]
          exact h3
      · refine List.nodup_append.mpr ⟨hnd,by simp,fun x hx y hy z=>?_⟩
        rw [List.mem_singleton] at hy
        subst hy
        subst z
        obtain ⟨k,hk,ek⟩:=List.mem_iff_getElem.mp hx
        obtain ⟨c,_,hc⟩:=yd hP (i:=k) (a:=x) (by rw [List.getElem?_eq_getElem hk,ek])
        rw [hpl] at hc
        cases hc.2
      · intro z
        rcases List.mem_append.mp z with z | z
        · exact hout z
        · rw [List.mem_singleton] at z
          exact hpl2 z.symm
    · rintro σ H2 ⟨v2,v3,as,rfl,s2,h2,hP,hnd,hout⟩
      rw [List.take_of_length_le (by rw [zdp];exact Nat.le_refl _)] at hP
      exact ⟨_,rfl,q pt H2 ⟨s2,npt,as,h2,hP,hnd⟩⟩
end
end NCP
namespace NCP
open PySem L2 NC
section
variable {CX:CXT} {P:Program} {w:World} {K:PySem.W.Frag} {mg:Str→Option Value} {base:Heap}
abbrev nNum:List Str:=["points","blocks","table","opened","number","point","place","choice"]
theorem sc_number_of:FnScope nNum ["points","blocks"] (defScope y6):=⟨rfl,rfl,rfl,by decide +kernel,rfl,by decide +kernel,by decide +kernel⟩
theorem nd_ep:(["each","place"]:List Str).Nodup:=by decide +kernel
theorem zk3 (l:List Nat) (x:Nat):(iv (zl l)).filter (fun v=>match v with | .int z=>decide (z<(x:Int)) | _=>false)=iv (zl (l.filter fun y=>decide (y<x))):=by
  induction l with
  | nil=>rfl
  | cons a l ih =>
    show (V.int (a:Int)::iv (zl l)).filter _=_
    by_cases h:a<x
    · rw [List.filter_cons_of_pos (by simpa using h),List.filter_cons_of_pos (by simpa using h),ih]
      rfl
    · rw [List.filter_cons_of_neg (by simpa using h),List.filter_cons_of_neg (by simpa using h),ih]
theorem zib {f fU fE fB:Addr} {fd fdU fdE fdB:FuncData} (hX:CxNo CX) (B:GBlt mg) (F:Fun K "number_of" "number_of" y6 f fd)
    (DU:Dn K mg "refuse_unless_free" zo ["points","blocks"] fU fdU) (GU:FnOk P w K mg base CX 4 fU fdU ["points","blocks"] spFree1)
    (DE:Dn K mg "endings" wy ["points"] fE fdE) (GE:FnOk P w K mg base CX 1 fE fdE ["points"] spEndings)
    (DB:Dn K mg "block_places" yg ["points","blocks"] fB fdB) (GB:FnOk P w K mg base CX 1 fB fdB ["points","blocks"] spBlockPlaces):FnOk P w K mg base CX 5 f fd ["points","blocks"] spNumberOf:=by
  refine F.okX sc_number_of (fun vs H Q E h=>?_) (fun cdv A outer s H vs Q E hr h=>?_)
  · obtain ⟨p,wd,rfl,_⟩:=h
    rfl
  · obtain ⟨p,wd,rfl,hL,hz,hF,q⟩:=h
    have nd:=sc_number_of.nd
    have hr1:=hr.mono (show 1≤4 by decide)
    refine ⟨_,zd (zm (zh GU hr rfl DU.at_ DU.fn.kp DU.bd .nil (passN hX) (za (pv 0) (za (pv 1) zc))))
      (zd (zk (i:=2) nd rfl (Or.inl rfl) (zh GE hr1 rfl DE.at_ DE.fn.kp DE.bd .nil (passN hX) (za (pv 0) zc)))
      (zd (zk (i:=3) nd rfl (Or.inl rfl) (ym zc))
      (zd (zk (i:=4) nd rfl (Or.inl rfl) zf)
      (zd (yt PassesOwn.never rfl (za2 (by rfl) B.enum (za (zh GB hr1 rfl DB.at_ DB.fn.kp DB.bd .nil (passN hX) (za (pv 0) (za (pv 1) zc))) zc)) (zpm 5 6 rfl nd rfl rfl rfl rfl)
        (zd (zk (i:=7) nd rfl (Or.inl rfl) (zp ya (by rfl) B.len PySem.boot_len (za
          (zmq (g:=gName 0) rfl (cpS (N:=["each","place"]) (js:=[none,some 6]) (defScope y6) nNum (by decide +kernel)) (y2 (pv 3))
            (by intros;exact zy (i:=0) nd_ep rfl (Or.inl rfl) (Or.inr rfl))
            (by intros;exact zv op_lt (pv 0) (pv 1) (nomark _))
            (by intros;exact pv 0)) zc)))
        (zd (zk (i:=4) nd rfl (Or.inl rfl) (pe_op yu (pv 4) (zp (zbi rfl) (by rfl) B.sum PyProof.Rows.boot_sum (za (yi yp (pe_ix zw (pv 2) (pe_op vv (pe_op vv (pv 0) (pv 5)) zf) (fun _ _=>rfl)) (yh zf) (yh (pe_op yu (pv 7) zf))) zc))))
        (zg (zk (i:=3) nd rfl (Or.inl rfl) (pe_op wo (yi yp (pv 3) yv (yh (pv 7))) (ym (za (pv 6) zc))))))))
      (zg (zt (pv 4))))))),?_⟩
    refine ⟨_,rfl,_,rfl,p,wd,rfl,hL,hz,hF,fun H1 s1=>?_⟩
    refine ⟨_,rfl,_,rfl,hz,fun pt H2 N2=>?_⟩
    have L2:=N2.ll
    have s02:=s1.trans N2.same
    refine ⟨Nat.zero_le _,fun po hpo=>?_⟩
    have s3:=Same.new (o:=.lst []) hpo
    have hlc:=zx wd
    refine ⟨_,rfl,_,rfl,p,wd,rfl,hL.mono (s02.trans s3),by omega,fun lw H4 N4=>?_⟩
    have s24:=s3.trans N4.same
    have L4:=L2.mono s24
    refine ⟨lw,rfl,⟨_,SqL.of N4.at_⟩,zap (K:=K) (a:=lw) (xs:=iv (zl (canon wd)))
      (fun i σ H5=>∃ (po:Addr) (v5 v6 v7:Option V) (st:List Nat × Nat),σ=[some (.int wd.length),some (.ref p),some (.ref pt),some (.ref po),some (.int (st.2:Nat)),v5,v6,v7]∧Same H4 H5∧H5 po=some (.lst (iv (zl st.1)))∧st.1.length≤i∧nrun wd.length i st ((canon wd).drop i)=nrun wd.length 0 ([],0) (canon wd))
      ⟨po,none,none,none,([],0),rfl,Same.refl _,N4.same _ _ ze,Nat.le_refl _,rfl⟩ (fun i σ H5 _ ⟨_,_,_,_,_,_,s5,_⟩=>SqL.of (s5 _ _ N4.at_)) ?_ ?_⟩
    · rintro i x σ H5 t hi ⟨po,v5,v6,v7,st,rfl,s5,h5,hst,hrun⟩ ht
      obtain ⟨pl,hpl,rfl⟩:=vy hi
      have hil:=(List.getElem?_eq_some_iff.mp hpl).1
      have hdr:(canon wd).drop i=pl::(canon wd).drop (i+1):=by
        rw [List.drop_eq_getElem_cons hil]
        congr 1
        obtain ⟨_,e⟩:=List.getElem?_eq_some_iff.mp hpl
        exact e
      have tt:=Same.new (o:=.tup [.int i,.int pl]) ht
      refine ⟨t,_,_,rfl,SqT.of ze,?_⟩
      refine ⟨_,rfl,po,rfl,⟨_,SqL.of (tt _ _ h5)⟩,fun p1 hp1=>ziy (K:=K) (xs:=iv (zl st.1)) (Hs:=upd H5 t (.tup [.int i,.int pl])) (fun v=>match v with | .int z=>decide (z<(pl:Int)) | _=>false) (fun τ=>∃ v,τ=[v,some (.int (pl:Nat))]) (Same.refl _) hp1 (SqL.of (tt _ _ h5)) (by rw [List.length_map,List.length_map];exact yf (by omega)) ⟨_,rfl⟩ ?_ ?_⟩
      · rintro k y τ H6 R1 R0 hk ⟨v,rfl⟩ s6 k1 k0
        obtain ⟨b,hb,rfl⟩:=vy hk
        refine ⟨_,rfl,_,rfl,_,_,rfl,rfl,_,rfl,?_⟩
        refine iteB (fun e=>?_) fun e=>?_
        · exact ⟨_,rfl,k1 e _ _ ⟨_,rfl⟩ (Same.refl _)⟩
        · exact k0 e _ _ ⟨_,rfl⟩ (Same.refl _)
      intro H6 s6 h6
      rw [zk3] at h6
      have ec:(iv (zl (st.1.filter fun y=>decide (y<pl)))).length=cnt st.1 pl:=by rw [List.length_map,List.length_map];rfl
      have hcl:=zqd st.1 pl
      refine ⟨p1,_,rfl,.inl (SqL.of h6),?_⟩
      show gName 7 (V.int (((iv (zl (st.1.filter fun y=>decide (y<pl)))).length:Nat):Int)) _ _ _
      rw [ec]
      have s46:=(s5.trans tt).trans s6
      obtain ⟨as,ar,k1,k2,k3⟩:=zqt (L4.mono s46) (r:=wd.length - i - 1) (by omega)
      have e1:((wd.length:Nat):Int) - (i:Int) - 1=((wd.length - i - 1:Nat):Int):=by omega
      refine ⟨_,rfl,_,rfl,_,rfl,_,rfl,_,_,rfl,rfl,_,_,rfl,rfl,pt,_,_,_,rfl,rfl,SqL.of k1,by rw [e1];exact xq k2,_,rfl,_,rfl,_,_,rfl,rfl,_,rfl,ar,_,rfl,SqL.of k3,fun p2 hp2=>?_⟩
      have er:=zbk wd.length (wd.length - i - 1)
      have e2:=zev (endRow wd.length (wd.length - i - 1)) (lo:=1) (hi:=cnt st.1 pl+1) (by omega) (by omega)
      rw [show ((cnt st.1 pl+1:Nat):Int)=(cnt st.1 pl:Int)+1 from rfl,show ((1:Nat):Int)=1 from rfl,Nat.add_sub_cancel] at e2
      rw [e2]
      have t2:=Same.new (o:=.lst (iv (zl (((endRow wd.length (wd.length - i - 1)).drop 1).take (cnt st.1 pl))))) hp2
      refine ⟨p2,_,rfl,SqL.of ze,_,_,rfl,rfl,?_⟩
      rw [zmx]
      have h7:=(s6.trans t2) _ _ (tt _ _ h5)
      refine ⟨_,rfl,_,rfl,_,rfl,po,_,rfl,SqL.of h7,fun p3 hp3=>?_⟩
      rw [zb2]
      have t3:=Same.new (o:=.lst (iv (zl (st.1.take (cnt st.1 pl))))) hp3
      refine ⟨_,rfl,by show 1≤sizeLine;decide,fun p4 hp4=>?_⟩
      have t4:=Same.new (o:=.lst [.int (pl:Nat)]) hp4
      refine ⟨p3,p4,_,_,rfl,rfl,t4 _ _ ze,ze,?_,fun p5 hp5=>?_⟩
      · rw [List.length_map,List.length_map,List.length_take]
        exact yf (by simp;omega)
      refine ⟨p5,some (.int i),some (.int (pl:Nat)),some (.int (cnt st.1 pl:Nat)),nst wd.length i st pl,?_,((((s46.trans t2).trans t3).trans t4).trans (Same.new hp5)),?_,?_,?_⟩
      · show [_,_,_,_,some (V.int ((st.2:Int)+_)),_,_,_]=_
        rw [← Int.natCast_add]
        rfl
      · rw [ze]
        show _=some (HO.lst (iv (zl (st.1.take (cnt st.1 pl)++[pl]))))
        simp [iv,zl]
      · show (st.1.take (cnt st.1 pl)++[pl]).length≤i+1
        rw [List.length_append,List.length_take]
        simp
        omega
      · rw [← hrun,hdr]
        rfl
    · rintro σ H5 ⟨po,v5,v6,v7,st,rfl,s5,h5,hst,hrun⟩
      rw [List.drop_of_length_le (by simp)] at hrun
      have hrun:st=_:=hrun
      have q:=q H5 ((s02.trans s24).trans s5)
      unfold numOf at q
      rw [← hrun] at q
      exact ⟨_,rfl,q⟩
end
end NCP
namespace NCP
open PySem L2 NC
section
variable {CX:CXT} {P:Program} {w:World} {K:PySem.W.Frag} {mg:Str→Option Value} {base:Heap}
theorem zqx:FnScope ["points","one","other"] ["points","one","other"] (defScope s_met):=⟨rfl,rfl,rfl,by decide +kernel,rfl,by decide +kernel,by decide +kernel⟩
theorem zqy {f fU fB fY:Addr} {fd fdU fdB fdY:FuncData} (hX:CxNo CX) (B:GBlt mg) (F:Fun K "met" "met" s_met f fd)
    (DU:Dn K mg "refuse_unless_both_free" zq ["points","one","other"] fU fdU) (GU:FnOk P w K mg base CX 4 fU fdU ["points","one","other"] spFreeBoth)
    (DB:Dn K mg "block_places" yg ["points","blocks"] fB fdB) (GB:FnOk P w K mg base CX 1 fB fdB ["points","blocks"] spBlockPlaces)
    (DY:Dn K mg "blocks_by" yw ["labels"] fY fdY) (GY:FnOk P w K mg base CX 1 fY fdY ["labels"] (spBlocksByP K)):FnOk P w K mg base CX 5 f fd ["points","one","other"] spMet:=by
  refine F.okX zqx (fun vs H Q E h=>?_) (fun cdv A outer s H vs Q E hr h=>?_)
  · obtain ⟨p,q,w1,w2,rfl,_⟩:=h
    rfl
  · obtain ⟨p1,p2,w1,w2,rfl,hl,L1,L2,hz,f1,f2,q⟩:=h
    have hr1:=hr.mono (show 1≤4 by decide)
    refine ⟨_,zd (zm (zh GU hr rfl DU.at_ DU.fn.kp DU.bd .nil (passN hX) (za (pv 0) (za (pv 1) (za (pv 2) zc)))))
      (zg (zt (zh GY hr1 rfl DY.at_ DY.fn.kp DY.bd .nil (passN hX) (za
        (zit rfl (by rfl) B.list (by rfl) B.zip (za (zh GB hr1 rfl DB.at_ DB.fn.kp DB.bd .nil (passN hX) (za (pv 0) (za (pv 1) zc))) (za (zh GB hr1 rfl DB.at_ DB.fn.kp DB.bd .nil (passN hX) (za (pv 0) (za (pv 2) zc))) zc))) zc)))),?_⟩
    refine ⟨_,rfl,_,rfl,_,rfl,p1,p2,w1,w2,rfl,hl,L1,L2,hz,f1,f2,fun H1 s1=>?_⟩
    refine ⟨_,rfl,_,rfl,p1,w1,rfl,L1.mono s1,by omega,fun l1 H2 N2=>?_⟩
    have s02:=s1.trans N2.same
    rw [hl]
    refine ⟨_,rfl,_,rfl,p2,w2,rfl,L2.mono s02,by omega,fun l2 H3 N3=>?_⟩
    have s03:=s02.trans N3.same
    have c1:=zx w1
    have c2:=zx w2
    have hlc:(canon w1).length=(canon w2).length:=by omega
    refine ⟨l1,l2,iv (zl (canon w1)),iv (zl (canon w2)),rfl,SqL.of (N3.same _ _ N2.at_),SqL.of N3.at_,by simp [hlc],by simp;omega,fun L ts H4 s4 hL nL nd hLL hP=>?_⟩
    rw [zqq] at hP
    refine ⟨L,ts,meetW (canon w1) (canon w2),rfl,SqL.of hLL,y9 (fun t p e=>e.2) (zdy hP),?_,fun r H5 N5=>?_⟩
    · rw [wq hlc];omega
    have eg:gather (canon (meetW (canon w1) (canon w2)))=gather (meetW (canon w1) (canon w2)):=zha _
    rw [← eg] at N5
    exact q r (canon (meetW (canon w1) (canon w2))) H5 (zim hl _ (wg _).2 (wg _).1) (zd3 hl f1 f2) (N5.before (s03.trans s4))
end
end NCP
namespace NCP
open PySem L2 NC
section
variable {CX:CXT} {P:Program} {w:World} {K:PySem.W.Frag} {mg:Str→Option Value} {base:Heap}
theorem zi9:FnScope ["labels","kept","gone"] ["labels","kept","gone"] (defScope xu):=⟨rfl,rfl,rfl,by decide +kernel,rfl,by decide +kernel,by decide +kernel⟩
def eMadeOne:TE:=fun τ H Q=>∃ m k g:Nat,τ=[some (.int m),some (.int k),some (.int g)]∧Q (.int ((if m=g then k else m:Nat):Int)) H
theorem zja {f:Addr} {fd:FuncData} (B:GBlt mg) (F:Fun K "made_one" "made_one" xu f fd):FnOk P w K mg base CX 1 f fd ["labels","kept","gone"] (spMadeOne K):=by
  refine F.okX zi9 (fun vs H Q E h=>?_) (fun cdv A outer s H vs Q E hr h=>?_)
  · obtain ⟨a,wd,k,g,rfl,_⟩:=h
    rfl
  · obtain ⟨a,wd,kp,gn,rfl,hS,hz,q⟩:=h
    refine ⟨_,zg (zt (wc (g:=gName 0) (te:=eMadeOne) rfl (cpS (N:=["label","kept","gone"]) (js:=[none,some 1,some 2]) (defScope xu) ["labels","kept","gone"] (by decide +kernel)) (y2 (pv 0))
        (by intros;exact zy (i:=0) zqp rfl (Or.inl rfl) (Or.inr rfl))
        (by
          intros
          refine (znf (zv op_eq (pv 0) (pv 2) (nomark _)) (pv 1) (pv 0)).imp fun τ H Q h=>?_
          obtain ⟨m,k,g,rfl,q⟩:=h
          refine ⟨_,rfl,_,rfl,rfl,_,rfl,?_⟩
          rw [zhw]
          refine iteD (fun h=>⟨_,rfl,?_⟩) (fun h=>⟨_,rfl,?_⟩)
          · rw [if_pos h] at q;exact q
          · rw [if_neg h] at q;exact q))),?_⟩
    refine ⟨_,rfl,a,rfl,⟨_,hS⟩,fun pl hpl=>?_⟩
    refine vf (K:=K) (xs:=iv (zl wd)) (Hs:=H) (fun i=>.int ((if wd.getD i 0=gn then kp else wd.getD i 0:Nat):Int)) (fun τ=>∃ v,τ=[v,some (.int kp),some (.int gn)]) (Same.refl _) hpl hS (by rw [List.length_map,List.length_map];exact yf hz) ⟨_,rfl⟩ ?_ ?_
    · rintro i x τ H6 R hi' ⟨v,rfl⟩ s6 k
      obtain ⟨m,hm,rfl⟩:=vy hi'
      have e:wd.getD i 0=m:=by rw [List.getD_eq_getElem?_getD,hm];rfl
      rw [e] at k
      exact ⟨m,kp,gn,rfl,k _ _ ⟨_,rfl⟩ (Same.refl _)⟩
    · intro H6 s6 h6
      rw [List.length_map,List.length_map,zpn] at h6
      exact q pl H6 ⟨s6,hpl,h6⟩
end
end NCP
namespace NCP
open PySem L2 NC
section
variable {CX:CXT} {P:Program} {w:World} {K:PySem.W.Frag} {mg:Str→Option Value} {base:Heap}
theorem sc_made_free:FnScope ["labels","found"] ["labels"] (defScope wl):=⟨rfl,rfl,rfl,by decide +kernel,rfl,by decide +kernel,by decide +kernel⟩
theorem zic {f fF fO:Addr} {fd fdF fdO:FuncData} (hX:CxNo CX) (F:Fun K "made_free" "made_free" wl f fd)
    (DF:Dn K mg "first_crossing" yn ["labels"] fF fdF) (GF:FnOk P w K mg base CX 1 fF fdF ["labels"] (spFirstCrossing K))
    (DO:Dn K mg "made_one" xu ["labels","kept","gone"] fO fdO) (GO:FnOk P w K mg base CX 1 fO fdO ["labels","kept","gone"] (spMadeOne K)):FnOk P w K mg base CX 2 f fd ["labels"] spMadeFree:=by
  refine F.okX sc_made_free (fun vs H Q E h=>?_) (fun cdv A outer s H vs Q E hr h=>?_)
  · obtain ⟨a,L,Pr,rfl,_⟩:=h
    rfl
  · obtain ⟨a,L0,Pr,rfl,ha,hz,pr0,hstep,q⟩:=h
    have nd:=sc_made_free.nd
    refine ⟨_,zd (zk (i:=1) nd rfl (Or.inl rfl) (zh GF hr rfl DF.at_ DF.fn.kp DF.bd .nil (passN hX) (za (pv 0) zc)))
      (zd (zgz PassesOwn.never (zv zde (pv 1) zah (nomark _))
        (zd (zk (i:=0) nd rfl (Or.inl rfl) (zh GO hr rfl DO.at_ DO.fn.kp DO.bd .nil (passN hX) (za (pv 0) (za (pe_ix zw (pv 0) (pe_ix zaj (pv 1) zf (fun _ _=>rfl)) (fun _ _=>rfl)) (za (pe_ix zw (pv 0) (pe_ix zaj (pv 1) zf (fun _ _=>rfl)) (fun _ _=>rfl)) zc)))))
        (zg (zk (i:=1) nd rfl (Or.inl rfl) (zh GF hr rfl DF.at_ DF.fn.kp DF.bd .nil (passN hX) (za (pv 0) zc))))))
      (zg (zt (pv 0)))),?_⟩
    have W:∃ W:Nat→St→Hp→Prop,W=fun m σ H2=>∃ (l:Addr) (L:List Nat) (fv:V),σ=[some (.ref l),some fv]∧Same H H2∧H2 l=some (.lst (iv (zl L)))∧Pr L∧L.length=L0.length∧m=(marks L).length ∧
        ((fv=.non∧Free L)∨∃ (t:Addr) (a b c d:Nat),fv=.ref t∧IsCross L a b c d∧H2 t=some (.tup [.int a,.int b,.int c,.int d])):=⟨_,rfl⟩
    obtain ⟨W,hW⟩:=W
    have look:∀ (l:Addr) (L:List Nat) (H2:Hp) (R:V→Hp→Prop),Same H H2→H2 l=some (.lst (iv (zl L)))→Pr L→L.length=L0.length→(∀ fv H3,W (marks L).length [some (.ref l),some fv] H3→R fv H3) →
        ∀ E2:XK,spFirstCrossing K ([V.ref l]++[]) H2 R E2:=by
      intro l L H2 R s2 h2 pr hl hR E2
      refine ⟨l,L,rfl,SqL.of h2,by omega,fun hf H3 s3=>hR _ _ ?_,fun t a b c d H3 x s3 _ h3=>hR _ _ ?_⟩
      · rw [hW];exact ⟨l,L,_,rfl,s2.trans s3,s3 _ _ h2,pr,hl,rfl,.inl ⟨rfl,hf⟩⟩
      · rw [hW];exact ⟨l,L,_,rfl,s2.trans s3,s3 _ _ h2,pr,hl,rfl,.inr ⟨t,a,b,c,d,rfl,x,h3⟩⟩
    refine ⟨_,rfl,?_⟩
    dsimp only [tNil]
    refine look a L0 H _ (Same.refl _) ha pr0 rfl (fun fv H3 hw=>?_) _
    refine ⟨W,⟨_,hw⟩,?_⟩
    intro m σ H4 hw4
    rw [hW] at hw4
    obtain ⟨l,L,fv,rfl,s4,h4,pr,hl,rfl,hc⟩:=hw4
    rcases hc with ⟨rfl,hf⟩ | ⟨t,xa,xb,xc,xd,rfl,x,ht⟩
    · refine ⟨_,rfl,rfl,_,rfl,iteF ?_⟩
      exact ⟨_,rfl,q l L H4 pr hf hl s4 h4⟩
    · refine ⟨_,rfl,rfl,_,rfl,iteT ?_⟩
      obtain ⟨x1,x2,x3,x4,x5,x6,x7⟩:=id x
      have hm:=(zc3 (w:=L) (v:=L) ⟨Below.refl L,Below.refl L,fun y _ h _=>h⟩ x).2
      refine ⟨fun σ' H'=>∃ m',m'<(marks L).length∧W m' σ' H',fun σ' H' h=>h,?_⟩
      refine ⟨_,rfl,_,rfl,_,rfl,t,_,0,.int xa,rfl,rfl,SqT.of ht,rfl,l,_,_,_,rfl,rfl,SqL.of h4,at_iv (by omega),_,rfl,_,rfl,t,_,1,.int xb,rfl,rfl,SqT.of ht,rfl,l,_,_,_,rfl,rfl,SqL.of h4,at_iv (by omega),?_⟩
      refine ⟨l,L,_,_,rfl,SqL.of h4,by omega,fun l5 H5 N5=>?_⟩
      refine ⟨_,rfl,?_⟩
      dsimp only [tNil]
      exact look l5 _ H5 _ (s4.trans N5.same) N5.at_ (hstep L xa xb xc xd pr x) (by rw [za7];exact hl) (fun fv H6 hw=>⟨_,hm,hw⟩) _
end
end NCP
namespace NCP
open PySem L2 NC
section
variable {CX:CXT} {P:Program} {w:World} {K:PySem.W.Frag} {mg:Str→Option Value} {base:Heap}
theorem sc_joined:FnScope ["points","one","other","labels","block","point"] ["points","one","other"] (defScope w6):=⟨rfl,rfl,rfl,by decide +kernel,rfl,by decide +kernel,by decide +kernel⟩
theorem zna {f fU fB fO fM fY:Addr} {fd fdU fdB fdO fdM fdY:FuncData} (hX:CxNo CX) (B:GBlt mg) (F:Fun K "joined" "joined" w6 f fd)
    (DU:Dn K mg "refuse_unless_both_free" zq ["points","one","other"] fU fdU) (GU:FnOk P w K mg base CX 4 fU fdU ["points","one","other"] spFreeBoth)
    (DB:Dn K mg "block_places" yg ["points","blocks"] fB fdB) (GB:FnOk P w K mg base CX 1 fB fdB ["points","blocks"] spBlockPlaces)
    (DO:Dn K mg "made_one" xu ["labels","kept","gone"] fO fdO) (GO:FnOk P w K mg base CX 1 fO fdO ["labels","kept","gone"] (spMadeOne K))
    (DM:Dn K mg "made_free" wl ["labels"] fM fdM) (GM:FnOk P w K mg base CX 2 fM fdM ["labels"] spMadeFree)
    (DY:Dn K mg "blocks_by" yw ["labels"] fY fdY) (GY:FnOk P w K mg base CX 1 fY fdY ["labels"] (spBlocksByI K)):FnOk P w K mg base CX 5 f fd ["points","one","other"] spJoined:=by
  refine F.okX sc_joined (fun vs H Q E h=>?_) (fun cdv A outer s H vs Q E hr h=>?_)
  · obtain ⟨p,q,w1,w2,rfl,_⟩:=h
    rfl
  · obtain ⟨p1,p2,w1,w2,rfl,hl,L1,L2,hz,f1,f2,q⟩:=h
    have nd:=sc_joined.nd
    have hr1:=hr.mono (show 1≤4 by decide)
    have hr2:=hr.mono (show 2≤4 by decide)
    obtain ⟨as,hp,hbs⟩:=id L2
    have hal:=yk hbs
    have c1:=zx w1
    refine ⟨_,zd (zm (zh GU hr rfl DU.at_ DU.fn.kp DU.bd .nil (passN hX) (za (pv 0) (za (pv 1) (za (pv 2) zc)))))
      (zd (zk (i:=3) nd rfl (Or.inl rfl) (zh GB hr1 rfl DB.at_ DB.fn.kp DB.bd .nil (passN hX) (za (pv 0) (za (pv 1) zc))))
      (zd (yt PassesOwn.never rfl (y2 (pv 2)) (zy (i:=4) nd rfl (Or.inl rfl))
        (zg (yt PassesOwn.never rfl (y2 (pv 4)) (zy (i:=5) nd rfl (Or.inl rfl))
          (zg (zk (i:=3) nd rfl (Or.inl rfl) (zh GO hr1 rfl DO.at_ DO.fn.kp DO.bd .nil (passN hX) (za (pv 3) (za (pe_ix zw (pv 3) (pe_ix zw (pv 4) zf (fun _ _=>rfl)) (fun _ _=>rfl)) (za (pe_ix zw (pv 3) (pv 5) (fun _ _=>rfl)) zc)))))))))
      (zg (zt (zh GY hr1 rfl DY.at_ DY.fn.kp DY.bd .nil (passN hX) (za (zh GM hr2 rfl DM.at_ DM.fn.kp DM.bd .nil (passN hX) (za (pv 3) zc)) zc)))))),?_⟩
    refine ⟨_,rfl,_,rfl,_,rfl,p1,p2,w1,w2,rfl,hl,L1,L2,hz,f1,f2,fun H1 s1=>?_⟩
    refine ⟨_,rfl,_,rfl,p1,w1,rfl,L1.mono s1,by omega,fun l1 H2 N2=>?_⟩
    have s02:=s1.trans N2.same
    have hl':(canon w1).length=w2.length:=by omega
    refine ⟨_,rfl,p2,rfl,⟨_,SqL.of (s02 _ _ hp)⟩,vk (K:=K) (a:=p2) (xs:=as.map V.ref)
      (fun i σ H3=>∃ (l:Addr) (v4 v5:Option V) (L:List Nat),σ=[some (.int w1.length),some (.ref p1),some (.ref p2),some (.ref l),v4,v5]∧Same H H3∧H3 l=some (.lst (iv (zl L)))∧Joining (canon w1) w2 i 0 L)
      ⟨l1,none,none,_,rfl,s02,N2.at_,zgf _ _⟩ (fun i σ H3 _ ⟨_,_,_,_,_,s,_⟩=>SqL.of (s _ _ hp)) ?_ ?_⟩
    · rintro i x σ H3 hi ⟨l,v4,v5,L,rfl,s3,h3,hJ⟩
      obtain ⟨a,ha,rfl⟩:=we hi
      obtain ⟨b',hb',hab⟩:=yd hbs ha
      obtain ⟨b,hb,rfl⟩:=zce hb'
      have hbm:=List.mem_of_getElem? hb
      have hne:=xt hbm
      have hb0:(iv (zl b))[0]?=some (.int (b.headD 0:Nat)):=by
        cases b with
        | nil=>exact absurd rfl hne
        | cons y r=>rfl
      refine ⟨_,rfl,a,rfl,⟨_,SqL.of (s3 _ _ hab)⟩,vk (K:=K) (a:=a) (xs:=iv (zl b))
        (fun k σ H4=>∃ (l:Addr) (v5:Option V) (L:List Nat),σ=[some (.int w1.length),some (.ref p1),some (.ref p2),some (.ref l),some (.ref a),v5]∧Same H H4∧H4 l=some (.lst (iv (zl L)))∧Joining (canon w1) w2 i k L)
        ⟨l,v5,L,rfl,s3,h3,hJ⟩ (fun k σ H4 _ ⟨_,_,_,_,s,_⟩=>SqL.of (s _ _ hab)) ?_ ?_⟩
      · rintro k x σ H4 hk ⟨l,v5,L,rfl,s4,h4,hJ⟩
        obtain ⟨pt,hpt,rfl⟩:=vy hk
        have lL:=zam hJ
        have g1:=yr hbm (List.mem_of_getElem? hpt)
        have g2:=yr hbm (zc2 hne)
        refine ⟨_,rfl,_,rfl,_,rfl,a,_,0,_,rfl,rfl,SqL.of (s4 _ _ hab),xq (j:=0) hb0,l,_,_,_,rfl,rfl,SqL.of h4,at_iv (by omega),_,rfl,_,rfl,l,_,_,_,rfl,rfl,SqL.of h4,at_iv (by omega),?_⟩
        refine ⟨l,L,_,_,rfl,SqL.of h4,by omega,fun l5 H5 N5=>?_⟩
        exact ⟨l5,_,_,rfl,s4.trans N5.same,N5.at_,zg9 hl' hJ hb hpt⟩
      · rintro σ H4 ⟨l,v5,L,rfl,s4,h4,hJ⟩
        rw [List.length_map,List.length_map] at hJ
        exact ⟨l,_,_,L,rfl,s4,h4,zg8 hJ hb⟩
    · rintro σ H3 ⟨l,v4,v5,L,rfl,s3,h3,hJ⟩
      rw [List.length_map,hal,List.length_map] at hJ
      have lL:=zam hJ
      refine ⟨_,rfl,l,L,Freeing (canon w1) w2,rfl,h3,by omega,zkb hl' hJ,fun L a b c d hF x=>(zc3 hF x).1,fun r u H4 hF hfu hul s4 h4=>?_⟩
      refine ⟨r,u,rfl,SqL.of h4,by omega,fun p H5 N5=>?_⟩
      exact q p u H5 (zil hF hfu).uncanon (N5.before (s3.trans s4))
end
end NCP
namespace NCP
open PySem L2 NC
section
variable {CX:CXT} {P:Program} {w:World} {K:PySem.W.Frag} {mg:Str→Option Value} {base:Heap}
theorem zfk:FnScope ["block","places"] ["block","places"] (defScope y4):=⟨rfl,rfl,rfl,by decide +kernel,rfl,by decide +kernel,by decide +kernel⟩
def eWithin (p q:Addr) (b u:List Nat):TE:=fun τ H Q=>∃ x:Nat,τ=[some (.int x),some (.ref q),some (.ref p)]∧H p=some (.lst (iv (zl b)))∧H q=some (.lst (iv (zl u)))∧x∈b∧Q (.bl (decide (u.getD x 0=u.getD (b.headD 0) 0))) H
theorem zfl {f:Addr} {fd:FuncData} (B:GBlt mg) (F:Fun K "lies_within" "lies_within" y4 f fd):FnOk P w K mg base CX 1 f fd ["block","places"] spWithin:=by
  refine F.okX zfk (fun vs H Q E h=>?_) (fun cdv A outer s H vs Q E hr h=>?_)
  · obtain ⟨p,q,b,u,rfl,_⟩:=h
    rfl
  · obtain ⟨p,q',b,u,rfl,hp,hq,hz,hlt,q⟩:=h
    refine ⟨_,zg (zt (zp (zac rfl) (by rfl) B.all PyProof.Rows.boot_all (za
      (wc (g:=gName 0) (te:=eWithin p q' b u) rfl (cpS (N:=["point","places","block"]) (js:=[none,some 1,some 0]) (defScope y4) ["block","places"] (by decide +kernel)) (y2 (pv 0))
        (by intros;exact zy (i:=0) nd_pp rfl (Or.inl rfl) (Or.inr rfl))
        (by
          intros
          refine (x8 op_eq (pe_ix zw (pv 1) (pv 0) (fun _ _=>rfl)) (pe_ix zw (pv 1) (pe_ix zw (pv 2) zf (fun _ _=>rfl)) (fun _ _=>rfl)) (nomark _)).imp fun τ H Q h=>?_
          obtain ⟨x,rfl,hp,hq,hx,q⟩:=h
          have hne:b≠[]:=fun z=>by rw [z] at hx;simp at hx
          have hb0:(iv (zl b))[0]?=some (.int (b.headD 0:Nat)):=by
            cases b with
            | nil=>exact absurd rfl hne
            | cons y r=>rfl
          rw [← zhw] at q
          exact ⟨_,rfl,_,rfl,q',_,_,_,rfl,rfl,SqL.of hq,at_iv (hlt x hx),_,rfl,_,rfl,p,_,0,_,rfl,rfl,SqL.of hp,xq (j:=0) hb0,q',_,_,_,rfl,rfl,SqL.of hq,at_iv (hlt _ (zc2 hne)),rfl,q⟩)) zc))),?_⟩
    refine ⟨_,rfl,p,rfl,⟨_,SqL.of hp⟩,fun pl hpl=>?_⟩
    refine vf (K:=K) (xs:=iv (zl b)) (Hs:=H) (fun i=>.bl (decide (u.getD (b.getD i 0) 0=u.getD (b.headD 0) 0))) (fun τ=>∃ v,τ=[v,some (.ref q'),some (.ref p)]) (Same.refl _) hpl (SqL.of hp) (by rw [List.length_map,List.length_map];exact yf hz) ⟨_,rfl⟩ ?_ ?_
    · rintro i x τ H2 R hi ⟨v,rfl⟩ s2 k
      obtain ⟨pt,hpt,rfl⟩:=vy hi
      have e:b.getD i 0=pt:=by rw [List.getD_eq_getElem?_getD,hpt];rfl
      rw [e] at k
      exact ⟨pt,rfl,s2 _ _ hp,s2 _ _ hq,List.mem_of_getElem? hpt,k _ _ ⟨_,rfl⟩ (Same.refl _)⟩
    · intro H2 s2 h2
      refine ⟨pl,(List.range (iv (zl b)).length).map fun i=>decide (u.getD (b.getD i 0) 0=u.getD (b.headD 0) 0),rfl,SqL.of (by rw [h2,List.map_map];rfl),?_⟩
      have eall:((List.range (iv (zl b)).length).map fun i=>decide (u.getD (b.getD i 0) 0=u.getD (b.headD 0) 0)).all id=decide (∀ x∈b,u.getD x 0=u.getD (b.headD 0) 0):=by
        rw [Bool.eq_iff_iff,decide_eq_true_iff,List.all_map,List.all_eq_true]
        simp only [List.mem_range,Function.comp,id,decide_eq_true_eq,List.length_map]
        constructor
        · intro h x hx
          obtain ⟨i,hi,e⟩:=List.mem_iff_getElem.mp hx
          have:=h i hi
          rw [List.getD_eq_getElem?_getD (l:=b),List.getElem?_eq_getElem hi] at this
          rw [← e];exact this
        · intro h i hi
          refine h _ ?_
          rw [List.getD_eq_getElem?_getD,List.getElem?_eq_getElem hi]
          exact List.getElem_mem _
      rw [eall]
      exact q H2 s2
end
end NCP
namespace NCP
open PySem L2 NC
section
variable {CX:CXT} {P:Program} {w:World} {K:PySem.W.Frag} {mg:Str→Option Value} {base:Heap}
abbrev nBelow:List Str:=["points","one","other","places"]
theorem sc_below:FnScope nBelow ["points","one","other"] (defScope va):=⟨rfl,rfl,rfl,by decide +kernel,rfl,by decide +kernel,by decide +kernel⟩
def eBlockIn (l:Addr) (u:List Nat):TE:=fun τ H Q=>∃ (a:Addr) (b:List Nat),τ=[some (.ref a),some (.ref l)]∧H a=some (.lst (iv (zl b)))∧H l=some (.lst (iv (zl u)))∧b.length≤1000∧(∀ x∈b,x<u.length)∧∀ H',Same H H'→Q (.bl (decide (∀ x∈b,u.getD x 0=u.getD (b.headD 0) 0))) H'
theorem zou {f fN fB fW:Addr} {fd fdN fdB fdW:FuncData} (hX:CxNo CX) (B:GBlt mg) (F:Fun K "below" "below" va f fd)
    (DN:Dn K mg "refuse_no_parting" zr ["points","blocks"] fN fdN) (GN:FnOk P w K mg base CX 3 fN fdN ["points","blocks"] spNoRefuse)
    (DB:Dn K mg "block_places" yg ["points","blocks"] fB fdB) (GB:FnOk P w K mg base CX 1 fB fdB ["points","blocks"] spBlockPlaces)
    (DW:Dn K mg "lies_within" y4 ["block","places"] fW fdW) (GW:FnOk P w K mg base CX 1 fW fdW ["block","places"] spWithin):FnOk P w K mg base CX 4 f fd ["points","one","other"] spBelow:=by
  refine F.okX sc_below (fun vs H Q E h=>?_) (fun cdv A outer s H vs Q E hr h=>?_)
  · obtain ⟨p,q,w1,w2,rfl,_⟩:=h
    rfl
  · obtain ⟨p,p2,w1,w2,rfl,hl12,hL1,hL2,hz,q⟩:=h
    have nd:=sc_below.nd
    have hr1:=hr.mono (show 1≤3 by decide)
    have hz1:w1.length≤1000:=Nat.le_trans hz (by decide)
    have hz2:w2.length≤1000:=by omega
    obtain ⟨as,hp,hbs⟩:=id hL1
    have hal:=yk hbs
    have hcl:=zx w2
    refine ⟨_,zd (zm (zh GN hr rfl DN.at_ DN.fn.kp DN.bd .nil (passN hX) (za (pv 0) (za (pv 1) zc))))
      (zd (zm (zh GN hr rfl DN.at_ DN.fn.kp DN.bd .nil (passN hX) (za (pv 0) (za (pv 2) zc))))
      (zd (zk (i:=3) nd rfl (Or.inr rfl) (zh GB hr1 rfl DB.at_ DB.fn.kp DB.bd .nil (passN hX) (za (pv 0) (za (pv 2) zc))))
      (zg (zt (zp (zac rfl) (by rfl) B.all PyProof.Rows.boot_all (za
        (wc (g:=gName 0) (te:=fun τ H Q=>∃ l,eBlockIn l (canon w2) τ H Q) rfl (cpS (N:=["block","places"]) (js:=[none,some 3]) (defScope va) nBelow (by decide +kernel)) (y2 (pv 1))
          (by intros;exact zy (i:=0) nd_bp rfl (Or.inl rfl) (Or.inr rfl))
          (by
            intros
            refine (zh GW hr1 (by rfl) DW.at_ DW.fn.kp DW.bd .nil (passN hX) (za (pv 0) (za (pv 1) zc))).imp fun τ H Q h=>?_
            obtain ⟨l,a,b,rfl,ha,hl,hbz,hlt,q⟩:=h
            exact ⟨_,rfl,_,rfl,a,l,b,_,rfl,ha,hl,hbz,hlt,q⟩)) zc)))))),?_⟩
    refine ⟨_,rfl,_,rfl,_,p,_,rfl,hL1,Nat.le_trans (wj w1) hz1,by rw [w4];omega,fun b hb=>Nat.le_trans (vj w1 b hb) hz1,vq hz,fun H1 s1=>?_⟩
    rw [hl12]
    refine ⟨_,rfl,_,rfl,_,p2,_,rfl,hL2.mono s1,Nat.le_trans (wj w2) hz2,by rw [w4];omega,fun b hb=>Nat.le_trans (vj w2 b hb) hz2,vq (by omega),fun H2 s2=>?_⟩
    have s02:=s1.trans s2
    refine ⟨_,rfl,_,rfl,p2,w2,rfl,hL2.mono s02,hz2,fun l H3 N3=>?_⟩
    have s03:=s02.trans N3.same
    refine ⟨_,rfl,p,rfl,⟨_,SqL.of (s03 _ _ hp)⟩,fun pl hpl=>?_⟩
    refine vf (K:=K) (xs:=as.map V.ref) (Hs:=H3) (fun i=>.bl (decide (∀ x∈(gather w1).getD i [],(canon w2).getD x 0=(canon w2).getD (((gather w1).getD i []).headD 0) 0))) (fun τ=>∃ v,τ=[v,some (.ref l)]) (Same.refl _) hpl (SqL.of (s03 _ _ hp)) (by rw [List.length_map,hal];exact yf (Nat.le_trans (wj w1) hz1)) ⟨_,rfl⟩ ?_ ?_
    · rintro i x τ H4 R hi ⟨v,rfl⟩ s4 k
      obtain ⟨a,ha,rfl⟩:=we hi
      obtain ⟨b',hb',hab⟩:=yd hbs ha
      obtain ⟨b,hb,rfl⟩:=zce hb'
      have e:(gather w1).getD i []=b:=by rw [List.getD_eq_getElem?_getD,hb];rfl
      rw [e] at k
      have hbz:b.length≤1000:=by
        have:=vj w1 (zl b) (List.mem_of_getElem? hb')
        rw [List.length_map] at this
        omega
      exact ⟨l,a,b,rfl,(s03.trans s4) _ _ hab,s4 _ _ N3.at_,hbz,fun x hx=>by rw [hcl,← hl12];exact yr (List.mem_of_getElem? hb) hx,fun H' s'=>k _ _ ⟨_,rfl⟩ s'⟩
    · intro H4 s4 h4
      refine ⟨pl,(List.range (as.map V.ref).length).map fun i=>decide (∀ x∈(gather w1).getD i [],(canon w2).getD x 0=(canon w2).getD (((gather w1).getD i []).headD 0) 0),rfl,SqL.of (by rw [h4,List.map_map];rfl),?_⟩
      refine q _ H4 ?_ (s03.trans s4)
      rw [zd2 hl12,List.all_map,List.all_eq_true]
      rw [List.length_map,hal,List.length_map]
      simp only [List.mem_range,Function.comp,id,decide_eq_true_eq]
      constructor
      · intro h b hb p hp
        obtain ⟨i,hi,e⟩:=List.mem_iff_getElem.mp hb
        have:=h i hi
        rw [List.getD_eq_getElem?_getD (l:=gather w1),List.getElem?_eq_getElem hi] at this
        rw [← e] at hp ⊢
        exact this p hp
      · intro h i hi x hx
        rw [List.getD_eq_getElem?_getD (l:=gather w1),List.getElem?_eq_getElem hi] at hx ⊢
        exact h _ (List.getElem_mem _) x hx
end
end NCP
namespace NCP
open PySem L2 NC
section
variable {CX:CXT} {P:Program} {w:World} {K:PySem.W.Frag} {mg:Str→Option Value} {base:Heap}
theorem zfm:FnScope ["block"] ["block"] (defScope y8):=⟨rfl,rfl,rfl,by decide +kernel,rfl,by decide +kernel,by decide +kernel⟩
theorem nd_p1:(["point"]:List Str).Nodup:=by decide +kernel
def eFig:TE:=fun τ H Q=>∃ p:Nat,τ=[some (.int p)]∧p<10∧Q (.str (mk [dg p])) H
theorem zpy:FIG.length≤sizeLine:=by decide +kernel
theorem zfn {f:Addr} {fd:FuncData} (hf:∃ t,mg "FIGURES"=some (.str FIG t)) (F:Fun K "block_shown" "block_shown" y8 f fd):FnOk P w K mg base CX 1 f fd ["block"] spBlockShown:=by
  refine F.okX zfm (fun vs H Q E h=>?_) (fun cdv A outer s H vs Q E hr h=>?_)
  · obtain ⟨a,b,rfl,_⟩:=h
    rfl
  · obtain ⟨a,b,rfl,ha,hz,hb,q⟩:=h
    obtain ⟨t,hmf⟩:=hf
    refine ⟨_,zg (zt (pe_bm PySem.F.plainAttrs_str PySem.F.slot_str_join PySem.F.type_str_join zjr zgy (za
      (wc (g:=gName 0) (te:=eFig) rfl (cpS (N:=["point"]) (js:=[none]) (defScope y8) ["block"] (by decide +kernel)) (y2 (pv 0))
        (by intros;exact zy (i:=0) nd_p1 rfl (Or.inl rfl) (Or.inr rfl))
        (by
          intros
          refine (pe_ix zp9 (vz (v:=.str FIG) (by rfl) hmf ⟨t,rfl⟩) (pv 0) (fun _ _=>rfl)).imp fun τ H Q h=>?_
          obtain ⟨p,rfl,hp,q⟩:=h
          exact ⟨_,rfl,FIG,_,dg p,rfl,rfl,zpy,zqv p hp,q⟩)) zc))),?_⟩
    refine ⟨rfl,_,rfl,a,rfl,⟨_,SqL.of ha⟩,fun pl hpl=>?_⟩
    have hlt:∀ i,i<b.length→b.getD i 0<10:=fun i hi=>hb _ (List.mem_of_getElem? (getD_some hi))
    refine vf (K:=K) (xs:=iv (zl b)) (Hs:=H) (fun i=>.str (mk [dg (b.getD i 0)])) (fun τ=>∃ v,τ=[v]) (Same.refl _) hpl (SqL.of ha) (by rw [List.length_map,List.length_map];exact yf (by omega)) ⟨_,rfl⟩ ?_ ?_
    · rintro i x τ H2 R hi ⟨v,rfl⟩ s2 k
      obtain ⟨m,hm,rfl⟩:=vy hi
      have e:b.getD i 0=m:=by rw [List.getD_eq_getElem?_getD,hm];rfl
      rw [e] at k
      exact ⟨m,rfl,hb _ (List.mem_of_getElem? hm),k _ _ ⟨_,rfl⟩ (Same.refl _)⟩
    · intro H2 s2 h2
      have e:(List.range (iv (zl b)).length).map (fun i=>V.str (mk [dg (b.getD i 0)]))=((b.map dg).map fun c=>mk [c]).map V.str:=by
        rw [List.length_map,List.length_map]
        apply List.ext_getElem?
        intro i
        rw [List.getElem?_map,List.getElem?_map,List.getElem?_map,List.getElem?_map]
        by_cases hi:i<b.length
        · rw [List.getElem?_range hi,getD_some hi];rfl
        · rw [List.getElem?_eq_none_iff.mpr (by simpa using hi),List.getElem?_eq_none_iff.mpr (by omega)];rfl
      rw [e] at h2
      refine ⟨mk [],pl,(b.map dg).map fun c=>mk [c],rfl,rfl,SqL.of h2,zjy ?_,?_⟩
      · have hs:∀ l:List Nat,((l.map fun c=>mk [c]).map (·.length)).sum=l.length:=by
          intro l
          induction l with
          | nil=>rfl
          | cons c l ih=>rw [List.map_cons,List.map_cons,List.sum_cons,ih,List.length_cons];show 1+l.length=_;omega
        rw [hs,List.length_map,List.length_map,List.length_map]
        show b.length+b.length * 0≤1000
        omega
      · rw [zex]
        exact q H2 s2
end
end NCP
namespace NCP
open PySem L2 NC
section
variable {CX:CXT} {P:Program} {w:World} {K:PySem.W.Frag} {mg:Str→Option Value} {base:Heap}
theorem zov:FnScope ["points","blocks"] ["points","blocks"] (defScope vb):=⟨rfl,rfl,rfl,by decide +kernel,rfl,by decide +kernel,by decide +kernel⟩
def eBlk:TE:=fun τ H Q=>∃ (a:Addr) (b:List Nat),τ=[some (.ref a)]∧H a=some (.lst (iv (zl b)))∧b.length≤100∧(∀ p∈b,p<10)∧∀ H',Same H H'→Q (.str (mk (b.map dg))) H'
theorem zow {f fN fB:Addr} {fd fdN fdB:FuncData} (hX:CxNo CX) (F:Fun K "shown" "shown" vb f fd)
    (DN:Dn K mg "refuse_no_parting" zr ["points","blocks"] fN fdN) (GN:FnOk P w K mg base CX 3 fN fdN ["points","blocks"] spNoRefuse)
    (DB:Dn K mg "block_shown" y8 ["block"] fB fdB) (GB:FnOk P w K mg base CX 1 fB fdB ["block"] spBlockShown):FnOk P w K mg base CX 4 f fd ["points","blocks"] spShown:=by
  refine F.okX zov (fun vs H Q E h=>?_) (fun cdv A outer s H vs Q E hr h=>?_)
  · obtain ⟨p,wd,rfl,_⟩:=h
    rfl
  · obtain ⟨p,wd,rfl,hL,hz,q⟩:=h
    have hr1:=hr.mono (show 1≤3 by decide)
    refine ⟨_,zd (zm (zh GN hr rfl DN.at_ DN.fn.kp DN.bd .nil (passN hX) (za (pv 0) (za (pv 1) zc))))
      (zg (zt (pe_bm PySem.F.plainAttrs_str PySem.F.slot_str_join PySem.F.type_str_join zjr zgy (za
        (wc (g:=gName 0) (te:=eBlk) rfl (cpS (N:=["block"]) (js:=[none]) (defScope vb) ["points","blocks"] (by decide +kernel)) (y2 (pv 1))
          (by intros;exact zy (i:=0) za4 rfl (Or.inl rfl) (Or.inr rfl))
          (by
            intros
            refine (zh GB hr1 (by rfl) DB.at_ DB.fn.kp DB.bd .nil (passN hX) (za (pv 0) zc)).imp fun τ H Q h=>?_
            obtain ⟨a,b,rfl,h1,h2,h3,q⟩:=h
            exact ⟨_,rfl,a,b,rfl,h1,h2,h3,q⟩)) zc)))),?_⟩
    have hz4:wd.length≤1000:=by omega
    refine ⟨_,rfl,_,rfl,_,p,_,rfl,hL,Nat.le_trans (wj wd) hz4,by rw [w4];omega,fun b hb=>Nat.le_trans (vj wd b hb) hz4,vq hz,fun H1 s1=>?_⟩
    obtain ⟨as,hp,hbs⟩:=hL.mono s1
    have hal:=yk hbs
    have hbl:=wj wd
    refine ⟨rfl,_,rfl,p,rfl,⟨_,SqL.of hp⟩,fun pl hpl=>?_⟩
    have hgl:as.length=(gather wd).length:=by rw [hal,List.length_map]
    refine vf (K:=K) (xs:=as.map V.ref) (Hs:=H1) (fun i=>.str (mk (((gather wd).getD i []).map dg))) (fun τ=>∃ v,τ=[v]) (Same.refl _) hpl (SqL.of hp) (by rw [List.length_map,hal];exact yf (by omega)) ⟨_,rfl⟩ ?_ ?_
    · rintro i x τ H2 R hi ⟨v,rfl⟩ s2 k
      obtain ⟨a,ha,rfl⟩:=we hi
      obtain ⟨b',hb',hab⟩:=yd hbs ha
      obtain ⟨b,hb,rfl⟩:=zce hb'
      have hbm:=List.mem_of_getElem? hb
      have e:(gather wd).getD i []=b:=by rw [List.getD_eq_getElem?_getD,hb];rfl
      rw [e] at k
      have hl:=vj wd (zl b) (List.mem_of_getElem? hb')
      rw [List.length_map] at hl
      exact ⟨a,b,rfl,s2 _ _ hab,by omega,fun p hp=>by have:=yr hbm hp;omega,fun H' s'=>k _ _ ⟨_,rfl⟩ s'⟩
    · intro H2 s2 h2
      have e:(List.range (as.map V.ref).length).map (fun i=>V.str (mk (((gather wd).getD i []).map dg)))=(((gather wd).map fun b=>b.map dg).map mk).map V.str:=by
        rw [List.length_map,hgl]
        apply List.ext_getElem?
        intro i
        rw [List.getElem?_map,List.getElem?_map,List.getElem?_map,List.getElem?_map]
        by_cases hi:i<(gather wd).length
        · rw [List.getElem?_range hi,List.getElem?_eq_getElem hi]
          show some (V.str (mk (((gather wd).getD i []).map dg)))=some (V.str (mk ((gather wd)[i].map dg)))
          rw [List.getD_eq_getElem?_getD,List.getElem?_eq_getElem hi];rfl
        · rw [List.getElem?_eq_none_iff.mpr (by simpa using hi),List.getElem?_eq_none_iff.mpr (by omega)];rfl
      rw [e] at h2
      refine ⟨mk [124],pl,((gather wd).map fun b=>b.map dg).map mk,rfl,rfl,SqL.of h2,zjy ?_,?_⟩
      · have hs:∀ l:List (List Nat),(((l.map fun b=>b.map dg).map mk).map (·.length)).sum=l.flatten.length:=by
          intro l
          induction l with
          | nil=>rfl
          | cons c l ih =>
            rw [List.map_cons,List.map_cons,List.map_cons,List.sum_cons,ih,List.flatten_cons,List.length_append,zqu,List.length_map]
        have hfl:(gather wd).flatten.length=wd.length:=by rw [(zak wd).length_eq,List.length_range]
        rw [hs,hfl,List.length_map,List.length_map,← hgl,hal]
        show wd.length+(zb (gather wd)).length * 1≤1000
        omega
      · rw [zh0,← tl_jn]
        exact q H2 (s1.trans s2)
end
end NCP
namespace NCP
open PySem L2 NC
section
variable {CX:CXT} {P:Program} {w:World} {K:PySem.W.Frag} {mg:Str→Option Value} {base:Heap}
theorem zk4:FnScope ["script","k"] ["script","k"] (defScope yy):=⟨rfl,rfl,rfl,by decide +kernel,rfl,by decide +kernel,by decide +kernel⟩
theorem zk5 {f:Addr} {fd:FuncData} (F:Fun K "_law_cell_at" "_law_cell_at" yy f fd) (gLen:mg "len"=none):FnOk P w K mg base CX 1 f fd ["script","k"] (spCell K):=by
  refine F.okX zk4 (fun vs H Q E h=>?_) (fun cdv A outer s H vs Q E hr h=>?_)
  · obtain ⟨a,ns,k,rfl,_⟩:=h
    rfl
  · obtain ⟨a,ns,k,rfl,hS,q⟩:=h
    refine ⟨_,zd (ps_if (zv op_lt (pv 1) (zp ya (by rfl) gLen PySem.boot_len (za (pv 0) zc)) (nomark _)) (zg (zt (pe_ix zw (pv 0) (pv 1) (fun _ _=>rfl)))) zu) (zg (zt zf)),?_⟩
    refine ⟨_,rfl,_,rfl,a,_,rfl,.inl hS,_,_,rfl,rfl,_,rfl,?_⟩
    refine iteD (fun hk=>?_) (fun hk=>?_)
    · have hk:k<ns.length:=by simpa using hk
      refine ⟨_,rfl,_,rfl,a,_,_,.int ns[k],rfl,rfl,hS,xq (by rw [List.getElem?_map,List.getElem?_eq_getElem hk];rfl),?_⟩
      rw [List.getD_eq_getElem?_getD,List.getElem?_eq_getElem hk] at q
      exact q
    · have hk:¬ k<ns.length:=by simpa using hk
      rw [List.getD_eq_getElem?_getD,List.getElem?_eq_none_iff.mpr (by omega)] at q
      exact q
end
end NCP
namespace NCP
open PySem L2 NC
section
variable {CX:CXT} {P:Program} {w:World} {K:PySem.W.Frag} {mg:Str→Option Value} {base:Heap}
theorem sc_gathered:FnScope ["word","marks","found","point","mark"] ["word"] (defScope yz):=⟨rfl,rfl,rfl,by decide +kernel,rfl,by decide +kernel,by decide +kernel⟩
theorem zjb {f:Addr} {fd:FuncData} (B:GBlt mg) (F:Fun K "_law_gathered" "_law_gathered" yz f fd):FnOk P w K mg base CX 1 f fd ["word"] (spGathered K):=by
  refine F.okX sc_gathered (fun vs H Q E h=>?_) (fun cdv A outer s H vs Q E hr h=>?_)
  · obtain ⟨a,wd,rfl,_⟩:=h
    rfl
  · obtain ⟨a,wd,rfl,hS,hz,q⟩:=h
    have nd:=sc_gathered.nd
    refine ⟨_,zd (zk (i:=1) nd rfl (Or.inl rfl) (ym zc)) (zd (zk (i:=2) nd rfl (Or.inl rfl) (ym zc))
      (zd (yt PassesOwn.never rfl (za2 (by rfl) B.enum (za (pv 0) zc)) (zbs 3 4 rfl nd rfl rfl rfl rfl)
        (zd (wu (ps_if (zv zg5 (pv 4) (pv 1) (by with_unfolding_all rfl))
          (zd (zm (pe_bm PySem.F.plainAttrs_list PySem.F.slot_list_append PySem.F.type_list_append wa (pv 1) (za (pv 4) zc)))
            (zg (zm (pe_bm PySem.F.plainAttrs_list PySem.F.slot_list_append PySem.F.type_list_append wa (pv 2) (za (ym zc) zc))))) zu))
        (zg (zm (pe_bm PySem.F.plainAttrs_list PySem.F.slot_list_append PySem.F.type_list_append wa
          (pe_ix zw (pv 2) (pe_bm PySem.F.plainAttrs_list PySem.F.slot_list_index PySem.F.type_list_index znx (pv 1) (za (pv 4) zc)) (fun _ _=>rfl)) (za (pv 3) zc))))))
      (zg (zt (pv 2))))),?_⟩
    refine ⟨Nat.zero_le _,fun pm hm=>⟨Nat.zero_le _,fun pf hf1=>?_⟩⟩
    have hf:H pf=none:=(Same.new hm).free hf1
    have hne:pm≠pf:=zn ze hf1
    have s0:Same H (upd (upd H pm (.lst [])) pf (.lst [])):=(Same.new hm).upd hf
    refine ⟨_,rfl,a,rfl,⟨_,s0.seq hS⟩,zap (K:=K) (a:=a) (xs:=iv (zl wd))
      (fun i σ H2=>∃ v3 v4,σ=[some (.ref a),some (.ref pm),some (.ref pf),v3,v4]∧GMid H H2 pm pf (marks (wd.take i)) (gather (wd.take i)))
      ⟨none,none,rfl,⟨s0,hm,hf,hne,by rw [zi hne,ze];rfl,[],ze,.nil,List.nodup_nil,by simp,by simp⟩⟩ (fun i σ H2 _ ⟨_,_,_,g⟩=>g.same.seq hS) ?_ ?_⟩
    · rintro i x σ H2 t hi ⟨v3,v4,rfl,g⟩ ht
      obtain ⟨m,hmi,rfl⟩:=vy hi
      have hiw:i<wd.length:=(List.getElem?_eq_some_iff.mp hmi).1
      have et:=vh hmi
      have lt:(wd.take i).length=i:=by rw [List.length_take];omega
      have ml:(marks (wd.take i)).length≤1000:=Nat.le_trans (zoc _) (by rw [lt];omega)
      refine ⟨t,_,_,rfl,SqT.of ze,?_⟩
      have g:=g.later (Same.new (o:=.tup [.int i,.int m]) ht)
      generalize upd H2 t (.tup [.int i,.int m])=H3 at g ⊢
      refine ⟨fun σ H4=>σ=[some (.ref a),some (.ref pm),some (.ref pf),some (.int i),some (.int m)]∧∃ cs c,GMid H H4 pm pf (marks (wd.take (i+1))) cs∧m∈marks (wd.take (i+1))∧cs[(marks (wd.take (i+1))).idxOf m]?=some c∧c.length≤i ∧
        cs.set ((marks (wd.take (i+1))).idxOf m) (c++[i])=gather (wd.take (i+1)),?_,?_⟩
      · refine ⟨_,rfl,_,rfl,pm,_,rfl,.inl (SqL.of g.am),rfl,zc8 _,_,rfl,?_⟩
        show if (!inV (.int m) (iv (zl (marks (wd.take i)))))=true then _ else _
        rw [zcp]
        refine iteND (fun hn=>?_) fun hn=>?_
        ·
          have hn':m ∉ wd.take i:=fun z=>hn (zl_mem.mpr (mem_marks.mpr z))
          refine ⟨_,rfl,.inl ⟨rfl,_,SqL.of g.am⟩,_,rfl,pm,_,_,rfl,rfl,g.am,small1000 (by simpa using ml),?_⟩
          obtain ⟨as,h1,h2,h3,h4,h5⟩:=g.ex
          have h1':(upd H3 pm (.lst (iv (zl (marks (wd.take i)))++[.int m]))) pf=some (.lst (as.map V.ref)):=by rw [zi (Ne.symm g.ne)];exact h1
          refine ⟨_,rfl,.inl ⟨rfl,_,SqL.of h1'⟩,Nat.zero_le _,fun pn hpn=>?_⟩
          refine ⟨pf,_,_,rfl,rfl,Same.new hpn _ _ h1',?_,rfl,?_⟩
          · rw [List.length_map,yk h2,List.length_map,ye]
            exact small1000 ml
          · have em:marks (wd.take (i+1))=marks (wd.take i)++[m]:=by rw [et,xl,addMark,if_neg (by rw [mem_marks];exact hn')]
            have nix:(marks (wd.take i)++[m]).idxOf m=(marks (wd.take i)).length:=by
              rw [List.idxOf_append,if_neg (by rw [mem_marks];exact hn')]
              simp
            have npm:pm≠pn:=fun z=>by rw [z,ze] at hpn;cases hpn
            have npf:pf≠pn:=zn h1' hpn
            have H3n:H3 pn=none:=by rw [zi (Ne.symm npm)] at hpn;exact hpn
            have Hn:H pn=none:=g.same.free H3n
            have nin:pn ∉ as:=fun z=>by
              obtain ⟨k,hk,ek⟩:=List.mem_iff_getElem.mp z
              obtain ⟨b,_,hb⟩:=yd h2 (i:=k) (a:=pn) (by rw [List.getElem?_eq_getElem hk,ek])
              rw [H3n] at hb
              cases hb.2
            rw [em]
            refine ⟨gather (wd.take i)++[[]],[],⟨((g.same.upd hm).upd Hn).upd hf,hm,hf,g.ne,?_,as++[pn],?_,?_,?_,?_,?_⟩,by simp,?_,Nat.zero_le _,?_⟩
            · rw [zi g.ne,zi npm,ze]
              simp [iv,zl]
            · rw [ze,List.map_append]
              rfl
            · rw [show zb (gather (wd.take i)++[[]])=zb (gather (wd.take i))++[[]] from List.map_append ..]
              refine v8 (zag (fun x b hx e=>⟨e.1,?_⟩) h2) ⟨Hn,?_⟩
              · have x1:x≠pm:=fun z=>h4 (z ▸ hx)
                have x2:x≠pf:=fun z=>h5 (z ▸ hx)
                have x3:x≠pn:=fun z=>nin (z ▸ hx)
                rw [zi x2,zi x3,zi x1]
                exact e.2
              · rw [zi (Ne.symm npf),ze]
                rfl
            · rw [List.nodup_append]
              exact ⟨h3,by simp,fun x hx y hy e=>nin (by simp at hy;rw [← hy,← e];exact hx)⟩
            · simp [h4,npm]
            · simp [h5,npf]
            · rw [nix,← ye]
              simp
            · rw [nix,← ye,et,vn hn',lt]
              simp
        ·
          have hn':m∈wd.take i:=mem_marks.mp (zl_mem.mp hn)
          have em:marks (wd.take (i+1))=marks (wd.take i):=by rw [et,xl,addMark,if_pos (mem_marks.mpr hn')]
          rw [em]
          refine ⟨rfl,gather (wd.take i),pos (wd.take i) m,g,mem_marks.mpr hn',vo hn',?_,?_⟩
          · have:=List.length_filter_le (fun k=>decide ((wd.take i)[k]?=some m)) (List.range (wd.take i).length)
            unfold pos
            rw [List.length_range,lt] at this
            rw [lt]
            exact this
          · rw [et,zab hn',lt]
      · rintro σ H4 ⟨rfl,cs,c,g4,hmm,hc,hcl,hset⟩
        obtain ⟨as,h1,h2,h3,h4,h5⟩:=g4.ex
        obtain ⟨ac,hac,hfree,hcon⟩:=zal h2 (i:=(marks (wd.take (i+1))).idxOf m) (b:=zl c) (by rw [List.getElem?_map,hc];rfl)
        refine ⟨_,rfl,_,rfl,.inl ⟨rfl,_,SqL.of g4.am⟩,_,rfl,pm,_,_,rfl,rfl,g4.am,zl_mem.mpr hmm,?_⟩
        rw [zmr]
        refine ⟨pf,_,_,.ref ac,rfl,rfl,SqL.of h1,xq (by rw [List.getElem?_map,hac];rfl),.inl ⟨rfl,_,SqL.of hcon⟩,_,rfl,ac,_,_,rfl,rfl,hcon,small1000 (by simp;omega),?_⟩
        have acm:ac∈as:=List.mem_of_getElem? hac
        have n1:pm≠ac:=fun z=>h4 (z ▸ acm)
        have n2:pf≠ac:=fun z=>h5 (z ▸ acm)
        refine ⟨_,_,rfl,g4.same.upd hfree,hm,hf,g4.ne,by rw [zi n1];exact g4.am,as,by rw [zi n2];exact h1,?_,h3,h4,h5⟩
        rw [← hset,zb,List.map_set]
        refine zbl h2 h3 hac (fun x y hx e=>⟨e.1,by rw [zi hx];exact e.2⟩) ⟨hfree,?_⟩
        rw [ze]
        simp [iv,zl]
    · rintro σ H2 ⟨v3,v4,rfl,g⟩
      rw [List.length_map,List.length_map,List.take_length] at g
      obtain ⟨as,h1,h2,h3,h4,h5⟩:=g.ex
      exact ⟨_,rfl,q pf H2 ⟨g.same,hf,as,h1,h2,h3⟩⟩
end
end NCP
namespace NCP
open PySem L2 NC
section
variable {CX:CXT} {P:Program} {w:World} {K:PySem.W.Frag} {mg:Str→Option Value} {base:Heap}
theorem sc_free_by:FnScope ["script","at","points","going","word","k","place"] ["script","at","points"] (defScope xn):=⟨rfl,rfl,rfl,by decide +kernel,rfl,by decide +kernel,by decide +kernel⟩
theorem zk6 {f fC fG:Addr} {fd fdC fdG:FuncData} (hX:CxNo CX) (B:GBlt mg) (F:Fun K "_law_free_by" "_law_free_by" xn f fd)
    (DC:Dn K mg "_law_cell_at" yy ["script","k"] fC fdC) (GC:FnOk P w K mg base CX 1 fC fdC ["script","k"] (spCell K))
    (DG:Dn K mg "_law_gathered" yz ["word"] fG fdG) (GG:FnOk P w K mg base CX 1 fG fdG ["word"] (spGathered K)):FnOk P w K mg base CX 2 f fd ["script","at","points"] (spFreeBy K):=by
  refine F.okX sc_free_by (fun vs H Q E h=>?_) (fun cdv A outer s H vs Q E hr h=>?_)
  · obtain ⟨a,ns,k,n,rfl,_⟩:=h
    rfl
  · obtain ⟨a,ns,at_,n,rfl,hS,hn,q⟩:=h
    have nd:=sc_free_by.nd
    refine ⟨_,zd (zk (i:=3) nd rfl (Or.inl rfl) (ym zc)) (zd (zk (i:=4) nd rfl (Or.inl rfl) (ym zc))
      (zd (yt PassesOwn.never rfl (vd rfl B.range (za (pv 2) zc)) (zy (i:=5) nd rfl (Or.inl rfl))
        (zd (zk (i:=6) nd rfl (Or.inl rfl) (pe_op xp (zh GC hr rfl DC.at_ DC.fn.kp DC.bd .nil (passN hX) (za (pv 0) (za (pe_op yu (pv 1) (pv 5)) zc))) (pe_op yu (zp ya (by rfl) B.len PySem.boot_len (za (pv 3) zc)) zf)))
        (zd (wu (ps_if (zv op_eq (pe_op xp (pe_op zay (zh GC hr rfl DC.at_ DC.fn.kp DC.bd .nil (passN hX) (za (pv 0) (za (pe_op yu (pv 1) (pv 5)) zc))) zf) zf) zf (nomark _))
          (zg (zk (i:=6) nd rfl (Or.inl rfl) (zp (zlg rfl) (by rfl) B.max PyProof.Rows.boot_max (za zf (za (pe_op vv (pe_op vv (zp ya (by rfl) B.len PySem.boot_len (za (pv 3) zc)) zf) (pe_op xp (pv 6) zf)) zc))))) zu))
        (zd (wu (ps_if (zv op_eq (pv 6) (zp ya (by rfl) B.len PySem.boot_len (za (pv 3) zc)) (nomark _))
          (zg (zm (pe_bm PySem.F.plainAttrs_list PySem.F.slot_list_append PySem.F.type_list_append wa (pv 3) (za (zp zgj (by rfl) B.len PySem.boot_len (za (x9 (zgi rfl) (by rfl) B.set PyProof.Rows.boot_set (za (pv 4) zc)) zc)) zc)))) zu))
        (zd (zk (i:=3) nd rfl (Or.inl rfl) (yi yp (pv 3) yv (yh (pe_op yu (pv 6) zf))))
        (zg (zm (pe_bm PySem.F.plainAttrs_list PySem.F.slot_list_append PySem.F.type_list_append wa (pv 4) (za (pe_ix zw (pv 3) (pv 6) (fun _ _=>rfl)) zc)))))))))
      (zg (zt (zh GG hr rfl DG.at_ DG.fn.kp DG.bd .nil (passN hX) (za (pv 4) zc)))))),?_⟩
    refine ⟨Nat.zero_le _,fun pg hpg=>⟨Nat.zero_le _,fun pw hpw=>?_⟩⟩
    have hpw0:H pw=none:=(Same.new hpg).free hpw
    have s0:Same H (upd (upd H pg (.lst [])) pw (.lst [])):=(Same.new hpg).upd hpw0
    refine ⟨_,rfl,_,rfl,by omega,by omega,?_⟩
    rw [Int.toNat_natCast]
    refine wn (lo:=0) (n:=n) (fun k σ H2=>∃ pg v5 v6,σ=[some (.ref a),some (.int at_),some (.int n),some (.ref pg),some (.ref pw),v5,v6]∧Same H H2∧H pg=none∧pg≠pw ∧
        H2 pg=some (.lst (iv (zl (freeState (cells ns at_ k)).1)))∧H2 pw=some (.lst (iv (zl (freeState (cells ns at_ k)).2))))
      ⟨pg,none,none,rfl,s0,hpg,zn ze hpw,by rw [zi (zn ze hpw),ze];rfl,ze⟩ ?_ ?_
    · rintro k σ H2 hk ⟨pg,v5,v6,rfl,s2,hpg,hne,h2,h3⟩
      rw [Int.zero_add]
      have hsz:=zbg (cells ns at_ k)
      rw [wz] at hsz
      rw [zj6,zca]
      generalize freeState (cells ns at_ k)=st at h2 h3 hsz ⊢
      generalize hc:ns.getD (at_+k) 0=c
      have len3:(iv (zl st.1)).length=st.1.length:=by rw [List.length_map,List.length_map]
      refine ⟨_,rfl,_,rfl,_,rfl,_,_,rfl,rfl,a,ns,at_+k,rfl,s2.seq hS,?_⟩
      rw [hc]
      refine ⟨_,rfl,pg,_,rfl,.inl (SqL.of h2),_,_,rfl,rfl,_,_,rfl,rfl,by omega,?_⟩
      rw [len3]
      refine ⟨fun σ H3=>σ=[some (.ref a),some (.int at_),some (.int n),some (.ref pg),some (.ref pw),some (.int k),some (.int (fplace c st.1.length))]∧H2=H3,?_,?_⟩
      · refine ⟨_,rfl,_,rfl,_,rfl,_,_,rfl,rfl,a,ns,at_+k,rfl,s2.seq hS,?_⟩
        rw [hc]
        refine ⟨_,_,rfl,rfl,⟨by decide,by decide⟩,_,_,rfl,rfl,(by show (0:Int)<2;decide),rfl,_,rfl,iteD (fun h=>?_) fun h=>?_⟩
        · refine ⟨_,rfl,pg,_,rfl,.inl (SqL.of h2),_,_,rfl,rfl,_,rfl,_,_,rfl,rfl,(by show (0:Int)<2;decide),_,_,rfl,rfl,_,_,rfl,?_⟩
          rw [len3]
          refine ⟨?_,rfl⟩
          have e:c / 64 % 2=1:=by injection h
          have e2:(if (st.1.length:Int) - 1 - c % ((st.1.length:Int)+1) % 2>0 then (st.1.length:Int) - 1 - c % ((st.1.length:Int)+1) % 2 else 0)=fplace c st.1.length:=by
            unfold fplace
            rw [if_pos e]
            split <;> omega
          rw [← e2]
          rfl
        · refine ⟨?_,rfl⟩
          have e:¬ c / 64 % 2=1:=fun z=>h (congrArg V.int z)
          have e2:c % ((st.1.length:Int)+1)=fplace c st.1.length:=by
            unfold fplace
            rw [if_neg e]
          rw [← e2]
          rfl
      rintro σ H3 ⟨rfl,rfl⟩
      have fl:=zlr c st.1.length
      have fh:=zls c st.1.length
      obtain ⟨p,hp⟩:∃ p:Nat,fplace c st.1.length=p:=⟨_,(Int.toNat_of_nonneg fl).symm⟩
      rw [zod st c (p:=p) (by rw [hp];rfl),hp]
      rw [hp] at fh
      have hpl:p≤st.1.length:=by omega
      refine ⟨fun σ H3=>σ=[some (.ref a),some (.int at_),some (.int n),some (.ref pg),some (.ref pw),some (.int k),some (.int p)]∧Same H H3 ∧
        H3 pg=some (.lst (iv (zl (if p=st.1.length then st.1++[(marks st.2).length] else st.1))))∧H3 pw=some (.lst (iv (zl st.2))),?_,?_⟩
      · refine ⟨_,rfl,_,rfl,pg,_,rfl,.inl (SqL.of h2),rfl,_,rfl,iteD (fun h=>?_) fun h=>?_⟩
        · have e:p=st.1.length:=by rw [len3] at h;injection h with z;omega
          refine ⟨_,rfl,.inl ⟨rfl,_,SqL.of h2⟩,_,rfl,pw,zl st.2,rfl,SqL.of h3,by rw [List.length_map];omega,fun ps hps=>⟨ps,_,_,rfl,ze,?_⟩⟩
          rw [zoe]
          refine ⟨pg,_,_,rfl,rfl,Same.new hps _ _ h2,small1000 (by rw [len3];omega),rfl,((s2.trans (Same.new hps)).upd hpg),?_,?_⟩
          · rw [ze,if_pos e]
            simp [iv,zl]
          · rw [zi (Ne.symm hne)]
            exact Same.new hps _ _ h3
        · have e:¬ p=st.1.length:=fun z=>h (by rw [len3,z])
          rw [if_neg e]
          exact ⟨rfl,s2,h2,h3⟩
      rintro σ H4 ⟨rfl,s4,h4,h5⟩
      generalize hg:(if p=st.1.length then st.1++[(marks st.2).length] else st.1)=g at h4 ⊢
      have hpg2:p<g.length:=by
        rw [← hg]
        split
        · simp;omega
        · omega
      refine ⟨_,rfl,_,rfl,_,_,rfl,rfl,_,rfl,pg,_,rfl,SqL.of h4,fun pg2 hpg2'=>?_⟩
      have e5:cutV (iv (zl g)) none (some ((p:Int)+1))=iv (zl (g.take (p+1))):=by
        have:=zcc (iv (zl g)) (p+1)
        rw [show ((p+1:Nat):Int)=(p:Int)+1 from rfl] at this
        rw [this]
        simp [iv,zl,List.map_take]
      rw [e5]
      have h6:=Same.new (o:=.lst (iv (zl (g.take (p+1))))) hpg2' _ _ h5
      refine ⟨_,rfl,.inl ⟨rfl,_,SqL.of h6⟩,_,rfl,_,rfl,pg2,_,_,_,rfl,rfl,SqL.of ze,xq (iv_of (p:=g.getD p 0) ?_),pw,_,_,rfl,rfl,h6,small1000 ?_,?_⟩
      · rw [List.getElem?_take,if_pos (by omega),List.getD_eq_getElem?_getD,List.getElem?_eq_getElem hpg2]
        rfl
      · rw [List.length_map,List.length_map];omega
      · have n2:pg2≠pw:=Ne.symm (zn h5 hpg2')
        refine ⟨pg2,_,_,rfl,((s4.trans (Same.new hpg2')).upd hpw0),s4.free hpg2',n2,?_,?_⟩
        · rw [zi n2,ze]
        · rw [ze]
          simp [iv,zl]
    · rintro σ H2 ⟨pg,v5,v6,rfl,s2,hpg,hne,h2,h3⟩
      refine ⟨_,rfl,pw,_,rfl,SqL.of h3,?_,fun p H' N=>q p H' ⟨s2.trans N.same,s2.free N.np,?_⟩⟩
      · have:=zbg (cells ns at_ n)
        rw [wz] at this
        omega
      · obtain ⟨as,h4,h5,h6⟩:=N.ex
        exact ⟨as,h4,y9 (fun x b e=>⟨s2.free e.1,e.2⟩) h5,h6⟩
end
end NCP
namespace NCP
open PySem L2 NC
section
variable {CX:CXT} {P:Program} {w:World} {K:PySem.W.Frag} {mg:Str→Option Value} {base:Heap}
theorem znb:FnScope ["script","at","points"] ["script","at","points"] (defScope xk):=⟨rfl,rfl,rfl,by decide +kernel,rfl,by decide +kernel,by decide +kernel⟩
def eAny (K:PySem.W.Frag) (a:Addr) (ns:List Int) (at_:Nat):TE:=fun τ H Q=>∃ k:Nat,τ=[some (.int k),some (.ref a),some (.int at_)]∧SqL K H a (iv ns)∧Q (.int (ns.getD (at_+k) 0 % 4)) H
theorem znc {f fC fG:Addr} {fd fdC fdG:FuncData} (hX:CxNo CX) (B:GBlt mg) (F:Fun K "_law_any_by" "_law_any_by" xk f fd)
    (DC:Dn K mg "_law_cell_at" yy ["script","k"] fC fdC) (GC:FnOk P w K mg base CX 1 fC fdC ["script","k"] (spCell K))
    (DG:Dn K mg "_law_gathered" yz ["word"] fG fdG) (GG:FnOk P w K mg base CX 1 fG fdG ["word"] (spGathered K)):FnOk P w K mg base CX 2 f fd ["script","at","points"] (spAnyBy K):=by
  refine F.okX znb (fun vs H Q E h=>?_) (fun cdv A outer s H vs Q E hr h=>?_)
  · obtain ⟨a,ns,k,n,rfl,_⟩:=h
    rfl
  · obtain ⟨a,ns,at_,n,rfl,hS,hn,q⟩:=h
    refine ⟨_,zg (zt (zh GG hr rfl DG.at_ DG.fn.kp DG.bd .nil (passN hX) (za
      (wc (g:=gName 0) (te:=eAny K a ns at_) rfl (cpS (N:=["k","script","at"]) (js:=[none,some 0,some 1]) (defScope xk) ["script","at","points"] (by decide +kernel)) (vd rfl B.range (za (pv 2) zc))
        (by intros;exact zy (i:=0) nd_k3 rfl (Or.inl rfl) (Or.inr rfl))
        (by
          intros
          refine (pe_op xp (zh GC hr (by rfl) DC.at_ DC.fn.kp DC.bd .nil (passN hX) (za (pv 1) (za (pe_op yu (pv 2) (pv 0)) zc))) zf).imp fun τ H Q h=>?_
          obtain ⟨k,rfl,hS,q⟩:=h
          exact ⟨_,rfl,_,rfl,_,rfl,_,_,rfl,rfl,a,ns,at_+k,rfl,hS,_,_,rfl,rfl,(by show (0:Int)<4;decide),q⟩)) zc))),?_⟩
    refine ⟨_,rfl,_,rfl,by omega,by omega,fun pl hpl=>?_⟩
    rw [Int.toNat_natCast]
    refine vi (J:=Itr 0 n) (Hs:=H) n (fun k=>.int (ns.getD (at_+k) 0 % 4)) (fun τ=>∃ v,τ=[v,some (.ref a),some (.int at_)]) (Same.refl _) hpl (yf hn) (fun i H2 hi _=>hi) (fun H2 _=>Nat.le_refl _) ⟨_,rfl⟩ ?_ ?_
    · rintro i τ H2 x H3 R hi ⟨v,rfl⟩ s2 ⟨rfl,rfl⟩ k
      rw [Int.zero_add]
      exact ⟨i,rfl,s2.seq hS,k _ _ ⟨_,rfl⟩ (Same.refl _)⟩
    · intro H2 s2 h2
      rw [zqo] at h2
      refine ⟨pl,_,rfl,SqL.of h2,?_,fun p H' N=>q p H' (N.before s2)⟩
      rw [za0,wz]
      exact hn
end
end NCP
namespace NCP
open PySem L2 NC
section
variable {CX:CXT} {P:Program} {w:World} {K:PySem.W.Frag} {mg:Str→Option Value} {base:Heap}
abbrev nWord:List Str:=["points","blocks","found","place","point"]
theorem sc_word:FnScope nWord ["points","blocks"] (defScope xx):=⟨rfl,rfl,rfl,by decide +kernel,rfl,by decide +kernel,by decide +kernel⟩
theorem zpz {f:Addr} {fd:FuncData} (B:GBlt mg) (F:Fun K "_law_word" "_law_word" xx f fd):FnOk P w K mg base CX 1 f fd ["points","blocks"] spBlockPlaces:=by
  refine F.okX sc_word (fun vs H Q E h=>?_) (fun cdv A outer s H vs Q E hr h=>?_)
  · obtain ⟨p,wd,rfl,_⟩:=h
    rfl
  · obtain ⟨p,wd,rfl,hL,hz,q⟩:=h
    obtain ⟨as,hp,hbs⟩:=id hL
    have hal:=yk hbs
    have hbl:=wj wd
    have nd:=sc_word.nd
    refine ⟨_,zd (zjm (i:=2) (g:=gName 0) (te:=tC (.int 0)) nd rfl (Or.inl rfl) rfl (cpS (N:=["point"]) (js:=[none]) (defScope xx) nWord (by decide +kernel)) (vd rfl B.range (za (pv 0) zc))
        (by intros;exact zy (i:=0) zof rfl (Or.inl rfl) (Or.inr rfl)) (by intros;exact zf))
      (zd (yt PassesOwn.never rfl (vd rfl B.range (za (zp ya (by rfl) B.len PySem.boot_len (za (pv 1) zc)) zc)) (zy (i:=3) nd rfl (Or.inl rfl))
        (zg (yt PassesOwn.never rfl (y2 (pe_ix zw (pv 1) (pv 3) (fun _ _=>rfl))) (zy (i:=4) nd rfl (Or.inl rfl))
          (zg (zar (pv 3) (zaq (pv 2) (pv 4) vm))))))
      (zg (zt (pv 2)))),?_⟩
    refine ⟨_,rfl,_,rfl,by omega,by omega,fun l hl=>?_⟩
    rw [Int.toNat_natCast]
    refine vi (J:=Itr 0 wd.length) (Hs:=H) wd.length (fun _=>.int 0) (fun τ=>∃ v,τ=[v]) (Same.refl _) hl (yf hz) (fun i H2 hi _=>hi) (fun H2 _=>Nat.le_refl _) ⟨_,rfl⟩ ?_ ?_
    · rintro i τ H2 x H3 R hi ⟨v,rfl⟩ s2 ⟨rfl,rfl⟩ k
      exact k _ _ ⟨_,rfl⟩ (Same.refl _)
    intro H2 s2 h2
    rw [zog] at h2
    refine ⟨_,rfl,p,_,rfl,.inl (SqL.of (s2 _ _ hp)),_,rfl,?_,?_,?_⟩
    · rw [List.length_map];omega
    · rw [List.length_map];omega
    rw [List.length_map,Int.toNat_natCast]
    refine wn (lo:=0) (n:=as.length) (fun i σ H3=>∃ v3 v4 L,σ=[some (.int wd.length),some (.ref p),some (.ref l),v3,v4]∧Same H H3∧H3 l=some (.lst (iv (zl L)))∧PlacesTo wd i 0 L)
      ⟨none,none,_,rfl,s2,h2,zc1 wd⟩ ?_ ?_
    · rintro i σ H3 hi ⟨v3,v4,L,rfl,s3,h3,hP⟩
      rw [Int.zero_add]
      obtain ⟨b',hb',hab⟩:=yd hbs (i:=i) (a:=as[i]) (List.getElem?_eq_getElem hi)
      obtain ⟨b,hb,rfl⟩:=zce hb'
      refine ⟨_,rfl,_,rfl,p,_,_,.ref as[i],rfl,rfl,SqL.of (s3 _ _ hp),xq (by rw [List.getElem?_map,List.getElem?_eq_getElem hi];rfl),as[i],rfl,⟨_,SqL.of (s3 _ _ hab)⟩,vk (K:=K) (a:=as[i]) (xs:=iv (zl b))
        (fun k σ H3=>∃ v4 L,σ=[some (.int wd.length),some (.ref p),some (.ref l),some (.int i),v4]∧Same H H3∧H3 l=some (.lst (iv (zl L)))∧PlacesTo wd i k L)
        ⟨v4,L,rfl,s3,h3,hP⟩ (fun k σ H3 _ ⟨_,_,_,s4,_⟩=>SqL.of (s4 _ _ hab)) ?_ ?_⟩
      · rintro k x σ H4 hk ⟨v4,L,rfl,s4,h4,hP⟩
        obtain ⟨pt,hpt,rfl⟩:=vy hk
        have hlt:pt<L.length:=by rw [hP.1];exact yr (List.mem_of_getElem? hb) (List.mem_of_getElem? hpt)
        refine ⟨_,rfl,_,rfl,_,rfl,l,_,_,pt,rfl,rfl,h4,zaf (by simpa using hlt),?_⟩
        refine ⟨_,L.set pt i,rfl,s4.upd hl,?_,zdl hP hb hpt⟩
        rw [ze,zer]
      · rintro σ H4 ⟨v4,L,rfl,s4,h4,hP⟩
        rw [List.length_map,List.length_map] at hP
        exact ⟨_,_,L,rfl,s4,h4,zdm hP hb⟩
    · rintro σ H3 ⟨v3,v4,L,rfl,s3,h3,hP⟩
      rw [hal,List.length_map] at hP
      rw [zeh hP] at h3
      exact ⟨_,rfl,q l H3 ⟨s3,hl,h3⟩⟩
end
end NCP
namespace NCP
open PySem L2 NC
section
variable {CX:CXT} {P:Program} {w:World} {K:PySem.W.Frag} {mg:Str→Option Value} {base:Heap}
theorem sc_crosses:FnScope ["points","blocks","word","b","c"] ["points","blocks"] (defScope xo):=⟨rfl,rfl,rfl,by decide +kernel,rfl,by decide +kernel,by decide +kernel⟩
theorem zk7 {f fW:Addr} {fd fdW:FuncData} (hX:CxNo CX) (B:GBlt mg) (F:Fun K "_law_crosses" "_law_crosses" xo f fd)
    (DW:Dn K mg "_law_word" xx ["points","blocks"] fW fdW) (GW:FnOk P w K mg base CX 1 fW fdW ["points","blocks"] spBlockPlaces):FnOk P w K mg base CX 2 f fd ["points","blocks"] spCrosses:=by
  refine F.okX sc_crosses (fun vs H Q E h=>?_) (fun cdv A outer s H vs Q E hr h=>?_)
  · obtain ⟨p,wd,rfl,_⟩:=h
    rfl
  · obtain ⟨p,wd,rfl,hL,hz,q1,q2⟩:=h
    have nd:=sc_crosses.nd
    refine ⟨_,zd (zk (i:=2) nd rfl (Or.inl rfl) (zh GW hr rfl DW.at_ DW.fn.kp DW.bd .nil (passN hX) (za (pv 0) (za (pv 1) zc))))
      (zd (yt PassesOwn.never rfl (vd rfl B.range (za (pv 0) zc)) (zy (i:=3) nd rfl (Or.inl rfl))
        (zg (yt PassesOwn.never rfl (zbb rfl B.range (za (pe_op yu (pv 3) zf) (za (pv 0) zc))) (zy (i:=4) nd rfl (Or.inl rfl))
          (zg (ps_if (PW.pt (za9 (zv op_ne (pe_ix zw (pv 2) (pv 3) (fun _ _=>rfl)) (pe_ix zw (pv 2) (pv 4) (fun _ _=>rfl)) (nomark _))
            (za9 (zv zfu (pe_ix zw (pv 2) (pv 4) (fun _ _=>rfl)) (yi yp (pv 2) yv (yh (pv 3))) (by with_unfolding_all rfl))
            (zb6 (zv zfu (pe_ix zw (pv 2) (pv 3) (fun _ _=>rfl)) (yi yp (pv 2) (yh (pe_op yu (pv 4) zf)) yv) (by with_unfolding_all rfl))))))
            (zg (zt pe_bl)) zu)))))
      (zg (zt pe_bl))),?_⟩
    refine ⟨_,rfl,_,rfl,p,wd,rfl,hL,hz,fun l H1 N1=>?_⟩
    have hcl:=zx wd
    generalize hv:canon wd=v at N1 hcl
    have hfree:Free v↔Free wd:=by rw [← hv];exact free_canon
    have hS:SqL K H1 l (iv (zl v)):=SqL.of N1.at_
    refine ⟨_,rfl,_,rfl,by omega,by omega,?_⟩
    rw [Int.toNat_natCast]
    refine wn (lo:=0) (n:=wd.length) (fun i σ H2=>∃ v3 v4,σ=[some (.int wd.length),some (.ref p),some (.ref l),v3,v4]∧Same H1 H2∧∀ b c,b<i→¬ CrossBC v b c)
      ⟨none,none,rfl,Same.refl _,fun _ _ h=>by omega⟩ ?_ ?_
    · rintro b σ H2 hb ⟨v3,v4,rfl,s2,ib⟩
      rw [Int.zero_add]
      refine ⟨_,rfl,_,_,rfl,rfl,_,rfl,_,_,rfl,⟨by omega,by omega,by omega,by omega⟩,?_⟩
      rw [show ((wd.length:Int) - ((b:Int)+1)).toNat=wd.length - (b+1) from by omega]
      refine wn (fun j σ H2=>∃ v4,σ=[some (.int wd.length),some (.ref p),some (.ref l),some (.int b),v4]∧Same H1 H2∧∀ c,c<b+1+j→¬ CrossBC v b c)
        ⟨v4,rfl,s2,fun c h x=>by have:=x.1;omega⟩ ?_ ?_
      · rintro jc σ H3 hjc ⟨v4,rfl,s3,ic⟩
        rw [show (b:Int)+1+(jc:Int)=((b+1+jc:Nat):Int) from by omega]
        generalize hcc:b+1+jc=c at ic
        have lb:b<v.length:=by omega
        have lc:c<v.length:=by omega
        have go:∀ H4,Same H1 H4→¬ CrossBC v b c→∃ v4,([some (.int wd.length),some (.ref p),some (.ref l),some (.int b),some (.int c)]:St)=[some (.int wd.length),some (.ref p),some (.ref l),some (.int b),v4]∧Same H1 H4∧∀ c,c<b+1+(jc+1)→¬ CrossBC v b c:=fun H4 s4 hn=>by
          refine ⟨_,rfl,s4,fun c' h=>?_⟩
          by_cases e:c'=c
          · subst e;exact hn
          · exact ic c' (by omega)
        refine ⟨_,rfl,_,rfl,l,_,_,_,rfl,rfl,s3.seq hS,at_iv lb,_,rfl,_,rfl,l,_,_,_,rfl,rfl,s3.seq hS,at_iv lc,rfl,_,rfl,iteND (fun e1=>?_) fun e1=>?_⟩
        · refine ⟨_,rfl,_,rfl,l,_,_,_,rfl,rfl,s3.seq hS,at_iv lc,_,rfl,_,rfl,_,rfl,l,_,rfl,s3.seq hS,fun p1 hp1=>?_⟩
          rw [zb2]
          refine ⟨p1,_,rfl,.inl (SqL.of ze),rfl,zc8 _,_,rfl,?_⟩
          have s4:Same H1 (upd H3 p1 (.lst (iv (zl (v.take b))))):=s3.trans (Same.new hp1)
          show if (inV (.int (v.getD c 0:Nat)) (iv (zl (v.take b))))=true then _ else _
          rw [zcp]
          refine iteD (fun e2=>?_) fun e2=>go _ s4 fun x=>e2 (zl_mem.mpr x.2.2.2.1)
          refine ⟨_,rfl,_,rfl,l,_,_,_,rfl,rfl,s4.seq hS,at_iv lb,_,rfl,_,rfl,_,_,rfl,rfl,_,rfl,l,_,rfl,s4.seq hS,fun p2 hp2=>?_⟩
          have e5:=zb5 v (c+1)
          rw [show ((c+1:Nat):Int)=(c:Int)+1 from rfl] at e5
          rw [e5]
          refine ⟨p2,_,rfl,.inl (SqL.of ze),rfl,zc8 _,_,rfl,?_⟩
          have s5:=s4.trans (Same.new (o:=.lst (iv (zl (v.drop (c+1))))) hp2)
          show if (inV (.int (v.getD b 0:Nat)) (iv (zl (v.drop (c+1)))))=true then _ else _
          rw [zcp]
          refine iteD (fun e3=>?_) fun e3=>go _ s5 fun x=>e3 (zl_mem.mpr x.2.2.2.2)
          have hx:CrossBC v b c:=⟨by omega,lc,fun z=>e1 (by rw [z]),zl_mem.mp e2,zl_mem.mp e3⟩
          obtain ⟨a,d,x⟩:=zii hx
          exact q2 (fun z=>hfree.mpr z a b c d x) _ (N1.same.trans s5)
        · refine go _ s3 fun x=>x.2.2.1 ?_
          injection e1 with z
          omega
      · rintro σ H3 ⟨v4,rfl,s3,ic⟩
        refine ⟨_,_,rfl,s3,fun b' c' h=>?_⟩
        by_cases e:b'=b
        · subst e
          intro x
          exact ic c' (by have:=x.2.1;omega) x
        · exact ib b' c' (by omega)
    · rintro σ H2 ⟨v3,v4,rfl,s2,ib⟩
      exact q1 (hfree.mp (zka fun b c h=>ib b c (by omega))) H2 (N1.same.trans s2)
end
end NCP
namespace NCP
open PySem L2 NC
section
variable {CX:CXT} {P:Program} {w:World} {K:PySem.W.Frag} {mg:Str→Option Value} {base:Heap}
abbrev nGood:List Str:=["points","blocks","firsts","seen","block"]
theorem sc_good:FnScope nGood ["points","blocks"] (defScope wm):=⟨rfl,rfl,rfl,by decide +kernel,rfl,by decide +kernel,by decide +kernel⟩
def eLen:TE:=fun τ H Q=>∃ (a:Addr) (b:List Int),τ[0]?=some (some (.ref a))∧H a=some (.lst (iv b))∧Q (.int b.length) H
theorem zp0 {f:Addr} {fd:FuncData} (B:GBlt mg) (F:Fun K "_law_good" "_law_good" wm f fd):FnOk P w K mg base CX 1 f fd ["points","blocks"] spGood:=by
  refine F.okX sc_good (fun vs H Q E h=>?_) (fun cdv A outer s H vs Q E hr h=>?_)
  · obtain ⟨n,p,bs,rfl,_⟩:=h
    rfl
  · obtain ⟨n,p,bs,rfl,hL,hz,hz2,q⟩:=h
    obtain ⟨as,hp,hbs⟩:=id hL
    have hal:=yk hbs
    have nd:=sc_good.nd
    refine ⟨_,zd (ps_if (PW.pt (pw_or (vt (zf3 zf (zbt op_le (pv 0) (zhi op_le zf)))) (zcy (zv op_ne (zp (zbi rfl) (by rfl) B.sum PyProof.Rows.boot_sum (za
          (wc (g:=gName 0) (te:=eLen) rfl (cpS (N:=["block"]) (js:=[none]) (defScope wm) nGood (by decide +kernel)) (y2 (pv 1))
            (by intros;exact zy (i:=0) za4 rfl (Or.inl rfl) (Or.inr rfl))
            (by
              intros
              refine (zp ya (by rfl) B.len PySem.boot_len (za (pv 0) zc)).imp fun τ H Q h=>?_
              obtain ⟨a,b,e,hb,q⟩:=h
              refine ⟨_,e,a,_,rfl,.inl (SqL.of hb),?_⟩
              rw [List.length_map]
              exact q)) zc)) (pv 0) (nomark _))))) (zg (zt pe_bl)) zu)
      (zd (zk (i:=2) nd rfl (Or.inl rfl) (ym zc)) (zd (zk (i:=3) nd rfl (Or.inl rfl) (ym zc))
      (zd (yt PassesOwn.never rfl (y2 (pv 1)) (zy (i:=4) nd rfl (Or.inl rfl))
        (zd (ps_if (PW.pt (pw_or (zv op_eq (zp ya (by rfl) B.len PySem.boot_len (za (pv 4) zc)) zf (nomark _))
            (zcy (zv (zem enc_int.list hr.units) (pv 4) (zp (zep rfl) (by rfl) B.sorted PyProof.Rows.boot_sorted (za (x9 (zkm rfl) (by rfl) B.set PyProof.Rows.boot_set (za (pv 4) zc)) zc)) (nomark _))))) (zg (zt pe_bl)) zu)
        (zd (zm (pe_bm PySem.F.plainAttrs_list PySem.F.slot_list_append PySem.F.type_list_append wa (pv 2) (za (pe_ix zw (pv 4) zf (fun _ _=>rfl)) zc)))
        (zg (zk (i:=3) nd rfl (Or.inl rfl) (pe_op wo (pv 3) (pv 4)))))))
      (zg (zt (zb7 (x8 (zhh enc_int.list hr.units) (zp zao (by rfl) B.sorted PyProof.Rows.boot_sorted (za (pv 3) zc)) (x9 (zcv rfl) (by rfl) B.list PyProof.Rows.boot_list (za (x9 zdr (by rfl) B.range PyProof.Rows.boot_range (za (pv 0) zc)) zc)) (nomark _))
        (zba (x8 (zhh enc_int.list hr.units) (pv 2) (zp zao (by rfl) B.sorted PyProof.Rows.boot_sorted (za (pv 2) zc)) (nomark _))))))))),?_⟩
    have no:∀ H',Same H H'→¬ Parting n bs→Q (.bl false) H':=fun H' s z=>q false H' s ⟨(fun z2=>by cases z2),fun z2=>absurd z2 z⟩
    refine ⟨_,rfl,_,_,rfl,rfl,_,rfl,iteD (fun h0=>?_) fun h0=>no H (Same.refl _) fun z=>h0 z.lo⟩
    refine ⟨_,_,rfl,rfl,_,rfl,?_⟩
    refine iteND (fun h1=>no H (Same.refl _) fun z=>h1 z.hi) fun h1=>?_
    refine ⟨_,rfl,p,rfl,⟨_,SqL.of hp⟩,fun p1 hp1=>vf (K:=K) (xs:=as.map V.ref) (Hs:=H) (fun i=>.int ((bs.getD i []).length:Int)) (fun τ=>∃ v,τ=[v]) (Same.refl _) hp1 (SqL.of hp) (by rw [List.length_map,hal];exact yf hz) ⟨_,rfl⟩ ?_ ?_⟩
    · rintro i x τ H2 R hi ⟨v,rfl⟩ s2 k
      obtain ⟨a,ha,rfl⟩:=we hi
      obtain ⟨b,hb,hab⟩:=yd hbs ha
      have e:bs.getD i []=b:=by rw [List.getD_eq_getElem?_getD,hb];rfl
      rw [e] at k
      exact ⟨a,b,rfl,s2 _ _ hab,k _ H2 ⟨_,rfl⟩ (Same.refl _)⟩
    intro H2 s2 h2
    have elen:(List.range (as.map V.ref).length).map (fun i=>V.int ((bs.getD i []).length:Int))=iv (bs.map fun b=>(b.length:Int)):=by
      rw [List.length_map,hal]
      apply List.ext_getElem?
      intro i
      rw [List.getElem?_map,List.getElem?_map,List.getElem?_map]
      by_cases hi:i<bs.length
      · rw [List.getElem?_range hi,List.getElem?_eq_getElem hi]
        simp [hi]
      · rw [List.getElem?_eq_none_iff.mpr (by simpa using hi),List.getElem?_eq_none_iff.mpr (by omega)]
        rfl
    rw [elen] at h2
    refine ⟨p1,_,rfl,SqL.of h2,_,rfl,rfl,_,rfl,?_⟩
    rw [zoh]
    refine iteND (fun h3=>no H2 s2 fun z=>h3 ?_) fun h3=>?_
    · have:=z.perm.length_eq
      rw [List.length_map,List.length_range] at this
      congr 1
      omega
    have hsum:(bs.flatten.length:Int)=n:=by injection h3
    refine ⟨Nat.zero_le _,fun pf hpf=>⟨Nat.zero_le _,fun ps hps=>?_⟩⟩
    have hpf0:H pf=none:=s2.free hpf
    have hps1:H2 ps=none:=(Same.new hpf).free hps
    have hps0:H ps=none:=s2.free hps1
    have hne:pf≠ps:=zn ze hps
    have s0:Same H (upd (upd H2 pf (.lst [])) ps (.lst [])):=(s2.upd hpf0).upd hps0
    refine ⟨_,rfl,p,rfl,⟨_,SqL.of (s0 _ _ hp)⟩,vk (K:=K) (a:=p) (xs:=as.map V.ref)
      (fun i σ H3=>∃ (ps:Addr) (v4:Option V),σ=[some (.int n),some (.ref p),some (.ref pf),some (.ref ps),v4]∧Same H H3∧H ps=none∧pf≠ps∧H3 pf=some (.lst (iv ((bs.take i).map fun b=>b.headD 0)))∧H3 ps=some (.lst (iv (bs.take i).flatten))∧∀ b∈bs.take i,b≠[]∧b.Pairwise (·<·))
      ⟨ps,none,rfl,s0,hps0,hne,by rw [zi hne,ze];rfl,ze,by simp⟩ (fun i σ H3 _ ⟨_,_,_,s,_⟩=>SqL.of (s _ _ hp)) ?_ ?_⟩
    · rintro i x σ H3 hi ⟨ps,v4,rfl,s3,hps0,hne,h3f,h3s,hgood⟩
      obtain ⟨a,ha,rfl⟩:=we hi
      obtain ⟨b,hb,hab⟩:=yd hbs ha
      have hbm:=List.mem_of_getElem? hb
      have et:=vh hb
      have hbl:b.length<64:=by have:=xh hbm;omega
      have hab3:=s3 _ _ hab
      refine ⟨_,rfl,a,_,rfl,.inl (SqL.of hab3),rfl,_,rfl,iteD (fun e=>?_) fun e=>?_⟩
      · have hb0:b=[]:=by
          injection e with e
          rw [List.length_map] at e
          exact List.length_eq_zero_iff.mp (by omega)
        exact no H3 s3 fun z=>z.ne b hbm hb0
      have hbne:b≠[]:=fun z=>e (by rw [z];rfl)
      refine ⟨_,rfl,_,rfl,a,b,rfl,SqL.of hab3,by omega,fun l1 hl1=>⟨l1,b,rfl,ze,hbl,fun l2 ms hl2 hpw hmem _=>?_⟩⟩
      have s4:=Same.new (o:=setO P w l1 b) hl1
      have s5:=Same.new (o:=.lst (iv ms)) hl2
      have s35:Same H3 (upd (upd H3 l1 (setO P w l1 b)) l2 (.lst (iv ms))):=s4.trans s5
      refine ⟨b,ms,zae (SqL.of (s35 _ _ hab3)),zae (SqL.of ze),_,rfl,iteND (fun e2=>?_) fun e2=>?_⟩
      · exact no _ (s3.trans s35) fun z=>e2 (zkc (z.rise b hbm) hpw hmem)
      have hbr:b.Pairwise (·<·):=by rw [e2];exact hpw
      have g1:=s35 _ _ h3f
      have g2:=s35 _ _ h3s
      have g3:=s35 _ _ hab3
      have hb0:(iv b)[0]?=some (.int (b.headD 0)):=by
        cases b with
        | nil=>exact absurd rfl hbne
        | cons y r=>rfl
      have til:(bs.take i).length≤1000:=by rw [List.length_take];omega
      refine ⟨_,rfl,.inl ⟨rfl,_,SqL.of g1⟩,_,rfl,a,_,0,_,rfl,rfl,SqL.of g3,xq (j:=0) hb0,pf,_,_,rfl,rfl,g1,small1000 (by rw [List.length_map,List.length_map];exact til),?_⟩
      have hap:a≠pf:=fun z=>by rw [z,hpf0] at hab;cases hab
      refine ⟨_,rfl,_,rfl,ps,a,_,_,rfl,rfl,by rw [zi (Ne.symm hne)];exact g2,by rw [zi hap];exact g3,?_,fun p6 hp6=>?_⟩
      · rw [List.length_map,List.length_map]
        have:=zms (bs:=bs) (i+1)
        rw [et,List.flatten_append,List.length_append] at this
        simp only [List.flatten_cons,List.flatten_nil,List.append_nil] at this
        exact yf (by omega)
      have s56:Same H (upd (upd (upd H3 l1 (setO P w l1 b)) l2 (.lst (iv ms))) pf (.lst (iv ((bs.take i).map fun b=>b.headD 0)++[.int (b.headD 0)]))):=(s3.trans s35).upd hpf0
      have hp60:H p6=none:=s56.free hp6
      have hne6:pf≠p6:=zn ze hp6
      refine ⟨p6,_,rfl,s56.upd hp60,hp60,hne6,?_,?_,fun c hc=>?_⟩
      · rw [zi hne6,ze,et]
        simp [iv]
      · rw [ze,et]
        simp [iv]
      · rw [et] at hc
        rcases List.mem_append.mp hc with hc | hc
        · exact hgood c hc
        · simp at hc;rw [hc];exact ⟨hbne,hbr⟩
    · rintro σ H3 ⟨ps,v4,rfl,s3,hps0,hne,h3f,h3s,hgood⟩
      rw [List.length_map,hal,List.take_length] at h3f h3s hgood
      have hbl:=zdn fun b hb=>(hgood b hb).1
      refine ⟨_,rfl,ps,_,rfl,SqL.of h3s,hz2,fun l2 ms hl2 hperm hsort=>?_⟩
      refine ⟨_,rfl,_,rfl,fun r hr0=>⟨r,n.toNat,rfl,?_,by omega,fun l3 hl3=>?_⟩⟩
      · rw [ze]
        congr 2
        omega
      have s37:Same H3 (upd (upd (upd H3 l2 (.lst (iv ms))) r (.rng 0 n)) l3 (.lst ((List.range n.toNat).map fun (i:Nat)=>V.int (i:Int)))):=((Same.new hl2).trans (Same.new hr0)).trans (Same.new hl3)
      refine ⟨ms,(List.range n.toNat).map fun (k:Nat)=>(k:Int),zae (SqL.of ?_),zae (SqL.of ?_),_,rfl,iteD (fun e=>?_) fun e=>?_⟩
      · rw [zi (zn (o:=.lst (iv ms)) (by rw [zi (zn ze hr0),ze]) hl3),zi (zn ze hr0),ze]
      · rw [ze,List.map_map]
        rfl
      · have hflat:bs.flatten.Perm ((List.range n.toNat).map (fun (k:Nat)=>(k:Int))):=hperm.symm.trans ((zbr hsort).mp e)
        have g1:=s37 _ _ h3f
        refine ⟨_,rfl,_,rfl,pf,_,rfl,SqL.of g1,by rw [List.length_map];omega,fun l4 ms2 hl4 hp4 hs4=>?_⟩
        refine ⟨_,ms2,zae (SqL.of (Same.new hl4 _ _ g1)),zae (SqL.of ze),q _ _ ((s3.trans s37).trans (Same.new hl4)) ?_⟩
        rw [decide_eq_true_iff,zin hp4 hs4,zno]
        exact ⟨fun h=>⟨h0,h1,hgood,hflat,h⟩,fun h=>h.2.2.2.2⟩
      · exact no _ (s3.trans s37) fun z=>e ((zbr hsort).mpr (hperm.trans z.perm))
end
end NCP
namespace NCP
open PySem L2 NC
section
variable {P:Program} {w:World} {K:PySem.W.Frag} {mg:Str→Option Value} {base:Heap}
abbrev nLaw:List Str:=["script","points","one","other","which","fault","two","bad","crossed","handed","found"]
theorem sc_law:FnScope nLaw ["script"] (defScope s_law):=⟨rfl,rfl,rfl,by decide +kernel,rfl,by decide +kernel,by decide +kernel⟩
theorem zj0 {H:Hp} {p:Addr} {u:List Nat} (h:LL H p (zb (gather u))) (hz:u.length≤12):AnyL H p (zb (gather u)) :=
  ⟨h,Nat.le_trans (wj u) (by omega),by rw [w4];omega,fun b hb=>Nat.le_trans (vj u b hb) (by omega)⟩
theorem za5 {u:List Nat} (h2:2≤u.length):zb (gather u)≠[]∧∀ b∈zb (gather u),b≠[]:=by
  refine ⟨fun z=>?_,fun b hb=>?_⟩
  · have:=w4 u
    rw [z] at this
    simp at this
    omega
  · obtain ⟨c,hc,rfl⟩:=List.mem_map.mp hb
    intro z
    exact xt hc (List.map_eq_nil_iff.mp z)
def EndC (wh:Nat) (m:Int) (bs cs:List (List Int)) (H:Hp) (c8:V):Prop :=
  (∃ u pc,Crossed wh m bs cs u∧c8=.ref pc∧wh<7∧m=(u.length:Int)∧u.length≤10∧LL H pc (zb (gather u)))∨(Fine wh m bs cs∧(c8=.non∨7≤wh))
theorem znd {wh:Nat} {m:Int} {bs cs:List (List Int)} {H:Hp} {p1 p2:Addr} {u:List Nat} {c8 d8:V} (hB:¬ Bad wh m bs cs) (hW:Wd m bs u) (L1:LL H p1 bs) (L2:LL H p2 cs)
    (h15:((5≤wh∧wh≤7)∧(∃ v,Wd m cs v∧¬ Free v)∧c8=.ref p2)∨((5≤wh∧wh≤7→∃ v,Wd m cs v∧Free v)∧c8=.non)) (h16:(¬ Free u∧d8=.ref p1)∨(Free u∧d8=c8)):EndC wh m bs cs H d8:=by
  have hcs:5≤wh→wh≤7→∃ v,Wd m cs v:=fun a b=>wd_of (Classical.byContradiction fun z=>hB (.inr ⟨a,b,z⟩))
  by_cases h7:wh<7
  · rcases h16 with ⟨hF,rfl⟩ | ⟨hF,rfl⟩
    · refine .inl ⟨u,p1,⟨h7,u,hW,?_⟩,rfl,h7,hW.1,hW.2.2,hW.2.1 ▸ L1⟩
      by_cases h5:wh<5
      · exact .inl ⟨h5,hF,rfl⟩
      · obtain ⟨v,hV⟩:=hcs (by omega) (by omega)
        exact .inr ⟨by omega,v,hV,.inl ⟨hF,rfl⟩⟩
    · rcases h15 with ⟨h5,⟨v,hV,hF2⟩,rfl⟩ | ⟨h5,rfl⟩
      · exact .inl ⟨v,p2,⟨h7,u,hW,.inr ⟨h5.1,v,hV,.inr ⟨hF,hF2,rfl⟩⟩⟩,rfl,h7,hV.1,hV.2.2,hV.2.1 ▸ L2⟩
      · exact .inr ⟨⟨u,hW,fun _=>hF,fun a b=>let ⟨v,hV,hF2⟩:=h5 ⟨a,b⟩;⟨v,hV,fun _=>hF2⟩⟩,.inl rfl⟩
  · refine .inr ⟨⟨u,hW,fun z=>absurd z h7,fun a b=>let ⟨v,hV⟩:=hcs a b;⟨v,hV,fun z=>absurd z h7⟩⟩,.inr (by omega)⟩
theorem zqz {f fC fF fA fS fG fX fT fI:Addr} {fd fdC fdF fdA fdS fdG fdX fdT fdI:FuncData} (B:GBlt mg) (F:Fun K "law" "law" s_law f fd)
    (DC:Dn K mg "_law_cell_at" yy ["script","k"] fC fdC) (GC:FnOk P w K mg base (CXe P w) 1 fC fdC ["script","k"] (spCell K))
    (DF:Dn K mg "_law_free_by" xn ["script","at","points"] fF fdF) (GF:FnOk P w K mg base (CXe P w) 2 fF fdF ["script","at","points"] (spFreeBy K))
    (DA:Dn K mg "_law_any_by" xk ["script","at","points"] fA fdA) (GA:FnOk P w K mg base (CXe P w) 2 fA fdA ["script","at","points"] (spAnyBy K))
    (DS:Dn K mg "_law_spoilt" xy ["blocks","cell"] fS fdS) (GS:FnOk P w K mg base (CXe P w) 1 fS fdS ["blocks","cell"] spSpoilt2)
    (DG:Dn K mg "_law_good" wm ["points","blocks"] fG fdG) (GG:FnOk P w K mg base (CXe P w) 1 fG fdG ["points","blocks"] spGood)
    (DX:Dn K mg "_law_crosses" xo ["points","blocks"] fX fdX) (GX:FnOk P w K mg base (CXe P w) 2 fX fdX ["points","blocks"] spCrosses)
    (DT:Dn K mg "_law_told" ww ["which","points","one","other"] fT fdT) (GT:FnOk P w K mg base (CXe P w) 8 fT fdT ["which","points","one","other"] spTold16)
    (DI:Dn K mg "_law_is_crossing" yo ["points","blocks","found"] fI fdI) (GI:FnOk P w K mg base (CXe P w) 2 fI fdI ["points","blocks","found"] spIsCr):FnOk P w K mg base (CXe P w) 9 f fd ["script"] (spLaw K):=by
  have hX:CxNo (CXe P w):=cxNoE
  refine F.okX sc_law (fun vs H Q E h=>?_) (fun cdv A outer s H vs Q E hr h=>?_)
  · obtain ⟨a,ns,rfl,_⟩:=h
    rfl
  · obtain ⟨a,ns,rfl,hS,hlen,q⟩:=h
    have nd:=sc_law.nd
    have hr1:=hr.mono (show 1≤8 by decide)
    have hr2:=hr.mono (show 2≤8 by decide)
    refine ⟨_,zd (zk (i:=1) nd rfl (Or.inl rfl) (pe_op yu zf (pe_op xp (zh GC hr1 rfl DC.at_ DC.fn.kp DC.bd .nil (passN hX) (za (pv 0) (za zf zc))) zf)))
      (zd (wu (ps_if (zv op_eq (pe_op xp (zh GC hr1 rfl DC.at_ DC.fn.kp DC.bd .nil (passN hX) (za (pv 0) (za zf zc))) zf) zf (nomark _)) (zg (zk (i:=1) nd rfl (Or.inl rfl) (pe_op yu zf (pe_op xp (zh GC hr1 rfl DC.at_ DC.fn.kp DC.bd .nil (passN hX) (za (pv 0) (za zf zc))) zf)))) zu))
      (zd (zk (i:=2) nd rfl (Or.inl rfl) (zh GF hr2 rfl DF.at_ DF.fn.kp DF.bd .nil (passN hX) (za (pv 0) (za zf (za (pv 1) zc)))))
      (zd (zk (i:=3) nd rfl (Or.inl rfl) (zh GF hr2 rfl DF.at_ DF.fn.kp DF.bd .nil (passN hX) (za (pv 0) (za zf (za (pv 1) zc)))))
      (zd (wu (ps_if (zv op_eq (pe_op xp (zh GC hr1 rfl DC.at_ DC.fn.kp DC.bd .nil (passN hX) (za (pv 0) (za zf zc))) zf) zf (nomark _)) (zg (zk (i:=2) nd rfl (Or.inl rfl) (zh GA hr2 rfl DA.at_ DA.fn.kp DA.bd .nil (passN hX) (za (pv 0) (za zf (za (pv 1) zc)))))) zu))
      (zd (wu (ps_if (zv op_eq (pe_op xp (zh GC hr1 rfl DC.at_ DC.fn.kp DC.bd .nil (passN hX) (za (pv 0) (za zf zc))) zf) zf (nomark _)) (zg (zk (i:=3) nd rfl (Or.inl rfl) (zh GA hr2 rfl DA.at_ DA.fn.kp DA.bd .nil (passN hX) (za (pv 0) (za zf (za (pv 1) zc)))))) zu))
      (zd (zk (i:=4) nd rfl (Or.inl rfl) (pe_op xp (zh GC hr1 rfl DC.at_ DC.fn.kp DC.bd .nil (passN hX) (za (pv 0) (za zf zc))) zf))
      (zd (zk (i:=5) nd rfl (Or.inl rfl) (pe_op xp (zh GC hr1 rfl DC.at_ DC.fn.kp DC.bd .nil (passN hX) (za (pv 0) (za zf zc))) zf))
      (zd (wu (zk (i:=6) nd rfl (Or.inl rfl) (zng op_le op_le zf (pv 4) zf)))
      (zd (wu (ps_if (PW.pt (pw_or (zv op_eq (pv 5) zf (nomark _)) (zcy (zv op_eq (pv 5) zf (nomark _))))) (zg (zk (i:=2) nd rfl (Or.inl rfl) (zh GS hr1 rfl DS.at_ DS.fn.kp DS.bd .nil (passN hX) (za (pv 2) (za (zh GC hr1 rfl DC.at_ DC.fn.kp DC.bd .nil (passN hX) (za (pv 0) (za zf zc))) zc))))) zu))
      (zd (wu (ps_if (zv op_gt (pv 5) zf (nomark _)) (zg (zk (i:=3) nd rfl (Or.inl rfl) (zh GS hr1 rfl DS.at_ DS.fn.kp DS.bd .nil (passN hX) (za (pv 3) (za (zh GC hr1 rfl DC.at_ DC.fn.kp DC.bd .nil (passN hX) (za (pv 0) (za zf zc))) zc))))) zu))
      (zd (wu (ps_if (zv op_eq (pe_op xp (zh GC hr1 rfl DC.at_ DC.fn.kp DC.bd .nil (passN hX) (za (pv 0) (za zf zc))) zf) zf (nomark _)) (zg (zk (i:=1) nd rfl (Or.inl rfl) (pe_ix zw (ym (za (pe_op yu (pv 1) zf) (za (pe_op vv (pv 1) zf) (za zf (za (pe_un zg1 zf) (za zf zc)))))) (pe_op xp (zh GC hr1 rfl DC.at_ DC.fn.kp DC.bd .nil (passN hX) (za (pv 0) (za zf zc))) zf) (fun _ _=>rfl)))) zu))
      (zd (wu (zk (i:=7) nd rfl (Or.inl rfl) (pe_or (zeb (zh GG hr1 rfl DG.at_ DG.fn.kp DG.bd .nil (passN hX) (za (pv 1) (za (pv 2) zc)))) (zba (zb7 (pv 6) (zba (zeb (zh GG hr1 rfl DG.at_ DG.fn.kp DG.bd .nil (passN hX) (za (pv 1) (za (pv 3) zc))))))))))
      (zd (zk (i:=8) nd rfl (Or.inl rfl) zah)
      (zd (wu (ps_if (PW.pt (za9 (vt (vc (pv 7))) (za9 (vc (pv 6)) (zb6 (vc (zh GX hr2 rfl DX.at_ DX.fn.kp DX.bd .nil (passN hX) (za (pv 1) (za (pv 3) zc)))))))) (zg (zk (i:=8) nd rfl (Or.inl rfl) (pv 3))) zu))
      (zd (wu (ps_if (PW.pt (za9 (vt (vc (pv 7))) (zb6 (vc (zh GX hr2 rfl DX.at_ DX.fn.kp DX.bd .nil (passN hX) (za (pv 1) (za (pv 2) zc))))))) (zg (zk (i:=8) nd rfl (Or.inl rfl) (pv 2))) zu))
      (zd (zk (i:=9) nd rfl (Or.inl rfl) (ym (za (wc (g:=gName 0) (te:=eCopy) rfl (cpS (N:=["block"]) (js:=[none]) (defScope s_law) nLaw (by decide +kernel)) (y2 (pv 2))
            (by intros;exact zy (i:=0) za4 rfl (Or.inl rfl) (Or.inr rfl))
            (by
              intros
              refine (x9 zas (by rfl) B.list PyProof.Rows.boot_list (za (pv 0) zc)).imp fun τ H Q h=>?_
              obtain ⟨a,xs,e,ha,q⟩:=h
              exact ⟨_,e,a,xs,rfl,.inl (SqL.of ha),q⟩)) (za
          (wc (g:=gName 0) (te:=eCopy) rfl (cpS (N:=["block"]) (js:=[none]) (defScope s_law) nLaw (by decide +kernel)) (y2 (pv 3))
            (by intros;exact zy (i:=0) za4 rfl (Or.inl rfl) (Or.inr rfl))
            (by
              intros
              refine (x9 zas (by rfl) B.list PyProof.Rows.boot_list (za (pv 0) zc)).imp fun τ H Q h=>?_
              obtain ⟨a,xs,e,ha,q⟩:=h
              exact ⟨_,e,a,xs,rfl,.inl (SqL.of ha),q⟩)) zc))))
      (zd (zk (i:=10) nd rfl (Or.inl rfl) (zh GT hr rfl DT.at_ DT.fn.kp DT.bd .nil (passN hX) (za (pv 4) (za (pv 1) (za (pe_ix zw (pv 9) zf (fun _ _=>rfl)) (za (pe_ix zw (pv 9) zf (fun _ _=>rfl)) zc))))))
      (zd (ps_if (zv (zem enc_int.list.list.list hr.units) (pv 9) (ym (za (pv 2) (za (pv 3) zc))) (nomark _)) (zg (zt pe_bl)) zu)
      (zd (ps_if (vc (pv 7)) (zg (zt (x8 op_eq (pe_ix zaj (pv 10) zf (fun _ _=>rfl)) zf (nomark _)))) zu)
      (zd (ps_if (PW.pt (za9 (zv zde (pv 8) zah (nomark _)) (zb6 (zv op_lt (pv 4) zf (nomark _))))) (zg (zt (zb7 (x8 op_eq (pe_ix zaj (pv 10) zf (fun _ _=>rfl)) zf (nomark _)) (zba (zh GI hr2 rfl DI.at_ DI.fn.kp DI.bd .nil (passN hX) (za (pv 1) (za (pv 8) (za (pe_ix zaj (pv 10) zf (fun _ _=>rfl)) zc)))))))) zu)
      (zg (zt (x8 op_eq (pe_ix zaj (pv 10) zf (fun _ _=>rfl)) zf (nomark _)))))))))))))))))))))))),?_⟩
    refine ⟨_,rfl,a,ns,0,rfl,hS,_,_,rfl,rfl,(by show (0:Int)<9;decide),_,_,rfl,rfl,?_⟩
    obtain ⟨n0,hn0,hn9⟩:=natMod (ns.getD 0 0) 9 (by decide)
    show gName 1 (V.int (2+ns.getD 0 0 % 9)) _ _ _
    rw [show 2+ns.getD 0 0 % 9=((2+n0:Nat):Int) from by rw [show ns.getD 0 0 % 9=(n0:Int) from hn0];rfl]
    refine ⟨fun σ H'=>∃ n:Nat,2≤n∧n≤12∧σ=[some (.ref a),some (.int n),none,none,none,none,none,none,none,none,none]∧H=H',?_,?_⟩
    · refine ⟨_,rfl,a,ns,9,rfl,hS,_,_,rfl,rfl,(by show (0:Int)<8;decide),rfl,_,rfl,iteD (fun _=>?_) fun _=>⟨2+n0,by omega,by omega,rfl,rfl⟩⟩
      refine ⟨_,rfl,a,ns,0,rfl,hS,_,_,rfl,rfl,(by show (0:Int)<2;decide),_,_,rfl,rfl,?_⟩
      obtain ⟨k,hk,hk3⟩:=natMod (ns.getD 0 0) 2 (by decide)
      refine ⟨11+k,by omega,by omega,?_,rfl⟩
      show _=_
      rw [show ns.getD 0 0 % 2=(k:Int) from hk]
      rfl
    rintro σ H0 ⟨n,hn2,hn12,rfl,rfl⟩
    clear hn0 hn9
    have hn1000:n≤1000:=by omega
    refine ⟨_,rfl,_,rfl,a,ns,10,n,rfl,hS,hn1000,fun p1 H1 N1=>?_⟩
    refine ⟨_,rfl,_,rfl,a,ns,20,n,rfl,N1.same.seq hS,hn1000,fun p2 H2 N2=>?_⟩
    have s02:Same H H2:=N1.same.trans N2.same
    refine ⟨fun σ H3=>∃ (p1:Addr) (w1:List Nat),σ=[some (.ref a),some (.int n),some (.ref p1),some (.ref p2),none,none,none,none,none,none,none]∧w1.length=n∧Same H2 H3∧LL H3 p1 (zb (gather w1)),?_,?_⟩
    · refine ⟨_,rfl,a,ns,1,rfl,s02.seq hS,_,_,rfl,rfl,(by show (0:Int)<2;decide),rfl,_,rfl,iteD (fun h=>?_) fun h=>?_⟩
      · refine ⟨_,rfl,_,rfl,a,ns,10,n,rfl,s02.seq hS,hn1000,fun pb2 H3 N3=>?_⟩
        exact ⟨pb2,_,rfl,by rw [za0,wz],N3.same,N3.ll⟩
      · exact ⟨p1,_,rfl,by rw [zbx,wz],Same.refl _,N1.ll.mono N2.same⟩
    rintro σ H3 ⟨p1,w1,rfl,hw1,s23,L1⟩
    have s03:Same H H3:=s02.trans s23
    have L2':=N2.ll.mono s23
    refine ⟨fun σ H4=>∃ (p2:Addr) (w2:List Nat),σ=[some (.ref a),some (.int n),some (.ref p1),some (.ref p2),none,none,none,none,none,none,none]∧w2.length=n∧Same H3 H4∧LL H4 p2 (zb (gather w2)),?_,?_⟩
    · refine ⟨_,rfl,a,ns,2,rfl,s03.seq hS,_,_,rfl,rfl,(by show (0:Int)<2;decide),rfl,_,rfl,iteD (fun h=>?_) fun h=>?_⟩
      · refine ⟨_,rfl,_,rfl,a,ns,20,n,rfl,s03.seq hS,hn1000,fun pb2 H4 N4=>?_⟩
        exact ⟨pb2,_,rfl,by rw [za0,wz],N4.same,N4.ll⟩
      · exact ⟨p2,_,rfl,by rw [zbx,wz],Same.refl _,L2'⟩
    rintro σ H4 ⟨p2,w2,rfl,hw2,s34,L2⟩
    have s04:Same H H4:=s03.trans s34
    replace L1:=L1.mono s34
    clear L2' N1 N2 s23 s02 s03 s34
    refine ⟨_,rfl,a,ns,3,rfl,s04.seq hS,_,_,rfl,rfl,(by show (0:Int)<9;decide),?_⟩
    obtain ⟨wh,hwh,hwh9⟩:=natMod (ns.getD 3 0) 9 (by decide)
    show gName 4 (V.int (ns.getD 3 0 % 9)) _ _ _
    rw [show ns.getD 3 0 % 9=(wh:Int) from hwh]
    refine ⟨_,rfl,a,ns,4,rfl,s04.seq hS,_,_,rfl,rfl,(by show (0:Int)<4;decide),?_⟩
    show gName 5 (V.int (ns.getD 4 0 % 4)) _ _ _
    generalize ns.getD 4 0 % 4=ft
    refine ⟨fun σ H'=>∃ tw:Bool,(tw=true↔5≤wh∧wh≤7)∧σ=[some (.ref a),some (.int n),some (.ref p1),some (.ref p2),some (.int wh),some (.int ft),some (.bl tw),none,none,none,none]∧H4=H',?_,?_⟩
    · refine ⟨_,rfl,_,_,rfl,rfl,_,rfl,iteD (fun h5=>?_) fun h5=>?_⟩
      · refine ⟨_,_,rfl,rfl,decide ((wh:Int)≤7),?_,rfl,rfl⟩
        rw [decide_eq_true_iff]
        omega
      · exact ⟨false,⟨(fun z=>nomatch z),fun z=>absurd (show (5:Int)≤(wh:Int) by omega) h5⟩,rfl,rfl⟩
    rintro σ H5 ⟨tw,htw,rfl,rfl⟩
    clear hwh
    refine ⟨fun σ H'=>∃ (p1:Addr) (bs:List (List Int)),σ=[some (.ref a),some (.int n),some (.ref p1),some (.ref p2),some (.int wh),some (.int ft),some (.bl tw),none,none,none,none]∧Same H4 H'∧AnyL H' p1 bs,?_,?_⟩
    · have keep:∃ (p1':Addr) (bs:List (List Int)),([some (.ref a),some (.int n),some (.ref p1),some (.ref p2),some (.int wh),some (.int ft),some (.bl tw),none,none,none,none]:St)=[some (.ref a),some (.int n),some (.ref p1'),some (.ref p2),some (.int wh),some (.int ft),some (.bl tw),none,none,none,none]∧Same H4 H4∧AnyL H4 p1' bs :=
        ⟨p1,_,rfl,Same.refl _,zj0 L1 (by omega)⟩
      refine ⟨_,rfl,rfl,_,rfl,iteD (fun _=>iteT ?_) fun _=>⟨_,rfl,rfl,_,rfl,iteD (fun _=>?_) fun _=>keep⟩⟩
      · refine ⟨_,rfl,_,rfl,a,ns,5,rfl,s04.seq hS,p1,_,_,rfl,L1,(za5 (by omega)).1,(za5 (by omega)).2,by rw [w4];omega,fun r bs' H' s' hL'=>⟨r,bs',rfl,s',hL'⟩⟩
      · refine ⟨_,rfl,_,rfl,a,ns,5,rfl,s04.seq hS,p1,_,_,rfl,L1,(za5 (by omega)).1,(za5 (by omega)).2,by rw [w4];omega,fun r bs' H' s' hL'=>⟨r,bs',rfl,s',hL'⟩⟩
    rintro σ H5 ⟨p1,bs,rfl,s45,A1⟩
    have s05:=s04.trans s45
    replace L2:=L2.mono s45
    clear L1
    refine ⟨fun σ H'=>∃ (p2:Addr) (cs:List (List Int)),σ=[some (.ref a),some (.int n),some (.ref p1),some (.ref p2),some (.int wh),some (.int ft),some (.bl tw),none,none,none,none]∧Same H5 H'∧AnyL H' p2 cs,?_,?_⟩
    · refine ⟨_,rfl,_,_,rfl,rfl,_,rfl,iteD (fun _=>?_) fun _=>⟨p2,_,rfl,Same.refl _,zj0 L2 (by omega)⟩⟩
      refine ⟨_,rfl,_,rfl,a,ns,6,rfl,s05.seq hS,p2,_,_,rfl,L2,(za5 (by omega)).1,(za5 (by omega)).2,by rw [w4];omega,fun r bs' H' s' hL'=>⟨r,bs',rfl,s',hL'⟩⟩
    rintro σ H6 ⟨p2,cs,rfl,s56,A2⟩
    have s06:=s05.trans s56
    replace A1:=A1.mono s56
    clear L2
    refine ⟨fun σ H'=>∃ m:Int,σ=[some (.ref a),some (.int m),some (.ref p1),some (.ref p2),some (.int wh),some (.int ft),some (.bl tw),none,none,none,none]∧Same H6 H',?_,?_⟩
    · refine ⟨_,rfl,a,ns,7,rfl,s06.seq hS,_,_,rfl,rfl,(by show (0:Int)<5;decide),rfl,_,rfl,iteD (fun _=>?_) fun _=>⟨n,rfl,Same.refl _⟩⟩
      refine ⟨_,rfl,_,_,rfl,rfl,_,rfl,_,_,rfl,rfl,_,rfl,by show 5≤sizeLine;decide,fun l hl=>?_⟩
      obtain ⟨k,hk,hk5⟩:=natMod (ns.getD 8 0) 5 (by decide)
      obtain ⟨m,hm⟩:∃ m:Int,atI [V.int ((n:Int)+1),V.int ((n:Int) - 1),V.int 11,V.int (-100),V.int 100] (ns.getD 8 0 % 5)=some (.int m):=by
        rw [show ns.getD 8 0 % 5=(k:Int) from hk]
        have h5:k=0∨k=1∨k=2∨k=3∨k=4:=by omega
        rcases h5 with rfl | rfl | rfl | rfl | rfl <;> exact ⟨_,rfl⟩
      have t1:=Same.new (o:=.lst [V.int ((n:Int)+1),V.int ((n:Int) - 1),V.int 11,V.int (-100),V.int 100]) hl
      exact ⟨_,rfl,a,ns,8,rfl,(s06.trans t1).seq hS,_,_,rfl,rfl,(by show (0:Int)<5;decide),l,_,_,_,rfl,rfl,SqL.of ze,hm,m,rfl,t1⟩
    rintro σ H7 ⟨m,rfl,s67⟩
    have s07:=s06.trans s67
    replace A1:=A1.mono s67
    replace A2:=A2.mono s67
    refine ⟨fun σ H'=>∃ bd:Bool,(bd=true↔Bad wh m bs cs)∧σ=[some (.ref a),some (.int m),some (.ref p1),some (.ref p2),some (.int wh),some (.int ft),some (.bl tw),some (.bl bd),none,none,none]∧Same H7 H',?_,?_⟩
    · refine ⟨_,rfl,_,rfl,m,p1,bs,rfl,A1.ll,A1.z1,A1.z2,fun b1 H8 s8 hb1=>⟨b1,rfl,_,rfl,?_⟩⟩
      cases b1 with
      | false=>exact iteT ⟨true,⟨fun _=>.inl fun z=>absurd (hb1.mpr z) (by decide),fun _=>rfl⟩,rfl,s8⟩
      | true =>
        have hP:=hb1.mp rfl
        refine iteF ⟨_,rfl,tw,rfl,?_⟩
        cases tw with
        | false=>exact iteF ⟨false,⟨(fun z=>nomatch z),fun z=>z.elim (fun y=>absurd hP y) fun y=>absurd (htw.mpr ⟨y.1,y.2.1⟩) (by decide)⟩,rfl,s8⟩
        | true =>
          obtain ⟨h5,h7⟩:=htw.mp rfl
          refine iteT ⟨_,rfl,_,rfl,m,p2,cs,rfl,(A2.mono s8).ll,A2.z1,A2.z2,fun b2 H9 s9 hb2=>⟨b2,rfl,!b2,?_,rfl,s8.trans s9⟩⟩
          constructor
          · intro z
            exact .inr ⟨h5,h7,fun y=>by rw [hb2.mpr y] at z;cases z⟩
          · intro z
            rcases z with y | y
            · exact absurd hP y
            · cases b2 with
              | false=>rfl
              | true=>exact absurd (hb2.mp rfl) y.2.2
    rintro σ H8 ⟨bd,hbd,rfl,s78⟩
    have s08:=s07.trans s78
    replace A1:=A1.mono s78
    replace A2:=A2.mono s78
    refine ⟨fun σ H'=>∃ c8:V,σ=[some (.ref a),some (.int m),some (.ref p1),some (.ref p2),some (.int wh),some (.int ft),some (.bl tw),some (.bl bd),some c8,none,none]∧Same H8 H' ∧
      (bd=true∨(bd=false∧(((5≤wh∧wh≤7)∧(∃ v,Wd m cs v∧¬ Free v)∧c8=.ref p2)∨((5≤wh∧wh≤7→∃ v,Wd m cs v∧Free v)∧c8=.non)))),?_,?_⟩
    · refine ⟨_,rfl,bd,rfl,?_⟩
      cases bd with
      | true=>exact iteF (iteF ⟨_,rfl,Same.refl _,.inl rfl⟩)
      | false =>
        refine iteT ⟨_,rfl,tw,rfl,?_⟩
        cases tw with
        | false=>exact iteF (iteF ⟨_,rfl,Same.refl _,.inr ⟨rfl,.inr ⟨fun z=>absurd (htw.mpr z) (by decide),rfl⟩⟩⟩)
        | true =>
          have h57:=htw.mp rfl
          have hB:¬ Bad wh m bs cs:=fun z=>absurd (hbd.mpr z) (by decide)
          obtain ⟨v,hV⟩:=wd_of (Classical.byContradiction fun z=>hB (.inr ⟨h57.1,h57.2,z⟩))
          refine iteT ⟨_,rfl,_,rfl,p2,v,by rw [hV.1];rfl,hV.2.1 ▸ A2.ll,by have:=hV.2.2;omega,fun hF H9 s9=>⟨_,rfl,iteF ?_⟩,fun hF H9 s9=>⟨_,rfl,iteT ⟨_,rfl,?_⟩⟩⟩
          · exact ⟨_,rfl,s9,.inr ⟨rfl,.inr ⟨fun _=>⟨v,hV,hF⟩,rfl⟩⟩⟩
          · exact ⟨_,rfl,s9,.inr ⟨rfl,.inl ⟨h57,⟨v,hV,hF⟩,rfl⟩⟩⟩
    rintro σ H9 ⟨c8,rfl,s89,h15⟩
    have s09:=s08.trans s89
    replace A1:=A1.mono s89
    replace A2:=A2.mono s89
    refine ⟨fun σ H'=>∃ d8:V,σ=[some (.ref a),some (.int m),some (.ref p1),some (.ref p2),some (.int wh),some (.int ft),some (.bl tw),some (.bl bd),some d8,none,none]∧Same H9 H' ∧
      ((bd=true∧Bad wh m bs cs)∨(bd=false∧EndC wh m bs cs H9 d8)),?_,?_⟩
    · refine ⟨_,rfl,bd,rfl,?_⟩
      cases bd with
      | true=>exact iteF (iteF ⟨_,rfl,Same.refl _,.inl ⟨rfl,hbd.mp rfl⟩⟩)
      | false =>
        have hB:¬ Bad wh m bs cs:=fun z=>absurd (hbd.mpr z) (by decide)
        have h15':=h15.elim (fun z=>nomatch z) fun z=>z.2
        obtain ⟨u,hW⟩:=wd_of (Classical.byContradiction fun z=>hB (.inl z))
        refine iteT ⟨_,rfl,_,rfl,p1,u,by rw [hW.1];rfl,hW.2.1 ▸ A1.ll,by have:=hW.2.2;omega,fun hF H10 s10=>⟨_,rfl,iteF ?_⟩,fun hF H10 s10=>⟨_,rfl,iteT ⟨_,rfl,?_⟩⟩⟩
        · exact ⟨_,rfl,s10,.inr ⟨rfl,znd hB hW A1.ll A2.ll h15' (.inr ⟨hF,rfl⟩)⟩⟩
        · exact ⟨_,rfl,s10,.inr ⟨rfl,znd hB hW A1.ll A2.ll h15' (.inl ⟨hF,rfl⟩)⟩⟩
    rintro σ H10 ⟨d8,rfl,s910,hend⟩
    have B1:=A1.mono s910
    have B2:=A2.mono s910
    clear h15
    obtain ⟨as1,hp1,hbs1⟩:=id B1.ll
    refine ⟨_,rfl,p1,rfl,⟨_,SqL.of hp1⟩,fun q1 hq1=>zdv B1.ll hq1 B1.z1 fun H11 N11=>?_⟩
    obtain ⟨as2,hp2,hbs2⟩:=id (B2.mono N11.same).ll
    refine ⟨_,rfl,p2,rfl,⟨_,SqL.of hp2⟩,fun q2 hq2=>zdv (B2.mono N11.same).ll hq2 B2.z1 fun H12 N12=>?_⟩
    refine ⟨by show 2≤sizeLine;decide,fun ph hph=>?_⟩
    have s13:=Same.new (o:=.lst [.ref q1,.ref q2]) hph
    have hh:(upd H12 ph (.lst [.ref q1,.ref q2])) ph=some (.lst [.ref q1,.ref q2]):=ze
    have s1013:=(N11.same.trans N12.same).trans s13
    have C1':AnyL _ q1 bs:=⟨(N11.ll.mono N12.same).mono s13,B1.z1,B1.z2,B1.z3⟩
    have C2':AnyL _ q2 cs:=⟨N12.ll.mono s13,B2.z1,B2.z2,B2.z3⟩
    have s913:=s910.trans s1013
    replace B1:=B1.mono s1013
    replace B2:=B2.mono s1013
    generalize upd H12 ph (.lst [.ref q1,.ref q2])=H13 at hh C1' C2' B1 B2 s913 ⊢
    refine ⟨_,rfl,_,rfl,_,rfl,ph,_,0,_,rfl,rfl,SqL.of hh,rfl,_,rfl,ph,_,1,_,rfl,rfl,SqL.of hh,rfl,wh,m,q1,q2,bs,cs,rfl,hwh9,C1',C2',?_⟩
    rcases hend with ⟨rfl,hB⟩ | ⟨rfl,⟨u,pc,hC,rfl,h7,hm,hu,Lc⟩ | ⟨hFi,hd8⟩⟩
    · refine .inl ⟨hB,fun r H14 s14 hr'=>?_⟩
      refine ⟨_,rfl,_,rfl,_,rfl,by show 2≤sizeLine;decide,fun r1 hr1'=>?_⟩
      have t1:=Same.new (o:=.lst [.ref p1,.ref p2]) hr1'
      have s15:=s14.trans t1
      refine ⟨[bs,cs],[bs,cs],zad (SqL.of (s15 _ _ hh)) (.cons (rd_LL (C1'.mono s15).ll) (.cons (rd_LL (C2'.mono s15).ll) .nil)),zad (SqL.of ze) (.cons (rd_LL (B1.mono s15).ll) (.cons (rd_LL (B2.mono s15).ll) .nil)),_,rfl,iteNS rfl ?_⟩
      refine ⟨_,rfl,_,rfl,iteT ?_⟩
      exact ⟨_,rfl,r,_,0,_,rfl,rfl,SqT.of (t1 _ _ hr'),rfl,rfl,q _⟩
    · refine .inr (.inl ⟨u,hC,fun r t xa xb xc xd H14 s14 hr' ht x=>?_⟩)
      refine ⟨_,rfl,_,rfl,_,rfl,by show 2≤sizeLine;decide,fun r1 hr1'=>?_⟩
      have t1:=Same.new (o:=.lst [.ref p1,.ref p2]) hr1'
      have s15:=s14.trans t1
      refine ⟨[bs,cs],[bs,cs],zad (SqL.of (s15 _ _ hh)) (.cons (rd_LL (C1'.mono s15).ll) (.cons (rd_LL (C2'.mono s15).ll) .nil)),zad (SqL.of ze) (.cons (rd_LL (B1.mono s15).ll) (.cons (rd_LL (B2.mono s15).ll) .nil)),_,rfl,iteNS rfl ?_⟩
      refine ⟨_,rfl,_,rfl,iteF ?_⟩
      refine ⟨_,rfl,rfl,_,rfl,iteT ⟨_,rfl,_,_,rfl,rfl,_,rfl,iteD (fun _=>?_) fun z=>absurd (show (wh:Int)<7 by omega) z⟩⟩
      refine ⟨_,rfl,r,_,0,_,rfl,rfl,SqT.of (t1 _ _ hr'),rfl,rfl,_,rfl,iteT ?_⟩
      exact ⟨_,rfl,_,rfl,_,rfl,r,_,1,_,rfl,rfl,SqT.of (t1 _ _ hr'),rfl,pc,t,u,xa,xb,xc,xd,by rw [hm];rfl,Lc.mono (s913.trans s15),hu,t1 _ _ ht,x,fun H16 s16=>q H16⟩
    · refine .inr (.inr ⟨hFi,fun r H14 s14 hr'=>?_⟩)
      refine ⟨_,rfl,_,rfl,_,rfl,by show 2≤sizeLine;decide,fun r1 hr1'=>?_⟩
      have t1:=Same.new (o:=.lst [.ref p1,.ref p2]) hr1'
      have s15:=s14.trans t1
      refine ⟨[bs,cs],[bs,cs],zad (SqL.of (s15 _ _ hh)) (.cons (rd_LL (C1'.mono s15).ll) (.cons (rd_LL (C2'.mono s15).ll) .nil)),zad (SqL.of ze) (.cons (rd_LL (B1.mono s15).ll) (.cons (rd_LL (B2.mono s15).ll) .nil)),_,rfl,iteNS rfl ?_⟩
      refine ⟨_,rfl,_,rfl,iteF ?_⟩
      refine ⟨_,rfl,rfl,_,rfl,iteND (fun hne=>⟨_,rfl,_,_,rfl,rfl,_,rfl,iteD (fun z=>?_) fun _=>?_⟩) fun _=>iteF ?_⟩
      · exfalso
        rcases hd8 with y | y
        · exact hne y
        · omega
      · exact ⟨_,rfl,r,_,0,_,rfl,rfl,SqT.of (t1 _ _ hr'),rfl,rfl,q _⟩
      · exact ⟨_,rfl,r,_,0,_,rfl,rfl,SqT.of (t1 _ _ hr'),rfl,rfl,q _⟩
end
end NCP
namespace NCP
open PySem L2 NC
theorem zq5 {l:PySem.W.OpenLaw} {w:World} {K:PySem.W.Frag} {h:Heap} {mg:Str→Option Value} {fa f0 f1 f2 f3 f4 f5 f6 f7 f8 f9 f10 f11 f12 f13 f14 f15 f16 f17 f18 f19 f20 f21 f22 f23 f24 f25 f26 f27 f28 f29 f30 f31 f32 f33 f34 f35 f36 f37 f38 f39 f40:Addr} (X:K.In h) (G:h.Ns mainGlobals mg) (hfa:mg "law"=some (.ref fa))
    {od0 an0 od1 an1 od2 an2 od3 an3 od4 an4 od5 an5 od6 an6 od7 an7 od8 an8 od9 an9 od10 an10 od11 an11 od12 an12 od13 an13 od14 an14 od15 an15 od16 an16 od17 an17 od18 an18 od19 an19 od20 an20 od21 an21 od22 an22 od23 an23 od24 an24 od25 an25 od26 an26 od27 an27 od28 an28 od29 an29 od30 an30 od31 an31 od32 an32 od33 an33 od34 an34 od35 an35 od36 an36 od37 an37 od38 an38 od39 an39 od40 an40:Option Addr} {sl0 sl1 sl2 sl3 sl4 sl5 sl6 sl7 sl8 sl9 sl10 sl11 sl12 sl13 sl14 sl15 sl16 sl17 sl18 sl19 sl20 sl21 sl22 sl23 sl24 sl25 sl26 sl27 sl28 sl29 sl30 sl31 sl32 sl33 sl34 sl35 sl36 sl37 sl38 sl39 sl40:Array (Option Value)}
    {oc0 kV0 dc0 pm0 cd0 ct0 oc1 kV1 dc1 pm1 cd1 ct1 oc2 kV2 dc2 pm2 cd2 ct2 oc3 kV3 dc3 pm3 cd3 ct3 oc4 kV4 dc4 pm4 cd4 ct4 oc5 kV5 dc5 pm5 cd5 ct5 oc6 kV6 dc6 pm6 cd6 ct6 oc7 kV7 dc7 pm7 cd7 ct7 oc8 kV8 dc8 pm8 cd8 ct8 oc9 kV9 dc9 pm9 cd9 ct9 oc10 kV10 dc10 pm10 cd10 ct10 oc11 kV11 dc11 pm11 cd11 ct11 oc12 kV12 dc12 pm12 cd12 ct12 oc13 kV13 dc13 pm13 cd13 ct13 oc14 kV14 dc14 pm14 cd14 ct14 oc15 kV15 dc15 pm15 cd15 ct15 oc16 kV16 dc16 pm16 cd16 ct16 oc17 kV17 dc17 pm17 cd17 ct17 oc18 kV18 dc18 pm18 cd18 ct18 oc19 kV19 dc19 pm19 cd19 ct19 oc20 kV20 dc20 pm20 cd20 ct20 oc21 kV21 dc21 pm21 cd21 ct21 oc22 kV22 dc22 pm22 cd22 ct22 oc23 kV23 dc23 pm23 cd23 ct23 oc24 kV24 dc24 pm24 cd24 ct24 oc25 kV25 dc25 pm25 cd25 ct25 oc26 kV26 dc26 pm26 cd26 ct26 oc27 kV27 dc27 pm27 cd27 ct27 oc28 kV28 dc28 pm28 cd28 ct28 oc29 kV29 dc29 pm29 cd29 ct29 oc30 kV30 dc30 pm30 cd30 ct30 oc31 kV31 dc31 pm31 cd31 ct31 oc32 kV32 dc32 pm32 cd32 ct32 oc33 kV33 dc33 pm33 cd33 ct33 oc34 kV34 dc34 pm34 cd34 ct34 oc35 kV35 dc35 pm35 cd35 ct35 oc36 kV36 dc36 pm36 cd36 ct36 oc37 kV37 dc37 pm37 cd37 ct37 oc38 kV38 dc38 pm38 cd38 ct38 oc39 kV39 dc39 pm39 cd39 ct39 oc40 kV40 dc40 pm40 cd40 ct40:Value}
    {tMOST_POINTS:Tok}
    {R C0 C1 C2 C3 FI:Addr} {ocM kVM dcM pmM cdM ctM:Value} {odM anM:Option Addr} {slM:Array (Option Value)} {tFIG:Tok}
    (a0:PySem.W.nsIn K mainGlobals "rises"=some (some (.ref f0))) (l0:K.lookup f0=some ⟨oc0,od0,.func (PySem.W.fnOf "rises" "rises" (defArgs v9) (defBody v9) (defScope v9) .none kV0 dc0 pm0 an0 cd0 ct0),sl0⟩) (c0:PySem.W.codeIn K cd0 "rises"=true) (k0:PySem.W.keepIn K (.ref f0)=true)
    (a1:PySem.W.nsIn K mainGlobals "points_in"=some (some (.ref f1))) (l1:K.lookup f1=some ⟨oc1,od1,.func (PySem.W.fnOf "points_in" "points_in" (defArgs wk) (defBody wk) (defScope wk) .none kV1 dc1 pm1 an1 cd1 ct1),sl1⟩) (c1:PySem.W.codeIn K cd1 "points_in"=true) (k1:PySem.W.keepIn K (.ref f1)=true)
    (a2:PySem.W.nsIn K mainGlobals "is_parting"=some (some (.ref f2))) (l2:K.lookup f2=some ⟨oc2,od2,.func (PySem.W.fnOf "is_parting" "is_parting" (defArgs yx) (defBody yx) (defScope yx) .none kV2 dc2 pm2 an2 cd2 ct2),sl2⟩) (c2:PySem.W.codeIn K cd2 "is_parting"=true) (k2:PySem.W.keepIn K (.ref f2)=true)
    (a3:PySem.W.nsIn K mainGlobals "refuse_no_parting"=some (some (.ref f3))) (l3:K.lookup f3=some ⟨oc3,od3,.func (PySem.W.fnOf "refuse_no_parting" "refuse_no_parting" (defArgs zr) (defBody zr) (defScope zr) .none kV3 dc3 pm3 an3 cd3 ct3),sl3⟩) (c3:PySem.W.codeIn K cd3 "refuse_no_parting"=true) (k3:PySem.W.keepIn K (.ref f3)=true)
    (a4:PySem.W.nsIn K mainGlobals "block_places"=some (some (.ref f4))) (l4:K.lookup f4=some ⟨oc4,od4,.func (PySem.W.fnOf "block_places" "block_places" (defArgs yg) (defBody yg) (defScope yg) .none kV4 dc4 pm4 an4 cd4 ct4),sl4⟩) (c4:PySem.W.codeIn K cd4 "block_places"=true) (k4:PySem.W.keepIn K (.ref f4)=true)
    (a5:PySem.W.nsIn K mainGlobals "blocks_by"=some (some (.ref f5))) (l5:K.lookup f5=some ⟨oc5,od5,.func (PySem.W.fnOf "blocks_by" "blocks_by" (defArgs yw) (defBody yw) (defScope yw) .none kV5 dc5 pm5 an5 cd5 ct5),sl5⟩) (c5:PySem.W.codeIn K cd5 "blocks_by"=true) (k5:PySem.W.keepIn K (.ref f5)=true)
    (a6:PySem.W.nsIn K mainGlobals "first_crossing"=some (some (.ref f6))) (l6:K.lookup f6=some ⟨oc6,od6,.func (PySem.W.fnOf "first_crossing" "first_crossing" (defArgs yn) (defBody yn) (defScope yn) .none kV6 dc6 pm6 an6 cd6 ct6),sl6⟩) (c6:PySem.W.codeIn K cd6 "first_crossing"=true) (k6:PySem.W.keepIn K (.ref f6)=true)
    (a7:PySem.W.nsIn K mainGlobals "refuse_crossing"=some (some (.ref f7))) (l7:K.lookup f7=some ⟨oc7,od7,.func (PySem.W.fnOf "refuse_crossing" "refuse_crossing" (defArgs yc) (defBody yc) (defScope yc) .none kV7 dc7 pm7 an7 cd7 ct7),sl7⟩) (c7:PySem.W.codeIn K cd7 "refuse_crossing"=true) (k7:PySem.W.keepIn K (.ref f7)=true)
    (a8:PySem.W.nsIn K mainGlobals "refuse_unless_free"=some (some (.ref f8))) (l8:K.lookup f8=some ⟨oc8,od8,.func (PySem.W.fnOf "refuse_unless_free" "refuse_unless_free" (defArgs zo) (defBody zo) (defScope zo) .none kV8 dc8 pm8 an8 cd8 ct8),sl8⟩) (c8:PySem.W.codeIn K cd8 "refuse_unless_free"=true) (k8:PySem.W.keepIn K (.ref f8)=true)
    (a9:PySem.W.nsIn K mainGlobals "order_of"=some (some (.ref f9))) (l9:K.lookup f9=some ⟨oc9,od9,.func (PySem.W.fnOf "order_of" "order_of" (defArgs xf) (defBody xf) (defScope xf) .none kV9 dc9 pm9 an9 cd9 ct9),sl9⟩) (c9:PySem.W.codeIn K cd9 "order_of"=true) (k9:PySem.W.keepIn K (.ref f9)=true)
    (a10:PySem.W.nsIn K mainGlobals "lies_within"=some (some (.ref f10))) (l10:K.lookup f10=some ⟨oc10,od10,.func (PySem.W.fnOf "lies_within" "lies_within" (defArgs y4) (defBody y4) (defScope y4) .none kV10 dc10 pm10 an10 cd10 ct10),sl10⟩) (c10:PySem.W.codeIn K cd10 "lies_within"=true) (k10:PySem.W.keepIn K (.ref f10)=true)
    (a11:PySem.W.nsIn K mainGlobals "below"=some (some (.ref f11))) (l11:K.lookup f11=some ⟨oc11,od11,.func (PySem.W.fnOf "below" "below" (defArgs va) (defBody va) (defScope va) .none kV11 dc11 pm11 an11 cd11 ct11),sl11⟩) (c11:PySem.W.codeIn K cd11 "below"=true) (k11:PySem.W.keepIn K (.ref f11)=true)
    (a12:PySem.W.nsIn K mainGlobals "refuse_unless_both_free"=some (some (.ref f12))) (l12:K.lookup f12=some ⟨oc12,od12,.func (PySem.W.fnOf "refuse_unless_both_free" "refuse_unless_both_free" (defArgs zq) (defBody zq) (defScope zq) .none kV12 dc12 pm12 an12 cd12 ct12),sl12⟩) (c12:PySem.W.codeIn K cd12 "refuse_unless_both_free"=true) (k12:PySem.W.keepIn K (.ref f12)=true)
    (a13:PySem.W.nsIn K mainGlobals "met"=some (some (.ref f13))) (l13:K.lookup f13=some ⟨oc13,od13,.func (PySem.W.fnOf "met" "met" (defArgs s_met) (defBody s_met) (defScope s_met) .none kV13 dc13 pm13 an13 cd13 ct13),sl13⟩) (c13:PySem.W.codeIn K cd13 "met"=true) (k13:PySem.W.keepIn K (.ref f13)=true)
    (a14:PySem.W.nsIn K mainGlobals "made_one"=some (some (.ref f14))) (l14:K.lookup f14=some ⟨oc14,od14,.func (PySem.W.fnOf "made_one" "made_one" (defArgs xu) (defBody xu) (defScope xu) .none kV14 dc14 pm14 an14 cd14 ct14),sl14⟩) (c14:PySem.W.codeIn K cd14 "made_one"=true) (k14:PySem.W.keepIn K (.ref f14)=true)
    (a15:PySem.W.nsIn K mainGlobals "made_free"=some (some (.ref f15))) (l15:K.lookup f15=some ⟨oc15,od15,.func (PySem.W.fnOf "made_free" "made_free" (defArgs wl) (defBody wl) (defScope wl) .none kV15 dc15 pm15 an15 cd15 ct15),sl15⟩) (c15:PySem.W.codeIn K cd15 "made_free"=true) (k15:PySem.W.keepIn K (.ref f15)=true)
    (a16:PySem.W.nsIn K mainGlobals "joined"=some (some (.ref f16))) (l16:K.lookup f16=some ⟨oc16,od16,.func (PySem.W.fnOf "joined" "joined" (defArgs w6) (defBody w6) (defScope w6) .none kV16 dc16 pm16 an16 cd16 ct16),sl16⟩) (c16:PySem.W.codeIn K cd16 "joined"=true) (k16:PySem.W.keepIn K (.ref f16)=true)
    (a17:PySem.W.nsIn K mainGlobals "order_back"=some (some (.ref f17))) (l17:K.lookup f17=some ⟨oc17,od17,.func (PySem.W.fnOf "order_back" "order_back" (defArgs xj) (defBody xj) (defScope xj) .none kV17 dc17 pm17 an17 cd17 ct17),sl17⟩) (c17:PySem.W.codeIn K cd17 "order_back"=true) (k17:PySem.W.keepIn K (.ref f17)=true)
    (a18:PySem.W.nsIn K mainGlobals "round_labels"=some (some (.ref f18))) (l18:K.lookup f18=some ⟨oc18,od18,.func (PySem.W.fnOf "round_labels" "round_labels" (defArgs xg) (defBody xg) (defScope xg) .none kV18 dc18 pm18 an18 cd18 ct18),sl18⟩) (c18:PySem.W.codeIn K cd18 "round_labels"=true) (k18:PySem.W.keepIn K (.ref f18)=true)
    (a19:PySem.W.nsIn K mainGlobals "contrary"=some (some (.ref f19))) (l19:K.lookup f19=some ⟨oc19,od19,.func (PySem.W.fnOf "contrary" "contrary" (defArgs xw) (defBody xw) (defScope xw) .none kV19 dc19 pm19 an19 cd19 ct19),sl19⟩) (c19:PySem.W.codeIn K cd19 "contrary"=true) (k19:PySem.W.keepIn K (.ref f19)=true)
    (a20:PySem.W.nsIn K mainGlobals "turned"=some (some (.ref f20))) (l20:K.lookup f20=some ⟨oc20,od20,.func (PySem.W.fnOf "turned" "turned" (defArgs w8) (defBody w8) (defScope w8) .none kV20 dc20 pm20 an20 cd20 ct20),sl20⟩) (c20:PySem.W.codeIn K cd20 "turned"=true) (k20:PySem.W.keepIn K (.ref f20)=true)
    (a21:PySem.W.nsIn K mainGlobals "endings"=some (some (.ref f21))) (l21:K.lookup f21=some ⟨oc21,od21,.func (PySem.W.fnOf "endings" "endings" (defArgs wy) (defBody wy) (defScope wy) .none kV21 dc21 pm21 an21 cd21 ct21),sl21⟩) (c21:PySem.W.codeIn K cd21 "endings"=true) (k21:PySem.W.keepIn K (.ref f21)=true)
    (a22:PySem.W.nsIn K mainGlobals "choices"=some (some (.ref f22))) (l22:K.lookup f22=some ⟨oc22,od22,.func (PySem.W.fnOf "choices" "choices" (defArgs vg) (defBody vg) (defScope vg) .none kV22 dc22 pm22 an22 cd22 ct22),sl22⟩) (c22:PySem.W.codeIn K cd22 "choices"=true) (k22:PySem.W.keepIn K (.ref f22)=true)
    (a23:PySem.W.nsIn K mainGlobals "ways_within"=some (some (.ref f23))) (l23:K.lookup f23=some ⟨oc23,od23,.func (PySem.W.fnOf "ways_within" "ways_within" (defArgs xm) (defBody xm) (defScope xm) .none kV23 dc23 pm23 an23 cd23 ct23),sl23⟩) (c23:PySem.W.codeIn K cd23 "ways_within"=true) (k23:PySem.W.keepIn K (.ref f23)=true)
    (a24:PySem.W.nsIn K mainGlobals "ways_up"=some (some (.ref f24))) (l24:K.lookup f24=some ⟨oc24,od24,.func (PySem.W.fnOf "ways_up" "ways_up" (defArgs wt) (defBody wt) (defScope wt) .none kV24 dc24 pm24 an24 cd24 ct24),sl24⟩) (c24:PySem.W.codeIn K cd24 "ways_up"=true) (k24:PySem.W.keepIn K (.ref f24)=true)
    (a25:PySem.W.nsIn K mainGlobals "number_of"=some (some (.ref f25))) (l25:K.lookup f25=some ⟨oc25,od25,.func (PySem.W.fnOf "number_of" "number_of" (defArgs y6) (defBody y6) (defScope y6) .none kV25 dc25 pm25 an25 cd25 ct25),sl25⟩) (c25:PySem.W.codeIn K cd25 "number_of"=true) (k25:PySem.W.keepIn K (.ref f25)=true)
    (a26:PySem.W.nsIn K mainGlobals "block_shown"=some (some (.ref f26))) (l26:K.lookup f26=some ⟨oc26,od26,.func (PySem.W.fnOf "block_shown" "block_shown" (defArgs y8) (defBody y8) (defScope y8) .none kV26 dc26 pm26 an26 cd26 ct26),sl26⟩) (c26:PySem.W.codeIn K cd26 "block_shown"=true) (k26:PySem.W.keepIn K (.ref f26)=true)
    (a27:PySem.W.nsIn K mainGlobals "shown"=some (some (.ref f27))) (l27:K.lookup f27=some ⟨oc27,od27,.func (PySem.W.fnOf "shown" "shown" (defArgs vb) (defBody vb) (defScope vb) .none kV27 dc27 pm27 an27 cd27 ct27),sl27⟩) (c27:PySem.W.codeIn K cd27 "shown"=true) (k27:PySem.W.keepIn K (.ref f27)=true)
    (a28:PySem.W.nsIn K mainGlobals "_law_cell_at"=some (some (.ref f28))) (l28:K.lookup f28=some ⟨oc28,od28,.func (PySem.W.fnOf "_law_cell_at" "_law_cell_at" (defArgs yy) (defBody yy) (defScope yy) .none kV28 dc28 pm28 an28 cd28 ct28),sl28⟩) (c28:PySem.W.codeIn K cd28 "_law_cell_at"=true) (k28:PySem.W.keepIn K (.ref f28)=true)
    (a29:PySem.W.nsIn K mainGlobals "_law_gathered"=some (some (.ref f29))) (l29:K.lookup f29=some ⟨oc29,od29,.func (PySem.W.fnOf "_law_gathered" "_law_gathered" (defArgs yz) (defBody yz) (defScope yz) .none kV29 dc29 pm29 an29 cd29 ct29),sl29⟩) (c29:PySem.W.codeIn K cd29 "_law_gathered"=true) (k29:PySem.W.keepIn K (.ref f29)=true)
    (a30:PySem.W.nsIn K mainGlobals "_law_free_by"=some (some (.ref f30))) (l30:K.lookup f30=some ⟨oc30,od30,.func (PySem.W.fnOf "_law_free_by" "_law_free_by" (defArgs xn) (defBody xn) (defScope xn) .none kV30 dc30 pm30 an30 cd30 ct30),sl30⟩) (c30:PySem.W.codeIn K cd30 "_law_free_by"=true) (k30:PySem.W.keepIn K (.ref f30)=true)
    (a31:PySem.W.nsIn K mainGlobals "_law_any_by"=some (some (.ref f31))) (l31:K.lookup f31=some ⟨oc31,od31,.func (PySem.W.fnOf "_law_any_by" "_law_any_by" (defArgs xk) (defBody xk) (defScope xk) .none kV31 dc31 pm31 an31 cd31 ct31),sl31⟩) (c31:PySem.W.codeIn K cd31 "_law_any_by"=true) (k31:PySem.W.keepIn K (.ref f31)=true)
    (a32:PySem.W.nsIn K mainGlobals "_law_word"=some (some (.ref f32))) (l32:K.lookup f32=some ⟨oc32,od32,.func (PySem.W.fnOf "_law_word" "_law_word" (defArgs xx) (defBody xx) (defScope xx) .none kV32 dc32 pm32 an32 cd32 ct32),sl32⟩) (c32:PySem.W.codeIn K cd32 "_law_word"=true) (k32:PySem.W.keepIn K (.ref f32)=true)
    (a33:PySem.W.nsIn K mainGlobals "_law_crosses"=some (some (.ref f33))) (l33:K.lookup f33=some ⟨oc33,od33,.func (PySem.W.fnOf "_law_crosses" "_law_crosses" (defArgs xo) (defBody xo) (defScope xo) .none kV33 dc33 pm33 an33 cd33 ct33),sl33⟩) (c33:PySem.W.codeIn K cd33 "_law_crosses"=true) (k33:PySem.W.keepIn K (.ref f33)=true)
    (a34:PySem.W.nsIn K mainGlobals "_law_good"=some (some (.ref f34))) (l34:K.lookup f34=some ⟨oc34,od34,.func (PySem.W.fnOf "_law_good" "_law_good" (defArgs wm) (defBody wm) (defScope wm) .none kV34 dc34 pm34 an34 cd34 ct34),sl34⟩) (c34:PySem.W.codeIn K cd34 "_law_good"=true) (k34:PySem.W.keepIn K (.ref f34)=true)
    (a35:PySem.W.nsIn K mainGlobals "_law_other"=some (some (.ref f35))) (l35:K.lookup f35=some ⟨oc35,od35,.func (PySem.W.fnOf "_law_other" "_law_other" (defArgs y0) (defBody y0) (defScope y0) .none kV35 dc35 pm35 an35 cd35 ct35),sl35⟩) (c35:PySem.W.codeIn K cd35 "_law_other"=true) (k35:PySem.W.keepIn K (.ref f35)=true)
    (a36:PySem.W.nsIn K mainGlobals "_law_spoilt"=some (some (.ref f36))) (l36:K.lookup f36=some ⟨oc36,od36,.func (PySem.W.fnOf "_law_spoilt" "_law_spoilt" (defArgs xy) (defBody xy) (defScope xy) .none kV36 dc36 pm36 an36 cd36 ct36),sl36⟩) (c36:PySem.W.codeIn K cd36 "_law_spoilt"=true) (k36:PySem.W.keepIn K (.ref f36)=true)
    (a37:PySem.W.nsIn K mainGlobals "_law_called"=some (some (.ref f37))) (l37:K.lookup f37=some ⟨oc37,od37,.func (PySem.W.fnOf "_law_called" "_law_called" (defArgs xz) (defBody xz) (defScope xz) .none kV37 dc37 pm37 an37 cd37 ct37),sl37⟩) (c37:PySem.W.codeIn K cd37 "_law_called"=true) (k37:PySem.W.keepIn K (.ref f37)=true)
    (a38:PySem.W.nsIn K mainGlobals "_law_told"=some (some (.ref f38))) (l38:K.lookup f38=some ⟨oc38,od38,.func (PySem.W.fnOf "_law_told" "_law_told" (defArgs ww) (defBody ww) (defScope ww) .none kV38 dc38 pm38 an38 cd38 ct38),sl38⟩) (c38:PySem.W.codeIn K cd38 "_law_told"=true) (k38:PySem.W.keepIn K (.ref f38)=true)
    (a39:PySem.W.nsIn K mainGlobals "_law_is_crossing"=some (some (.ref f39))) (l39:K.lookup f39=some ⟨oc39,od39,.func (PySem.W.fnOf "_law_is_crossing" "_law_is_crossing" (defArgs yo) (defBody yo) (defScope yo) .none kV39 dc39 pm39 an39 cd39 ct39),sl39⟩) (c39:PySem.W.codeIn K cd39 "_law_is_crossing"=true) (k39:PySem.W.keepIn K (.ref f39)=true)
    (a40:PySem.W.nsIn K mainGlobals "law"=some (some (.ref f40))) (l40:K.lookup f40=some ⟨oc40,od40,.func (PySem.W.fnOf "law" "law" (defArgs s_law) (defBody s_law) (defScope s_law) .none kV40 dc40 pm40 an40 cd40 ct40),sl40⟩) (c40:PySem.W.codeIn K cd40 "law"=true) (k40:PySem.W.keepIn K (.ref f40)=true)
    (z0:PySem.W.nsIn K mainGlobals "all"=some none)
    (z1:PySem.W.nsIn K mainGlobals "zip"=some none)
    (z2:PySem.W.nsIn K mainGlobals "len"=some none)
    (z3:PySem.W.nsIn K mainGlobals "sorted"=some none)
    (z4:PySem.W.nsIn K mainGlobals "list"=some none)
    (z5:PySem.W.nsIn K mainGlobals "range"=some none)
    (z6:PySem.W.nsIn K mainGlobals "enumerate"=some none)
    (z7:PySem.W.nsIn K mainGlobals "max"=some none)
    (z8:PySem.W.nsIn K mainGlobals "set"=some none)
    (z9:PySem.W.nsIn K mainGlobals "isinstance"=some none)
    (z10:PySem.W.nsIn K mainGlobals "int"=some none)
    (z11:PySem.W.nsIn K mainGlobals "bool"=some none)
    (z12:PySem.W.nsIn K mainGlobals "tuple"=some none)
    (z13:PySem.W.nsIn K mainGlobals "sum"=some none)
    (iMOST_POINTS:PySem.W.nsIn K mainGlobals "MOST_POINTS"=some (some (.int 10 tMOST_POINTS)))
    (xr:PySem.W.nsIn K mainGlobals "RingError"=some (some (.ref R)))
    (x0:PySem.W.nsIn K mainGlobals "NoParting"=some (some (.ref C0)))
    (x1:PySem.W.nsIn K mainGlobals "Crossing"=some (some (.ref C1)))
    (x2:PySem.W.nsIn K mainGlobals "NoNumber"=some (some (.ref C2)))
    (x3:PySem.W.nsIn K mainGlobals "NoNote"=some (some (.ref C3)))
    (xv:PySem.W.nsIn K mainGlobals "ValueError"=some none)
    (iFIG:PySem.W.nsIn K mainGlobals "FIGURES"=some (some (.str FIG tFIG)))
    (yrt:PySem.W.typeIn K (.ref R)=some (.type "type"))
    (yrx:PySem.W.mroIn K R (.type "BaseException")=some true)
    (ys0:PySem.W.mroIn K C0 (.ref R)=some true)
    (eg0:PySem.W.findIn K (.ref C0) "__getattribute__"=some (some (.builtin "BaseException.__getattribute__")))
    (eh0:PySem.W.findIn K (.ref C0) "__getattr__"=some none)
    (ea0:PySem.W.findIn K (.ref C0) "__class__"=some (some (.builtin "object.__class__")))
    (eo0:PySem.W.mroIn K C0 (.type "object")=some true)
    (eb0:PySem.W.mroIn K C0 (.type "BaseException")=some true)
    (q00:PySem.W.kitOne K (.ref C0) (.ref C0)=some (decide (0=0)))
    (q01:PySem.W.kitOne K (.ref C0) (.ref C1)=some (decide (0=1)))
    (q02:PySem.W.kitOne K (.ref C0) (.ref C2)=some (decide (0=2)))
    (q03:PySem.W.kitOne K (.ref C0) (.ref C3)=some (decide (0=3)))
    (qv0:PySem.W.kitOne K (.ref C0) (.type "ValueError")=some true)
    (ys1:PySem.W.mroIn K C1 (.ref R)=some true)
    (eg1:PySem.W.findIn K (.ref C1) "__getattribute__"=some (some (.builtin "BaseException.__getattribute__")))
    (eh1:PySem.W.findIn K (.ref C1) "__getattr__"=some none)
    (ea1:PySem.W.findIn K (.ref C1) "__class__"=some (some (.builtin "object.__class__")))
    (eo1:PySem.W.mroIn K C1 (.type "object")=some true)
    (eb1:PySem.W.mroIn K C1 (.type "BaseException")=some true)
    (q10:PySem.W.kitOne K (.ref C1) (.ref C0)=some (decide (1=0)))
    (q11:PySem.W.kitOne K (.ref C1) (.ref C1)=some (decide (1=1)))
    (q12:PySem.W.kitOne K (.ref C1) (.ref C2)=some (decide (1=2)))
    (q13:PySem.W.kitOne K (.ref C1) (.ref C3)=some (decide (1=3)))
    (qv1:PySem.W.kitOne K (.ref C1) (.type "ValueError")=some true)
    (ed:PySem.W.specialIn K (.builtin "object.__class__") "__get__"=some (some (.builtin "getset_descriptor.__get__")))
    (et:PySem.W.takesIn K (.builtin "object.__class__")=some true)
    (qx:PySem.W.excIn K C0 bmV "ValueError.__new__"=true)
    (rga:PySem.W.specialIn K (.ref R) "__getattribute__"=some (some (.builtin "type.__getattribute__")))
    (rrd:PySem.W.readsIn K R (.type "type")=true)
    (rfc:PySem.W.findCls K (.ref R) (.type "type") "__init__"=some (.val (.builtin "ValueError.__init__")))
    (xsa:PySem.W.findIn K (.ref C1) "__setattr__"=some (some (.builtin "object.__setattr__")))
    (xno:PySem.W.findIn K (.ref C1) "points"=some none)
    (xhd:PySem.W.hasDictIn K C1=true)
    (xi:PySem.W.findIn K (.ref C1) "__init__"=some (some (.ref FI)))
    (lM:K.lookup FI=some ⟨ocM,odM,.func (PySem.W.fnOf "__init__" "Crossing.__init__" (defArgs y1) (defBody y1) (defScope y1) .none kVM dcM pmM anM cdM ctM),slM⟩)
    (cM:PySem.W.codeIn K cdM "Crossing.__init__"=true)
    (kM:PySem.W.keepIn K (.ref FI)=true)
    (fM:PySem.W.typeIn K (.ref FI)=some (.type "function"))
    (oI:ownI K C1 FI=true)
    : ∃ fd:FuncData,(∀ (s:Shared) (v:Value),BindsTo s fd ⟨[v],[]⟩ [("script",v)])∧∀ base:Heap,K.In base→base.Ns mainGlobals mg→FnOk l.prog w K mg base (CXe l.prog w) 9 fa fd ["script"] (spLaw K):=by
  have e:=hfa.symm.trans (PySem.W.mg_of X G a40)
  cases e
  have B:GBlt mg:=⟨PySem.W.mg_none_of X G z0,PySem.W.mg_none_of X G z1,PySem.W.mg_none_of X G z2,PySem.W.mg_none_of X G z3,PySem.W.mg_none_of X G z4,PySem.W.mg_none_of X G z5,PySem.W.mg_none_of X G z6,PySem.W.mg_none_of X G z7,PySem.W.mg_none_of X G z8,PySem.W.mg_none_of X G z9,PySem.W.mg_none_of X G z10,PySem.W.mg_none_of X G z11,PySem.W.mg_none_of X G z12,PySem.W.mg_none_of X G z13⟩
  have hMOST_POINTS:=PySem.W.mg_of X G iMOST_POINTS
  have D_rises:Dn K mg "rises" v9 ["numbers"] _ _:=⟨zj (st:=v9) l0 c0 k0,PySem.W.mg_of X G a0,(zj (st:=v9) l0 c0 k0).binds fun _ _ _ _ _ _ us hl=>match us,hl with | [_],_=>rfl⟩
  have D_points_in:Dn K mg "points_in" wk ["blocks"] _ _:=⟨zj (st:=wk) l1 c1 k1,PySem.W.mg_of X G a1,(zj (st:=wk) l1 c1 k1).binds fun _ _ _ _ _ _ us hl=>match us,hl with | [_],_=>rfl⟩
  have D_is_parting:Dn K mg "is_parting" yx ["points","blocks"] _ _:=⟨zj (st:=yx) l2 c2 k2,PySem.W.mg_of X G a2,(zj (st:=yx) l2 c2 k2).binds fun _ _ _ _ _ _ us hl=>match us,hl with | [_,_],_=>rfl⟩
  have D_refuse_no_parting:Dn K mg "refuse_no_parting" zr ["points","blocks"] _ _:=⟨zj (st:=zr) l3 c3 k3,PySem.W.mg_of X G a3,(zj (st:=zr) l3 c3 k3).binds fun _ _ _ _ _ _ us hl=>match us,hl with | [_,_],_=>rfl⟩
  have D_block_places:Dn K mg "block_places" yg ["points","blocks"] _ _:=⟨zj (st:=yg) l4 c4 k4,PySem.W.mg_of X G a4,(zj (st:=yg) l4 c4 k4).binds fun _ _ _ _ _ _ us hl=>match us,hl with | [_,_],_=>rfl⟩
  have D_blocks_by:Dn K mg "blocks_by" yw ["labels"] _ _:=⟨zj (st:=yw) l5 c5 k5,PySem.W.mg_of X G a5,(zj (st:=yw) l5 c5 k5).binds fun _ _ _ _ _ _ us hl=>match us,hl with | [_],_=>rfl⟩
  have D_first_crossing:Dn K mg "first_crossing" yn ["labels"] _ _:=⟨zj (st:=yn) l6 c6 k6,PySem.W.mg_of X G a6,(zj (st:=yn) l6 c6 k6).binds fun _ _ _ _ _ _ us hl=>match us,hl with | [_],_=>rfl⟩
  have D_refuse_crossing:Dn K mg "refuse_crossing" yc ["points","blocks"] _ _:=⟨zj (st:=yc) l7 c7 k7,PySem.W.mg_of X G a7,(zj (st:=yc) l7 c7 k7).binds fun _ _ _ _ _ _ us hl=>match us,hl with | [_,_],_=>rfl⟩
  have D_refuse_unless_free:Dn K mg "refuse_unless_free" zo ["points","blocks"] _ _:=⟨zj (st:=zo) l8 c8 k8,PySem.W.mg_of X G a8,(zj (st:=zo) l8 c8 k8).binds fun _ _ _ _ _ _ us hl=>match us,hl with | [_,_],_=>rfl⟩
  have D_order_of:Dn K mg "order_of" xf ["points","blocks"] _ _:=⟨zj (st:=xf) l9 c9 k9,PySem.W.mg_of X G a9,(zj (st:=xf) l9 c9 k9).binds fun _ _ _ _ _ _ us hl=>match us,hl with | [_,_],_=>rfl⟩
  have D_lies_within:Dn K mg "lies_within" y4 ["block","places"] _ _:=⟨zj (st:=y4) l10 c10 k10,PySem.W.mg_of X G a10,(zj (st:=y4) l10 c10 k10).binds fun _ _ _ _ _ _ us hl=>match us,hl with | [_,_],_=>rfl⟩
  have D_below:Dn K mg "below" va ["points","one","other"] _ _:=⟨zj (st:=va) l11 c11 k11,PySem.W.mg_of X G a11,(zj (st:=va) l11 c11 k11).binds fun _ _ _ _ _ _ us hl=>match us,hl with | [_,_,_],_=>rfl⟩
  have D_refuse_unless_both_free:Dn K mg "refuse_unless_both_free" zq ["points","one","other"] _ _:=⟨zj (st:=zq) l12 c12 k12,PySem.W.mg_of X G a12,(zj (st:=zq) l12 c12 k12).binds fun _ _ _ _ _ _ us hl=>match us,hl with | [_,_,_],_=>rfl⟩
  have D_met:Dn K mg "met" s_met ["points","one","other"] _ _:=⟨zj (st:=s_met) l13 c13 k13,PySem.W.mg_of X G a13,(zj (st:=s_met) l13 c13 k13).binds fun _ _ _ _ _ _ us hl=>match us,hl with | [_,_,_],_=>rfl⟩
  have D_made_one:Dn K mg "made_one" xu ["labels","kept","gone"] _ _:=⟨zj (st:=xu) l14 c14 k14,PySem.W.mg_of X G a14,(zj (st:=xu) l14 c14 k14).binds fun _ _ _ _ _ _ us hl=>match us,hl with | [_,_,_],_=>rfl⟩
  have D_made_free:Dn K mg "made_free" wl ["labels"] _ _:=⟨zj (st:=wl) l15 c15 k15,PySem.W.mg_of X G a15,(zj (st:=wl) l15 c15 k15).binds fun _ _ _ _ _ _ us hl=>match us,hl with | [_],_=>rfl⟩
  have D_joined:Dn K mg "joined" w6 ["points","one","other"] _ _:=⟨zj (st:=w6) l16 c16 k16,PySem.W.mg_of X G a16,(zj (st:=w6) l16 c16 k16).binds fun _ _ _ _ _ _ us hl=>match us,hl with | [_,_,_],_=>rfl⟩
  have D_order_back:Dn K mg "order_back" xj ["order"] _ _:=⟨zj (st:=xj) l17 c17 k17,PySem.W.mg_of X G a17,(zj (st:=xj) l17 c17 k17).binds fun _ _ _ _ _ _ us hl=>match us,hl with | [_],_=>rfl⟩
  have D_round_labels:Dn K mg "round_labels" xg ["order"] _ _:=⟨zj (st:=xg) l18 c18 k18,PySem.W.mg_of X G a18,(zj (st:=xg) l18 c18 k18).binds fun _ _ _ _ _ _ us hl=>match us,hl with | [_],_=>rfl⟩
  have D_contrary:Dn K mg "contrary" xw ["points","blocks"] _ _:=⟨zj (st:=xw) l19 c19 k19,PySem.W.mg_of X G a19,(zj (st:=xw) l19 c19 k19).binds fun _ _ _ _ _ _ us hl=>match us,hl with | [_,_],_=>rfl⟩
  have D_turned:Dn K mg "turned" w8 ["points","blocks"] _ _:=⟨zj (st:=w8) l20 c20 k20,PySem.W.mg_of X G a20,(zj (st:=w8) l20 c20 k20).binds fun _ _ _ _ _ _ us hl=>match us,hl with | [_,_],_=>rfl⟩
  have D_endings:Dn K mg "endings" wy ["points"] _ _:=⟨zj (st:=wy) l21 c21 k21,PySem.W.mg_of X G a21,(zj (st:=wy) l21 c21 k21).binds fun _ _ _ _ _ _ us hl=>match us,hl with | [_],_=>rfl⟩
  have D_choices:Dn K mg "choices" vg ["things","chosen"] _ _:=⟨zj (st:=vg) l22 c22 k22,PySem.W.mg_of X G a22,(zj (st:=vg) l22 c22 k22).binds fun _ _ _ _ _ _ us hl=>match us,hl with | [_,_],_=>rfl⟩
  have D_ways_within:Dn K mg "ways_within" xm ["size"] _ _:=⟨zj (st:=xm) l23 c23 k23,PySem.W.mg_of X G a23,(zj (st:=xm) l23 c23 k23).binds fun _ _ _ _ _ _ us hl=>match us,hl with | [_],_=>rfl⟩
  have D_ways_up:Dn K mg "ways_up" wt ["points","blocks"] _ _:=⟨zj (st:=wt) l24 c24 k24,PySem.W.mg_of X G a24,(zj (st:=wt) l24 c24 k24).binds fun _ _ _ _ _ _ us hl=>match us,hl with | [_,_],_=>rfl⟩
  have D_number_of:Dn K mg "number_of" y6 ["points","blocks"] _ _:=⟨zj (st:=y6) l25 c25 k25,PySem.W.mg_of X G a25,(zj (st:=y6) l25 c25 k25).binds fun _ _ _ _ _ _ us hl=>match us,hl with | [_,_],_=>rfl⟩
  have D_block_shown:Dn K mg "block_shown" y8 ["block"] _ _:=⟨zj (st:=y8) l26 c26 k26,PySem.W.mg_of X G a26,(zj (st:=y8) l26 c26 k26).binds fun _ _ _ _ _ _ us hl=>match us,hl with | [_],_=>rfl⟩
  have D_shown:Dn K mg "shown" vb ["points","blocks"] _ _:=⟨zj (st:=vb) l27 c27 k27,PySem.W.mg_of X G a27,(zj (st:=vb) l27 c27 k27).binds fun _ _ _ _ _ _ us hl=>match us,hl with | [_,_],_=>rfl⟩
  have D_law_cell_at:Dn K mg "_law_cell_at" yy ["script","k"] _ _:=⟨zj (st:=yy) l28 c28 k28,PySem.W.mg_of X G a28,(zj (st:=yy) l28 c28 k28).binds fun _ _ _ _ _ _ us hl=>match us,hl with | [_,_],_=>rfl⟩
  have D_law_gathered:Dn K mg "_law_gathered" yz ["word"] _ _:=⟨zj (st:=yz) l29 c29 k29,PySem.W.mg_of X G a29,(zj (st:=yz) l29 c29 k29).binds fun _ _ _ _ _ _ us hl=>match us,hl with | [_],_=>rfl⟩
  have D_law_free_by:Dn K mg "_law_free_by" xn ["script","at","points"] _ _:=⟨zj (st:=xn) l30 c30 k30,PySem.W.mg_of X G a30,(zj (st:=xn) l30 c30 k30).binds fun _ _ _ _ _ _ us hl=>match us,hl with | [_,_,_],_=>rfl⟩
  have D_law_any_by:Dn K mg "_law_any_by" xk ["script","at","points"] _ _:=⟨zj (st:=xk) l31 c31 k31,PySem.W.mg_of X G a31,(zj (st:=xk) l31 c31 k31).binds fun _ _ _ _ _ _ us hl=>match us,hl with | [_,_,_],_=>rfl⟩
  have D_law_word:Dn K mg "_law_word" xx ["points","blocks"] _ _:=⟨zj (st:=xx) l32 c32 k32,PySem.W.mg_of X G a32,(zj (st:=xx) l32 c32 k32).binds fun _ _ _ _ _ _ us hl=>match us,hl with | [_,_],_=>rfl⟩
  have D_law_crosses:Dn K mg "_law_crosses" xo ["points","blocks"] _ _:=⟨zj (st:=xo) l33 c33 k33,PySem.W.mg_of X G a33,(zj (st:=xo) l33 c33 k33).binds fun _ _ _ _ _ _ us hl=>match us,hl with | [_,_],_=>rfl⟩
  have D_law_good:Dn K mg "_law_good" wm ["points","blocks"] _ _:=⟨zj (st:=wm) l34 c34 k34,PySem.W.mg_of X G a34,(zj (st:=wm) l34 c34 k34).binds fun _ _ _ _ _ _ us hl=>match us,hl with | [_,_],_=>rfl⟩
  have D_law_other:Dn K mg "_law_other" y0 ["e","wanted"] _ _:=⟨zj (st:=y0) l35 c35 k35,PySem.W.mg_of X G a35,(zj (st:=y0) l35 c35 k35).binds fun _ _ _ _ _ _ us hl=>match us,hl with | [_,_],_=>rfl⟩
  have D_law_spoilt:Dn K mg "_law_spoilt" xy ["blocks","cell"] _ _:=⟨zj (st:=xy) l36 c36 k36,PySem.W.mg_of X G a36,(zj (st:=xy) l36 c36 k36).binds fun _ _ _ _ _ _ us hl=>match us,hl with | [_,_],_=>rfl⟩
  have D_law_called:Dn K mg "_law_called" xz ["which","points","one","other"] _ _:=⟨zj (st:=xz) l37 c37 k37,PySem.W.mg_of X G a37,(zj (st:=xz) l37 c37 k37).binds fun _ _ _ _ _ _ us hl=>match us,hl with | [_,_,_,_],_=>rfl⟩
  have D_law_told:Dn K mg "_law_told" ww ["which","points","one","other"] _ _:=⟨zj (st:=ww) l38 c38 k38,PySem.W.mg_of X G a38,(zj (st:=ww) l38 c38 k38).binds fun _ _ _ _ _ _ us hl=>match us,hl with | [_,_,_,_],_=>rfl⟩
  have D_law_is_crossing:Dn K mg "_law_is_crossing" yo ["points","blocks","found"] _ _:=⟨zj (st:=yo) l39 c39 k39,PySem.W.mg_of X G a39,(zj (st:=yo) l39 c39 k39).binds fun _ _ _ _ _ _ us hl=>match us,hl with | [_,_,_],_=>rfl⟩
  have D_law:Dn K mg "law" s_law ["script"] _ _:=⟨zj (st:=s_law) l40 c40 k40,PySem.W.mg_of X G a40,(zj (st:=s_law) l40 c40 k40).binds fun _ _ _ _ _ _ us hl=>match us,hl with | [_],_=>rfl⟩
  refine ⟨PySem.W.fnOf "law" "law" (defArgs s_law) (defBody s_law) (defScope s_law) .none kV40 dc40 pm40 an40 cd40 ct40,fun s v=>.of_eq rfl,fun base KB _=>?_⟩
  have e0:PySem.W.ExcCls K C0:=⟨zav eo0,eg0,eh0,ea0,ed,et,eo0,eb0⟩
  have e1:PySem.W.ExcCls K C1:=⟨zav eo1,eg1,eh1,ea1,ed,et,eo1,eb1⟩
  have c4:Cl4 K mg R C0 C1 C2 C3:=⟨PySem.W.mg_of X G xr,PySem.W.mg_of X G x0,PySem.W.mg_of X G x1,PySem.W.mg_of X G x2,PySem.W.mg_of X G x3,PySem.W.mg_none_of X G xv,yrt,zav yrx,yrx,ys0,e0,q00,q01,q02,q03,qv0,qx⟩
  have w0:ClW K mg R C0 C1 C2 C3 0 C0:=⟨c4.r,c4.n0,c4.n1,c4.n2,c4.n3,c4.ve,yrt,zav yrx,yrx,ys0,e0,q00,q01,q02,q03,qv0⟩
  have w1:ClW K mg R C0 C1 C2 C3 1 C1:=⟨c4.r,c4.n0,c4.n1,c4.n2,c4.n3,c4.ve,yrt,zav yrx,yrx,ys1,e1,q10,q11,q12,q13,qv1⟩
  have RI:RInit K R:=⟨rga,rrd,rfc⟩
  obtain ⟨OI,hcd⟩:=zpw KB oI
  have XS:XSet K C1 "points":=⟨hcd,xsa,xno⟩
  have FM:Fun K "__init__" "Crossing.__init__" y1 FI _:=zj (st:=y1) lM cM kM
  have bM:=FM.binds (ps:=["self","points"]) fun _ _ _ _ _ _ us hl=>match us,hl with | [_,_],_=>rfl
  have hMc:ocM=.type "function":=by
    have z:(K.lookup FI).map (fun o=>o.cls)=some (.type "function"):=fM
    rw [lM] at z
    exact Option.some.inj z
  have X0:CxNo (CXe l.prog w):=cxNoE
  have GXI:=zop (P:=l.prog) (w:=w) c4.r RI OI XS FM
  have GR:=zot (P:=l.prog) (w:=w) (base:=base) (CX:=CXe l.prog w) D_rises.fn B.all B.zip
  have GP:=zh7 (P:=l.prog) (w:=w) (mg:=mg) (base:=base) (CX:=CXe l.prog w) D_points_in.fn
  have GI:=zgv X0 B D_is_parting.fn ⟨_,hMOST_POINTS⟩ D_rises GR D_points_in GP
  have GN:=zh8 X0 D_refuse_no_parting.fn D_is_parting GI
  have GNE:=zi5 KB c4 D_refuse_no_parting.fn D_is_parting GI
  have GB:=zez (P:=l.prog) (w:=w) (base:=base) (CX:=CXe l.prog w) B D_block_places.fn
  have GF:=zdh (P:=l.prog) (w:=w) (base:=base) (CX:=CXe l.prog w) B D_first_crossing.fn
  have GC:=zi6 X0 D_refuse_crossing.fn D_block_places GB D_first_crossing GF
  have GCE:=zkt OI c4.n1 lM hMc GXI bM D_refuse_crossing.fn D_block_places GB D_first_crossing GF
  have GU1:=zfg X0 D_refuse_unless_free.fn D_refuse_no_parting GN D_refuse_crossing GC
  have GUE:=zm3 D_refuse_unless_free.fn D_refuse_no_parting GN GNE D_refuse_crossing GCE
  have GU:=zia X0 D_refuse_unless_both_free.fn D_refuse_no_parting GN D_refuse_crossing GC
  have GBE:=zm5 D_refuse_unless_both_free.fn D_refuse_no_parting GN GNE D_refuse_crossing GC GCE
  have GYI:=zfh (P:=l.prog) (w:=w) (base:=base) (CX:=CXe l.prog w) B D_blocks_by.fn
  have GYP:=zfi (P:=l.prog) (w:=w) (base:=base) (CX:=CXe l.prog w) B D_blocks_by.fn
  have GO:=zi7 X0 B D_order_of.fn D_refuse_unless_free GU1
  have GOE:=zgs D_order_of.fn D_refuse_unless_free GUE
  have GK1:=zgw (P:=l.prog) (w:=w) (base:=base) (CX:=CXe l.prog w) B D_order_back.fn
  have GK2:=ze0 (P:=l.prog) (w:=w) (base:=base) (CX:=CXe l.prog w) B D_round_labels.fn
  have GK:=zi8 X0 D_contrary.fn D_order_of GO D_order_back GK1 D_round_labels GK2 D_blocks_by GYI
  have GKE:=zgt D_contrary.fn D_order_of GOE D_order_back GK1
  have GT:=zm9 X0 D_turned.fn D_refuse_unless_free GU1 D_block_places GB D_blocks_by GYI
  have GTE:=zi0 D_turned.fn D_refuse_unless_free GUE
  have GCh:=zk0 (P:=l.prog) (w:=w) (base:=base) (CX:=CXe l.prog w) B D_choices.fn
  have GWi:=zfj (P:=l.prog) (w:=w) (mg:=mg) (base:=base) (CX:=CXe l.prog w) D_ways_within.fn
  have GWU:=zk1 X0 B D_ways_up.fn D_refuse_unless_free GU1 D_choices GCh D_ways_within GWi
  have GWE:=zh6 D_ways_up.fn D_refuse_unless_free GUE
  have GE:=zk2 (P:=l.prog) (w:=w) (base:=base) (CX:=CXe l.prog w) B D_endings.fn
  have GNO:=zib X0 B D_number_of.fn D_refuse_unless_free GU1 D_endings GE D_block_places GB
  have GNR:=zfe D_number_of.fn D_refuse_unless_free GUE
  have GM:=zqy X0 B D_met.fn D_refuse_unless_both_free GU D_block_places GB D_blocks_by GYP
  have GME:=zor D_met.fn D_refuse_unless_both_free GBE
  have GO1:=zja (P:=l.prog) (w:=w) (base:=base) (CX:=CXe l.prog w) B D_made_one.fn
  have GFr:=zic X0 D_made_free.fn D_first_crossing GF D_made_one GO1
  have GJ:=zna X0 B D_joined.fn D_refuse_unless_both_free GU D_block_places GB D_made_one GO1 D_made_free GFr D_blocks_by GYI
  have GJE:=zi2 D_joined.fn D_refuse_unless_both_free GBE
  have GLW:=zfl (P:=l.prog) (w:=w) (base:=base) (CX:=CXe l.prog w) B D_lies_within.fn
  have GL:=zou X0 B D_below.fn D_refuse_no_parting GN D_block_places GB D_lies_within GLW
  have GLE:=zkv D_below.fn D_refuse_no_parting GN GNE
  have hFig:=PySem.W.mg_of X G iFIG
  have GBS:=zfn (P:=l.prog) (w:=w) (base:=base) (CX:=CXe l.prog w) ⟨_,hFig⟩ D_block_shown.fn
  have GSh:=zow X0 D_shown.fn D_refuse_no_parting GN D_block_shown GBS
  have GSE:=zkx D_shown.fn D_refuse_no_parting GNE
  have GCa:=zm7 D_law_called.fn D_order_of (zdd zpu GOE GO) D_contrary (zdd zks GKE GK) D_turned (zdd zol GTE GT) D_ways_up (zdd zqw GWE GWU) D_number_of (zdd zom GNR GNO) D_met (zmy t_met GME GM) D_joined (zmy zon GJE GJ) D_below (zps GLE GL) D_shown (zpt GSE GSh)
  have GOT:=zky (P:=l.prog) (w:=w) (base:=base) (by decide) B w0 D_law_other.fn
  have GOD:=zkz (P:=l.prog) (w:=w) (base:=base) (by decide) B w1 D_law_other.fn
  have GTo:=zm8 w0 w1 xhd xno D_law_told.fn D_law_called GCa D_law_other GOT GOD
  have G1:=zk5 (P:=l.prog) (w:=w) (base:=base) (CX:=CXe l.prog w) D_law_cell_at.fn B.len
  have G2:=zjb (P:=l.prog) (w:=w) (base:=base) (CX:=CXe l.prog w) B D_law_gathered.fn
  have G3:=zk6 X0 B D_law_free_by.fn D_law_cell_at G1 D_law_gathered G2
  have G5:=znc X0 B D_law_any_by.fn D_law_cell_at G1 D_law_gathered G2
  have G6:=zpz (P:=l.prog) (w:=w) (base:=base) (CX:=CXe l.prog w) B D_law_word.fn
  have G7:=zk7 X0 B D_law_crosses.fn D_law_word G6
  have G8:=zp0 (P:=l.prog) (w:=w) (base:=base) (CX:=CXe l.prog w) B D_law_good.fn
  have GSp:=zi3 (P:=l.prog) (w:=w) (base:=base) (CX:=CXe l.prog w) B D_law_spoilt.fn
  have GIc:=zpx X0 B D_law_is_crossing.fn D_law_word G6
  exact zqz B D_law.fn D_law_cell_at G1 D_law_free_by G3 D_law_any_by G5 D_law_spoilt GSp D_law_good G8 D_law_crosses G7 D_law_told GTo D_law_is_crossing GIc
theorem walk {l:PySem.W.OpenLaw} {q:Program} {loose:List Str} {XP:(Str→Option Value)→Heap→Prop} {YP:World→Heap→Prop} {d:DefRec} {K:Params→PySem.W.Frag} (hn:l.most=some 63) (hdf:d.params.defaults=[])
    (hY:∀ (w:World) (h:Heap),YP w h→(K w.params).In h)
    (F:∀ (w:World) (mg:Str→Option Value) (fa:Addr) (h:Heap),(K w.params).In h→h.Ns mainGlobals mg→mg d.name=some (.ref fa) →
      ∃ fd:FuncData,(∀ (s:Shared) (u:Value),BindsTo s fd ⟨[u],[]⟩ [("script",u)])∧∀ base:Heap,(K w.params).In base→base.Ns mainGlobals mg→FnOk l.prog w (K w.params) mg base (CXe l.prog w) 9 fa fd ["script"] (spLaw (K w.params))) :
    PySem.W.WalkO q loose XP YP l.row.toRowW d [] (fun f vs=>PySem.call f vs) :=
  L2.zq2 (n:=63) (k:=9) (x:="script") (CX:=fun w=>CXe l.prog w) (sp:=fun w=>spLaw (K w.params)) hn (by decide) hdf ⟨rfl,by decide,by decide,rfl⟩ hY F (fun _ _ a ns hl _ hS=>⟨a,ns,rfl,hS,hl,fun _=>rfl⟩) fun _ _ _ _ _ z=>cxNoE _ _ _ _ _ z
end NCP
open PySem PySem.W PyProof.Rows
set_option maxRecDepth 100000 in
set_option maxHeartbeats 0 in
theorem PySem.Challenge.cw_nocrossing_k16_which_refusal_holds : PySem.Challenge.rw_nocrossing_k16_which_refusal.Holds := by
  w_on;o_law
  refine holds_open (q:=NCP.vw) (loose:=[]) (Xt:=NCP.vx) (XP:=XL NCP.vw []) (Yf:=Hook.obs NCP.hk) (Ya:=Hook.val NCP.hk) (YP:=Hook.says NCP.hk) (N:=4882) NCP.left (Hook.of NCP.hk) (Hook.keeps NCP.hk) (fun s e=>xl_of s (Bool.and_eq_true_iff.mp e).1) XL.keeps (by rfl) (by rfl) (by rfl) (fun s e=>recFacts_of (Bool.and_eq_true_iff.mp e).2) (by rfl) (by first | assumption | decide +kernel) (by decide +kernel) ⟨rfl,rfl,rfl,rfl,rfl,by decide +kernel⟩ ?hw ?hc
  · w_witness2
  k_fill
  refine NCP.walk (l:=PySem.Challenge.rw_nocrossing_k16_which_refusal) rfl rfl (fun w h Y=>PySem.W.kIn_of Y) ?F
  case F =>
    intro w mg fa h KX G hmg
    refine' NCP.zq5 KX G hmg ?a0 ?l0 ?c0 ?k0 ?a1 ?l1 ?c1 ?k1 ?a2 ?l2 ?c2 ?k2 ?a3 ?l3 ?c3 ?k3 ?a4 ?l4 ?c4 ?k4 ?a5 ?l5 ?c5 ?k5 ?a6 ?l6 ?c6 ?k6 ?a7 ?l7 ?c7 ?k7 ?a8 ?l8 ?c8 ?k8 ?a9 ?l9 ?c9 ?k9 ?a10 ?l10 ?c10 ?k10 ?a11 ?l11 ?c11 ?k11 ?a12 ?l12 ?c12 ?k12 ?a13 ?l13 ?c13 ?k13 ?a14 ?l14 ?c14 ?k14 ?a15 ?l15 ?c15 ?k15 ?a16 ?l16 ?c16 ?k16 ?a17 ?l17 ?c17 ?k17 ?a18 ?l18 ?c18 ?k18 ?a19 ?l19 ?c19 ?k19 ?a20 ?l20 ?c20 ?k20 ?a21 ?l21 ?c21 ?k21 ?a22 ?l22 ?c22 ?k22 ?a23 ?l23 ?c23 ?k23 ?a24 ?l24 ?c24 ?k24 ?a25 ?l25 ?c25 ?k25 ?a26 ?l26 ?c26 ?k26 ?a27 ?l27 ?c27 ?k27 ?a28 ?l28 ?c28 ?k28 ?a29 ?l29 ?c29 ?k29 ?a30 ?l30 ?c30 ?k30 ?a31 ?l31 ?c31 ?k31 ?a32 ?l32 ?c32 ?k32 ?a33 ?l33 ?c33 ?k33 ?a34 ?l34 ?c34 ?k34 ?a35 ?l35 ?c35 ?k35 ?a36 ?l36 ?c36 ?k36 ?a37 ?l37 ?c37 ?k37 ?a38 ?l38 ?c38 ?k38 ?a39 ?l39 ?c39 ?k39 ?a40 ?l40 ?c40 ?k40 ?z0 ?z1 ?z2 ?z3 ?z4 ?z5 ?z6 ?z7 ?z8 ?z9 ?z10 ?z11 ?z12 ?z13 ?iMOST_POINTS ?xr ?x0 ?x1 ?x2 ?x3 ?xv ?iFIG ?yrt ?yrx ?ys0 ?eg0 ?eh0 ?ea0 ?eo0 ?eb0 ?q00 ?q01 ?q02 ?q03 ?qv0 ?ys1 ?eg1 ?eh1 ?ea1 ?eo1 ?eb1 ?q10 ?q11 ?q12 ?q13 ?qv1 ?ed ?et ?qx ?rga ?rrd ?rfc ?xsa ?xno ?xhd ?xi ?lM ?cM ?kM ?fM ?oI
    (case a0=>k_is)
    (case l0=>k_is)
    (case c0=>k_is)
    (case k0=>k_is)
    (case a1=>k_is)
    (case l1=>k_is)
    (case c1=>k_is)
    (case k1=>k_is)
    (case a2=>k_is)
    (case l2=>k_is)
    (case c2=>k_is)
    (case k2=>k_is)
    (case a3=>k_is)
    (case l3=>k_is)
    (case c3=>k_is)
    (case k3=>k_is)
    (case a4=>k_is)
    (case l4=>k_is)
    (case c4=>k_is)
    (case k4=>k_is)
    (case a5=>k_is)
    (case l5=>k_is)
    (case c5=>k_is)
    (case k5=>k_is)
    (case a6=>k_is)
    (case l6=>k_is)
    (case c6=>k_is)
    (case k6=>k_is)
    (case a7=>k_is)
    (case l7=>k_is)
    (case c7=>k_is)
    (case k7=>k_is)
    (case a8=>k_is)
    (case l8=>k_is)
    (case c8=>k_is)
    (case k8=>k_is)
    (case a9=>k_is)
    (case l9=>k_is)
    (case c9=>k_is)
    (case k9=>k_is)
    (case a10=>k_is)
    (case l10=>k_is)
    (case c10=>k_is)
    (case k10=>k_is)
    (case a11=>k_is)
    (case l11=>k_is)
    (case c11=>k_is)
    (case k11=>k_is)
    (case a12=>k_is)
    (case l12=>k_is)
    (case c12=>k_is)
    (case k12=>k_is)
    (case a13=>k_is)
    (case l13=>k_is)
    (case c13=>k_is)
    (case k13=>k_is)
    (case a14=>k_is)
    (case l14=>k_is)
    (case c14=>k_is)
    (case k14=>k_is)
    (case a15=>k_is)
    (case l15=>k_is)
    (case c15=>k_is)
    (case k15=>k_is)
    (case a16=>k_is)
    (case l16=>k_is)
    (case c16=>k_is)
    (case k16=>k_is)
    (case a17=>k_is)
    (case l17=>k_is)
    (case c17=>k_is)
    (case k17=>k_is)
    (case a18=>k_is)
    (case l18=>k_is)
    (case c18=>k_is)
    (case k18=>k_is)
    (case a19=>k_is)
    (case l19=>k_is)
    (case c19=>k_is)
    (case k19=>k_is)
    (case a20=>k_is)
    (case l20=>k_is)
    (case c20=>k_is)
    (case k20=>k_is)
    (case a21=>k_is)
    (case l21=>k_is)
    (case c21=>k_is)
    (case k21=>k_is)
    (case a22=>k_is)
    (case l22=>k_is)
    (case c22=>k_is)
    (case k22=>k_is)
    (case a23=>k_is)
    (case l23=>k_is)
    (case c23=>k_is)
    (case k23=>k_is)
    (case a24=>k_is)
    (case l24=>k_is)
    (case c24=>k_is)
    (case k24=>k_is)
    (case a25=>k_is)
    (case l25=>k_is)
    (case c25=>k_is)
    (case k25=>k_is)
    (case a26=>k_is)
    (case l26=>k_is)
    (case c26=>k_is)
    (case k26=>k_is)
    (case a27=>k_is)
    (case l27=>k_is)
    (case c27=>k_is)
    (case k27=>k_is)
    (case a28=>k_is)
    (case l28=>k_is)
    (case c28=>k_is)
    (case k28=>k_is)
    (case a29=>k_is)
    (case l29=>k_is)
    (case c29=>k_is)
    (case k29=>k_is)
    (case a30=>k_is)
    (case l30=>k_is)
    (case c30=>k_is)
    (case k30=>k_is)
    (case a31=>k_is)
    (case l31=>k_is)
    (case c31=>k_is)
    (case k31=>k_is)
    (case a32=>k_is)
    (case l32=>k_is)
    (case c32=>k_is)
    (case k32=>k_is)
    (case a33=>k_is)
    (case l33=>k_is)
    (case c33=>k_is)
    (case k33=>k_is)
    (case a34=>k_is)
    (case l34=>k_is)
    (case c34=>k_is)
    (case k34=>k_is)
    (case a35=>k_is)
    (case l35=>k_is)
    (case c35=>k_is)
    (case k35=>k_is)
    (case a36=>k_is)
    (case l36=>k_is)
    (case c36=>k_is)
    (case k36=>k_is)
    (case a37=>k_is)
    (case l37=>k_is)
    (case c37=>k_is)
    (case k37=>k_is)
    (case a38=>k_is)
    (case l38=>k_is)
    (case c38=>k_is)
    (case k38=>k_is)
    (case a39=>k_is)
    (case l39=>k_is)
    (case c39=>k_is)
    (case k39=>k_is)
    (case a40=>k_is)
    (case l40=>k_is)
    (case c40=>k_is)
    (case k40=>k_is)
    (case z0=>k_is)
    (case z1=>k_is)
    (case z2=>k_is)
    (case z3=>k_is)
    (case z4=>k_is)
    (case z5=>k_is)
    (case z6=>k_is)
    (case z7=>k_is)
    (case z8=>k_is)
    (case z9=>k_is)
    (case z10=>k_is)
    (case z11=>k_is)
    (case z12=>k_is)
    (case z13=>k_is)
    (case iMOST_POINTS=>k_is)
    (case xr=>k_is)
    (case x0=>k_is)
    (case x1=>k_is)
    (case x2=>k_is)
    (case x3=>k_is)
    (case xv=>k_is)
    (case iFIG=>k_is)
    (case yrt=>k_is)
    (case yrx=>k_is)
    (case ys0=>k_is)
    (case eg0=>k_is)
    (case eh0=>k_is)
    (case ea0=>k_is)
    (case eo0=>k_is)
    (case eb0=>k_is)
    (case q00=>kit_is)
    (case q01=>kit_is)
    (case q02=>kit_is)
    (case q03=>kit_is)
    (case qv0=>kit_is)
    (case ys1=>k_is)
    (case eg1=>k_is)
    (case eh1=>k_is)
    (case ea1=>k_is)
    (case eo1=>k_is)
    (case eb1=>k_is)
    (case q10=>kit_is)
    (case q11=>kit_is)
    (case q12=>kit_is)
    (case q13=>kit_is)
    (case qv1=>kit_is)
    (case ed=>k_is)
    (case et=>k_is)
    (case qx=>k_exc)
    (case rga=>k_is)
    (case rrd=>k_is)
    (case rfc=>k_is)
    (case xsa=>k_is)
    (case xno=>k_is)
    (case xhd=>k_is)
    (case xi=>k_is)
    (case lM=>k_is)
    (case cM=>k_is)
    (case kM=>k_is)
    (case fM=>k_is)
    (case oI=>kernel_rfl)
