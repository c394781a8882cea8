import PyProof.Rows.All
import Wide.All
import OpenK.AllK
import Wide.FinOn
import Lean
import PyProof.EqAt
import PyProof.EqKinds
import PyProof.TupleCall
import PyProof.Rows.SetFrom
import PyProof.Rows.SortShell
import PyProof.Rows.SortWalk
import PyProof.CollectIter
import PyProof.DictWalks
import PyProof.ListRange
import PyProof.ZipIter
import PySem.Challenge.RW_nocrossing_k15_read_or_refused
set_option Elab.async false
set_option linter.all false
set_option maxRecDepth 100000
set_option maxHeartbeats 4000000
set_option Elab.async false
set_option linter.all false
set_option maxRecDepth 100000
/-! THE HAND LAYER, for ints, bools, texts, own classes, LISTS and tuples (index, slices, in, append, pop ..), calls, loops. Paste it whole ahead of your own text; what your proof does not reach may be deleted. -/
namespace L2
open PySem PySem.Spec PyProof.Rows

/-- a key: an int or a str -/
abbrev Key := Sum Int Str
def keyIs : Key → Value → Bool
  | .inl k, v => Value.isInt k v
  | .inr x, v => Value.isStrOf x v
def keyH (w : World) : Key → Int
  | .inl k => hashInt k
  | .inr x => hashStr w x
theorem keyIs_shape : ∀ {k : Key} {v : Value}, keyIs k v = true → (∃ i t, k = Sum.inl i ∧ v = Value.int i t) ∨ (∃ x t, k = Sum.inr x ∧ v = Value.str x t)
  | .inl i, v, h => by
    obtain ⟨t, e⟩ := Value.isInt_shape (k := i) (v := v) h
    exact .inl ⟨i, t, rfl, e⟩
  | .inr x, v, h => by
    obtain ⟨t, e⟩ := Value.isStrOf_shape (x := x) (v := v) h
    exact .inr ⟨x, t, rfl, e⟩
theorem key_ll (a b : Int) : decide ((Sum.inl a : Key) = Sum.inl b) = (a == b) := by
  by_cases e : a = b
  · subst e; simp
  · have h : ¬ (Sum.inl a : Key) = Sum.inl b := fun q => e (Sum.inl.inj q)
    rw [decide_eq_false h]
    exact (beq_eq_false_iff_ne.mpr e).symm
theorem key_rr (a b : Str) : decide ((Sum.inr a : Key) = Sum.inr b) = decide (a = b) := by
  by_cases e : a = b
  · subst e; simp
  · have h : ¬ (Sum.inr a : Key) = Sum.inr b := fun q => e (Sum.inr.inj q)
    rw [decide_eq_false h, decide_eq_false e]
theorem key_lr (a : Int) (b : Str) : decide ((Sum.inl a : Key) = Sum.inr b) = false := decide_eq_false (fun q => nomatch q)
theorem key_rl (a : Str) (b : Int) : decide ((Sum.inr a : Key) = Sum.inl b) = false := decide_eq_false (fun q => nomatch q)

def mixKind (prog : Program) (w : World) : PySem.KeyKind prog w Key where
  is := keyIs
  hash := keyH w
  inj := fun v a b ha hb => by
    rcases keyIs_shape ha with ⟨i, t, rfl, rfl⟩ | ⟨x, t, rfl, rfl⟩
    · rcases keyIs_shape hb with ⟨j, u, rfl, e⟩ | ⟨y, u, rfl, e⟩
      · injection e with e1 _; rw [e1]
      · exact nomatch e
    · rcases keyIs_shape hb with ⟨j, u, rfl, e⟩ | ⟨y, u, rfl, e⟩
      · exact nomatch e
      · injection e with e1 _; rw [e1]
  byValue := fun k v h => by
    rcases keyIs_shape h with ⟨i, t, rfl, rfl⟩ | ⟨x, t, rfl, rfl⟩ <;> rfl
  pyHash := fun hv h => by
    rcases keyIs_shape hv with ⟨i, t, rfl, rfl⟩ | ⟨x, t, rfl, rfl⟩
    · exact wpAny_pyHash_int h
    · exact wpAny_pyHash_str h
  eqBool := fun hu hv h => by
    rcases keyIs_shape hu with ⟨i, t, rfl, rfl⟩ | ⟨x, t, rfl, rfl⟩
    · rcases keyIs_shape hv with ⟨j, u, rfl, rfl⟩ | ⟨y, u, rfl, rfl⟩
      · rw [key_ll] at h; exact wpAny_eqBool_int h
      · rw [key_lr] at h; exact SeqAt.EqAt.int_str i t y u _ _ _ _ h
    · rcases keyIs_shape hv with ⟨j, u, rfl, rfl⟩ | ⟨y, u, rfl, rfl⟩
      · rw [key_rl] at h; exact SeqAt.EqAt.str_int x t j u _ _ _ _ h
      · rw [key_rr] at h; exact wpAny_eqBool_str h
  «strs» := fun k x t v h => by
    rcases keyIs_shape h with ⟨i, u, rfl, e⟩ | ⟨y, u, rfl, e⟩
    · exact nomatch e
    · injection e with e1 _
      subst e1
      cases v <;> rfl

end L2

namespace L2
open PySem PySem.Spec PyProof.Rows

/-- a value, without the heap -/
inductive V where
  | non | bl (b : Bool) | int (i : Int) | str (x : Str) | byt (b : Array UInt8) | flt (b : UInt64) | ref (a : Addr) | ty (n : String)
  deriving DecidableEq

def RelV : V → Value → Prop
  | .non, u => u = Value.none
  | .bl b, u => u = Value.bool b
  | .int i, u => ∃ t, u = Value.int i t
  | .str x, u => ∃ t, u = Value.str x t
  | .byt b, u => ∃ t, u = Value.bytes b t
  | .flt b, u => ∃ t, u = Value.float b t
  | .ref a, u => u = Value.ref a
  | .ty n, u => u = Value.type n

abbrev Vals : List V → List Value → Prop := Paired RelV
theorem Vals.length {xs : List V} {us : List Value} (r : Vals xs us) : xs.length = us.length := Paired.length r
theorem Vals.get : ∀ {xs : List V} {us : List Value} {i : Nat} {x : V}, Vals xs us → xs[i]? = some x → ∃ u, us[i]? = some u ∧ RelV x u
  | _, _, _, _, .nil, e => by simp at e
  | _, _, 0, _, .cons r _, e => by simp at e; subst e; exact ⟨_, rfl, r⟩
  | _, _, i + 1, x, .cons _ t, e => by
    obtain ⟨u, h1, h2⟩ := Vals.get (i := i) (x := x) t (by simpa using e)
    exact ⟨u, by simpa using h1, h2⟩
theorem Vals.append : ∀ {xs ys : List V} {us ws : List Value}, Vals xs us → Vals ys ws → Vals (xs ++ ys) (us ++ ws)
  | _, _, _, _, .nil, s => s
  | _, _, _, _, .cons r t, s => .cons r (Vals.append t s)
theorem Vals.take : ∀ {xs : List V} {us : List Value} (n : Nat), Vals xs us → Vals (xs.take n) (us.take n)
  | _, _, 0, _ => .nil
  | _, _, _ + 1, .nil => .nil
  | _, _, n + 1, .cons r t => .cons r (Vals.take n t)
theorem Vals.drop : ∀ {xs : List V} {us : List Value} (n : Nat), Vals xs us → Vals (xs.drop n) (us.drop n)
  | _, _, 0, r => r
  | _, _, _ + 1, .nil => .nil
  | _, _, n + 1, .cons _ t => Vals.drop n t

def RelO : Option V → Option Value → Prop
  | some v, some u => RelV v u
  | none, none => True
  | _, _ => False
def KV {κ : Type} : List (κ × V) → List (κ × Value) → Prop := Paired fun (p : κ × V) (q : κ × Value) => p.1 = q.1 ∧ RelV p.2 q.2

/-- a key of a dict (00_mix): an int or a text -/
def kV : Key → V
  | .inl i => .int i
  | .inr x => .str x

/-- what stands at a tracked address -/
inductive HO where
  /-- a list -/
  | lst (xs : List V)
  /-- a tuple (never changes) -/
  | tup (xs : List V)
  /-- a dict whose keys are ints and texts; one whose keys are tuples of ints and texts (the empty one is both) -/
  | dK (kvs : List (Key × V)) | dT (kvs : List (List Key × V))
  /-- a set of ints: its members, its size -/
  | set (S : Int → Bool) (n : Nat)
  /-- an instance of the class at C, its dict at dx, its attributes -/
  | ins (C dx : Addr) (fs : List (Str × V))
  /-- the dict of the instance at x -/
  | own (x : Addr)
  /-- the dict of an exception -/
  | xd (fs : List (Str × V))
  /-- a bound method, f of x -/
  | met (f x : Addr)
  /-- a range object lo, lo + 1, .. below hi -/
  | rng (lo hi : Int)
  /-- a thing that is known to the object (the script; a dict while a loop walks it): read, never written while it is so -/
  | frz (o : Obj) (u : HO)
  /-- a code object's table -/
  | tbl (ps : Array Value)
  /-- any other thing, by what is true of its one object (a def of one's own: SetO a S n := HO.ext fun h => ..) -/
  | ext (φ : Heap → Prop)

abbrev Hp := Addr → Option HO
def upd (H : Hp) (a : Addr) (o : HO) : Hp := fun b => if b = a then some o else H b
theorem upd_same {H : Hp} {a : Addr} {o : HO} : upd H a o a = some o := by unfold upd; rw [if_pos rfl]
theorem upd_ne {H : Hp} {a b : Addr} {o : HO} (h : b ≠ a) : upd H a o b = H b := by unfold upd; rw [if_neg h]
theorem ne_of_none {H : Hp} {a b : Addr} {o : HO} (h : H a = some o) (h' : H b = none) : a ≠ b := by
  intro e; subst e; rw [h] at h'; cases h'

section
variable (P : Program) (w : World)
def ObjOk (H : Hp) (h : Heap) (a : Addr) : HO → Prop
  | .lst xs => xs.length ≤ sizeLine ∧ ∃ (its : List Value) (n : Nat), Vals xs its ∧ h.get? a = some { cls := .type "list", data := .seq its.toArray n }
  | .tup xs => xs.length ≤ sizeLine ∧ ∃ its : List Value, Vals xs its ∧ IsTup h a its.toArray
  | .dK kvs => kvs.length ≤ sizeLine ∧ (a == sysModules) = false ∧ ∃ vs, KV kvs vs ∧ h.DictOf (mixKind P w) a vs
  | .dT kvs => kvs.length ≤ sizeLine ∧ (a == sysModules) = false ∧ ∃ xs : List (List Key × Addr × Value),
      Paired (fun (p : List Key × V) (q : List Key × Addr × Value) => p.1 = q.1 ∧ H q.2.1 = some (.tup (p.1.map kV)) ∧ RelV p.2 q.2.2) kvs xs ∧
      ∃ o es ep, h.get? a = some o ∧ o.ExactDict ∧ o.data = .dict es ep ∧ es.toList = xs.map (entryOfKey (tupleKind (mixKind P w))) ∧ (xs.map (·.1)).Nodup
  | .set S n => h.SetOf (intKind P w) a S n
  | .ins C dx fs => H dx = some (.own a) ∧ fs.length ≤ 1000 ∧ dx ≠ a ∧ h.get? a = some (PySem.W.instObj C dx) ∧
      ∃ mA, h.Ns1 dx mA ∧ (∀ f, RelO (fs.lookup f) (mA f)) ∧ PySem.Within mA (fs.map (·.1))
  | .own _ => ∃ o, h.get? a = some o
  | .xd fs => ∃ mA, h.Ns1 a mA ∧ ∀ f, RelO (fs.lookup f) (mA f)
  | .rng lo hi => ∃ t u v, h.get? a = some { cls := .type "range", data := .fields #[.int lo t, .int hi u, .int 1 v] }
  | .frz o u => h.get? a = some o ∧ ObjOk H h a u
  | .tbl ps => h.get? a = some { cls := .none, data := .fields ps }
  | .met f x => h.get? a = some (PySem.W.methodObj (.ref f) (.ref x))
  | .ext φ => φ h ∧ (∃ o, h.get? a = some o) ∧ ∀ h1 h2 : Heap, φ h1 → (∀ o, h1.get? a = some o → h2.get? a = some o) → φ h2
/-- the abstract heap is held -/
def HOk (H : Hp) (h : Heap) : Prop := ∀ a o, H a = some o → ObjOk P w H h a o
end

section
variable {P : Program} {w : World} {H H' : Hp} {h h' : Heap} {a : Addr} {o : HO}
theorem ObjOk.lt (x : ObjOk P w H h a o) : a < h.objs.size := by
  cases o with
  | lst xs => obtain ⟨_, _, _, _, e⟩ := x; exact Heap.lt_size e
  | tup xs => obtain ⟨_, _, _, p⟩ := x; exact p.lt
  | dK kvs => obtain ⟨_, _, _, _, o, _, _, e, _⟩ := x; exact Heap.lt_size e
  | dT kvs => obtain ⟨_, _, _, _, o, _, _, e, _⟩ := x; exact Heap.lt_size e
  | set S n => obtain ⟨o, _, _, _, e, _⟩ := x; exact Heap.lt_size e
  | ins C dx fs => obtain ⟨_, _, _, e, _⟩ := x; exact Heap.lt_size e
  | own y => obtain ⟨_, e⟩ := x; exact Heap.lt_size e
  | xd fs => obtain ⟨_, ⟨_, _, _, e, _⟩, _⟩ := x; exact Heap.lt_size e
  | rng lo hi => obtain ⟨_, _, _, e⟩ := x; exact Heap.lt_size e
  | frz ob u => obtain ⟨e, _⟩ := x; exact Heap.lt_size e
  | tbl ps => exact Heap.lt_size (show h.get? a = some _ from x)
  | met f y => exact Heap.lt_size (show h.get? a = some _ from x)
  | ext φ => obtain ⟨_, ⟨_, e⟩, _⟩ := x; exact Heap.lt_size e
theorem Paired.mapP {α β : Type} {F G : α → β → Prop} : ∀ {l₁ : List α} {l₂ : List β}, Paired F l₁ l₂ → (∀ a b, F a b → G a b) → Paired G l₁ l₂
  | _, _, .nil, _ => .nil
  | _, _, .cons r t, f => .cons (f _ _ r) (Paired.mapP t f)
/-- what an object's description leans on: its own object, its own dict, the tuples -/
theorem ObjOk.stay (x : ObjOk P w H h a o) (k : ∀ b u, (b = a ∨ H b = some (.own a)) → h.get? b = some u → h'.get? b = some u)
    (ho : ∀ b, H b = some (.own a) → H' b = some (.own a)) (ht : ∀ b xs, H b = some (.tup xs) → H' b = some (.tup xs)) : ObjOk P w H' h' a o := by
  induction o with
  | lst xs => obtain ⟨z, its, n, r, e⟩ := x; exact ⟨z, its, n, r, k _ _ (.inl rfl) e⟩
  | tup xs => obtain ⟨z, its, r, ob, e, c⟩ := x; exact ⟨z, its, r, ob, k _ _ (.inl rfl) e, c⟩
  | dK kvs => obtain ⟨z, y, vs, r, ob, es, ep, e, c⟩ := x; exact ⟨z, y, vs, r, ob, es, ep, k _ _ (.inl rfl) e, c⟩
  | dT kvs =>
    obtain ⟨z, y, xs, r, ob, es, ep, e, c⟩ := x
    exact ⟨z, y, xs, Paired.mapP r fun p q z => ⟨z.1, ht _ _ z.2.1, z.2.2⟩, ob, es, ep, k _ _ (.inl rfl) e, c⟩
  | set S n => obtain ⟨ob, es, ep, t, e, c⟩ := x; exact ⟨ob, es, ep, t, k _ _ (.inl rfl) e, c⟩
  | ins C dx fs =>
    obtain ⟨d, z, ne, e, mA, ⟨od, es, ep, e2, c⟩, r⟩ := x
    exact ⟨ho _ d, z, ne, k _ _ (.inl rfl) e, mA, ⟨od, es, ep, k _ _ (.inr d) e2, c⟩, r⟩
  | own y => obtain ⟨ob, e⟩ := x; exact ⟨ob, k _ _ (.inl rfl) e⟩
  | xd fs => obtain ⟨mA, ⟨od, es, ep, e, c⟩, r⟩ := x; exact ⟨mA, ⟨od, es, ep, k _ _ (.inl rfl) e, c⟩, r⟩
  | rng lo hi => obtain ⟨t, u, v, e⟩ := x; exact ⟨t, u, v, k _ _ (.inl rfl) e⟩
  | frz ob u ih => obtain ⟨e, q⟩ := x; exact ⟨k _ _ (.inl rfl) e, ih q⟩
  | tbl ps =>
    have e : h.get? a = some { cls := .none, data := .fields ps } := x
    show h'.get? a = some { cls := .none, data := .fields ps }
    exact k a _ (.inl rfl) e
  | met f y =>
    have e : h.get? a = some (PySem.W.methodObj (.ref f) (.ref y)) := x
    show h'.get? a = some (PySem.W.methodObj (.ref f) (.ref y))
    exact k a _ (.inl rfl) e
  | ext φ => obtain ⟨p, ⟨o, e⟩, st⟩ := x; exact ⟨st _ _ p fun o q => k _ _ (.inl rfl) q, ⟨o, k _ _ (.inl rfl) e⟩, st⟩
theorem HOk.lt (x : HOk P w H h) (e : H a = some o) : a < h.objs.size := (x a o e).lt
theorem HOk.fresh (x : HOk P w H h) (e : h.objs.size ≤ a) : H a = none := by
  cases q : H a with
  | none => rfl
  | some u => exact absurd (Nat.lt_of_lt_of_le (x.lt q) e) (Nat.lt_irrefl _)
/-- every object of the heap is kept -/
theorem HOk.kept (x : HOk P w H h) (k : ∀ b u, h.get? b = some u → h'.get? b = some u) : HOk P w H h' := fun a o e =>
  (x a o e).stay (fun b u _ q => k b u q) (fun _ q => q) fun _ _ q => q
/-- a new object is laid and tracked -/
theorem HOk.laid (x : HOk P w H h) (k : ∀ b u, h.get? b = some u → h'.get? b = some u) (hp : h.objs.size ≤ a) (new : ObjOk P w (upd H a o) h' a o) : HOk P w (upd H a o) h' := fun b u e => by
  have hn := x.fresh hp
  by_cases hb : b = a
  · subst hb; rw [upd_same] at e; cases e; exact new
  · rw [upd_ne hb] at e
    exact (x b u e).stay (fun c v _ q => k c v q) (fun c q => by rw [upd_ne (ne_of_none q hn)]; exact q) fun c xs q => by rw [upd_ne (ne_of_none q hn)]; exact q
end

/-- what may be read as u: it is u, or a known u -/
def Rd (H : Hp) (a : Addr) (u : HO) : Prop := H a = some u ∨ ∃ o, H a = some (.frz o u)
theorem Rd.ok {P : Program} {w : World} {H : Hp} {h : Heap} {a : Addr} {u : HO} (r : Rd H a u) (x : HOk P w H h) : ObjOk P w H h a u := by
  rcases r with r | ⟨o, r⟩
  · exact x a u r
  · obtain ⟨_, q⟩ := x a _ r
    exact q
/-- what may be written -/
def Mut : Option HO → Prop
  | some (.lst _) => True
  | some (.dK _) => True
  | some (.dT _) => True
  | some (.set _ _) => True
  | some (.ins _ _ _) => True
  | some (.ext _) => True
  | _ => False
section
variable {P : Program} {w : World} {H : Hp} {h h' : Heap} {x e : Addr} {o' : HO}
/-- the object at e is changed: x itself, or the dict of the instance x -/
theorem HOk.write (ok : HOk P w H h) (mu : Mut (H x)) (he : e = x ∨ H e = some (.own x)) (k : ∀ b u, b ≠ e → h.get? b = some u → h'.get? b = some u) (heo : ∃ u, h'.get? e = some u)
    (new : ObjOk P w (upd H x o') h' x o') : HOk P w (upd H x o') h' := fun b u q => by
  have nown : ∀ c y, H c = some (.own y) → c ≠ x := fun c y r z => by subst z; rw [r] at mu; exact mu
  have ntup : ∀ c xs, H c = some (.tup xs) → c ≠ x := fun c xs r z => by subst z; rw [r] at mu; exact mu
  by_cases hb : b = x
  · subst hb; rw [upd_same] at q; cases q; exact new
  · rw [upd_ne hb] at q
    by_cases hbe : b = e
    · have q' : H b = some (.own x) := by
        rcases he with z | z
        · exact absurd (hbe.trans z) hb
        · rw [hbe]; exact z
      rw [q] at q'; cases q'
      obtain ⟨v, hv⟩ := heo
      exact ⟨v, by rw [hbe]; exact hv⟩
    · refine (ok b u q).stay (fun c v hc r => k c v ?_ r) (fun c r => by rw [upd_ne (nown c b r)]; exact r) fun c xs r => by rw [upd_ne (ntup c xs r)]; exact r
      rcases hc with rfl | hc
      · exact hbe
      · rintro rfl
        rcases he with z | z
        · exact nown c b hc z
        · rw [hc] at z; cases z; exact hb rfl
end

/-! ### kept unless tracked; of the frames at fs (the callers') the slots may change (an exception that passes writes there); of the records at ex (iterators) nothing is said -/
structure Un (fs ex : List Addr) (H H' : Hp) (h h' : Heap) : Prop where
  keep : ∀ b o, h.get? b = some o → H b = none → b ∉ fs → b ∉ ex → h'.get? b = some o
  slot : ∀ b o, h.get? b = some o → H b = none → b ∈ fs → b ∉ ex → ∃ sl, h'.get? b = some { o with slots := sl }
  free : ∀ b o, h.get? b = some o → H b = none → b ∉ ex → H' b = none
  there : ∀ b o, h.get? b = some o → b ∉ ex → ∃ o', h'.get? b = some o'
  tups : ∀ b xs, H b = some (.tup xs) → H' b = some (.tup xs)
  frzs : ∀ b o u, H b = some (.frz o u) → H' b = some (.frz o u)
  tbls : ∀ b ps, H b = some (.tbl ps) → ∃ more, H' b = some (.tbl (ps ++ more))
section
variable {fs fs' ex ex' : List Addr} {H H1 H2 : Hp} {h h1 h2 h' : Heap} {a x e : Addr} {o : HO}
theorem Un.any (u : Un fs ex H H1 h h1) {b : Addr} {ob : Obj} (q : h.get? b = some ob) (n : H b = none) (hx : b ∉ ex) : ∃ sl, h1.get? b = some { ob with slots := sl } := by
  by_cases hb : b ∈ fs
  · exact u.slot b ob q n hb hx
  · exact ⟨ob.slots, u.keep b ob q n hb hx⟩
theorem Un.kept (k : ∀ b u, h.get? b = some u → h'.get? b = some u) : Un fs ex H H h h' :=
  ⟨fun b ob q _ _ _ => k b ob q, fun b ob q _ _ _ => ⟨ob.slots, k b ob q⟩, fun _ _ _ n _ => n, fun b ob q _ => ⟨ob, k b ob q⟩, fun _ _ q => q, fun _ _ _ q => q, fun _ ps q => ⟨#[], by rw [q]; simp⟩⟩
theorem Un.refl : Un fs ex H H h h := Un.kept fun _ _ q => q
theorem Un.laid (k : ∀ b u, h.get? b = some u → h'.get? b = some u) (hp : h.objs.size ≤ a) (hn : H a = none) : Un fs ex H (upd H a o) h h' where
  keep := fun b u q _ _ _ => k b u q
  slot := fun b u q _ _ _ => ⟨u.slots, k b u q⟩
  free := fun b u q n _ => by rw [upd_ne (Nat.ne_of_lt (Nat.lt_of_lt_of_le (Heap.lt_size q) hp))]; exact n
  there := fun b u q _ => ⟨u, k b u q⟩
  tups := fun b xs q => by rw [upd_ne (ne_of_none q hn)]; exact q
  frzs := fun b u xs q => by rw [upd_ne (ne_of_none q hn)]; exact q
  tbls := fun b ps q => ⟨#[], by rw [upd_ne (ne_of_none q hn), q]; simp⟩
theorem Un.write (mu : Mut (H x)) (he : e = x ∨ H e = some (.own x)) (k : ∀ b u, b ≠ e → h.get? b = some u → h'.get? b = some u) (heo : ∃ u, h'.get? e = some u) : Un fs ex H (upd H x o) h h' := by
  have hx : ∀ b, H b = none → b ≠ x := fun b n z => by subst z; rw [n] at mu; exact mu
  have hb : ∀ b, H b = none → b ≠ e := fun b n z => by
    subst z
    rcases he with r | r
    · exact hx b n r
    · rw [n] at r; cases r
  have hm : ∀ b u, H b = some u → ¬ Mut (some u) → b ≠ x := fun b u q nm z => by subst z; rw [q] at mu; exact nm mu
  refine ⟨fun b u q n _ _ => k b u (hb b n) q, fun b u q n _ _ => ⟨u.slots, k b u (hb b n) q⟩, fun b u q n _ => by rw [upd_ne (hx b n)]; exact n, fun b u q _ => ?_,
    fun b xs q => by rw [upd_ne (hm b _ q fun z => z)]; exact q, fun b u xs q => by rw [upd_ne (hm b _ q fun z => z)]; exact q, fun b ps q => ⟨#[], by rw [upd_ne (hm b _ q fun z => z), q]; simp⟩⟩
  by_cases hbe : b = e
  · subst hbe; exact heo
  · exact ⟨u, k b u hbe q⟩
end

/-! ### the heap without what is tracked -/
def trk (h : Heap) (H : Hp) : List Addr := (List.range h.objs.size).filter fun a => (H a).isSome
def hidT (h : Heap) (H : Hp) : Heap := PySem.W.hideAll h (trk h H)
theorem hidT_size (h : Heap) (H : Hp) : (hidT h H).objs.size = h.objs.size := PySem.W.hideAll_size _ _
theorem hidT_get {h : Heap} {H : Hp} {b : Addr} {o : Obj} (e : h.get? b = some o) (n : H b = none) : (hidT h H).get? b = some o :=
  PySem.W.hideAll_get _ e fun hm => by
    have q : (H b).isSome = true := (List.mem_filter.mp hm).2
    rw [n] at q; simp at q
theorem of_hidT {h : Heap} {H : Hp} {b : Addr} {o : Obj} (e : (hidT h H).get? b = some o) : h.get? b = some o ∧ H b = none := by
  have e' : h.get? b = some o := PySem.W.of_hideAll (trk h H) e
  refine ⟨e', ?_⟩
  cases q : H b with
  | none => rfl
  | some x =>
    have hm : b ∈ trk h H := List.mem_filter.mpr ⟨List.mem_range.mpr (Heap.lt_size e'), by simp [q]⟩
    have z : (hidT h H).get? b = none := PySem.W.hideAll_none (trk h H) hm
    rw [z] at e; cases e

/-! ### OpenK's ledger, filled with every new object but one -/
end L2

namespace L2
open PySem PySem.Spec PyProof.Rows

/-- the module's facts, over the base: the heap at the law's entry without what is tracked there -/
structure Mod (K : PySem.W.Frag) (mg : Str → Option Value) (base : Heap) : Prop where
  kin : K.In base
  glob : base.Ns mainGlobals mg
  blt : ∃ mb, base.Ns builtinsNs mb ∧ ∀ x : Str, x ≠ "__name__" → mb x = bootBuiltins x
  nolimit : base.NoLimit

/-- the context: a def's body (or a comprehension's block) running. base: fixed through the whole law; s₀, H₀: the entry; outer: the frames whose slots others may change (a def's callers); stack: all frames that run;
   ex: iterators that were made ahead of the entry and are walked here (a comprehension's); fn: the names whose cells were made at the entry (a def: all; a comprehension's block: its own); calm: not within an except suite; pn: pins that every state bears; xe: what is wanted of an exception that leaves the code -/
structure Cx where
  prog : Program
  w : World
  K : PySem.W.Frag
  mg : Str → Option Value
  base : Heap
  A : Around
  N : List Str
  s₀ : Shared
  H₀ : Hp
  env : Env
  outer : List Env
  stack : List Env
  ex : List Addr
  fn : Str → Bool
  calm : Bool
  pn : List (Addr × Obj)
  xe : Value → Shared → Prop
/-- the callers' frames -/
def frs (l : List Env) : List Addr := l.filterMap (·.frame)
abbrev Cx.fs (X : Cx) : List Addr := frs X.outer

def Vis (sc : Scope) (x : Str) : Prop := sc.names.lookup x = some .local ∨ sc.names.lookup x = some .cell ∨ sc.names.lookup x = some .free
def Loc (sc : Scope) (x : Str) : Prop := sc.names.lookup x = some .local ∨ sc.names.lookup x = some .cell
def Look (env : Env) (h : Heap) (m : Str → Option Value) (x : Str) (u : Value) : Prop :=
  (env.kindOf x = some .local ∧ m x = some u) ∨ ((env.kindOf x = some .cell ∨ env.kindOf x = some .free) ∧ ∃ c, env.cells.lookup x = some c ∧ h.IsCell c (some u))

structure Cx.Ok (X : Cx) : Prop where
  mod : Mod X.K X.mg X.base
  kind : X.env.scope.kind = .function
  glob : X.env.globals = mainGlobals
  blt : X.env.builtins = builtinsNs
  above : X.s₀.heap.objs.size ≤ X.env.locals
  inj : ∀ x y c, X.env.cells.lookup x = some c → X.env.cells.lookup y = some c → x = y
  has : ∀ x, (X.env.kindOf x = some .cell ∨ X.env.kindOf x = some .free) → ∃ c, X.env.cells.lookup x = some c
  cab : ∀ x c, X.fn x = true → X.env.cells.lookup x = some c → X.s₀.heap.objs.size ≤ c
  hd : X.calm = true → X.A.handled = none
  frames : X.A.frames = some X.stack
  stk : X.stack = X.outer ∨ (X.stack = X.env :: X.outer ∧ X.env.frame = some X.env.locals)
  exf : ∀ b ∈ X.ex, b ≠ X.env.locals ∧ ∀ x c, X.env.cells.lookup x = some c → c ≠ b
  bs : ∀ b o, X.base.get? b = some o → X.s₀.heap.get? b = some o ∧ X.H₀ b = none
  bsz : X.base.objs.size ≤ X.s₀.heap.objs.size
  noex : ∀ b o, X.base.get? b = some o → b ∉ X.ex
  exfs : ∀ b ∈ X.ex, b ∉ X.fs
  funs : X.s₀.heap.FunFrames X.base X.outer
  frf : ∀ b ∈ X.fs, X.H₀ b = none

structure Inv (X : Cx) (pins : List (Addr × Obj)) (σ : List (Option V)) (H : Hp) (s : Shared) : Prop where
  ok : X.Ok
  os : s.os = X.s₀.os
  bare : AllBare s.gens
  base : Un X.fs X.ex X.H₀ H X.s₀.heap s.heap
  loc : ∃ m, s.heap.Ns X.env.locals m ∧ ∀ (i : Nat) (x : Str) (v : V), X.N[i]? = some x → σ[i]? = some (some v) → Vis X.env.scope x → ∃ u, RelV v u ∧ Look X.env s.heap m x u
  cell : ∀ x c, X.env.cells.lookup x = some c → ∃ v, s.heap.IsCell c v
  free : H X.env.locals = none
  freeC : ∀ x c, X.env.cells.lookup x = some c → H c = none
  pin : ∀ p ∈ X.pn ++ pins, s.heap.get? p.1 = some p.2 ∧ H p.1 = none ∧ p.1 ≠ X.env.locals ∧ p.1 ∉ X.fs ∧ ∀ v, p.2.data ≠ .cell v
  hok : HOk X.prog X.w H s.heap
  len : σ.length = X.N.length

section
variable {X : Cx} {pins : List (Addr × Obj)} {σ : List (Option V)} {H H' : Hp} {s : Shared} {h' : Heap}

theorem Cx.Ok.nofr (ok : X.Ok) {b : Addr} {o : Obj} (e : X.base.get? b = some o) : b ∉ X.fs := fun hb => by
  have := (ok.funs.mem hb).1
  rw [e] at this; cases this
theorem Inv.bs (I : Inv X pins σ H s) : ∀ b o, X.base.get? b = some o → s.heap.get? b = some o ∧ H b = none := fun b o e =>
  ⟨I.base.keep b o (I.ok.bs b o e).1 (I.ok.bs b o e).2 (I.ok.nofr e) (I.ok.noex b o e), I.base.free b o (I.ok.bs b o e).1 (I.ok.bs b o e).2 (I.ok.noex b o e)⟩
theorem Inv.bk (I : Inv X pins σ H s) : ∀ b o, X.base.get? b = some o → s.heap.get? b = some o := fun b o e => (I.bs b o e).1
theorem Inv.mod (I : Inv X pins σ H s) : Mod X.K X.mg X.base := I.ok.mod
theorem Inv.kIn (I : Inv X pins σ H s) : X.K.In s.heap := I.ok.mod.kin.keeps I.bk
theorem Inv.lt (I : Inv X pins σ H s) : X.env.locals < s.heap.objs.size := let ⟨_, hn, _⟩ := I.loc; hn.lt
theorem Inv.sz (I : Inv X pins σ H s) : X.s₀.heap.objs.size ≤ s.heap.objs.size := Nat.le_trans I.ok.above (Nat.le_of_lt I.lt)
theorem Inv.nofs (I : Inv X pins σ H s) {a : Addr} (h : s.heap.objs.size ≤ a) : a ∉ X.fs := fun hb => by
  obtain ⟨_, o, ho, _⟩ := I.ok.funs.mem hb
  exact absurd (Nat.lt_of_lt_of_le (Heap.lt_size ho) (Nat.le_trans I.sz h)) (Nat.lt_irrefl _)
theorem Inv.cne (I : Inv X pins σ H s) : ∀ x c, X.env.cells.lookup x = some c → c ≠ X.env.locals := fun x c e z => by
  obtain ⟨v, o, ho, hd⟩ := I.cell x c e
  obtain ⟨m, ⟨o', es, ep, ho', hd', _⟩, _⟩ := I.loc
  rw [z, ho'] at ho; cases ho; rw [hd'] at hd; cases hd
theorem Inv.funs (I : Inv X pins σ H s) : s.heap.FunFrames X.base X.outer := by
  have all : ∀ (l : List Env), (∀ b ∈ frs l, b ∈ X.fs) → X.s₀.heap.FunFrames X.base l → s.heap.FunFrames X.base l := by
    intro l
    induction l with
    | nil => intro _ _; trivial
    | cons env r ih =>
      intro hs hl
      obtain ⟨hk, ⟨L, o, hf, hn, ho, hd⟩, hr⟩ := hl
      have hL : L ∈ X.fs := hs L (by unfold frs; rw [List.filterMap_cons, hf]; exact List.mem_cons_self)
      obtain ⟨sl, e⟩ := I.base.slot L o ho (I.ok.frf L hL) hL fun z => I.ok.exfs L z hL
      exact ⟨hk, ⟨L, _, hf, hn, e, hd⟩, ih (fun b hb => hs b (by unfold frs; rw [List.filterMap_cons, hf]; exact List.mem_cons_of_mem _ hb)) hr⟩
  exact all X.outer (fun _ hb => hb) I.ok.funs

/-- the frames that run, for a call -/
theorem Inv.stack (I : Inv X pins σ H s) : s.heap.FunFrames X.base X.stack := by
  rcases I.ok.stk with e | ⟨e, hf⟩
  · rw [e]; exact I.funs
  · rw [e]
    obtain ⟨m, hn, _⟩ := I.loc
    refine .cons (by rw [I.ok.kind]; decide) hf hn ?_ I.funs
    exact Heap.get?_none_of_le (Nat.le_trans I.ok.bsz I.ok.above)
theorem Inv.stkSub (I : Inv X pins σ H s) : ∀ b ∈ frs X.stack, b ∈ X.env.locals :: X.fs := fun b hb => by
  rcases I.ok.stk with e | ⟨e, hf⟩
  · rw [e] at hb; exact List.mem_cons_of_mem _ hb
  · rw [e] at hb
    unfold frs at hb
    rw [List.filterMap_cons, hf] at hb
    exact hb
theorem Inv.stkFree (I : Inv X pins σ H s) : ∀ b ∈ frs X.stack, H b = none := fun b hb => by
  rcases List.mem_cons.mp (I.stkSub b hb) with e | hb
  · rw [e]; exact I.free
  · obtain ⟨_, o, ho, _⟩ := I.ok.funs.mem hb
    exact I.base.free b o ho (I.ok.frf b hb) fun z => I.ok.exfs b z hb

/-- THE STEP: the untracked objects but the frame and the records at ch are kept (the callers' frames up to slots), the frame's map is kept, the new abstract heap is held -/
theorem Inv.step {g' : Array GenState} {t' : Nat} {d' : Drawn} {ch : List Addr} (I : Inv X pins σ H s)
    (hch : ∀ b ∈ ch, (b ∈ X.ex ∨ X.s₀.heap.objs.size ≤ b) ∧ b ≠ X.env.locals ∧ (∀ x c, X.env.cells.lookup x = some c → c ≠ b) ∧ ∀ p ∈ X.pn ++ pins, p.1 ≠ b)
    (keep : ∀ b o, b ≠ X.env.locals → b ∉ X.fs → b ∉ ch → s.heap.get? b = some o → H b = none → h'.get? b = some o)
    (slot : ∀ b o, b ≠ X.env.locals → b ∈ X.fs → b ∉ ch → s.heap.get? b = some o → H b = none → ∃ sl, h'.get? b = some { o with slots := sl }) (free : ∀ b o, b ∉ ch → s.heap.get? b = some o → H b = none → H' b = none)
    (there : ∀ b o, b ∉ ch → s.heap.get? b = some o → ∃ o', h'.get? b = some o')
    (tups : ∀ b xs, H b = some (.tup xs) → H' b = some (.tup xs)) (frzs : ∀ b o u, H b = some (.frz o u) → H' b = some (.frz o u)) (tbls : ∀ b ps, H b = some (.tbl ps) → ∃ more, H' b = some (.tbl (ps ++ more)))
    (ns : ∀ m, s.heap.Ns X.env.locals m → h'.Ns X.env.locals m) (hok : HOk X.prog X.w H' h') (hg : AllBare g') :
    Inv X pins σ H' { s with heap := h', gens := g', drawn := d', toks := t' } := by
  have neL : ∀ b o, X.s₀.heap.get? b = some o → b ≠ X.env.locals := fun b o e => Nat.ne_of_lt (Nat.lt_of_lt_of_le (Heap.lt_size e) I.ok.above)
  have neC : ∀ b o, X.s₀.heap.get? b = some o → b ∉ X.ex → b ∉ ch := fun b o e hx hb => by
    rcases (hch b hb).1 with z | z
    · exact hx z
    · exact absurd (Nat.lt_of_lt_of_le (Heap.lt_size e) z) (Nat.lt_irrefl _)
  have cellK : ∀ x c, X.env.cells.lookup x = some c → ∀ v, s.heap.IsCell c v → h'.IsCell c v := fun x c e v ⟨o, ho, hd⟩ => by
    have nch : c ∉ ch := fun z => (hch c z).2.2.1 x c e rfl
    by_cases hc : c ∈ X.fs
    · obtain ⟨sl, q⟩ := slot c o (I.cne x c e) hc nch ho (I.freeC x c e)
      exact ⟨_, q, hd⟩
    · exact ⟨o, keep c o (I.cne x c e) hc nch ho (I.freeC x c e), hd⟩
  refine ⟨I.ok, I.os, hg, ⟨fun b o e n hb hx => ?_, fun b o e n hb hx => ?_, fun b o e n hx => ?_, fun b o e hx => ?_, fun b xs e => tups b xs (I.base.tups b xs e), fun b o xs e => frzs b o xs (I.base.frzs b o xs e), fun b ps e => ?_⟩, ?_, fun x c e => ?_, ?_, fun x c e => ?_, fun p hp => ?_, hok, I.len⟩
  · exact keep b o (neL b o e) hb (neC b o e hx) (I.base.keep b o e n hb hx) (I.base.free b o e n hx)
  · obtain ⟨sl, e1⟩ := I.base.slot b o e n hb hx
    obtain ⟨sl', e2⟩ := slot b _ (neL b o e) hb (neC b o e hx) e1 (I.base.free b o e n hx)
    exact ⟨sl', e2⟩
  · obtain ⟨o', e1⟩ := I.base.there b o e hx
    exact free b o' (neC b o e hx) e1 (I.base.free b o e n hx)
  · obtain ⟨o', e1⟩ := I.base.there b o e hx
    exact there b o' (neC b o e hx) e1
  · obtain ⟨m1, e1⟩ := I.base.tbls b ps e
    obtain ⟨m2, e2⟩ := tbls b _ e1
    exact ⟨m1 ++ m2, by rw [e2, Array.append_assoc]⟩
  · obtain ⟨m, hn, hl⟩ := I.loc
    refine ⟨m, ns m hn, fun i x v e1 e2 e3 => ?_⟩
    obtain ⟨u, r, l⟩ := hl i x v e1 e2 e3
    refine ⟨u, r, ?_⟩
    rcases l with l | ⟨k, c, e, z⟩
    · exact .inl l
    · exact .inr ⟨k, c, e, cellK x c e _ z⟩
  · obtain ⟨v, z⟩ := I.cell x c e
    exact ⟨v, cellK x c e v z⟩
  · obtain ⟨m, ⟨o, _, _, ho, _⟩, _⟩ := I.loc
    exact free _ o (fun z => (hch _ z).2.1 rfl) ho I.free
  · obtain ⟨v, o, ho, hd⟩ := I.cell x c e
    exact free c o (fun z => (hch c z).2.2.1 x c e rfl) ho (I.freeC x c e)
  · obtain ⟨e, n, ne, nf, d⟩ := I.pin p hp
    have nch : p.1 ∉ ch := fun z => (hch p.1 z).2.2.2 p hp rfl
    exact ⟨keep p.1 p.2 ne nf nch e n, free p.1 p.2 nch e n, ne, nf, d⟩
/-- .. where the frame's own object is kept too -/
theorem Inv.un {t' : Nat} (I : Inv X pins σ H s) (u : Un X.fs [] H H' s.heap h') (hok : HOk X.prog X.w H' h') : Inv X pins σ H' { s with heap := h', toks := t' } := by
  obtain ⟨m, ⟨o, es, ep, ho, r⟩, _⟩ := id I.loc
  obtain ⟨sl, hL⟩ := u.any ho I.free (by simp)
  exact I.step (g' := s.gens) (d' := s.drawn) (ch := []) (fun _ z => nomatch z) (fun b o _ hb _ e n => u.keep b o e n hb (by simp)) (fun b o _ hb _ e n => u.slot b o e n hb (by simp)) (fun b o _ e n => u.free b o e n (by simp)) (fun b o _ e => u.there b o e (by simp)) u.tups u.frzs u.tbls (fun m' hm => by
    obtain ⟨o', es', ep', ho', r'⟩ := hm
    rw [ho] at ho'; cases ho'
    exact ⟨_, es', ep', hL, r'⟩) hok I.bare
/-- behind a call (or a comprehension's block): the slots of this frame may have changed too, the records at ch may have turned -/
theorem Inv.call {g' : Array GenState} {t' : Nat} {d' : Drawn} {ch : List Addr} (I : Inv X pins σ H s) (u : Un (frs X.stack) ch H H' s.heap h') (hok : HOk X.prog X.w H' h') (hg : AllBare g')
    (hch : ∀ b ∈ ch, (b ∈ X.ex ∨ X.s₀.heap.objs.size ≤ b) ∧ b ≠ X.env.locals ∧ (∀ x c, X.env.cells.lookup x = some c → c ≠ b) ∧ ∀ p ∈ X.pn ++ pins, p.1 ≠ b) :
    Inv X pins σ H' { s with heap := h', gens := g', drawn := d', toks := t' } := by
  obtain ⟨m, ⟨o, es, ep, ho, r⟩, _⟩ := id I.loc
  obtain ⟨sl, hL⟩ := u.any ho I.free fun z => (hch _ z).2.1 rfl
  exact I.step (ch := ch) hch (fun b o hL hb hc e n => u.keep b o e n (fun z => (List.mem_cons.mp (I.stkSub b z)).elim hL hb) hc) (fun b o _ _ hc e n => u.any e n hc) (fun b o hc e n => u.free b o e n hc) (fun b o hc e => u.there b o e hc) u.tups u.frzs u.tbls (fun m' hm => by
    obtain ⟨o', es', ep', ho', r'⟩ := hm
    rw [ho] at ho'; cases ho'
    exact ⟨_, es', ep', hL, r'⟩) hok hg
/-- an untracked record of ours (an iterator) has turned -/
theorem Inv.turned {t' : Nat} {it : Addr} (I : Inv X pins σ H s) (k : ∀ b o, b ≠ it → s.heap.get? b = some o → h'.get? b = some o) (hn : H it = none) (hL : it ≠ X.env.locals)
    (h1 : it ∈ X.ex ∨ X.s₀.heap.objs.size ≤ it) (h2 : ∀ x c, X.env.cells.lookup x = some c → c ≠ it) (h3 : ∀ p ∈ X.pn ++ pins, p.1 ≠ it) : Inv X pins σ H { s with heap := h', toks := t' } := by
  have nit : ∀ b u, H b = some u → b ≠ it := fun b u e z => by rw [z, hn] at e; cases e
  refine I.step (g' := s.gens) (d' := s.drawn) (ch := [it]) (fun b hb => ?_) (fun b o _ _ hc e _ => k b o (fun z => hc (by simp [z])) e) (fun b o _ _ hc e _ => ⟨o.slots, k b o (fun z => hc (by simp [z])) e⟩) (fun _ _ _ _ n => n)
    (fun b o hc e => ⟨o, k b o (fun z => hc (by simp [z])) e⟩) (fun _ _ e => e) (fun _ _ _ e => e) (fun b ps e => ⟨#[], by rw [e]; simp⟩) (fun m hm => ?_) (fun b u e => ?_) I.bare
  · have e : b = it := by simpa using hb
    subst e
    exact ⟨h1, hL, h2, h3⟩
  · obtain ⟨o, es, ep, ho, r⟩ := hm
    exact ⟨o, es, ep, k _ o (Ne.symm hL) ho, r⟩
  · refine (I.hok b u e).stay (fun c v hc q => k c v ?_ q) (fun _ q => q) fun _ _ q => q
    rcases hc with z | z
    · rw [z]; exact nit b u e
    · exact nit c _ z
theorem Inv.tok (I : Inv X pins σ H s) (t : Nat) : Inv X pins σ H { s with toks := t } := I.un (h' := s.heap) (t' := t) Un.refl I.hok
/-- all objects kept -/
theorem Inv.kept {t' : Nat} (I : Inv X pins σ H s) (k : ∀ b u, s.heap.get? b = some u → h'.get? b = some u) : Inv X pins σ H { s with heap := h', toks := t' } := I.un (Un.kept k) (I.hok.kept k)
/-- a new object laid and tracked -/
theorem Inv.laid {a : Addr} {o : HO} {t' : Nat} (I : Inv X pins σ H s) (k : ∀ b u, s.heap.get? b = some u → h'.get? b = some u) (hp : s.heap.objs.size ≤ a) (new : ObjOk X.prog X.w (upd H a o) h' a o) :
    Inv X pins σ (upd H a o) { s with heap := h', toks := t' } := I.un (Un.laid k hp (I.hok.fresh hp)) (I.hok.laid k hp new)
/-- an object written -/
theorem Inv.write {x e : Addr} {o : HO} {t' : Nat} (I : Inv X pins σ H s) (mu : Mut (H x)) (he : e = x ∨ H e = some (.own x)) (k : ∀ b u, b ≠ e → s.heap.get? b = some u → h'.get? b = some u) (heo : ∃ u, h'.get? e = some u)
    (new : ObjOk X.prog X.w (upd H x o) h' x o) : Inv X pins σ (upd H x o) { s with heap := h', toks := t' } := I.un (Un.write mu he k heo) (I.hok.write mu he k heo new)
/-- forgetting slots, pins -/
theorem Inv.weak {σ' : List (Option V)} (I : Inv X pins σ H s) (hl : σ'.length = σ.length) (w : ∀ (i : Nat) v, σ'[i]? = some (some v) → σ[i]? = some (some v)) : Inv X pins σ' H s :=
  ⟨I.ok, I.os, I.bare, I.base, let ⟨m, hn, hl'⟩ := I.loc; ⟨m, hn, fun i x v e1 e2 e3 => hl' i x v e1 (w i v e2) e3⟩, I.cell, I.free, I.freeC, I.pin, I.hok, hl.trans I.len⟩
theorem Inv.pins_of {pins' : List (Addr × Obj)} (I : Inv X pins σ H s) (h : ∀ p ∈ pins', s.heap.get? p.1 = some p.2 ∧ H p.1 = none ∧ p.1 ≠ X.env.locals ∧ p.1 ∉ X.fs ∧ ∀ v, p.2.data ≠ .cell v) : Inv X pins' σ H s :=
  ⟨I.ok, I.os, I.bare, I.base, I.loc, I.cell, I.free, I.freeC, fun p hp => (List.mem_append.mp hp).elim (fun z => I.pin p (List.mem_append_left _ z)) (h p), I.hok, I.len⟩

theorem nodup_ix {N : List Str} (hN : N.Nodup) {i j : Nat} {x : Str} (a : N[i]? = some x) (b : N[j]? = some x) : i = j := by
  obtain ⟨h1, e1⟩ := List.getElem?_eq_some_iff.mp a
  obtain ⟨h2, e2⟩ := List.getElem?_eq_some_iff.mp b
  exact (List.getElem_inj hN).mp (e1.trans e2.symm)

/-- a name is stored; what changed -/
theorem store_ok2 {M : Model} {A : Around} {E : Value → Shared → Prop} {i : Nat} {x : Str} {v : V} {u : Value} {Q : Unit → Shared → Prop} (I : Inv X pins σ H s) (hN : X.N.Nodup) (hi : X.N[i]? = some x) (hx : Loc X.env.scope x) (r : RelV v u)
    (h : ∀ s', Inv X pins (σ.set i (some v)) H s' → (∃ a, Heap.SameBut a s.heap s'.heap ∧ (a = X.env.locals ∨ X.env.cells.lookup x = some a)) → Q () s') (hf : X.fn x = true ∨ X.env.scope.names.lookup x = some .local := by first | exact .inl rfl | exact .inr rfl | assumption) : wpAny M A (storeName X.env x u) Q E s := by
  obtain ⟨m, hn, hl⟩ := id I.loc
  have hcls : (X.env.scope.kind == .class || (X.env.scope.kind == .module && X.env.locals != X.env.globals)) = false := by rw [I.ok.kind]; rfl
  have hiσ : i < σ.length := by rw [I.len]; exact (List.getElem?_eq_some_iff.mp hi).1
  have cne := I.cne
  have tracked : ∀ {a : Addr} {h' : Heap}, (∃ o, s.heap.get? a = some o ∧ H a = none) → Heap.SameBut a s.heap h' → HOk X.prog X.w H h' := fun {a h'} ha hs b ob e => by
    obtain ⟨_, _, hfree⟩ := ha
    refine (I.hok b ob e).stay (fun c w' hc q => (hs.2 c ?_).trans q) (fun _ q => q) fun _ _ q => q
    rintro rfl
    rcases hc with rfl | hc
    · rw [hfree] at e; cases e
    · rw [hfree] at hc; cases hc
  rcases hx with hk | hk
  · refine wpAny_storeName_local hk hn (fun h' hn' hs => ?_) hcls
    obtain ⟨oL, _, _, hoL, _⟩ := id hn
    refine h _ ⟨I.ok, I.os, I.bare, ⟨fun b o e n hb hx => ?_, fun b o e n hb hx => ?_, I.base.free, fun b o e hx => ?_, I.base.tups, I.base.frzs, I.base.tbls⟩, ⟨_, hn', fun j y v' e1 e2 e3 => ?_⟩, fun y c e => ?_, I.free, I.freeC, fun p hp => ?_, tracked ⟨oL, hoL, I.free⟩ hs, by simpa using I.len⟩ ⟨_, hs, .inl rfl⟩
    · exact (hs.2 b (Nat.ne_of_lt (Nat.lt_of_lt_of_le (Heap.lt_size e) I.ok.above))).trans (I.base.keep b o e n hb hx)
    · obtain ⟨sl, e1⟩ := I.base.slot b o e n hb hx
      exact ⟨sl, (hs.2 b (Nat.ne_of_lt (Nat.lt_of_lt_of_le (Heap.lt_size e) I.ok.above))).trans e1⟩
    · obtain ⟨o', e1⟩ := I.base.there b o e hx
      exact ⟨o', (hs.2 b (Nat.ne_of_lt (Nat.lt_of_lt_of_le (Heap.lt_size e) I.ok.above))).trans e1⟩
    · by_cases hj : j = i
      · subst hj
        rw [hi] at e1; cases e1
        rw [List.getElem?_set_self hiσ] at e2
        cases e2
        exact ⟨u, r, .inl ⟨hk, by simp⟩⟩
      · rw [List.getElem?_set_ne (Ne.symm hj)] at e2
        obtain ⟨u', r', q⟩ := hl j y v' e1 e2 e3
        refine ⟨u', r', ?_⟩
        rcases q with ⟨k, e⟩ | ⟨k, c, e, z⟩
        · refine .inl ⟨k, ?_⟩
          have : y ≠ x := fun e => hj (nodup_ix hN e1 (e ▸ hi))
          simp [this, e]
        · exact .inr ⟨k, c, e, z.sameBut hs (cne y c e)⟩
    · obtain ⟨w', z⟩ := I.cell y c e
      exact ⟨w', z.sameBut hs (cne y c e)⟩
    · obtain ⟨e, n, ne, nf, d⟩ := I.pin p hp
      exact ⟨(hs.2 p.1 ne).trans e, n, ne, nf, d⟩
  · have hfn : X.fn x = true := by
      rcases hf with z | z
      · exact z
      · rw [z] at hk; cases hk
    obtain ⟨c, hc⟩ := I.ok.has x (.inl hk)
    obtain ⟨w', z⟩ := I.cell x c hc
    refine wpAny_storeName_cell I.ok.kind hk hc z (fun h' hc' hs => ?_)
    obtain ⟨oc, hoc, hocd⟩ := id z
    refine h { s with heap := h' } ⟨I.ok, I.os, I.bare, ⟨fun b o e n hb hx => ?_, fun b o e n hb hx => ?_, I.base.free, fun b o e hx => ?_, I.base.tups, I.base.frzs, I.base.tbls⟩, ⟨m, hn.sameBut hs (Ne.symm (cne x c hc)), fun j y v' e1 e2 e3 => ?_⟩, fun y c' e => ?_, I.free, I.freeC, fun p hp => ?_, tracked ⟨oc, hoc, I.freeC x c hc⟩ hs, by simpa using I.len⟩ ⟨c, hs, .inr hc⟩
    · exact (hs.2 b (Nat.ne_of_lt (Nat.lt_of_lt_of_le (Heap.lt_size e) (I.ok.cab x c hfn hc)))).trans (I.base.keep b o e n hb hx)
    · obtain ⟨sl, e1⟩ := I.base.slot b o e n hb hx
      exact ⟨sl, (hs.2 b (Nat.ne_of_lt (Nat.lt_of_lt_of_le (Heap.lt_size e) (I.ok.cab x c hfn hc)))).trans e1⟩
    · obtain ⟨o', e1⟩ := I.base.there b o e hx
      exact ⟨o', (hs.2 b (Nat.ne_of_lt (Nat.lt_of_lt_of_le (Heap.lt_size e) (I.ok.cab x c hfn hc)))).trans e1⟩
    · by_cases hj : j = i
      · subst hj
        rw [hi] at e1; cases e1
        rw [List.getElem?_set_self hiσ] at e2
        cases e2
        exact ⟨u, r, .inr ⟨.inl hk, c, hc, hc'⟩⟩
      · rw [List.getElem?_set_ne (Ne.symm hj)] at e2
        obtain ⟨u', r', q⟩ := hl j y v' e1 e2 e3
        refine ⟨u', r', ?_⟩
        rcases q with q | ⟨k, c', e, z'⟩
        · exact .inl q
        · refine .inr ⟨k, c', e, z'.sameBut hs ?_⟩
          rintro rfl
          exact hj (nodup_ix hN e1 (I.ok.inj _ _ _ e hc ▸ hi))
    · by_cases hcc : c' = c
      · subst hcc; exact ⟨_, hc'⟩
      · obtain ⟨w2, z2⟩ := I.cell y c' e
        exact ⟨w2, z2.sameBut hs hcc⟩
    · obtain ⟨e, n, ne, nf, d⟩ := I.pin p hp
      refine ⟨(hs.2 p.1 ?_).trans e, n, ne, nf, d⟩
      intro q
      rw [q, hoc] at e
      have q' : oc = p.2 := Option.some.inj e
      exact d w' (by rw [← q']; exact hocd)
theorem store_ok {M : Model} {A : Around} {E : Value → Shared → Prop} {i : Nat} {x : Str} {v : V} {u : Value} {Q : Unit → Shared → Prop} (I : Inv X pins σ H s) (hN : X.N.Nodup) (hi : X.N[i]? = some x) (hx : Loc X.env.scope x) (r : RelV v u)
    (h : ∀ s', Inv X pins (σ.set i (some v)) H s' → Q () s') (hf : X.fn x = true ∨ X.env.scope.names.lookup x = some .local := by first | exact .inl rfl | exact .inr rfl | assumption) : wpAny M A (storeName X.env x u) Q E s :=
  store_ok2 I hN hi hx r (fun s' I' _ => h s' I') hf
/-- behind a call or a block, the state as it is -/
theorem Inv.call' {s' : Shared} {ch : List Addr} (I : Inv X pins σ H s) (ho : s'.os = s.os) (u : Un (frs X.stack) ch H H' s.heap s'.heap) (hok : HOk X.prog X.w H' s'.heap) (hg : AllBare s'.gens)
    (hch : ∀ b ∈ ch, (b ∈ X.ex ∨ X.s₀.heap.objs.size ≤ b) ∧ b ≠ X.env.locals ∧ (∀ x c, X.env.cells.lookup x = some c → c ≠ b) ∧ ∀ p ∈ X.pn ++ pins, p.1 ≠ b) : Inv X pins σ H' s' := by
  obtain ⟨h', g', d', t', o'⟩ := s'
  have e : o' = s.os := ho
  subst e
  exact I.call (g' := g') (t' := t') (d' := d') u hok hg hch
end

/-! ### the judgements -/
/-- an exception: its class, its own dict's address (where it has one), the abstract heap behind it -/
abbrev XK := Value → Option Addr → Hp → Prop
abbrev St := List (Option V)
abbrev VK := V → Hp → Prop
/-- an expression's reading; a test's; an argument list's -/
abbrev TE := St → Hp → VK → Prop
abbrev TT := St → Hp → (Bool → Hp → Prop) → Prop
abbrev TA := St → Hp → (List V → Hp → Prop) → Prop
/-- what is wanted behind a statement -/
structure Ends where
  nx : St → Hp → Prop
  rt : VK
  bk : St → Hp → Prop := fun _ _ => False
  ct : St → Hp → Prop := fun _ _ => False
abbrev TS := Ends → St → Hp → Prop

def EP (X : Cx) (pins : List (Addr × Obj)) (σ : St) (Q : VK) (u : Value) (s' : Shared) : Prop := ∃ v H', Inv X pins σ H' s' ∧ RelV v u ∧ Q v H'
def TP (X : Cx) (pins : List (Addr × Obj)) (σ : St) (Q : Bool → Hp → Prop) (b : Bool) (s' : Shared) : Prop := ∃ H', Inv X pins σ H' s' ∧ Q b H'
def AP (X : Cx) (pins : List (Addr × Obj)) (σ : St) (Q : List V → Hp → Prop) (us : List Value) (s' : Shared) : Prop := ∃ vs H', Inv X pins σ H' s' ∧ Vals vs us ∧ Q vs H'
def SP (X : Cx) (pins : List (Addr × Obj)) (D : Ends) (f : Flow) (s' : Shared) : Prop :=
  match f with
  | .next => ∃ σ' H', Inv X pins σ' H' s' ∧ D.nx σ' H'
  | .brk => ∃ σ' H', Inv X pins σ' H' s' ∧ D.bk σ' H'
  | .cont => ∃ σ' H', Inv X pins σ' H' s' ∧ D.ct σ' H'
  | .ret u => ∃ v σ' H', Inv X pins σ' H' s' ∧ RelV v u ∧ D.rt v H'

def PE (X : Cx) (e : Expr) (t : TE) : Prop :=
  ∀ (pins : List (Addr × Obj)) (s : Shared) (σ : St) (H : Hp) (Q : VK), Inv X pins σ H s → t σ H Q → wpAny (model X.prog X.w) X.A (eval e X.env) (EP X pins σ Q) X.xe s
def PT (X : Cx) (e : Expr) (t : TT) : Prop :=
  ∀ (pins : List (Addr × Obj)) (s : Shared) (σ : St) (H : Hp) (Q : Bool → Hp → Prop), Inv X pins σ H s → t σ H Q → wpAny (model X.prog X.w) X.A (isTrue e X.env (eval e X.env)) (TP X pins σ Q) X.xe s
/-- a test whatever its 'whole' is (and, or) -/
def PW (X : Cx) (e : Expr) (t : TT) : Prop :=
  ∀ (whole : Sem Value) (pins : List (Addr × Obj)) (s : Shared) (σ : St) (H : Hp) (Q : Bool → Hp → Prop), Inv X pins σ H s → t σ H Q → wpAny (model X.prog X.w) X.A (isTrue e X.env whole) (TP X pins σ Q) X.xe s
theorem PW.pt {X : Cx} {e : Expr} {t : TT} (h : PW X e t) : PT X e t := h _
/-- an argument list (no star), from the left -/
def PA (X : Cx) (es : List Expr) (t : TA) : Prop :=
  ∀ (pos : Pos) (pins : List (Addr × Obj)) (s : Shared) (σ : St) (H : Hp) (Q : List V → Hp → Prop), Inv X pins σ H s → t σ H Q → wpAny (model X.prog X.w) X.A (spliced (backTo pos (starEach es X.env))) (AP X pins σ Q) X.xe s
def PS (X : Cx) (st : Stmt) (t : TS) : Prop :=
  ∀ (pins : List (Addr × Obj)) (s : Shared) (σ : St) (H : Hp) (D : Ends), Inv X pins σ H s → t D σ H → wpAny (model X.prog X.w) X.A (exec st X.env) (SP X pins D) X.xe s
def PSs (X : Cx) (st : List Stmt) (t : TS) : Prop :=
  ∀ (pins : List (Addr × Obj)) (s : Shared) (σ : St) (H : Hp) (D : Ends), Inv X pins σ H s → t D σ H → wpAny (model X.prog X.w) X.A (execs st X.env) (SP X pins D) X.xe s
/-- weaken the end -/
theorem thn {α : Type} {t : Sem α} {Q Q' : α → Shared → Prop} {M : Model} {A : Around} {E : Value → Shared → Prop} {s : Shared} (h : wpAny M A t Q E s) (hQ : ∀ a s, Q a s → Q' a s) : wpAny M A t Q' E s := wpAny_mono h hQ fun _ _ x => x
end L2

namespace L2
open PySem PySem.Spec PyProof.Rows
section
variable {X : Cx}


/-! ### names and constants -/
def tVar (i : Nat) : TE := fun σ H Q => ∃ v, σ[i]? = some (some v) ∧ Q v H
def tC (v : V) : TE := fun _ H Q => Q v H
theorem pe_var {i : Nat} {x : Str} {pos : Pos} (hN : X.N[i]? = some x) (hv : Vis X.env.scope x) (hd : (x == ("__debug__" : Str)) = false := by decide) (hcd : (x == ("__classdict__" : Str)) = false := by decide) : PE X (.Name x pos) (tVar i) := by
  intro pins s σ H Q I h
  obtain ⟨v, e, h⟩ := h
  obtain ⟨m, hn, hl⟩ := I.loc
  obtain ⟨u, r, l⟩ := hl i x v hN e hv
  have fin : EP X pins σ Q u s := ⟨v, H, I, r, h⟩
  rcases l with ⟨hk, hm⟩ | ⟨hk, c, hc, hcell⟩
  · exact wpAny_Name (wpAny_loadName_local I.ok.kind hk hn hm fin) hd
  · rcases hk with hk | hk
    · exact wpAny_Name (wpAny_loadName_cell I.ok.kind hk hc hcell fin) hd
    · exact wpAny_Name (wpAny_loadName_free I.ok.kind hk hc hcell fin hcd) hd
theorem pe_int {i j pos} : PE X (.Constant (.int i) j pos) (tC (.int i)) := fun _ _ _ H _ I h => wpAny_Constant_int ⟨.int i, H, I.tok _, ⟨_, rfl⟩, h⟩
theorem pe_bl {b j pos} : PE X (.Constant (.bool b) j pos) (tC (.bl b)) := fun _ _ _ H _ I h => Constant_bool ⟨.bl b, H, I, rfl, h⟩
theorem pe_non {j pos} : PE X (.Constant .none j pos) (tC .non) := fun _ _ _ H _ I h => Constant_none ⟨.non, H, I, rfl, h⟩
theorem pe_str {x j pos} : PE X (.Constant (.str x) j pos) (tC (.str x)) := fun _ _ _ H _ I h => Calls.Constant_str ⟨.str x, H, I.tok _, ⟨_, rfl⟩, h⟩

/-- a global name of the def -/
def Gl (X : Cx) (x : Str) : Prop := X.env.kindOf x = some .globalImplicit
theorem ld_glob {E : Value → Shared → Prop} {pins : List (Addr × Obj)} {s : Shared} {σ : St} {H : Hp} {x : Str} {u : Value} {pos : Pos} {Q : Value → Shared → Prop} (I : Inv X pins σ H s) (hg : Gl X x) (hm : X.mg x = some u) (h : Q u s)
    (hd : (x == ("__debug__" : Str)) = false := by decide) : wpAny (model X.prog X.w) X.A (eval (.Name x pos) X.env) Q E s :=
  Calls.Name_function_global I.ok.kind hg (Calls.loadGlobal_global (by rw [I.ok.glob]; exact I.mod.glob.keeps I.bk) hm h) hd
theorem ld_blt {E : Value → Shared → Prop} {pins : List (Addr × Obj)} {s : Shared} {σ : St} {H : Hp} {x : Str} {u : Value} {pos : Pos} {Q : Value → Shared → Prop} (I : Inv X pins σ H s) (hg : Gl X x) (hm : X.mg x = none) (hv : bootBuiltins x = some u) (h : Q u s)
    (hn : x ≠ "__name__" := by decide) (hd : (x == ("__debug__" : Str)) = false := by decide) : wpAny (model X.prog X.w) X.A (eval (.Name x pos) X.env) Q E s := by
  obtain ⟨mb, h1, h2⟩ := I.mod.blt
  exact Calls.Name_function_global I.ok.kind hg (Calls.loadGlobal_builtin (by rw [I.ok.glob]; exact I.mod.glob.keeps I.bk) hm (by rw [I.ok.blt]; exact h1.keeps I.bk) ((h2 x hn).trans hv) h) hd
/-- a module's constant, a class, a function, as a value -/
theorem pe_glob {x : Str} {v : V} {u : Value} {pos : Pos} (hg : Gl X x) (hm : X.mg x = some u) (r : RelV v u) (hd : (x == ("__debug__" : Str)) = false := by decide) : PE X (.Name x pos) (tC v) :=
  fun _ _ _ H _ I h => ld_glob I hg hm ⟨v, H, I, r, h⟩ hd
theorem pe_bltn {x : Str} {v : V} {u : Value} {pos : Pos} (hg : Gl X x) (hm : X.mg x = none) (hv : bootBuiltins x = some u) (r : RelV v u) (hn : x ≠ "__name__" := by decide) (hd : (x == ("__debug__" : Str)) = false := by decide) : PE X (.Name x pos) (tC v) :=
  fun _ _ _ H _ I h => ld_blt I hg hm hv ⟨v, H, I, r, h⟩ hn hd

/-! ### arithmetic -/
variable {a b : Expr} {ta tb : TE} {pos : Pos}

/-! ### comparisons -/
/-- a comparison as a value, as a test -/
def tB (t : TE) : TT := fun σ H Q => t σ H fun x H1 => ∃ c, x = .bl c ∧ Q c H1
/-- an expression whose value is a bool, as a test -/
theorem pt_val {e : Expr} {t : TE} (h : PE X e t) (he : ∀ whole, isTrue e X.env whole = (do let v ← whole; standAt e.pos; holding [v] (truthy v)) := by intro _; rfl) : PT X e (tB t) := by
  intro pins s σ H Q I hw
  refine isTrue_plain (thn (h pins s σ H _ I hw) fun v s1 ⟨x, H1, I1, r1, q1⟩ => ?_) (he _)
  obtain ⟨d, rfl, q⟩ := q1
  cases r1
  exact wpAny_truthy_bool ⟨H1, I1, q⟩

/-! ### and, or, not -/
variable {tA tB' : TT} {rest : List Expr}
def tOr (t u : TT) : TT := fun σ H Q => t σ H fun c H1 => if c = true then Q true H1 else u σ H1 Q
def tNot (t : TT) : TT := fun σ H Q => t σ H fun c H1 => Q (!c) H1
theorem pw_or1 (ha : PT X a tA) : PW X (.BoolOp .Or [a] pos) tA := by
  intro wh pins s σ H Q I h
  refine isTrue_or (thn (ha pins s σ H Q I h) fun c s1 e => ?_)
  cases c with
  | false => exact isTrue_or_nil e
  | true => exact e
theorem pw_or (ha : PT X a tA) (hb : PW X (.BoolOp .Or (b :: rest) pos) tB') : PW X (.BoolOp .Or (a :: b :: rest) pos) (tOr tA tB') := by
  intro wh pins s σ H Q I h
  refine isTrue_or (thn (ha pins s σ H _ I h) fun c s1 ⟨H1, I1, q1⟩ => ?_)
  cases c with
  | true => exact ⟨H1, I1, q1⟩
  | false => exact hb wh pins s1 σ H1 Q I1 q1
theorem pt_not (ha : PT X a tA) : PT X (.UnaryOp .Not a pos) (tNot tA) := by
  intro pins s σ H Q I h
  exact isTrue_not (ha pins s σ H (fun c H1 => Q (!c) H1) I h)
/-- .. as values (bools) -/
def tAndV (ta tb : TE) : TE := fun σ H Q => ta σ H fun x H1 => ∃ c, x = .bl c ∧ if c = true then tb σ H1 Q else Q (.bl false) H1
def tOrV (ta tb : TE) : TE := fun σ H Q => ta σ H fun x H1 => ∃ c, x = .bl c ∧ if c = true then Q (.bl true) H1 else tb σ H1 Q
def tNotV (ta : TE) : TE := fun σ H Q => ta σ H fun x H1 => ∃ c, x = .bl c ∧ Q (.bl (!c)) H1
theorem pe_one {op} {t : TE} (h : PE X a t) : PE X (.BoolOp op [a] pos) t := fun pins s σ H Q I hw => BoolOp_one (h pins s σ H Q I hw)
theorem pe_and (ha : PE X a ta) (hb : PE X (.BoolOp .And (b :: rest) pos) tb) : PE X (.BoolOp .And (a :: b :: rest) pos) (tAndV ta tb) := by
  intro pins s σ H Q I h
  refine BoolOp_and (thn (ha pins s σ H _ I h) fun v s1 ⟨x, H1, I1, r1, q1⟩ => ?_)
  obtain ⟨c, rfl, q1⟩ := q1
  cases r1
  refine wpAny_truthy_bool ?_
  cases c with
  | true => exact hb pins s1 σ H1 Q I1 q1
  | false => exact ⟨.bl false, H1, I1, rfl, q1⟩
theorem pe_or (ha : PE X a ta) (hb : PE X (.BoolOp .Or (b :: rest) pos) tb) : PE X (.BoolOp .Or (a :: b :: rest) pos) (tOrV ta tb) := by
  intro pins s σ H Q I h
  refine BoolOp_or (thn (ha pins s σ H _ I h) fun v s1 ⟨x, H1, I1, r1, q1⟩ => ?_)
  obtain ⟨c, rfl, q1⟩ := q1
  cases r1
  refine wpAny_truthy_bool ?_
  cases c with
  | false => exact hb pins s1 σ H1 Q I1 q1
  | true => exact ⟨.bl true, H1, I1, rfl, q1⟩
theorem pe_not (ha : PE X a ta) : PE X (.UnaryOp .Not a pos) (tNotV ta) := by
  intro pins s σ H Q I h
  refine UnaryOp_ (thn (ha pins s σ H _ I h) fun v s1 ⟨x, H1, I1, r1, q1⟩ => ?_)
  obtain ⟨c, rfl, q1⟩ := q1
  cases r1
  exact not_of (wpAny_truthy_bool ⟨.bl (!c), H1, I1, rfl, q1⟩)
/-- a if t else b -/
def tIf (t : TT) (ta tb : TE) : TE := fun σ H Q => t σ H fun c H1 => if c = true then ta σ H1 Q else tb σ H1 Q
theorem pe_ifExp {c : Expr} (hc : PT X c tA) (ha : PE X a ta) (hb : PE X b tb) : PE X (.IfExp c a b pos) (tIf tA ta tb) := by
  intro pins s σ H Q I h
  refine wpAny_IfExp (thn (hc pins s σ H _ I h) fun d s1 ⟨H1, I1, q1⟩ => ?_)
  cases d with
  | true => exact ha pins s1 σ H1 Q I1 q1
  | false => exact hb pins s1 σ H1 Q I1 q1
end
end L2

namespace L2
open PySem PySem.Spec PyProof.Rows

/-! ### a list, a tuple that is read: tracked, frozen, or an object of the module -/
def SqL (K : PySem.W.Frag) (H : Hp) (a : Addr) (xs : List V) : Prop :=
  Rd H a (.lst xs) ∨
    ∃ (o : Obj) (its : Array Value) (n : Nat), K.lookup a = some o ∧ o.cls = .type "list" ∧ o.dict = none ∧ o.data = .seq its n ∧ its.size ≤ sizeLine ∧ Vals xs its.toList
def SqT (K : PySem.W.Frag) (H : Hp) (a : Addr) (xs : List V) : Prop :=
  Rd H a (.tup xs) ∨
    ∃ (o : Obj) (its : Array Value) (n : Nat), K.lookup a = some o ∧ o.cls = .type "tuple" ∧ o.data = .seq its n ∧ its.size ≤ sizeLine ∧ Vals xs its.toList
def absV : Value → Option V
  | .none => some .non
  | .bool b => some (.bl b)
  | .int i _ => some (.int i)
  | .str x _ => some (.str x)
  | .bytes b _ => some (.byt b)
  | .float b _ => some (.flt b)
  | .ref a => some (.ref a)
  | .type n => some (.ty n)
  | _ => none
theorem RelV.abs {x : V} {u : Value} (r : RelV x u) : absV u = some x := by
  cases x with
  | non => cases r; rfl
  | bl _ => cases r; rfl
  | int _ => obtain ⟨t, rfl⟩ := r; rfl
  | str _ => obtain ⟨t, rfl⟩ := r; rfl
  | byt _ => obtain ⟨t, rfl⟩ := r; rfl
  | flt _ => obtain ⟨t, rfl⟩ := r; rfl
  | ref _ => cases r; rfl
  | ty _ => cases r; rfl
theorem RelV.inj {x y : V} {u : Value} (r : RelV x u) (q : RelV y u) : x = y := Option.some.inj (r.abs.symm.trans q.abs)
theorem Vals.inj : ∀ {xs ys : List V} {us : List Value}, Vals xs us → Vals ys us → xs = ys
  | _, _, _, .nil, .nil => rfl
  | _, _, _, .cons r t, .cons r' t' => by rw [r.inj r', Vals.inj t t']
section
variable {X : Cx} {pins : List (Addr × Obj)} {σ : St} {H : Hp} {s : Shared} {a : Addr} {xs ys : List V}
theorem SqL.of {K : PySem.W.Frag} (h : H a = some (.lst xs)) : SqL K H a xs := .inl (.inl h)
theorem SqT.of {K : PySem.W.Frag} (h : H a = some (.tup xs)) : SqT K H a xs := .inl (.inl h)
theorem Inv.list (I : Inv X pins σ H s) (h : SqL X.K H a xs) : ∃ its : List Value, Vals xs its ∧ PlainL s.heap a its.toArray ∧ xs.length ≤ sizeLine := by
  rcases h with h | ⟨o, its, n, hk, hc, hd, hs, hz, r⟩
  · obtain ⟨z, its, n, r, e⟩ := h.ok I.hok
    exact ⟨its, r, ⟨_, n, e, rfl, rfl, rfl⟩, z⟩
  · refine ⟨its.toList, r, ⟨o, n, I.kIn a o hk, hc, hd, by simpa using hs⟩, ?_⟩
    have e := r.length
    simp only [Array.length_toList] at e
    omega
theorem Inv.tuple (I : Inv X pins σ H s) (h : SqT X.K H a xs) : ∃ its : List Value, Vals xs its ∧ IsTup s.heap a its.toArray ∧ xs.length ≤ sizeLine := by
  rcases h with h | ⟨o, its, n, hk, hc, hs, hz, r⟩
  · obtain ⟨z, its, r, p⟩ := h.ok I.hok
    exact ⟨its, r, p, z⟩
  · refine ⟨its.toList, r, ⟨o, I.kIn a o hk, hc, n, by simpa using hs⟩, ?_⟩
    have e := r.length
    simp only [Array.length_toList] at e
    omega
theorem Inv.list_inj (I : Inv X pins σ H s) (h : SqL X.K H a xs) (h' : SqL X.K H a ys) : xs = ys := by
  obtain ⟨its, r, ⟨o, n, e, _, _, d⟩, _⟩ := I.list h
  obtain ⟨its', r', ⟨o', n', e', _, _, d'⟩, _⟩ := I.list h'
  rw [e] at e'; cases e'
  rw [d] at d'
  injection d' with d1 _
  have : its = its' := by simpa using congrArg Array.toList d1
  subst this
  exact r.inj r'
end

/-! ### another wish about exceptions -/
abbrev Cx.wish (X : Cx) (E : Value → Shared → Prop) : Cx := { X with xe := E }
/-- no exception leaves -/
abbrev Cx.nox (X : Cx) : Cx := X.wish fun _ _ => False
theorem Cx.Ok.wish {X : Cx} (ok : X.Ok) (E : Value → Shared → Prop) : (X.wish E).Ok :=
  ⟨ok.mod, ok.kind, ok.glob, ok.blt, ok.above, ok.inj, ok.has, ok.cab, ok.hd, ok.frames, ok.stk, ok.exf, ok.bs, ok.bsz, ok.noex, ok.exfs, ok.funs, ok.frf⟩
theorem Cx.Ok.unwish {X : Cx} {E : Value → Shared → Prop} (ok : (X.wish E).Ok) : X.Ok :=
  ⟨ok.mod, ok.kind, ok.glob, ok.blt, ok.above, ok.inj, ok.has, ok.cab, ok.hd, ok.frames, ok.stk, ok.exf, ok.bs, ok.bsz, ok.noex, ok.exfs, ok.funs, ok.frf⟩
section
variable {X : Cx} {pins : List (Addr × Obj)} {σ : St} {H : Hp} {s : Shared} {E : Value → Shared → Prop}
theorem Inv.wish (I : Inv X pins σ H s) (E : Value → Shared → Prop) : Inv (X.wish E) pins σ H s := ⟨I.ok.wish E, I.os, I.bare, I.base, I.loc, I.cell, I.free, I.freeC, I.pin, I.hok, I.len⟩
theorem Inv.unwish (I : Inv (X.wish E) pins σ H s) : Inv X pins σ H s := ⟨I.ok.unwish, I.os, I.bare, I.base, I.loc, I.cell, I.free, I.freeC, I.pin, I.hok, I.len⟩
theorem SP.unwish {D : Ends} {f : Flow} {s' : Shared} (h : SP (X.wish E) pins D f s') : SP X pins D f s' := by
  cases f with
  | next => obtain ⟨σ', H', I, q⟩ := h; exact ⟨σ', H', I.unwish, q⟩
  | brk => obtain ⟨σ', H', I, q⟩ := h; exact ⟨σ', H', I.unwish, q⟩
  | cont => obtain ⟨σ', H', I, q⟩ := h; exact ⟨σ', H', I.unwish, q⟩
  | ret u => obtain ⟨v, σ', H', I, r, q⟩ := h; exact ⟨v, σ', H', I.unwish, r, q⟩
theorem PSs.nox {st : List Stmt} {t : TS} (h : PSs X.nox st t) : PSs X st t := fun pins s σ H D I hw =>
  wpAny_mono (h pins s σ H D (I.wish _) hw) (fun _ _ q => q.unwish) fun _ _ z => False.elim z
end

/-! ### blocks and small statements -/
section
variable {X : Cx} {st : Stmt} {rest : List Stmt} {t u : TS} {e : Expr} {te : TE} {pos : Pos}
def tNext : TS := fun D σ H => D.nx σ H
def tSeq (t u : TS) : TS := fun D σ H => t { D with nx := u D } σ H
theorem pss_nil : PSs X [] tNext := fun _ _ σ H _ I h => wpAny_execs_nil ⟨σ, H, I, h⟩
theorem pss_cons (h1 : PS X st t) (h2 : PSs X rest u) : PSs X (st :: rest) (tSeq t u) := by
  intro pins s σ H D I h
  refine wpAny_execs_cons (thn (h1 pins s σ H { D with nx := u D } I h) fun f s1 q => ?_)
  cases f with
  | next =>
    obtain ⟨σ', H', I', q⟩ := q
    exact h2 pins s1 σ' H' D I' q
  | ret v => exact q
  | brk => exact q
  | cont => exact q
theorem pss_one (h1 : PS X st t) : PSs X [st] t := by
  intro pins s σ H D I h
  refine wpAny_execs_cons (thn (h1 pins s σ H D I h) fun f s1 q => ?_)
  cases f with
  | next => exact wpAny_execs_nil q
  | ret v => exact q
  | brk => exact q
  | cont => exact q
/-- in a def's body nothing is shown -/
theorem Inv.quiet {pins : List (Addr × Obj)} {σ : St} {H : Hp} {s : Shared} (I : Inv X pins σ H s) : interactive X.env = false := by simp [interactive, I.ok.kind]
/-- an expression whose value is dropped -/
def tDrop (te : TE) : TS := fun D σ H => te σ H fun _ H1 => D.nx σ H1
theorem ps_expr (he : PE X e te) (hs : swapsWith e none pos.line X.env = pure false := by rfl) : PS X (.Expr e pos) (tDrop te) := by
  intro pins s σ H D I h
  exact wpAny_Expr_any (thn (he pins s σ H _ I h) fun v s1 ⟨x, H1, I1, r1, q1⟩ => ⟨σ, H1, I1, q1⟩) I.quiet hs
def tRet (te : TE) : TS := fun D σ H => te σ H D.rt
theorem ps_ret (he : PE X e te) : PS X (.Return (some e) pos) (tRet te) := by
  intro pins s σ H D I h
  exact wpAny_Return_some (thn (he pins s σ H _ I h) fun v s1 ⟨x, H1, I1, r1, q1⟩ => ⟨x, σ, H1, I1, r1, q1⟩)
def tIfS (c : TT) (t u : TS) : TS := fun D σ H => c σ H fun b H1 => if b = true then t D σ H1 else u D σ H1
theorem ps_if {c : Expr} {a b : List Stmt} {tc : TT} (hc : PT X c tc) (ha : PSs X a t) (hb : PSs X b u) : PS X (.If c a b pos) (tIfS tc t u) := by
  intro pins s σ H D I h
  refine wpAny_If (thn (hc pins s σ H _ I h) fun d s1 ⟨H1, I1, q1⟩ => ?_)
  cases d with
  | true => exact ha pins s1 σ H1 D I1 q1
  | false => exact hb pins s1 σ H1 D I1 q1
/-- code that the proof never comes to -/
def tNever : TS := fun _ _ _ => False
theorem pss_never {sts : List Stmt} : PSs X sts tNever := fun _ _ _ _ _ _ h => h.elim
end

/-! ### targets -/
abbrev TG := V → St → Hp → (St → Hp → Prop) → Prop
abbrev TGs := List V → St → Hp → (St → Hp → Prop) → Prop
def PG (X : Cx) (target : Expr) (t : TG) : Prop :=
  ∀ (pins : List (Addr × Obj)) (s : Shared) (σ : St) (H : Hp) (v : V) (u : Value) (Q : St → Hp → Prop), Inv X pins σ H s → RelV v u → t v σ H Q →
    wpAny (model X.prog X.w) X.A (assign target X.env u) (fun _ s' => ∃ σ' H', Inv X pins σ' H' s' ∧ Q σ' H') X.xe s
/-- several targets, one after another -/
def PGs (X : Cx) (ts : List Expr) (t : TGs) : Prop :=
  ∀ (pins : List (Addr × Obj)) (s : Shared) (σ : St) (H : Hp) (vs : List V) (us : List Value) (Q : St → Hp → Prop), Inv X pins σ H s → Vals vs us → t vs σ H Q →
    wpAny (model X.prog X.w) X.A (assignInOrder ((assignEach ts X.env).map (·.2)) us) (fun _ s' => ∃ σ' H', Inv X pins σ' H' s' ∧ Q σ' H') X.xe s
section
variable {X : Cx} {pos : Pos}
def gName (i : Nat) : TG := fun v σ H Q => Q (σ.set i (some v)) H
theorem pg_name {i : Nat} {x : Str} (hN : X.N.Nodup) (hi : X.N[i]? = some x) (hx : Loc X.env.scope x) (hf : X.fn x = true ∨ X.env.scope.names.lookup x = some .local := by first | exact .inl rfl | exact .inr rfl | assumption) : PG X (.Name x pos) (gName i) := by
  intro pins s σ H v u Q I r h
  exact wpAny_assign_Name (store_ok I hN hi hx r (fun s' I' => ⟨_, H, I', h⟩) hf)
def gNil : TGs := fun vs σ H Q => vs = [] ∧ Q σ H
def gCons (t : TG) (u : TGs) : TGs := fun vs σ H Q => ∃ v r, vs = v :: r ∧ t v σ H fun σ' H' => u r σ' H' Q
theorem pgs_nil : PGs X [] gNil := by
  intro pins s σ H vs us Q I r h
  obtain ⟨e, h⟩ := h
  subst e
  cases r
  exact assignInOrder_nil ⟨σ, H, I, h⟩
theorem pgs_cons {e : Expr} {es : List Expr} {t : TG} {u : TGs} (h1 : PG X e t) (h2 : PGs X es u)
    (hs : (assignEach (e :: es) X.env).map (·.2) = assign e X.env :: (assignEach es X.env).map (·.2) := by rfl) : PGs X (e :: es) (gCons t u) := by
  intro pins s σ H vs us Q I r h
  obtain ⟨v, vr, e1, h⟩ := h
  subst e1
  cases r with
  | cons r rr =>
    rw [hs]
    refine assignInOrder_cons (thn (h1 pins s σ H _ _ _ I r h) fun _ s1 ⟨σ1, H1, I1, q1⟩ => ?_)
    exact h2 pins s1 σ1 H1 _ _ Q I1 rr q1
/-- (a, b, ..) = a tuple of that length -/
def gTup (K : PySem.W.Frag) (n : Nat) (t : TGs) : TG := fun v σ H Q => ∃ a xs, v = .ref a ∧ SqT K H a xs ∧ xs.length = n ∧ t xs σ H Q
theorem pg_tup {es : List Expr} {k : Nat} {t : TGs} {n : Nat} (hc : X.calm = true) (h : PGs X es t)
    (hn : (assignEach es X.env).length = n := by rfl) (hst : (assignEach es X.env).findIdx? (·.1) = none := by rfl) : PG X (.Tuple es k pos) (gTup X.K n t) := by
  intro pins s σ H v u Q I r hw
  obtain ⟨a, xs, e1, hq, hl, hw⟩ := hw
  subst e1
  cases r
  obtain ⟨its, rv, ht, hz⟩ := I.tuple hq
  refine assign_Tuple_tuple (I.ok.hd hc) ht (by simp [hn, ← hl, rv.length]) hst fun h' hx => ?_
  have I1 : Inv X pins σ H { s with heap := h' } := I.kept (t' := s.toks) fun b o e => hx b o (Nat.ne_of_lt (Heap.lt_size e)) e
  exact h pins _ σ H xs _ Q I1 (by simpa using rv) hw
/-- target = value -/
def tAsg (te : TE) (g : TG) : TS := fun D σ H => te σ H fun x H1 => g x σ H1 D.nx
/-- name = value -/
theorem ps_set {i : Nat} {x : Str} {e : Expr} {te : TE} {pos' : Pos} (hN : X.N.Nodup) (hi : X.N[i]? = some x) (hx : Loc X.env.scope x) (he : PE X e te) (hs : swapsWith e (some (.Name x pos')) pos.line X.env = pure false := by rfl) (hf : X.fn x = true ∨ X.env.scope.names.lookup x = some .local := by first | exact .inl rfl | exact .inr rfl | assumption) :
    PS X (.Assign [.Name x pos'] e pos) (tAsg te (gName i)) := by
  intro pins s σ H D I h
  refine wpAny_Assign_Name (thn (he pins s σ H _ I h) fun v s1 ⟨y, H1, I1, r1, q1⟩ => ?_) hs
  exact store_ok I1 hN hi hx r1 (fun s2 I2 => ⟨_, H1, I2, q1⟩) hf
end

/-! ### while -/
section
variable {X : Cx} {pos : Pos}
end

/-! ### what a loop or a comprehension walks -/
/-- at turn i: it yields x (the heap may grow), or it stops -/
structure It where
  go : Nat → Hp → Prop
  yld : Nat → Hp → V → Hp → Prop
  stop : Nat → Hp → Prop
/-- the iterator's own objects may turn: they are not the frame's, not pinned, younger than the entry (or a comprehension's own) -/
def FpOk (X : Cx) (pins : List (Addr × Obj)) (H : Hp) (b : Addr) : Prop :=
  H b = none ∧ b ≠ X.env.locals ∧ b ∉ X.fs ∧ (b ∈ X.ex ∨ X.s₀.heap.objs.size ≤ b) ∧ (∀ x c, X.env.cells.lookup x = some c → c ≠ b) ∧ ∀ p ∈ X.pn ++ pins, p.1 ≠ b
theorem Inv.fpOk {X : Cx} {pins : List (Addr × Obj)} {σ : St} {H H' : Hp} {s : Shared} {b : Addr} (I : Inv X pins σ H s) (hb : s.heap.objs.size ≤ b) (hn : H' b = none) : FpOk X pins H' b := by
  refine ⟨hn, Nat.ne_of_gt (Nat.lt_of_lt_of_le I.lt hb), I.nofs hb, .inr (Nat.le_trans I.sz hb), fun x c e z => ?_, fun p hp z => ?_⟩
  · obtain ⟨v, q⟩ := I.cell x c e
    exact absurd (Nat.lt_of_lt_of_le q.lt (by rw [z]; exact hb)) (Nat.lt_irrefl _)
  · exact absurd (Nat.lt_of_lt_of_le (Heap.lt_size (I.pin p hp).1) (by rw [z]; exact hb)) (Nat.lt_irrefl _)
structure Turn (P : Program) (w : World) (K : PySem.W.Frag) (tg : Expr) (J : It) (fp : List Addr) (it : Addr) (tn : Nat → Heap → Prop) : Prop where
  mem : it ∈ fp
  obj : ∀ i h, tn i h → ∀ b ∈ fp, ∃ o, h.get? b = some o ∧ ∀ v, o.data ≠ .cell v
  keep : ∀ i h h', tn i h → (∀ b ∈ fp, ∀ o, h.get? b = some o → h'.get? b = some o) → tn i h'
  item : ∀ (X : Cx), X.prog = P → X.w = w → X.K = K → X.calm = true → ∀ (i : Nat) (pins : List (Addr × Obj)) (s : Shared) (σ : St) (H : Hp) (E : Value → Shared → Prop), Inv X pins σ H s → (∀ b ∈ fp, FpOk X pins H b) → tn i s.heap → J.go i H →
    wpAny (model P w) X.A (pyNext (.ref it)) (fun r s1 => ∃ u, r = some u ∧
      wpAny (model P w) X.A (letOwnedTupleGo tg (.ref it) u) (fun _ s2 => ∃ x H', Inv X pins σ H' s2 ∧ RelV x u ∧ J.yld i H x H' ∧ tn (i + 1) s2.heap ∧ ∀ b ∈ fp, H' b = none) E s1) E s
  done : ∀ (X : Cx), X.prog = P → X.w = w → X.K = K → X.calm = true → ∀ (i : Nat) (pins : List (Addr × Obj)) (s : Shared) (σ : St) (H : Hp) (E : Value → Shared → Prop), Inv X pins σ H s → (∀ b ∈ fp, FpOk X pins H b) → tn i s.heap → J.stop i H →
    wpAny (model P w) X.A (pyNext (.ref it)) (fun r s1 => r = none ∧ Inv X pins σ H s1) E s
  self : ∀ (A : Around) (i : Nat) (s : Shared) (Q : Value → Shared → Prop) (E : Value → Shared → Prop), tn i s.heap → Q (.ref it) s → wpAny (model P w) A (pyIter (.ref it)) Q E s
abbrev TI := St → Hp → (It → Hp → Prop) → Prop
/-- an iterator has come -/
def PIE (X : Cx) (pins : List (Addr × Obj)) (σ : St) (tg : Expr) (R : It → Hp → Prop) (itv : Value) (s2 : Shared) : Prop :=
  ∃ (it : Addr) (fp : List Addr) (tn : Nat → Heap → Prop) (J : It) (H' : Hp), itv = .ref it ∧ Inv X pins σ H' s2 ∧ Turn X.prog X.w X.K tg J fp it tn ∧ tn 0 s2.heap ∧ (∀ b ∈ fp, FpOk X pins H' b) ∧ R J H'
def PI (X : Cx) (tg iter : Expr) (wi : TI) : Prop :=
  ∀ (pins : List (Addr × Obj)) (s : Shared) (σ : St) (H : Hp) (R : It → Hp → Prop), Inv X pins σ H s → wi σ H R →
    wpAny (model X.prog X.w) X.A (eval iter X.env) (fun v s1 => wpAny (model X.prog X.w) X.A (pyIter v) (PIE X pins σ tg R) X.xe s1) X.xe s

/-- the step ahead of the store is nothing for an iterator that keeps no tuple -/
theorem go_of {M : Model} {A : Around} {E : Value → Shared → Prop} {s : Shared} {tg : Expr} {it : Addr} {u : Value} {o : Obj} {n : String} {vs : Array Value} {Q : Unit → Shared → Prop} (ho : s.heap.get? it = some o) (hc : o.cls = .type n) (hd : o.data = .fields vs)
    (hn : ["enumerate", "zip", "dict_itemiterator", "dict_reverseitemiterator", "odict_iterator", "itertools.zip_longest", "itertools.pairwise"].contains n = false) (hQ : Q () s) : wpAny M A (letOwnedTupleGo tg (.ref it) u) Q E s := by
  unfold letOwnedTupleGo
  cases tg <;> first
    | exact wpAny_pure hQ
    | (cases u <;> first
        | exact wpAny_pure hQ
        | (refine wpAny_bind (wpAny_load ho ?_)
           rw [hc, hd]
           show wpAny M A (if (["enumerate", "zip", "dict_itemiterator", "dict_reverseitemiterator", "odict_iterator", "itertools.zip_longest", "itertools.pairwise"].contains n && vs[0]? == some (rawInt _)) = true then _ else _) Q E s
           rw [if_neg (by intro h; rw [hn, Bool.false_and] at h; cases h)]
           exact wpAny_pure hQ))

/-- the list at a, as it stands at each turn (a loop may append to it) -/
def Itl (K : PySem.W.Frag) (a : Addr) : It :=
  ⟨fun i H => ∃ xs x, SqL K H a xs ∧ xs[i]? = some x, fun i H x H' => H' = H ∧ ∀ xs, SqL K H a xs → xs[i]? = some x, fun i H => ∃ xs, SqL K H a xs ∧ xs.length ≤ i⟩
/-- lo, lo + 1, .. (n of them) -/
def Itr (lo : Int) (n : Nat) : It := ⟨fun i _ => i < n, fun i H x H' => H' = H ∧ x = .int (lo + i), fun i _ => n ≤ i⟩
theorem turn_list {P : Program} {w : World} {K : PySem.W.Frag} {tg : Expr} (a it : Addr) : Turn P w K tg (Itl K a) [it] it (fun i h => h.IsListIter it a i) where
  mem := by simp
  obj := fun i h st b hb => by
    have e : b = it := by simpa using hb
    subst e
    obtain ⟨o, e, c, d⟩ := st
    exact ⟨o, e, fun v z => by rw [d] at z; cases z⟩
  keep := fun i h h' st k => st.at fun o e => k it (by simp) o e
  item := by
    intro X hP hw hK hc i pins s σ H E I hf st hg
    subst hP hw hK
    obtain ⟨xs, x, hq, hx⟩ := hg
    obtain ⟨its, rv, p, hz⟩ := I.list hq
    obtain ⟨u, hu, ru⟩ := rv.get hx
    obtain ⟨f0, f1, f2, f3, f4, f5⟩ := hf it (by simp)
    refine wpAny_pyNext_list_item st p.isList (x := u) (by simpa using hu) fun h' st' sb => ?_
    have I1 : Inv X pins σ H { s with heap := h' } := I.turned (t' := s.toks) (fun b o hb e => (sb.2 b hb).trans e) f0 f1 f3 f4 f5
    obtain ⟨o, e, c, d⟩ := id st'
    exact ⟨u, rfl, go_of (s := { s with heap := h' }) e c d (by decide) ⟨x, H, I1, ru, ⟨rfl, fun ys hy => by rw [I.list_inj hy hq]; exact hx⟩, st', fun b hb => (hf b hb).1⟩⟩
  done := by
    intro X hP hw hK hc i pins s σ H E I hf st hg
    subst hP hw hK
    obtain ⟨xs, hq, hx⟩ := hg
    obtain ⟨its, rv, p, hz⟩ := I.list hq
    obtain ⟨f0, f1, f2, f3, f4, f5⟩ := hf it (by simp)
    have hl := rv.length
    exact wpAny_pyNext_list_end (I.ok.hd hc) st p.isList (by simp; omega) fun h' eb => ⟨rfl, I.turned (t' := s.toks) (fun b o hb e => eb b o hb e) f0 f1 f3 f4 f5⟩
  self := fun _ _ _ _ _ st h => wpAny_pyIter_listiter st h
theorem turn_range {P : Program} {w : World} {K : PySem.W.Frag} {tg : Expr} (it : Addr) (lo : Int) (n : Nat) : Turn P w K tg (Itr lo n) [it] it (fun i h => IsRangeIter h it (lo + (i : Nat) * 1) ((n : Int) - (i : Nat)) 1) where
  mem := by simp
  obj := fun i h st b hb => by
    have e : b = it := by simpa using hb
    subst e
    exact ⟨_, st, fun v z => by
      have z' : Data.fields _ = Data.cell v := z
      cases z'⟩
  keep := fun i h h' st k => k it (by simp) _ st
  item := by
    intro X hP hw hK hc i pins s σ H E I hf st hg
    subst hP hw hK
    obtain ⟨f0, f1, f2, f3, f4, f5⟩ := hf it (by simp)
    have W := Walks.range (prog := X.prog) (w := X.w) (I.ok.hd hc) it lo 1 n
    refine W.item i s _ _ hg st fun v h' tk hv st' kk => ?_
    obtain ⟨t, rfl⟩ := hv
    have I1 : Inv X pins σ H { s with heap := h', toks := tk } := I.turned (fun b o hb e => kk b o (by simpa using hb) e) f0 f1 f3 f4 f5
    refine ⟨_, rfl, go_of (s := { s with heap := h', toks := tk }) (n := "range_iterator") st' rfl rfl (by decide) ⟨.int (lo + i), H, I1, ⟨t, ?_⟩, ⟨rfl, rfl⟩, st', fun b hb => (hf b hb).1⟩⟩
    rw [Int.mul_one]
  done := by
    intro X hP hw hK hc i pins s σ H E I hf st hg
    subst hP hw hK
    obtain ⟨f0, f1, f2, f3, f4, f5⟩ := hf it (by simp)
    exact wpAny_pyNext_range_end (I.ok.hd hc) st (by have : n ≤ i := hg; omega) fun h' eb => ⟨rfl, I.turned (t' := s.toks) (fun b o hb e => eb b o hb e) f0 f1 f3 f4 f5⟩
  self := fun _ _ _ _ _ st h => wpAny_pyIter_rangeiter st h
end L2

namespace L2
open PySem PySem.Spec PyProof.Rows
section
variable {X : Cx} {tg : Expr}
def iList (K : PySem.W.Frag) (tl : TE) : TI := fun σ H R => tl σ H fun x H1 => ∃ a, x = .ref a ∧ (∃ xs, SqL K H1 a xs) ∧ R (Itl K a) H1
theorem pi_list {l : Expr} {tl : TE} (hl : PE X l tl) : PI X tg l (iList X.K tl) := by
  intro pins s σ H R I h
  refine thn (hl pins s σ H _ I h) fun v s1 ⟨x, H1, I1, r1, q1⟩ => ?_
  obtain ⟨a, e, ⟨xs, hq⟩, q⟩ := q1
  subst e
  cases r1
  obtain ⟨its, rv, p, hz⟩ := I1.list hq
  refine wpAny_pyIter_list p.isList ?_
  refine ⟨s1.heap.objs.size, [s1.heap.objs.size], _, _, H1, rfl, I1.kept (t' := s1.toks) fun b o e => Heap.get?_push_of_some _ e, turn_list a _, ⟨_, Heap.get?_push_size _ rfl, rfl, rfl⟩, fun b hb => ?_, q⟩
  have e : b = s1.heap.objs.size := by simpa using hb
  subst e
  exact I1.fpOk (Nat.le_refl _) (I1.hok.fresh (Nat.le_refl _))
/-- a range object just made, walked -/
theorem range_it {pins : List (Addr × Obj)} {σ : St} {H : Hp} {s : Shared} {R : It → Hp → Prop} {E : Value → Shared → Prop} {lo hi : Int} {t u v : Tok} {tk : Nat} (I : Inv X pins σ H s) (h1 : -(2 ^ 62) ≤ lo) (h2 : lo < 2 ^ 62) (h3 : -(2 ^ 62) ≤ hi) (h4 : hi < 2 ^ 62)
    (q : R (Itr lo (hi - lo).toNat) H) : wpAny (model X.prog X.w) X.A (pyIter (.ref s.heap.objs.size)) (PIE X pins σ tg R) E { s with heap := s.heap.push { cls := .type "range", data := .fields #[.int lo t, .int hi u, .int 1 v] }, toks := tk } := by
  refine wpAny_pyIter_range (IsRange.new ..) (small_one h1 h2 h3 h4) ?_
  have I1 : Inv X pins σ H { s with heap := s.heap.push { cls := .type "range", data := .fields #[.int lo t, .int hi u, .int 1 v] }, toks := tk } := I.kept fun b o e => Heap.get?_push_of_some _ e
  refine ⟨(s.heap.push { cls := .type "range", data := .fields #[.int lo t, .int hi u, .int 1 v] }).objs.size, [(s.heap.push { cls := .type "range", data := .fields #[.int lo t, .int hi u, .int 1 v] }).objs.size], _, _, H, rfl,
    I1.kept (t' := tk) fun b o e => Heap.get?_push_of_some _ e, turn_range _ lo (hi - lo).toNat, ?_, fun b hb => ?_, q⟩
  · have e1 : lo + ((0 : Nat) : Int) * 1 = lo := by simp
    have e2 : (((hi - lo).toNat : Nat) : Int) - ((0 : Nat) : Int) = Builtin.Range.rangeSize lo hi 1 := by rw [rangeSize_one]; split <;> omega
    show IsRangeIter _ _ (lo + ((0 : Nat) : Int) * 1) ((((hi - lo).toNat : Nat) : Int) - ((0 : Nat) : Int)) 1
    rw [e1, e2]
    exact Heap.get?_push_size _ rfl
  · have e : b = (s.heap.push { cls := .type "range", data := .fields #[.int lo t, .int hi u, .int 1 v] }).objs.size := by simpa using hb
    subst e
    exact I1.fpOk (Nat.le_refl _) (I1.hok.fresh (Nat.le_refl _))
def iRng1 (ta : TA) : TI := fun σ H R => ta σ H fun vs H1 => ∃ j : Int, vs = [.int j] ∧ -(2 ^ 62) ≤ j ∧ j < 2 ^ 62 ∧ R (Itr 0 j.toNat) H1
theorem pi_range1 {a : Expr} {ta : TA} {p pos : Pos} (hg : Gl X "range") (hm : X.mg "range" = none) (ha : PA X [a] ta) (hs : starEach [a] X.env = [(false, eval a X.env)] := by rfl) : PI X tg (.Call (.Name "range" p) [a] [] pos) (iRng1 ta) := by
  intro pins s σ H R I h
  refine Call_ (ld_blt I hg hm boot_range (PyProof.Rows.callWith_type1 (thn (ha pos pins s σ H _ I h) fun us s1 ⟨vs, H1, I1, r1, q1⟩ => ?_) hs rfl))
  obtain ⟨j, e, q1, q2, q⟩ := q1
  subst e
  cases r1 with
  | cons r rr =>
    cases rr
    obtain ⟨t, rfl⟩ := r
    exact call_range_1 (range_it I1 (by omega) (by omega) q1 q2 (by simpa using q))

/-! ### for -/
/-- W: the invariant by the turn and a measure; N: what the body is to reach -/
def tFor (wi : TI) (g : TG) (tb : TS) : TS := fun D σ H => wi σ H fun J H1 => ∃ W : Nat → Nat → St → Hp → Prop, (∃ m, W 0 m σ H1) ∧ ∀ i m σ H, W i m σ H →
  (J.stop i H ∧ D.nx σ H) ∨ (J.go i H ∧ ∃ N : St → Hp → Prop, (∀ σ' H', N σ' H' → ∃ m', m' < m ∧ W (i + 1) m' σ' H') ∧ ∀ x H', J.yld i H x H' → g x σ H' fun σ2 H2 => tb { D with nx := N, ct := N, bk := D.nx } σ2 H2)
/-- the records at fp as they stand -/
def pinsAt (fp : List Addr) (h : Heap) : List (Addr × Obj) := fp.filterMap fun b => (h.get? b).map fun o => (b, o)
theorem mem_pinsAt {fp : List Addr} {h : Heap} {b : Addr} {o : Obj} (hb : b ∈ fp) (e : h.get? b = some o) : (b, o) ∈ pinsAt fp h := List.mem_filterMap.mpr ⟨b, hb, by rw [e]; rfl⟩
theorem of_pinsAt {fp : List Addr} {h : Heap} {p : Addr × Obj} (hp : p ∈ pinsAt fp h) : p.1 ∈ fp ∧ h.get? p.1 = some p.2 := by
  obtain ⟨b, hb, e⟩ := List.mem_filterMap.mp hp
  cases q : h.get? b with
  | none => rw [q] at e; cases e
  | some o =>
    rw [q] at e
    have e' : (b, o) = p := Option.some.inj e
    subst e'
    exact ⟨hb, q⟩
theorem Inv.pinned {pins : List (Addr × Obj)} {σ : St} {H : Hp} {s : Shared} {fp : List Addr} (I : Inv X pins σ H s) (hf : ∀ b ∈ fp, FpOk X pins H b) (ho : ∀ b ∈ fp, ∃ o, s.heap.get? b = some o ∧ ∀ v, o.data ≠ .cell v) : Inv X (pins ++ pinsAt fp s.heap) σ H s :=
  I.pins_of fun p hp => (List.mem_append.mp hp).elim (fun z => I.pin p (List.mem_append_right _ z)) fun z => by
    obtain ⟨hb, e⟩ := of_pinsAt z
    obtain ⟨f0, f1, f2, _⟩ := hf p.1 hb
    obtain ⟨o, e', d⟩ := ho p.1 hb
    rw [e] at e'; cases e'
    exact ⟨e, f0, f1, f2, d⟩
theorem Inv.unpinned {pins pl : List (Addr × Obj)} {σ : St} {H : Hp} {s : Shared} (I : Inv X (pins ++ pl) σ H s) : Inv X pins σ H s := I.pins_of fun p hp => I.pin p (List.mem_append_right _ (List.mem_append_left _ hp))
theorem ps_for {iter : Expr} {body : List Stmt} {wi : TI} {g : TG} {tb : TS} {pos : Pos} (hp : PassesOwn (model X.prog X.w) X.A X.env X.xe) (hc : X.calm = true) (hi : PI X tg iter wi) (hg : PG X tg g) (hb : PSs X body tb)
    (hs : ∀ x, foldedSetIterable iter X.env x = pure x := by intro _; rfl) : PS X (.For tg iter body [] pos) (tFor wi g tb) := by
  intro pins s σ H D I h
  refine wpAny_For (thn (hi pins s σ H _ I h) fun v s1 h1 => thn h1 fun itv s2 h2 => ?_) hs
  obtain ⟨it, fp, tn, J, H2, e, I2, T, st2, f2, W, ⟨m0, w0⟩, turn⟩ := h2
  subst e
  -- what stays true of the iterator's objects through the loop
  have stat : ∀ {H' : Hp}, (∀ b ∈ fp, H' b = none) → ∀ b ∈ fp, FpOk X pins H' b := fun hn b hb => ⟨hn b hb, (f2 b hb).2⟩
  refine codeAny_forLoop_any (fun n s' => ∃ i σ' H', Inv X pins σ' H' s' ∧ tn i s'.heap ∧ (∀ b ∈ fp, H' b = none) ∧ W i n σ' H') ?_ m0 ⟨0, σ, H2, I2, st2, fun b hb => (f2 b hb).1, w0⟩
  rintro n s3 ⟨i, σ3, H3, I3, st3, fr3, w3⟩
  rcases turn i n σ3 H3 w3 with ⟨stop, qn⟩ | ⟨go, N, hN, step⟩
  · refine wpAny_passesOwn hp (thn (T.done X rfl rfl rfl hc i pins s3 σ3 H3 X.xe I3 (stat fr3) st3 stop) fun r s4 ⟨hr, I4⟩ => ?_)
    subst hr
    exact wpAny_execs_nil ⟨σ3, H3, I4, qn⟩
  · refine wpAny_passesOwn hp (thn (T.item X rfl rfl rfl hc i pins s3 σ3 H3 X.xe I3 (stat fr3) st3 go) fun r s4 ⟨u, hr, h4⟩ => ?_)
    subst hr
    refine wpAny_passesOwn hp (thn h4 fun _ s5 ⟨x, H5, I5, r5, y5, st5, fr5⟩ => ?_)
    have I5' := I5.pinned (stat fr5) (T.obj _ _ st5)
    refine wpAny_passesOwn hp (thn (hg _ s5 σ3 H5 x u _ I5' r5 (step x H5 y5)) fun _ s6 ⟨σ6, H6, I6, q6⟩ => ?_)
    refine wpAny_passesOwn hp (thn (hb _ s6 σ6 H6 _ I6 q6) fun f s7 q7 => ?_)
    have again : ∀ {σ7 : St} {H7 : Hp}, Inv X (pins ++ pinsAt fp s5.heap) σ7 H7 s7 → N σ7 H7 → ∃ m, m < n ∧ ∃ i σ' H', Inv X pins σ' H' s7 ∧ tn i s7.heap ∧ (∀ b ∈ fp, H' b = none) ∧ W i m σ' H' := fun {σ7 H7} I7 n7 => by
      obtain ⟨m', hm, w7⟩ := hN σ7 H7 n7
      refine ⟨m', hm, i + 1, σ7, H7, I7.unpinned, T.keep _ _ _ st5 fun b hb o e => (I7.pin (b, o) (List.mem_append_right _ (List.mem_append_right _ (mem_pinsAt hb e)))).1, fun b hb => ?_, w7⟩
      obtain ⟨o, e, d⟩ := T.obj _ _ st5 b hb
      exact (I7.pin (b, o) (List.mem_append_right _ (List.mem_append_right _ (mem_pinsAt hb e)))).2.1
    cases f with
    | next => obtain ⟨σ7, H7, I7, n7⟩ := q7; exact again I7 n7
    | cont => obtain ⟨σ7, H7, I7, n7⟩ := q7; exact again I7 n7
    | brk => obtain ⟨σ7, H7, I7, q7⟩ := q7; exact ⟨σ7, H7, I7.unpinned, q7⟩
    | ret v => obtain ⟨x7, σ7, H7, I7, r7, q7⟩ := q7; exact ⟨x7, σ7, H7, I7.unpinned, r7, q7⟩
end

/-! ### the forms one uses -/
/-- over a list that the body leaves as it is -/
theorem for_list {K : PySem.W.Frag} {a : Addr} {xs : List V} {g : TG} {tb : TS} {D : Ends} {σ : St} {H : Hp} (Pv : Nat → St → Hp → Prop) (h0 : Pv 0 σ H) (hl : ∀ i σ H, i ≤ xs.length → Pv i σ H → SqL K H a xs)
    (hs : ∀ i x σ H, xs[i]? = some x → Pv i σ H → g x σ H fun σ2 H2 => tb { D with nx := Pv (i + 1), ct := Pv (i + 1), bk := D.nx } σ2 H2) (hd : ∀ σ H, Pv xs.length σ H → D.nx σ H) :
    ∃ W : Nat → Nat → St → Hp → Prop, (∃ m, W 0 m σ H) ∧ ∀ i m σ H, W i m σ H →
      ((Itl K a).stop i H ∧ D.nx σ H) ∨ ((Itl K a).go i H ∧ ∃ N : St → Hp → Prop, (∀ σ' H', N σ' H' → ∃ m', m' < m ∧ W (i + 1) m' σ' H') ∧ ∀ x H', (Itl K a).yld i H x H' → g x σ H' fun σ2 H2 => tb { D with nx := N, ct := N, bk := D.nx } σ2 H2) := by
  refine ⟨fun i m σ H => m = xs.length - i ∧ i ≤ xs.length ∧ Pv i σ H, ⟨xs.length, by simp, Nat.zero_le _, h0⟩, ?_⟩
  rintro i m σ H ⟨rfl, hi, p⟩
  have q := hl i σ H hi p
  by_cases hlt : i < xs.length
  · refine .inr ⟨⟨xs, xs[i], q, by simp [hlt]⟩, Pv (i + 1), fun σ' H' p' => ⟨xs.length - (i + 1), by omega, rfl, hlt, p'⟩, fun x H' y => ?_⟩
    obtain ⟨e, y⟩ := y
    subst e
    exact hs i x σ _ (y xs q) p
  · have e : i = xs.length := by omega
    subst e
    exact .inl ⟨⟨xs, q, Nat.le_refl _⟩, hd σ H p⟩
theorem for_range {lo : Int} {n : Nat} {g : TG} {tb : TS} {D : Ends} {σ : St} {H : Hp} (Pv : Nat → St → Hp → Prop) (h0 : Pv 0 σ H)
    (hs : ∀ i σ H, i < n → Pv i σ H → g (.int (lo + i)) σ H fun σ2 H2 => tb { D with nx := Pv (i + 1), ct := Pv (i + 1), bk := D.nx } σ2 H2) (hd : ∀ σ H, Pv n σ H → D.nx σ H) :
    ∃ W : Nat → Nat → St → Hp → Prop, (∃ m, W 0 m σ H) ∧ ∀ i m σ H, W i m σ H →
      ((Itr lo n).stop i H ∧ D.nx σ H) ∨ ((Itr lo n).go i H ∧ ∃ N : St → Hp → Prop, (∀ σ' H', N σ' H' → ∃ m', m' < m ∧ W (i + 1) m' σ' H') ∧ ∀ x H', (Itr lo n).yld i H x H' → g x σ H' fun σ2 H2 => tb { D with nx := N, ct := N, bk := D.nx } σ2 H2) := by
  refine ⟨fun i m σ H => m = n - i ∧ i ≤ n ∧ Pv i σ H, ⟨n, by simp, Nat.zero_le _, h0⟩, ?_⟩
  rintro i m σ H ⟨rfl, hi, p⟩
  by_cases hlt : i < n
  · refine .inr ⟨hlt, Pv (i + 1), fun σ' H' p' => ⟨n - (i + 1), by omega, rfl, hlt, p'⟩, fun x H' y => ?_⟩
    obtain ⟨e, y⟩ := y
    subst e y
    exact hs i σ _ hlt p
  · have e : i = n := by omega
    subst e
    exact .inl ⟨Nat.le_refl _, hd σ H p⟩
end L2

namespace L2
open PySem PySem.Spec PyProof.Rows

abbrev R2 := V → V → Hp → VK → Prop
/-- a two-place operation on values: f is binaryOp op, inplaceOp op or compareOp op -/
def OpR (X : Cx) (f : Value → Value → Sem Value) (r : R2) : Prop :=
  ∀ (pins : List (Addr × Obj)) (s : Shared) (σ : St) (H : Hp) (x y : V) (v u : Value) (Q : VK), Inv X pins σ H s → RelV x v → RelV y u → r x y H Q →
    wpAny (model X.prog X.w) X.A (f v u) (EP X pins σ Q) X.xe s
/-- a one-place operation -/
def UnR (X : Cx) (f : Value → Sem Value) (r : V → Hp → VK → Prop) : Prop :=
  ∀ (pins : List (Addr × Obj)) (s : Shared) (σ : St) (H : Hp) (x : V) (v : Value) (Q : VK), Inv X pins σ H s → RelV x v → r x H Q →
    wpAny (model X.prog X.w) X.A (f v) (EP X pins σ Q) X.xe s
/-- a call of a value that is known (a builtin, a type) with values -/
def CallR (X : Cx) (f : Value) (r : List V → Hp → VK → Prop) : Prop :=
  ∀ (pins : List (Addr × Obj)) (s : Shared) (σ : St) (H : Hp) (xs : List V) (us : List Value) (Q : VK), Inv X pins σ H s → Vals xs us → r xs H Q →
    wpAny (model X.prog X.w) X.A (call f us) (EP X pins σ Q) X.xe s

def tOp (r : R2) (ta tb : TE) : TE := fun σ H Q => ta σ H fun x H1 => tb σ H1 fun y H2 => r x y H2 Q
def tUn (r : V → Hp → VK → Prop) (ta : TE) : TE := fun σ H Q => ta σ H fun x H1 => r x H1 Q
/-- ints in, under C, and a value out -/
def rI (C : Int → Int → Prop) (g : Int → Int → V) : R2 := fun x y H Q => ∃ i j, x = .int i ∧ y = .int j ∧ C i j ∧ Q (g i j) H
def rI0 (g : Int → Int → V) : R2 := fun x y H Q => ∃ i j, x = .int i ∧ y = .int j ∧ Q (g i j) H
def rU (g : Int → V) : V → Hp → VK → Prop := fun x H Q => ∃ i, x = .int i ∧ Q (g i) H

section
variable {X : Cx} {a b c : Expr} {ta tb tc : TE} {pos : Pos}

theorem binT (ha : PE X a ta) (hb : PE X b tb) {pins : List (Addr × Obj)} {s : Shared} {σ : St} {H : Hp} {R : V → V → Hp → Prop} (I : Inv X pins σ H s)
    (h : ta σ H fun x H1 => tb σ H1 fun y H2 => R x y H2) {Q : Value → Shared → Prop} {f : Value → Value → Sem Value}
    (hf : ∀ v u s2 x y H2, Inv X pins σ H2 s2 → RelV x v → RelV y u → R x y H2 → wpAny (model X.prog X.w) X.A (f v u) Q X.xe s2) :
    wpAny (model X.prog X.w) X.A (eval a X.env) (fun v s₁ => wpAny (model X.prog X.w) X.A (eval b X.env) (fun u s₂ => wpAny (model X.prog X.w) X.A (f v u) Q X.xe s₂) X.xe s₁) X.xe s := by
  refine thn (ha pins s σ H _ I h) fun v s1 ⟨x, H1, I1, r1, q1⟩ => ?_
  refine thn (hb pins s1 σ H1 _ I1 q1) fun u s2 ⟨y, H2, I2, r2, q2⟩ => ?_
  exact hf v u s2 x y H2 I2 r1 r2 q2

theorem pe_op {op : Operator} {r : R2} (ho : OpR X (binaryOp op) r) (ha : PE X a ta) (hb : PE X b tb) : PE X (.BinOp a op b pos) (tOp r ta tb) := by
  intro pins s σ H Q I h
  exact wpAny_BinOp (binT ha hb I h fun v u s2 x y H2 I2 rx ry q => ho pins s2 σ H2 x y v u Q I2 rx ry q)
theorem pe_un {op : UnaryOp} {r : V → Hp → VK → Prop} (ho : UnR X (unaryOp op) r) (ha : PE X a ta) : PE X (.UnaryOp op a pos) (tUn r ta) := by
  intro pins s σ H Q I h
  exact UnaryOp_ (thn (ha pins s σ H _ I h) fun v s1 ⟨x, H1, I1, r1, q1⟩ => ho pins s1 σ H1 x v Q I1 r1 q1)

/-! ### ints -/
theorem opI {f : Value → Value → Sem Value} {C : Int → Int → Prop} {g : Int → Int → Int}
    (rule : ∀ (i j : Int) (t u : Tok) (s : Shared) (Q : Value → Shared → Prop) (E : Value → Shared → Prop), C i j → Q (.int (g i j) s.toks) { s with toks := s.toks + 1 } → wpAny (model X.prog X.w) X.A (f (.int i t) (.int j u)) Q E s) :
    OpR X f (rI C fun i j => .int (g i j)) := by
  intro pins s σ H x y v u Q I rx ry h
  obtain ⟨i, j, rfl, rfl, hc, q⟩ := h
  obtain ⟨t, rfl⟩ := rx
  obtain ⟨t', rfl⟩ := ry
  exact rule i j t t' s _ _ hc ⟨.int (g i j), H, I.tok _, ⟨_, rfl⟩, q⟩
theorem opI0 {f : Value → Value → Sem Value} {g : Int → Int → Int}
    (rule : ∀ (i j : Int) (t u : Tok) (s : Shared) (Q : Value → Shared → Prop) (E : Value → Shared → Prop), Q (.int (g i j) s.toks) { s with toks := s.toks + 1 } → wpAny (model X.prog X.w) X.A (f (.int i t) (.int j u)) Q E s) :
    OpR X f (rI0 fun i j => .int (g i j)) := by
  intro pins s σ H x y v u Q I rx ry h
  obtain ⟨i, j, rfl, rfl, q⟩ := h
  obtain ⟨t, rfl⟩ := rx
  obtain ⟨t', rfl⟩ := ry
  exact rule i j t t' s _ _ ⟨.int (g i j), H, I.tok _, ⟨_, rfl⟩, q⟩
theorem opB0 {f : Value → Value → Sem Value} {g : Int → Int → Bool}
    (rule : ∀ (i j : Int) (t u : Tok) (s : Shared) (Q : Value → Shared → Prop) (E : Value → Shared → Prop), Q (.bool (g i j)) s → wpAny (model X.prog X.w) X.A (f (.int i t) (.int j u)) Q E s) :
    OpR X f (rI0 fun i j => .bl (g i j)) := by
  intro pins s σ H x y v u Q I rx ry h
  obtain ⟨i, j, rfl, rfl, q⟩ := h
  obtain ⟨t, rfl⟩ := rx
  obtain ⟨t', rfl⟩ := ry
  exact rule i j t t' s _ _ ⟨.bl (g i j), H, I, rfl, q⟩

def CDiv (i j : Int) : Prop := 0 < j ∧ j < 1073741824
def CMul (i j : Int) : Prop := (-(2 ^ 64) < i ∧ i < 2 ^ 64) ∨ (-(2 ^ 64) < j ∧ j < 2 ^ 64)
theorem CMul.ok {i j : Int} (h : CMul i j) : IntMulOk i j := by
  rcases h with ⟨h1, h2⟩ | ⟨h1, h2⟩
  · exact .of_left (intBits_le_64 h1 h2)
  · exact .of_right (intBits_le_64 h1 h2)

theorem op_add : OpR X (binaryOp .Add) (rI0 fun i j => .int (i + j)) := opI0 fun _ _ _ _ _ _ _ q => add_int q
theorem op_sub : OpR X (binaryOp .Sub) (rI0 fun i j => .int (i - j)) := opI0 fun _ _ _ _ _ _ _ q => sub_int q
theorem op_mul : OpR X (binaryOp .Mult) (rI CMul fun i j => .int (i * j)) := opI fun _ _ _ _ _ _ _ hc q => mul_int q hc.ok
/-- // by a positive divisor -/
theorem op_fdiv : OpR X (binaryOp .FloorDiv) (rI CDiv fun i j => .int (i / j)) := opI fun i j _ _ _ _ _ hc q => by
  have h1 : (0 : Int) < j := hc.1
  have h2 : j < 1073741824 := hc.2
  exact floordiv_int (by omega) (by rw [Int.fdiv_eq_ediv_of_nonneg i (by omega)]; exact q) (.inl (PyProof.noPylong_small (by omega)))
/-- % by a positive divisor of any size -/
theorem op_mod : OpR X (binaryOp .Mod) (rI (fun _ j => 0 < j) fun i j => .int (i % j)) := opI fun i j _ _ _ _ _ hc q => by
  have h1 : (0 : Int) < j := hc
  exact mod_int' (by omega) (by rw [Int.fmod_eq_emod_of_nonneg i (by omega)]; exact q)


theorem unI {f : Value → Sem Value} {g : Int → Int}
    (rule : ∀ (i : Int) (t : Tok) (s : Shared) (Q : Value → Shared → Prop) (E : Value → Shared → Prop), Q (.int (g i) s.toks) { s with toks := s.toks + 1 } → wpAny (model X.prog X.w) X.A (f (.int i t)) Q E s) :
    UnR X f (rU fun i => .int (g i)) := by
  intro pins s σ H x v Q I rx h
  obtain ⟨i, rfl, q⟩ := h
  obtain ⟨t, rfl⟩ := rx
  exact rule i t s _ _ ⟨.int (g i), H, I.tok _, ⟨_, rfl⟩, q⟩
theorem un_neg : UnR X (unaryOp .USub) (rU fun i => .int (-i)) := unI fun _ _ _ _ _ q => neg_int q

/-! ### bools among ints: n += (a < b) -/
end

/-! ### comparisons -/
/-- the scalars that == tells apart as data does -/
def scal : V → V → Bool
  | .non, .non => true | .non, .int _ => true | .int _, .non => true | .non, .bl _ => true | .bl _, .non => true | .non, .str _ => true | .str _, .non => true
  | .int _, .int _ => true | .bl _, .bl _ => true | .str _, .str _ => true | .byt _, .byt _ => true
  | .int _, .str _ => true | .str _, .int _ => true | .bl _, .str _ => true | .str _, .bl _ => true
  | _, _ => false
def rEq : R2 := fun x y H Q => scal x y = true ∧ Q (.bl (decide (x = y))) H
def rNe : R2 := fun x y H Q => scal x y = true ∧ Q (.bl (!decide (x = y))) H

theorem dec_int {i j : Int} : decide (V.int i = V.int j) = (i == j) := by
  rw [Bool.eq_iff_iff]
  simp
theorem dec_bl {i j : Bool} : decide (V.bl i = V.bl j) = (i == j) := by
  rw [Bool.eq_iff_iff]
  simp
theorem dec_str {i j : Str} : decide (V.str i = V.str j) = (i == j) := by
  rw [Bool.eq_iff_iff]
  simp
theorem dec_byt {i j : Array UInt8} : decide (V.byt i = V.byt j) = (i.toList == j.toList) := by
  rw [Bool.eq_iff_iff]
  cases i
  cases j
  simp

section
variable {X : Cx} {a b c : Expr} {ta tb tc : TE} {pos : Pos}
theorem fin_bl {pins : List (Addr × Obj)} {σ : St} {H : Hp} {s : Shared} {Q : VK} {k k' : Bool} (I : Inv X pins σ H s) (q : Q (.bl k) H) (e : k = k') : EP X pins σ Q (.bool k') s := by
  subst e
  exact ⟨.bl k, H, I, rfl, q⟩
theorem op_eq : OpR X (compareOp .Eq) rEq := by
  intro pins s σ H x y v u Q I rx ry h
  obtain ⟨hs, q⟩ := h
  cases x with
  | non =>
    cases rx
    cases y with
    | non => cases ry; exact PySem.EqNone.eq_none_none (fin_bl I q (by simp))
    | bl j => cases ry; exact PySem.EqNone.eq_none_bool (fin_bl I q (by simp))
    | int j => obtain ⟨t', rfl⟩ := ry; exact PySem.EqNone.eq_none_int (fin_bl I q (by simp))
    | str j => obtain ⟨t', rfl⟩ := ry; exact PySem.EqNone.eq_none_str (fin_bl I q (by simp))
    | _ => exact absurd (show false = true from hs) Bool.false_ne_true
  | bl i =>
    cases rx
    cases y with
    | non => cases ry; exact PySem.EqNone.eq_bool_none (fin_bl I q (by simp))
    | bl j => cases ry; exact eq_bool (fin_bl I q dec_bl)
    | str j => obtain ⟨t', rfl⟩ := ry; exact PySem.EqMixed.eq_bool_str (fin_bl I q (by simp))
    | _ => exact absurd (show false = true from hs) Bool.false_ne_true
  | int i =>
    obtain ⟨t, rfl⟩ := rx
    cases y with
    | non => cases ry; exact PySem.EqNone.eq_int_none (fin_bl I q (by simp))
    | int j => obtain ⟨t', rfl⟩ := ry; exact eq_int (fin_bl I q dec_int)
    | str j => obtain ⟨t', rfl⟩ := ry; exact PySem.EqMixed.eq_int_str (fin_bl I q (by simp))
    | _ => exact absurd (show false = true from hs) Bool.false_ne_true
  | str i =>
    obtain ⟨t, rfl⟩ := rx
    cases y with
    | non => cases ry; exact PySem.EqNone.eq_str_none (fin_bl I q (by simp))
    | bl j => cases ry; exact PySem.EqMixed.eq_str_bool (fin_bl I q (by simp))
    | int j => obtain ⟨t', rfl⟩ := ry; exact PySem.EqMixed.eq_str_int (fin_bl I q (by simp))
    | str j => obtain ⟨t', rfl⟩ := ry; exact eq_str (fin_bl I q dec_str)
    | _ => exact absurd (show false = true from hs) Bool.false_ne_true
  | byt i =>
    obtain ⟨t, rfl⟩ := rx
    cases y with
    | byt j => obtain ⟨t', rfl⟩ := ry; exact PySem.W.eq_bytes (fin_bl I q dec_byt)
    | _ => exact absurd (show false = true from hs) Bool.false_ne_true
  | _ => cases y <;> exact absurd (show false = true from hs) Bool.false_ne_true
theorem op_ne : OpR X (compareOp .NotEq) rNe := by
  intro pins s σ H x y v u Q I rx ry h
  obtain ⟨hs, q⟩ := h
  cases x with
  | non =>
    cases rx
    cases y with
    | non => cases ry; exact PySem.EqNone.ne_none_none (fin_bl I q (by simp))
    | bl j => cases ry; exact PySem.EqNone.ne_none_bool (fin_bl I q (by simp))
    | int j => obtain ⟨t', rfl⟩ := ry; exact PySem.EqNone.ne_none_int (fin_bl I q (by simp))
    | str j => obtain ⟨t', rfl⟩ := ry; exact PySem.EqNone.ne_none_str (fin_bl I q (by simp))
    | _ => exact absurd (show false = true from hs) Bool.false_ne_true
  | bl i =>
    cases rx
    cases y with
    | non => cases ry; exact PySem.EqNone.ne_bool_none (fin_bl I q (by simp))
    | bl j => cases ry; exact ne_bool (fin_bl I q (congrArg not dec_bl))
    | str j => obtain ⟨t', rfl⟩ := ry; exact PySem.EqMixed.ne_bool_str (fin_bl I q (by simp))
    | _ => exact absurd (show false = true from hs) Bool.false_ne_true
  | int i =>
    obtain ⟨t, rfl⟩ := rx
    cases y with
    | non => cases ry; exact PySem.EqNone.ne_int_none (fin_bl I q (by simp))
    | int j => obtain ⟨t', rfl⟩ := ry; exact ne_int (fin_bl I q (congrArg not dec_int))
    | str j => obtain ⟨t', rfl⟩ := ry; exact PySem.EqMixed.ne_int_str (fin_bl I q (by simp))
    | _ => exact absurd (show false = true from hs) Bool.false_ne_true
  | str i =>
    obtain ⟨t, rfl⟩ := rx
    cases y with
    | non => cases ry; exact PySem.EqNone.ne_str_none (fin_bl I q (by simp))
    | bl j => cases ry; exact PySem.EqMixed.ne_str_bool (fin_bl I q (by simp))
    | int j => obtain ⟨t', rfl⟩ := ry; exact PySem.EqMixed.ne_str_int (fin_bl I q (by simp))
    | str j => obtain ⟨t', rfl⟩ := ry; exact ne_str (fin_bl I q (congrArg not dec_str))
    | _ => exact absurd (show false = true from hs) Bool.false_ne_true
  | byt i =>
    obtain ⟨t, rfl⟩ := rx
    cases y with
    | byt j => obtain ⟨t', rfl⟩ := ry; exact PySem.W.ne_bytes (fin_bl I q (congrArg not dec_byt))
    | _ => exact absurd (show false = true from hs) Bool.false_ne_true
  | _ => cases y <;> exact absurd (show false = true from hs) Bool.false_ne_true

theorem op_lt : OpR X (compareOp .Lt) (rI0 fun i j => .bl (decide (i < j))) := opB0 fun _ _ _ _ _ _ _ q => lt_int q
theorem op_le : OpR X (compareOp .LtE) (rI0 fun i j => .bl (decide (i ≤ j))) := opB0 fun _ _ _ _ _ _ _ q => le_int q
theorem op_gt : OpR X (compareOp .Gt) (rI0 fun i j => .bl (decide (j < i))) := opB0 fun _ _ _ _ _ _ _ q => gt_int q
/-- the one string within the other -/
theorem op_in_str : OpR X (compareOp .In) (fun x y H Q => ∃ i j, x = .str i ∧ y = .str j ∧ Q (.bl (!(Builtin.Str.occurrences j i 0 j.length 1).isEmpty)) H) := by
  intro pins s σ H x y v u Q I rx ry h
  obtain ⟨i, j, rfl, rfl, q⟩ := h
  obtain ⟨t, rfl⟩ := rx
  obtain ⟨t', rfl⟩ := ry
  exact in_str (fin_bl I q rfl)

/-- is None, is not None: the right side a value none -/
theorem op_isN : OpR X (compareOp .Is) (fun x y H Q => y = .non ∧ Q (.bl (decide (x = .non))) H) := by
  intro pins s σ H x y v u Q I rx ry h
  obtain ⟨rfl, q⟩ := h
  cases ry
  refine is_none_gen (fin_bl I q ?_)
  cases x <;> first
    | (cases rx; rfl)
    | (obtain ⟨t, rfl⟩ := rx; rfl)



theorem nomark (b : Expr) {op : CmpOp} (h : op ≠ .In := by decide) (h2 : op ≠ .NotIn := by decide) : behindInMarks op b = false := by
  have e1 : (op == CmpOp.In) = false := by cases op <;> first | rfl | exact absurd rfl h
  have e2 : (op == CmpOp.NotIn) = false := by cases op <;> first | rfl | exact absurd rfl h2
  cases b <;> simp [behindInMarks, e1, e2]
/-- a comparison as a value; hm: nomark b, or (for in, not in) by with_unfolding_all rfl -/
theorem pe_cmpR {op : CmpOp} {r : R2} (ho : OpR X (compareOp op) r) (ha : PE X a ta) (hb : PE X b tb) (hm : behindInMarks op b = false) : PE X (.Compare a [op] [b] pos) (tOp r ta tb) := by
  intro pins s σ H Q I h
  exact wpAny_Compare1 (binT ha hb I h fun v u s2 x y H2 I2 rx ry q => ho pins s2 σ H2 x y v u Q I2 rx ry q) hm
/-- a reading of a value as a test -/
def tTest (t : TE) : TT := fun σ H Q => t σ H fun x H' => ∃ k, x = .bl k ∧ Q k H'
theorem pt_cmpR {op : CmpOp} {r : R2} (ho : OpR X (compareOp op) r) (ha : PE X a ta) (hb : PE X b tb) (hm : behindInMarks op b = false) : PT X (.Compare a [op] [b] pos) (tTest (tOp r ta tb)) := by
  intro pins s σ H Q I h
  refine wpAny_isTrue_Compare1 (thn (ha pins s σ H _ I h) fun v s1 ⟨x, H1, I1, r1, q1⟩ => thn (hb pins s1 σ H1 _ I1 q1) fun u s2 ⟨y, H2, I2, r2, q2⟩ =>
    thn (ho pins s2 σ H2 x y v u _ I2 r1 r2 q2) fun c s3 ⟨z, H3, I3, r3, k, e, q3⟩ => ?_) hm
  subst e
  cases r3
  exact wpAny_truthy_bool ⟨H3, I3, q3⟩

/-! ### truth -/
theorem line63 : (sizeLine : Nat) < 2 ^ 63 := by rw [sizeLine_eq]; decide

/-! ### strs and bytes -/
theorem op_add_str : OpR X (binaryOp .Add) (fun x y H Q => ∃ i j, x = .str i ∧ y = .str j ∧ i.length + j.length ≤ sizeLine ∧ Q (.str (i ++ j)) H) := by
  intro pins s σ H x y v u Q I rx ry h
  obtain ⟨i, j, rfl, rfl, hz, q⟩ := h
  obtain ⟨t, rfl⟩ := rx
  obtain ⟨t', rfl⟩ := ry
  exact add_str (fun t' tk => ⟨.str (i ++ j), H, I.tok _, ⟨_, rfl⟩, q⟩) hz


/-! ### scalar builtins, by CallR -/
theorem vals1 {x : V} {us : List Value} (r : Vals [x] us) : ∃ u, us = [u] ∧ RelV x u := by
  cases r with
  | cons r1 r2 => cases r2; exact ⟨_, rfl, r1⟩
theorem vals2 {x y : V} {us : List Value} (r : Vals [x, y] us) : ∃ u w', us = [u, w'] ∧ RelV x u ∧ RelV y w' := by
  cases r with
  | cons r1 r2 =>
    cases r2 with
    | cons r3 r4 => cases r4; exact ⟨_, _, rfl, r1, r3⟩
theorem call_max2 (hc : X.calm = true) : CallR X (.builtin "max") (fun xs H Q => ∃ i j, xs = [.int i, .int j] ∧ Q (.int (if j > i then j else i)) H) := by
  intro pins s σ H xs us Q I r h
  obtain ⟨i, j, rfl, q⟩ := h
  obtain ⟨u, w', rfl, ⟨t, rfl⟩, ⟨t', rfl⟩⟩ := vals2 r
  refine max_two_ints (I.ok.hd hc) fun h' tk k => ⟨_, H, I.kept k, ?_, q⟩
  by_cases hj : j > i
  · rw [if_pos hj, if_pos hj]; exact ⟨_, rfl⟩
  · rw [if_neg hj, if_neg hj]; exact ⟨_, rfl⟩
theorem call_int1 : CallR X (.type "int") (fun xs H Q => (∃ i, xs = [.int i] ∧ Q (.int i) H) ∨ ∃ k, xs = [.bl k] ∧ Q (.int (if k then 1 else 0)) H) := by
  intro pins s σ H xs us Q I r h
  rcases h with ⟨i, rfl, q⟩ | ⟨k, rfl, q⟩
  · obtain ⟨u, rfl, t, rfl⟩ := vals1 r
    exact call_int_int ⟨.int i, H, I, ⟨_, rfl⟩, q⟩
  · obtain ⟨u, rfl, r1⟩ := vals1 r
    cases r1
    exact call_int_bool ⟨.int (if k then 1 else 0), H, I.tok _, ⟨_, rfl⟩, q⟩
end
end L2

namespace L2
open PySem PySem.Spec PyProof.Rows

/-! ### an instance, its attributes a map -/
structure ObjM (h : Heap) (x dx C : Addr) (mA : Str → Option Value) : Prop where
  obj : h.get? x = some (PySem.W.instObj C dx)
  ns : h.Ns1 dx mA
  ne : dx ≠ x

theorem lookIn_ns {h : Heap} {dx : Addr} {mA : Str → Option Value} (n : h.Ns1 dx mA) : ∃ od, h.get? dx = some od ∧ ∀ name, PySem.W.lookIn name od = some (mA name) := by
  obtain ⟨o, es, ep, ho, hd, hk, _, hm⟩ := n
  refine ⟨o, ho, fun name => ?_⟩
  have e := hm name
  unfold nsFind findBy at e
  rw [← Array.find?_toList] at e
  unfold PySem.W.lookIn
  rw [hd]
  dsimp only
  split
  · rename_i y q
    rw [q] at e
    exact congrArg some e
  · rename_i q
    rw [q] at e
    have a : es.toList.any (·.refKey) = false := by
      rw [List.any_eq_false]
      intro y hy
      obtain ⟨z, t, hkey⟩ := hk y (Array.mem_toList_iff.mp hy)
      simp [DictEntry.refKey, hkey]
    have a' : ¬ es.toList.any (·.refKey) = true := by rw [a]; exact Bool.false_ne_true
    rw [if_neg a']
    exact congrArg some e

theorem ObjM.look {h : Heap} {x dx C : Addr} {mA : Str → Option Value} (I : ObjM h x dx C mA) : ∃ od, PySem.W.InstAt h x (PySem.W.instObj C dx) C (some od) ∧ ∀ name, PySem.W.lookIn name od = some (mA name) :=
  let ⟨od, ho, hl⟩ := lookIn_ns I.ns
  ⟨od, ⟨I.obj, rfl, rfl, ho⟩, hl⟩

section
variable {prog : Program} {w : World} {A : Around} {E : Value → Shared → Prop} {s : Shared} {K : PySem.W.Frag} {x dx C f : Addr} {mA : Str → Option Value} {name : Str} {v : Value}





end

/-! ### the attributes as a list of pairs -/


section
variable {P : Program} {w : World} {H H' : Hp} {h h' : Heap} {a C dx : Addr} {fs fs' : List (Str × V)}
theorem ins_get (hok : HOk P w H h) (e : H a = some (.ins C dx fs)) : ∃ mA, ObjM h a dx C mA ∧ (∀ f, RelO (fs.lookup f) (mA f)) ∧ PySem.Within mA (fs.map (·.1)) ∧ fs.length ≤ 1000 ∧ H dx = some (.own a) := by
  obtain ⟨d, z, ne, ob, mA, n, r, q⟩ := (show ObjOk P w H h a (.ins C dx fs) from hok a _ e)
  exact ⟨mA, ⟨ob, n, ne⟩, r, q, z, d⟩
end

/-! ### what of the text a class must have -/
structure Cls (K : PySem.W.Frag) (C : Addr) : Prop where
  pg : PySem.W.plainGet K C Str.empty = true
  hd : PySem.W.hasDictIn K C = true
  po : PySem.W.plainOver K C = true
  sa : PySem.W.findIn K (.ref C) "__setattr__" = some (some (.builtin "object.__setattr__"))
theorem Cls.get {K : PySem.W.Frag} {C : Addr} (c : Cls K C) (f : Str) : PySem.W.plainGet K C f = true := c.pg

section
variable {X : Cx} {pins : List (Addr × Obj)} {σ : St} {H : Hp} {s : Shared} {a C dx : Addr} {fs : List (Str × V)} {f : Str} {v : V} {A : Around} {E : Value → Shared → Prop}






end

/-! ### readings and rules -/

section
variable {X : Cx} {o e value : Expr} {f : Str} {pos pos' tpos : Pos} {ta tv : TE}

end

/-! ### isinstance -/
section
variable {X : Cx} {pins : List (Addr × Obj)} {σ : St} {H : Hp} {s : Shared} {A : Around} {E : Value → Shared → Prop} {Q : Value → Shared → Prop} {c : Value} {b : Bool}
/-- the type of a value, as the fragment's deciders take it; for an instance its class -/
inductive TyOf (K : PySem.W.Frag) (H : Hp) : V → Value → Prop where
  | non : TyOf K H .non (.type "NoneType")
  | bl (x : Bool) : TyOf K H (.bl x) (.type "bool")
  | int (i : Int) : TyOf K H (.int i) (.type "int")
  | str (x : Str) : TyOf K H (.str x) (.type "str")
  | flt (x : UInt64) : TyOf K H (.flt x) (.type "float")
  | lst {a : Addr} {xs : List V} (e : H a = some (.lst xs)) : TyOf K H (.ref a) (.type "list")
  | frz {a : Addr} {o : Obj} {xs : List V} (e : H a = some (.frz o (.lst xs))) : TyOf K H (.ref a) (.type "list")
  | tup {a : Addr} {xs : List V} (e : H a = some (.tup xs)) : TyOf K H (.ref a) (.type "tuple")
  | dK {a : Addr} {kvs : List (Key × V)} (e : H a = some (.dK kvs)) : TyOf K H (.ref a) (.type "dict")
  | dT {a : Addr} {kvs : List (List Key × V)} (e : H a = some (.dT kvs)) : TyOf K H (.ref a) (.type "dict")
  | ins {a C dx : Addr} {fs : List (Str × V)} (e : H a = some (.ins C dx fs)) (cl : Cls K C) (ha : PySem.W.findIn K (.ref C) "__class__" = some (some (.builtin "object.__class__")))
      (hn : PySem.W.specialIn K (.builtin "object.__class__") "__get__" = some (some (.builtin "getset_descriptor.__get__"))) (htk : PySem.W.takesIn K (.builtin "object.__class__") = some true)
      (hm : PySem.W.mroIn K C (.type "object") = some true) : TyOf K H (.ref a) (.ref C)
/-- isinstance(x, c) for one class c, a built-in or an own one: kitOne's answer -/
theorem isinst_ok {x : V} {u t : Value} (I : Inv X pins σ H s) (rx : RelV x u) (ty : TyOf X.K H x t) (e : PySem.W.kitOne X.K t c = some b) (h : ∀ tk, Q (.bool b) { s with toks := tk }) :
    wpAny (model X.prog X.w) A (call (.builtin "isinstance") [u, c]) Q E s := by
  cases ty with
  | non => cases (show u = Value.none from rx); exact PySem.W.kia_one PySem.W.kitx_none I.kIn True.intro e (fun z => nomatch z) h
  | bl y => cases (show u = Value.bool y from rx); exact PySem.W.kia_one PySem.W.kitx_bool I.kIn True.intro e (fun z => nomatch z) h
  | int i => obtain ⟨t, q⟩ := (show ∃ t, u = Value.int i t from rx); cases q; exact PySem.W.kia_one PySem.W.kitx_int I.kIn True.intro e (fun z => nomatch z) h
  | str y => obtain ⟨t, q⟩ := (show ∃ t, u = Value.str y t from rx); cases q; exact PySem.W.kia_one PySem.W.kitx_str I.kIn True.intro e (fun z => nomatch z) h
  | flt y => obtain ⟨t, q⟩ := (show ∃ t, u = Value.float y t from rx); cases q; exact PySem.W.kia_one PySem.W.kitx_float I.kIn True.intro e (fun z => nomatch z) h
  | @lst a xs ea =>
    cases (show u = Value.ref a from rx)
    obtain ⟨_, _, n, _, h1⟩ := (show ObjOk X.prog X.w H s.heap a (.lst xs) from I.hok a _ ea)
    exact PySem.W.kia_one PySem.W.kitx_list I.kIn ⟨_, h1, rfl⟩ e (fun z => nomatch z) h
  | @frz a ob xs ea =>
    cases (show u = Value.ref a from rx)
    obtain ⟨_, _, _, n, _, h1⟩ := (show ObjOk X.prog X.w H s.heap a (.frz ob (.lst xs)) from I.hok a _ ea)
    exact PySem.W.kia_one PySem.W.kitx_list I.kIn ⟨_, h1, rfl⟩ e (fun z => nomatch z) h
  | @tup a xs ea =>
    cases (show u = Value.ref a from rx)
    obtain ⟨_, _, _, p⟩ := (show ObjOk X.prog X.w H s.heap a (.tup xs) from I.hok a _ ea)
    obtain ⟨o, h1, h2, _⟩ := p
    exact PySem.W.kia_one PySem.W.kitx_tuple I.kIn ⟨o, h1, h2⟩ e (fun z => nomatch z) h
  | @dK a kvs ea =>
    cases (show u = Value.ref a from rx)
    obtain ⟨_, _, vs, _, p⟩ := (show ObjOk X.prog X.w H s.heap a (.dK kvs) from I.hok a _ ea)
    obtain ⟨o, es, ep, h1, h2, _⟩ := p
    exact PySem.W.kia_one PySem.W.kitx_dict I.kIn ⟨o, h1, h2.1⟩ e (fun z => nomatch z) h
  | @dT a kvs ea =>
    cases (show u = Value.ref a from rx)
    obtain ⟨_, _, xs, _, o, es, ep, h1, h2, _⟩ := (show ObjOk X.prog X.w H s.heap a (.dT kvs) from I.hok a _ ea)
    exact PySem.W.kia_one PySem.W.kitx_dict I.kIn ⟨o, h1, h2.1⟩ e (fun z => nomatch z) h
  | @ins a C dx fs ea cl ha hn htk hm =>
    cases (show u = Value.ref a from rx)
    obtain ⟨mA, O, _⟩ := ins_get I.hok ea
    obtain ⟨od, J, _⟩ := O.look
    exact PySem.W.kia_one (PySem.W.kitx_own (cl.get _) cl.hd ha hn htk hm) I.kIn J e (fun z => nomatch z) h
end
end L2

namespace L2
open PySem PySem.Spec PyProof.Rows

/-! ### room -/
structure Room (k : Nat) (A : Around) : Prop where
  hd : A.handled = none
  dp : A.depth + 3 * k + 5 < recursionLimit
  un : A.units + 16 * k + 200 < cLine
theorem Room.mono {j k : Nat} {A : Around} (r : Room k A) (h : j ≤ k) : Room j A := ⟨r.hd, by have := r.dp; omega, by have := r.un; omega⟩
theorem Room.deeper {k : Nat} {A : Around} (r : Room (k + 1) A) (env : Env) : Room k (A.deeper env) :=
  ⟨r.hd, by have := r.dp; show A.depth + 1 + 3 * k + 5 < _; omega, by have := r.un; show A.units + 3 + 16 * k + 200 < _; omega⟩
theorem Room.depth {k : Nat} {A : Around} (r : Room k A) : A.depth < recursionLimit := by have := r.dp; omega
theorem Room.units {k : Nat} {A : Around} (r : Room k A) : A.units + 64 < cLine := by have := r.un; omega

/-! ### argument lists and displays -/
def tNil : TA := fun _ H Q => Q [] H
def tCons (ta : TE) (tr : TA) : TA := fun σ H Q => ta σ H fun x H1 => tr σ H1 fun xs H2 => Q (x :: xs) H2
section
variable {X : Cx} {e : Expr} {es : List Expr} {te : TE} {t : TA} {pos : Pos}
theorem pa_nil : PA X [] tNil := fun _ _ _ _ H Q I h => Calls.spliced_nil ⟨[], H, I, .nil, h⟩
theorem pa_cons (ha : PE X e te) (hr : PA X es t) (hs : starEach (e :: es) X.env = (false, eval e X.env) :: starEach es X.env := by rfl) : PA X (e :: es) (tCons te t) := by
  intro pos pins s σ H Q I h
  rw [hs]
  show wpAny _ _ (spliced ((false, eval e X.env) :: backTo pos (starEach es X.env))) _ _ s
  refine Calls.spliced_cons (thn (ha pins s σ H _ I h) fun u s1 ⟨x, H1, I1, r1, q1⟩ => ?_)
  exact thn (hr pos pins s1 σ H1 _ I1 q1) fun us s2 ⟨xs, H2, I2, r2, q2⟩ => ⟨x :: xs, H2, I2, .cons r1 r2, q2⟩

/-- a tuple, a list of written items -/
def tTup (t : TA) : TE := fun σ H Q => t σ H fun xs H1 => xs.length ≤ sizeLine ∧ ∀ p, H1 p = none → Q (.ref p) (upd H1 p (.tup xs))
def tLst (t : TA) : TE := fun σ H Q => t σ H fun xs H1 => xs.length ≤ sizeLine ∧ ∀ p, H1 p = none → Q (.ref p) (upd H1 p (.lst xs))
theorem pe_tup {x1} (h : PA X es t) : PE X (.Tuple es x1 pos) (tTup t) := by
  intro pins s σ H Q I hq
  refine wpAny_Tuple_spliced (thn (h pos pins s σ H _ I hq) fun us s1 ⟨xs, H1, I1, r, z, q⟩ => ⟨by rw [← r.length]; exact z, ?_⟩)
  have hf : H1 s1.heap.objs.size = none := I1.hok.fresh (Nat.le_refl _)
  refine ⟨.ref s1.heap.objs.size, upd H1 s1.heap.objs.size (.tup xs), I1.laid (t' := s1.toks) (fun b u e => Heap.get?_push_of_some _ e) (Nat.le_refl _) ?_, rfl, q _ hf⟩
  exact ⟨z, us, r, ⟨_, Heap.get?_push_size _ rfl, rfl, _, rfl⟩⟩
theorem pe_lst (h : PA X es t) : PE X (.List es pos) (tLst t) := by
  intro pins s σ H Q I hq
  refine wpAny_List_spliced (thn (h pos pins s σ H _ I hq) fun us s1 ⟨xs, H1, I1, r, z, q⟩ => ⟨by rw [← r.length]; exact z, ?_⟩)
  have hf : H1 s1.heap.objs.size = none := I1.hok.fresh (Nat.le_refl _)
  refine ⟨.ref s1.heap.objs.size, upd H1 s1.heap.objs.size (.lst xs), I1.laid (t' := s1.toks) (fun b u e => Heap.get?_push_of_some _ e) (Nat.le_refl _) ?_, rfl, q _ hf⟩
  exact ⟨z, us, 0, r, Heap.get?_push_size _ rfl⟩
end

/-! ### what a def promises -/
/-- a def's promise: the bound arguments in the parameters' order, the heap, the wanted end, the wanted exception -/
abbrev Sp := List V → Hp → VK → XK → Prop
/-- how an exception lies behind a call (file 08 gives it): the callers' frames, abstract heap and state ahead of the call, the wish, the exception, the state -/
abbrev CXT := List Env → Hp → Shared → XK → Value → Shared → Prop

/-- the state at a call -/
structure Env0 (P : Program) (w : World) (K : PySem.W.Frag) (mg : Str → Option Value) (base : Heap) (A : Around) (outer : List Env) (s : Shared) (H : Hp) : Prop where
  frames : A.frames = some outer
  mod : Mod K mg base
  bs : ∀ b o, base.get? b = some o → s.heap.get? b = some o ∧ H b = none
  bsz : base.objs.size ≤ s.heap.objs.size
  funs : s.heap.FunFrames base outer
  frf : ∀ b ∈ frs outer, H b = none
  hok : HOk P w H s.heap
  bare : AllBare s.gens
/-- a call's end -/
def CE (outer : List Env) (P : Program) (w : World) (H : Hp) (s : Shared) (Q : VK) (u : Value) (s' : Shared) : Prop :=
  ∃ v H', s'.os = s.os ∧ AllBare s'.gens ∧ Un (frs outer) [] H H' s.heap s'.heap ∧ HOk P w H' s'.heap ∧ RelV v u ∧ Q v H'
def CR (CX : CXT) (outer : List Env) (P : Program) (w : World) (H : Hp) (s : Shared) (Q : VK) (E : XK) (r : Result) (s' : Shared) : Prop :=
  match r with
  | .ok (.ret u) => CE outer P w H s Q u s'
  | .ok _ => False
  | .error e => CX outer H s E e s'
structure FnOk (P : Program) (w : World) (K : PySem.W.Frag) (mg : Str → Option Value) (base : Heap) (CX : CXT) (k : Nat) (f : Addr) (fd : FuncData) (ps : List Str) (sp : Sp) : Prop where
  len : ∀ vs H Q E, sp vs H Q E → vs.length = ps.length
  run : ∀ (A : Around) (outer : List Env) (s : Shared) (H : Hp) (args : Args) (us : List Value) (vs : List V) (Q : VK) (E : XK), Room k A → Env0 P w K mg base A outer s H → BindsTo s fd args (ps.zip us) → Vals vs us → sp vs H Q E →
    codeAny (model P w) A (.call (.ref f) args) (CR CX outer P w H s Q E) s


section
variable {X : Cx} {pins : List (Addr × Obj)} {σ : St} {H : Hp} {s s' : Shared}
/-- from a body: what a callee wants -/
theorem Inv.env0 (I : Inv X pins σ H s) : Env0 X.prog X.w X.K X.mg X.base X.A X.stack s H :=
  ⟨I.ok.frames, I.ok.mod, I.bs, Nat.le_trans I.ok.bsz I.sz, I.stack, I.stkFree, I.hok, I.bare⟩
/-- behind a call -/
theorem Inv.after {Q : VK} {u : Value} (I : Inv X pins σ H s) (h : CE X.stack X.prog X.w H s Q u s') : EP X pins σ Q u s' := by
  obtain ⟨v, H', os, bare, un, hok, r, q⟩ := h
  obtain ⟨hh, g, d, t, os'⟩ := s'
  obtain rfl : os' = s.os := os
  exact ⟨v, H', I.call (h' := hh) (g' := g) (d' := d) (t' := t) (ch := []) un hok bare (fun b z => absurd z (by simp)), r, q⟩
end

/-! ### calls -/
/-- f(..): the written arguments, then the defaults dvs; E: what is wanted of an exception -/
def tCall (sp : Sp) (dvs : List V) (E : XK) (t : TA) : TE := fun σ H Q => t σ H fun vs H1 => sp (vs ++ dvs) H1 Q E

/-- how the parameters are bound: us the positional arguments, kw the keywords' values by name, ds the defaults that fill up -/
def Binds (K : PySem.W.Frag) (fd : FuncData) (ps : List Str) (ds : List Value) : Prop :=
  ∀ (s : Shared) (us : List Value), K.In s.heap → (us ++ ds).length = ps.length → BindsTo s fd ⟨us, []⟩ (ps.zip (us ++ ds))
/-- every parameter is given -/
theorem Binds.all {K : PySem.W.Frag} {fd : FuncData} {ps : List Str} (h : ∀ us : List Value, us.length = ps.length → bindArgs fd ⟨us, []⟩ = pure (ps.zip us)) : Binds K fd ps [] := fun s us _ hl => by
  rw [List.append_nil] at hl ⊢
  exact .of_eq (h us hl)

/-- an exception of a callee reaches what this body wants of exceptions -/
def Passes (CX : CXT) (X : Cx) (E : XK) : Prop := ∀ (pins : List (Addr × Obj)) (σ : St) (H : Hp) (s : Shared) (e : Value) (s' : Shared), Inv X pins σ H s → CX X.stack H s E e s' → X.xe e s'

section
variable {X : Cx} {CX : CXT} {k : Nat} {f C : Addr} {fd : FuncData} {ps : List Str} {sp : Sp} {dvs : List V} {ds : List Value} {E : XK} {x m : Str} {p pos apos : Pos} {e o : Expr} {es : List Expr} {ta : TE} {t : TA}

/-- the callee runs -/
theorem run_fn {pins : List (Addr × Obj)} {σ : St} {H : Hp} {s : Shared} {Q : VK} {us : List Value} {vs : List V} (F : FnOk X.prog X.w X.K X.mg X.base CX k f fd ps sp) (hr : Room k X.A) (hb : Binds X.K fd ps ds) (hd : Vals dvs ds) (hx : Passes CX X E)
    (I : Inv X pins σ H s) (r : Vals vs us) (h : sp (vs ++ dvs) H Q E) : wpAny (model X.prog X.w) X.A (call (.ref f) us) (EP X pins σ Q) X.xe s := by
  have r2 : Vals (vs ++ dvs) (us ++ ds) := r.append hd
  have hl : (us ++ ds).length = ps.length := by rw [← r2.length]; exact F.len _ _ _ _ h
  refine wpAny_call (codeAny_mono (F.run X.A X.stack s H ⟨us, []⟩ (us ++ ds) (vs ++ dvs) Q E hr I.env0 (hb s us I.kIn hl) r2 h) fun r s' hq => ?_)
  cases r with
  | error e => exact hx pins σ H s e s' I hq
  | ok fl =>
    cases fl with
    | ret u => exact I.after hq
    | next => exact False.elim hq
    | brk => exact False.elim hq
    | cont => exact False.elim hq

theorem pe_call (F : FnOk X.prog X.w X.K X.mg X.base CX k f fd ps sp) (hr : Room k X.A) (hg : Gl X x) (hm : X.mg x = some (.ref f)) (hk : PySem.W.keepIn X.K (.ref f) = true) (hb : Binds X.K fd ps ds) (hd : Vals dvs ds) (hx : Passes CX X E)
    (ha : PA X (e :: es) t) (hdb : (x == ("__debug__" : Str)) = false := by decide) (he : starEach (e :: es) X.env = (false, eval e X.env) :: starEach es X.env := by rfl) (hpl : (backTo pos (starEach es X.env)).any (·.1) = false := by rfl) :
    PE X (.Call (.Name x p) (e :: es) [] pos) (tCall sp dvs E t) := by
  intro pins s σ H Q I h
  refine wpAny_Call_Name_kw (ld_glob I hg hm ?_ hdb)
  refine PySem.W.callWith_K (h₀ := X.base) I.ok.mod.kin hk (thn (ha pos pins s σ H _ I h) fun us s1 ⟨vs, H1, I1, r, q⟩ => ⟨I1.kIn, ?_⟩) he hpl
  exact run_fn F hr hb hd hx I1 r q



end

/-! ### keywords -/
section
variable {X : Cx} {CX : CXT} {k : Nat} {f C : Addr} {fd : FuncData} {ps ks : List Str} {sp : Sp} {E : XK} {x m : Str} {p pos apos kpos : Pos} {e o : Expr} {es : List Expr} {kws : List Keyword} {te ta : TE} {t tk : TA} {nm : Option Str}

variable {g : List Value → List Value → List Value} {gV : List V → List V → List V}
end

/-! ### a def's body keeps its promise -/
/-- names: the parameters first -/
structure FnScope (N P : List Str) (sc : Scope) : Prop where
  kind : sc.kind = .function
  co : sc.isCoroutine = false
  gen : sc.isGenerator = false
  nd : N.Nodup
  pre : N.take P.length = P
  par : ∀ x ∈ P, sc.names.lookup x = some .local ∨ sc.names.lookup x = some .cell
  nofree : ∀ y ∈ sc.names, y.2 ≠ .free

theorem bindL_out {kindOf : Str → Option NameKind} {x : Str} : ∀ {binds : List (Str × Value)} {m : Str → Option Value}, (∀ v, (x, v) ∉ binds) → bindL kindOf binds m x = m x
  | [], _, _ => rfl
  | (n, v) :: r, m, h => by
    unfold bindL
    rw [bindL_out fun w hw => h w (List.mem_cons_of_mem _ hw)]
    split
    · have : x ≠ n := by rintro rfl; exact h v List.mem_cons_self
      simp [this]
    · rfl
theorem bindC_out {kindOf : Str → Option NameKind} {x : Str} : ∀ {binds : List (Str × Value)} {m : Str → Option Value}, (∀ v, (x, v) ∉ binds) → bindC kindOf binds m x = m x
  | [], _, _ => rfl
  | (n, v) :: r, m, h => by
    unfold bindC
    rw [bindC_out fun w hw => h w (List.mem_cons_of_mem _ hw)]
    split
    · rfl
    · have : x ≠ n := by rintro rfl; exact h v List.mem_cons_self
      simp [this]
theorem bindL_get {kindOf : Str → Option NameKind} {x : Str} {v : Value} : ∀ {P : List Str} {vs : List Value} {i : Nat} {m : Str → Option Value}, P.Nodup → P[i]? = some x → vs[i]? = some v → kindOf x = some .local →
    bindL kindOf (P.zip vs) m x = some v
  | [], _, _, _, _, h, _, _ => by simp at h
  | _ :: _, [], _, _, _, _, h, _ => by simp at h
  | p :: P, w :: vs, 0, m, nd, h1, h2, hk => by
    simp at h1 h2; subst h1; subst h2
    show bindL kindOf ((p, w) :: P.zip vs) m p = _
    unfold bindL
    rw [bindL_out fun v hv => (List.nodup_cons.mp nd).1 (List.of_mem_zip hv).1, if_pos hk]
    simp
  | p :: P, w :: vs, i + 1, m, nd, h1, h2, hk => by
    show bindL kindOf ((p, w) :: P.zip vs) m x = _
    unfold bindL
    exact bindL_get (i := i) (List.nodup_cons.mp nd).2 (by simpa using h1) (by simpa using h2) hk
theorem bindC_get {kindOf : Str → Option NameKind} {x : Str} {v : Value} : ∀ {P : List Str} {vs : List Value} {i : Nat} {m : Str → Option Value}, P.Nodup → P[i]? = some x → vs[i]? = some v → kindOf x ≠ some .local →
    bindC kindOf (P.zip vs) m x = some v
  | [], _, _, _, _, h, _, _ => by simp at h
  | _ :: _, [], _, _, _, _, h, _ => by simp at h
  | p :: P, w :: vs, 0, m, nd, h1, h2, hk => by
    simp at h1 h2; subst h1; subst h2
    show bindC kindOf ((p, w) :: P.zip vs) m p = _
    unfold bindC
    rw [bindC_out fun v hv => (List.nodup_cons.mp nd).1 (List.of_mem_zip hv).1, if_neg hk]
    simp
  | p :: P, w :: vs, i + 1, m, nd, h1, h2, hk => by
    show bindC kindOf ((p, w) :: P.zip vs) m x = _
    unfold bindC
    exact bindC_get (i := i) (List.nodup_cons.mp nd).2 (by simpa using h1) (by simpa using h2) hk

/-- the names' values at the entry -/
def start (N : List Str) (vs : List V) : St := vs.map some ++ List.replicate (N.length - vs.length) none

/-- the context of a def's body, at its entry; an exception leaves the frame, then lies as CX says -/
def cxOf (CX : CXT) (P : Program) (w : World) (K : PySem.W.Frag) (mg : Str → Option Value) (base : Heap) (N : List Str) (qual : Str) (scope : Scope) (f : Addr) (cd : Value) (A : Around) (outer : List Env) (s : Shared) (H : Hp) (E : XK) : Cx where
  prog := P
  w := w
  K := K
  mg := mg
  base := base
  A := A.deeper (envOfC qual scope s.heap.objs.size f cd)
  N := N
  s₀ := s
  H₀ := H
  env := envOfC qual scope s.heap.objs.size f cd
  outer := outer
  stack := envOfC qual scope s.heap.objs.size f cd :: outer
  ex := []
  calm := true
  fn := fun _ => true
  pn := []
  xe := fun e s' => wpAny (model P w) (A.deeper (envOfC qual scope s.heap.objs.size f cd)) (leaving (envOfC qual scope s.heap.objs.size f cd) e) (fun _ s'' => CX outer H s E e s'') (fun e' s'' => CX outer H s E e' s'') s'

theorem cell_has {sc : Scope} {n : Nat} {x : Str} (h : sc.names.lookup x = some .cell) : ∃ c, (cellsFrom n sc.names []).lookup x = some c := by
  have q := PySem.W.cellsFrom_some sc.names n [] (.inl h)
  exact Option.isSome_iff_exists.mp q

theorem inv_start {CX : CXT} {P : Program} {w : World} {K : PySem.W.Frag} {mg : Str → Option Value} {base : Heap} {N ps : List Str} {qual : Str} {scope : Scope} {f : Addr} {cd : Value} {A : Around} {outer : List Env} {s s1 : Shared} {H : Hp} {E : XK} {us : List Value} {vs : List V}
    (S : FnScope N ps scope) (hd : A.handled = none) (e0 : Env0 P w K mg base A outer s H) (hl : vs.length = ps.length) (r : Vals vs us)
    (x : InCallC s s.heap.objs.size (bindL (envOfC qual scope s.heap.objs.size f cd).kindOf (ps.zip us) fun _ => none) (cellsFrom (s.heap.objs.size + 1) scope.names []) (bindC (envOfC qual scope s.heap.objs.size f cd).kindOf (ps.zip us) fun _ => none) s1) :
    Inv (cxOf CX P w K mg base N qual scope f cd A outer s H E) [] (start N vs) H s1 := by
  have hpl : ps.length ≤ N.length := by have := congrArg List.length S.pre; rw [List.length_take] at this; omega
  obtain ⟨h1, tk, rfl, hk⟩ := x.done
  have noA : ∀ b : Addr, b ∉ (cxOf CX P w K mg base N qual scope f cd A outer s H E).ex := fun b z => absurd (show b ∈ ([] : List Addr) from z) (by simp)
  refine ⟨⟨e0.mod, S.kind, rfl, rfl, Nat.le_refl _, fun y z c h1 h2 => ?_, fun y hy => ?_, fun y c _ h => ?_, fun _ => hd, Around.frames_deeper e0.frames, .inr ⟨rfl, rfl⟩, fun b z => absurd z (noA b), e0.bs, e0.bsz, fun b _ _ => noA b, fun b z => absurd z (noA b), e0.funs, e0.frf⟩,
    rfl, e0.bare, Un.kept hk, ⟨_, x.toInCall.ns, fun i y v h1 h2 h3 => ?_⟩, fun y c h => ⟨_, x.cell y c h⟩, e0.hok.fresh (Nat.le_refl _), fun y c h => ?_, fun p hp => absurd (show p ∈ ([] : List (Addr × Obj)) from hp) (by simp), e0.hok.kept hk, ?_⟩
  · exact name_of_addr x.apart (PySem.mem_of_lookup h1) (PySem.mem_of_lookup h2)
  · have hy : scope.names.lookup y = some .cell ∨ scope.names.lookup y = some .free := hy
    rcases hy with hy | hy
    · exact cell_has hy
    · exact absurd rfl (S.nofree _ (PySem.mem_of_lookup hy))
  · exact Nat.le_of_lt (x.above y c (PySem.mem_of_lookup h))
  · have hi : i < vs.length := by
      unfold start at h2
      by_cases hi : i < vs.length
      · exact hi
      · rw [List.getElem?_append_right (by simpa using hi)] at h2
        rw [List.getElem?_replicate] at h2
        split at h2 <;> cases h2
    have ha : vs[i]? = some v := by
      unfold start at h2
      rw [List.getElem?_append_left (by simpa using hi), List.getElem?_map] at h2
      cases e : vs[i]? with
      | none => rw [e] at h2; cases h2
      | some a => rw [e] at h2; cases h2; rfl
    obtain ⟨u, hu, rv⟩ := r.get ha
    have hp : ps[i]? = some y := by
      rw [← S.pre, List.getElem?_take_of_lt (by omega)]; exact h1
    have ndP : ps.Nodup := by rw [← S.pre]; exact S.nd.sublist (List.take_sublist _ _)
    refine ⟨u, rv, ?_⟩
    rcases S.par y (List.mem_of_getElem? hp) with k | k
    · exact .inl ⟨k, bindL_get ndP hp hu k⟩
    · obtain ⟨c, e⟩ := cell_has (n := s.heap.objs.size + 1) k
      refine .inr ⟨.inl k, c, e, ?_⟩
      have q := x.cell y c e
      rw [bindC_get ndP hp hu (by show scope.names.lookup y ≠ _; rw [k]; decide)] at q
      exact q
  · exact e0.hok.fresh (Nat.le_of_lt (x.above y c (PySem.mem_of_lookup h)))
  · unfold start
    show _ = N.length
    rw [List.length_append, List.length_map, List.length_replicate]
    omega

/-- THE RULE: a def (or a method) of the text, by its body. The body's reading t is chosen for each entry; it is run at the parameters' values -/
theorem fn_of {CX : CXT} {P : Program} {w : World} {K : PySem.W.Frag} {mg : Str → Option Value} {base : Heap} {k : Nat} {f : Addr} {name qual : Str} {params : Arguments} {body : List Stmt} {scope : Scope} {dV kV doc pm cdv ct oc : Value} {an od : Option Addr}
    {osl : Array (Option Value)} {N ps : List Str} {sp : Sp} (lk : K.lookup f = some ⟨oc, od, .func (PySem.W.fnOf name qual params body scope dV kV doc pm an cdv ct), osl⟩) (hcd : PySem.W.codeIn K cdv qual = true) (S : FnScope N ps scope)
    (len : ∀ vs H Q E, sp vs H Q E → vs.length = ps.length)
    (hbody : ∀ (A : Around) (outer : List Env) (s : Shared) (H : Hp) (vs : List V) (Q : VK) (E : XK), Room k (A.deeper (envOfC qual scope s.heap.objs.size f cdv)) → sp vs H Q E →
      ∃ t, PSs (cxOf CX P w K mg base N qual scope f cdv A outer s H E) body t ∧ t { nx := fun _ H' => Q .non H', rt := Q } (start N vs) H) :
    FnOk P w K mg base CX (k + 1) f (PySem.W.fnOf name qual params body scope dV kV doc pm an cdv ct) ps sp := by
  refine ⟨len, fun A outer s H args us vs Q E hr e0 hb r hsp => ?_⟩
  have hl := len _ _ _ _ hsp
  have KX : K.In s.heap := e0.mod.kin.keeps fun b o e => (e0.bs b o e).1
  have lim : s.heap.NoLimit := e0.mod.nolimit.keeps fun b o e => (e0.bs b o e).1
  have hkind : ∀ y ∈ ps.zip us, scope.names.lookup y.1 = some .local ∨ (scope.names.lookup y.1 = some .cell ∧ ((cellsFrom (s.heap.objs.size + 1) scope.names []).lookup y.1).isSome = true) := fun ⟨n, v⟩ hy => by
    rcases S.par n (List.of_mem_zip hy).1 with q | q
    · exact .inl q
    · exact .inr ⟨q, PySem.W.cellsFrom_some _ _ _ (.inl q)⟩
  refine codeAny_call_function hr.depth (KX _ _ lk) rfl S.co S.gen rfl (PySem.W.codeRec_of KX hcd) (hb _ _ _ _ ?_)
  refine wpAny_newFunctionEnv_cells S.kind hkind fun env he s1 x => ?_
  subst he
  refine ⟨lim.keeps x.toInCall.keep, codeAny_func ?_⟩
  obtain ⟨t, ht, hq⟩ := hbody A outer s H vs Q E (hr.deeper _) hsp
  have I : Inv (cxOf CX P w K mg base N qual scope f cdv A outer s H E) [] (start N vs) H s1 := inv_start S hr.hd e0 hl r x
  refine wpAny_mono (ht [] s1 (start N vs) H _ I hq) (fun fl s' hs => ?_) fun e s' hs => hs
  have fin : ∀ {σ' : St} {H' : Hp} {v : V} {u : Value}, Inv (cxOf CX P w K mg base N qual scope f cdv A outer s H E) [] σ' H' s' → RelV v u → Q v H' → CE outer P w H s Q u s' :=
    fun {σ' H' v u} J rv q => ⟨v, H', J.os, J.bare, J.base, J.hok, rv, q⟩
  cases fl with
  | ret u =>
    obtain ⟨v, σ', H', J, rv, q⟩ := hs
    exact fin J rv q
  | next =>
    obtain ⟨σ', H', J, q⟩ := hs
    exact fin (v := V.non) (u := Value.none) J rfl q
  | brk =>
    obtain ⟨_, _, _, q⟩ := hs
    exact False.elim q
  | cont =>
    obtain ⟨_, _, _, q⟩ := hs
    exact False.elim q
end L2

namespace L2
open PySem PySem.Spec PyProof.Rows
section
variable {X : Cx} {x : Str} {p pos : Pos} {e : Expr} {es : List Expr} {t : TA} {id T : String} {r : List V → Hp → VK → Prop}

def tCB (r : List V → Hp → VK → Prop) (t : TA) : TE := fun σ H Q => t σ H fun vs H1 => r vs H1 Q
/-- f(e, ..), f a built-in function -/
theorem pe_callB (hc : CallR X (.builtin id) r) (hg : Gl X x) (hm : X.mg x = none) (hv : bootBuiltins x = some (.builtin id)) (ha : PA X (e :: es) t) (hn : x ≠ "__name__" := by decide) (hdb : (x == ("__debug__" : Str)) = false := by decide)
    (he : starEach (e :: es) X.env = (false, eval e X.env) :: starEach es X.env := by rfl) (hpl : (backTo pos (starEach es X.env)).any (·.1) = false := by rfl) : PE X (.Call (.Name x p) (e :: es) [] pos) (tCB r t) := by
  intro pins s σ H Q I h
  refine wpAny_Call_Name_kw (ld_blt I hg hm hv ?_ hn hdb)
  exact PyProof.Rows.callWith_builtin1 (thn (ha pos pins s σ H _ I h) fun us s1 ⟨vs, H1, I1, r1, q1⟩ => hc pins s1 σ H1 vs us Q I1 r1 q1) he hpl
/-- T(e, ..), T a built-in type -/
theorem pe_callTy (hc : CallR X (.type T) r) (hg : Gl X x) (hm : X.mg x = none) (hv : bootBuiltins x = some (.type T)) (ha : PA X (e :: es) t) (hn : x ≠ "__name__" := by decide) (hdb : (x == ("__debug__" : Str)) = false := by decide)
    (he : starEach (e :: es) X.env = (false, eval e X.env) :: starEach es X.env := by rfl) (hpl : (backTo pos (starEach es X.env)).any (·.1) = false := by rfl) : PE X (.Call (.Name x p) (e :: es) [] pos) (tCB r t) := by
  intro pins s σ H Q I h
  refine wpAny_Call_Name_kw (ld_blt I hg hm hv ?_ hn hdb)
  exact PyProof.Rows.callWith_type1 (thn (ha pos pins s σ H _ I h) fun us s1 ⟨vs, H1, I1, r1, q1⟩ => hc pins s1 σ H1 vs us Q I1 r1 q1) he hpl
end
end L2

namespace HT
open PySem PyProof.Rows



section
open PySem.SeqAt
open PySem.AutoSeq1 (wpAny_loadPart')
open PySem.MeetsSeq PySem.MeetsSeq2 PySem.MeetsSeq3

end

section
variable {prog : Program} {w : World} {A : Around} {E : Value → Shared → Prop} {s : Shared}



/-! ### t[a:b], not the whole -/
/-- a slice's bound as a place among n (d where it is left out) -/
def sIx (n d : Nat) : Option Int → Nat
  | none => d
  | some v => if v < 0 then (v + (n : Int)).toNat else min v.toNat n
theorem sIx_none (n d : Nat) : sIx n d none = d := rfl
theorem sIx_nat (n d k : Nat) : sIx n d (some (k : Int)) = min k n := by
  show (if (k : Int) < 0 then ((k : Int) + (n : Int)).toNat else min (k : Int).toNat n) = min k n
  rw [if_neg (by omega), Int.toNat_natCast]

end
end HT

namespace L2
open PySem PySem.Spec PyProof.Rows

/-! ### the parts of a slice -/
abbrev TO := St → Hp → (Option Int → Hp → Prop) → Prop
/-- a slice's part (left out, or an int) -/
def PO (X : Cx) (e : Option Expr) (t : TO) : Prop :=
  ∀ (pins : List (Addr × Obj)) (s : Shared) (σ : St) (H : Hp) (Q : Option Int → Hp → Prop), Inv X pins σ H s → t σ H Q →
    wpAny (model X.prog X.w) X.A (evalPart e X.env) (fun u s' => ∃ o H', Inv X pins σ H' s' ∧ IsPart u o ∧ Q o H') X.xe s
def tNoPart : TO := fun _ H Q => Q none H
def tPart (t : TE) : TO := fun σ H Q => t σ H fun x H1 => ∃ i, x = .int i ∧ Q (some i) H1

theorem intsAre_of {ns : List Int} : ∀ {us : List Value}, Vals (ns.map V.int) us → IntsAre us ns := by
  induction ns with
  | nil => intro us r; rw [List.map_nil] at r; cases r; exact .nil
  | cons n ns ih =>
    intro us r
    rw [List.map_cons] at r
    cases r with
    | cons r1 r2 =>
      obtain ⟨t, e⟩ := r1
      subst e
      exact .cons n t (ih r2)

section
variable {X : Cx} {e : Expr} {te : TE} {lo hi : Option Expr} {tl th : TO} {pos p2 : Pos}

theorem po_none : PO X none tNoPart := by
  intro pins s σ H Q I h
  rw [evalPart_none]
  exact wpAny_pure ⟨none, H, I, .none, h⟩
theorem po_some (h : PE X e te) : PO X (some e) (tPart te) := by
  intro pins s σ H Q I hw
  rw [evalPart_some]
  refine thn (h pins s σ H _ I hw) fun u s1 ⟨x, H1, I1, r1, q1⟩ => ?_
  obtain ⟨i, rfl, q⟩ := q1
  obtain ⟨t, rfl⟩ := r1
  exact ⟨some i, H1, I1, .int i t, q⟩

/-- what a slice of a value is, by values: the slice object stands at sl -/
def SlR (X : Cx) (r : V → Option Int → Option Int → Hp → VK → Prop) : Prop :=
  ∀ (pins : List (Addr × Obj)) (s : Shared) (σ : St) (H : Hp) (x : V) (v vl vu : Value) (lo hi : Option Int) (sl : Addr) (Q : VK), Inv X pins σ H s → RelV x v → s.heap.IsSliceOf sl vl vu .none → IsPart vl lo → IsPart vu hi → r x lo hi H Q →
    ∃ T id, typeLookup (.type T) "__getitem__" = pure (some (.builtin id)) ∧ s.TypeIs v T ∧ wpAny (model X.prog X.w) X.A (getItem v (.ref sl)) (EP X pins σ Q) X.xe s
def tSl (r : V → Option Int → Option Int → Hp → VK → Prop) (te : TE) (tl th : TO) : TE := fun σ H Q => te σ H fun x H1 => tl σ H1 fun l H2 => th σ H2 fun u H3 => r x l u H3 Q
/-- a[lo:hi], any a -/
theorem pe_slice {r : V → Option Int → Option Int → Hp → VK → Prop} (hr : SlR X r) (he : PE X e te) (hl : PO X lo tl) (hu : PO X hi th) : PE X (.Subscript e (.Slice lo hi none p2) pos) (tSl r te tl th) := by
  intro pins s σ H Q I h
  refine Subscript_ (thn (he pins s σ H _ I h) fun v s1 ⟨x, H1, I1, r1, q1⟩ => ?_)
  refine wpAny_Slice (thn (hl pins s1 σ H1 _ I1 q1) fun vl s2 ⟨l, H2, I2, pl, q2⟩ => thn (hu pins s2 σ H2 _ I2 q2) fun vu s3 ⟨u, H3, I3, pu, q3⟩ => ?_)
  rw [evalPart_none]
  refine wpAny_pure ?_
  have I4 : Inv X pins σ H3 { s3 with heap := s3.heap.push { cls := .type "slice", data := .fields #[vl, vu, .none] } } := I3.kept (t' := s3.toks) fun b ob q => Heap.get?_push_of_some _ q
  obtain ⟨T, id, hT, ht, hg⟩ := hr pins { s3 with heap := s3.heap.push { cls := .type "slice", data := .fields #[vl, vu, .none] } } σ H3 x v vl vu l u s3.heap.objs.size Q I4 r1 (Heap.IsSliceOf.new ..) pl pu q3
  show wpAny (model X.prog X.w) X.A (subscriptTail e (.Slice lo hi none p2) v (.ref s3.heap.objs.size)) (EP X pins σ Q) X.xe { s3 with heap := s3.heap.push { cls := .type "slice", data := .fields #[vl, vu, .none] } }
  exact tail_any (ops := [.ref s3.heap.objs.size, v]) ht hT hg (by with_unfolding_all rfl)

/-- the items of xs[lo:hi] -/
def cutV (xs : List V) (lo hi : Option Int) : List V := (xs.drop (HT.sIx xs.length 0 lo)).take (HT.sIx xs.length xs.length hi - HT.sIx xs.length 0 lo)
theorem cutV_length (xs : List V) (lo hi : Option Int) : (cutV xs lo hi).length ≤ xs.length := by
  unfold cutV
  rw [List.length_take, List.length_drop]
  omega

/-! ### t < u, t + u -/
end
end L2

namespace L2
open PySem PySem.Spec PyProof.Rows

/-! ### places -/
/-- the place that an index of any sign means -/
def ixN (n : Nat) (i : Int) : Option Nat := if 0 ≤ i then (if i < n then some i.toNat else none) else if -(n : Int) ≤ i then some (i + n).toNat else none
def atI {α : Type} (xs : List α) (i : Int) : Option α := (ixN xs.length i).bind fun j => xs[j]?
theorem ixN_seq {n : Nat} {i : Int} {j : Nat} (h : ixN n i = some j) : seqIndex? i n = some j ∧ j < n ∧ -(n : Int) ≤ i ∧ i < n := by
  unfold ixN at h
  by_cases h0 : 0 ≤ i
  · rw [if_pos h0] at h
    by_cases h1 : i < n
    · rw [if_pos h1] at h
      have e : i.toNat = j := Option.some.inj h
      exact ⟨by rw [seqIndex_of h0 h1, e], by omega, by omega, h1⟩
    · rw [if_neg h1] at h; cases h
  · rw [if_neg h0] at h
    by_cases h1 : -(n : Int) ≤ i
    · rw [if_pos h1] at h
      have e : (i + n).toNat = j := Option.some.inj h
      exact ⟨by rw [seqIndex_neg (by omega) h1, e], by omega, h1, by omega⟩
    · rw [if_neg h1] at h; cases h
theorem atI_get {α : Type} {xs : List α} {i : Int} {v : α} (h : atI xs i = some v) : ∃ j, seqIndex? i xs.length = some j ∧ xs[j]? = some v ∧ j < xs.length ∧ -(xs.length : Int) ≤ i ∧ i < xs.length := by
  unfold atI at h
  cases e : ixN xs.length i with
  | none => rw [e] at h; cases h
  | some j =>
    rw [e] at h
    obtain ⟨h1, h2, h3, h4⟩ := ixN_seq e
    exact ⟨j, h1, h, h2, h3, h4⟩
theorem atI_nat {α : Type} {xs : List α} {j : Nat} {v : α} (h : xs[j]? = some v) : atI xs (j : Int) = some v := by
  have hj : j < xs.length := (List.getElem?_eq_some_iff.mp h).1
  have e : ixN xs.length (j : Int) = some j := by
    unfold ixN
    rw [if_pos (by omega), if_pos (by omega)]; simp
  unfold atI; rw [e]; exact h

/-! ### what may be subscripted -/
/-- what stands as an index of a plain subscript -/
def PlainIx (b : Expr) : Prop := ∀ o i, subscripted b false o i = operate [o, i] (getItem o i)
/-- a subscript by values -/
def IxR (X : Cx) (r : R2) : Prop :=
  ∀ (value slice : Expr) (pins : List (Addr × Obj)) (s : Shared) (σ : St) (H : Hp) (x y : V) (v u : Value) (Q : VK), Inv X pins σ H s → RelV x v → RelV y u → r x y H Q →
    subscripted slice false v u = operate [v, u] (getItem v u) → wpAny (model X.prog X.w) X.A (subscriptTail value slice v u) (EP X pins σ Q) X.xe s
/-- a call of a builtin's method by values: the receiver, the arguments -/
def MtR (X : Cx) (id : String) (r : V → List V → Hp → VK → Prop) : Prop :=
  ∀ (pins : List (Addr × Obj)) (s : Shared) (σ : St) (H : Hp) (x : V) (xs : List V) (v : Value) (us : List Value) (Q : VK), Inv X pins σ H s → RelV x v → Vals xs us → r x xs H Q →
    wpAny (model X.prog X.w) X.A (call (.builtin id) (v :: us)) (EP X pins σ Q) X.xe s
section
variable {X : Cx} {a b : Expr} {ta tb : TE} {pos : Pos}
/-- a[b] -/
theorem pe_ix {r : R2} (hr : IxR X r) (ha : PE X a ta) (hb : PE X b tb) (hs : PlainIx b) : PE X (.Subscript a b pos) (tOp r ta tb) := by
  intro pins s σ H Q I h
  exact Subscript_ (binT ha hb I h fun v u s2 x y H2 I2 rx ry q => hr a b pins s2 σ H2 x y v u Q I2 rx ry q (hs _ _))

def rIxL (K : PySem.W.Frag) : R2 := fun x y H Q => ∃ p xs i v, x = .ref p ∧ y = .int i ∧ SqL K H p xs ∧ atI xs i = some v ∧ Q v H
def rIxT (K : PySem.W.Frag) : R2 := fun x y H Q => ∃ p xs i v, x = .ref p ∧ y = .int i ∧ SqT K H p xs ∧ atI xs i = some v ∧ Q v H
def rIxS : R2 := fun x y H Q => ∃ z i c, x = .str z ∧ y = .int i ∧ z.length ≤ sizeLine ∧ atI z.cps.toList i = some c ∧ Q (.str ⟨#[c]⟩) H
theorem ix_list : IxR X (rIxL X.K) := by
  intro value slice pins s σ H x y v u Q I rx ry h hs
  obtain ⟨p, xs, i, z, rfl, rfl, hq, he, q⟩ := h
  cases rx
  obtain ⟨t, rfl⟩ := ry
  obtain ⟨its, r, pl, hz⟩ := I.list hq
  obtain ⟨j, h1, h2, h3, h4, h5⟩ := atI_get he
  obtain ⟨w, ew, rw'⟩ := r.get h2
  have hl := r.length
  have hn := line63
  have fin : EP X pins σ Q w s := ⟨z, H, I, rw', q⟩
  by_cases h0 : 0 ≤ i
  · have hj : i.toNat = j := by
      rw [seqIndex_of h0 h5] at h1
      exact Option.some.inj h1
    exact item_listR pl.isList h0 (by omega) (by rw [hj]; simpa using ew) fin hs
  · have hj : (i + (its.toArray.size : Int)).toNat = j := by
      rw [seqIndex_neg (by omega) h4] at h1
      rw [List.size_toArray, ← hl]
      exact Option.some.inj h1
    exact subscriptTail_builtinR (x := w) pl.isList.typeIs slot_list_getitem.lookup
      (wpAny_getItem_list_neg (Q := fun r s' => r = w ∧ EP X pins σ Q r s') pl.isList (by omega) (by rw [List.size_toArray] <;> omega) (by omega) (by rw [hj]; simpa using ew) ⟨rfl, fin⟩) hs
theorem ix_tup : IxR X (rIxT X.K) := by
  intro value slice pins s σ H x y v u Q I rx ry h hs
  obtain ⟨p, xs, i, z, rfl, rfl, hq, he, q⟩ := h
  cases rx
  obtain ⟨t, rfl⟩ := ry
  obtain ⟨its, r, pl, hz⟩ := I.tuple hq
  obtain ⟨j, h1, h2, h3, h4, h5⟩ := atI_get he
  obtain ⟨w, ew, rw'⟩ := r.get h2
  have hl := r.length
  have hn := line63
  have fin : EP X pins σ Q w s := ⟨z, H, I, rw', q⟩
  exact subscriptTail_builtinR (x := w) pl.typeIs slot_tuple_getitem.lookup
    (getItem_tuple (j := j) (Q := fun r s' => r = w ∧ EP X pins σ Q r s') pl (by omega) (by omega) (by rw [List.size_toArray, ← hl]; exact h1) (by simpa using ew) ⟨rfl, fin⟩) hs
theorem ix_str : IxR X rIxS := by
  intro value slice pins s σ H x y v u Q I rx ry h hs
  obtain ⟨z, i, c, rfl, rfl, hz, he, q⟩ := h
  obtain ⟨t, rfl⟩ := rx
  obtain ⟨t', rfl⟩ := ry
  obtain ⟨j, h1, h2, h3, h4, h5⟩ := atI_get he
  have hl : z.cps.toList.length = z.length := by simp [Str.length]
  rw [hl] at h1 h4 h5
  have hn := line63
  exact tail_any (typeIs_str s z t) slot_str_getitem.lookup (getItem_str (c := c) (by
    have e1 : decide (i < -(2 ^ 63 : Int)) = false := decide_eq_false (by omega)
    have e2 : decide (i ≥ 2 ^ 63) = false := decide_eq_false (by omega)
    rw [e1, e2, Bool.or_false]) (by rw [h1]; simpa using h2) ⟨.str ⟨#[c]⟩, H, I.tok _, ⟨_, rfl⟩, q⟩) hs

/-! ### xs[i] = v, any sign -/

/-! ### slices -/
theorem slice_bounds (lo hi : Option Int) (n : Nat) : (sliceBounds lo hi none n).1 = ((HT.sIx n 0 lo : Nat) : Int) ∧ (sliceBounds lo hi none n).2.1 = ((HT.sIx n n hi : Nat) : Int) ∧ (sliceBounds lo hi none n).2.2 = 1 := by
  refine ⟨?_, ?_, rfl⟩
  · cases lo with
    | none => simp [sliceBounds, HT.sIx]
    | some i =>
      simp only [sliceBounds, HT.sIx, Option.getD_none, show (1 : Int) > 0 by decide, if_true]
      by_cases h : i < 0
      · simp only [h, if_true] <;> omega
      · simp only [h, if_false] <;> omega
  · cases hi with
    | none => simp [sliceBounds, HT.sIx]
    | some i =>
      simp only [sliceBounds, HT.sIx, Option.getD_none, show (1 : Int) > 0 by decide, if_true]
      by_cases h : i < 0
      · simp only [h, if_true] <;> omega
      · simp only [h, if_false] <;> omega
theorem slicePick_cut (its : List Value) (lo hi : Option Int) : slicePick its.toArray lo hi none = ((its.drop (HT.sIx its.length 0 lo)).take (HT.sIx its.length its.length hi - HT.sIx its.length 0 lo)).toArray := by
  obtain ⟨h1, h2, h3⟩ := slice_bounds lo hi its.toArray.size
  unfold slicePick
  rw [h1, h2, h3]
  simp only [sliceRange_one, pick_run, List.size_toArray] <;> rfl
/-- xs[lo:hi] of a list: a new list -/
def rSlL (K : PySem.W.Frag) : V → Option Int → Option Int → Hp → VK → Prop := fun x lo hi H Q => ∃ a xs, x = .ref a ∧ SqL K H a xs ∧ ∀ p, H p = none → Q (.ref p) (upd H p (.lst (cutV xs lo hi)))
theorem sl_list : SlR X (rSlL X.K) := by
  intro pins s σ H x v vl vu lo hi sl Q I rx hs pl pu h
  obtain ⟨a, xs, rfl, hx, q⟩ := h
  cases rx
  obtain ⟨its, r, ht, hz⟩ := I.list hx
  have hlen := r.length
  refine ⟨"list", _, slot_list_getitem.lookup, ht.isList.typeIs, ?_⟩
  refine wpAny_getItem_list_slice ht.isList hs pl pu .none (by simp) ?_ (by rw [List.size_toArray] <;> omega)
  rw [slicePick_cut, ← hlen]
  refine ⟨.ref s.heap.objs.size, _, I.laid (t' := s.toks) (o := .lst (cutV xs lo hi)) (fun b ob q => Heap.get?_push_of_some _ q) (Nat.le_refl _) ?_, rfl, q _ (I.hok.fresh (Nat.le_refl _))⟩
  exact ⟨Nat.le_trans (cutV_length xs lo hi) hz, _, 0, (r.drop (HT.sIx xs.length 0 lo)).take (HT.sIx xs.length xs.length hi - HT.sIx xs.length 0 lo), Heap.get?_push_size _ rfl⟩

/-! ### in, not in: flat items -/
def flatV : V → Bool
  | .non => true
  | .bl _ => true
  | .int _ => true
  | .str _ => true
  | _ => false
/-- == of flat values -/
def eqV : V → V → Bool
  | .non, .non => true
  | .bl a, .bl b => a == b
  | .bl a, .int b => (if a then 1 else 0) == b
  | .int a, .bl b => a == (if b then 1 else 0)
  | .int a, .int b => a == b
  | .str a, .str b => a == b
  | _, _ => false
theorem eqAt_V {A : Around} {s : Shared} {y x : V} {u v : Value} (ry : RelV y u) (rx : RelV x v) (fy : flatV y = true) (fx : flatV x = true) : SeqAt.EqAt A s u v (eqV y x) := by
  cases y with
  | non =>
    cases ry
    cases x with
    | non => cases rx; exact SeqAt.EqAt.same _
    | bl b => cases rx; exact SeqAt.EqAt.none_bool b
    | int b => obtain ⟨t, rfl⟩ := rx; exact SeqAt.EqAt.none_int b t
    | str b => obtain ⟨t, rfl⟩ := rx; exact SeqAt.EqAt.none_str b t
    | _ => exact absurd (show false = true from fx) Bool.false_ne_true
  | bl a =>
    cases ry
    cases x with
    | non => cases rx; exact SeqAt.EqAt.bool_none a
    | bl b => cases rx; exact SeqAt.EqAt.bool_bool a b
    | int b => obtain ⟨t, rfl⟩ := rx; exact SeqAt.EqAt.bool_int a b t
    | str b => obtain ⟨t, rfl⟩ := rx; exact SeqAt.EqAt.bool_str a b t
    | _ => exact absurd (show false = true from fx) Bool.false_ne_true
  | int a =>
    obtain ⟨t', rfl⟩ := ry
    cases x with
    | non => cases rx; exact SeqAt.EqAt.int_none a t'
    | bl b => cases rx; exact SeqAt.EqAt.int_bool a t' b
    | int b => obtain ⟨t, rfl⟩ := rx; exact SeqAt.EqAt.int_int a t' b t
    | str b => obtain ⟨t, rfl⟩ := rx; exact SeqAt.EqAt.int_str a t' b t
    | _ => exact absurd (show false = true from fx) Bool.false_ne_true
  | str a =>
    obtain ⟨t', rfl⟩ := ry
    cases x with
    | non => cases rx; exact SeqAt.EqAt.str_none a t'
    | bl b => cases rx; exact SeqAt.EqAt.str_bool a t' b
    | int b => obtain ⟨t, rfl⟩ := rx; exact SeqAt.EqAt.str_int a t' b t
    | str b => obtain ⟨t, rfl⟩ := rx; exact SeqAt.EqAt.str_str a t' b t
    | _ => exact absurd (show false = true from fx) Bool.false_ne_true
  | _ => exact absurd (show false = true from fy) Bool.false_ne_true
/-- the items' answers, read off the values (a value's own answer does not lean on its token) -/
def eqU (x : V) (u : Value) : Bool := match u with
  | .none => eqV .non x
  | .bool b => eqV (.bl b) x
  | .int i _ => eqV (.int i) x
  | .str z _ => eqV (.str z) x
  | _ => false
theorem eqU_of {x y : V} {u : Value} (r : RelV y u) (f : flatV y = true) : eqU x u = eqV y x := by
  cases y with
  | non => cases r; rfl
  | bl b => cases r; rfl
  | int i => obtain ⟨t, rfl⟩ := r; rfl
  | str z => obtain ⟨t, rfl⟩ := r; rfl
  | _ => exact absurd (show false = true from f) Bool.false_ne_true
theorem any_eqU {x : V} : ∀ {xs : List V} {us : List Value}, Vals xs us → xs.all flatV = true → us.any (eqU x) = xs.any fun y => eqV y x
  | _, _, .nil, _ => rfl
  | y :: xs, u :: us, .cons r t, f => by
    rw [List.all_cons, Bool.and_eq_true] at f
    rw [List.any_cons, List.any_cons, eqU_of r f.1, any_eqU t f.2]
theorem mem_eqAt {A : Around} {s : Shared} {x : V} {v : Value} (rx : RelV x v) (fx : flatV x = true) : ∀ {xs : List V} {us : List Value}, Vals xs us → xs.all flatV = true → ∀ u ∈ us, SeqAt.EqAt A s u v (eqU x u)
  | _, _, .nil, _ => fun u hu => by cases hu
  | y :: xs, u :: us, .cons r t, f => fun u' hu => by
    rw [List.all_cons, Bool.and_eq_true] at f
    rcases List.mem_cons.mp hu with rfl | hu
    · rw [eqU_of r f.1]; exact eqAt_V r rx f.1 fx
    · exact mem_eqAt rx fx t f.2 u' hu
def inV (x : V) (xs : List V) : Bool := xs.any fun y => eqV y x
/-- x in a list or tuple of flat items -/
def rIn (K : PySem.W.Frag) (neg : Bool) : R2 := fun x y H Q => ∃ p xs, y = .ref p ∧ (SqL K H p xs ∨ SqT K H p xs) ∧ flatV x = true ∧ xs.all flatV = true ∧ Q (.bl (if neg then !inV x xs else inV x xs)) H
theorem op_notIn_seq : OpR X (compareOp .NotIn) (rIn X.K true) := by
  intro pins s σ H x y v u Q I rx ry h
  obtain ⟨p, xs, rfl, hq, fx, fs, q⟩ := h
  cases ry
  rcases hq with hq | hq
  · obtain ⟨its, r, pl, hz⟩ := I.list hq
    refine SeqAt.notIn_listAt (eqU x) pl.isList (fun w hw => mem_eqAt rx fx r fs w (by simpa using hw)) ⟨.bl _, H, I, rfl, ?_⟩
    rw [show its.toArray.any (eqU x) = its.any (eqU x) by simp, any_eqU r fs]
    exact q
  · obtain ⟨its, r, pl, hz⟩ := I.tuple hq
    refine SeqAt.notIn_tupleAt (eqU x) pl (fun w hw => mem_eqAt rx fx r fs w (by simpa using hw)) ⟨.bl _, H, I, rfl, ?_⟩
    rw [show its.toArray.any (eqU x) = its.any (eqU x) by simp, any_eqU r fs]
    exact q

/-! ### len, list(x), tuple(x) of any list or tuple that is read -/
theorem call_len_seq : CallR X (.builtin "len") (fun xs H Q => ∃ p ys, xs = [.ref p] ∧ (SqL X.K H p ys ∨ SqT X.K H p ys) ∧ Q (.int ys.length) H) := by
  intro pins s σ H xs us Q I r h
  obtain ⟨p, ys, rfl, hq, q⟩ := h
  obtain ⟨u, rfl, rx⟩ := vals1 r
  cases rx
  have hn := line63
  rcases hq with hq | hq
  · obtain ⟨its, r', pl, hz⟩ := I.list hq
    have hlen := r'.length
    exact Calls.call_len_list pl.isList (by simp only [List.size_toArray] <;> omega) ⟨.int ys.length, H, I.tok _, ⟨s.toks + 1, by rw [List.size_toArray, hlen]⟩, q⟩
  · obtain ⟨its, r', pl, hz⟩ := I.tuple hq
    have hlen := r'.length
    exact len_tuple pl (by simp only [List.size_toArray] <;> omega) ⟨.int ys.length, H, I.tok _, ⟨s.toks + 1, by rw [List.size_toArray, hlen]⟩, q⟩
theorem call_len_str : CallR X (.builtin "len") (fun xs H Q => ∃ z, xs = [.str z] ∧ z.length ≤ sizeLine ∧ Q (.int z.length) H) := by
  intro pins s σ H xs us Q I r h
  obtain ⟨z, rfl, hz, q⟩ := h
  obtain ⟨u, rfl, t, rfl⟩ := vals1 r
  have hn := line63
  exact len_str (by omega) ⟨.int z.length, H, I.tok _, ⟨_, rfl⟩, q⟩

/-! ### the call of a builtin's method: o.m(..) -/
/-- the value is of that builtin type -/
def tyV (K : PySem.W.Frag) (T : String) (x : V) (H : Hp) : Prop := match x with
  | .str _ => T = "str"
  | .int _ => T = "int"
  | .ref p => (T = "list" ∧ ∃ xs, SqL K H p xs) ∨ (T = "tuple" ∧ ∃ o, K.lookup p = some o ∧ o.cls = .type "tuple" ∧ o.dict = none) ∨
      (T = "dict" ∧ ((∃ kvs, H p = some (.dK kvs)) ∨ ∃ kvs, H p = some (.dT kvs))) ∨ (T = "set" ∧ ∃ S n, H p = some (.set S n))
  | _ => False
theorem tyV_is {pins : List (Addr × Obj)} {σ : St} {H : Hp} {s : Shared} {T : String} {x : V} {v : Value} (I : Inv X pins σ H s) (r : RelV x v) (ty : tyV X.K T x H) :
    s.TypeIs v T ∧ ∀ a, v = .ref a → ∃ ob, s.heap.get? a = some ob ∧ ob.dict = none := by
  cases x with
  | str z =>
    obtain ⟨t, rfl⟩ := r
    cases (show T = "str" from ty)
    exact ⟨typeIs_str s z t, fun _ e => nomatch e⟩
  | int i =>
    obtain ⟨t, rfl⟩ := r
    cases (show T = "int" from ty)
    exact ⟨typeIs_int s i t, fun _ e => nomatch e⟩
  | ref p =>
    cases r
    rcases ty with ⟨rfl, xs, hq⟩ | ⟨rfl, o, hk, hc, hd⟩ | ⟨rfl, hk⟩ | ⟨rfl, S, n, hk⟩
    · obtain ⟨its, _, pl, _⟩ := I.list hq
      refine ⟨pl.isList.typeIs, fun a e => ?_⟩
      cases e
      obtain ⟨o, n, e, c, hd, _⟩ := pl
      exact ⟨o, e, hd⟩
    · refine ⟨⟨o, I.kIn p o hk, hc⟩, fun a e => ?_⟩
      cases e
      exact ⟨o, I.kIn _ o hk, hd⟩
    · have z : ∃ o, s.heap.get? p = some o ∧ o.ExactDict := by
        rcases hk with ⟨kvs, hk⟩ | ⟨kvs, hk⟩
        · obtain ⟨_, _, _, _, o, _, _, e, ex, _⟩ := I.hok p _ hk
          exact ⟨o, e, ex⟩
        · obtain ⟨_, _, _, _, o, _, _, e, ex, _⟩ := I.hok p _ hk
          exact ⟨o, e, ex⟩
      obtain ⟨o, e, ex⟩ := z
      refine ⟨⟨o, e, ex.1⟩, fun a e2 => ?_⟩
      cases e2
      exact ⟨o, e, ex.2.1⟩
    · obtain ⟨o, _, _, _, e, ex, _⟩ := I.hok p _ hk
      refine ⟨⟨o, e, ex.1⟩, fun a e2 => ?_⟩
      cases e2
      exact ⟨o, e, ex.2.1⟩
  | _ => exact False.elim ty
def tBM (K : PySem.W.Frag) (T : String) (r : V → List V → Hp → VK → Prop) (to : TE) (t : TA) : TE := fun σ H Q => to σ H fun x H1 => tyV K T x H1 ∧ t σ H1 fun xs H2 => r x xs H2 Q
variable {o e : Expr} {es : List Expr} {to : TE} {t : TA} {name : Str} {apos cpos : Pos} {T id : String} {r : V → List V → Hp → VK → Prop}
theorem pe_bm (pa : PlainAttrs T) (slot : Slot T name id) (hty : typeOf (.builtin id) = pure (.type "method_descriptor")) (hm : MtR X id r) (ho : PE X o to) (ha : PA X (e :: es) t)
    (hbase : attributeBase o name X.env (eval o X.env) = eval o X.env := by rfl)
    (hfew : ((backTo cpos (starEach (e :: es) X.env)).all (fun x => !x.1) && (backToKw cpos (keywordEach [] X.env)).all (fun x => x.1.isSome)
      && decide ((e :: es).length + ([] : List Keyword).length + (if ([] : List Keyword).isEmpty then 0 else 1) < 30)) = true := by rfl)
    (hline : (apos.endLine == cpos.line) = true := by rfl) (hs : starEach (e :: es) X.env = (false, eval e X.env) :: starEach es X.env := by rfl) (hplain : (backTo cpos (starEach es X.env)).any (·.1) = false := by rfl) :
    PE X (.Call (.Attribute o name apos) (e :: es) [] cpos) (tBM X.K T r to t) := by
  intro pins s σ H Q I h
  refine wpAny_Call_method_late hbase hfew hline rfl (thn (ho pins s σ H _ I h) fun v s1 ⟨x, H1, I1, r1, ty, q1⟩ => ?_)
  obtain ⟨h1, h2⟩ := tyV_is I1 r1 ty
  refine ⟨T, id, pa, slot, hty, h1, h2, ?_⟩
  have hA := ha cpos pins s1 σ H1 _ I1 q1
  rw [hs] at hA ⊢
  refine Calls.callWith_builtin (by show (false || (backTo cpos (starEach es X.env)).any (·.1)) = false; rw [hplain] <;> rfl) (Calls.evalArgs_plain ?_)
  exact thn hA fun us s2 ⟨vs, H2, I2, r2, q2⟩ => hm pins s2 σ H2 x vs v us Q I2 r1 r2 q2
/- xs.append(e), list.index on a module's tuple .. are MtR facts of 06m -/
end
end L2

namespace L2
open PySem PySem.Spec PyProof.Rows

def MtM (X : Cx) (id : String) (r : V → List V → Hp → VK → Prop) : Prop :=
  ∀ (pins : List (Addr × Obj)) (s : Shared) (σ : St) (H : Hp) (x : V) (xs : List V) (v : Value) (us : List Value) (Q : VK), Inv X pins σ H s → RelV x v → Vals xs us → r x xs H Q →
    wpAny (model X.prog X.w) X.A (call (.builtin id) (v :: us)) (EP X pins σ Q) X.xe s

/-! ### lists of values -/
theorem Vals.one : ∀ {x : V} {us : List Value}, Vals [x] us → ∃ u, us = [u] ∧ RelV x u
  | _, _, .cons r .nil => ⟨_, rfl, r⟩

section
variable {X : Cx} {pins : List (Addr × Obj)} {σ : St} {H : Hp} {s : Shared} {l b : Addr} {xs ys zs : List V}

/-! ### the two steps: a tracked list is rewritten, a new list is laid -/
theorem Inv.lset {its its' : List Value} {n : Nat} {f : Array Value → Array Value} {t' : Nat} (I : Inv X pins σ H s) (hH : H l = some (.lst xs))
    (e : s.heap.get? l = some { cls := .type "list", data := .seq its.toArray n }) (hf : f its.toArray = its'.toArray) (hv : Vals ys its') (hz : ys.length ≤ sizeLine) :
    Inv X pins σ (upd H l (.lst ys)) { s with heap := s.heap.update l (Obj.mapSeq f), toks := t' } := by
  have q := PySem.IsL.update e f
  rw [hf] at q
  refine I.write (x := l) (e := l) (by rw [hH]; exact trivial) (.inl rfl) (fun b' u hb hu => (Heap.get?_update_other s.heap (Obj.mapSeq f) (Ne.symm hb)).trans hu) ⟨_, q⟩ ?_
  exact ⟨hz, its', _, hv, q⟩
theorem Inv.lnew {its : List Value} {t' : Nat} (I : Inv X pins σ H s) (hv : Vals ys its) (hz : ys.length ≤ sizeLine) :
    Inv X pins σ (upd H s.heap.objs.size (.lst ys)) { s with heap := s.heap.push { cls := .type "list", data := .seq its.toArray }, toks := t' } :=
  I.laid (fun _ _ q => Heap.get?_push_of_some _ q) (Nat.le_refl _) ⟨hz, its, 0, hv, Heap.get?_push_size _ rfl⟩
theorem Inv.fresh (I : Inv X pins σ H s) : H s.heap.objs.size = none := I.hok.fresh (Nat.le_refl _)
theorem Inv.lstM (I : Inv X pins σ H s) (hH : H l = some (.lst xs)) : xs.length ≤ sizeLine ∧ ∃ (its : List Value) (n : Nat), Vals xs its ∧ xs.length = its.length ∧ s.heap.get? l = some { cls := .type "list", data := .seq its.toArray n } := by
  obtain ⟨z, its, n, r, e⟩ := I.hok l _ hH
  exact ⟨z, its, n, r, r.length, e⟩

theorem notLongL {n : Nat} (h : n ≤ sizeLine) : Builtin.List.listTooLong n = false := by
  unfold Builtin.List.listTooLong
  exact decide_eq_false (by omega)
end

section
variable {X : Cx}

/-! ### methods -/
def rAppend : V → List V → Hp → VK → Prop := fun x vs H Q => ∃ l xs y, x = .ref l ∧ vs = [y] ∧ H l = some (.lst xs) ∧ xs.length < sizeLine ∧ Q .non (upd H l (.lst (xs ++ [y])))
theorem mt_append : MtM X "list.append" rAppend := by
  intro pins s σ H x vs v us Q I rx rv h
  obtain ⟨l, xs, y, rfl, rfl, hH, hz, q⟩ := h
  cases rx
  obtain ⟨u, rfl, ru⟩ := rv.one
  obtain ⟨z, its, n, r, hl, e⟩ := I.lstM hH
  refine call_meets F.slot_list_append ⟨_, e, rfl⟩ F.entry_list_append (F.args_list_append_2 _ _) (PySem.list_append l its.toArray n u (by rw [List.size_toArray]; omega)) ⟨e, ?_⟩
  refine ⟨.non, _, I.lset (its' := its ++ [u]) hH e (by simp) (r.append (.cons ru .nil)) ?_, rfl, q⟩
  rw [List.length_append, List.length_singleton]
  omega

def rExtend : V → List V → Hp → VK → Prop := fun x vs H Q => ∃ l b xs zs, x = .ref l ∧ vs = [.ref b] ∧ H l = some (.lst xs) ∧ H b = some (.lst zs) ∧ xs.length + zs.length ≤ sizeLine ∧ Q .non (upd H l (.lst (xs ++ zs)))
theorem mt_extend : MtM X "list.extend" rExtend := by
  intro pins s σ H x vs v us Q I rx rv h
  obtain ⟨l, b, xs, zs, rfl, rfl, hH, hB, hz, q⟩ := h
  cases rx
  obtain ⟨u, rfl, ru⟩ := rv.one
  cases ru
  obtain ⟨z, its, n, r, hl, e⟩ := I.lstM hH
  obtain ⟨z2, its2, n2, r2, hl2, e2⟩ := I.lstM hB
  have hsz : its.toArray.size + its2.toArray.size ≤ sizeLine := by rw [List.size_toArray, List.size_toArray]; omega
  have hlong : ¬ (!its.toArray.isEmpty && Builtin.List.listTooLong (its.toArray.size + its2.toArray.size)) = true := by
    rw [notLongL hsz, Bool.and_false]
    exact Bool.false_ne_true
  refine call_meets F.slot_list_extend ⟨_, e, rfl⟩ F.entry_list_extend (F.args_list_extend_2 _ _)
    (AutoSeq1.list_extend_list_list_0 l its.toArray n b its2.toArray n2 hlong (by rw [List.size_toArray]; omega) (by omega)) ⟨e, e2, ?_⟩
  refine ⟨.non, _, I.lset (its' := its ++ its2) hH e (by simp) (r.append r2) ?_, rfl, q⟩
  rw [List.length_append]
  omega





/-! ### list + list, list += list, list * int -/
def rCat : R2 := fun x y H Q => ∃ l b xs zs, x = .ref l ∧ y = .ref b ∧ H l = some (.lst xs) ∧ H b = some (.lst zs) ∧ xs.length + zs.length ≤ sizeLine ∧ ∀ p, H p = none → Q (.ref p) (upd H p (.lst (xs ++ zs)))
theorem op_cat : OpR X (binaryOp .Add) rCat := by
  intro pins s σ H x y v u Q I rx ry h
  obtain ⟨l, b, xs, zs, rfl, rfl, hH, hB, hz, q⟩ := h
  cases rx
  cases ry
  obtain ⟨z, its, n, r, hl, e⟩ := I.lstM hH
  obtain ⟨z2, its2, n2, r2, hl2, e2⟩ := I.lstM hB
  refine PySem.P.add_list e e2 ?_ (by rw [List.size_toArray, List.size_toArray]; omega)
  have ea : its.toArray ++ its2.toArray = (its ++ its2).toArray := by simp
  rw [ea]
  exact ⟨.ref _, _, I.lnew (t' := s.toks) (r.append r2) (by rw [List.length_append]; omega), rfl, q _ I.fresh⟩

/-! ### del xs[i] -/
end

/-! ### xs[a:b] = ys -/
section
variable {prog : Program} {w : World} {A : Around} {E : Value → Shared → Prop} {s : Shared}
end

section
variable {X : Cx}
end
end L2

namespace L2
open PySem PySem.Spec PyProof.Rows

/-! ### lists of pairs as tables -/
section
variable {κ : Type} [DecidableEq κ]



end


/-! ### a tracked dict, its keys ints and texts or tuples of these -/


section
variable {P : Program} {w : World} {H : Hp} {h : Heap} {a : Addr}
end



section
variable {X : Cx} {pins : List (Addr × Obj)} {σ : St} {H : Hp} {s : Shared} {a : Addr} {y v : V} {u r : Value} {o : Option V} {A : Around} {E : Value → Shared → Prop}


end

section
variable {X : Cx} {pins : List (Addr × Obj)} {σ : St} {H : Hp} {s : Shared} {a : Addr} {kvs : List (Key × V)} {k : Key} {u : Value} {A : Around} {E : Value → Shared → Prop}
end


/-! ### readings and rules -/



section
variable {X : Cx} {o i e value : Expr} {pos pos' tpos : Pos} {td ty tv : TE}
end


/-! ### displays -/
section
variable {X : Cx} {pos : Pos}
end




/-! ### methods -/


section
variable {X : Cx} {pins : List (Addr × Obj)} {σ : St} {H : Hp} {s : Shared} {a : Addr} {y d : V} {u r : Value} {o : Option V} {A : Around} {E : Value → Shared → Prop}
end

section
variable {X : Cx} {o e f : Expr} {apos cpos : Pos} {td ty tx : TE}
end

/-! ### dict(d): a copy -/
section
variable {X : Cx} {pins : List (Addr × Obj)} {σ : St} {H : Hp} {s : Shared} {a : Addr} {kvs : List (Key × V)} {A : Around} {E : Value → Shared → Prop}
end


section
variable {X : Cx} {pins : List (Addr × Obj)} {σ : St} {H : Hp} {s : Shared} {a : Addr} {y : V} {u : Value} {A : Around} {E : Value → Shared → Prop}
end
end L2

namespace Att
open PySem PySem.W PySem.Calls PyProof.Rows

/-! ### the script -/
theorem ints_of_wellAll {P : Params} {h : Heap} : ∀ (ns : List Int) (vs : List Value), WellAll P h vs (ns.map WData.int) → IntsAre vs ns := by
  intro ns
  induction ns with
  | nil =>
    intro vs w
    rw [List.map_nil] at w
    cases w
    exact .nil
  | cons n ns ih =>
    intro vs w
    rw [List.map_cons] at w
    cases w with
    | cons a b =>
      cases a
      exact .cons _ _ (ih _ b)

theorem script_of {l : OpenLaw} {n : Nat} (hn : l.most = some n) {P : Params} {h : Heap} {args : List WData} {vals : List Value}
    (hpre : l.row.toRowW.claim.pre args = true) (hwl : WellAll P h vals args) :
    ∃ a vs ns, vals = [Value.ref a] ∧ args = [WData.list (ns.map WData.int)] ∧ h.get? a = some { cls := .type "list", data := .seq vs.toArray } ∧ IntsAre vs ns ∧ ns.length ≤ n := by
  have hsh : WShape.hasAll [] args [.list .int] = true := (pre_splitW hpre).1
  have hc : l.pre.holds [] { args := args } = true := (pre_splitW hpre).2
  obtain ⟨d, r, rfl, h1, h2⟩ := hasAllW_cons hsh
  obtain rfl := hasAllW_nil h2
  obtain ⟨xs, rfl, h3⟩ := hasW_list h1
  obtain ⟨ns, rfl⟩ := items_int h3
  have hlen : ns.length ≤ n := by
    unfold OpenLaw.pre at hc
    have h4 : (WTm.not (.lt (.lit (.int (n : Int))) (.len (.arg 0)))).holds [] { args := [.list (ns.map .int)] } = true := by
      have h4 := (holds_andW hc).1
      rw [hn] at h4
      exact h4
    have h5 := condW_of h4 (w_not (w_lt w_lit (w_len_list (w_arg rfl))))
    rw [List.length_map] at h5
    refine Nat.le_of_not_lt fun q => ?_
    have q' : (n : Int) < ((ns.length : Nat) : Int) := by omega
    first
      | (rw [decide_eq_true q'] at h5; exact absurd h5 (by decide))
      | (simp at h5; omega)
  cases hwl with
  | cons w1 w2 =>
    cases w2
    cases w1 with
    | list ho hall => exact ⟨_, _, ns, rfl, rfl, ho, ints_of_wellAll ns _ hall, hlen⟩

theorem post_true (l : OpenLaw) (args : List WData) : l.row.toRowW.claim.post args (.bool true) args = true :=
  postW_of (r := l.row.toRowW) (X := (true == true))
    (show WShape.has [] (.bool true) .bool = true by first | rfl | decide | simp [WShape.has, WShape.arms, WShape.armsAll])
    (show (WTm.eq .res (.lit (.bool true))).value [] { args := args, res := some (.bool true), after := args } = some (.bool (true == true)) from w_eq_bool (w_res rfl) w_lit) rfl

/-! ### the attachment: holds_open's last premise (the goal 'hc' behind k_head) from a wpAny of the law's body -/

/-- the same from a codeAny of the CALL (for a layer whose function contracts speak of calls) -/
theorem attach_call {l : OpenLaw} {n : Nat} {q : Program} {loose : List Str} {XP : (Str → Option Value) → Heap → Prop} {YP : World → Heap → Prop} {d : DefRec}
    (hn : l.most = some n) (hdf : d.params.defaults = [])
    (call : ∀ (w : World) (s₀ s₁ : Shared) (mg mb : Str → Option Value) (fa : Addr) (o : Obj) (pm cd doc : Value) (a : Addr) (vs : List Value) (ns : List Int),
      Ground q loose [] XP w s₀ mg mb s₁.heap → YP w s₁.heap →
      s₁.heap.get? fa = some o → o.data = .func (docDef d.name d.params d.body d.scope pm cd doc) → s₁.heap.CodeRec cd d.name → mg d.name = some (.ref fa) →
      s₁.heap.get? a = some { cls := .type "list", data := .seq vs.toArray } → IntsAre vs ns → ns.length ≤ n → s₁.gens = #[] →
      codeAny (model l.prog w) callerA (.call (.ref fa) ⟨[.ref a], []⟩) (fun r s' => r = .ok (.ret (.bool true)) ∧ OldK s₁.heap s'.heap ∧ s'.os = s₁.os ∧ AllBare s'.gens) s₁) :
    WalkO q loose XP YP l.row.toRowW d [] (fun f vs => PySem.call f vs) := by
  intro w s₀ s₁ mg mb G Y fa o pm cd doc dV kV ho hd hcd hD hmg hg args vals as hpre hlay hrd hwl hlo
  obtain rfl : dV = .none := Dflts.none hD hdf
  obtain rfl : kV = .none := Dflts.noKw hD
  obtain ⟨a, vs, ns, rfl, rfl, hobj, hints, hlen⟩ := script_of hn hpre hwl
  refine enter_call (codeAny_mono (call w s₀ s₁ mg mb fa o pm cd doc a vs ns G Y ho (fd_plain hd) hcd hmg hobj hints hlen hg) fun r s' hq => ?_)
  obtain ⟨rfl, h2, h3, h4⟩ := hq
  exact ⟨.inl ⟨.bool true, .bool true, [], rfl, fun _ => rfl, .bool true, post_true l _, fun _ => ⟨List.Pairwise.nil, fun _ hm => (nomatch hm)⟩⟩, h2, h3, h4⟩


/-! ### rules over ANY heap (no ledger) from facts about the written part K: the library's own take a ledger (News) for what they write -/
section
variable {prog : Program} {w : World} {A : Around} {E : Value → Shared → Prop} {s : Shared} {K : Frag}





/-! the whole heap as the ledger: makes every rule that writes through a ledger a rule over any heap -/

end
end Att

namespace L2
open PySem PySem.Spec PyProof.Rows

theorem vals_ints : ∀ {vs : List Value} {ns : List Int}, IntsAre vs ns → Vals (ns.map V.int) vs
  | _, _, .nil => .nil
  | _, _, .cons n t h => .cons ⟨t, rfl⟩ (vals_ints h)

/-- nothing is tracked but the script, known to the object (or it is an object of the module) -/
def Only (H : Hp) : Prop := ∀ b, H b = none ∨ ∃ o xs, H b = some (.frz o (.lst xs))

/-- THE HEAD: the law's promise, at the heap behind the top. F, the promise of the law's def, may use that base is part of the heap (so K.In base, base.Ns mainGlobals mg stand in Mod) -/
theorem law_call {P : Program} {w : World} {K : PySem.W.Frag} {mg mb : Str → Option Value} {CX : CXT} {k : Nat} {fa a : Addr} {fd : FuncData} {x : Str} {sp : Sp} {s₁ : Shared} {vs : List Value} {ns : List Int}
    (KX : K.In s₁.heap) (hns : s₁.heap.Ns mainGlobals mg) (hb : s₁.heap.Ns builtinsNs mb) (hbb : ∀ x : Str, x ≠ "__name__" → mb x = bootBuiltins x) (hlim : s₁.heap.NoLimit) (hg : s₁.gens = #[])
    (ha : s₁.heap.get? a = some { cls := .type "list", data := .seq vs.toArray }) (hi : IntsAre vs ns) (hl : ns.length ≤ sizeLine) (hr : Room k callerA)
    (F : ∀ base : Heap, K.In base → base.Ns mainGlobals mg → FnOk P w K mg base CX k fa fd [x] sp) (hbind : ∀ (s : Shared) (u : Value), BindsTo s fd ⟨[u], []⟩ [(x, u)])
    (hsp : ∀ H : Hp, Only H → SqL K H a (ns.map V.int) → sp [.ref a] H (fun v _ => v = .bl true) fun _ _ _ => False)
    (hCX : ∀ H e s', CX [] H s₁ (fun _ _ _ => False) e s' → False) :
    codeAny (model P w) callerA (.call (.ref fa) ⟨[.ref a], []⟩) (fun r s' => r = .ok (.ret (.bool true)) ∧ OldK s₁.heap s'.heap ∧ s'.os = s₁.os ∧ AllBare s'.gens) s₁ := by
  have rv := vals_ints hi
  have lenV := hi.length
  -- from an abstract heap in which nothing but the script may be tracked
  have core : ∀ H : Hp, Only H → SqL K H a (ns.map V.int) → HOk P w H s₁.heap → (∀ b, H b ≠ none → b = a) → (H a ≠ none → K.lookup a = none) →
      codeAny (model P w) callerA (.call (.ref fa) ⟨[.ref a], []⟩) (fun r s' => r = .ok (.ret (.bool true)) ∧ OldK s₁.heap s'.heap ∧ s'.os = s₁.os ∧ AllBare s'.gens) s₁ := by
    intro H hO hS hok hA hK
    have base_of : ∀ {b : Addr} {o : Obj}, s₁.heap.get? b = some o → H b = none → (hidT s₁.heap H).get? b = some o := fun e n => hidT_get e n
    have noA : ∀ {b : Addr} {o : Obj} {es : Array DictEntry} {ep : Nat}, s₁.heap.get? b = some o → o.data = .dict es ep → H b = none := fun {b o es ep} e d => by
      cases q : H b with
      | none => rfl
      | some u =>
        have e' : b = a := hA b (by rw [q]; simp)
        subst e'
        rw [ha] at e; cases e
        have d' : Data.seq vs.toArray _ = Data.dict es ep := d
        cases d'
    have nsK : ∀ {b : Addr} {m : Str → Option Value}, s₁.heap.Ns b m → (hidT s₁.heap H).Ns b m := fun {b m} ⟨o, es, ep, e, d, r⟩ => ⟨o, es, ep, base_of e (noA e d), d, r⟩
    have hKb : K.In (hidT s₁.heap H) := fun b o e => base_of (KX b o e) (by
      cases q : H b with
      | none => rfl
      | some u =>
        have e' : b = a := hA b (by rw [q]; simp)
        subst e'
        rw [hK (by rw [q]; simp)] at e; cases e)
    have hM : Mod K mg (hidT s₁.heap H) := ⟨hKb, nsK hns, ⟨mb, nsK hb, hbb⟩, let ⟨mc, h1, h2⟩ := hlim; ⟨mc, nsK h1, h2⟩⟩
    have e0 : Env0 P w K mg (hidT s₁.heap H) callerA [] s₁ H := ⟨rfl, hM, fun b o e => of_hidT e, Nat.le_of_eq (hidT_size _ _), trivial, fun b hb => absurd (show b ∈ ([] : List Addr) from hb) (by simp), hok, .of_eq hg⟩
    refine codeAny_mono ((F _ hKb (nsK hns)).run callerA [] s₁ H ⟨[.ref a], []⟩ [.ref a] [.ref a] _ _ hr e0 (hbind s₁ (.ref a)) (.cons rfl .nil) (hsp H hO hS)) fun r s' h => ?_
    cases r with
    | error e => exact (hCX H e s' h).elim
    | ok fl =>
      cases fl with
      | next => exact False.elim h
      | brk => exact False.elim h
      | cont => exact False.elim h
      | ret u =>
        obtain ⟨v, H', os, bare, un, hok', r', q⟩ := h
        have q' : v = .bl true := q
        subst q'
        obtain rfl : u = Value.bool true := r'
        refine ⟨rfl, OldK.of_keep fun b o e => ?_, os, bare⟩
        cases q : H b with
        | none => exact un.keep b o e q (by intro z; exact absurd (show b ∈ ([] : List Addr) from z) (by simp)) (by simp)
        | some u =>
          rcases hO b with z | ⟨ob, xs, z⟩
          · rw [q] at z; cases z
          · have z2 := un.frzs b ob _ z
            obtain ⟨e1, _⟩ := hok b _ z
            obtain ⟨e2, _⟩ := hok' b _ z2
            rw [e] at e1; cases e1
            exact e2
  cases hk : K.lookup a with
  | some o =>
    -- the script is one of the module's own objects
    have e := KX a o hk
    rw [ha] at e
    cases e
    refine core (fun _ => none) (fun _ => .inl rfl) (.inr ⟨_, vs.toArray, _, hk, rfl, rfl, rfl, by rw [List.size_toArray, lenV]; exact hl, by simpa using rv⟩) (fun b u z => by have z' : (none : Option HO) = some u := z; cases z') (fun b z => absurd rfl z) fun z => absurd rfl z
  | none =>
    refine core (fun b => if b = a then some (.frz { cls := .type "list", data := .seq vs.toArray } (.lst (ns.map V.int))) else none) (fun b => ?_) (.inl (.inr ⟨{ cls := .type "list", data := .seq vs.toArray }, if_pos rfl⟩)) (fun b u z => ?_) (fun b z => ?_) fun _ => hk
    · by_cases hb : b = a
      · exact .inr ⟨_, _, if_pos hb⟩
      · exact .inl (if_neg hb)
    · by_cases hb : b = a
      · have z' := (if_pos hb).symm.trans z
        cases z'
        subst hb
        exact ⟨ha, by rw [List.length_map]; exact hl, vs, _, rv, ha⟩
      · have z' := (if_neg hb).symm.trans z
        cases z'
    · by_cases hb : b = a
      · exact hb
      · exact absurd (if_neg hb) z
end L2

namespace L2
open PySem PySem.Spec PyProof.Rows


/-- the goal that k_head leaves (case hc), from the law's promise. F gives the function object fd (K's own) once, then the promise over every base -/
theorem walk_of {l : PySem.W.OpenLaw} {n k : Nat} {q : Program} {loose : List Str} {XP : (Str → Option Value) → Heap → Prop} {YP : World → Heap → Prop} {d : DefRec} {K : Params → PySem.W.Frag} {CX : World → CXT} {sp : World → Sp} {x : Str}
    (hn : l.most = some n) (hn2 : n ≤ sizeLine) (hdf : d.params.defaults = []) (hr : Room k callerA)
    (hY : ∀ (w : World) (h : Heap), YP w h → (K w.params).In h)
    (F : ∀ (w : World) (mg : Str → Option Value) (fa : Addr) (h : Heap), (K w.params).In h → h.Ns mainGlobals mg → mg d.name = some (.ref fa) →
      ∃ fd : FuncData, (∀ (s : Shared) (u : Value), BindsTo s fd ⟨[u], []⟩ [(x, u)]) ∧
        ∀ base : Heap, (K w.params).In base → base.Ns mainGlobals mg → FnOk l.prog w (K w.params) mg base (CX w) k fa fd [x] (sp w))
    (hsp : ∀ (w : World) (H : Hp) (a : Addr) (ns : List Int), ns.length ≤ n → Only H → SqL (K w.params) H a (ns.map V.int) → sp w [.ref a] H (fun v _ => v = .bl true) fun _ _ _ => False)
    (hCX : ∀ (w : World) (H : Hp) (s : Shared) (e : Value) (s' : Shared), CX w [] H s (fun _ _ _ => False) e s' → False) :
    PySem.W.WalkO q loose XP YP l.row.toRowW d [] (fun f vs => PySem.call f vs) := by
  refine Att.attach_call hn hdf fun w s₀ s₁ mg mb fa o pm cd doc a vs ns G Y ho hd hcd hmg hobj hints hlen hg => ?_
  have KX := hY w _ Y
  obtain ⟨fd, hb, hF⟩ := F w mg fa _ KX G.T.g hmg
  exact law_call KX G.T.g G.T.b G.T.builtins G.T.nolimit hg hobj hints (Nat.le_trans hlen hn2) hr hF hb (fun H hO hS => hsp w H a ns hlen hO hS) fun H e s' => hCX w H s₁ e s'
end L2

/- THE LAST THEOREM (shape; LID, My.* are yours):
   My.Adr: a structure of the addresses that your layer names (classes, functions); My.Txt K t: a structure (Prop) of the equations over K;
   My.txt_mk : {K} {implicit addresses ..} (e1 : nsIn K mainGlobals "law" = some (some (.ref f))) (e2 : K.lookup f = some ⟨oc, od, .func (fnOf "law" "law" params body scope dV kV doc pm an cdv ct), sl⟩) (e3 : codeIn K cdv "law" = true) .. : ∃ t, My.Txt K t

set_option maxRecDepth 100000 in
set_option maxHeartbeats 0 in
theorem PySem.Challenge.cw_LID_holds : PySem.Challenge.rw_LID.Holds := by
  w_on; o_law; k_head; (case hw => w_witness2)
  k_fill
  refine L2.walk_of (l := PySem.Challenge.rw_LID) (n := 63) (k := 40) (x := "script") (CX := fun w => ..) (sp := fun _ => My.sp_law) rfl (by decide) rfl ⟨rfl, by decide, by decide⟩ (fun w h Y => PySem.W.kIn_of Y) ?F ?S ?C
  case F =>
    intro w mg fa h KX G hmg
    have T : ∃ t, My.Txt (L2.KOf KX) t := by
      dsimp only [L2.KOf]                          -- K must stand as «<heap const> w.params» for k_is
      refine' My.txt_mk ?e1 ?e2 ?e3 ..
      (case e1 => PySem.W.k_is)                    -- in the order: a name -> its address -> its object -> its parts
      (case e2 => PySem.W.k_is)
      ..
    obtain ⟨t, T⟩ := T
    have e0 := hmg.symm.trans (PySem.W.mg_of KX G T.law)
    cases e0                                       -- fa is the law's own address
    exact ⟨_, fun s u => .of_eq rfl, fun base kb nb => My.law_fn T kb nb⟩     -- if «.of_eq rfl» comes too early: refine' ⟨_, ?b, fun base kb nb => My.law_fn T kb nb⟩; exact fun s u => .of_eq rfl
  case S => exact fun w H a ns hl hO hS => ..
  case C => exact ..
(the tactic k_is has no namespace: write k_is) -/

/-! SHORT WORDS over the layer: a def of the text, its body, what a loop and a test want. -/
namespace L2
open PySem PySem.Spec PyProof.Rows

/-! ### the text by places -/
/-- the j-th statement of a class's body -/
def inClass (s : Stmt) (j : Nat) : Stmt := match s with
  | .ClassDef _ _ _ body _ _ _ _ _ _ _ => body.getD j (.Pass ⟨0, 0, 0, 0⟩)
  | _ => .Pass ⟨0, 0, 0, 0⟩
def defArgs (s : Stmt) : Arguments := match s with
  | .FunctionDef _ a _ _ _ _ _ _ _ _ => a
  | _ => { posonlyargs := [], args := [], vararg := none, kwonlyargs := [], kw_defaults := [], kwarg := none, defaults := [] }
def defBody (s : Stmt) : List Stmt := match s with
  | .FunctionDef _ _ b _ _ _ _ _ _ _ => b
  | _ => []
def defScope (s : Stmt) : Scope := match s with
  | .FunctionDef _ _ _ _ _ _ sc _ _ _ => sc
  | _ => { kind := .function, names := [], isGenerator := false, isCoroutine := false }

/-! ### no exception leaves a def -/
abbrev E0 : XK := fun _ _ _ => False

/-! ### a def (or method) of the text as it stands behind the top -/
structure Fun (K : PySem.W.Frag) (x qual : Str) (st : Stmt) (f : Addr) (fd : FuncData) : Prop where
  ex : ∃ (oc : Value) (od : Option Addr) (kV doc pm : Value) (an : Option Addr) (cdv ct : Value) (osl : Array (Option Value)),
    fd = PySem.W.fnOf x qual (defArgs st) (defBody st) (defScope st) .none kV doc pm an cdv ct ∧ K.lookup f = some ⟨oc, od, .func fd, osl⟩ ∧ PySem.W.codeIn K cdv qual = true
  kp : PySem.W.keepIn K (.ref f) = true
section
variable {P : Program} {w : World} {K : PySem.W.Frag} {mg : Str → Option Value} {base : Heap}
/-- how its arguments bind (no defaults): h is «fun _ _ _ _ _ _ us hl => match us, hl with | [_, _], _ => rfl», one _ a parameter -/
theorem Fun.binds {x qual : Str} {st : Stmt} {f : Addr} {fd : FuncData} {ps : List Str} (F : Fun K x qual st f fd)
    (h : ∀ (kV doc pm : Value) (an : Option Addr) (cdv ct : Value) (us : List Value), us.length = ps.length → bindArgs (PySem.W.fnOf x qual (defArgs st) (defBody st) (defScope st) .none kV doc pm an cdv ct) ⟨us, []⟩ = pure (ps.zip us)) : Binds K fd ps [] := by
  obtain ⟨oc, od, kV, doc, pm, an, cdv, ct, osl, rfl, lk, hcd⟩ := F.ex
  exact .all (h kV doc pm an cdv ct)
theorem fun_mk {x qual : Str} {st : Stmt} {f : Addr} {oc : Value} {od an : Option Addr} {osl : Array (Option Value)} {kV doc pm cdv ct : Value} (l : K.lookup f = some ⟨oc, od, .func (PySem.W.fnOf x qual (defArgs st) (defBody st) (defScope st) .none kV doc pm an cdv ct), osl⟩)
    (c : PySem.W.codeIn K cdv qual = true) (k : PySem.W.keepIn K (.ref f) = true) : Fun K x qual st f (PySem.W.fnOf x qual (defArgs st) (defBody st) (defScope st) .none kV doc pm an cdv ct) := ⟨⟨oc, od, kV, doc, pm, an, cdv, ct, osl, rfl, l, c⟩, k⟩
end
theorem small1000 {n : Nat} (h : n ≤ 1000) : n < sizeLine := Nat.lt_of_le_of_lt h (by decide)

/-! ### expressions in short: the name that stands in the i-th slot -/
section
variable {X : Cx}
theorem pv (i : Nat) {x : Str} {pos : Pos} (hN : X.N[i]? = some x := by rfl) (hv : Vis X.env.scope x := by first | exact Or.inl rfl | exact Or.inr (Or.inl rfl) | exact Or.inr (Or.inr rfl)) (hd : (x == ("__debug__" : Str)) = false := by decide)
    (hcd : (x == ("__classdict__" : Str)) = false := by decide) : PE X (.Name x pos) (tVar i) := pe_var hN hv hd hcd
end

/-! ### tests -/
theorem iteF {A B : Prop} (h : B) : if false = true then A else B := by
  rw [if_neg Bool.false_ne_true]
  exact h
theorem iteT {A B : Prop} (h : A) : if true = true then A else B := by
  rw [if_pos rfl]
  exact h

/-! ### heaps -/
/-- all that was tracked is as it was -/
def Same (H H' : Hp) : Prop := ∀ b o, H b = some o → H' b = some o
theorem Same.refl (H : Hp) : Same H H := fun _ _ h => h
theorem Same.trans {H H1 H2 : Hp} (a : Same H H1) (b : Same H1 H2) : Same H H2 := fun c o h => b c o (a c o h)
theorem Same.free {H H' : Hp} (e : Same H H') {l : Addr} (h : H' l = Option.none) : H l = Option.none := by
  cases q : H l with
  | none => rfl
  | some o =>
    rw [e l o q] at h
    cases h
theorem Same.seq {K : PySem.W.Frag} {H H' : Hp} {a : Addr} {xs : List V} (e : Same H H') (h : SqL K H a xs) : SqL K H' a xs := by
  rcases h with (h | ⟨o, h⟩) | h
  · exact .inl (.inl (e _ _ h))
  · exact .inl (.inr ⟨o, e _ _ h⟩)
  · exact .inr h

end L2


namespace L2
open PySem PySem.Spec PyProof.Rows
section
variable {X : Cx}
end
/-! ### a dict's pairs: keys that differ -/
section
variable {κ : Type} [DecidableEq κ]
end
end L2

set_option linter.unusedSectionVars false
namespace NC
variable {α : Type} [DecidableEq α]

def addMark (acc : List α) (m : α) : List α := if m ∈ acc then acc else acc ++ [m]
/-- the labels of a word, in the order of their first places -/
def marks (w : List α) : List α := w.foldl addMark []
/-- the places of a label -/
def pos (w : List α) (m : α) : List Nat := (List.range w.length).filter (fun i => decide (w[i]? = some m))
/-- the blocks of a word -/
def gather (w : List α) : List (List Nat) := (marks w).map (pos w)

theorem marks_snoc (w : List α) (m : α) : marks (w ++ [m]) = addMark (marks w) m := by
  simp [marks, List.foldl_append]
theorem mem_addMark {acc : List α} {m x : α} : x ∈ addMark acc m ↔ x ∈ acc ∨ x = m := by
  unfold addMark
  split
  · constructor
    · exact .inl
    · rintro (h | rfl)
      · exact h
      · assumption
  · simp
theorem nodup_addMark {acc : List α} {m : α} (h : acc.Nodup) : (addMark acc m).Nodup := by
  unfold addMark
  split
  · exact h
  · rename_i hm
    rw [List.nodup_append]
    refine ⟨h, by simp, ?_⟩
    rintro a ha b hb rfl
    simp at hb
    exact hm (hb ▸ ha)

theorem snoc_induction {P : List α → Prop} (h0 : P []) (h1 : ∀ w m, P w → P (w ++ [m])) (w : List α) : P w := by
  have : ∀ n (w : List α), w.length = n → P w := by
    intro n
    induction n with
    | zero => intro w hw; rw [List.length_eq_zero_iff.mp hw]; exact h0
    | succ n ih =>
      intro w hw
      have hne : w ≠ [] := by intro e; subst e; simp at hw
      rw [← List.dropLast_concat_getLast hne]
      exact h1 _ _ (ih _ (by simp [hw]))
  exact this _ w rfl

theorem mem_marks {w : List α} {x : α} : x ∈ marks w ↔ x ∈ w := by
  induction w using snoc_induction with
  | h0 => simp [marks]
  | h1 w m ih => rw [marks_snoc, mem_addMark, ih]; simp
theorem nodup_marks (w : List α) : (marks w).Nodup := by
  induction w using snoc_induction with
  | h0 => simp [marks]
  | h1 w m ih => rw [marks_snoc]; exact nodup_addMark ih

theorem mem_pos {w : List α} {m : α} {i : Nat} : i ∈ pos w m ↔ w[i]? = some m := by
  unfold pos
  rw [List.mem_filter, List.mem_range]
  constructor
  · rintro ⟨_, h⟩; exact of_decide_eq_true h
  · intro h
    refine ⟨?_, decide_eq_true h⟩
    obtain ⟨h1, _⟩ := List.getElem?_eq_some_iff.mp h
    exact h1
theorem pos_rise (w : List α) (m : α) : (pos w m).Pairwise (· < ·) := List.Pairwise.filter _ List.pairwise_lt_range
theorem pos_snoc (w : List α) (m x : α) : pos (w ++ [m]) x = pos w x ++ (if m = x then [w.length] else []) := by
  unfold pos
  rw [List.length_append, List.length_singleton, List.range_succ, List.filter_append]
  congr 1
  · apply List.filter_congr
    intro i hi
    rw [List.mem_range] at hi
    rw [List.getElem?_append_left hi]
  · simp only [List.filter_cons, List.filter_nil]
    have : (w ++ [m])[w.length]? = some m := by simp
    rw [this]
    by_cases h : m = x
    · simp [h]
    · simp [h]
theorem pos_ne_nil {w : List α} {m : α} (h : m ∈ w) : pos w m ≠ [] := by
  obtain ⟨i, hi, e⟩ := List.mem_iff_getElem.mp h
  intro hn
  have : i ∈ pos w m := mem_pos.mpr (by rw [List.getElem?_eq_getElem hi, e])
  rw [hn] at this
  simp at this
theorem pos_nil {w : List α} {m : α} (h : m ∉ w) : pos w m = [] := by
  rw [List.eq_nil_iff_forall_not_mem]
  intro i hi
  obtain ⟨hl, e⟩ := List.getElem?_eq_some_iff.mp (mem_pos.mp hi)
  exact h (e ▸ List.getElem_mem hl)
theorem gather_length (w : List α) : (gather w).length = (marks w).length := by simp [gather]
/-- one turn of gathered: a mark that is new -/
theorem gather_new {w : List α} {m : α} (h : m ∉ w) : gather (w ++ [m]) = gather w ++ [[w.length]] := by
  unfold gather
  rw [marks_snoc, addMark, if_neg (by rw [mem_marks]; exact h), List.map_append]
  congr 1
  · apply List.map_congr_left
    intro x hx
    rw [pos_snoc, if_neg, List.append_nil]
    rintro rfl
    exact h (mem_marks.mp hx)
  · simp [pos_snoc, pos_nil h]
theorem gather_old {w : List α} {m : α} (h : m ∈ w) : gather (w ++ [m]) = (gather w).set ((marks w).idxOf m) (pos w m ++ [w.length]) := by
  unfold gather
  rw [marks_snoc, addMark, if_pos (mem_marks.mpr h)]
  apply List.ext_getElem?
  intro i
  rw [List.getElem?_set, List.getElem?_map, List.getElem?_map]
  by_cases hi : (marks w).idxOf m = i
  · subst hi
    have hl : (marks w).idxOf m < (marks w).length := List.idxOf_lt_length_of_mem (mem_marks.mpr h)
    rw [if_pos rfl, List.length_map, if_pos hl, List.getElem?_eq_getElem hl, List.getElem_idxOf]
    simp [pos_snoc]
  · rw [if_neg hi]
    cases e : (marks w)[i]? with
    | none => rfl
    | some x =>
      simp only [Option.map_some, Option.some.injEq]
      rw [pos_snoc, if_neg, List.append_nil]
      rintro rfl
      obtain ⟨hl, e2⟩ := List.getElem?_eq_some_iff.mp e
      exact hi (by rw [← e2]; exact (nodup_marks w).idxOf_getElem i hl)
theorem gather_get {w : List α} {m : α} (h : m ∈ w) : (gather w)[(marks w).idxOf m]? = some (pos w m) := by
  unfold gather
  have hl : (marks w).idxOf m < (marks w).length := List.idxOf_lt_length_of_mem (mem_marks.mpr h)
  rw [List.getElem?_map, List.getElem?_eq_getElem hl, List.getElem_idxOf]
  rfl
theorem mem_gather {w : List α} {b : List Nat} : b ∈ gather w ↔ ∃ m ∈ w, b = pos w m := by
  unfold gather
  rw [List.mem_map]
  constructor
  · rintro ⟨m, hm, rfl⟩; exact ⟨m, mem_marks.mp hm, rfl⟩
  · rintro ⟨m, hm, rfl⟩; exact ⟨m, mem_marks.mpr hm, rfl⟩


theorem flatten_set_perm : ∀ {l : List (List Nat)} {i : Nat} {x : List Nat} {n : Nat}, l[i]? = some x → (l.set i (x ++ [n])).flatten.Perm (l.flatten ++ [n])
  | [], i, x, n, h => by simp at h
  | y :: l, 0, x, n, h => by
    simp at h; subst h
    simp only [List.set_cons_zero, List.flatten_cons, List.append_assoc]
    exact List.Perm.append_left _ List.perm_append_comm
  | y :: l, i + 1, x, n, h => by
    simp at h
    simp only [List.set_cons_succ, List.flatten_cons, List.append_assoc]
    exact List.Perm.append_left _ (flatten_set_perm h)
theorem gather_perm (w : List α) : (gather w).flatten.Perm (List.range w.length) := by
  induction w using snoc_induction with
  | h0 => simp [gather, marks]
  | h1 w m ih =>
    rw [List.length_append, List.length_singleton, List.range_succ]
    by_cases h : m ∈ w
    · rw [gather_old h]
      exact (flatten_set_perm (gather_get h)).trans (ih.append_right _)
    · rw [gather_new h, List.flatten_append]
      exact ih.append_right _
theorem gather_ne {w : List α} {b : List Nat} (h : b ∈ gather w) : b ≠ [] := by
  obtain ⟨m, hm, rfl⟩ := mem_gather.mp h
  exact pos_ne_nil hm
theorem gather_rise {w : List α} {b : List Nat} (h : b ∈ gather w) : b.Pairwise (· < ·) := by
  obtain ⟨m, hm, rfl⟩ := mem_gather.mp h
  exact pos_rise w m
theorem gather_lt {w : List α} {b : List Nat} (h : b ∈ gather w) {i : Nat} (hi : i ∈ b) : i < w.length := by
  obtain ⟨m, hm, rfl⟩ := mem_gather.mp h
  obtain ⟨hl, _⟩ := List.getElem?_eq_some_iff.mp (mem_pos.mp hi)
  exact hl
theorem headD_append {l : List Nat} (h : l ≠ []) (r : List Nat) (d : Nat) : (l ++ r).headD d = l.headD d := by
  cases l with
  | nil => exact absurd rfl h
  | cons x l => rfl
theorem gather_firsts (w : List α) : ((gather w).map (fun b => b.headD 0)).Pairwise (· < ·) := by
  induction w using snoc_induction with
  | h0 => simp [gather, marks]
  | h1 w m ih =>
    by_cases h : m ∈ w
    · rw [gather_old h, List.map_set]
      have e : ((gather w).map fun b => b.headD 0).set ((marks w).idxOf m) ((pos w m ++ [w.length]).headD 0) = (gather w).map fun b => b.headD 0 := by
        rw [headD_append (pos_ne_nil h)]
        apply List.ext_getElem?
        intro i
        rw [List.getElem?_set]
        split
        · rename_i hi
          subst hi
          rw [List.getElem?_map, gather_get h, List.length_map, gather_length, if_pos (List.idxOf_lt_length_of_mem (mem_marks.mpr h))]
          rfl
        · rfl
      rw [e]
      exact ih
    · rw [gather_new h, List.map_append, List.pairwise_append]
      refine ⟨ih, by simp, ?_⟩
      intro a ha b hb
      simp at hb
      subst hb
      obtain ⟨bl, hbl, rfl⟩ := List.mem_map.mp ha
      refine gather_lt hbl ?_
      have := gather_ne hbl
      cases bl with
      | nil => exact absurd rfl this
      | cons x l => simp

/-! ### partings, by ints -/
structure Parting (n : Int) (bs : List (List Int)) : Prop where
  lo : 0 ≤ n
  hi : n ≤ 10
  ne : ∀ b ∈ bs, b ≠ []
  rise : ∀ b ∈ bs, b.Pairwise (· < ·)
  firsts : (bs.map (fun b => b.headD 0)).Pairwise (· < ·)
  perm : bs.flatten.Perm ((List.range n.toNat).map (fun (k : Nat) => (k : Int)))
/-- lists of naturals as lists of ints -/
abbrev zl (b : List Nat) : List Int := b.map (fun (k : Nat) => (k : Int))
abbrev zb (bs : List (List Nat)) : List (List Int) := bs.map zl
theorem zl_pairwise {b : List Nat} (h : b.Pairwise (· < ·)) : (zl b).Pairwise (· < ·) := by
  rw [zl, List.pairwise_map]
  exact h.imp (fun {a b} h => by omega)
theorem parting_gather {w : List α} (h : w.length ≤ 10) : Parting (w.length : Int) (zb (gather w)) where
  lo := by omega
  hi := by omega
  ne := by
    intro b hb
    obtain ⟨c, hc, rfl⟩ := List.mem_map.mp hb
    have := gather_ne hc
    simpa [zl] using this
  rise := by
    intro b hb
    obtain ⟨c, hc, rfl⟩ := List.mem_map.mp hb
    exact zl_pairwise (gather_rise hc)
  firsts := by
    have e : (zb (gather w)).map (fun b => b.headD 0) = zl ((gather w).map fun b => b.headD 0) := by
      simp only [zb, zl, List.map_map]
      apply List.map_congr_left
      intro b hb
      cases b <;> simp
    rw [e]
    exact zl_pairwise (gather_firsts w)
  perm := by
    rw [Int.toNat_natCast]
    have e : (zb (gather w)).flatten = zl (gather w).flatten := by
      simp [zb, zl, List.map_flatten]
    rw [e]
    exact (gather_perm w).map _

/-! ### crossings -/


/-! ### a free word, as the law draws it -/

/-- the place that the law draws in a stack of L -/
def fplace (c : Int) (L : Nat) : Int := if c / 64 % 2 = 1 then max 0 ((L : Int) - 1 - c % ((L : Int) + 1) % 2) else c % ((L : Int) + 1)
theorem fplace_lo (c : Int) (L : Nat) : 0 ≤ fplace c L := by
  unfold fplace
  split
  · omega
  · exact Int.emod_nonneg _ (by omega)
theorem fplace_hi (c : Int) (L : Nat) : fplace c L ≤ L := by
  unfold fplace
  have h1 : 0 ≤ c % ((L : Int) + 1) := Int.emod_nonneg _ (by omega)
  have h2 : c % ((L : Int) + 1) < (L : Int) + 1 := Int.emod_lt_of_pos _ (by omega)
  split <;> omega
def fstep (s : List Nat × List Nat) (c : Int) : List Nat × List Nat :=
  if (fplace c s.1.length).toNat = s.1.length then (s.1 ++ [(marks s.2).length], s.2 ++ [(marks s.2).length])
  else (s.1.take ((fplace c s.1.length).toNat + 1), s.2 ++ [s.1.getD (fplace c s.1.length).toNat 0])
def freeState (cs : List Int) : List Nat × List Nat := cs.foldl fstep ([], [])
def freeWord (cs : List Int) : List Nat := (freeState cs).2
theorem freeState_snoc (cs : List Int) (c : Int) : freeState (cs ++ [c]) = fstep (freeState cs) c := by simp [freeState]
theorem freeState_len (cs : List Int) : (freeState cs).2.length = cs.length ∧ (freeState cs).1.length ≤ cs.length := by
  induction cs using snoc_induction with
  | h0 => simp [freeState]
  | h1 cs c ih =>
    rw [freeState_snoc]
    unfold fstep
    split
    · simp; omega
    · simp; omega
theorem freeWord_length (cs : List Int) : (freeWord cs).length = cs.length := (freeState_len cs).1
/-- the cells that the law reads -/
def cells (script : List Int) (at_ n : Nat) : List Int := (List.range n).map (fun k => script.getD (at_ + k) 0)
theorem cells_length (script : List Int) (at_ n : Nat) : (cells script at_ n).length = n := by simp [cells]
theorem cells_succ (script : List Int) (at_ n : Nat) : cells script at_ (n + 1) = cells script at_ n ++ [script.getD (at_ + n) 0] := by
  simp [cells, List.range_succ]

/-! ### orders -/
end NC

set_option linter.unusedSectionVars false
namespace NC
variable {α β γ : Type} [DecidableEq α] [DecidableEq β] [DecidableEq γ]


/-! ### met -/
/-! ### two labels made one -/
end NC

set_option linter.unusedSectionVars false
namespace NC
theorem rises_iff : ∀ ns : List Int, (∀ i, i < ns.length - 1 → ns.getD i 0 < ns.getD (i + 1) 0) ↔ ns.Pairwise (· < ·)
  | [] => by simp
  | [x] => by simp
  | x :: y :: r => by
    have ih := rises_iff (y :: r)
    constructor
    · intro h
      have h2 : (y :: r).Pairwise (· < ·) := ih.mp fun i hi => by
        have := h (i + 1) (by simp at hi ⊢; omega)
        simpa using this
      have h0 : x < y := by simpa using h 0 (by simp)
      rw [List.pairwise_cons]
      refine ⟨fun z hz => ?_, h2⟩
      rcases List.mem_cons.mp hz with rfl | hz
      · exact h0
      · exact Int.lt_trans h0 ((List.pairwise_cons.mp h2).1 z hz)
    · intro h
      rw [List.pairwise_cons] at h
      have h2 := ih.mpr h.2
      intro i hi
      cases i with
      | zero => simpa using h.1 y (by simp)
      | succ i =>
        have := h2 i (by simp at hi ⊢; omega)
        simpa using this
/-- rising neighbours, as a list of bools -/
theorem rises_all (ns : List Int) : ((List.range (ns.length - 1)).map fun i => decide (ns.getD i 0 < ns.getD (i + 1) 0)).all id = decide (ns.Pairwise (· < ·)) := by
  rw [Bool.eq_iff_iff, decide_eq_true_iff, ← rises_iff, List.all_map, List.all_eq_true]
  simp
/-- a sorted list with the members of 0 .. n - 1 is that -/
theorem sorted_range {ms : List Int} {n : Nat} (h : ms.Pairwise (· ≤ ·)) : ms = (List.range n).map (fun (k : Nat) => (k : Int)) ↔ ms.Perm ((List.range n).map (fun (k : Nat) => (k : Int))) := by
  constructor
  · rintro rfl; exact List.Perm.refl _
  · intro p
    have s2 : ((List.range n).map (fun (k : Nat) => (k : Int))).Pairwise (· ≤ ·) := by
      rw [List.pairwise_map]
      exact List.pairwise_lt_range.imp (fun {a b} h => by omega)
    exact List.Perm.eq_of_pairwise (fun a b _ _ h1 h2 => Int.le_antisymm h1 h2) h s2 p
end NC

set_option linter.unusedSectionVars false
namespace NC
variable {α : Type} [DecidableEq α]
/-! ### orders, set point by point -/
/-! ### the search for a crossing: what has been looked at -/
end NC

set_option linter.unusedSectionVars false
namespace NC
theorem getD_some {v : List Nat} {i : Nat} (h : i < v.length) : v[i]? = some (v.getD i 0) := by
  rw [List.getD_eq_getElem?_getD, List.getElem?_eq_getElem h]; rfl
/-- the word that the law draws freely -/
def anyWord (cs : List Int) : List Nat := cs.map fun c => (c % 4).toNat
theorem anyWord_length (cs : List Int) : (anyWord cs).length = cs.length := by simp [anyWord]
variable {α β : Type} [DecidableEq α] [DecidableEq β]
end NC

set_option linter.unusedSectionVars false
/-! met and joined -/
namespace NC
/-! ### a good parting, as the law looks at it -/
theorem perm_nodup_heads {n : Nat} : ∀ {bs : List (List Int)}, bs.flatten.Perm ((List.range n).map (fun (k : Nat) => (k : Int))) → (∀ b ∈ bs, b ≠ []) → (bs.map fun b => b.headD 0).Nodup := by
  intro bs hp hne
  have nd : bs.flatten.Nodup := by
    rw [hp.nodup_iff, List.nodup_iff_pairwise_ne, List.pairwise_map]
    exact List.pairwise_lt_range.imp (fun {a b} h => by omega)
  clear hp
  induction bs with
  | nil => simp
  | cons b bs ih =>
    rw [List.flatten_cons, List.nodup_append] at nd
    rw [List.map_cons, List.nodup_cons]
    refine ⟨fun hm => ?_, ih (fun c hc => hne c (by simp [hc])) nd.2.1⟩
    obtain ⟨c, hc, e⟩ := List.mem_map.mp hm
    have hb0 : b.headD 0 ∈ b := by
      cases b with
      | nil => exact absurd rfl (hne [] (by simp))
      | cons x r => simp
    have hc0 : c.headD 0 ∈ c := by
      cases c with
      | nil => exact absurd rfl (hne [] (by simp [hc]))
      | cons x r => simp
    exact nd.2.2 _ hb0 _ (List.mem_flatten.mpr ⟨c, hc, hc0⟩) e.symm
theorem good_iff {n : Int} {bs : List (List Int)} : Parting n bs ↔ 0 ≤ n ∧ n ≤ 10 ∧ (∀ b ∈ bs, b ≠ [] ∧ b.Pairwise (· < ·)) ∧ bs.flatten.Perm ((List.range n.toNat).map (fun (k : Nat) => (k : Int))) ∧ (bs.map fun b => b.headD 0).Pairwise (· ≤ ·) := by
  constructor
  · intro h
    exact ⟨h.lo, h.hi, fun b hb => ⟨h.ne b hb, h.rise b hb⟩, h.perm, h.firsts.imp fun {a b} x => by omega⟩
  · rintro ⟨h1, h2, h3, h4, h5⟩
    refine ⟨h1, h2, fun b hb => (h3 b hb).1, fun b hb => (h3 b hb).2, ?_, h4⟩
    have nd := perm_nodup_heads h4 fun b hb => (h3 b hb).1
    rw [List.nodup_iff_pairwise_ne] at nd
    exact (h5.and nd).imp fun {a b} x => by omega
end NC
namespace NC
theorem rising_ext {b ms : List Int} (h1 : b.Pairwise (· < ·)) (h2 : ms.Pairwise (· < ·)) (h : ∀ k, k ∈ ms ↔ k ∈ b) : b = ms := by
  have n1 : b.Nodup := List.nodup_iff_pairwise_ne.mpr (h1.imp fun {a b} x => by omega)
  have n2 : ms.Nodup := List.nodup_iff_pairwise_ne.mpr (h2.imp fun {a b} x => by omega)
  have p : b.Perm ms := (List.perm_ext_iff_of_nodup n1 n2).mpr fun k => (h k).symm
  exact List.Perm.eq_of_pairwise (fun a b _ _ h1 h2 => by omega) h1 h2 p
theorem len_le_flat : ∀ {bs : List (List Int)}, (∀ b ∈ bs, b ≠ []) → bs.length ≤ bs.flatten.length
  | [], _ => Nat.zero_le _
  | b :: bs, h => by
    have h1 := len_le_flat (bs := bs) fun c hc => h c (by simp [hc])
    have h2 : 0 < b.length := List.length_pos_iff.mpr (h b (by simp))
    rw [List.flatten_cons, List.length_append, List.length_cons]
    omega
theorem sorted_self {ns ms : List Int} (hp : ms.Perm ns) (hs : ms.Pairwise (· ≤ ·)) : ns = ms ↔ ns.Pairwise (· ≤ ·) := by
  constructor
  · rintro rfl; exact hs
  · intro h
    exact List.Perm.eq_of_pairwise (fun a b _ _ h1 h2 => Int.le_antisymm h1 h2) h hs hp.symm
end NC

set_option linter.unusedSectionVars false
/-! all free words, as the law goes through them -/
namespace NC
end NC

set_option linter.all false
set_option maxRecDepth 100000
/-! COUNTS: the table of endings, choices, how many of so many blocks -/
namespace NC
end NC

set_option linter.all false
set_option maxRecDepth 100000
/-! NUMBERS: choices point by point, their rank, the words that they make -/
namespace NC
/-! ### the words -/
/-! ### the rank of a word, as it is computed -/
/-! ### labels by first points -/
/-! ### words in order -/
end NC

set_option linter.all false
set_option maxRecDepth 100000
/-! NOTES: texts of partings, cut at strokes, read -/
namespace NC
abbrev dg (p : Nat) : Nat := 48 + p
/-- the codes of a parting's text -/
def tl : List (List Nat) → List Nat
  | [] => []
  | [b] => b.map dg
  | b :: c :: r => b.map dg ++ 124 :: tl (c :: r)
theorem tl_snoc : ∀ {bs : List (List Nat)} (b : List Nat), bs ≠ [] → tl (bs ++ [b]) = tl bs ++ 124 :: b.map dg
  | [], _, h => absurd rfl h
  | [a], b, _ => rfl
  | a :: c :: r, b, _ => by
    show a.map dg ++ 124 :: tl ((c :: r) ++ [b]) = (a.map dg ++ 124 :: tl (c :: r)) ++ 124 :: b.map dg
    rw [tl_snoc b (by simp)]
    simp
theorem tl_ne {bs : List (List Nat)} (h : bs ≠ []) (hb : ∀ b ∈ bs, b ≠ []) : tl bs ≠ [] := by
  match bs, h with
  | [b], _ =>
    have := hb b (by simp)
    simpa [tl] using this
  | b :: c :: r, _ => simp [tl]
theorem tl_len : ∀ bs : List (List Nat), (tl bs).length ≤ bs.flatten.length + bs.length
  | [] => by simp [tl]
  | [b] => by simp [tl]
  | b :: c :: r => by
    have := tl_len (c :: r)
    simp only [tl, List.length_append, List.length_cons, List.length_map, List.flatten_cons] at this ⊢
    omega
/-- cut at the strokes -/
def spl : List Nat → List (List Nat)
  | [] => [[]]
  | c :: r => if c = 124 then [] :: spl r else
    match spl r with
    | [] => [[c]]
    | p :: ps => (c :: p) :: ps
theorem spl_ne : ∀ l : List Nat, spl l ≠ []
  | [] => by simp [spl]
  | c :: r => by
    unfold spl
    split
    · simp
    · split <;> simp
theorem spl_free {p : List Nat} (h : 124 ∉ p) : spl p = [p] := by
  induction p with
  | nil => rfl
  | cons c r ih =>
    have h1 : c ≠ 124 := fun z => h (by simp [z])
    have h2 : 124 ∉ r := fun z => h (by simp [z])
    unfold spl
    rw [if_neg h1, ih h2]
theorem spl_app {p : List Nat} (h : 124 ∉ p) (r : List Nat) : spl (p ++ 124 :: r) = p :: spl r := by
  induction p with
  | nil => simp [spl]
  | cons c p ih =>
    have h1 : c ≠ 124 := fun z => h (by simp [z])
    have h2 : 124 ∉ p := fun z => h (by simp [z])
    show spl (c :: (p ++ 124 :: r)) = _
    rw [spl, if_neg h1, ih h2]
/-- parts put together with strokes -/
def jn : List (List Nat) → List Nat
  | [] => []
  | [p] => p
  | p :: q :: r => p ++ 124 :: jn (q :: r)
theorem spl_jn : ∀ {ps : List (List Nat)}, ps ≠ [] → (∀ p ∈ ps, 124 ∉ p) → spl (jn ps) = ps
  | [], h, _ => absurd rfl h
  | [p], _, h => spl_free (h p (by simp))
  | p :: q :: r, _, h => by
    show spl (p ++ 124 :: jn (q :: r)) = _
    rw [spl_app (h p (by simp)), spl_jn (by simp) fun x hx => h x (by simp [hx])]
/-- a figure, or -1 -/
def fd (c : Nat) : Int := if 48 ≤ c ∧ c < 58 then (c : Int) - 48 else -1
/-- the blocks that are read -/
def rd (l : List Nat) : List (List Int) := if l = [] then [] else (spl l).map fun p => p.map fd
theorem spl_len : ∀ l : List Nat, ((spl l).flatten).length + (spl l).length = l.length + 1
  | [] => rfl
  | c :: r => by
    have ih := spl_len r
    unfold spl
    split
    · simp only [List.flatten_cons, List.length_append, List.length_cons, List.length_nil]
      omega
    · have hne := spl_ne r
      split
      · rename_i e; exact absurd e hne
      · rename_i p ps e
        rw [e] at ih
        simp only [List.flatten_cons, List.length_append, List.length_cons] at ih ⊢
        omega
theorem rd_len (l : List Nat) : (rd l).flatten.length ≤ l.length ∧ (rd l).length ≤ l.length + 1 := by
  unfold rd
  split
  · simp
  · have h := spl_len l
    have hne := List.length_pos_iff.mpr (spl_ne l)
    have e : ((spl l).map fun p => p.map fd).flatten.length = (spl l).flatten.length := by
      have : ((spl l).map fun p => p.map fd).flatten = (spl l).flatten.map fd := by rw [List.map_flatten]
      rw [this, List.length_map]
    rw [e, List.length_map]
    omega
end NC

set_option linter.all false
set_option maxRecDepth 100000
/-! NOTES: a text read sign by sign -/
namespace NC
theorem spl_snoc_bar : ∀ l : List Nat, spl (l ++ [124]) = spl l ++ [[]]
  | [] => rfl
  | c :: r => by
    show spl (c :: (r ++ [124])) = _
    by_cases h : c = 124
    · rw [spl, if_pos h, spl_snoc_bar r]
      conv => rhs; rw [spl, if_pos h]
      rfl
    · rw [spl, if_neg h, spl_snoc_bar r]
      conv => rhs; rw [spl, if_neg h]
      have hne := spl_ne r
      cases e : spl r with
      | nil => exact absurd e hne
      | cons p ps => rfl
theorem spl_snoc : ∀ (l : List Nat) (c : Nat), c ≠ 124 → spl (l ++ [c]) = (spl l).set ((spl l).length - 1) ((spl l).getD ((spl l).length - 1) [] ++ [c])
  | [], c, h => by
    show spl [c] = _
    rw [spl_free (p := [c]) (fun z => h (List.mem_singleton.mp z).symm)]
    rfl
  | d :: r, c, h => by
    show spl (d :: (r ++ [c])) = _
    have ih := spl_snoc r c h
    have hne := spl_ne r
    by_cases hd : d = 124
    · rw [spl, if_pos hd, ih]
      conv => rhs; rw [spl, if_pos hd]
      have hl := List.length_pos_iff.mpr hne
      obtain ⟨k, hk⟩ : ∃ k, (spl r).length = k + 1 := ⟨(spl r).length - 1, by omega⟩
      rw [List.length_cons, Nat.add_sub_cancel, hk, Nat.add_sub_cancel]
      simp
    · rw [spl, if_neg hd, ih]
      conv => rhs; rw [spl, if_neg hd]
      cases e : spl r with
      | nil => exact absurd e hne
      | cons p ps =>
        cases ps with
        | nil => rfl
        | cons q ps => simp
theorem spl_mem_of {c : Nat} (h : c ≠ 124) : ∀ {x : List Nat}, c ∈ x → ∃ p ∈ spl x, c ∈ p
  | d :: r, hc => by
    unfold spl
    rcases List.mem_cons.mp hc with rfl | hc
    · rw [if_neg h]
      have hne := spl_ne r
      cases e : spl r with
      | nil => exact absurd e hne
      | cons p ps => exact ⟨c :: p, by simp, by simp⟩
    · obtain ⟨p, hp, hcp⟩ := spl_mem_of h hc
      split
      · exact ⟨p, by simp [hp], hcp⟩
      · cases e : spl r with
        | nil => rw [e] at hp; cases hp
        | cons q ps =>
          rw [e] at hp
          rcases List.mem_cons.mp hp with rfl | hp
          · exact ⟨d :: p, by simp, by simp [hcp]⟩
          · exact ⟨p, by simp [hp], hcp⟩
theorem bad_sign {x : List Nat} {c : Nat} {n : Int} (hc : c ∈ x) (h1 : c ≠ 124) (h2 : ¬ (48 ≤ c ∧ c < 58)) : ¬ Parting n (rd x) := by
  intro hP
  have hx : x ≠ [] := fun z => by rw [z] at hc; cases hc
  obtain ⟨p, hp, hcp⟩ := spl_mem_of h1 hc
  have hm : (-1 : Int) ∈ (rd x).flatten := by
    unfold rd
    rw [if_neg hx, List.mem_flatten]
    refine ⟨p.map fd, List.mem_map.mpr ⟨p, hp, rfl⟩, List.mem_map.mpr ⟨c, hcp, ?_⟩⟩
    unfold fd
    rw [if_neg h2]
  have := hP.perm.mem_iff.mp hm
  obtain ⟨k, _, e⟩ := List.mem_map.mp this
  omega
/-- the blocks so far -/
def rds (l : List Nat) : List (List Int) := (spl l).map fun p => p.map fd
theorem rds_bar (l : List Nat) : rds (l ++ [124]) = rds l ++ [[]] := by
  unfold rds
  rw [spl_snoc_bar, List.map_append]
  rfl
theorem rds_snoc (l : List Nat) {c : Nat} (h : c ≠ 124) : rds (l ++ [c]) = (rds l).set ((rds l).length - 1) ((rds l).getD ((rds l).length - 1) [] ++ [fd c]) := by
  unfold rds
  rw [spl_snoc l c h, List.map_set, List.length_map]
  congr 1
  rw [List.map_append]
  congr 1
  have hl := List.length_pos_iff.mpr (spl_ne l)
  rw [List.getD_eq_getElem?_getD, List.getD_eq_getElem?_getD, List.getElem?_map, List.getElem?_eq_getElem (show (spl l).length - 1 < (spl l).length by omega)]
  rfl
theorem rds_len (l : List Nat) : (rds l).flatten.length + (rds l).length = l.length + 1 := by
  have h := spl_len l
  unfold rds
  have e : ((spl l).map fun p => p.map fd).flatten = (spl l).flatten.map fd := by rw [List.map_flatten]
  rw [e, List.length_map, List.length_map]
  exact h
theorem rds_rd {x : List Nat} (h : x ≠ []) : rds x = rd x := by
  unfold rds rd
  rw [if_neg h]
theorem rds_bar_flat (l : List Nat) : (rds (l ++ [124])).flatten.length = (rds l).flatten.length := by
  rw [rds_bar, List.flatten_append]
  simp
theorem rds_snoc_flat (l : List Nat) {c : Nat} (h : c ≠ 124) : (rds (l ++ [c])).flatten.length = (rds l).flatten.length + 1 := by
  have h1 := rds_len (l ++ [c])
  have h2 := rds_len l
  have h3 : (rds (l ++ [c])).length = (rds l).length := by rw [rds_snoc l h, List.length_set]
  rw [List.length_append, List.length_singleton] at h1
  omega
end NC

set_option Elab.async false
set_option linter.all false
set_option maxRecDepth 100000
set_option maxHeartbeats 4000000
/-! MORE RULES over the layer: enumerate, zip, list comprehensions. -/
namespace L2
open PySem PySem.Spec PyProof.Rows

section
variable {X : Cx} {pins : List (Addr × Obj)} {σ : List (Option V)} {H : Hp} {s : Shared} {h' : Heap}
/-- a new object is laid and tracked, while the records at ch turned -/
theorem Inv.laidCh {a : Addr} {o : HO} {t' : Nat} {ch : List Addr} (I : Inv X pins σ H s) (hch : ∀ b ∈ ch, FpOk X pins H b)
    (k : ∀ b u, b ∉ ch → s.heap.get? b = some u → h'.get? b = some u) (hp : s.heap.objs.size ≤ a) (new : ObjOk X.prog X.w (upd H a o) h' a o) :
    Inv X pins σ (upd H a o) { s with heap := h', toks := t' } := by
  have hn : H a = none := I.hok.fresh hp
  refine I.step (g' := s.gens) (d' := s.drawn) (ch := ch) (fun b hb => ?_) (fun b u _ _ hc e _ => k b u hc e) (fun b u _ _ hc e _ => ⟨u.slots, k b u hc e⟩) (fun b u hc e n => ?_)
    (fun b u hc e => ⟨u, k b u hc e⟩) (fun b xs e => ?_) (fun b u v e => ?_) (fun b ps e => ?_) (fun m hm => ?_) ?_ I.bare
  · obtain ⟨f0, f1, f2, f3, f4, f5⟩ := hch b hb
    exact ⟨f3, f1, f4, f5⟩
  · rw [upd_ne (Nat.ne_of_lt (Nat.lt_of_lt_of_le (Heap.lt_size e) hp))]; exact n
  · rw [upd_ne (ne_of_none e hn)]; exact e
  · rw [upd_ne (ne_of_none e hn)]; exact e
  · exact ⟨#[], by rw [upd_ne (ne_of_none e hn), e]; simp⟩
  · obtain ⟨ob, es, ep, ho, r⟩ := hm
    exact ⟨ob, es, ep, k _ _ (fun z => (hch _ z).2.1 rfl) ho, r⟩
  · intro b u e
    by_cases hb : b = a
    · subst hb; rw [upd_same] at e; cases e; exact new
    · rw [upd_ne hb] at e
      refine (I.hok b u e).stay (fun c v hc q => k c v ?_ q) (fun c q => by rw [upd_ne (ne_of_none q hn)]; exact q) fun c xs q => by rw [upd_ne (ne_of_none q hn)]; exact q
      intro z
      have hz := (hch c z).1
      rcases hc with rfl | hc
      · rw [hz] at e; cases e
      · rw [hz] at hc; cases hc
/-- records at ch turned, nothing else -/
theorem Inv.turnedCh {t' : Nat} {ch : List Addr} (I : Inv X pins σ H s) (hch : ∀ b ∈ ch, FpOk X pins H b)
    (k : ∀ b u, b ∉ ch → s.heap.get? b = some u → h'.get? b = some u) : Inv X pins σ H { s with heap := h', toks := t' } := by
  refine I.step (g' := s.gens) (d' := s.drawn) (ch := ch) (fun b hb => ?_) (fun b u _ _ hc e _ => k b u hc e) (fun b u _ _ hc e _ => ⟨u.slots, k b u hc e⟩) (fun b u hc e n => n)
    (fun b u hc e => ⟨u, k b u hc e⟩) (fun b xs e => e) (fun b u v e => e) (fun b ps e => ⟨#[], by rw [e]; simp⟩) (fun m hm => ?_) ?_ I.bare
  · obtain ⟨f0, f1, f2, f3, f4, f5⟩ := hch b hb
    exact ⟨f3, f1, f4, f5⟩
  · obtain ⟨ob, es, ep, ho, r⟩ := hm
    exact ⟨ob, es, ep, k _ _ (fun z => (hch _ z).2.1 rfl) ho, r⟩
  · intro b u e
    refine (I.hok b u e).stay (fun c v hc q => k c v ?_ q) (fun c q => q) fun c xs q => q
    intro z
    have hz := (hch c z).1
    rcases hc with rfl | hc
    · rw [hz] at e; cases e
    · rw [hz] at hc; cases hc
theorem objOk_pair {P : Program} {w : World} {h : Heap} {a : Addr} {x y : V} {u v : Value} (rx : RelV x u) (ry : RelV y v) (e : h.get? a = some { cls := .type "tuple", data := .seq #[u, v] }) : ObjOk P w H h a (.tup [x, y]) := by
  refine ⟨by show 2 ≤ sizeLine; decide, [u, v], .cons rx (.cons ry .nil), _, e, rfl, _, rfl⟩
end

/-! ### enumerate over a list -/
def Ite (K : PySem.W.Frag) (a : Addr) : It :=
  ⟨fun i H => ∃ xs x, SqL K H a xs ∧ xs[i]? = some x, fun i H v H' => ∃ t x, v = .ref t ∧ H t = none ∧ H' = upd H t (.tup [.int i, x]) ∧ ∀ xs, SqL K H a xs → xs[i]? = some x, fun i H => ∃ xs, SqL K H a xs ∧ xs.length ≤ i⟩
theorem turn_enum {P : Program} {w : World} {K : PySem.W.Frag} {elts : List Expr} {k : Nat} {tpos : Pos} (a e it : Addr) (hne : e ≠ it) :
    Turn P w K (.Tuple elts k tpos) (Ite K a) [e, it] e (fun i h => (∃ old, IsEnum h e it i old) ∧ h.IsListIter it a i) where
  mem := by simp
  obj := fun i h st b hb => by
    obtain ⟨⟨old, he⟩, o, ho, c, d⟩ := st
    rcases List.mem_cons.mp hb with rfl | hb
    · exact ⟨_, he, fun v z => by cases z⟩
    · rw [List.mem_singleton.mp hb]
      exact ⟨o, ho, fun v z => by rw [d] at z; cases z⟩
  keep := fun i h h' st k => by
    obtain ⟨⟨old, he⟩, hit⟩ := st
    exact ⟨⟨old, k e (by simp) _ he⟩, hit.at fun o q => k it (by simp) o q⟩
  item := by
    intro X hP hw hK hc i pins s σ H E I hf st hg
    subst hP hw hK
    obtain ⟨⟨old, he⟩, hit⟩ := st
    obtain ⟨xs, x, hq, hx⟩ := hg
    obtain ⟨its, rv, p, hz⟩ := I.list hq
    obtain ⟨u, hu, ru⟩ := rv.get hx
    have heH : e < s.heap.objs.size := Heap.lt_size he
    refine wpAny_pyNext_enum_item he hit p.isList (x := u) (by simpa using hu) hne fun h1 heo hit1 ht1 hz1 hk1 => ?_
    refine ⟨_, rfl, wpAny_letOwnedTupleGo_enum heo fun h2 he2 hs2 => ?_⟩
    replace hs2 : Heap.SameBut e h1 h2 := hs2
    have kk : ∀ b o, b ∉ [e, it] → s.heap.get? b = some o → h2.get? b = some o := fun b o hb q => by
      have hb1 : b ≠ e := fun z => hb (by simp [z])
      have hb2 : b ≠ it := fun z => hb (by simp [z])
      exact (hs2.2 b hb1).trans (hk1 b o hb1 hb2 q)
    have new : h2.get? s.heap.objs.size = some { cls := .type "tuple", data := .seq #[.int i s.toks, u] } := (hs2.2 _ (Nat.ne_of_gt heH)).trans ht1
    have I1 := I.laidCh (h' := h2) (a := s.heap.objs.size) (o := .tup [.int i, x]) (t' := s.toks + 1) hf kk (Nat.le_refl _) (objOk_pair ⟨_, rfl⟩ ru new)
    refine ⟨.ref s.heap.objs.size, _, I1, rfl, ⟨_, x, rfl, I.hok.fresh (Nat.le_refl _), rfl, fun ys hy => by rw [I.list_inj hy hq]; exact hx⟩, ⟨⟨u, by simpa using he2⟩, hit1.at fun o q => (hs2.2 it (Ne.symm hne)).trans q⟩, fun b hb => ?_⟩
    have hb0 : b < s.heap.objs.size := by
      rcases List.mem_cons.mp hb with z | z
      · rw [z]; exact heH
      · rw [List.mem_singleton.mp z]; obtain ⟨o, ho, _⟩ := hit; exact Heap.lt_size ho
    rw [upd_ne (Nat.ne_of_lt hb0)]
    exact (hf b hb).1
  done := by
    intro X hP hw hK hc i pins s σ H E I hf st hg
    subst hP hw hK
    obtain ⟨⟨old, he⟩, hit⟩ := st
    obtain ⟨xs, hq, hx⟩ := hg
    obtain ⟨its, rv, p, hz⟩ := I.list hq
    have hl := rv.length
    exact wpAny_pyNext_enum_end (I.ok.hd hc) he hit p.isList (by simp; omega) fun h' eb => ⟨rfl, I.turnedCh (t' := s.toks) hf fun b o hb q => eb b o (fun z => hb (by simp [z])) q⟩
  self := fun _ _ _ _ _ st h => by
    obtain ⟨⟨old, he⟩, _⟩ := st
    exact wpAny_pyIter_enum he h
/-! ### zip over two lists -/
def Itz (K : PySem.W.Frag) (a b : Addr) : It :=
  ⟨fun i H => ∃ xs ys x y, SqL K H a xs ∧ SqL K H b ys ∧ xs[i]? = some x ∧ ys[i]? = some y, fun i H v H' => ∃ t x y, v = .ref t ∧ H t = none ∧ H' = upd H t (.tup [x, y]) ∧ ∀ xs ys, SqL K H a xs → SqL K H b ys → xs[i]? = some x ∧ ys[i]? = some y,
    fun i H => ∃ xs ys, SqL K H a xs ∧ SqL K H b ys ∧ (xs.length ≤ i ∨ ys.length ≤ i)⟩
structure ZA (z TI TO i1 i2 : Addr) : Prop where
  TIz : TI ≠ z
  TOz : TO ≠ z
  i1z : i1 ≠ z
  i2z : i2 ≠ z
  TITO : TI ≠ TO
  TIi1 : TI ≠ i1
  TIi2 : TI ≠ i2
  TOi1 : TO ≠ i1
  TOi2 : TO ≠ i2
  i12 : i1 ≠ i2
theorem za_new (n : Nat) : ZA (n + 4) (n + 2) (n + 3) n (n + 1) := ⟨(show (n + 2 : Nat) ≠ n + 4 by omega), (show (n + 3 : Nat) ≠ n + 4 by omega), (show (n : Nat) ≠ n + 4 by omega), (show (n + 1 : Nat) ≠ n + 4 by omega), (show (n + 2 : Nat) ≠ n + 3 by omega), (show (n + 2 : Nat) ≠ n by omega), (show (n + 2 : Nat) ≠ n + 1 by omega), (show (n + 3 : Nat) ≠ n by omega), (show (n + 3 : Nat) ≠ n + 1 by omega), (show (n : Nat) ≠ n + 1 by omega)⟩
def ZipSt (z TI TO i1 i2 a b : Addr) (i : Nat) (h : Heap) : Prop :=
  IsZip h z TI TO .none ∧ IsPair h TI (.ref i1) (.ref i2) ∧ (∃ u v, IsPair h TO u v) ∧ h.IsListIter i1 a i ∧ h.IsListIter i2 b i
theorem zipApart_of {h : Heap} {z TI TO i1 i2 a b : Addr} {i : Nat} {its its2 : Array Value} (D : ZA z TI TO i1 i2) (st : ZipSt z TI TO i1 i2 a b i h) (p : PlainL h a its) (q : PlainL h b its2) : ZipApart z TI TO i1 i2 a b := by
  obtain ⟨hz, hTI, ⟨u, v, hTO⟩, ⟨o1, ho1, c1, _⟩, ⟨o2, ho2, c2, _⟩⟩ := st
  obtain ⟨oa, na, ea, ca, _⟩ := p
  obtain ⟨ob, nb, eb, cb, _⟩ := q
  refine ⟨D.TIz, D.TOz, D.i1z, D.i2z, D.TITO, D.TIi1, D.TIi2, D.TOi1, D.TOi2, D.i12, ?_, ?_, ?_, ?_, ?_, ?_, ?_, ?_⟩
  · rintro rfl; rw [hz] at ea; cases ea; simp at ca
  · rintro rfl; rw [hTO] at ea; cases ea; simp at ca
  · rintro rfl; rw [ho1] at ea; cases ea; rw [c1] at ca; simp at ca
  · rintro rfl; rw [ho2] at ea; cases ea; rw [c2] at ca; simp at ca
  · rintro rfl; rw [hz] at eb; cases eb; simp at cb
  · rintro rfl; rw [hTO] at eb; cases eb; simp at cb
  · rintro rfl; rw [ho1] at eb; cases eb; rw [c1] at cb; simp at cb
  · rintro rfl; rw [ho2] at eb; cases eb; rw [c2] at cb; simp at cb
theorem turn_zip {P : Program} {w : World} {K : PySem.W.Frag} {elts : List Expr} {k : Nat} {tpos : Pos} (a b z TI TO i1 i2 : Addr) (D : ZA z TI TO i1 i2) :
    Turn P w K (.Tuple elts k tpos) (Itz K a b) [z, TI, TO, i1, i2] z (ZipSt z TI TO i1 i2 a b) where
  mem := by simp
  obj := fun i h st c hc => by
    obtain ⟨hz, hTI, ⟨u, v, hTO⟩, ⟨o1, ho1, c1, d1⟩, ⟨o2, ho2, c2, d2⟩⟩ := st
    simp at hc
    rcases hc with rfl | rfl | rfl | rfl | rfl
    · exact ⟨_, hz, fun v z => by cases z⟩
    · exact ⟨_, hTI, fun v z => by cases z⟩
    · exact ⟨_, hTO, fun v z => by cases z⟩
    · exact ⟨_, ho1, fun v z => by rw [d1] at z; cases z⟩
    · exact ⟨_, ho2, fun v z => by rw [d2] at z; cases z⟩
  keep := fun i h h' st k => by
    obtain ⟨hz, hTI, ⟨u, v, hTO⟩, h1, h2⟩ := st
    exact ⟨k z (by simp) _ hz, k TI (by simp) _ hTI, ⟨u, v, k TO (by simp) _ hTO⟩, h1.at fun o q => k i1 (by simp) o q, h2.at fun o q => k i2 (by simp) o q⟩
  item := by
    intro X hP hw hK hc i pins s σ H E I hf st hg
    subst hP hw hK
    obtain ⟨xs, ys, x, y, hqa, hqb, hx, hy⟩ := hg
    obtain ⟨its, rv, p, hz⟩ := I.list hqa
    obtain ⟨its2, rv2, p2, hz2⟩ := I.list hqb
    obtain ⟨u, hu, ru⟩ := rv.get hx
    obtain ⟨v, hv, rw'⟩ := rv2.get hy
    have ZD := zipApart_of D st p p2
    obtain ⟨hzz, hTI, ⟨u0, v0, hTO⟩, h1, h2⟩ := id st
    have hlz : z < s.heap.objs.size := Heap.lt_size hzz
    refine wpAny_pyNext_zip_item ZD hzz hTI hTO h1 h2 p.isList p2.isList (x := u) (y := v) (by simpa using hu) (by simpa using hv) fun h3 a1 a2 a3 a4 a5 a6 hk => ?_
    refine ⟨_, rfl, wpAny_letOwnedTupleGo_zip a1 fun h4 hz4 hs4 => ?_⟩
    replace hs4 : Heap.SameBut z h3 h4 := hs4
    have kk : ∀ c o, c ∉ [z, TI, TO, i1, i2] → s.heap.get? c = some o → h4.get? c = some o := fun c o hb q => by
      have e1 : c ≠ z := fun e => hb (by simp [e])
      have e2 : c ≠ TO := fun e => hb (by simp [e])
      have e3 : c ≠ i1 := fun e => hb (by simp [e])
      have e4 : c ≠ i2 := fun e => hb (by simp [e])
      exact (hs4.2 c e1).trans (hk c o e1 e2 e3 e4 q)
    have new : h4.get? s.heap.objs.size = some { cls := .type "tuple", data := .seq #[u, v] } := (hs4.2 _ (Nat.ne_of_gt hlz)).trans a5
    have I1 := I.laidCh (h' := h4) (a := s.heap.objs.size) (o := .tup [x, y]) (t' := s.toks) hf kk (Nat.le_refl _) (objOk_pair ru rw' new)
    refine ⟨.ref s.heap.objs.size, _, I1, rfl, ⟨_, x, y, rfl, I.hok.fresh (Nat.le_refl _), rfl, fun xs' ys' q1 q2 => by rw [I.list_inj q1 hqa, I.list_inj q2 hqb]; exact ⟨hx, hy⟩⟩, ?_, fun c hb => ?_⟩
    · exact ⟨hz4, (hs4.2 _ D.TIz).trans (hk _ _ D.TIz D.TITO D.TIi1 D.TIi2 hTI), ⟨u, v, (hs4.2 _ D.TOz).trans a2⟩, a3.at fun o q => (hs4.2 _ D.i1z).trans q, a4.at fun o q => (hs4.2 _ D.i2z).trans q⟩
    · have hb0 : c < s.heap.objs.size := by
        simp at hb
        rcases hb with rfl | rfl | rfl | rfl | rfl
        · exact hlz
        · exact Heap.lt_size hTI
        · exact Heap.lt_size hTO
        · obtain ⟨o, ho, _⟩ := h1; exact Heap.lt_size ho
        · obtain ⟨o, ho, _⟩ := h2; exact Heap.lt_size ho
      rw [upd_ne (Nat.ne_of_lt hb0)]
      exact (hf c hb).1
  done := by
    intro X hP hw hK hc i pins s σ H E I hf st hg
    subst hP hw hK
    obtain ⟨xs, ys, hqa, hqb, hx⟩ := hg
    obtain ⟨its, rv, p, hz⟩ := I.list hqa
    obtain ⟨its2, rv2, p2, hz2⟩ := I.list hqb
    have hl := rv.length
    have hl2 := rv2.length
    have ZD := zipApart_of D st p p2
    obtain ⟨hzz, hTI, ⟨u0, v0, hTO⟩, h1, h2⟩ := id st
    refine wpAny_pyNext_zip_end (I.ok.hd hc) ZD hzz hTI hTO h1 h2 p.isList p2.isList ?_ fun h' hk => ⟨rfl, I.turnedCh (t' := s.toks) hf fun c o hb q => ?_⟩
    · rcases hx with hx | hx
      · exact .inl (by simp; omega)
      · exact .inr (by simp; omega)
    · exact hk c o (fun e => hb (by simp [e])) (fun e => hb (by simp [e])) (fun e => hb (by simp [e])) (fun e => hb (by simp [e])) q
  self := fun _ _ _ _ _ st h => wpAny_pyIter_zip st.1 h

section
variable {X : Cx} {elts : List Expr} {k : Nat} {tpos : Pos}
def iEnum (K : PySem.W.Frag) (ta : TA) : TI := fun σ H R => ta σ H fun vs H1 => ∃ a, vs = [.ref a] ∧ (∃ xs, SqL K H1 a xs) ∧ R (Ite K a) H1
def iZip (K : PySem.W.Frag) (ta : TA) : TI := fun σ H R => ta σ H fun vs H1 => ∃ a b, vs = [.ref a, .ref b] ∧ (∃ xs, SqL K H1 a xs) ∧ (∃ ys, SqL K H1 b ys) ∧ R (Itz K a b) H1
theorem pi_enum {a : Expr} {ta : TA} {p pos : Pos} (hg : Gl X "enumerate") (hm : X.mg "enumerate" = none) (ha : PA X [a] ta) (hs : starEach [a] X.env = [(false, eval a X.env)] := by rfl) :
    PI X (.Tuple elts k tpos) (.Call (.Name "enumerate" p) [a] [] pos) (iEnum X.K ta) := by
  intro pins s σ H R I h
  refine Call_ (ld_blt I hg hm boot_enumerate (PyProof.Rows.callWith_type1 (thn (ha pos pins s σ H _ I h) fun us s1 ⟨vs, H1, I1, r1, q1⟩ => ?_) hs rfl))
  obtain ⟨l, rfl, ⟨xs, hq⟩, q⟩ := q1
  obtain ⟨u, rfl, ru⟩ := vals1 r1
  cases ru
  obtain ⟨its, rv, pl, hz⟩ := I1.list hq
  refine call_enumerate_list pl.isList fun h1 he hit hsz hk => ?_
  have I2 : Inv X pins σ H1 { s1 with heap := h1 } := I1.kept (t' := s1.toks) hk
  refine wpAny_pyIter_enum he ⟨s1.heap.objs.size + 1, [s1.heap.objs.size + 1, s1.heap.objs.size], _, _, H1, rfl, I2, turn_enum l (s1.heap.objs.size + 1) s1.heap.objs.size (Nat.succ_ne_self _), ⟨⟨_, he⟩, hit⟩, fun b hb => ?_, q⟩
  have hle : s1.heap.objs.size ≤ b := by
    simp at hb
    rcases hb with rfl | rfl <;> omega
  exact I1.fpOk hle (I1.hok.fresh hle)
theorem pi_zip {a b : Expr} {ta : TA} {p pos : Pos} (hg : Gl X "zip") (hm : X.mg "zip" = none) (ha : PA X [a, b] ta) (hs : starEach [a, b] X.env = [(false, eval a X.env), (false, eval b X.env)] := by rfl) (hs2 : starEach [b] X.env = [(false, eval b X.env)] := by rfl) :
    PI X (.Tuple elts k tpos) (.Call (.Name "zip" p) [a, b] [] pos) (iZip X.K ta) := by
  intro pins s σ H R I h
  refine Call_ (ld_blt I hg hm boot_zip (PyProof.Rows.callWith_type1 (thn (ha pos pins s σ H _ I h) fun us s1 ⟨vs, H1, I1, r1, q1⟩ => ?_) (by rw [hs, hs2]) (by rw [hs2]; rfl)))
  obtain ⟨l1, l2, rfl, ⟨xs, hq⟩, ⟨ys, hq2⟩, q⟩ := q1
  obtain ⟨u, v, rfl, ru, rv'⟩ := vals2 r1
  cases ru
  cases rv'
  obtain ⟨its, rv, pl, hz⟩ := I1.list hq
  obtain ⟨its2, rv2, pl2, hz2⟩ := I1.list hq2
  refine call_zip_2 pl.isList pl2.isList fun h1 hz1 hTI hTO hi1 hi2 hsz hk => ?_
  have I2 : Inv X pins σ H1 { s1 with heap := h1 } := I1.kept (t' := s1.toks) hk
  refine wpAny_pyIter_zip hz1 ⟨s1.heap.objs.size + 4, [s1.heap.objs.size + 4, s1.heap.objs.size + 2, s1.heap.objs.size + 3, s1.heap.objs.size, s1.heap.objs.size + 1], _, _, H1, rfl, I2,
    turn_zip l1 l2 (s1.heap.objs.size + 4) (s1.heap.objs.size + 2) (s1.heap.objs.size + 3) s1.heap.objs.size (s1.heap.objs.size + 1) (za_new _), ⟨hz1, hTI, ⟨_, _, hTO⟩, hi1, hi2⟩, fun c hb => ?_, q⟩
  have hle : s1.heap.objs.size ≤ c := by
    simp at hb
    rcases hb with rfl | rfl | rfl | rfl | rfl <;> omega
  exact I1.fpOk hle (I1.hok.fresh hle)
end

/-! ### list comprehensions -/
section
variable {prog : Program} {w : World} {A : Around} {R : Result → Shared → Prop} {s : Shared}
theorem compLoop_gen {elt target iter : Expr} {scope : Scope} {pos : Pos} {it acc : Value} {env : Env} (I : Nat → Shared → Prop)
    (turn : ∀ n s, I n s → wpAny (model prog w) A (pyNext it) (fun r s₁ => match r with
      | none => R (.ok .next) s₁
      | some v => wpAny (model prog w) A (letOwnedTupleGo target it v) (fun _ s₀ => wpAny (model prog w) A (assign target env v) (fun _ s₂ => wpAny (model prog w) A (eval elt env) (fun x s₃ =>
          wpAny (model prog w) A (call (.builtin "list.append") [acc, x]) (fun _ s₄ => ∃ m, m < n ∧ I m s₄) (notedBy (model prog w) A env fun e s' => R (.error e) s') s₃)
          (notedBy (model prog w) A env fun e s' => R (.error e) s') s₂) (notedBy (model prog w) A env fun e s' => R (.error e) s') s₀) (notedBy (model prog w) A env fun e s' => R (.error e) s') s₁) (notedBy (model prog w) A env fun e s' => R (.error e) s') s)
    (n : Nat) (h : I n s) :
    codeAny (model prog w) A (.compLoop (.ListComp elt [⟨target, iter, [], 0⟩] scope pos) 0 it acc env) R s := by
  refine codeAny_loop rfl I (fun n s hI => ?_) n h
  show wpAny _ _ ((compTurn (.ListComp elt [⟨target, iter, [], 0⟩] scope pos) 0 it acc env).onRaise (fun x => do noteFrame x env; theTreesLotGoes x)) _ _ s
  refine wpAny_noted ?_
  rw [compTurn_list1]
  refine wpAny_bind (wpAny_standAt (wpAny_bind (wpAny_mono (turn n s hI) (fun r s₁ h₁ => ?_) fun _ _ h' => h')))
  cases r with
  | none => exact wpAny_pure h₁
  | some v =>
    exact wpAny_bind (wpAny_mono h₁ (fun _ s₀ h₀ => wpAny_bind (wpAny_mono h₀ (fun _ s₂ h₂ => wpAny_bind (wpAny_bind (wpAny_mono h₂ (fun x s₃ h₃ => wpAny_bind (wpAny_mono h₃
      (fun _ s₄ h₄ => wpAny_pure (wpAny_pure ⟨rfl, h₄⟩)) fun _ _ h' => h')) fun _ _ h' => h'))) fun _ _ h' => h')) fun _ _ h' => h')
end

/-- the context of a comprehension's block -/
def cxC (X : Cx) (scope : Scope) (cl : List (Str × Addr)) (C : Addr) (N : List Str) (s : Shared) (H : Hp) (fp : List Addr) : Cx where
  prog := X.prog
  w := X.w
  K := X.K
  mg := X.mg
  base := X.base
  A := X.A
  N := N
  s₀ := s
  H₀ := H
  env := compEnvC scope cl C X.env
  outer := X.stack
  stack := X.stack
  ex := fp
  calm := X.calm
  fn := fun _ => false
  pn := X.pn
  xe := fun _ _ => False
/-- the block's names: own ones (none), or the slot of the outer name that they are -/
def frOf (js : List (Option Nat)) (σ : St) : St := js.map fun o => o.bind fun j => (σ[j]?).join
def FrOk (X : Cx) : List Str → List (Option Nat) → Prop
  | [], [] => True
  | _ :: N, none :: js => FrOk X N js
  | x :: N, some j :: js => (X.N[j]? = some x ∧ (X.env.scope.names.lookup x = some .cell ∨ X.env.scope.names.lookup x = some .free)) ∧ FrOk X N js
  | _, _ => False
theorem FrOk.len {X : Cx} : ∀ {N : List Str} {js : List (Option Nat)}, FrOk X N js → js.length = N.length
  | [], [], _ => rfl
  | _ :: N, none :: js, h => by simp [FrOk.len (N := N) (js := js) h]
  | _ :: N, some j :: js, h => by simp [FrOk.len (N := N) (js := js) h.2]
theorem FrOk.at_ {X : Cx} : ∀ {N : List Str} {js : List (Option Nat)} {i : Nat} {x : Str} {j : Nat}, FrOk X N js → N[i]? = some x → js[i]? = some (some j) → X.N[j]? = some x ∧ (X.env.scope.names.lookup x = some .cell ∨ X.env.scope.names.lookup x = some .free)
  | [], [], _, _, _, _, e, _ => by simp at e
  | _ :: N, none :: js, 0, _, _, _, _, e => by simp at e
  | _ :: N, none :: js, i + 1, x, j, h, e1, e2 => FrOk.at_ (N := N) (js := js) (i := i) h (by simpa using e1) (by simpa using e2)
  | _ :: N, some _ :: js, 0, _, _, h, e1, e2 => by simp at e1 e2; subst e1 e2; exact h.1
  | _ :: N, some _ :: js, i + 1, x, j, h, e1, e2 => FrOk.at_ (N := N) (js := js) (i := i) h.2 (by simpa using e1) (by simpa using e2)
/-- what is asked of the block's scope -/
structure CpScope (X : Cx) (scope : Scope) (N : List Str) (js : List (Option Nat)) : Prop where
  kind : scope.kind = .function
  nocell : ∀ y ∈ scope.names, y.2 ≠ .cell
  names : ∀ y ∈ scope.names, y.2 = .local → scope.names.lookup y.1 = some .local
  clos : ∀ y ∈ scope.names, y.2 = .free → X.env.scope.names.lookup y.1 = some .cell ∨ X.env.scope.names.lookup y.1 = some .free
  fr : FrOk X N js
  frk : ∀ (i : Nat) (x : Str) (j : Nat), N[i]? = some x → js[i]? = some (some j) → (relabel scope X.env).names.lookup x = some .cell ∨ (relabel scope X.env).names.lookup x = some .free

theorem closure_of {scope : Scope} {env : Env} (h : ∀ y ∈ scope.names, y.2 = .free → ∃ c, env.cells.lookup y.1 = some c) :
    ∃ cl, closureFor scope env = pure cl ∧ (∀ x c, cl.lookup x = some c → env.cells.lookup x = some c) ∧ ∀ x, (x, NameKind.free) ∈ scope.names → ∃ c, cl.lookup x = some c := by
  have go : ∀ (ns : List (Str × NameKind)) (acc : List (Str × Addr)), (∀ y ∈ ns, y.2 = .free → ∃ c, env.cells.lookup y.1 = some c) → (∀ x c, acc.lookup x = some c → env.cells.lookup x = some c) →
      ∃ cl, (forIn ns acc fun (x : Str × NameKind) (cs : List (Str × Addr)) => (if (x.2 == NameKind.free) = true then (do let c ← cellOf env x.1; pure (ForInStep.yield ((x.1, c) :: cs))) else pure (ForInStep.yield cs) : Sem (ForInStep (List (Str × Addr))))) = pure cl ∧
        (∀ x c, cl.lookup x = some c → env.cells.lookup x = some c) ∧ (∀ x, (x, NameKind.free) ∈ ns → ∃ c, cl.lookup x = some c) ∧ ∀ x c, acc.lookup x = some c → ∃ c', cl.lookup x = some c' := by
    intro ns
    induction ns with
    | nil => intro acc _ ha; exact ⟨acc, by rw [List.forIn_nil], ha, fun x z => by simp at z, fun x c e => ⟨c, e⟩⟩
    | cons y ns ih =>
      intro acc hy ha
      obtain ⟨n, k⟩ := y
      rw [List.forIn_cons]
      by_cases hk : k = .free
      · subst hk
        obtain ⟨c, hc⟩ := hy (n, .free) List.mem_cons_self rfl
        obtain ⟨cl, e, h1, h2, h3⟩ := ih ((n, c) :: acc) (fun y hm => hy y (List.mem_cons_of_mem _ hm)) fun x d e => by
          rw [List.lookup_cons] at e
          split at e
          · rename_i q
            cases e
            rw [show x = n from by simpa using q]
            exact hc
          · exact ha x d e
        refine ⟨cl, ?_, h1, fun x hx => ?_, fun x d e => ?_⟩
        · have e0 : cellOf env n = pure c := by unfold cellOf; rw [hc]
          simp only [beq_self_eq_true, if_true, e0]
          exact e
        · rcases List.mem_cons.mp hx with z | z
          · cases z
            exact h3 n c (by simp [List.lookup_cons])
          · exact h2 x z
        · by_cases hx : x = n
          · subst hx; exact h3 x c (by simp [List.lookup_cons])
          · exact h3 x d (by rw [List.lookup_cons, show (x == n) = false from by simpa using hx]; exact e)
      · have hb : (k == NameKind.free) = false := by simpa using hk
        obtain ⟨cl, e, h1, h2, h3⟩ := ih acc (fun y hm => hy y (List.mem_cons_of_mem _ hm)) ha
        refine ⟨cl, ?_, h1, fun x hx => ?_, h3⟩
        · simp only [hb, Bool.false_eq_true, if_false]
          exact e
        · rcases List.mem_cons.mp hx with z | z
          · cases z; exact absurd rfl hk
          · exact h2 x z
  obtain ⟨cl, e, h1, h2, _⟩ := go scope.names [] h (fun x c e => by simp at e)
  refine ⟨cl, ?_, h1, h2⟩
  unfold closureFor
  simp only
  rw [show (forIn scope.names ([] : List (Str × Addr)) fun (x : Str × NameKind) (r : List (Str × Addr)) => _) = _ from e]
  rfl

theorem relabel_free {scope : Scope} {env : Env} {x : Str} (nocell : ∀ y ∈ scope.names, y.2 ≠ .cell) (h : (relabel scope env).names.lookup x = some .cell ∨ (relabel scope env).names.lookup x = some .free) : (x, NameKind.free) ∈ scope.names := by
  have go : ∀ k, (k = .cell ∨ k = .free) → (relabel scope env).names.lookup x = some k → (x, NameKind.free) ∈ scope.names := by
    intro k hk e
    have hm := PySem.mem_of_lookup e
    obtain ⟨⟨n, k'⟩, hy, q⟩ := List.mem_map.mp (show (x, k) ∈ scope.names.map _ from hm)
    dsimp only at q
    split at q
    · rename_i hc
      have hf : k' = .free := by
        simp only [Bool.and_eq_true, beq_iff_eq] at hc
        exact hc.1.1
      injection q with q1 q2
      subst q1 hf
      exact hy
    · injection q with q1 q2
      subst q1 q2
      rcases hk with rfl | rfl
      · exact absurd rfl (nocell _ hy)
      · exact hy
  rcases h with h | h
  · exact go _ (.inl rfl) h
  · exact go _ (.inr rfl) h

section
variable {X : Cx} {pins : List (Addr × Obj)} {σ : St} {H : Hp} {s : Shared} {scope : Scope} {cl : List (Str × Addr)} {C : Addr} {N : List Str} {js : List (Option Nat)} {fp : List Addr}
theorem cxC_ok (I : Inv X pins σ H s) (S : CpScope X scope N js) (h1 : ∀ x c, cl.lookup x = some c → X.env.cells.lookup x = some c) (h2 : ∀ x, (x, NameKind.free) ∈ scope.names → ∃ c, cl.lookup x = some c)
    (hC : s.heap.objs.size ≤ C) (f : ∀ b ∈ fp, FpOk X pins H b) (lt : ∀ b ∈ fp, b < s.heap.objs.size) : (cxC X scope cl C N s H fp).Ok where
  mod := I.ok.mod
  kind := S.kind
  glob := I.ok.glob
  blt := I.ok.blt
  above := hC
  inj := fun x y c e1 e2 => I.ok.inj x y c (h1 x c e1) (h1 y c e2)
  has := fun x hx => h2 x (relabel_free S.nocell hx)
  cab := fun x c h _ => by cases h
  hd := I.ok.hd
  frames := I.ok.frames
  stk := .inl rfl
  exf := fun b hb => ⟨Nat.ne_of_lt (Nat.lt_of_lt_of_le (lt b hb) hC), fun x c e => (f b hb).2.2.2.2.1 x c (h1 x c e)⟩
  bs := I.bs
  bsz := Nat.le_trans I.ok.bsz I.sz
  noex := fun b o e hb => by
    rcases (f b hb).2.2.2.1 with z | z
    · exact I.ok.noex b o e z
    · exact absurd (Nat.lt_of_lt_of_le (Heap.lt_size e) (Nat.le_trans I.ok.bsz z)) (Nat.lt_irrefl _)
  exfs := fun b hb hbf => by
    rcases List.mem_cons.mp (I.stkSub b hbf) with z | z
    · exact (f b hb).2.1 z
    · exact (f b hb).2.2.1 z
  funs := I.stack
  frf := I.stkFree

theorem cxC_inv {h1 : Heap} {t' : Nat} {m : Str → Option Value} (I : Inv X pins σ H s) (S : CpScope X scope N js) (k1 : ∀ x c, cl.lookup x = some c → X.env.cells.lookup x = some c) (k2 : ∀ x, (x, NameKind.free) ∈ scope.names → ∃ c, cl.lookup x = some c)
    (hC : s.heap.objs.size ≤ C) (f : ∀ b ∈ fp, FpOk X pins H b) (lt : ∀ b ∈ fp, b < s.heap.objs.size) (old : ∀ b o, s.heap.get? b = some o → h1.get? b = some o) (ns : h1.Ns C m) :
    Inv (cxC X scope cl C N s H fp) pins (frOf js σ) H { s with heap := h1, toks := t' } where
  ok := cxC_ok I S k1 k2 hC f lt
  os := rfl
  bare := I.bare
  base := Un.kept old
  loc := by
    refine ⟨m, ns, fun i x v e1 e2 e3 => ?_⟩
    have e1 : N[i]? = some x := e1
    unfold frOf at e2
    rw [List.getElem?_map] at e2
    cases ej : js[i]? with
    | none => rw [ej] at e2; cases e2
    | some o =>
      rw [ej] at e2
      cases o with
      | none => cases e2
      | some j =>
        have e2' : (σ[j]?).join = some v := by simpa using e2
        have e4 : σ[j]? = some (some v) := by
          cases q : σ[j]? with
          | none => rw [q] at e2'; cases e2'
          | some o =>
            rw [q] at e2'
            have : o = some v := by simpa using e2'
            rw [this]
        obtain ⟨hN, hk⟩ := S.fr.at_ e1 ej
        have hk2 := S.frk i x j e1 ej
        obtain ⟨c', hc'⟩ := k2 x (relabel_free S.nocell hk2)
        obtain ⟨m0, hn0, hl0⟩ := I.loc
        obtain ⟨u, ru, l⟩ := hl0 j x v hN e4 (by rcases hk with q | q; exact .inr (.inl q); exact .inr (.inr q))
        refine ⟨u, ru, .inr ⟨hk2, c', hc', ?_⟩⟩
        rcases l with ⟨l1, _⟩ | ⟨_, c, hc, o, ho, hd⟩
        · have l1 : X.env.scope.names.lookup x = some .local := l1
          rcases hk with q | q
          · rw [q] at l1; cases l1
          · rw [q] at l1; cases l1
        · rw [k1 x c' hc'] at hc
          cases hc
          exact ⟨o, old _ _ ho, hd⟩
  cell := fun x c e => by
    obtain ⟨v, o, ho, hd⟩ := I.cell x c (k1 x c e)
    exact ⟨v, o, old _ _ ho, hd⟩
  free := I.hok.fresh hC
  freeC := fun x c e => I.freeC x c (k1 x c e)
  pin := fun p hp => by
    obtain ⟨e, n, ne, nf, d⟩ := I.pin p hp
    refine ⟨old _ _ e, n, Nat.ne_of_lt (Nat.lt_of_lt_of_le (Heap.lt_size e) hC), fun z => ?_, d⟩
    rcases List.mem_cons.mp (I.stkSub p.1 z) with q | q
    · exact ne q
    · exact nf q
  hok := I.hok.kept old
  len := by
    show (js.map _).length = N.length
    rw [List.length_map]
    exact S.fr.len

/-- [elt for target in iter], by the turns' word W (turn, measure, the items so far, the block's names, heap) -/
def CW (J : It) (g : TG) (te : TE) (p : Addr) (τ0 : St) (H1 : Hp) (Q : VK) : Prop :=
  ∃ W : Nat → Nat → List V → St → Hp → Prop, (∃ m, W 0 m [] τ0 (upd H1 p (.lst []))) ∧ ∀ i m ys τ H2, W i m ys τ H2 →
    (J.stop i H2 ∧ Q (.ref p) H2) ∨ (J.go i H2 ∧ ∀ x H3, J.yld i H2 x H3 → g x τ H3 fun τ4 H4 => te τ4 H4 fun y H5 => H5 p = some (.lst ys) ∧ ys.length < sizeLine ∧ ∃ m', m' < m ∧ W (i + 1) m' (ys ++ [y]) τ4 (upd H5 p (.lst (ys ++ [y]))))
def tComp (js : List (Option Nat)) (wi : TI) (g : TG) (te : TE) : TE := fun σ H Q => wi σ H fun J H1 => ∀ p, H1 p = none → CW J g te p (frOf js σ) H1 Q

theorem comp_core {elt target iter : Expr} {pos pos' : Pos} {wi : TI} {g : TG} {te : TE} (hc : X.calm = true) (S : CpScope X scope N js) (hi : PI X target iter wi)
    (hg : ∀ cl C s H fp, PG (cxC X scope cl C N s H fp) target g) (he : ∀ cl C s H fp, PE (cxC X scope cl C N s H fp) elt te) (hs : ∀ x, foldedSetIterable iter X.env x = pure x)
    {use : Option (Value → Sem Unit)} {QQ : Value → Shared → Prop} {Q : VK} (I : Inv X pins σ H s) (h : tComp js wi g te σ H Q)
    (hfin : ∀ (p C : Addr) (H' : Hp) (s' : Shared) (m : Str → Option Value), Inv X pins σ H' s' → Q (.ref p) H' → FpOk X pins H' C → s'.heap.Ns C m → compPost (model X.prog X.w) X.A X.xe use QQ (.ref p) C (.ok .next) s') :
    wpAny (model X.prog X.w) X.A (comprehension (.ListComp elt [⟨target, iter, [], 0⟩] scope pos) scope X.env pos' (newList []) false (eval iter X.env) use) QQ X.xe s := by
  obtain ⟨cl, hclos, k1, k2⟩ := closure_of (scope := scope) (env := X.env) (fun y hy hk => I.ok.has y.1 (S.clos y hy hk))
  refine wpAny_comprehension_free (use := use) rfl hs hclos S.kind S.names (thn (hi pins s σ H _ I h) fun v s1 h1 => thn h1 fun itv s2 h2 => ?_)
  obtain ⟨it, fp, tn, J, H2, e, I2, T, st2, f2, q⟩ := h2
  subst e
  obtain ⟨W, ⟨m0, w0⟩, turn⟩ := q s2.heap.objs.size I2.fresh
  have ltf : ∀ b ∈ fp, b < s2.heap.objs.size := fun b hb => by
    obtain ⟨o, ho, _⟩ := T.obj _ _ st2 b hb
    exact Heap.lt_size ho
  refine wpAny_newObj_type (wpAny_newFunctionEnv S.nocell (by intro y hy; simp at hy) (fun h1 hns1 hsb1 => ?_) S.kind)
  dsimp only at hns1 hsb1 ⊢
  have I3 : Inv X pins σ (upd H2 s2.heap.objs.size (.lst [])) { s2 with heap := s2.heap.push { cls := .type "list", data := .seq ([] : List Value).toArray }, toks := s2.toks } := I2.lnew (t' := s2.toks) .nil (by show 0 ≤ sizeLine; exact Nat.zero_le _)
  generalize hh3 : s2.heap.push { cls := .type "list", dict := none, data := .seq ([] : List Value).toArray } = h3 at I3 hns1 hsb1 ⊢
  generalize hH3 : upd H2 s2.heap.objs.size (.lst []) = H3 at I3 w0
  have hz3 : h3.objs.size = s2.heap.objs.size + 1 := by rw [← hh3, Heap.size_push]
  have up3 : ∀ b o, s2.heap.get? b = some o → h3.get? b = some o := fun b o e => by rw [← hh3]; exact Heap.get?_push_of_some _ e
  have f3 : ∀ b ∈ fp, FpOk X pins H3 b := fun b hb => ⟨by rw [← hH3, upd_ne (Nat.ne_of_lt (ltf b hb))]; exact (f2 b hb).1, (f2 b hb).2⟩
  have lt3 : ∀ b ∈ fp, b < h3.objs.size := fun b hb => by rw [hz3]; exact Nat.lt_succ_of_lt (ltf b hb)
  have old : ∀ b o, h3.get? b = some o → h1.get? b = some o := fun b o e => hsb1.extBut b o (Nat.ne_of_lt (Heap.lt_size e)) (Heap.get?_push_of_some _ e)
  have I4 := cxC_inv (t' := s2.toks + ([] : List (Str × Value)).length) (C := h3.objs.size) (fp := fp) I3 S k1 k2 (Nat.le_refl _) f3 lt3 old hns1
  have st4 : tn 0 h1 := T.keep _ _ _ st2 fun b _ o e => old b o (up3 b o e)
  have stat : ∀ {H' : Hp}, (∀ b ∈ fp, H' b = none) → ∀ b ∈ fp, FpOk (cxC X scope cl h3.objs.size N { s2 with heap := h3, toks := s2.toks } H3 fp) pins H' b := fun {H'} hn b hb => by
    obtain ⟨g0, g1, g2, g3, g4, g5⟩ := f3 b hb
    refine ⟨hn b hb, Nat.ne_of_lt (lt3 b hb), fun z => ?_, .inl hb, fun x c e => g4 x c (k1 x c e), g5⟩
    rcases List.mem_cons.mp (I3.stkSub b z) with q | q
    · exact g1 q
    · exact g2 q
  have loop : codeAny (model X.prog X.w) X.A (.compLoop (.ListComp elt [⟨target, iter, [], 0⟩] scope pos) 0 (.ref it) (.ref s2.heap.objs.size) (compEnvC scope cl h3.objs.size X.env))
      (compPost (model X.prog X.w) X.A X.xe use QQ (.ref s2.heap.objs.size) h3.objs.size) { s2 with heap := h1, toks := s2.toks + ([] : List (Str × Value)).length } := by
    refine compLoop_gen (fun n s' => ∃ i ys τ H', Inv (cxC X scope cl h3.objs.size N { s2 with heap := h3, toks := s2.toks } H3 fp) pins τ H' s' ∧ tn i s'.heap ∧ (∀ b ∈ fp, H' b = none) ∧ W i n ys τ H') ?_ m0
      ⟨0, [], _, H3, I4, st4, fun b hb => (f3 b hb).1, w0⟩
    rintro n s5 ⟨i, ys, τ, H5, I5, st5, fr5, w5⟩
    rcases turn i n ys τ H5 w5 with ⟨stop, qn⟩ | ⟨go, step⟩
    · refine wpAny_mono (T.done (cxC X scope cl h3.objs.size N { s2 with heap := h3, toks := s2.toks } H3 fp) rfl rfl rfl hc i pins s5 τ H5 _ I5 (stat fr5) st5 stop) (fun r s6 h6 => ?_) fun _ _ z => z
      obtain ⟨hr, I6⟩ := h6
      subst hr
      obtain ⟨m6, hn6, _⟩ := I6.loc
      refine hfin s2.heap.objs.size h3.objs.size H5 s6 m6 (I3.call' (ch := fp) I6.os I6.base I6.hok I6.bare fun b hb => ?_) qn (I3.fpOk (Nat.le_refl _) I6.free) hn6
      obtain ⟨g0, g1, g2, g3, g4, g5⟩ := f3 b hb
      exact ⟨g3, g1, g4, g5⟩
    · refine wpAny_mono (T.item (cxC X scope cl h3.objs.size N { s2 with heap := h3, toks := s2.toks } H3 fp) rfl rfl rfl hc i pins s5 τ H5 _ I5 (stat fr5) st5 go) (fun r s6 h6 => ?_) fun _ _ z => z
      obtain ⟨u, hr, h6⟩ := h6
      subst hr
      refine wpAny_mono h6 (fun _ s7 h7 => ?_) fun _ _ z => z
      obtain ⟨x, H7, I7, rx, y7, st7, fr7⟩ := h7
      have I7' := I7.pinned (stat fr7) (T.obj _ _ st7)
      refine wpAny_mono (hg cl h3.objs.size _ H3 fp _ s7 τ H7 x u _ I7' rx (step x H7 y7)) (fun _ s8 h8 => ?_) fun _ _ z => False.elim z
      obtain ⟨τ8, H8, I8, q8⟩ := h8
      refine wpAny_mono (he cl h3.objs.size _ H3 fp _ s8 τ8 H8 _ I8 q8) (fun y' s9 h9 => ?_) fun _ _ z => False.elim z
      obtain ⟨y, H9, I9, ry, e9, l9, m', hm, w9⟩ := h9
      refine wpAny_mono (mt_append (X := cxC X scope cl h3.objs.size N { s2 with heap := h3, toks := s2.toks } H3 fp) _ s9 τ8 H9 (.ref s2.heap.objs.size) [y] (.ref s2.heap.objs.size) [y']
        (fun _ H10 => H10 = upd H9 s2.heap.objs.size (.lst (ys ++ [y]))) I9 rfl (.cons ry .nil) ⟨_, ys, y, rfl, rfl, e9, l9, rfl⟩) (fun _ s10 h10 => ?_) fun _ _ z => False.elim z
      obtain ⟨_, H10, I10, _, e10⟩ := h10
      subst e10
      refine ⟨m', hm, i + 1, ys ++ [y], τ8, _, I10.unpinned, T.keep _ _ _ st7 fun b hb o e => (I10.pin (b, o) (List.mem_append_right _ (List.mem_append_right _ (mem_pinsAt hb e)))).1, fun b hb => ?_, w9⟩
      obtain ⟨o, e, d⟩ := T.obj _ _ st7 b hb
      exact (I10.pin (b, o) (List.mem_append_right _ (List.mem_append_right _ (mem_pinsAt hb e)))).2.1
  exact codeAny_compStart_list loop (T.self X.A 0 _ _ _ st4 loop)

theorem pe_lcomp {elt target iter : Expr} {pos : Pos} {wi : TI} {g : TG} {te : TE} (hc : X.calm = true) (S : CpScope X scope N js) (hi : PI X target iter wi)
    (hg : ∀ cl C s H fp, PG (cxC X scope cl C N s H fp) target g) (he : ∀ cl C s H fp, PE (cxC X scope cl C N s H fp) elt te) (hs : ∀ x, foldedSetIterable iter X.env x = pure x := by intro _; rfl) :
    PE X (.ListComp elt [⟨target, iter, [], 0⟩] scope pos) (tComp js wi g te) := by
  intro pins s σ H Q I h
  rw [eval_ListComp]
  refine comp_core (use := none) hc S hi hg he hs I h fun p C H' s' m I' q f hn => ⟨m, hn, fun h' hs' => ⟨.ref p, H', ?_, rfl, q⟩⟩
  obtain ⟨f0, f1, f2, f3, f4, f5⟩ := f
  exact I'.turned (t' := s'.toks) (fun b o hb e => (hs'.2 b hb).trans e) f0 f1 f3 f4 f5
end
end L2

set_option Elab.async false
set_option linter.all false
set_option maxRecDepth 100000
set_option maxHeartbeats 4000000
/-! MORE CALLS over the layer: all, sum, sorted, set, len of a set, range, list(range), ==, index, isinstance -/
namespace L2
open PySem PySem.Spec PyProof.Rows
section
variable {X : Cx}

theorem Vals.bools : ∀ {bs : List Bool} {us : List Value} {i : Nat} {v : Value}, Vals (bs.map V.bl) us → us[i]? = some v → ∃ b, bs[i]? = some b ∧ v = .bool b
  | [], _, _, _, .nil, e => by simp at e
  | b :: bs, _, 0, v, .cons r _, e => by
    have e' : _ = v := Option.some.inj e
    exact ⟨b, rfl, by rw [← e']; exact r⟩
  | _ :: bs, _, i + 1, v, .cons _ t, e => Vals.bools (bs := bs) (i := i) t (by simpa using e)
theorem all_range (bs : List Bool) : (List.range bs.length).all (fun i => bs.getD i true) = bs.all id := by
  rw [Bool.eq_iff_iff]
  simp only [List.all_eq_true, List.mem_range, id]
  constructor
  · intro h b hb
    obtain ⟨i, hi, e⟩ := List.mem_iff_getElem.mp hb
    have := h i hi
    rw [List.getD_eq_getElem?_getD, List.getElem?_eq_getElem hi] at this
    rw [← e]; exact this
  · intro h i hi
    rw [List.getD_eq_getElem?_getD, List.getElem?_eq_getElem hi]
    exact h _ (List.getElem_mem hi)
/-- all of a list of bools -/
theorem call_all_bools (hc : X.calm = true) : CallR X (.builtin "all") (fun xs H Q => ∃ (p : Addr) (bs : List Bool), xs = [.ref p] ∧ SqL X.K H p (bs.map V.bl) ∧ Q (.bl (bs.all id)) H) := by
  intro pins s σ H xs us Q I r h
  obtain ⟨p, bs, rfl, hq, q⟩ := h
  obtain ⟨u, rfl, ru⟩ := vals1 r
  cases ru
  obtain ⟨its, rv, pl, hz⟩ := I.list hq
  have hlen : its.length = bs.length := by have := rv.length; simpa using this.symm
  have hp : p < s.heap.objs.size := by obtain ⟨o, n, e, _⟩ := pl; exact Heap.lt_size e
  refine call_all_walk (wpAny_pyIter_list pl.isList ?_)
  refine ⟨s.heap.objs.size, _, _, _, _, _, fun i => bs.getD i true, rfl, Walks.list (A := X.A.in1) (I.ok.hd hc) _ p (Nat.ne_of_lt hp) its.toArray, ⟨⟨_, Heap.get?_push_size _ rfl, rfl, rfl⟩, pl.isList.push _⟩, ?_, fun h' tk hk => ?_⟩
  · intro i v s' Q' E' hP hQ'
    have hi : its[i]? = some v := by simpa using hP
    obtain ⟨b, hb, e⟩ := rv.bools hi
    subst e
    refine wpAny_truthy_bool ?_
    have hQ2 : Q' (bs.getD i true) s' := hQ'
    rw [List.getD_eq_getElem?_getD, hb] at hQ2
    exact hQ2
  · have I1 : Inv X pins σ H { s with heap := h', toks := tk } := I.kept fun b o e => hk b o (by simp; exact Nat.ne_of_lt (Heap.lt_size e)) (Heap.get?_push_of_some _ e)
    refine ⟨.bl (bs.all id), H, I1, ?_, q⟩
    show Value.bool _ = _
    rw [List.size_toArray, hlen, all_range]
/-- sum of a list of ints -/
theorem call_sum_ints (hc : X.calm = true) : CallR X (.builtin "sum") (fun xs H Q => ∃ (p : Addr) (ns : List Int), xs = [.ref p] ∧ SqL X.K H p (ns.map V.int) ∧ Q (.int ns.sum) H) := by
  intro pins s σ H xs us Q I r h
  obtain ⟨p, ns, rfl, hq, q⟩ := h
  obtain ⟨u, rfl, ru⟩ := vals1 r
  cases ru
  obtain ⟨its, rv, pl, hz⟩ := I.list hq
  have hi : IntsAre its ns := intsAre_of rv
  obtain ⟨xs, e⟩ := hi.allInts.items
  refine sum_intListG (xs := xs) (I.ok.hd hc) (by rw [← e]; exact pl.isList) fun h' tk t' hk => ?_
  have e2 : preSum (numAt xs) xs.size = ns.sum := by
    rw [preSum_eq, List.take_of_length_le (by simp), ← nums_intItems, ← e]
    show (numsOf its).sum = _
    rw [hi.numsOf]
  rw [e2]
  exact ⟨.int ns.sum, H, I.kept hk, ⟨_, rfl⟩, q⟩
/-- sorted of a list of ints, below 64 of them -/
theorem call_sorted_ints : CallR X (.builtin "sorted") (fun xs H Q => ∃ (p : Addr) (ns : List Int), xs = [.ref p] ∧ SqL X.K H p (ns.map V.int) ∧ ns.length < 64 ∧ ∀ (l : Addr) (ms : List Int), H l = none → ms.Perm ns → ms.Pairwise (· ≤ ·) → Q (.ref l) (upd H l (.lst (ms.map V.int)))) := by
  intro pins s σ H xs us Q I r h
  obtain ⟨p, ns, rfl, hq, hl, q⟩ := h
  obtain ⟨u, rfl, ru⟩ := vals1 r
  cases ru
  obtain ⟨its, rv, pl, hz⟩ := I.list hq
  have hi : IntsAre its ns := intsAre_of rv
  have hlen : its.length = ns.length := by have := rv.length; simpa using this.symm
  refine sorted_ints pl.isList hi (by omega) fun out ms h1 h2 h3 => ?_
  obtain ⟨e, he⟩ := sortedAll_at s.heap its out
  have hn : H (s.heap.objs.size + 1) = none := I.hok.fresh (Nat.le_succ _)
  have hv : Vals (ms.map V.int) out.toList := vals_ints h1
  have hlo : (ms.map V.int).length ≤ sizeLine := by
    rw [List.length_map, h2.length_eq]
    exact Nat.le_of_lt (Nat.lt_trans hl (by decide))
  refine ⟨.ref (s.heap.objs.size + 1), _, I.laid (o := .lst (ms.map V.int)) (t' := s.toks) (h' := sortedAll s.heap its out) (fun b o q => sortedAll_old q) (Nat.le_succ _) ⟨hlo, out.toList, e, hv, by simpa [seqObj] using he⟩, rfl, q _ ms hn h2 h3⟩
/-- set of a list of ints -/
theorem call_set_ints (hc : X.calm = true) : CallR X (.type "set") (fun xs H Q => ∃ (p : Addr) (ns : List Int), xs = [.ref p] ∧ SqL X.K H p (ns.map V.int) ∧ ns.length ≤ 1000 ∧
    ∀ l, H l = none → Q (.ref l) (upd H l (.set (fun k => (firstMet (fun i => ns.getD i 0) ns.length).any (· == k)) (firstMet (fun i => ns.getD i 0) ns.length).length))) := by
  intro pins s σ H xs us Q I r h
  obtain ⟨p, ns, rfl, hq, hl, q⟩ := h
  obtain ⟨u, rfl, ru⟩ := vals1 r
  cases ru
  obtain ⟨its, rv, pl, hz⟩ := I.list hq
  have hi : IntsAre its ns := intsAre_of rv
  have hlen : its.length = ns.length := by have := rv.length; simpa using this.symm
  refine call_set_list (items := its.toArray) (ns := ns) (I.ok.hd hc) pl.isList (by simpa using hi) (by rw [List.size_toArray, hlen]; exact Nat.lt_of_le_of_lt (Nat.succ_le_succ hl) (by decide)) fun h' tk hS hk => ?_
  have ez : its.toArray.size = ns.length := by rw [List.size_toArray, hlen]
  rw [ez] at hS
  exact ⟨.ref s.heap.objs.size, _, I.laid (o := .set _ _) (t' := tk) (fun b o e => hk b o (Heap.lt_size e) e) (Nat.le_refl _) hS, rfl, q _ I.fresh⟩
/-- len of a set -/
theorem call_len_setI : CallR X (.builtin "len") (fun xs H Q => ∃ (p : Addr) (S : Int → Bool) (n : Nat), xs = [.ref p] ∧ H p = some (.set S n) ∧ Q (.int n) H) := by
  intro pins s σ H xs us Q I r h
  obtain ⟨p, S, n, rfl, hp, q⟩ := h
  obtain ⟨u, rfl, ru⟩ := vals1 r
  cases ru
  obtain ⟨o, es, ep, t, ho, hex, hd, _, _, hb, hf, hn⟩ := (show s.heap.SetOf (intKind X.prog X.w) p S n from I.hok p _ hp)
  refine call_len_set ho hex hd hf (Int.lt_of_lt_of_le (show (es.size : Int) < 4096 from by unfold scanBound at hb; omega) (by decide)) ?_
  rw [hn]
  exact ⟨.int n, H, I.tok _, ⟨_, rfl⟩, q⟩
/-- range(n) as a value -/
theorem call_range1 : CallR X (.type "range") (fun xs H Q => ∃ j : Int, xs = [.int j] ∧ ∀ r, H r = none → Q (.ref r) (upd H r (.rng 0 j))) := by
  intro pins s σ H xs us Q I r h
  obtain ⟨j, rfl, q⟩ := h
  obtain ⟨u, rfl, ru⟩ := vals1 r
  obtain ⟨t, rfl⟩ := ru
  refine call_range_1 ⟨.ref s.heap.objs.size, _, I.laid (o := .rng 0 j) (fun b o e => Heap.get?_push_of_some _ e) (Nat.le_refl _) ⟨_, _, _, Heap.get?_push_size _ rfl⟩, rfl, q _ I.fresh⟩
theorem vals_range {acc : Array Value} {n : Nat} (h : ItemsOf (fun i v => ∃ t, v = Value.int ((0 : Int) + (i : Nat) * 1) t) acc n) : Vals ((List.range n).map fun (i : Nat) => V.int (i : Int)) acc.toList := by
  obtain ⟨hz, hI⟩ := h
  have go : ∀ (m : Nat) (us : List Value) (k : Nat), us.length = m → (∀ j v, us[j]? = some v → ∃ t, v = Value.int ((k + j : Nat) : Int) t) → Vals ((List.range' k m).map fun (i : Nat) => V.int (i : Int)) us := by
    intro m
    induction m with
    | zero => intro us k hu _; rw [List.length_eq_zero_iff.mp hu]; exact .nil
    | succ m ih =>
      intro us k hu h
      cases us with
      | nil => simp at hu
      | cons u us =>
        rw [List.range'_succ]
        refine .cons ?_ (ih us (k + 1) (by simpa using hu) fun j v e => ?_)
        · obtain ⟨t, e⟩ := h 0 u rfl
          exact ⟨t, by simpa using e⟩
        · obtain ⟨t, e⟩ := h (j + 1) v (by simpa using e)
          exact ⟨t, by rw [e]; congr 1; omega⟩
  rw [List.range_eq_range']
  refine go n acc.toList 0 (by simpa using hz) fun j v e => ?_
  obtain ⟨t, q⟩ := hI j v (by simpa using e)
  exact ⟨t, by rw [q]; congr 1; omega⟩
/-- list(range(n)) -/
theorem call_list_rng (hc : X.calm = true) : CallR X (.type "list") (fun xs H Q => ∃ (p : Addr) (n : Nat), xs = [.ref p] ∧ H p = some (.rng 0 n) ∧ n ≤ 1000 ∧ ∀ l, H l = none → Q (.ref l) (upd H l (.lst ((List.range n).map fun (i : Nat) => V.int (i : Int))))) := by
  intro pins s σ H xs us Q I r h
  obtain ⟨p, n, rfl, hp, hn, q⟩ := h
  obtain ⟨u, rfl, ru⟩ := vals1 r
  cases ru
  obtain ⟨t, u, v, e⟩ := (show ∃ t u v, s.heap.get? p = some { cls := .type "range", data := .fields #[.int 0 t, .int (n : Int) u, .int 1 v] } from I.hok p _ hp)
  refine call_list_range (n := n) (I.ok.hd hc) e (small_one (by decide) (by decide) (by omega) (by omega)) (by rw [rangeSize_one]; split <;> omega) (Nat.le_trans hn (by decide)) fun h' tk acc c hk ha hI => ?_
  refine ⟨.ref s.heap.objs.size, _, I.laid (o := .lst _) (t' := tk) hk (Nat.le_refl _) ⟨?_, acc.toList, c, vals_range hI, by simpa using ha⟩, rfl, q _ I.fresh⟩
  rw [List.length_map, List.length_range]
  exact Nat.le_trans hn (by decide)

/-! ### == of data -/
/-- what the value reads as -/
def RdD (X : Cx) (H : Hp) (x : V) (d : PyData) : Prop := ∀ (pins : List (Addr × Obj)) (σ : St) (s : Shared) (u : Value), Inv X pins σ H s → RelV x u → ∃ as, Reads s.heap u d as
theorem rd_int {H : Hp} {i : Int} : RdD X H (.int i) (.int i) := fun _ _ _ u _ r => by
  obtain ⟨t, rfl⟩ := r
  exact ⟨_, .int i t⟩
theorem rd_bl {H : Hp} {b : Bool} : RdD X H (.bl b) (.bool b) := fun _ _ _ u _ r => by
  cases (show u = .bool b from r)
  exact ⟨_, .bool b⟩
theorem readsAll_of {pins : List (Addr × Obj)} {σ : St} {H : Hp} {s : Shared} (I : Inv X pins σ H s) : ∀ {xs : List V} {us : List Value} {ds : List PyData}, Vals xs us → Paired (RdD X H) xs ds → ∃ as, ReadsAll s.heap us ds as
  | _, _, _, .nil, .nil => ⟨_, .nil⟩
  | _, _, _, .cons r t, .cons q t' => by
    obtain ⟨as, h1⟩ := q pins σ s _ I r
    obtain ⟨bs, h2⟩ := readsAll_of I t t'
    exact ⟨_, .cons h1 h2⟩
theorem rd_list {H : Hp} {a : Addr} {xs : List V} {ds : List PyData} (h : SqL X.K H a xs) (p : Paired (RdD X H) xs ds) : RdD X H (.ref a) (.list ds) := fun pins σ s u I r => by
  cases (show u = .ref a from r)
  obtain ⟨its, rv, ⟨o, n, e, c, _, d⟩, _⟩ := I.list h
  obtain ⟨as, hr⟩ := readsAll_of I rv p
  exact ⟨_, .list e c d (by simpa using hr)⟩
theorem rd_tup {H : Hp} {a : Addr} {xs : List V} {ds : List PyData} (h : SqT X.K H a xs) (p : Paired (RdD X H) xs ds) : RdD X H (.ref a) (.tuple ds) := fun pins σ s u I r => by
  cases (show u = .ref a from r)
  obtain ⟨its, rv, ⟨o, e, c, n, d⟩, _⟩ := I.tuple h
  obtain ⟨as, hr⟩ := readsAll_of I rv p
  exact ⟨_, .tuple e c d (by simpa using hr)⟩
theorem paired_map {α β γ : Type} {F : β → γ → Prop} {f : α → β} {g : α → γ} (h : ∀ a, F (f a) (g a)) : ∀ xs : List α, Paired F (xs.map f) (xs.map g)
  | [] => .nil
  | x :: xs => .cons (h x) (paired_map h xs)
theorem rd_ints {H : Hp} {a : Addr} {ns : List Int} (h : SqL X.K H a (ns.map V.int)) : RdD X H (.ref a) (.list (ns.map .int)) := rd_list h (paired_map (fun _ => rd_int) ns)
theorem rd_bools {H : Hp} {a : Addr} {ns : List Bool} (h : SqL X.K H a (ns.map V.bl)) : RdD X H (.ref a) (.list (ns.map .bool)) := rd_list h (paired_map (fun _ => rd_bl) ns)
/-- a kind of data that == tells apart -/
structure Enc {α : Type} [DecidableEq α] (f : α → PyData) (n : Nat) : Prop where
  eq : ∀ a b, PyData.eqv (f a) (f b) = decide (a = b)
  lay : ∀ a, (f a).canLay0 = true
  dep : ∀ a, (f a).depth ≤ n
theorem enc_int : Enc PyData.int 0 := ⟨fun a b => by
  show (a == b) = _
  by_cases e : a = b
  · subst e; simp
  · simp [e], fun _ => by simp only [PyData.canLay0], fun _ => by simp [PyData.depth]⟩
theorem enc_bool : Enc PyData.bool 0 := ⟨fun a b => by
  show (a == b) = _
  cases a <;> cases b <;> rfl, fun _ => by simp only [PyData.canLay0], fun _ => by simp [PyData.depth]⟩
theorem eqvAll_map {α : Type} [DecidableEq α] {f : α → PyData} (h : ∀ a b, PyData.eqv (f a) (f b) = decide (a = b)) : ∀ xs ys : List α, PyData.eqvAll (xs.map f) (ys.map f) = decide (xs = ys)
  | [], [] => by simp [PyData.eqvAll]
  | [], _ :: _ => by simp [PyData.eqvAll]
  | _ :: _, [] => by simp [PyData.eqvAll]
  | x :: xs, y :: ys => by
    rw [List.map_cons, List.map_cons, PyData.eqvAll, h, eqvAll_map h xs ys]
    by_cases e : x = y
    · by_cases e2 : xs = ys
      · simp [e, e2]
      · simp [e, e2]
    · simp [e]
theorem layAll_map {α : Type} {f : α → PyData} (h : ∀ a, (f a).canLay0 = true) : ∀ xs : List α, PyData.canLayAll0 (xs.map f) = true
  | [] => by simp [PyData.canLayAll0]
  | x :: xs => by rw [List.map_cons, PyData.canLayAll0, h, layAll_map h xs]; rfl
theorem depAll_map {α : Type} {f : α → PyData} {n : Nat} (h : ∀ a, (f a).depth ≤ n) : ∀ xs : List α, PyData.depthAll (xs.map f) ≤ n
  | [] => by simp [PyData.depthAll]
  | x :: xs => by rw [List.map_cons, PyData.depthAll]; exact Nat.max_le.mpr ⟨h x, depAll_map h xs⟩
theorem Enc.list {α : Type} [DecidableEq α] {f : α → PyData} {n : Nat} (e : Enc f n) : Enc (fun xs : List α => PyData.list (xs.map f)) (n + 1) :=
  ⟨fun a b => by rw [PyData.eqv]; exact eqvAll_map e.eq a b, fun a => by rw [PyData.canLay0]; exact layAll_map e.lay a, fun a => by rw [PyData.depth]; exact Nat.succ_le_succ (depAll_map e.dep a)⟩
def rEqE (X : Cx) {α : Type} [DecidableEq α] (f : α → PyData) : R2 := fun x y H Q => ∃ a b : α, RdD X H x (f a) ∧ RdD X H y (f b) ∧ Q (.bl (decide (a = b))) H
def rNeE (X : Cx) {α : Type} [DecidableEq α] (f : α → PyData) : R2 := fun x y H Q => ∃ a b : α, RdD X H x (f a) ∧ RdD X H y (f b) ∧ Q (.bl (!decide (a = b))) H
theorem op_eqE {α : Type} [DecidableEq α] {f : α → PyData} {n : Nat} (e : Enc f n) (hu : X.A.units + 64 < cLine) (hn : n ≤ 64 := by decide) : OpR X (compareOp .Eq) (rEqE X f) := by
  intro pins s σ H x y v u Q I rx ry h
  obtain ⟨a, b, ra, rb, q⟩ := h
  obtain ⟨as, r1⟩ := ra pins σ s v I rx
  obtain ⟨bs, r2⟩ := rb pins σ s u I ry
  refine SeqAt.compareEq_reads r1 r2 (e.lay a) (e.lay b) (Nat.lt_of_le_of_lt (Nat.add_le_add_left (Nat.le_trans (Nat.min_le_left ..) (Nat.le_trans (e.dep a) hn)) _) hu) ?_
  rw [e.eq]
  exact ⟨.bl _, H, I, rfl, q⟩
theorem op_neE {α : Type} [DecidableEq α] {f : α → PyData} {n : Nat} (e : Enc f n) (hu : X.A.units + 64 < cLine) (hn : n ≤ 64 := by decide) : OpR X (compareOp .NotEq) (rNeE X f) := by
  intro pins s σ H x y v u Q I rx ry h
  obtain ⟨a, b, ra, rb, q⟩ := h
  obtain ⟨as, r1⟩ := ra pins σ s v I rx
  obtain ⟨bs, r2⟩ := rb pins σ s u I ry
  refine SeqAt.compareNe_reads r1 r2 (e.lay a) (e.lay b) (Nat.lt_of_le_of_lt (Nat.add_le_add_left (Nat.le_trans (Nat.min_le_left ..) (Nat.le_trans (e.dep a) hn)) _) hu) ?_
  rw [e.eq]
  exact ⟨.bl _, H, I, rfl, q⟩
/-! ### isinstance against a built-in type -/
theorem call_isi {T : String} : CallR X (.builtin "isinstance") (fun xs H Q => ∃ x t b, xs = [x, .ty T] ∧ TyOf X.K H x t ∧ PySem.W.kitOne X.K t (.type T) = some b ∧ Q (.bl b) H) := by
  intro pins s σ H xs us Q I r h
  obtain ⟨x, t, b, rfl, ty, e, q⟩ := h
  obtain ⟨u, v, rfl, ru, rv⟩ := vals2 r
  cases (show v = .type T from rv)
  exact isinst_ok I ru ty e fun tk => ⟨.bl b, H, I.tok tk, rfl, q⟩
/-! ### xs.index(n) of ints -/
def rIndex : V → List V → Hp → VK → Prop := fun x vs H Q => ∃ (l : Addr) (ns : List Int) (n : Int), x = .ref l ∧ vs = [.int n] ∧ H l = some (.lst (ns.map V.int)) ∧ n ∈ ns ∧ Q (.int (ns.idxOf n)) H
theorem mt_index : MtM X "list.index" rIndex := by
  intro pins s σ H x vs v us Q I rx rv h
  obtain ⟨l, ns, n, rfl, rfl, hH, hm, q⟩ := h
  cases rx
  obtain ⟨u, rfl, ru⟩ := rv.one
  obtain ⟨t, rfl⟩ := ru
  obtain ⟨z, its, k, r, hl, e⟩ := I.lstM hH
  have hlen : ns.length = its.length := by simpa using hl
  have hj : ns.idxOf n < ns.length := List.idxOf_lt_length_of_mem hm
  have hz : ns.length ≤ sizeLine := by simpa using z
  have at_ : ∀ j (h : j < its.toArray.size), eqU (.int n) its.toArray[j] = (ns[j]'(by simpa [hlen] using h) == n) := fun j h => by
    have hjn : j < ns.length := by simpa [hlen] using h
    obtain ⟨w, ew, rw'⟩ := r.get (i := j) (x := .int ns[j]) (by rw [List.getElem?_map, List.getElem?_eq_getElem hjn]; rfl)
    have : its.toArray[j] = w := by
      have h2 : its[j]? = some w := ew
      obtain ⟨h3, h4⟩ := List.getElem?_eq_some_iff.mp h2
      simpa using h4
    rw [this, eqU_of rw' rfl]
    rfl
  refine call_meets F.slot_list_index ⟨_, e, rfl⟩ F.entry_list_index (F.args_list_index_2 _ _) (SeqAt.list_indexAt l its.toArray k _ _ (.int n t) (eqU (.int n)) (ns.idxOf n) (by simpa [← hlen] using hj) ?_ ?_ ?_) ⟨e, ?_, ?_⟩
  · have h1 := line63
    have : (ns.idxOf n : Int) < (sizeLine : Int) + 1 := by omega
    have h2 : sizeLine + 1 < 2 ^ 63 - 1 := by rw [sizeLine_eq]; decide
    omega
  · rw [at_ _ (by simpa [← hlen] using hj)]
    simp
  · intro m hm' hlt
    rw [at_ m hm']
    have : m < ns.length := by omega
    exact List.not_of_lt_findIdx (p := fun x => x == n) (show m < List.findIdx (fun x => x == n) ns from hlt)
  · intro y hy
    exact mem_eqAt (x := .int n) ⟨t, rfl⟩ rfl r (by simp [flatV]) y (by simpa using hy)
  · exact ⟨.int (ns.idxOf n), H, I.tok _, ⟨_, rfl⟩, q⟩
end
end L2

set_option Elab.async false
set_option linter.all false
set_option maxRecDepth 100000
set_option maxHeartbeats 4000000
/-! SHORT FORMS: scopes of comprehensions by a check, folds over iterators, heaps that grow -/
namespace L2
open PySem PySem.Spec PyProof.Rows

/-! ### no exception -/
def CxNo (CX : CXT) : Prop := ∀ o H s e s', CX o H s E0 e s' → False
theorem passN {X : Cx} {CX : CXT} (h : CxNo CX) : Passes CX X E0 := fun _ _ _ _ _ _ _ q => (h _ _ _ _ _ q).elim
section
variable {CX : CXT} {P : Program} {w : World} {K : PySem.W.Frag} {mg : Str → Option Value} {base : Heap}
theorem Fun.okX {x qual : Str} {st : Stmt} {f : Addr} {fd : FuncData} {N ps : List Str} {k : Nat} {sp : Sp} (F : Fun K x qual st f fd) (S : FnScope N ps (defScope st)) (len : ∀ vs H Q E, sp vs H Q E → vs.length = ps.length)
    (hbody : ∀ (cdv : Value) (A : Around) (outer : List Env) (s : Shared) (H : Hp) (vs : List V) (Q : VK) (E : XK), Room k (A.deeper (envOfC qual (defScope st) s.heap.objs.size f cdv)) → sp vs H Q E →
      ∃ t, PSs (cxOf CX P w K mg base N qual (defScope st) f cdv A outer s H E).nox (defBody st) t ∧ t { nx := fun _ H' => Q .non H', rt := Q } (start N vs) H) : FnOk P w K mg base CX (k + 1) f fd ps sp := by
  obtain ⟨oc, od, kV, doc, pm, an, cdv, ct, osl, rfl, lk, hcd⟩ := F.ex
  refine fn_of lk hcd S len fun A outer s H vs Q E hr hsp => ?_
  obtain ⟨t, h, q⟩ := hbody cdv A outer s H vs Q E hr hsp
  exact ⟨t, h.nox, q⟩
end

/-! ### a comprehension's scope, by a check -/
def frCheck (psc : Scope) (pN : List Str) (scope : Scope) : List Str → List (Option Nat) → Bool
  | [], [] => true
  | _ :: N, none :: js => frCheck psc pN scope N js
  | x :: N, some j :: js => (pN[j]? == some x) && (psc.names.lookup x == some .cell || psc.names.lookup x == some .free) && (scope.names.lookup x == some .free) && frCheck psc pN scope N js
  | _, _ => false
def cpCheck (psc : Scope) (pN : List Str) (scope : Scope) (N : List Str) (js : List (Option Nat)) : Bool :=
  (scope.kind == .function) && scope.names.all (fun y => y.2 != .cell) && scope.names.all (fun y => y.2 != .local || scope.names.lookup y.1 == some .local) &&
    scope.names.all (fun y => y.2 != .free || (psc.names.lookup y.1 == some .cell || psc.names.lookup y.1 == some .free)) && frCheck psc pN scope N js
theorem relabel_lookup_free {env : Env} : ∀ {names : List (Str × NameKind)} {x : Str}, names.lookup x = some .free →
    (names.map fun (n, k) => if (k == NameKind.free && env.scope.kind == .function && env.kindOf n == some .cell) then (n, NameKind.cell) else (n, k)).lookup x = some .cell ∨
    (names.map fun (n, k) => if (k == NameKind.free && env.scope.kind == .function && env.kindOf n == some .cell) then (n, NameKind.cell) else (n, k)).lookup x = some .free
  | [], _, h => by simp at h
  | (n, k) :: r, x, h => by
    have ih := @relabel_lookup_free env r x
    rw [List.map_cons]
    dsimp only
    rw [List.lookup_cons] at h
    cases hx : x == n with
    | true =>
      rw [hx] at h
      have hk : k = .free := Option.some.inj h
      subst hk
      split
      · exact .inl (by rw [List.lookup_cons, hx])
      · exact .inr (by rw [List.lookup_cons, hx])
    | false =>
      rw [hx] at h
      split
      · rw [List.lookup_cons, hx]; exact ih h
      · rw [List.lookup_cons, hx]; exact ih h
theorem frCheck_ok {X : Cx} {psc : Scope} {pN : List Str} {scope : Scope} (e1 : X.env.scope = psc) (e2 : X.N = pN) : ∀ {N : List Str} {js : List (Option Nat)}, frCheck psc pN scope N js = true → FrOk X N js
  | [], [], _ => trivial
  | _ :: N, none :: js, h => frCheck_ok (N := N) (js := js) e1 e2 h
  | x :: N, some j :: js, h => by
    unfold frCheck at h
    simp only [Bool.and_eq_true, Bool.or_eq_true, beq_iff_eq] at h
    exact ⟨⟨by rw [e2]; exact h.1.1.1, by rw [e1]; exact h.1.1.2⟩, frCheck_ok e1 e2 h.2⟩
  | [], _ :: _, h => by simp [frCheck] at h
  | _ :: _, [], h => by simp [frCheck] at h
theorem frCheck_k {psc : Scope} {pN : List Str} {scope : Scope} : ∀ {N : List Str} {js : List (Option Nat)} {i : Nat} {x : Str} {j : Nat}, frCheck psc pN scope N js = true → N[i]? = some x → js[i]? = some (some j) → scope.names.lookup x = some .free
  | [], [], _, _, _, _, e, _ => by simp at e
  | _ :: N, none :: js, 0, _, _, _, _, e => by simp at e
  | _ :: N, none :: js, i + 1, x, j, h, e1, e2 => frCheck_k (N := N) (js := js) (i := i) h (by simpa using e1) (by simpa using e2)
  | y :: N, some k :: js, 0, x, j, h, e1, e2 => by
    unfold frCheck at h
    simp only [Bool.and_eq_true, Bool.or_eq_true, beq_iff_eq] at h
    have : y = x := by simpa using e1
    rw [← this]
    exact h.1.2
  | y :: N, some k :: js, i + 1, x, j, h, e1, e2 => by
    unfold frCheck at h
    simp only [Bool.and_eq_true] at h
    exact frCheck_k (N := N) (js := js) (i := i) h.2 (by simpa using e1) (by simpa using e2)
  | [], _ :: _, _, _, _, h, _, _ => by simp [frCheck] at h
  | _ :: _, [], _, _, _, h, _, _ => by simp [frCheck] at h
theorem cpS {X : Cx} {scope : Scope} {N : List Str} {js : List (Option Nat)} (psc : Scope) (pN : List Str) (h : cpCheck psc pN scope N js = true) (e1 : X.env.scope = psc := by rfl) (e2 : X.N = pN := by rfl) : CpScope X scope N js := by
  unfold cpCheck at h
  simp only [Bool.and_eq_true, beq_iff_eq, List.all_eq_true, Bool.or_eq_true, bne_iff_ne, ne_eq] at h
  obtain ⟨⟨⟨⟨h1, h2⟩, h3⟩, h4⟩, h5⟩ := h
  refine ⟨h1, h2, fun y hy hl => ?_, fun y hy hf => ?_, frCheck_ok e1 e2 h5, fun i x j a b => relabel_lookup_free (frCheck_k h5 a b)⟩
  · rcases h3 y hy with z | z
    · exact absurd hl z
    · exact z
  · rw [e1]
    rcases h4 y hy with z | z
    · exact absurd hf z
    · exact z

/-! ### heaps that grow -/
theorem Same.new {H : Hp} {l : Addr} {o : HO} (h : H l = none) : Same H (upd H l o) := fun b u e => by rw [upd_ne (ne_of_none e h)]; exact e
theorem Same.upd {H H1 : Hp} {l : Addr} {o : HO} (s : Same H H1) (h : H l = none) : Same H (L2.upd H1 l o) := fun b u e => by rw [upd_ne (ne_of_none e h)]; exact s b u e
/-- a fold over an iterator: n turns, an item f i each, the heap grows -/
theorem comp_fold {J : It} {g : TG} {te : TE} {p : Addr} {τ0 : St} {H1 Hs : Hp} {Q : VK} (n : Nat) (f : Nat → V) (Iv : St → Prop) (s1 : Same Hs H1) (hp : Hs p = none) (hn : n ≤ sizeLine)
    (go : ∀ i H2, i < n → Same Hs H2 → J.go i H2) (stop : ∀ H2, Same Hs H2 → J.stop n H2) (i0 : Iv τ0)
    (step : ∀ (i : Nat) (τ : St) (H2 : Hp) (x : V) (H3 : Hp) (R : St → V → Hp → Prop), i < n → Iv τ → Same Hs H2 → J.yld i H2 x H3 → (∀ τ4 H5, Iv τ4 → Same H2 H5 → R τ4 (f i) H5) → g x τ H3 fun τ4 H4 => te τ4 H4 fun y H5 => R τ4 y H5)
    (fin : ∀ H2, Same Hs H2 → H2 p = some (.lst ((List.range n).map f)) → Q (.ref p) H2) :
    CW J g te p τ0 H1 Q := by
  refine ⟨fun i m ys τ H2 => m = n - i ∧ i ≤ n ∧ ys = (List.range i).map f ∧ Same Hs H2 ∧ H2 p = some (.lst ys) ∧ Iv τ, ⟨n, rfl, Nat.zero_le _, rfl, s1.upd hp, upd_same, i0⟩, ?_⟩
  rintro i m ys τ H2 ⟨rfl, hi, rfl, s2, h2, iv⟩
  by_cases hlt : i < n
  · refine .inr ⟨go i H2 hlt s2, fun x H3 y3 => step i τ H2 x H3 _ hlt iv s2 y3 fun τ4 H5 iv4 s5 => ?_⟩
    refine ⟨s5 _ _ h2, ?_, n - (i + 1), by omega, rfl, hlt, ?_, (s2.trans s5).upd hp, upd_same, iv4⟩
    · rw [List.length_map, List.length_range]; omega
    · rw [List.range_succ, List.map_append]; rfl
  · have e : i = n := by omega
    subst e
    exact .inl ⟨stop H2 s2, fin H2 s2 h2⟩
/-- over enumerate of a list that the body leaves as it is -/
theorem for_enum {K : PySem.W.Frag} {a : Addr} {xs : List V} {g : TG} {tb : TS} {D : Ends} {σ : St} {H : Hp} (Pv : Nat → St → Hp → Prop) (h0 : Pv 0 σ H) (hl : ∀ i σ H, i ≤ xs.length → Pv i σ H → SqL K H a xs)
    (hs : ∀ (i : Nat) (x : V) (σ : St) (H : Hp) (t : Addr), xs[i]? = some x → Pv i σ H → H t = none → g (.ref t) σ (upd H t (.tup [.int i, x])) fun σ2 H2 => tb { D with nx := Pv (i + 1), ct := Pv (i + 1), bk := D.nx } σ2 H2) (hd : ∀ σ H, Pv xs.length σ H → D.nx σ H) :
    ∃ W : Nat → Nat → St → Hp → Prop, (∃ m, W 0 m σ H) ∧ ∀ i m σ H, W i m σ H →
      ((Ite K a).stop i H ∧ D.nx σ H) ∨ ((Ite K a).go i H ∧ ∃ N : St → Hp → Prop, (∀ σ' H', N σ' H' → ∃ m', m' < m ∧ W (i + 1) m' σ' H') ∧ ∀ x H', (Ite K a).yld i H x H' → g x σ H' fun σ2 H2 => tb { D with nx := N, ct := N, bk := D.nx } σ2 H2) := by
  refine ⟨fun i m σ H => m = xs.length - i ∧ i ≤ xs.length ∧ Pv i σ H, ⟨xs.length, by simp, Nat.zero_le _, h0⟩, ?_⟩
  rintro i m σ H ⟨rfl, hi, p⟩
  have q := hl i σ H hi p
  by_cases hlt : i < xs.length
  · refine .inr ⟨⟨xs, xs[i], q, by simp [hlt]⟩, Pv (i + 1), fun σ' H' p' => ⟨xs.length - (i + 1), by omega, rfl, hlt, p'⟩, fun x H' y => ?_⟩
    obtain ⟨t, z, rfl, ht, rfl, y⟩ := y
    exact hs i z σ H t (y xs q) p ht
  · have e : i = xs.length := by omega
    subst e
    exact .inl ⟨⟨xs, q, Nat.le_refl _⟩, hd σ H p⟩
/-! ### slices -/
theorem cutV_from (xs : List V) (k : Nat) : cutV xs (some (k : Int)) none = xs.drop k := by
  unfold cutV
  rw [HT.sIx_nat, HT.sIx_none]
  by_cases h : k ≤ xs.length
  · rw [Nat.min_eq_left h, List.take_of_length_le (by rw [List.length_drop]; exact Nat.le_refl _)]
  · rw [Nat.min_eq_right (by omega), List.drop_of_length_le (by omega : xs.length ≤ xs.length), List.drop_of_length_le (by omega : xs.length ≤ k), List.take_nil]
theorem cutV_to (xs : List V) (k : Nat) : cutV xs none (some (k : Int)) = xs.take k := by
  unfold cutV
  rw [HT.sIx_nat, HT.sIx_none, List.drop_zero, Nat.sub_zero]
  by_cases h : k ≤ xs.length
  · rw [Nat.min_eq_left h]
  · rw [Nat.min_eq_right (by omega), List.take_of_length_le (Nat.le_refl _), List.take_of_length_le (by omega)]
/-! ### in, over ints -/
theorem inV_ints (n : Int) : ∀ ns : List Int, inV (.int n) (ns.map V.int) = decide (n ∈ ns)
  | [] => by simp [inV]
  | m :: ns => by
    have ih := inV_ints n ns
    unfold inV at ih ⊢
    rw [List.map_cons, List.any_cons, ih]
    show ((m == n) || _) = _
    by_cases e : m = n
    · simp [e]
    · have e' : ¬ n = m := fun h => e h.symm
      simp [e, e']
theorem flat_ints (ns : List Int) : (ns.map V.int).all flatV = true := by
  rw [List.all_map, List.all_eq_true]
  intro x _
  rfl
theorem iteD {c A B : Prop} [Decidable c] (h1 : c → A) (h2 : ¬ c → B) : if decide c = true then A else B := by
  by_cases h : c
  · rw [if_pos (decide_eq_true h)]; exact h1 h
  · rw [if_neg (by simpa using h)]; exact h2 h
theorem iteND {c A B : Prop} [Decidable c] (h1 : ¬ c → A) (h2 : c → B) : if (!decide c) = true then A else B := by
  by_cases h : c
  · rw [if_neg (by simpa using h)]; exact h2 h
  · rw [if_pos (by simpa using h)]; exact h1 h
section
variable {X : Cx}
/-- (x, y) = a pair, x and y plain local names -/
def g2 (K : PySem.W.Frag) (i j : Nat) : TG := fun v σ H Q => ∃ a x y, v = .ref a ∧ SqT K H a [x, y] ∧ Q ((σ.set i (some x)).set j (some y)) H
theorem pg_two {x y : Str} {px py : Pos} {k : Nat} {pos : Pos} (i j : Nat) (hc : X.calm = true) (hN : X.N.Nodup) (hi : X.N[i]? = some x) (hj : X.N[j]? = some y) (hx : X.env.scope.names.lookup x = some .local) (hy : X.env.scope.names.lookup y = some .local) :
    PG X (.Tuple [.Name x px, .Name y py] k pos) (g2 X.K i j) := by
  intro pins s σ H v u Q I r h
  obtain ⟨a, v1, v2, rfl, hq, q⟩ := h
  refine pg_tup hc (pgs_cons (pg_name (i := i) hN hi (.inl hx) (.inr hx)) (pgs_cons (pg_name (i := j) hN hj (.inl hy) (.inr hy)) pgs_nil)) rfl rfl pins s σ H (.ref a) u Q I r ?_
  exact ⟨a, _, rfl, hq, rfl, _, _, rfl, _, _, rfl, rfl, q⟩
end
theorem PE.imp {X : Cx} {e : Expr} {t t' : TE} (h : PE X e t) (k : ∀ σ H Q, t' σ H Q → t σ H Q) : PE X e t' := fun pins s σ H Q I q => h pins s σ H Q I (k σ H Q q)
/-- a fold over a list that stays, by places -/
theorem comp_listI {K : PySem.W.Frag} {a : Addr} {xs : List V} {g : TG} {te : TE} {p : Addr} {τ0 : St} {H1 Hs : Hp} {Q : VK} (f : Nat → V) (Iv : St → Prop) (s1 : Same Hs H1) (hp : Hs p = none) (ha : SqL K Hs a xs) (hn : xs.length ≤ sizeLine) (i0 : Iv τ0)
    (step : ∀ (i : Nat) (x : V) (τ : St) (H2 : Hp) (R : St → V → Hp → Prop), xs[i]? = some x → Iv τ → Same Hs H2 → (∀ τ4 H5, Iv τ4 → Same H2 H5 → R τ4 (f i) H5) → g x τ H2 fun τ4 H4 => te τ4 H4 fun y H5 => R τ4 y H5)
    (fin : ∀ H2, Same Hs H2 → H2 p = some (.lst ((List.range xs.length).map f)) → Q (.ref p) H2) :
    CW (Itl K a) g te p τ0 H1 Q := by
  refine comp_fold (J := Itl K a) xs.length f Iv s1 hp hn (fun i H2 hi s2 => ⟨xs, xs[i], s2.seq ha, List.getElem?_eq_getElem hi⟩) (fun H2 s2 => ⟨xs, s2.seq ha, Nat.le_refl _⟩) i0 ?_ fin
  rintro i τ H2 x H3 R hi iv s2 ⟨rfl, y⟩ k
  exact step i x τ _ R (y xs (s2.seq ha)) iv s2 k
/-- a statement's ways meet: M holds behind it -/
def tCut (t : TS) : TS := fun D σ H => ∃ M : St → Hp → Prop, t { D with nx := M } σ H ∧ ∀ σ' H', M σ' H' → D.nx σ' H'
theorem ps_cut {X : Cx} {st : Stmt} {t : TS} (h : PS X st t) : PS X st (tCut t) := by
  intro pins s σ H D I q
  obtain ⟨M, q1, q2⟩ := q
  refine thn (h pins s σ H _ I q1) fun f s1 z => ?_
  cases f with
  | next => obtain ⟨σ', H', I', m⟩ := z; exact ⟨σ', H', I', q2 σ' H' m⟩
  | brk => exact z
  | cont => exact z
  | ret u => exact z
end L2

set_option Elab.async false
set_option linter.all false
set_option maxRecDepth 100000
set_option maxHeartbeats 4000000
/-! MORE RULES: tests of several comparisons in a row, folds over tuples -/
namespace L2
open PySem PySem.Spec PyProof.Rows
section
variable {X : Cx}
/-- what comes behind the first value of a chain of comparisons -/
def PCh (X : Cx) (ops : List CmpOp) (es : List Expr) (t : V → TT) : Prop :=
  ∀ (pos : Pos) (pins : List (Addr × Obj)) (s : Shared) (σ : St) (H : Hp) (x : V) (v : Value) (Q : Bool → Hp → Prop), Inv X pins σ H s → RelV x v → t x σ H Q →
    wpAny (model X.prog X.w) X.A (testChain pos v ops (evalEach es X.env)) (TP X pins σ Q) X.xe s
def cLast (r : R2) (tb : TE) : V → TT := fun x σ H Q => tb σ H fun y H1 => r x y H1 fun z H2 => ∃ k, z = .bl k ∧ Q k H2
def cLink (r : R2) (tb : TE) (t : V → TT) : V → TT := fun x σ H Q => tb σ H fun y H1 => r x y H1 fun z H2 => ∃ k, z = .bl k ∧ if k = true then t y σ H2 Q else Q false H2
theorem pch_last {op : CmpOp} {r : R2} {b : Expr} {tb : TE} (ho : OpR X (compareOp op) r) (hb : PE X b tb) : PCh X [op] [b] (cLast r tb) := by
  intro pos pins s σ H x v Q I rx h
  refine test_last (thn (hb pins s σ H _ I h) fun u s2 ⟨y, H2, I2, r2, q2⟩ => thn (ho pins s2 σ H2 x y v u _ I2 rx r2 q2) fun d s3 ⟨z, H3, I3, r3, k, e, q3⟩ => ?_)
  subst e
  cases r3
  exact wpAny_truthy_bool ⟨H3, I3, q3⟩
theorem pch_link {op op' : CmpOp} {ops : List CmpOp} {r : R2} {b b' : Expr} {es : List Expr} {tb : TE} {t : V → TT} (ho : OpR X (compareOp op) r) (hb : PE X b tb) (hr : PCh X (op' :: ops) (b' :: es) t) :
    PCh X (op :: op' :: ops) (b :: b' :: es) (cLink r tb t) := by
  intro pos pins s σ H x v Q I rx h
  refine test_link (thn (hb pins s σ H _ I h) fun u s2 ⟨y, H2, I2, r2, q2⟩ => thn (ho pins s2 σ H2 x y v u _ I2 rx r2 q2) fun d s3 ⟨z, H3, I3, r3, k, e, q3⟩ => ?_)
  subst e
  cases r3
  refine wpAny_truthy_bool ?_
  cases k with
  | false => exact ite_ff ⟨H3, I3, q3⟩
  | true => exact ite_tt (hr pos pins s3 σ H3 y u Q I3 r2 q3)
theorem pt_chainN {a b b' : Expr} {op op' : CmpOp} {ops : List CmpOp} {es : List Expr} {pos : Pos} {ta : TE} {t : V → TT} (ha : PE X a ta) (h : PCh X (op :: op' :: ops) (b :: b' :: es) t)
    (hm : lastMarks (op :: op' :: ops) (b :: b' :: es) = false := by with_unfolding_all rfl) : PT X (.Compare a (op :: op' :: ops) (b :: b' :: es) pos) (fun σ H Q => ta σ H fun x H1 => t x σ H1 Q) := by
  intro pins s σ H Q I q
  exact isTrue_chain (thn (ha pins s σ H _ I q) fun v s1 ⟨x, H1, I1, r1, q1⟩ => h pos pins s1 σ H1 x v Q I1 r1 q1) hm
end
end L2

set_option Elab.async false
set_option linter.all false
set_option maxRecDepth 100000
/-! SETS OF INTS, WALKED: the table's places rise; an order by the text is a rearrangement -/
namespace SW
open PySem

def Ris (xs : Array Nat) : Prop := ∀ (i k u v : Nat), i < k → xs[i]? = some u → xs[k]? = some v → u < v
theorem go_spec {xs : Array Nat} {j : Nat} (hr : Ris xs) : ∀ (fuel lo hi : Nat), lo ≤ hi → hi ≤ xs.size → hi - lo ≤ fuel →
    (∀ i v, i < lo → xs[i]? = some v → v < j) → (∀ i v, hi ≤ i → xs[i]? = some v → j ≤ v) →
    SetTable.below.go xs j fuel lo hi ≤ xs.size ∧ (∀ i v, i < SetTable.below.go xs j fuel lo hi → xs[i]? = some v → v < j) ∧ (∀ i v, SetTable.below.go xs j fuel lo hi ≤ i → xs[i]? = some v → j ≤ v)
  | 0, lo, hi, h1, h2, h3, hl, hh => by
    have e : lo = hi := by omega
    subst e
    unfold SetTable.below.go
    exact ⟨h2, hl, hh⟩
  | fuel + 1, lo, hi, h1, h2, h3, hl, hh => by
    unfold SetTable.below.go
    by_cases hlt : lo < hi
    · rw [if_pos hlt]
      have hm : (lo + hi) / 2 < xs.size := by omega
      have em : xs[(lo + hi) / 2]? = some xs[(lo + hi) / 2] := Array.getElem?_eq_getElem hm
      have eg : xs.getD ((lo + hi) / 2) j = xs[(lo + hi) / 2] := by simp [Array.getD, hm]
      dsimp only
      rw [eg]
      by_cases hc : xs[(lo + hi) / 2] < j
      · rw [if_pos hc]
        refine go_spec hr fuel ((lo + hi) / 2 + 1) hi (by omega) h2 (by omega) (fun i v hi' e => ?_) hh
        by_cases z : i = (lo + hi) / 2
        · rw [z, em] at e; cases e; exact hc
        · exact Nat.lt_trans (hr i _ v _ (by omega) e em) hc
      · rw [if_neg hc]
        refine go_spec hr fuel lo ((lo + hi) / 2) (by omega) (by omega) (by omega) hl (fun i v hi' e => ?_)
        by_cases z : i = (lo + hi) / 2
        · rw [z, em] at e; cases e; omega
        · have := hr _ i _ v (by omega) em e; omega
    · rw [if_neg hlt]
      have e : lo = hi := by omega
      subst e
      exact ⟨h2, hl, hh⟩
theorem below_spec {xs : Array Nat} (hr : Ris xs) (j : Nat) : SetTable.below xs j ≤ xs.size ∧ (∀ i v, i < SetTable.below xs j → xs[i]? = some v → v < j) ∧ (∀ i v, SetTable.below xs j ≤ i → xs[i]? = some v → j ≤ v) := by
  unfold SetTable.below
  refine go_spec hr xs.size 0 xs.size (Nat.zero_le _) (Nat.le_refl _) (by omega) (fun i v h => by omega) (fun i v h e => ?_)
  have := (Array.getElem?_eq_some_iff.mp e).1
  omega
theorem ris_list {xs : Array Nat} : Ris xs ↔ xs.toList.Pairwise (· < ·) := by
  rw [List.pairwise_iff_getElem]
  constructor
  · intro h i j hi hj hij
    exact h i j _ _ hij (by rw [← Array.getElem?_toList, List.getElem?_eq_getElem hi]) (by rw [← Array.getElem?_toList, List.getElem?_eq_getElem hj])
  · intro h i j u v hij e1 e2
    rw [← Array.getElem?_toList] at e1 e2
    obtain ⟨h1, rfl⟩ := List.getElem?_eq_some_iff.mp e1
    obtain ⟨h2, rfl⟩ := List.getElem?_eq_some_iff.mp e2
    exact h i j h1 h2 hij
theorem ris_insert {xs : Array Nat} {j : Nat} (hr : Ris xs) (hn : xs[SetTable.below xs j]? ≠ some j) : Ris (SetTable.insertAt xs (SetTable.below xs j) j) := by
  obtain ⟨h0, h1, h2⟩ := below_spec hr j
  generalize SetTable.below xs j = p at *
  rw [ris_list, SetTable.toList_insertAt, List.pairwise_append]
  have hp := ris_list.mp hr
  refine ⟨hp.sublist (List.take_sublist _ _), ?_, ?_⟩
  · rw [List.pairwise_cons]
    refine ⟨fun v hv => ?_, hp.sublist (List.drop_sublist _ _)⟩
    obtain ⟨i, hi⟩ := List.mem_iff_getElem?.mp hv
    rw [List.getElem?_drop, Array.getElem?_toList] at hi
    have hle := h2 (p + i) v (by omega) hi
    by_cases e : v = j
    · subst e
      exfalso
      have hpl : p < xs.size := by have := (Array.getElem?_eq_some_iff.mp hi).1; omega
      have ep : xs[p]? = some xs[p] := Array.getElem?_eq_getElem hpl
      have g := h2 p _ (Nat.le_refl _) ep
      by_cases z : i = 0
      · subst z; exact hn hi
      · have := hr p (p + i) _ _ (by omega) ep hi; omega
    · omega
  · intro a ha b hb
    obtain ⟨i, hi⟩ := List.mem_iff_getElem?.mp ha
    rw [List.getElem?_take] at hi
    split at hi
    · rw [Array.getElem?_toList] at hi
      have h3 := h1 i a (by assumption) hi
      rcases List.mem_cons.mp hb with rfl | hb
      · exact h3
      · obtain ⟨k, hk⟩ := List.mem_iff_getElem?.mp hb
        rw [List.getElem?_drop, Array.getElem?_toList] at hk
        have := h2 _ b (Nat.le_add_right p k) hk
        omega
    · cases hi

/-- a table as int keys leave it, nothing thrown out -/
structure TOk (tx : Bool) (t : SetTable) : Prop where
  led : t.led = !tx
  dum : t.dummies = #[]
  ris : t.plain = true → Ris t.place
theorem tok_fresh (tx : Bool) : TOk tx (.fresh 0 0 (!tx)) := ⟨rfl, rfl, fun _ i k u v _ e _ => by simp [SetTable.fresh] at e⟩
theorem tok_stand {tx : Bool} {t : SetTable} (h : TOk tx t) (n : Nat) : TOk tx (t.standIn n) := ⟨h.led, rfl, fun e => by simp [SetTable.standIn] at e⟩
theorem probe_empty {t : SetTable} (hd : t.dummies = #[]) {f : Nat → Int} {h : Int} : ∀ (fuel : Nat) (p : SetTable.Probe) (j : Nat) (d : Option Nat), SetTable.probe.go t f h fuel p = some (.empty j d) → t.slot j = .empty ∧ d = p.dummy
  | 0, p, j, d, e => by simp [SetTable.probe.go] at e
  | fuel + 1, p, j, d, e => by
    unfold SetTable.probe.go at e
    have nd : t.slot p.j ≠ .dummy := by
      unfold SetTable.slot
      dsimp only
      rw [hd]
      split
      · intro z; cases z
      · simp [SetTable.has]
    have adv : (t.advance p).dummy = p.dummy := by
      unfold SetTable.advance
      split <;> rfl
    cases hs : t.slot p.j with
    | empty =>
      rw [hs] at e
      injection e with e
      injection e with e1 e2
      subst e1
      exact ⟨hs, e2.symm⟩
    | dummy => exact absurd hs nd
    | live i =>
      rw [hs] at e
      dsimp only at e
      split at e
      · cases e
      · obtain ⟨g1, g2⟩ := probe_empty hd fuel _ j d e
        exact ⟨g1, g2.trans adv⟩
theorem slot_empty {t : SetTable} {j : Nat} (h : t.slot j = .empty) : t.place[SetTable.below t.place j]? ≠ some j := by
  intro e
  unfold SetTable.slot at h
  dsimp only at h
  rw [if_pos (by rw [e]; simp)] at h
  cases h
theorem tok_put {tx : Bool} {t : SetTable} {j : Nat} (h : TOk tx t) (hj : t.slot j = .empty) : TOk tx (t.put j).1 := by
  unfold SetTable.put
  refine ⟨h.led, ?_, fun e => ris_insert (h.ris e) (slot_empty hj)⟩
  dsimp only
  rw [h.dum]
  simp [SetTable.has]
theorem tok_lay {tx : Bool} {t : SetTable} (h : TOk tx t) (es : Array (Int × Value)) (k : Int) (x : Value) : TOk tx (layNew t es k x).2.1 := by
  unfold layNew
  split
  · rename_i slot wd hf
    unfold SetTable.freeSlot at hf
    have hs : t.slot slot = .empty := by
      cases hp : t.probe (fun _ => k + 1) k (t.probeStart k) with
      | none => rw [hp] at hf; cases hf
      | some m =>
        rw [hp] at hf
        cases m with
        | candidate _ _ _ => cases hf
        | empty j d =>
          obtain ⟨g1, g2⟩ := probe_empty h.dum _ _ j d hp
          have g2 : d = none := g2
          subst g2
          injection hf with hf
          injection hf with hf _
          have hf : j = slot := hf
          rw [← hf]; exact g1
    have g := tok_put h hs
    dsimp only
    unfold SetTable.orStandIn
    split
    · exact g
    · exact tok_stand g _
  · exact tok_stand h _
theorem tok_relay {tx : Bool} {t : SetTable} (h : TOk tx t) (es : Array (Int × Value)) (n : Nat) : TOk tx (relayAll t es n).2.1 := by
  unfold relayAll
  split
  · rename_i t' order hr
    dsimp only
    split
    · unfold SetTable.relaid SetTable.laid at hr
      cases ho : SetTable.layClean (SetTable.sizeAbove n - 1) (es.map (·.1)) with
      | none => rw [ho] at hr; cases hr
      | some owner =>
        rw [ho] at hr
        injection hr with hr
        injection hr with hr _
        subst hr
        refine ⟨h.led, rfl, fun _ => ?_⟩
        rw [ris_list]
        dsimp only
        rw [List.pairwise_map]
        refine List.Pairwise.filterMap _ ?_ (List.pairwise_lt_range (n := SetTable.sizeAbove n - 1 + 1))
        intro a a' haa b hb b' hb'
        obtain ⟨_, _, rfl⟩ := Option.map_eq_some_iff.mp hb
        obtain ⟨_, _, rfl⟩ := Option.map_eq_some_iff.mp hb'
        exact haa
    · exact tok_stand h _
  · exact tok_stand h _
theorem tok_plain {tx : Bool} {t : SetTable} (h : TOk tx t) : TOk tx { t with plain := false } := ⟨h.led, h.dum, fun e => by cases e⟩

/-! ### the order that a text gives -/
theorem erase_perm {α : Type} : ∀ {l : List α} {i : Nat} (h : i < l.length), (l[i] :: l.eraseIdx i).Perm l
  | x :: l, 0, _ => .refl _
  | x :: l, i + 1, h => ((List.Perm.swap _ _ _).trans ((erase_perm (l := l) (i := i) (by simpa using h)).cons x))
theorem pick_go {α : Type} (next : Nat → Nat) : ∀ (fuel k : Nat) (left : List α) (out : Array α), left.length = fuel → (pickOrder.go next fuel k left out).toList.Perm (out.toList ++ left)
  | 0, k, left, out, h => by
    rw [List.length_eq_zero_iff.mp h]
    unfold pickOrder.go
    simp
  | fuel + 1, k, left, out, h => by
    unfold pickOrder.go
    have hl : next k % left.length < left.length := Nat.mod_lt _ (by omega)
    rw [List.getElem?_eq_getElem hl]
    dsimp only
    refine (pick_go next fuel (k + 1) _ _ (by rw [List.length_eraseIdx_of_lt hl]; omega)).trans ?_
    rw [Array.toList_push, List.append_assoc]
    refine List.Perm.append_left _ ?_
    exact erase_perm hl
theorem pick_perm {α : Type} (next : Nat → Nat) (xs : Array α) : (pickOrder next xs).toList.Perm xs.toList := by
  unfold pickOrder
  have := pick_go next xs.size 0 xs.toList #[] (by simp)
  simpa using this
end SW

set_option Elab.async false
set_option linter.all false
set_option maxRecDepth 100000
/-! SETS OF INTS, MADE FROM A LIST: what stands in them, and how their tables lie -/
namespace SW
open PySem
abbrev tx (w : World) : Bool := w.params.followText "set-order"
section
variable {prog : Program} {w : World} {A : Around} {E : Value → Shared → Prop} {s : Shared}
def SetR (prog : Program) (w : World) (h : Heap) (a : Addr) (S : Int → Bool) (n : Nat) : Prop :=
  ∃ o es ep t, h.get? a = some o ∧ o.ExactSet ∧ o.data = .set es ep t ∧ ElemsOf (intKind prog w) es.toList ∧ (∀ k, S k = true ↔ ∃ e ∈ es.toList, (intKind prog w).is k e.2 = true) ∧
    es.size < scanBound ∧ t.fits es.size = true ∧ es.size = n ∧ TOk (tx w) t
theorem SetR.at {h h' : Heap} {a : Addr} {S : Int → Bool} {n : Nat} (r : SetR prog w h a S n) (k : ∀ o, h.get? a = some o → h'.get? a = some o) : SetR prog w h' a S n := by
  obtain ⟨o, es, ep, t, ho, z⟩ := r
  exact ⟨o, es, ep, t, k o ho, z⟩
theorem SetR.congr {h : Heap} {a : Addr} {S S' : Int → Bool} {n n' : Nat} (r : SetR prog w h a S n) (e : ∀ k, S k = S' k) (en : n = n') : SetR prog w h a S' n' := by
  obtain rfl : S = S' := funext e
  subst en
  exact r
theorem setR_store {h : Heap} {a : Addr} {o : Obj} {es es' : Array (Int × Value)} {ep : Nat} {t t' : SetTable} {S' : Int → Bool} (ho : h.get? a = some o) (hex : o.ExactSet) (hd : o.data = .set es ep t)
    (hel : ElemsOf (intKind prog w) es'.toList) (hmem : ∀ k, S' k = true ↔ ∃ e ∈ es'.toList, (intKind prog w).is k e.2 = true) (hb : es'.size < scanBound) (hf : t'.fits es'.size = true) (hk : TOk (tx w) t') :
    (h.update a (Obj.putSet es' t')).get? a = some { o with data := .set es' (ep + 1) t' } ∧ SetR prog w (h.update a (Obj.putSet es' t')) a S' es'.size := by
  obtain ⟨g, _⟩ := SetOf_store (knd := intKind prog w) ho hex hd hel hmem hb hf
  exact ⟨g, _, es', ep + 1, t', g, hex, rfl, hel, hmem, hb, hf, rfl, hk⟩
theorem gave_ok (b : Bool) {s₁ : Shared} {Q' : Unit → Shared → Prop} (q : Q' () s₁) : wpAny (model prog w) A (match b with | true => rule "set.scan.the-table-gave-way" | false => pure ()) Q' E s₁ := by
  cases b
  · exact wpAny_pure q
  · exact wpAny_rule q
/-- the tail of an add: the new table is stored, and laid anew where it is too full -/
theorem tail_R {g : Bool → Sem Unit} (hg : ∀ (b : Bool) (s₁ : Shared) (Q' : Unit → Shared → Prop), Q' () s₁ → wpAny (model prog w) A (g b) Q' E s₁) {a : Addr} {o : Obj} {es es1 : Array (Int × Value)} {ep : Nat} {t t2 : SetTable} {S' : Int → Bool} {wd : Bool} {R : Option Bool → Shared → Prop}
    (ho : s.heap.get? a = some o) (hex : o.ExactSet) (hd : o.data = .set es ep t) (hel1 : ElemsOf (intKind prog w) es1.toList) (hmem1 : ∀ k, S' k = true ↔ ∃ e ∈ es1.toList, (intKind prog w).is k e.2 = true)
    (hb1 : es1.size < scanBound) (hf2 : t2.fits es1.size = true) (hk : TOk (tx w) t2) (h : ∀ h', Heap.SameBut a s.heap h' → SetR prog w h' a S' es1.size → R (some true) { s with heap := h' }) :
    wpAny (model prog w) A (do
        storeSet a es1 t2
        if (!wd && t2.tooFull) = true then do
            g (relayAll t2 es1 (SetTable.grown es1.size)).2.2
            storeSet a (relayAll t2 es1 (SetTable.grown es1.size)).1 (relayAll t2 es1 (SetTable.grown es1.size)).2.1
            pure (some true)
          else pure (some true)) R E s := by
  obtain ⟨ho1, hS1⟩ := setR_store (prog := prog) (S' := S') ho hex hd hel1 hmem1 hb1 hf2 hk
  have sb := Heap.SameBut.update s.heap a (Obj.putSet es1 t2)
  refine wpAny_bind (wpAny_storeSet_of ho hd ?_ (fits_of_scanBound hb1))
  split
  · have hp := relayAll_perm t2 es1 (SetTable.grown es1.size)
    have hfr := relayAll_fits t2 es1 (SetTable.grown es1.size)
    have hkr := tok_relay hk es1 (SetTable.grown es1.size)
    generalize relayAll t2 es1 (SetTable.grown es1.size) = L at hp hfr hkr ⊢
    obtain ⟨es2, t3, gv⟩ := L
    have hz : es2.size = es1.size := by
      have := hp.length_eq
      simpa using this
    have hb2 : es2.size < scanBound := by rw [hz]; exact hb1
    refine wpAny_bind (hg _ _ _ (wpAny_bind (wpAny_storeSet_of ho1 rfl ?_ (fits_of_scanBound hb2))))
    obtain ⟨_, hS2⟩ := setR_store (prog := prog) (S' := S') ho1 hex rfl (hel1.perm hp) (fun k => (hmem1 k).trans ⟨fun ⟨e, m, q⟩ => ⟨e, hp.mem_iff.mpr m, q⟩, fun ⟨e, m, q⟩ => ⟨e, hp.mem_iff.mp m, q⟩⟩) hb2 hfr hkr
    rw [hz] at hS2
    exact wpAny_pure (h _ (sb.trans (Heap.SameBut.update _ a _)) hS2)
  · exact wpAny_pure (h _ sb hS1)
theorem add_R {a : Addr} {S : Int → Bool} {n : Nat} {k : Int} {x : Value} {Q : Bool → Shared → Prop} (hkey : (intKind prog w).is k x = true) (hsc : x.scannable = true) (r : SetR prog w s.heap a S n) (room : n + 1 < scanBound)
    (h : ∀ h', Heap.SameBut a s.heap h' → SetR prog w h' a (fun k' => S k' || decide (k' = k)) (if S k then n else n + 1) → Q (!S k) { s with heap := h' }) :
    wpAny (model prog w) A (setAddHashed a x ((intKind prog w).hash k)) Q E s := by
  obtain ⟨o, es, ep, t, ho, hex, hd, hel, hmem, hb, hf, hn, hk⟩ := r
  unfold setAddHashed setAddHashedIn
  refine wpAny_holding (wpAny_bind (wpAny_setState_of ho hd hf ?_))
  dsimp only
  rw [byScan_of hsc hb hel]
  simp only [↓reduceIte]
  unfold setAddByScan
  refine wpAny_bind ?_
  refine wpAny_bind (wpAny_rule (wpAny_bind (wpAny_setScan_of hkey ho hd hf hel ?_)))
  cases hr : List.findIdx? (fun e => (intKind prog w).is k e.2) es.toList with
  | some j =>
    obtain ⟨hj, hpj, _⟩ := List.findIdx?_eq_some_iff_getElem.mp hr
    have hSk : S k = true := (hmem k).mpr ⟨_, List.getElem_mem hj, hpj⟩
    have q := h s.heap (Heap.SameBut.refl a s.heap) ⟨o, es, ep, t, ho, hex, hd, hel, fun k' => by
      rw [Bool.or_eq_true, decide_eq_true_eq, ← hmem k']
      exact ⟨fun z => z.elim id fun e => e ▸ hSk, .inl⟩, hb, hf, by rw [hSk]; exact hn, hk⟩
    rw [hSk] at q
    exact wpAny_pure (wpAny_pure q)
  | none =>
    have hSk : S k = false := by
      cases hq : S k with
      | false => rfl
      | true =>
        obtain ⟨e, m, p⟩ := (hmem k).mp hq
        have := List.findIdx?_eq_none_iff.mp hr e m
        rw [p] at this
        cases this
    have hperm := layNew_perm t es ((intKind prog w).hash k) x
    have hfits := layNew_fits t es ((intKind prog w).hash k) x
    have htok := tok_lay hk es ((intKind prog w).hash k) x
    dsimp only
    generalize layNew t es ((intKind prog w).hash k) x = L at hperm hfits htok ⊢
    obtain ⟨es1, t1, wd, gv⟩ := L
    dsimp only at hperm hfits htok ⊢
    rw [Array.toList_push] at hperm
    have hz : es1.size = n + 1 := by
      have := hperm.length_eq
      simpa [hn] using this
    have fin : ∀ h', Heap.SameBut a s.heap h' → SetR prog w h' a (fun k' => S k' || decide (k' = k)) es1.size → Q true { s with heap := h' } := fun h' sb r' => by
      have q := h h' sb
      rw [hSk] at q
      rw [hz] at r'
      exact q r'
    have hb1 : es1.size < scanBound := by rw [hz]; exact room
    refine wpAny_bind (gave_ok _ ?_)
    split
    · refine wpAny_bind ?_
      rw [hashByValue_scannable 8 hsc]
      refine wpAny_pure (tail_R (fun b s₁ Q' q => ?_) ho hex hd ((hel.push hkey hsc).perm hperm) (mem_push_iff hkey hmem hperm) hb1 ?_ ?_ fun h' sb r' => ?_)
      · cases b
        · exact wpAny_pure q
        · exact wpAny_rule q
      · split
        · exact hfits
        · exact SetTable.fits_plain_off hfits
      · split
        · exact htok
        · exact tok_plain htok
      · exact wpAny_pure (fin h' sb r')
    · refine wpAny_bind (wpAny_pure ?_)
      simp only [↓reduceIte]
      refine tail_R (fun b s₁ Q' q => ?_) ho hex hd ((hel.push hkey hsc).perm hperm) (mem_push_iff hkey hmem hperm) hb1 hfits htok fun h' sb r' => ?_
      · cases b
        · exact wpAny_pure q
        · exact wpAny_rule q
      · exact wpAny_pure (fin h' sb r')
end
end SW

set_option Elab.async false
set_option linter.all false
set_option maxRecDepth 100000
namespace SW
open PySem PySem.Spec PyProof.Rows
section
variable {prog : Program} {w : World} {A : Around} {E : Value → Shared → Prop} {R : Result → Shared → Prop} {I : Addr} {fp wr : List Addr} {G : Array GenState → Array GenState → Prop} {n : Nat} {P : Nat → Value → Prop} {St : Nat → Shared → Prop} {s : Shared}
abbrev metB (val : Nat → Int) (i : Nat) : Int → Bool := fun k => (firstMet val i).any (· == k)
theorem loop_R (W : WalksS prog w A.in1 I fp wr G n P St) (S : Addr) (hSf : S ∉ fp) (val : Nat → Int) (hval : ∀ i v, P i v → ∃ t, v = .int (val i) t) (hb : n + 1 < scanBound) :
    ∀ (k i : Nat) (s : Shared), n - i = k → i ≤ n → St i s → SetR prog w s.heap S (metB val i) (firstMet val i).length →
      (∀ s', Moved (S :: wr) G s s' → SetR prog w s'.heap S (metB val n) (firstMet val n).length → R (.ok (.ret .none)) s') →
      codeAny (model prog w) A (.builtin "set.update.loop" ⟨[.ref S, .ref I], []⟩) R s := by
  have nw : S ∉ wr := fun h => hSf (W.sub _ h)
  have up : ∀ b ∈ wr, b ∈ S :: wr := fun b h => List.mem_cons_of_mem _ h
  intro k
  induction k with
  | zero =>
    intro i s hk hi st r hR
    obtain rfl : i = n := by omega
    refine codeAny_builtin F.entry_set_update_loop ?_
    rw [Around.under_plainId F.plain_set_update_loop _]
    show wpAny _ A.in1 (pyNext (.ref I) >>= _) _ _ s
    refine wpAny_bind (W.done s _ _ st fun s' hm => ?_)
    show wpAny _ A.in1 (ret Value.none) _ _ s'
    exact wpAny_pure (hR s' (hm.mono up) (r.at fun o e => hm.heap S o nw e))
  | succ k ih =>
    intro i s hk hi st r hR
    have hlt : i < n := by omega
    refine codeAny_builtin F.entry_set_update_loop ?_
    rw [Around.under_plainId F.plain_set_update_loop _]
    show wpAny _ A.in1 (pyNext (.ref I) >>= _) _ _ s
    refine wpAny_bind (W.item i s _ _ hlt st fun v s' hP st' hm => ?_)
    obtain ⟨t, rfl⟩ := hval i v hP
    show wpAny _ A.in1 (holding [Value.int (val i) t] (setAdd S (.int (val i) t)) >>= _) _ _ s'
    refine wpAny_bind (wpAny_holding ?_)
    unfold setAdd
    have room : (firstMet val i).length + 1 < scanBound := by have := firstMet_length_le val i; omega
    refine wpAny_holding (wpAny_bind ((intKind prog w).pyHash (k := val i) (intKind_is _ _ _ _) (add_R (s := { s' with toks := s'.toks + 1 }) (intKind_is _ _ _ _) rfl (r.at fun o e => hm.heap S o nw e) room fun h' sb r2 => ?_)))
    have r3 : SetR prog w h' S (metB val (i + 1)) (firstMet val (i + 1)).length := r2.congr (fun k' => by show _ = (firstMet val (i + 1)).any _; rw [firstMet_succ, step_any]) (by rw [firstMet_succ, step_length])
    refine wpAny_pure ⟨plainId_quiet F.plain_set_update_loop _, ih (i + 1) _ (by omega) hlt (W.frame _ s' _ _ st' (Nat.le_succ _) fun b hb o e => ?_) r3 fun s'' hm2 r4 => ?_⟩
    · rw [sb.2 b fun z : b = S => hSf (by rw [← z]; exact hb)]; exact e
    · refine hR s'' (Moved.trans W.gtrans ((hm.mono up).then_heap (Nat.le_succ _) fun b o hb e => ?_) hm2) r4
      rw [sb.2 b fun z : b = S => hb (by rw [z]; exact List.mem_cons_self)]; exact e
abbrev set0 (w : World) : Obj := { cls := .type "set", dict := none, data := .set #[] 0 (.fresh 0 0 (!tx w)) }
theorem new_R (a : Value) {Q₁ : Value → Shared → Prop} (h : Q₁ (.ref s.heap.objs.size) { s with heap := s.heap.push (set0 w) }) :
    codeAny (model prog w) A (.call (.builtin "set.__new__") ⟨[.type "set", a], []⟩) (wants Q₁ E) s := by
  refine codeAny_of_tree ?_
  show wpAny _ A.in1 (do checkBuiltinCall "set.__new__" ⟨[.type "set", a], []⟩; again (.builtin "set.__new__" ⟨[.type "set", a], []⟩)) _ _ s
  refine wpAny_bind (wpAny_of_eq (F.newCall_set_1 a) (wpAny_pure ⟨plainId_quiet F.plain_set_new _, codeAny_builtin F.entry_set_new ?_⟩))
  rw [Around.under_plainId F.plain_set_new _]
  unfold Builtin.«set.__new__» Builtin.Frozenset.newClass
  have hsub := sub_set_self
  obtain ⟨hp, g, d, tk, os⟩ := s
  dsimp only
  wp_walk
  refine wpAny_askSetting (wpAny_pure ?_)
  dsimp only
  simp only [newObj]
  exact wpAny_bind (wpAny_alloc (wpAny_pure (wpAny_pure h)))
set_option maxHeartbeats 3200000 in
/-- set(l) of a list of ints -/
theorem set_R {l : Addr} {items : Array Value} {ns : List Int} {Q : Value → Shared → Prop} (hh : A.handled = none) (hl : s.heap.IsList l items) (hi : IntsAre items.toList ns) (hb : items.size + 1 < scanBound)
    (h : ∀ (h' : Heap) (tk : Nat), SetR prog w h' s.heap.objs.size (metB (fun i => ns.getD i 0) items.size) (firstMet (fun i => ns.getD i 0) items.size).length →
      (∀ b o, b < s.heap.objs.size → s.heap.get? b = some o → h'.get? b = some o) → Q (.ref s.heap.objs.size) { s with heap := h', toks := tk }) :
    wpAny (model prog w) A (call (.type "set") [.ref l]) Q E s := by
  obtain ⟨c, tl, hmro⟩ := F.called_set.mro
  have hmade := F.called_set.made
  have hsub := F.called_set.sub
  refine wpAny_call (codeAny_of_tree ?_)
  show wpAny _ _ (callAny (.type "set") _) _ _ _
  refine wpAny_pure ⟨Code.quiet_builtin _ (by decide +kernel), codeAny_builtin F.entry_type_call ?_⟩
  rw [Around.under_plain (weight_type_call_type "set" [.ref l] []) rfl]
  have h1 := F.called_set.notType
  have h2 := F.called_set.canCreate
  have hct := F.typeCall_set_1 (.ref l)
  repeat (any_goals (first | assumption | wp_step))
  refine codeAny_mono (new_R (.ref l) (E := E) (Q₁ := fun obj s₁ => obj = .ref s.heap.objs.size ∧ s₁ = { s with heap := s.heap.push (set0 w) }) ⟨rfl, rfl⟩) fun r s₁ hr => ?_
  cases r with
  | error e => exact hr
  | ok fl =>
    cases fl with
    | ret obj =>
      obtain ⟨rfl, rfl⟩ := hr
      have hS : (s.heap.push (set0 w)).get? s.heap.objs.size = some (set0 w) := Heap.get?_push_size _ rfl
      have hT : Shared.TypeIs { s with heap := s.heap.push (set0 w) } (.ref s.heap.objs.size) "set" := ⟨_, hS, rfl⟩
      have hli := F.called_set.init.lookup
      have hbi := F.called_set.init.bind (.ref s.heap.objs.size)
      repeat (any_goals (first | assumption | wp_step))
      refine codeAny_mono (codeAny_call_builtin (R := wants (fun r s₂ => r = .none ∧ ∃ h' tk, s₂ = { s with heap := h', toks := tk } ∧ SetR prog w h' s.heap.objs.size (metB (fun i => ns.getD i 0) items.size) (firstMet (fun i => ns.getD i 0) items.size).length ∧
          (∀ b o, b < s.heap.objs.size → s.heap.get? b = some o → h'.get? b = some o)) E) F.called_set.init.plain F.entry_set_init (check_set_init_1 hT ?_)) fun r₂ s₂ hr₂ => ?_
      · obtain ⟨ol, hol, hcl, nl, hdl⟩ := hl
        obtain ⟨ocls, odict, odata, oslots⟩ := ol
        simp only at hcl hdl
        subst hcl; subst hdl
        have hol' : (s.heap.push (set0 w)).get? l = some { cls := .type "list", dict := odict, data := .seq items nl, slots := oslots } := Heap.get?_push_of_some _ hol
        have hsls := F.sub_list_set
        have hslf := F.sub_list_frozenset
        have hne : (Value.type "list" == Value.type "dict") = false := by decide
        have hl1 : (s.heap.push (set0 w)).IsList l items := ⟨_, hol', rfl, nl, rfl⟩
        unfold Builtin.«set.__init__» noKeywords Builtin.Frozenset.updateFrom
        generalize hPI : pyIter = PI
        wp_walk
        subst hPI
        have hlS : l < s.heap.objs.size := Heap.lt_size hol
        have hh3 : A.in1.in1.in1.handled = none := by simp [hh]
        have zz : (s.heap.push (set0 w)).objs.size = s.heap.objs.size + 1 := Heap.size_push ..
        have nI : l ≠ (s.heap.push (set0 w)).objs.size := by rw [zz]; exact Nat.ne_of_lt (Nat.lt_succ_of_lt hlS)
        have nf : s.heap.objs.size ∉ [(s.heap.push (set0 w)).objs.size, l] := by
          rw [zz]
          simp only [List.mem_cons, List.mem_singleton, List.not_mem_nil, or_false, not_or]
          exact ⟨Nat.ne_of_lt (Nat.lt_succ_self _), Nat.ne_of_gt hlS⟩
        refine wpAny_pyIter_list hl1 (wpAny_bind (wpAny_runValue ?_))
        refine loop_R ((Walks.list hh3 _ l nI items).toS) s.heap.objs.size nf (fun i => ns.getD i 0) (fun i v hv => IntsAre.int_at hi i v (by rw [Array.getElem?_toList]; exact hv)) hb (items.size - 0) 0 _ (by omega) (Nat.zero_le _)
          ⟨⟨_, Heap.get?_push_size _ rfl, rfl, rfl⟩, (hl1.push _)⟩ ?hS0 ?hR
        case hS0 =>
          refine ⟨set0 w, #[], 0, _, Heap.get?_push_of_some _ hS, ⟨rfl, rfl, rfl⟩, rfl, fun e he => by simp at he, fun k => ?_, by decide, by rfl, rfl, tok_fresh _⟩
          show ([] : List Int).any _ = true ↔ _
          simp
        case hR =>
          intro s' hm r'
          obtain ⟨h', g', d', tk', os'⟩ := s'
          obtain rfl : g' = s.gens := hm.gens
          obtain rfl : d' = s.drawn := hm.drawn
          obtain rfl : os' = s.os := hm.os
          show wpAny _ _ _ _ _ _
          refine wpAny_pure ?_
          show wpAny _ _ (ret Value.none) _ _ _
          refine wpAny_pure ⟨rfl, h', tk', rfl, r', fun b o hb e => ?_⟩
          refine hm.heap b o ?_ (Heap.get?_push_of_some _ (Heap.get?_push_of_some _ e))
          rw [zz]
          simp only [List.mem_cons, List.mem_singleton, List.not_mem_nil, or_false, not_or]
          exact ⟨Nat.ne_of_lt hb, Nat.ne_of_lt (Nat.lt_succ_of_lt hb)⟩
      · cases r₂ with
        | error e => exact hr₂
        | ok fl₂ =>
          cases fl₂ with
          | ret r =>
            obtain ⟨rfl, h', tk, rfl, r', hk'⟩ := hr₂
            repeat (any_goals (first | assumption | wp_step))
            exact h _ _ r' hk'
          | _ => exact hr₂.elim
    | _ => exact hr.elim
end
end SW

set_option Elab.async false
set_option linter.all false
set_option maxRecDepth 100000
namespace SW
open PySem PySem.Spec PyProof.Rows
theorem slot_set_iter : Slot "set" "__iter__" "set.__iter__" :=
  .of (owner := "set") (n := "__iter__") (by rw [typeLookup_type, builtinLookup_eq_fast]; kernel_rfl) (by decide +kernel) (by decide +kernel) (by decide +kernel)
    (by first | exact .inl (by decide +kernel) | exact .inr (by decide +kernel)) (by rw [isSubtype_type]; kernel_rfl)
theorem slot_si_next : Slot "set_iterator" "__next__" "set_iterator.__next__" :=
  .of (owner := "set_iterator") (n := "__next__") (by rw [typeLookup_type, builtinLookup_eq_fast]; kernel_rfl) (by decide +kernel) (by decide +kernel) (by decide +kernel)
    (by first | exact .inl (by decide +kernel) | exact .inr (by decide +kernel)) (by rw [isSubtype_type]; kernel_rfl)
theorem slot_si_iter : Slot "set_iterator" "__iter__" "set_iterator.__iter__" :=
  .of (owner := "set_iterator") (n := "__iter__") (by rw [typeLookup_type, builtinLookup_eq_fast]; kernel_rfl) (by decide +kernel) (by decide +kernel) (by decide +kernel)
    (by first | exact .inl (by decide +kernel) | exact .inr (by decide +kernel)) (by rw [isSubtype_type]; kernel_rfl)
theorem entry_set_iter : entryFor table "set.__iter__" = some Builtin.«frozenset.__iter__» := entryFor_alias (id' := "frozenset.__iter__") (by kernel_rfl) rfl (by decide +kernel) (by kernel_rfl)
theorem entry_si_next : entryFor table "set_iterator.__next__" = some Builtin.«set_iterator.__next__» := entryFor_of_fast (by kernel_rfl)
theorem entry_si_iter : entryFor table "set_iterator.__iter__" = some Builtin.«dict_keyiterator.__iter__» := entryFor_alias (id' := "dict_keyiterator.__iter__") (by kernel_rfl) rfl (by decide +kernel) (by kernel_rfl)
theorem args_set_iter (a : Value) : argsOk "set.__iter__" ⟨[a], []⟩ := by unfold argsOk; kernel_rfl
theorem args_si_next (a : Value) : argsOk "set_iterator.__next__" ⟨[a], []⟩ := by unfold argsOk; kernel_rfl
theorem args_si_iter (a : Value) : argsOk "set_iterator.__iter__" ⟨[a], []⟩ := by unfold argsOk; kernel_rfl
section
variable {prog : Program} {w : World} {A : Around} {E : Value → Shared → Prop} {s : Shared}
theorem choose_ok {src : Source} {n : Nat} {Q : Nat → Shared → Prop} (hn : n ≠ 0) (h : ∀ i d, i < n → Q i { s with drawn := d }) : wpAny (model prog w) A (choose src n) Q E s := fun Γ p hΓ => by
  show Sem.wp _ _ (Sem.choose src n Sem.pure) _ _ _ _
  rw [Sem.wp_choose]
  refine ⟨hn, ?_⟩
  rw [Sem.wp_pure]
  exact h _ _ (Nat.mod_lt _ (Nat.pos_of_ne_zero hn))
theorem draw_ok {α : Type} : ∀ (n : Nat) (xs : List α) (s : Shared) {Q : List α → Shared → Prop}, xs.length = n → (∀ ys d, ys.Perm xs → Q ys { s with drawn := d }) → wpAny (model prog w) A (drawOrder n xs) Q E s
  | 0, xs, s, Q, hl, h => by
    rw [List.length_eq_zero_iff.mp hl] at h ⊢
    unfold drawOrder
    exact wpAny_pure (h [] s.drawn (.refl _))
  | n + 1, [], s, Q, hl, h => by simp at hl
  | n + 1, x :: xs, s, Q, hl, h => by
    unfold drawOrder
    refine wpAny_bind (choose_ok (by simp) fun i d hi => ?_)
    rw [List.getElem?_eq_getElem hi]
    dsimp only
    refine wpAny_bind (draw_ok n _ _ (by rw [List.length_eraseIdx_of_lt hi]; simp at hl ⊢; omega) fun ys d' hp => ?_)
    exact wpAny_pure (h _ _ ((hp.cons _).trans (erase_perm hi)))

/-- the set at a, as it lies -/
structure Lies (w : World) (h : Heap) (a : Addr) (es : Array (Int × Value)) (ep : Nat) (t : SetTable) : Prop where
  ex : ∃ o, h.get? a = some o ∧ o.ExactSet ∧ o.data = .set es ep t
  fits : t.fits es.size = true
  tok : TOk (tx w) t
theorem Lies.at {h h' : Heap} {a : Addr} {es : Array (Int × Value)} {ep : Nat} {t : SetTable} (l : Lies w h a es ep t) (k : ∀ o, h.get? a = some o → h'.get? a = some o) : Lies w h' a es ep t := by
  obtain ⟨⟨o, ho, z⟩, f, tk⟩ := l
  exact ⟨⟨o, k o ho, z⟩, f, tk⟩
theorem Lies.state {a : Addr} {es : Array (Int × Value)} {ep : Nat} {t : SetTable} {Q : (Array (Int × Value) × Nat × SetTable) → Shared → Prop} (l : Lies w s.heap a es ep t) (h : Q (es, ep, t) s) : wpAny (model prog w) A (setState a) Q E s := by
  obtain ⟨⟨o, ho, _, hd⟩, hf, _⟩ := l
  exact wpAny_setState_of ho hd hf h
theorem Lies.typeIs {a : Addr} {es : Array (Int × Value)} {ep : Nat} {t : SetTable} (l : Lies w s.heap a es ep t) : s.TypeIs (.ref a) "set" := by
  obtain ⟨⟨o, ho, hex, _⟩, _, _⟩ := l
  exact ⟨o, ho, hex.1⟩
theorem byText_ok {Q : Bool → Shared → Prop} (h : Q (tx w) s) : wpAny (model prog w) A setsByText Q E s := by
  unfold setsByText
  exact wpAny_bind (wpAny_askSetting (wpAny_pure h))
/-- the items in the order of the walk, where the iterator counts slots -/
structure Path (w : World) (a : Addr) (es : Array (Int × Value)) (ep : Nat) (t : SetTable) (vals : List Value) (slot : Nat → Nat) : Prop where
  zero : slot 0 = 0
  perm : vals.Perm (es.toList.map (·.2))
  next : ∀ {prog : Program} {A : Around} {E : Value → Shared → Prop} {s : Shared} {i : Nat} {Q : Option (Value × Nat) → Shared → Prop}, Lies w s.heap a es ep t → i ≤ vals.length → Q (vals[i]?.map fun x => (x, slot (i + 1))) s → wpAny (model prog w) A (setNext a (slot i) i ep) Q E s
theorem path_text {a : Addr} {es : Array (Int × Value)} {ep : Nat} {t : SetTable} (ht : tx w = true) : Path w a es ep t ((pickOrder (w.params.setOrder a ep) es).toList.map (·.2)) (fun _ => 0) where
  zero := rfl
  perm := (pick_perm _ es).map _
  next := by
    intro prog A E s i Q l hi h
    unfold setNext
    refine wpAny_bind (l.state ?_)
    dsimp only
    refine wpAny_bind (byText_ok ?_)
    rw [if_pos ht, if_neg (by simp)]
    refine wpAny_bind (m := setWalk a) ?_
    unfold setWalk
    refine wpAny_bind (l.state ?_)
    dsimp only
    refine wpAny_bind (byText_ok ?_)
    rw [if_pos ht]
    refine wpAny_bind (wpAny_askSetting (wpAny_pure (wpAny_pure ?_)))
    rw [List.getElem?_map, Array.getElem?_toList, Option.map_map] at h
    exact h
theorem path_place {a : Addr} {es : Array (Int × Value)} {ep : Nat} {t : SetTable} (ht : tx w = false) (hd : (!t.plain && decide (es.size > 1)) = false) (hf : t.fits es.size = true) (tk : TOk (tx w) t) :
    Path w a es ep t (es.toList.map (·.2)) (fun i => if i = 0 then 0 else t.place.getD (i - 1) 0 + 1) where
  zero := rfl
  perm := .refl _
  next := by
    intro prog A E s i Q l hi h
    have hz : t.place.size = es.size := by
      unfold SetTable.fits at hf
      simp only [Bool.and_eq_true, beq_iff_eq] at hf
      exact hf.1
    have hr : Ris t.place := by
      cases hp : t.plain with
      | true => exact tk.ris hp
      | false =>
        rw [hp] at hd
        have : ¬ es.size > 1 := by simpa using hd
        intro i k u v hik e1 e2
        have := (Array.getElem?_eq_some_iff.mp e2).1
        omega
    rw [List.length_map, Array.length_toList] at hi
    have hb : SetTable.below t.place (if i = 0 then 0 else t.place.getD (i - 1) 0 + 1) = i := by
      obtain ⟨h0, h1, h2⟩ := below_spec hr (if i = 0 then 0 else t.place.getD (i - 1) 0 + 1)
      generalize hrr : SetTable.below t.place (if i = 0 then 0 else t.place.getD (i - 1) 0 + 1) = r at h0 h1 h2
      by_cases z : i = 0
      · subst z
        rw [if_pos rfl] at h1
        by_cases hr0 : r = 0
        · exact hr0
        · have := h1 0 t.place[0] (by omega) (Array.getElem?_eq_getElem (by omega))
          omega
      · rw [if_neg z] at h1 h2
        have hl : i - 1 < t.place.size := by omega
        have eg : t.place.getD (i - 1) 0 = t.place[i - 1] := by simp [Array.getD, hl]
        rw [eg] at h1 h2
        have e1 : t.place[i - 1]? = some t.place[i - 1] := Array.getElem?_eq_getElem hl
        have g1 : ¬ r ≤ i - 1 := fun q => by have := h2 (i - 1) _ q e1; omega
        have g2 : ¬ i < r := fun q => by
          have e2 : t.place[i]? = some t.place[i] := Array.getElem?_eq_getElem (by omega)
          have q1 := h1 i _ q e2
          have q2 := hr (i - 1) i _ _ (by omega) e1 e2
          omega
        omega
    unfold setNext
    refine wpAny_bind (l.state ?_)
    dsimp only
    refine wpAny_bind (byText_ok ?_)
    rw [ht, if_neg (by simp)]
    show wpAny _ _ (if (!t.plain && decide (es.size > 1)) = true then _ else _) _ _ _
    rw [hd, if_neg (by simp)]
    have hl : t.led = true := by rw [tk.led, ht]; rfl
    refine wpAny_bind (wpAny_of_eq (a := ()) ?_ ?_)
    · show (if (!t.led && !es.isEmpty) = true then _ else _) = _
      rw [hl]
      rfl
    rw [hb]
    refine wpAny_pure ?_
    rw [List.getElem?_map, Array.getElem?_toList] at h
    by_cases hlt : i < es.size
    · rw [Array.getElem?_eq_getElem hlt] at h ⊢
      rw [Array.getElem?_eq_getElem (show i < t.place.size by omega)]
      have eg : t.place.getD (i + 1 - 1) 0 = t.place[i] := by
        have : i < t.place.size := by omega
        simp [Array.getD, this]
      rw [if_neg (by omega), eg] at h
      exact h
    · rw [Array.getElem?_eq_none (by omega)] at h ⊢
      exact h
end
end SW

set_option Elab.async false
set_option linter.all false
set_option maxRecDepth 100000
namespace SW
open PySem PySem.Spec PyProof.Rows
section
variable {prog : Program} {w : World} {A : Around} {E : Value → Shared → Prop} {s : Shared}
abbrev itObj (a : Addr) (first : Value) (i n ep : Nat) : Obj := { cls := .type "set_iterator", dict := none, data := .fields #[first, .int i 0, .ref a, .int n 0, .int ep 0], slots := #[] }
theorem Lies.entries {a : Addr} {es : Array (Int × Value)} {ep : Nat} {t : SetTable} {Q : Array (Int × Value) → Shared → Prop} (l : Lies w s.heap a es ep t) (h : Q es s) : wpAny (model prog w) A (setEntries a) Q E s := by
  unfold setEntries
  exact wpAny_bind (l.state (wpAny_pure h))
theorem si_item {it a : Addr} {es : Array (Int × Value)} {ep : Nat} {t : SetTable} {vals : List Value} {slot : Nat → Nat} {i : Nat} {x : Value} {Q : Option Value → Shared → Prop} (pth : Path w a es ep t vals slot)
    (hit : s.heap.get? it = some (itObj a (.int (slot i) 0) i es.size ep)) (l : Lies w s.heap a es ep t) (hx : vals[i]? = some x)
    (hQ : ∀ h', h'.get? it = some (itObj a (.int (slot (i + 1)) 0) (i + 1) es.size ep) → Heap.SameBut it s.heap h' → Q (some x) { s with heap := h' }) : wpAny (model prog w) A (pyNext (.ref it)) Q E s := by
  have hT : s.TypeIs (.ref it) "set_iterator" := ⟨_, hit, rfl⟩
  have hil := (List.getElem?_eq_some_iff.mp hx).1
  unfold pyNext
  refine wpAny_bind (wpAny_attempt (wpAny_callSpecial?_slot (name := Str.ofString "__next__") hT slot_si_next (wpAny_call_entry slot_si_next hT entry_si_next ?_ (args_si_next _))))
  show wpAny _ _ (fieldsOf (.ref it) >>= _) _ _ s
  refine wpAny_bind (wpAny_fieldsOf hit rfl ?_)
  show wpAny _ _ (setEntries a >>= _) _ _ s
  refine wpAny_bind (l.entries ?_)
  rw [if_neg (by simp)]
  show wpAny _ _ (setNext a ((slot i : Nat) : Int).toNat ((i : Nat) : Int).toNat ((ep : Nat) : Int).toNat >>= _) _ _ s
  rw [Int.toNat_natCast, Int.toNat_natCast, Int.toNat_natCast]
  refine wpAny_bind (pth.next l (Nat.le_of_lt hil) ?_)
  rw [hx]
  dsimp only [Option.map_some]
  refine wpAny_bind (wpAny_setField_rec hit (by simp) fun h1 g1 sb1 => ?_)
  refine wpAny_bind (wpAny_setField_rec (s := { s with heap := h1 }) g1 (by simp) fun h2 g2 sb2 => ?_)
  refine wpAny_pure ⟨x, rfl, wpAny_pure (hQ h2 ?_ (sb1.trans sb2))⟩
  rw [g2]
  simp [rawInt]
theorem si_end {it a : Addr} {es : Array (Int × Value)} {ep : Nat} {t : SetTable} {vals : List Value} {slot : Nat → Nat} {Q : Option Value → Shared → Prop} (hh : A.handled = none) (pth : Path w a es ep t vals slot)
    (hit : s.heap.get? it = some (itObj a (.int (slot vals.length) 0) vals.length es.size ep)) (l : Lies w s.heap a es ep t)
    (hQ : ∀ h', Heap.ExtBut it s.heap h' → Q none { s with heap := h' }) : wpAny (model prog w) A (pyNext (.ref it)) Q E s := by
  have hT : s.TypeIs (.ref it) "set_iterator" := ⟨_, hit, rfl⟩
  unfold pyNext
  refine wpAny_bind (wpAny_attempt (wpAny_callSpecial?_slot (name := Str.ofString "__next__") hT slot_si_next (wpAny_call_entry slot_si_next hT entry_si_next ?_ (args_si_next _))))
  show wpAny _ _ (fieldsOf (.ref it) >>= _) _ _ s
  refine wpAny_bind (wpAny_fieldsOf hit rfl ?_)
  show wpAny _ _ (setEntries a >>= _) _ _ s
  refine wpAny_bind (l.entries ?_)
  rw [if_neg (by simp)]
  show wpAny _ _ (setNext a ((slot vals.length : Nat) : Int).toNat ((vals.length : Nat) : Int).toNat ((ep : Nat) : Int).toNat >>= _) _ _ s
  rw [Int.toNat_natCast, Int.toNat_natCast, Int.toNat_natCast]
  refine wpAny_bind (pth.next l (Nat.le_refl _) ?_)
  rw [List.getElem?_eq_none (Nat.le_refl _)]
  dsimp only [Option.map_none]
  refine wpAny_bind (wpAny_setField_rec hit (by simp) fun h1 g1 sb1 => ?_)
  show wpAny _ _ (newExc (.type "StopIteration") [] >>= _) _ _ _
  refine wpAny_bind ?_
  simp only [newExc, newTuple]
  refine wpAny_bind (wpAny_newObj_type ?_ (by size_fits))
  refine wpAny_bind (m := firstArgMember _ _) (wpAny_of_eq (a := Value.none) (by first | rfl | (simp only [firstArgMember]; rfl)) ?_)
  refine wpAny_newObj_type ?_ (by size_fits)
  simp only [raiseNew]
  refine wpAny_bind (wpAny_handled ?_)
  rw [show A.in1.handled = none from hh]
  refine wpAny_bind (wpAny_pure (wpAny_throw ?_))
  refine wpAny_bind (wpAny_isInstance (T := "StopIteration") (b := true) ⟨_, Heap.get?_push_size _ rfl, rfl⟩ isSubtype_stop ?_)
  exact wpAny_pure (hQ _ ((sb1.extBut.push _).push _))
theorem si_self {it a : Addr} {first : Value} {i n ep : Nat} {Q : Value → Shared → Prop} (hit : s.heap.get? it = some (itObj a first i n ep)) (h : Q (.ref it) s) : wpAny (model prog w) A (pyIter (.ref it)) Q E s := by
  have hT : s.TypeIs (.ref it) "set_iterator" := ⟨_, hit, rfl⟩
  refine wpAny_pyIter_slot hT slot_si_iter (wpAny_call_entry slot_si_iter hT entry_si_iter ?_ (args_si_iter _))
  show wpAny _ _ (ret (.ref it)) _ _ s
  exact wpAny_pure ⟨_, rfl, "set_iterator", _, hT, slot_si_next.lookup, h⟩
theorem walk_slots {it a : Addr} {es : Array (Int × Value)} {ep : Nat} {t : SetTable} {vals : List Value} {slot : Nat → Nat} (hh : A.handled = none) (hne : a ≠ it) (pth : Path w a es ep t vals slot) :
    Walks prog w A it [it, a] [it] vals.length (fun i v => vals[i]? = some v) (fun i h => h.get? it = some (itObj a (.int (slot i) 0) i es.size ep) ∧ Lies w h a es ep t) where
  sub := fun b hb => by simp at hb; simp [hb]
  frame := fun _ _ _ st hk => ⟨hk it (by simp) _ st.1, st.2.at fun o e => hk a (by simp) o e⟩
  item := fun i s Q E hi st hQ => by
    refine si_item pth st.1 st.2 (x := vals[i]) (by simp [hi]) fun h' hit' sb => ?_
    exact hQ _ h' s.toks (by simp [hi]) ⟨hit', st.2.at fun o e => sb.extBut a o hne e⟩ (fun b o hb e => sb.extBut b o (fun h => hb (by simp [h])) e)
  done := fun s Q E st hQ => si_end hh pth st.1 st.2 fun h' he => hQ h' s.toks (fun b o hb e => he b o (fun h => hb (by simp [h])) e)
  self := fun _ _ _ _ st hQ => si_self st.1 hQ

/-! ### an order that was drawn -/
theorem sd_item {it a tp : Addr} {es : Array (Int × Value)} {ep : Nat} {t : SetTable} {ps : List Nat} {ot : Obj} {nt i j : Nat} {e : Int × Value} {Q : Option Value → Shared → Prop}
    (hit : s.heap.get? it = some (itObj a (.ref tp) i es.size ep)) (htp : s.heap.get? tp = some ot) (hot : ot.data = .seq (ps.map fun (k : Nat) => rawInt k).toArray nt) (l : Lies w s.heap a es ep t) (hj : ps[i]? = some j) (he : es[j]? = some e)
    (hQ : ∀ h', h'.get? it = some (itObj a (.ref tp) (i + 1) es.size ep) → Heap.SameBut it s.heap h' → Q (some e.2) { s with heap := h' }) : wpAny (model prog w) A (pyNext (.ref it)) Q E s := by
  have hT : s.TypeIs (.ref it) "set_iterator" := ⟨_, hit, rfl⟩
  unfold pyNext
  refine wpAny_bind (wpAny_attempt (wpAny_callSpecial?_slot (name := Str.ofString "__next__") hT slot_si_next (wpAny_call_entry slot_si_next hT entry_si_next ?_ (args_si_next _))))
  show wpAny _ _ (fieldsOf (.ref it) >>= _) _ _ s
  refine wpAny_bind (wpAny_fieldsOf hit rfl ?_)
  show wpAny _ _ (setEntries a >>= _) _ _ s
  refine wpAny_bind (l.entries ?_)
  rw [if_neg (by simp)]
  show wpAny _ _ (seqItems? (.ref tp) >>= _) _ _ s
  refine wpAny_bind (wpAny_seqItems htp hot ?_)
  dsimp only
  have e1 : (ps.map fun (k : Nat) => rawInt k).toArray[((i : Nat) : Int).toNat]? = some (rawInt j) := by
    rw [Int.toNat_natCast, List.getElem?_toArray, List.getElem?_map, hj]
    rfl
  rw [e1]
  show wpAny _ _ (setNextDrawn a ((j : Nat) : Int).toNat ((ep : Nat) : Int).toNat >>= _) _ _ s
  rw [Int.toNat_natCast, Int.toNat_natCast]
  unfold setNextDrawn
  refine wpAny_bind (wpAny_bind (l.state ?_))
  dsimp only
  rw [if_neg (by simp), he]
  refine wpAny_pure ?_
  refine wpAny_bind (wpAny_setField_rec hit (by simp) fun h1 g1 sb1 => ?_)
  refine wpAny_pure ⟨e.2, rfl, wpAny_pure (hQ h1 ?_ sb1)⟩
  rw [g1]
  simp [rawInt]
theorem sd_end {it a tp : Addr} {es : Array (Int × Value)} {ep : Nat} {t : SetTable} {ps : List Nat} {ot : Obj} {nt : Nat} {Q : Option Value → Shared → Prop} (hh : A.handled = none)
    (hit : s.heap.get? it = some (itObj a (.ref tp) ps.length es.size ep)) (htp : s.heap.get? tp = some ot) (hot : ot.data = .seq (ps.map fun (k : Nat) => rawInt k).toArray nt) (l : Lies w s.heap a es ep t)
    (hQ : ∀ h', Heap.ExtBut it s.heap h' → Q none { s with heap := h' }) : wpAny (model prog w) A (pyNext (.ref it)) Q E s := by
  have hT : s.TypeIs (.ref it) "set_iterator" := ⟨_, hit, rfl⟩
  unfold pyNext
  refine wpAny_bind (wpAny_attempt (wpAny_callSpecial?_slot (name := Str.ofString "__next__") hT slot_si_next (wpAny_call_entry slot_si_next hT entry_si_next ?_ (args_si_next _))))
  show wpAny _ _ (fieldsOf (.ref it) >>= _) _ _ s
  refine wpAny_bind (wpAny_fieldsOf hit rfl ?_)
  show wpAny _ _ (setEntries a >>= _) _ _ s
  refine wpAny_bind (l.entries ?_)
  rw [if_neg (by simp)]
  show wpAny _ _ (seqItems? (.ref tp) >>= _) _ _ s
  refine wpAny_bind (wpAny_seqItems htp hot ?_)
  dsimp only
  have e1 : (ps.map fun (k : Nat) => rawInt k).toArray[((ps.length : Nat) : Int).toNat]? = none := by
    rw [Int.toNat_natCast, List.getElem?_toArray, List.getElem?_eq_none (by simp)]
  rw [e1]
  dsimp only
  refine wpAny_bind (wpAny_setField_rec hit (by simp) fun h1 g1 sb1 => ?_)
  refine wpAny_bind (wpAny_setField_rec (s := { s with heap := h1 }) g1 (by simp) fun h2 g2 sb2 => ?_)
  show wpAny _ _ (newExc (.type "StopIteration") [] >>= _) _ _ _
  refine wpAny_bind ?_
  simp only [newExc, newTuple]
  refine wpAny_bind (wpAny_newObj_type ?_ (by size_fits))
  refine wpAny_bind (m := firstArgMember _ _) (wpAny_of_eq (a := Value.none) (by first | rfl | (simp only [firstArgMember]; rfl)) ?_)
  refine wpAny_newObj_type ?_ (by size_fits)
  simp only [raiseNew]
  refine wpAny_bind (wpAny_handled ?_)
  rw [show A.in1.handled = none from hh]
  refine wpAny_bind (wpAny_pure (wpAny_throw ?_))
  refine wpAny_bind (wpAny_isInstance (T := "StopIteration") (b := true) ⟨_, Heap.get?_push_size _ rfl, rfl⟩ isSubtype_stop ?_)
  exact wpAny_pure (hQ _ (((sb1.trans sb2).extBut.push _).push _))
theorem walk_drawn {it a tp : Addr} {es : Array (Int × Value)} {ep : Nat} {t : SetTable} {ps : List Nat} (hh : A.handled = none) (hne : a ≠ it) (hne2 : tp ≠ it) (hp : ∀ (i j : Nat), ps[i]? = some j → j < es.size) :
    Walks prog w A it [it, a, tp] [it] ps.length (fun i v => ∃ j e, ps[i]? = some j ∧ es[j]? = some e ∧ v = e.2) (fun i h => h.get? it = some (itObj a (.ref tp) i es.size ep) ∧ Lies w h a es ep t ∧ ∃ ot nt, h.get? tp = some ot ∧ ot.data = .seq (ps.map fun (k : Nat) => rawInt k).toArray nt) where
  sub := fun b hb => by simp at hb; simp [hb]
  frame := fun _ _ _ st hk => ⟨hk it (by simp) _ st.1, st.2.1.at fun o e => hk a (by simp) o e, by obtain ⟨_, _, ot, nt, g1, g2⟩ := st; exact ⟨ot, nt, hk tp (by simp) _ g1, g2⟩⟩
  item := fun i s Q E hi st hQ => by
    obtain ⟨st1, st2, ot, nt, g1, g2⟩ := st
    have ej : ps[i]? = some ps[i] := List.getElem?_eq_getElem hi
    have ee : es[ps[i]]? = some (es[ps[i]]'(hp i _ ej)) := Array.getElem?_eq_getElem (hp i _ ej)
    refine sd_item st1 g1 g2 st2 ej ee fun h' hit' sb => ?_
    exact hQ _ h' s.toks ⟨_, _, ej, ee, rfl⟩ ⟨hit', st2.at fun o e => sb.extBut a o hne e, ot, nt, sb.extBut tp _ hne2 g1, g2⟩ (fun b o hb e => sb.extBut b o (fun h => hb (by simp [h])) e)
  done := fun s Q E st hQ => by
    obtain ⟨st1, st2, ot, nt, g1, g2⟩ := st
    exact sd_end hh st1 g1 g2 st2 fun h' he => hQ h' s.toks (fun b o hb e => he b o (fun h => hb (by simp [h])) e)
  self := fun _ _ _ _ st hQ => si_self st.1 hQ
end
end SW

set_option Elab.async false
set_option linter.all false
set_option maxRecDepth 100000
namespace SW
open PySem PySem.Spec PyProof.Rows
theorem look_set_len : typeLookup (.type "set") "__len__" = pure (some (.builtin "set.__len__")) := by rw [typeLookup_type, builtinLookup_eq_fast]; kernel_rfl
theorem split_set_len : splitId "set.__len__" = some ("set", "__len__") := by decide +kernel
section
variable {prog : Program} {w : World} {A : Around} {E : Value → Shared → Prop} {s : Shared}
theorem pick_map (L : List Value) : ∀ ps : List Nat, (∀ j ∈ ps, j < L.length) → ps.filterMap (fun j => L[j]?) = ps.map fun j => (L[j]?).getD .none
  | [], _ => rfl
  | j :: ps, h => by
    have hl := h j (by simp)
    rw [List.filterMap_cons, List.map_cons, List.getElem?_eq_getElem hl, pick_map L ps fun k hk => h k (by simp [hk])]
    rfl
theorem set_iter {a : Addr} {es : Array (Int × Value)} {ep : Nat} {t : SetTable} {Q : Value → Shared → Prop} (l : Lies w s.heap a es ep t) (hz : es.size ≤ 1000)
    (h1 : ∀ vals slot, Path w a es ep t vals slot → Q (.ref s.heap.objs.size) { s with heap := s.heap.push (itObj a (.int (slot 0) 0) 0 es.size ep) })
    (h2 : ∀ (ps : List Nat) (d : Drawn), ps.Perm (List.range es.size) → Q (.ref (s.heap.objs.size + 1)) { s with heap := (s.heap.push (seqObj "tuple" (ps.map fun (k : Nat) => rawInt k).toArray 0)).push (itObj a (.ref s.heap.objs.size) 0 es.size ep), drawn := d }) :
    wpAny (model prog w) A (pyIter (.ref a)) Q E s := by
  refine wpAny_pyIter_slot l.typeIs slot_set_iter (wpAny_call_entry slot_set_iter l.typeIs entry_set_iter ?_ (args_set_iter _))
  show wpAny _ _ (Builtin.Frozenset.sizeOf a >>= _) _ _ s
  unfold Builtin.Frozenset.sizeOf
  refine wpAny_bind (wpAny_bind (l.entries (wpAny_pure ?_)))
  refine wpAny_bind (m := setDrawn a) ?_
  unfold setDrawn
  refine wpAny_bind (l.state ?_)
  dsimp only
  refine wpAny_bind (byText_ok (wpAny_pure ?_))
  show wpAny _ _ (if (!tx w && (!t.plain && decide (es.size > 1))) = true then _ else _) _ _ s
  by_cases hd : (!tx w && (!t.plain && decide (es.size > 1))) = true
  · rw [if_pos hd]
    refine wpAny_bind (m := drawOrder es.size (List.range es.size)) (draw_ok es.size (List.range es.size) s (by simp) fun ps d hp => ?_)
    refine wpAny_bind (wpAny_newTuple ?_ (by
      have := hp.length_eq
      rw [List.length_range] at this
      rw [List.length_map, this, sizeLine_eq]
      omega))
    refine wpAny_bind (m := setEpoch a) ?_
    unfold setEpoch
    have l2 : Lies w (s.heap.push (seqObj "tuple" (ps.map fun (k : Nat) => rawInt k).toArray 0)) a es ep t := l.at fun o e => Heap.get?_push_of_some _ e
    refine wpAny_bind (Lies.state (s := { s with heap := s.heap.push (seqObj "tuple" (ps.map fun (k : Nat) => rawInt k).toArray 0), drawn := d }) l2 (wpAny_pure ?_))
    have zz : (s.heap.push (seqObj "tuple" (ps.map fun (k : Nat) => rawInt k).toArray 0)).objs.size = s.heap.objs.size + 1 := Heap.size_push ..
    refine wpAny_bind (wpAny_newObj_type (wpAny_pure ⟨_, rfl, "set_iterator", _, ⟨_, Heap.get?_push_size _ rfl, rfl⟩, slot_si_next.lookup, ?_⟩))
    have := h2 ps d hp
    rw [← zz] at this
    exact this
  · rw [if_neg hd]
    refine wpAny_bind (wpAny_pure ?_)
    refine wpAny_bind (m := setEpoch a) ?_
    unfold setEpoch
    refine wpAny_bind (l.state (wpAny_pure ?_))
    refine wpAny_bind (wpAny_newObj_type (wpAny_pure ⟨_, rfl, "set_iterator", _, ⟨_, Heap.get?_push_size _ rfl, rfl⟩, slot_si_next.lookup, ?_⟩))
    cases ht : tx w with
    | true => exact h1 _ _ (path_text ht)
    | false =>
      rw [ht] at hd
      have hd' : (!t.plain && decide (es.size > 1)) = false := by simpa using hd
      exact h1 _ _ (path_place ht hd' l.fits l.tok)
theorem ext_tail {L it a : Addr} {es : Array (Int × Value)} {ep : Nat} {t : SetTable} {xs : List String} {R : PySem.Fin → Shared → Prop} (l : Lies w s.heap a es ep t) (hL : s.heap.get? L = some { cls := .type "list", dict := none, data := .seq #[] 0, slots := #[] })
    (hx : xs.any (fun x => Value.type "set" == Value.type x) = true)
    (hK : ∀ h' c, h'.get? L = some { cls := .type "list", dict := none, data := .seq #[] c, slots := #[] } → Heap.SameBut L s.heap h' → R (.again (.builtin "list.extend.loop" ⟨[.ref L, .ref it, .ref L], []⟩)) { s with heap := h' }) :
    wpAny (model prog w) A (do
      let room ← holding [.ref it] (Builtin.List.listLengthHint (.ref a))
      if room || xs.any (Value.type "set" == .type ·) then rule "list.extend.makes-room"; Builtin.List.listTouch (.ref L)
      again (.builtin "list.extend.loop" ⟨[.ref L, .ref it, .ref L], []⟩)) R E s := by
  have hT := l.typeIs
  refine wpAny_bind (wpAny_holding ?_)
  unfold Builtin.List.listLengthHint
  refine wpAny_bind (wpAny_specialOf hT look_set_len ?_)
  dsimp only
  rw [split_set_len]
  refine wpAny_bind (wpAny_isInstance (b := true) hT (by rw [isSubtype_type]; kernel_rfl) ?_)
  rw [if_neg (by decide)]
  rw [if_pos (by decide +kernel)]
  refine wpAny_bind (wpAny_typeOf hT (wpAny_pure ?_))
  rw [if_pos (by rw [hx]; rfl)]
  refine wpAny_bind (wpAny_rule (wpAny_bind ?_))
  show wpAny _ _ (updateSeq L (·.push .none) >>= fun _ => updateSeq L (·.pop)) _ _ _
  have g1 := Heap.get?_update_self (Obj.mapSeq (·.push Value.none)) hL rfl
  refine wpAny_bind (wpAny_updateSeq hL rfl (wpAny_updateSeq g1 rfl ?_))
  have g2 := Heap.get?_update_self (Obj.mapSeq (·.pop)) g1 rfl
  exact wpAny_pure (hK _ _ g2 ((Heap.SameBut.update ..).trans (Heap.SameBut.update ..)))
/-- the walk's end: the list at the front, all its items, whatever came between -/
theorem collect_set {a : Addr} {es : Array (Int × Value)} {ep : Nat} {t : SetTable} {Q : List Value → Shared → Prop} (hh : A.handled = none) (l : Lies w s.heap a es ep t) (hz : es.size ≤ 1000)
    (h : ∀ vs s', vs.Perm (es.toList.map (·.2)) → (∀ b o, s.heap.get? b = some o → s'.heap.get? b = some o) → s'.gens = s.gens → s'.os = s.os → Q vs s') : wpAny (model prog w) A (collect (.ref a)) Q E s := by
  have hlt : a < s.heap.objs.size := by obtain ⟨⟨o, ho, _⟩, _, _⟩ := l; exact Heap.lt_size ho
  have hzl : es.size ≤ sizeLine := by rw [sizeLine_eq]; omega
  unfold collect
  refine wpAny_bind (wpAny_runValue (codeAny_builtin F.entry_proto_collect ?_))
  rw [Around.under_plainId F.plain_proto_collect _]
  show wpAny _ A.in1 (newList [] >>= fun l => again (.builtin "list.__iadd__" ⟨[l, .ref a], []⟩)) _ _ s
  refine wpAny_bind (wpAny_newObj_type (wpAny_pure ⟨plainId_quiet F.plain_list_iadd _, codeAny_builtin F.entry_list_iadd ?_⟩))
  rw [Around.under_plainId F.plain_list_iadd _]
  generalize hL0 : s.heap.push { cls := Value.type "list", dict := none, data := .seq ([] : List Value).toArray 0, slots := #[] } = g0
  have z0 : g0.objs.size = s.heap.objs.size + 1 := by rw [← hL0]; exact Heap.size_push ..
  have up0 : ∀ b o, s.heap.get? b = some o → g0.get? b = some o := fun b o e => by rw [← hL0]; exact Heap.get?_push_of_some _ e
  have at0 : g0.get? s.heap.objs.size = some { cls := .type "list", dict := none, data := .seq #[] 0, slots := #[] } := by rw [← hL0]; exact Heap.get?_push_size _ rfl
  have l0 : Lies w g0 a es ep t := l.at fun o e => up0 a o e
  have hsr : Builtin.List.listSameRef (.ref s.heap.objs.size) (.ref a) = false := by simp [Builtin.List.listSameRef, Nat.ne_of_gt hlt]
  show wpAny _ A.in1 (Builtin.List.listExtendWith (.ref s.heap.objs.size) (.ref a) (.ref s.heap.objs.size)) _ _ { s with heap := g0 }
  unfold Builtin.List.listExtendWith
  refine wpAny_bind (wpAny_typeOf (Lies.typeIs (s := { s with heap := g0 }) l0) ?_)
  rw [if_neg (by rw [hsr]; decide)]
  refine wpAny_bind (set_iter (s := { s with heap := g0 }) l0 hz (fun vals slot pth => ?_) (fun ps d hp => ?_))
  · have hit : (g0.push (itObj a (.int (slot 0) 0) 0 es.size ep)).get? g0.objs.size = some (itObj a (.int (slot 0) 0) 0 es.size ep) := Heap.get?_push_size _ rfl
    have upi : ∀ b o, g0.get? b = some o → (g0.push (itObj a (.int (slot 0) 0) 0 es.size ep)).get? b = some o := fun b o e => Heap.get?_push_of_some _ e
    have nLi : s.heap.objs.size ≠ g0.objs.size := by rw [z0]; exact Nat.ne_of_lt (Nat.lt_succ_self _)
    have nai : a ≠ g0.objs.size := by rw [z0]; exact Nat.ne_of_lt (Nat.lt_succ_of_lt hlt)
    have hvl : vals.length = es.size := by have := pth.perm.length_eq; simpa using this
    refine ext_tail (s := { s with heap := g0.push (itObj a (.int (slot 0) 0) 0 es.size ep) }) (l0.at fun o e => upi a o e) (upi _ _ at0) (by decide +kernel) fun h' c hL' sb => ?_
    refine ⟨plainId_quiet F.plain_extend_loop _, codeAny_extend_loopS (walk_slots (prog := prog) (A := A.in1.in1) (by simp [hh]) nai pth).toS.of_in1 (by rw [hvl]; exact hzl) s.heap.objs.size (by simp [nLi, Nat.ne_of_gt hlt]) _ (vals.length - 0) 0 _ #[] c (by omega) (Nat.zero_le _)
      ⟨sb.extBut _ _ (Ne.symm nLi) hit, (l0.at fun o e => upi a o e).at fun o e => sb.extBut _ _ (Nat.ne_of_lt hlt) e⟩ hL' (ItemsOf.nil _) fun s' acc c' hm hS' hacc => ?_⟩
    show wpAny _ A (load s.heap.objs.size >>= _) _ _ s'
    refine wpAny_bind (wpAny_load hS' (wpAny_pure (h _ _ ?_ ?_ hm.gens hm.os)))
    · have e : acc.toList = vals := by
        apply List.ext_getElem?
        intro i
        by_cases hi : i < acc.size
        · rw [Array.getElem?_toList, Array.getElem?_eq_getElem hi]
          exact (hacc.2 i _ (Array.getElem?_eq_getElem hi)).symm
        · rw [List.getElem?_eq_none (by simpa using hi), List.getElem?_eq_none (by rw [← hacc.1]; omega)]
      rw [e]
      exact pth.perm
    · intro b o e
      have hb := Heap.lt_size e
      refine hm.heap b o ?_ (sb.extBut b o (Nat.ne_of_lt hb) (upi b o (up0 b o e)))
      have n1 : b ≠ s.heap.objs.size := Nat.ne_of_lt hb
      have n2 : b ≠ g0.objs.size := by rw [z0]; exact Nat.ne_of_lt (Nat.lt_succ_of_lt hb)
      simp [n1, n2]
  · generalize hto : seqObj "tuple" (ps.map fun (k : Nat) => rawInt k).toArray 0 = to
    have z1 : (g0.push to).objs.size = g0.objs.size + 1 := Heap.size_push ..
    have hit : ((g0.push to).push (itObj a (.ref g0.objs.size) 0 es.size ep)).get? (g0.objs.size + 1) = some (itObj a (.ref g0.objs.size) 0 es.size ep) := by rw [← z1]; exact Heap.get?_push_size _ rfl
    have htp : ((g0.push to).push (itObj a (.ref g0.objs.size) 0 es.size ep)).get? g0.objs.size = some to := Heap.get?_push_of_some _ (Heap.get?_push_size _ (by rw [← hto]; rfl))
    have upi : ∀ b o, g0.get? b = some o → ((g0.push to).push (itObj a (.ref g0.objs.size) 0 es.size ep)).get? b = some o := fun b o e => Heap.get?_push_of_some _ (Heap.get?_push_of_some _ e)
    have nLi : s.heap.objs.size ≠ g0.objs.size + 1 := by rw [z0]; exact Nat.ne_of_lt (Nat.lt_succ_of_lt (Nat.lt_succ_self _))
    have nLt : s.heap.objs.size ≠ g0.objs.size := by rw [z0]; exact Nat.ne_of_lt (Nat.lt_succ_self _)
    have nai : a ≠ g0.objs.size + 1 := by rw [z0]; exact Nat.ne_of_lt (Nat.lt_succ_of_lt (Nat.lt_succ_of_lt hlt))
    have hvl : ps.length = es.size := by have := hp.length_eq; simpa using this
    have hps : ∀ (i j : Nat), ps[i]? = some j → j < es.size := fun i j e => List.mem_range.mp (hp.mem_iff.mp (List.mem_of_getElem? e))
    refine ext_tail (s := { s with heap := (g0.push to).push (itObj a (.ref g0.objs.size) 0 es.size ep), drawn := d }) (l0.at fun o e => upi a o e) (upi _ _ at0) (by decide +kernel) fun h' c hL' sb => ?_
    refine ⟨plainId_quiet F.plain_extend_loop _, codeAny_extend_loopS (walk_drawn (prog := prog) (A := A.in1.in1) (tp := g0.objs.size) (t := t) (by simp [hh]) nai (Nat.ne_of_lt (Nat.lt_succ_self _)) hps).toS.of_in1 (by rw [hvl]; exact hzl) s.heap.objs.size (by simp [nLi, nLt, Nat.ne_of_gt hlt]) _ (ps.length - 0) 0 _ #[] c (by omega) (Nat.zero_le _)
      ⟨sb.extBut _ _ (Ne.symm nLi) hit, (l0.at fun o e => upi a o e).at fun o e => sb.extBut _ _ (Nat.ne_of_lt hlt) e, to, 0, sb.extBut _ _ (Ne.symm nLt) htp, by rw [← hto]⟩ hL' (ItemsOf.nil _) fun s' acc c' hm hS' hacc => ?_⟩
    show wpAny _ A (load s.heap.objs.size >>= _) _ _ s'
    refine wpAny_bind (wpAny_load hS' (wpAny_pure (h _ _ ?_ ?_ hm.gens hm.os)))
    · have e : acc.toList = ps.filterMap fun j => (es.toList.map (·.2))[j]? := by
        have e2 := pick_map (es.toList.map (·.2)) ps fun j hj => by simpa using List.mem_range.mp (hp.mem_iff.mp hj)
        rw [e2]
        apply List.ext_getElem?
        intro i
        by_cases hi : i < acc.size
        · rw [Array.getElem?_toList, Array.getElem?_eq_getElem hi]
          obtain ⟨j, e, h1, h2, h3⟩ := hacc.2 i _ (Array.getElem?_eq_getElem hi)
          rw [List.getElem?_map, h1, h3]
          simp [h2]
        · rw [List.getElem?_eq_none (by simpa using hi), List.getElem?_eq_none (by rw [List.length_map, ← hacc.1]; omega)]
      rw [e]
      have p1 := hp.filterMap (fun j => (es.toList.map (·.2))[j]?)
      refine p1.trans ?_
      have p2 := List.filterMap_getElem?_range_length (es.toList.map (·.2))
      rw [List.length_map, Array.length_toList] at p2
      rw [p2]
    · intro b o e
      have hb := Heap.lt_size e
      refine hm.heap b o ?_ (sb.extBut b o (Nat.ne_of_lt hb) (upi b o (up0 b o e)))
      have n1 : b ≠ s.heap.objs.size := Nat.ne_of_lt hb
      have n2 : b ≠ g0.objs.size + 1 := by rw [z0]; exact Nat.ne_of_lt (Nat.lt_succ_of_lt (Nat.lt_succ_of_lt hb))
      simp [n1, n2]
end
end SW

set_option Elab.async false
set_option linter.all false
set_option maxRecDepth 100000
namespace SW
open PySem PySem.Spec PyProof.Rows
theorem ints_cons {v : Value} {vs : List Value} {ks : List Int} (h : IntsAre (v :: vs) ks) : ∃ k t ks', v = .int k t ∧ ks = k :: ks' ∧ IntsAre vs ks' := by
  cases h with
  | cons n t hr => exact ⟨n, t, _, rfl, rfl, hr⟩
theorem ints_perm {vs vs' : List Value} (p : vs.Perm vs') : ∀ {ks : List Int}, IntsAre vs' ks → ∃ ks', IntsAre vs ks' ∧ ks'.Perm ks := by
  induction p with
  | nil => intro ks h; exact ⟨ks, h, .refl _⟩
  | cons x _ ih =>
    intro ks h
    obtain ⟨k, t, ks', rfl, rfl, hr⟩ := ints_cons h
    obtain ⟨q, h1, h2⟩ := ih hr
    exact ⟨k :: q, .cons k t h1, h2.cons k⟩
  | swap x y l =>
    intro ks h
    obtain ⟨k, t, ks', rfl, rfl, hr⟩ := ints_cons h
    obtain ⟨k2, t2, ks2, rfl, rfl, hr2⟩ := ints_cons hr
    exact ⟨k2 :: k :: ks2, .cons k2 t2 (.cons k t hr2), .swap _ _ _⟩
  | trans _ _ ih1 ih2 =>
    intro ks h
    obtain ⟨k1, a1, p1⟩ := ih2 h
    obtain ⟨k2, a2, p2⟩ := ih1 a1
    exact ⟨k2, a2, p2.trans p1⟩
section
variable {prog : Program} {w : World} {A : Around} {E : Value → Shared → Prop} {s : Shared}
theorem is_int {k : Int} {v : Value} (h : (intKind prog w).is k v = true) : ∃ t, v = .int k t := by
  have h : v.isInt k = true := h
  cases v with
  | int n t =>
    have : n = k := by simpa [Value.isInt] using h
    exact ⟨t, by rw [this]⟩
  | _ => simp [Value.isInt] at h
theorem sorted_set {a : Addr} {es : Array (Int × Value)} {ep : Nat} {t : SetTable} {ks : List Int} {Q : Value → Shared → Prop} (hh : A.handled = none) (l : Lies w s.heap a es ep t) (hI : IntsAre (es.toList.map (·.2)) ks) (h64 : es.size < 64)
    (h : ∀ (r : Addr) (out : Array Value) (n : Nat) (ms : List Int) (s' : Shared), IntsAre out.toList ms → ms.Perm ks → ms.Pairwise (· ≤ ·) → s'.heap.get? r = some (seqObj "list" out n) → s.heap.get? r = none → (∀ b o, s.heap.get? b = some o → s'.heap.get? b = some o) → s'.gens = s.gens → s'.os = s.os → Q (.ref r) s') :
    wpAny (model prog w) A (call (.builtin "sorted") [.ref a]) Q E s := by
  refine Calls.call_function_entry kind_sorted plain_sorted entry_sorted (args_sorted1 _) ?_
  unfold Builtin.«sorted»
  refine wpAny_bind (m := checkCount "sorted" 1 1 _) (wpAny_pure ?_)
  refine wpAny_bind (collect_set (by simp [hh]) l (by omega) fun vs s1 hp k1 hg ho => ?_)
  refine wpAny_bind (wpAny_newList ?_ (by
    have : vs.length = es.size := by simpa using hp.length_eq
    rw [this, sizeLine_eq]
    omega))
  obtain ⟨ks1, hI1, hp1⟩ := ints_perm hp hI
  have hvl : vs.length < 64 := by
    have : vs.length = es.size := by simpa using hp.length_eq
    omega
  have hL : (s1.heap.push (seqObj "list" vs.toArray 0)).get? s1.heap.objs.size = some (seqObj "list" vs.toArray 0) := Heap.get?_push_size _ rfl
  show wpAny _ _ _ _ _ { s1 with heap := s1.heap.push (seqObj "list" vs.toArray 0) }
  refine wpAny_bind (wpAny_holding (wpAny_call_entry slot_list_sort ⟨_, hL, rfl⟩ entry_list_sort (list_sort_tree hL hI1 hvl fun out ns' a1 a2 a3 => ⟨_, rfl, ?_⟩) (args_list_sort _)))
  obtain ⟨e, he⟩ := sortedHeap_at (out := out) hL
  refine wpAny_pure ⟨_, rfl, h s1.heap.objs.size out e ns' _ a1 (a2.trans hp1) a3 he ?_ (fun b o q => ?_) hg ho⟩
  · cases q : s.heap.get? s1.heap.objs.size with
    | none => rfl
    | some o => exact absurd (Heap.lt_size (k1 _ _ q)) (Nat.lt_irrefl _)
  · have q1 := k1 b o q
    have hb := Heap.lt_size q1
    have zz := size_push' s1.heap (seqObj "list" vs.toArray 0)
    have hb2 : b < (s1.heap.push (seqObj "list" vs.toArray 0)).objs.size := by rw [zz]; exact Nat.lt_succ_of_lt hb
    have hne : b ≠ s1.heap.objs.size := Nat.ne_of_lt hb
    have g := sortedHeap_old (vs := vs) (out := out) hne hb2
    have g2 := Heap.get?_push_of_some (seqObj "list" vs.toArray 0) q1
    rw [g2] at g
    exact g
/-- what a set of ints holds, told once each -/
theorem SetR.lies {h : Heap} {a : Addr} {S : Int → Bool} {n : Nat} (r : SetR prog w h a S n) : ∃ es ep t ks, Lies w h a es ep t ∧ IntsAre (es.toList.map (·.2)) ks ∧ es.size = n ∧ ∀ k, k ∈ ks ↔ S k = true := by
  obtain ⟨o, es, ep, t, ho, hex, hd, hel, hmem, hb, hf, hn, hk⟩ := r
  have go : ∀ l : List (Int × Value), ElemsOf (intKind prog w) l → ∃ ks, IntsAre (l.map (·.2)) ks ∧ ∀ k, k ∈ ks ↔ ∃ e ∈ l, (intKind prog w).is k e.2 = true := by
    intro l
    induction l with
    | nil => intro _; exact ⟨[], .nil, by simp⟩
    | cons e l ih =>
      intro h
      obtain ⟨ks, h1, h2⟩ := ih h.tail
      obtain ⟨⟨k, hk, _⟩, _⟩ := h.head
      obtain ⟨tk, ev⟩ : ∃ t, e.2 = .int k t := is_int hk
      refine ⟨k :: ks, by rw [List.map_cons, ev]; exact .cons k tk h1, fun k' => ?_⟩
      rw [List.mem_cons, h2]
      constructor
      · rintro (rfl | ⟨e', m, q⟩)
        · exact ⟨e, by simp, hk⟩
        · exact ⟨e', by simp [m], q⟩
      · rintro ⟨e', m, q⟩
        rcases List.mem_cons.mp m with rfl | m
        · exact .inl ((intKind prog w).inj _ _ _ q hk)
        · exact .inr ⟨e', m, q⟩
  obtain ⟨ks, h1, h2⟩ := go es.toList hel
  exact ⟨es, ep, t, ks, ⟨⟨o, ho, hex, hd⟩, hf, hk⟩, h1, hn, fun k => (h2 k).trans (hmem k).symm⟩
theorem perm_of_cover : ∀ {D L : List Int}, D.Nodup → (∀ x ∈ D, x ∈ L) → L.length = D.length → L.Perm D
  | [], L, _, _, hl => by
    have : L = [] := List.length_eq_zero_iff.mp (by simpa using hl)
    rw [this]
  | d :: D, L, hn, hs, hl => by
    rw [List.nodup_cons] at hn
    have hd : d ∈ L := hs d (by simp)
    refine (List.perm_cons_erase hd).trans (List.Perm.cons d (perm_of_cover hn.2 (fun x hx => ?_) ?_))
    · have : x ≠ d := fun e => hn.1 (e ▸ hx)
      exact (List.mem_erase_of_ne this).mpr (hs x (by simp [hx]))
    · rw [List.length_erase_of_mem hd, hl]
      simp
end
end SW

set_option Elab.async false
set_option linter.all false
set_option maxRecDepth 100000
set_option maxHeartbeats 4000000
/-! SETS IN THE LAYER: set(xs) of ints, sorted(set(xs)) -/
namespace L2
open PySem PySem.Spec PyProof.Rows
theorem ObjOk.there {P : Program} {w : World} {H : Hp} {h : Heap} {a : Addr} {o : HO} (x : ObjOk P w H h a o) : ∃ u, h.get? a = some u := by
  induction o with
  | lst xs => obtain ⟨_, _, _, _, e⟩ := x; exact ⟨_, e⟩
  | tup xs => obtain ⟨_, _, _, o, e, _⟩ := x; exact ⟨_, e⟩
  | dK kvs => obtain ⟨_, _, _, _, o, _, _, e, _⟩ := x; exact ⟨_, e⟩
  | dT kvs => obtain ⟨_, _, _, _, o, _, _, e, _⟩ := x; exact ⟨_, e⟩
  | set S n => obtain ⟨o, _, _, _, e, _⟩ := x; exact ⟨_, e⟩
  | ins C dx fs => obtain ⟨_, _, _, e, _⟩ := x; exact ⟨_, e⟩
  | own _ => exact x
  | xd fs => obtain ⟨_, ⟨_, _, _, e, _⟩, _⟩ := x; exact ⟨_, e⟩
  | rng lo hi => obtain ⟨_, _, _, e⟩ := x; exact ⟨_, e⟩
  | frz o u => exact ⟨_, x.1⟩
  | tbl ps => exact ⟨_, x⟩
  | met f x' => exact ⟨_, x⟩
  | ext φ => exact x.2.1
section
variable {X : Cx} {pins : List (Addr × Obj)} {σ : St} {H : Hp} {s : Shared}
/-- a new object is laid and tracked, at whatever new place; draws may have been made -/
theorem Inv.laidN {a : Addr} {o : HO} {s' : Shared} (I : Inv X pins σ H s) (k : ∀ b u, s.heap.get? b = some u → s'.heap.get? b = some u) (hn : s.heap.get? a = none) (hg : s'.gens = s.gens) (ho : s'.os = s.os) (new : ObjOk X.prog X.w (upd H a o) s'.heap a o) :
    Inv X pins σ (upd H a o) s' := by
  obtain ⟨h', g', d', t', os'⟩ := s'
  obtain rfl : os' = s.os := ho
  obtain rfl : g' = s.gens := hg
  have Ha : H a = none := by
    cases q : H a with
    | none => rfl
    | some u =>
      obtain ⟨v, hv⟩ := (I.hok a u q).there
      rw [hn] at hv
      cases hv
  have na : ∀ b u, s.heap.get? b = some u → b ≠ a := fun b u e z => by rw [z, hn] at e; cases e
  refine I.step (ch := []) (fun b hb => absurd hb (by simp)) (fun b u _ _ _ e _ => k b u e) (fun b u _ _ _ e _ => ⟨u.slots, k b u e⟩) (fun b u _ e n => by rw [upd_ne (na b u e)]; exact n)
    (fun b u _ e => ⟨u, k b u e⟩) (fun b xs e => by rw [upd_ne (ne_of_none e Ha)]; exact e) (fun b u v e => by rw [upd_ne (ne_of_none e Ha)]; exact e) (fun b ps e => ⟨#[], by rw [upd_ne (ne_of_none e Ha), e]; simp⟩) (fun m hm => hm.keeps k) ?_ I.bare
  intro b u e
  by_cases hb : b = a
  · subst hb; rw [upd_same] at e; cases e; exact new
  · rw [upd_ne hb] at e
    exact (I.hok b u e).stay (fun c v _ q => k c v q) (fun c q => by rw [upd_ne (ne_of_none q Ha)]; exact q) fun c xs q => by rw [upd_ne (ne_of_none q Ha)]; exact q
end
section
variable {X : Cx}
/-- a set of ints made of a list: what is true of it -/
def setO (P : Program) (w : World) (l : Addr) (ns : List Int) : HO := .ext fun h => SW.SetR P w h l (SW.metB (fun i => ns.getD i 0) ns.length) (firstMet (fun i => ns.getD i 0) ns.length).length
theorem call_set_R (hc : X.calm = true) : CallR X (.type "set") (fun xs H Q => ∃ (p : Addr) (ns : List Int), xs = [.ref p] ∧ SqL X.K H p (ns.map V.int) ∧ ns.length ≤ 1000 ∧ ∀ l, H l = none → Q (.ref l) (upd H l (setO X.prog X.w l ns))) := by
  intro pins s σ H xs us Q I r h
  obtain ⟨p, ns, rfl, hq, hl, q⟩ := h
  obtain ⟨u, rfl, ru⟩ := vals1 r
  cases ru
  obtain ⟨its, rv, pl, hz⟩ := I.list hq
  have hi : IntsAre its ns := intsAre_of rv
  have hlen : its.length = ns.length := by have := rv.length; simpa using this.symm
  have ez : its.toArray.size = ns.length := by rw [List.size_toArray, hlen]
  refine SW.set_R (items := its.toArray) (ns := ns) (I.ok.hd hc) pl.isList (by simpa using hi) (by rw [ez]; exact Nat.lt_of_le_of_lt (Nat.succ_le_succ hl) (by decide)) fun h' tk hS hk => ?_
  rw [ez] at hS
  obtain ⟨o, es, ep, t, ho, _⟩ := id hS
  exact ⟨.ref s.heap.objs.size, _, I.laid (o := setO X.prog X.w s.heap.objs.size ns) (t' := tk) (fun b o e => hk b o (Heap.lt_size e) e) (Nat.le_refl _) ⟨hS, ⟨o, ho⟩, fun h1 h2 r1 k => r1.at k⟩, rfl, q _ I.fresh⟩
theorem firstMet_nodup (val : Nat → Int) : ∀ i, (firstMet val i).Nodup
  | 0 => by rw [firstMet_zero]; exact List.nodup_nil
  | i + 1 => by
    rw [firstMet_succ]
    unfold step_dedup
    have ih := firstMet_nodup val i
    split
    · exact ih
    · rename_i hn
      rw [List.nodup_append]
      refine ⟨ih, by simp, fun x hx y hy e => hn ?_⟩
      simp at hy
      rw [List.any_eq_true]
      exact ⟨x, hx, by rw [e, hy]; simp⟩
theorem mem_firstMet (ns : List Int) (k : Int) : (firstMet (fun i => ns.getD i 0) ns.length).any (· == k) = true ↔ k ∈ ns := by
  rw [firstMet_any, List.any_map, List.any_eq_true]
  constructor
  · rintro ⟨i, hi, e⟩
    have hi := List.mem_range.mp hi
    have e : ns.getD i 0 = k := by simpa using e
    rw [List.getD_eq_getElem?_getD, List.getElem?_eq_getElem hi] at e
    rw [← e]
    exact List.getElem_mem hi
  · intro h
    obtain ⟨i, hi, e⟩ := List.mem_iff_getElem.mp h
    refine ⟨i, List.mem_range.mpr hi, ?_⟩
    show (ns.getD i 0 == k) = true
    rw [List.getD_eq_getElem?_getD, List.getElem?_eq_getElem hi, ← e]
    simp
/-- sorted of such a set -/
theorem call_sorted_set (hc : X.calm = true) : CallR X (.builtin "sorted") (fun xs H Q => ∃ (p : Addr) (ns : List Int), xs = [.ref p] ∧ H p = some (setO X.prog X.w p ns) ∧ ns.length < 64 ∧
    ∀ (l : Addr) (ms : List Int), H l = none → ms.Pairwise (· < ·) → (∀ k, k ∈ ms ↔ k ∈ ns) → ms.length ≤ ns.length → Q (.ref l) (upd H l (.lst (ms.map V.int)))) := by
  intro pins s σ H xs us Q I r h
  obtain ⟨p, ns, rfl, hp, hl, q⟩ := h
  obtain ⟨u, rfl, ru⟩ := vals1 r
  cases ru
  obtain ⟨hS, _, _⟩ := (show ObjOk X.prog X.w H s.heap p (setO X.prog X.w p ns) from I.hok p _ hp)
  obtain ⟨es, ep, t, ks, L, hI, hz, hks⟩ := hS.lies
  have hle := firstMet_length_le (fun i => ns.getD i 0) ns.length
  have hkl : ks.length = (firstMet (fun i => ns.getD i 0) ns.length).length := by
    have := hI.length
    rw [List.length_map, Array.length_toList] at this
    omega
  have hmem : ∀ k, k ∈ ks ↔ k ∈ ns := fun k => (hks k).trans (mem_firstMet ns k)
  have hperm : ks.Perm (firstMet (fun i => ns.getD i 0) ns.length) := SW.perm_of_cover (firstMet_nodup _ _) (fun x hx => (hks x).mpr (by rw [List.any_eq_true]; exact ⟨x, hx, by simp⟩)) hkl
  have hnd : ks.Nodup := hperm.nodup_iff.mpr (firstMet_nodup _ _)
  refine SW.sorted_set (I.ok.hd hc) L hI (by omega) fun r out n ms s' h1 h2 h3 h4 h5 h6 h7 h8 => ?_
  have hn : H r = none := by
    cases e : H r with
    | none => rfl
    | some o =>
      obtain ⟨v, hv⟩ := (I.hok r o e).there
      rw [h5] at hv
      cases hv
  have hml : (ms.map V.int).length ≤ sizeLine := by
    rw [List.length_map, h2.length_eq, hkl]
    exact Nat.le_trans hle (Nat.le_trans (Nat.le_of_lt hl) (by decide))
  refine ⟨.ref r, _, I.laidN (o := .lst (ms.map V.int)) h6 h5 h7 h8 ⟨hml, out.toList, n, vals_ints h1, by simpa [seqObj] using h4⟩, rfl, q r ms hn ?_ (fun k => (h2.mem_iff).trans (hmem k)) (by rw [h2.length_eq, hkl]; exact hle)⟩
  have nd2 : ms.Nodup := h2.nodup_iff.mpr hnd
  rw [List.nodup_iff_pairwise_ne] at nd2
  exact (h3.and nd2).imp fun {a b} x => by omega
end
end L2

set_option Elab.async false
set_option linter.all false
set_option maxRecDepth 100000
/-! list(d.values()), of a dict with whatever keys -/
namespace SW
open PySem PySem.Spec PyProof.Rows
section
variable {prog : Program} {w : World} {A : Around} {E : Value → Shared → Prop} {s : Shared}
end
end SW

set_option Elab.async false
set_option linter.all false
set_option maxRecDepth 100000
/-! list(zip(a, b)): the tuples are kept, so that zip makes a new one at each turn -/
namespace SW
open PySem PySem.Spec PyProof.Rows
section
variable {prog : Program} {w : World} {A : Around} {E : Value → Shared → Prop} {s : Shared}
end
end SW

set_option Elab.async false
set_option linter.all false
set_option maxRecDepth 100000
set_option maxHeartbeats 4000000
/-! list(d.values()), list(zip(a, b)) in the layer -/
namespace L2
open PySem PySem.Spec PyProof.Rows
section
variable {X : Cx}
end
section
variable {X : Cx} {pins : List (Addr × Obj)} {σ : St} {H : Hp} {s : Shared}
end
section
variable {X : Cx} {pins : List (Addr × Obj)} {σ : St} {H1 : Hp} {xs ys : List V} {a b z TI TO i1 i2 L : Addr} {i : Nat} {ts : List Addr} {H2 : Hp} {s : Shared} {A : Around} {E : Value → Shared → Prop} {Q : Option Value → Shared → Prop}
end
section
variable {X : Cx} {pins : List (Addr × Obj)} {σ : St} {H1 : Hp} {xs ys : List V} {a b z TI TO i1 i2 L : Addr} {A : Around} {R : Result → Shared → Prop} {res : Value}
end
section
variable {X : Cx}
end
end L2

set_option Elab.async false
set_option linter.all false
set_option maxRecDepth 100000
set_option maxHeartbeats 4000000
/-! an exception on its way: its record and its traceback's, what stays (B), what a frame's slots do.  The context (field 2) is kept in sight: an iterator that ends inside an except suite looks at it -/
namespace L2
open PySem PySem.Spec PyProof.Rows
/-- where an exception stands: tb none: no traceback yet; some fl: one, with the flight mark fl -/
def XAt (B : Heap) (l : List Env) (e : Addr) (cls : Value) (dct : Option Addr) (tb : Option Value) (h : Heap) : Prop :=
  B.StaysIn h ∧ B.get? e = none ∧ h.FunFrames B l ∧ ∃ oe vs, h.get? e = some oe ∧ oe.cls = cls ∧ oe.dict = dct ∧ oe.data = .fields vs ∧ vs[2]? = some .none ∧
    match tb with
    | none => vs[1]? = some .none
    | some fl => ∃ T oT ts, vs[1]? = some (.ref T) ∧ B.get? T = none ∧ T ≠ e ∧ h.get? T = some oT ∧ oT.data = .fields ts ∧ ts[3]? = some fl
/-- nothing goes -/
def Thr (h h' : Heap) : Prop := ∀ b o, h.get? b = some o → ∃ o', h'.get? b = some o'
theorem Thr.trans {h h1 h2 : Heap} (a : Thr h h1) (b : Thr h1 h2) : Thr h h2 := fun c o e => let ⟨o1, e1⟩ := a c o e; b c o1 e1
theorem Thr.kept {h h' : Heap} (k : ∀ b o, h.get? b = some o → h'.get? b = some o) : Thr h h' := fun b o e => ⟨o, k b o e⟩
theorem Thr.fld {h : Heap} {a : Addr} {o : Obj} {vs : Array Value} (f : Array Value → Array Value) (e : h.get? a = some o) (hd : o.data = .fields vs) : Thr h (h.update a (Obj.mapFields f)) := fun b ob eb => by
  by_cases z : b = a
  · subst z
    exact ⟨_, Heap.get?_update_self _ e (Obj.isFreed_of_fields (Obj.data_mapFields hd _))⟩
  · exact ⟨ob, by rw [Heap.get?_update_other _ _ (Ne.symm z)]; exact eb⟩
section
variable {M : Model} {A : Around} {E : Value → Shared → Prop} {s : Shared} {B : Heap} {l outer : List Env} {e : Addr} {cls : Value} {dct : Option Addr}
theorem slots_fld {h : Heap} {a : Addr} {o : Obj} {vs : Array Value} (f : Array Value → Array Value) (e : h.get? a = some o) (hd : o.data = .fields vs) : h.UpToSlots (h.update a (Obj.mapFields f)) := fun b ob eb hn => by
  have z : b ≠ a := fun z => by subst z; rw [e] at eb; cases eb; exact hn _ hd
  exact ⟨ob.slots, by rw [Heap.get?_update_other _ _ (Ne.symm z)]; exact eb⟩
/-- a field of the exception or of its traceback is written -/
theorem frames_fld {h : Heap} {a : Addr} {o : Obj} {vs : Array Value} (f : Array Value → Array Value) (e : h.get? a = some o) (hd : o.data = .fields vs) (hl : h.FunFrames B l) : (h.update a (Obj.mapFields f)).FunFrames B l :=
  hl.of_keeps fun b ob eb hn => by
    obtain ⟨sl, z⟩ := slots_fld f e hd b ob eb hn
    exact ⟨_, z, rfl⟩
theorem stays_fld {h : Heap} {a : Addr} (f : Array Value → Array Value) (k : B.StaysIn h) (n : B.get? a = none) : B.StaysIn (h.update a (Obj.mapFields f)) := fun b o eb => by
  rw [Heap.get?_update_other _ _ (fun z => by rw [← z, n] at eb; cases eb)]
  exact k b o eb

/-- the entry of a frame is made and hung in -/
theorem x_entry {env : Env} {L : Addr} {head : Value} {hadNext : Bool} {Q : Unit → Shared → Prop} {oe : Obj} {vs : Array Value} (hfr : A.frames = some (env :: outer)) (hf : env.frame = some L)
    (hk : B.StaysIn s.heap) (hen : B.get? e = none) (hl : s.heap.FunFrames B (env :: outer)) (he : s.heap.get? e = some oe) (hd : oe.data = .fields vs) (hsz : 1 < vs.size) (h2 : vs[2]? = some .none)
    (hQ : ∀ h', XAt B (env :: outer) e oe.cls oe.dict (some (rawInt L)) h' → s.heap.UpToSlots h' → Thr s.heap h' → Q () { s with heap := h' }) :
    wpAny M A (do let a ← frameOf env; let pl ← entryPlaceOf L hadNext; let b ← EntryCells.newEntry head a .none (rawInt L) .none pl; setField (.ref e) 1 b) Q E s := by
  have hene : e ∉ (env :: outer).filterMap (·.frame) := fun hm => by
    obtain ⟨_, o, ho, hnf⟩ := hl.mem hm
    rw [he] at ho; injection ho with ho; subst ho; exact hnf vs hd
  refine wpAny_bind (wpAny_frameOf_fun hfr hl hf fun h₁ hs₁ => ?_)
  refine wpAny_bind (wpAny_entryPlaceOf fun pl hpl => ?_)
  unfold EntryCells.newEntry newFields
  refine wpAny_bind (wpAny_newObj_type ?_ (hpl.sizeOk5 _ _ _ _ _))
  have he₁ : h₁.get? e = some oe := (hs₁.2.1 e hene).trans he
  have kb₁ : B.StaysIn h₁ := fun b o hbo => (hs₁.2.1 b fun hm => by rw [(hl.mem hm).1] at hbo; cases hbo).trans (hk b o hbo)
  generalize ht : ([head, .ref L, .none, rawInt L, .none] ++ (if pl.isEmpty then List.replicate 6 Value.none else pl)).toArray = tvs
  have ht3 : tvs[3]? = some (rawInt L) := by rw [← ht]; rcases hpl with rfl | ⟨_, _, _, _, _, _, _, rfl⟩ <;> simp
  have he₂ := Heap.get?_push_of_some (h := h₁) { cls := .type "traceback", dict := none, data := .fields tvs } he₁
  have sl₁ : s.heap.UpToSlots h₁ := fun b o hb _ => hs₁.2.2 b o hb
  have th₁ : Thr s.heap h₁ := fun b o hb => let ⟨sl, z⟩ := hs₁.2.2 b o hb; ⟨_, z⟩
  have fr₁ : h₁.FunFrames B (env :: outer) := hl.of_keeps fun b o hb hn => let ⟨sl, z⟩ := sl₁ b o hb hn; ⟨_, z, rfl⟩
  have kp : ∀ b o, h₁.get? b = some o → (h₁.push { cls := .type "traceback", dict := none, data := .fields tvs }).get? b = some o := fun b o hb => Heap.get?_push_of_some _ hb
  refine wpAny_setField he₂ hd hsz (hQ _ ⟨stays_fld _ (fun b o hb => kp b o (kb₁ b o hb)) hen, hen, frames_fld _ he₂ hd (fr₁.of_keeps fun b o hb _ => ⟨o, kp b o hb, rfl⟩), ?_⟩ (sl₁.trans ((Heap.UpToSlots.of_keeps kp).trans (slots_fld _ he₂ hd))) (th₁.trans ((Thr.kept kp).trans (Thr.fld _ he₂ hd))))
  have hTe : h₁.objs.size ≠ e := Nat.ne_of_gt (Heap.lt_size he₁)
  have hd₃ := Obj.data_mapFields hd (·.setIfInBounds 1 (Value.ref h₁.objs.size))
  exact ⟨_, _, Heap.get?_update_self _ he₂ (Obj.isFreed_of_fields hd₃), Obj.cls_mapFields _ _, by cases oe; simp only at hd; subst hd; rfl, hd₃, by rw [Array.getElem?_setIfInBounds_ne (by decide)]; exact h2,
    h₁.objs.size, _, _, by simp [hsz], kb₁.fresh, hTe, by rw [Heap.get?_update_other _ _ (Ne.symm hTe)]; exact Heap.get?_push_size h₁ rfl, rfl, ht3⟩

/-- the first frame is noted -/
theorem x_note_first {env : Env} {L : Addr} {Q : Unit → Shared → Prop} (hfr : A.frames = some (env :: outer)) (hf : env.frame = some L) (x : XAt B (env :: outer) e cls dct none s.heap)
    (hQ : ∀ h', XAt B (env :: outer) e cls dct (some (rawInt L)) h' → s.heap.UpToSlots h' → Thr s.heap h' → Q () { s with heap := h' }) : wpAny M A (noteFrame (.ref e) env) Q E s := by
  obtain ⟨f1, f2, f3, oe, vs, he, rfl, rfl, hd, h2, h1⟩ := x
  unfold noteFrame
  simp only [hf]
  refine wpAny_bind (wpAny_field he hd h1 ?_)
  rw [if_neg (by decide)]
  exact x_entry hfr hf f1 f2 f3 he hd (Array.getElem?_eq_some_iff.mp h1).1 h2 hQ
/-- .. the next one -/
theorem x_note {env : Env} {L : Addr} {Q : Unit → Shared → Prop} (hfr : A.frames = some (env :: outer)) (hf : env.frame = some L) (x : XAt B (env :: outer) e cls dct (some .none) s.heap)
    (hQ : ∀ h', XAt B (env :: outer) e cls dct (some (rawInt L)) h' → s.heap.UpToSlots h' → Thr s.heap h' → Q () { s with heap := h' }) : wpAny M A (noteFrame (.ref e) env) Q E s := by
  obtain ⟨f1, f2, f3, oe, vs, he, rfl, rfl, hd, h2, T, oT, ts, h1, hnT, hTe, hT, hdT, h3⟩ := x
  unfold noteFrame
  simp only [hf]
  refine wpAny_bind (wpAny_field he hd h1 ?_)
  rw [if_pos (show (Value.ref T != Value.none) = true from by simp)]
  refine wpAny_bind (wpAny_field hT hdT h3 ?_)
  rw [if_neg (show ¬ ((Value.none == rawInt L) = true) from by simp [rawInt])]
  refine wpAny_bind (wpAny_setField hT hdT (Array.getElem?_eq_some_iff.mp h3).1 ?_)
  refine x_entry (oe := oe) (vs := vs) (s := { s with heap := _ }) hfr hf (stays_fld _ f1 hnT) f2 (frames_fld _ hT hdT f3) (by rw [Heap.get?_update_other _ _ hTe]; exact he) hd (Array.getElem?_eq_some_iff.mp h1).1 h2 fun h' y sl th => hQ h' y ((slots_fld _ hT hdT).trans sl) ((Thr.fld _ hT hdT).trans th)
/-- the flight mark goes -/
theorem x_land {fl : Value} {Q : Unit → Shared → Prop} (x : XAt B l e cls dct (some fl) s.heap) (hQ : ∀ h', XAt B l e cls dct (some .none) h' → s.heap.UpToSlots h' → Thr s.heap h' → Q () { s with heap := h' }) : wpAny M A (setFlight (.ref e) none) Q E s := by
  obtain ⟨f1, f2, f3, oe, vs, he, rfl, rfl, hd, h2, T, oT, ts, h1, hnT, hTe, hT, hdT, h3⟩ := x
  have hsz3 : 3 < ts.size := (Array.getElem?_eq_some_iff.mp h3).1
  unfold setFlight
  refine wpAny_bind (wpAny_field he hd h1 ?_)
  rw [if_pos (show (Value.ref T != Value.none) = true from by simp)]
  refine wpAny_setField hT hdT hsz3 (hQ _ ⟨stays_fld _ f1 hnT, f2, frames_fld _ hT hdT f3, oe, vs, by rw [Heap.get?_update_other _ _ hTe]; exact he, rfl, rfl, hd, h2, T, _, _, h1, hnT, hTe, Heap.get?_update_self _ hT (Obj.isFreed_of_fields (Obj.data_mapFields hdT _)), Obj.data_mapFields hdT _, by simp [hsz3]⟩ (slots_fld _ hT hdT) (Thr.fld _ hT hdT))
/-- it leaves a frame: the first, and the next one -/
theorem x_leave_first {env : Env} {L : Addr} {Q : Unit → Shared → Prop} (hfr : A.frames = some (env :: outer)) (hf : env.frame = some L) (x : XAt B (env :: outer) e cls dct none s.heap)
    (hQ : ∀ h', XAt B outer e cls dct (some .none) h' → s.heap.UpToSlots h' → Thr s.heap h' → Q () { s with heap := h' }) : wpAny M A (leaving env (.ref e)) Q E s := by
  unfold leaving
  refine wpAny_bind (x_note_first hfr hf x fun h1 x1 s1 t1 => x_land (s := { s with heap := h1 }) x1 fun h2 x2 s2 t2 => hQ h2 ⟨x2.1, x2.2.1, x2.2.2.1.2.2, x2.2.2.2⟩ (s1.trans s2) (t1.trans t2))
end
end L2

set_option Elab.async false
set_option linter.all false
set_option maxRecDepth 100000
set_option maxHeartbeats 4000000
/-! raise, and an exception that passes a frame -/
namespace L2
open PySem PySem.Spec PyProof.Rows
/-- behind a call that raised: the exception at ea, of the class cls (its own dict at dct); B: what stays from where it was made on -/
def CXe (P : Program) (w : World) : CXT := fun outer H s E e s' => ∃ (ea : Addr) (cls : Value) (dct : Option Addr) (H' : Hp) (B : Heap), e = .ref ea ∧ s'.os = s.os ∧ AllBare s'.gens ∧ Un (frs outer) [] H H' s.heap s'.heap ∧ HOk P w H' B ∧
  XAt B outer ea cls dct (some .none) s'.heap ∧ (∀ b o, s.heap.get? b = some o → H b = none → b ∉ frs outer → B.get? b = some o) ∧ s.heap.get? ea = none ∧ H' ea = none ∧ E cls dct H'
/-- the context of a def's body, whose exceptions leave it -/
structure Lv (X : Cx) (E : XK) : Prop where
  xe : X.xe = fun e s' => wpAny (model X.prog X.w) X.A (leaving X.env e) (fun _ s'' => CXe X.prog X.w X.outer X.H₀ X.s₀ E e s'') (fun e' s'' => CXe X.prog X.w X.outer X.H₀ X.s₀ E e' s'') s'
  ex : X.ex = []
  st : X.stack = X.env :: X.outer
  fr : X.env.frame = some X.env.locals
section
variable {X : Cx} {pins : List (Addr × Obj)} {σ : St} {H H' : Hp} {s : Shared} {h1 h2 B : Heap} {E : XK}
theorem frs_stack (hst : X.stack = X.env :: X.outer) (hfr : X.env.frame = some X.env.locals) : frs X.stack = X.env.locals :: X.fs := by
  rw [hst]
  unfold frs
  rw [List.filterMap_cons, hfr]
  rfl
/-- from the entry to a state behind a callee's exception that has left this frame too -/
theorem un_leave (I : Inv X pins σ H s) (hex : X.ex = []) (u : Un (frs X.stack) [] H H' s.heap h1) (kb : ∀ b o, s.heap.get? b = some o → H b = none → b ∉ frs X.stack → B.get? b = some o) (bk : B.StaysIn h2) (sl : h1.UpToSlots h2) (th : Thr h1 h2) :
    Un X.fs [] X.H₀ H' X.s₀.heap h2 := by
  have nx : ∀ b : Addr, b ∉ X.ex := fun b z => by rw [hex] at z; cases z
  refine ⟨fun b o e n hb _ => ?_, fun b o e n hb _ => ?_, fun b o e n _ => ?_, fun b o e _ => ?_, fun b xs e => u.tups b xs (I.base.tups b xs e), fun b o xs e => u.frzs b o xs (I.base.frzs b o xs e), fun b ps e => ?_⟩
  · refine bk b o (kb b o (I.base.keep b o e n hb (nx b)) (I.base.free b o e n (nx b)) fun z => ?_)
    rcases List.mem_cons.mp (I.stkSub b z) with q | q
    · exact absurd (Nat.lt_of_lt_of_le (Heap.lt_size e) I.ok.above) (by rw [q]; exact Nat.lt_irrefl _)
    · exact hb q
  · obtain ⟨sl1, e1⟩ := I.base.slot b o e n hb (nx b)
    obtain ⟨sl2, e2⟩ := u.any e1 (I.base.free b o e n (nx b)) (by simp)
    obtain ⟨_, o', eo, hn⟩ := I.ok.funs.mem hb
    rw [e] at eo
    cases eo
    obtain ⟨sl3, e3⟩ := sl b _ e2 hn
    exact ⟨sl3, e3⟩
  · obtain ⟨o', e1⟩ := I.base.there b o e (nx b)
    exact u.free b o' e1 (I.base.free b o e n (nx b)) (by simp)
  · obtain ⟨o1, e1⟩ := I.base.there b o e (nx b)
    obtain ⟨o2, e2⟩ := u.there b o1 e1 (by simp)
    exact th b o2 e2
  · obtain ⟨m1, e1⟩ := I.base.tbls b ps e
    obtain ⟨m2, e2⟩ := u.tbls b _ e1
    exact ⟨m1 ++ m2, by rw [e2, Array.append_assoc]⟩
/-- what is tracked is held by the heap without the frames -/
theorem hok_hide {P : Program} {w : World} {h : Heap} {as : List Addr} (k : HOk P w H h) (n : ∀ b ∈ as, H b = none) : HOk P w H (PySem.W.hideAll h as) := fun a o e =>
  (k a o e).stay (fun b u hb q => PySem.W.hideAll_get _ q fun z => by
    rcases hb with rfl | hb
    · rw [n _ z] at e; cases e
    · rw [n _ z] at hb; cases hb) (fun _ q => q) fun _ _ q => q
/-- an exception was made here: it leaves the frame -/
theorem made_leaves {s' : Shared} {e : Addr} {cls : Value} {args : List Value} (L : Lv X E) (I : Inv X pins σ H s) (hs : s' = { s with heap := s'.heap }) (x : Heap.MadeExcOf s.heap s'.heap e cls args) (q : E cls none H) : X.xe (.ref e) s' := by
  rw [L.xe]
  have hfr := I.ok.frames
  have hstk := I.stack
  have hfs := frs_stack L.st L.fr
  have hsF := I.stkFree
  rw [L.st] at hfr hstk
  obtain ⟨t, he, _, _⟩ := x.there
  have hin : ∀ env ∈ X.env :: X.outer, ∀ a, env.frame = some a → a ∈ frs X.stack := fun env hm a ha => by
    rw [L.st]
    exact List.mem_filterMap.mpr ⟨env, hm, ha⟩
  have en : (PySem.W.hideAll s.heap (frs X.stack)).get? e = none := by
    cases q : (PySem.W.hideAll s.heap (frs X.stack)).get? e with
    | none => rfl
    | some o =>
      have := PySem.W.of_hideAll _ q
      rw [x.new] at this
      cases this
  have xa : XAt (PySem.W.hideAll s.heap (frs X.stack)) (X.env :: X.outer) e cls none none s'.heap := by
    refine ⟨fun b o q => x.keeps b o (PySem.W.of_hideAll _ q), en, (PySem.W.funFrames_hide hstk hin).of_keeps fun b o q _ => ⟨o, x.keeps b o q, rfl⟩, _, _, he, rfl, rfl, rfl, rfl, rfl⟩
  have kb : ∀ b o, s.heap.get? b = some o → H b = none → b ∉ frs X.stack → (PySem.W.hideAll s.heap (frs X.stack)).get? b = some o := fun b o q _ hb => PySem.W.hideAll_get _ q hb
  refine x_leave_first hfr L.fr xa fun h2 x2 sl th => ?_
  have u : Un (frs X.stack) [] H H s.heap s'.heap := Un.kept x.keeps
  refine ⟨e, cls, none, H, _, rfl, ?_, ?_, un_leave I L.ex u kb x2.1 sl th, hok_hide I.hok hsF, x2, fun b o e n hb => ?_, ?_, ?_, q⟩
  · rw [hs]; exact I.os
  · rw [hs]; exact I.bare
  · have nx : b ∉ X.ex := fun z => by rw [L.ex] at z; cases z
    refine kb b o (I.base.keep b o e n hb nx) (I.base.free b o e n nx) fun z => ?_
    rcases List.mem_cons.mp (I.stkSub b z) with q | q
    · exact absurd (Nat.lt_of_lt_of_le (Heap.lt_size e) I.ok.above) (by rw [q]; exact Nat.lt_irrefl _)
    · exact hb q
  · cases q : X.s₀.heap.get? e with
    | none => rfl
    | some o =>
      obtain ⟨o', e'⟩ := I.base.there e o q (by rw [L.ex]; simp)
      rw [x.new] at e'
      cases e'
  · cases q : H e with
    | none => rfl
    | some o =>
      exfalso
      have hb := hok_hide I.hok hsF
      have := I.hok.lt q
      -- a tracked object lies in the heap
      have : ∃ o', s.heap.get? e = some o' := by
        have k := I.hok e o q
        cases o with
        | lst xs => obtain ⟨_, _, _, _, e⟩ := k; exact ⟨_, e⟩
        | tup xs => obtain ⟨_, _, _, _, e, _⟩ := k; exact ⟨_, e⟩
        | dK kvs => obtain ⟨_, _, _, _, o, _, _, e, _⟩ := k; exact ⟨_, e⟩
        | dT kvs => obtain ⟨_, _, _, _, o, _, _, e, _⟩ := k; exact ⟨_, e⟩
        | set S n => obtain ⟨o, _, _, _, e, _⟩ := k; exact ⟨_, e⟩
        | ins C dx fs => obtain ⟨_, _, _, e, _⟩ := k; exact ⟨_, e⟩
        | own y => obtain ⟨_, e⟩ := k; exact ⟨_, e⟩
        | xd fs => obtain ⟨_, ⟨_, _, _, e, _⟩, _⟩ := k; exact ⟨_, e⟩
        | rng lo hi => obtain ⟨_, _, _, e⟩ := k; exact ⟨_, e⟩
        | frz ob u => obtain ⟨e, _⟩ := k; exact ⟨_, e⟩
        | tbl ps => exact ⟨_, k⟩
        | met f y => exact ⟨_, k⟩
        | ext φ => obtain ⟨_, ⟨o, e⟩, _⟩ := k; exact ⟨_, e⟩
      obtain ⟨o', e'⟩ := this
      rw [x.new] at e'
      cases e'
/-- raise C(e, ..), C an own exception class without an __init__ -/
def tRaise (E : XK) (C : Addr) (t : TA) : TS := fun _ σ H => t σ H fun vs H1 => vs.length ≤ sizeLine ∧ E (.ref C) none H1
theorem ps_raise {x : Str} {C : Addr} {Bt newId initId : String} {bm : List Value} {np cpos pos : Pos} {e₀ : Expr} {es : List Expr} {t : TA} (L : Lv X E) (hc : X.calm = true) (O : OwnCls x C bm newId X.mg X.base) (FB : ExcBaseFacts Bt newId initId bm) (hg : Gl X x)
    (ha : PA X (e₀ :: es) t) (hd : (x == ("__debug__" : Str)) = false := by decide) (he : starEach (e₀ :: es) X.env = (false, eval e₀ X.env) :: starEach es X.env := by rfl) (hpl : (backTo cpos (starEach es X.env)).any (·.1) = false := by rfl) :
    PS X (.Raise (some (.Call (.Name x np) (e₀ :: es) [] cpos)) none pos) (tRaise E C t) := by
  intro pins s σ H D I h
  obtain ⟨tl, N, nm, q, bs, hdct, sn, sub, ab, col, dd, k0, k1, k2, k3, k5, mN, hC, hN, hni, T⟩ := O.obj
  refine wpAny_Raise_call_subT (C := C) (nm := nm) (q := q) (N := N) (bs := bs) (bm := tl) (hdct := hdct) (sn := sn) (sub := sub) (ab := ab) (col := col) (dd := dd) (k0 := k0) (k1 := k1) (k2 := k2) (k3 := k3) (k5 := k5)
    FB (mN := mN) (T.hasType FB.hasBase) (I.ok.hd hc) (by rw [he]; show (false || (backTo cpos (starEach es X.env)).any (·.1)) = false; rw [hpl]; rfl) hni (ld_glob I hg O.bound ⟨rfl, ?_⟩ hd)
  have hx := ha cpos pins s σ H _ I h
  rw [he] at hx ⊢
  refine Calls.evalArgs_plain (thn hx fun us s1 ⟨vs, H1, I1, r, hl, q⟩ => ⟨rfl, by rw [← r.length]; exact hl, I1.bk _ _ hC, hN.keeps I1.bk, T.keeps I1.bk, fun h' e m => ?_⟩)
  exact made_leaves L I1 rfl m q
end
end L2

set_option Elab.async false
set_option linter.all false
set_option maxRecDepth 100000
set_option maxHeartbeats 4000000
/-! isinstance(e, C) of an exception -/
namespace PySem.W
open PySem PySem.Spec PySem.Calls PyProof.Rows
section
variable {prog : Program} {w : World} {A : Around} {E : Value → Shared → Prop} {s : Shared} {K : Frag} {x D : Addr} {ox : Obj} {odo : Option Obj}
structure ExcCls (K : Frag) (D : Addr) : Prop where
  cls : (clsIn K D).isSome = true
  ga : findIn K (.ref D) "__getattribute__" = some (some (.builtin "BaseException.__getattribute__"))
  hk : findIn K (.ref D) "__getattr__" = some none
  at_ : findIn K (.ref D) "__class__" = some (some (.builtin "object.__class__"))
  get : specialIn K (.builtin "object.__class__") "__get__" = some (some (.builtin "getset_descriptor.__get__"))
  tk : takesIn K (.builtin "object.__class__") = some true
  obj : mroIn K D (.type "object") = some true
  exc : mroIn K D (.type "BaseException") = some true
theorem exc_found (c : ExcCls K D) : findObj K D odo "__class__" = some (.bind (.builtin "getset_descriptor.__get__") (.builtin "object.__class__")) := by
  obtain ⟨cd, hcd⟩ := Option.isSome_iff_exists.mp c.cls
  unfold findObj
  rw [hcd, c.at_]
  simp only [Option.bind_some, c.get, c.tk]
theorem exc_check {nm : Value} {Q : Unit → Shared → Prop} (c : ExcCls K D) (X : K.In s.heap) (I : InstAt s.heap x ox D odo) (h : Q () s) : wpAny (model prog w) A (checkBuiltinCall "BaseException.__getattribute__" ⟨[.ref x, nm], []⟩) Q E s := by
  obtain ⟨hh, g, d, t, os⟩ := s
  have hk : builtinKind "BaseException.__getattribute__" = some .slot := by decide +kernel
  have hsplit : splitId "BaseException.__getattribute__" = some ("BaseException", "__getattribute__") := by decide +kernel
  have ha := F.args_bexc_ga (.ref x) nm
  have L0 := I.type (M := model prog w)
  have L1 := looks_mroIn (M := model prog w) X c.exc
  simp only [checkBuiltinCall, hk, hsplit]
  refine wpAny_bind ?_
  unfold isInstance
  repeat (first | lk | wp_step)
  exact h
theorem exc_entry {tk : Tok} {Q : Fin → Shared → Prop} (c : ExcCls K D) (X : K.In s.heap) (I : InstAt s.heap x ox D odo) (h : Q (.done (.ret (.ref D))) s) : wpAny (model prog w) A (Builtin.«object.__getattribute__» ⟨[.ref x, .str "__class__" tk], []⟩) Q E s := by
  obtain ⟨hh, g, d, t, os⟩ := s
  have L0 := I.type (M := model prog w)
  have L1 := looks_find (M := model prog w) X I (exc_found c)
  unfold Builtin.«object.__getattribute__»
  repeat (first | with_reducible refine Looks.at (by assumption) ?_ | wp_step)
  refine class_get (s := ⟨hh, g, d, t, os⟩) X I c.obj ?_
  repeat (first | with_reducible refine Looks.at (by assumption) ?_ | wp_step)
  exact h
theorem exc_class {Q : Option Value → Shared → Prop} (c : ExcCls K D) (X : K.In s.heap) (I : InstAt s.heap x ox D odo) (h : Q (some (.ref D)) { s with toks := s.toks + 1 }) : wpAny (model prog w) A (getAttr? (.ref x) "__class__") Q E s := by
  obtain ⟨hh, g, d, t, os⟩ := s
  have L0 := I.type (M := model prog w)
  have L1 := looks_findIn (M := model prog w) X c.ga
  have L2 := looks_findIn (M := model prog w) X c.hk
  unfold getAttr? getAttrBy? getAttrBy
  refine wpAny_bind (wpAny_mkText (wpAny_bind (wpAny_attempt (wpAny_holding (wpAny_bind (L0.at (wpAny_bind (L1.at ?_))))))))
  show wpAny _ _ (getAttrByItsOwn _ _ _ _ _ _) _ _ _
  unfold getAttrByItsOwn
  refine wpAny_bind (show wpAny _ _ (typeLookup (.ref D) "__getattr__") _ _ _ from L2.at ?_)
  refine wpAny_bind (wpAny_attempt (wpAny_holding ?_))
  show wpAny _ _ (boundAndCalled _ _ _) _ _ _
  unfold boundAndCalled
  refine wpAny_bind (wpAny_of_eq (F.attr_ValueError.ga.bind (.ref x)) ?_)
  refine wpAny_call (codeAny_call_builtin F.attr_ValueError.ga.plain F.entry_bexc_ga (exc_check (s := ⟨hh, g, d, t + 1, os⟩) c X I (exc_entry (s := ⟨hh, g, d, t + 1, os⟩) c X I ?_)))
  refine wpAny_mono (Q := fun v s' => v = .ref D ∧ s' = ⟨hh, g, d, t + 1, os⟩) ?_ ?_ fun _ _ z => z
  · repeat (first | lk | wp_step)
    exact ⟨rfl, rfl⟩
  · rintro v s' ⟨rfl, rfl⟩
    exact wpAny_pure h
theorem kitx_exc {oe : Obj} {od : Option Obj} (c : ExcCls K D) : KitX K (.ref x) (.ref D) (fun h => InstAt h x oe D od) where
  ty := fun _ _ _ I => I.type
  it := fun _ _ X _ => by
    obtain ⟨cdD, hcD⟩ := Option.isSome_iff_exists.mp c.cls
    unfold clsIn at hcD
    split at hcD
    · rename_i c' d' cd' sl' ho
      intro A' Q' E' s' k q
      unfold isType loadHead
      exact wpAny_bind (wpAny_loadPart (k _ _ (X _ _ ho)) (wpAny_pure q))
    · cases hcD
  ne := fun h tp dd its n sl X htp => by
    obtain ⟨cdD, hcD⟩ := Option.isSome_iff_exists.mp c.cls
    refine Bool.eq_false_iff.mpr fun q => ?_
    have e : D = tp := Value.ref.inj (beq_iff_eq.mp q)
    subst e
    unfold clsIn at hcD
    split at hcD
    · rename_i c' d' cd' sl' ho
      have z := (X _ _ ho).symm.trans htp
      cases z
    · cases hcD
  ca := fun X I k => exc_class c X I k
end
end PySem.W

set_option Elab.async false
set_option linter.all false
set_option maxRecDepth 100000
set_option maxHeartbeats 4000000
/-! while an exception is handled: a range that ends (its StopIteration is chained), a comprehension over a range -/
namespace L2
open PySem PySem.Spec PyProof.Rows
theorem entry_unchain : entryFor table "proto.unchain" = some Builtin.«proto.unchain» := entryFor_of_tree (by kernel_rfl)
section
variable {prog : Program} {w : World} {A : Around} {E : Value → Shared → Prop} {s : Shared}
theorem raiseNew_h {α : Type} {e h : Addr} {oe oh : Obj} {es vs : Array Value} {Q : α → Shared → Prop} (hh : A.handled = some (.ref h)) (he : s.heap.get? e = some oe) (hed : oe.data = .fields es) (hz : 2 < es.size) (hn : h ≠ e) (ho : s.heap.get? h = some oh) (hd : oh.data = .fields vs) (h2 : vs[2]? = some .none)
    (q : E (.ref e) { s with heap := s.heap.update e (Obj.mapFields (·.setIfInBounds 2 (.ref h))) }) : wpAny (model prog w) A (raiseNew (.ref e) : Sem α) Q E s := by
  simp only [raiseNew]
  refine wpAny_bind (wpAny_handled ?_)
  rw [hh]
  have hne : (Value.ref h != Value.ref e) = true := by
    rw [bne_iff_ne]
    intro z
    exact hn (Value.ref.inj z)
  simp only [hne, if_true]
  refine wpAny_bind (wpAny_holding (wpAny_runValue (codeAny_builtin entry_unchain ?_)))
  unfold Builtin.«proto.unchain»
  refine wpAny_bind (wpAny_field ho hd h2 ?_)
  rw [if_pos (by rfl)]
  refine wpAny_bind (wpAny_pure (wpAny_pure ?_))
  refine wpAny_bind ?_
  show wpAny _ _ (setField (.ref e) 2 (.ref h)) _ _ _
  exact wpAny_setField he hed hz (wpAny_throw q)
theorem range_end_h {it h : Addr} {x left step : Int} {oh : Obj} {vs : Array Value} {Q : Option Value → Shared → Prop} (hh : A.handled = some (.ref h)) (ho : s.heap.get? h = some oh) (hd : oh.data = .fields vs) (h2 : vs[2]? = some .none) (hit : IsRangeIter s.heap it x left step) (hleft : left ≤ 0)
    (hQ : ∀ h', Heap.ExtBut it s.heap h' → Q none { s with heap := h' }) : wpAny (model prog w) A (pyNext (.ref it)) Q E s := by
  have hT : s.TypeIs (.ref it) "range_iterator" := ⟨_, hit, rfl⟩
  unfold pyNext
  refine wpAny_bind (wpAny_attempt (wpAny_callSpecial?_slot (name := Str.ofString "__next__") hT F.slot_range_iterator_next
    (wpAny_call_entry F.slot_range_iterator_next hT F.entry_range_iterator_next ?_ (F.args_range_iterator_next_1 _))))
  show wpAny _ _ (field (.ref it) 0 >>= _) _ _ s
  refine wpAny_bind (wpAny_field hit rfl (x := rawInt x) rfl ?_)
  show wpAny _ _ (field (.ref it) 1 >>= _) _ _ s
  refine wpAny_bind (wpAny_field hit rfl (x := rawInt left) rfl ?_)
  show wpAny _ _ (field (.ref it) 2 >>= _) _ _ s
  refine wpAny_bind (wpAny_field hit rfl (x := rawInt step) rfl ?_)
  show wpAny _ _ (if left ≤ 0 then _ else _) _ _ s
  rw [if_pos hleft]
  refine wpAny_bind (wpAny_rule ?_)
  refine wpAny_bind ?_
  show wpAny _ _ (newExc (.type "StopIteration") [] >>= _) _ _ _
  refine wpAny_bind ?_
  simp only [newExc, newTuple]
  refine wpAny_bind (wpAny_newObj_type ?_ (by size_fits))
  refine wpAny_bind (m := firstArgMember _ _) (wpAny_of_eq (a := Value.none) (by first | rfl | (simp only [firstArgMember]; rfl)) ?_)
  refine wpAny_newObj_type ?_ (by size_fits)
  have lt := Heap.lt_size ho
  refine raiseNew_h (oh := oh) (vs := vs) (show A.in1.handled = some (.ref h) from hh) (Heap.get?_push_size _ rfl) rfl (by show 2 < 6; decide) (by rw [Heap.size_push]; exact Nat.ne_of_lt (Nat.lt_succ_of_lt lt)) (Heap.get?_push_of_some _ (Heap.get?_push_of_some _ ho)) hd h2 ?_
  have hnew := Heap.get?_update_self (Obj.mapFields (·.setIfInBounds 2 (Value.ref h))) (Heap.get?_push_size (s.heap.push { cls := .type "tuple", data := .seq ([] : List Value).toArray }) (o := { cls := .type "StopIteration", data := .fields #[.ref s.heap.objs.size, .none, .none, .none, .bool false, .none] }) rfl) rfl
  refine wpAny_bind (wpAny_isInstance (T := "StopIteration") (b := true) ⟨_, hnew, rfl⟩ isSubtype_stop ?_)
  refine wpAny_pure (hQ _ ?_)
  intro b o hb e
  have ltb := Heap.lt_size e
  rw [Heap.get?_update_other _ _ (by rw [Heap.size_push]; exact Nat.ne_of_gt (Nat.lt_succ_of_lt ltb))]
  exact Heap.get?_push_of_some _ (Heap.get?_push_of_some _ e)
end
/-- the exception at h is handled, its object stands pinned -/
structure Hnd (X : Cx) (h : Addr) (oe : Obj) : Prop where
  hd : X.A.handled = some (.ref h)
  pn : (h, oe) ∈ X.pn
  cx : ∃ vs, oe.data = .fields vs ∧ vs[2]? = some .none
section
variable {X : Cx} {pins : List (Addr × Obj)} {σ : St} {H : Hp} {s : Shared} {it h : Addr} {oe : Obj} {n i : Nat} {tg : Expr} {E : Value → Shared → Prop}
theorem rng_item (I : Inv X pins σ H s) (f : FpOk X pins H it) (st : IsRangeIter s.heap it (i : Int) ((n : Int) - (i : Int)) 1) (hlt : i < n) :
    wpAny (model X.prog X.w) X.A (pyNext (.ref it)) (fun r s1 => ∃ u, r = some u ∧ wpAny (model X.prog X.w) X.A (letOwnedTupleGo tg (.ref it) u) (fun _ s2 => Inv X pins σ H s2 ∧ RelV (.int (i : Int)) u ∧ IsRangeIter s2.heap it ((i + 1 : Nat) : Int) ((n : Int) - ((i + 1 : Nat) : Int)) 1) E s1) E s := by
  obtain ⟨f0, f1, f2, f3, f4, f5⟩ := f
  refine wpAny_pyNext_range_item st (by omega) fun h' st' sb => ⟨_, rfl, ?_⟩
  have I1 : Inv X pins σ H { s with heap := h', toks := s.toks + 1 } := I.turned (fun b o hb e => (sb.2 b hb).trans e) f0 f1 f3 f4 f5
  have st2 : IsRangeIter h' it ((i + 1 : Nat) : Int) ((n : Int) - ((i + 1 : Nat) : Int)) 1 := by
    have e2 : ((n : Int) - ((i + 1 : Nat) : Int)) = ((n : Int) - (i : Int) - 1) := by omega
    rw [e2]
    exact st'
  exact go_of (s := { s with heap := h', toks := s.toks + 1 }) (n := "range_iterator") st2 rfl rfl (by decide) ⟨I1, ⟨_, rfl⟩, st2⟩
theorem rng_done (Hd : Hnd X h oe) (I : Inv X pins σ H s) (f : FpOk X pins H it) (st : IsRangeIter s.heap it (i : Int) ((n : Int) - (i : Int)) 1) (hge : n ≤ i) :
    wpAny (model X.prog X.w) X.A (pyNext (.ref it)) (fun r s1 => r = none ∧ Inv X pins σ H s1) E s := by
  obtain ⟨f0, f1, f2, f3, f4, f5⟩ := f
  obtain ⟨vs, hd, h2⟩ := Hd.cx
  exact range_end_h Hd.hd (I.pin (h, oe) (List.mem_append_left _ Hd.pn)).1 hd h2 st (by omega) fun h' eb => ⟨rfl, I.turned (t' := s.toks) (fun b o hb e => eb b o hb e) f0 f1 f3 f4 f5⟩
end
def PRE (X : Cx) (pins : List (Addr × Obj)) (σ : St) (R : Nat → Hp → Prop) (itv : Value) (s2 : Shared) : Prop := ∃ (it : Addr) (n : Nat) (H' : Hp), itv = .ref it ∧ Inv X pins σ H' s2 ∧ IsRangeIter s2.heap it 0 n 1 ∧ FpOk X pins H' it ∧ R n H'
section
variable {X : Cx} {pins : List (Addr × Obj)} {σ : St} {H : Hp} {s : Shared} {scope : Scope} {cl : List (Str × Addr)} {C : Addr} {N : List Str} {js : List (Option Nat)} {h : Addr} {oe : Obj}
theorem pr_range {a : Expr} {ta : TA} {p pos : Pos} {R : Nat → Hp → Prop} (hg : Gl X "range") (hm : X.mg "range" = none) (ha : PA X [a] ta) (I : Inv X pins σ H s) (q : ta σ H fun vs H1 => ∃ j : Int, vs = [.int j] ∧ -(2 ^ 62) ≤ j ∧ j < 2 ^ 62 ∧ R j.toNat H1)
    (hs : starEach [a] X.env = [(false, eval a X.env)] := by rfl) : wpAny (model X.prog X.w) X.A (eval (.Call (.Name "range" p) [a] [] pos) X.env) (fun v s1 => wpAny (model X.prog X.w) X.A (pyIter v) (PRE X pins σ R) X.xe s1) X.xe s := by
  refine Call_ (ld_blt I hg hm boot_range (PyProof.Rows.callWith_type1 (thn (ha pos pins s σ H _ I q) fun us s1 ⟨vs, H1, I1, r1, q1⟩ => ?_) hs rfl))
  obtain ⟨j, e, q1, q2, q⟩ := q1
  subst e
  cases r1 with
  | cons r rr =>
    cases rr
    obtain ⟨t, rfl⟩ := r
    refine call_range_1 (wpAny_pyIter_range (IsRange.new ..) (small_one (by decide) (by decide) q1 q2) ?_)
    refine ⟨_, j.toNat, H1, rfl, (I1.kept fun b o e => Heap.get?_push_of_some _ (Heap.get?_push_of_some _ e)), ?_, ?_, q⟩
    · have e2 : Builtin.Range.rangeSize 0 j 1 = ((j.toNat : Nat) : Int) := by
        rw [rangeSize_one]
        split <;> omega
      show Heap.get? _ _ = some _
      rw [← e2]
      exact Heap.get?_push_size _ rfl
    · exact I1.fpOk (by rw [Heap.size_push]; exact Nat.le_succ _) (I1.hok.fresh (by rw [Heap.size_push]; exact Nat.le_succ _))
theorem comp_coreH {elt target a : Expr} {p0 pos0 pos pos' : Pos} {ta : TA} {g : TG} {te : TE} (Hd : Hnd X h oe) (S : CpScope X scope N js) (hgr : Gl X "range") (hmr : X.mg "range" = none) (ha : PA X [a] ta)
    (hg : ∀ cl C s H fp, PG (cxC X scope cl C N s H fp) target g) (he : ∀ cl C s H fp, PE (cxC X scope cl C N s H fp) elt te) (hs : ∀ x, foldedSetIterable (.Call (.Name "range" p0) [a] [] pos0) X.env x = pure x) (hst : starEach [a] X.env = [(false, eval a X.env)])
    {use : Option (Value → Sem Unit)} {QQ : Value → Shared → Prop} {Q : VK} (I : Inv X pins σ H s) (hw : tComp js (iRng1 ta) g te σ H Q)
    (hfin : ∀ (p C : Addr) (H' : Hp) (s' : Shared) (m : Str → Option Value), Inv X pins σ H' s' → Q (.ref p) H' → FpOk X pins H' C → s'.heap.Ns C m → compPost (model X.prog X.w) X.A X.xe use QQ (.ref p) C (.ok .next) s') :
    wpAny (model X.prog X.w) X.A (comprehension (.ListComp elt [⟨target, .Call (.Name "range" p0) [a] [] pos0, [], 0⟩] scope pos) scope X.env pos' (newList []) false (eval (.Call (.Name "range" p0) [a] [] pos0) X.env) use) QQ X.xe s := by
  obtain ⟨cl, hclos, k1, k2⟩ := closure_of (scope := scope) (env := X.env) (fun y hy hk => I.ok.has y.1 (S.clos y hy hk))
  refine wpAny_comprehension_free (use := use) rfl hs hclos S.kind S.names (thn (pr_range (R := fun n H1 => ∀ p, H1 p = none → CW (Itr 0 n) g te p (frOf js σ) H1 Q) hgr hmr ha I hw hst) fun v s1 h1 => thn h1 fun itv s2 h2 => ?_)
  obtain ⟨it, n, H2, e, I2, st2, f2, q⟩ := h2
  subst e
  obtain ⟨W, ⟨m0, w0⟩, turn⟩ := q s2.heap.objs.size I2.fresh
  have ltf : it < s2.heap.objs.size := Heap.lt_size st2
  refine wpAny_newObj_type (wpAny_newFunctionEnv S.nocell (by intro y hy; simp at hy) (fun h1 hns1 hsb1 => ?_) S.kind)
  dsimp only at hns1 hsb1 ⊢
  have I3 : Inv X pins σ (upd H2 s2.heap.objs.size (.lst [])) { s2 with heap := s2.heap.push { cls := .type "list", data := .seq ([] : List Value).toArray }, toks := s2.toks } := I2.lnew (t' := s2.toks) .nil (by show 0 ≤ sizeLine; exact Nat.zero_le _)
  generalize hh3 : s2.heap.push { cls := .type "list", dict := none, data := .seq ([] : List Value).toArray } = h3 at I3 hns1 hsb1 ⊢
  generalize hH3 : upd H2 s2.heap.objs.size (.lst []) = H3 at I3 w0
  have hz3 : h3.objs.size = s2.heap.objs.size + 1 := by rw [← hh3, Heap.size_push]
  have up3 : ∀ b o, s2.heap.get? b = some o → h3.get? b = some o := fun b o e => by rw [← hh3]; exact Heap.get?_push_of_some _ e
  have f3 : ∀ b ∈ [it], FpOk X pins H3 b := fun b hb => by
    have e : b = it := by simpa using hb
    subst e
    exact ⟨by rw [← hH3, upd_ne (Nat.ne_of_lt ltf)]; exact f2.1, f2.2⟩
  have lt3 : ∀ b ∈ [it], b < h3.objs.size := fun b hb => by
    have e : b = it := by simpa using hb
    subst e
    rw [hz3]; exact Nat.lt_succ_of_lt ltf
  have old : ∀ b o, h3.get? b = some o → h1.get? b = some o := fun b o e => hsb1.extBut b o (Nat.ne_of_lt (Heap.lt_size e)) (Heap.get?_push_of_some _ e)
  have I4 := cxC_inv (t' := s2.toks + ([] : List (Str × Value)).length) (C := h3.objs.size) (fp := [it]) I3 S k1 k2 (Nat.le_refl _) f3 lt3 old hns1
  have st4 : IsRangeIter h1 it ((0 : Nat) : Int) ((n : Int) - ((0 : Nat) : Int)) 1 := by
    rw [show ((n : Int) - ((0 : Nat) : Int)) = n from by omega]
    exact old _ _ (up3 _ _ st2)
  have stat : ∀ {H' : Hp}, H' it = none → ∀ b ∈ [it], FpOk (cxC X scope cl h3.objs.size N { s2 with heap := h3, toks := s2.toks } H3 [it]) pins H' b := fun {H'} hn b hb => by
    have e : b = it := by simpa using hb
    obtain ⟨g0, g1, g2, g3, g4, g5⟩ := f3 b hb
    refine ⟨by rw [e]; exact hn, Nat.ne_of_lt (lt3 b hb), fun z => ?_, .inl hb, fun x c e => g4 x c (k1 x c e), g5⟩
    rcases List.mem_cons.mp (I3.stkSub b z) with q | q
    · exact g1 q
    · exact g2 q
  have HdC : Hnd (cxC X scope cl h3.objs.size N { s2 with heap := h3, toks := s2.toks } H3 [it]) h oe := ⟨Hd.hd, Hd.pn, Hd.cx⟩
  have loop : codeAny (model X.prog X.w) X.A (.compLoop (.ListComp elt [⟨target, .Call (.Name "range" p0) [a] [] pos0, [], 0⟩] scope pos) 0 (.ref it) (.ref s2.heap.objs.size) (compEnvC scope cl h3.objs.size X.env))
      (compPost (model X.prog X.w) X.A X.xe use QQ (.ref s2.heap.objs.size) h3.objs.size) { s2 with heap := h1, toks := s2.toks + ([] : List (Str × Value)).length } := by
    refine compLoop_gen (fun m s' => ∃ (i : Nat) (ys : List V) (τ : St) (H' : Hp), Inv (cxC X scope cl h3.objs.size N { s2 with heap := h3, toks := s2.toks } H3 [it]) pins τ H' s' ∧ IsRangeIter s'.heap it (i : Int) ((n : Int) - (i : Int)) 1 ∧ H' it = none ∧ W i m ys τ H') ?_ m0
      ⟨0, [], _, H3, I4, st4, (f3 it (by simp)).1, w0⟩
    rintro m s5 ⟨i, ys, τ, H5, I5, st5, fr5, w5⟩
    rcases turn i m ys τ H5 w5 with ⟨stop, qn⟩ | ⟨go, step⟩
    · refine wpAny_mono (rng_done (X := cxC X scope cl h3.objs.size N { s2 with heap := h3, toks := s2.toks } H3 [it]) HdC I5 (stat fr5 it (by simp)) st5 stop) (fun r s6 h6 => ?_) fun _ _ z => z
      obtain ⟨hr, I6⟩ := h6
      subst hr
      obtain ⟨m6, hn6, _⟩ := I6.loc
      refine hfin s2.heap.objs.size h3.objs.size H5 s6 m6 (I3.call' (ch := [it]) I6.os I6.base I6.hok I6.bare fun b hb => ?_) qn (I3.fpOk (Nat.le_refl _) I6.free) hn6
      obtain ⟨g0, g1, g2, g3, g4, g5⟩ := f3 b hb
      exact ⟨g3, g1, g4, g5⟩
    · refine wpAny_mono (rng_item (X := cxC X scope cl h3.objs.size N { s2 with heap := h3, toks := s2.toks } H3 [it]) (tg := target) I5 (stat fr5 it (by simp)) st5 go) (fun r s6 h6 => ?_) fun _ _ z => z
      obtain ⟨u, hr, h6⟩ := h6
      subst hr
      refine wpAny_mono h6 (fun _ s7 h7 => ?_) fun _ _ z => z
      obtain ⟨I7, rx, st7⟩ := h7
      have obj7 : ∀ b ∈ [it], ∃ o, s7.heap.get? b = some o ∧ ∀ v, o.data ≠ .cell v := fun b hb => by
        have e : b = it := by simpa using hb
        subst e
        exact ⟨_, st7, fun v z => by
          have z' : Data.fields _ = Data.cell v := z
          cases z'⟩
      have I7' := I7.pinned (stat fr5) obj7
      have step' := step (.int (i : Int)) H5 ⟨rfl, by rw [Int.zero_add]⟩
      refine wpAny_mono (hg cl h3.objs.size _ H3 [it] _ s7 τ H5 (.int (i : Int)) u _ I7' rx step') (fun _ s8 h8 => ?_) fun _ _ z => False.elim z
      obtain ⟨τ8, H8, I8, q8⟩ := h8
      refine wpAny_mono (he cl h3.objs.size _ H3 [it] _ s8 τ8 H8 _ I8 q8) (fun y' s9 h9 => ?_) fun _ _ z => False.elim z
      obtain ⟨y, H9, I9, ry, e9, l9, m', hm, w9⟩ := h9
      refine wpAny_mono (mt_append (X := cxC X scope cl h3.objs.size N { s2 with heap := h3, toks := s2.toks } H3 [it]) _ s9 τ8 H9 (.ref s2.heap.objs.size) [y] (.ref s2.heap.objs.size) [y']
        (fun _ H10 => H10 = upd H9 s2.heap.objs.size (.lst (ys ++ [y]))) I9 rfl (.cons ry .nil) ⟨_, ys, y, rfl, rfl, e9, l9, rfl⟩) (fun _ s10 h10 => ?_) fun _ _ z => False.elim z
      obtain ⟨_, H10, I10, _, e10⟩ := h10
      subst e10
      have pin10 := I10.pin _ (List.mem_append_right _ (List.mem_append_right _ (mem_pinsAt (fp := [it]) (b := it) (by simp) st7)))
      exact ⟨m', hm, i + 1, ys ++ [y], τ8, _, I10.unpinned, pin10.1, pin10.2.1, w9⟩
  exact codeAny_compStart_list loop (wpAny_pyIter_rangeiter st4 loop)
/-- [elt for target in range(a)] while an exception is handled -/
theorem pe_lcompH {elt target a : Expr} {p0 pos0 pos : Pos} {ta : TA} {g : TG} {te : TE} (Hd : Hnd X h oe) (S : CpScope X scope N js) (hgr : Gl X "range") (hmr : X.mg "range" = none) (ha : PA X [a] ta)
    (hg : ∀ cl C s H fp, PG (cxC X scope cl C N s H fp) target g) (he : ∀ cl C s H fp, PE (cxC X scope cl C N s H fp) elt te) (hs : ∀ x, foldedSetIterable (.Call (.Name "range" p0) [a] [] pos0) X.env x = pure x := by intro _; rfl)
    (hst : starEach [a] X.env = [(false, eval a X.env)] := by rfl) : PE X (.ListComp elt [⟨target, .Call (.Name "range" p0) [a] [] pos0, [], 0⟩] scope pos) (tComp js (iRng1 ta) g te) := by
  intro pins s σ H Q I hq
  rw [eval_ListComp]
  refine comp_coreH (use := none) Hd S hgr hmr ha hg he hs hst I hq fun p C H' s' m I' q f hn => ⟨m, hn, fun h' hs' => ⟨.ref p, H', ?_, rfl, q⟩⟩
  obtain ⟨f0, f1, f2, f3, f4, f5⟩ := f
  exact I'.turned (t' := s'.toks) (fun b o hb e => (hs'.2 b hb).trans e) f0 f1 f3 f4 f5
end
end L2

set_option Elab.async false
set_option linter.all false
set_option maxRecDepth 100000
set_option maxHeartbeats 4000000
/-! a def called while an exception is handled; try .. except C as n -/
namespace L2
open PySem PySem.Spec PyProof.Rows
/-! ### calls while an exception is handled -/
structure RoomH (k : Nat) (A : Around) : Prop where
  dp : A.depth + 3 * k + 5 < recursionLimit
  un : A.units + 16 * k + 200 < cLine
theorem Room.h {k : Nat} {A : Around} (r : Room k A) : RoomH k A := ⟨r.dp, r.un⟩
theorem RoomH.deeper {k : Nat} {A : Around} (r : RoomH (k + 1) A) (env : Env) : RoomH k (A.deeper env) :=
  ⟨by have := r.dp; show A.depth + 1 + 3 * k + 5 < _; omega, by have := r.un; show A.units + 3 + 16 * k + 200 < _; omega⟩
theorem RoomH.depth {k : Nat} {A : Around} (r : RoomH k A) : A.depth < recursionLimit := by have := r.dp; omega
def Ctx0 (oe : Obj) : Prop := ∃ vs, oe.data = .fields vs ∧ vs[2]? = some .none
abbrev CXno : CXT := fun _ _ _ _ _ _ => False
abbrev Eno : XK := fun _ _ _ => False
structure FnOkH (P : Program) (w : World) (K : PySem.W.Frag) (mg : Str → Option Value) (base : Heap) (k : Nat) (f : Addr) (fd : FuncData) (ps : List Str) (sp : Addr → Obj → Sp) : Prop where
  len : ∀ h oe vs H Q E, sp h oe vs H Q E → vs.length = ps.length
  run : ∀ (A : Around) (outer : List Env) (s : Shared) (H : Hp) (args : Args) (us : List Value) (vs : List V) (Q : VK) (h : Addr) (oe : Obj), RoomH k A → A.handled = some (.ref h) → Env0 P w K mg base A outer s H → s.heap.get? h = some oe → H h = none → h ∉ frs outer → Ctx0 oe →
    BindsTo s fd args (ps.zip us) → Vals vs us → sp h oe vs H Q Eno → codeAny (model P w) A (.call (.ref f) args) (CR CXno outer P w H s Q Eno) s
/-- the context of a def's body that runs while an exception is handled -/
def cxH (P : Program) (w : World) (K : PySem.W.Frag) (mg : Str → Option Value) (base : Heap) (N : List Str) (qual : Str) (scope : Scope) (f : Addr) (cd : Value) (A : Around) (outer : List Env) (s : Shared) (H : Hp) (h : Addr) (oe : Obj) : Cx :=
  { cxOf CXno P w K mg base N qual scope f cd A outer s H Eno with calm := false, pn := [(h, oe)], xe := fun _ _ => False }
theorem fn_ofH {P : Program} {w : World} {K : PySem.W.Frag} {mg : Str → Option Value} {base : Heap} {k : Nat} {f : Addr} {name qual : Str} {params : Arguments} {body : List Stmt} {scope : Scope} {dV kV doc pm cdv ct oc : Value} {an od : Option Addr}
    {osl : Array (Option Value)} {N ps : List Str} {sp : Addr → Obj → Sp} (lk : K.lookup f = some ⟨oc, od, .func (PySem.W.fnOf name qual params body scope dV kV doc pm an cdv ct), osl⟩) (hcd : PySem.W.codeIn K cdv qual = true) (S : FnScope N ps scope)
    (len : ∀ h oe vs H Q E, sp h oe vs H Q E → vs.length = ps.length)
    (hbody : ∀ (A : Around) (outer : List Env) (s : Shared) (H : Hp) (vs : List V) (Q : VK) (h : Addr) (oe : Obj), RoomH k (A.deeper (envOfC qual scope s.heap.objs.size f cdv)) → Hnd (cxH P w K mg base N qual scope f cdv A outer s H h oe) h oe → sp h oe vs H Q Eno →
      ∃ t, PSs (cxH P w K mg base N qual scope f cdv A outer s H h oe) body t ∧ t { nx := fun _ H' => Q .non H', rt := Q } (start N vs) H) :
    FnOkH P w K mg base (k + 1) f (PySem.W.fnOf name qual params body scope dV kV doc pm an cdv ct) ps sp := by
  refine ⟨len, fun A outer s H args us vs Q h oe hr hh e0 ho hn hfr hcx hb r hsp => ?_⟩
  have hl := len _ _ _ _ _ _ hsp
  have KX : K.In s.heap := e0.mod.kin.keeps fun b o e => (e0.bs b o e).1
  have lim : s.heap.NoLimit := e0.mod.nolimit.keeps fun b o e => (e0.bs b o e).1
  have hkind : ∀ y ∈ ps.zip us, scope.names.lookup y.1 = some .local ∨ (scope.names.lookup y.1 = some .cell ∧ ((cellsFrom (s.heap.objs.size + 1) scope.names []).lookup y.1).isSome = true) := fun ⟨n, v⟩ hy => by
    rcases S.par n (List.of_mem_zip hy).1 with q | q
    · exact .inl q
    · exact .inr ⟨q, PySem.W.cellsFrom_some _ _ _ (.inl q)⟩
  refine codeAny_call_function hr.depth (KX _ _ lk) rfl S.co S.gen rfl (PySem.W.codeRec_of KX hcd) (hb _ _ _ _ ?_)
  refine wpAny_newFunctionEnv_cells S.kind hkind fun env he s1 x => ?_
  subst he
  refine ⟨lim.keeps x.toInCall.keep, codeAny_func ?_⟩
  have e1 : Env0 P w K mg base { A with handled := none } outer s H := ⟨e0.frames, e0.mod, e0.bs, e0.bsz, e0.funs, e0.frf, e0.hok, e0.bare⟩
  have I0 : Inv (cxOf CXno P w K mg base N qual scope f cdv { A with handled := none } outer s H Eno) [] (start N vs) H s1 := inv_start S rfl e1 hl r x
  have I : Inv (cxH P w K mg base N qual scope f cdv A outer s H h oe) [] (start N vs) H s1 := by
    refine ⟨⟨I0.ok.mod, I0.ok.kind, I0.ok.glob, I0.ok.blt, I0.ok.above, I0.ok.inj, I0.ok.has, I0.ok.cab, fun z => ?_, Around.frames_deeper e0.frames, I0.ok.stk, I0.ok.exf, I0.ok.bs, I0.ok.bsz, I0.ok.noex, I0.ok.exfs, I0.ok.funs, I0.ok.frf⟩,
      I0.os, I0.bare, I0.base, I0.loc, I0.cell, I0.free, I0.freeC, fun p hp => ?_, I0.hok, I0.len⟩
    · have z' : false = true := z
      cases z'
    · have e : p = (h, oe) := by
        have hp' : p ∈ [(h, oe)] ++ ([] : List (Addr × Obj)) := hp
        simpa using hp'
      subst e
      refine ⟨I0.base.keep h oe ho hn hfr (fun z => absurd (show h ∈ ([] : List Addr) from z) (by simp)), hn, Nat.ne_of_lt (Heap.lt_size ho), hfr, fun v z => ?_⟩
      obtain ⟨vs, hd, _⟩ := hcx
      have z' : oe.data = Data.cell v := z
      rw [hd] at z'
      cases z'
  have Hd : Hnd (cxH P w K mg base N qual scope f cdv A outer s H h oe) h oe := ⟨hh, List.mem_singleton.mpr rfl, hcx⟩
  obtain ⟨t, ht, hq⟩ := hbody A outer s H vs Q h oe (hr.deeper _) Hd hsp
  refine wpAny_mono (ht [] s1 (start N vs) H _ I hq) (fun fl s' hs => ?_) fun e s' hs => False.elim hs
  have fin : ∀ {σ' : St} {H' : Hp} {v : V} {u : Value}, Inv (cxH P w K mg base N qual scope f cdv A outer s H h oe) [] σ' H' s' → RelV v u → Q v H' → CE outer P w H s Q u s' :=
    fun {σ' H' v u} J rv q => ⟨v, H', J.os, J.bare, J.base, J.hok, rv, q⟩
  cases fl with
  | ret u =>
    obtain ⟨v, σ', H', J, rv, q⟩ := hs
    exact fin J rv q
  | next =>
    obtain ⟨σ', H', J, q⟩ := hs
    exact fin (v := V.non) (u := Value.none) J rfl q
  | brk =>
    obtain ⟨_, _, _, q⟩ := hs
    exact False.elim q
  | cont =>
    obtain ⟨_, _, _, q⟩ := hs
    exact False.elim q
section
variable {X : Cx} {k : Nat} {f : Addr} {fd : FuncData} {ps : List Str} {sp : Addr → Obj → Sp} {x : Str} {p pos : Pos} {e : Expr} {es : List Expr} {t : TA} {h : Addr} {oe : Obj}
theorem pe_callH (Hd : Hnd X h oe) (F : FnOkH X.prog X.w X.K X.mg X.base k f fd ps sp) (hr : RoomH k X.A) (hg : Gl X x) (hm : X.mg x = some (.ref f)) (hk : PySem.W.keepIn X.K (.ref f) = true) (hb : Binds X.K fd ps [])
    (ha : PA X (e :: es) t) (hdb : (x == ("__debug__" : Str)) = false := by decide) (he : starEach (e :: es) X.env = (false, eval e X.env) :: starEach es X.env := by rfl) (hpl : (backTo pos (starEach es X.env)).any (·.1) = false := by rfl) :
    PE X (.Call (.Name x p) (e :: es) [] pos) (tCall (sp h oe) [] Eno t) := by
  intro pins s σ H Q I hq
  refine wpAny_Call_Name_kw (ld_glob I hg hm ?_ hdb)
  refine PySem.W.callWith_K (h₀ := X.base) I.ok.mod.kin hk (thn (ha pos pins s σ H _ I hq) fun us s1 ⟨vs, H1, I1, r, q⟩ => ⟨I1.kIn, ?_⟩) he hpl
  have q : sp h oe (vs ++ []) H1 Q Eno := q
  rw [List.append_nil] at q
  have hl : (us ++ ([] : List Value)).length = ps.length := by rw [List.append_nil, ← r.length]; exact F.len _ _ _ _ _ _ q
  have hb1 := hb s1 us I1.kIn hl
  rw [List.append_nil] at hb1
  obtain ⟨e1, n1, ne, nf, _⟩ := I1.pin (h, oe) (List.mem_append_left _ Hd.pn)
  have hfr : h ∉ frs X.stack := fun z => (List.mem_cons.mp (I1.stkSub h z)).elim ne nf
  refine wpAny_call (codeAny_mono (F.run X.A X.stack s1 H1 ⟨us, []⟩ us vs Q h oe hr Hd.hd I1.env0 e1 n1 hfr Hd.cx hb1 r q) fun r s' hq => ?_)
  cases r with
  | error e => exact False.elim hq
  | ok fl =>
    cases fl with
    | ret u => exact I1.after hq
    | next => exact False.elim hq
    | brk => exact False.elim hq
    | cont => exact False.elim hq
/-- isinstance(n, C), n the handled exception -/
theorem call_isx (Hd : Hnd X h oe) {C : Addr} {c : V} {cv : Value} {b : Bool} (hc : oe.cls = .ref C) (hdd : oe.dict = none) (ec : PySem.W.ExcCls X.K C) (rc : RelV c cv) (hcv : ∀ u, RelV c u → u = cv) (q : PySem.W.kitOne X.K (.ref C) cv = some b) :
    CallR X (.builtin "isinstance") (fun xs H Q => xs = [.ref h, c] ∧ Q (.bl b) H) := by
  rintro pins s σ H xs us Q I r ⟨rfl, hq⟩
  cases r with
  | cons r1 r2 =>
    cases r2 with
    | cons r3 r4 =>
      cases r4
      cases r1
      obtain rfl := hcv _ r3
      obtain ⟨vs, hd, _⟩ := Hd.cx
      have hI : PySem.W.InstAt s.heap h oe C none := ⟨(I.pin (h, oe) (List.mem_append_left _ Hd.pn)).1, hc, by unfold PySem.W.notCls; rw [hd], by rw [hdd]; trivial⟩
      exact PySem.W.kia_one (PySem.W.kitx_exc ec) I.kIn hI q (fun z => nomatch z) fun tk => ⟨.bl b, H, I.tok tk, rfl, hq⟩
end
/-! ### try -/
theorem exc_matches {prog : Program} {w : World} {A : Around} {E : Value → Shared → Prop} {s : Shared} {K : PySem.W.Frag} {e C R : Addr} {oe : Obj} {Q : Bool → Shared → Prop} (X : K.In s.heap) (he : s.heap.get? e = some oe) (hc : oe.cls = .ref C) (t1 : PySem.W.typeIn K (.ref R) = some (.type "type"))
    (c1 : (PySem.W.clsIn K R).isSome = true) (x1 : PySem.W.mroIn K R (.type "BaseException") = some true) (x2 : PySem.W.mroIn K C (.ref R) = some true) (h : Q true s) : wpAny (model prog w) A (excMatches (.ref e) (.ref R)) Q E s := by
  obtain ⟨hh, g, d, t, os⟩ := s
  have L0 : PySem.W.Looks (model prog w) hh (typeOf (.ref e)) (.ref C) := hc ▸ (PySem.W.Looks.ld he).andThen .now
  have L1 := PySem.W.looks_typeIn (M := model prog w) X t1
  have L2 : PySem.W.Looks (model prog w) hh (isType (.ref R)) true := by
    obtain ⟨cdD, hcD⟩ := Option.isSome_iff_exists.mp c1
    unfold PySem.W.clsIn at hcD
    split at hcD
    · rename_i c' d' cd' sl' ho
      intro A' Q' E' s' k q
      unfold isType loadHead
      exact wpAny_bind (wpAny_loadPart (k _ _ (X _ _ ho)) (wpAny_pure q))
    · cases hcD
  have L3 := PySem.W.looks_mroIn (M := model prog w) X x1
  have L4 := PySem.W.looks_mroIn (M := model prog w) X x2
  have f := tc_notTuple
  unfold excMatches isInstance isExcClass
  repeat (first | lk | wp_step)
  exact h
end L2

set_option Elab.async false
set_option linter.all false
set_option maxRecDepth 100000
set_option maxHeartbeats 4000000
/-! try: .. except C as n: .. (the suite returns) -/
namespace L2
open PySem PySem.Spec PyProof.Rows
/-- the context of a try's body: its own wish for exceptions, the pins within -/
abbrev Cx.tried (X : Cx) (pn : List (Addr × Obj)) (xe : Value → Shared → Prop) : Cx := { X with pn := pn, xe := xe }
/-- the context of the suite -/
abbrev Cx.caught (X : Cx) (pn : List (Addr × Obj)) (ea : Addr) : Cx := { X with A := X.A.mark (some (.ref ea)), calm := false, pn := pn, xe := fun _ _ => False }
section
variable {X : Cx} {pins : List (Addr × Obj)} {σ : St} {H H' : Hp} {s : Shared} {B : Heap}
theorem Inv.tried {xe : Value → Shared → Prop} (I : Inv X pins σ H s) : Inv (X.tried (X.pn ++ pins) xe) [] σ H s :=
  ⟨⟨I.ok.mod, I.ok.kind, I.ok.glob, I.ok.blt, I.ok.above, I.ok.inj, I.ok.has, I.ok.cab, I.ok.hd, I.ok.frames, I.ok.stk, I.ok.exf, I.ok.bs, I.ok.bsz, I.ok.noex, I.ok.exfs, I.ok.funs, I.ok.frf⟩,
    I.os, I.bare, I.base, I.loc, I.cell, I.free, I.freeC, fun p hp => I.pin p (by simpa using hp), I.hok, I.len⟩
theorem Inv.untried {pl : List (Addr × Obj)} {xe : Value → Shared → Prop} (ok : X.Ok) (I : Inv (X.tried (X.pn ++ pins) xe) pl σ H s) : Inv X pins σ H s :=
  ⟨ok, I.os, I.bare, I.base, I.loc, I.cell, I.free, I.freeC, fun p hp => I.pin p (List.mem_append_left _ hp), I.hok, I.len⟩
theorem Inv.uncaught {pl : List (Addr × Obj)} {ea : Addr} {more : List (Addr × Obj)} (ok : X.Ok) (I : Inv (X.caught (X.pn ++ pins ++ more) ea) pl σ H s) : Inv X pins σ H s :=
  ⟨ok, I.os, I.bare, I.base, I.loc, I.cell, I.free, I.freeC, fun p hp => I.pin p (List.mem_append_left _ (List.mem_append_left _ hp)), I.hok, I.len⟩
theorem Inv.caught {ea : Addr} {more : List (Addr × Obj)} (I : Inv X pins σ H s) (hm : ∀ p ∈ more, s.heap.get? p.1 = some p.2 ∧ H p.1 = none ∧ p.1 ≠ X.env.locals ∧ p.1 ∉ X.fs ∧ ∀ v, p.2.data ≠ .cell v) : Inv (X.caught (X.pn ++ pins ++ more) ea) [] σ H s :=
  ⟨⟨I.ok.mod, I.ok.kind, I.ok.glob, I.ok.blt, I.ok.above, I.ok.inj, I.ok.has, I.ok.cab, fun z => (by have z' : false = true := z; cases z'), I.ok.frames, I.ok.stk, I.ok.exf, I.ok.bs, I.ok.bsz, I.ok.noex, I.ok.exfs, I.ok.funs, I.ok.frf⟩,
    I.os, I.bare, I.base, I.loc, I.cell, I.free, I.freeC, fun p hp => by
      have hp' : p ∈ X.pn ++ pins ∨ p ∈ more := by
        rcases List.mem_append.mp hp with z | z
        · exact List.mem_append.mp z
        · cases z
      exact hp'.elim (I.pin p) (hm p), I.hok, I.len⟩
/-- the names are forgotten, the frame's map is another -/
theorem Inv.forget {h' : Heap} {m : Str → Option Value} {t' : Nat} (I : Inv X pins σ H s) (hn : h'.Ns X.env.locals m) (sb : Heap.SameBut X.env.locals s.heap h') : Inv X pins (List.replicate X.N.length none) H { s with heap := h', toks := t' } := by
  have neL : ∀ b o, X.s₀.heap.get? b = some o → b ≠ X.env.locals := fun b o e => Nat.ne_of_lt (Nat.lt_of_lt_of_le (Heap.lt_size e) I.ok.above)
  refine ⟨I.ok, I.os, I.bare, ⟨fun b o e n hb hx => (sb.2 b (neL b o e)).trans (I.base.keep b o e n hb hx), fun b o e n hb hx => ?_, I.base.free, fun b o e hx => ?_, I.base.tups, I.base.frzs, I.base.tbls⟩, ⟨m, hn, fun i x v e1 e2 => ?_⟩, fun x c e => ?_, I.free, I.freeC, fun p hp => ?_, fun b u e => ?_, ?_⟩
  · obtain ⟨sl, e1⟩ := I.base.slot b o e n hb hx
    exact ⟨sl, (sb.2 b (neL b o e)).trans e1⟩
  · obtain ⟨o', e1⟩ := I.base.there b o e hx
    exact ⟨o', (sb.2 b (neL b o e)).trans e1⟩
  · rw [List.getElem?_replicate] at e2
    split at e2 <;> cases e2
  · obtain ⟨v, z⟩ := I.cell x c e
    exact ⟨v, z.sameBut sb (I.cne x c e)⟩
  · obtain ⟨e, n, ne, nf, d⟩ := I.pin p hp
    exact ⟨(sb.2 p.1 ne).trans e, n, ne, nf, d⟩
  · refine (I.hok b u e).stay (fun c v hc q => (sb.2 c ?_).trans q) (fun _ q => q) fun _ _ q => q
    rintro rfl
    rcases hc with z | z
    · rw [← z, I.free] at e; cases e
    · rw [I.free] at z; cases z
  · rw [List.length_replicate]
/-- a step that keeps B, the frames up to slots, and lets nothing go: the invariant behind an exception that landed -/
theorem Inv.landed {s' : Shared} {h1 h2 : Heap} (I : Inv X pins σ H s) (u : Un (frs X.stack) [] H H' s.heap h1) (kb : ∀ b o, s.heap.get? b = some o → H b = none → b ∉ frs X.stack → B.get? b = some o) (bk : B.StaysIn h2) (sl : h1.UpToSlots h2) (th : Thr h1 h2) (hok : HOk X.prog X.w H' B)
    (os : s'.os = s.os) (bare : AllBare s'.gens) (hs : s'.heap = h2) : Inv X pins σ H' s' := by
  subst hs
  refine I.call' (ch := []) os ⟨fun b o e n hb _ => bk b o (kb b o e n hb), fun b o e n hb _ => ?_, fun b o e n _ => u.free b o e n (by simp), fun b o e _ => ?_, u.tups, u.frzs, u.tbls⟩ (hok.kept bk) bare fun b z => nomatch z
  · obtain ⟨sl1, e1⟩ := u.any e n (by simp)
    obtain ⟨_, o', eo, hnf⟩ := I.stack.mem hb
    rw [e] at eo
    cases eo
    obtain ⟨sl2, e2⟩ := sl b _ e1 hnf
    exact ⟨sl2, e2⟩
  · obtain ⟨o1, e1⟩ := u.there b o e (by simp)
    exact th b o1 e1
end
/-- try: body; except .. as n: suite: an exception lies as R says, the suite returns -/
def tTry (n : Nat) (j : Nat) (tb : TS) (R : XK) (th : Addr → Obj → TS) : TS := fun D σ H => tb D σ H ∧ ∀ cls dct H' ea oe, R cls dct H' → H' ea = none → oe.cls = cls → oe.dict = dct → th ea oe { nx := fun _ _ => False, rt := D.rt } ((List.replicate n none).set j (some (.ref ea))) H'
theorem ps_try {X : Cx} {body : List Stmt} {tb : TS} {R : XK} {th : Addr → Obj → TS} {x n : Str} {np hpos pos : Pos} {b₀ : Stmt} {suite : List Stmt} {j : Nat} {CR : Addr} (hst : X.stack = X.env :: X.outer) (hfr : X.env.frame = some X.env.locals)
    (hb : ∀ pn xe, Passes (CXe X.prog X.w) (X.tried pn xe) R → PSs (X.tried pn xe) body tb)
    (hh : ∀ pn ea oe, Hnd (X.caught pn ea) ea oe → PSs (X.caught pn ea) (b₀ :: suite) (th ea oe))
    (hR : ∀ cls dct H', R cls dct H' → ∃ C, cls = .ref C ∧ PySem.W.mroIn X.K C (.ref CR) = some true)
    (t1 : PySem.W.typeIn X.K (.ref CR) = some (.type "type")) (c1 : (PySem.W.clsIn X.K CR).isSome = true) (x1 : PySem.W.mroIn X.K CR (.type "BaseException") = some true)
    (hg : Gl X x) (hm : X.mg x = some (.ref CR)) (hN : X.N.Nodup) (hj : X.N[j]? = some n) (hl : X.env.scope.names.lookup n = some .local) (hdb : (x == ("__debug__" : Str)) = false := by decide) :
    PS X (.Try body [.ExceptHandler (some (.Name x np)) (some n) (b₀ :: suite) hpos] [] [] pos) (tTry X.N.length j tb R th) := by
  rintro pins s σ H D I ⟨q1, q2⟩
  refine wpAny_Try_except ?_
  generalize hE : (fun (e : Value) (s₁ : Shared) => wpAny (model X.prog X.w) X.A (noteFrame e X.env) (fun _ s₂ => wpAny (model X.prog X.w) X.A (setFlight e none) (fun _ s₃ => wpAny (model X.prog X.w) X.A (handleBy e X.env [.ExceptHandler (some (.Name x np)) (some n) (b₀ :: suite) hpos]) (SP X pins D) X.xe s₃) X.xe s₂) X.xe s₁) = E1
  have pass : Passes (CXe X.prog X.w) (X.tried (X.pn ++ pins) E1) R := by
    rintro pins' σ' H1 s1 e s2 I1 ⟨ea, cls, dct, H2, B, rfl, os, bare, u, hok, xa, kb, new, fr, r⟩
    show E1 _ _
    rw [← hE]
    have J1 : Inv X pins σ' H1 s1 := Inv.untried I.ok I1
    have hfrm := I.ok.frames
    rw [hst] at hfrm
    have xa0 : XAt B (X.env :: X.outer) ea cls dct (some .none) s2.heap := by rw [← hst]; exact xa
    refine x_note hfrm hfr xa0 fun h3 x3 sl3 th3 => x_land (s := { s2 with heap := h3 }) x3 fun h4 x4 sl4 th4 => ?_
    -- the class matches
    obtain ⟨C, rfl, hsub⟩ := hR _ _ _ r
    have J4 : Inv X pins σ' H2 { s2 with heap := h4 } := J1.landed u kb x4.1 (sl3.trans sl4) (th3.trans th4) hok os bare rfl
    have J4c : Inv (X.caught (X.pn ++ pins ++ []) ea) [] σ' H2 { s2 with heap := h4 } := J4.caught fun p hp => nomatch hp
    refine wpAny_handleBy_cons (codeAny_handlers_test (ld_glob (X := X.caught (X.pn ++ pins ++ []) ea) J4c hg hm ?_ hdb)) (by intro z; cases z)
    obtain ⟨oe4, vs4, he4, hc4, _⟩ := x4.2.2.2
    refine exc_matches (K := X.K) J4.kIn he4 hc4 t1 c1 x1 hsub ?_
    -- the suite
    refine codeAny_handlers_suite_as ?_
    refine x_land (s := { s2 with heap := h4 }) x4 fun h5 x5 sl5 th5 => ?_
    have J5 : Inv X pins σ' H2 { s2 with heap := h5 } := J1.landed u kb x5.1 ((sl3.trans sl4).trans sl5) ((th3.trans th4).trans th5) hok os bare rfl
    obtain ⟨oe, vs, he5, hc5, hd5, hdat, hctx, _⟩ := x5.2.2.2
    have hfrs := frs_stack hst hfr
    have nofr : ∀ b ∈ frs X.stack, b ≠ ea := fun b hb z => by
      have hb' : b ∈ frs (X.env :: X.outer) := by rw [← hst]; exact hb
      obtain ⟨_, o', eo, hnf⟩ := x5.2.2.1.mem hb'
      rw [z, he5] at eo
      cases eo
      exact hnf _ hdat
    have J5c : Inv (X.caught (X.pn ++ pins ++ [(ea, oe)]) ea) [] σ' H2 { s2 with heap := h5 } := J5.caught fun p hp => by
      have e : p = (ea, oe) := by simpa using hp
      subst e
      refine ⟨he5, fr, fun z => nofr X.env.locals (by rw [hfrs]; exact List.mem_cons_self ..) z.symm, fun z => nofr _ (by rw [hfrs]; exact List.mem_cons_of_mem _ z) rfl, fun v z => ?_⟩
      have z' : oe.data = Data.cell v := z
      rw [hdat] at z'
      cases z'
    have Hd : Hnd (X.caught (X.pn ++ pins ++ [(ea, oe)]) ea) ea oe := ⟨rfl, List.mem_append_right _ (List.mem_singleton.mpr rfl), vs, hdat, hctx⟩
    have J5n : Inv (X.caught (X.pn ++ pins ++ [(ea, oe)]) ea) [] (List.replicate X.N.length none) H2 { s2 with heap := h5 } := J5c.weak (by rw [List.length_replicate]; exact J5c.len.symm) fun i v e => by
      rw [List.getElem?_replicate] at e
      split at e <;> cases e
    refine store_ok (X := X.caught (X.pn ++ pins ++ [(ea, oe)]) ea) J5n hN hj (.inl hl) (v := .ref ea) rfl (fun s6 J6 => ?_) (.inr hl)
    refine wpAny_mono (hh _ ea oe Hd [] s6 _ H2 _ J6 (q2 _ _ _ ea oe r fr hc5 hd5)) (fun f s7 h7 => ?_) fun _ _ z => False.elim z
    cases f with
    | ret v =>
      obtain ⟨v', σ7, H7, J7, rv, q7⟩ := h7
      obtain ⟨m7, hn7, _⟩ := J7.loc
      refine wpAny_nameGoes hl hn7 (by rw [I.ok.kind]; rfl) fun h8 m8 hn8 sb8 => ?_
      exact ⟨v', _, H7, (Inv.uncaught I.ok J7).forget hn8 sb8, rv, q7⟩
    | next => obtain ⟨_, _, _, z⟩ := h7; exact False.elim z
    | brk => obtain ⟨_, _, _, z⟩ := h7; exact False.elim z
    | cont => obtain ⟨_, _, _, z⟩ := h7; exact False.elim z
  refine wpAny_mono (hb _ _ pass [] s σ H D I.tried q1) (fun f s1 h1 => ?_) fun e s1 h1 => h1
  cases f with
  | next =>
    obtain ⟨σ1, H1, J1, q⟩ := h1
    exact wpAny_execs_nil ⟨σ1, H1, Inv.untried I.ok J1, q⟩
  | ret v =>
    obtain ⟨v', σ1, H1, J1, rv, q⟩ := h1
    exact ⟨v', σ1, H1, Inv.untried I.ok J1, rv, q⟩
  | brk =>
    obtain ⟨σ1, H1, J1, q⟩ := h1
    exact ⟨σ1, H1, Inv.untried I.ok J1, q⟩
  | cont =>
    obtain ⟨σ1, H1, J1, q⟩ := h1
    exact ⟨σ1, H1, Inv.untried I.ok J1, q⟩
end L2

set_option Elab.async false
set_option linter.all false
set_option maxRecDepth 100000
set_option maxHeartbeats 4000000
/-! xs[::-1]; defs that may raise, defs that run while an exception is handled -/
namespace L2
open PySem PySem.Spec PyProof.Rows
theorem cxNoE {P : Program} {w : World} : CxNo (CXe P w) := fun _ _ _ _ _ ⟨_, _, _, _, _, _, _, _, _, _, _, _, _, _, z⟩ => z
section
variable {X : Cx} {e st : Expr} {te : TE} {ts : TO} {pos p2 : Pos}
end
section
variable {CX : CXT} {P : Program} {w : World} {K : PySem.W.Frag} {mg : Str → Option Value} {base : Heap}
theorem Fun.okE {x qual : Str} {st : Stmt} {f : Addr} {fd : FuncData} {N ps : List Str} {k : Nat} {sp : Sp} (F : Fun K x qual st f fd) (S : FnScope N ps (defScope st)) (len : ∀ vs H Q E, sp vs H Q E → vs.length = ps.length)
    (hbody : ∀ (cdv : Value) (A : Around) (outer : List Env) (s : Shared) (H : Hp) (vs : List V) (Q : VK) (E : XK), Room k (A.deeper (envOfC qual (defScope st) s.heap.objs.size f cdv)) → sp vs H Q E →
      ∃ t, PSs (cxOf CX P w K mg base N qual (defScope st) f cdv A outer s H E) (defBody st) t ∧ t { nx := fun _ H' => Q .non H', rt := Q } (start N vs) H) : FnOk P w K mg base CX (k + 1) f fd ps sp := by
  obtain ⟨oc, od, kV, doc, pm, an, cdv, ct, osl, rfl, lk, hcd⟩ := F.ex
  exact fn_of lk hcd S len fun A outer s H vs Q E hr hsp => hbody cdv A outer s H vs Q E hr hsp
theorem Fun.okH {x qual : Str} {st : Stmt} {f : Addr} {fd : FuncData} {N ps : List Str} {k : Nat} {sp : Addr → Obj → Sp} (F : Fun K x qual st f fd) (S : FnScope N ps (defScope st)) (len : ∀ h oe vs H Q E, sp h oe vs H Q E → vs.length = ps.length)
    (hbody : ∀ (cdv : Value) (A : Around) (outer : List Env) (s : Shared) (H : Hp) (vs : List V) (Q : VK) (h : Addr) (oe : Obj), RoomH k (A.deeper (envOfC qual (defScope st) s.heap.objs.size f cdv)) → Hnd (cxH P w K mg base N qual (defScope st) f cdv A outer s H h oe) h oe → sp h oe vs H Q Eno →
      ∃ t, PSs (cxH P w K mg base N qual (defScope st) f cdv A outer s H h oe) (defBody st) t ∧ t { nx := fun _ H' => Q .non H', rt := Q } (start N vs) H) : FnOkH P w K mg base (k + 1) f fd ps sp := by
  obtain ⟨oc, od, kV, doc, pm, an, cdv, ct, osl, rfl, lk, hcd⟩ := F.ex
  exact fn_ofH lk hcd S len fun A outer s H vs Q h oe hr hd hsp => hbody cdv A outer s H vs Q h oe hr hd hsp
theorem lv_of {N : List Str} {qual : Str} {scope : Scope} {f : Addr} {cd : Value} {A : Around} {outer : List Env} {s : Shared} {H : Hp} {E : XK} : Lv (cxOf (CXe P w) P w K mg base N qual scope f cd A outer s H E) E := ⟨rfl, rfl, rfl, rfl⟩
end
end L2

set_option Elab.async false
set_option linter.all false
set_option maxRecDepth 100000
set_option maxHeartbeats 4000000
/-! lists compared by < -/
namespace L2
open PySem PySem.SeqAt PySem.MeetsSeq PySem.MeetsSeq2 PySem.MeetsSeq3 PySem.SeqRoads2
open PySem.AutoSeq1 (wpAny_loadPart')
section
variable {X : Cx}
end
end L2

set_option Elab.async false
set_option linter.all false
set_option maxRecDepth 100000
set_option maxHeartbeats 4000000
/-! [elt for target in iter if test]; pairs into a cell -/
namespace L2
open PySem PySem.Spec PyProof.Rows
section
variable {prog : Program} {w : World} {A : Around} {R : Result → Shared → Prop} {s : Shared}
end
section
variable {X : Cx} {pins : List (Addr × Obj)} {σ : St} {H : Hp} {s : Shared} {scope : Scope} {cl : List (Str × Addr)} {C : Addr} {N : List Str} {js : List (Option Nat)} {fp : List Addr}


end
end L2

set_option Elab.async false
set_option linter.all false
set_option maxRecDepth 100000
set_option maxHeartbeats 4000000
/-! texts: gone along, find, index, join, split -/
namespace L2
open PySem PySem.Spec PyProof.Rows PySem.Builtin PySem.Builtin.Str
/-- the signs of a text -/
def Its (x : Str) : It := ⟨fun i _ => i < x.cps.size, fun i H y H' => H' = H ∧ ∃ c, x.cps[i]? = some c ∧ y = .str ⟨#[c]⟩, fun i _ => x.cps.size ≤ i⟩
theorem turn_str {P : Program} {w : World} {K : PySem.W.Frag} {tg : Expr} (x : Str) (t : Tok) (it : Addr) : Turn P w K tg (Its x) [it] it (fun i h => h.IsStrIter it "str_ascii_iterator" x t i) where
  mem := List.mem_singleton.mpr rfl
  obj := fun i h st b hb => by
    cases List.mem_singleton.mp hb
    obtain ⟨o, e, c, d⟩ := st
    refine ⟨o, e, fun v z => ?_⟩
    rw [d] at z
    cases z
  keep := fun i h h' st k => by
    obtain ⟨o, e, r⟩ := st
    exact ⟨o, k it (List.mem_singleton.mpr rfl) o e, r⟩
  item := by
    rintro X rfl rfl rfl hc i pins s σ H E I hf st hg
    have hi : i < x.cps.size := hg
    obtain ⟨f0, f1, f2, f3, f4, f5⟩ := hf it (List.mem_singleton.mpr rfl)
    refine wpAny_pyNext_ascii_item st (c := x.cps[i]) (by simp [hi]) fun h' st' sb => ?_
    have I1 : Inv X pins σ H { s with heap := h', toks := s.toks + 1 } := I.turned (t' := s.toks + 1) (fun b o hb e => (sb.2 b hb).trans e) f0 f1 f3 f4 f5
    obtain ⟨o, e, c, d⟩ := id st'
    exact ⟨_, rfl, go_of (s := { s with heap := h', toks := s.toks + 1 }) e c d (by decide) ⟨.str ⟨#[x.cps[i]]⟩, H, I1, ⟨_, rfl⟩, ⟨rfl, x.cps[i], by simp [hi], rfl⟩, st', fun b hb => (hf b hb).1⟩⟩
  done := by
    rintro X rfl rfl rfl hc i pins s σ H E I hf st hg
    have hi : x.cps.size ≤ i := hg
    obtain ⟨f0, f1, f2, f3, f4, f5⟩ := hf it (List.mem_singleton.mpr rfl)
    exact wpAny_pyNext_ascii_end (I.ok.hd hc) st (by simp [hi]) fun h' eb => ⟨rfl, I.turned (t' := s.toks) (fun b o hb e => eb b o hb e) f0 f1 f3 f4 f5⟩
  self := fun _ _ _ _ _ st h => wpAny_pyIter_striter_ascii st h
section
variable {X : Cx} {tg : Expr}
def Asc (x : Str) : Prop := x.cps.all (· < 128) = true
def iStr (te : TE) : TI := fun σ H R => te σ H fun v H1 => ∃ x, v = .str x ∧ Asc x ∧ R (Its x) H1
theorem pi_str {l : Expr} {te : TE} (hl : PE X l te) : PI X tg l (iStr te) := by
  intro pins s σ H R I h
  refine thn (hl pins s σ H _ I h) fun v s1 ⟨y, H1, I1, r1, q1⟩ => ?_
  obtain ⟨x, rfl, ha, q⟩ := q1
  obtain ⟨t, rfl⟩ := r1
  refine wpAny_pyIter_ascii ha ?_
  refine ⟨s1.heap.objs.size, [s1.heap.objs.size], _, _, H1, rfl, I1.kept (t' := s1.toks) fun b o e => Heap.get?_push_of_some _ e, turn_str x t _, ⟨_, Heap.get?_push_size _ rfl, rfl, rfl⟩, fun b hb => ?_, q⟩
  cases List.mem_singleton.mp hb
  exact I1.fpOk (Nat.le_refl _) (I1.hok.fresh (Nat.le_refl _))
theorem for_str {x : Str} {g : TG} {tb : TS} {D : Ends} {σ : St} {H : Hp} (Pv : Nat → St → Hp → Prop) (h0 : Pv 0 σ H)
    (hs : ∀ i c σ H, x.cps[i]? = some c → Pv i σ H → g (.str ⟨#[c]⟩) σ H fun σ2 H2 => tb { D with nx := Pv (i + 1), ct := Pv (i + 1), bk := D.nx } σ2 H2) (hd : ∀ σ H, Pv x.cps.size σ H → D.nx σ H) :
    ∃ W : Nat → Nat → St → Hp → Prop, (∃ m, W 0 m σ H) ∧ ∀ i m σ H, W i m σ H →
      ((Its x).stop i H ∧ D.nx σ H) ∨ ((Its x).go i H ∧ ∃ N : St → Hp → Prop, (∀ σ' H', N σ' H' → ∃ m', m' < m ∧ W (i + 1) m' σ' H') ∧ ∀ y H', (Its x).yld i H y H' → g y σ H' fun σ2 H2 => tb { D with nx := N, ct := N, bk := D.nx } σ2 H2) := by
  refine ⟨fun i m σ H => m = x.cps.size - i ∧ i ≤ x.cps.size ∧ Pv i σ H, ⟨_, rfl, Nat.zero_le _, h0⟩, ?_⟩
  rintro i m σ H ⟨rfl, hi, p⟩
  by_cases hlt : i < x.cps.size
  · refine .inr ⟨hlt, Pv (i + 1), fun σ' H' p' => ⟨x.cps.size - (i + 1), by omega, rfl, hlt, p'⟩, ?_⟩
    rintro y H' ⟨rfl, c, hc, rfl⟩
    exact hs i c σ _ hc p
  · have e : i = x.cps.size := by omega
    subst e
    exact .inl ⟨Nat.le_refl _, hd σ H p⟩
def rFind : V → List V → Hp → VK → Prop := fun x vs H Q => ∃ a b, x = .str a ∧ vs = [.str b] ∧ Q (.int (Txt.find a b)) H
theorem mt_find : MtM X "str.find" rFind := by
  intro pins s σ H x vs v us Q I rx rv h
  obtain ⟨a, b, rfl, rfl, q⟩ := h
  obtain ⟨t, rfl⟩ := rx
  obtain ⟨u, rfl, ru⟩ := rv.one
  obtain ⟨t', rfl⟩ := ru
  exact SC.find ⟨.int _, H, I.tok _, ⟨_, rfl⟩, q⟩
def rIndexS : V → List V → Hp → VK → Prop := fun x vs H Q => ∃ a b i r, x = .str a ∧ vs = [.str b] ∧ occurrences a b 0 a.length 1 = i :: r ∧ Q (.int (i : Nat)) H
theorem mt_indexS : MtM X "str.index" rIndexS := by
  intro pins s σ H x vs v us Q I rx rv h
  obtain ⟨a, b, i, r, rfl, rfl, ho, q⟩ := h
  obtain ⟨t, rfl⟩ := rx
  obtain ⟨u, rfl, ru⟩ := rv.one
  obtain ⟨t', rfl⟩ := ru
  exact SC.index ho ⟨.int _, H, I.tok _, ⟨_, rfl⟩, q⟩
theorem strs_vals : ∀ l : List (Str × Tok), Vals ((l.map (·.1)).map V.str) (strValues l)
  | [] => .nil
  | p :: l => .cons ⟨p.2, rfl⟩ (strs_vals l)
def rSplit : V → List V → Hp → VK → Prop := fun x vs H Q => ∃ a c, x = .str a ∧ vs = [.str ⟨#[c]⟩] ∧ a.length + 1 ≤ sizeLine ∧ ∀ p, H p = none → Q (.ref p) (upd H p (.lst ((Txt.split a ⟨#[c]⟩).map V.str)))
theorem mt_split : MtM X "str.split" rSplit := by
  intro pins s σ H x vs v us Q I rx rv h
  obtain ⟨a, c, rfl, rfl, hz, q⟩ := h
  obtain ⟨t, rfl⟩ := rx
  obtain ⟨u, rfl, ru⟩ := rv.one
  obtain ⟨t', rfl⟩ := ru
  have hw := split_weight a ⟨#[c]⟩ (Nat.le_refl 1)
  have hlen : (Txt.split a ⟨#[c]⟩).length ≤ sizeLine := by omega
  have fin : ∀ (l : List (Str × Tok)) (k : Nat), l.map (·.1) = Txt.split a ⟨#[c]⟩ → EP X pins σ Q (.ref s.heap.objs.size) { s with heap := s.heap.push { cls := .type "list", data := .seq (strValues l).toArray }, toks := k } := fun l k e => by
    have r := strs_vals l
    rw [e] at r
    exact ⟨.ref _, _, I.lnew (t' := k) r (by rw [List.length_map]; exact hlen), rfl, q _ I.fresh⟩
  cases h1 : (decide (a.length < (⟨#[c]⟩ : Str).length) || decide (strKind a < strKind ⟨#[c]⟩))
  · cases hf : (occurrences a ⟨#[c]⟩ 0 a.length (a.length + 1)).isEmpty
    · have es : Txt.split a ⟨#[c]⟩ = partsBetween a (occurrences a ⟨#[c]⟩ 0 a.length (a.length + 1)) (⟨#[c]⟩ : Str).length := (if_neg (ne_true_of_eq_false h1)).trans (if_neg (ne_true_of_eq_false hf))
      rw [es] at hlen
      refine call_meets F.slot_str_split (typeIs_str _ _ _) F.entry_str_split (F.args_str_split_2 _ _) (meets_str_split_sep a ⟨#[c]⟩ t t' h1 rfl hf (by omega) hlen) ?_
      rw [strsFrom_eq]
      exact fin (numbered s.toks _) _ ((numbered_texts _ _).trans es.symm)
    · have es : Txt.split a ⟨#[c]⟩ = [a] := (if_neg (ne_true_of_eq_false h1)).trans (if_pos hf)
      exact call_meets F.slot_str_split (typeIs_str _ _ _) F.entry_str_split (F.args_str_split_2 _ _) (meets_str_split_not_found a ⟨#[c]⟩ t t' h1 rfl hf) (fin [(a, t)] s.toks es.symm)
  · have es : Txt.split a ⟨#[c]⟩ = [a] := if_pos h1
    exact call_meets F.slot_str_split (typeIs_str _ _ _) F.entry_str_split (F.args_str_split_2 _ _) (meets_str_split_cannot_occur a ⟨#[c]⟩ t t' h1) (fin [(a, t)] s.toks es.symm)
end
/-- the figures -/
abbrev FIG : Str := "0123456789"
theorem fig_find : ∀ c : Nat, c < 128 → Txt.find FIG ⟨#[c]⟩ = if 48 ≤ c ∧ c < 58 then (c : Int) - 48 else -1 := by
  have h : ∀ c : Fin 128, Txt.find FIG ⟨#[c.1]⟩ = if 48 ≤ c.1 ∧ c.1 < 58 then (c.1 : Int) - 48 else -1 := by decide +kernel
  intro c hc
  exact h ⟨c, hc⟩
end L2

set_option Elab.async false
set_option linter.all false
set_option maxRecDepth 100000
set_option maxHeartbeats 4000000
/-! texts cut; like data -/
namespace L2
open PySem PySem.Spec PyProof.Rows PySem.Builtin PySem.Builtin.Str
section
variable {X : Cx}
/-- a cut of a text: signs of it, not more -/
def rSlS : V → Option Int → Option Int → Hp → VK → Prop := fun x _ _ H Q => ∃ z : Str, x = .str z ∧ z.length ≤ sizeLine ∧ ∀ y : Str, (∀ c ∈ y.cps.toList, c ∈ z.cps.toList) → y.length ≤ z.length → Q (.str y) H
theorem part_of {v : Value} {o : Option Int} (h : IsPart v o) : ∃ l : Option (Int × Tok), v = partValue l ∧ l.map (·.1) = o := by
  cases h with
  | none => exact ⟨none, rfl, rfl⟩
  | int i t => exact ⟨some (i, t), rfl, rfl⟩
theorem sl_str : SlR X rSlS := by
  intro pins s σ H x v vl vu lo hi sl Q I rx hs pl pu h
  obtain ⟨z, rfl, hz, q⟩ := h
  obtain ⟨t, rfl⟩ := rx
  obtain ⟨l, rfl, el⟩ := part_of pl
  obtain ⟨u, rfl, eu⟩ := part_of pu
  refine ⟨"str", _, slot_str_getitem.lookup, typeIs_str s z t, wpAny_getItem_str_slice (l := l) (u := u) (st := none) hs rfl ?_⟩
  unfold sliceMade
  split
  · exact ⟨.str z, H, I, ⟨t, rfl⟩, q z (fun c hc => hc) (Nat.le_refl _)⟩
  · have hlen : ((slicePicked z l u none).filterMap (z.cps[·]?)).length ≤ z.length := Nat.le_trans (List.length_filterMap_le _ _) (sliceIndices_le _ _ _)
    have hl2 : (⟨((slicePicked z l u none).filterMap (z.cps[·]?)).toArray⟩ : Str).length = ((slicePicked z l u none).filterMap (z.cps[·]?)).length := by simp [Str.length]
    refine ⟨by rw [hl2]; exact Nat.le_trans hlen hz, .str _, H, I.tok _, ⟨_, rfl⟩, q _ (fun c hc => ?_) (by rw [hl2]; exact hlen)⟩
    have hc : c ∈ (slicePicked z l u none).filterMap (z.cps[·]?) := by simpa using hc
    obtain ⟨i, _, e⟩ := List.mem_filterMap.mp hc
    have e : z.cps[i]? = some c := e
    exact List.mem_of_getElem? (i := i) (by simpa using e)
/-- x == y, both the same data -/
def rEqD (X : Cx) : R2 := fun x y H Q => ∃ d : PyData, RdD X H x d ∧ RdD X H y d ∧ d.canLay0 = true ∧ d.depth ≤ 64 ∧ PyData.eqv d d = true ∧ Q (.bl true) H
theorem op_eqD (hu : X.A.units + 64 < cLine) : OpR X (compareOp .Eq) (rEqD X) := by
  intro pins s σ H x y v u Q I rx ry h
  obtain ⟨d, ra, rb, hl, hd, he, q⟩ := h
  obtain ⟨as, r1⟩ := ra pins σ s v I rx
  obtain ⟨bs, r2⟩ := rb pins σ s u I ry
  refine SeqAt.compareEq_reads r1 r2 hl hl (Nat.lt_of_le_of_lt (Nat.add_le_add_left (Nat.le_trans (Nat.min_le_left ..) hd) _) hu) ?_
  rw [he]
  exact ⟨.bl _, H, I, rfl, q⟩
end
theorem fig_in : ∀ c : Nat, c < 128 → (!(occurrences FIG ⟨#[c]⟩ 0 FIG.length 1).isEmpty) = decide (48 ≤ c ∧ c < 58) := by
  have h : ∀ c : Fin 128, (!(occurrences FIG ⟨#[c.1]⟩ 0 FIG.length 1).isEmpty) = decide (48 ≤ c.1 ∧ c.1 < 58) := by decide +kernel
  intro c hc
  exact h ⟨c, hc⟩
theorem fig_occ : ∀ c : Nat, 48 ≤ c → c < 58 → occurrences FIG ⟨#[c]⟩ 0 FIG.length 1 = [c - 48] := by
  have h : ∀ c : Fin 58, 48 ≤ c.1 → occurrences FIG ⟨#[c.1]⟩ 0 FIG.length 1 = [c.1 - 48] := by decide +kernel
  intro c h1 h2
  exact h ⟨c, h2⟩ h1
end L2
namespace L2
open PySem PySem.Spec PyProof.Rows
end L2

set_option Elab.async false
set_option linter.all false
set_option maxRecDepth 100000
set_option maxHeartbeats 4000000
/-! the program's data in the heap -/
namespace NCP
open PySem L2 NC

abbrev iv (xs : List Int) : List V := xs.map V.int
/-- a list of lists of ints -/
def LL (H : Hp) (p : Addr) (bs : List (List Int)) : Prop := ∃ as : List Addr, H p = some (.lst (as.map V.ref)) ∧ Paired (fun a b => H a = some (.lst (iv b))) as bs
/-- .. that is new, none of its lists twice -/
structure NewLL (H H' : Hp) (p : Addr) (bs : List (List Int)) : Prop where
  same : Same H H'
  np : H p = none
  ex : ∃ as : List Addr, H' p = some (.lst (as.map V.ref)) ∧ Paired (fun a b => H a = none ∧ H' a = some (.lst (iv b))) as bs ∧ as.Nodup
/-- a new list of ints -/
structure NewI (H H' : Hp) (p : Addr) (ns : List Int) : Prop where
  same : Same H H'
  np : H p = none
  at_ : H' p = some (.lst (iv ns))

theorem paired_imp {α β : Type} {F G : α → β → Prop} (f : ∀ a b, F a b → G a b) : ∀ {l₁ : List α} {l₂ : List β}, Paired F l₁ l₂ → Paired G l₁ l₂
  | _, _, .nil => .nil
  | _, _, .cons r t => .cons (f _ _ r) (paired_imp f t)
theorem paired_len {α β : Type} {F : α → β → Prop} : ∀ {l₁ : List α} {l₂ : List β}, Paired F l₁ l₂ → l₁.length = l₂.length
  | _, _, .nil => rfl
  | _, _, .cons _ t => by simp [paired_len t]
theorem paired_get {α β : Type} {F : α → β → Prop} : ∀ {l₁ : List α} {l₂ : List β} {i : Nat} {a : α}, Paired F l₁ l₂ → l₁[i]? = some a → ∃ b, l₂[i]? = some b ∧ F a b
  | _, _, _, _, .nil, e => by simp at e
  | _, _, 0, _, .cons r _, e => by
    have e := Option.some.inj e
    subst e
    exact ⟨_, rfl, r⟩
  | _, _, i + 1, _, .cons _ t, e => paired_get (i := i) t (by simpa using e)
theorem paired_get' {α β : Type} {F : α → β → Prop} : ∀ {l₁ : List α} {l₂ : List β} {i : Nat} {b : β}, Paired F l₁ l₂ → l₂[i]? = some b → ∃ a, l₁[i]? = some a ∧ F a b
  | _, _, _, _, .nil, e => by simp at e
  | _, _, 0, _, .cons r _, e => by
    have e := Option.some.inj e
    subst e
    exact ⟨_, rfl, r⟩
  | _, _, i + 1, _, .cons _ t, e => paired_get' (i := i) t (by simpa using e)
theorem paired_snoc {α β : Type} {F : α → β → Prop} {a : α} {b : β} : ∀ {l₁ : List α} {l₂ : List β}, Paired F l₁ l₂ → F a b → Paired F (l₁ ++ [a]) (l₂ ++ [b])
  | _, _, .nil, h => .cons h .nil
  | _, _, .cons h₁ t, h => .cons h₁ (paired_snoc t h)
theorem LL.mono {H H' : Hp} {p : Addr} {bs : List (List Int)} (s : Same H H') (h : LL H p bs) : LL H' p bs := by
  obtain ⟨as, h1, h2⟩ := h
  exact ⟨as, s _ _ h1, paired_imp (fun a b e => s _ _ e) h2⟩
theorem NewLL.ll {H H' : Hp} {p : Addr} {bs : List (List Int)} (h : NewLL H H' p bs) : LL H' p bs := by
  obtain ⟨as, h1, h2, _⟩ := h.ex
  exact ⟨as, h1, paired_imp (fun a b e => e.2) h2⟩

/-- a def of the module: its function, its name, how it binds -/
structure Dn (K : PySem.W.Frag) (mg : Str → Option Value) (x : Str) (st : Stmt) (ps : List Str) (f : Addr) (fd : FuncData) : Prop where
  fn : Fun K x x st f fd
  at_ : mg x = some (.ref f)
  bd : Binds K fd ps []

/-! ### contracts -/
def spCell (K : PySem.W.Frag) : Sp := fun vs H Q _ => ∃ (a : Addr) (ns : List Int) (k : Nat), vs = [.ref a, .int k] ∧ SqL K H a (iv ns) ∧ Q (.int (ns.getD k 0)) H
def spRises (K : PySem.W.Frag) : Sp := fun vs H Q _ => ∃ (a : Addr) (ns : List Int), vs = [.ref a] ∧ SqL K H a (iv ns) ∧ ns.length ≤ 1000 ∧ ∀ H', Same H H' → Q (.bl (decide (ns.Pairwise (· < ·)))) H'
def spPointsIn : Sp := fun vs H Q _ => ∃ (p : Addr) (bs : List (List Int)), vs = [.ref p] ∧ LL H p bs ∧ bs.flatten.length ≤ 1000 ∧ ∀ l H', NewI H H' l bs.flatten → Q (.ref l) H'
def spIsParting : Sp := fun vs H Q _ => ∃ (n : Int) (p : Addr) (bs : List (List Int)), vs = [.int n, .ref p] ∧ LL H p bs ∧ bs.length ≤ 1000 ∧ bs.flatten.length < 64 ∧ (∀ b ∈ bs, b.length ≤ 1000) ∧ ∀ (b : Bool) (H' : Hp), Same H H' → (b = true ↔ Parting n bs) → Q (.bl b) H'
def spGathered (K : PySem.W.Frag) : Sp := fun vs H Q _ => ∃ (a : Addr) (w : List Nat), vs = [.ref a] ∧ SqL K H a (iv (zl w)) ∧ w.length ≤ 1000 ∧ ∀ p H', NewLL H H' p (zb (gather w)) → Q (.ref p) H'
def spFreeBy (K : PySem.W.Frag) : Sp := fun vs H Q _ => ∃ (a : Addr) (ns : List Int) (k n : Nat), vs = [.ref a, .int k, .int n] ∧ SqL K H a (iv ns) ∧ n ≤ 1000 ∧ ∀ p H', NewLL H H' p (zb (gather (freeWord (cells ns k n)))) → Q (.ref p) H'
def spLaw (K : PySem.W.Frag) : Sp := fun vs H Q _ => ∃ (a : Addr) (ns : List Int), vs = [.ref a] ∧ SqL K H a (iv ns) ∧ ns.length ≤ 63 ∧ ∀ H', Q (.bl true) H'
end NCP

set_option Elab.async false
set_option linter.all false
set_option maxRecDepth 100000
set_option maxHeartbeats 4000000
namespace NCP
open PySem L2 NC
theorem refs_get {as : List Addr} {i : Nat} {x : V} (h : (as.map V.ref)[i]? = some x) : ∃ a, as[i]? = some a ∧ x = .ref a := by
  rw [List.getElem?_map] at h
  obtain ⟨a, e, rfl⟩ := Option.map_eq_some_iff.mp h
  exact ⟨a, e, rfl⟩
theorem line_of {n : Nat} (h : n ≤ 1000) : n ≤ sizeLine := Nat.le_of_lt (small1000 h)
theorem take_succ_of {α : Type} {l : List α} {i : Nat} {x : α} (h : l[i]? = some x) : l.take (i + 1) = l.take i ++ [x] := by
  rw [List.take_add_one, h]; rfl

theorem nd_block : (["block"] : List Str).Nodup := by decide +kernel
structure GBlt (mg : Str → Option Value) : Prop where
  all : mg "all" = none
  zip : mg "zip" = none
  len : mg "len" = none
  sorted : mg "sorted" = none
  list : mg "list" = none
  range : mg "range" = none
  enum : mg "enumerate" = none
  max : mg "max" = none
  set : mg "set" = none
  isi : mg "isinstance" = none
  int : mg "int" = none
  bool : mg "bool" = none
  tuple : mg "tuple" = none
  sum : mg "sum" = none
theorem iv_get {b : List Nat} {k : Nat} {x : V} (h : (iv (zl b))[k]? = some x) : ∃ p, b[k]? = some p ∧ x = .int (p : Int) := by
  rw [List.getElem?_map, List.getElem?_map] at h
  cases e : b[k]? with
  | none => rw [e] at h; cases h
  | some p =>
    rw [e] at h
    exact ⟨p, rfl, (Option.some.inj h).symm⟩
theorem iv_of {b : List Nat} {k p : Nat} (h : b[k]? = some p) : (iv (zl b))[k]? = some (.int (p : Int)) := by
  rw [List.getElem?_map, List.getElem?_map, h]
  rfl
theorem zb_get {bs : List (List Nat)} {i : Nat} {b : List Int} (h : (zb bs)[i]? = some b) : ∃ c, bs[i]? = some c ∧ b = zl c := by
  rw [List.getElem?_map] at h
  cases e : bs[i]? with
  | none => rw [e] at h; cases h
  | some c =>
    rw [e] at h
    exact ⟨c, rfl, (Option.some.inj h).symm⟩

theorem flat_len (wd : List Nat) : (zb (gather wd)).flatten.length = wd.length := by
  have e : (zb (gather wd)).flatten = zl (gather wd).flatten := by simp [zb, zl, List.map_flatten]
  rw [e, List.length_map, (gather_perm wd).length_eq, List.length_range]
theorem blocks_len (wd : List Nat) : (zb (gather wd)).length ≤ wd.length := by
  rw [List.length_map, gather_length]
  have h : ∀ l : List Nat, (marks l).length ≤ l.length := by
    intro l
    induction l using snoc_induction with
    | h0 => simp [marks]
    | h1 l m ih =>
      rw [marks_snoc, addMark]
      split
      · simp; omega
      · simp; omega
  exact h wd
theorem mem_flatten_len {b : List Int} : ∀ {bs : List (List Int)}, b ∈ bs → b.length ≤ bs.flatten.length
  | x :: r, h => by
    rw [List.flatten_cons, List.length_append]
    rcases List.mem_cons.mp h with rfl | h
    · omega
    · have := mem_flatten_len h; omega
theorem block_len (wd : List Nat) : ∀ b ∈ zb (gather wd), b.length ≤ wd.length := by
  intro b hb
  rw [← flat_len wd]
  exact mem_flatten_len hb

theorem paired_set {α β : Type} {F F' : α → β → Prop} {a : α} {b' : β} : ∀ {as : List α} {bs : List β} {i : Nat}, Paired F as bs → as.Nodup → as[i]? = some a → (∀ x y, x ≠ a → F x y → F' x y) → F' a b' → Paired F' as (bs.set i b')
  | _, _, _, .nil, _, e, _, _ => by simp at e
  | x :: as, y :: bs, 0, .cons r t, nd, e, h1, h2 => by
    have e := Option.some.inj e
    subst e
    rw [List.nodup_cons] at nd
    refine .cons h2 ?_
    have go : ∀ {as : List α} {bs : List β}, Paired F as bs → x ∉ as → Paired F' as bs := by
      intro as bs t
      induction t with
      | nil => intro _; exact .nil
      | cons r t ih => intro hn; exact .cons (h1 _ _ (fun z => hn (by simp [z])) r) (ih fun z => hn (by simp [z]))
    exact go t nd.1
  | x :: as, y :: bs, i + 1, .cons r t, nd, e, h1, h2 => by
    rw [List.nodup_cons] at nd
    have e : as[i]? = some a := by simpa using e
    exact .cons (h1 _ _ (fun z => nd.1 (z ▸ List.mem_of_getElem? e)) r) (paired_set t nd.2 e h1 h2)
theorem paired_mem {α β : Type} {F G : α → β → Prop} : ∀ {as : List α} {bs : List β}, (∀ a b, a ∈ as → F a b → G a b) → Paired F as bs → Paired G as bs
  | _, _, _, .nil => .nil
  | _, _, f, .cons r t => .cons (f _ _ (by simp) r) (paired_mem (fun a b h => f a b (by simp [h])) t)
theorem zl_mem {m : Nat} {ms : List Nat} : (m : Int) ∈ zl ms ↔ m ∈ ms := by
  rw [List.mem_map]
  constructor
  · rintro ⟨k, hk, e⟩
    have : k = m := by omega
    exact this ▸ hk
  · intro h; exact ⟨m, h, rfl⟩
theorem zl_idx (m : Nat) : ∀ ms : List Nat, (zl ms).idxOf (m : Int) = ms.idxOf m
  | [] => rfl
  | k :: ms => by
    show ((k : Int) :: zl ms).idxOf (m : Int) = _
    rw [List.idxOf_cons, List.idxOf_cons, zl_idx m ms]
    have e : ((k : Int) == (m : Int)) = (k == m) := by
      by_cases h : k = m
      · subst h; simp
      · have h' : ¬ ((k : Int) = (m : Int)) := by omega
        rw [beq_eq_false_iff_ne.mpr h, beq_eq_false_iff_ne.mpr h']
    rw [e]
/-- the lists of gathered as they stand -/
structure GMid (H H2 : Hp) (pm pf : Addr) (ms : List Nat) (cs : List (List Nat)) : Prop where
  same : Same H H2
  hm : H pm = none
  hf : H pf = none
  ne : pm ≠ pf
  am : H2 pm = some (.lst (iv (zl ms)))
  ex : ∃ as : List Addr, H2 pf = some (.lst (as.map V.ref)) ∧ Paired (fun a b => H a = none ∧ H2 a = some (.lst (iv b))) as (zb cs) ∧ as.Nodup ∧ pm ∉ as ∧ pf ∉ as
theorem GMid.later {H H2 H3 : Hp} {pm pf : Addr} {ms : List Nat} {cs : List (List Nat)} (g : GMid H H2 pm pf ms cs) (s : Same H2 H3) : GMid H H3 pm pf ms cs := by
  obtain ⟨as, h1, h2, h3⟩ := g.ex
  exact ⟨g.same.trans s, g.hm, g.hf, g.ne, s _ _ g.am, as, s _ _ h1, paired_imp (fun a b e => ⟨e.1, s _ _ e.2⟩) h2, h3⟩

theorem marks_le (l : List Nat) : (marks l).length ≤ l.length := by
  have := blocks_len l
  rw [List.length_map, gather_length] at this
  exact this
theorem fstep_eq (s : List Nat × List Nat) (c : Int) {p : Nat} (hp : (fplace c s.1.length).toNat = p) : fstep s c = ((if p = s.1.length then s.1 ++ [(marks s.2).length] else s.1).take (p + 1), s.2 ++ [(if p = s.1.length then s.1 ++ [(marks s.2).length] else s.1).getD p 0]) := by
  unfold fstep
  rw [hp]
  split
  · rename_i h
    rw [h, List.take_of_length_le (by simp)]
    congr 1
    simp
  · rfl
theorem dedup_marks : ∀ (ws : List Nat) (acc : List Nat), (zl ws).foldl PyProof.Rows.step_dedup (zl acc) = zl (ws.foldl addMark acc)
  | [], acc => rfl
  | x :: ws, acc => by
    show (zl ws).foldl PyProof.Rows.step_dedup (PyProof.Rows.step_dedup (zl acc) (x : Int)) = zl (ws.foldl addMark (addMark acc x))
    have e : PyProof.Rows.step_dedup (zl acc) (x : Int) = zl (addMark acc x) := by
      unfold PyProof.Rows.step_dedup addMark
      have h : ((zl acc).any fun y => y == (x : Int)) = decide (x ∈ acc) := by
        rw [Bool.eq_iff_iff, List.any_eq_true, decide_eq_true_iff]
        constructor
        · rintro ⟨y, hy, e⟩
          rw [beq_iff_eq] at e
          subst e
          exact zl_mem.mp hy
        · intro h; exact ⟨x, zl_mem.mpr h, by simp⟩
      rw [h]
      by_cases hx : x ∈ acc
      · simp [hx]
      · simp [hx, zl]
    rw [e]
    exact dedup_marks ws (addMark acc x)
theorem set_size (ws : List Nat) : (PyProof.Rows.firstMet (fun i => (zl ws).getD i 0) (zl ws).length).length = (marks ws).length := by
  unfold PyProof.Rows.firstMet
  have e : (List.range (zl ws).length).map (fun i => (zl ws).getD i 0) = zl ws := by
    apply List.ext_getElem?
    intro i
    rw [List.getElem?_map]
    by_cases h : i < (zl ws).length
    · rw [List.getElem?_range h, List.getElem?_eq_getElem h]
      simp only [Option.map_some, Option.some.injEq]
      rw [List.getD_eq_getElem?_getD, List.getElem?_eq_getElem h]
      rfl
    · rw [List.getElem?_eq_none_iff.mpr (by simpa using h), List.getElem?_eq_none_iff.mpr (by omega)]
      rfl
  rw [e]
  have := dedup_marks ws []
  rw [show zl ([] : List Nat) = [] from rfl] at this
  rw [this, List.length_map]
  rfl

section
variable {K : PySem.W.Frag}
theorem kit_tuple_tuple : PySem.W.kitOne K (.type "tuple") (.type "tuple") = some true := by unfold PySem.W.kitOne; rw [if_pos (by decide)]
end
section
variable {X : Cx} {K : PySem.W.Frag}
theorem rd_LL {H : Hp} {p : Addr} {bs : List (List Int)} (h : LL H p bs) : RdD X H (.ref p) (.list (bs.map fun b => .list (b.map .int))) := by
  obtain ⟨as, h1, h2⟩ := h
  refine rd_list (SqL.of h1) ?_
  have go : ∀ {as : List Addr} {bs : List (List Int)}, Paired (fun a b => H a = some (.lst (iv b))) as bs → Paired (RdD X H) (as.map V.ref) (bs.map fun b => .list (b.map .int)) := by
    intro as bs t
    induction t with
    | nil => exact .nil
    | cons r t ih => exact .cons (rd_ints (SqL.of r)) ih
  exact go h2
end
end NCP

set_option Elab.async false
set_option linter.all false
set_option maxRecDepth 100000
set_option maxHeartbeats 4000000
/-! more contracts: partings drawn freely, crossings looked for, below -/
namespace NCP
open PySem L2 NC
def spAnyBy (K : PySem.W.Frag) : Sp := fun vs H Q _ => ∃ (a : Addr) (ns : List Int) (k n : Nat), vs = [.ref a, .int k, .int n] ∧ SqL K H a (iv ns) ∧ n ≤ 1000 ∧ ∀ p H', NewLL H H' p (zb (gather (anyWord (cells ns k n)))) → Q (.ref p) H'
theorem NewLL.before {H H1 H' : Hp} {p : Addr} {bs : List (List Int)} (s : Same H H1) (N : NewLL H1 H' p bs) : NewLL H H' p bs := by
  obtain ⟨as, h4, h5, h6⟩ := N.ex
  exact ⟨s.trans N.same, s.free N.np, as, h4, paired_imp (fun x b e => ⟨s.free e.1, e.2⟩) h5, h6⟩
theorem any_eq (ns : List Int) (at_ n : Nat) : (List.range n).map (fun k => V.int (ns.getD (at_ + k) 0 % 4)) = iv (zl (anyWord (cells ns at_ n))) := by
  unfold anyWord cells iv zl
  rw [List.map_map, List.map_map, List.map_map]
  apply List.map_congr_left
  intro k _
  show V.int _ = V.int _
  congr 1
  show _ = (((ns.getD (at_ + k) 0 % 4).toNat : Nat) : Int)
  omega
theorem natMod (z : Int) (m : Nat) (h : 0 < m) : ∃ n : Nat, z % (m : Int) = n ∧ n < m :=
  ⟨(z % (m : Int)).toNat, (Int.toNat_of_nonneg (Int.emod_nonneg _ (by omega))).symm, by have := Int.emod_lt_of_pos z (show (0 : Int) < (m : Int) by omega); have := Int.emod_nonneg z (show (m : Int) ≠ 0 by omega); omega⟩
theorem nd_k3 : (["k", "script", "at"] : List Str).Nodup := by decide +kernel
end NCP

set_option Elab.async false
set_option linter.all false
set_option maxRecDepth 100000
set_option maxHeartbeats 4000000
/-! contracts: dicts of blocks, met, joined, good partings -/
namespace NCP
open PySem L2 NC
section
variable {α κ : Type} [DecidableEq α] [DecidableEq κ]
end
/-! ### contracts -/
def spGood : Sp := fun vs H Q _ => ∃ (n : Int) (p : Addr) (bs : List (List Int)), vs = [.int n, .ref p] ∧ LL H p bs ∧ bs.length ≤ 1000 ∧ bs.flatten.length < 64 ∧ ∀ (b : Bool) H', Same H H' → (b = true ↔ Parting n bs) → Q (.bl b) H'
theorem flat_take {bs : List (List Int)} (i : Nat) : (bs.take i).flatten.length ≤ bs.flatten.length := by
  conv => rhs; rw [← List.take_append_drop i bs, List.flatten_append, List.length_append]
  omega
theorem sum_lens (bs : List (List Int)) : ((bs.map fun b => (b.length : Int))).sum = (bs.flatten.length : Int) := by
  induction bs with
  | nil => rfl
  | cons b bs ih =>
    rw [List.map_cons, List.sum_cons, ih, List.flatten_cons, List.length_append]
    omega
end NCP

set_option Elab.async false
set_option linter.all false
set_option maxRecDepth 100000
set_option maxHeartbeats 4000000
/-! contracts: refusals -/
namespace NCP
open PySem L2 NC
abbrev bmV : List Value := [.type "ValueError", .type "Exception", .type "BaseException", .type "object"]
theorem cls_of_mro {K : PySem.W.Frag} {C : Addr} {v : Value} {b : Bool} (h : PySem.W.mroIn K C v = some b) : (PySem.W.clsIn K C).isSome = true := by
  obtain ⟨cd, e, _⟩ := Option.bind_eq_some_iff.mp h
  rw [e]; rfl
/-- an own exception class, from the written part -/
theorem own_of {K : PySem.W.Frag} {h : Heap} {mg : Str → Option Value} {x : Str} {C : Addr} {bm : List Value} {id : String} (X : K.In h) (hb : mg x = some (.ref C)) (q : PySem.W.excIn K C bm id = true) : PyProof.Rows.OwnCls x C bm id mg h := by
  refine ⟨hb, ?_⟩
  unfold PySem.W.excIn at q
  split at q
  · rename_i dd cd sl ho
    split at q
    · rename_i C' tl k0 k1 k2 k3 n k5 hm hs
      simp only [Bool.and_eq_true, beq_iff_eq, Bool.not_eq_true'] at q
      obtain ⟨⟨⟨⟨⟨rfl, rfl⟩, hdel⟩, ht⟩, hok⟩, hni⟩ := q
      obtain ⟨nm, bs, mro, ns, qn, hd, sn, sub, ab, col, del⟩ := cd
      dsimp only at hm hdel hok hni
      subst hm hdel
      have hsl : sl = #[k0, k1, k2, k3, some (.builtin n), k5] := by
        obtain ⟨l⟩ := sl
        simp only at hs
        rw [hs]
      subst hsl
      exact ⟨tl, ns, nm, qn, bs, hd, sn, sub, ab, col, dd, k0, k1, k2, k3, k5, _, X _ _ ho, .of_isNs (PySem.W.isNs_of_in X hok), PySem.W.nsMap_none_of_in X hok hni, PySem.W.tail_of_in X ht⟩
    · cases q
  · cases q
def spNext : Sp := fun vs H Q _ => ∃ i : Int, vs = [.int i] ∧ ∀ j : Int, Q (.int j) H
/-! lists told side by side, cut and put together -/
section
variable {α β : Type} {F : α → β → Prop}
end
theorem nd_kw : (["k", "wanted"] : List Str).Nodup := by decide +kernel
end NCP

set_option Elab.async false
set_option linter.all false
set_option maxRecDepth 100000
set_option maxHeartbeats 4000000
/-! contracts: counts -/
namespace NCP
open PySem L2 NC
end NCP

set_option Elab.async false
set_option linter.all false
set_option maxRecDepth 100000
set_option maxHeartbeats 4000000
/-! contracts: numbers -/
namespace NCP
open PySem L2 NC
end NCP

set_option Elab.async false
set_option linter.all false
set_option maxRecDepth 100000
set_option maxHeartbeats 4000000
/-! contracts: refusals of any kind; refused numbers -/
namespace NCP
open PySem L2 NC
/-- the program's error classes, and one of them: C, the one at j of the four -/
structure ClW (K : PySem.W.Frag) (mg : Str → Option Value) (R C0 C1 C2 C3 : Addr) (j : Nat) (C : Addr) : Prop where
  r : mg "RingError" = some (.ref R)
  n0 : mg "NoParting" = some (.ref C0)
  n1 : mg "Crossing" = some (.ref C1)
  n2 : mg "NoNumber" = some (.ref C2)
  n3 : mg "NoNote" = some (.ref C3)
  ve : mg "ValueError" = none
  rt : PySem.W.typeIn K (.ref R) = some (.type "type")
  rc : (PySem.W.clsIn K R).isSome = true
  rx : PySem.W.mroIn K R (.type "BaseException") = some true
  s : PySem.W.mroIn K C (.ref R) = some true
  e : PySem.W.ExcCls K C
  k0 : PySem.W.kitOne K (.ref C) (.ref C0) = some (decide (j = 0))
  k1 : PySem.W.kitOne K (.ref C) (.ref C1) = some (decide (j = 1))
  k2 : PySem.W.kitOne K (.ref C) (.ref C2) = some (decide (j = 2))
  k3 : PySem.W.kitOne K (.ref C) (.ref C3) = some (decide (j = 3))
  kv : PySem.W.kitOne K (.ref C) (.type "ValueError") = some true
abbrev four (j : Nat) : List Bool := [decide (j = 0), decide (j = 1), decide (j = 2), decide (j = 3)]
def spOtherW (C : Addr) (j : Nat) (h : Addr) (oe : Obj) : Sp := fun vs H Q _ => ∃ wd : Nat, vs = [.ref h, .int wd] ∧ wd < 4 ∧ oe.cls = .ref C ∧ oe.dict = none ∧ ∀ H', Same H H' → Q (.bl (!decide (j = wd))) H'
theorem four_eq {j wd : Nat} (hj : j < 4) (hw : wd < 4) : four j = four wd ↔ j = wd := by
  have h : ∀ a b : Fin 4, four a.1 = four b.1 ↔ a.1 = b.1 := by decide
  exact h ⟨j, hj⟩ ⟨wd, hw⟩
end NCP

set_option Elab.async false
set_option linter.all false
set_option maxRecDepth 100000
set_option maxHeartbeats 4000000
/-! contracts: notes -/
namespace NCP
open PySem L2 NC PySem.Builtin PySem.Builtin.Str
abbrev mk (l : List Nat) : Str := ⟨l.toArray⟩
theorem mk_cps (l : List Nat) : (mk l).cps.toList = l := by simp
theorem mk_len (l : List Nat) : (mk l).length = l.length := by simp [Str.length]
theorem mk_app (a b : List Nat) : mk a ++ mk b = mk (a ++ b) := by
  show (⟨a.toArray ++ b.toArray⟩ : Str) = _
  simp
theorem mk_of (x : Str) : mk x.cps.toList = x := by
  cases x
  simp
theorem join_bar : ∀ ps : List (List Nat), Str.join (mk [124]) (ps.map mk) = mk (jn ps)
  | [] => rfl
  | [p] => rfl
  | p :: q :: r => by
    show mk p ++ mk [124] ++ Str.join (mk [124]) ((q :: r).map mk) = _
    rw [join_bar (q :: r), mk_app, mk_app]
    show mk (p ++ [124] ++ jn (q :: r)) = mk (p ++ 124 :: jn (q :: r))
    rw [List.append_assoc]
    rfl
theorem split_spl {x : List Nat} (h : x ≠ []) : Txt.split (mk x) (mk [124]) = (spl x).map mk := by
  have h1 := StrLaws.join_split (mk x) (mk [124])
  have h2 := StrLaws.split_free (mk x) 124
  generalize hps : Txt.split (mk x) (mk [124]) = ps at h1
  have h2' : ∀ p ∈ ps, 124 ∉ p.cps.toList := fun p hp => h2 p (by rw [show (⟨#[124]⟩ : Str) = mk [124] from rfl, hps]; exact hp)
  have hq : ps = (ps.map fun p => p.cps.toList).map mk := by
    rw [List.map_map]
    conv => lhs; rw [← List.map_id ps]
    apply List.map_congr_left
    intro p _
    exact (mk_of p).symm
  have hne : ps ≠ [] := fun z => by
    rw [z] at h1
    have h1 : mk [] = mk x := h1
    have := congrArg (fun s => s.cps.toList) h1
    simp only [mk_cps] at this
    exact h this.symm
  rw [hq, join_bar] at h1
  have e : jn (ps.map fun p => p.cps.toList) = x := by
    have := congrArg (fun s => s.cps.toList) h1
    simpa only [mk_cps] using this
  have e2 := spl_jn (ps := ps.map fun p => p.cps.toList) (by simpa using hne) fun p hp => by
    obtain ⟨q, hqm, rfl⟩ := List.mem_map.mp hp
    exact h2' q hqm
  rw [e] at e2
  rw [e2]
  exact hq
theorem asc_mk {l : List Nat} (h : ∀ c ∈ l, c < 128) : Asc (mk l) := by
  unfold Asc
  rw [List.all_toArray, List.all_eq_true]
  intro c hc
  simpa using h c hc
theorem fig_at : ∀ p : Nat, p < 10 → atI FIG.cps.toList (p : Int) = some (dg p) := by
  have h : ∀ p : Fin 10, atI FIG.cps.toList (p.1 : Int) = some (dg p.1) := by decide +kernel
  intro p hp
  exact h ⟨p, hp⟩
/-- a list of new lists of ints, one for each item -/
theorem comp_lists {J : It} {g : TG} {te : TE} {p : Addr} {τ0 : St} {H1 : Hp} {Q : VK} (n : Nat) (f : Nat → List Int) (Iv : St → Prop) (hp : H1 p = none) (hn : n ≤ 1000)
    (go : ∀ i H2, i < n → Same H1 H2 → J.go i H2) (stop : ∀ H2, Same H1 H2 → J.stop n H2) (i0 : Iv τ0)
    (step : ∀ (i : Nat) (τ : St) (H2 : Hp) (x : V) (H3 : Hp) (R : St → V → Hp → Prop), i < n → Iv τ → Same H1 H2 → J.yld i H2 x H3 → (∀ τ4 l H5, Iv τ4 → NewI H2 H5 l (f i) → R τ4 (.ref l) H5) → g x τ H3 fun τ4 H4 => te τ4 H4 fun y H5 => R τ4 y H5)
    (fin : ∀ H2, NewLL H1 H2 p ((List.range n).map f) → Q (.ref p) H2) : CW J g te p τ0 H1 Q := by
  refine ⟨fun i m ys τ H2 => m = n - i ∧ i ≤ n ∧ Iv τ ∧ Same H1 H2 ∧ ∃ hs : List Addr, ys = hs.map V.ref ∧ H2 p = some (.lst ys) ∧ Paired (fun x b => H1 x = none ∧ H2 x = some (.lst (iv b))) hs ((List.range i).map f) ∧ hs.Nodup ∧ p ∉ hs,
    ⟨_, rfl, Nat.zero_le _, i0, Same.new hp, [], rfl, upd_same, .nil, List.nodup_nil, by simp⟩, ?_⟩
  rintro i m ys τ H2 ⟨rfl, hi, iv, s2, hs, rfl, h2, hP, hnd, hph⟩
  by_cases hlt : i < n
  · refine .inr ⟨go i H2 hlt s2, fun x H3 y3 => step i τ H2 x H3 _ hlt iv s2 y3 fun τ4 l H5 iv4 N => ?_⟩
    have npl : l ≠ p := fun z => by have := N.np; rw [z, h2] at this; cases this
    have nin : l ∉ hs := fun z => by
      obtain ⟨k, hk, ek⟩ := List.mem_iff_getElem.mp z
      obtain ⟨c, _, hc⟩ := paired_get hP (i := k) (a := l) (by rw [List.getElem?_eq_getElem hk, ek])
      rw [N.np] at hc
      cases hc.2
    have hlen : hs.length = i := by rw [paired_len hP, List.length_map, List.length_range]
    refine ⟨N.same _ _ h2, by rw [List.length_map, hlen]; exact small1000 (by omega), n - (i + 1), by omega, rfl, hlt, iv4, (s2.trans N.same).upd hp, hs ++ [l], by simp, upd_same, ?_, ?_, ?_⟩
    · rw [List.range_succ, List.map_append]
      refine paired_snoc (paired_mem (fun x c hx e => ⟨e.1, ?_⟩) hP) ⟨s2.free N.np, ?_⟩
      · rw [upd_ne (fun (z : x = p) => hph (z ▸ hx))]
        exact N.same _ _ e.2
      · rw [upd_ne npl]
        exact N.at_
    · rw [List.nodup_append]
      exact ⟨hnd, by simp, fun x hx y hy e => nin (by simp at hy; rw [← hy, ← e]; exact hx)⟩
    · simp [hph, Ne.symm npl]
  · have e : i = n := by omega
    subst e
    exact .inl ⟨stop H2 s2, fin H2 ⟨s2, hp, hs, h2, hP, hnd⟩⟩
/-! ### contracts -/
def spBlockRead : Sp := fun vs H Q _ => ∃ (x : List Nat), vs = [.str (mk x)] ∧ (∀ c ∈ x, c < 128) ∧ x.length ≤ 1000 ∧ ∀ l H', NewI H H' l (x.map fd) → Q (.ref l) H'
def spBlocksRead : Sp := fun vs H Q _ => ∃ (x : List Nat), vs = [.str (mk x)] ∧ (∀ c ∈ x, c < 128) ∧ x.length ≤ 900 ∧ ∀ p H', NewLL H H' p (rd x) → Q (.ref p) H'
def spRead : Sp := fun vs H Q _ => ∃ (x : List Nat), vs = [.str (mk x)] ∧ (∀ c ∈ x, c < 128) ∧ x.length < 64 ∧ Parting ((rd x).flatten.length : Int) (rd x) ∧
  ∀ t p H1 H', NewLL H H1 p (rd x) → Same H1 H' → H1 t = none → H' t = some (.tup [.int ((rd x).flatten.length : Nat), .ref p]) → Q (.ref t) H'
def spReadE (C : Addr) : Sp := fun vs H _ E => ∃ (x : List Nat), vs = [.str (mk x)] ∧ (∀ c ∈ x, c < 128) ∧ x.length < 64 ∧ ¬ Parting ((rd x).flatten.length : Int) (rd x) ∧ ∀ H', Same H H' → E (.ref C) none H'
theorem spl_mem {c : Nat} : ∀ {x p : List Nat}, p ∈ spl x → c ∈ p → c ∈ x
  | [], p, h, hc => by
    simp [spl] at h
    subst h
    cases hc
  | d :: r, p, h, hc => by
    unfold spl at h
    split at h
    · rcases List.mem_cons.mp h with rfl | h
      · cases hc
      · exact List.mem_cons_of_mem _ (spl_mem h hc)
    · split at h
      · rename_i e; exact absurd e (spl_ne r)
      · rename_i q ps e
        rcases List.mem_cons.mp h with rfl | h
        · rcases List.mem_cons.mp hc with rfl | hc
          · simp
          · exact List.mem_cons_of_mem _ (spl_mem (x := r) (p := q) (by rw [e]; simp) hc)
        · exact List.mem_cons_of_mem _ (spl_mem (x := r) (p := p) (by rw [e]; simp [h]) hc)
theorem mem_len_flat {p : List Nat} : ∀ {ps : List (List Nat)}, p ∈ ps → p.length ≤ ps.flatten.length
  | q :: ps, h => by
    rw [List.flatten_cons, List.length_append]
    rcases List.mem_cons.mp h with rfl | h
    · omega
    · have := mem_len_flat h; omega
end NCP

set_option Elab.async false
set_option linter.all false
set_option maxRecDepth 100000
set_option maxHeartbeats 4000000
/-! contracts: texts read or refused -/
namespace NCP
open PySem L2 NC PySem.Builtin PySem.Builtin.Str
abbrev PX (x : List Nat) : Prop := Parting ((rd x).flatten.length : Int) (rd x)
def spText : Sp := fun vs H Q _ => ∃ (p : Addr) (w : List Nat), vs = [.ref p] ∧ LL H p (zb (gather w)) ∧ w.length ≤ 10 ∧ Q (.str (mk (tl (gather w)))) H
def spDue : Sp := fun vs H Q _ => ∃ (x : List Nat), vs = [.str (mk x)] ∧ (∀ c ∈ x, c < 128) ∧ x.length < 64 ∧
  (PX x → ∀ t p H', Same H H' → LL H' p (rd x) → H' t = some (.tup [.int ((rd x).flatten.length : Nat), .ref p]) → Q (.ref t) H') ∧ (¬ PX x → ∀ H', Same H H' → Q .non H')
def spSign : Sp := fun vs H Q _ => ∃ i : Int, vs = [.int i] ∧ ∀ c : Nat, c < 128 → Q (.str (mk [c])) H
def spOdd : Sp := fun vs H Q _ => ∃ i : Int, vs = [.int i] ∧ ∀ (x : List Nat) H', (∀ c ∈ x, c < 128) → x.length ≤ 30 → Same H H' → Q (.str (mk x)) H'
def spTold : Sp := fun vs H Q _ => ∃ (x : List Nat), vs = [.str (mk x)] ∧ (∀ c ∈ x, c < 128) ∧ x.length < 64 ∧
  (PX x → ∀ r t p H', Same H H' → LL H' p (rd x) → H' t = some (.tup [.int ((rd x).flatten.length : Nat), .ref p]) → H' r = some (.tup [.int 0, .ref t]) → Q (.ref r) H') ∧ (¬ PX x → ∀ r H', Same H H' → H' r = some (.tup [.int 1, .non]) → Q (.ref r) H')
theorem tl_codes : ∀ {bs : List (List Nat)}, (∀ b ∈ bs, ∀ p ∈ b, p < 10) → ∀ c ∈ tl bs, c < 128
  | [], _, c, hc => by cases hc
  | [b], h, c, hc => by
    obtain ⟨p, hp, rfl⟩ := List.mem_map.mp hc
    have := h b (by simp) p hp
    show 48 + p < 128
    omega
  | b :: d :: r, h, c, hc => by
    rcases List.mem_append.mp hc with hc | hc
    · obtain ⟨p, hp, rfl⟩ := List.mem_map.mp hc
      have := h b (by simp) p hp
      show 48 + p < 128
      omega
    · rcases List.mem_cons.mp hc with rfl | hc
      · decide
      · exact tl_codes (fun b hb => h b (by simp [hb])) c hc
abbrev pairD (n : Int) (bs : List (List Int)) : PyData := .tuple [.int n, .list (bs.map fun b => .list (b.map .int))]
theorem pair_ok (n : Int) (bs : List (List Int)) : (pairD n bs).canLay0 = true ∧ (pairD n bs).depth ≤ 64 ∧ PyData.eqv (pairD n bs) (pairD n bs) = true := by
  have e := enc_int.list.list
  have h1 := e.eq bs bs
  have h2 := e.lay bs
  have h3 := e.dep bs
  refine ⟨?_, ?_, ?_⟩
  · rw [PyData.canLay0, PyData.canLayAll0, PyData.canLayAll0, PyData.canLayAll0, h2, PyData.canLay0]
    rfl
  · have hd : (PyData.int n).depth = 0 := by rw [PyData.depth]
    have ht : (pairD n bs).depth = max (PyData.int n).depth (max (PyData.list (bs.map fun b => PyData.list (b.map PyData.int))).depth 0) + 1 := by
      show (PyData.tuple _).depth = _
      rw [PyData.depth.eq_2, PyData.depthAll, PyData.depthAll, PyData.depthAll]
    rw [ht, hd]
    have h3 : (PyData.list (bs.map fun b => PyData.list (b.map PyData.int))).depth ≤ 2 := h3
    omega
  · rw [PyData.eqv, PyData.eqvAll, PyData.eqvAll, PyData.eqvAll, h1, PyData.eqv]
    simp
def okV : V → Bool
  | .str s => s.cps.toList.all (· < 128) && decide (s.cps.toList.length ≤ 30)
  | _ => false
theorem okV_at {xs : List V} (h : xs.all okV = true) {k : Nat} (hk : k < xs.length) : ∃ x : List Nat, atI xs (k : Int) = some (.str (mk x)) ∧ (∀ c ∈ x, c < 128) ∧ x.length ≤ 30 := by
  have hm := List.all_eq_true.mp h xs[k] (List.getElem_mem hk)
  have e : xs[k]? = some xs[k] := List.getElem?_eq_getElem hk
  generalize xs[k] = v at hm e
  cases v with
  | str s =>
    unfold okV at hm
    simp only [Bool.and_eq_true, List.all_eq_true, decide_eq_true_eq] at hm
    refine ⟨s.cps.toList, ?_, hm.1, hm.2⟩
    rw [mk_of]
    exact atI_nat e
  | _ => cases hm
end NCP

namespace NCP
open PySem L2
def top (i : Nat) : Stmt := PySem.Challenge.pw_nocrossing_k15_read_or_refused.main.body.getD i (.Pass ⟨0, 0, 0, 0⟩)
abbrev s_Crossing___init__ : Stmt := inClass (top 3) 0
abbrev s_rises : Stmt := top 8
abbrev s_points_in : Stmt := top 9
abbrev s_is_parting : Stmt := top 10
abbrev s_block_read : Stmt := top 13
abbrev s_blocks_read : Stmt := top 14
abbrev s_read : Stmt := top 15
abbrev s_law_cell_at : Stmt := top 17
abbrev s_law_next : Stmt := top 18
abbrev s_law_gathered : Stmt := top 19
abbrev s_law_free_by : Stmt := top 20
abbrev s_law_any_by : Stmt := top 21
abbrev s_law_good : Stmt := top 22
abbrev s_law_other : Stmt := top 23
abbrev s_law_text : Stmt := top 24
abbrev s_law_due : Stmt := top 25
abbrev s_law_sign : Stmt := top 26
abbrev s_law_odd : Stmt := top 27
abbrev s_law_told : Stmt := top 28
abbrev s_law : Stmt := top 29
end NCP

namespace NCP
open PySem L2 NC
section
variable {CX : CXT} {P : Program} {w : World} {K : PySem.W.Frag} {mg : Str → Option Value} {base : Heap}
theorem sc_cell_at : FnScope ["script", "k"] ["script", "k"] (defScope s_law_cell_at) := ⟨rfl, rfl, rfl, by decide +kernel, rfl, by decide +kernel, by decide +kernel⟩
theorem ok_cell_at {f : Addr} {fd : FuncData} (F : Fun K "_law_cell_at" "_law_cell_at" s_law_cell_at f fd) (gLen : mg "len" = none) : FnOk P w K mg base CX 1 f fd ["script", "k"] (spCell K) := by
  refine F.okX sc_cell_at (fun vs H Q E h => ?_) (fun cdv A outer s H vs Q E hr h => ?_)
  · obtain ⟨a, ns, k, rfl, _⟩ := h
    rfl
  · obtain ⟨a, ns, k, rfl, hS, q⟩ := h
    refine ⟨_, pss_cons (ps_if (pt_cmpR op_lt (pv 1) (pe_callB call_len_seq (by rfl) gLen PySem.boot_len (pa_cons (pv 0) pa_nil)) (nomark _)) (pss_one (ps_ret (pe_ix ix_list (pv 0) (pv 1) (fun _ _ => rfl)))) pss_nil) (pss_one (ps_ret pe_int)), ?_⟩
    refine ⟨_, rfl, _, rfl, a, _, rfl, .inl hS, _, _, rfl, rfl, _, rfl, ?_⟩
    refine iteD (fun hk => ?_) (fun hk => ?_)
    · have hk : k < ns.length := by simpa using hk
      refine ⟨_, rfl, _, rfl, a, _, _, .int ns[k], rfl, rfl, hS, atI_nat (by rw [List.getElem?_map, List.getElem?_eq_getElem hk]; rfl), ?_⟩
      rw [List.getD_eq_getElem?_getD, List.getElem?_eq_getElem hk] at q
      exact q
    · have hk : ¬ k < ns.length := by simpa using hk
      rw [List.getD_eq_getElem?_getD, List.getElem?_eq_none_iff.mpr (by omega)] at q
      exact q
end
end NCP

namespace NCP
open PySem L2 NC
section
variable {CX : CXT} {P : Program} {w : World} {K : PySem.W.Frag} {mg : Str → Option Value} {base : Heap}
theorem sc_next : FnScope ["seed"] ["seed"] (defScope s_law_next) := ⟨rfl, rfl, rfl, by decide +kernel, rfl, by decide +kernel, by decide +kernel⟩
theorem ok_next {f : Addr} {fd : FuncData} (F : Fun K "_law_next" "_law_next" s_law_next f fd) : FnOk P w K mg base CX 1 f fd ["seed"] spNext := by
  refine F.okX sc_next (fun vs H Q E h => ?_) (fun cdv A outer s H vs Q E hr h => ?_)
  · obtain ⟨i, rfl, _⟩ := h
    rfl
  · obtain ⟨i, rfl, q⟩ := h
    refine ⟨_, pss_one (ps_ret (pe_op op_mod (pe_op op_add (pe_op op_mul (pv 0) pe_int) pe_int) pe_int)), ?_⟩
    exact ⟨_, rfl, _, _, rfl, rfl, .inr ⟨by decide, by decide⟩, _, _, rfl, rfl, _, _, rfl, rfl, (by show (0 : Int) < 2147483647; decide), q _⟩
end
end NCP

namespace NCP
open PySem L2 NC
section
variable {CX : CXT} {P : Program} {w : World} {K : PySem.W.Frag} {mg : Str → Option Value} {base : Heap}
def eRises : TE := fun τ H Q => ∃ i j, τ[0]? = some (some (.int i)) ∧ τ[1]? = some (some (.int j)) ∧ Q (.bl (decide (i < j))) H
theorem nd_lh : (["low", "high"] : List Str).Nodup := by decide +kernel
theorem sc_rises : FnScope ["numbers"] ["numbers"] (defScope s_rises) := ⟨rfl, rfl, rfl, by decide +kernel, rfl, by decide +kernel, by decide +kernel⟩
theorem ok_rises {f : Addr} {fd : FuncData} (F : Fun K "rises" "rises" s_rises f fd) (gAll : mg "all" = none) (gZip : mg "zip" = none) : FnOk P w K mg base CX 1 f fd ["numbers"] (spRises K) := by
  refine F.okX sc_rises (fun vs H Q E h => ?_) (fun cdv A outer s H vs Q E hr h => ?_)
  · obtain ⟨a, ns, rfl, _⟩ := h
    rfl
  · obtain ⟨a, ns, rfl, hS, hl, q⟩ := h
    refine ⟨_, pss_one (ps_ret (pe_callB (call_all_bools rfl) (by rfl) gAll PyProof.Rows.boot_all (pa_cons
      (pe_lcomp (g := g2 K 0 1) (te := eRises) rfl (cpS (N := ["low", "high"]) (js := [none, none]) (defScope s_rises) ["numbers"] (by decide +kernel))
        (pi_zip (by rfl) gZip (pa_cons (pv 0) (pa_cons (pe_slice sl_list (pv 0) (po_some pe_int) po_none) pa_nil)))
        (by intros; exact pg_two 0 1 rfl nd_lh rfl rfl rfl rfl)
        (by intros; exact (pe_cmpR op_lt (pv 0) (pv 1) (nomark _)).imp fun τ H Q ⟨i, j, e1, e2, q⟩ => ⟨_, e1, _, e2, _, _, rfl, rfl, q⟩)) pa_nil))), ?_⟩
    refine ⟨_, rfl, _, rfl, 1, rfl, a, _, rfl, hS, fun p1 h1 => ⟨a, p1, rfl, ⟨_, (Same.new h1).seq hS⟩, ⟨_, SqL.of upd_same⟩, fun p2 h2 => ?_⟩⟩
    have e1 : cutV (iv ns) (some (1 : Int)) none = (iv ns).drop 1 := cutV_from (iv ns) 1
    rw [e1] at h2 ⊢
    have s1 := Same.new (o := .lst ((iv ns).drop 1)) h1
    refine comp_fold (J := Itz K a p1) (Hs := upd H p1 (.lst ((iv ns).drop 1))) (ns.length - 1) (fun i => .bl (decide (ns.getD i 0 < ns.getD (i + 1) 0))) (fun τ => ∃ u v, τ = [u, v]) (Same.refl _) h2 ?_ ?_ ?_ ⟨_, _, rfl⟩ ?_ ?_
    · exact Nat.le_trans (Nat.sub_le _ _) (Nat.le_of_lt (small1000 hl))
    · intro i H2 hi s2
      refine ⟨_, _, .int (ns.getD i 0), .int (ns.getD (i + 1) 0), s2.seq (s1.seq hS), SqL.of (s2 _ _ upd_same), ?_, ?_⟩
      · rw [List.getElem?_map, List.getD_eq_getElem?_getD, List.getElem?_eq_getElem (by omega : i < ns.length)]; rfl
      · rw [List.getElem?_drop, List.getElem?_map, List.getD_eq_getElem?_getD, Nat.add_comm, List.getElem?_eq_getElem (by omega : i + 1 < ns.length)]; rfl
    · intro H2 s2
      exact ⟨_, _, s2.seq (s1.seq hS), SqL.of (s2 _ _ upd_same), .inr (by rw [List.length_drop, List.length_map]; exact Nat.le_refl _)⟩
    · rintro i τ H2 x H3 R hi ⟨u, v, rfl⟩ s2 ⟨t, x', y', rfl, ht, rfl, hxy⟩ k
      obtain ⟨hx, hy⟩ := hxy _ _ (s2.seq (s1.seq hS)) (SqL.of (s2 _ _ upd_same))
      have ex : x' = .int (ns.getD i 0) := by
        rw [List.getElem?_map, List.getElem?_eq_getElem (by omega : i < ns.length)] at hx
        rw [List.getD_eq_getElem?_getD, List.getElem?_eq_getElem (by omega : i < ns.length)]
        exact (Option.some.inj hx).symm
      have ey : y' = .int (ns.getD (i + 1) 0) := by
        rw [List.getElem?_drop, List.getElem?_map, Nat.add_comm, List.getElem?_eq_getElem (by omega : i + 1 < ns.length)] at hy
        rw [List.getD_eq_getElem?_getD, List.getElem?_eq_getElem (by omega : i + 1 < ns.length)]
        exact (Option.some.inj hy).symm
      subst ex ey
      exact ⟨t, _, _, rfl, SqT.of upd_same, _, _, rfl, rfl, k _ _ ⟨_, _, rfl⟩ (Same.new ht)⟩
    · intro H2 s2 h3
      refine ⟨p2, (List.range (ns.length - 1)).map fun i => decide (ns.getD i 0 < ns.getD (i + 1) 0), rfl, SqL.of (by rw [h3, List.map_map]; rfl), ?_⟩
      rw [rises_all]
      exact q H2 (s1.trans s2)
end
end NCP

namespace NCP
open PySem L2 NC
section
variable {CX : CXT} {P : Program} {w : World} {K : PySem.W.Frag} {mg : Str → Option Value} {base : Heap}
theorem sc_points_in : FnScope ["blocks", "told", "block"] ["blocks"] (defScope s_points_in) := ⟨rfl, rfl, rfl, by decide +kernel, rfl, by decide +kernel, by decide +kernel⟩
theorem ok_points_in {f : Addr} {fd : FuncData} (F : Fun K "points_in" "points_in" s_points_in f fd) : FnOk P w K mg base CX 1 f fd ["blocks"] spPointsIn := by
  refine F.okX sc_points_in (fun vs H Q E h => ?_) (fun cdv A outer s H vs Q E hr h => ?_)
  · obtain ⟨p, bs, rfl, _⟩ := h
    rfl
  · obtain ⟨p, bs, rfl, hL, hz, q⟩ := h
    obtain ⟨as, hp, hbs⟩ := id hL
    refine ⟨_, pss_cons (ps_set (i := 1) sc_points_in.nd rfl (Or.inl rfl) (pe_lst pa_nil))
      (pss_cons (ps_for PassesOwn.never rfl (pi_list (pv 0)) (pg_name (i := 2) sc_points_in.nd rfl (Or.inl rfl))
        (pss_one (ps_expr (pe_bm PySem.F.plainAttrs_list PySem.F.slot_list_extend PySem.F.type_list_extend mt_extend (pv 1) (pa_cons (pv 2) pa_nil)))))
      (pss_one (ps_ret (pv 1)))), ?_⟩
    refine ⟨Nat.zero_le _, fun l hl => ⟨_, rfl, p, rfl, ⟨_, SqL.of (Same.new hl _ _ hp)⟩, for_list (K := K) (a := p) (xs := as.map V.ref)
      (fun i σ H2 => ∃ v, σ = [some (.ref p), some (.ref l), v] ∧ Same H H2 ∧ H2 l = some (.lst (iv (bs.take i).flatten))) ⟨none, rfl, Same.new hl, upd_same⟩ (fun i σ H2 _ ⟨_, _, s2, _⟩ => SqL.of (s2 _ _ hp)) ?_ ?_⟩⟩
    · rintro i x σ H2 hi ⟨v, rfl, s2, h2⟩
      obtain ⟨a, ha, rfl⟩ := refs_get hi
      obtain ⟨b, hb, hab⟩ := paired_get hbs ha
      have e := take_succ_of hb
      have hlen : ((bs.take i).flatten ++ b).length ≤ bs.flatten.length := by
        have : (bs.take (i + 1)).flatten.length ≤ bs.flatten.length := by
          conv => rhs; rw [← List.take_append_drop (i + 1) bs, List.flatten_append, List.length_append]
          omega
        rw [e, List.flatten_append] at this
        simpa using this
      refine ⟨_, rfl, .inl ⟨rfl, _, SqL.of h2⟩, _, rfl, l, a, _, _, rfl, rfl, h2, s2 _ _ hab, ?_, ?_⟩
      · rw [List.length_map, List.length_map, ← List.length_append]
        exact line_of (Nat.le_trans hlen hz)
      · refine ⟨_, rfl, s2.upd hl, ?_⟩
        rw [upd_same, e, List.flatten_append]
        simp [iv]
    · rintro σ H2 ⟨v, rfl, s2, h2⟩
      refine ⟨_, rfl, q l H2 ⟨s2, hl, ?_⟩⟩
      rw [List.length_map, paired_len hbs, List.take_length] at h2
      exact h2
end
end NCP

namespace NCP
open PySem L2 NC
section
variable {CX : CXT} {P : Program} {w : World} {K : PySem.W.Frag} {mg : Str → Option Value} {base : Heap}
def eOk : TE := fun τ H Q => ∃ (a : Addr) (b : List Int), τ[0]? = some (some (.ref a)) ∧ H a = some (.lst (iv b)) ∧ b.length ≤ 1000 ∧ ∀ H', Same H H' → Q (.bl (decide (b ≠ [] ∧ b.Pairwise (· < ·)))) H'
def eHead : TE := fun τ H Q => ∃ (a : Addr) (b : List Int), τ[0]? = some (some (.ref a)) ∧ H a = some (.lst (iv b)) ∧ b ≠ [] ∧ Q (.int (b.headD 0)) H
theorem sc_is_parting : FnScope ["points", "blocks"] ["points", "blocks"] (defScope s_is_parting) := ⟨rfl, rfl, rfl, by decide +kernel, rfl, by decide +kernel, by decide +kernel⟩
theorem parting_of_checks {n : Int} {bs : List (List Int)} (h0 : 0 ≤ n) (h1 : n ≤ 10) (h2 : ∀ b ∈ bs, b ≠ [] ∧ b.Pairwise (· < ·)) (h3 : (bs.map (fun b => b.headD 0)).Pairwise (· < ·)) {ms : List Int} (hp : ms.Perm bs.flatten) (hs : ms.Pairwise (· ≤ ·)) :
    decide (ms = (List.range n.toNat).map (fun (k : Nat) => (k : Int))) = true ↔ Parting n bs := by
  rw [decide_eq_true_iff, sorted_range hs]
  constructor
  · intro h
    exact ⟨h0, h1, fun b hb => (h2 b hb).1, fun b hb => (h2 b hb).2, h3, hp.symm.trans h⟩
  · intro h
    exact hp.trans h.perm
theorem ok_is_parting {f fR fP : Addr} {fd fdR fdP : FuncData} (hX : CxNo CX) (B : GBlt mg) (F : Fun K "is_parting" "is_parting" s_is_parting f fd) (hmp : ∃ t, mg "MOST_POINTS" = some (.int 10 t))
    (DR : Dn K mg "rises" s_rises ["numbers"] fR fdR) (GR : FnOk P w K mg base CX 1 fR fdR ["numbers"] (spRises K)) (DP : Dn K mg "points_in" s_points_in ["blocks"] fP fdP) (GP : FnOk P w K mg base CX 1 fP fdP ["blocks"] spPointsIn) :
    FnOk P w K mg base CX 2 f fd ["points", "blocks"] spIsParting := by
  obtain ⟨tk, hmp⟩ := hmp
  refine F.okX sc_is_parting (fun vs H Q E h => ?_) (fun cdv A outer s H vs Q E hr h => ?_)
  · obtain ⟨n, p, bs, rfl, _⟩ := h
    rfl
  · obtain ⟨n, p, bs, rfl, hL, hz, hz2, hz3, q⟩ := h
    obtain ⟨as, hp, hbs⟩ := id hL
    have hal := paired_len hbs
    refine ⟨_, pss_cons (ps_if (PW.pt (pw_or (pt_cmpR op_lt (pv 0) pe_int (nomark _)) (pw_or1 (pt_cmpR op_gt (pv 0) (pe_glob (v := .int 10) (by rfl) hmp ⟨_, rfl⟩) (nomark _))))) (pss_one (ps_ret pe_bl)) pss_nil)
      (pss_cons (ps_if (pt_not (pt_val (pe_callB (call_all_bools rfl) (by rfl) B.all PyProof.Rows.boot_all (pa_cons
          (pe_lcomp (g := gName 0) (te := eOk) rfl (cpS (N := ["block"]) (js := [none]) (defScope s_is_parting) ["points", "blocks"] (by decide +kernel)) (pi_list (pv 1))
            (by intros; exact pg_name (i := 0) nd_block rfl (Or.inl rfl) (Or.inr rfl))
            (by
              intros
              refine (pe_and (pe_cmpR op_gt (pe_callB call_len_seq (by rfl) B.len PySem.boot_len (pa_cons (pv 0) pa_nil)) pe_int (nomark _)) (pe_one (pe_call GR hr (by rfl) DR.at_ DR.fn.kp DR.bd .nil (passN hX) (pa_cons (pv 0) pa_nil)))).imp fun τ H Q h => ?_
              obtain ⟨a, b, e, hb, hl, q⟩ := h
              refine ⟨_, e, a, _, rfl, .inl (SqL.of hb), _, _, rfl, rfl, _, rfl, iteD (fun h => ?_) (fun h => ?_)⟩
              · refine ⟨_, e, a, b, rfl, SqL.of hb, hl, fun H' s => ?_⟩
                have hne : b ≠ [] := by rintro rfl; simp at h
                have e2 : decide (b ≠ [] ∧ b.Pairwise (· < ·)) = decide (b.Pairwise (· < ·)) := by simp [hne]
                rw [← e2]
                exact q H' s
              · have hne : b = [] := by
                  cases b with
                  | nil => rfl
                  | cons x r => exact absurd (by simp) h
                have e2 : decide (b ≠ [] ∧ b.Pairwise (· < ·)) = false := by simp [hne]
                rw [← e2]
                exact q H (Same.refl _))) pa_nil)))) (pss_one (ps_ret pe_bl)) pss_nil)
      (pss_cons (ps_if (pt_not (pt_val (pe_call GR hr rfl DR.at_ DR.fn.kp DR.bd .nil (passN hX) (pa_cons
          (pe_lcomp (g := gName 0) (te := eHead) rfl (cpS (N := ["block"]) (js := [none]) (defScope s_is_parting) ["points", "blocks"] (by decide +kernel)) (pi_list (pv 1))
            (by intros; exact pg_name (i := 0) nd_block rfl (Or.inl rfl) (Or.inr rfl))
            (by
              intros
              refine (pe_ix ix_list (pv 0) pe_int (fun _ _ => rfl)).imp fun τ H Q h => ?_
              obtain ⟨a, b, e, hb, hne, q⟩ := h
              refine ⟨_, e, a, _, 0, _, rfl, rfl, SqL.of hb, ?_, q⟩
              cases b with
              | nil => exact absurd rfl hne
              | cons x r => exact atI_nat (j := 0) rfl)) pa_nil)))) (pss_one (ps_ret pe_bl)) pss_nil)
      (pss_one (ps_ret (pe_cmpR (op_eqE enc_int.list hr.units) (pe_callB call_sorted_ints (by rfl) B.sorted PyProof.Rows.boot_sorted (pa_cons (pe_call GP hr rfl DP.at_ DP.fn.kp DP.bd .nil (passN hX) (pa_cons (pv 1) pa_nil)) pa_nil))
        (pe_callTy (call_list_rng rfl) (by rfl) B.list PyProof.Rows.boot_list (pa_cons (pe_callTy call_range1 (by rfl) B.range PyProof.Rows.boot_range (pa_cons (pv 0) pa_nil)) pa_nil)) (nomark _)))))), ?_⟩
    have no : ∀ H', Same H H' → ¬ Parting n bs → Q (.bl false) H' := fun H' s z => q false H' s ⟨(fun z2 => by cases z2), fun z2 => absurd z2 z⟩
    refine ⟨_, rfl, _, _, rfl, rfl, _, rfl, iteD (fun h0 => no H (Same.refl _) fun z => by have := z.lo; omega) fun h0 => ?_⟩
    refine ⟨_, rfl, _, _, rfl, rfl, _, rfl, iteD (fun h1 => no H (Same.refl _) fun z => by have := z.hi; omega) fun h1 => ?_⟩
    -- all the blocks rise
    refine ⟨_, rfl, p, rfl, ⟨_, SqL.of hp⟩, fun p1 hp1 => comp_listI (K := K) (xs := as.map V.ref) (Hs := H) (fun i => .bl (decide (bs.getD i [] ≠ [] ∧ (bs.getD i []).Pairwise (· < ·)))) (fun τ => ∃ v, τ = [v]) (Same.refl _) hp1 (SqL.of hp) (by rw [List.length_map, hal]; exact line_of hz) ⟨_, rfl⟩ ?_ ?_⟩
    · rintro i x τ H2 R hi ⟨v, rfl⟩ s2 k
      obtain ⟨a, ha, rfl⟩ := refs_get hi
      obtain ⟨b, hb, hab⟩ := paired_get hbs ha
      have e : bs.getD i [] = b := by rw [List.getD_eq_getElem?_getD, hb]; rfl
      rw [e] at k
      exact ⟨a, b, rfl, s2 _ _ hab, hz3 b (List.mem_of_getElem? hb), fun H' s3 => k _ H' ⟨_, rfl⟩ s3⟩
    intro H2 s2 h2
    refine ⟨p1, (List.range as.length).map fun i => decide (bs.getD i [] ≠ [] ∧ (bs.getD i []).Pairwise (· < ·)), rfl, SqL.of (by rw [h2, List.length_map, List.map_map]; rfl), _, rfl, ?_⟩
    have eall : ((List.range as.length).map fun i => decide (bs.getD i [] ≠ [] ∧ (bs.getD i []).Pairwise (· < ·))).all id = decide (∀ b ∈ bs, b ≠ [] ∧ b.Pairwise (· < ·)) := by
      rw [Bool.eq_iff_iff, decide_eq_true_iff, List.all_map, List.all_eq_true]
      simp only [List.mem_range, Function.comp, id, decide_eq_true_eq]
      constructor
      · intro h b hb
        obtain ⟨i, hi, e⟩ := List.mem_iff_getElem.mp hb
        have := h i (by omega)
        rw [List.getD_eq_getElem?_getD, List.getElem?_eq_getElem hi] at this
        rw [← e]; exact this
      · intro h i hi
        rw [List.getD_eq_getElem?_getD, List.getElem?_eq_getElem (by omega : i < bs.length)]
        exact h _ (List.getElem_mem _)
    rw [eall]
    refine iteND (fun h3 => no H2 s2 fun z => h3 fun b hb => ⟨z.ne b hb, z.rise b hb⟩) fun h3 => ?_
    -- the first points rise
    have hp2 := s2 _ _ hp
    refine ⟨_, rfl, p, rfl, ⟨_, SqL.of hp2⟩, fun p3 hp3 => comp_listI (K := K) (xs := as.map V.ref) (Hs := H2) (fun i => .int ((bs.getD i []).headD 0)) (fun τ => ∃ v, τ = [v]) (Same.refl _) hp3 (SqL.of hp2) (by rw [List.length_map, hal]; exact line_of hz) ⟨_, rfl⟩ ?_ ?_⟩
    · rintro i x τ H4 R hi ⟨v, rfl⟩ s4 k
      obtain ⟨a, ha, rfl⟩ := refs_get hi
      obtain ⟨b, hb, hab⟩ := paired_get hbs ha
      have e : bs.getD i [] = b := by rw [List.getD_eq_getElem?_getD, hb]; rfl
      rw [e] at k
      exact ⟨a, b, rfl, s4 _ _ (s2 _ _ hab), (h3 b (List.mem_of_getElem? hb)).1, k _ H4 ⟨_, rfl⟩ (Same.refl _)⟩
    intro H4 s4 h4
    have efirst : (List.range (as.map V.ref).length).map (fun i => V.int ((bs.getD i []).headD 0)) = iv (bs.map fun b => b.headD 0) := by
      rw [List.length_map, hal]
      apply List.ext_getElem?
      intro i
      rw [List.getElem?_map, List.getElem?_map, List.getElem?_map]
      by_cases hi : i < bs.length
      · rw [List.getElem?_range hi, List.getElem?_eq_getElem hi]
        simp [hi]
      · rw [List.getElem?_eq_none_iff.mpr (by simpa using hi), List.getElem?_eq_none_iff.mpr (by omega)]
        rfl
    rw [efirst] at h4
    refine ⟨p3, _, rfl, SqL.of h4, by rw [List.length_map]; exact hz, fun H5 s5 => ⟨_, rfl, ?_⟩⟩
    refine iteND (fun h6 => no H5 ((s2.trans s4).trans s5) fun z => h6 z.firsts) fun h6 => ?_
    have s05 := (s2.trans s4).trans s5
    refine ⟨_, rfl, p, bs, rfl, hL.mono s05, Nat.le_trans (Nat.le_of_lt hz2) (by decide), fun l H6 N6 => ⟨l, _, rfl, SqL.of N6.at_, hz2, fun l2 ms hl2 hperm hsort => ?_⟩⟩
    refine ⟨_, rfl, _, rfl, fun r hr0 => ⟨r, n.toNat, rfl, ?_, ?_, fun l3 hl3 => ?_⟩⟩
    · rw [upd_same]
      congr 2
      omega
    · omega
    · have s7 : Same H (upd (upd (upd H6 l2 (.lst (iv ms))) r (.rng 0 n)) l3 (.lst ((List.range n.toNat).map fun (i : Nat) => V.int (i : Int)))) :=
        (((s05.trans N6.same).trans (Same.new hl2)).trans (Same.new hr0)).trans (Same.new hl3)
      refine ⟨ms, (List.range n.toNat).map fun (k : Nat) => (k : Int), rd_ints (SqL.of ?_), rd_ints (SqL.of ?_), q _ _ s7 (parting_of_checks (by omega) (by omega) h3 h6 hperm hsort)⟩
      · rw [upd_ne (ne_of_none (o := .lst (iv ms)) (by rw [upd_ne (ne_of_none upd_same hr0), upd_same]) hl3), upd_ne (ne_of_none upd_same hr0), upd_same]
      · rw [upd_same, List.map_map]
        rfl
end
end NCP

namespace NCP
open PySem L2 NC
section
variable {CX : CXT} {P : Program} {w : World} {K : PySem.W.Frag} {mg : Str → Option Value} {base : Heap}
theorem sc_block_read : FnScope ["part"] ["part"] (defScope s_block_read) := ⟨rfl, rfl, rfl, by decide +kernel, rfl, by decide +kernel, by decide +kernel⟩
theorem nd_sign : (["sign"] : List Str).Nodup := by decide +kernel
theorem nd_part : (["part"] : List Str).Nodup := by decide +kernel
def eFind : TE := fun τ H Q => ∃ c : Nat, τ = [some (.str (mk [c]))] ∧ c < 128 ∧ Q (.int (NC.fd c)) H
theorem ok_block_read {f : Addr} {fd : FuncData} (hf : ∃ t, mg "FIGURES" = some (.str FIG t)) (F : Fun K "block_read" "block_read" s_block_read f fd) : FnOk P w K mg base CX 1 f fd ["part"] spBlockRead := by
  refine F.okX sc_block_read (fun vs H Q E h => ?_) (fun cdv A outer s H vs Q E hr h => ?_)
  · obtain ⟨x, rfl, _⟩ := h
    rfl
  · obtain ⟨x, rfl, hx, hz, q⟩ := h
    obtain ⟨t, hmf⟩ := hf
    refine ⟨_, pss_one (ps_ret
      (pe_lcomp (g := gName 0) (te := eFind) rfl (cpS (N := ["sign"]) (js := [none]) (defScope s_block_read) ["part"] (by decide +kernel)) (pi_str (pv 0))
        (by intros; exact pg_name (i := 0) nd_sign rfl (Or.inl rfl) (Or.inr rfl))
        (by
          intros
          refine (pe_bm PySem.F.plainAttrs_str PySem.F.slot_str_find PySem.F.type_str_find mt_find (pe_glob (v := .str FIG) (by rfl) hmf ⟨t, rfl⟩) (pa_cons (pv 0) pa_nil)).imp fun τ H Q h => ?_
          obtain ⟨c, rfl, hc, q⟩ := h
          refine ⟨rfl, _, rfl, FIG, mk [c], rfl, rfl, ?_⟩
          rw [show Txt.find FIG (mk [c]) = NC.fd c from fig_find c hc]
          exact q))), ?_⟩
    refine ⟨_, rfl, mk x, rfl, asc_mk hx, fun pl hpl => ?_⟩
    have hsz : (mk x).cps.size = x.length := by simp
    refine comp_fold (J := Its (mk x)) (Hs := H) x.length (fun i => .int (NC.fd (x.getD i 0))) (fun τ => ∃ v, τ = [v]) (Same.refl _) hpl (line_of hz) (fun i H2 hi _ => by show i < (mk x).cps.size; omega) (fun H2 _ => by show (mk x).cps.size ≤ x.length; omega) ⟨_, rfl⟩ ?_ ?_
    · rintro i τ H2 y H3 R hi ⟨v, rfl⟩ s2 ⟨rfl, c, hc, rfl⟩ k
      have hc' : x[i]? = some c := by simpa using hc
      have e : x.getD i 0 = c := by rw [List.getD_eq_getElem?_getD, hc']; rfl
      rw [e] at k
      exact ⟨c, rfl, hx c (List.mem_of_getElem? hc'), k _ _ ⟨_, rfl⟩ (Same.refl _)⟩
    · intro H2 s2 h2
      have e : (List.range x.length).map (fun i => V.int (NC.fd (x.getD i 0))) = iv (x.map NC.fd) := by
        apply List.ext_getElem?
        intro i
        rw [List.getElem?_map, List.getElem?_map, List.getElem?_map]
        by_cases hi : i < x.length
        · rw [List.getElem?_range hi, getD_some hi]; rfl
        · rw [List.getElem?_eq_none_iff.mpr (by simpa using hi), List.getElem?_eq_none_iff.mpr (by omega)]; rfl
      rw [e] at h2
      exact q pl H2 ⟨s2, hpl, h2⟩
theorem sc_blocks_read : FnScope ["text"] ["text"] (defScope s_blocks_read) := ⟨rfl, rfl, rfl, by decide +kernel, rfl, by decide +kernel, by decide +kernel⟩
def ePart : TE := fun τ H Q => ∃ x : List Nat, τ = [some (.str (mk x))] ∧ (∀ c ∈ x, c < 128) ∧ x.length ≤ 1000 ∧ ∀ l H', NewI H H' l (x.map NC.fd) → Q (.ref l) H'
theorem ok_blocks_read {f fB : Addr} {fd fdB : FuncData} (hX : CxNo CX) (F : Fun K "blocks_read" "blocks_read" s_blocks_read f fd)
    (DB : Dn K mg "block_read" s_block_read ["part"] fB fdB) (GB : FnOk P w K mg base CX 1 fB fdB ["part"] spBlockRead) : FnOk P w K mg base CX 2 f fd ["text"] spBlocksRead := by
  refine F.okX sc_blocks_read (fun vs H Q E h => ?_) (fun cdv A outer s H vs Q E hr h => ?_)
  · obtain ⟨x, rfl, _⟩ := h
    rfl
  · obtain ⟨x, rfl, hx, hz, q⟩ := h
    refine ⟨_, pss_cons (ps_if (pt_cmpR op_eq (pv 0) pe_str (nomark _)) (pss_one (ps_ret (pe_lst pa_nil))) pss_nil)
      (pss_one (ps_ret (pe_lcomp (g := gName 0) (te := ePart) rfl (cpS (N := ["part"]) (js := [none]) (defScope s_blocks_read) ["text"] (by decide +kernel))
        (pi_list (pe_bm PySem.F.plainAttrs_str PySem.F.slot_str_split PySem.F.type_str_split mt_split (pv 0) (pa_cons pe_str pa_nil)))
        (by intros; exact pg_name (i := 0) nd_part rfl (Or.inl rfl) (Or.inr rfl))
        (by
          intros
          refine (pe_call GB hr (by rfl) DB.at_ DB.fn.kp DB.bd .nil (passN hX) (pa_cons (pv 0) pa_nil)).imp fun τ H Q h => ?_
          obtain ⟨x, rfl, h1, h2, q⟩ := h
          exact ⟨_, rfl, x, rfl, h1, h2, q⟩)))), ?_⟩
    refine ⟨_, rfl, rfl, _, rfl, iteD (fun e => ?_) fun e => ?_⟩
    · have e0 : x = [] := by
        injection e with e
        have := congrArg (fun s => s.cps.toList) e
        simp only [mk_cps] at this
        exact this
      subst e0
      exact ⟨Nat.zero_le _, fun l hl => q l _ ⟨Same.new hl, hl, [], upd_same, .nil, List.nodup_nil⟩⟩
    have hne : x ≠ [] := fun z => e (by rw [z]; rfl)
    refine ⟨_, rfl, rfl, mk x, 124, rfl, rfl, by rw [mk_len]; exact line_of (by omega), fun p1 hp1 => ?_⟩
    have es := split_spl hne
    rw [show Txt.split (mk x) ⟨#[124]⟩ = (spl x).map mk from es]
    have s1 := Same.new (o := .lst (((spl x).map mk).map V.str)) hp1
    refine ⟨p1, rfl, ⟨_, SqL.of upd_same⟩, fun pl hpl => ?_⟩
    have hsl := spl_len x
    refine comp_lists (J := Itl K p1) (spl x).length (fun i => ((spl x).getD i []).map NC.fd) (fun τ => ∃ v, τ = [v]) hpl (by omega) (fun i H2 hi s2 => ?_) (fun H2 s2 => ?_) ⟨_, rfl⟩ ?_ ?_
    · exact ⟨((spl x).map mk).map V.str, .str (mk (spl x)[i]), SqL.of (s2 _ _ upd_same), by rw [List.getElem?_map, List.getElem?_map, List.getElem?_eq_getElem hi]; rfl⟩
    · exact ⟨((spl x).map mk).map V.str, SqL.of (s2 _ _ upd_same), by simp⟩
    · rintro i τ H2 y H3 R hi ⟨v, rfl⟩ s2 ⟨rfl, hy⟩ k
      have hy := hy _ (SqL.of (s2 _ _ upd_same))
      rw [List.getElem?_map, List.getElem?_map, List.getElem?_eq_getElem hi] at hy
      have hy := (Option.some.inj hy).symm
      subst hy
      have e : (spl x).getD i [] = (spl x)[i] := by rw [List.getD_eq_getElem?_getD, List.getElem?_eq_getElem hi]; rfl
      rw [e] at k
      have hm : (spl x)[i] ∈ spl x := List.getElem_mem hi
      have hl := mem_len_flat hm
      exact ⟨(spl x)[i], rfl, fun c hc => hx c (spl_mem hm hc), by omega, fun l H' N => k _ l _ ⟨_, rfl⟩ N⟩
    · intro H2 N2
      have e : (List.range (spl x).length).map (fun i => ((spl x).getD i []).map NC.fd) = rd x := by
        unfold rd
        rw [if_neg hne]
        apply List.ext_getElem?
        intro i
        rw [List.getElem?_map, List.getElem?_map]
        by_cases hi : i < (spl x).length
        · rw [List.getElem?_range hi, List.getElem?_eq_getElem hi]
          show some (((spl x).getD i []).map NC.fd) = some ((spl x)[i].map NC.fd)
          rw [List.getD_eq_getElem?_getD, List.getElem?_eq_getElem hi]; rfl
        · rw [List.getElem?_eq_none_iff.mpr (by simpa using hi), List.getElem?_eq_none_iff.mpr (by omega)]; rfl
      rw [e] at N2
      exact q pl H2 (N2.before s1)
end
end NCP

namespace NCP
open PySem L2 NC
section
variable {CX : CXT} {P : Program} {w : World} {K : PySem.W.Frag} {mg : Str → Option Value} {base : Heap}
theorem sc_read : FnScope ["text", "blocks", "points"] ["text"] (defScope s_read) := ⟨rfl, rfl, rfl, by decide +kernel, rfl, by decide +kernel, by decide +kernel⟩
theorem ok_read {f fB fP fI : Addr} {fd fdB fdP fdI : FuncData} (hX : CxNo CX) (B : GBlt mg) (F : Fun K "read" "read" s_read f fd)
    (DB : Dn K mg "blocks_read" s_blocks_read ["text"] fB fdB) (GB : FnOk P w K mg base CX 2 fB fdB ["text"] spBlocksRead)
    (DP : Dn K mg "points_in" s_points_in ["blocks"] fP fdP) (GP : FnOk P w K mg base CX 1 fP fdP ["blocks"] spPointsIn)
    (DI : Dn K mg "is_parting" s_is_parting ["points", "blocks"] fI fdI) (GI : FnOk P w K mg base CX 2 fI fdI ["points", "blocks"] spIsParting) : FnOk P w K mg base CX 3 f fd ["text"] spRead := by
  refine F.okX sc_read (fun vs H Q E h => ?_) (fun cdv A outer s H vs Q E hr h => ?_)
  · obtain ⟨x, rfl, _⟩ := h
    rfl
  · obtain ⟨x, rfl, hx, hz, hP, q⟩ := h
    have nd := sc_read.nd
    have hr1 := hr.mono (show 1 ≤ 2 by decide)
    refine ⟨_, pss_cons (ps_set (i := 1) nd rfl (Or.inl rfl) (pe_call GB hr rfl DB.at_ DB.fn.kp DB.bd .nil (passN hX) (pa_cons (pv 0) pa_nil)))
      (pss_cons (ps_set (i := 2) nd rfl (Or.inl rfl) (pe_callB call_len_seq (by rfl) B.len PySem.boot_len (pa_cons (pe_call GP hr1 rfl DP.at_ DP.fn.kp DP.bd .nil (passN hX) (pa_cons (pv 1) pa_nil)) pa_nil)))
      (pss_cons (ps_if (pt_not (pt_val (pe_call GI hr rfl DI.at_ DI.fn.kp DI.bd .nil (passN hX) (pa_cons (pv 2) (pa_cons (pv 1) pa_nil))))) pss_never pss_nil)
      (pss_one (ps_ret (pe_tup (pa_cons (pv 2) (pa_cons (pv 1) pa_nil))))))), ?_⟩
    obtain ⟨r1, r2⟩ := rd_len x
    refine ⟨_, rfl, x, rfl, hx, by omega, fun p H1 N1 => ?_⟩
    refine ⟨_, rfl, p, _, rfl, N1.ll, by omega, fun l H2 N2 => ?_⟩
    refine ⟨l, _, rfl, .inl (SqL.of N2.at_), ?_⟩
    show gName 2 (V.int (((iv (rd x).flatten).length : Nat) : Int)) _ _ _
    rw [List.length_map]
    refine ⟨_, rfl, _, rfl, _, p, _, rfl, N1.ll.mono N2.same, by omega, by omega, fun b hb => ?_, fun b H3 s3 hb => ⟨b, rfl, ?_⟩⟩
    · have := mem_flatten_len hb; omega
    rw [hb.mpr hP]
    refine iteF ?_
    refine ⟨_, rfl, _, rfl, by show 2 ≤ sizeLine; decide, fun t ht => ?_⟩
    have s13 := N2.same.trans s3
    exact q t p H1 _ N1 (s13.trans (Same.new ht)) (s13.free ht) upd_same
end
end NCP

namespace NCP
open PySem L2 NC PySem.Builtin PySem.Builtin.Str
section
variable {P : Program} {w : World} {K : PySem.W.Frag} {mg : Str → Option Value} {base : Heap}
theorem sc_read_e : FnScope ["text", "blocks", "points"] ["text"] (defScope s_read) := ⟨rfl, rfl, rfl, by decide +kernel, rfl, by decide +kernel, by decide +kernel⟩
theorem ok_read_e {f fB fP fI C : Addr} {fd fdB fdP fdI : FuncData} (KB : K.In base) (hn : mg "NoNote" = some (.ref C)) (hxc : PySem.W.excIn K C bmV "ValueError.__new__" = true) (B : GBlt mg) (F : Fun K "read" "read" s_read f fd)
    (DB : Dn K mg "blocks_read" s_blocks_read ["text"] fB fdB) (GB : FnOk P w K mg base (CXe P w) 2 fB fdB ["text"] spBlocksRead)
    (DP : Dn K mg "points_in" s_points_in ["blocks"] fP fdP) (GP : FnOk P w K mg base (CXe P w) 1 fP fdP ["blocks"] spPointsIn)
    (DI : Dn K mg "is_parting" s_is_parting ["points", "blocks"] fI fdI) (GI : FnOk P w K mg base (CXe P w) 2 fI fdI ["points", "blocks"] spIsParting) : FnOk P w K mg base (CXe P w) 3 f fd ["text"] (spReadE C) := by
  refine F.okE sc_read_e (fun vs H Q E h => ?_) (fun cdv A outer s H vs Q E hr h => ?_)
  · obtain ⟨x, rfl, _⟩ := h
    rfl
  · obtain ⟨x, rfl, hx, hz, hP, q⟩ := h
    have nd := sc_read_e.nd
    have hX : CxNo (CXe P w) := cxNoE
    have hr1 := hr.mono (show 1 ≤ 2 by decide)
    refine ⟨_, pss_cons (ps_set (i := 1) nd rfl (Or.inl rfl) (pe_call GB hr rfl DB.at_ DB.fn.kp DB.bd .nil (passN hX) (pa_cons (pv 0) pa_nil)))
      (pss_cons (ps_set (i := 2) nd rfl (Or.inl rfl) (pe_callB call_len_seq (by rfl) B.len PySem.boot_len (pa_cons (pe_call GP hr1 rfl DP.at_ DP.fn.kp DP.bd .nil (passN hX) (pa_cons (pv 1) pa_nil)) pa_nil)))
      (pss_cons (ps_if (pt_not (pt_val (pe_call GI hr rfl DI.at_ DI.fn.kp DI.bd .nil (passN hX) (pa_cons (pv 2) (pa_cons (pv 1) pa_nil)))))
        (pss_one (ps_raise (C := C) lv_of rfl (own_of KB hn hxc) PySem.F.excBase_ValueError rfl (pa_cons pe_str pa_nil))) pss_never) pss_never)), ?_⟩
    obtain ⟨r1, r2⟩ := rd_len x
    refine ⟨_, rfl, x, rfl, hx, by omega, fun p H1 N1 => ?_⟩
    refine ⟨_, rfl, p, _, rfl, N1.ll, by omega, fun l H2 N2 => ?_⟩
    refine ⟨l, _, rfl, .inl (SqL.of N2.at_), ?_⟩
    show gName 2 (V.int (((iv (rd x).flatten).length : Nat) : Int)) _ _ _
    rw [List.length_map]
    refine ⟨_, rfl, _, rfl, _, p, _, rfl, N1.ll.mono N2.same, by omega, by omega, fun b hb => ?_, fun b H3 s3 hb => ⟨b, rfl, ?_⟩⟩
    · have := mem_flatten_len hb; omega
    have e : b = false := by
      cases b with
      | false => rfl
      | true => exact absurd (hb.mp rfl) hP
    subst e
    exact iteT ⟨by show 1 ≤ sizeLine; decide, q H3 ((N1.same.trans N2.same).trans s3)⟩
end
end NCP

namespace NCP
open PySem L2 NC
section
variable {CX : CXT} {P : Program} {w : World} {K : PySem.W.Frag} {mg : Str → Option Value} {base : Heap}
theorem sc_gathered : FnScope ["word", "marks", "found", "point", "mark"] ["word"] (defScope s_law_gathered) := ⟨rfl, rfl, rfl, by decide +kernel, rfl, by decide +kernel, by decide +kernel⟩
theorem ok_gathered {f : Addr} {fd : FuncData} (B : GBlt mg) (F : Fun K "_law_gathered" "_law_gathered" s_law_gathered f fd) : FnOk P w K mg base CX 1 f fd ["word"] (spGathered K) := by
  refine F.okX sc_gathered (fun vs H Q E h => ?_) (fun cdv A outer s H vs Q E hr h => ?_)
  · obtain ⟨a, wd, rfl, _⟩ := h
    rfl
  · obtain ⟨a, wd, rfl, hS, hz, q⟩ := h
    have nd := sc_gathered.nd
    refine ⟨_, pss_cons (ps_set (i := 1) nd rfl (Or.inl rfl) (pe_lst pa_nil)) (pss_cons (ps_set (i := 2) nd rfl (Or.inl rfl) (pe_lst pa_nil))
      (pss_cons (ps_for PassesOwn.never rfl (pi_enum (by rfl) B.enum (pa_cons (pv 0) pa_nil)) (pg_two 3 4 rfl nd rfl rfl rfl rfl)
        (pss_cons (ps_cut (ps_if (pt_cmpR op_notIn_seq (pv 4) (pv 1) (by with_unfolding_all rfl))
          (pss_cons (ps_expr (pe_bm PySem.F.plainAttrs_list PySem.F.slot_list_append PySem.F.type_list_append mt_append (pv 1) (pa_cons (pv 4) pa_nil)))
            (pss_one (ps_expr (pe_bm PySem.F.plainAttrs_list PySem.F.slot_list_append PySem.F.type_list_append mt_append (pv 2) (pa_cons (pe_lst pa_nil) pa_nil))))) pss_nil))
        (pss_one (ps_expr (pe_bm PySem.F.plainAttrs_list PySem.F.slot_list_append PySem.F.type_list_append mt_append
          (pe_ix ix_list (pv 2) (pe_bm PySem.F.plainAttrs_list PySem.F.slot_list_index PySem.F.type_list_index mt_index (pv 1) (pa_cons (pv 4) pa_nil)) (fun _ _ => rfl)) (pa_cons (pv 3) pa_nil))))))
      (pss_one (ps_ret (pv 2))))), ?_⟩
    refine ⟨Nat.zero_le _, fun pm hm => ⟨Nat.zero_le _, fun pf hf1 => ?_⟩⟩
    have hf : H pf = none := (Same.new hm).free hf1
    have hne : pm ≠ pf := ne_of_none upd_same hf1
    have s0 : Same H (upd (upd H pm (.lst [])) pf (.lst [])) := (Same.new hm).upd hf
    refine ⟨_, rfl, a, rfl, ⟨_, s0.seq hS⟩, for_enum (K := K) (a := a) (xs := iv (zl wd))
      (fun i σ H2 => ∃ v3 v4, σ = [some (.ref a), some (.ref pm), some (.ref pf), v3, v4] ∧ GMid H H2 pm pf (marks (wd.take i)) (gather (wd.take i)))
      ⟨none, none, rfl, ⟨s0, hm, hf, hne, by rw [upd_ne hne, upd_same]; rfl, [], upd_same, .nil, List.nodup_nil, by simp, by simp⟩⟩ (fun i σ H2 _ ⟨_, _, _, g⟩ => g.same.seq hS) ?_ ?_⟩
    · rintro i x σ H2 t hi ⟨v3, v4, rfl, g⟩ ht
      obtain ⟨m, hmi, rfl⟩ := iv_get hi
      have hiw : i < wd.length := (List.getElem?_eq_some_iff.mp hmi).1
      have et := take_succ_of hmi
      have lt : (wd.take i).length = i := by rw [List.length_take]; omega
      have ml : (marks (wd.take i)).length ≤ 1000 := Nat.le_trans (marks_le _) (by rw [lt]; omega)
      refine ⟨t, _, _, rfl, SqT.of upd_same, ?_⟩
      have g := g.later (Same.new (o := .tup [.int i, .int m]) ht)
      generalize upd H2 t (.tup [.int i, .int m]) = H3 at g ⊢
      refine ⟨fun σ H4 => σ = [some (.ref a), some (.ref pm), some (.ref pf), some (.int i), some (.int m)] ∧ ∃ cs c, GMid H H4 pm pf (marks (wd.take (i + 1))) cs ∧ m ∈ marks (wd.take (i + 1)) ∧ cs[(marks (wd.take (i + 1))).idxOf m]? = some c ∧ c.length ≤ i ∧
        cs.set ((marks (wd.take (i + 1))).idxOf m) (c ++ [i]) = gather (wd.take (i + 1)), ?_, ?_⟩
      · refine ⟨_, rfl, _, rfl, pm, _, rfl, .inl (SqL.of g.am), rfl, flat_ints _, _, rfl, ?_⟩
        show if (!inV (.int m) (iv (zl (marks (wd.take i))))) = true then _ else _
        rw [inV_ints]
        refine iteND (fun hn => ?_) fun hn => ?_
        · -- a new mark
          have hn' : m ∉ wd.take i := fun z => hn (zl_mem.mpr (mem_marks.mpr z))
          refine ⟨_, rfl, .inl ⟨rfl, _, SqL.of g.am⟩, _, rfl, pm, _, _, rfl, rfl, g.am, small1000 (by simpa using ml), ?_⟩
          obtain ⟨as, h1, h2, h3, h4, h5⟩ := g.ex
          have h1' : (upd H3 pm (.lst (iv (zl (marks (wd.take i))) ++ [.int m]))) pf = some (.lst (as.map V.ref)) := by rw [upd_ne (Ne.symm g.ne)]; exact h1
          refine ⟨_, rfl, .inl ⟨rfl, _, SqL.of h1'⟩, Nat.zero_le _, fun pn hpn => ?_⟩
          refine ⟨pf, _, _, rfl, rfl, Same.new hpn _ _ h1', ?_, rfl, ?_⟩
          · rw [List.length_map, paired_len h2, List.length_map, gather_length]
            exact small1000 ml
          · have em : marks (wd.take (i + 1)) = marks (wd.take i) ++ [m] := by rw [et, marks_snoc, addMark, if_neg (by rw [mem_marks]; exact hn')]
            have nix : (marks (wd.take i) ++ [m]).idxOf m = (marks (wd.take i)).length := by
              rw [List.idxOf_append, if_neg (by rw [mem_marks]; exact hn')]
              simp
            have npm : pm ≠ pn := fun z => by rw [z, upd_same] at hpn; cases hpn
            have npf : pf ≠ pn := ne_of_none h1' hpn
            have H3n : H3 pn = none := by rw [upd_ne (Ne.symm npm)] at hpn; exact hpn
            have Hn : H pn = none := g.same.free H3n
            have nin : pn ∉ as := fun z => by
              obtain ⟨k, hk, ek⟩ := List.mem_iff_getElem.mp z
              obtain ⟨b, _, hb⟩ := paired_get h2 (i := k) (a := pn) (by rw [List.getElem?_eq_getElem hk, ek])
              rw [H3n] at hb
              cases hb.2
            rw [em]
            refine ⟨gather (wd.take i) ++ [[]], [], ⟨((g.same.upd hm).upd Hn).upd hf, hm, hf, g.ne, ?_, as ++ [pn], ?_, ?_, ?_, ?_, ?_⟩, by simp, ?_, Nat.zero_le _, ?_⟩
            · rw [upd_ne g.ne, upd_ne npm, upd_same]
              simp [iv, zl]
            · rw [upd_same, List.map_append]
              rfl
            · rw [show zb (gather (wd.take i) ++ [[]]) = zb (gather (wd.take i)) ++ [[]] from List.map_append ..]
              refine paired_snoc (paired_mem (fun x b hx e => ⟨e.1, ?_⟩) h2) ⟨Hn, ?_⟩
              · have x1 : x ≠ pm := fun z => h4 (z ▸ hx)
                have x2 : x ≠ pf := fun z => h5 (z ▸ hx)
                have x3 : x ≠ pn := fun z => nin (z ▸ hx)
                rw [upd_ne x2, upd_ne x3, upd_ne x1]
                exact e.2
              · rw [upd_ne (Ne.symm npf), upd_same]
                rfl
            · rw [List.nodup_append]
              exact ⟨h3, by simp, fun x hx y hy e => nin (by simp at hy; rw [← hy, ← e]; exact hx)⟩
            · simp [h4, npm]
            · simp [h5, npf]
            · rw [nix, ← gather_length]
              simp
            · rw [nix, ← gather_length, et, gather_new hn', lt]
              simp
        · -- a mark that is there
          have hn' : m ∈ wd.take i := mem_marks.mp (zl_mem.mp hn)
          have em : marks (wd.take (i + 1)) = marks (wd.take i) := by rw [et, marks_snoc, addMark, if_pos (mem_marks.mpr hn')]
          rw [em]
          refine ⟨rfl, gather (wd.take i), pos (wd.take i) m, g, mem_marks.mpr hn', gather_get hn', ?_, ?_⟩
          · have := List.length_filter_le (fun k => decide ((wd.take i)[k]? = some m)) (List.range (wd.take i).length)
            unfold pos
            rw [List.length_range, lt] at this
            rw [lt]
            exact this
          · rw [et, gather_old hn', lt]
      · rintro σ H4 ⟨rfl, cs, c, g4, hmm, hc, hcl, hset⟩
        obtain ⟨as, h1, h2, h3, h4, h5⟩ := g4.ex
        obtain ⟨ac, hac, hfree, hcon⟩ := paired_get' h2 (i := (marks (wd.take (i + 1))).idxOf m) (b := zl c) (by rw [List.getElem?_map, hc]; rfl)
        refine ⟨_, rfl, _, rfl, .inl ⟨rfl, _, SqL.of g4.am⟩, _, rfl, pm, _, _, rfl, rfl, g4.am, zl_mem.mpr hmm, ?_⟩
        rw [zl_idx]
        refine ⟨pf, _, _, .ref ac, rfl, rfl, SqL.of h1, atI_nat (by rw [List.getElem?_map, hac]; rfl), .inl ⟨rfl, _, SqL.of hcon⟩, _, rfl, ac, _, _, rfl, rfl, hcon, small1000 (by simp; omega), ?_⟩
        have acm : ac ∈ as := List.mem_of_getElem? hac
        have n1 : pm ≠ ac := fun z => h4 (z ▸ acm)
        have n2 : pf ≠ ac := fun z => h5 (z ▸ acm)
        refine ⟨_, _, rfl, g4.same.upd hfree, hm, hf, g4.ne, by rw [upd_ne n1]; exact g4.am, as, by rw [upd_ne n2]; exact h1, ?_, h3, h4, h5⟩
        rw [← hset, zb, List.map_set]
        refine paired_set h2 h3 hac (fun x y hx e => ⟨e.1, by rw [upd_ne hx]; exact e.2⟩) ⟨hfree, ?_⟩
        rw [upd_same]
        simp [iv, zl]
    · rintro σ H2 ⟨v3, v4, rfl, g⟩
      rw [List.length_map, List.length_map, List.take_length] at g
      obtain ⟨as, h1, h2, h3, h4, h5⟩ := g.ex
      exact ⟨_, rfl, q pf H2 ⟨g.same, hf, as, h1, h2, h3⟩⟩
end
end NCP

namespace NCP
open PySem L2 NC
section
variable {CX : CXT} {P : Program} {w : World} {K : PySem.W.Frag} {mg : Str → Option Value} {base : Heap}
theorem sc_free_by : FnScope ["script", "at", "points", "going", "word", "k", "place"] ["script", "at", "points"] (defScope s_law_free_by) := ⟨rfl, rfl, rfl, by decide +kernel, rfl, by decide +kernel, by decide +kernel⟩
theorem ok_free_by {f fC fG : Addr} {fd fdC fdG : FuncData} (hX : CxNo CX) (B : GBlt mg) (F : Fun K "_law_free_by" "_law_free_by" s_law_free_by f fd)
    (DC : Dn K mg "_law_cell_at" s_law_cell_at ["script", "k"] fC fdC) (GC : FnOk P w K mg base CX 1 fC fdC ["script", "k"] (spCell K))
    (DG : Dn K mg "_law_gathered" s_law_gathered ["word"] fG fdG) (GG : FnOk P w K mg base CX 1 fG fdG ["word"] (spGathered K)) : FnOk P w K mg base CX 2 f fd ["script", "at", "points"] (spFreeBy K) := by
  refine F.okX sc_free_by (fun vs H Q E h => ?_) (fun cdv A outer s H vs Q E hr h => ?_)
  · obtain ⟨a, ns, k, n, rfl, _⟩ := h
    rfl
  · obtain ⟨a, ns, at_, n, rfl, hS, hn, q⟩ := h
    have nd := sc_free_by.nd
    refine ⟨_, pss_cons (ps_set (i := 3) nd rfl (Or.inl rfl) (pe_lst pa_nil)) (pss_cons (ps_set (i := 4) nd rfl (Or.inl rfl) (pe_lst pa_nil))
      (pss_cons (ps_for PassesOwn.never rfl (pi_range1 rfl B.range (pa_cons (pv 2) pa_nil)) (pg_name (i := 5) nd rfl (Or.inl rfl))
        (pss_cons (ps_set (i := 6) nd rfl (Or.inl rfl) (pe_op op_mod (pe_call GC hr rfl DC.at_ DC.fn.kp DC.bd .nil (passN hX) (pa_cons (pv 0) (pa_cons (pe_op op_add (pv 1) (pv 5)) pa_nil))) (pe_op op_add (pe_callB call_len_seq (by rfl) B.len PySem.boot_len (pa_cons (pv 3) pa_nil)) pe_int)))
        (pss_cons (ps_cut (ps_if (pt_cmpR op_eq (pe_op op_mod (pe_op op_fdiv (pe_call GC hr rfl DC.at_ DC.fn.kp DC.bd .nil (passN hX) (pa_cons (pv 0) (pa_cons (pe_op op_add (pv 1) (pv 5)) pa_nil))) pe_int) pe_int) pe_int (nomark _))
          (pss_one (ps_set (i := 6) nd rfl (Or.inl rfl) (pe_callB (call_max2 rfl) (by rfl) B.max PyProof.Rows.boot_max (pa_cons pe_int (pa_cons (pe_op op_sub (pe_op op_sub (pe_callB call_len_seq (by rfl) B.len PySem.boot_len (pa_cons (pv 3) pa_nil)) pe_int) (pe_op op_mod (pv 6) pe_int)) pa_nil))))) pss_nil))
        (pss_cons (ps_cut (ps_if (pt_cmpR op_eq (pv 6) (pe_callB call_len_seq (by rfl) B.len PySem.boot_len (pa_cons (pv 3) pa_nil)) (nomark _))
          (pss_one (ps_expr (pe_bm PySem.F.plainAttrs_list PySem.F.slot_list_append PySem.F.type_list_append mt_append (pv 3) (pa_cons (pe_callB call_len_setI (by rfl) B.len PySem.boot_len (pa_cons (pe_callTy (call_set_ints rfl) (by rfl) B.set PyProof.Rows.boot_set (pa_cons (pv 4) pa_nil)) pa_nil)) pa_nil)))) pss_nil))
        (pss_cons (ps_set (i := 3) nd rfl (Or.inl rfl) (pe_slice sl_list (pv 3) po_none (po_some (pe_op op_add (pv 6) pe_int))))
        (pss_one (ps_expr (pe_bm PySem.F.plainAttrs_list PySem.F.slot_list_append PySem.F.type_list_append mt_append (pv 4) (pa_cons (pe_ix ix_list (pv 3) (pv 6) (fun _ _ => rfl)) pa_nil)))))))))
      (pss_one (ps_ret (pe_call GG hr rfl DG.at_ DG.fn.kp DG.bd .nil (passN hX) (pa_cons (pv 4) pa_nil)))))), ?_⟩
    refine ⟨Nat.zero_le _, fun pg hpg => ⟨Nat.zero_le _, fun pw hpw => ?_⟩⟩
    have hpw0 : H pw = none := (Same.new hpg).free hpw
    have s0 : Same H (upd (upd H pg (.lst [])) pw (.lst [])) := (Same.new hpg).upd hpw0
    refine ⟨_, rfl, _, rfl, by omega, by omega, ?_⟩
    rw [Int.toNat_natCast]
    refine for_range (lo := 0) (n := n) (fun k σ H2 => ∃ pg v5 v6, σ = [some (.ref a), some (.int at_), some (.int n), some (.ref pg), some (.ref pw), v5, v6] ∧ Same H H2 ∧ H pg = none ∧ pg ≠ pw ∧
        H2 pg = some (.lst (iv (zl (freeState (cells ns at_ k)).1))) ∧ H2 pw = some (.lst (iv (zl (freeState (cells ns at_ k)).2))))
      ⟨pg, none, none, rfl, s0, hpg, ne_of_none upd_same hpw, by rw [upd_ne (ne_of_none upd_same hpw), upd_same]; rfl, upd_same⟩ ?_ ?_
    · rintro k σ H2 hk ⟨pg, v5, v6, rfl, s2, hpg, hne, h2, h3⟩
      rw [Int.zero_add]
      have hsz := freeState_len (cells ns at_ k)
      rw [cells_length] at hsz
      rw [cells_succ, freeState_snoc]
      generalize freeState (cells ns at_ k) = st at h2 h3 hsz ⊢
      generalize hc : ns.getD (at_ + k) 0 = c
      have len3 : (iv (zl st.1)).length = st.1.length := by rw [List.length_map, List.length_map]
      -- place = ..
      refine ⟨_, rfl, _, rfl, _, rfl, _, _, rfl, rfl, a, ns, at_ + k, rfl, s2.seq hS, ?_⟩
      rw [hc]
      refine ⟨_, rfl, pg, _, rfl, .inl (SqL.of h2), _, _, rfl, rfl, _, _, rfl, rfl, by omega, ?_⟩
      rw [len3]
      -- if ..: place = max(..)
      refine ⟨fun σ H3 => σ = [some (.ref a), some (.int at_), some (.int n), some (.ref pg), some (.ref pw), some (.int k), some (.int (fplace c st.1.length))] ∧ H2 = H3, ?_, ?_⟩
      · refine ⟨_, rfl, _, rfl, _, rfl, _, _, rfl, rfl, a, ns, at_ + k, rfl, s2.seq hS, ?_⟩
        rw [hc]
        refine ⟨_, _, rfl, rfl, ⟨by decide, by decide⟩, _, _, rfl, rfl, (by show (0 : Int) < 2; decide), rfl, _, rfl, iteD (fun h => ?_) fun h => ?_⟩
        · refine ⟨_, rfl, pg, _, rfl, .inl (SqL.of h2), _, _, rfl, rfl, _, rfl, _, _, rfl, rfl, (by show (0 : Int) < 2; decide), _, _, rfl, rfl, _, _, rfl, ?_⟩
          rw [len3]
          refine ⟨?_, rfl⟩
          have e : c / 64 % 2 = 1 := by injection h
          have e2 : (if (st.1.length : Int) - 1 - c % ((st.1.length : Int) + 1) % 2 > 0 then (st.1.length : Int) - 1 - c % ((st.1.length : Int) + 1) % 2 else 0) = fplace c st.1.length := by
            unfold fplace
            rw [if_pos e]
            split <;> omega
          rw [← e2]
          rfl
        · refine ⟨?_, rfl⟩
          have e : ¬ c / 64 % 2 = 1 := fun z => h (congrArg V.int z)
          have e2 : c % ((st.1.length : Int) + 1) = fplace c st.1.length := by
            unfold fplace
            rw [if_neg e]
          rw [← e2]
          rfl
      rintro σ H3 ⟨rfl, rfl⟩
      have fl := fplace_lo c st.1.length
      have fh := fplace_hi c st.1.length
      obtain ⟨p, hp⟩ : ∃ p : Nat, fplace c st.1.length = p := ⟨_, (Int.toNat_of_nonneg fl).symm⟩
      rw [fstep_eq st c (p := p) (by rw [hp]; rfl), hp]
      rw [hp] at fh
      have hpl : p ≤ st.1.length := by omega
      -- if place == len(going): going.append(len(set(word)))
      refine ⟨fun σ H3 => σ = [some (.ref a), some (.int at_), some (.int n), some (.ref pg), some (.ref pw), some (.int k), some (.int p)] ∧ Same H H3 ∧
        H3 pg = some (.lst (iv (zl (if p = st.1.length then st.1 ++ [(marks st.2).length] else st.1)))) ∧ H3 pw = some (.lst (iv (zl st.2))), ?_, ?_⟩
      · refine ⟨_, rfl, _, rfl, pg, _, rfl, .inl (SqL.of h2), rfl, _, rfl, iteD (fun h => ?_) fun h => ?_⟩
        · have e : p = st.1.length := by rw [len3] at h; injection h with z; omega
          refine ⟨_, rfl, .inl ⟨rfl, _, SqL.of h2⟩, _, rfl, pw, zl st.2, rfl, SqL.of h3, by rw [List.length_map]; omega, fun ps hps => ⟨ps, _, _, rfl, upd_same, ?_⟩⟩
          rw [set_size]
          refine ⟨pg, _, _, rfl, rfl, Same.new hps _ _ h2, small1000 (by rw [len3]; omega), rfl, ((s2.trans (Same.new hps)).upd hpg), ?_, ?_⟩
          · rw [upd_same, if_pos e]
            simp [iv, zl]
          · rw [upd_ne (Ne.symm hne)]
            exact Same.new hps _ _ h3
        · have e : ¬ p = st.1.length := fun z => h (by rw [len3, z])
          rw [if_neg e]
          exact ⟨rfl, s2, h2, h3⟩
      rintro σ H4 ⟨rfl, s4, h4, h5⟩
      generalize hg : (if p = st.1.length then st.1 ++ [(marks st.2).length] else st.1) = g at h4 ⊢
      have hpg2 : p < g.length := by
        rw [← hg]
        split
        · simp; omega
        · omega
      -- going = going[:place + 1]
      refine ⟨_, rfl, _, rfl, _, _, rfl, rfl, _, rfl, pg, _, rfl, SqL.of h4, fun pg2 hpg2' => ?_⟩
      have e5 : cutV (iv (zl g)) none (some ((p : Int) + 1)) = iv (zl (g.take (p + 1))) := by
        have := cutV_to (iv (zl g)) (p + 1)
        rw [show ((p + 1 : Nat) : Int) = (p : Int) + 1 from rfl] at this
        rw [this]
        simp [iv, zl, List.map_take]
      rw [e5]
      have h6 := Same.new (o := .lst (iv (zl (g.take (p + 1))))) hpg2' _ _ h5
      refine ⟨_, rfl, .inl ⟨rfl, _, SqL.of h6⟩, _, rfl, _, rfl, pg2, _, _, _, rfl, rfl, SqL.of upd_same, atI_nat (iv_of (p := g.getD p 0) ?_), pw, _, _, rfl, rfl, h6, small1000 ?_, ?_⟩
      · rw [List.getElem?_take, if_pos (by omega), List.getD_eq_getElem?_getD, List.getElem?_eq_getElem hpg2]
        rfl
      · rw [List.length_map, List.length_map]; omega
      · have n2 : pg2 ≠ pw := Ne.symm (ne_of_none h5 hpg2')
        refine ⟨pg2, _, _, rfl, ((s4.trans (Same.new hpg2')).upd hpw0), s4.free hpg2', n2, ?_, ?_⟩
        · rw [upd_ne n2, upd_same]
        · rw [upd_same]
          simp [iv, zl]
    · rintro σ H2 ⟨pg, v5, v6, rfl, s2, hpg, hne, h2, h3⟩
      refine ⟨_, rfl, pw, _, rfl, SqL.of h3, ?_, fun p H' N => q p H' ⟨s2.trans N.same, s2.free N.np, ?_⟩⟩
      · have := freeState_len (cells ns at_ n)
        rw [cells_length] at this
        omega
      · obtain ⟨as, h4, h5, h6⟩ := N.ex
        exact ⟨as, h4, paired_imp (fun x b e => ⟨s2.free e.1, e.2⟩) h5, h6⟩
end
end NCP

namespace NCP
open PySem L2 NC
section
variable {CX : CXT} {P : Program} {w : World} {K : PySem.W.Frag} {mg : Str → Option Value} {base : Heap}
theorem sc_any_by : FnScope ["script", "at", "points"] ["script", "at", "points"] (defScope s_law_any_by) := ⟨rfl, rfl, rfl, by decide +kernel, rfl, by decide +kernel, by decide +kernel⟩
def eAny (K : PySem.W.Frag) (a : Addr) (ns : List Int) (at_ : Nat) : TE := fun τ H Q => ∃ k : Nat, τ = [some (.int k), some (.ref a), some (.int at_)] ∧ SqL K H a (iv ns) ∧ Q (.int (ns.getD (at_ + k) 0 % 4)) H
theorem ok_any_by {f fC fG : Addr} {fd fdC fdG : FuncData} (hX : CxNo CX) (B : GBlt mg) (F : Fun K "_law_any_by" "_law_any_by" s_law_any_by f fd)
    (DC : Dn K mg "_law_cell_at" s_law_cell_at ["script", "k"] fC fdC) (GC : FnOk P w K mg base CX 1 fC fdC ["script", "k"] (spCell K))
    (DG : Dn K mg "_law_gathered" s_law_gathered ["word"] fG fdG) (GG : FnOk P w K mg base CX 1 fG fdG ["word"] (spGathered K)) : FnOk P w K mg base CX 2 f fd ["script", "at", "points"] (spAnyBy K) := by
  refine F.okX sc_any_by (fun vs H Q E h => ?_) (fun cdv A outer s H vs Q E hr h => ?_)
  · obtain ⟨a, ns, k, n, rfl, _⟩ := h
    rfl
  · obtain ⟨a, ns, at_, n, rfl, hS, hn, q⟩ := h
    refine ⟨_, pss_one (ps_ret (pe_call GG hr rfl DG.at_ DG.fn.kp DG.bd .nil (passN hX) (pa_cons
      (pe_lcomp (g := gName 0) (te := eAny K a ns at_) rfl (cpS (N := ["k", "script", "at"]) (js := [none, some 0, some 1]) (defScope s_law_any_by) ["script", "at", "points"] (by decide +kernel)) (pi_range1 rfl B.range (pa_cons (pv 2) pa_nil))
        (by intros; exact pg_name (i := 0) nd_k3 rfl (Or.inl rfl) (Or.inr rfl))
        (by
          intros
          refine (pe_op op_mod (pe_call GC hr (by rfl) DC.at_ DC.fn.kp DC.bd .nil (passN hX) (pa_cons (pv 1) (pa_cons (pe_op op_add (pv 2) (pv 0)) pa_nil))) pe_int).imp fun τ H Q h => ?_
          obtain ⟨k, rfl, hS, q⟩ := h
          exact ⟨_, rfl, _, rfl, _, rfl, _, _, rfl, rfl, a, ns, at_ + k, rfl, hS, _, _, rfl, rfl, (by show (0 : Int) < 4; decide), q⟩)) pa_nil))), ?_⟩
    refine ⟨_, rfl, _, rfl, by omega, by omega, fun pl hpl => ?_⟩
    rw [Int.toNat_natCast]
    refine comp_fold (J := Itr 0 n) (Hs := H) n (fun k => .int (ns.getD (at_ + k) 0 % 4)) (fun τ => ∃ v, τ = [v, some (.ref a), some (.int at_)]) (Same.refl _) hpl (line_of hn) (fun i H2 hi _ => hi) (fun H2 _ => Nat.le_refl _) ⟨_, rfl⟩ ?_ ?_
    · rintro i τ H2 x H3 R hi ⟨v, rfl⟩ s2 ⟨rfl, rfl⟩ k
      rw [Int.zero_add]
      exact ⟨i, rfl, s2.seq hS, k _ _ ⟨_, rfl⟩ (Same.refl _)⟩
    · intro H2 s2 h2
      rw [any_eq] at h2
      refine ⟨pl, _, rfl, SqL.of h2, ?_, fun p H' N => q p H' (N.before s2)⟩
      rw [anyWord_length, cells_length]
      exact hn
end
end NCP

namespace NCP
open PySem L2 NC
section
variable {CX : CXT} {P : Program} {w : World} {K : PySem.W.Frag} {mg : Str → Option Value} {base : Heap}
abbrev nGood : List Str := ["points", "blocks", "firsts", "seen", "block"]
theorem sc_good : FnScope nGood ["points", "blocks"] (defScope s_law_good) := ⟨rfl, rfl, rfl, by decide +kernel, rfl, by decide +kernel, by decide +kernel⟩
def eLen : TE := fun τ H Q => ∃ (a : Addr) (b : List Int), τ[0]? = some (some (.ref a)) ∧ H a = some (.lst (iv b)) ∧ Q (.int b.length) H
theorem ok_good {f : Addr} {fd : FuncData} (B : GBlt mg) (F : Fun K "_law_good" "_law_good" s_law_good f fd) : FnOk P w K mg base CX 1 f fd ["points", "blocks"] spGood := by
  refine F.okX sc_good (fun vs H Q E h => ?_) (fun cdv A outer s H vs Q E hr h => ?_)
  · obtain ⟨n, p, bs, rfl, _⟩ := h
    rfl
  · obtain ⟨n, p, bs, rfl, hL, hz, hz2, q⟩ := h
    obtain ⟨as, hp, hbs⟩ := id hL
    have hal := paired_len hbs
    have nd := sc_good.nd
    refine ⟨_, pss_cons (ps_if (PW.pt (pw_or (pt_not (pt_chainN pe_int (pch_link op_le (pv 0) (pch_last op_le pe_int)))) (pw_or1 (pt_cmpR op_ne (pe_callB (call_sum_ints rfl) (by rfl) B.sum PyProof.Rows.boot_sum (pa_cons
          (pe_lcomp (g := gName 0) (te := eLen) rfl (cpS (N := ["block"]) (js := [none]) (defScope s_law_good) nGood (by decide +kernel)) (pi_list (pv 1))
            (by intros; exact pg_name (i := 0) nd_block rfl (Or.inl rfl) (Or.inr rfl))
            (by
              intros
              refine (pe_callB call_len_seq (by rfl) B.len PySem.boot_len (pa_cons (pv 0) pa_nil)).imp fun τ H Q h => ?_
              obtain ⟨a, b, e, hb, q⟩ := h
              refine ⟨_, e, a, _, rfl, .inl (SqL.of hb), ?_⟩
              rw [List.length_map]
              exact q)) pa_nil)) (pv 0) (nomark _))))) (pss_one (ps_ret pe_bl)) pss_nil)
      (pss_cons (ps_set (i := 2) nd rfl (Or.inl rfl) (pe_lst pa_nil)) (pss_cons (ps_set (i := 3) nd rfl (Or.inl rfl) (pe_lst pa_nil))
      (pss_cons (ps_for PassesOwn.never rfl (pi_list (pv 1)) (pg_name (i := 4) nd rfl (Or.inl rfl))
        (pss_cons (ps_if (PW.pt (pw_or (pt_cmpR op_eq (pe_callB call_len_seq (by rfl) B.len PySem.boot_len (pa_cons (pv 4) pa_nil)) pe_int (nomark _))
            (pw_or1 (pt_cmpR (op_neE enc_int.list hr.units) (pv 4) (pe_callB (call_sorted_set rfl) (by rfl) B.sorted PyProof.Rows.boot_sorted (pa_cons (pe_callTy (call_set_R rfl) (by rfl) B.set PyProof.Rows.boot_set (pa_cons (pv 4) pa_nil)) pa_nil)) (nomark _))))) (pss_one (ps_ret pe_bl)) pss_nil)
        (pss_cons (ps_expr (pe_bm PySem.F.plainAttrs_list PySem.F.slot_list_append PySem.F.type_list_append mt_append (pv 2) (pa_cons (pe_ix ix_list (pv 4) pe_int (fun _ _ => rfl)) pa_nil)))
        (pss_one (ps_set (i := 3) nd rfl (Or.inl rfl) (pe_op op_cat (pv 3) (pv 4)))))))
      (pss_one (ps_ret (pe_and (pe_cmpR (op_eqE enc_int.list hr.units) (pe_callB call_sorted_ints (by rfl) B.sorted PyProof.Rows.boot_sorted (pa_cons (pv 3) pa_nil)) (pe_callTy (call_list_rng rfl) (by rfl) B.list PyProof.Rows.boot_list (pa_cons (pe_callTy call_range1 (by rfl) B.range PyProof.Rows.boot_range (pa_cons (pv 0) pa_nil)) pa_nil)) (nomark _))
        (pe_one (pe_cmpR (op_eqE enc_int.list hr.units) (pv 2) (pe_callB call_sorted_ints (by rfl) B.sorted PyProof.Rows.boot_sorted (pa_cons (pv 2) pa_nil)) (nomark _))))))))), ?_⟩
    have no : ∀ H', Same H H' → ¬ Parting n bs → Q (.bl false) H' := fun H' s z => q false H' s ⟨(fun z2 => by cases z2), fun z2 => absurd z2 z⟩
    refine ⟨_, rfl, _, _, rfl, rfl, _, rfl, iteD (fun h0 => ?_) fun h0 => no H (Same.refl _) fun z => h0 z.lo⟩
    refine ⟨_, _, rfl, rfl, _, rfl, ?_⟩
    refine iteND (fun h1 => no H (Same.refl _) fun z => h1 z.hi) fun h1 => ?_
    -- the sum of the lengths
    refine ⟨_, rfl, p, rfl, ⟨_, SqL.of hp⟩, fun p1 hp1 => comp_listI (K := K) (xs := as.map V.ref) (Hs := H) (fun i => .int ((bs.getD i []).length : Int)) (fun τ => ∃ v, τ = [v]) (Same.refl _) hp1 (SqL.of hp) (by rw [List.length_map, hal]; exact line_of hz) ⟨_, rfl⟩ ?_ ?_⟩
    · rintro i x τ H2 R hi ⟨v, rfl⟩ s2 k
      obtain ⟨a, ha, rfl⟩ := refs_get hi
      obtain ⟨b, hb, hab⟩ := paired_get hbs ha
      have e : bs.getD i [] = b := by rw [List.getD_eq_getElem?_getD, hb]; rfl
      rw [e] at k
      exact ⟨a, b, rfl, s2 _ _ hab, k _ H2 ⟨_, rfl⟩ (Same.refl _)⟩
    intro H2 s2 h2
    have elen : (List.range (as.map V.ref).length).map (fun i => V.int ((bs.getD i []).length : Int)) = iv (bs.map fun b => (b.length : Int)) := by
      rw [List.length_map, hal]
      apply List.ext_getElem?
      intro i
      rw [List.getElem?_map, List.getElem?_map, List.getElem?_map]
      by_cases hi : i < bs.length
      · rw [List.getElem?_range hi, List.getElem?_eq_getElem hi]
        simp [hi]
      · rw [List.getElem?_eq_none_iff.mpr (by simpa using hi), List.getElem?_eq_none_iff.mpr (by omega)]
        rfl
    rw [elen] at h2
    refine ⟨p1, _, rfl, SqL.of h2, _, rfl, rfl, _, rfl, ?_⟩
    rw [sum_lens]
    refine iteND (fun h3 => no H2 s2 fun z => h3 ?_) fun h3 => ?_
    · have := z.perm.length_eq
      rw [List.length_map, List.length_range] at this
      congr 1
      omega
    have hsum : (bs.flatten.length : Int) = n := by injection h3
    -- firsts, seen
    refine ⟨Nat.zero_le _, fun pf hpf => ⟨Nat.zero_le _, fun ps hps => ?_⟩⟩
    have hpf0 : H pf = none := s2.free hpf
    have hps1 : H2 ps = none := (Same.new hpf).free hps
    have hps0 : H ps = none := s2.free hps1
    have hne : pf ≠ ps := ne_of_none upd_same hps
    have s0 : Same H (upd (upd H2 pf (.lst [])) ps (.lst [])) := (s2.upd hpf0).upd hps0
    refine ⟨_, rfl, p, rfl, ⟨_, SqL.of (s0 _ _ hp)⟩, for_list (K := K) (a := p) (xs := as.map V.ref)
      (fun i σ H3 => ∃ (ps : Addr) (v4 : Option V), σ = [some (.int n), some (.ref p), some (.ref pf), some (.ref ps), v4] ∧ Same H H3 ∧ H ps = none ∧ pf ≠ ps ∧ H3 pf = some (.lst (iv ((bs.take i).map fun b => b.headD 0))) ∧ H3 ps = some (.lst (iv (bs.take i).flatten)) ∧ ∀ b ∈ bs.take i, b ≠ [] ∧ b.Pairwise (· < ·))
      ⟨ps, none, rfl, s0, hps0, hne, by rw [upd_ne hne, upd_same]; rfl, upd_same, by simp⟩ (fun i σ H3 _ ⟨_, _, _, s, _⟩ => SqL.of (s _ _ hp)) ?_ ?_⟩
    · rintro i x σ H3 hi ⟨ps, v4, rfl, s3, hps0, hne, h3f, h3s, hgood⟩
      obtain ⟨a, ha, rfl⟩ := refs_get hi
      obtain ⟨b, hb, hab⟩ := paired_get hbs ha
      have hbm := List.mem_of_getElem? hb
      have et := take_succ_of hb
      have hbl : b.length < 64 := by have := mem_flatten_len hbm; omega
      have hab3 := s3 _ _ hab
      refine ⟨_, rfl, a, _, rfl, .inl (SqL.of hab3), rfl, _, rfl, iteD (fun e => ?_) fun e => ?_⟩
      · have hb0 : b = [] := by
          injection e with e
          rw [List.length_map] at e
          exact List.length_eq_zero_iff.mp (by omega)
        exact no H3 s3 fun z => z.ne b hbm hb0
      have hbne : b ≠ [] := fun z => e (by rw [z]; rfl)
      refine ⟨_, rfl, _, rfl, a, b, rfl, SqL.of hab3, by omega, fun l1 hl1 => ⟨l1, b, rfl, upd_same, hbl, fun l2 ms hl2 hpw hmem _ => ?_⟩⟩
      have s4 := Same.new (o := setO P w l1 b) hl1
      have s5 := Same.new (o := .lst (iv ms)) hl2
      have s35 : Same H3 (upd (upd H3 l1 (setO P w l1 b)) l2 (.lst (iv ms))) := s4.trans s5
      refine ⟨b, ms, rd_ints (SqL.of (s35 _ _ hab3)), rd_ints (SqL.of upd_same), _, rfl, iteND (fun e2 => ?_) fun e2 => ?_⟩
      · exact no _ (s3.trans s35) fun z => e2 (rising_ext (z.rise b hbm) hpw hmem)
      have hbr : b.Pairwise (· < ·) := by rw [e2]; exact hpw
      have g1 := s35 _ _ h3f
      have g2 := s35 _ _ h3s
      have g3 := s35 _ _ hab3
      have hb0 : (iv b)[0]? = some (.int (b.headD 0)) := by
        cases b with
        | nil => exact absurd rfl hbne
        | cons y r => rfl
      have til : (bs.take i).length ≤ 1000 := by rw [List.length_take]; omega
      refine ⟨_, rfl, .inl ⟨rfl, _, SqL.of g1⟩, _, rfl, a, _, 0, _, rfl, rfl, SqL.of g3, atI_nat (j := 0) hb0, pf, _, _, rfl, rfl, g1, small1000 (by rw [List.length_map, List.length_map]; exact til), ?_⟩
      have hap : a ≠ pf := fun z => by rw [z, hpf0] at hab; cases hab
      refine ⟨_, rfl, _, rfl, ps, a, _, _, rfl, rfl, by rw [upd_ne (Ne.symm hne)]; exact g2, by rw [upd_ne hap]; exact g3, ?_, fun p6 hp6 => ?_⟩
      · rw [List.length_map, List.length_map]
        have := flat_take (bs := bs) (i + 1)
        rw [et, List.flatten_append, List.length_append] at this
        simp only [List.flatten_cons, List.flatten_nil, List.append_nil] at this
        exact line_of (by omega)
      have s56 : Same H (upd (upd (upd H3 l1 (setO P w l1 b)) l2 (.lst (iv ms))) pf (.lst (iv ((bs.take i).map fun b => b.headD 0) ++ [.int (b.headD 0)]))) := (s3.trans s35).upd hpf0
      have hp60 : H p6 = none := s56.free hp6
      have hne6 : pf ≠ p6 := ne_of_none upd_same hp6
      refine ⟨p6, _, rfl, s56.upd hp60, hp60, hne6, ?_, ?_, fun c hc => ?_⟩
      · rw [upd_ne hne6, upd_same, et]
        simp [iv]
      · rw [upd_same, et]
        simp [iv]
      · rw [et] at hc
        rcases List.mem_append.mp hc with hc | hc
        · exact hgood c hc
        · simp at hc; rw [hc]; exact ⟨hbne, hbr⟩
    · rintro σ H3 ⟨ps, v4, rfl, s3, hps0, hne, h3f, h3s, hgood⟩
      rw [List.length_map, hal, List.take_length] at h3f h3s hgood
      have hbl := len_le_flat fun b hb => (hgood b hb).1
      refine ⟨_, rfl, ps, _, rfl, SqL.of h3s, hz2, fun l2 ms hl2 hperm hsort => ?_⟩
      refine ⟨_, rfl, _, rfl, fun r hr0 => ⟨r, n.toNat, rfl, ?_, by omega, fun l3 hl3 => ?_⟩⟩
      · rw [upd_same]
        congr 2
        omega
      have s37 : Same H3 (upd (upd (upd H3 l2 (.lst (iv ms))) r (.rng 0 n)) l3 (.lst ((List.range n.toNat).map fun (i : Nat) => V.int (i : Int)))) := ((Same.new hl2).trans (Same.new hr0)).trans (Same.new hl3)
      refine ⟨ms, (List.range n.toNat).map fun (k : Nat) => (k : Int), rd_ints (SqL.of ?_), rd_ints (SqL.of ?_), _, rfl, iteD (fun e => ?_) fun e => ?_⟩
      · rw [upd_ne (ne_of_none (o := .lst (iv ms)) (by rw [upd_ne (ne_of_none upd_same hr0), upd_same]) hl3), upd_ne (ne_of_none upd_same hr0), upd_same]
      · rw [upd_same, List.map_map]
        rfl
      · have hflat : bs.flatten.Perm ((List.range n.toNat).map (fun (k : Nat) => (k : Int))) := hperm.symm.trans ((sorted_range hsort).mp e)
        have g1 := s37 _ _ h3f
        refine ⟨_, rfl, _, rfl, pf, _, rfl, SqL.of g1, by rw [List.length_map]; omega, fun l4 ms2 hl4 hp4 hs4 => ?_⟩
        refine ⟨_, ms2, rd_ints (SqL.of (Same.new hl4 _ _ g1)), rd_ints (SqL.of upd_same), q _ _ ((s3.trans s37).trans (Same.new hl4)) ?_⟩
        rw [decide_eq_true_iff, sorted_self hp4 hs4, good_iff]
        exact ⟨fun h => ⟨h0, h1, hgood, hflat, h⟩, fun h => h.2.2.2.2⟩
      · exact no _ (s3.trans s37) fun z => e ((sorted_range hsort).mpr (hperm.trans z.perm))
end
end NCP

namespace NCP
open PySem L2 NC
section
variable {P : Program} {w : World} {K : PySem.W.Frag} {mg : Str → Option Value} {base : Heap}
abbrev nOther : List Str := ["e", "wanted", "sorts"]
theorem sc_other_w : FnScope nOther ["e", "wanted"] (defScope s_law_other) := ⟨rfl, rfl, rfl, by decide +kernel, rfl, by decide +kernel, by decide +kernel⟩
def eKindW (wd : Nat) : TE := fun τ H Q => ∃ k : Nat, τ = [some (.int k), some (.int (wd : Nat))] ∧ Q (.bl (decide (V.int (k : Int) = V.int (wd : Int)))) H
theorem ok_other_w {f R C0 C1 C2 C3 C : Addr} {j : Nat} {fd : FuncData} (hj : j < 4) (B : GBlt mg) (c : ClW K mg R C0 C1 C2 C3 j C) (F : Fun K "_law_other" "_law_other" s_law_other f fd) : FnOkH P w K mg base 1 f fd ["e", "wanted"] (spOtherW C j) := by
  refine F.okH sc_other_w (fun h oe vs H Q E q => ?_) (fun cdv A outer s H vs Q h oe hr Hd q => ?_)
  · obtain ⟨wd, rfl, _⟩ := q
    rfl
  · obtain ⟨wd, rfl, hw, hc, hdd, q⟩ := q
    have nd := sc_other_w.nd
    have hu : A.units + 3 + 64 < cLine := by have := hr.un; simp only [Nat.mul_zero, Nat.add_zero] at this; exact Nat.lt_of_le_of_lt (by show A.units + 3 + 64 ≤ A.units + 3 + 200; omega) this
    refine ⟨_, pss_cons (ps_set (i := 2) nd rfl (Or.inl rfl) (pe_lst (pa_cons
        (pe_callB (call_isx Hd (c := .ref C0) hc hdd c.e rfl (fun u z => z) c.k0) (by rfl) B.isi PyProof.Rows.boot_isinstance (pa_cons (pv 0) (pa_cons (pe_glob (v := .ref C0) rfl c.n0 rfl) pa_nil))) (pa_cons
        (pe_callB (call_isx Hd (c := .ref C1) hc hdd c.e rfl (fun u z => z) c.k1) (by rfl) B.isi PyProof.Rows.boot_isinstance (pa_cons (pv 0) (pa_cons (pe_glob (v := .ref C1) rfl c.n1 rfl) pa_nil))) (pa_cons
        (pe_callB (call_isx Hd (c := .ref C2) hc hdd c.e rfl (fun u z => z) c.k2) (by rfl) B.isi PyProof.Rows.boot_isinstance (pa_cons (pv 0) (pa_cons (pe_glob (v := .ref C2) rfl c.n2 rfl) pa_nil))) (pa_cons
        (pe_callB (call_isx Hd (c := .ref C3) hc hdd c.e rfl (fun u z => z) c.k3) (by rfl) B.isi PyProof.Rows.boot_isinstance (pa_cons (pv 0) (pa_cons (pe_glob (v := .ref C3) rfl c.n3 rfl) pa_nil))) pa_nil))))))
      (pss_one (ps_ret (pe_or (pe_cmpR (op_neE enc_bool.list hu) (pv 2)
        (pe_lcompH (g := gName 0) (te := eKindW wd) Hd (cpS (N := ["k", "wanted"]) (js := [none, some 1]) (defScope s_law_other) nOther (by decide +kernel)) rfl B.range (pa_cons pe_int pa_nil)
          (by intros; exact pg_name (i := 0) nd_kw rfl (Or.inl rfl) (Or.inr rfl))
          (by
            intros
            refine (pe_cmpR op_eq (pv 0) (pv 1) (nomark _)).imp fun τ H Q h => ?_
            obtain ⟨k, rfl, q⟩ := h
            exact ⟨_, rfl, _, rfl, rfl, q⟩)) (nomark _))
        (pe_one (pe_not (pe_callB (call_isx Hd (c := .ty "ValueError") hc hdd c.e rfl (fun u z => z) c.kv) (by rfl) B.isi PyProof.Rows.boot_isinstance (pa_cons (pv 0) (pa_cons (pe_bltn (v := .ty "ValueError") rfl c.ve PyProof.Rows.Boot.«ValueError» rfl) pa_nil)))))))), ?_⟩
    refine ⟨_, rfl, rfl, _, rfl, rfl, _, rfl, rfl, _, rfl, rfl, by show 4 ≤ sizeLine; decide, fun l hl => ?_⟩
    have hl1 : (upd H l (.lst ((four j).map V.bl))) l = some (.lst ((four j).map V.bl)) := upd_same
    have s1 := Same.new (o := .lst ((four j).map V.bl)) hl
    refine ⟨_, rfl, 4, rfl, by decide, by decide, fun p hp => ?_⟩
    refine comp_fold (J := Itr 0 4) (Hs := upd H l (.lst ((four j).map V.bl))) 4 (fun k => .bl (decide (V.int (k : Int) = V.int (wd : Int)))) (fun τ => ∃ v, τ = [v, some (.int (wd : Nat))]) (Same.refl _) hp (line_of (by decide)) (fun i H2 hi _ => hi) (fun H2 _ => Nat.le_refl _) ⟨_, rfl⟩ ?_ ?_
    · rintro i τ H2 x H3 R hi ⟨v, rfl⟩ s2 ⟨rfl, rfl⟩ k
      rw [Int.zero_add]
      exact ⟨i, rfl, k _ _ ⟨_, rfl⟩ (Same.refl _)⟩
    · intro H2 s2 h2
      have e4 : (List.range 4).map (fun (k : Nat) => V.bl (decide (V.int (k : Int) = V.int (wd : Int)))) = (four wd).map V.bl := by
        have : ∀ b : Fin 4, (List.range 4).map (fun (k : Nat) => V.bl (decide (V.int (k : Int) = V.int (b.1 : Int)))) = (four b.1).map V.bl := by decide
        exact this ⟨wd, hw⟩
      rw [e4] at h2
      refine ⟨four j, four wd, rd_bools (SqL.of (s2 _ _ hl1)), rd_bools (SqL.of h2), _, rfl, ?_⟩
      have ed : decide (four j = four wd) = decide (j = wd) := by
        rw [Bool.eq_iff_iff, decide_eq_true_iff, decide_eq_true_iff]
        exact four_eq hj hw
      rw [ed]
      have q := q H2 (s1.trans s2)
      by_cases hjw : j = wd
      · rw [show (!decide (j = wd)) = false from by simp [hjw]] at q ⊢
        exact iteF ⟨_, rfl, rfl, _, rfl, q⟩
      · rw [show (!decide (j = wd)) = true from by simp [hjw]] at q ⊢
        exact iteT q
end
end NCP

namespace NCP
open PySem L2 NC PySem.Builtin PySem.Builtin.Str
section
variable {CX : CXT} {P : Program} {w : World} {K : PySem.W.Frag} {mg : Str → Option Value} {base : Heap}
theorem sc_law_text : FnScope ["blocks", "text", "block", "point"] ["blocks"] (defScope s_law_text) := ⟨rfl, rfl, rfl, by decide +kernel, rfl, by decide +kernel, by decide +kernel⟩
theorem fig_lenT : FIG.length ≤ sizeLine := by decide +kernel
theorem ok_law_text {f : Addr} {fd : FuncData} (F : Fun K "_law_text" "_law_text" s_law_text f fd) : FnOk P w K mg base CX 1 f fd ["blocks"] spText := by
  refine F.okX sc_law_text (fun vs H Q E h => ?_) (fun cdv A outer s H vs Q E hr h => ?_)
  · obtain ⟨p, wd, rfl, _⟩ := h
    rfl
  · obtain ⟨pb, wd, rfl, hL1, hz, q⟩ := h
    have nd := sc_law_text.nd
    refine ⟨_, pss_cons (ps_set (i := 1) nd rfl (Or.inl rfl) pe_str)
      (pss_cons (ps_for PassesOwn.never rfl (pi_list (pv 0)) (pg_name (i := 2) nd rfl (Or.inl rfl))
        (pss_cons (ps_cut (ps_if (pt_cmpR op_ne (pv 1) pe_str (nomark _)) (pss_one (ps_set (i := 1) nd rfl (Or.inl rfl) (pe_op op_add_str (pv 1) pe_str))) pss_nil))
        (pss_one (ps_for PassesOwn.never rfl (pi_list (pv 2)) (pg_name (i := 3) nd rfl (Or.inl rfl))
          (pss_one (ps_set (i := 1) nd rfl (Or.inl rfl) (pe_op op_add_str (pv 1) (pe_ix ix_str pe_str (pv 3) (fun _ _ => rfl)))))))))
      (pss_one (ps_ret (pv 1)))), ?_⟩
    obtain ⟨as, hpb, hbs⟩ := id hL1
    have hal := paired_len hbs
    have hgl : as.length = (gather wd).length := by rw [hal, List.length_map]
    have hbl := blocks_len wd
    rw [List.length_map] at hbl
    have hfl : (gather wd).flatten.length = wd.length := by rw [(gather_perm wd).length_eq, List.length_range]
    have htk : ∀ i, (tl ((gather wd).take i)).length ≤ 40 := fun i => by
      have h1 := tl_len ((gather wd).take i)
      have h2 : ((gather wd).take i).flatten.length ≤ (gather wd).flatten.length := by
        conv => rhs; rw [← List.take_append_drop i (gather wd), List.flatten_append, List.length_append]
        omega
      have h3 : ((gather wd).take i).length ≤ (gather wd).length := by rw [List.length_take]; omega
      omega
    refine ⟨_, rfl, pb, rfl, ⟨_, SqL.of hpb⟩, for_list (K := K) (a := pb) (xs := as.map V.ref)
      (fun i σ H3 => ∃ v4 v5, σ = [some (.ref pb), some (.str (mk (tl ((gather wd).take i)))), v4, v5] ∧ H = H3)
      ⟨none, none, rfl, rfl⟩ (fun i σ H3 _ ⟨_, _, _, e⟩ => by rw [← e]; exact SqL.of hpb) ?_ ?_⟩
    · rintro i x σ H3 hi ⟨v4, v5, rfl, rfl⟩
      obtain ⟨ai, hai, rfl⟩ := refs_get hi
      obtain ⟨b', hb', hab⟩ := paired_get hbs hai
      obtain ⟨b, hb, rfl⟩ := zb_get hb'
      have hbm := List.mem_of_getElem? hb
      have etk : (gather wd).take (i + 1) = (gather wd).take i ++ [b] := take_succ_of hb
      have hne : ∀ c ∈ (gather wd).take i, c ≠ [] := fun c hc => gather_ne (List.mem_of_mem_take hc)
      have hpt : ∀ p ∈ b, p < 10 := fun p hp => by have := gather_lt hbm hp; omega
      have hbb : b.length ≤ 10 := by
        have := block_len wd (zl b) (List.mem_of_getElem? hb')
        rw [List.length_map] at this
        omega
      refine ⟨fun σ H' => ∃ pre : List Nat, σ = [some (.ref pb), some (.str (mk pre)), some (.ref ai), v5] ∧ H = H' ∧ pre.length ≤ 41 ∧ pre ++ b.map dg = tl ((gather wd).take (i + 1)), ?_, ?_⟩
      · refine ⟨_, rfl, rfl, _, rfl, iteND (fun e => ?_) fun e => ?_⟩
        · have hi0 : (gather wd).take i ≠ [] := fun z => e (by rw [z]; rfl)
          refine ⟨_, rfl, _, _, rfl, rfl, by rw [mk_len]; exact line_of (by have := htk i; show _ + 1 ≤ 1000; omega), ?_⟩
          refine ⟨tl ((gather wd).take i) ++ [124], ?_, rfl, by have := htk i; simp; omega, ?_⟩
          · show [_, some (V.str (mk (tl ((gather wd).take i)) ++ mk [124])), _, _] = _
            rw [mk_app]
          · rw [etk, tl_snoc b hi0]
            simp
        · have hi0 : (gather wd).take i = [] := by
            rcases Classical.em ((gather wd).take i = []) with z | z
            · exact z
            · exfalso
              injection e with e
              have := congrArg (fun s => s.cps.toList) e
              simp only [mk_cps] at this
              exact tl_ne z hne this
          refine ⟨tl ((gather wd).take i), rfl, rfl, by have := htk i; omega, ?_⟩
          rw [etk, hi0]
          rfl
      rintro σ H' ⟨pre, rfl, rfl, hpl, hpe⟩
      refine ⟨_, rfl, ai, rfl, ⟨_, SqL.of hab⟩, for_list (K := K) (a := ai) (xs := iv (zl b))
        (fun k σ H3 => ∃ v5, σ = [some (.ref pb), some (.str (mk (pre ++ (b.take k).map dg))), some (.ref ai), v5] ∧ H = H3)
        ⟨v5, by simp, rfl⟩ (fun k σ H3 _ ⟨_, _, e⟩ => by rw [← e]; exact SqL.of hab) ?_ ?_⟩
      · rintro k x σ H3 hk ⟨v5, rfl, rfl⟩
        obtain ⟨pt, hpt', rfl⟩ := iv_get hk
        have h10 := hpt pt (List.mem_of_getElem? hpt')
        refine ⟨_, rfl, _, rfl, FIG, _, dg pt, rfl, rfl, fig_lenT, fig_at pt h10, _, _, rfl, rfl, ?_, ?_⟩
        · rw [mk_len]
          show (pre ++ (b.take k).map dg).length + 1 ≤ sizeLine
          exact line_of (by simp; omega)
        · refine ⟨some (.int (pt : Nat)), ?_, rfl⟩
          show [_, some (V.str (mk (pre ++ (b.take k).map dg) ++ mk [dg pt])), _, _] = _
          rw [mk_app, take_succ_of hpt']
          simp
      · rintro σ H3 ⟨v5, rfl, rfl⟩
        rw [List.length_map, List.length_map, List.take_length, hpe]
        exact ⟨_, _, rfl, rfl⟩
    rintro σ H3 ⟨v4, v5, rfl, rfl⟩
    rw [List.length_map, hgl, List.take_length]
    exact ⟨_, rfl, q⟩
end
end NCP

namespace NCP
open PySem L2 NC PySem.Builtin PySem.Builtin.Str
section
variable {CX : CXT} {P : Program} {w : World} {K : PySem.W.Frag} {mg : Str → Option Value} {base : Heap}
theorem sc_law_due : FnScope ["text", "blocks", "points", "sign"] ["text"] (defScope s_law_due) := ⟨rfl, rfl, rfl, by decide +kernel, rfl, by decide +kernel, by decide +kernel⟩
theorem neg1_ix {n : Nat} (h : 0 < n) : ixN n (-1) = some (n - 1) := by
  unfold ixN
  rw [if_neg (by omega), if_pos (by omega)]
  congr 1
  omega
theorem ok_law_due {f fG : Addr} {fd fdG : FuncData} (hX : CxNo CX) (F : Fun K "_law_due" "_law_due" s_law_due f fd)
    (DG : Dn K mg "_law_good" s_law_good ["points", "blocks"] fG fdG) (GG : FnOk P w K mg base CX 1 fG fdG ["points", "blocks"] spGood) : FnOk P w K mg base CX 2 f fd ["text"] spDue := by
  refine F.okX sc_law_due (fun vs H Q E h => ?_) (fun cdv A outer s H vs Q E hr h => ?_)
  · obtain ⟨x, rfl, _⟩ := h
    rfl
  · obtain ⟨x, rfl, hx, hz, q1, q2⟩ := h
    have nd := sc_law_due.nd
    refine ⟨_, pss_cons (ps_set (i := 1) nd rfl (Or.inl rfl) (pe_lst pa_nil))
      (pss_cons (ps_set (i := 2) nd rfl (Or.inl rfl) pe_int)
      (pss_cons (ps_cut (ps_if (pt_cmpR op_ne (pv 0) pe_str (nomark _)) (pss_one (ps_set (i := 1) nd rfl (Or.inl rfl) (pe_lst (pa_cons (pe_lst pa_nil) pa_nil)))) pss_nil))
      (pss_cons (ps_for PassesOwn.never rfl (pi_str (pv 0)) (pg_name (i := 3) nd rfl (Or.inl rfl))
        (pss_one (ps_if (pt_cmpR op_eq (pv 3) pe_str (nomark _))
          (pss_one (ps_expr (pe_bm PySem.F.plainAttrs_list PySem.F.slot_list_append PySem.F.type_list_append mt_append (pv 1) (pa_cons (pe_lst pa_nil) pa_nil))))
          (pss_one (ps_if (pt_cmpR op_in_str (pv 3) pe_str (by with_unfolding_all rfl))
            (pss_cons (ps_expr (pe_bm PySem.F.plainAttrs_list PySem.F.slot_list_append PySem.F.type_list_append mt_append (pe_ix ix_list (pv 1) (pe_un un_neg pe_int) (fun _ _ => rfl))
              (pa_cons (pe_bm PySem.F.plainAttrs_str PySem.F.slot_str_index PySem.F.type_str_index mt_indexS pe_str (pa_cons (pv 3) pa_nil)) pa_nil)))
            (pss_one (ps_set (i := 2) nd rfl (Or.inl rfl) (pe_op op_add (pv 2) pe_int))))
            (pss_one (ps_ret pe_non)))))))
      (pss_cons (ps_if (pt_not (pt_val (pe_call GG hr rfl DG.at_ DG.fn.kp DG.bd .nil (passN hX) (pa_cons (pv 2) (pa_cons (pv 1) pa_nil))))) (pss_one (ps_ret pe_non)) pss_nil)
      (pss_one (ps_ret (pe_tup (pa_cons (pv 2) (pa_cons (pv 1) pa_nil))))))))), ?_⟩
    refine ⟨Nat.zero_le _, fun p0 hp0 => ?_⟩
    have s0 := Same.new (o := .lst []) hp0
    refine ⟨fun σ H' => ∃ pb : Addr, σ = [some (.str (mk x)), some (.ref pb), some (.int 0), none] ∧ Same H H' ∧ H pb = none ∧ ((x = [] ∧ H' pb = some (.lst [])) ∨ (x ≠ [] ∧ ∃ as : List Addr, H' pb = some (.lst (as.map V.ref)) ∧ Paired (fun a b => H a = none ∧ H' a = some (.lst (iv b))) as (rds []) ∧ as.Nodup ∧ pb ∉ as)), ?_, ?_⟩
    · refine ⟨_, rfl, rfl, _, rfl, iteND (fun e => ?_) fun e => ?_⟩
      · have hne : x ≠ [] := fun z => e (by rw [z]; rfl)
        refine ⟨Nat.zero_le _, fun l1 hl1 => ⟨by show 1 ≤ sizeLine; decide, fun l2 hl2 => ?_⟩⟩
        have t1 := Same.new (o := .lst []) hl1
        have t2 := Same.new (o := .lst [.ref l1]) hl2
        have n1 : H l1 = none := s0.free hl1
        have n2 : H l2 = none := (s0.trans t1).free hl2
        have ne : l2 ≠ l1 := Ne.symm (ne_of_none upd_same hl2)
        exact ⟨l2, rfl, (s0.trans t1).trans t2, n2, .inr ⟨hne, [l1], upd_same, .cons ⟨n1, t2 _ _ upd_same⟩ .nil, by simp, by simp [ne]⟩⟩
      · have e0 : x = [] := by
          injection e with e
          have := congrArg (fun s => s.cps.toList) e
          simp only [mk_cps] at this
          exact this
        exact ⟨p0, rfl, s0, hp0, .inl ⟨e0, upd_same⟩⟩
    rintro σ H1 ⟨pb, rfl, s1, npb, hcase⟩
    have hsz : (mk x).cps.size = x.length := by simp
    refine ⟨_, rfl, mk x, rfl, asc_mk hx, ?_⟩
    rcases hcase with ⟨rfl, h1⟩ | ⟨hne, as, h1, h2, h3, h4⟩
    · -- the empty text
      refine for_str (fun i σ H2 => i = 0 ∧ σ = [some (.str (mk [])), some (.ref pb), some (.int 0), none] ∧ H1 = H2) ⟨rfl, rfl, rfl⟩ ?_ ?_
      · rintro i c σ H2 hc ⟨rfl, rfl, rfl⟩
        simp at hc
      · rintro σ H2 ⟨_, rfl, rfl⟩
        have hLL : LL H1 pb [] := ⟨[], h1, .nil⟩
        have hP : PX [] := by
          have := parting_gather (w := ([] : List Nat)) (by simp)
          exact this
        refine ⟨_, rfl, _, rfl, 0, pb, [], rfl, hLL, by simp, by simp, fun b H3 s3 hb => ⟨b, rfl, ?_⟩⟩
        rw [hb.mpr hP]
        refine iteF ⟨_, rfl, _, rfl, by show 2 ≤ sizeLine; decide, fun t ht => ?_⟩
        exact q1 hP t pb _ (((s1.trans s3)).trans (Same.new ht)) ((hLL.mono s3).mono (Same.new ht)) upd_same
    · refine for_str (fun i σ H2 => ∃ (as : List Addr) (v3 : Option V), σ = [some (.str (mk x)), some (.ref pb), some (.int ((rds (x.take i)).flatten.length : Nat)), v3] ∧ Same H H2 ∧ (∀ c ∈ x.take i, c = 124 ∨ (48 ≤ c ∧ c < 58)) ∧ H2 pb = some (.lst (as.map V.ref)) ∧ Paired (fun a b => H a = none ∧ H2 a = some (.lst (iv b))) as (rds (x.take i)) ∧ as.Nodup ∧ pb ∉ as)
        ⟨as, none, rfl, s1, by simp, h1, by simpa using h2, h3, h4⟩ ?_ ?_
      · rintro i c σ H2 hc ⟨as, v3, rfl, s2, hok, h1, h2, h3, h4⟩
        have hc' : x[i]? = some c := by simpa using hc
        have hcm : c ∈ x := List.mem_of_getElem? hc'
        have hil := (List.getElem?_eq_some_iff.mp hc').1
        have etk := take_succ_of hc'
        have hc128 := hx c hcm
        have hrl := rds_len (x.take i)
        rw [List.length_take] at hrl
        have hal := paired_len h2
        have hrpos : 0 < (rds (x.take i)).length := by unfold rds; rw [List.length_map]; exact List.length_pos_iff.mpr (spl_ne _)
        refine ⟨_, rfl, rfl, _, rfl, iteD (fun e => ?_) fun e => ?_⟩
        · -- a stroke
          have hcb : c = 124 := by
            injection e with e
            have := congrArg (fun s => s.cps.toList) e
            have this : [c] = [124] := this
            injection this
          subst hcb
          refine ⟨_, rfl, .inl ⟨rfl, _, SqL.of h1⟩, Nat.zero_le _, fun l hl => ?_⟩
          have t1 := Same.new (o := .lst []) hl
          have nl : H l = none := s2.free hl
          have nlp : l ≠ pb := Ne.symm (ne_of_none h1 hl)
          refine ⟨pb, _, _, rfl, rfl, t1 _ _ h1, small1000 (by rw [List.length_map]; omega), ?_⟩
          refine ⟨as ++ [l], some (.str (mk [124])), ?_, (s2.trans t1).upd npb, ?_, ?_, ?_, ?_, ?_⟩
          · rw [etk, rds_bar_flat]
            rfl
          · intro d hd
            rw [etk] at hd
            rcases List.mem_append.mp hd with hd | hd
            · exact hok d hd
            · exact .inl (List.mem_singleton.mp hd)
          · rw [upd_same, List.map_append]; rfl
          · rw [etk, rds_bar]
            refine paired_snoc (paired_mem (fun a b ha e => ⟨e.1, ?_⟩) h2) ⟨nl, ?_⟩
            · rw [upd_ne (fun (z : a = pb) => h4 (z ▸ ha))]
              exact t1 _ _ e.2
            · rw [upd_ne nlp, upd_same]
              rfl
          · refine List.nodup_append.mpr ⟨h3, by simp, fun a ha b hb z => ?_⟩
            rw [List.mem_singleton] at hb
            subst hb
            subst z
            obtain ⟨k, hk, ek⟩ := List.mem_iff_getElem.mp ha
            obtain ⟨c, _, hc⟩ := paired_get h2 (i := k) (a := a) (by rw [List.getElem?_eq_getElem hk, ek])
            rw [hl] at hc
            cases hc.2
          · intro z
            rcases List.mem_append.mp z with z | z
            · exact h4 z
            · exact nlp (List.mem_singleton.mp z).symm
        have hcb : c ≠ 124 := fun z => e (by rw [z]; rfl)
        refine ⟨_, rfl, _, _, rfl, rfl, _, rfl, ?_⟩
        show if (!(occurrences FIG (mk [c]) 0 FIG.length 1).isEmpty) = true then _ else _
        rw [show (!(occurrences FIG (mk [c]) 0 FIG.length 1).isEmpty) = decide (48 ≤ c ∧ c < 58) from fig_in c hc128]
        refine iteD (fun hf => ?_) fun hf => q2 (bad_sign hcm hcb hf) H2 s2
        -- a figure
        have hla : (as.length - 1) < as.length := by omega
        obtain ⟨al, hal'⟩ : ∃ al, as[as.length - 1]? = some al := ⟨_, List.getElem?_eq_getElem hla⟩
        obtain ⟨b, hb, hab⟩ := paired_get h2 hal'
        have hbm := List.mem_of_getElem? hb
        have hat : atI (as.map V.ref) (-1) = some (.ref al) := by
          unfold atI
          rw [List.length_map, neg1_ix (by omega)]
          show (as.map V.ref)[as.length - 1]? = _
          rw [List.getElem?_map, hal']
          rfl
        have hapb : al ≠ pb := fun z => h4 (z ▸ List.mem_of_getElem? hal')
        have hbl : b.length ≤ 100 := by have := mem_flatten_len hbm; omega
        refine ⟨_, rfl, _, rfl, pb, _, _, _, rfl, rfl, SqL.of h1, hat, .inl ⟨rfl, _, SqL.of hab.2⟩, rfl, _, rfl, FIG, mk [c], _, _, rfl, rfl, fig_occ c hf.1 hf.2, al, _, _, rfl, rfl, hab.2, small1000 (by rw [List.length_map]; omega), ?_⟩
        refine ⟨_, rfl, _, _, rfl, rfl, ?_⟩
        have efd : ((c - 48 : Nat) : Int) = NC.fd c := by
          unfold NC.fd
          rw [if_pos hf]
          omega
        have egd : (rds (x.take i)).getD ((rds (x.take i)).length - 1) [] = b := by
          rw [List.getD_eq_getElem?_getD, ← hal, hb]
          rfl
        refine ⟨as, some (.str (mk [c])), ?_, s2.upd hab.1, ?_, ?_, ?_, h3, h4⟩
        · show [_, _, some (V.int (((rds (x.take i)).flatten.length : Int) + 1)), _] = _
          rw [etk, rds_snoc_flat _ hcb]
          rfl
        · intro d hd
          rw [etk] at hd
          rcases List.mem_append.mp hd with hd | hd
          · exact hok d hd
          · exact .inr (by rw [List.mem_singleton.mp hd]; exact hf)
        · rw [upd_ne (Ne.symm hapb)]
          exact h1
        · rw [etk, rds_snoc _ hcb, egd, ← hal]
          refine paired_set h2 h3 hal' (fun a b hn e => ⟨e.1, by rw [upd_ne hn]; exact e.2⟩) ⟨hab.1, ?_⟩
          rw [upd_same, efd]
          simp [iv]
      · rintro σ H2 ⟨as, v3, rfl, s2, hok, h1, h2, h3, h4⟩
        have htk : x.take (mk x).cps.size = x := by rw [hsz]; exact List.take_length
        rw [htk] at h2 hok ⊢
        rw [rds_rd hne] at h2 ⊢
        have hLL : LL H2 pb (rd x) := ⟨as, h1, paired_imp (fun a b e => e.2) h2⟩
        obtain ⟨r1, r2⟩ := rd_len x
        refine ⟨_, rfl, _, rfl, _, pb, rd x, rfl, hLL, by omega, by omega, fun b H3 s3 hb => ⟨b, rfl, ?_⟩⟩
        by_cases hP : PX x
        · rw [hb.mpr hP]
          refine iteF ⟨_, rfl, _, rfl, by show 2 ≤ sizeLine; decide, fun t ht => ?_⟩
          exact q1 hP t pb _ ((s2.trans s3).trans (Same.new ht)) ((hLL.mono s3).mono (Same.new ht)) upd_same
        · have e : b = false := by
            cases b with
            | false => rfl
            | true => exact absurd (hb.mp rfl) hP
          subst e
          exact iteT (q2 hP H3 (s2.trans s3))
end
end NCP

namespace NCP
open PySem L2 NC PySem.Builtin PySem.Builtin.Str
section
variable {CX : CXT} {P : Program} {w : World} {K : PySem.W.Frag} {mg : Str → Option Value} {base : Heap}
theorem sc_law_sign : FnScope ["cell", "some"] ["cell"] (defScope s_law_sign) := ⟨rfl, rfl, rfl, by decide +kernel, rfl, by decide +kernel, by decide +kernel⟩
theorem ok_law_sign {f : Addr} {fd : FuncData} (F : Fun K "_law_sign" "_law_sign" s_law_sign f fd) : FnOk P w K mg base CX 1 f fd ["cell"] spSign := by
  refine F.okX sc_law_sign (fun vs H Q E h => ?_) (fun cdv A outer s H vs Q E hr h => ?_)
  · obtain ⟨i, rfl, _⟩ := h
    rfl
  · obtain ⟨i, rfl, q⟩ := h
    have nd := sc_law_sign.nd
    refine ⟨_, pss_cons (ps_if (pt_cmpR op_eq (pe_op op_mod (pv 0) pe_int) pe_int (nomark _)) (pss_one (ps_ret (pe_ix ix_str pe_str (pe_op op_mod (pe_op op_fdiv (pv 0) pe_int) pe_int) (fun _ _ => rfl)))) pss_nil)
      (pss_cons (ps_set (i := 1) nd rfl (Or.inl rfl) pe_str)
      (pss_cons (ps_set (i := 1) nd rfl (Or.inl rfl) (pe_op op_add_str (pv 1) pe_str))
      (pss_one (ps_ret (pe_ix ix_str (pv 1) (pe_op op_mod (pe_op op_fdiv (pv 0) pe_int) pe_int) (fun _ _ => rfl)))))), ?_⟩
    refine ⟨_, rfl, _, _, rfl, rfl, (by show (0 : Int) < 2; decide), rfl, _, rfl, iteD (fun _ => ?_) fun _ => ?_⟩
    · obtain ⟨k, hk, hkl⟩ := natMod (i / 2) 11 (by decide)
      have hc : ∃ c : Nat, c < 128 ∧ atI ("0123456789|" : Str).cps.toList (k : Int) = some c := by
        have : ∀ k : Fin 11, ∃ c : Fin 128, atI ("0123456789|" : Str).cps.toList (k.1 : Int) = some c.1 := by decide +kernel
        obtain ⟨c, e⟩ := this ⟨k, hkl⟩
        exact ⟨c.1, c.2, e⟩
      obtain ⟨c, hc1, hc2⟩ := hc
      refine ⟨_, rfl, _, _, rfl, rfl, ⟨by decide, by decide⟩, _, _, rfl, rfl, (by show (0 : Int) < 11; decide), _, _, c, rfl, rfl, by decide +kernel, by rw [show i / 2 % 11 = (k : Int) from hk]; exact hc2, ?_⟩
      exact q c hc1
    · obtain ⟨k, hk, hkl⟩ := natMod (i / 2) 95 (by decide)
      refine ⟨_, rfl, _, _, rfl, rfl, by decide +kernel, ?_⟩
      refine ⟨_, rfl, _, rfl, _, _, rfl, rfl, ⟨by decide, by decide⟩, _, _, rfl, rfl, (by show (0 : Int) < 95; decide), ?_⟩
      have hc : ∃ c : Nat, c < 128 ∧ atI ((" !\"#$&'()*+,-./0123456789:;<=>?@ABCDEFGHIJKLMNOPQRSTUVWXYZ[\\]^_`" : Str) ++ ("abcdefghijklmnopqrstuvwxyz{|}~\n" : Str)).cps.toList (k : Int) = some c := by
        have : ∀ k : Fin 95, ∃ c : Fin 128, atI ((" !\"#$&'()*+,-./0123456789:;<=>?@ABCDEFGHIJKLMNOPQRSTUVWXYZ[\\]^_`" : Str) ++ ("abcdefghijklmnopqrstuvwxyz{|}~\n" : Str)).cps.toList (k.1 : Int) = some c.1 := by decide +kernel
        obtain ⟨c, e⟩ := this ⟨k, hkl⟩
        exact ⟨c.1, c.2, e⟩
      obtain ⟨c, hc1, hc2⟩ := hc
      refine ⟨_, _, c, rfl, rfl, by decide +kernel, by rw [show i / 2 % 95 = (k : Int) from hk]; exact hc2, ?_⟩
      exact q c hc1
end
end NCP

namespace NCP
open PySem L2 NC PySem.Builtin PySem.Builtin.Str
section
variable {CX : CXT} {P : Program} {w : World} {K : PySem.W.Frag} {mg : Str → Option Value} {base : Heap}
theorem sc_law_odd : FnScope ["cell", "some"] ["cell"] (defScope s_law_odd) := ⟨rfl, rfl, rfl, by decide +kernel, rfl, by decide +kernel, by decide +kernel⟩
def strOf : Expr → Option Str
  | .Constant (.str s) _ _ => some s
  | _ => none
theorem pa_told {X : Cx} : ∀ {es : List Expr}, es.all (fun e => (strOf e).isSome) = true → PA X es (fun _ H Q => Q ((es.filterMap strOf).map V.str) H)
  | [], _ => pa_nil
  | e :: es, h => by
    simp only [List.all_cons, Bool.and_eq_true] at h
    obtain ⟨h1, h2⟩ := h
    cases e with
    | Constant c j pos =>
      cases c with
      | str s =>
        intro pos' pins st σ H Q I h
        exact pa_cons (pe_str (x := s) (j := j) (pos := pos)) (pa_told h2) rfl pos' pins st σ H Q I h
      | _ => simp [strOf] at h1
    | _ => simp [strOf] at h1
theorem ok_law_odd {f : Addr} {fd : FuncData} (B : GBlt mg) (F : Fun K "_law_odd" "_law_odd" s_law_odd f fd) : FnOk P w K mg base CX 1 f fd ["cell"] spOdd := by
  refine F.okX sc_law_odd (fun vs H Q E h => ?_) (fun cdv A outer s H vs Q E hr h => ?_)
  · obtain ⟨i, rfl, _⟩ := h
    rfl
  · obtain ⟨i, rfl, q⟩ := h
    have nd := sc_law_odd.nd
    refine ⟨_, @pss_cons _ _ _ _ _ (@ps_set _ _ 1 _ _ _ _ nd rfl (Or.inl rfl) (@pe_lst _ _ _ _ (@pa_told _ _ (Eq.refl true))) (Eq.refl _) (Or.inl (Eq.refl _)))
      (@pss_cons _ _ _ _ _ (@ps_set _ _ 1 _ _ _ _ nd rfl (Or.inl rfl) (@pe_op _ _ _ _ _ _ _ _ op_cat (pv 1) (@pe_lst _ _ _ _ (@pa_told _ _ (Eq.refl true)))) (Eq.refl _) (Or.inl (Eq.refl _)))
      (pss_one (ps_ret (pe_ix ix_list (pv 1) (pe_op op_mod (pv 0) (pe_callB call_len_seq (by rfl) B.len PySem.boot_len (pa_cons (pv 1) pa_nil))) (fun _ _ => rfl))))), ?_⟩
    refine ⟨by show 16 ≤ sizeLine; decide, fun l1 hl1 => ?_⟩
    refine ⟨_, rfl, by show 7 ≤ sizeLine; decide, fun l2 hl2 => ?_⟩
    refine ⟨l1, l2, _, _, rfl, rfl, Same.new hl2 _ _ upd_same, upd_same, by show 16 + 7 ≤ sizeLine; decide, fun l3 hl3 => ?_⟩
    generalize hL : (_ ++ _ : List V) = L
    have hall : L.all okV = true := by rw [← hL]; decide +kernel
    have hlen : L.length = 23 := by rw [← hL]; rfl
    clear hL
    have t3 := ((Same.new hl1).trans (Same.new hl2)).trans (Same.new (o := .lst L) hl3)
    obtain ⟨k, hk, hkl⟩ := natMod i 23 (by decide)
    obtain ⟨x, hx1, hx2, hx3⟩ := okV_at hall (k := k) (by omega)
    refine ⟨_, rfl, _, rfl, _, rfl, l3, _, rfl, .inl (SqL.of upd_same), _, _, rfl, rfl, by rw [hlen]; show (0 : Int) < 23; decide, l3, L, _, .str (mk x), rfl, rfl, SqL.of upd_same, ?_, ?_⟩
    · rw [hlen]
      show atI L (i % 23) = _
      rw [show i % 23 = (k : Int) from hk]
      exact hx1
    · exact q x _ hx2 hx3 t3
end
end NCP

namespace NCP
open PySem L2 NC PySem.Builtin PySem.Builtin.Str
section
variable {P : Program} {w : World} {K : PySem.W.Frag} {mg : Str → Option Value} {base : Heap}
theorem sc_told : FnScope ["text", "e"] ["text"] (defScope s_law_told) := ⟨rfl, rfl, rfl, by decide +kernel, rfl, by decide +kernel, by decide +kernel⟩
theorem ok_told {f fR fO R C0 C1 C2 C3 : Addr} {fd fdR fdO : FuncData} (c : ClW K mg R C0 C1 C2 C3 3 C3) (B : GBlt mg) (F : Fun K "_law_told" "_law_told" s_law_told f fd)
    (DR : Dn K mg "read" s_read ["text"] fR fdR) (GR : FnOk P w K mg base (CXe P w) 3 fR fdR ["text"] spRead) (GRE : FnOk P w K mg base (CXe P w) 3 fR fdR ["text"] (spReadE C3))
    (DO : Dn K mg "_law_other" s_law_other ["e", "wanted"] fO fdO) (GO : FnOkH P w K mg base 1 fO fdO ["e", "wanted"] (spOtherW C3 3)) : FnOk P w K mg base (CXe P w) 4 f fd ["text"] spTold := by
  refine F.okE sc_told (fun vs H Q E h => ?_) (fun cdv A outer s H vs Q E hr h => ?_)
  · obtain ⟨x, rfl, _⟩ := h
    rfl
  · obtain ⟨x, rfl, hx, hz, q1, q2⟩ := h
    have hr1 := (hr.mono (show 1 ≤ 3 by decide)).h
    by_cases hP : PX x
    · refine ⟨_, pss_one (ps_try (R := fun _ _ _ => False) (CR := R) (j := 1) (th := fun _ _ => tNever) rfl rfl
        (fun pn xe hx => pss_one (ps_ret (pe_tup (pa_cons pe_int (pa_cons (pe_call GR hr rfl DR.at_ DR.fn.kp DR.bd .nil (passN cxNoE) (pa_cons (pv 0) pa_nil)) pa_nil)))))
        (fun pn ea oe Hd => pss_never)
        (fun cls dct H' h => h.elim) c.rt c.rc c.rx rfl c.r sc_told.nd rfl rfl), ?_⟩
      refine ⟨?_, fun cls dct H' ea oe h => h.elim⟩
      refine ⟨_, rfl, x, rfl, hx, hz, hP, fun t p H1 H2 N1 s2 ht hT => ⟨by show 2 ≤ sizeLine; decide, fun r hr => ?_⟩⟩
      have s3 := Same.new (o := .tup [.int 0, .ref t]) hr
      exact q1 hP r t p _ ((N1.same.trans s2).trans s3) ((N1.ll.mono s2).mono s3) (s3 _ _ hT) upd_same
    · refine ⟨_, pss_one (ps_try (R := fun cls dct H' => cls = .ref C3 ∧ dct = none ∧ Same H H') (CR := R) (j := 1) rfl rfl
        (fun pn xe hx => pss_one (ps_ret (pe_tup (pa_cons pe_int (pa_cons (pe_call GRE hr rfl DR.at_ DR.fn.kp DR.bd .nil hx (pa_cons (pv 0) pa_nil)) pa_nil)))))
        (fun pn ea oe Hd => pss_one (ps_ret (pe_tup (pa_cons (pe_op op_add pe_int (pe_callTy call_int1 (by rfl) B.int PyProof.Rows.boot_int (pa_cons (pe_callH Hd GO ⟨hr1.dp, hr1.un⟩ rfl DO.at_ DO.fn.kp DO.bd (pa_cons (pv 1) (pa_cons pe_int pa_nil))) pa_nil))) (pa_cons pe_non pa_nil)))))
        (fun cls dct H' h => ⟨C3, h.1, c.s⟩) c.rt c.rc c.rx rfl c.r sc_told.nd rfl rfl), ?_⟩
      refine ⟨⟨_, rfl, x, rfl, hx, hz, hP, fun H' s' => ⟨rfl, rfl, s'⟩⟩, ?_⟩
      rintro cls dct H' ea oe ⟨rfl, rfl, s'⟩ hn hc hd
      refine ⟨_, rfl, 3, rfl, by decide, hc, hd, fun H2 s2 => .inr ⟨_, rfl, _, _, rfl, rfl, by show 2 ≤ sizeLine; decide, fun r hr => ?_⟩⟩
      exact q2 hP r _ ((s'.trans s2).trans (Same.new hr)) upd_same
end
end NCP

namespace NCP
open PySem L2 NC PySem.Builtin PySem.Builtin.Str
section
variable {P : Program} {w : World} {K : PySem.W.Frag} {mg : Str → Option Value} {base : Heap}
abbrev nLaw : List Str := ["script", "points", "blocks", "text", "way", "at", "sign", "due", "found"]
theorem sc_law : FnScope nLaw ["script"] (defScope s_law) := ⟨rfl, rfl, rfl, by decide +kernel, rfl, by decide +kernel, by decide +kernel⟩
theorem ok_law {f fC fF fA fT fS fN fO fD fU : Addr} {fd fdC fdF fdA fdT fdS fdN fdO fdD fdU : FuncData} (B : GBlt mg) (F : Fun K "law" "law" s_law f fd)
    (DC : Dn K mg "_law_cell_at" s_law_cell_at ["script", "k"] fC fdC) (GC : FnOk P w K mg base (CXe P w) 1 fC fdC ["script", "k"] (spCell K))
    (DF : Dn K mg "_law_free_by" s_law_free_by ["script", "at", "points"] fF fdF) (GF : FnOk P w K mg base (CXe P w) 2 fF fdF ["script", "at", "points"] (spFreeBy K))
    (DA : Dn K mg "_law_any_by" s_law_any_by ["script", "at", "points"] fA fdA) (GA : FnOk P w K mg base (CXe P w) 2 fA fdA ["script", "at", "points"] (spAnyBy K))
    (DT : Dn K mg "_law_text" s_law_text ["blocks"] fT fdT) (GT : FnOk P w K mg base (CXe P w) 1 fT fdT ["blocks"] spText)
    (DS : Dn K mg "_law_sign" s_law_sign ["cell"] fS fdS) (GS : FnOk P w K mg base (CXe P w) 1 fS fdS ["cell"] spSign)
    (DN : Dn K mg "_law_next" s_law_next ["seed"] fN fdN) (GN : FnOk P w K mg base (CXe P w) 1 fN fdN ["seed"] spNext)
    (DO : Dn K mg "_law_odd" s_law_odd ["cell"] fO fdO) (GO : FnOk P w K mg base (CXe P w) 1 fO fdO ["cell"] spOdd)
    (DD : Dn K mg "_law_due" s_law_due ["text"] fD fdD) (GD : FnOk P w K mg base (CXe P w) 2 fD fdD ["text"] spDue)
    (DU : Dn K mg "_law_told" s_law_told ["text"] fU fdU) (GU : FnOk P w K mg base (CXe P w) 4 fU fdU ["text"] spTold) : FnOk P w K mg base (CXe P w) 6 f fd ["script"] (spLaw K) := by
  have hX : CxNo (CXe P w) := cxNoE
  refine F.okX sc_law (fun vs H Q E h => ?_) (fun cdv A outer s H vs Q E hr h => ?_)
  · obtain ⟨a, ns, rfl, _⟩ := h
    rfl
  · obtain ⟨a, ns, rfl, hS, hlen, q⟩ := h
    have nd := sc_law.nd
    have hr1 := hr.mono (show 1 ≤ 5 by decide)
    have hr2 := hr.mono (show 2 ≤ 5 by decide)
    have hr4 := hr.mono (show 4 ≤ 5 by decide)
    refine ⟨_, pss_cons (ps_set (i := 1) nd rfl (Or.inl rfl) (pe_op op_mod (pe_call GC hr1 rfl DC.at_ DC.fn.kp DC.bd .nil (passN hX) (pa_cons (pv 0) (pa_cons pe_int pa_nil))) pe_int))
      (pss_cons (ps_set (i := 2) nd rfl (Or.inl rfl) (pe_call GF hr2 rfl DF.at_ DF.fn.kp DF.bd .nil (passN hX) (pa_cons (pv 0) (pa_cons pe_int (pa_cons (pv 1) pa_nil)))))
      (pss_cons (ps_cut (ps_if (pt_cmpR op_eq (pe_op op_mod (pe_call GC hr1 rfl DC.at_ DC.fn.kp DC.bd .nil (passN hX) (pa_cons (pv 0) (pa_cons pe_int pa_nil))) pe_int) pe_int (nomark _))
        (pss_one (ps_set (i := 2) nd rfl (Or.inl rfl) (pe_call GA hr2 rfl DA.at_ DA.fn.kp DA.bd .nil (passN hX) (pa_cons (pv 0) (pa_cons pe_int (pa_cons (pv 1) pa_nil)))))) pss_nil))
      (pss_cons (ps_set (i := 3) nd rfl (Or.inl rfl) (pe_call GT hr1 rfl DT.at_ DT.fn.kp DT.bd .nil (passN hX) (pa_cons (pv 2) pa_nil)))
      (pss_cons (ps_set (i := 4) nd rfl (Or.inl rfl) (pe_op op_mod (pe_call GC hr1 rfl DC.at_ DC.fn.kp DC.bd .nil (passN hX) (pa_cons (pv 0) (pa_cons pe_int pa_nil))) pe_int))
      (pss_cons (ps_set (i := 5) nd rfl (Or.inl rfl) (pe_op op_mod (pe_call GC hr1 rfl DC.at_ DC.fn.kp DC.bd .nil (passN hX) (pa_cons (pv 0) (pa_cons pe_int pa_nil))) (pe_op op_add (pe_callB call_len_str (by rfl) B.len PySem.boot_len (pa_cons (pv 3) pa_nil)) pe_int)))
      (pss_cons (ps_cut (ps_if (pt_cmpR op_gt (pv 4) pe_int (nomark _))
        (pss_cons (ps_set (i := 6) nd rfl (Or.inl rfl) (pe_call GS hr1 rfl DS.at_ DS.fn.kp DS.bd .nil (passN hX) (pa_cons (pe_call GN hr1 rfl DN.at_ DN.fn.kp DN.bd .nil (passN hX) (pa_cons (pe_call GC hr1 rfl DC.at_ DC.fn.kp DC.bd .nil (passN hX) (pa_cons (pv 0) (pa_cons pe_int pa_nil))) pa_nil)) pa_nil)))
        (pss_one (ps_set (i := 3) nd rfl (Or.inl rfl) (pe_op op_add_str (pe_op op_add_str (pe_slice sl_str (pv 3) po_none (po_some (pv 5))) (pe_ifExp (pt_cmpR op_gt (pv 4) pe_int (nomark _)) (pv 6) pe_str))
          (pe_slice sl_str (pv 3) (po_some (pe_op op_add (pv 5) (pe_callTy call_int1 (by rfl) B.int PyProof.Rows.boot_int (pa_cons (pe_cmpR op_lt (pv 4) pe_int (nomark _)) pa_nil)))) po_none))))) pss_nil))
      (pss_cons (ps_cut (ps_if (pt_cmpR op_eq (pe_op op_mod (pe_call GC hr1 rfl DC.at_ DC.fn.kp DC.bd .nil (passN hX) (pa_cons (pv 0) (pa_cons pe_int pa_nil))) pe_int) pe_int (nomark _))
        (pss_one (ps_set (i := 3) nd rfl (Or.inl rfl) (pe_call GO hr1 rfl DO.at_ DO.fn.kp DO.bd .nil (passN hX) (pa_cons (pe_op op_fdiv (pe_call GC hr1 rfl DC.at_ DC.fn.kp DC.bd .nil (passN hX) (pa_cons (pv 0) (pa_cons pe_int pa_nil))) pe_int) pa_nil)))) pss_nil))
      (pss_cons (ps_set (i := 7) nd rfl (Or.inl rfl) (pe_call GD hr2 rfl DD.at_ DD.fn.kp DD.bd .nil (passN hX) (pa_cons (pv 3) pa_nil)))
      (pss_cons (ps_set (i := 8) nd rfl (Or.inl rfl) (pe_call GU hr4 rfl DU.at_ DU.fn.kp DU.bd .nil (passN hX) (pa_cons (pv 3) pa_nil)))
      (pss_cons (ps_if (pt_cmpR op_isN (pv 7) pe_non (nomark _)) (pss_one (ps_ret (pe_cmpR op_eq (pe_ix ix_tup (pv 8) pe_int (fun _ _ => rfl)) pe_int (nomark _)))) pss_nil)
      (pss_one (ps_ret (pe_and (pe_cmpR op_eq (pe_ix ix_tup (pv 8) pe_int (fun _ _ => rfl)) pe_int (nomark _))
        (pe_and (pe_callB (call_isi (T := "tuple")) (by rfl) B.isi PyProof.Rows.boot_isinstance (pa_cons (pe_ix ix_tup (pv 8) pe_int (fun _ _ => rfl)) (pa_cons (pe_bltn (v := .ty "tuple") (by rfl) B.tuple PyProof.Rows.boot_tuple rfl) pa_nil)))
        (pe_one (pe_cmpR (op_eqD hr.units) (pe_ix ix_tup (pv 8) pe_int (fun _ _ => rfl)) (pv 7) (nomark _))))))))))))))))), ?_⟩
    -- points
    refine ⟨_, rfl, a, ns, 0, rfl, hS, _, _, rfl, rfl, (by show (0 : Int) < 11; decide), ?_⟩
    obtain ⟨n, hn, hn11⟩ := natMod (ns.getD 0 0) 11 (by decide)
    have hn10 : n ≤ 10 := by omega
    have hn1000 : n ≤ 1000 := by omega
    show gName 1 (V.int (ns.getD 0 0 % 11)) _ _ _
    rw [show ns.getD 0 0 % 11 = (n : Int) from hn]
    -- blocks
    refine ⟨_, rfl, _, rfl, a, ns, 10, n, rfl, hS, hn1000, fun p0 H1 N1 => ?_⟩
    have hS1 := N1.same.seq hS
    refine ⟨fun σ H' => ∃ (pb : Addr) (wd : List Nat), σ = [some (.ref a), some (.int n), some (.ref pb), none, none, none, none, none, none] ∧ wd.length = n ∧ LL H' pb (zb (gather wd)) ∧ SqL K H' a (iv ns), ?_, ?_⟩
    · refine ⟨_, rfl, a, ns, 1, rfl, hS1, _, _, rfl, rfl, (by show (0 : Int) < 2; decide), rfl, _, rfl, iteD (fun _ => ?_) fun _ => ⟨p0, _, rfl, by rw [freeWord_length, cells_length], N1.ll, hS1⟩⟩
      refine ⟨_, rfl, _, rfl, a, ns, 10, n, rfl, hS1, hn1000, fun p1 H2 N2 => ?_⟩
      exact ⟨p1, _, rfl, by rw [anyWord_length, cells_length], N2.ll, N2.same.seq hS1⟩
    rintro σ H2 ⟨pb, wd, rfl, hwl, hL1, hS2⟩
    -- text
    have hx0 : ∀ c ∈ tl (gather wd), c < 128 := tl_codes fun b hb p hp => by have := gather_lt hb hp; omega
    have hbl := blocks_len wd
    rw [List.length_map] at hbl
    have hfl : (gather wd).flatten.length = wd.length := by rw [(gather_perm wd).length_eq, List.length_range]
    have htl := tl_len (gather wd)
    refine ⟨_, rfl, pb, wd, rfl, hL1, by omega, ?_⟩
    generalize hx00 : tl (gather wd) = x0 at hx0 htl
    have hx0l : x0.length ≤ 20 := by omega
    have hml : (mk x0).length = x0.length := mk_len x0
    -- way, at
    refine ⟨_, rfl, a, ns, 2, rfl, hS2, _, _, rfl, rfl, (by show (0 : Int) < 4; decide), ?_⟩
    refine ⟨_, rfl, a, ns, 3, rfl, hS2, _, rfl, mk x0, rfl, by rw [hml]; exact line_of (by omega), _, _, rfl, rfl, _, _, rfl, rfl, by omega, ?_⟩
    refine ⟨fun σ H' => ∃ (x : List Nat) (v6 : Option V), σ = [some (.ref a), some (.int n), some (.ref pb), some (.str (mk x)), some (.int (ns.getD 2 0 % 4)), some (.int (ns.getD 3 0 % (((mk x0).length : Nat) + 1 : Int))), v6, none, none] ∧ H2 = H' ∧ (∀ c ∈ x, c < 128) ∧ x.length ≤ 45, ?_, ?_⟩
    · refine ⟨_, rfl, _, _, rfl, rfl, _, rfl, iteD (fun _ => ?_) fun _ => ⟨x0, none, rfl, rfl, hx0, by omega⟩⟩
      refine ⟨_, rfl, a, ns, 4, rfl, hS2, _, rfl, fun j => ⟨j, rfl, fun c hc => ?_⟩⟩
      have hsl : (mk x0).length ≤ sizeLine := by rw [hml]; exact line_of (by omega)
      -- the parts put together
      have fin : ∀ (y1 m y2 : List Nat), (∀ c ∈ y1, c ∈ x0) → y1.length ≤ x0.length → (∀ c ∈ m, c < 128) → m.length ≤ 1 → (∀ c ∈ y2, c ∈ x0) → y2.length ≤ x0.length →
          (∀ c ∈ y1 ++ m ++ y2, c < 128) ∧ (y1 ++ m ++ y2).length ≤ 45 := by
        intro y1 m y2 h1 h2 h3 h4 h5 h6
        refine ⟨fun c hc => ?_, by simp; omega⟩
        rcases List.mem_append.mp hc with hc | hc
        · rcases List.mem_append.mp hc with hc | hc
          · exact hx0 c (h1 c hc)
          · exact h3 c hc
        · exact hx0 c (h5 c hc)
      have cut : ∀ (y : Str), (∀ c ∈ y.cps.toList, c ∈ (mk x0).cps.toList) → y.length ≤ (mk x0).length → ∃ y1 : List Nat, y = mk y1 ∧ (∀ c ∈ y1, c ∈ x0) ∧ y1.length ≤ x0.length := by
        intro y h1 h2
        refine ⟨y.cps.toList, (mk_of y).symm, fun c hc => by have := h1 c hc; rwa [mk_cps] at this, ?_⟩
        rw [hml] at h2
        have : y.length = y.cps.toList.length := by simp [Str.length]
        omega
      refine ⟨_, rfl, _, rfl, _, rfl, mk x0, rfl, hsl, fun y h1 h2 => ?_⟩
      obtain ⟨y1, rfl, a1, a2⟩ := cut y h1 h2
      have last : ∀ (m : List Nat), (∀ c ∈ m, c < 128) → m.length ≤ 1 → (mk y1).length + (mk m).length ≤ sizeLine ∧ ∀ z : List Nat, (∀ c ∈ z, c ∈ x0) → z.length ≤ x0.length → (mk y1 ++ mk m).length + (mk z).length ≤ sizeLine ∧ ∃ x : List Nat, mk y1 ++ mk m ++ mk z = mk x ∧ (∀ c ∈ x, c < 128) ∧ x.length ≤ 45 := by
        intro m hm1 hm2
        refine ⟨by rw [mk_len, mk_len]; exact line_of (by omega), fun z hz1 hz2 => ⟨by rw [mk_app, mk_len, mk_len]; exact line_of (by simp; omega), y1 ++ m ++ z, by rw [mk_app, mk_app], ?_⟩⟩
        exact fin y1 m z a1 a2 hm1 hm2 hz1 hz2
      refine ⟨_, rfl, _, _, rfl, rfl, _, rfl, iteD (fun _ => ?_) fun _ => ?_⟩
      · obtain ⟨g1, g2⟩ := last [c] (by intro d hd; rw [List.mem_singleton.mp hd]; exact hc) (Nat.le_refl _)
        refine ⟨_, rfl, _, _, rfl, rfl, g1, ?_⟩
        refine ⟨_, rfl, _, rfl, _, rfl, _, _, rfl, rfl, .inr ⟨_, rfl, _, _, rfl, rfl, _, rfl, mk x0, rfl, hsl, fun y h1 h2 => ?_⟩⟩
        obtain ⟨z, rfl, b1, b2⟩ := cut y h1 h2
        obtain ⟨g3, x, g4, g5⟩ := g2 z b1 b2
        refine ⟨_, _, rfl, rfl, g3, x, some (.str (mk [c])), ?_, rfl, g5⟩
        rw [← g4]
        rfl
      · obtain ⟨g1, g2⟩ := last [] (by intro d hd; cases hd) (Nat.zero_le _)
        refine ⟨_, _, rfl, rfl, g1, ?_⟩
        refine ⟨_, rfl, _, rfl, _, rfl, _, _, rfl, rfl, .inr ⟨_, rfl, _, _, rfl, rfl, _, rfl, mk x0, rfl, hsl, fun y h1 h2 => ?_⟩⟩
        obtain ⟨z, rfl, b1, b2⟩ := cut y h1 h2
        obtain ⟨g3, x, g4, g5⟩ := g2 z b1 b2
        refine ⟨_, _, rfl, rfl, g3, x, some (.str (mk [c])), ?_, rfl, g5⟩
        rw [← g4]
        rfl
    rintro σ H' ⟨x1, v6, rfl, rfl, hx1, hx1l⟩
    refine ⟨fun σ H' => ∃ (x : List Nat), σ = [some (.ref a), some (.int n), some (.ref pb), some (.str (mk x)), some (.int (ns.getD 2 0 % 4)), some (.int (ns.getD 3 0 % (((mk x0).length : Nat) + 1 : Int))), v6, none, none] ∧ Same H2 H' ∧ (∀ c ∈ x, c < 128) ∧ x.length ≤ 45, ?_, ?_⟩
    · refine ⟨_, rfl, a, ns, 5, rfl, hS2, _, _, rfl, rfl, (by show (0 : Int) < 3; decide), rfl, _, rfl, iteD (fun _ => ?_) fun _ => ⟨x1, rfl, Same.refl _, hx1, hx1l⟩⟩
      refine ⟨_, rfl, a, ns, 5, rfl, hS2, _, _, rfl, rfl, ⟨by decide, by decide⟩, _, rfl, fun x H3 h1 h2 s3 => ?_⟩
      exact ⟨x, rfl, s3, h1, by omega⟩
    rintro σ H3 ⟨x, rfl, s3, hx, hxl⟩
    refine ⟨_, rfl, x, rfl, hx, by omega, fun hP t p H4 s4 L4 hT => ?_, fun hP H4 s4 => ?_⟩
    · refine ⟨_, rfl, x, rfl, hx, by omega, fun _ r t2 p2 H5 s5 L5 hT2 hR => ?_, fun hP2 => absurd hP hP2⟩
      refine ⟨_, rfl, rfl, _, rfl, iteF ?_⟩
      refine ⟨_, rfl, r, _, 0, _, rfl, rfl, SqT.of hR, rfl, rfl, _, rfl, iteT ?_⟩
      refine ⟨_, rfl, r, _, 1, _, rfl, rfl, SqT.of hR, rfl, _, _, true, rfl, .tup hT2, kit_tuple_tuple, _, rfl, iteT ?_⟩
      obtain ⟨d1, d2, d3⟩ := pair_ok (((rd x).flatten.length : Nat) : Int) (rd x)
      refine ⟨_, rfl, r, _, 1, _, rfl, rfl, SqT.of hR, rfl, _, rfl, pairD (((rd x).flatten.length : Nat) : Int) (rd x), rd_tup (SqT.of hT2) (.cons rd_int (.cons (rd_LL L5) .nil)), rd_tup (SqT.of (s5 _ _ hT)) (.cons rd_int (.cons (rd_LL (L4.mono s5)) .nil)), d1, d2, d3, q _⟩
    · refine ⟨_, rfl, x, rfl, hx, by omega, fun hP2 => absurd hP2 hP, fun _ r H5 s5 hR => ?_⟩
      refine ⟨_, rfl, rfl, _, rfl, iteT ?_⟩
      exact ⟨_, rfl, r, _, 0, _, rfl, rfl, SqT.of hR, rfl, rfl, q _⟩
end
end NCP

namespace NCP
open PySem L2 NC
theorem all_mk {l : PySem.W.OpenLaw} {w : World} {K : PySem.W.Frag} {h : Heap} {mg : Str → Option Value} {fa f0 f1 f2 f3 f4 f5 f6 f7 f8 f9 f10 f11 f12 f13 f14 f15 f16 f17 f18 : Addr} (X : K.In h) (G : h.Ns mainGlobals mg) (hfa : mg "law" = some (.ref fa))
    {od0 an0 od1 an1 od2 an2 od3 an3 od4 an4 od5 an5 od6 an6 od7 an7 od8 an8 od9 an9 od10 an10 od11 an11 od12 an12 od13 an13 od14 an14 od15 an15 od16 an16 od17 an17 od18 an18 : Option Addr} {sl0 sl1 sl2 sl3 sl4 sl5 sl6 sl7 sl8 sl9 sl10 sl11 sl12 sl13 sl14 sl15 sl16 sl17 sl18 : Array (Option Value)}
    {oc0 kV0 dc0 pm0 cd0 ct0 oc1 kV1 dc1 pm1 cd1 ct1 oc2 kV2 dc2 pm2 cd2 ct2 oc3 kV3 dc3 pm3 cd3 ct3 oc4 kV4 dc4 pm4 cd4 ct4 oc5 kV5 dc5 pm5 cd5 ct5 oc6 kV6 dc6 pm6 cd6 ct6 oc7 kV7 dc7 pm7 cd7 ct7 oc8 kV8 dc8 pm8 cd8 ct8 oc9 kV9 dc9 pm9 cd9 ct9 oc10 kV10 dc10 pm10 cd10 ct10 oc11 kV11 dc11 pm11 cd11 ct11 oc12 kV12 dc12 pm12 cd12 ct12 oc13 kV13 dc13 pm13 cd13 ct13 oc14 kV14 dc14 pm14 cd14 ct14 oc15 kV15 dc15 pm15 cd15 ct15 oc16 kV16 dc16 pm16 cd16 ct16 oc17 kV17 dc17 pm17 cd17 ct17 oc18 kV18 dc18 pm18 cd18 ct18 : Value}
    {tMOST_POINTS : Tok}
    {R C0 C1 C2 C3 : Addr} {tFIG : Tok}
    (a0 : PySem.W.nsIn K mainGlobals "rises" = some (some (.ref f0))) (l0 : K.lookup f0 = some ⟨oc0, od0, .func (PySem.W.fnOf "rises" "rises" (defArgs s_rises) (defBody s_rises) (defScope s_rises) .none kV0 dc0 pm0 an0 cd0 ct0), sl0⟩) (c0 : PySem.W.codeIn K cd0 "rises" = true) (k0 : PySem.W.keepIn K (.ref f0) = true)
    (a1 : PySem.W.nsIn K mainGlobals "points_in" = some (some (.ref f1))) (l1 : K.lookup f1 = some ⟨oc1, od1, .func (PySem.W.fnOf "points_in" "points_in" (defArgs s_points_in) (defBody s_points_in) (defScope s_points_in) .none kV1 dc1 pm1 an1 cd1 ct1), sl1⟩) (c1 : PySem.W.codeIn K cd1 "points_in" = true) (k1 : PySem.W.keepIn K (.ref f1) = true)
    (a2 : PySem.W.nsIn K mainGlobals "is_parting" = some (some (.ref f2))) (l2 : K.lookup f2 = some ⟨oc2, od2, .func (PySem.W.fnOf "is_parting" "is_parting" (defArgs s_is_parting) (defBody s_is_parting) (defScope s_is_parting) .none kV2 dc2 pm2 an2 cd2 ct2), sl2⟩) (c2 : PySem.W.codeIn K cd2 "is_parting" = true) (k2 : PySem.W.keepIn K (.ref f2) = true)
    (a3 : PySem.W.nsIn K mainGlobals "block_read" = some (some (.ref f3))) (l3 : K.lookup f3 = some ⟨oc3, od3, .func (PySem.W.fnOf "block_read" "block_read" (defArgs s_block_read) (defBody s_block_read) (defScope s_block_read) .none kV3 dc3 pm3 an3 cd3 ct3), sl3⟩) (c3 : PySem.W.codeIn K cd3 "block_read" = true) (k3 : PySem.W.keepIn K (.ref f3) = true)
    (a4 : PySem.W.nsIn K mainGlobals "blocks_read" = some (some (.ref f4))) (l4 : K.lookup f4 = some ⟨oc4, od4, .func (PySem.W.fnOf "blocks_read" "blocks_read" (defArgs s_blocks_read) (defBody s_blocks_read) (defScope s_blocks_read) .none kV4 dc4 pm4 an4 cd4 ct4), sl4⟩) (c4 : PySem.W.codeIn K cd4 "blocks_read" = true) (k4 : PySem.W.keepIn K (.ref f4) = true)
    (a5 : PySem.W.nsIn K mainGlobals "read" = some (some (.ref f5))) (l5 : K.lookup f5 = some ⟨oc5, od5, .func (PySem.W.fnOf "read" "read" (defArgs s_read) (defBody s_read) (defScope s_read) .none kV5 dc5 pm5 an5 cd5 ct5), sl5⟩) (c5 : PySem.W.codeIn K cd5 "read" = true) (k5 : PySem.W.keepIn K (.ref f5) = true)
    (a6 : PySem.W.nsIn K mainGlobals "_law_cell_at" = some (some (.ref f6))) (l6 : K.lookup f6 = some ⟨oc6, od6, .func (PySem.W.fnOf "_law_cell_at" "_law_cell_at" (defArgs s_law_cell_at) (defBody s_law_cell_at) (defScope s_law_cell_at) .none kV6 dc6 pm6 an6 cd6 ct6), sl6⟩) (c6 : PySem.W.codeIn K cd6 "_law_cell_at" = true) (k6 : PySem.W.keepIn K (.ref f6) = true)
    (a7 : PySem.W.nsIn K mainGlobals "_law_next" = some (some (.ref f7))) (l7 : K.lookup f7 = some ⟨oc7, od7, .func (PySem.W.fnOf "_law_next" "_law_next" (defArgs s_law_next) (defBody s_law_next) (defScope s_law_next) .none kV7 dc7 pm7 an7 cd7 ct7), sl7⟩) (c7 : PySem.W.codeIn K cd7 "_law_next" = true) (k7 : PySem.W.keepIn K (.ref f7) = true)
    (a8 : PySem.W.nsIn K mainGlobals "_law_gathered" = some (some (.ref f8))) (l8 : K.lookup f8 = some ⟨oc8, od8, .func (PySem.W.fnOf "_law_gathered" "_law_gathered" (defArgs s_law_gathered) (defBody s_law_gathered) (defScope s_law_gathered) .none kV8 dc8 pm8 an8 cd8 ct8), sl8⟩) (c8 : PySem.W.codeIn K cd8 "_law_gathered" = true) (k8 : PySem.W.keepIn K (.ref f8) = true)
    (a9 : PySem.W.nsIn K mainGlobals "_law_free_by" = some (some (.ref f9))) (l9 : K.lookup f9 = some ⟨oc9, od9, .func (PySem.W.fnOf "_law_free_by" "_law_free_by" (defArgs s_law_free_by) (defBody s_law_free_by) (defScope s_law_free_by) .none kV9 dc9 pm9 an9 cd9 ct9), sl9⟩) (c9 : PySem.W.codeIn K cd9 "_law_free_by" = true) (k9 : PySem.W.keepIn K (.ref f9) = true)
    (a10 : PySem.W.nsIn K mainGlobals "_law_any_by" = some (some (.ref f10))) (l10 : K.lookup f10 = some ⟨oc10, od10, .func (PySem.W.fnOf "_law_any_by" "_law_any_by" (defArgs s_law_any_by) (defBody s_law_any_by) (defScope s_law_any_by) .none kV10 dc10 pm10 an10 cd10 ct10), sl10⟩) (c10 : PySem.W.codeIn K cd10 "_law_any_by" = true) (k10 : PySem.W.keepIn K (.ref f10) = true)
    (a11 : PySem.W.nsIn K mainGlobals "_law_good" = some (some (.ref f11))) (l11 : K.lookup f11 = some ⟨oc11, od11, .func (PySem.W.fnOf "_law_good" "_law_good" (defArgs s_law_good) (defBody s_law_good) (defScope s_law_good) .none kV11 dc11 pm11 an11 cd11 ct11), sl11⟩) (c11 : PySem.W.codeIn K cd11 "_law_good" = true) (k11 : PySem.W.keepIn K (.ref f11) = true)
    (a12 : PySem.W.nsIn K mainGlobals "_law_other" = some (some (.ref f12))) (l12 : K.lookup f12 = some ⟨oc12, od12, .func (PySem.W.fnOf "_law_other" "_law_other" (defArgs s_law_other) (defBody s_law_other) (defScope s_law_other) .none kV12 dc12 pm12 an12 cd12 ct12), sl12⟩) (c12 : PySem.W.codeIn K cd12 "_law_other" = true) (k12 : PySem.W.keepIn K (.ref f12) = true)
    (a13 : PySem.W.nsIn K mainGlobals "_law_text" = some (some (.ref f13))) (l13 : K.lookup f13 = some ⟨oc13, od13, .func (PySem.W.fnOf "_law_text" "_law_text" (defArgs s_law_text) (defBody s_law_text) (defScope s_law_text) .none kV13 dc13 pm13 an13 cd13 ct13), sl13⟩) (c13 : PySem.W.codeIn K cd13 "_law_text" = true) (k13 : PySem.W.keepIn K (.ref f13) = true)
    (a14 : PySem.W.nsIn K mainGlobals "_law_due" = some (some (.ref f14))) (l14 : K.lookup f14 = some ⟨oc14, od14, .func (PySem.W.fnOf "_law_due" "_law_due" (defArgs s_law_due) (defBody s_law_due) (defScope s_law_due) .none kV14 dc14 pm14 an14 cd14 ct14), sl14⟩) (c14 : PySem.W.codeIn K cd14 "_law_due" = true) (k14 : PySem.W.keepIn K (.ref f14) = true)
    (a15 : PySem.W.nsIn K mainGlobals "_law_sign" = some (some (.ref f15))) (l15 : K.lookup f15 = some ⟨oc15, od15, .func (PySem.W.fnOf "_law_sign" "_law_sign" (defArgs s_law_sign) (defBody s_law_sign) (defScope s_law_sign) .none kV15 dc15 pm15 an15 cd15 ct15), sl15⟩) (c15 : PySem.W.codeIn K cd15 "_law_sign" = true) (k15 : PySem.W.keepIn K (.ref f15) = true)
    (a16 : PySem.W.nsIn K mainGlobals "_law_odd" = some (some (.ref f16))) (l16 : K.lookup f16 = some ⟨oc16, od16, .func (PySem.W.fnOf "_law_odd" "_law_odd" (defArgs s_law_odd) (defBody s_law_odd) (defScope s_law_odd) .none kV16 dc16 pm16 an16 cd16 ct16), sl16⟩) (c16 : PySem.W.codeIn K cd16 "_law_odd" = true) (k16 : PySem.W.keepIn K (.ref f16) = true)
    (a17 : PySem.W.nsIn K mainGlobals "_law_told" = some (some (.ref f17))) (l17 : K.lookup f17 = some ⟨oc17, od17, .func (PySem.W.fnOf "_law_told" "_law_told" (defArgs s_law_told) (defBody s_law_told) (defScope s_law_told) .none kV17 dc17 pm17 an17 cd17 ct17), sl17⟩) (c17 : PySem.W.codeIn K cd17 "_law_told" = true) (k17 : PySem.W.keepIn K (.ref f17) = true)
    (a18 : PySem.W.nsIn K mainGlobals "law" = some (some (.ref f18))) (l18 : K.lookup f18 = some ⟨oc18, od18, .func (PySem.W.fnOf "law" "law" (defArgs s_law) (defBody s_law) (defScope s_law) .none kV18 dc18 pm18 an18 cd18 ct18), sl18⟩) (c18 : PySem.W.codeIn K cd18 "law" = true) (k18 : PySem.W.keepIn K (.ref f18) = true)
    (z0 : PySem.W.nsIn K mainGlobals "all" = some none)
    (z1 : PySem.W.nsIn K mainGlobals "zip" = some none)
    (z2 : PySem.W.nsIn K mainGlobals "len" = some none)
    (z3 : PySem.W.nsIn K mainGlobals "sorted" = some none)
    (z4 : PySem.W.nsIn K mainGlobals "list" = some none)
    (z5 : PySem.W.nsIn K mainGlobals "range" = some none)
    (z6 : PySem.W.nsIn K mainGlobals "enumerate" = some none)
    (z7 : PySem.W.nsIn K mainGlobals "max" = some none)
    (z8 : PySem.W.nsIn K mainGlobals "set" = some none)
    (z9 : PySem.W.nsIn K mainGlobals "isinstance" = some none)
    (z10 : PySem.W.nsIn K mainGlobals "int" = some none)
    (z11 : PySem.W.nsIn K mainGlobals "bool" = some none)
    (z12 : PySem.W.nsIn K mainGlobals "tuple" = some none)
    (z13 : PySem.W.nsIn K mainGlobals "sum" = some none)
    (iMOST_POINTS : PySem.W.nsIn K mainGlobals "MOST_POINTS" = some (some (.int 10 tMOST_POINTS)))
    (xr : PySem.W.nsIn K mainGlobals "RingError" = some (some (.ref R)))
    (x0 : PySem.W.nsIn K mainGlobals "NoParting" = some (some (.ref C0)))
    (x1 : PySem.W.nsIn K mainGlobals "Crossing" = some (some (.ref C1)))
    (x2 : PySem.W.nsIn K mainGlobals "NoNumber" = some (some (.ref C2)))
    (x3 : PySem.W.nsIn K mainGlobals "NoNote" = some (some (.ref C3)))
    (xv : PySem.W.nsIn K mainGlobals "ValueError" = some none)
    (yrt : PySem.W.typeIn K (.ref R) = some (.type "type"))
    (yrx : PySem.W.mroIn K R (.type "BaseException") = some true)
    (ys : PySem.W.mroIn K C3 (.ref R) = some true)
    (eg : PySem.W.findIn K (.ref C3) "__getattribute__" = some (some (.builtin "BaseException.__getattribute__")))
    (eh : PySem.W.findIn K (.ref C3) "__getattr__" = some none)
    (ea : PySem.W.findIn K (.ref C3) "__class__" = some (some (.builtin "object.__class__")))
    (ed : PySem.W.specialIn K (.builtin "object.__class__") "__get__" = some (some (.builtin "getset_descriptor.__get__")))
    (et : PySem.W.takesIn K (.builtin "object.__class__") = some true)
    (eo : PySem.W.mroIn K C3 (.type "object") = some true)
    (eb : PySem.W.mroIn K C3 (.type "BaseException") = some true)
    (q0 : PySem.W.kitOne K (.ref C3) (.ref C0) = some (decide (3 = 0)))
    (q1 : PySem.W.kitOne K (.ref C3) (.ref C1) = some (decide (3 = 1)))
    (q2 : PySem.W.kitOne K (.ref C3) (.ref C2) = some (decide (3 = 2)))
    (q3 : PySem.W.kitOne K (.ref C3) (.ref C3) = some (decide (3 = 3)))
    (qv : PySem.W.kitOne K (.ref C3) (.type "ValueError") = some true)
    (qx : PySem.W.excIn K C3 bmV "ValueError.__new__" = true)
    (iFIG : PySem.W.nsIn K mainGlobals "FIGURES" = some (some (.str FIG tFIG)))
    : ∃ fd : FuncData, (∀ (s : Shared) (v : Value), BindsTo s fd ⟨[v], []⟩ [("script", v)]) ∧ ∀ base : Heap, K.In base → base.Ns mainGlobals mg → FnOk l.prog w K mg base (CXe l.prog w) 6 fa fd ["script"] (spLaw K) := by
  have e := hfa.symm.trans (PySem.W.mg_of X G a18)
  cases e
  have B : GBlt mg := ⟨PySem.W.mg_none_of X G z0, PySem.W.mg_none_of X G z1, PySem.W.mg_none_of X G z2, PySem.W.mg_none_of X G z3, PySem.W.mg_none_of X G z4, PySem.W.mg_none_of X G z5, PySem.W.mg_none_of X G z6, PySem.W.mg_none_of X G z7, PySem.W.mg_none_of X G z8, PySem.W.mg_none_of X G z9, PySem.W.mg_none_of X G z10, PySem.W.mg_none_of X G z11, PySem.W.mg_none_of X G z12, PySem.W.mg_none_of X G z13⟩
  have hMOST_POINTS := PySem.W.mg_of X G iMOST_POINTS
  have D_rises : Dn K mg "rises" s_rises ["numbers"] _ _ := ⟨fun_mk (st := s_rises) l0 c0 k0, PySem.W.mg_of X G a0, (fun_mk (st := s_rises) l0 c0 k0).binds fun _ _ _ _ _ _ us hl => match us, hl with | [_], _ => rfl⟩
  have D_points_in : Dn K mg "points_in" s_points_in ["blocks"] _ _ := ⟨fun_mk (st := s_points_in) l1 c1 k1, PySem.W.mg_of X G a1, (fun_mk (st := s_points_in) l1 c1 k1).binds fun _ _ _ _ _ _ us hl => match us, hl with | [_], _ => rfl⟩
  have D_is_parting : Dn K mg "is_parting" s_is_parting ["points", "blocks"] _ _ := ⟨fun_mk (st := s_is_parting) l2 c2 k2, PySem.W.mg_of X G a2, (fun_mk (st := s_is_parting) l2 c2 k2).binds fun _ _ _ _ _ _ us hl => match us, hl with | [_, _], _ => rfl⟩
  have D_block_read : Dn K mg "block_read" s_block_read ["part"] _ _ := ⟨fun_mk (st := s_block_read) l3 c3 k3, PySem.W.mg_of X G a3, (fun_mk (st := s_block_read) l3 c3 k3).binds fun _ _ _ _ _ _ us hl => match us, hl with | [_], _ => rfl⟩
  have D_blocks_read : Dn K mg "blocks_read" s_blocks_read ["text"] _ _ := ⟨fun_mk (st := s_blocks_read) l4 c4 k4, PySem.W.mg_of X G a4, (fun_mk (st := s_blocks_read) l4 c4 k4).binds fun _ _ _ _ _ _ us hl => match us, hl with | [_], _ => rfl⟩
  have D_read : Dn K mg "read" s_read ["text"] _ _ := ⟨fun_mk (st := s_read) l5 c5 k5, PySem.W.mg_of X G a5, (fun_mk (st := s_read) l5 c5 k5).binds fun _ _ _ _ _ _ us hl => match us, hl with | [_], _ => rfl⟩
  have D_law_cell_at : Dn K mg "_law_cell_at" s_law_cell_at ["script", "k"] _ _ := ⟨fun_mk (st := s_law_cell_at) l6 c6 k6, PySem.W.mg_of X G a6, (fun_mk (st := s_law_cell_at) l6 c6 k6).binds fun _ _ _ _ _ _ us hl => match us, hl with | [_, _], _ => rfl⟩
  have D_law_next : Dn K mg "_law_next" s_law_next ["seed"] _ _ := ⟨fun_mk (st := s_law_next) l7 c7 k7, PySem.W.mg_of X G a7, (fun_mk (st := s_law_next) l7 c7 k7).binds fun _ _ _ _ _ _ us hl => match us, hl with | [_], _ => rfl⟩
  have D_law_gathered : Dn K mg "_law_gathered" s_law_gathered ["word"] _ _ := ⟨fun_mk (st := s_law_gathered) l8 c8 k8, PySem.W.mg_of X G a8, (fun_mk (st := s_law_gathered) l8 c8 k8).binds fun _ _ _ _ _ _ us hl => match us, hl with | [_], _ => rfl⟩
  have D_law_free_by : Dn K mg "_law_free_by" s_law_free_by ["script", "at", "points"] _ _ := ⟨fun_mk (st := s_law_free_by) l9 c9 k9, PySem.W.mg_of X G a9, (fun_mk (st := s_law_free_by) l9 c9 k9).binds fun _ _ _ _ _ _ us hl => match us, hl with | [_, _, _], _ => rfl⟩
  have D_law_any_by : Dn K mg "_law_any_by" s_law_any_by ["script", "at", "points"] _ _ := ⟨fun_mk (st := s_law_any_by) l10 c10 k10, PySem.W.mg_of X G a10, (fun_mk (st := s_law_any_by) l10 c10 k10).binds fun _ _ _ _ _ _ us hl => match us, hl with | [_, _, _], _ => rfl⟩
  have D_law_good : Dn K mg "_law_good" s_law_good ["points", "blocks"] _ _ := ⟨fun_mk (st := s_law_good) l11 c11 k11, PySem.W.mg_of X G a11, (fun_mk (st := s_law_good) l11 c11 k11).binds fun _ _ _ _ _ _ us hl => match us, hl with | [_, _], _ => rfl⟩
  have D_law_other : Dn K mg "_law_other" s_law_other ["e", "wanted"] _ _ := ⟨fun_mk (st := s_law_other) l12 c12 k12, PySem.W.mg_of X G a12, (fun_mk (st := s_law_other) l12 c12 k12).binds fun _ _ _ _ _ _ us hl => match us, hl with | [_, _], _ => rfl⟩
  have D_law_text : Dn K mg "_law_text" s_law_text ["blocks"] _ _ := ⟨fun_mk (st := s_law_text) l13 c13 k13, PySem.W.mg_of X G a13, (fun_mk (st := s_law_text) l13 c13 k13).binds fun _ _ _ _ _ _ us hl => match us, hl with | [_], _ => rfl⟩
  have D_law_due : Dn K mg "_law_due" s_law_due ["text"] _ _ := ⟨fun_mk (st := s_law_due) l14 c14 k14, PySem.W.mg_of X G a14, (fun_mk (st := s_law_due) l14 c14 k14).binds fun _ _ _ _ _ _ us hl => match us, hl with | [_], _ => rfl⟩
  have D_law_sign : Dn K mg "_law_sign" s_law_sign ["cell"] _ _ := ⟨fun_mk (st := s_law_sign) l15 c15 k15, PySem.W.mg_of X G a15, (fun_mk (st := s_law_sign) l15 c15 k15).binds fun _ _ _ _ _ _ us hl => match us, hl with | [_], _ => rfl⟩
  have D_law_odd : Dn K mg "_law_odd" s_law_odd ["cell"] _ _ := ⟨fun_mk (st := s_law_odd) l16 c16 k16, PySem.W.mg_of X G a16, (fun_mk (st := s_law_odd) l16 c16 k16).binds fun _ _ _ _ _ _ us hl => match us, hl with | [_], _ => rfl⟩
  have D_law_told : Dn K mg "_law_told" s_law_told ["text"] _ _ := ⟨fun_mk (st := s_law_told) l17 c17 k17, PySem.W.mg_of X G a17, (fun_mk (st := s_law_told) l17 c17 k17).binds fun _ _ _ _ _ _ us hl => match us, hl with | [_], _ => rfl⟩
  have D_law : Dn K mg "law" s_law ["script"] _ _ := ⟨fun_mk (st := s_law) l18 c18 k18, PySem.W.mg_of X G a18, (fun_mk (st := s_law) l18 c18 k18).binds fun _ _ _ _ _ _ us hl => match us, hl with | [_], _ => rfl⟩
  refine ⟨PySem.W.fnOf "law" "law" (defArgs s_law) (defBody s_law) (defScope s_law) .none kV18 dc18 pm18 an18 cd18 ct18, fun s v => .of_eq rfl, fun base KB _ => ?_⟩
  have cw : ClW K mg R C0 C1 C2 C3 3 C3 := ⟨PySem.W.mg_of X G xr, PySem.W.mg_of X G x0, PySem.W.mg_of X G x1, PySem.W.mg_of X G x2, PySem.W.mg_of X G x3, PySem.W.mg_none_of X G xv, yrt, cls_of_mro yrx, yrx, ys, ⟨cls_of_mro eo, eg, eh, ea, ed, et, eo, eb⟩, q0, q1, q2, q3, qv⟩
  have X0 : CxNo (CXe l.prog w) := cxNoE
  have GR := ok_rises (P := l.prog) (w := w) (base := base) (CX := CXe l.prog w) D_rises.fn B.all B.zip
  have GP := ok_points_in (P := l.prog) (w := w) (mg := mg) (base := base) (CX := CXe l.prog w) D_points_in.fn
  have GI := ok_is_parting X0 B D_is_parting.fn ⟨_, hMOST_POINTS⟩ D_rises GR D_points_in GP
  have hFig := PySem.W.mg_of X G iFIG
  have GBR := ok_block_read (P := l.prog) (w := w) (base := base) (CX := CXe l.prog w) ⟨_, hFig⟩ D_block_read.fn
  have GBB := ok_blocks_read X0 D_blocks_read.fn D_block_read GBR
  have GRd := ok_read X0 B D_read.fn D_blocks_read GBB D_points_in GP D_is_parting GI
  have GRE := ok_read_e KB cw.n3 qx B D_read.fn D_blocks_read GBB D_points_in GP D_is_parting GI
  have GOT := ok_other_w (P := l.prog) (w := w) (base := base) (by decide) B cw D_law_other.fn
  have GTo := ok_told cw B D_law_told.fn D_read GRd GRE D_law_other GOT
  have G1 := ok_cell_at (P := l.prog) (w := w) (base := base) (CX := CXe l.prog w) D_law_cell_at.fn B.len
  have G2 := ok_gathered (P := l.prog) (w := w) (base := base) (CX := CXe l.prog w) B D_law_gathered.fn
  have G3 := ok_free_by X0 B D_law_free_by.fn D_law_cell_at G1 D_law_gathered G2
  have G5 := ok_any_by X0 B D_law_any_by.fn D_law_cell_at G1 D_law_gathered G2
  have G6 := ok_next (P := l.prog) (w := w) (mg := mg) (base := base) (CX := CXe l.prog w) D_law_next.fn
  have G8 := ok_good (P := l.prog) (w := w) (base := base) (CX := CXe l.prog w) B D_law_good.fn
  have GTx := ok_law_text (P := l.prog) (w := w) (mg := mg) (base := base) (CX := CXe l.prog w) D_law_text.fn
  have GDu := ok_law_due X0 D_law_due.fn D_law_good G8
  have GSi := ok_law_sign (P := l.prog) (w := w) (mg := mg) (base := base) (CX := CXe l.prog w) D_law_sign.fn
  have GOd := ok_law_odd (P := l.prog) (w := w) (base := base) (CX := CXe l.prog w) B D_law_odd.fn
  exact ok_law B D_law.fn D_law_cell_at G1 D_law_free_by G3 D_law_any_by G5 D_law_text GTx D_law_sign GSi D_law_next G6 D_law_odd GOd D_law_due GDu D_law_told GTo
theorem walk {l : PySem.W.OpenLaw} {q : Program} {loose : List Str} {XP : (Str → Option Value) → Heap → Prop} {YP : World → Heap → Prop} {d : DefRec} {K : Params → PySem.W.Frag} (hn : l.most = some 63) (hdf : d.params.defaults = [])
    (hY : ∀ (w : World) (h : Heap), YP w h → (K w.params).In h)
    (F : ∀ (w : World) (mg : Str → Option Value) (fa : Addr) (h : Heap), (K w.params).In h → h.Ns mainGlobals mg → mg d.name = some (.ref fa) →
      ∃ fd : FuncData, (∀ (s : Shared) (u : Value), BindsTo s fd ⟨[u], []⟩ [("script", u)]) ∧ ∀ base : Heap, (K w.params).In base → base.Ns mainGlobals mg → FnOk l.prog w (K w.params) mg base (CXe l.prog w) 6 fa fd ["script"] (spLaw (K w.params))) :
    PySem.W.WalkO q loose XP YP l.row.toRowW d [] (fun f vs => PySem.call f vs) :=
  L2.walk_of (n := 63) (k := 6) (x := "script") (CX := fun w => CXe l.prog w) (sp := fun w => spLaw (K w.params)) hn (by decide) hdf ⟨rfl, by decide, by decide⟩ hY F (fun _ _ a ns hl _ hS => ⟨a, ns, rfl, hS, hl, fun _ => rfl⟩) fun _ _ _ _ _ z => cxNoE _ _ _ _ _ z
end NCP
open PySem PySem.W PyProof.Rows
set_option maxRecDepth 100000 in
set_option maxHeartbeats 0 in
theorem PySem.Challenge.cw_nocrossing_k15_read_or_refused_holds : PySem.Challenge.rw_nocrossing_k15_read_or_refused.Holds := by
  w_on; o_law; k_head; (case hw => w_witness2)
  k_fill
  refine NCP.walk (l := PySem.Challenge.rw_nocrossing_k15_read_or_refused) rfl rfl (fun w h Y => PySem.W.kIn_of Y) ?F
  case F =>
    intro w mg fa h KX G hmg
    refine' NCP.all_mk KX G hmg ?a0 ?l0 ?c0 ?k0 ?a1 ?l1 ?c1 ?k1 ?a2 ?l2 ?c2 ?k2 ?a3 ?l3 ?c3 ?k3 ?a4 ?l4 ?c4 ?k4 ?a5 ?l5 ?c5 ?k5 ?a6 ?l6 ?c6 ?k6 ?a7 ?l7 ?c7 ?k7 ?a8 ?l8 ?c8 ?k8 ?a9 ?l9 ?c9 ?k9 ?a10 ?l10 ?c10 ?k10 ?a11 ?l11 ?c11 ?k11 ?a12 ?l12 ?c12 ?k12 ?a13 ?l13 ?c13 ?k13 ?a14 ?l14 ?c14 ?k14 ?a15 ?l15 ?c15 ?k15 ?a16 ?l16 ?c16 ?k16 ?a17 ?l17 ?c17 ?k17 ?a18 ?l18 ?c18 ?k18 ?z0 ?z1 ?z2 ?z3 ?z4 ?z5 ?z6 ?z7 ?z8 ?z9 ?z10 ?z11 ?z12 ?z13 ?iMOST_POINTS ?xr ?x0 ?x1 ?x2 ?x3 ?xv ?yrt ?yrx ?ys ?eg ?eh ?ea ?ed ?et ?eo ?eb ?q0 ?q1 ?q2 ?q3 ?qv ?qx ?iFIG
    (case a0 => k_is)
    (case l0 => k_is)
    (case c0 => k_is)
    (case k0 => k_is)
    (case a1 => k_is)
    (case l1 => k_is)
    (case c1 => k_is)
    (case k1 => k_is)
    (case a2 => k_is)
    (case l2 => k_is)
    (case c2 => k_is)
    (case k2 => k_is)
    (case a3 => k_is)
    (case l3 => k_is)
    (case c3 => k_is)
    (case k3 => k_is)
    (case a4 => k_is)
    (case l4 => k_is)
    (case c4 => k_is)
    (case k4 => k_is)
    (case a5 => k_is)
    (case l5 => k_is)
    (case c5 => k_is)
    (case k5 => k_is)
    (case a6 => k_is)
    (case l6 => k_is)
    (case c6 => k_is)
    (case k6 => k_is)
    (case a7 => k_is)
    (case l7 => k_is)
    (case c7 => k_is)
    (case k7 => k_is)
    (case a8 => k_is)
    (case l8 => k_is)
    (case c8 => k_is)
    (case k8 => k_is)
    (case a9 => k_is)
    (case l9 => k_is)
    (case c9 => k_is)
    (case k9 => k_is)
    (case a10 => k_is)
    (case l10 => k_is)
    (case c10 => k_is)
    (case k10 => k_is)
    (case a11 => k_is)
    (case l11 => k_is)
    (case c11 => k_is)
    (case k11 => k_is)
    (case a12 => k_is)
    (case l12 => k_is)
    (case c12 => k_is)
    (case k12 => k_is)
    (case a13 => k_is)
    (case l13 => k_is)
    (case c13 => k_is)
    (case k13 => k_is)
    (case a14 => k_is)
    (case l14 => k_is)
    (case c14 => k_is)
    (case k14 => k_is)
    (case a15 => k_is)
    (case l15 => k_is)
    (case c15 => k_is)
    (case k15 => k_is)
    (case a16 => k_is)
    (case l16 => k_is)
    (case c16 => k_is)
    (case k16 => k_is)
    (case a17 => k_is)
    (case l17 => k_is)
    (case c17 => k_is)
    (case k17 => k_is)
    (case a18 => k_is)
    (case l18 => k_is)
    (case c18 => k_is)
    (case k18 => k_is)
    (case z0 => k_is)
    (case z1 => k_is)
    (case z2 => k_is)
    (case z3 => k_is)
    (case z4 => k_is)
    (case z5 => k_is)
    (case z6 => k_is)
    (case z7 => k_is)
    (case z8 => k_is)
    (case z9 => k_is)
    (case z10 => k_is)
    (case z11 => k_is)
    (case z12 => k_is)
    (case z13 => k_is)
    (case iMOST_POINTS => k_is)
    (case xr => k_is)
    (case x0 => k_is)
    (case x1 => k_is)
    (case x2 => k_is)
    (case x3 => k_is)
    (case xv => k_is)
    (case yrt => k_is)
    (case yrx => k_is)
    (case ys => k_is)
    (case eg => k_is)
    (case eh => k_is)
    (case ea => k_is)
    (case ed => k_is)
    (case et => k_is)
    (case eo => k_is)
    (case eb => k_is)
    (case q0 => kit_is)
    (case q1 => kit_is)
    (case q2 => kit_is)
    (case q3 => kit_is)
    (case qv => kit_is)
    (case qx => k_exc)
    (case iFIG => k_is)

