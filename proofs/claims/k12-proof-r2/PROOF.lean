import PyProof.Rows.All
import Wide.All
import OpenK.AllK
import Wide.FinOn
import Lean
import PyProof.EqAt
import PyProof.EqKinds
import PyProof.TupleCall
import PyProof.Rows.SetFrom
import PyProof.Rows.SortShell
import PyProof.Rows.SortWalk
import PyProof.CollectIter
import PyProof.DictWalks
import PyProof.ListRange
import PyProof.ZipIter
import PySem.Challenge.RW_nocrossing_k12_whole_ways_up
set_option Elab.async false
set_option linter.all false
set_option maxRecDepth 100000
set_option maxHeartbeats 4000000
set_option Elab.async false
set_option linter.all false
set_option maxRecDepth 100000
/-! THE HAND LAYER, for ints, bools, texts, own classes, LISTS and tuples (index, slices, in, append, pop ..), calls, loops. Paste it whole ahead of your own text; what your proof does not reach may be deleted. -/
namespace L2
open PySem PySem.Spec PyProof.Rows

/-- a key: an int or a str -/
abbrev Key := Sum Int Str
def keyIs : Key → Value → Bool
  | .inl k, v => Value.isInt k v
  | .inr x, v => Value.isStrOf x v
def keyH (w : World) : Key → Int
  | .inl k => hashInt k
  | .inr x => hashStr w x
theorem keyIs_shape : ∀ {k : Key} {v : Value}, keyIs k v = true → (∃ i t, k = Sum.inl i ∧ v = Value.int i t) ∨ (∃ x t, k = Sum.inr x ∧ v = Value.str x t)
  | .inl i, v, h => by
    obtain ⟨t, e⟩ := Value.isInt_shape (k := i) (v := v) h
    exact .inl ⟨i, t, rfl, e⟩
  | .inr x, v, h => by
    obtain ⟨t, e⟩ := Value.isStrOf_shape (x := x) (v := v) h
    exact .inr ⟨x, t, rfl, e⟩
theorem key_ll (a b : Int) : decide ((Sum.inl a : Key) = Sum.inl b) = (a == b) := by
  by_cases e : a = b
  · subst e; simp
  · have h : ¬ (Sum.inl a : Key) = Sum.inl b := fun q => e (Sum.inl.inj q)
    rw [decide_eq_false h]
    exact (beq_eq_false_iff_ne.mpr e).symm
theorem key_rr (a b : Str) : decide ((Sum.inr a : Key) = Sum.inr b) = decide (a = b) := by
  by_cases e : a = b
  · subst e; simp
  · have h : ¬ (Sum.inr a : Key) = Sum.inr b := fun q => e (Sum.inr.inj q)
    rw [decide_eq_false h, decide_eq_false e]
theorem key_lr (a : Int) (b : Str) : decide ((Sum.inl a : Key) = Sum.inr b) = false := decide_eq_false (fun q => nomatch q)
theorem key_rl (a : Str) (b : Int) : decide ((Sum.inr a : Key) = Sum.inl b) = false := decide_eq_false (fun q => nomatch q)

def mixKind (prog : Program) (w : World) : PySem.KeyKind prog w Key where
  is := keyIs
  hash := keyH w
  inj := fun v a b ha hb => by
    rcases keyIs_shape ha with ⟨i, t, rfl, rfl⟩ | ⟨x, t, rfl, rfl⟩
    · rcases keyIs_shape hb with ⟨j, u, rfl, e⟩ | ⟨y, u, rfl, e⟩
      · injection e with e1 _; rw [e1]
      · exact nomatch e
    · rcases keyIs_shape hb with ⟨j, u, rfl, e⟩ | ⟨y, u, rfl, e⟩
      · exact nomatch e
      · injection e with e1 _; rw [e1]
  byValue := fun k v h => by
    rcases keyIs_shape h with ⟨i, t, rfl, rfl⟩ | ⟨x, t, rfl, rfl⟩ <;> rfl
  pyHash := fun hv h => by
    rcases keyIs_shape hv with ⟨i, t, rfl, rfl⟩ | ⟨x, t, rfl, rfl⟩
    · exact wpAny_pyHash_int h
    · exact wpAny_pyHash_str h
  eqBool := fun hu hv h => by
    rcases keyIs_shape hu with ⟨i, t, rfl, rfl⟩ | ⟨x, t, rfl, rfl⟩
    · rcases keyIs_shape hv with ⟨j, u, rfl, rfl⟩ | ⟨y, u, rfl, rfl⟩
      · rw [key_ll] at h; exact wpAny_eqBool_int h
      · rw [key_lr] at h; exact SeqAt.EqAt.int_str i t y u _ _ _ _ h
    · rcases keyIs_shape hv with ⟨j, u, rfl, rfl⟩ | ⟨y, u, rfl, rfl⟩
      · rw [key_rl] at h; exact SeqAt.EqAt.str_int x t j u _ _ _ _ h
      · rw [key_rr] at h; exact wpAny_eqBool_str h
  «strs» := fun k x t v h => by
    rcases keyIs_shape h with ⟨i, u, rfl, e⟩ | ⟨y, u, rfl, e⟩
    · exact nomatch e
    · injection e with e1 _
      subst e1
      cases v <;> rfl

end L2

namespace L2
open PySem PySem.Spec PyProof.Rows

/-- a value, without the heap -/
inductive V where
  | non | bl (b : Bool) | int (i : Int) | str (x : Str) | byt (b : Array UInt8) | flt (b : UInt64) | ref (a : Addr) | ty (n : String)
  deriving DecidableEq

def RelV : V → Value → Prop
  | .non, u => u = Value.none
  | .bl b, u => u = Value.bool b
  | .int i, u => ∃ t, u = Value.int i t
  | .str x, u => ∃ t, u = Value.str x t
  | .byt b, u => ∃ t, u = Value.bytes b t
  | .flt b, u => ∃ t, u = Value.float b t
  | .ref a, u => u = Value.ref a
  | .ty n, u => u = Value.type n

abbrev Vals : List V → List Value → Prop := Paired RelV
theorem Vals.length {xs : List V} {us : List Value} (r : Vals xs us) : xs.length = us.length := Paired.length r
theorem Vals.get : ∀ {xs : List V} {us : List Value} {i : Nat} {x : V}, Vals xs us → xs[i]? = some x → ∃ u, us[i]? = some u ∧ RelV x u
  | _, _, _, _, .nil, e => by simp at e
  | _, _, 0, _, .cons r _, e => by simp at e; subst e; exact ⟨_, rfl, r⟩
  | _, _, i + 1, x, .cons _ t, e => by
    obtain ⟨u, h1, h2⟩ := Vals.get (i := i) (x := x) t (by simpa using e)
    exact ⟨u, by simpa using h1, h2⟩
theorem Vals.set {x : V} {u : Value} (r : RelV x u) : ∀ {xs : List V} {us : List Value} (i : Nat), Vals xs us → Vals (xs.set i x) (us.set i u)
  | _, _, _, .nil => .nil
  | _, _, 0, .cons _ t => .cons r t
  | _, _, i + 1, .cons q t => .cons q (Vals.set r i t)
theorem Vals.append : ∀ {xs ys : List V} {us ws : List Value}, Vals xs us → Vals ys ws → Vals (xs ++ ys) (us ++ ws)
  | _, _, _, _, .nil, s => s
  | _, _, _, _, .cons r t, s => .cons r (Vals.append t s)
theorem Vals.take : ∀ {xs : List V} {us : List Value} (n : Nat), Vals xs us → Vals (xs.take n) (us.take n)
  | _, _, 0, _ => .nil
  | _, _, _ + 1, .nil => .nil
  | _, _, n + 1, .cons r t => .cons r (Vals.take n t)
theorem Vals.drop : ∀ {xs : List V} {us : List Value} (n : Nat), Vals xs us → Vals (xs.drop n) (us.drop n)
  | _, _, 0, r => r
  | _, _, _ + 1, .nil => .nil
  | _, _, n + 1, .cons _ t => Vals.drop n t

def RelO : Option V → Option Value → Prop
  | some v, some u => RelV v u
  | none, none => True
  | _, _ => False
def KV {κ : Type} : List (κ × V) → List (κ × Value) → Prop := Paired fun (p : κ × V) (q : κ × Value) => p.1 = q.1 ∧ RelV p.2 q.2

/-- a key of a dict (00_mix): an int or a text -/
def kV : Key → V
  | .inl i => .int i
  | .inr x => .str x

/-- what stands at a tracked address -/
inductive HO where
  /-- a list -/
  | lst (xs : List V)
  /-- a tuple (never changes) -/
  | tup (xs : List V)
  /-- a dict whose keys are ints and texts; one whose keys are tuples of ints and texts (the empty one is both) -/
  | dK (kvs : List (Key × V)) | dT (kvs : List (List Key × V))
  /-- a set of ints: its members, its size -/
  | set (S : Int → Bool) (n : Nat)
  /-- an instance of the class at C, its dict at dx, its attributes -/
  | ins (C dx : Addr) (fs : List (Str × V))
  /-- the dict of the instance at x -/
  | own (x : Addr)
  /-- the dict of an exception -/
  | xd (fs : List (Str × V))
  /-- a bound method, f of x -/
  | met (f x : Addr)
  /-- a range object lo, lo + 1, .. below hi -/
  | rng (lo hi : Int)
  /-- a thing that is known to the object (the script; a dict while a loop walks it): read, never written while it is so -/
  | frz (o : Obj) (u : HO)
  /-- a code object's table -/
  | tbl (ps : Array Value)
  /-- any other thing, by what is true of its one object (a def of one's own: SetO a S n := HO.ext fun h => ..) -/
  | ext (φ : Heap → Prop)

abbrev Hp := Addr → Option HO
def upd (H : Hp) (a : Addr) (o : HO) : Hp := fun b => if b = a then some o else H b
theorem upd_same {H : Hp} {a : Addr} {o : HO} : upd H a o a = some o := by unfold upd; rw [if_pos rfl]
theorem upd_ne {H : Hp} {a b : Addr} {o : HO} (h : b ≠ a) : upd H a o b = H b := by unfold upd; rw [if_neg h]
theorem ne_of_none {H : Hp} {a b : Addr} {o : HO} (h : H a = some o) (h' : H b = none) : a ≠ b := by
  intro e; subst e; rw [h] at h'; cases h'

section
variable (P : Program) (w : World)
def ObjOk (H : Hp) (h : Heap) (a : Addr) : HO → Prop
  | .lst xs => xs.length ≤ sizeLine ∧ ∃ (its : List Value) (n : Nat), Vals xs its ∧ h.get? a = some { cls := .type "list", data := .seq its.toArray n }
  | .tup xs => xs.length ≤ sizeLine ∧ ∃ its : List Value, Vals xs its ∧ IsTup h a its.toArray
  | .dK kvs => kvs.length ≤ sizeLine ∧ (a == sysModules) = false ∧ ∃ vs, KV kvs vs ∧ h.DictOf (mixKind P w) a vs
  | .dT kvs => kvs.length ≤ sizeLine ∧ (a == sysModules) = false ∧ ∃ xs : List (List Key × Addr × Value),
      Paired (fun (p : List Key × V) (q : List Key × Addr × Value) => p.1 = q.1 ∧ H q.2.1 = some (.tup (p.1.map kV)) ∧ RelV p.2 q.2.2) kvs xs ∧
      ∃ o es ep, h.get? a = some o ∧ o.ExactDict ∧ o.data = .dict es ep ∧ es.toList = xs.map (entryOfKey (tupleKind (mixKind P w))) ∧ (xs.map (·.1)).Nodup
  | .set S n => h.SetOf (intKind P w) a S n
  | .ins C dx fs => H dx = some (.own a) ∧ fs.length ≤ 1000 ∧ dx ≠ a ∧ h.get? a = some (PySem.W.instObj C dx) ∧
      ∃ mA, h.Ns1 dx mA ∧ (∀ f, RelO (fs.lookup f) (mA f)) ∧ PySem.Within mA (fs.map (·.1))
  | .own _ => ∃ o, h.get? a = some o
  | .xd fs => ∃ mA, h.Ns1 a mA ∧ ∀ f, RelO (fs.lookup f) (mA f)
  | .rng lo hi => ∃ t u v, h.get? a = some { cls := .type "range", data := .fields #[.int lo t, .int hi u, .int 1 v] }
  | .frz o u => h.get? a = some o ∧ ObjOk H h a u
  | .tbl ps => h.get? a = some { cls := .none, data := .fields ps }
  | .met f x => h.get? a = some (PySem.W.methodObj (.ref f) (.ref x))
  | .ext φ => φ h ∧ (∃ o, h.get? a = some o) ∧ ∀ h1 h2 : Heap, φ h1 → (∀ o, h1.get? a = some o → h2.get? a = some o) → φ h2
/-- the abstract heap is held -/
def HOk (H : Hp) (h : Heap) : Prop := ∀ a o, H a = some o → ObjOk P w H h a o
end

section
variable {P : Program} {w : World} {H H' : Hp} {h h' : Heap} {a : Addr} {o : HO}
theorem ObjOk.lt (x : ObjOk P w H h a o) : a < h.objs.size := by
  cases o with
  | lst xs => obtain ⟨_, _, _, _, e⟩ := x; exact Heap.lt_size e
  | tup xs => obtain ⟨_, _, _, p⟩ := x; exact p.lt
  | dK kvs => obtain ⟨_, _, _, _, o, _, _, e, _⟩ := x; exact Heap.lt_size e
  | dT kvs => obtain ⟨_, _, _, _, o, _, _, e, _⟩ := x; exact Heap.lt_size e
  | set S n => obtain ⟨o, _, _, _, e, _⟩ := x; exact Heap.lt_size e
  | ins C dx fs => obtain ⟨_, _, _, e, _⟩ := x; exact Heap.lt_size e
  | own y => obtain ⟨_, e⟩ := x; exact Heap.lt_size e
  | xd fs => obtain ⟨_, ⟨_, _, _, e, _⟩, _⟩ := x; exact Heap.lt_size e
  | rng lo hi => obtain ⟨_, _, _, e⟩ := x; exact Heap.lt_size e
  | frz ob u => obtain ⟨e, _⟩ := x; exact Heap.lt_size e
  | tbl ps => exact Heap.lt_size (show h.get? a = some _ from x)
  | met f y => exact Heap.lt_size (show h.get? a = some _ from x)
  | ext φ => obtain ⟨_, ⟨_, e⟩, _⟩ := x; exact Heap.lt_size e
theorem Paired.mapP {α β : Type} {F G : α → β → Prop} : ∀ {l₁ : List α} {l₂ : List β}, Paired F l₁ l₂ → (∀ a b, F a b → G a b) → Paired G l₁ l₂
  | _, _, .nil, _ => .nil
  | _, _, .cons r t, f => .cons (f _ _ r) (Paired.mapP t f)
/-- what an object's description leans on: its own object, its own dict, the tuples -/
theorem ObjOk.stay (x : ObjOk P w H h a o) (k : ∀ b u, (b = a ∨ H b = some (.own a)) → h.get? b = some u → h'.get? b = some u)
    (ho : ∀ b, H b = some (.own a) → H' b = some (.own a)) (ht : ∀ b xs, H b = some (.tup xs) → H' b = some (.tup xs)) : ObjOk P w H' h' a o := by
  induction o with
  | lst xs => obtain ⟨z, its, n, r, e⟩ := x; exact ⟨z, its, n, r, k _ _ (.inl rfl) e⟩
  | tup xs => obtain ⟨z, its, r, ob, e, c⟩ := x; exact ⟨z, its, r, ob, k _ _ (.inl rfl) e, c⟩
  | dK kvs => obtain ⟨z, y, vs, r, ob, es, ep, e, c⟩ := x; exact ⟨z, y, vs, r, ob, es, ep, k _ _ (.inl rfl) e, c⟩
  | dT kvs =>
    obtain ⟨z, y, xs, r, ob, es, ep, e, c⟩ := x
    exact ⟨z, y, xs, Paired.mapP r fun p q z => ⟨z.1, ht _ _ z.2.1, z.2.2⟩, ob, es, ep, k _ _ (.inl rfl) e, c⟩
  | set S n => obtain ⟨ob, es, ep, t, e, c⟩ := x; exact ⟨ob, es, ep, t, k _ _ (.inl rfl) e, c⟩
  | ins C dx fs =>
    obtain ⟨d, z, ne, e, mA, ⟨od, es, ep, e2, c⟩, r⟩ := x
    exact ⟨ho _ d, z, ne, k _ _ (.inl rfl) e, mA, ⟨od, es, ep, k _ _ (.inr d) e2, c⟩, r⟩
  | own y => obtain ⟨ob, e⟩ := x; exact ⟨ob, k _ _ (.inl rfl) e⟩
  | xd fs => obtain ⟨mA, ⟨od, es, ep, e, c⟩, r⟩ := x; exact ⟨mA, ⟨od, es, ep, k _ _ (.inl rfl) e, c⟩, r⟩
  | rng lo hi => obtain ⟨t, u, v, e⟩ := x; exact ⟨t, u, v, k _ _ (.inl rfl) e⟩
  | frz ob u ih => obtain ⟨e, q⟩ := x; exact ⟨k _ _ (.inl rfl) e, ih q⟩
  | tbl ps =>
    have e : h.get? a = some { cls := .none, data := .fields ps } := x
    show h'.get? a = some { cls := .none, data := .fields ps }
    exact k a _ (.inl rfl) e
  | met f y =>
    have e : h.get? a = some (PySem.W.methodObj (.ref f) (.ref y)) := x
    show h'.get? a = some (PySem.W.methodObj (.ref f) (.ref y))
    exact k a _ (.inl rfl) e
  | ext φ => obtain ⟨p, ⟨o, e⟩, st⟩ := x; exact ⟨st _ _ p fun o q => k _ _ (.inl rfl) q, ⟨o, k _ _ (.inl rfl) e⟩, st⟩
theorem HOk.lt (x : HOk P w H h) (e : H a = some o) : a < h.objs.size := (x a o e).lt
theorem HOk.fresh (x : HOk P w H h) (e : h.objs.size ≤ a) : H a = none := by
  cases q : H a with
  | none => rfl
  | some u => exact absurd (Nat.lt_of_lt_of_le (x.lt q) e) (Nat.lt_irrefl _)
/-- every object of the heap is kept -/
theorem HOk.kept (x : HOk P w H h) (k : ∀ b u, h.get? b = some u → h'.get? b = some u) : HOk P w H h' := fun a o e =>
  (x a o e).stay (fun b u _ q => k b u q) (fun _ q => q) fun _ _ q => q
/-- a new object is laid and tracked -/
theorem HOk.laid (x : HOk P w H h) (k : ∀ b u, h.get? b = some u → h'.get? b = some u) (hp : h.objs.size ≤ a) (new : ObjOk P w (upd H a o) h' a o) : HOk P w (upd H a o) h' := fun b u e => by
  have hn := x.fresh hp
  by_cases hb : b = a
  · subst hb; rw [upd_same] at e; cases e; exact new
  · rw [upd_ne hb] at e
    exact (x b u e).stay (fun c v _ q => k c v q) (fun c q => by rw [upd_ne (ne_of_none q hn)]; exact q) fun c xs q => by rw [upd_ne (ne_of_none q hn)]; exact q
end

/-- what may be read as u: it is u, or a known u -/
def Rd (H : Hp) (a : Addr) (u : HO) : Prop := H a = some u ∨ ∃ o, H a = some (.frz o u)
theorem Rd.ok {P : Program} {w : World} {H : Hp} {h : Heap} {a : Addr} {u : HO} (r : Rd H a u) (x : HOk P w H h) : ObjOk P w H h a u := by
  rcases r with r | ⟨o, r⟩
  · exact x a u r
  · obtain ⟨_, q⟩ := x a _ r
    exact q
/-- what may be written -/
def Mut : Option HO → Prop
  | some (.lst _) => True
  | some (.dK _) => True
  | some (.dT _) => True
  | some (.set _ _) => True
  | some (.ins _ _ _) => True
  | some (.ext _) => True
  | _ => False
section
variable {P : Program} {w : World} {H : Hp} {h h' : Heap} {x e : Addr} {o' : HO}
/-- the object at e is changed: x itself, or the dict of the instance x -/
theorem HOk.write (ok : HOk P w H h) (mu : Mut (H x)) (he : e = x ∨ H e = some (.own x)) (k : ∀ b u, b ≠ e → h.get? b = some u → h'.get? b = some u) (heo : ∃ u, h'.get? e = some u)
    (new : ObjOk P w (upd H x o') h' x o') : HOk P w (upd H x o') h' := fun b u q => by
  have nown : ∀ c y, H c = some (.own y) → c ≠ x := fun c y r z => by subst z; rw [r] at mu; exact mu
  have ntup : ∀ c xs, H c = some (.tup xs) → c ≠ x := fun c xs r z => by subst z; rw [r] at mu; exact mu
  by_cases hb : b = x
  · subst hb; rw [upd_same] at q; cases q; exact new
  · rw [upd_ne hb] at q
    by_cases hbe : b = e
    · have q' : H b = some (.own x) := by
        rcases he with z | z
        · exact absurd (hbe.trans z) hb
        · rw [hbe]; exact z
      rw [q] at q'; cases q'
      obtain ⟨v, hv⟩ := heo
      exact ⟨v, by rw [hbe]; exact hv⟩
    · refine (ok b u q).stay (fun c v hc r => k c v ?_ r) (fun c r => by rw [upd_ne (nown c b r)]; exact r) fun c xs r => by rw [upd_ne (ntup c xs r)]; exact r
      rcases hc with rfl | hc
      · exact hbe
      · rintro rfl
        rcases he with z | z
        · exact nown c b hc z
        · rw [hc] at z; cases z; exact hb rfl
end

/-! ### kept unless tracked; of the frames at fs (the callers') the slots may change (an exception that passes writes there); of the records at ex (iterators) nothing is said -/
structure Un (fs ex : List Addr) (H H' : Hp) (h h' : Heap) : Prop where
  keep : ∀ b o, h.get? b = some o → H b = none → b ∉ fs → b ∉ ex → h'.get? b = some o
  slot : ∀ b o, h.get? b = some o → H b = none → b ∈ fs → b ∉ ex → ∃ sl, h'.get? b = some { o with slots := sl }
  free : ∀ b o, h.get? b = some o → H b = none → b ∉ ex → H' b = none
  there : ∀ b o, h.get? b = some o → b ∉ ex → ∃ o', h'.get? b = some o'
  tups : ∀ b xs, H b = some (.tup xs) → H' b = some (.tup xs)
  frzs : ∀ b o u, H b = some (.frz o u) → H' b = some (.frz o u)
  tbls : ∀ b ps, H b = some (.tbl ps) → ∃ more, H' b = some (.tbl (ps ++ more))
section
variable {fs fs' ex ex' : List Addr} {H H1 H2 : Hp} {h h1 h2 h' : Heap} {a x e : Addr} {o : HO}
theorem Un.any (u : Un fs ex H H1 h h1) {b : Addr} {ob : Obj} (q : h.get? b = some ob) (n : H b = none) (hx : b ∉ ex) : ∃ sl, h1.get? b = some { ob with slots := sl } := by
  by_cases hb : b ∈ fs
  · exact u.slot b ob q n hb hx
  · exact ⟨ob.slots, u.keep b ob q n hb hx⟩
theorem Un.kept (k : ∀ b u, h.get? b = some u → h'.get? b = some u) : Un fs ex H H h h' :=
  ⟨fun b ob q _ _ _ => k b ob q, fun b ob q _ _ _ => ⟨ob.slots, k b ob q⟩, fun _ _ _ n _ => n, fun b ob q _ => ⟨ob, k b ob q⟩, fun _ _ q => q, fun _ _ _ q => q, fun _ ps q => ⟨#[], by rw [q]; simp⟩⟩
theorem Un.refl : Un fs ex H H h h := Un.kept fun _ _ q => q
theorem Un.laid (k : ∀ b u, h.get? b = some u → h'.get? b = some u) (hp : h.objs.size ≤ a) (hn : H a = none) : Un fs ex H (upd H a o) h h' where
  keep := fun b u q _ _ _ => k b u q
  slot := fun b u q _ _ _ => ⟨u.slots, k b u q⟩
  free := fun b u q n _ => by rw [upd_ne (Nat.ne_of_lt (Nat.lt_of_lt_of_le (Heap.lt_size q) hp))]; exact n
  there := fun b u q _ => ⟨u, k b u q⟩
  tups := fun b xs q => by rw [upd_ne (ne_of_none q hn)]; exact q
  frzs := fun b u xs q => by rw [upd_ne (ne_of_none q hn)]; exact q
  tbls := fun b ps q => ⟨#[], by rw [upd_ne (ne_of_none q hn), q]; simp⟩
theorem Un.write (mu : Mut (H x)) (he : e = x ∨ H e = some (.own x)) (k : ∀ b u, b ≠ e → h.get? b = some u → h'.get? b = some u) (heo : ∃ u, h'.get? e = some u) : Un fs ex H (upd H x o) h h' := by
  have hx : ∀ b, H b = none → b ≠ x := fun b n z => by subst z; rw [n] at mu; exact mu
  have hb : ∀ b, H b = none → b ≠ e := fun b n z => by
    subst z
    rcases he with r | r
    · exact hx b n r
    · rw [n] at r; cases r
  have hm : ∀ b u, H b = some u → ¬ Mut (some u) → b ≠ x := fun b u q nm z => by subst z; rw [q] at mu; exact nm mu
  refine ⟨fun b u q n _ _ => k b u (hb b n) q, fun b u q n _ _ => ⟨u.slots, k b u (hb b n) q⟩, fun b u q n _ => by rw [upd_ne (hx b n)]; exact n, fun b u q _ => ?_,
    fun b xs q => by rw [upd_ne (hm b _ q fun z => z)]; exact q, fun b u xs q => by rw [upd_ne (hm b _ q fun z => z)]; exact q, fun b ps q => ⟨#[], by rw [upd_ne (hm b _ q fun z => z), q]; simp⟩⟩
  by_cases hbe : b = e
  · subst hbe; exact heo
  · exact ⟨u, k b u hbe q⟩
end

/-! ### the heap without what is tracked -/
def trk (h : Heap) (H : Hp) : List Addr := (List.range h.objs.size).filter fun a => (H a).isSome
def hidT (h : Heap) (H : Hp) : Heap := PySem.W.hideAll h (trk h H)
theorem hidT_size (h : Heap) (H : Hp) : (hidT h H).objs.size = h.objs.size := PySem.W.hideAll_size _ _
theorem hidT_get {h : Heap} {H : Hp} {b : Addr} {o : Obj} (e : h.get? b = some o) (n : H b = none) : (hidT h H).get? b = some o :=
  PySem.W.hideAll_get _ e fun hm => by
    have q : (H b).isSome = true := (List.mem_filter.mp hm).2
    rw [n] at q; simp at q
theorem of_hidT {h : Heap} {H : Hp} {b : Addr} {o : Obj} (e : (hidT h H).get? b = some o) : h.get? b = some o ∧ H b = none := by
  have e' : h.get? b = some o := PySem.W.of_hideAll (trk h H) e
  refine ⟨e', ?_⟩
  cases q : H b with
  | none => rfl
  | some x =>
    have hm : b ∈ trk h H := List.mem_filter.mpr ⟨List.mem_range.mpr (Heap.lt_size e'), by simp [q]⟩
    have z : (hidT h H).get? b = none := PySem.W.hideAll_none (trk h H) hm
    rw [z] at e; cases e

/-! ### OpenK's ledger, filled with every new object but one -/
end L2

namespace L2
open PySem PySem.Spec PyProof.Rows

/-- the module's facts, over the base: the heap at the law's entry without what is tracked there -/
structure Mod (K : PySem.W.Frag) (mg : Str → Option Value) (base : Heap) : Prop where
  kin : K.In base
  glob : base.Ns mainGlobals mg
  blt : ∃ mb, base.Ns builtinsNs mb ∧ ∀ x : Str, x ≠ "__name__" → mb x = bootBuiltins x
  nolimit : base.NoLimit

/-- the context: a def's body (or a comprehension's block) running. base: fixed through the whole law; s₀, H₀: the entry; outer: the frames whose slots others may change (a def's callers); stack: all frames that run;
   ex: iterators that were made ahead of the entry and are walked here (a comprehension's); fn: the names whose cells were made at the entry (a def: all; a comprehension's block: its own); calm: not within an except suite; pn: pins that every state bears; xe: what is wanted of an exception that leaves the code -/
structure Cx where
  prog : Program
  w : World
  K : PySem.W.Frag
  mg : Str → Option Value
  base : Heap
  A : Around
  N : List Str
  s₀ : Shared
  H₀ : Hp
  env : Env
  outer : List Env
  stack : List Env
  ex : List Addr
  fn : Str → Bool
  calm : Bool
  pn : List (Addr × Obj)
  xe : Value → Shared → Prop
/-- the callers' frames -/
def frs (l : List Env) : List Addr := l.filterMap (·.frame)
abbrev Cx.fs (X : Cx) : List Addr := frs X.outer

def Vis (sc : Scope) (x : Str) : Prop := sc.names.lookup x = some .local ∨ sc.names.lookup x = some .cell ∨ sc.names.lookup x = some .free
def Loc (sc : Scope) (x : Str) : Prop := sc.names.lookup x = some .local ∨ sc.names.lookup x = some .cell
def Look (env : Env) (h : Heap) (m : Str → Option Value) (x : Str) (u : Value) : Prop :=
  (env.kindOf x = some .local ∧ m x = some u) ∨ ((env.kindOf x = some .cell ∨ env.kindOf x = some .free) ∧ ∃ c, env.cells.lookup x = some c ∧ h.IsCell c (some u))

structure Cx.Ok (X : Cx) : Prop where
  mod : Mod X.K X.mg X.base
  kind : X.env.scope.kind = .function
  glob : X.env.globals = mainGlobals
  blt : X.env.builtins = builtinsNs
  above : X.s₀.heap.objs.size ≤ X.env.locals
  inj : ∀ x y c, X.env.cells.lookup x = some c → X.env.cells.lookup y = some c → x = y
  has : ∀ x, (X.env.kindOf x = some .cell ∨ X.env.kindOf x = some .free) → ∃ c, X.env.cells.lookup x = some c
  cab : ∀ x c, X.fn x = true → X.env.cells.lookup x = some c → X.s₀.heap.objs.size ≤ c
  hd : X.calm = true → X.A.handled = none
  frames : X.A.frames = some X.stack
  stk : X.stack = X.outer ∨ (X.stack = X.env :: X.outer ∧ X.env.frame = some X.env.locals)
  exf : ∀ b ∈ X.ex, b ≠ X.env.locals ∧ ∀ x c, X.env.cells.lookup x = some c → c ≠ b
  bs : ∀ b o, X.base.get? b = some o → X.s₀.heap.get? b = some o ∧ X.H₀ b = none
  bsz : X.base.objs.size ≤ X.s₀.heap.objs.size
  noex : ∀ b o, X.base.get? b = some o → b ∉ X.ex
  exfs : ∀ b ∈ X.ex, b ∉ X.fs
  funs : X.s₀.heap.FunFrames X.base X.outer
  frf : ∀ b ∈ X.fs, X.H₀ b = none

structure Inv (X : Cx) (pins : List (Addr × Obj)) (σ : List (Option V)) (H : Hp) (s : Shared) : Prop where
  ok : X.Ok
  os : s.os = X.s₀.os
  bare : AllBare s.gens
  base : Un X.fs X.ex X.H₀ H X.s₀.heap s.heap
  loc : ∃ m, s.heap.Ns X.env.locals m ∧ ∀ (i : Nat) (x : Str) (v : V), X.N[i]? = some x → σ[i]? = some (some v) → Vis X.env.scope x → ∃ u, RelV v u ∧ Look X.env s.heap m x u
  cell : ∀ x c, X.env.cells.lookup x = some c → ∃ v, s.heap.IsCell c v
  free : H X.env.locals = none
  freeC : ∀ x c, X.env.cells.lookup x = some c → H c = none
  pin : ∀ p ∈ X.pn ++ pins, s.heap.get? p.1 = some p.2 ∧ H p.1 = none ∧ p.1 ≠ X.env.locals ∧ p.1 ∉ X.fs ∧ ∀ v, p.2.data ≠ .cell v
  hok : HOk X.prog X.w H s.heap
  len : σ.length = X.N.length

section
variable {X : Cx} {pins : List (Addr × Obj)} {σ : List (Option V)} {H H' : Hp} {s : Shared} {h' : Heap}

theorem Cx.Ok.nofr (ok : X.Ok) {b : Addr} {o : Obj} (e : X.base.get? b = some o) : b ∉ X.fs := fun hb => by
  have := (ok.funs.mem hb).1
  rw [e] at this; cases this
theorem Inv.bs (I : Inv X pins σ H s) : ∀ b o, X.base.get? b = some o → s.heap.get? b = some o ∧ H b = none := fun b o e =>
  ⟨I.base.keep b o (I.ok.bs b o e).1 (I.ok.bs b o e).2 (I.ok.nofr e) (I.ok.noex b o e), I.base.free b o (I.ok.bs b o e).1 (I.ok.bs b o e).2 (I.ok.noex b o e)⟩
theorem Inv.bk (I : Inv X pins σ H s) : ∀ b o, X.base.get? b = some o → s.heap.get? b = some o := fun b o e => (I.bs b o e).1
theorem Inv.mod (I : Inv X pins σ H s) : Mod X.K X.mg X.base := I.ok.mod
theorem Inv.kIn (I : Inv X pins σ H s) : X.K.In s.heap := I.ok.mod.kin.keeps I.bk
theorem Inv.lt (I : Inv X pins σ H s) : X.env.locals < s.heap.objs.size := let ⟨_, hn, _⟩ := I.loc; hn.lt
theorem Inv.sz (I : Inv X pins σ H s) : X.s₀.heap.objs.size ≤ s.heap.objs.size := Nat.le_trans I.ok.above (Nat.le_of_lt I.lt)
theorem Inv.nofs (I : Inv X pins σ H s) {a : Addr} (h : s.heap.objs.size ≤ a) : a ∉ X.fs := fun hb => by
  obtain ⟨_, o, ho, _⟩ := I.ok.funs.mem hb
  exact absurd (Nat.lt_of_lt_of_le (Heap.lt_size ho) (Nat.le_trans I.sz h)) (Nat.lt_irrefl _)
theorem Inv.cne (I : Inv X pins σ H s) : ∀ x c, X.env.cells.lookup x = some c → c ≠ X.env.locals := fun x c e z => by
  obtain ⟨v, o, ho, hd⟩ := I.cell x c e
  obtain ⟨m, ⟨o', es, ep, ho', hd', _⟩, _⟩ := I.loc
  rw [z, ho'] at ho; cases ho; rw [hd'] at hd; cases hd
theorem Inv.funs (I : Inv X pins σ H s) : s.heap.FunFrames X.base X.outer := by
  have all : ∀ (l : List Env), (∀ b ∈ frs l, b ∈ X.fs) → X.s₀.heap.FunFrames X.base l → s.heap.FunFrames X.base l := by
    intro l
    induction l with
    | nil => intro _ _; trivial
    | cons env r ih =>
      intro hs hl
      obtain ⟨hk, ⟨L, o, hf, hn, ho, hd⟩, hr⟩ := hl
      have hL : L ∈ X.fs := hs L (by unfold frs; rw [List.filterMap_cons, hf]; exact List.mem_cons_self)
      obtain ⟨sl, e⟩ := I.base.slot L o ho (I.ok.frf L hL) hL fun z => I.ok.exfs L z hL
      exact ⟨hk, ⟨L, _, hf, hn, e, hd⟩, ih (fun b hb => hs b (by unfold frs; rw [List.filterMap_cons, hf]; exact List.mem_cons_of_mem _ hb)) hr⟩
  exact all X.outer (fun _ hb => hb) I.ok.funs

/-- the frames that run, for a call -/
theorem Inv.stack (I : Inv X pins σ H s) : s.heap.FunFrames X.base X.stack := by
  rcases I.ok.stk with e | ⟨e, hf⟩
  · rw [e]; exact I.funs
  · rw [e]
    obtain ⟨m, hn, _⟩ := I.loc
    refine .cons (by rw [I.ok.kind]; decide) hf hn ?_ I.funs
    exact Heap.get?_none_of_le (Nat.le_trans I.ok.bsz I.ok.above)
theorem Inv.stkSub (I : Inv X pins σ H s) : ∀ b ∈ frs X.stack, b ∈ X.env.locals :: X.fs := fun b hb => by
  rcases I.ok.stk with e | ⟨e, hf⟩
  · rw [e] at hb; exact List.mem_cons_of_mem _ hb
  · rw [e] at hb
    unfold frs at hb
    rw [List.filterMap_cons, hf] at hb
    exact hb
theorem Inv.stkFree (I : Inv X pins σ H s) : ∀ b ∈ frs X.stack, H b = none := fun b hb => by
  rcases List.mem_cons.mp (I.stkSub b hb) with e | hb
  · rw [e]; exact I.free
  · obtain ⟨_, o, ho, _⟩ := I.ok.funs.mem hb
    exact I.base.free b o ho (I.ok.frf b hb) fun z => I.ok.exfs b z hb

/-- THE STEP: the untracked objects but the frame and the records at ch are kept (the callers' frames up to slots), the frame's map is kept, the new abstract heap is held -/
theorem Inv.step {g' : Array GenState} {t' : Nat} {d' : Drawn} {ch : List Addr} (I : Inv X pins σ H s)
    (hch : ∀ b ∈ ch, (b ∈ X.ex ∨ X.s₀.heap.objs.size ≤ b) ∧ b ≠ X.env.locals ∧ (∀ x c, X.env.cells.lookup x = some c → c ≠ b) ∧ ∀ p ∈ X.pn ++ pins, p.1 ≠ b)
    (keep : ∀ b o, b ≠ X.env.locals → b ∉ X.fs → b ∉ ch → s.heap.get? b = some o → H b = none → h'.get? b = some o)
    (slot : ∀ b o, b ≠ X.env.locals → b ∈ X.fs → b ∉ ch → s.heap.get? b = some o → H b = none → ∃ sl, h'.get? b = some { o with slots := sl }) (free : ∀ b o, b ∉ ch → s.heap.get? b = some o → H b = none → H' b = none)
    (there : ∀ b o, b ∉ ch → s.heap.get? b = some o → ∃ o', h'.get? b = some o')
    (tups : ∀ b xs, H b = some (.tup xs) → H' b = some (.tup xs)) (frzs : ∀ b o u, H b = some (.frz o u) → H' b = some (.frz o u)) (tbls : ∀ b ps, H b = some (.tbl ps) → ∃ more, H' b = some (.tbl (ps ++ more)))
    (ns : ∀ m, s.heap.Ns X.env.locals m → h'.Ns X.env.locals m) (hok : HOk X.prog X.w H' h') (hg : AllBare g') :
    Inv X pins σ H' { s with heap := h', gens := g', drawn := d', toks := t' } := by
  have neL : ∀ b o, X.s₀.heap.get? b = some o → b ≠ X.env.locals := fun b o e => Nat.ne_of_lt (Nat.lt_of_lt_of_le (Heap.lt_size e) I.ok.above)
  have neC : ∀ b o, X.s₀.heap.get? b = some o → b ∉ X.ex → b ∉ ch := fun b o e hx hb => by
    rcases (hch b hb).1 with z | z
    · exact hx z
    · exact absurd (Nat.lt_of_lt_of_le (Heap.lt_size e) z) (Nat.lt_irrefl _)
  have cellK : ∀ x c, X.env.cells.lookup x = some c → ∀ v, s.heap.IsCell c v → h'.IsCell c v := fun x c e v ⟨o, ho, hd⟩ => by
    have nch : c ∉ ch := fun z => (hch c z).2.2.1 x c e rfl
    by_cases hc : c ∈ X.fs
    · obtain ⟨sl, q⟩ := slot c o (I.cne x c e) hc nch ho (I.freeC x c e)
      exact ⟨_, q, hd⟩
    · exact ⟨o, keep c o (I.cne x c e) hc nch ho (I.freeC x c e), hd⟩
  refine ⟨I.ok, I.os, hg, ⟨fun b o e n hb hx => ?_, fun b o e n hb hx => ?_, fun b o e n hx => ?_, fun b o e hx => ?_, fun b xs e => tups b xs (I.base.tups b xs e), fun b o xs e => frzs b o xs (I.base.frzs b o xs e), fun b ps e => ?_⟩, ?_, fun x c e => ?_, ?_, fun x c e => ?_, fun p hp => ?_, hok, I.len⟩
  · exact keep b o (neL b o e) hb (neC b o e hx) (I.base.keep b o e n hb hx) (I.base.free b o e n hx)
  · obtain ⟨sl, e1⟩ := I.base.slot b o e n hb hx
    obtain ⟨sl', e2⟩ := slot b _ (neL b o e) hb (neC b o e hx) e1 (I.base.free b o e n hx)
    exact ⟨sl', e2⟩
  · obtain ⟨o', e1⟩ := I.base.there b o e hx
    exact free b o' (neC b o e hx) e1 (I.base.free b o e n hx)
  · obtain ⟨o', e1⟩ := I.base.there b o e hx
    exact there b o' (neC b o e hx) e1
  · obtain ⟨m1, e1⟩ := I.base.tbls b ps e
    obtain ⟨m2, e2⟩ := tbls b _ e1
    exact ⟨m1 ++ m2, by rw [e2, Array.append_assoc]⟩
  · obtain ⟨m, hn, hl⟩ := I.loc
    refine ⟨m, ns m hn, fun i x v e1 e2 e3 => ?_⟩
    obtain ⟨u, r, l⟩ := hl i x v e1 e2 e3
    refine ⟨u, r, ?_⟩
    rcases l with l | ⟨k, c, e, z⟩
    · exact .inl l
    · exact .inr ⟨k, c, e, cellK x c e _ z⟩
  · obtain ⟨v, z⟩ := I.cell x c e
    exact ⟨v, cellK x c e v z⟩
  · obtain ⟨m, ⟨o, _, _, ho, _⟩, _⟩ := I.loc
    exact free _ o (fun z => (hch _ z).2.1 rfl) ho I.free
  · obtain ⟨v, o, ho, hd⟩ := I.cell x c e
    exact free c o (fun z => (hch c z).2.2.1 x c e rfl) ho (I.freeC x c e)
  · obtain ⟨e, n, ne, nf, d⟩ := I.pin p hp
    have nch : p.1 ∉ ch := fun z => (hch p.1 z).2.2.2 p hp rfl
    exact ⟨keep p.1 p.2 ne nf nch e n, free p.1 p.2 nch e n, ne, nf, d⟩
/-- .. where the frame's own object is kept too -/
theorem Inv.un {t' : Nat} (I : Inv X pins σ H s) (u : Un X.fs [] H H' s.heap h') (hok : HOk X.prog X.w H' h') : Inv X pins σ H' { s with heap := h', toks := t' } := by
  obtain ⟨m, ⟨o, es, ep, ho, r⟩, _⟩ := id I.loc
  obtain ⟨sl, hL⟩ := u.any ho I.free (by simp)
  exact I.step (g' := s.gens) (d' := s.drawn) (ch := []) (fun _ z => nomatch z) (fun b o _ hb _ e n => u.keep b o e n hb (by simp)) (fun b o _ hb _ e n => u.slot b o e n hb (by simp)) (fun b o _ e n => u.free b o e n (by simp)) (fun b o _ e => u.there b o e (by simp)) u.tups u.frzs u.tbls (fun m' hm => by
    obtain ⟨o', es', ep', ho', r'⟩ := hm
    rw [ho] at ho'; cases ho'
    exact ⟨_, es', ep', hL, r'⟩) hok I.bare
/-- behind a call (or a comprehension's block): the slots of this frame may have changed too, the records at ch may have turned -/
theorem Inv.call {g' : Array GenState} {t' : Nat} {d' : Drawn} {ch : List Addr} (I : Inv X pins σ H s) (u : Un (frs X.stack) ch H H' s.heap h') (hok : HOk X.prog X.w H' h') (hg : AllBare g')
    (hch : ∀ b ∈ ch, (b ∈ X.ex ∨ X.s₀.heap.objs.size ≤ b) ∧ b ≠ X.env.locals ∧ (∀ x c, X.env.cells.lookup x = some c → c ≠ b) ∧ ∀ p ∈ X.pn ++ pins, p.1 ≠ b) :
    Inv X pins σ H' { s with heap := h', gens := g', drawn := d', toks := t' } := by
  obtain ⟨m, ⟨o, es, ep, ho, r⟩, _⟩ := id I.loc
  obtain ⟨sl, hL⟩ := u.any ho I.free fun z => (hch _ z).2.1 rfl
  exact I.step (ch := ch) hch (fun b o hL hb hc e n => u.keep b o e n (fun z => (List.mem_cons.mp (I.stkSub b z)).elim hL hb) hc) (fun b o _ _ hc e n => u.any e n hc) (fun b o hc e n => u.free b o e n hc) (fun b o hc e => u.there b o e hc) u.tups u.frzs u.tbls (fun m' hm => by
    obtain ⟨o', es', ep', ho', r'⟩ := hm
    rw [ho] at ho'; cases ho'
    exact ⟨_, es', ep', hL, r'⟩) hok hg
/-- an untracked record of ours (an iterator) has turned -/
theorem Inv.turned {t' : Nat} {it : Addr} (I : Inv X pins σ H s) (k : ∀ b o, b ≠ it → s.heap.get? b = some o → h'.get? b = some o) (hn : H it = none) (hL : it ≠ X.env.locals)
    (h1 : it ∈ X.ex ∨ X.s₀.heap.objs.size ≤ it) (h2 : ∀ x c, X.env.cells.lookup x = some c → c ≠ it) (h3 : ∀ p ∈ X.pn ++ pins, p.1 ≠ it) : Inv X pins σ H { s with heap := h', toks := t' } := by
  have nit : ∀ b u, H b = some u → b ≠ it := fun b u e z => by rw [z, hn] at e; cases e
  refine I.step (g' := s.gens) (d' := s.drawn) (ch := [it]) (fun b hb => ?_) (fun b o _ _ hc e _ => k b o (fun z => hc (by simp [z])) e) (fun b o _ _ hc e _ => ⟨o.slots, k b o (fun z => hc (by simp [z])) e⟩) (fun _ _ _ _ n => n)
    (fun b o hc e => ⟨o, k b o (fun z => hc (by simp [z])) e⟩) (fun _ _ e => e) (fun _ _ _ e => e) (fun b ps e => ⟨#[], by rw [e]; simp⟩) (fun m hm => ?_) (fun b u e => ?_) I.bare
  · have e : b = it := by simpa using hb
    subst e
    exact ⟨h1, hL, h2, h3⟩
  · obtain ⟨o, es, ep, ho, r⟩ := hm
    exact ⟨o, es, ep, k _ o (Ne.symm hL) ho, r⟩
  · refine (I.hok b u e).stay (fun c v hc q => k c v ?_ q) (fun _ q => q) fun _ _ q => q
    rcases hc with z | z
    · rw [z]; exact nit b u e
    · exact nit c _ z
theorem Inv.tok (I : Inv X pins σ H s) (t : Nat) : Inv X pins σ H { s with toks := t } := I.un (h' := s.heap) (t' := t) Un.refl I.hok
/-- all objects kept -/
theorem Inv.kept {t' : Nat} (I : Inv X pins σ H s) (k : ∀ b u, s.heap.get? b = some u → h'.get? b = some u) : Inv X pins σ H { s with heap := h', toks := t' } := I.un (Un.kept k) (I.hok.kept k)
/-- a new object laid and tracked -/
theorem Inv.laid {a : Addr} {o : HO} {t' : Nat} (I : Inv X pins σ H s) (k : ∀ b u, s.heap.get? b = some u → h'.get? b = some u) (hp : s.heap.objs.size ≤ a) (new : ObjOk X.prog X.w (upd H a o) h' a o) :
    Inv X pins σ (upd H a o) { s with heap := h', toks := t' } := I.un (Un.laid k hp (I.hok.fresh hp)) (I.hok.laid k hp new)
/-- an object written -/
theorem Inv.write {x e : Addr} {o : HO} {t' : Nat} (I : Inv X pins σ H s) (mu : Mut (H x)) (he : e = x ∨ H e = some (.own x)) (k : ∀ b u, b ≠ e → s.heap.get? b = some u → h'.get? b = some u) (heo : ∃ u, h'.get? e = some u)
    (new : ObjOk X.prog X.w (upd H x o) h' x o) : Inv X pins σ (upd H x o) { s with heap := h', toks := t' } := I.un (Un.write mu he k heo) (I.hok.write mu he k heo new)
theorem Inv.pins_of {pins' : List (Addr × Obj)} (I : Inv X pins σ H s) (h : ∀ p ∈ pins', s.heap.get? p.1 = some p.2 ∧ H p.1 = none ∧ p.1 ≠ X.env.locals ∧ p.1 ∉ X.fs ∧ ∀ v, p.2.data ≠ .cell v) : Inv X pins' σ H s :=
  ⟨I.ok, I.os, I.bare, I.base, I.loc, I.cell, I.free, I.freeC, fun p hp => (List.mem_append.mp hp).elim (fun z => I.pin p (List.mem_append_left _ z)) (h p), I.hok, I.len⟩

theorem nodup_ix {N : List Str} (hN : N.Nodup) {i j : Nat} {x : Str} (a : N[i]? = some x) (b : N[j]? = some x) : i = j := by
  obtain ⟨h1, e1⟩ := List.getElem?_eq_some_iff.mp a
  obtain ⟨h2, e2⟩ := List.getElem?_eq_some_iff.mp b
  exact (List.getElem_inj hN).mp (e1.trans e2.symm)

/-- a name is stored; what changed -/
theorem store_ok2 {M : Model} {A : Around} {E : Value → Shared → Prop} {i : Nat} {x : Str} {v : V} {u : Value} {Q : Unit → Shared → Prop} (I : Inv X pins σ H s) (hN : X.N.Nodup) (hi : X.N[i]? = some x) (hx : Loc X.env.scope x) (r : RelV v u)
    (h : ∀ s', Inv X pins (σ.set i (some v)) H s' → (∃ a, Heap.SameBut a s.heap s'.heap ∧ (a = X.env.locals ∨ X.env.cells.lookup x = some a)) → Q () s') (hf : X.fn x = true ∨ X.env.scope.names.lookup x = some .local := by first | exact .inl rfl | exact .inr rfl | assumption) : wpAny M A (storeName X.env x u) Q E s := by
  obtain ⟨m, hn, hl⟩ := id I.loc
  have hcls : (X.env.scope.kind == .class || (X.env.scope.kind == .module && X.env.locals != X.env.globals)) = false := by rw [I.ok.kind]; rfl
  have hiσ : i < σ.length := by rw [I.len]; exact (List.getElem?_eq_some_iff.mp hi).1
  have cne := I.cne
  have tracked : ∀ {a : Addr} {h' : Heap}, (∃ o, s.heap.get? a = some o ∧ H a = none) → Heap.SameBut a s.heap h' → HOk X.prog X.w H h' := fun {a h'} ha hs b ob e => by
    obtain ⟨_, _, hfree⟩ := ha
    refine (I.hok b ob e).stay (fun c w' hc q => (hs.2 c ?_).trans q) (fun _ q => q) fun _ _ q => q
    rintro rfl
    rcases hc with rfl | hc
    · rw [hfree] at e; cases e
    · rw [hfree] at hc; cases hc
  rcases hx with hk | hk
  · refine wpAny_storeName_local hk hn (fun h' hn' hs => ?_) hcls
    obtain ⟨oL, _, _, hoL, _⟩ := id hn
    refine h _ ⟨I.ok, I.os, I.bare, ⟨fun b o e n hb hx => ?_, fun b o e n hb hx => ?_, I.base.free, fun b o e hx => ?_, I.base.tups, I.base.frzs, I.base.tbls⟩, ⟨_, hn', fun j y v' e1 e2 e3 => ?_⟩, fun y c e => ?_, I.free, I.freeC, fun p hp => ?_, tracked ⟨oL, hoL, I.free⟩ hs, by simpa using I.len⟩ ⟨_, hs, .inl rfl⟩
    · exact (hs.2 b (Nat.ne_of_lt (Nat.lt_of_lt_of_le (Heap.lt_size e) I.ok.above))).trans (I.base.keep b o e n hb hx)
    · obtain ⟨sl, e1⟩ := I.base.slot b o e n hb hx
      exact ⟨sl, (hs.2 b (Nat.ne_of_lt (Nat.lt_of_lt_of_le (Heap.lt_size e) I.ok.above))).trans e1⟩
    · obtain ⟨o', e1⟩ := I.base.there b o e hx
      exact ⟨o', (hs.2 b (Nat.ne_of_lt (Nat.lt_of_lt_of_le (Heap.lt_size e) I.ok.above))).trans e1⟩
    · by_cases hj : j = i
      · subst hj
        rw [hi] at e1; cases e1
        rw [List.getElem?_set_self hiσ] at e2
        cases e2
        exact ⟨u, r, .inl ⟨hk, by simp⟩⟩
      · rw [List.getElem?_set_ne (Ne.symm hj)] at e2
        obtain ⟨u', r', q⟩ := hl j y v' e1 e2 e3
        refine ⟨u', r', ?_⟩
        rcases q with ⟨k, e⟩ | ⟨k, c, e, z⟩
        · refine .inl ⟨k, ?_⟩
          have : y ≠ x := fun e => hj (nodup_ix hN e1 (e ▸ hi))
          simp [this, e]
        · exact .inr ⟨k, c, e, z.sameBut hs (cne y c e)⟩
    · obtain ⟨w', z⟩ := I.cell y c e
      exact ⟨w', z.sameBut hs (cne y c e)⟩
    · obtain ⟨e, n, ne, nf, d⟩ := I.pin p hp
      exact ⟨(hs.2 p.1 ne).trans e, n, ne, nf, d⟩
  · have hfn : X.fn x = true := by
      rcases hf with z | z
      · exact z
      · rw [z] at hk; cases hk
    obtain ⟨c, hc⟩ := I.ok.has x (.inl hk)
    obtain ⟨w', z⟩ := I.cell x c hc
    refine wpAny_storeName_cell I.ok.kind hk hc z (fun h' hc' hs => ?_)
    obtain ⟨oc, hoc, hocd⟩ := id z
    refine h { s with heap := h' } ⟨I.ok, I.os, I.bare, ⟨fun b o e n hb hx => ?_, fun b o e n hb hx => ?_, I.base.free, fun b o e hx => ?_, I.base.tups, I.base.frzs, I.base.tbls⟩, ⟨m, hn.sameBut hs (Ne.symm (cne x c hc)), fun j y v' e1 e2 e3 => ?_⟩, fun y c' e => ?_, I.free, I.freeC, fun p hp => ?_, tracked ⟨oc, hoc, I.freeC x c hc⟩ hs, by simpa using I.len⟩ ⟨c, hs, .inr hc⟩
    · exact (hs.2 b (Nat.ne_of_lt (Nat.lt_of_lt_of_le (Heap.lt_size e) (I.ok.cab x c hfn hc)))).trans (I.base.keep b o e n hb hx)
    · obtain ⟨sl, e1⟩ := I.base.slot b o e n hb hx
      exact ⟨sl, (hs.2 b (Nat.ne_of_lt (Nat.lt_of_lt_of_le (Heap.lt_size e) (I.ok.cab x c hfn hc)))).trans e1⟩
    · obtain ⟨o', e1⟩ := I.base.there b o e hx
      exact ⟨o', (hs.2 b (Nat.ne_of_lt (Nat.lt_of_lt_of_le (Heap.lt_size e) (I.ok.cab x c hfn hc)))).trans e1⟩
    · by_cases hj : j = i
      · subst hj
        rw [hi] at e1; cases e1
        rw [List.getElem?_set_self hiσ] at e2
        cases e2
        exact ⟨u, r, .inr ⟨.inl hk, c, hc, hc'⟩⟩
      · rw [List.getElem?_set_ne (Ne.symm hj)] at e2
        obtain ⟨u', r', q⟩ := hl j y v' e1 e2 e3
        refine ⟨u', r', ?_⟩
        rcases q with q | ⟨k, c', e, z'⟩
        · exact .inl q
        · refine .inr ⟨k, c', e, z'.sameBut hs ?_⟩
          rintro rfl
          exact hj (nodup_ix hN e1 (I.ok.inj _ _ _ e hc ▸ hi))
    · by_cases hcc : c' = c
      · subst hcc; exact ⟨_, hc'⟩
      · obtain ⟨w2, z2⟩ := I.cell y c' e
        exact ⟨w2, z2.sameBut hs hcc⟩
    · obtain ⟨e, n, ne, nf, d⟩ := I.pin p hp
      refine ⟨(hs.2 p.1 ?_).trans e, n, ne, nf, d⟩
      intro q
      rw [q, hoc] at e
      have q' : oc = p.2 := Option.some.inj e
      exact d w' (by rw [← q']; exact hocd)
theorem store_ok {M : Model} {A : Around} {E : Value → Shared → Prop} {i : Nat} {x : Str} {v : V} {u : Value} {Q : Unit → Shared → Prop} (I : Inv X pins σ H s) (hN : X.N.Nodup) (hi : X.N[i]? = some x) (hx : Loc X.env.scope x) (r : RelV v u)
    (h : ∀ s', Inv X pins (σ.set i (some v)) H s' → Q () s') (hf : X.fn x = true ∨ X.env.scope.names.lookup x = some .local := by first | exact .inl rfl | exact .inr rfl | assumption) : wpAny M A (storeName X.env x u) Q E s :=
  store_ok2 I hN hi hx r (fun s' I' _ => h s' I') hf
/-- behind a call or a block, the state as it is -/
theorem Inv.call' {s' : Shared} {ch : List Addr} (I : Inv X pins σ H s) (ho : s'.os = s.os) (u : Un (frs X.stack) ch H H' s.heap s'.heap) (hok : HOk X.prog X.w H' s'.heap) (hg : AllBare s'.gens)
    (hch : ∀ b ∈ ch, (b ∈ X.ex ∨ X.s₀.heap.objs.size ≤ b) ∧ b ≠ X.env.locals ∧ (∀ x c, X.env.cells.lookup x = some c → c ≠ b) ∧ ∀ p ∈ X.pn ++ pins, p.1 ≠ b) : Inv X pins σ H' s' := by
  obtain ⟨h', g', d', t', o'⟩ := s'
  have e : o' = s.os := ho
  subst e
  exact I.call (g' := g') (t' := t') (d' := d') u hok hg hch
end

/-! ### the judgements -/
/-- an exception: its class, its own dict's address (where it has one), the abstract heap behind it -/
abbrev XK := Value → Option Addr → Hp → Prop
abbrev St := List (Option V)
abbrev VK := V → Hp → Prop
/-- an expression's reading; a test's; an argument list's -/
abbrev TE := St → Hp → VK → Prop
abbrev TT := St → Hp → (Bool → Hp → Prop) → Prop
abbrev TA := St → Hp → (List V → Hp → Prop) → Prop
/-- what is wanted behind a statement -/
structure Ends where
  nx : St → Hp → Prop
  rt : VK
  bk : St → Hp → Prop := fun _ _ => False
  ct : St → Hp → Prop := fun _ _ => False
abbrev TS := Ends → St → Hp → Prop

def EP (X : Cx) (pins : List (Addr × Obj)) (σ : St) (Q : VK) (u : Value) (s' : Shared) : Prop := ∃ v H', Inv X pins σ H' s' ∧ RelV v u ∧ Q v H'
def TP (X : Cx) (pins : List (Addr × Obj)) (σ : St) (Q : Bool → Hp → Prop) (b : Bool) (s' : Shared) : Prop := ∃ H', Inv X pins σ H' s' ∧ Q b H'
def AP (X : Cx) (pins : List (Addr × Obj)) (σ : St) (Q : List V → Hp → Prop) (us : List Value) (s' : Shared) : Prop := ∃ vs H', Inv X pins σ H' s' ∧ Vals vs us ∧ Q vs H'
def SP (X : Cx) (pins : List (Addr × Obj)) (D : Ends) (f : Flow) (s' : Shared) : Prop :=
  match f with
  | .next => ∃ σ' H', Inv X pins σ' H' s' ∧ D.nx σ' H'
  | .brk => ∃ σ' H', Inv X pins σ' H' s' ∧ D.bk σ' H'
  | .cont => ∃ σ' H', Inv X pins σ' H' s' ∧ D.ct σ' H'
  | .ret u => ∃ v σ' H', Inv X pins σ' H' s' ∧ RelV v u ∧ D.rt v H'

def PE (X : Cx) (e : Expr) (t : TE) : Prop :=
  ∀ (pins : List (Addr × Obj)) (s : Shared) (σ : St) (H : Hp) (Q : VK), Inv X pins σ H s → t σ H Q → wpAny (model X.prog X.w) X.A (eval e X.env) (EP X pins σ Q) X.xe s
def PT (X : Cx) (e : Expr) (t : TT) : Prop :=
  ∀ (pins : List (Addr × Obj)) (s : Shared) (σ : St) (H : Hp) (Q : Bool → Hp → Prop), Inv X pins σ H s → t σ H Q → wpAny (model X.prog X.w) X.A (isTrue e X.env (eval e X.env)) (TP X pins σ Q) X.xe s
/-- a test whatever its 'whole' is (and, or) -/
def PW (X : Cx) (e : Expr) (t : TT) : Prop :=
  ∀ (whole : Sem Value) (pins : List (Addr × Obj)) (s : Shared) (σ : St) (H : Hp) (Q : Bool → Hp → Prop), Inv X pins σ H s → t σ H Q → wpAny (model X.prog X.w) X.A (isTrue e X.env whole) (TP X pins σ Q) X.xe s
theorem PW.pt {X : Cx} {e : Expr} {t : TT} (h : PW X e t) : PT X e t := h _
/-- an argument list (no star), from the left -/
def PA (X : Cx) (es : List Expr) (t : TA) : Prop :=
  ∀ (pos : Pos) (pins : List (Addr × Obj)) (s : Shared) (σ : St) (H : Hp) (Q : List V → Hp → Prop), Inv X pins σ H s → t σ H Q → wpAny (model X.prog X.w) X.A (spliced (backTo pos (starEach es X.env))) (AP X pins σ Q) X.xe s
def PS (X : Cx) (st : Stmt) (t : TS) : Prop :=
  ∀ (pins : List (Addr × Obj)) (s : Shared) (σ : St) (H : Hp) (D : Ends), Inv X pins σ H s → t D σ H → wpAny (model X.prog X.w) X.A (exec st X.env) (SP X pins D) X.xe s
def PSs (X : Cx) (st : List Stmt) (t : TS) : Prop :=
  ∀ (pins : List (Addr × Obj)) (s : Shared) (σ : St) (H : Hp) (D : Ends), Inv X pins σ H s → t D σ H → wpAny (model X.prog X.w) X.A (execs st X.env) (SP X pins D) X.xe s
/-- weaken the end -/
theorem thn {α : Type} {t : Sem α} {Q Q' : α → Shared → Prop} {M : Model} {A : Around} {E : Value → Shared → Prop} {s : Shared} (h : wpAny M A t Q E s) (hQ : ∀ a s, Q a s → Q' a s) : wpAny M A t Q' E s := wpAny_mono h hQ fun _ _ x => x
end L2

namespace L2
open PySem PySem.Spec PyProof.Rows
section
variable {X : Cx}


/-! ### names and constants -/
def tVar (i : Nat) : TE := fun σ H Q => ∃ v, σ[i]? = some (some v) ∧ Q v H
def tC (v : V) : TE := fun _ H Q => Q v H
theorem pe_var {i : Nat} {x : Str} {pos : Pos} (hN : X.N[i]? = some x) (hv : Vis X.env.scope x) (hd : (x == ("__debug__" : Str)) = false := by decide) (hcd : (x == ("__classdict__" : Str)) = false := by decide) : PE X (.Name x pos) (tVar i) := by
  intro pins s σ H Q I h
  obtain ⟨v, e, h⟩ := h
  obtain ⟨m, hn, hl⟩ := I.loc
  obtain ⟨u, r, l⟩ := hl i x v hN e hv
  have fin : EP X pins σ Q u s := ⟨v, H, I, r, h⟩
  rcases l with ⟨hk, hm⟩ | ⟨hk, c, hc, hcell⟩
  · exact wpAny_Name (wpAny_loadName_local I.ok.kind hk hn hm fin) hd
  · rcases hk with hk | hk
    · exact wpAny_Name (wpAny_loadName_cell I.ok.kind hk hc hcell fin) hd
    · exact wpAny_Name (wpAny_loadName_free I.ok.kind hk hc hcell fin hcd) hd
theorem pe_int {i j pos} : PE X (.Constant (.int i) j pos) (tC (.int i)) := fun _ _ _ H _ I h => wpAny_Constant_int ⟨.int i, H, I.tok _, ⟨_, rfl⟩, h⟩
theorem pe_bl {b j pos} : PE X (.Constant (.bool b) j pos) (tC (.bl b)) := fun _ _ _ H _ I h => Constant_bool ⟨.bl b, H, I, rfl, h⟩
theorem pe_non {j pos} : PE X (.Constant .none j pos) (tC .non) := fun _ _ _ H _ I h => Constant_none ⟨.non, H, I, rfl, h⟩

/-- a global name of the def -/
def Gl (X : Cx) (x : Str) : Prop := X.env.kindOf x = some .globalImplicit
theorem ld_glob {E : Value → Shared → Prop} {pins : List (Addr × Obj)} {s : Shared} {σ : St} {H : Hp} {x : Str} {u : Value} {pos : Pos} {Q : Value → Shared → Prop} (I : Inv X pins σ H s) (hg : Gl X x) (hm : X.mg x = some u) (h : Q u s)
    (hd : (x == ("__debug__" : Str)) = false := by decide) : wpAny (model X.prog X.w) X.A (eval (.Name x pos) X.env) Q E s :=
  Calls.Name_function_global I.ok.kind hg (Calls.loadGlobal_global (by rw [I.ok.glob]; exact I.mod.glob.keeps I.bk) hm h) hd
theorem ld_blt {E : Value → Shared → Prop} {pins : List (Addr × Obj)} {s : Shared} {σ : St} {H : Hp} {x : Str} {u : Value} {pos : Pos} {Q : Value → Shared → Prop} (I : Inv X pins σ H s) (hg : Gl X x) (hm : X.mg x = none) (hv : bootBuiltins x = some u) (h : Q u s)
    (hn : x ≠ "__name__" := by decide) (hd : (x == ("__debug__" : Str)) = false := by decide) : wpAny (model X.prog X.w) X.A (eval (.Name x pos) X.env) Q E s := by
  obtain ⟨mb, h1, h2⟩ := I.mod.blt
  exact Calls.Name_function_global I.ok.kind hg (Calls.loadGlobal_builtin (by rw [I.ok.glob]; exact I.mod.glob.keeps I.bk) hm (by rw [I.ok.blt]; exact h1.keeps I.bk) ((h2 x hn).trans hv) h) hd
/-- a module's constant, a class, a function, as a value -/
theorem pe_glob {x : Str} {v : V} {u : Value} {pos : Pos} (hg : Gl X x) (hm : X.mg x = some u) (r : RelV v u) (hd : (x == ("__debug__" : Str)) = false := by decide) : PE X (.Name x pos) (tC v) :=
  fun _ _ _ H _ I h => ld_glob I hg hm ⟨v, H, I, r, h⟩ hd
theorem pe_bltn {x : Str} {v : V} {u : Value} {pos : Pos} (hg : Gl X x) (hm : X.mg x = none) (hv : bootBuiltins x = some u) (r : RelV v u) (hn : x ≠ "__name__" := by decide) (hd : (x == ("__debug__" : Str)) = false := by decide) : PE X (.Name x pos) (tC v) :=
  fun _ _ _ H _ I h => ld_blt I hg hm hv ⟨v, H, I, r, h⟩ hn hd

/-! ### arithmetic -/
variable {a b : Expr} {ta tb : TE} {pos : Pos}

/-! ### comparisons -/
/-- a comparison as a value, as a test -/
def tB (t : TE) : TT := fun σ H Q => t σ H fun x H1 => ∃ c, x = .bl c ∧ Q c H1
/-- an expression whose value is a bool, as a test -/
theorem pt_val {e : Expr} {t : TE} (h : PE X e t) (he : ∀ whole, isTrue e X.env whole = (do let v ← whole; standAt e.pos; holding [v] (truthy v)) := by intro _; rfl) : PT X e (tB t) := by
  intro pins s σ H Q I hw
  refine isTrue_plain (thn (h pins s σ H _ I hw) fun v s1 ⟨x, H1, I1, r1, q1⟩ => ?_) (he _)
  obtain ⟨d, rfl, q⟩ := q1
  cases r1
  exact wpAny_truthy_bool ⟨H1, I1, q⟩

/-! ### and, or, not -/
variable {tA tB' : TT} {rest : List Expr}
def tAnd (t u : TT) : TT := fun σ H Q => t σ H fun c H1 => if c = true then u σ H1 Q else Q false H1
def tOr (t u : TT) : TT := fun σ H Q => t σ H fun c H1 => if c = true then Q true H1 else u σ H1 Q
def tNot (t : TT) : TT := fun σ H Q => t σ H fun c H1 => Q (!c) H1
theorem pw_and1 (ha : PT X a tA) : PW X (.BoolOp .And [a] pos) tA := by
  intro wh pins s σ H Q I h
  refine isTrue_and (thn (ha pins s σ H Q I h) fun c s1 e => ?_)
  cases c with
  | true => exact isTrue_and_nil e
  | false => exact e
theorem pw_or1 (ha : PT X a tA) : PW X (.BoolOp .Or [a] pos) tA := by
  intro wh pins s σ H Q I h
  refine isTrue_or (thn (ha pins s σ H Q I h) fun c s1 e => ?_)
  cases c with
  | false => exact isTrue_or_nil e
  | true => exact e
theorem pw_and (ha : PT X a tA) (hb : PW X (.BoolOp .And (b :: rest) pos) tB') : PW X (.BoolOp .And (a :: b :: rest) pos) (tAnd tA tB') := by
  intro wh pins s σ H Q I h
  refine isTrue_and (thn (ha pins s σ H _ I h) fun c s1 ⟨H1, I1, q1⟩ => ?_)
  cases c with
  | true => exact hb wh pins s1 σ H1 Q I1 q1
  | false => exact ⟨H1, I1, q1⟩
theorem pw_or (ha : PT X a tA) (hb : PW X (.BoolOp .Or (b :: rest) pos) tB') : PW X (.BoolOp .Or (a :: b :: rest) pos) (tOr tA tB') := by
  intro wh pins s σ H Q I h
  refine isTrue_or (thn (ha pins s σ H _ I h) fun c s1 ⟨H1, I1, q1⟩ => ?_)
  cases c with
  | true => exact ⟨H1, I1, q1⟩
  | false => exact hb wh pins s1 σ H1 Q I1 q1
theorem pt_not (ha : PT X a tA) : PT X (.UnaryOp .Not a pos) (tNot tA) := by
  intro pins s σ H Q I h
  exact isTrue_not (ha pins s σ H (fun c H1 => Q (!c) H1) I h)
/-- .. as values (bools) -/
def tAndV (ta tb : TE) : TE := fun σ H Q => ta σ H fun x H1 => ∃ c, x = .bl c ∧ if c = true then tb σ H1 Q else Q (.bl false) H1
def tNotV (ta : TE) : TE := fun σ H Q => ta σ H fun x H1 => ∃ c, x = .bl c ∧ Q (.bl (!c)) H1
theorem pe_one {op} {t : TE} (h : PE X a t) : PE X (.BoolOp op [a] pos) t := fun pins s σ H Q I hw => BoolOp_one (h pins s σ H Q I hw)
theorem pe_and (ha : PE X a ta) (hb : PE X (.BoolOp .And (b :: rest) pos) tb) : PE X (.BoolOp .And (a :: b :: rest) pos) (tAndV ta tb) := by
  intro pins s σ H Q I h
  refine BoolOp_and (thn (ha pins s σ H _ I h) fun v s1 ⟨x, H1, I1, r1, q1⟩ => ?_)
  obtain ⟨c, rfl, q1⟩ := q1
  cases r1
  refine wpAny_truthy_bool ?_
  cases c with
  | true => exact hb pins s1 σ H1 Q I1 q1
  | false => exact ⟨.bl false, H1, I1, rfl, q1⟩
theorem pe_not (ha : PE X a ta) : PE X (.UnaryOp .Not a pos) (tNotV ta) := by
  intro pins s σ H Q I h
  refine UnaryOp_ (thn (ha pins s σ H _ I h) fun v s1 ⟨x, H1, I1, r1, q1⟩ => ?_)
  obtain ⟨c, rfl, q1⟩ := q1
  cases r1
  exact not_of (wpAny_truthy_bool ⟨.bl (!c), H1, I1, rfl, q1⟩)
end
end L2

namespace L2
open PySem PySem.Spec PyProof.Rows

/-! ### a list, a tuple that is read: tracked, frozen, or an object of the module -/
def SqL (K : PySem.W.Frag) (H : Hp) (a : Addr) (xs : List V) : Prop :=
  Rd H a (.lst xs) ∨
    ∃ (o : Obj) (its : Array Value) (n : Nat), K.lookup a = some o ∧ o.cls = .type "list" ∧ o.dict = none ∧ o.data = .seq its n ∧ its.size ≤ sizeLine ∧ Vals xs its.toList
def SqT (K : PySem.W.Frag) (H : Hp) (a : Addr) (xs : List V) : Prop :=
  Rd H a (.tup xs) ∨
    ∃ (o : Obj) (its : Array Value) (n : Nat), K.lookup a = some o ∧ o.cls = .type "tuple" ∧ o.data = .seq its n ∧ its.size ≤ sizeLine ∧ Vals xs its.toList
def absV : Value → Option V
  | .none => some .non
  | .bool b => some (.bl b)
  | .int i _ => some (.int i)
  | .str x _ => some (.str x)
  | .bytes b _ => some (.byt b)
  | .float b _ => some (.flt b)
  | .ref a => some (.ref a)
  | .type n => some (.ty n)
  | _ => none
theorem RelV.abs {x : V} {u : Value} (r : RelV x u) : absV u = some x := by
  cases x with
  | non => cases r; rfl
  | bl _ => cases r; rfl
  | int _ => obtain ⟨t, rfl⟩ := r; rfl
  | str _ => obtain ⟨t, rfl⟩ := r; rfl
  | byt _ => obtain ⟨t, rfl⟩ := r; rfl
  | flt _ => obtain ⟨t, rfl⟩ := r; rfl
  | ref _ => cases r; rfl
  | ty _ => cases r; rfl
theorem RelV.inj {x y : V} {u : Value} (r : RelV x u) (q : RelV y u) : x = y := Option.some.inj (r.abs.symm.trans q.abs)
theorem Vals.inj : ∀ {xs ys : List V} {us : List Value}, Vals xs us → Vals ys us → xs = ys
  | _, _, _, .nil, .nil => rfl
  | _, _, _, .cons r t, .cons r' t' => by rw [r.inj r', Vals.inj t t']
section
variable {X : Cx} {pins : List (Addr × Obj)} {σ : St} {H : Hp} {s : Shared} {a : Addr} {xs ys : List V}
theorem SqL.of {K : PySem.W.Frag} (h : H a = some (.lst xs)) : SqL K H a xs := .inl (.inl h)
theorem SqT.of {K : PySem.W.Frag} (h : H a = some (.tup xs)) : SqT K H a xs := .inl (.inl h)
theorem Inv.list (I : Inv X pins σ H s) (h : SqL X.K H a xs) : ∃ its : List Value, Vals xs its ∧ PlainL s.heap a its.toArray ∧ xs.length ≤ sizeLine := by
  rcases h with h | ⟨o, its, n, hk, hc, hd, hs, hz, r⟩
  · obtain ⟨z, its, n, r, e⟩ := h.ok I.hok
    exact ⟨its, r, ⟨_, n, e, rfl, rfl, rfl⟩, z⟩
  · refine ⟨its.toList, r, ⟨o, n, I.kIn a o hk, hc, hd, by simpa using hs⟩, ?_⟩
    have e := r.length
    simp only [Array.length_toList] at e
    omega
theorem Inv.tuple (I : Inv X pins σ H s) (h : SqT X.K H a xs) : ∃ its : List Value, Vals xs its ∧ IsTup s.heap a its.toArray ∧ xs.length ≤ sizeLine := by
  rcases h with h | ⟨o, its, n, hk, hc, hs, hz, r⟩
  · obtain ⟨z, its, r, p⟩ := h.ok I.hok
    exact ⟨its, r, p, z⟩
  · refine ⟨its.toList, r, ⟨o, I.kIn a o hk, hc, n, by simpa using hs⟩, ?_⟩
    have e := r.length
    simp only [Array.length_toList] at e
    omega
theorem Inv.list_inj (I : Inv X pins σ H s) (h : SqL X.K H a xs) (h' : SqL X.K H a ys) : xs = ys := by
  obtain ⟨its, r, ⟨o, n, e, _, _, d⟩, _⟩ := I.list h
  obtain ⟨its', r', ⟨o', n', e', _, _, d'⟩, _⟩ := I.list h'
  rw [e] at e'; cases e'
  rw [d] at d'
  injection d' with d1 _
  have : its = its' := by simpa using congrArg Array.toList d1
  subst this
  exact r.inj r'
end

/-! ### another wish about exceptions -/
abbrev Cx.wish (X : Cx) (E : Value → Shared → Prop) : Cx := { X with xe := E }
/-- no exception leaves -/
abbrev Cx.nox (X : Cx) : Cx := X.wish fun _ _ => False
theorem Cx.Ok.wish {X : Cx} (ok : X.Ok) (E : Value → Shared → Prop) : (X.wish E).Ok :=
  ⟨ok.mod, ok.kind, ok.glob, ok.blt, ok.above, ok.inj, ok.has, ok.cab, ok.hd, ok.frames, ok.stk, ok.exf, ok.bs, ok.bsz, ok.noex, ok.exfs, ok.funs, ok.frf⟩
theorem Cx.Ok.unwish {X : Cx} {E : Value → Shared → Prop} (ok : (X.wish E).Ok) : X.Ok :=
  ⟨ok.mod, ok.kind, ok.glob, ok.blt, ok.above, ok.inj, ok.has, ok.cab, ok.hd, ok.frames, ok.stk, ok.exf, ok.bs, ok.bsz, ok.noex, ok.exfs, ok.funs, ok.frf⟩
section
variable {X : Cx} {pins : List (Addr × Obj)} {σ : St} {H : Hp} {s : Shared} {E : Value → Shared → Prop}
theorem Inv.wish (I : Inv X pins σ H s) (E : Value → Shared → Prop) : Inv (X.wish E) pins σ H s := ⟨I.ok.wish E, I.os, I.bare, I.base, I.loc, I.cell, I.free, I.freeC, I.pin, I.hok, I.len⟩
theorem Inv.unwish (I : Inv (X.wish E) pins σ H s) : Inv X pins σ H s := ⟨I.ok.unwish, I.os, I.bare, I.base, I.loc, I.cell, I.free, I.freeC, I.pin, I.hok, I.len⟩
theorem SP.unwish {D : Ends} {f : Flow} {s' : Shared} (h : SP (X.wish E) pins D f s') : SP X pins D f s' := by
  cases f with
  | next => obtain ⟨σ', H', I, q⟩ := h; exact ⟨σ', H', I.unwish, q⟩
  | brk => obtain ⟨σ', H', I, q⟩ := h; exact ⟨σ', H', I.unwish, q⟩
  | cont => obtain ⟨σ', H', I, q⟩ := h; exact ⟨σ', H', I.unwish, q⟩
  | ret u => obtain ⟨v, σ', H', I, r, q⟩ := h; exact ⟨v, σ', H', I.unwish, r, q⟩
theorem PSs.nox {st : List Stmt} {t : TS} (h : PSs X.nox st t) : PSs X st t := fun pins s σ H D I hw =>
  wpAny_mono (h pins s σ H D (I.wish _) hw) (fun _ _ q => q.unwish) fun _ _ z => False.elim z
end

/-! ### blocks and small statements -/
section
variable {X : Cx} {st : Stmt} {rest : List Stmt} {t u : TS} {e : Expr} {te : TE} {pos : Pos}
def tNext : TS := fun D σ H => D.nx σ H
def tSeq (t u : TS) : TS := fun D σ H => t { D with nx := u D } σ H
theorem pss_nil : PSs X [] tNext := fun _ _ σ H _ I h => wpAny_execs_nil ⟨σ, H, I, h⟩
theorem pss_cons (h1 : PS X st t) (h2 : PSs X rest u) : PSs X (st :: rest) (tSeq t u) := by
  intro pins s σ H D I h
  refine wpAny_execs_cons (thn (h1 pins s σ H { D with nx := u D } I h) fun f s1 q => ?_)
  cases f with
  | next =>
    obtain ⟨σ', H', I', q⟩ := q
    exact h2 pins s1 σ' H' D I' q
  | ret v => exact q
  | brk => exact q
  | cont => exact q
theorem pss_one (h1 : PS X st t) : PSs X [st] t := by
  intro pins s σ H D I h
  refine wpAny_execs_cons (thn (h1 pins s σ H D I h) fun f s1 q => ?_)
  cases f with
  | next => exact wpAny_execs_nil q
  | ret v => exact q
  | brk => exact q
  | cont => exact q
/-- in a def's body nothing is shown -/
theorem Inv.quiet {pins : List (Addr × Obj)} {σ : St} {H : Hp} {s : Shared} (I : Inv X pins σ H s) : interactive X.env = false := by simp [interactive, I.ok.kind]
/-- an expression whose value is dropped -/
def tDrop (te : TE) : TS := fun D σ H => te σ H fun _ H1 => D.nx σ H1
theorem ps_expr (he : PE X e te) (hs : swapsWith e none pos.line X.env = pure false := by rfl) : PS X (.Expr e pos) (tDrop te) := by
  intro pins s σ H D I h
  exact wpAny_Expr_any (thn (he pins s σ H _ I h) fun v s1 ⟨x, H1, I1, r1, q1⟩ => ⟨σ, H1, I1, q1⟩) I.quiet hs
def tRet (te : TE) : TS := fun D σ H => te σ H D.rt
theorem ps_ret (he : PE X e te) : PS X (.Return (some e) pos) (tRet te) := by
  intro pins s σ H D I h
  exact wpAny_Return_some (thn (he pins s σ H _ I h) fun v s1 ⟨x, H1, I1, r1, q1⟩ => ⟨x, σ, H1, I1, r1, q1⟩)
def tIfS (c : TT) (t u : TS) : TS := fun D σ H => c σ H fun b H1 => if b = true then t D σ H1 else u D σ H1
theorem ps_if {c : Expr} {a b : List Stmt} {tc : TT} (hc : PT X c tc) (ha : PSs X a t) (hb : PSs X b u) : PS X (.If c a b pos) (tIfS tc t u) := by
  intro pins s σ H D I h
  refine wpAny_If (thn (hc pins s σ H _ I h) fun d s1 ⟨H1, I1, q1⟩ => ?_)
  cases d with
  | true => exact ha pins s1 σ H1 D I1 q1
  | false => exact hb pins s1 σ H1 D I1 q1
/-- code that the proof never comes to -/
def tNever : TS := fun _ _ _ => False
theorem pss_never {sts : List Stmt} : PSs X sts tNever := fun _ _ _ _ _ _ h => h.elim
end

/-! ### targets -/
abbrev TG := V → St → Hp → (St → Hp → Prop) → Prop
abbrev TGs := List V → St → Hp → (St → Hp → Prop) → Prop
def PG (X : Cx) (target : Expr) (t : TG) : Prop :=
  ∀ (pins : List (Addr × Obj)) (s : Shared) (σ : St) (H : Hp) (v : V) (u : Value) (Q : St → Hp → Prop), Inv X pins σ H s → RelV v u → t v σ H Q →
    wpAny (model X.prog X.w) X.A (assign target X.env u) (fun _ s' => ∃ σ' H', Inv X pins σ' H' s' ∧ Q σ' H') X.xe s
/-- several targets, one after another -/
def PGs (X : Cx) (ts : List Expr) (t : TGs) : Prop :=
  ∀ (pins : List (Addr × Obj)) (s : Shared) (σ : St) (H : Hp) (vs : List V) (us : List Value) (Q : St → Hp → Prop), Inv X pins σ H s → Vals vs us → t vs σ H Q →
    wpAny (model X.prog X.w) X.A (assignInOrder ((assignEach ts X.env).map (·.2)) us) (fun _ s' => ∃ σ' H', Inv X pins σ' H' s' ∧ Q σ' H') X.xe s
/-- o[i] = v, by values -/
abbrev TSet := V → V → V → Hp → (Hp → Prop) → Prop
def PSet (X : Cx) (t : TSet) : Prop :=
  ∀ (pins : List (Addr × Obj)) (s : Shared) (σ : St) (H : Hp) (o i v : V) (ov iv u : Value) (Q : Hp → Prop), Inv X pins σ H s → RelV o ov → RelV i iv → RelV v u → t o i v H Q →
    wpAny (model X.prog X.w) X.A (setItem ov iv u) (fun _ s' => ∃ H', Inv X pins σ H' s' ∧ Q H') X.xe s
section
variable {X : Cx} {pos : Pos}
def gName (i : Nat) : TG := fun v σ H Q => Q (σ.set i (some v)) H
theorem pg_name {i : Nat} {x : Str} (hN : X.N.Nodup) (hi : X.N[i]? = some x) (hx : Loc X.env.scope x) (hf : X.fn x = true ∨ X.env.scope.names.lookup x = some .local := by first | exact .inl rfl | exact .inr rfl | assumption) : PG X (.Name x pos) (gName i) := by
  intro pins s σ H v u Q I r h
  exact wpAny_assign_Name (store_ok I hN hi hx r (fun s' I' => ⟨_, H, I', h⟩) hf)
def gNil : TGs := fun vs σ H Q => vs = [] ∧ Q σ H
def gCons (t : TG) (u : TGs) : TGs := fun vs σ H Q => ∃ v r, vs = v :: r ∧ t v σ H fun σ' H' => u r σ' H' Q
theorem pgs_nil : PGs X [] gNil := by
  intro pins s σ H vs us Q I r h
  obtain ⟨e, h⟩ := h
  subst e
  cases r
  exact assignInOrder_nil ⟨σ, H, I, h⟩
theorem pgs_cons {e : Expr} {es : List Expr} {t : TG} {u : TGs} (h1 : PG X e t) (h2 : PGs X es u)
    (hs : (assignEach (e :: es) X.env).map (·.2) = assign e X.env :: (assignEach es X.env).map (·.2) := by rfl) : PGs X (e :: es) (gCons t u) := by
  intro pins s σ H vs us Q I r h
  obtain ⟨v, vr, e1, h⟩ := h
  subst e1
  cases r with
  | cons r rr =>
    rw [hs]
    refine assignInOrder_cons (thn (h1 pins s σ H _ _ _ I r h) fun _ s1 ⟨σ1, H1, I1, q1⟩ => ?_)
    exact h2 pins s1 σ1 H1 _ _ Q I1 rr q1
/-- (a, b, ..) = a tuple of that length -/
def gTup (K : PySem.W.Frag) (n : Nat) (t : TGs) : TG := fun v σ H Q => ∃ a xs, v = .ref a ∧ SqT K H a xs ∧ xs.length = n ∧ t xs σ H Q
theorem pg_tup {es : List Expr} {k : Nat} {t : TGs} {n : Nat} (hc : X.calm = true) (h : PGs X es t)
    (hn : (assignEach es X.env).length = n := by rfl) (hst : (assignEach es X.env).findIdx? (·.1) = none := by rfl) : PG X (.Tuple es k pos) (gTup X.K n t) := by
  intro pins s σ H v u Q I r hw
  obtain ⟨a, xs, e1, hq, hl, hw⟩ := hw
  subst e1
  cases r
  obtain ⟨its, rv, ht, hz⟩ := I.tuple hq
  refine assign_Tuple_tuple (I.ok.hd hc) ht (by simp [hn, ← hl, rv.length]) hst fun h' hx => ?_
  have I1 : Inv X pins σ H { s with heap := h' } := I.kept (t' := s.toks) fun b o e => hx b o (Nat.ne_of_lt (Heap.lt_size e)) e
  exact h pins _ σ H xs _ Q I1 (by simpa using rv) hw
/-- o[i] = .. -/
def gSub (to ti : TE) (t : TSet) : TG := fun v σ H Q => to σ H fun o H1 => ti σ H1 fun i H2 => t o i v H2 fun H3 => Q σ H3
theorem pg_sub {o i : Expr} {to ti : TE} {t : TSet} (ho : PE X o to) (hi : PE X i ti) (hs : PSet X t)
    (ha : ∀ v, assign (.Subscript o i pos) X.env v = (do
      let ov ← holding [v] (eval o X.env)
      let iv ← holding [v, ov] (eval i X.env)
      standAt pos
      holding [v, ov, iv] (setItem ov iv v)
      release [v, ov, iv] []) := by intro _; rfl) : PG X (.Subscript o i pos) (gSub to ti t) := by
  intro pins s σ H v u Q I r h
  rw [ha]
  refine wpAny_bind (wpAny_holding (thn (ho pins s σ H _ I h) fun ov s1 ⟨x, H1, I1, r1, q1⟩ => ?_))
  refine wpAny_bind (wpAny_holding (thn (hi pins s1 σ H1 _ I1 q1) fun iv s2 ⟨y, H2, I2, r2, q2⟩ => ?_))
  refine wpAny_bind (wpAny_standAt (wpAny_bind (wpAny_holding (thn (hs pins s2 σ H2 x y v ov iv u _ I2 r1 r2 r q2) fun _ s3 ⟨H3, I3, q3⟩ => ?_))))
  exact wpAny_release ⟨σ, H3, I3, q3⟩
/-- target = value -/
def tAsg (te : TE) (g : TG) : TS := fun D σ H => te σ H fun x H1 => g x σ H1 D.nx
theorem ps_asg {tg e : Expr} {te : TE} {g : TG} (he : PE X e te) (hg : PG X tg g) (hs : swapsWithSole [tg] e pos.line X.env = pure false := by rfl) (hw : swappedStores [tg] e X.env = pure none := by rfl)
    (h1 : (assignEach [tg] X.env).map (·.2) = [assign tg X.env] := by rfl) : PS X (.Assign [tg] e pos) (tAsg te g) := by
  intro pins s σ H D I h
  refine wpAny_Assign_stores (thn (he pins s σ H _ I h) fun v s1 ⟨x, H1, I1, r1, q1⟩ => ?_) hs hw
  rw [h1]
  exact thn (hg pins s1 σ H1 x v _ I1 r1 q1) fun _ s2 q => q
/-- name = value -/
theorem ps_set {i : Nat} {x : Str} {e : Expr} {te : TE} {pos' : Pos} (hN : X.N.Nodup) (hi : X.N[i]? = some x) (hx : Loc X.env.scope x) (he : PE X e te) (hs : swapsWith e (some (.Name x pos')) pos.line X.env = pure false := by rfl) (hf : X.fn x = true ∨ X.env.scope.names.lookup x = some .local := by first | exact .inl rfl | exact .inr rfl | assumption) :
    PS X (.Assign [.Name x pos'] e pos) (tAsg te (gName i)) := by
  intro pins s σ H D I h
  refine wpAny_Assign_Name (thn (he pins s σ H _ I h) fun v s1 ⟨y, H1, I1, r1, q1⟩ => ?_) hs
  exact store_ok I1 hN hi hx r1 (fun s2 I2 => ⟨_, H1, I2, q1⟩) hf
end

/-! ### while -/
section
variable {X : Cx} {pos : Pos}
end

/-! ### what a loop or a comprehension walks -/
/-- at turn i: it yields x (the heap may grow), or it stops -/
structure It where
  go : Nat → Hp → Prop
  yld : Nat → Hp → V → Hp → Prop
  stop : Nat → Hp → Prop
/-- the iterator's own objects may turn: they are not the frame's, not pinned, younger than the entry (or a comprehension's own) -/
def FpOk (X : Cx) (pins : List (Addr × Obj)) (H : Hp) (b : Addr) : Prop :=
  H b = none ∧ b ≠ X.env.locals ∧ b ∉ X.fs ∧ (b ∈ X.ex ∨ X.s₀.heap.objs.size ≤ b) ∧ (∀ x c, X.env.cells.lookup x = some c → c ≠ b) ∧ ∀ p ∈ X.pn ++ pins, p.1 ≠ b
theorem Inv.fpOk {X : Cx} {pins : List (Addr × Obj)} {σ : St} {H H' : Hp} {s : Shared} {b : Addr} (I : Inv X pins σ H s) (hb : s.heap.objs.size ≤ b) (hn : H' b = none) : FpOk X pins H' b := by
  refine ⟨hn, Nat.ne_of_gt (Nat.lt_of_lt_of_le I.lt hb), I.nofs hb, .inr (Nat.le_trans I.sz hb), fun x c e z => ?_, fun p hp z => ?_⟩
  · obtain ⟨v, q⟩ := I.cell x c e
    exact absurd (Nat.lt_of_lt_of_le q.lt (by rw [z]; exact hb)) (Nat.lt_irrefl _)
  · exact absurd (Nat.lt_of_lt_of_le (Heap.lt_size (I.pin p hp).1) (by rw [z]; exact hb)) (Nat.lt_irrefl _)
structure Turn (P : Program) (w : World) (K : PySem.W.Frag) (tg : Expr) (J : It) (fp : List Addr) (it : Addr) (tn : Nat → Heap → Prop) : Prop where
  mem : it ∈ fp
  obj : ∀ i h, tn i h → ∀ b ∈ fp, ∃ o, h.get? b = some o ∧ ∀ v, o.data ≠ .cell v
  keep : ∀ i h h', tn i h → (∀ b ∈ fp, ∀ o, h.get? b = some o → h'.get? b = some o) → tn i h'
  item : ∀ (X : Cx), X.prog = P → X.w = w → X.K = K → X.calm = true → ∀ (i : Nat) (pins : List (Addr × Obj)) (s : Shared) (σ : St) (H : Hp) (E : Value → Shared → Prop), Inv X pins σ H s → (∀ b ∈ fp, FpOk X pins H b) → tn i s.heap → J.go i H →
    wpAny (model P w) X.A (pyNext (.ref it)) (fun r s1 => ∃ u, r = some u ∧
      wpAny (model P w) X.A (letOwnedTupleGo tg (.ref it) u) (fun _ s2 => ∃ x H', Inv X pins σ H' s2 ∧ RelV x u ∧ J.yld i H x H' ∧ tn (i + 1) s2.heap ∧ ∀ b ∈ fp, H' b = none) E s1) E s
  done : ∀ (X : Cx), X.prog = P → X.w = w → X.K = K → X.calm = true → ∀ (i : Nat) (pins : List (Addr × Obj)) (s : Shared) (σ : St) (H : Hp) (E : Value → Shared → Prop), Inv X pins σ H s → (∀ b ∈ fp, FpOk X pins H b) → tn i s.heap → J.stop i H →
    wpAny (model P w) X.A (pyNext (.ref it)) (fun r s1 => r = none ∧ Inv X pins σ H s1) E s
  self : ∀ (A : Around) (i : Nat) (s : Shared) (Q : Value → Shared → Prop) (E : Value → Shared → Prop), tn i s.heap → Q (.ref it) s → wpAny (model P w) A (pyIter (.ref it)) Q E s
abbrev TI := St → Hp → (It → Hp → Prop) → Prop
/-- an iterator has come -/
def PIE (X : Cx) (pins : List (Addr × Obj)) (σ : St) (tg : Expr) (R : It → Hp → Prop) (itv : Value) (s2 : Shared) : Prop :=
  ∃ (it : Addr) (fp : List Addr) (tn : Nat → Heap → Prop) (J : It) (H' : Hp), itv = .ref it ∧ Inv X pins σ H' s2 ∧ Turn X.prog X.w X.K tg J fp it tn ∧ tn 0 s2.heap ∧ (∀ b ∈ fp, FpOk X pins H' b) ∧ R J H'
def PI (X : Cx) (tg iter : Expr) (wi : TI) : Prop :=
  ∀ (pins : List (Addr × Obj)) (s : Shared) (σ : St) (H : Hp) (R : It → Hp → Prop), Inv X pins σ H s → wi σ H R →
    wpAny (model X.prog X.w) X.A (eval iter X.env) (fun v s1 => wpAny (model X.prog X.w) X.A (pyIter v) (PIE X pins σ tg R) X.xe s1) X.xe s

/-- the step ahead of the store is nothing for an iterator that keeps no tuple -/
theorem go_of {M : Model} {A : Around} {E : Value → Shared → Prop} {s : Shared} {tg : Expr} {it : Addr} {u : Value} {o : Obj} {n : String} {vs : Array Value} {Q : Unit → Shared → Prop} (ho : s.heap.get? it = some o) (hc : o.cls = .type n) (hd : o.data = .fields vs)
    (hn : ["enumerate", "zip", "dict_itemiterator", "dict_reverseitemiterator", "odict_iterator", "itertools.zip_longest", "itertools.pairwise"].contains n = false) (hQ : Q () s) : wpAny M A (letOwnedTupleGo tg (.ref it) u) Q E s := by
  unfold letOwnedTupleGo
  cases tg <;> first
    | exact wpAny_pure hQ
    | (cases u <;> first
        | exact wpAny_pure hQ
        | (refine wpAny_bind (wpAny_load ho ?_)
           rw [hc, hd]
           show wpAny M A (if (["enumerate", "zip", "dict_itemiterator", "dict_reverseitemiterator", "odict_iterator", "itertools.zip_longest", "itertools.pairwise"].contains n && vs[0]? == some (rawInt _)) = true then _ else _) Q E s
           rw [if_neg (by intro h; rw [hn, Bool.false_and] at h; cases h)]
           exact wpAny_pure hQ))

/-- the list at a, as it stands at each turn (a loop may append to it) -/
def Itl (K : PySem.W.Frag) (a : Addr) : It :=
  ⟨fun i H => ∃ xs x, SqL K H a xs ∧ xs[i]? = some x, fun i H x H' => H' = H ∧ ∀ xs, SqL K H a xs → xs[i]? = some x, fun i H => ∃ xs, SqL K H a xs ∧ xs.length ≤ i⟩
/-- lo, lo + 1, .. (n of them) -/
def Itr (lo : Int) (n : Nat) : It := ⟨fun i _ => i < n, fun i H x H' => H' = H ∧ x = .int (lo + i), fun i _ => n ≤ i⟩
theorem turn_list {P : Program} {w : World} {K : PySem.W.Frag} {tg : Expr} (a it : Addr) : Turn P w K tg (Itl K a) [it] it (fun i h => h.IsListIter it a i) where
  mem := by simp
  obj := fun i h st b hb => by
    have e : b = it := by simpa using hb
    subst e
    obtain ⟨o, e, c, d⟩ := st
    exact ⟨o, e, fun v z => by rw [d] at z; cases z⟩
  keep := fun i h h' st k => st.at fun o e => k it (by simp) o e
  item := by
    intro X hP hw hK hc i pins s σ H E I hf st hg
    subst hP hw hK
    obtain ⟨xs, x, hq, hx⟩ := hg
    obtain ⟨its, rv, p, hz⟩ := I.list hq
    obtain ⟨u, hu, ru⟩ := rv.get hx
    obtain ⟨f0, f1, f2, f3, f4, f5⟩ := hf it (by simp)
    refine wpAny_pyNext_list_item st p.isList (x := u) (by simpa using hu) fun h' st' sb => ?_
    have I1 : Inv X pins σ H { s with heap := h' } := I.turned (t' := s.toks) (fun b o hb e => (sb.2 b hb).trans e) f0 f1 f3 f4 f5
    obtain ⟨o, e, c, d⟩ := id st'
    exact ⟨u, rfl, go_of (s := { s with heap := h' }) e c d (by decide) ⟨x, H, I1, ru, ⟨rfl, fun ys hy => by rw [I.list_inj hy hq]; exact hx⟩, st', fun b hb => (hf b hb).1⟩⟩
  done := by
    intro X hP hw hK hc i pins s σ H E I hf st hg
    subst hP hw hK
    obtain ⟨xs, hq, hx⟩ := hg
    obtain ⟨its, rv, p, hz⟩ := I.list hq
    obtain ⟨f0, f1, f2, f3, f4, f5⟩ := hf it (by simp)
    have hl := rv.length
    exact wpAny_pyNext_list_end (I.ok.hd hc) st p.isList (by simp; omega) fun h' eb => ⟨rfl, I.turned (t' := s.toks) (fun b o hb e => eb b o hb e) f0 f1 f3 f4 f5⟩
  self := fun _ _ _ _ _ st h => wpAny_pyIter_listiter st h
theorem turn_range {P : Program} {w : World} {K : PySem.W.Frag} {tg : Expr} (it : Addr) (lo : Int) (n : Nat) : Turn P w K tg (Itr lo n) [it] it (fun i h => IsRangeIter h it (lo + (i : Nat) * 1) ((n : Int) - (i : Nat)) 1) where
  mem := by simp
  obj := fun i h st b hb => by
    have e : b = it := by simpa using hb
    subst e
    exact ⟨_, st, fun v z => by
      have z' : Data.fields _ = Data.cell v := z
      cases z'⟩
  keep := fun i h h' st k => k it (by simp) _ st
  item := by
    intro X hP hw hK hc i pins s σ H E I hf st hg
    subst hP hw hK
    obtain ⟨f0, f1, f2, f3, f4, f5⟩ := hf it (by simp)
    have W := Walks.range (prog := X.prog) (w := X.w) (I.ok.hd hc) it lo 1 n
    refine W.item i s _ _ hg st fun v h' tk hv st' kk => ?_
    obtain ⟨t, rfl⟩ := hv
    have I1 : Inv X pins σ H { s with heap := h', toks := tk } := I.turned (fun b o hb e => kk b o (by simpa using hb) e) f0 f1 f3 f4 f5
    refine ⟨_, rfl, go_of (s := { s with heap := h', toks := tk }) (n := "range_iterator") st' rfl rfl (by decide) ⟨.int (lo + i), H, I1, ⟨t, ?_⟩, ⟨rfl, rfl⟩, st', fun b hb => (hf b hb).1⟩⟩
    rw [Int.mul_one]
  done := by
    intro X hP hw hK hc i pins s σ H E I hf st hg
    subst hP hw hK
    obtain ⟨f0, f1, f2, f3, f4, f5⟩ := hf it (by simp)
    exact wpAny_pyNext_range_end (I.ok.hd hc) st (by have : n ≤ i := hg; omega) fun h' eb => ⟨rfl, I.turned (t' := s.toks) (fun b o hb e => eb b o hb e) f0 f1 f3 f4 f5⟩
  self := fun _ _ _ _ _ st h => wpAny_pyIter_rangeiter st h
end L2

namespace L2
open PySem PySem.Spec PyProof.Rows
section
variable {X : Cx} {tg : Expr}
def iList (K : PySem.W.Frag) (tl : TE) : TI := fun σ H R => tl σ H fun x H1 => ∃ a, x = .ref a ∧ (∃ xs, SqL K H1 a xs) ∧ R (Itl K a) H1
theorem pi_list {l : Expr} {tl : TE} (hl : PE X l tl) : PI X tg l (iList X.K tl) := by
  intro pins s σ H R I h
  refine thn (hl pins s σ H _ I h) fun v s1 ⟨x, H1, I1, r1, q1⟩ => ?_
  obtain ⟨a, e, ⟨xs, hq⟩, q⟩ := q1
  subst e
  cases r1
  obtain ⟨its, rv, p, hz⟩ := I1.list hq
  refine wpAny_pyIter_list p.isList ?_
  refine ⟨s1.heap.objs.size, [s1.heap.objs.size], _, _, H1, rfl, I1.kept (t' := s1.toks) fun b o e => Heap.get?_push_of_some _ e, turn_list a _, ⟨_, Heap.get?_push_size _ rfl, rfl, rfl⟩, fun b hb => ?_, q⟩
  have e : b = s1.heap.objs.size := by simpa using hb
  subst e
  exact I1.fpOk (Nat.le_refl _) (I1.hok.fresh (Nat.le_refl _))
/-- a range object just made, walked -/
theorem range_it {pins : List (Addr × Obj)} {σ : St} {H : Hp} {s : Shared} {R : It → Hp → Prop} {E : Value → Shared → Prop} {lo hi : Int} {t u v : Tok} {tk : Nat} (I : Inv X pins σ H s) (h1 : -(2 ^ 62) ≤ lo) (h2 : lo < 2 ^ 62) (h3 : -(2 ^ 62) ≤ hi) (h4 : hi < 2 ^ 62)
    (q : R (Itr lo (hi - lo).toNat) H) : wpAny (model X.prog X.w) X.A (pyIter (.ref s.heap.objs.size)) (PIE X pins σ tg R) E { s with heap := s.heap.push { cls := .type "range", data := .fields #[.int lo t, .int hi u, .int 1 v] }, toks := tk } := by
  refine wpAny_pyIter_range (IsRange.new ..) (small_one h1 h2 h3 h4) ?_
  have I1 : Inv X pins σ H { s with heap := s.heap.push { cls := .type "range", data := .fields #[.int lo t, .int hi u, .int 1 v] }, toks := tk } := I.kept fun b o e => Heap.get?_push_of_some _ e
  refine ⟨(s.heap.push { cls := .type "range", data := .fields #[.int lo t, .int hi u, .int 1 v] }).objs.size, [(s.heap.push { cls := .type "range", data := .fields #[.int lo t, .int hi u, .int 1 v] }).objs.size], _, _, H, rfl,
    I1.kept (t' := tk) fun b o e => Heap.get?_push_of_some _ e, turn_range _ lo (hi - lo).toNat, ?_, fun b hb => ?_, q⟩
  · have e1 : lo + ((0 : Nat) : Int) * 1 = lo := by simp
    have e2 : (((hi - lo).toNat : Nat) : Int) - ((0 : Nat) : Int) = Builtin.Range.rangeSize lo hi 1 := by rw [rangeSize_one]; split <;> omega
    show IsRangeIter _ _ (lo + ((0 : Nat) : Int) * 1) ((((hi - lo).toNat : Nat) : Int) - ((0 : Nat) : Int)) 1
    rw [e1, e2]
    exact Heap.get?_push_size _ rfl
  · have e : b = (s.heap.push { cls := .type "range", data := .fields #[.int lo t, .int hi u, .int 1 v] }).objs.size := by simpa using hb
    subst e
    exact I1.fpOk (Nat.le_refl _) (I1.hok.fresh (Nat.le_refl _))
def iRng1 (ta : TA) : TI := fun σ H R => ta σ H fun vs H1 => ∃ j : Int, vs = [.int j] ∧ -(2 ^ 62) ≤ j ∧ j < 2 ^ 62 ∧ R (Itr 0 j.toNat) H1
def iRng2 (ta : TA) : TI := fun σ H R => ta σ H fun vs H1 => ∃ i j : Int, vs = [.int i, .int j] ∧ (-(2 ^ 62) ≤ i ∧ i < 2 ^ 62 ∧ -(2 ^ 62) ≤ j ∧ j < 2 ^ 62) ∧ R (Itr i (j - i).toNat) H1
theorem pi_range1 {a : Expr} {ta : TA} {p pos : Pos} (hg : Gl X "range") (hm : X.mg "range" = none) (ha : PA X [a] ta) (hs : starEach [a] X.env = [(false, eval a X.env)] := by rfl) : PI X tg (.Call (.Name "range" p) [a] [] pos) (iRng1 ta) := by
  intro pins s σ H R I h
  refine Call_ (ld_blt I hg hm boot_range (PyProof.Rows.callWith_type1 (thn (ha pos pins s σ H _ I h) fun us s1 ⟨vs, H1, I1, r1, q1⟩ => ?_) hs rfl))
  obtain ⟨j, e, q1, q2, q⟩ := q1
  subst e
  cases r1 with
  | cons r rr =>
    cases rr
    obtain ⟨t, rfl⟩ := r
    exact call_range_1 (range_it I1 (by omega) (by omega) q1 q2 (by simpa using q))
theorem pi_range2 {a b : Expr} {ta : TA} {p pos : Pos} (hg : Gl X "range") (hm : X.mg "range" = none) (ha : PA X [a, b] ta) (hs : starEach [a, b] X.env = [(false, eval a X.env), (false, eval b X.env)] := by rfl) (hs2 : starEach [b] X.env = [(false, eval b X.env)] := by rfl) :
    PI X tg (.Call (.Name "range" p) [a, b] [] pos) (iRng2 ta) := by
  intro pins s σ H R I h
  refine Call_ (ld_blt I hg hm boot_range (PyProof.Rows.callWith_type1 (thn (ha pos pins s σ H _ I h) fun us s1 ⟨vs, H1, I1, r1, q1⟩ => ?_) (by rw [hs, hs2]) (by rw [hs2]; rfl)))
  obtain ⟨i, j, e, ⟨q1, q2, q3, q4⟩, q⟩ := q1
  subst e
  cases r1 with
  | cons r rr =>
    cases rr with
    | cons r' rr =>
      cases rr
      obtain ⟨t, rfl⟩ := r
      obtain ⟨t', rfl⟩ := r'
      exact call_range_2 (range_it I1 q1 q2 q3 q4 q)

/-! ### for -/
/-- W: the invariant by the turn and a measure; N: what the body is to reach -/
def tFor (wi : TI) (g : TG) (tb : TS) : TS := fun D σ H => wi σ H fun J H1 => ∃ W : Nat → Nat → St → Hp → Prop, (∃ m, W 0 m σ H1) ∧ ∀ i m σ H, W i m σ H →
  (J.stop i H ∧ D.nx σ H) ∨ (J.go i H ∧ ∃ N : St → Hp → Prop, (∀ σ' H', N σ' H' → ∃ m', m' < m ∧ W (i + 1) m' σ' H') ∧ ∀ x H', J.yld i H x H' → g x σ H' fun σ2 H2 => tb { D with nx := N, ct := N, bk := D.nx } σ2 H2)
/-- the records at fp as they stand -/
def pinsAt (fp : List Addr) (h : Heap) : List (Addr × Obj) := fp.filterMap fun b => (h.get? b).map fun o => (b, o)
theorem mem_pinsAt {fp : List Addr} {h : Heap} {b : Addr} {o : Obj} (hb : b ∈ fp) (e : h.get? b = some o) : (b, o) ∈ pinsAt fp h := List.mem_filterMap.mpr ⟨b, hb, by rw [e]; rfl⟩
theorem of_pinsAt {fp : List Addr} {h : Heap} {p : Addr × Obj} (hp : p ∈ pinsAt fp h) : p.1 ∈ fp ∧ h.get? p.1 = some p.2 := by
  obtain ⟨b, hb, e⟩ := List.mem_filterMap.mp hp
  cases q : h.get? b with
  | none => rw [q] at e; cases e
  | some o =>
    rw [q] at e
    have e' : (b, o) = p := Option.some.inj e
    subst e'
    exact ⟨hb, q⟩
theorem Inv.pinned {pins : List (Addr × Obj)} {σ : St} {H : Hp} {s : Shared} {fp : List Addr} (I : Inv X pins σ H s) (hf : ∀ b ∈ fp, FpOk X pins H b) (ho : ∀ b ∈ fp, ∃ o, s.heap.get? b = some o ∧ ∀ v, o.data ≠ .cell v) : Inv X (pins ++ pinsAt fp s.heap) σ H s :=
  I.pins_of fun p hp => (List.mem_append.mp hp).elim (fun z => I.pin p (List.mem_append_right _ z)) fun z => by
    obtain ⟨hb, e⟩ := of_pinsAt z
    obtain ⟨f0, f1, f2, _⟩ := hf p.1 hb
    obtain ⟨o, e', d⟩ := ho p.1 hb
    rw [e] at e'; cases e'
    exact ⟨e, f0, f1, f2, d⟩
theorem Inv.unpinned {pins pl : List (Addr × Obj)} {σ : St} {H : Hp} {s : Shared} (I : Inv X (pins ++ pl) σ H s) : Inv X pins σ H s := I.pins_of fun p hp => I.pin p (List.mem_append_right _ (List.mem_append_left _ hp))
theorem ps_for {iter : Expr} {body : List Stmt} {wi : TI} {g : TG} {tb : TS} {pos : Pos} (hp : PassesOwn (model X.prog X.w) X.A X.env X.xe) (hc : X.calm = true) (hi : PI X tg iter wi) (hg : PG X tg g) (hb : PSs X body tb)
    (hs : ∀ x, foldedSetIterable iter X.env x = pure x := by intro _; rfl) : PS X (.For tg iter body [] pos) (tFor wi g tb) := by
  intro pins s σ H D I h
  refine wpAny_For (thn (hi pins s σ H _ I h) fun v s1 h1 => thn h1 fun itv s2 h2 => ?_) hs
  obtain ⟨it, fp, tn, J, H2, e, I2, T, st2, f2, W, ⟨m0, w0⟩, turn⟩ := h2
  subst e
  -- what stays true of the iterator's objects through the loop
  have stat : ∀ {H' : Hp}, (∀ b ∈ fp, H' b = none) → ∀ b ∈ fp, FpOk X pins H' b := fun hn b hb => ⟨hn b hb, (f2 b hb).2⟩
  refine codeAny_forLoop_any (fun n s' => ∃ i σ' H', Inv X pins σ' H' s' ∧ tn i s'.heap ∧ (∀ b ∈ fp, H' b = none) ∧ W i n σ' H') ?_ m0 ⟨0, σ, H2, I2, st2, fun b hb => (f2 b hb).1, w0⟩
  rintro n s3 ⟨i, σ3, H3, I3, st3, fr3, w3⟩
  rcases turn i n σ3 H3 w3 with ⟨stop, qn⟩ | ⟨go, N, hN, step⟩
  · refine wpAny_passesOwn hp (thn (T.done X rfl rfl rfl hc i pins s3 σ3 H3 X.xe I3 (stat fr3) st3 stop) fun r s4 ⟨hr, I4⟩ => ?_)
    subst hr
    exact wpAny_execs_nil ⟨σ3, H3, I4, qn⟩
  · refine wpAny_passesOwn hp (thn (T.item X rfl rfl rfl hc i pins s3 σ3 H3 X.xe I3 (stat fr3) st3 go) fun r s4 ⟨u, hr, h4⟩ => ?_)
    subst hr
    refine wpAny_passesOwn hp (thn h4 fun _ s5 ⟨x, H5, I5, r5, y5, st5, fr5⟩ => ?_)
    have I5' := I5.pinned (stat fr5) (T.obj _ _ st5)
    refine wpAny_passesOwn hp (thn (hg _ s5 σ3 H5 x u _ I5' r5 (step x H5 y5)) fun _ s6 ⟨σ6, H6, I6, q6⟩ => ?_)
    refine wpAny_passesOwn hp (thn (hb _ s6 σ6 H6 _ I6 q6) fun f s7 q7 => ?_)
    have again : ∀ {σ7 : St} {H7 : Hp}, Inv X (pins ++ pinsAt fp s5.heap) σ7 H7 s7 → N σ7 H7 → ∃ m, m < n ∧ ∃ i σ' H', Inv X pins σ' H' s7 ∧ tn i s7.heap ∧ (∀ b ∈ fp, H' b = none) ∧ W i m σ' H' := fun {σ7 H7} I7 n7 => by
      obtain ⟨m', hm, w7⟩ := hN σ7 H7 n7
      refine ⟨m', hm, i + 1, σ7, H7, I7.unpinned, T.keep _ _ _ st5 fun b hb o e => (I7.pin (b, o) (List.mem_append_right _ (List.mem_append_right _ (mem_pinsAt hb e)))).1, fun b hb => ?_, w7⟩
      obtain ⟨o, e, d⟩ := T.obj _ _ st5 b hb
      exact (I7.pin (b, o) (List.mem_append_right _ (List.mem_append_right _ (mem_pinsAt hb e)))).2.1
    cases f with
    | next => obtain ⟨σ7, H7, I7, n7⟩ := q7; exact again I7 n7
    | cont => obtain ⟨σ7, H7, I7, n7⟩ := q7; exact again I7 n7
    | brk => obtain ⟨σ7, H7, I7, q7⟩ := q7; exact ⟨σ7, H7, I7.unpinned, q7⟩
    | ret v => obtain ⟨x7, σ7, H7, I7, r7, q7⟩ := q7; exact ⟨x7, σ7, H7, I7.unpinned, r7, q7⟩
end

/-! ### the forms one uses -/
/-- over a list that the body leaves as it is -/
theorem for_list {K : PySem.W.Frag} {a : Addr} {xs : List V} {g : TG} {tb : TS} {D : Ends} {σ : St} {H : Hp} (Pv : Nat → St → Hp → Prop) (h0 : Pv 0 σ H) (hl : ∀ i σ H, i ≤ xs.length → Pv i σ H → SqL K H a xs)
    (hs : ∀ i x σ H, xs[i]? = some x → Pv i σ H → g x σ H fun σ2 H2 => tb { D with nx := Pv (i + 1), ct := Pv (i + 1), bk := D.nx } σ2 H2) (hd : ∀ σ H, Pv xs.length σ H → D.nx σ H) :
    ∃ W : Nat → Nat → St → Hp → Prop, (∃ m, W 0 m σ H) ∧ ∀ i m σ H, W i m σ H →
      ((Itl K a).stop i H ∧ D.nx σ H) ∨ ((Itl K a).go i H ∧ ∃ N : St → Hp → Prop, (∀ σ' H', N σ' H' → ∃ m', m' < m ∧ W (i + 1) m' σ' H') ∧ ∀ x H', (Itl K a).yld i H x H' → g x σ H' fun σ2 H2 => tb { D with nx := N, ct := N, bk := D.nx } σ2 H2) := by
  refine ⟨fun i m σ H => m = xs.length - i ∧ i ≤ xs.length ∧ Pv i σ H, ⟨xs.length, by simp, Nat.zero_le _, h0⟩, ?_⟩
  rintro i m σ H ⟨rfl, hi, p⟩
  have q := hl i σ H hi p
  by_cases hlt : i < xs.length
  · refine .inr ⟨⟨xs, xs[i], q, by simp [hlt]⟩, Pv (i + 1), fun σ' H' p' => ⟨xs.length - (i + 1), by omega, rfl, hlt, p'⟩, fun x H' y => ?_⟩
    obtain ⟨e, y⟩ := y
    subst e
    exact hs i x σ _ (y xs q) p
  · have e : i = xs.length := by omega
    subst e
    exact .inl ⟨⟨xs, q, Nat.le_refl _⟩, hd σ H p⟩
theorem for_range {lo : Int} {n : Nat} {g : TG} {tb : TS} {D : Ends} {σ : St} {H : Hp} (Pv : Nat → St → Hp → Prop) (h0 : Pv 0 σ H)
    (hs : ∀ i σ H, i < n → Pv i σ H → g (.int (lo + i)) σ H fun σ2 H2 => tb { D with nx := Pv (i + 1), ct := Pv (i + 1), bk := D.nx } σ2 H2) (hd : ∀ σ H, Pv n σ H → D.nx σ H) :
    ∃ W : Nat → Nat → St → Hp → Prop, (∃ m, W 0 m σ H) ∧ ∀ i m σ H, W i m σ H →
      ((Itr lo n).stop i H ∧ D.nx σ H) ∨ ((Itr lo n).go i H ∧ ∃ N : St → Hp → Prop, (∀ σ' H', N σ' H' → ∃ m', m' < m ∧ W (i + 1) m' σ' H') ∧ ∀ x H', (Itr lo n).yld i H x H' → g x σ H' fun σ2 H2 => tb { D with nx := N, ct := N, bk := D.nx } σ2 H2) := by
  refine ⟨fun i m σ H => m = n - i ∧ i ≤ n ∧ Pv i σ H, ⟨n, by simp, Nat.zero_le _, h0⟩, ?_⟩
  rintro i m σ H ⟨rfl, hi, p⟩
  by_cases hlt : i < n
  · refine .inr ⟨hlt, Pv (i + 1), fun σ' H' p' => ⟨n - (i + 1), by omega, rfl, hlt, p'⟩, fun x H' y => ?_⟩
    obtain ⟨e, y⟩ := y
    subst e y
    exact hs i σ _ hlt p
  · have e : i = n := by omega
    subst e
    exact .inl ⟨Nat.le_refl _, hd σ H p⟩
end L2

namespace L2
open PySem PySem.Spec PyProof.Rows

abbrev R2 := V → V → Hp → VK → Prop
/-- a two-place operation on values: f is binaryOp op, inplaceOp op or compareOp op -/
def OpR (X : Cx) (f : Value → Value → Sem Value) (r : R2) : Prop :=
  ∀ (pins : List (Addr × Obj)) (s : Shared) (σ : St) (H : Hp) (x y : V) (v u : Value) (Q : VK), Inv X pins σ H s → RelV x v → RelV y u → r x y H Q →
    wpAny (model X.prog X.w) X.A (f v u) (EP X pins σ Q) X.xe s
/-- a call of a value that is known (a builtin, a type) with values -/
def CallR (X : Cx) (f : Value) (r : List V → Hp → VK → Prop) : Prop :=
  ∀ (pins : List (Addr × Obj)) (s : Shared) (σ : St) (H : Hp) (xs : List V) (us : List Value) (Q : VK), Inv X pins σ H s → Vals xs us → r xs H Q →
    wpAny (model X.prog X.w) X.A (call f us) (EP X pins σ Q) X.xe s

def tOp (r : R2) (ta tb : TE) : TE := fun σ H Q => ta σ H fun x H1 => tb σ H1 fun y H2 => r x y H2 Q
/-- ints in, under C, and a value out -/
def rI (C : Int → Int → Prop) (g : Int → Int → V) : R2 := fun x y H Q => ∃ i j, x = .int i ∧ y = .int j ∧ C i j ∧ Q (g i j) H
def rI0 (g : Int → Int → V) : R2 := fun x y H Q => ∃ i j, x = .int i ∧ y = .int j ∧ Q (g i j) H

section
variable {X : Cx} {a b c : Expr} {ta tb tc : TE} {pos : Pos}

theorem binT (ha : PE X a ta) (hb : PE X b tb) {pins : List (Addr × Obj)} {s : Shared} {σ : St} {H : Hp} {R : V → V → Hp → Prop} (I : Inv X pins σ H s)
    (h : ta σ H fun x H1 => tb σ H1 fun y H2 => R x y H2) {Q : Value → Shared → Prop} {f : Value → Value → Sem Value}
    (hf : ∀ v u s2 x y H2, Inv X pins σ H2 s2 → RelV x v → RelV y u → R x y H2 → wpAny (model X.prog X.w) X.A (f v u) Q X.xe s2) :
    wpAny (model X.prog X.w) X.A (eval a X.env) (fun v s₁ => wpAny (model X.prog X.w) X.A (eval b X.env) (fun u s₂ => wpAny (model X.prog X.w) X.A (f v u) Q X.xe s₂) X.xe s₁) X.xe s := by
  refine thn (ha pins s σ H _ I h) fun v s1 ⟨x, H1, I1, r1, q1⟩ => ?_
  refine thn (hb pins s1 σ H1 _ I1 q1) fun u s2 ⟨y, H2, I2, r2, q2⟩ => ?_
  exact hf v u s2 x y H2 I2 r1 r2 q2

theorem pe_op {op : Operator} {r : R2} (ho : OpR X (binaryOp op) r) (ha : PE X a ta) (hb : PE X b tb) : PE X (.BinOp a op b pos) (tOp r ta tb) := by
  intro pins s σ H Q I h
  exact wpAny_BinOp (binT ha hb I h fun v u s2 x y H2 I2 rx ry q => ho pins s2 σ H2 x y v u Q I2 rx ry q)

/-! ### ints -/
theorem opI {f : Value → Value → Sem Value} {C : Int → Int → Prop} {g : Int → Int → Int}
    (rule : ∀ (i j : Int) (t u : Tok) (s : Shared) (Q : Value → Shared → Prop) (E : Value → Shared → Prop), C i j → Q (.int (g i j) s.toks) { s with toks := s.toks + 1 } → wpAny (model X.prog X.w) X.A (f (.int i t) (.int j u)) Q E s) :
    OpR X f (rI C fun i j => .int (g i j)) := by
  intro pins s σ H x y v u Q I rx ry h
  obtain ⟨i, j, rfl, rfl, hc, q⟩ := h
  obtain ⟨t, rfl⟩ := rx
  obtain ⟨t', rfl⟩ := ry
  exact rule i j t t' s _ _ hc ⟨.int (g i j), H, I.tok _, ⟨_, rfl⟩, q⟩
theorem opI0 {f : Value → Value → Sem Value} {g : Int → Int → Int}
    (rule : ∀ (i j : Int) (t u : Tok) (s : Shared) (Q : Value → Shared → Prop) (E : Value → Shared → Prop), Q (.int (g i j) s.toks) { s with toks := s.toks + 1 } → wpAny (model X.prog X.w) X.A (f (.int i t) (.int j u)) Q E s) :
    OpR X f (rI0 fun i j => .int (g i j)) := by
  intro pins s σ H x y v u Q I rx ry h
  obtain ⟨i, j, rfl, rfl, q⟩ := h
  obtain ⟨t, rfl⟩ := rx
  obtain ⟨t', rfl⟩ := ry
  exact rule i j t t' s _ _ ⟨.int (g i j), H, I.tok _, ⟨_, rfl⟩, q⟩
theorem opB0 {f : Value → Value → Sem Value} {g : Int → Int → Bool}
    (rule : ∀ (i j : Int) (t u : Tok) (s : Shared) (Q : Value → Shared → Prop) (E : Value → Shared → Prop), Q (.bool (g i j)) s → wpAny (model X.prog X.w) X.A (f (.int i t) (.int j u)) Q E s) :
    OpR X f (rI0 fun i j => .bl (g i j)) := by
  intro pins s σ H x y v u Q I rx ry h
  obtain ⟨i, j, rfl, rfl, q⟩ := h
  obtain ⟨t, rfl⟩ := rx
  obtain ⟨t', rfl⟩ := ry
  exact rule i j t t' s _ _ ⟨.bl (g i j), H, I, rfl, q⟩

def CDiv (i j : Int) : Prop := 0 < j ∧ j < 1073741824
def CMul (i j : Int) : Prop := (-(2 ^ 64) < i ∧ i < 2 ^ 64) ∨ (-(2 ^ 64) < j ∧ j < 2 ^ 64)
theorem CMul.ok {i j : Int} (h : CMul i j) : IntMulOk i j := by
  rcases h with ⟨h1, h2⟩ | ⟨h1, h2⟩
  · exact .of_left (intBits_le_64 h1 h2)
  · exact .of_right (intBits_le_64 h1 h2)

theorem op_add : OpR X (binaryOp .Add) (rI0 fun i j => .int (i + j)) := opI0 fun _ _ _ _ _ _ _ q => add_int q
theorem op_sub : OpR X (binaryOp .Sub) (rI0 fun i j => .int (i - j)) := opI0 fun _ _ _ _ _ _ _ q => sub_int q
theorem op_mul : OpR X (binaryOp .Mult) (rI CMul fun i j => .int (i * j)) := opI fun _ _ _ _ _ _ _ hc q => mul_int q hc.ok
/-- // by a positive divisor -/
theorem op_fdiv : OpR X (binaryOp .FloorDiv) (rI CDiv fun i j => .int (i / j)) := opI fun i j _ _ _ _ _ hc q => by
  have h1 : (0 : Int) < j := hc.1
  have h2 : j < 1073741824 := hc.2
  exact floordiv_int (by omega) (by rw [Int.fdiv_eq_ediv_of_nonneg i (by omega)]; exact q) (.inl (PyProof.noPylong_small (by omega)))
/-- % by a positive divisor of any size -/
theorem op_mod : OpR X (binaryOp .Mod) (rI (fun _ j => 0 < j) fun i j => .int (i % j)) := opI fun i j _ _ _ _ _ hc q => by
  have h1 : (0 : Int) < j := hc
  exact mod_int' (by omega) (by rw [Int.fmod_eq_emod_of_nonneg i (by omega)]; exact q)



/-! ### bools among ints: n += (a < b) -/
end

/-! ### comparisons -/
/-- the scalars that == tells apart as data does -/
def scal : V → V → Bool
  | .non, .non => true | .non, .int _ => true | .int _, .non => true | .non, .bl _ => true | .bl _, .non => true | .non, .str _ => true | .str _, .non => true
  | .int _, .int _ => true | .bl _, .bl _ => true | .str _, .str _ => true | .byt _, .byt _ => true
  | .int _, .str _ => true | .str _, .int _ => true | .bl _, .str _ => true | .str _, .bl _ => true
  | _, _ => false
def rEq : R2 := fun x y H Q => scal x y = true ∧ Q (.bl (decide (x = y))) H
def rNe : R2 := fun x y H Q => scal x y = true ∧ Q (.bl (!decide (x = y))) H

theorem dec_int {i j : Int} : decide (V.int i = V.int j) = (i == j) := by
  rw [Bool.eq_iff_iff]
  simp
theorem dec_bl {i j : Bool} : decide (V.bl i = V.bl j) = (i == j) := by
  rw [Bool.eq_iff_iff]
  simp
theorem dec_str {i j : Str} : decide (V.str i = V.str j) = (i == j) := by
  rw [Bool.eq_iff_iff]
  simp
theorem dec_byt {i j : Array UInt8} : decide (V.byt i = V.byt j) = (i.toList == j.toList) := by
  rw [Bool.eq_iff_iff]
  cases i
  cases j
  simp

section
variable {X : Cx} {a b c : Expr} {ta tb tc : TE} {pos : Pos}
theorem fin_bl {pins : List (Addr × Obj)} {σ : St} {H : Hp} {s : Shared} {Q : VK} {k k' : Bool} (I : Inv X pins σ H s) (q : Q (.bl k) H) (e : k = k') : EP X pins σ Q (.bool k') s := by
  subst e
  exact ⟨.bl k, H, I, rfl, q⟩
theorem op_eq : OpR X (compareOp .Eq) rEq := by
  intro pins s σ H x y v u Q I rx ry h
  obtain ⟨hs, q⟩ := h
  cases x with
  | non =>
    cases rx
    cases y with
    | non => cases ry; exact PySem.EqNone.eq_none_none (fin_bl I q (by simp))
    | bl j => cases ry; exact PySem.EqNone.eq_none_bool (fin_bl I q (by simp))
    | int j => obtain ⟨t', rfl⟩ := ry; exact PySem.EqNone.eq_none_int (fin_bl I q (by simp))
    | str j => obtain ⟨t', rfl⟩ := ry; exact PySem.EqNone.eq_none_str (fin_bl I q (by simp))
    | _ => exact absurd (show false = true from hs) Bool.false_ne_true
  | bl i =>
    cases rx
    cases y with
    | non => cases ry; exact PySem.EqNone.eq_bool_none (fin_bl I q (by simp))
    | bl j => cases ry; exact eq_bool (fin_bl I q dec_bl)
    | str j => obtain ⟨t', rfl⟩ := ry; exact PySem.EqMixed.eq_bool_str (fin_bl I q (by simp))
    | _ => exact absurd (show false = true from hs) Bool.false_ne_true
  | int i =>
    obtain ⟨t, rfl⟩ := rx
    cases y with
    | non => cases ry; exact PySem.EqNone.eq_int_none (fin_bl I q (by simp))
    | int j => obtain ⟨t', rfl⟩ := ry; exact eq_int (fin_bl I q dec_int)
    | str j => obtain ⟨t', rfl⟩ := ry; exact PySem.EqMixed.eq_int_str (fin_bl I q (by simp))
    | _ => exact absurd (show false = true from hs) Bool.false_ne_true
  | str i =>
    obtain ⟨t, rfl⟩ := rx
    cases y with
    | non => cases ry; exact PySem.EqNone.eq_str_none (fin_bl I q (by simp))
    | bl j => cases ry; exact PySem.EqMixed.eq_str_bool (fin_bl I q (by simp))
    | int j => obtain ⟨t', rfl⟩ := ry; exact PySem.EqMixed.eq_str_int (fin_bl I q (by simp))
    | str j => obtain ⟨t', rfl⟩ := ry; exact eq_str (fin_bl I q dec_str)
    | _ => exact absurd (show false = true from hs) Bool.false_ne_true
  | byt i =>
    obtain ⟨t, rfl⟩ := rx
    cases y with
    | byt j => obtain ⟨t', rfl⟩ := ry; exact PySem.W.eq_bytes (fin_bl I q dec_byt)
    | _ => exact absurd (show false = true from hs) Bool.false_ne_true
  | _ => cases y <;> exact absurd (show false = true from hs) Bool.false_ne_true
theorem op_ne : OpR X (compareOp .NotEq) rNe := by
  intro pins s σ H x y v u Q I rx ry h
  obtain ⟨hs, q⟩ := h
  cases x with
  | non =>
    cases rx
    cases y with
    | non => cases ry; exact PySem.EqNone.ne_none_none (fin_bl I q (by simp))
    | bl j => cases ry; exact PySem.EqNone.ne_none_bool (fin_bl I q (by simp))
    | int j => obtain ⟨t', rfl⟩ := ry; exact PySem.EqNone.ne_none_int (fin_bl I q (by simp))
    | str j => obtain ⟨t', rfl⟩ := ry; exact PySem.EqNone.ne_none_str (fin_bl I q (by simp))
    | _ => exact absurd (show false = true from hs) Bool.false_ne_true
  | bl i =>
    cases rx
    cases y with
    | non => cases ry; exact PySem.EqNone.ne_bool_none (fin_bl I q (by simp))
    | bl j => cases ry; exact ne_bool (fin_bl I q (congrArg not dec_bl))
    | str j => obtain ⟨t', rfl⟩ := ry; exact PySem.EqMixed.ne_bool_str (fin_bl I q (by simp))
    | _ => exact absurd (show false = true from hs) Bool.false_ne_true
  | int i =>
    obtain ⟨t, rfl⟩ := rx
    cases y with
    | non => cases ry; exact PySem.EqNone.ne_int_none (fin_bl I q (by simp))
    | int j => obtain ⟨t', rfl⟩ := ry; exact ne_int (fin_bl I q (congrArg not dec_int))
    | str j => obtain ⟨t', rfl⟩ := ry; exact PySem.EqMixed.ne_int_str (fin_bl I q (by simp))
    | _ => exact absurd (show false = true from hs) Bool.false_ne_true
  | str i =>
    obtain ⟨t, rfl⟩ := rx
    cases y with
    | non => cases ry; exact PySem.EqNone.ne_str_none (fin_bl I q (by simp))
    | bl j => cases ry; exact PySem.EqMixed.ne_str_bool (fin_bl I q (by simp))
    | int j => obtain ⟨t', rfl⟩ := ry; exact PySem.EqMixed.ne_str_int (fin_bl I q (by simp))
    | str j => obtain ⟨t', rfl⟩ := ry; exact ne_str (fin_bl I q (congrArg not dec_str))
    | _ => exact absurd (show false = true from hs) Bool.false_ne_true
  | byt i =>
    obtain ⟨t, rfl⟩ := rx
    cases y with
    | byt j => obtain ⟨t', rfl⟩ := ry; exact PySem.W.ne_bytes (fin_bl I q (congrArg not dec_byt))
    | _ => exact absurd (show false = true from hs) Bool.false_ne_true
  | _ => cases y <;> exact absurd (show false = true from hs) Bool.false_ne_true

theorem op_lt : OpR X (compareOp .Lt) (rI0 fun i j => .bl (decide (i < j))) := opB0 fun _ _ _ _ _ _ _ q => lt_int q
theorem op_gt : OpR X (compareOp .Gt) (rI0 fun i j => .bl (decide (j < i))) := opB0 fun _ _ _ _ _ _ _ q => gt_int q

theorem op_notN : OpR X (compareOp .IsNot) (fun x y H Q => y = .non ∧ Q (.bl (!decide (x = .non))) H) := by
  intro pins s σ H x y v u Q I rx ry h
  obtain ⟨rfl, q⟩ := h
  cases ry
  refine isnot_none_gen (fin_bl I q ?_)
  cases x <;> first
    | (cases rx; rfl)
    | (obtain ⟨t, rfl⟩ := rx; rfl)



theorem nomark (b : Expr) {op : CmpOp} (h : op ≠ .In := by decide) (h2 : op ≠ .NotIn := by decide) : behindInMarks op b = false := by
  have e1 : (op == CmpOp.In) = false := by cases op <;> first | rfl | exact absurd rfl h
  have e2 : (op == CmpOp.NotIn) = false := by cases op <;> first | rfl | exact absurd rfl h2
  cases b <;> simp [behindInMarks, e1, e2]
/-- a comparison as a value; hm: nomark b, or (for in, not in) by with_unfolding_all rfl -/
theorem pe_cmpR {op : CmpOp} {r : R2} (ho : OpR X (compareOp op) r) (ha : PE X a ta) (hb : PE X b tb) (hm : behindInMarks op b = false) : PE X (.Compare a [op] [b] pos) (tOp r ta tb) := by
  intro pins s σ H Q I h
  exact wpAny_Compare1 (binT ha hb I h fun v u s2 x y H2 I2 rx ry q => ho pins s2 σ H2 x y v u Q I2 rx ry q) hm
/-- a reading of a value as a test -/
def tTest (t : TE) : TT := fun σ H Q => t σ H fun x H' => ∃ k, x = .bl k ∧ Q k H'
theorem pt_cmpR {op : CmpOp} {r : R2} (ho : OpR X (compareOp op) r) (ha : PE X a ta) (hb : PE X b tb) (hm : behindInMarks op b = false) : PT X (.Compare a [op] [b] pos) (tTest (tOp r ta tb)) := by
  intro pins s σ H Q I h
  refine wpAny_isTrue_Compare1 (thn (ha pins s σ H _ I h) fun v s1 ⟨x, H1, I1, r1, q1⟩ => thn (hb pins s1 σ H1 _ I1 q1) fun u s2 ⟨y, H2, I2, r2, q2⟩ =>
    thn (ho pins s2 σ H2 x y v u _ I2 r1 r2 q2) fun c s3 ⟨z, H3, I3, r3, k, e, q3⟩ => ?_) hm
  subst e
  cases r3
  exact wpAny_truthy_bool ⟨H3, I3, q3⟩

/-! ### truth -/
theorem line63 : (sizeLine : Nat) < 2 ^ 63 := by rw [sizeLine_eq]; decide

/-! ### strs and bytes -/


/-! ### scalar builtins, by CallR -/
theorem vals1 {x : V} {us : List Value} (r : Vals [x] us) : ∃ u, us = [u] ∧ RelV x u := by
  cases r with
  | cons r1 r2 => cases r2; exact ⟨_, rfl, r1⟩
theorem vals2 {x y : V} {us : List Value} (r : Vals [x, y] us) : ∃ u w', us = [u, w'] ∧ RelV x u ∧ RelV y w' := by
  cases r with
  | cons r1 r2 =>
    cases r2 with
    | cons r3 r4 => cases r4; exact ⟨_, _, rfl, r1, r3⟩
theorem call_max2 (hc : X.calm = true) : CallR X (.builtin "max") (fun xs H Q => ∃ i j, xs = [.int i, .int j] ∧ Q (.int (if j > i then j else i)) H) := by
  intro pins s σ H xs us Q I r h
  obtain ⟨i, j, rfl, q⟩ := h
  obtain ⟨u, w', rfl, ⟨t, rfl⟩, ⟨t', rfl⟩⟩ := vals2 r
  refine max_two_ints (I.ok.hd hc) fun h' tk k => ⟨_, H, I.kept k, ?_, q⟩
  by_cases hj : j > i
  · rw [if_pos hj, if_pos hj]; exact ⟨_, rfl⟩
  · rw [if_neg hj, if_neg hj]; exact ⟨_, rfl⟩
end
end L2

namespace L2
open PySem PySem.Spec PyProof.Rows

/-! ### an instance, its attributes a map -/
structure ObjM (h : Heap) (x dx C : Addr) (mA : Str → Option Value) : Prop where
  obj : h.get? x = some (PySem.W.instObj C dx)
  ns : h.Ns1 dx mA
  ne : dx ≠ x

theorem lookIn_ns {h : Heap} {dx : Addr} {mA : Str → Option Value} (n : h.Ns1 dx mA) : ∃ od, h.get? dx = some od ∧ ∀ name, PySem.W.lookIn name od = some (mA name) := by
  obtain ⟨o, es, ep, ho, hd, hk, _, hm⟩ := n
  refine ⟨o, ho, fun name => ?_⟩
  have e := hm name
  unfold nsFind findBy at e
  rw [← Array.find?_toList] at e
  unfold PySem.W.lookIn
  rw [hd]
  dsimp only
  split
  · rename_i y q
    rw [q] at e
    exact congrArg some e
  · rename_i q
    rw [q] at e
    have a : es.toList.any (·.refKey) = false := by
      rw [List.any_eq_false]
      intro y hy
      obtain ⟨z, t, hkey⟩ := hk y (Array.mem_toList_iff.mp hy)
      simp [DictEntry.refKey, hkey]
    have a' : ¬ es.toList.any (·.refKey) = true := by rw [a]; exact Bool.false_ne_true
    rw [if_neg a']
    exact congrArg some e

theorem ObjM.look {h : Heap} {x dx C : Addr} {mA : Str → Option Value} (I : ObjM h x dx C mA) : ∃ od, PySem.W.InstAt h x (PySem.W.instObj C dx) C (some od) ∧ ∀ name, PySem.W.lookIn name od = some (mA name) :=
  let ⟨od, ho, hl⟩ := lookIn_ns I.ns
  ⟨od, ⟨I.obj, rfl, rfl, ho⟩, hl⟩

section
variable {prog : Program} {w : World} {A : Around} {E : Value → Shared → Prop} {s : Shared} {K : PySem.W.Frag} {x dx C f : Addr} {mA : Str → Option Value} {name : Str} {v : Value}





end

/-! ### the attributes as a list of pairs -/


section
variable {P : Program} {w : World} {H H' : Hp} {h h' : Heap} {a C dx : Addr} {fs fs' : List (Str × V)}
theorem ins_get (hok : HOk P w H h) (e : H a = some (.ins C dx fs)) : ∃ mA, ObjM h a dx C mA ∧ (∀ f, RelO (fs.lookup f) (mA f)) ∧ PySem.Within mA (fs.map (·.1)) ∧ fs.length ≤ 1000 ∧ H dx = some (.own a) := by
  obtain ⟨d, z, ne, ob, mA, n, r, q⟩ := (show ObjOk P w H h a (.ins C dx fs) from hok a _ e)
  exact ⟨mA, ⟨ob, n, ne⟩, r, q, z, d⟩
end

/-! ### what of the text a class must have -/
structure Cls (K : PySem.W.Frag) (C : Addr) : Prop where
  pg : PySem.W.plainGet K C Str.empty = true
  hd : PySem.W.hasDictIn K C = true
  po : PySem.W.plainOver K C = true
  sa : PySem.W.findIn K (.ref C) "__setattr__" = some (some (.builtin "object.__setattr__"))
theorem Cls.get {K : PySem.W.Frag} {C : Addr} (c : Cls K C) (f : Str) : PySem.W.plainGet K C f = true := c.pg

section
variable {X : Cx} {pins : List (Addr × Obj)} {σ : St} {H : Hp} {s : Shared} {a C dx : Addr} {fs : List (Str × V)} {f : Str} {v : V} {A : Around} {E : Value → Shared → Prop}






end

/-! ### readings and rules -/

section
variable {X : Cx} {o e value : Expr} {f : Str} {pos pos' tpos : Pos} {ta tv : TE}

end

/-! ### isinstance -/
section
variable {X : Cx} {pins : List (Addr × Obj)} {σ : St} {H : Hp} {s : Shared} {A : Around} {E : Value → Shared → Prop} {Q : Value → Shared → Prop} {c : Value} {b : Bool}
/-- the type of a value, as the fragment's deciders take it; for an instance its class -/
inductive TyOf (K : PySem.W.Frag) (H : Hp) : V → Value → Prop where
  | non : TyOf K H .non (.type "NoneType")
  | bl (x : Bool) : TyOf K H (.bl x) (.type "bool")
  | int (i : Int) : TyOf K H (.int i) (.type "int")
  | str (x : Str) : TyOf K H (.str x) (.type "str")
  | flt (x : UInt64) : TyOf K H (.flt x) (.type "float")
  | lst {a : Addr} {xs : List V} (e : H a = some (.lst xs)) : TyOf K H (.ref a) (.type "list")
  | frz {a : Addr} {o : Obj} {xs : List V} (e : H a = some (.frz o (.lst xs))) : TyOf K H (.ref a) (.type "list")
  | tup {a : Addr} {xs : List V} (e : H a = some (.tup xs)) : TyOf K H (.ref a) (.type "tuple")
  | dK {a : Addr} {kvs : List (Key × V)} (e : H a = some (.dK kvs)) : TyOf K H (.ref a) (.type "dict")
  | dT {a : Addr} {kvs : List (List Key × V)} (e : H a = some (.dT kvs)) : TyOf K H (.ref a) (.type "dict")
  | ins {a C dx : Addr} {fs : List (Str × V)} (e : H a = some (.ins C dx fs)) (cl : Cls K C) (ha : PySem.W.findIn K (.ref C) "__class__" = some (some (.builtin "object.__class__")))
      (hn : PySem.W.specialIn K (.builtin "object.__class__") "__get__" = some (some (.builtin "getset_descriptor.__get__"))) (htk : PySem.W.takesIn K (.builtin "object.__class__") = some true)
      (hm : PySem.W.mroIn K C (.type "object") = some true) : TyOf K H (.ref a) (.ref C)
/-- isinstance(x, c) for one class c, a built-in or an own one: kitOne's answer -/
theorem isinst_ok {x : V} {u t : Value} (I : Inv X pins σ H s) (rx : RelV x u) (ty : TyOf X.K H x t) (e : PySem.W.kitOne X.K t c = some b) (h : ∀ tk, Q (.bool b) { s with toks := tk }) :
    wpAny (model X.prog X.w) A (call (.builtin "isinstance") [u, c]) Q E s := by
  cases ty with
  | non => cases (show u = Value.none from rx); exact PySem.W.kia_one PySem.W.kitx_none I.kIn True.intro e (fun z => nomatch z) h
  | bl y => cases (show u = Value.bool y from rx); exact PySem.W.kia_one PySem.W.kitx_bool I.kIn True.intro e (fun z => nomatch z) h
  | int i => obtain ⟨t, q⟩ := (show ∃ t, u = Value.int i t from rx); cases q; exact PySem.W.kia_one PySem.W.kitx_int I.kIn True.intro e (fun z => nomatch z) h
  | str y => obtain ⟨t, q⟩ := (show ∃ t, u = Value.str y t from rx); cases q; exact PySem.W.kia_one PySem.W.kitx_str I.kIn True.intro e (fun z => nomatch z) h
  | flt y => obtain ⟨t, q⟩ := (show ∃ t, u = Value.float y t from rx); cases q; exact PySem.W.kia_one PySem.W.kitx_float I.kIn True.intro e (fun z => nomatch z) h
  | @lst a xs ea =>
    cases (show u = Value.ref a from rx)
    obtain ⟨_, _, n, _, h1⟩ := (show ObjOk X.prog X.w H s.heap a (.lst xs) from I.hok a _ ea)
    exact PySem.W.kia_one PySem.W.kitx_list I.kIn ⟨_, h1, rfl⟩ e (fun z => nomatch z) h
  | @frz a ob xs ea =>
    cases (show u = Value.ref a from rx)
    obtain ⟨_, _, _, n, _, h1⟩ := (show ObjOk X.prog X.w H s.heap a (.frz ob (.lst xs)) from I.hok a _ ea)
    exact PySem.W.kia_one PySem.W.kitx_list I.kIn ⟨_, h1, rfl⟩ e (fun z => nomatch z) h
  | @tup a xs ea =>
    cases (show u = Value.ref a from rx)
    obtain ⟨_, _, _, p⟩ := (show ObjOk X.prog X.w H s.heap a (.tup xs) from I.hok a _ ea)
    obtain ⟨o, h1, h2, _⟩ := p
    exact PySem.W.kia_one PySem.W.kitx_tuple I.kIn ⟨o, h1, h2⟩ e (fun z => nomatch z) h
  | @dK a kvs ea =>
    cases (show u = Value.ref a from rx)
    obtain ⟨_, _, vs, _, p⟩ := (show ObjOk X.prog X.w H s.heap a (.dK kvs) from I.hok a _ ea)
    obtain ⟨o, es, ep, h1, h2, _⟩ := p
    exact PySem.W.kia_one PySem.W.kitx_dict I.kIn ⟨o, h1, h2.1⟩ e (fun z => nomatch z) h
  | @dT a kvs ea =>
    cases (show u = Value.ref a from rx)
    obtain ⟨_, _, xs, _, o, es, ep, h1, h2, _⟩ := (show ObjOk X.prog X.w H s.heap a (.dT kvs) from I.hok a _ ea)
    exact PySem.W.kia_one PySem.W.kitx_dict I.kIn ⟨o, h1, h2.1⟩ e (fun z => nomatch z) h
  | @ins a C dx fs ea cl ha hn htk hm =>
    cases (show u = Value.ref a from rx)
    obtain ⟨mA, O, _⟩ := ins_get I.hok ea
    obtain ⟨od, J, _⟩ := O.look
    exact PySem.W.kia_one (PySem.W.kitx_own (cl.get _) cl.hd ha hn htk hm) I.kIn J e (fun z => nomatch z) h
end
end L2

namespace L2
open PySem PySem.Spec PyProof.Rows

/-! ### room -/
structure Room (k : Nat) (A : Around) : Prop where
  hd : A.handled = none
  dp : A.depth + 3 * k + 5 < recursionLimit
  un : A.units + 16 * k + 200 < cLine
theorem Room.mono {j k : Nat} {A : Around} (r : Room k A) (h : j ≤ k) : Room j A := ⟨r.hd, by have := r.dp; omega, by have := r.un; omega⟩
theorem Room.deeper {k : Nat} {A : Around} (r : Room (k + 1) A) (env : Env) : Room k (A.deeper env) :=
  ⟨r.hd, by have := r.dp; show A.depth + 1 + 3 * k + 5 < _; omega, by have := r.un; show A.units + 3 + 16 * k + 200 < _; omega⟩
theorem Room.depth {k : Nat} {A : Around} (r : Room k A) : A.depth < recursionLimit := by have := r.dp; omega
theorem Room.units {k : Nat} {A : Around} (r : Room k A) : A.units + 64 < cLine := by have := r.un; omega

/-! ### argument lists and displays -/
def tNil : TA := fun _ H Q => Q [] H
def tCons (ta : TE) (tr : TA) : TA := fun σ H Q => ta σ H fun x H1 => tr σ H1 fun xs H2 => Q (x :: xs) H2
section
variable {X : Cx} {e : Expr} {es : List Expr} {te : TE} {t : TA} {pos : Pos}
theorem pa_nil : PA X [] tNil := fun _ _ _ _ H Q I h => Calls.spliced_nil ⟨[], H, I, .nil, h⟩
theorem pa_cons (ha : PE X e te) (hr : PA X es t) (hs : starEach (e :: es) X.env = (false, eval e X.env) :: starEach es X.env := by rfl) : PA X (e :: es) (tCons te t) := by
  intro pos pins s σ H Q I h
  rw [hs]
  show wpAny _ _ (spliced ((false, eval e X.env) :: backTo pos (starEach es X.env))) _ _ s
  refine Calls.spliced_cons (thn (ha pins s σ H _ I h) fun u s1 ⟨x, H1, I1, r1, q1⟩ => ?_)
  exact thn (hr pos pins s1 σ H1 _ I1 q1) fun us s2 ⟨xs, H2, I2, r2, q2⟩ => ⟨x :: xs, H2, I2, .cons r1 r2, q2⟩

/-- a tuple, a list of written items -/
def tTup (t : TA) : TE := fun σ H Q => t σ H fun xs H1 => xs.length ≤ sizeLine ∧ ∀ p, H1 p = none → Q (.ref p) (upd H1 p (.tup xs))
def tLst (t : TA) : TE := fun σ H Q => t σ H fun xs H1 => xs.length ≤ sizeLine ∧ ∀ p, H1 p = none → Q (.ref p) (upd H1 p (.lst xs))
theorem pe_tup {x1} (h : PA X es t) : PE X (.Tuple es x1 pos) (tTup t) := by
  intro pins s σ H Q I hq
  refine wpAny_Tuple_spliced (thn (h pos pins s σ H _ I hq) fun us s1 ⟨xs, H1, I1, r, z, q⟩ => ⟨by rw [← r.length]; exact z, ?_⟩)
  have hf : H1 s1.heap.objs.size = none := I1.hok.fresh (Nat.le_refl _)
  refine ⟨.ref s1.heap.objs.size, upd H1 s1.heap.objs.size (.tup xs), I1.laid (t' := s1.toks) (fun b u e => Heap.get?_push_of_some _ e) (Nat.le_refl _) ?_, rfl, q _ hf⟩
  exact ⟨z, us, r, ⟨_, Heap.get?_push_size _ rfl, rfl, _, rfl⟩⟩
theorem pe_lst (h : PA X es t) : PE X (.List es pos) (tLst t) := by
  intro pins s σ H Q I hq
  refine wpAny_List_spliced (thn (h pos pins s σ H _ I hq) fun us s1 ⟨xs, H1, I1, r, z, q⟩ => ⟨by rw [← r.length]; exact z, ?_⟩)
  have hf : H1 s1.heap.objs.size = none := I1.hok.fresh (Nat.le_refl _)
  refine ⟨.ref s1.heap.objs.size, upd H1 s1.heap.objs.size (.lst xs), I1.laid (t' := s1.toks) (fun b u e => Heap.get?_push_of_some _ e) (Nat.le_refl _) ?_, rfl, q _ hf⟩
  exact ⟨z, us, 0, r, Heap.get?_push_size _ rfl⟩
end

/-! ### what a def promises -/
/-- a def's promise: the bound arguments in the parameters' order, the heap, the wanted end, the wanted exception -/
abbrev Sp := List V → Hp → VK → XK → Prop
/-- how an exception lies behind a call (file 08 gives it): the callers' frames, abstract heap and state ahead of the call, the wish, the exception, the state -/
abbrev CXT := List Env → Hp → Shared → XK → Value → Shared → Prop

/-- the state at a call -/
structure Env0 (P : Program) (w : World) (K : PySem.W.Frag) (mg : Str → Option Value) (base : Heap) (A : Around) (outer : List Env) (s : Shared) (H : Hp) : Prop where
  frames : A.frames = some outer
  mod : Mod K mg base
  bs : ∀ b o, base.get? b = some o → s.heap.get? b = some o ∧ H b = none
  bsz : base.objs.size ≤ s.heap.objs.size
  funs : s.heap.FunFrames base outer
  frf : ∀ b ∈ frs outer, H b = none
  hok : HOk P w H s.heap
  bare : AllBare s.gens
/-- a call's end -/
def CE (outer : List Env) (P : Program) (w : World) (H : Hp) (s : Shared) (Q : VK) (u : Value) (s' : Shared) : Prop :=
  ∃ v H', s'.os = s.os ∧ AllBare s'.gens ∧ Un (frs outer) [] H H' s.heap s'.heap ∧ HOk P w H' s'.heap ∧ RelV v u ∧ Q v H'
def CR (CX : CXT) (outer : List Env) (P : Program) (w : World) (H : Hp) (s : Shared) (Q : VK) (E : XK) (r : Result) (s' : Shared) : Prop :=
  match r with
  | .ok (.ret u) => CE outer P w H s Q u s'
  | .ok _ => False
  | .error e => CX outer H s E e s'
structure FnOk (P : Program) (w : World) (K : PySem.W.Frag) (mg : Str → Option Value) (base : Heap) (CX : CXT) (k : Nat) (f : Addr) (fd : FuncData) (ps : List Str) (sp : Sp) : Prop where
  len : ∀ vs H Q E, sp vs H Q E → vs.length = ps.length
  run : ∀ (A : Around) (outer : List Env) (s : Shared) (H : Hp) (args : Args) (us : List Value) (vs : List V) (Q : VK) (E : XK), Room k A → Env0 P w K mg base A outer s H → BindsTo s fd args (ps.zip us) → Vals vs us → sp vs H Q E →
    codeAny (model P w) A (.call (.ref f) args) (CR CX outer P w H s Q E) s


section
variable {X : Cx} {pins : List (Addr × Obj)} {σ : St} {H : Hp} {s s' : Shared}
/-- from a body: what a callee wants -/
theorem Inv.env0 (I : Inv X pins σ H s) : Env0 X.prog X.w X.K X.mg X.base X.A X.stack s H :=
  ⟨I.ok.frames, I.ok.mod, I.bs, Nat.le_trans I.ok.bsz I.sz, I.stack, I.stkFree, I.hok, I.bare⟩
/-- behind a call -/
theorem Inv.after {Q : VK} {u : Value} (I : Inv X pins σ H s) (h : CE X.stack X.prog X.w H s Q u s') : EP X pins σ Q u s' := by
  obtain ⟨v, H', os, bare, un, hok, r, q⟩ := h
  obtain ⟨hh, g, d, t, os'⟩ := s'
  obtain rfl : os' = s.os := os
  exact ⟨v, H', I.call (h' := hh) (g' := g) (d' := d) (t' := t) (ch := []) un hok bare (fun b z => absurd z (by simp)), r, q⟩
end

/-! ### calls -/
/-- f(..): the written arguments, then the defaults dvs; E: what is wanted of an exception -/
def tCall (sp : Sp) (dvs : List V) (E : XK) (t : TA) : TE := fun σ H Q => t σ H fun vs H1 => sp (vs ++ dvs) H1 Q E

/-- how the parameters are bound: us the positional arguments, kw the keywords' values by name, ds the defaults that fill up -/
def Binds (K : PySem.W.Frag) (fd : FuncData) (ps : List Str) (ds : List Value) : Prop :=
  ∀ (s : Shared) (us : List Value), K.In s.heap → (us ++ ds).length = ps.length → BindsTo s fd ⟨us, []⟩ (ps.zip (us ++ ds))
/-- every parameter is given -/
theorem Binds.all {K : PySem.W.Frag} {fd : FuncData} {ps : List Str} (h : ∀ us : List Value, us.length = ps.length → bindArgs fd ⟨us, []⟩ = pure (ps.zip us)) : Binds K fd ps [] := fun s us _ hl => by
  rw [List.append_nil] at hl ⊢
  exact .of_eq (h us hl)

/-- an exception of a callee reaches what this body wants of exceptions -/
def Passes (CX : CXT) (X : Cx) (E : XK) : Prop := ∀ (pins : List (Addr × Obj)) (σ : St) (H : Hp) (s : Shared) (e : Value) (s' : Shared), Inv X pins σ H s → CX X.stack H s E e s' → X.xe e s'

section
variable {X : Cx} {CX : CXT} {k : Nat} {f C : Addr} {fd : FuncData} {ps : List Str} {sp : Sp} {dvs : List V} {ds : List Value} {E : XK} {x m : Str} {p pos apos : Pos} {e o : Expr} {es : List Expr} {ta : TE} {t : TA}

/-- the callee runs -/
theorem run_fn {pins : List (Addr × Obj)} {σ : St} {H : Hp} {s : Shared} {Q : VK} {us : List Value} {vs : List V} (F : FnOk X.prog X.w X.K X.mg X.base CX k f fd ps sp) (hr : Room k X.A) (hb : Binds X.K fd ps ds) (hd : Vals dvs ds) (hx : Passes CX X E)
    (I : Inv X pins σ H s) (r : Vals vs us) (h : sp (vs ++ dvs) H Q E) : wpAny (model X.prog X.w) X.A (call (.ref f) us) (EP X pins σ Q) X.xe s := by
  have r2 : Vals (vs ++ dvs) (us ++ ds) := r.append hd
  have hl : (us ++ ds).length = ps.length := by rw [← r2.length]; exact F.len _ _ _ _ h
  refine wpAny_call (codeAny_mono (F.run X.A X.stack s H ⟨us, []⟩ (us ++ ds) (vs ++ dvs) Q E hr I.env0 (hb s us I.kIn hl) r2 h) fun r s' hq => ?_)
  cases r with
  | error e => exact hx pins σ H s e s' I hq
  | ok fl =>
    cases fl with
    | ret u => exact I.after hq
    | next => exact False.elim hq
    | brk => exact False.elim hq
    | cont => exact False.elim hq

theorem pe_call (F : FnOk X.prog X.w X.K X.mg X.base CX k f fd ps sp) (hr : Room k X.A) (hg : Gl X x) (hm : X.mg x = some (.ref f)) (hk : PySem.W.keepIn X.K (.ref f) = true) (hb : Binds X.K fd ps ds) (hd : Vals dvs ds) (hx : Passes CX X E)
    (ha : PA X (e :: es) t) (hdb : (x == ("__debug__" : Str)) = false := by decide) (he : starEach (e :: es) X.env = (false, eval e X.env) :: starEach es X.env := by rfl) (hpl : (backTo pos (starEach es X.env)).any (·.1) = false := by rfl) :
    PE X (.Call (.Name x p) (e :: es) [] pos) (tCall sp dvs E t) := by
  intro pins s σ H Q I h
  refine wpAny_Call_Name_kw (ld_glob I hg hm ?_ hdb)
  refine PySem.W.callWith_K (h₀ := X.base) I.ok.mod.kin hk (thn (ha pos pins s σ H _ I h) fun us s1 ⟨vs, H1, I1, r, q⟩ => ⟨I1.kIn, ?_⟩) he hpl
  exact run_fn F hr hb hd hx I1 r q



end

/-! ### keywords -/
section
variable {X : Cx} {CX : CXT} {k : Nat} {f C : Addr} {fd : FuncData} {ps ks : List Str} {sp : Sp} {E : XK} {x m : Str} {p pos apos kpos : Pos} {e o : Expr} {es : List Expr} {kws : List Keyword} {te ta : TE} {t tk : TA} {nm : Option Str}

variable {g : List Value → List Value → List Value} {gV : List V → List V → List V}
end

/-! ### a def's body keeps its promise -/
/-- names: the parameters first -/
structure FnScope (N P : List Str) (sc : Scope) : Prop where
  kind : sc.kind = .function
  co : sc.isCoroutine = false
  gen : sc.isGenerator = false
  nd : N.Nodup
  pre : N.take P.length = P
  par : ∀ x ∈ P, sc.names.lookup x = some .local ∨ sc.names.lookup x = some .cell
  nofree : ∀ y ∈ sc.names, y.2 ≠ .free

theorem bindL_out {kindOf : Str → Option NameKind} {x : Str} : ∀ {binds : List (Str × Value)} {m : Str → Option Value}, (∀ v, (x, v) ∉ binds) → bindL kindOf binds m x = m x
  | [], _, _ => rfl
  | (n, v) :: r, m, h => by
    unfold bindL
    rw [bindL_out fun w hw => h w (List.mem_cons_of_mem _ hw)]
    split
    · have : x ≠ n := by rintro rfl; exact h v List.mem_cons_self
      simp [this]
    · rfl
theorem bindC_out {kindOf : Str → Option NameKind} {x : Str} : ∀ {binds : List (Str × Value)} {m : Str → Option Value}, (∀ v, (x, v) ∉ binds) → bindC kindOf binds m x = m x
  | [], _, _ => rfl
  | (n, v) :: r, m, h => by
    unfold bindC
    rw [bindC_out fun w hw => h w (List.mem_cons_of_mem _ hw)]
    split
    · rfl
    · have : x ≠ n := by rintro rfl; exact h v List.mem_cons_self
      simp [this]
theorem bindL_get {kindOf : Str → Option NameKind} {x : Str} {v : Value} : ∀ {P : List Str} {vs : List Value} {i : Nat} {m : Str → Option Value}, P.Nodup → P[i]? = some x → vs[i]? = some v → kindOf x = some .local →
    bindL kindOf (P.zip vs) m x = some v
  | [], _, _, _, _, h, _, _ => by simp at h
  | _ :: _, [], _, _, _, _, h, _ => by simp at h
  | p :: P, w :: vs, 0, m, nd, h1, h2, hk => by
    simp at h1 h2; subst h1; subst h2
    show bindL kindOf ((p, w) :: P.zip vs) m p = _
    unfold bindL
    rw [bindL_out fun v hv => (List.nodup_cons.mp nd).1 (List.of_mem_zip hv).1, if_pos hk]
    simp
  | p :: P, w :: vs, i + 1, m, nd, h1, h2, hk => by
    show bindL kindOf ((p, w) :: P.zip vs) m x = _
    unfold bindL
    exact bindL_get (i := i) (List.nodup_cons.mp nd).2 (by simpa using h1) (by simpa using h2) hk
theorem bindC_get {kindOf : Str → Option NameKind} {x : Str} {v : Value} : ∀ {P : List Str} {vs : List Value} {i : Nat} {m : Str → Option Value}, P.Nodup → P[i]? = some x → vs[i]? = some v → kindOf x ≠ some .local →
    bindC kindOf (P.zip vs) m x = some v
  | [], _, _, _, _, h, _, _ => by simp at h
  | _ :: _, [], _, _, _, _, h, _ => by simp at h
  | p :: P, w :: vs, 0, m, nd, h1, h2, hk => by
    simp at h1 h2; subst h1; subst h2
    show bindC kindOf ((p, w) :: P.zip vs) m p = _
    unfold bindC
    rw [bindC_out fun v hv => (List.nodup_cons.mp nd).1 (List.of_mem_zip hv).1, if_neg hk]
    simp
  | p :: P, w :: vs, i + 1, m, nd, h1, h2, hk => by
    show bindC kindOf ((p, w) :: P.zip vs) m x = _
    unfold bindC
    exact bindC_get (i := i) (List.nodup_cons.mp nd).2 (by simpa using h1) (by simpa using h2) hk

/-- the names' values at the entry -/
def start (N : List Str) (vs : List V) : St := vs.map some ++ List.replicate (N.length - vs.length) none

/-- the context of a def's body, at its entry; an exception leaves the frame, then lies as CX says -/
def cxOf (CX : CXT) (P : Program) (w : World) (K : PySem.W.Frag) (mg : Str → Option Value) (base : Heap) (N : List Str) (qual : Str) (scope : Scope) (f : Addr) (cd : Value) (A : Around) (outer : List Env) (s : Shared) (H : Hp) (E : XK) : Cx where
  prog := P
  w := w
  K := K
  mg := mg
  base := base
  A := A.deeper (envOfC qual scope s.heap.objs.size f cd)
  N := N
  s₀ := s
  H₀ := H
  env := envOfC qual scope s.heap.objs.size f cd
  outer := outer
  stack := envOfC qual scope s.heap.objs.size f cd :: outer
  ex := []
  calm := true
  fn := fun _ => true
  pn := []
  xe := fun e s' => wpAny (model P w) (A.deeper (envOfC qual scope s.heap.objs.size f cd)) (leaving (envOfC qual scope s.heap.objs.size f cd) e) (fun _ s'' => CX outer H s E e s'') (fun e' s'' => CX outer H s E e' s'') s'

theorem cell_has {sc : Scope} {n : Nat} {x : Str} (h : sc.names.lookup x = some .cell) : ∃ c, (cellsFrom n sc.names []).lookup x = some c := by
  have q := PySem.W.cellsFrom_some sc.names n [] (.inl h)
  exact Option.isSome_iff_exists.mp q

theorem inv_start {CX : CXT} {P : Program} {w : World} {K : PySem.W.Frag} {mg : Str → Option Value} {base : Heap} {N ps : List Str} {qual : Str} {scope : Scope} {f : Addr} {cd : Value} {A : Around} {outer : List Env} {s s1 : Shared} {H : Hp} {E : XK} {us : List Value} {vs : List V}
    (S : FnScope N ps scope) (hd : A.handled = none) (e0 : Env0 P w K mg base A outer s H) (hl : vs.length = ps.length) (r : Vals vs us)
    (x : InCallC s s.heap.objs.size (bindL (envOfC qual scope s.heap.objs.size f cd).kindOf (ps.zip us) fun _ => none) (cellsFrom (s.heap.objs.size + 1) scope.names []) (bindC (envOfC qual scope s.heap.objs.size f cd).kindOf (ps.zip us) fun _ => none) s1) :
    Inv (cxOf CX P w K mg base N qual scope f cd A outer s H E) [] (start N vs) H s1 := by
  have hpl : ps.length ≤ N.length := by have := congrArg List.length S.pre; rw [List.length_take] at this; omega
  obtain ⟨h1, tk, rfl, hk⟩ := x.done
  have noA : ∀ b : Addr, b ∉ (cxOf CX P w K mg base N qual scope f cd A outer s H E).ex := fun b z => absurd (show b ∈ ([] : List Addr) from z) (by simp)
  refine ⟨⟨e0.mod, S.kind, rfl, rfl, Nat.le_refl _, fun y z c h1 h2 => ?_, fun y hy => ?_, fun y c _ h => ?_, fun _ => hd, Around.frames_deeper e0.frames, .inr ⟨rfl, rfl⟩, fun b z => absurd z (noA b), e0.bs, e0.bsz, fun b _ _ => noA b, fun b z => absurd z (noA b), e0.funs, e0.frf⟩,
    rfl, e0.bare, Un.kept hk, ⟨_, x.toInCall.ns, fun i y v h1 h2 h3 => ?_⟩, fun y c h => ⟨_, x.cell y c h⟩, e0.hok.fresh (Nat.le_refl _), fun y c h => ?_, fun p hp => absurd (show p ∈ ([] : List (Addr × Obj)) from hp) (by simp), e0.hok.kept hk, ?_⟩
  · exact name_of_addr x.apart (PySem.mem_of_lookup h1) (PySem.mem_of_lookup h2)
  · have hy : scope.names.lookup y = some .cell ∨ scope.names.lookup y = some .free := hy
    rcases hy with hy | hy
    · exact cell_has hy
    · exact absurd rfl (S.nofree _ (PySem.mem_of_lookup hy))
  · exact Nat.le_of_lt (x.above y c (PySem.mem_of_lookup h))
  · have hi : i < vs.length := by
      unfold start at h2
      by_cases hi : i < vs.length
      · exact hi
      · rw [List.getElem?_append_right (by simpa using hi)] at h2
        rw [List.getElem?_replicate] at h2
        split at h2 <;> cases h2
    have ha : vs[i]? = some v := by
      unfold start at h2
      rw [List.getElem?_append_left (by simpa using hi), List.getElem?_map] at h2
      cases e : vs[i]? with
      | none => rw [e] at h2; cases h2
      | some a => rw [e] at h2; cases h2; rfl
    obtain ⟨u, hu, rv⟩ := r.get ha
    have hp : ps[i]? = some y := by
      rw [← S.pre, List.getElem?_take_of_lt (by omega)]; exact h1
    have ndP : ps.Nodup := by rw [← S.pre]; exact S.nd.sublist (List.take_sublist _ _)
    refine ⟨u, rv, ?_⟩
    rcases S.par y (List.mem_of_getElem? hp) with k | k
    · exact .inl ⟨k, bindL_get ndP hp hu k⟩
    · obtain ⟨c, e⟩ := cell_has (n := s.heap.objs.size + 1) k
      refine .inr ⟨.inl k, c, e, ?_⟩
      have q := x.cell y c e
      rw [bindC_get ndP hp hu (by show scope.names.lookup y ≠ _; rw [k]; decide)] at q
      exact q
  · exact e0.hok.fresh (Nat.le_of_lt (x.above y c (PySem.mem_of_lookup h)))
  · unfold start
    show _ = N.length
    rw [List.length_append, List.length_map, List.length_replicate]
    omega

/-- THE RULE: a def (or a method) of the text, by its body. The body's reading t is chosen for each entry; it is run at the parameters' values -/
theorem fn_of {CX : CXT} {P : Program} {w : World} {K : PySem.W.Frag} {mg : Str → Option Value} {base : Heap} {k : Nat} {f : Addr} {name qual : Str} {params : Arguments} {body : List Stmt} {scope : Scope} {dV kV doc pm cdv ct oc : Value} {an od : Option Addr}
    {osl : Array (Option Value)} {N ps : List Str} {sp : Sp} (lk : K.lookup f = some ⟨oc, od, .func (PySem.W.fnOf name qual params body scope dV kV doc pm an cdv ct), osl⟩) (hcd : PySem.W.codeIn K cdv qual = true) (S : FnScope N ps scope)
    (len : ∀ vs H Q E, sp vs H Q E → vs.length = ps.length)
    (hbody : ∀ (A : Around) (outer : List Env) (s : Shared) (H : Hp) (vs : List V) (Q : VK) (E : XK), Room k (A.deeper (envOfC qual scope s.heap.objs.size f cdv)) → sp vs H Q E →
      ∃ t, PSs (cxOf CX P w K mg base N qual scope f cdv A outer s H E) body t ∧ t { nx := fun _ H' => Q .non H', rt := Q } (start N vs) H) :
    FnOk P w K mg base CX (k + 1) f (PySem.W.fnOf name qual params body scope dV kV doc pm an cdv ct) ps sp := by
  refine ⟨len, fun A outer s H args us vs Q E hr e0 hb r hsp => ?_⟩
  have hl := len _ _ _ _ hsp
  have KX : K.In s.heap := e0.mod.kin.keeps fun b o e => (e0.bs b o e).1
  have lim : s.heap.NoLimit := e0.mod.nolimit.keeps fun b o e => (e0.bs b o e).1
  have hkind : ∀ y ∈ ps.zip us, scope.names.lookup y.1 = some .local ∨ (scope.names.lookup y.1 = some .cell ∧ ((cellsFrom (s.heap.objs.size + 1) scope.names []).lookup y.1).isSome = true) := fun ⟨n, v⟩ hy => by
    rcases S.par n (List.of_mem_zip hy).1 with q | q
    · exact .inl q
    · exact .inr ⟨q, PySem.W.cellsFrom_some _ _ _ (.inl q)⟩
  refine codeAny_call_function hr.depth (KX _ _ lk) rfl S.co S.gen rfl (PySem.W.codeRec_of KX hcd) (hb _ _ _ _ ?_)
  refine wpAny_newFunctionEnv_cells S.kind hkind fun env he s1 x => ?_
  subst he
  refine ⟨lim.keeps x.toInCall.keep, codeAny_func ?_⟩
  obtain ⟨t, ht, hq⟩ := hbody A outer s H vs Q E (hr.deeper _) hsp
  have I : Inv (cxOf CX P w K mg base N qual scope f cdv A outer s H E) [] (start N vs) H s1 := inv_start S hr.hd e0 hl r x
  refine wpAny_mono (ht [] s1 (start N vs) H _ I hq) (fun fl s' hs => ?_) fun e s' hs => hs
  have fin : ∀ {σ' : St} {H' : Hp} {v : V} {u : Value}, Inv (cxOf CX P w K mg base N qual scope f cdv A outer s H E) [] σ' H' s' → RelV v u → Q v H' → CE outer P w H s Q u s' :=
    fun {σ' H' v u} J rv q => ⟨v, H', J.os, J.bare, J.base, J.hok, rv, q⟩
  cases fl with
  | ret u =>
    obtain ⟨v, σ', H', J, rv, q⟩ := hs
    exact fin J rv q
  | next =>
    obtain ⟨σ', H', J, q⟩ := hs
    exact fin (v := V.non) (u := Value.none) J rfl q
  | brk =>
    obtain ⟨_, _, _, q⟩ := hs
    exact False.elim q
  | cont =>
    obtain ⟨_, _, _, q⟩ := hs
    exact False.elim q
end L2

namespace L2
open PySem PySem.Spec PyProof.Rows
section
variable {X : Cx} {x : Str} {p pos : Pos} {e : Expr} {es : List Expr} {t : TA} {id T : String} {r : List V → Hp → VK → Prop}

def tCB (r : List V → Hp → VK → Prop) (t : TA) : TE := fun σ H Q => t σ H fun vs H1 => r vs H1 Q
/-- f(e, ..), f a built-in function -/
theorem pe_callB (hc : CallR X (.builtin id) r) (hg : Gl X x) (hm : X.mg x = none) (hv : bootBuiltins x = some (.builtin id)) (ha : PA X (e :: es) t) (hn : x ≠ "__name__" := by decide) (hdb : (x == ("__debug__" : Str)) = false := by decide)
    (he : starEach (e :: es) X.env = (false, eval e X.env) :: starEach es X.env := by rfl) (hpl : (backTo pos (starEach es X.env)).any (·.1) = false := by rfl) : PE X (.Call (.Name x p) (e :: es) [] pos) (tCB r t) := by
  intro pins s σ H Q I h
  refine wpAny_Call_Name_kw (ld_blt I hg hm hv ?_ hn hdb)
  exact PyProof.Rows.callWith_builtin1 (thn (ha pos pins s σ H _ I h) fun us s1 ⟨vs, H1, I1, r1, q1⟩ => hc pins s1 σ H1 vs us Q I1 r1 q1) he hpl
/-- T(e, ..), T a built-in type -/
theorem pe_callTy (hc : CallR X (.type T) r) (hg : Gl X x) (hm : X.mg x = none) (hv : bootBuiltins x = some (.type T)) (ha : PA X (e :: es) t) (hn : x ≠ "__name__" := by decide) (hdb : (x == ("__debug__" : Str)) = false := by decide)
    (he : starEach (e :: es) X.env = (false, eval e X.env) :: starEach es X.env := by rfl) (hpl : (backTo pos (starEach es X.env)).any (·.1) = false := by rfl) : PE X (.Call (.Name x p) (e :: es) [] pos) (tCB r t) := by
  intro pins s σ H Q I h
  refine wpAny_Call_Name_kw (ld_blt I hg hm hv ?_ hn hdb)
  exact PyProof.Rows.callWith_type1 (thn (ha pos pins s σ H _ I h) fun us s1 ⟨vs, H1, I1, r1, q1⟩ => hc pins s1 σ H1 vs us Q I1 r1 q1) he hpl
end
end L2

namespace HT
open PySem PyProof.Rows



section
open PySem.SeqAt
open PySem.AutoSeq1 (wpAny_loadPart')
open PySem.MeetsSeq PySem.MeetsSeq2 PySem.MeetsSeq3

end

section
variable {prog : Program} {w : World} {A : Around} {E : Value → Shared → Prop} {s : Shared}



/-! ### t[a:b], not the whole -/
/-- a slice's bound as a place among n (d where it is left out) -/
def sIx (n d : Nat) : Option Int → Nat
  | none => d
  | some v => if v < 0 then (v + (n : Int)).toNat else min v.toNat n
theorem sIx_none (n d : Nat) : sIx n d none = d := rfl
theorem sIx_nat (n d k : Nat) : sIx n d (some (k : Int)) = min k n := by
  show (if (k : Int) < 0 then ((k : Int) + (n : Int)).toNat else min (k : Int).toNat n) = min k n
  rw [if_neg (by omega), Int.toNat_natCast]

end
end HT

namespace L2
open PySem PySem.Spec PyProof.Rows

/-! ### the parts of a slice -/
abbrev TO := St → Hp → (Option Int → Hp → Prop) → Prop
/-- a slice's part (left out, or an int) -/
def PO (X : Cx) (e : Option Expr) (t : TO) : Prop :=
  ∀ (pins : List (Addr × Obj)) (s : Shared) (σ : St) (H : Hp) (Q : Option Int → Hp → Prop), Inv X pins σ H s → t σ H Q →
    wpAny (model X.prog X.w) X.A (evalPart e X.env) (fun u s' => ∃ o H', Inv X pins σ H' s' ∧ IsPart u o ∧ Q o H') X.xe s
def tNoPart : TO := fun _ H Q => Q none H
def tPart (t : TE) : TO := fun σ H Q => t σ H fun x H1 => ∃ i, x = .int i ∧ Q (some i) H1

theorem intsAre_of {ns : List Int} : ∀ {us : List Value}, Vals (ns.map V.int) us → IntsAre us ns := by
  induction ns with
  | nil => intro us r; rw [List.map_nil] at r; cases r; exact .nil
  | cons n ns ih =>
    intro us r
    rw [List.map_cons] at r
    cases r with
    | cons r1 r2 =>
      obtain ⟨t, e⟩ := r1
      subst e
      exact .cons n t (ih r2)

section
variable {X : Cx} {e : Expr} {te : TE} {lo hi : Option Expr} {tl th : TO} {pos p2 : Pos}

theorem po_none : PO X none tNoPart := by
  intro pins s σ H Q I h
  rw [evalPart_none]
  exact wpAny_pure ⟨none, H, I, .none, h⟩
theorem po_some (h : PE X e te) : PO X (some e) (tPart te) := by
  intro pins s σ H Q I hw
  rw [evalPart_some]
  refine thn (h pins s σ H _ I hw) fun u s1 ⟨x, H1, I1, r1, q1⟩ => ?_
  obtain ⟨i, rfl, q⟩ := q1
  obtain ⟨t, rfl⟩ := r1
  exact ⟨some i, H1, I1, .int i t, q⟩

/-- what a slice of a value is, by values: the slice object stands at sl -/
def SlR (X : Cx) (r : V → Option Int → Option Int → Hp → VK → Prop) : Prop :=
  ∀ (pins : List (Addr × Obj)) (s : Shared) (σ : St) (H : Hp) (x : V) (v vl vu : Value) (lo hi : Option Int) (sl : Addr) (Q : VK), Inv X pins σ H s → RelV x v → s.heap.IsSliceOf sl vl vu .none → IsPart vl lo → IsPart vu hi → r x lo hi H Q →
    ∃ T id, typeLookup (.type T) "__getitem__" = pure (some (.builtin id)) ∧ s.TypeIs v T ∧ wpAny (model X.prog X.w) X.A (getItem v (.ref sl)) (EP X pins σ Q) X.xe s
def tSl (r : V → Option Int → Option Int → Hp → VK → Prop) (te : TE) (tl th : TO) : TE := fun σ H Q => te σ H fun x H1 => tl σ H1 fun l H2 => th σ H2 fun u H3 => r x l u H3 Q
/-- a[lo:hi], any a -/
theorem pe_slice {r : V → Option Int → Option Int → Hp → VK → Prop} (hr : SlR X r) (he : PE X e te) (hl : PO X lo tl) (hu : PO X hi th) : PE X (.Subscript e (.Slice lo hi none p2) pos) (tSl r te tl th) := by
  intro pins s σ H Q I h
  refine Subscript_ (thn (he pins s σ H _ I h) fun v s1 ⟨x, H1, I1, r1, q1⟩ => ?_)
  refine wpAny_Slice (thn (hl pins s1 σ H1 _ I1 q1) fun vl s2 ⟨l, H2, I2, pl, q2⟩ => thn (hu pins s2 σ H2 _ I2 q2) fun vu s3 ⟨u, H3, I3, pu, q3⟩ => ?_)
  rw [evalPart_none]
  refine wpAny_pure ?_
  have I4 : Inv X pins σ H3 { s3 with heap := s3.heap.push { cls := .type "slice", data := .fields #[vl, vu, .none] } } := I3.kept (t' := s3.toks) fun b ob q => Heap.get?_push_of_some _ q
  obtain ⟨T, id, hT, ht, hg⟩ := hr pins { s3 with heap := s3.heap.push { cls := .type "slice", data := .fields #[vl, vu, .none] } } σ H3 x v vl vu l u s3.heap.objs.size Q I4 r1 (Heap.IsSliceOf.new ..) pl pu q3
  show wpAny (model X.prog X.w) X.A (subscriptTail e (.Slice lo hi none p2) v (.ref s3.heap.objs.size)) (EP X pins σ Q) X.xe { s3 with heap := s3.heap.push { cls := .type "slice", data := .fields #[vl, vu, .none] } }
  exact tail_any (ops := [.ref s3.heap.objs.size, v]) ht hT hg (by with_unfolding_all rfl)

/-- the items of xs[lo:hi] -/
def cutV (xs : List V) (lo hi : Option Int) : List V := (xs.drop (HT.sIx xs.length 0 lo)).take (HT.sIx xs.length xs.length hi - HT.sIx xs.length 0 lo)
theorem cutV_length (xs : List V) (lo hi : Option Int) : (cutV xs lo hi).length ≤ xs.length := by
  unfold cutV
  rw [List.length_take, List.length_drop]
  omega

/-! ### t < u, t + u -/
end
end L2

namespace L2
open PySem PySem.Spec PyProof.Rows

/-! ### places -/
/-- the place that an index of any sign means -/
def ixN (n : Nat) (i : Int) : Option Nat := if 0 ≤ i then (if i < n then some i.toNat else none) else if -(n : Int) ≤ i then some (i + n).toNat else none
def atI {α : Type} (xs : List α) (i : Int) : Option α := (ixN xs.length i).bind fun j => xs[j]?
theorem ixN_seq {n : Nat} {i : Int} {j : Nat} (h : ixN n i = some j) : seqIndex? i n = some j ∧ j < n ∧ -(n : Int) ≤ i ∧ i < n := by
  unfold ixN at h
  by_cases h0 : 0 ≤ i
  · rw [if_pos h0] at h
    by_cases h1 : i < n
    · rw [if_pos h1] at h
      have e : i.toNat = j := Option.some.inj h
      exact ⟨by rw [seqIndex_of h0 h1, e], by omega, by omega, h1⟩
    · rw [if_neg h1] at h; cases h
  · rw [if_neg h0] at h
    by_cases h1 : -(n : Int) ≤ i
    · rw [if_pos h1] at h
      have e : (i + n).toNat = j := Option.some.inj h
      exact ⟨by rw [seqIndex_neg (by omega) h1, e], by omega, h1, by omega⟩
    · rw [if_neg h1] at h; cases h
theorem atI_get {α : Type} {xs : List α} {i : Int} {v : α} (h : atI xs i = some v) : ∃ j, seqIndex? i xs.length = some j ∧ xs[j]? = some v ∧ j < xs.length ∧ -(xs.length : Int) ≤ i ∧ i < xs.length := by
  unfold atI at h
  cases e : ixN xs.length i with
  | none => rw [e] at h; cases h
  | some j =>
    rw [e] at h
    obtain ⟨h1, h2, h3, h4⟩ := ixN_seq e
    exact ⟨j, h1, h, h2, h3, h4⟩
theorem atI_nat {α : Type} {xs : List α} {j : Nat} {v : α} (h : xs[j]? = some v) : atI xs (j : Int) = some v := by
  have hj : j < xs.length := (List.getElem?_eq_some_iff.mp h).1
  have e : ixN xs.length (j : Int) = some j := by
    unfold ixN
    rw [if_pos (by omega), if_pos (by omega)]; simp
  unfold atI; rw [e]; exact h

/-! ### what may be subscripted -/
/-- what stands as an index of a plain subscript -/
def PlainIx (b : Expr) : Prop := ∀ o i, subscripted b false o i = operate [o, i] (getItem o i)
/-- a subscript by values -/
def IxR (X : Cx) (r : R2) : Prop :=
  ∀ (value slice : Expr) (pins : List (Addr × Obj)) (s : Shared) (σ : St) (H : Hp) (x y : V) (v u : Value) (Q : VK), Inv X pins σ H s → RelV x v → RelV y u → r x y H Q →
    subscripted slice false v u = operate [v, u] (getItem v u) → wpAny (model X.prog X.w) X.A (subscriptTail value slice v u) (EP X pins σ Q) X.xe s
/-- a call of a builtin's method by values: the receiver, the arguments -/
def MtR (X : Cx) (id : String) (r : V → List V → Hp → VK → Prop) : Prop :=
  ∀ (pins : List (Addr × Obj)) (s : Shared) (σ : St) (H : Hp) (x : V) (xs : List V) (v : Value) (us : List Value) (Q : VK), Inv X pins σ H s → RelV x v → Vals xs us → r x xs H Q →
    wpAny (model X.prog X.w) X.A (call (.builtin id) (v :: us)) (EP X pins σ Q) X.xe s
section
variable {X : Cx} {a b : Expr} {ta tb : TE} {pos : Pos}
/-- a[b] -/
theorem pe_ix {r : R2} (hr : IxR X r) (ha : PE X a ta) (hb : PE X b tb) (hs : PlainIx b) : PE X (.Subscript a b pos) (tOp r ta tb) := by
  intro pins s σ H Q I h
  exact Subscript_ (binT ha hb I h fun v u s2 x y H2 I2 rx ry q => hr a b pins s2 σ H2 x y v u Q I2 rx ry q (hs _ _))

def rIxL (K : PySem.W.Frag) : R2 := fun x y H Q => ∃ p xs i v, x = .ref p ∧ y = .int i ∧ SqL K H p xs ∧ atI xs i = some v ∧ Q v H
theorem ix_list : IxR X (rIxL X.K) := by
  intro value slice pins s σ H x y v u Q I rx ry h hs
  obtain ⟨p, xs, i, z, rfl, rfl, hq, he, q⟩ := h
  cases rx
  obtain ⟨t, rfl⟩ := ry
  obtain ⟨its, r, pl, hz⟩ := I.list hq
  obtain ⟨j, h1, h2, h3, h4, h5⟩ := atI_get he
  obtain ⟨w, ew, rw'⟩ := r.get h2
  have hl := r.length
  have hn := line63
  have fin : EP X pins σ Q w s := ⟨z, H, I, rw', q⟩
  by_cases h0 : 0 ≤ i
  · have hj : i.toNat = j := by
      rw [seqIndex_of h0 h5] at h1
      exact Option.some.inj h1
    exact item_listR pl.isList h0 (by omega) (by rw [hj]; simpa using ew) fin hs
  · have hj : (i + (its.toArray.size : Int)).toNat = j := by
      rw [seqIndex_neg (by omega) h4] at h1
      rw [List.size_toArray, ← hl]
      exact Option.some.inj h1
    exact subscriptTail_builtinR (x := w) pl.isList.typeIs slot_list_getitem.lookup
      (wpAny_getItem_list_neg (Q := fun r s' => r = w ∧ EP X pins σ Q r s') pl.isList (by omega) (by rw [List.size_toArray] <;> omega) (by omega) (by rw [hj]; simpa using ew) ⟨rfl, fin⟩) hs

/-! ### xs[i] = v, any sign -/
/-- the list's object behind a store -/
theorem mapSeq_set (its : List Value) (n j : Nat) (u : Value) : Obj.mapSeq (·.setIfInBounds j u) { cls := .type "list", data := .seq its.toArray n } = { cls := .type "list", data := .seq (its.set j u).toArray n } := by
  simp [Obj.mapSeq]
theorem Inv.lst {pins : List (Addr × Obj)} {σ : St} {H : Hp} {s : Shared} {p : Addr} {xs : List V} (I : Inv X pins σ H s) (h : H p = some (.lst xs)) :
    ∃ (its : List Value) (n : Nat), Vals xs its ∧ s.heap.get? p = some { cls := .type "list", data := .seq its.toArray n } ∧ xs.length ≤ sizeLine := by
  obtain ⟨z, its, n, r, e⟩ := I.hok p _ h
  exact ⟨its, n, r, e, z⟩
/-- the list at p is written by an update of its object -/
theorem Inv.lstUpd {pins : List (Addr × Obj)} {σ : St} {H : Hp} {s : Shared} {p : Addr} {xs ys : List V} {its its' : List Value} {n n' : Nat} {f : Obj → Obj} (I : Inv X pins σ H s) (h : H p = some (.lst xs))
    (ho : s.heap.get? p = some { cls := .type "list", data := .seq its.toArray n }) (hf : f { cls := .type "list", data := .seq its.toArray n } = { cls := .type "list", data := .seq its'.toArray n' }) (r : Vals ys its') (hz : ys.length ≤ sizeLine) (t : Nat) :
    Inv X pins σ (upd H p (.lst ys)) { s with heap := s.heap.update p f, toks := t } := by
  have e : (s.heap.update p f).get? p = some { cls := .type "list", data := .seq its'.toArray n' } := by
    rw [Heap.get?_update_self f ho (by rw [hf] <;> rfl), hf]
  refine I.write (x := p) (e := p) (by rw [h]; trivial) (.inl rfl) (fun b u hb q => (Heap.get?_update_other _ _ (Ne.symm hb)).trans q) ⟨_, e⟩ ?_
  exact ⟨hz, its', n', r, e⟩
def rSetL : V → V → V → Hp → (Hp → Prop) → Prop := fun o i v H Q => ∃ p xs k j, o = .ref p ∧ i = .int k ∧ H p = some (.lst xs) ∧ ixN xs.length k = some j ∧ Q (upd H p (.lst (xs.set j v)))
theorem set_list : PSet X rSetL := by
  intro pins s σ H o i v ov iv u Q I ro ri rv h
  obtain ⟨p, xs, k, j, rfl, rfl, hp, hj, q⟩ := h
  cases ro
  obtain ⟨t, rfl⟩ := ri
  obtain ⟨its, n, r, ho, hz⟩ := I.lst hp
  obtain ⟨h1, h2, h3, h4⟩ := ixN_seq hj
  have hl := r.length
  have hn := line63
  have I' : Inv X pins σ (upd H p (.lst (xs.set j v))) { s with heap := s.heap.update p (Obj.mapSeq (·.setIfInBounds j u)) } :=
    I.lstUpd hp ho (mapSeq_set its n j u) (r.set rv j) (by rw [List.length_set]; exact hz) s.toks
  by_cases h0 : 0 ≤ k
  · have hk : k.toNat = j := by
      rw [seqIndex_of h0 h4] at h1
      exact Option.some.inj h1
    exact PySem.W.ki_setAt ho h0 (by omega) (by rw [List.size_toArray, ← hl]; exact h4) (by rw [hk]; exact ⟨_, I', q⟩)
  · have hk : (k + (its.toArray.size : Int)).toNat = j := by
      rw [seqIndex_neg (by omega) h3] at h1
      rw [List.size_toArray, ← hl]
      exact Option.some.inj h1
    exact PySem.W.ki_setBack ho (by omega) (by rw [List.size_toArray, ← hl]; exact h3) (by omega) (by rw [hk]; exact ⟨_, I', q⟩)

/-! ### slices -/
theorem slice_bounds (lo hi : Option Int) (n : Nat) : (sliceBounds lo hi none n).1 = ((HT.sIx n 0 lo : Nat) : Int) ∧ (sliceBounds lo hi none n).2.1 = ((HT.sIx n n hi : Nat) : Int) ∧ (sliceBounds lo hi none n).2.2 = 1 := by
  refine ⟨?_, ?_, rfl⟩
  · cases lo with
    | none => simp [sliceBounds, HT.sIx]
    | some i =>
      simp only [sliceBounds, HT.sIx, Option.getD_none, show (1 : Int) > 0 by decide, if_true]
      by_cases h : i < 0
      · simp only [h, if_true] <;> omega
      · simp only [h, if_false] <;> omega
  · cases hi with
    | none => simp [sliceBounds, HT.sIx]
    | some i =>
      simp only [sliceBounds, HT.sIx, Option.getD_none, show (1 : Int) > 0 by decide, if_true]
      by_cases h : i < 0
      · simp only [h, if_true] <;> omega
      · simp only [h, if_false] <;> omega
theorem slicePick_cut (its : List Value) (lo hi : Option Int) : slicePick its.toArray lo hi none = ((its.drop (HT.sIx its.length 0 lo)).take (HT.sIx its.length its.length hi - HT.sIx its.length 0 lo)).toArray := by
  obtain ⟨h1, h2, h3⟩ := slice_bounds lo hi its.toArray.size
  unfold slicePick
  rw [h1, h2, h3]
  simp only [sliceRange_one, pick_run, List.size_toArray] <;> rfl
/-- xs[lo:hi] of a list: a new list -/
def rSlL (K : PySem.W.Frag) : V → Option Int → Option Int → Hp → VK → Prop := fun x lo hi H Q => ∃ a xs, x = .ref a ∧ SqL K H a xs ∧ ∀ p, H p = none → Q (.ref p) (upd H p (.lst (cutV xs lo hi)))
theorem sl_list : SlR X (rSlL X.K) := by
  intro pins s σ H x v vl vu lo hi sl Q I rx hs pl pu h
  obtain ⟨a, xs, rfl, hx, q⟩ := h
  cases rx
  obtain ⟨its, r, ht, hz⟩ := I.list hx
  have hlen := r.length
  refine ⟨"list", _, slot_list_getitem.lookup, ht.isList.typeIs, ?_⟩
  refine wpAny_getItem_list_slice ht.isList hs pl pu .none (by simp) ?_ (by rw [List.size_toArray] <;> omega)
  rw [slicePick_cut, ← hlen]
  refine ⟨.ref s.heap.objs.size, _, I.laid (t' := s.toks) (o := .lst (cutV xs lo hi)) (fun b ob q => Heap.get?_push_of_some _ q) (Nat.le_refl _) ?_, rfl, q _ (I.hok.fresh (Nat.le_refl _))⟩
  exact ⟨Nat.le_trans (cutV_length xs lo hi) hz, _, 0, (r.drop (HT.sIx xs.length 0 lo)).take (HT.sIx xs.length xs.length hi - HT.sIx xs.length 0 lo), Heap.get?_push_size _ rfl⟩

/-! ### in, not in: flat items -/
def flatV : V → Bool
  | .non => true
  | .bl _ => true
  | .int _ => true
  | .str _ => true
  | _ => false
/-- == of flat values -/
def eqV : V → V → Bool
  | .non, .non => true
  | .bl a, .bl b => a == b
  | .bl a, .int b => (if a then 1 else 0) == b
  | .int a, .bl b => a == (if b then 1 else 0)
  | .int a, .int b => a == b
  | .str a, .str b => a == b
  | _, _ => false
theorem eqAt_V {A : Around} {s : Shared} {y x : V} {u v : Value} (ry : RelV y u) (rx : RelV x v) (fy : flatV y = true) (fx : flatV x = true) : SeqAt.EqAt A s u v (eqV y x) := by
  cases y with
  | non =>
    cases ry
    cases x with
    | non => cases rx; exact SeqAt.EqAt.same _
    | bl b => cases rx; exact SeqAt.EqAt.none_bool b
    | int b => obtain ⟨t, rfl⟩ := rx; exact SeqAt.EqAt.none_int b t
    | str b => obtain ⟨t, rfl⟩ := rx; exact SeqAt.EqAt.none_str b t
    | _ => exact absurd (show false = true from fx) Bool.false_ne_true
  | bl a =>
    cases ry
    cases x with
    | non => cases rx; exact SeqAt.EqAt.bool_none a
    | bl b => cases rx; exact SeqAt.EqAt.bool_bool a b
    | int b => obtain ⟨t, rfl⟩ := rx; exact SeqAt.EqAt.bool_int a b t
    | str b => obtain ⟨t, rfl⟩ := rx; exact SeqAt.EqAt.bool_str a b t
    | _ => exact absurd (show false = true from fx) Bool.false_ne_true
  | int a =>
    obtain ⟨t', rfl⟩ := ry
    cases x with
    | non => cases rx; exact SeqAt.EqAt.int_none a t'
    | bl b => cases rx; exact SeqAt.EqAt.int_bool a t' b
    | int b => obtain ⟨t, rfl⟩ := rx; exact SeqAt.EqAt.int_int a t' b t
    | str b => obtain ⟨t, rfl⟩ := rx; exact SeqAt.EqAt.int_str a t' b t
    | _ => exact absurd (show false = true from fx) Bool.false_ne_true
  | str a =>
    obtain ⟨t', rfl⟩ := ry
    cases x with
    | non => cases rx; exact SeqAt.EqAt.str_none a t'
    | bl b => cases rx; exact SeqAt.EqAt.str_bool a t' b
    | int b => obtain ⟨t, rfl⟩ := rx; exact SeqAt.EqAt.str_int a t' b t
    | str b => obtain ⟨t, rfl⟩ := rx; exact SeqAt.EqAt.str_str a t' b t
    | _ => exact absurd (show false = true from fx) Bool.false_ne_true
  | _ => exact absurd (show false = true from fy) Bool.false_ne_true
/-- the items' answers, read off the values (a value's own answer does not lean on its token) -/
def eqU (x : V) (u : Value) : Bool := match u with
  | .none => eqV .non x
  | .bool b => eqV (.bl b) x
  | .int i _ => eqV (.int i) x
  | .str z _ => eqV (.str z) x
  | _ => false
theorem eqU_of {x y : V} {u : Value} (r : RelV y u) (f : flatV y = true) : eqU x u = eqV y x := by
  cases y with
  | non => cases r; rfl
  | bl b => cases r; rfl
  | int i => obtain ⟨t, rfl⟩ := r; rfl
  | str z => obtain ⟨t, rfl⟩ := r; rfl
  | _ => exact absurd (show false = true from f) Bool.false_ne_true
theorem any_eqU {x : V} : ∀ {xs : List V} {us : List Value}, Vals xs us → xs.all flatV = true → us.any (eqU x) = xs.any fun y => eqV y x
  | _, _, .nil, _ => rfl
  | y :: xs, u :: us, .cons r t, f => by
    rw [List.all_cons, Bool.and_eq_true] at f
    rw [List.any_cons, List.any_cons, eqU_of r f.1, any_eqU t f.2]
theorem mem_eqAt {A : Around} {s : Shared} {x : V} {v : Value} (rx : RelV x v) (fx : flatV x = true) : ∀ {xs : List V} {us : List Value}, Vals xs us → xs.all flatV = true → ∀ u ∈ us, SeqAt.EqAt A s u v (eqU x u)
  | _, _, .nil, _ => fun u hu => by cases hu
  | y :: xs, u :: us, .cons r t, f => fun u' hu => by
    rw [List.all_cons, Bool.and_eq_true] at f
    rcases List.mem_cons.mp hu with rfl | hu
    · rw [eqU_of r f.1]; exact eqAt_V r rx f.1 fx
    · exact mem_eqAt rx fx t f.2 u' hu
def inV (x : V) (xs : List V) : Bool := xs.any fun y => eqV y x
/-- x in a list or tuple of flat items -/
def rIn (K : PySem.W.Frag) (neg : Bool) : R2 := fun x y H Q => ∃ p xs, y = .ref p ∧ (SqL K H p xs ∨ SqT K H p xs) ∧ flatV x = true ∧ xs.all flatV = true ∧ Q (.bl (if neg then !inV x xs else inV x xs)) H
theorem op_notIn_seq : OpR X (compareOp .NotIn) (rIn X.K true) := by
  intro pins s σ H x y v u Q I rx ry h
  obtain ⟨p, xs, rfl, hq, fx, fs, q⟩ := h
  cases ry
  rcases hq with hq | hq
  · obtain ⟨its, r, pl, hz⟩ := I.list hq
    refine SeqAt.notIn_listAt (eqU x) pl.isList (fun w hw => mem_eqAt rx fx r fs w (by simpa using hw)) ⟨.bl _, H, I, rfl, ?_⟩
    rw [show its.toArray.any (eqU x) = its.any (eqU x) by simp, any_eqU r fs]
    exact q
  · obtain ⟨its, r, pl, hz⟩ := I.tuple hq
    refine SeqAt.notIn_tupleAt (eqU x) pl (fun w hw => mem_eqAt rx fx r fs w (by simpa using hw)) ⟨.bl _, H, I, rfl, ?_⟩
    rw [show its.toArray.any (eqU x) = its.any (eqU x) by simp, any_eqU r fs]
    exact q

/-! ### len, list(x), tuple(x) of any list or tuple that is read -/
theorem call_len_seq : CallR X (.builtin "len") (fun xs H Q => ∃ p ys, xs = [.ref p] ∧ (SqL X.K H p ys ∨ SqT X.K H p ys) ∧ Q (.int ys.length) H) := by
  intro pins s σ H xs us Q I r h
  obtain ⟨p, ys, rfl, hq, q⟩ := h
  obtain ⟨u, rfl, rx⟩ := vals1 r
  cases rx
  have hn := line63
  rcases hq with hq | hq
  · obtain ⟨its, r', pl, hz⟩ := I.list hq
    have hlen := r'.length
    exact Calls.call_len_list pl.isList (by simp only [List.size_toArray] <;> omega) ⟨.int ys.length, H, I.tok _, ⟨s.toks + 1, by rw [List.size_toArray, hlen]⟩, q⟩
  · obtain ⟨its, r', pl, hz⟩ := I.tuple hq
    have hlen := r'.length
    exact len_tuple pl (by simp only [List.size_toArray] <;> omega) ⟨.int ys.length, H, I.tok _, ⟨s.toks + 1, by rw [List.size_toArray, hlen]⟩, q⟩
theorem call_list_of : CallR X (.type "list") (fun xs H Q => ∃ p ys, xs = [.ref p] ∧ (SqL X.K H p ys ∨ SqT X.K H p ys) ∧ ∀ l, H l = none → Q (.ref l) (upd H l (.lst ys))) := by
  intro pins s σ H xs us Q I r h
  obtain ⟨p, ys, rfl, hq, q⟩ := h
  obtain ⟨u, rfl, rx⟩ := vals1 r
  cases rx
  have fin : ∀ (its : List Value), Vals ys its → ys.length ≤ sizeLine → ∀ (h' : Heap) (c' : Nat), (∀ b o', s.heap.get? b = some o' → h'.get? b = some o') →
      h'.get? s.heap.objs.size = some { cls := .type "list", dict := none, data := .seq its.toArray c', slots := #[] } → EP X pins σ Q (.ref s.heap.objs.size) { s with heap := h' } := fun its r' hz h' c' kp e =>
    ⟨.ref s.heap.objs.size, _, I.laid (t' := s.toks) kp (Nat.le_refl _) (show ObjOk X.prog X.w _ h' _ (.lst ys) from ⟨hz, its, c', r', e⟩), rfl, q _ (I.hok.fresh (Nat.le_refl _))⟩
  rcases hq with hq | hq
  · obtain ⟨its, r', pl, hz⟩ := I.list hq
    have hlen := r'.length
    obtain ⟨o, ho, hc, n, hd⟩ := pl.isList
    exact call_list_seq p (.inl rfl) ho hc hd (fun h' c' kp e => fin its r' hz h' c' kp e) (by simp only [List.size_toArray] <;> omega)
  · obtain ⟨its, r', pl, hz⟩ := I.tuple hq
    have hlen := r'.length
    obtain ⟨o, ho, hc, n, hd⟩ := pl
    exact call_list_seq p (.inr rfl) ho hc hd (fun h' c' kp e => fin its r' hz h' c' kp e) (by simp only [List.size_toArray] <;> omega)

/-! ### the call of a builtin's method: o.m(..) -/
/-- the value is of that builtin type -/
def tyV (K : PySem.W.Frag) (T : String) (x : V) (H : Hp) : Prop := match x with
  | .str _ => T = "str"
  | .int _ => T = "int"
  | .ref p => (T = "list" ∧ ∃ xs, SqL K H p xs) ∨ (T = "tuple" ∧ ∃ o, K.lookup p = some o ∧ o.cls = .type "tuple" ∧ o.dict = none) ∨
      (T = "dict" ∧ ((∃ kvs, H p = some (.dK kvs)) ∨ ∃ kvs, H p = some (.dT kvs))) ∨ (T = "set" ∧ ∃ S n, H p = some (.set S n))
  | _ => False
theorem tyV_is {pins : List (Addr × Obj)} {σ : St} {H : Hp} {s : Shared} {T : String} {x : V} {v : Value} (I : Inv X pins σ H s) (r : RelV x v) (ty : tyV X.K T x H) :
    s.TypeIs v T ∧ ∀ a, v = .ref a → ∃ ob, s.heap.get? a = some ob ∧ ob.dict = none := by
  cases x with
  | str z =>
    obtain ⟨t, rfl⟩ := r
    cases (show T = "str" from ty)
    exact ⟨typeIs_str s z t, fun _ e => nomatch e⟩
  | int i =>
    obtain ⟨t, rfl⟩ := r
    cases (show T = "int" from ty)
    exact ⟨typeIs_int s i t, fun _ e => nomatch e⟩
  | ref p =>
    cases r
    rcases ty with ⟨rfl, xs, hq⟩ | ⟨rfl, o, hk, hc, hd⟩ | ⟨rfl, hk⟩ | ⟨rfl, S, n, hk⟩
    · obtain ⟨its, _, pl, _⟩ := I.list hq
      refine ⟨pl.isList.typeIs, fun a e => ?_⟩
      cases e
      obtain ⟨o, n, e, c, hd, _⟩ := pl
      exact ⟨o, e, hd⟩
    · refine ⟨⟨o, I.kIn p o hk, hc⟩, fun a e => ?_⟩
      cases e
      exact ⟨o, I.kIn _ o hk, hd⟩
    · have z : ∃ o, s.heap.get? p = some o ∧ o.ExactDict := by
        rcases hk with ⟨kvs, hk⟩ | ⟨kvs, hk⟩
        · obtain ⟨_, _, _, _, o, _, _, e, ex, _⟩ := I.hok p _ hk
          exact ⟨o, e, ex⟩
        · obtain ⟨_, _, _, _, o, _, _, e, ex, _⟩ := I.hok p _ hk
          exact ⟨o, e, ex⟩
      obtain ⟨o, e, ex⟩ := z
      refine ⟨⟨o, e, ex.1⟩, fun a e2 => ?_⟩
      cases e2
      exact ⟨o, e, ex.2.1⟩
    · obtain ⟨o, _, _, _, e, ex, _⟩ := I.hok p _ hk
      refine ⟨⟨o, e, ex.1⟩, fun a e2 => ?_⟩
      cases e2
      exact ⟨o, e, ex.2.1⟩
  | _ => exact False.elim ty
def tBM (K : PySem.W.Frag) (T : String) (r : V → List V → Hp → VK → Prop) (to : TE) (t : TA) : TE := fun σ H Q => to σ H fun x H1 => tyV K T x H1 ∧ t σ H1 fun xs H2 => r x xs H2 Q
variable {o e : Expr} {es : List Expr} {to : TE} {t : TA} {name : Str} {apos cpos : Pos} {T id : String} {r : V → List V → Hp → VK → Prop}
theorem pe_bm (pa : PlainAttrs T) (slot : Slot T name id) (hty : typeOf (.builtin id) = pure (.type "method_descriptor")) (hm : MtR X id r) (ho : PE X o to) (ha : PA X (e :: es) t)
    (hbase : attributeBase o name X.env (eval o X.env) = eval o X.env := by rfl)
    (hfew : ((backTo cpos (starEach (e :: es) X.env)).all (fun x => !x.1) && (backToKw cpos (keywordEach [] X.env)).all (fun x => x.1.isSome)
      && decide ((e :: es).length + ([] : List Keyword).length + (if ([] : List Keyword).isEmpty then 0 else 1) < 30)) = true := by rfl)
    (hline : (apos.endLine == cpos.line) = true := by rfl) (hs : starEach (e :: es) X.env = (false, eval e X.env) :: starEach es X.env := by rfl) (hplain : (backTo cpos (starEach es X.env)).any (·.1) = false := by rfl) :
    PE X (.Call (.Attribute o name apos) (e :: es) [] cpos) (tBM X.K T r to t) := by
  intro pins s σ H Q I h
  refine wpAny_Call_method_late hbase hfew hline rfl (thn (ho pins s σ H _ I h) fun v s1 ⟨x, H1, I1, r1, ty, q1⟩ => ?_)
  obtain ⟨h1, h2⟩ := tyV_is I1 r1 ty
  refine ⟨T, id, pa, slot, hty, h1, h2, ?_⟩
  have hA := ha cpos pins s1 σ H1 _ I1 q1
  rw [hs] at hA ⊢
  refine Calls.callWith_builtin (by show (false || (backTo cpos (starEach es X.env)).any (·.1)) = false; rw [hplain] <;> rfl) (Calls.evalArgs_plain ?_)
  exact thn hA fun us s2 ⟨vs, H2, I2, r2, q2⟩ => hm pins s2 σ H2 x vs v us Q I2 r1 r2 q2
/- xs.append(e), list.index on a module's tuple .. are MtR facts of 06m -/
end
end L2

namespace L2
open PySem PySem.Spec PyProof.Rows

def MtM (X : Cx) (id : String) (r : V → List V → Hp → VK → Prop) : Prop :=
  ∀ (pins : List (Addr × Obj)) (s : Shared) (σ : St) (H : Hp) (x : V) (xs : List V) (v : Value) (us : List Value) (Q : VK), Inv X pins σ H s → RelV x v → Vals xs us → r x xs H Q →
    wpAny (model X.prog X.w) X.A (call (.builtin id) (v :: us)) (EP X pins σ Q) X.xe s

/-! ### lists of values -/
theorem Vals.one : ∀ {x : V} {us : List Value}, Vals [x] us → ∃ u, us = [u] ∧ RelV x u
  | _, _, .cons r .nil => ⟨_, rfl, r⟩
theorem Vals.rep {xs : List V} {us : List Value} (h : Vals xs us) : ∀ k : Nat, Vals (List.replicate k xs).flatten (List.replicate k us).flatten
  | 0 => .nil
  | k + 1 => by
    rw [List.replicate_succ, List.replicate_succ, List.flatten_cons, List.flatten_cons]
    exact Vals.append h (Vals.rep h k)
theorem foldl_rep (its : List Value) : ∀ (k : Nat) (acc : List Value),
    List.foldl (fun x1 x2 => x1 ++ x2) acc.toArray (List.replicate k its.toArray) = (acc ++ (List.replicate k its).flatten).toArray
  | 0, acc => by simp
  | k + 1, acc => by
    have e : acc.toArray ++ its.toArray = (acc ++ its).toArray := by simp
    have e2 : (acc ++ its) ++ (List.replicate k its).flatten = acc ++ (List.replicate (k + 1) its).flatten := by
      rw [List.replicate_succ, List.flatten_cons, List.append_assoc]
    rw [← e2, ← foldl_rep its k (acc ++ its), ← e, List.replicate_succ, List.foldl_cons]

section
variable {X : Cx} {pins : List (Addr × Obj)} {σ : St} {H : Hp} {s : Shared} {l b : Addr} {xs ys zs : List V}

/-! ### the two steps: a tracked list is rewritten, a new list is laid -/
theorem Inv.lset {its its' : List Value} {n : Nat} {f : Array Value → Array Value} {t' : Nat} (I : Inv X pins σ H s) (hH : H l = some (.lst xs))
    (e : s.heap.get? l = some { cls := .type "list", data := .seq its.toArray n }) (hf : f its.toArray = its'.toArray) (hv : Vals ys its') (hz : ys.length ≤ sizeLine) :
    Inv X pins σ (upd H l (.lst ys)) { s with heap := s.heap.update l (Obj.mapSeq f), toks := t' } := by
  have q := PySem.IsL.update e f
  rw [hf] at q
  refine I.write (x := l) (e := l) (by rw [hH]; exact trivial) (.inl rfl) (fun b' u hb hu => (Heap.get?_update_other s.heap (Obj.mapSeq f) (Ne.symm hb)).trans hu) ⟨_, q⟩ ?_
  exact ⟨hz, its', _, hv, q⟩
theorem Inv.lnew {its : List Value} {t' : Nat} (I : Inv X pins σ H s) (hv : Vals ys its) (hz : ys.length ≤ sizeLine) :
    Inv X pins σ (upd H s.heap.objs.size (.lst ys)) { s with heap := s.heap.push { cls := .type "list", data := .seq its.toArray }, toks := t' } :=
  I.laid (fun _ _ q => Heap.get?_push_of_some _ q) (Nat.le_refl _) ⟨hz, its, 0, hv, Heap.get?_push_size _ rfl⟩
theorem Inv.fresh (I : Inv X pins σ H s) : H s.heap.objs.size = none := I.hok.fresh (Nat.le_refl _)
theorem Inv.lstM (I : Inv X pins σ H s) (hH : H l = some (.lst xs)) : xs.length ≤ sizeLine ∧ ∃ (its : List Value) (n : Nat), Vals xs its ∧ xs.length = its.length ∧ s.heap.get? l = some { cls := .type "list", data := .seq its.toArray n } := by
  obtain ⟨z, its, n, r, e⟩ := I.hok l _ hH
  exact ⟨z, its, n, r, r.length, e⟩

theorem notLongL {n : Nat} (h : n ≤ sizeLine) : Builtin.List.listTooLong n = false := by
  unfold Builtin.List.listTooLong
  exact decide_eq_false (by omega)
end

section
variable {X : Cx}

/-! ### methods -/
def rAppend : V → List V → Hp → VK → Prop := fun x vs H Q => ∃ l xs y, x = .ref l ∧ vs = [y] ∧ H l = some (.lst xs) ∧ xs.length < sizeLine ∧ Q .non (upd H l (.lst (xs ++ [y])))
theorem mt_append : MtM X "list.append" rAppend := by
  intro pins s σ H x vs v us Q I rx rv h
  obtain ⟨l, xs, y, rfl, rfl, hH, hz, q⟩ := h
  cases rx
  obtain ⟨u, rfl, ru⟩ := rv.one
  obtain ⟨z, its, n, r, hl, e⟩ := I.lstM hH
  refine call_meets F.slot_list_append ⟨_, e, rfl⟩ F.entry_list_append (F.args_list_append_2 _ _) (PySem.list_append l its.toArray n u (by rw [List.size_toArray]; omega)) ⟨e, ?_⟩
  refine ⟨.non, _, I.lset (its' := its ++ [u]) hH e (by simp) (r.append (.cons ru .nil)) ?_, rfl, q⟩
  rw [List.length_append, List.length_singleton]
  omega

def rExtend : V → List V → Hp → VK → Prop := fun x vs H Q => ∃ l b xs zs, x = .ref l ∧ vs = [.ref b] ∧ H l = some (.lst xs) ∧ H b = some (.lst zs) ∧ xs.length + zs.length ≤ sizeLine ∧ Q .non (upd H l (.lst (xs ++ zs)))
theorem mt_extend : MtM X "list.extend" rExtend := by
  intro pins s σ H x vs v us Q I rx rv h
  obtain ⟨l, b, xs, zs, rfl, rfl, hH, hB, hz, q⟩ := h
  cases rx
  obtain ⟨u, rfl, ru⟩ := rv.one
  cases ru
  obtain ⟨z, its, n, r, hl, e⟩ := I.lstM hH
  obtain ⟨z2, its2, n2, r2, hl2, e2⟩ := I.lstM hB
  have hsz : its.toArray.size + its2.toArray.size ≤ sizeLine := by rw [List.size_toArray, List.size_toArray]; omega
  have hlong : ¬ (!its.toArray.isEmpty && Builtin.List.listTooLong (its.toArray.size + its2.toArray.size)) = true := by
    rw [notLongL hsz, Bool.and_false]
    exact Bool.false_ne_true
  refine call_meets F.slot_list_extend ⟨_, e, rfl⟩ F.entry_list_extend (F.args_list_extend_2 _ _)
    (AutoSeq1.list_extend_list_list_0 l its.toArray n b its2.toArray n2 hlong (by rw [List.size_toArray]; omega) (by omega)) ⟨e, e2, ?_⟩
  refine ⟨.non, _, I.lset (its' := its ++ its2) hH e (by simp) (r.append r2) ?_, rfl, q⟩
  rw [List.length_append]
  omega





/-! ### list + list, list += list, list * int -/
def rCat : R2 := fun x y H Q => ∃ l b xs zs, x = .ref l ∧ y = .ref b ∧ H l = some (.lst xs) ∧ H b = some (.lst zs) ∧ xs.length + zs.length ≤ sizeLine ∧ ∀ p, H p = none → Q (.ref p) (upd H p (.lst (xs ++ zs)))
theorem op_cat : OpR X (binaryOp .Add) rCat := by
  intro pins s σ H x y v u Q I rx ry h
  obtain ⟨l, b, xs, zs, rfl, rfl, hH, hB, hz, q⟩ := h
  cases rx
  cases ry
  obtain ⟨z, its, n, r, hl, e⟩ := I.lstM hH
  obtain ⟨z2, its2, n2, r2, hl2, e2⟩ := I.lstM hB
  refine PySem.P.add_list e e2 ?_ (by rw [List.size_toArray, List.size_toArray]; omega)
  have ea : its.toArray ++ its2.toArray = (its ++ its2).toArray := by simp
  rw [ea]
  exact ⟨.ref _, _, I.lnew (t' := s.toks) (r.append r2) (by rw [List.length_append]; omega), rfl, q _ I.fresh⟩
/-- a list times an int (a negative one is nothing) -/
def rRep : R2 := fun x y H Q => ∃ l k xs, x = .ref l ∧ y = .int k ∧ H l = some (.lst xs) ∧ -(2 ^ 63) ≤ k ∧ k < 2 ^ 63 ∧ xs.length * k.toNat ≤ sizeLine ∧
  ∀ p, H p = none → Q (.ref p) (upd H p (.lst (List.replicate k.toNat xs).flatten))
theorem len_rep {α : Type} (xs : List α) (k : Nat) : (List.replicate k xs).flatten.length = k * xs.length := by
  induction k with
  | zero => simp
  | succ k ih => rw [List.replicate_succ, List.flatten_cons, List.length_append, ih, Nat.succ_mul, Nat.add_comm]
theorem op_rep : OpR X (binaryOp .Mult) rRep := by
  intro pins s σ H x y v u Q I rx ry h
  obtain ⟨l, k, xs, rfl, rfl, hH, h1, h2, hz, q⟩ := h
  cases rx
  obtain ⟨t, rfl⟩ := ry
  obtain ⟨z, its, n, r, hl, e⟩ := I.lstM hH
  have hlen : its.toArray.size * k.toNat ≤ sizeLine := by rw [List.size_toArray, ← hl]; exact hz
  have hcap : ¬ its.toArray.size * k.toNat > (2 ^ 63 - 1) / 8 := by
    have : (sizeLine : Nat) ≤ (2 ^ 63 - 1) / 8 := by decide
    omega
  have hfit : ¬ (!Builtin.List.listFitsIndex k) = true := by
    rw [fitsIndex_both h1 h2]
    exact Bool.false_ne_true
  have hlong : ¬ Builtin.List.listTooLong (its.toArray.size * k.toNat) = true := by
    rw [notLongL hlen]
    exact Bool.false_ne_true
  have hnew : List.foldl (fun x1 x2 => x1 ++ x2) #[] (List.replicate (if its.toArray.isEmpty = true then 0 else k.toNat) its.toArray) = (List.replicate k.toNat its).flatten.toArray := by
    have f0 : ∀ m : Nat, List.foldl (fun x1 x2 => x1 ++ x2) #[] (List.replicate m its.toArray) = (List.replicate m its).flatten.toArray := fun m => by
      have := foldl_rep its m []
      rw [List.nil_append] at this
      exact this
    rw [f0]
    cases its with
    | nil => simp
    | cons a r' => rw [if_neg (by simp)]
  refine wpAny_binaryOp_repeat_ref (T := "list") (U := "int") (by decide) ⟨_, e, rfl⟩ (fun s' => typeIs_int s' k t) noFill_list_mul F.fills_int_mul F.slot_int_rmul repeat_list F.slot_int_index.lookup
    (call_meets F.slot_int_rmul (typeIs_int s k t) F.entry_int_rmul (F.args_int_rmul_2 _ _) (int___rmul___int_list k t l its.toArray n)
      ⟨e, rfl, ⟨_, e, rfl⟩, call_meets F.slot_list_mul ⟨_, e, rfl⟩ F.entry_list_mul (F.args_list_mul_2 _ _) (AutoListH.list___mul___list_int_3 l its.toArray n k t hfit hcap hlong) ⟨e, ?_⟩⟩)
  rw [hnew]
  exact ⟨.ref _, _, I.lnew (t' := s.toks) (r.rep k.toNat) (by rw [len_rep, Nat.mul_comm]; exact hz), rfl, q _ I.fresh⟩

/-! ### del xs[i] -/
end

/-! ### xs[a:b] = ys -/
section
variable {prog : Program} {w : World} {A : Around} {E : Value → Shared → Prop} {s : Shared}
end

section
variable {X : Cx}
end
end L2

namespace L2
open PySem PySem.Spec PyProof.Rows

/-! ### lists of pairs as tables -/
section
variable {κ : Type} [DecidableEq κ]



end


/-! ### a tracked dict, its keys ints and texts or tuples of these -/


section
variable {P : Program} {w : World} {H : Hp} {h : Heap} {a : Addr}
end



section
variable {X : Cx} {pins : List (Addr × Obj)} {σ : St} {H : Hp} {s : Shared} {a : Addr} {y v : V} {u r : Value} {o : Option V} {A : Around} {E : Value → Shared → Prop}


end

section
variable {X : Cx} {pins : List (Addr × Obj)} {σ : St} {H : Hp} {s : Shared} {a : Addr} {kvs : List (Key × V)} {k : Key} {u : Value} {A : Around} {E : Value → Shared → Prop}
end


/-! ### readings and rules -/



section
variable {X : Cx} {o i e value : Expr} {pos pos' tpos : Pos} {td ty tv : TE}
end


/-! ### displays -/
section
variable {X : Cx} {pos : Pos}
end




/-! ### methods -/


section
variable {X : Cx} {pins : List (Addr × Obj)} {σ : St} {H : Hp} {s : Shared} {a : Addr} {y d : V} {u r : Value} {o : Option V} {A : Around} {E : Value → Shared → Prop}
end

section
variable {X : Cx} {o e f : Expr} {apos cpos : Pos} {td ty tx : TE}
end

/-! ### dict(d): a copy -/
section
variable {X : Cx} {pins : List (Addr × Obj)} {σ : St} {H : Hp} {s : Shared} {a : Addr} {kvs : List (Key × V)} {A : Around} {E : Value → Shared → Prop}
end


section
variable {X : Cx} {pins : List (Addr × Obj)} {σ : St} {H : Hp} {s : Shared} {a : Addr} {y : V} {u : Value} {A : Around} {E : Value → Shared → Prop}
end
end L2

namespace Att
open PySem PySem.W PySem.Calls PyProof.Rows

/-! ### the script -/
theorem ints_of_wellAll {P : Params} {h : Heap} : ∀ (ns : List Int) (vs : List Value), WellAll P h vs (ns.map WData.int) → IntsAre vs ns := by
  intro ns
  induction ns with
  | nil =>
    intro vs w
    rw [List.map_nil] at w
    cases w
    exact .nil
  | cons n ns ih =>
    intro vs w
    rw [List.map_cons] at w
    cases w with
    | cons a b =>
      cases a
      exact .cons _ _ (ih _ b)

theorem script_of {l : OpenLaw} {n : Nat} (hn : l.most = some n) {P : Params} {h : Heap} {args : List WData} {vals : List Value}
    (hpre : l.row.toRowW.claim.pre args = true) (hwl : WellAll P h vals args) :
    ∃ a vs ns, vals = [Value.ref a] ∧ args = [WData.list (ns.map WData.int)] ∧ h.get? a = some { cls := .type "list", data := .seq vs.toArray } ∧ IntsAre vs ns ∧ ns.length ≤ n := by
  have hsh : WShape.hasAll [] args [.list .int] = true := (pre_splitW hpre).1
  have hc : l.pre.holds [] { args := args } = true := (pre_splitW hpre).2
  obtain ⟨d, r, rfl, h1, h2⟩ := hasAllW_cons hsh
  obtain rfl := hasAllW_nil h2
  obtain ⟨xs, rfl, h3⟩ := hasW_list h1
  obtain ⟨ns, rfl⟩ := items_int h3
  have hlen : ns.length ≤ n := by
    unfold OpenLaw.pre at hc
    have h4 : (WTm.not (.lt (.lit (.int (n : Int))) (.len (.arg 0)))).holds [] { args := [.list (ns.map .int)] } = true := by
      have h4 := (holds_andW hc).1
      rw [hn] at h4
      exact h4
    have h5 := condW_of h4 (w_not (w_lt w_lit (w_len_list (w_arg rfl))))
    rw [List.length_map] at h5
    refine Nat.le_of_not_lt fun q => ?_
    have q' : (n : Int) < ((ns.length : Nat) : Int) := by omega
    first
      | (rw [decide_eq_true q'] at h5; exact absurd h5 (by decide))
      | (simp at h5; omega)
  cases hwl with
  | cons w1 w2 =>
    cases w2
    cases w1 with
    | list ho hall => exact ⟨_, _, ns, rfl, rfl, ho, ints_of_wellAll ns _ hall, hlen⟩

theorem post_true (l : OpenLaw) (args : List WData) : l.row.toRowW.claim.post args (.bool true) args = true :=
  postW_of (r := l.row.toRowW) (X := (true == true))
    (show WShape.has [] (.bool true) .bool = true by first | rfl | decide | simp [WShape.has, WShape.arms, WShape.armsAll])
    (show (WTm.eq .res (.lit (.bool true))).value [] { args := args, res := some (.bool true), after := args } = some (.bool (true == true)) from w_eq_bool (w_res rfl) w_lit) rfl

/-! ### the attachment: holds_open's last premise (the goal 'hc' behind k_head) from a wpAny of the law's body -/

/-- the same from a codeAny of the CALL (for a layer whose function contracts speak of calls) -/
theorem attach_call {l : OpenLaw} {n : Nat} {q : Program} {loose : List Str} {XP : (Str → Option Value) → Heap → Prop} {YP : World → Heap → Prop} {d : DefRec}
    (hn : l.most = some n) (hdf : d.params.defaults = [])
    (call : ∀ (w : World) (s₀ s₁ : Shared) (mg mb : Str → Option Value) (fa : Addr) (o : Obj) (pm cd doc : Value) (a : Addr) (vs : List Value) (ns : List Int),
      Ground q loose [] XP w s₀ mg mb s₁.heap → YP w s₁.heap →
      s₁.heap.get? fa = some o → o.data = .func (docDef d.name d.params d.body d.scope pm cd doc) → s₁.heap.CodeRec cd d.name → mg d.name = some (.ref fa) →
      s₁.heap.get? a = some { cls := .type "list", data := .seq vs.toArray } → IntsAre vs ns → ns.length ≤ n → s₁.gens = #[] →
      codeAny (model l.prog w) callerA (.call (.ref fa) ⟨[.ref a], []⟩) (fun r s' => r = .ok (.ret (.bool true)) ∧ OldK s₁.heap s'.heap ∧ s'.os = s₁.os ∧ AllBare s'.gens) s₁) :
    WalkO q loose XP YP l.row.toRowW d [] (fun f vs => PySem.call f vs) := by
  intro w s₀ s₁ mg mb G Y fa o pm cd doc dV kV ho hd hcd hD hmg hg args vals as hpre hlay hrd hwl hlo
  obtain rfl : dV = .none := Dflts.none hD hdf
  obtain rfl : kV = .none := Dflts.noKw hD
  obtain ⟨a, vs, ns, rfl, rfl, hobj, hints, hlen⟩ := script_of hn hpre hwl
  refine enter_call (codeAny_mono (call w s₀ s₁ mg mb fa o pm cd doc a vs ns G Y ho (fd_plain hd) hcd hmg hobj hints hlen hg) fun r s' hq => ?_)
  obtain ⟨rfl, h2, h3, h4⟩ := hq
  exact ⟨.inl ⟨.bool true, .bool true, [], rfl, fun _ => rfl, .bool true, post_true l _, fun _ => ⟨List.Pairwise.nil, fun _ hm => (nomatch hm)⟩⟩, h2, h3, h4⟩


/-! ### rules over ANY heap (no ledger) from facts about the written part K: the library's own take a ledger (News) for what they write -/
section
variable {prog : Program} {w : World} {A : Around} {E : Value → Shared → Prop} {s : Shared} {K : Frag}





/-! the whole heap as the ledger: makes every rule that writes through a ledger a rule over any heap -/

end
end Att

namespace L2
open PySem PySem.Spec PyProof.Rows

theorem vals_ints : ∀ {vs : List Value} {ns : List Int}, IntsAre vs ns → Vals (ns.map V.int) vs
  | _, _, .nil => .nil
  | _, _, .cons n t h => .cons ⟨t, rfl⟩ (vals_ints h)

/-- nothing is tracked but the script, known to the object (or it is an object of the module) -/
def Only (H : Hp) : Prop := ∀ b, H b = none ∨ ∃ o xs, H b = some (.frz o (.lst xs))

/-- THE HEAD: the law's promise, at the heap behind the top. F, the promise of the law's def, may use that base is part of the heap (so K.In base, base.Ns mainGlobals mg stand in Mod) -/
theorem law_call {P : Program} {w : World} {K : PySem.W.Frag} {mg mb : Str → Option Value} {CX : CXT} {k : Nat} {fa a : Addr} {fd : FuncData} {x : Str} {sp : Sp} {s₁ : Shared} {vs : List Value} {ns : List Int}
    (KX : K.In s₁.heap) (hns : s₁.heap.Ns mainGlobals mg) (hb : s₁.heap.Ns builtinsNs mb) (hbb : ∀ x : Str, x ≠ "__name__" → mb x = bootBuiltins x) (hlim : s₁.heap.NoLimit) (hg : s₁.gens = #[])
    (ha : s₁.heap.get? a = some { cls := .type "list", data := .seq vs.toArray }) (hi : IntsAre vs ns) (hl : ns.length ≤ sizeLine) (hr : Room k callerA)
    (F : ∀ base : Heap, K.In base → base.Ns mainGlobals mg → FnOk P w K mg base CX k fa fd [x] sp) (hbind : ∀ (s : Shared) (u : Value), BindsTo s fd ⟨[u], []⟩ [(x, u)])
    (hsp : ∀ H : Hp, Only H → SqL K H a (ns.map V.int) → sp [.ref a] H (fun v _ => v = .bl true) fun _ _ _ => False)
    (hCX : ∀ H e s', CX [] H s₁ (fun _ _ _ => False) e s' → False) :
    codeAny (model P w) callerA (.call (.ref fa) ⟨[.ref a], []⟩) (fun r s' => r = .ok (.ret (.bool true)) ∧ OldK s₁.heap s'.heap ∧ s'.os = s₁.os ∧ AllBare s'.gens) s₁ := by
  have rv := vals_ints hi
  have lenV := hi.length
  -- from an abstract heap in which nothing but the script may be tracked
  have core : ∀ H : Hp, Only H → SqL K H a (ns.map V.int) → HOk P w H s₁.heap → (∀ b, H b ≠ none → b = a) → (H a ≠ none → K.lookup a = none) →
      codeAny (model P w) callerA (.call (.ref fa) ⟨[.ref a], []⟩) (fun r s' => r = .ok (.ret (.bool true)) ∧ OldK s₁.heap s'.heap ∧ s'.os = s₁.os ∧ AllBare s'.gens) s₁ := by
    intro H hO hS hok hA hK
    have base_of : ∀ {b : Addr} {o : Obj}, s₁.heap.get? b = some o → H b = none → (hidT s₁.heap H).get? b = some o := fun e n => hidT_get e n
    have noA : ∀ {b : Addr} {o : Obj} {es : Array DictEntry} {ep : Nat}, s₁.heap.get? b = some o → o.data = .dict es ep → H b = none := fun {b o es ep} e d => by
      cases q : H b with
      | none => rfl
      | some u =>
        have e' : b = a := hA b (by rw [q]; simp)
        subst e'
        rw [ha] at e; cases e
        have d' : Data.seq vs.toArray _ = Data.dict es ep := d
        cases d'
    have nsK : ∀ {b : Addr} {m : Str → Option Value}, s₁.heap.Ns b m → (hidT s₁.heap H).Ns b m := fun {b m} ⟨o, es, ep, e, d, r⟩ => ⟨o, es, ep, base_of e (noA e d), d, r⟩
    have hKb : K.In (hidT s₁.heap H) := fun b o e => base_of (KX b o e) (by
      cases q : H b with
      | none => rfl
      | some u =>
        have e' : b = a := hA b (by rw [q]; simp)
        subst e'
        rw [hK (by rw [q]; simp)] at e; cases e)
    have hM : Mod K mg (hidT s₁.heap H) := ⟨hKb, nsK hns, ⟨mb, nsK hb, hbb⟩, let ⟨mc, h1, h2⟩ := hlim; ⟨mc, nsK h1, h2⟩⟩
    have e0 : Env0 P w K mg (hidT s₁.heap H) callerA [] s₁ H := ⟨rfl, hM, fun b o e => of_hidT e, Nat.le_of_eq (hidT_size _ _), trivial, fun b hb => absurd (show b ∈ ([] : List Addr) from hb) (by simp), hok, .of_eq hg⟩
    refine codeAny_mono ((F _ hKb (nsK hns)).run callerA [] s₁ H ⟨[.ref a], []⟩ [.ref a] [.ref a] _ _ hr e0 (hbind s₁ (.ref a)) (.cons rfl .nil) (hsp H hO hS)) fun r s' h => ?_
    cases r with
    | error e => exact (hCX H e s' h).elim
    | ok fl =>
      cases fl with
      | next => exact False.elim h
      | brk => exact False.elim h
      | cont => exact False.elim h
      | ret u =>
        obtain ⟨v, H', os, bare, un, hok', r', q⟩ := h
        have q' : v = .bl true := q
        subst q'
        obtain rfl : u = Value.bool true := r'
        refine ⟨rfl, OldK.of_keep fun b o e => ?_, os, bare⟩
        cases q : H b with
        | none => exact un.keep b o e q (by intro z; exact absurd (show b ∈ ([] : List Addr) from z) (by simp)) (by simp)
        | some u =>
          rcases hO b with z | ⟨ob, xs, z⟩
          · rw [q] at z; cases z
          · have z2 := un.frzs b ob _ z
            obtain ⟨e1, _⟩ := hok b _ z
            obtain ⟨e2, _⟩ := hok' b _ z2
            rw [e] at e1; cases e1
            exact e2
  cases hk : K.lookup a with
  | some o =>
    -- the script is one of the module's own objects
    have e := KX a o hk
    rw [ha] at e
    cases e
    refine core (fun _ => none) (fun _ => .inl rfl) (.inr ⟨_, vs.toArray, _, hk, rfl, rfl, rfl, by rw [List.size_toArray, lenV]; exact hl, by simpa using rv⟩) (fun b u z => by have z' : (none : Option HO) = some u := z; cases z') (fun b z => absurd rfl z) fun z => absurd rfl z
  | none =>
    refine core (fun b => if b = a then some (.frz { cls := .type "list", data := .seq vs.toArray } (.lst (ns.map V.int))) else none) (fun b => ?_) (.inl (.inr ⟨{ cls := .type "list", data := .seq vs.toArray }, if_pos rfl⟩)) (fun b u z => ?_) (fun b z => ?_) fun _ => hk
    · by_cases hb : b = a
      · exact .inr ⟨_, _, if_pos hb⟩
      · exact .inl (if_neg hb)
    · by_cases hb : b = a
      · have z' := (if_pos hb).symm.trans z
        cases z'
        subst hb
        exact ⟨ha, by rw [List.length_map]; exact hl, vs, _, rv, ha⟩
      · have z' := (if_neg hb).symm.trans z
        cases z'
    · by_cases hb : b = a
      · exact hb
      · exact absurd (if_neg hb) z
end L2

namespace L2
open PySem PySem.Spec PyProof.Rows


/-- the goal that k_head leaves (case hc), from the law's promise. F gives the function object fd (K's own) once, then the promise over every base -/
theorem walk_of {l : PySem.W.OpenLaw} {n k : Nat} {q : Program} {loose : List Str} {XP : (Str → Option Value) → Heap → Prop} {YP : World → Heap → Prop} {d : DefRec} {K : Params → PySem.W.Frag} {CX : World → CXT} {sp : World → Sp} {x : Str}
    (hn : l.most = some n) (hn2 : n ≤ sizeLine) (hdf : d.params.defaults = []) (hr : Room k callerA)
    (hY : ∀ (w : World) (h : Heap), YP w h → (K w.params).In h)
    (F : ∀ (w : World) (mg : Str → Option Value) (fa : Addr) (h : Heap), (K w.params).In h → h.Ns mainGlobals mg → mg d.name = some (.ref fa) →
      ∃ fd : FuncData, (∀ (s : Shared) (u : Value), BindsTo s fd ⟨[u], []⟩ [(x, u)]) ∧
        ∀ base : Heap, (K w.params).In base → base.Ns mainGlobals mg → FnOk l.prog w (K w.params) mg base (CX w) k fa fd [x] (sp w))
    (hsp : ∀ (w : World) (H : Hp) (a : Addr) (ns : List Int), ns.length ≤ n → Only H → SqL (K w.params) H a (ns.map V.int) → sp w [.ref a] H (fun v _ => v = .bl true) fun _ _ _ => False)
    (hCX : ∀ (w : World) (H : Hp) (s : Shared) (e : Value) (s' : Shared), CX w [] H s (fun _ _ _ => False) e s' → False) :
    PySem.W.WalkO q loose XP YP l.row.toRowW d [] (fun f vs => PySem.call f vs) := by
  refine Att.attach_call hn hdf fun w s₀ s₁ mg mb fa o pm cd doc a vs ns G Y ho hd hcd hmg hobj hints hlen hg => ?_
  have KX := hY w _ Y
  obtain ⟨fd, hb, hF⟩ := F w mg fa _ KX G.T.g hmg
  exact law_call KX G.T.g G.T.b G.T.builtins G.T.nolimit hg hobj hints (Nat.le_trans hlen hn2) hr hF hb (fun H hO hS => hsp w H a ns hlen hO hS) fun H e s' => hCX w H s₁ e s'
end L2

/- THE LAST THEOREM (shape; LID, My.* are yours):
   My.Adr: a structure of the addresses that your layer names (classes, functions); My.Txt K t: a structure (Prop) of the equations over K;
   My.txt_mk : {K} {implicit addresses ..} (e1 : nsIn K mainGlobals "law" = some (some (.ref f))) (e2 : K.lookup f = some ⟨oc, od, .func (fnOf "law" "law" params body scope dV kV doc pm an cdv ct), sl⟩) (e3 : codeIn K cdv "law" = true) .. : ∃ t, My.Txt K t

set_option maxRecDepth 100000 in
set_option maxHeartbeats 0 in
theorem PySem.Challenge.cw_LID_holds : PySem.Challenge.rw_LID.Holds := by
  w_on; o_law; k_head; (case hw => w_witness2)
  k_fill
  refine L2.walk_of (l := PySem.Challenge.rw_LID) (n := 63) (k := 40) (x := "script") (CX := fun w => ..) (sp := fun _ => My.sp_law) rfl (by decide) rfl ⟨rfl, by decide, by decide⟩ (fun w h Y => PySem.W.kIn_of Y) ?F ?S ?C
  case F =>
    intro w mg fa h KX G hmg
    have T : ∃ t, My.Txt (L2.KOf KX) t := by
      dsimp only [L2.KOf]                          -- K must stand as «<heap const> w.params» for k_is
      refine' My.txt_mk ?e1 ?e2 ?e3 ..
      (case e1 => PySem.W.k_is)                    -- in the order: a name -> its address -> its object -> its parts
      (case e2 => PySem.W.k_is)
      ..
    obtain ⟨t, T⟩ := T
    have e0 := hmg.symm.trans (PySem.W.mg_of KX G T.law)
    cases e0                                       -- fa is the law's own address
    exact ⟨_, fun s u => .of_eq rfl, fun base kb nb => My.law_fn T kb nb⟩     -- if «.of_eq rfl» comes too early: refine' ⟨_, ?b, fun base kb nb => My.law_fn T kb nb⟩; exact fun s u => .of_eq rfl
  case S => exact fun w H a ns hl hO hS => ..
  case C => exact ..
(the tactic k_is has no namespace: write k_is) -/

/-! SHORT WORDS over the layer: a def of the text, its body, what a loop and a test want. -/
namespace L2
open PySem PySem.Spec PyProof.Rows

/-! ### the text by places -/
/-- the j-th statement of a class's body -/
def inClass (s : Stmt) (j : Nat) : Stmt := match s with
  | .ClassDef _ _ _ body _ _ _ _ _ _ _ => body.getD j (.Pass ⟨0, 0, 0, 0⟩)
  | _ => .Pass ⟨0, 0, 0, 0⟩
def defArgs (s : Stmt) : Arguments := match s with
  | .FunctionDef _ a _ _ _ _ _ _ _ _ => a
  | _ => { posonlyargs := [], args := [], vararg := none, kwonlyargs := [], kw_defaults := [], kwarg := none, defaults := [] }
def defBody (s : Stmt) : List Stmt := match s with
  | .FunctionDef _ _ b _ _ _ _ _ _ _ => b
  | _ => []
def defScope (s : Stmt) : Scope := match s with
  | .FunctionDef _ _ _ _ _ _ sc _ _ _ => sc
  | _ => { kind := .function, names := [], isGenerator := false, isCoroutine := false }

/-! ### no exception leaves a def -/
abbrev CX0 : CXT := fun _ _ _ _ _ _ => False
abbrev E0 : XK := fun _ _ _ => False

/-! ### a def (or method) of the text as it stands behind the top -/
structure Fun (K : PySem.W.Frag) (x qual : Str) (st : Stmt) (f : Addr) (fd : FuncData) : Prop where
  ex : ∃ (oc : Value) (od : Option Addr) (kV doc pm : Value) (an : Option Addr) (cdv ct : Value) (osl : Array (Option Value)),
    fd = PySem.W.fnOf x qual (defArgs st) (defBody st) (defScope st) .none kV doc pm an cdv ct ∧ K.lookup f = some ⟨oc, od, .func fd, osl⟩ ∧ PySem.W.codeIn K cdv qual = true
  kp : PySem.W.keepIn K (.ref f) = true
section
variable {P : Program} {w : World} {K : PySem.W.Frag} {mg : Str → Option Value} {base : Heap}
/-- how its arguments bind (no defaults): h is «fun _ _ _ _ _ _ us hl => match us, hl with | [_, _], _ => rfl», one _ a parameter -/
theorem Fun.binds {x qual : Str} {st : Stmt} {f : Addr} {fd : FuncData} {ps : List Str} (F : Fun K x qual st f fd)
    (h : ∀ (kV doc pm : Value) (an : Option Addr) (cdv ct : Value) (us : List Value), us.length = ps.length → bindArgs (PySem.W.fnOf x qual (defArgs st) (defBody st) (defScope st) .none kV doc pm an cdv ct) ⟨us, []⟩ = pure (ps.zip us)) : Binds K fd ps [] := by
  obtain ⟨oc, od, kV, doc, pm, an, cdv, ct, osl, rfl, lk, hcd⟩ := F.ex
  exact .all (h kV doc pm an cdv ct)
theorem fun_mk {x qual : Str} {st : Stmt} {f : Addr} {oc : Value} {od an : Option Addr} {osl : Array (Option Value)} {kV doc pm cdv ct : Value} (l : K.lookup f = some ⟨oc, od, .func (PySem.W.fnOf x qual (defArgs st) (defBody st) (defScope st) .none kV doc pm an cdv ct), osl⟩)
    (c : PySem.W.codeIn K cdv qual = true) (k : PySem.W.keepIn K (.ref f) = true) : Fun K x qual st f (PySem.W.fnOf x qual (defArgs st) (defBody st) (defScope st) .none kV doc pm an cdv ct) := ⟨⟨oc, od, kV, doc, pm, an, cdv, ct, osl, rfl, l, c⟩, k⟩
end
theorem small1000 {n : Nat} (h : n ≤ 1000) : n < sizeLine := Nat.lt_of_le_of_lt h (by decide)

/-! ### expressions in short: the name that stands in the i-th slot -/
section
variable {X : Cx}
theorem pv (i : Nat) {x : Str} {pos : Pos} (hN : X.N[i]? = some x := by rfl) (hv : Vis X.env.scope x := by first | exact Or.inl rfl | exact Or.inr (Or.inl rfl) | exact Or.inr (Or.inr rfl)) (hd : (x == ("__debug__" : Str)) = false := by decide)
    (hcd : (x == ("__classdict__" : Str)) = false := by decide) : PE X (.Name x pos) (tVar i) := pe_var hN hv hd hcd
end

/-! ### tests -/
theorem iteF {A B : Prop} (h : B) : if false = true then A else B := by
  rw [if_neg Bool.false_ne_true]
  exact h
theorem iteT {A B : Prop} (h : A) : if true = true then A else B := by
  rw [if_pos rfl]
  exact h
theorem iteNS {c A B : Prop} [Decidable c] (hc : c) (h : B) : if (!decide c) = true then A else B := by
  rw [decide_eq_true hc]
  exact iteF h

/-! ### heaps -/
/-- all that was tracked is as it was -/
def Same (H H' : Hp) : Prop := ∀ b o, H b = some o → H' b = some o
theorem Same.refl (H : Hp) : Same H H := fun _ _ h => h
theorem Same.trans {H H1 H2 : Hp} (a : Same H H1) (b : Same H1 H2) : Same H H2 := fun c o h => b c o (a c o h)
theorem Same.free {H H' : Hp} (e : Same H H') {l : Addr} (h : H' l = Option.none) : H l = Option.none := by
  cases q : H l with
  | none => rfl
  | some o =>
    rw [e l o q] at h
    cases h
theorem Same.seq {K : PySem.W.Frag} {H H' : Hp} {a : Addr} {xs : List V} (e : Same H H') (h : SqL K H a xs) : SqL K H' a xs := by
  rcases h with (h | ⟨o, h⟩) | h
  · exact .inl (.inl (e _ _ h))
  · exact .inl (.inr ⟨o, e _ _ h⟩)
  · exact .inr h

end L2


namespace L2
open PySem PySem.Spec PyProof.Rows
section
variable {X : Cx}
end
/-! ### a dict's pairs: keys that differ -/
section
variable {κ : Type} [DecidableEq κ]
end
end L2

set_option linter.unusedSectionVars false
namespace NC
variable {α : Type} [DecidableEq α]

def addMark (acc : List α) (m : α) : List α := if m ∈ acc then acc else acc ++ [m]
/-- the labels of a word, in the order of their first places -/
def marks (w : List α) : List α := w.foldl addMark []
/-- the places of a label -/
def pos (w : List α) (m : α) : List Nat := (List.range w.length).filter (fun i => decide (w[i]? = some m))
/-- the blocks of a word -/
def gather (w : List α) : List (List Nat) := (marks w).map (pos w)
/-- the word by the places of its blocks -/
def canon (w : List α) : List Nat := w.map (fun x => (marks w).idxOf x)

theorem marks_snoc (w : List α) (m : α) : marks (w ++ [m]) = addMark (marks w) m := by
  simp [marks, List.foldl_append]
theorem mem_addMark {acc : List α} {m x : α} : x ∈ addMark acc m ↔ x ∈ acc ∨ x = m := by
  unfold addMark
  split
  · constructor
    · exact .inl
    · rintro (h | rfl)
      · exact h
      · assumption
  · simp
theorem nodup_addMark {acc : List α} {m : α} (h : acc.Nodup) : (addMark acc m).Nodup := by
  unfold addMark
  split
  · exact h
  · rename_i hm
    rw [List.nodup_append]
    refine ⟨h, by simp, ?_⟩
    rintro a ha b hb rfl
    simp at hb
    exact hm (hb ▸ ha)

theorem snoc_induction {P : List α → Prop} (h0 : P []) (h1 : ∀ w m, P w → P (w ++ [m])) (w : List α) : P w := by
  have : ∀ n (w : List α), w.length = n → P w := by
    intro n
    induction n with
    | zero => intro w hw; rw [List.length_eq_zero_iff.mp hw]; exact h0
    | succ n ih =>
      intro w hw
      have hne : w ≠ [] := by intro e; subst e; simp at hw
      rw [← List.dropLast_concat_getLast hne]
      exact h1 _ _ (ih _ (by simp [hw]))
  exact this _ w rfl

theorem mem_marks {w : List α} {x : α} : x ∈ marks w ↔ x ∈ w := by
  induction w using snoc_induction with
  | h0 => simp [marks]
  | h1 w m ih => rw [marks_snoc, mem_addMark, ih]; simp
theorem nodup_marks (w : List α) : (marks w).Nodup := by
  induction w using snoc_induction with
  | h0 => simp [marks]
  | h1 w m ih => rw [marks_snoc]; exact nodup_addMark ih

theorem mem_pos {w : List α} {m : α} {i : Nat} : i ∈ pos w m ↔ w[i]? = some m := by
  unfold pos
  rw [List.mem_filter, List.mem_range]
  constructor
  · rintro ⟨_, h⟩; exact of_decide_eq_true h
  · intro h
    refine ⟨?_, decide_eq_true h⟩
    obtain ⟨h1, _⟩ := List.getElem?_eq_some_iff.mp h
    exact h1
theorem pos_rise (w : List α) (m : α) : (pos w m).Pairwise (· < ·) := List.Pairwise.filter _ List.pairwise_lt_range
theorem pos_snoc (w : List α) (m x : α) : pos (w ++ [m]) x = pos w x ++ (if m = x then [w.length] else []) := by
  unfold pos
  rw [List.length_append, List.length_singleton, List.range_succ, List.filter_append]
  congr 1
  · apply List.filter_congr
    intro i hi
    rw [List.mem_range] at hi
    rw [List.getElem?_append_left hi]
  · simp only [List.filter_cons, List.filter_nil]
    have : (w ++ [m])[w.length]? = some m := by simp
    rw [this]
    by_cases h : m = x
    · simp [h]
    · simp [h]
theorem pos_ne_nil {w : List α} {m : α} (h : m ∈ w) : pos w m ≠ [] := by
  obtain ⟨i, hi, e⟩ := List.mem_iff_getElem.mp h
  intro hn
  have : i ∈ pos w m := mem_pos.mpr (by rw [List.getElem?_eq_getElem hi, e])
  rw [hn] at this
  simp at this
theorem pos_nil {w : List α} {m : α} (h : m ∉ w) : pos w m = [] := by
  rw [List.eq_nil_iff_forall_not_mem]
  intro i hi
  obtain ⟨hl, e⟩ := List.getElem?_eq_some_iff.mp (mem_pos.mp hi)
  exact h (e ▸ List.getElem_mem hl)
theorem gather_length (w : List α) : (gather w).length = (marks w).length := by simp [gather]
/-- one turn of gathered: a mark that is new -/
theorem gather_new {w : List α} {m : α} (h : m ∉ w) : gather (w ++ [m]) = gather w ++ [[w.length]] := by
  unfold gather
  rw [marks_snoc, addMark, if_neg (by rw [mem_marks]; exact h), List.map_append]
  congr 1
  · apply List.map_congr_left
    intro x hx
    rw [pos_snoc, if_neg, List.append_nil]
    rintro rfl
    exact h (mem_marks.mp hx)
  · simp [pos_snoc, pos_nil h]
theorem gather_old {w : List α} {m : α} (h : m ∈ w) : gather (w ++ [m]) = (gather w).set ((marks w).idxOf m) (pos w m ++ [w.length]) := by
  unfold gather
  rw [marks_snoc, addMark, if_pos (mem_marks.mpr h)]
  apply List.ext_getElem?
  intro i
  rw [List.getElem?_set, List.getElem?_map, List.getElem?_map]
  by_cases hi : (marks w).idxOf m = i
  · subst hi
    have hl : (marks w).idxOf m < (marks w).length := List.idxOf_lt_length_of_mem (mem_marks.mpr h)
    rw [if_pos rfl, List.length_map, if_pos hl, List.getElem?_eq_getElem hl, List.getElem_idxOf]
    simp [pos_snoc]
  · rw [if_neg hi]
    cases e : (marks w)[i]? with
    | none => rfl
    | some x =>
      simp only [Option.map_some, Option.some.injEq]
      rw [pos_snoc, if_neg, List.append_nil]
      rintro rfl
      obtain ⟨hl, e2⟩ := List.getElem?_eq_some_iff.mp e
      exact hi (by rw [← e2]; exact (nodup_marks w).idxOf_getElem i hl)
theorem gather_get {w : List α} {m : α} (h : m ∈ w) : (gather w)[(marks w).idxOf m]? = some (pos w m) := by
  unfold gather
  have hl : (marks w).idxOf m < (marks w).length := List.idxOf_lt_length_of_mem (mem_marks.mpr h)
  rw [List.getElem?_map, List.getElem?_eq_getElem hl, List.getElem_idxOf]
  rfl
theorem mem_gather {w : List α} {b : List Nat} : b ∈ gather w ↔ ∃ m ∈ w, b = pos w m := by
  unfold gather
  rw [List.mem_map]
  constructor
  · rintro ⟨m, hm, rfl⟩; exact ⟨m, mem_marks.mp hm, rfl⟩
  · rintro ⟨m, hm, rfl⟩; exact ⟨m, mem_marks.mpr hm, rfl⟩


theorem flatten_set_perm : ∀ {l : List (List Nat)} {i : Nat} {x : List Nat} {n : Nat}, l[i]? = some x → (l.set i (x ++ [n])).flatten.Perm (l.flatten ++ [n])
  | [], i, x, n, h => by simp at h
  | y :: l, 0, x, n, h => by
    simp at h; subst h
    simp only [List.set_cons_zero, List.flatten_cons, List.append_assoc]
    exact List.Perm.append_left _ List.perm_append_comm
  | y :: l, i + 1, x, n, h => by
    simp at h
    simp only [List.set_cons_succ, List.flatten_cons, List.append_assoc]
    exact List.Perm.append_left _ (flatten_set_perm h)
theorem gather_perm (w : List α) : (gather w).flatten.Perm (List.range w.length) := by
  induction w using snoc_induction with
  | h0 => simp [gather, marks]
  | h1 w m ih =>
    rw [List.length_append, List.length_singleton, List.range_succ]
    by_cases h : m ∈ w
    · rw [gather_old h]
      exact (flatten_set_perm (gather_get h)).trans (ih.append_right _)
    · rw [gather_new h, List.flatten_append]
      exact ih.append_right _
theorem gather_ne {w : List α} {b : List Nat} (h : b ∈ gather w) : b ≠ [] := by
  obtain ⟨m, hm, rfl⟩ := mem_gather.mp h
  exact pos_ne_nil hm
theorem gather_rise {w : List α} {b : List Nat} (h : b ∈ gather w) : b.Pairwise (· < ·) := by
  obtain ⟨m, hm, rfl⟩ := mem_gather.mp h
  exact pos_rise w m
theorem gather_lt {w : List α} {b : List Nat} (h : b ∈ gather w) {i : Nat} (hi : i ∈ b) : i < w.length := by
  obtain ⟨m, hm, rfl⟩ := mem_gather.mp h
  obtain ⟨hl, _⟩ := List.getElem?_eq_some_iff.mp (mem_pos.mp hi)
  exact hl
theorem headD_append {l : List Nat} (h : l ≠ []) (r : List Nat) (d : Nat) : (l ++ r).headD d = l.headD d := by
  cases l with
  | nil => exact absurd rfl h
  | cons x l => rfl
theorem gather_firsts (w : List α) : ((gather w).map (fun b => b.headD 0)).Pairwise (· < ·) := by
  induction w using snoc_induction with
  | h0 => simp [gather, marks]
  | h1 w m ih =>
    by_cases h : m ∈ w
    · rw [gather_old h, List.map_set]
      have e : ((gather w).map fun b => b.headD 0).set ((marks w).idxOf m) ((pos w m ++ [w.length]).headD 0) = (gather w).map fun b => b.headD 0 := by
        rw [headD_append (pos_ne_nil h)]
        apply List.ext_getElem?
        intro i
        rw [List.getElem?_set]
        split
        · rename_i hi
          subst hi
          rw [List.getElem?_map, gather_get h, List.length_map, gather_length, if_pos (List.idxOf_lt_length_of_mem (mem_marks.mpr h))]
          rfl
        · rfl
      rw [e]
      exact ih
    · rw [gather_new h, List.map_append, List.pairwise_append]
      refine ⟨ih, by simp, ?_⟩
      intro a ha b hb
      simp at hb
      subst hb
      obtain ⟨bl, hbl, rfl⟩ := List.mem_map.mp ha
      refine gather_lt hbl ?_
      have := gather_ne hbl
      cases bl with
      | nil => exact absurd rfl this
      | cons x l => simp

/-! ### partings, by ints -/
structure Parting (n : Int) (bs : List (List Int)) : Prop where
  lo : 0 ≤ n
  hi : n ≤ 10
  ne : ∀ b ∈ bs, b ≠ []
  rise : ∀ b ∈ bs, b.Pairwise (· < ·)
  firsts : (bs.map (fun b => b.headD 0)).Pairwise (· < ·)
  perm : bs.flatten.Perm ((List.range n.toNat).map (fun (k : Nat) => (k : Int)))
/-- lists of naturals as lists of ints -/
abbrev zl (b : List Nat) : List Int := b.map (fun (k : Nat) => (k : Int))
abbrev zb (bs : List (List Nat)) : List (List Int) := bs.map zl
theorem zl_pairwise {b : List Nat} (h : b.Pairwise (· < ·)) : (zl b).Pairwise (· < ·) := by
  rw [zl, List.pairwise_map]
  exact h.imp (fun {a b} h => by omega)
theorem parting_gather {w : List α} (h : w.length ≤ 10) : Parting (w.length : Int) (zb (gather w)) where
  lo := by omega
  hi := by omega
  ne := by
    intro b hb
    obtain ⟨c, hc, rfl⟩ := List.mem_map.mp hb
    have := gather_ne hc
    simpa [zl] using this
  rise := by
    intro b hb
    obtain ⟨c, hc, rfl⟩ := List.mem_map.mp hb
    exact zl_pairwise (gather_rise hc)
  firsts := by
    have e : (zb (gather w)).map (fun b => b.headD 0) = zl ((gather w).map fun b => b.headD 0) := by
      simp only [zb, zl, List.map_map]
      apply List.map_congr_left
      intro b hb
      cases b <;> simp
    rw [e]
    exact zl_pairwise (gather_firsts w)
  perm := by
    rw [Int.toNat_natCast]
    have e : (zb (gather w)).flatten = zl (gather w).flatten := by
      simp [zb, zl, List.map_flatten]
    rw [e]
    exact (gather_perm w).map _

/-! ### crossings -/
def IsCross (w : List α) (a b c d : Nat) : Prop := a < b ∧ b < c ∧ c < d ∧ d < w.length ∧ w[a]? = w[c]? ∧ w[b]? = w[d]? ∧ w[a]? ≠ w[b]?
def Free (w : List α) : Prop := ∀ a b c d, ¬ IsCross w a b c d

theorem canon_length (w : List α) : (canon w).length = w.length := by simp [canon]
theorem canon_get (w : List α) (i : Nat) : (canon w)[i]? = w[i]?.map (fun x => (marks w).idxOf x) := by simp [canon]
theorem idxOf_inj {l : List α} {a b : α} (ha : a ∈ l) (h : l.idxOf a = l.idxOf b) : a = b := by
  have hl : l.idxOf a < l.length := List.idxOf_lt_length_of_mem ha
  have hl' : l.idxOf b < l.length := by rw [← h]; exact hl
  have e1 : l[l.idxOf a] = a := List.getElem_idxOf hl
  have e2 : l[l.idxOf b] = b := List.getElem_idxOf hl'
  rw [← e1, ← e2]
  congr 1
theorem canon_eq_iff {w : List α} {i j : Nat} (hi : i < w.length) (hj : j < w.length) : (canon w)[i]? = (canon w)[j]? ↔ w[i]? = w[j]? := by
  rw [canon_get, canon_get, List.getElem?_eq_getElem hi, List.getElem?_eq_getElem hj]
  simp only [Option.map_some, Option.some.injEq]
  constructor
  · intro h
    exact idxOf_inj (mem_marks.mpr (List.getElem_mem hi)) h
  · intro h; rw [h]
theorem cross_canon {w : List α} {a b c d : Nat} : IsCross (canon w) a b c d ↔ IsCross w a b c d := by
  unfold IsCross
  rw [canon_length]
  constructor
  · rintro ⟨h1, h2, h3, h4, h5, h6, h7⟩
    exact ⟨h1, h2, h3, h4, (canon_eq_iff (by omega) (by omega)).mp h5, (canon_eq_iff (by omega) (by omega)).mp h6, fun h => h7 ((canon_eq_iff (by omega) (by omega)).mpr h)⟩
  · rintro ⟨h1, h2, h3, h4, h5, h6, h7⟩
    exact ⟨h1, h2, h3, h4, (canon_eq_iff (by omega) (by omega)).mpr h5, (canon_eq_iff (by omega) (by omega)).mpr h6, fun h => h7 ((canon_eq_iff (by omega) (by omega)).mp h)⟩
theorem free_canon {w : List α} : Free (canon w) ↔ Free w := by
  unfold Free
  constructor
  · intro h a b c d hx; exact h a b c d (cross_canon.mpr hx)
  · intro h a b c d hx; exact h a b c d (cross_canon.mp hx)

/-! ### a free word, as the law draws it -/
structure GoOk (going word : List Nat) : Prop where
  lt : ∀ x ∈ going, x < (marks word).length
  old : ∀ x ∈ word, x < (marks word).length
  free : Free word
  open_ : ∀ x ∈ going, ∀ (a b c : Nat), a < b → b < c → c < word.length → word[a]? = word[c]? → word[b]? = some x → word[a]? = some x
  nd : going.Nodup
  sub : ∀ x ∈ going, x ∈ word
  above : ∀ (i j x y : Nat), i < j → going[i]? = some x → going[j]? = some y → ∀ (a b : Nat), a < b → word[a]? = some y → word[b]? ≠ some x
theorem goOk_nil : GoOk [] [] := by
  refine ⟨by simp, by simp, ?_, by simp, by simp, by simp, ?_⟩
  · rintro a b c d ⟨_, _, _, h, _⟩; simp at h
  · intro i j x y _ h; simp at h
theorem idx_lt {w : List Nat} {i x : Nat} (h : w[i]? = some x) : i < w.length := (List.getElem?_eq_some_iff.mp h).1
/-- one more point, of the block of the label at place -/
theorem goOk_old {going word : List Nat} {p x : Nat} (G : GoOk going word) (hp : going[p]? = some x) : GoOk (going.take (p + 1)) (word ++ [x]) := by
  have hxg : x ∈ going := List.mem_of_getElem? hp
  have hw : x ∈ word := G.sub x hxg
  have hm : marks (word ++ [x]) = marks word := by rw [marks_snoc, addMark, if_pos (mem_marks.mpr hw)]
  have sub : ∀ {i y}, (going.take (p + 1))[i]? = some y → i ≤ p ∧ going[i]? = some y := by
    intro i y h
    rw [List.getElem?_take] at h
    split at h
    · exact ⟨by omega, h⟩
    · cases h
  have get_lt : ∀ {i}, i < word.length → (word ++ [x])[i]? = word[i]? := fun h => List.getElem?_append_left h
  have get_last : (word ++ [x])[word.length]? = some x := by simp
  refine ⟨?_, ?_, ?_, ?_, G.nd.sublist (List.take_sublist _ _), fun y hy => List.mem_append_left _ (G.sub y (List.mem_of_mem_take hy)), ?_⟩
  · intro y hy; rw [hm]; exact G.lt y (List.mem_of_mem_take hy)
  · intro y hy
    rw [hm]
    rcases List.mem_append.mp hy with h | h
    · exact G.old y h
    · simp at h; subst h; exact G.lt _ hxg
  · rintro a b c d ⟨h1, h2, h3, h4, h5, h6, h7⟩
    rw [List.length_append, List.length_singleton] at h4
    by_cases hd : d < word.length
    · rw [get_lt (by omega), get_lt (by omega)] at h5 h6 h7
      exact G.free a b c d ⟨h1, h2, h3, hd, h5, h6, h7⟩
    · have e : d = word.length := by omega
      subst e
      rw [get_lt (by omega), get_lt (by omega)] at h5 h7
      rw [get_lt (by omega), get_last] at h6
      exact h7 ((G.open_ x hxg a b c h1 h2 (by omega) h5 h6).trans h6.symm)
  · intro y hy a b c h1 h2 h3 h4 h5
    rw [List.length_append, List.length_singleton] at h3
    rw [get_lt (by omega)] at h4 h5 ⊢
    by_cases hc : c < word.length
    · rw [get_lt hc] at h4
      exact G.open_ y (List.mem_of_mem_take hy) a b c h1 h2 hc h4 h5
    · have e : c = word.length := by omega
      subst e
      rw [get_last] at h4
      obtain ⟨i, hi, ey⟩ := List.mem_iff_getElem.mp hy
      have hi' : (going.take (p + 1))[i]? = some y := by rw [List.getElem?_eq_getElem hi, ey]
      obtain ⟨hip, hgi⟩ := sub hi'
      by_cases hpi : i = p
      · subst hpi
        rw [hp] at hgi
        cases hgi
        exact h4
      · exact absurd h5 (G.above i p y x (by omega) hgi hp a b h1 h4)
  · intro i j y z hij hi hj a b hab ha hb
    obtain ⟨hip, hi⟩ := sub hi
    obtain ⟨hjp, hj⟩ := sub hj
    have hb' := idx_lt hb
    rw [List.length_append, List.length_singleton] at hb'
    rw [get_lt (by omega)] at ha
    by_cases hbl : b < word.length
    · rw [get_lt hbl] at hb
      exact G.above i j y z hij hi hj a b hab ha hb
    · have e : b = word.length := by omega
      subst e
      rw [get_last] at hb
      cases hb
      -- x stands at i and at p: the stack's labels rise
      obtain ⟨h1, e1⟩ := List.getElem?_eq_some_iff.mp hi
      obtain ⟨h2, e2⟩ := List.getElem?_eq_some_iff.mp hp
      have := (List.getElem_inj G.nd (h₀ := h1) (h₁ := h2)).mp (e1.trans e2.symm)
      omega
/-- one more point, alone so far -/
theorem goOk_new {going word : List Nat} {x : Nat} (G : GoOk going word) (hx : x = (marks word).length) : GoOk (going ++ [x]) (word ++ [x]) := by
  have hw : x ∉ word := fun h => by have := G.old x h; omega
  have hg : x ∉ going := fun h => by have := G.lt x h; omega
  have hm : (marks (word ++ [x])).length = (marks word).length + 1 := by rw [marks_snoc, addMark, if_neg (by rw [mem_marks]; exact hw)]; simp
  have get_lt : ∀ {i}, i < word.length → (word ++ [x])[i]? = word[i]? := fun h => List.getElem?_append_left h
  have get_last : (word ++ [x])[word.length]? = some x := by simp
  have no : ∀ {i : Nat}, word[i]? ≠ some x := fun h => hw (List.mem_of_getElem? h)
  refine ⟨?_, ?_, ?_, ?_, ?_, ?_, ?_⟩
  · intro y hy
    rcases List.mem_append.mp hy with h | h
    · have := G.lt y h; omega
    · simp at h; omega
  · intro y hy
    rcases List.mem_append.mp hy with h | h
    · have := G.old y h; omega
    · simp at h; omega
  · rintro a b c d ⟨h1, h2, h3, h4, h5, h6, h7⟩
    rw [List.length_append, List.length_singleton] at h4
    by_cases hd : d < word.length
    · rw [get_lt (by omega), get_lt (by omega)] at h5 h6 h7
      exact G.free a b c d ⟨h1, h2, h3, hd, h5, h6, h7⟩
    · have e : d = word.length := by omega
      subst e
      rw [get_lt (by omega), get_last] at h6
      exact no h6
  · intro y hy a b c h1 h2 h3 h4 h5
    rw [List.length_append, List.length_singleton] at h3
    rw [get_lt (by omega)] at h4 h5 ⊢
    by_cases hc : c < word.length
    · rw [get_lt hc] at h4
      rcases List.mem_append.mp hy with h | h
      · exact G.open_ y h a b c h1 h2 hc h4 h5
      · simp at h; subst h; exact absurd h5 no
    · have e : c = word.length := by omega
      subst e
      rw [get_last] at h4
      exact absurd h4 no
  · rw [List.nodup_append]
    refine ⟨G.nd, by simp, ?_⟩
    rintro a ha b hb rfl
    simp at hb
    exact hg (hb ▸ ha)
  · intro y hy
    rcases List.mem_append.mp hy with h | h
    · exact List.mem_append_left _ (G.sub y h)
    · exact List.mem_append_right _ h
  · intro i j y z hij hi hj a b hab ha hb
    have hb' := idx_lt hb
    have hj' := idx_lt hj
    rw [List.length_append, List.length_singleton] at hb' hj'
    rw [get_lt (by omega)] at ha
    rw [List.getElem?_append_left (by omega)] at hi
    by_cases hjl : j < going.length
    · rw [List.getElem?_append_left hjl] at hj
      by_cases hbl : b < word.length
      · rw [get_lt hbl] at hb
        exact G.above i j y z hij hi hj a b hab ha hb
      · have e : b = word.length := by omega
        subst e
        rw [get_last] at hb
        cases hb
        exact hg (List.mem_of_getElem? hi)
    · have e : j = going.length := by omega
      subst e
      have : z = x := by simpa using hj.symm
      subst this
      exact no ha

/-- the place that the law draws in a stack of L -/
def fplace (c : Int) (L : Nat) : Int := if c / 64 % 2 = 1 then max 0 ((L : Int) - 1 - c % ((L : Int) + 1) % 2) else c % ((L : Int) + 1)
theorem fplace_lo (c : Int) (L : Nat) : 0 ≤ fplace c L := by
  unfold fplace
  split
  · omega
  · exact Int.emod_nonneg _ (by omega)
theorem fplace_hi (c : Int) (L : Nat) : fplace c L ≤ L := by
  unfold fplace
  have h1 : 0 ≤ c % ((L : Int) + 1) := Int.emod_nonneg _ (by omega)
  have h2 : c % ((L : Int) + 1) < (L : Int) + 1 := Int.emod_lt_of_pos _ (by omega)
  split <;> omega
def fstep (s : List Nat × List Nat) (c : Int) : List Nat × List Nat :=
  if (fplace c s.1.length).toNat = s.1.length then (s.1 ++ [(marks s.2).length], s.2 ++ [(marks s.2).length])
  else (s.1.take ((fplace c s.1.length).toNat + 1), s.2 ++ [s.1.getD (fplace c s.1.length).toNat 0])
def freeState (cs : List Int) : List Nat × List Nat := cs.foldl fstep ([], [])
def freeWord (cs : List Int) : List Nat := (freeState cs).2
theorem freeState_snoc (cs : List Int) (c : Int) : freeState (cs ++ [c]) = fstep (freeState cs) c := by simp [freeState]
theorem fstep_ok {s : List Nat × List Nat} (G : GoOk s.1 s.2) (c : Int) : GoOk (fstep s c).1 (fstep s c).2 := by
  unfold fstep
  have h1 := fplace_lo c s.1.length
  have h2 := fplace_hi c s.1.length
  split
  · exact goOk_new G rfl
  · rename_i hne
    have hl : (fplace c s.1.length).toNat < s.1.length := by omega
    have e : s.1[(fplace c s.1.length).toNat]? = some (s.1.getD (fplace c s.1.length).toNat 0) := by
      rw [List.getD_eq_getElem?_getD, List.getElem?_eq_getElem hl]; rfl
    exact goOk_old G e
theorem freeState_ok (cs : List Int) : GoOk (freeState cs).1 (freeState cs).2 := by
  induction cs using snoc_induction with
  | h0 => exact goOk_nil
  | h1 cs c ih => rw [freeState_snoc]; exact fstep_ok ih c
theorem freeState_len (cs : List Int) : (freeState cs).2.length = cs.length ∧ (freeState cs).1.length ≤ cs.length := by
  induction cs using snoc_induction with
  | h0 => simp [freeState]
  | h1 cs c ih =>
    rw [freeState_snoc]
    unfold fstep
    split
    · simp; omega
    · simp; omega
theorem freeWord_length (cs : List Int) : (freeWord cs).length = cs.length := (freeState_len cs).1
theorem freeWord_free (cs : List Int) : Free (freeWord cs) := (freeState_ok cs).free
/-- the cells that the law reads -/
def cells (script : List Int) (at_ n : Nat) : List Int := (List.range n).map (fun k => script.getD (at_ + k) 0)
theorem cells_length (script : List Int) (at_ n : Nat) : (cells script at_ n).length = n := by simp [cells]
theorem cells_succ (script : List Int) (at_ n : Nat) : cells script at_ (n + 1) = cells script at_ n ++ [script.getD (at_ + n) 0] := by
  simp [cells, List.range_succ]

/-! ### orders -/
/-- two places of blocks that hold one point are one -/
theorem gather_inj {w : List α} {i i' j j' : Nat} {b b' : List Nat} {p : Nat} (hb : (gather w)[i]? = some b) (hb' : (gather w)[i']? = some b') (hp : b[j]? = some p) (hp' : b'[j']? = some p) : i = i' ∧ j = j' := by
  unfold gather at hb hb'
  rw [List.getElem?_map] at hb hb'
  obtain ⟨m, hm, rfl⟩ := Option.map_eq_some_iff.mp hb
  obtain ⟨m', hm', rfl⟩ := Option.map_eq_some_iff.mp hb'
  have e1 := mem_pos.mp (List.mem_of_getElem? hp)
  have e2 := mem_pos.mp (List.mem_of_getElem? hp')
  rw [e1] at e2
  cases e2
  obtain ⟨h1, g1⟩ := List.getElem?_eq_some_iff.mp hm
  obtain ⟨h2, g2⟩ := List.getElem?_eq_some_iff.mp hm'
  obtain ⟨h3, g3⟩ := List.getElem?_eq_some_iff.mp hp
  obtain ⟨h4, g4⟩ := List.getElem?_eq_some_iff.mp hp'
  refine ⟨(List.getElem_inj (nodup_marks w)).mp (g1.trans g2.symm), ?_⟩
  have nd : (pos w m).Nodup := (pos_rise w m).imp (fun {a b} h => Nat.ne_of_lt h)
  exact (List.getElem_inj nd).mp (g3.trans g4.symm)
end NC

set_option linter.unusedSectionVars false
namespace NC
variable {α β γ : Type} [DecidableEq α] [DecidableEq β] [DecidableEq γ]

/-- the blocks of the one lie within blocks of the other -/
def Below (w : List α) (v : List β) : Prop := w.length = v.length ∧ ∀ i j : Nat, i < w.length → j < w.length → w[i]? = w[j]? → v[i]? = v[j]?
theorem below_canon (w : List α) : Below w (canon w) ∧ Below (canon w) w :=
  ⟨⟨(canon_length w).symm, fun i j hi hj e => (canon_eq_iff hi hj).mpr e⟩, ⟨canon_length w, fun i j hi hj e => (canon_eq_iff (by rwa [canon_length] at hi) (by rwa [canon_length] at hj)).mp e⟩⟩

theorem pos_eq_of {w : List α} {v : List β} (h1 : Below w v) (h2 : Below v w) {k : Nat} {m : α} {n : β} (e1 : w[k]? = some m) (e2 : v[k]? = some n) : pos w m = pos v n := by
  have hl := h1.1
  have hk : k < w.length := (List.getElem?_eq_some_iff.mp e1).1
  unfold pos
  rw [← hl]
  apply List.filter_congr
  intro i hi
  rw [List.mem_range] at hi
  have : w[i]? = some m ↔ v[i]? = some n := by
    rw [← e1, ← e2]
    exact ⟨h1.2 i k hi hk, h2.2 i k (by omega) (by omega)⟩
  simp [this]
theorem gather_congr : ∀ (l : Nat) {w : List α} {v : List β}, w.length = l → Below w v → Below v w → gather w = gather v := by
  intro l
  induction l with
  | zero =>
    intro w v hl h1 h2
    have hv : v.length = 0 := by have := h1.1; omega
    rw [List.length_eq_zero_iff.mp hl, List.length_eq_zero_iff.mp hv]
    rfl
  | succ l ih =>
    intro w v hl h1 h2
    have hlv : v.length = l + 1 := by have := h1.1; omega
    obtain ⟨w', m, rfl⟩ : ∃ w' m, w = w' ++ [m] := ⟨w.dropLast, w.getLast (by intro e; subst e; simp at hl), (List.dropLast_concat_getLast _).symm⟩
    obtain ⟨v', n, rfl⟩ : ∃ v' n, v = v' ++ [n] := ⟨v.dropLast, v.getLast (by intro e; subst e; simp at hlv), (List.dropLast_concat_getLast _).symm⟩
    have lw : w'.length = l := by simpa using hl
    have lv : v'.length = l := by simpa using hlv
    have gw : ∀ {i}, i < l → (w' ++ [m])[i]? = w'[i]? := fun hi => List.getElem?_append_left (by omega)
    have gv : ∀ {i}, i < l → (v' ++ [n])[i]? = v'[i]? := fun hi => List.getElem?_append_left (by omega)
    have gwl : (w' ++ [m])[l]? = some m := by rw [← lw]; simp
    have gvl : (v' ++ [n])[l]? = some n := by rw [← lv]; simp
    have b1 : Below w' v' := ⟨by omega, fun i j hi hj e => by
      have := h1.2 i j (by simp; omega) (by simp; omega) (by rw [gw (by omega), gw (by omega)]; exact e)
      rwa [gv (by omega), gv (by omega)] at this⟩
    have b2 : Below v' w' := ⟨by omega, fun i j hi hj e => by
      have := h2.2 i j (by simp; omega) (by simp; omega) (by rw [gv (by omega), gv (by omega)]; exact e)
      rwa [gw (by omega), gw (by omega)] at this⟩
    have IH := ih lw b1 b2
    have mem_iff : ∀ k, k < l → (w'[k]? = some m ↔ v'[k]? = some n) := fun k hk => by
      constructor
      · intro e
        have := h1.2 k l (by simp; omega) (by simp; omega) (by rw [gw hk, gwl, e])
        rwa [gv hk, gvl] at this
      · intro e
        have := h2.2 k l (by simp; omega) (by simp; omega) (by rw [gv hk, gvl, e])
        rwa [gw hk, gwl] at this
    by_cases hm : m ∈ w'
    · obtain ⟨k, hk, e⟩ := List.mem_iff_getElem.mp hm
      have ek : w'[k]? = some m := by rw [List.getElem?_eq_getElem hk, e]
      have ek' : v'[k]? = some n := (mem_iff k (by omega)).mp ek
      have hn : n ∈ v' := List.mem_of_getElem? ek'
      have ep := pos_eq_of b1 b2 ek ek'
      rw [gather_old hm, gather_old hn, IH, ep, lw, lv]
      congr 1
      have g1 := gather_get hm
      have g2 := gather_get hn
      rw [IH, ep] at g1
      have hk2 : k ∈ pos v' n := mem_pos.mpr ek'
      obtain ⟨j, hj, ej⟩ := List.mem_iff_getElem.mp hk2
      have ej' : (pos v' n)[j]? = some k := by rw [List.getElem?_eq_getElem hj, ej]
      exact (gather_inj g1 g2 ej' ej').1
    · have hn : n ∉ v' := by
        intro hn
        obtain ⟨k, hk, e⟩ := List.mem_iff_getElem.mp hn
        have ek' : v'[k]? = some n := by rw [List.getElem?_eq_getElem hk, e]
        exact hm (List.mem_of_getElem? ((mem_iff k (by omega)).mpr ek'))
      rw [gather_new hm, gather_new hn, IH, lw, lv]
theorem gather_eq_of {w : List α} {v : List β} (h1 : Below w v) (h2 : Below v w) : gather w = gather v := gather_congr w.length rfl h1 h2
/-- the place of the block of a point -/
theorem canon_block {w : List α} {i p : Nat} {b : List Nat} (hb : (gather w)[i]? = some b) (hp : p ∈ b) : (canon w)[p]? = some i := by
  unfold gather at hb
  rw [List.getElem?_map] at hb
  obtain ⟨m, hm, rfl⟩ := Option.map_eq_some_iff.mp hb
  rw [canon_get, mem_pos.mp hp]
  obtain ⟨hi, e⟩ := List.getElem?_eq_some_iff.mp hm
  simp only [Option.map_some, Option.some.injEq]
  rw [← e]
  exact (nodup_marks w).idxOf_getElem i hi
theorem block_of {w : List α} {p : Nat} (hp : p < w.length) : ∃ (i : Nat) (b : List Nat), (gather w)[i]? = some b ∧ p ∈ b := by
  have hm : w[p] ∈ w := List.getElem_mem hp
  exact ⟨_, _, gather_get hm, mem_pos.mpr (List.getElem?_eq_getElem hp)⟩
/-! ### met -/
def meetW (w : List α) (v : List β) : List (α × β) := w.zip v
omit [DecidableEq α] [DecidableEq β] in
theorem meetW_len {w : List α} {v : List β} (hl : w.length = v.length) : (meetW w v).length = w.length := by
  unfold meetW; rw [List.length_zip]; omega
/-! ### two labels made one -/
end NC

set_option linter.unusedSectionVars false
namespace NC
theorem rises_iff : ∀ ns : List Int, (∀ i, i < ns.length - 1 → ns.getD i 0 < ns.getD (i + 1) 0) ↔ ns.Pairwise (· < ·)
  | [] => by simp
  | [x] => by simp
  | x :: y :: r => by
    have ih := rises_iff (y :: r)
    constructor
    · intro h
      have h2 : (y :: r).Pairwise (· < ·) := ih.mp fun i hi => by
        have := h (i + 1) (by simp at hi ⊢; omega)
        simpa using this
      have h0 : x < y := by simpa using h 0 (by simp)
      rw [List.pairwise_cons]
      refine ⟨fun z hz => ?_, h2⟩
      rcases List.mem_cons.mp hz with rfl | hz
      · exact h0
      · exact Int.lt_trans h0 ((List.pairwise_cons.mp h2).1 z hz)
    · intro h
      rw [List.pairwise_cons] at h
      have h2 := ih.mpr h.2
      intro i hi
      cases i with
      | zero => simpa using h.1 y (by simp)
      | succ i =>
        have := h2 i (by simp at hi ⊢; omega)
        simpa using this
/-- rising neighbours, as a list of bools -/
theorem rises_all (ns : List Int) : ((List.range (ns.length - 1)).map fun i => decide (ns.getD i 0 < ns.getD (i + 1) 0)).all id = decide (ns.Pairwise (· < ·)) := by
  rw [Bool.eq_iff_iff, decide_eq_true_iff, ← rises_iff, List.all_map, List.all_eq_true]
  simp
/-- a sorted list with the members of 0 .. n - 1 is that -/
theorem sorted_range {ms : List Int} {n : Nat} (h : ms.Pairwise (· ≤ ·)) : ms = (List.range n).map (fun (k : Nat) => (k : Int)) ↔ ms.Perm ((List.range n).map (fun (k : Nat) => (k : Int))) := by
  constructor
  · rintro rfl; exact List.Perm.refl _
  · intro p
    have s2 : ((List.range n).map (fun (k : Nat) => (k : Int))).Pairwise (· ≤ ·) := by
      rw [List.pairwise_map]
      exact List.pairwise_lt_range.imp (fun {a b} h => by omega)
    exact List.Perm.eq_of_pairwise (fun a b _ _ h1 h2 => Int.le_antisymm h1 h2) h s2 p
end NC

set_option linter.unusedSectionVars false
namespace NC
variable {α : Type} [DecidableEq α]
/-- the places told of the first i blocks, and of the first k points of the next one -/
def PlacesTo (w : List α) (i k : Nat) (L : List Nat) : Prop := L.length = w.length ∧ ∀ (j : Nat) (b : List Nat) (m p : Nat), (gather w)[j]? = some b → b[m]? = some p → (j < i ∨ (j = i ∧ m < k)) → L[p]? = some j
theorem places_start (w : List α) : PlacesTo w 0 0 (List.replicate w.length 0) := ⟨by simp, fun j b m p _ _ h => by omega⟩
theorem places_step {w : List α} {i k p : Nat} {b L : List Nat} (h : PlacesTo w i k L) (hb : (gather w)[i]? = some b) (hp : b[k]? = some p) : PlacesTo w i (k + 1) (L.set p i) := by
  have hl : p < L.length := by rw [h.1]; exact gather_lt (List.mem_of_getElem? hb) (List.mem_of_getElem? hp)
  refine ⟨by simpa using h.1, fun j b' m q hb' hq hjm => ?_⟩
  rw [List.getElem?_set]
  by_cases e : p = q
  · subst e
    obtain ⟨rfl, rfl⟩ := gather_inj hb hb' hp hq
    rw [if_pos rfl, if_pos hl]
  · rw [if_neg e]
    refine h.2 j b' m q hb' hq ?_
    rcases hjm with z | ⟨z1, z2⟩
    · exact .inl z
    · subst z1
      rw [hb] at hb'
      cases hb'
      have : m ≠ k := fun z => by subst z; rw [hp] at hq; exact e (Option.some.inj hq)
      exact .inr ⟨rfl, by omega⟩
theorem places_next {w : List α} {i : Nat} {b L : List Nat} (h : PlacesTo w i b.length L) (hb : (gather w)[i]? = some b) : PlacesTo w (i + 1) 0 L := by
  refine ⟨h.1, fun j b' m p hb' hp hjm => h.2 j b' m p hb' hp ?_⟩
  by_cases e : j = i
  · subst e
    rw [hb] at hb'
    cases hb'
    exact .inr ⟨rfl, (List.getElem?_eq_some_iff.mp hp).1⟩
  · exact .inl (by omega)
theorem places_end {w : List α} {L : List Nat} (h : PlacesTo w (gather w).length 0 L) : L = canon w := by
  apply List.ext_getElem?
  intro p
  by_cases hp : p < w.length
  · obtain ⟨i, b, hb, hpb⟩ := block_of hp
    obtain ⟨m, hm, e⟩ := List.mem_iff_getElem.mp hpb
    rw [canon_block hb hpb]
    exact h.2 i b m p hb (by rw [List.getElem?_eq_getElem hm, e]) (.inl (List.getElem?_eq_some_iff.mp hb).1)
  · rw [List.getElem?_eq_none_iff.mpr (by have := h.1; omega), List.getElem?_eq_none_iff.mpr (by rw [canon_length]; omega)]
/-! ### orders, set point by point -/
/-! ### the search for a crossing: what has been looked at -/
theorem free_of_search {w : List α} (h : ∀ a b c d, a < w.length → ¬ IsCross w a b c d) : Free w := fun a b c d x => h a b c d (by obtain ⟨h1, h2, h3, h4, _⟩ := x; omega) x
end NC

set_option linter.unusedSectionVars false
namespace NC
variable {α β : Type} [DecidableEq α] [DecidableEq β]
end NC

set_option linter.unusedSectionVars false
/-! met and joined -/
namespace NC
/-! ### a good parting, as the law looks at it -/
end NC
namespace NC
end NC

set_option linter.unusedSectionVars false
/-! all free words, as the law goes through them -/
namespace NC
end NC

set_option linter.all false
set_option maxRecDepth 100000
/-! COUNTS: the table of endings, choices, how many of so many blocks -/
namespace NC
/-- ways to choose, as it is computed -/
def chs (n : Nat) : Nat → Nat
  | 0 => 1
  | k + 1 => chs n k * (n - k) / (k + 1)
theorem chs_le : ∀ n k : Nat, n ≤ 10 → k ≤ 10 → chs n k ≤ 1000 := by
  have h : ∀ n : Fin 11, ∀ k : Fin 11, chs n.1 k.1 ≤ 1000 := by decide +kernel
  intro n k hn hk
  exact h ⟨n, by omega⟩ ⟨k, by omega⟩
theorem sum_cast (l : List Nat) : ((l.map fun (x : Nat) => (x : Int))).sum = ((l.sum : Nat) : Int) := by
  induction l with
  | nil => rfl
  | cons a l ih => rw [List.map_cons, List.sum_cons, List.sum_cons, ih]; omega
end NC

set_option linter.all false
set_option maxRecDepth 100000
/-! NUMBERS: choices point by point, their rank, the words that they make -/
namespace NC
/-! ### the words -/
/-! ### the rank of a word, as it is computed -/
/-! ### labels by first points -/
/-! ### words in order -/
end NC

set_option linter.all false
set_option maxRecDepth 100000
/-! WAYS UP: in closed form, and together over the blocks parted in two -/
namespace NC
def fct : Nat → Nat
  | 0 => 1
  | n + 1 => (n + 1) * fct n
theorem fct_pos : ∀ n : Nat, 0 < fct n
  | 0 => by decide
  | n + 1 => Nat.mul_pos (Nat.succ_pos n) (fct_pos n)
def tw (k : Nat) : Nat := k ^ (k - 2)
def stp (s : Nat × Nat) (l : Nat) : Nat × Nat := (s.1 * chs (s.2 + (l - 1)) (l - 1) * tw l, s.2 + (l - 1))
def wup (ls : List Nat) : Nat := (ls.foldl stp (1, 0)).1
def prodF (f : Nat → Nat) : List Nat → Nat
  | [] => 1
  | l :: ls => f l * prodF f ls
abbrev pf (l : Nat) : Nat := fct (l - 1)
def stepsOf : List Nat → Nat
  | [] => 0
  | l :: ls => (l - 1) + stepsOf ls
theorem prodF_append (f : Nat → Nat) : ∀ a b : List Nat, prodF f (a ++ b) = prodF f a * prodF f b
  | [], b => by simp [prodF]
  | l :: a, b => by
    show f l * prodF f (a ++ b) = f l * prodF f a * prodF f b
    rw [prodF_append f a b, Nat.mul_assoc]
theorem prodF_perm (f : Nat → Nat) {a b : List Nat} (h : a.Perm b) : prodF f a = prodF f b := by
  induction h with
  | nil => rfl
  | cons x _ ih => exact congrArg (f x * ·) ih
  | swap x y l => exact Nat.mul_left_comm _ _ _
  | trans _ _ i1 i2 => exact i1.trans i2
theorem stepsOf_append : ∀ a b : List Nat, stepsOf (a ++ b) = stepsOf a + stepsOf b
  | [], b => by simp [stepsOf]
  | l :: a, b => by
    show (l - 1) + stepsOf (a ++ b) = (l - 1) + stepsOf a + stepsOf b
    rw [stepsOf_append a b]
    omega
theorem stepsOf_perm {a b : List Nat} (h : a.Perm b) : stepsOf a = stepsOf b := by
  induction h with
  | nil => rfl
  | cons x _ ih => exact congrArg ((x - 1) + ·) ih
  | swap x y l =>
    show (y - 1) + ((x - 1) + stepsOf l) = (x - 1) + ((y - 1) + stepsOf l)
    omega
  | trans _ _ i1 i2 => exact i1.trans i2
theorem prodF_pos {f : Nat → Nat} (h : ∀ l, 0 < f l) : ∀ ls : List Nat, 0 < prodF f ls
  | [] => Nat.one_pos
  | l :: ls => Nat.mul_pos (h l) (prodF_pos h ls)
theorem chs_fct {s k : Nat} (h : s + k ≤ 10) : chs (s + k) k * fct k * fct s = fct (s + k) := by
  have : ∀ s k : Fin 11, s.1 + k.1 ≤ 10 → chs (s.1 + k.1) k.1 * fct k.1 * fct s.1 = fct (s.1 + k.1) := by decide +kernel
  exact this ⟨s, by omega⟩ ⟨k, by omega⟩ h
theorem fold_closed : ∀ (ls : List Nat) (x s : Nat), s + stepsOf ls ≤ 10 → (ls.foldl stp (x, s)).1 * prodF pf ls * fct s = x * fct (s + stepsOf ls) * prodF tw ls
  | [], x, s, _ => by simp [prodF, stepsOf]
  | l :: ls, x, s, h => by
    have h' : s + (l - 1) + stepsOf ls ≤ 10 := by
      have : stepsOf (l :: ls) = (l - 1) + stepsOf ls := rfl
      omega
    have ih := fold_closed ls (x * chs (s + (l - 1)) (l - 1) * tw l) (s + (l - 1)) h'
    have hc := chs_fct (s := s) (k := l - 1) (by omega)
    rw [← hc] at ih
    show (ls.foldl stp (x * chs (s + (l - 1)) (l - 1) * tw l, s + (l - 1))).1 * (fct (l - 1) * prodF pf ls) * fct s = x * fct (s + ((l - 1) + stepsOf ls)) * (tw l * prodF tw ls)
    rw [← Nat.add_assoc]
    generalize (ls.foldl stp (x * chs (s + (l - 1)) (l - 1) * tw l, s + (l - 1))).1 = F at ih ⊢
    generalize fct (s + (l - 1) + stepsOf ls) = G at ih ⊢
    have cpos : 0 < chs (s + (l - 1)) (l - 1) := by
      rcases Nat.eq_zero_or_pos (chs (s + (l - 1)) (l - 1)) with z | z
      · rw [z, Nat.zero_mul, Nat.zero_mul] at hc
        have := fct_pos (s + (l - 1))
        omega
      · exact z
    generalize chs (s + (l - 1)) (l - 1) = c at ih cpos
    generalize fct (l - 1) = a at ih ⊢
    generalize fct s = b at ih ⊢
    generalize prodF pf ls = p at ih ⊢
    generalize tw l = t at ih ⊢
    generalize prodF tw ls = q at ih ⊢
    apply Nat.eq_of_mul_eq_mul_left cpos
    calc c * (F * (a * p) * b) = F * p * (c * a * b) := by simp only [Nat.mul_comm, Nat.mul_left_comm, Nat.mul_assoc]
      _ = x * c * t * G * q := ih
      _ = c * (x * G * (t * q)) := by simp only [Nat.mul_comm, Nat.mul_left_comm, Nat.mul_assoc]
theorem wup_closed {ls : List Nat} (h : stepsOf ls ≤ 10) : wup ls * prodF pf ls = fct (stepsOf ls) * prodF tw ls := by
  have := fold_closed ls 1 0 (by omega)
  rw [Nat.zero_add, Nat.one_mul] at this
  rw [show fct 0 = 1 from rfl, Nat.mul_one] at this
  exact this
/-- a stretch from low to high of k points -/
def prs (k : Nat) : List (Nat × Nat) := (List.range (k - 1)).flatMap fun a => (List.range (k - 1 - a)).map fun b => (a + 1, a + 2 + b)
theorem mem_prs {k : Nat} {x : Nat × Nat} : x ∈ prs k ↔ 1 ≤ x.1 ∧ x.1 < x.2 ∧ x.2 ≤ k := by
  unfold prs
  rw [List.mem_flatMap]
  constructor
  · rintro ⟨a, ha, h⟩
    obtain ⟨b, hb, rfl⟩ := List.mem_map.mp h
    have := List.mem_range.mp ha
    have := List.mem_range.mp hb
    show 1 ≤ a + 1 ∧ a + 1 < a + 2 + b ∧ a + 2 + b ≤ k
    omega
  · rintro ⟨h1, h2, h3⟩
    refine ⟨x.1 - 1, List.mem_range.mpr (by omega), List.mem_map.mpr ⟨x.2 - x.1 - 1, List.mem_range.mpr (by omega), ?_⟩⟩
    apply Prod.ext
    · show x.1 - 1 + 1 = x.1
      omega
    · show x.1 - 1 + 2 + (x.2 - x.1 - 1) = x.2
      omega
def dk (k : Nat) (x : Nat × Nat) : Nat := (k - 1) * chs (k - 2) (x.2 - x.1 - 1)
def tk (k : Nat) (x : Nat × Nat) : Nat := tw (k - (x.2 - x.1)) * tw (x.2 - x.1)
def pk (k : Nat) (x : Nat × Nat) : Nat := fct (k - (x.2 - x.1) - 1) * fct (x.2 - x.1 - 1)
theorem prs_id {k : Nat} (h : k ≤ 10) : ((prs k).map fun x => tk k x * dk k x).sum = (k - 1) * tw k := by
  have : ∀ k : Fin 11, ((prs k.1).map fun x => tk k.1 x * dk k.1 x).sum = (k.1 - 1) * tw k.1 := by decide +kernel
  exact this ⟨k, by omega⟩
theorem prs_pk {k : Nat} (h : k ≤ 10) : ∀ x ∈ prs k, dk k x * pk k x = pf k := by
  have : ∀ k : Fin 11, (prs k.1).all (fun x => dk k.1 x * pk k.1 x == pf k.1) = true := by decide +kernel
  intro x hx
  exact beq_iff_eq.mp (List.all_eq_true.mp (this ⟨k, by omega⟩) x hx)
theorem sum_lin {α : Type} {f t d p : α → Nat} {M R F : Nat} : ∀ {L : List α}, (∀ x ∈ L, f x * (M * p x) = R * t x ∧ d x * p x = F) → (L.map f).sum * (M * F) = R * (L.map fun x => t x * d x).sum
  | [], _ => by simp
  | x :: L, h => by
    obtain ⟨h1, h2⟩ := h x (by simp)
    have ih := sum_lin (L := L) fun y hy => h y (by simp [hy])
    rw [List.map_cons, List.sum_cons, List.map_cons, List.sum_cons, Nat.add_mul, Nat.mul_add, ih]
    congr 1
    calc f x * (M * F) = f x * (M * (d x * p x)) := by rw [h2]
      _ = f x * (M * p x) * d x := by simp only [Nat.mul_comm, Nat.mul_left_comm, Nat.mul_assoc]
      _ = R * t x * d x := by rw [h1]
      _ = R * (t x * d x) := Nat.mul_assoc _ _ _
/-- the ways of a block parted in two, taken together -/
theorem part_sum {A B : List Nat} {k : Nat} {g : Nat × Nat → Nat} (hk : 1 ≤ k) (hk10 : k ≤ 10) (hS : stepsOf (A ++ k :: B) ≤ 10)
    (hg : ∀ x ∈ prs k, ∃ ms : List Nat, ms.Perm (A ++ [k - (x.2 - x.1), x.2 - x.1] ++ B) ∧ g x = wup ms) :
    ((prs k).map g).sum * prodF pf (A ++ k :: B) = fct (stepsOf (A ++ k :: B) - 1) * prodF tw (A ++ k :: B) * (k - 1) := by
  have e1 : prodF pf (A ++ k :: B) = prodF pf A * prodF pf B * pf k := by
    rw [prodF_append]
    show prodF pf A * (pf k * prodF pf B) = _
    simp only [Nat.mul_comm, Nat.mul_left_comm, Nat.mul_assoc]
  have e2 : prodF tw (A ++ k :: B) = prodF tw A * prodF tw B * tw k := by
    rw [prodF_append]
    show prodF tw A * (tw k * prodF tw B) = _
    simp only [Nat.mul_comm, Nat.mul_left_comm, Nat.mul_assoc]
  have e3 : stepsOf (A ++ k :: B) = stepsOf A + ((k - 1) + stepsOf B) := stepsOf_append A (k :: B)
  rw [e1, e2]
  have := sum_lin (L := prs k) (f := g) (t := tk k) (d := dk k) (p := pk k) (M := prodF pf A * prodF pf B) (R := fct (stepsOf (A ++ k :: B) - 1) * (prodF tw A * prodF tw B)) (F := pf k) fun x hx => ⟨by
    obtain ⟨ms, hp, hw⟩ := hg x hx
    obtain ⟨x1, x2, x3⟩ := mem_prs.mp hx
    have s1 : stepsOf ms = stepsOf (A ++ k :: B) - 1 := by
      rw [stepsOf_perm hp, List.append_assoc, stepsOf_append, stepsOf_append, e3]
      show stepsOf A + ((k - (x.2 - x.1) - 1) + ((x.2 - x.1 - 1) + 0) + stepsOf B) = _
      omega
    have hc := wup_closed (ls := ms) (by omega)
    rw [← hw, s1, prodF_perm _ hp, prodF_perm _ hp, List.append_assoc, prodF_append, prodF_append, prodF_append, prodF_append] at hc
    have z1 : prodF pf [k - (x.2 - x.1), x.2 - x.1] = pk k x := by
      show fct (k - (x.2 - x.1) - 1) * (fct (x.2 - x.1 - 1) * 1) = _
      rw [Nat.mul_one]
      rfl
    have z2 : prodF tw [k - (x.2 - x.1), x.2 - x.1] = tk k x := by
      show tw (k - (x.2 - x.1)) * (tw (x.2 - x.1) * 1) = _
      rw [Nat.mul_one]
      rfl
    rw [z1, z2] at hc
    calc g x * (prodF pf A * prodF pf B * pk k x) = g x * (prodF pf A * (pk k x * prodF pf B)) := by simp only [Nat.mul_comm, Nat.mul_left_comm, Nat.mul_assoc]
      _ = _ := hc
      _ = _ := by simp only [Nat.mul_comm, Nat.mul_left_comm, Nat.mul_assoc], prs_pk hk10 x hx⟩
  rw [this, prs_id hk10]
  simp only [Nat.mul_comm, Nat.mul_left_comm, Nat.mul_assoc]
theorem split_at {ls : List Nat} {i k : Nat} (h : ls[i]? = some k) : ls = ls.take i ++ k :: ls.drop (i + 1) := by
  obtain ⟨hi, e⟩ := List.getElem?_eq_some_iff.mp h
  conv => lhs; rw [← List.take_append_drop i ls]
  rw [List.drop_eq_getElem_cons hi, e]
theorem sum_steps (f : Nat → Nat) (P R : Nat) : ∀ (ls : List Nat) (i0 : Nat), (∀ i k, ls[i]? = some k → f (i0 + i) * P = R * (k - 1)) → ((List.range ls.length).map fun i => f (i0 + i)).sum * P = R * stepsOf ls
  | [], _, _ => by simp [stepsOf]
  | l :: ls, i0, h => by
    have ih := sum_steps f P R ls (i0 + 1) fun i k hk => by
      have := h (i + 1) k (by simpa using hk)
      rw [← this]
      congr 2
      omega
    rw [List.length_cons, List.range_succ_eq_map, List.map_cons, List.sum_cons, List.map_map, Nat.add_mul]
    have e : ((List.range ls.length).map ((fun i => f (i0 + i)) ∘ Nat.succ)) = (List.range ls.length).map fun i => f (i0 + 1 + i) := by
      apply List.map_congr_left
      intro i _
      show f (i0 + (i + 1)) = _
      congr 1
      omega
    rw [e, ih, h 0 l rfl]
    show R * (l - 1) + R * stepsOf ls = R * ((l - 1) + stepsOf ls)
    rw [Nat.mul_add]
/-- all of them together -/
theorem ways_sum {ls : List Nat} {g : Nat → Nat × Nat → Nat} (h1 : ∀ l ∈ ls, 1 ≤ l ∧ l ≤ 10) (hS1 : 1 ≤ stepsOf ls) (hS : stepsOf ls ≤ 10)
    (hg : ∀ (i k : Nat) (x : Nat × Nat), ls[i]? = some k → x ∈ prs k → ∃ ms : List Nat, ms.Perm (ls.take i ++ [k - (x.2 - x.1), x.2 - x.1] ++ ls.drop (i + 1)) ∧ g i x = wup ms) :
    ((List.range ls.length).map fun i => ((prs (ls.getD i 0)).map (g i)).sum).sum = wup ls := by
  have key := sum_steps (fun i => ((prs (ls.getD i 0)).map (g i)).sum) (prodF pf ls) (fct (stepsOf ls - 1) * prodF tw ls) ls 0 fun i k hk => by
    rw [Nat.zero_add]
    have hd : ls.getD i 0 = k := by rw [List.getD_eq_getElem?_getD, hk]; rfl
    have hm := h1 k (List.mem_of_getElem? hk)
    have sp := split_at hk
    have := part_sum (A := ls.take i) (B := ls.drop (i + 1)) (k := k) (g := g i) hm.1 hm.2 (by rw [← sp]; exact hS) (hg i k · hk ·)
    rw [← sp] at this
    show ((prs (ls.getD i 0)).map (g i)).sum * _ = _
    rw [hd]
    exact this
  simp only [Nat.zero_add] at key
  have hc := wup_closed hS
  have pp : 0 < prodF pf ls := prodF_pos (fun l => fct_pos (l - 1)) ls
  apply Nat.eq_of_mul_eq_mul_right pp
  rw [key, hc]
  obtain ⟨S, e⟩ : ∃ S, stepsOf ls = S + 1 := ⟨stepsOf ls - 1, by omega⟩
  rw [e]
  show fct S * prodF tw ls * (S + 1) = (S + 1) * fct S * prodF tw ls
  simp only [Nat.mul_comm, Nat.mul_left_comm, Nat.mul_assoc]
end NC

set_option linter.all false
set_option maxRecDepth 100000
/-! a block parted in two: a stretch of its points, and the rest -/
namespace NC
theorem rise_ext {a b : List Nat} (ha : a.Pairwise (· < ·)) (hb : b.Pairwise (· < ·)) (h : ∀ x, x ∈ a ↔ x ∈ b) : a = b := by
  have na : a.Nodup := ha.imp (fun h => Nat.ne_of_lt h)
  have nb : b.Nodup := hb.imp (fun h => Nat.ne_of_lt h)
  exact List.Perm.eq_of_pairwise (fun x y _ _ h1 h2 => absurd h1 (Nat.lt_asymm h2)) ha hb ((List.perm_ext_iff_of_nodup na nb).mpr h)
abbrev stretch (b : List Nat) (low high : Nat) : List Nat := (b.take high).drop low
abbrev resting (b : List Nat) (low high : Nat) : List Nat := b.take low ++ b.drop high
theorem mem_stretch {b : List Nat} {low high x : Nat} : x ∈ stretch b low high ↔ ∃ i, low ≤ i ∧ i < high ∧ b[i]? = some x := by
  rw [List.mem_iff_getElem?]
  constructor
  · rintro ⟨i, h⟩
    rw [List.getElem?_drop, List.getElem?_take] at h
    split at h
    · exact ⟨low + i, by omega, by assumption, h⟩
    · cases h
  · rintro ⟨i, h1, h2, h⟩
    refine ⟨i - low, ?_⟩
    rw [List.getElem?_drop, List.getElem?_take, if_pos (by omega), show low + (i - low) = i by omega]
    exact h
theorem mem_resting {b : List Nat} {low high x : Nat} (h : low ≤ high) : x ∈ resting b low high ↔ ∃ i, (i < low ∨ high ≤ i) ∧ b[i]? = some x := by
  rw [List.mem_append, List.mem_iff_getElem?, List.mem_iff_getElem?]
  constructor
  · rintro (⟨i, e⟩ | ⟨i, e⟩)
    · rw [List.getElem?_take] at e
      split at e
      · exact ⟨i, .inl (by assumption), e⟩
      · cases e
    · rw [List.getElem?_drop] at e
      exact ⟨high + i, .inr (by omega), e⟩
  · rintro ⟨i, h1 | h1, e⟩
    · refine .inl ⟨i, ?_⟩
      rw [List.getElem?_take, if_pos h1]
      exact e
    · refine .inr ⟨i - high, ?_⟩
      rw [List.getElem?_drop, show high + (i - high) = i by omega]
      exact e
theorem rise_at {b : List Nat} (h : b.Pairwise (· < ·)) {i j x y : Nat} (hi : b[i]? = some x) (hj : b[j]? = some y) : i < j ↔ x < y := by
  obtain ⟨hi', e1⟩ := List.getElem?_eq_some_iff.mp hi
  obtain ⟨hj', e2⟩ := List.getElem?_eq_some_iff.mp hj
  rw [List.pairwise_iff_getElem] at h
  constructor
  · intro z
    have := h i j hi' hj' z
    omega
  · intro z
    rcases Nat.lt_trichotomy i j with k | k | k
    · exact k
    · subst k
      omega
    · have := h j i hj' hi' k
      omega
theorem resting_rise {b : List Nat} (h : b.Pairwise (· < ·)) {low high : Nat} (hl : low ≤ high) : (resting b low high).Pairwise (· < ·) := by
  rw [List.pairwise_append]
  refine ⟨h.sublist (List.take_sublist _ _), h.sublist (List.drop_sublist _ _), fun x hx y hy => ?_⟩
  obtain ⟨i, e1⟩ := List.mem_iff_getElem?.mp hx
  obtain ⟨j, e2⟩ := List.mem_iff_getElem?.mp hy
  rw [List.getElem?_take] at e1
  split at e1
  · rw [List.getElem?_drop] at e2
    exact (rise_at h e1 e2).mp (by omega)
  · cases e1
theorem stretch_rise {b : List Nat} (h : b.Pairwise (· < ·)) {low high : Nat} : (stretch b low high).Pairwise (· < ·) := (h.sublist (List.take_sublist _ _)).sublist (List.drop_sublist _ _)
/-- the word of the parting made -/
def cutW (w : List Nat) (s : List Nat) : List (Nat × Bool) := meetW w ((List.range w.length).map fun q => decide (q ∈ s))
theorem ind_len (w s : List Nat) : w.length = ((List.range w.length).map fun q => decide (q ∈ s)).length := by simp
theorem cutW_len (w s : List Nat) : (cutW w s).length = w.length := meetW_len (ind_len w s)
theorem cutW_get (w s : List Nat) (i : Nat) : (cutW w s)[i]? = w[i]?.map fun x => (x, decide (i ∈ s)) := by
  unfold cutW meetW
  by_cases hi : i < w.length
  · have h : (w.zip ((List.range w.length).map fun q => decide (q ∈ s)))[i]? = some (w[i], decide (i ∈ s)) := List.getElem?_zip_eq_some.mpr ⟨List.getElem?_eq_getElem hi, by
      rw [List.getElem?_map, List.getElem?_range hi]
      rfl⟩
    rw [h, List.getElem?_eq_getElem hi]
    rfl
  · rw [List.getElem?_eq_none_iff.mpr (by simp; omega), List.getElem?_eq_none_iff.mpr (show w.length ≤ i by omega)]
    rfl
theorem pos_cut (w s : List Nat) (x : Nat) (v : Bool) (i : Nat) : i ∈ pos (cutW w s) (x, v) ↔ w[i]? = some x ∧ decide (i ∈ s) = v := by
  rw [mem_pos, cutW_get]
  cases w[i]? with
  | none => simp
  | some y => simp
theorem cut_free {w b : List Nat} {m low high : Nat} (hF : Free w) (hb : b = pos w m) : Free (cutW w (stretch b low high)) := by
  intro a q c d ⟨h1, h2, h3, h4, e1, e2, e3⟩
  rw [cutW_len] at h4
  have hr : b.Pairwise (· < ·) := by rw [hb]; exact pos_rise w m
  have il := ind_len w (stretch b low high)
  have g : ∀ i, i < w.length → (cutW w (stretch b low high))[i]? = some ((w[i]?).getD 0, decide (i ∈ stretch b low high)) := fun i hi => by
    rw [cutW_get, List.getElem?_eq_getElem hi]
    rfl
  have k : ∀ i j, i < w.length → j < w.length → ((cutW w (stretch b low high))[i]? = (cutW w (stretch b low high))[j]? ↔ w[i]? = w[j]? ∧ (i ∈ stretch b low high ↔ j ∈ stretch b low high)) := fun i j hi hj => by
    rw [cutW_get, cutW_get, List.getElem?_eq_getElem hi, List.getElem?_eq_getElem hj]
    simp
  obtain ⟨w1, v1⟩ := (k a c (by omega) (by omega)).mp e1
  obtain ⟨w2, v2⟩ := (k q d (by omega) (by omega)).mp e2
  by_cases hw : w[a]? = w[q]?
  · have v3 : ¬ (a ∈ stretch b low high ↔ q ∈ stretch b low high) := fun z => e3 ((k a q (by omega) (by omega)).mpr ⟨hw, z⟩)
    have conv : ∀ x y z, x < y → y < z → x ∈ stretch b low high → z ∈ stretch b low high → w[y]? = w[x]? → y ∈ stretch b low high := by
      intro x y z hxy hyz hx hz he
      obtain ⟨i, i1, i2, i3⟩ := mem_stretch.mp hx
      obtain ⟨j, j1, j2, j3⟩ := mem_stretch.mp hz
      have hxm : w[x]? = some m := mem_pos.mp (by rw [← hb]; exact List.mem_of_getElem? i3)
      have hym : y ∈ b := by rw [hb]; exact mem_pos.mpr (he.trans hxm)
      obtain ⟨l, l1⟩ := List.mem_iff_getElem?.mp hym
      have a1 := (rise_at hr i3 l1).mpr hxy
      have a2 := (rise_at hr l1 j3).mpr hyz
      exact mem_stretch.mpr ⟨l, by omega, by omega, l1⟩
    by_cases va : a ∈ stretch b low high
    · exact v3 ⟨fun _ => conv a q c h1 h2 va (v1.mp va) hw.symm, fun _ => va⟩
    · have vq : q ∈ stretch b low high := by
        by_cases z : q ∈ stretch b low high
        · exact z
        · exact absurd ⟨fun y => absurd y va, fun y => absurd y z⟩ v3
      have := conv q c d h2 h3 vq (v2.mp vq) (by rw [← w1, hw])
      exact va (v1.mpr this)
  · exact hF a q c d ⟨h1, h2, h3, h4, w1, w2, hw⟩
theorem cut_gather {w b : List Nat} {i low high : Nat} (hb : (gather w)[i]? = some b) (h1 : 1 ≤ low) (h2 : low < high) (h3 : high ≤ b.length) :
    (gather (cutW w (stretch b low high))).Perm ((gather w).take i ++ [resting b low high, stretch b low high] ++ (gather w).drop (i + 1)) := by
  unfold gather at hb
  rw [List.getElem?_map] at hb
  obtain ⟨m, hm, e⟩ := Option.map_eq_some_iff.mp hb
  have hr : b.Pairwise (· < ·) := by rw [← e]; exact pos_rise w m
  obtain ⟨hil, hme⟩ := List.getElem?_eq_some_iff.mp hm
  have hsp : marks w = (marks w).take i ++ m :: (marks w).drop (i + 1) := by
    conv => lhs; rw [← List.take_append_drop i (marks w)]
    rw [List.drop_eq_getElem_cons hil, hme]
  have nd := nodup_marks w
  have pc : ∀ x, x ≠ m → pos (cutW w (stretch b low high)) (x, false) = pos w x := fun x hx => by
    refine rise_ext (pos_rise _ _) (pos_rise _ _) fun q => ?_
    rw [pos_cut, mem_pos]
    refine ⟨fun z => z.1, fun z => ⟨z, ?_⟩⟩
    rw [decide_eq_false_iff_not]
    intro hq
    obtain ⟨l, _, _, hl⟩ := mem_stretch.mp hq
    have : w[q]? = some m := mem_pos.mp (by rw [e]; exact List.mem_of_getElem? hl)
    rw [z] at this
    exact hx (Option.some.inj this)
  have ps : pos (cutW w (stretch b low high)) (m, true) = stretch b low high := by
    refine rise_ext (pos_rise _ _) (stretch_rise hr) fun q => ?_
    rw [pos_cut, decide_eq_true_iff]
    refine ⟨fun z => z.2, fun z => ⟨?_, z⟩⟩
    obtain ⟨l, _, _, hl⟩ := mem_stretch.mp z
    exact mem_pos.mp (by rw [e]; exact List.mem_of_getElem? hl)
  have pr : pos (cutW w (stretch b low high)) (m, false) = resting b low high := by
    refine rise_ext (pos_rise _ _) (resting_rise hr (by omega)) fun q => ?_
    rw [pos_cut, decide_eq_false_iff_not, mem_resting (by omega)]
    constructor
    · rintro ⟨z1, z2⟩
      have : q ∈ b := by rw [← e]; exact mem_pos.mpr z1
      obtain ⟨l, hl⟩ := List.mem_iff_getElem?.mp this
      refine ⟨l, ?_, hl⟩
      rcases Nat.lt_or_ge l low with y | y
      · exact .inl y
      · refine .inr ?_
        rcases Nat.lt_or_ge l high with x | x
        · exact absurd (mem_stretch.mpr ⟨l, y, x, hl⟩) z2
        · exact x
    · rintro ⟨l, z, hl⟩
      refine ⟨mem_pos.mp (by rw [e]; exact List.mem_of_getElem? hl), fun y => ?_⟩
      obtain ⟨l', y1, y2, hl'⟩ := mem_stretch.mp y
      have a1 := (rise_at hr hl hl')
      have a2 := (rise_at hr hl' hl)
      omega
  have hmk : (marks (cutW w (stretch b low high))).Perm ((marks w).map (fun x => (x, false)) ++ [(m, true)]) := by
    refine (List.perm_ext_iff_of_nodup (nodup_marks _) ?_).mpr fun x => ?_
    · rw [List.nodup_append]
      refine ⟨?_, by simp, ?_⟩
      · exact List.pairwise_map.mpr (nd.imp fun hne z => hne (congrArg Prod.fst z))
      · rintro x hx y hy rfl
        obtain ⟨z, _, rfl⟩ := List.mem_map.mp hx
        simp at hy
    · rw [mem_marks, List.mem_append, List.mem_map, List.mem_singleton]
      constructor
      · intro hx
        obtain ⟨q, hq⟩ := List.mem_iff_getElem?.mp hx
        rw [cutW_get] at hq
        obtain ⟨y, hy, rfl⟩ := Option.map_eq_some_iff.mp hq
        by_cases z : q ∈ stretch b low high
        · refine .inr ?_
          obtain ⟨l, _, _, hl⟩ := mem_stretch.mp z
          have : w[q]? = some m := mem_pos.mp (by rw [e]; exact List.mem_of_getElem? hl)
          rw [hy] at this
          rw [Option.some.inj this, decide_eq_true z]
        · exact .inl ⟨y, mem_marks.mpr (List.mem_of_getElem? hy), by rw [decide_eq_false z]⟩
      · have some_of : ∀ (p : Nat × Bool), pos (cutW w (stretch b low high)) p ≠ [] → p ∈ cutW w (stretch b low high) := fun p hp => by
          obtain ⟨q, hq⟩ := List.exists_mem_of_ne_nil _ hp
          exact List.mem_of_getElem? (mem_pos.mp hq)
        rintro (⟨y, hy, rfl⟩ | rfl)
        · apply some_of
          by_cases z : y = m
          · subst z
            rw [pr]
            intro z
            have hin := (mem_resting (b := b) (x := b[0]) (show low ≤ high by omega)).mpr ⟨0, .inl h1, List.getElem?_eq_getElem (by omega)⟩
            rw [z] at hin
            cases hin
          · rw [pc y z]
            exact pos_ne_nil (mem_marks.mp hy)
        · apply some_of
          rw [ps]
          intro z
          have := congrArg List.length z
          rw [List.length_drop, List.length_take] at this
          simp at this
          omega
  have hG : gather (cutW w (stretch b low high)) = (marks (cutW w (stretch b low high))).map (pos (cutW w (stretch b low high))) := rfl
  rw [hG]
  refine (hmk.map _).trans ?_
  rw [List.map_append, List.map_map, List.map_singleton, ps]
  have hg1 : (gather w).take i = ((marks w).take i).map (pos w) := by rw [List.map_take]; rfl
  have hg2 : (gather w).drop (i + 1) = ((marks w).drop (i + 1)).map (pos w) := by rw [List.map_drop]; rfl
  rw [hg1, hg2]
  have nd' : ((marks w).take i ++ m :: (marks w).drop (i + 1)).Nodup := by rw [← hsp]; exact nd
  rw [List.nodup_append] at nd'
  obtain ⟨n1, n2, n3⟩ := nd'
  rw [List.nodup_cons] at n2
  have hM : (marks w).map ((pos (cutW w (stretch b low high))) ∘ fun x => (x, false)) = ((marks w).take i).map (pos w) ++ resting b low high :: ((marks w).drop (i + 1)).map (pos w) := by
    conv => lhs; rw [hsp]
    rw [List.map_append, List.map_cons]
    congr 1
    · apply List.map_congr_left
      intro x hx
      exact pc x (fun z => n3 x hx m (by simp) z)
    · congr 1
      apply List.map_congr_left
      intro x hx
      exact pc x (fun z => n2.1 (z ▸ hx))
  rw [hM, List.append_assoc, List.append_assoc]
  refine List.Perm.append_left _ ?_
  show (resting b low high :: (List.map (pos w) (List.drop (i + 1) (marks w)) ++ [stretch b low high])).Perm (resting b low high :: stretch b low high :: List.map (pos w) (List.drop (i + 1) (marks w)))
  exact List.Perm.cons _ (List.perm_append_singleton _ _)
/-- sorted by their first points -/
theorem sorted_gather {α : Type} [DecidableEq α] {u : List α} {M : List (List Nat)} (hp : M.Perm (gather u)) (hs : (M.map fun b => b.headD 0).Pairwise (· ≤ ·)) : M = gather u := by
  have hf := gather_firsts u
  have h1 : M.Pairwise (fun a b => a.headD 0 ≤ b.headD 0) := by rw [List.pairwise_map] at hs; exact hs
  have h2 : (gather u).Pairwise (fun a b => a.headD 0 ≤ b.headD 0) := by
    rw [List.pairwise_map] at hf
    exact hf.imp fun h => Nat.le_of_lt h
  refine List.Perm.eq_of_pairwise (fun a b ha hb z1 z2 => ?_) h1 h2 hp
  have ha' := hp.mem_iff.mp ha
  obtain ⟨i, hi⟩ := List.mem_iff_getElem?.mp ha'
  obtain ⟨j, hj⟩ := List.mem_iff_getElem?.mp hb
  have e : (gather u)[i]? = (gather u)[j]? := by
    obtain ⟨hi', e1⟩ := List.getElem?_eq_some_iff.mp hi
    obtain ⟨hj', e2⟩ := List.getElem?_eq_some_iff.mp hj
    rw [List.pairwise_iff_getElem] at hf
    rcases Nat.lt_trichotomy i j with k | k | k
    · have := hf i j (by simpa using hi') (by simpa using hj') k
      simp only [List.getElem_map, e1, e2] at this
      omega
    · rw [k]
    · have := hf j i (by simpa using hj') (by simpa using hi') k
      simp only [List.getElem_map, e1, e2] at this
      omega
  rw [hi, hj] at e
  exact Option.some.inj e
/-- the parting made, as a free word -/
theorem parted_word {w b : List Nat} {i low high : Nat} {M : List (List Nat)} (hF : Free w) (hb : (gather w)[i]? = some b) (h1 : 1 ≤ low) (h2 : low < high) (h3 : high ≤ b.length)
    (hp : M.Perm ((gather w).take i ++ [resting b low high, stretch b low high] ++ (gather w).drop (i + 1))) (hs : (M.map fun b => b.headD 0).Pairwise (· ≤ ·)) : ∃ u : List Nat, u.length = w.length ∧ Free u ∧ M = gather u := by
  refine ⟨canon (cutW w (stretch b low high)), by rw [canon_length, cutW_len], ?_, ?_⟩
  · rw [free_canon]
    have hb' := hb
    unfold gather at hb'
    rw [List.getElem?_map] at hb'
    obtain ⟨m, _, e⟩ := Option.map_eq_some_iff.mp hb'
    exact cut_free hF e.symm
  · have bc := below_canon (cutW w (stretch b low high))
    rw [← gather_eq_of bc.1 bc.2]
    exact sorted_gather (hp.trans (cut_gather hb h1 h2 h3).symm) hs
end NC

set_option Elab.async false
set_option linter.all false
set_option maxRecDepth 100000
set_option maxHeartbeats 4000000
/-! MORE RULES over the layer: enumerate, zip, list comprehensions. -/
namespace L2
open PySem PySem.Spec PyProof.Rows

section
variable {X : Cx} {pins : List (Addr × Obj)} {σ : List (Option V)} {H : Hp} {s : Shared} {h' : Heap}
/-- a new object is laid and tracked, while the records at ch turned -/
theorem Inv.laidCh {a : Addr} {o : HO} {t' : Nat} {ch : List Addr} (I : Inv X pins σ H s) (hch : ∀ b ∈ ch, FpOk X pins H b)
    (k : ∀ b u, b ∉ ch → s.heap.get? b = some u → h'.get? b = some u) (hp : s.heap.objs.size ≤ a) (new : ObjOk X.prog X.w (upd H a o) h' a o) :
    Inv X pins σ (upd H a o) { s with heap := h', toks := t' } := by
  have hn : H a = none := I.hok.fresh hp
  refine I.step (g' := s.gens) (d' := s.drawn) (ch := ch) (fun b hb => ?_) (fun b u _ _ hc e _ => k b u hc e) (fun b u _ _ hc e _ => ⟨u.slots, k b u hc e⟩) (fun b u hc e n => ?_)
    (fun b u hc e => ⟨u, k b u hc e⟩) (fun b xs e => ?_) (fun b u v e => ?_) (fun b ps e => ?_) (fun m hm => ?_) ?_ I.bare
  · obtain ⟨f0, f1, f2, f3, f4, f5⟩ := hch b hb
    exact ⟨f3, f1, f4, f5⟩
  · rw [upd_ne (Nat.ne_of_lt (Nat.lt_of_lt_of_le (Heap.lt_size e) hp))]; exact n
  · rw [upd_ne (ne_of_none e hn)]; exact e
  · rw [upd_ne (ne_of_none e hn)]; exact e
  · exact ⟨#[], by rw [upd_ne (ne_of_none e hn), e]; simp⟩
  · obtain ⟨ob, es, ep, ho, r⟩ := hm
    exact ⟨ob, es, ep, k _ _ (fun z => (hch _ z).2.1 rfl) ho, r⟩
  · intro b u e
    by_cases hb : b = a
    · subst hb; rw [upd_same] at e; cases e; exact new
    · rw [upd_ne hb] at e
      refine (I.hok b u e).stay (fun c v hc q => k c v ?_ q) (fun c q => by rw [upd_ne (ne_of_none q hn)]; exact q) fun c xs q => by rw [upd_ne (ne_of_none q hn)]; exact q
      intro z
      have hz := (hch c z).1
      rcases hc with rfl | hc
      · rw [hz] at e; cases e
      · rw [hz] at hc; cases hc
/-- records at ch turned, nothing else -/
theorem Inv.turnedCh {t' : Nat} {ch : List Addr} (I : Inv X pins σ H s) (hch : ∀ b ∈ ch, FpOk X pins H b)
    (k : ∀ b u, b ∉ ch → s.heap.get? b = some u → h'.get? b = some u) : Inv X pins σ H { s with heap := h', toks := t' } := by
  refine I.step (g' := s.gens) (d' := s.drawn) (ch := ch) (fun b hb => ?_) (fun b u _ _ hc e _ => k b u hc e) (fun b u _ _ hc e _ => ⟨u.slots, k b u hc e⟩) (fun b u hc e n => n)
    (fun b u hc e => ⟨u, k b u hc e⟩) (fun b xs e => e) (fun b u v e => e) (fun b ps e => ⟨#[], by rw [e]; simp⟩) (fun m hm => ?_) ?_ I.bare
  · obtain ⟨f0, f1, f2, f3, f4, f5⟩ := hch b hb
    exact ⟨f3, f1, f4, f5⟩
  · obtain ⟨ob, es, ep, ho, r⟩ := hm
    exact ⟨ob, es, ep, k _ _ (fun z => (hch _ z).2.1 rfl) ho, r⟩
  · intro b u e
    refine (I.hok b u e).stay (fun c v hc q => k c v ?_ q) (fun c q => q) fun c xs q => q
    intro z
    have hz := (hch c z).1
    rcases hc with rfl | hc
    · rw [hz] at e; cases e
    · rw [hz] at hc; cases hc
theorem objOk_pair {P : Program} {w : World} {h : Heap} {a : Addr} {x y : V} {u v : Value} (rx : RelV x u) (ry : RelV y v) (e : h.get? a = some { cls := .type "tuple", data := .seq #[u, v] }) : ObjOk P w H h a (.tup [x, y]) := by
  refine ⟨by show 2 ≤ sizeLine; decide, [u, v], .cons rx (.cons ry .nil), _, e, rfl, _, rfl⟩
end

/-! ### enumerate over a list -/
def Ite (K : PySem.W.Frag) (a : Addr) : It :=
  ⟨fun i H => ∃ xs x, SqL K H a xs ∧ xs[i]? = some x, fun i H v H' => ∃ t x, v = .ref t ∧ H t = none ∧ H' = upd H t (.tup [.int i, x]) ∧ ∀ xs, SqL K H a xs → xs[i]? = some x, fun i H => ∃ xs, SqL K H a xs ∧ xs.length ≤ i⟩
theorem turn_enum {P : Program} {w : World} {K : PySem.W.Frag} {elts : List Expr} {k : Nat} {tpos : Pos} (a e it : Addr) (hne : e ≠ it) :
    Turn P w K (.Tuple elts k tpos) (Ite K a) [e, it] e (fun i h => (∃ old, IsEnum h e it i old) ∧ h.IsListIter it a i) where
  mem := by simp
  obj := fun i h st b hb => by
    obtain ⟨⟨old, he⟩, o, ho, c, d⟩ := st
    rcases List.mem_cons.mp hb with rfl | hb
    · exact ⟨_, he, fun v z => by cases z⟩
    · rw [List.mem_singleton.mp hb]
      exact ⟨o, ho, fun v z => by rw [d] at z; cases z⟩
  keep := fun i h h' st k => by
    obtain ⟨⟨old, he⟩, hit⟩ := st
    exact ⟨⟨old, k e (by simp) _ he⟩, hit.at fun o q => k it (by simp) o q⟩
  item := by
    intro X hP hw hK hc i pins s σ H E I hf st hg
    subst hP hw hK
    obtain ⟨⟨old, he⟩, hit⟩ := st
    obtain ⟨xs, x, hq, hx⟩ := hg
    obtain ⟨its, rv, p, hz⟩ := I.list hq
    obtain ⟨u, hu, ru⟩ := rv.get hx
    have heH : e < s.heap.objs.size := Heap.lt_size he
    refine wpAny_pyNext_enum_item he hit p.isList (x := u) (by simpa using hu) hne fun h1 heo hit1 ht1 hz1 hk1 => ?_
    refine ⟨_, rfl, wpAny_letOwnedTupleGo_enum heo fun h2 he2 hs2 => ?_⟩
    replace hs2 : Heap.SameBut e h1 h2 := hs2
    have kk : ∀ b o, b ∉ [e, it] → s.heap.get? b = some o → h2.get? b = some o := fun b o hb q => by
      have hb1 : b ≠ e := fun z => hb (by simp [z])
      have hb2 : b ≠ it := fun z => hb (by simp [z])
      exact (hs2.2 b hb1).trans (hk1 b o hb1 hb2 q)
    have new : h2.get? s.heap.objs.size = some { cls := .type "tuple", data := .seq #[.int i s.toks, u] } := (hs2.2 _ (Nat.ne_of_gt heH)).trans ht1
    have I1 := I.laidCh (h' := h2) (a := s.heap.objs.size) (o := .tup [.int i, x]) (t' := s.toks + 1) hf kk (Nat.le_refl _) (objOk_pair ⟨_, rfl⟩ ru new)
    refine ⟨.ref s.heap.objs.size, _, I1, rfl, ⟨_, x, rfl, I.hok.fresh (Nat.le_refl _), rfl, fun ys hy => by rw [I.list_inj hy hq]; exact hx⟩, ⟨⟨u, by simpa using he2⟩, hit1.at fun o q => (hs2.2 it (Ne.symm hne)).trans q⟩, fun b hb => ?_⟩
    have hb0 : b < s.heap.objs.size := by
      rcases List.mem_cons.mp hb with z | z
      · rw [z]; exact heH
      · rw [List.mem_singleton.mp z]; obtain ⟨o, ho, _⟩ := hit; exact Heap.lt_size ho
    rw [upd_ne (Nat.ne_of_lt hb0)]
    exact (hf b hb).1
  done := by
    intro X hP hw hK hc i pins s σ H E I hf st hg
    subst hP hw hK
    obtain ⟨⟨old, he⟩, hit⟩ := st
    obtain ⟨xs, hq, hx⟩ := hg
    obtain ⟨its, rv, p, hz⟩ := I.list hq
    have hl := rv.length
    exact wpAny_pyNext_enum_end (I.ok.hd hc) he hit p.isList (by simp; omega) fun h' eb => ⟨rfl, I.turnedCh (t' := s.toks) hf fun b o hb q => eb b o (fun z => hb (by simp [z])) q⟩
  self := fun _ _ _ _ _ st h => by
    obtain ⟨⟨old, he⟩, _⟩ := st
    exact wpAny_pyIter_enum he h
/-! ### zip over two lists -/
def Itz (K : PySem.W.Frag) (a b : Addr) : It :=
  ⟨fun i H => ∃ xs ys x y, SqL K H a xs ∧ SqL K H b ys ∧ xs[i]? = some x ∧ ys[i]? = some y, fun i H v H' => ∃ t x y, v = .ref t ∧ H t = none ∧ H' = upd H t (.tup [x, y]) ∧ ∀ xs ys, SqL K H a xs → SqL K H b ys → xs[i]? = some x ∧ ys[i]? = some y,
    fun i H => ∃ xs ys, SqL K H a xs ∧ SqL K H b ys ∧ (xs.length ≤ i ∨ ys.length ≤ i)⟩
structure ZA (z TI TO i1 i2 : Addr) : Prop where
  TIz : TI ≠ z
  TOz : TO ≠ z
  i1z : i1 ≠ z
  i2z : i2 ≠ z
  TITO : TI ≠ TO
  TIi1 : TI ≠ i1
  TIi2 : TI ≠ i2
  TOi1 : TO ≠ i1
  TOi2 : TO ≠ i2
  i12 : i1 ≠ i2
theorem za_new (n : Nat) : ZA (n + 4) (n + 2) (n + 3) n (n + 1) := ⟨(show (n + 2 : Nat) ≠ n + 4 by omega), (show (n + 3 : Nat) ≠ n + 4 by omega), (show (n : Nat) ≠ n + 4 by omega), (show (n + 1 : Nat) ≠ n + 4 by omega), (show (n + 2 : Nat) ≠ n + 3 by omega), (show (n + 2 : Nat) ≠ n by omega), (show (n + 2 : Nat) ≠ n + 1 by omega), (show (n + 3 : Nat) ≠ n by omega), (show (n + 3 : Nat) ≠ n + 1 by omega), (show (n : Nat) ≠ n + 1 by omega)⟩
def ZipSt (z TI TO i1 i2 a b : Addr) (i : Nat) (h : Heap) : Prop :=
  IsZip h z TI TO .none ∧ IsPair h TI (.ref i1) (.ref i2) ∧ (∃ u v, IsPair h TO u v) ∧ h.IsListIter i1 a i ∧ h.IsListIter i2 b i
theorem zipApart_of {h : Heap} {z TI TO i1 i2 a b : Addr} {i : Nat} {its its2 : Array Value} (D : ZA z TI TO i1 i2) (st : ZipSt z TI TO i1 i2 a b i h) (p : PlainL h a its) (q : PlainL h b its2) : ZipApart z TI TO i1 i2 a b := by
  obtain ⟨hz, hTI, ⟨u, v, hTO⟩, ⟨o1, ho1, c1, _⟩, ⟨o2, ho2, c2, _⟩⟩ := st
  obtain ⟨oa, na, ea, ca, _⟩ := p
  obtain ⟨ob, nb, eb, cb, _⟩ := q
  refine ⟨D.TIz, D.TOz, D.i1z, D.i2z, D.TITO, D.TIi1, D.TIi2, D.TOi1, D.TOi2, D.i12, ?_, ?_, ?_, ?_, ?_, ?_, ?_, ?_⟩
  · rintro rfl; rw [hz] at ea; cases ea; simp at ca
  · rintro rfl; rw [hTO] at ea; cases ea; simp at ca
  · rintro rfl; rw [ho1] at ea; cases ea; rw [c1] at ca; simp at ca
  · rintro rfl; rw [ho2] at ea; cases ea; rw [c2] at ca; simp at ca
  · rintro rfl; rw [hz] at eb; cases eb; simp at cb
  · rintro rfl; rw [hTO] at eb; cases eb; simp at cb
  · rintro rfl; rw [ho1] at eb; cases eb; rw [c1] at cb; simp at cb
  · rintro rfl; rw [ho2] at eb; cases eb; rw [c2] at cb; simp at cb
theorem turn_zip {P : Program} {w : World} {K : PySem.W.Frag} {elts : List Expr} {k : Nat} {tpos : Pos} (a b z TI TO i1 i2 : Addr) (D : ZA z TI TO i1 i2) :
    Turn P w K (.Tuple elts k tpos) (Itz K a b) [z, TI, TO, i1, i2] z (ZipSt z TI TO i1 i2 a b) where
  mem := by simp
  obj := fun i h st c hc => by
    obtain ⟨hz, hTI, ⟨u, v, hTO⟩, ⟨o1, ho1, c1, d1⟩, ⟨o2, ho2, c2, d2⟩⟩ := st
    simp at hc
    rcases hc with rfl | rfl | rfl | rfl | rfl
    · exact ⟨_, hz, fun v z => by cases z⟩
    · exact ⟨_, hTI, fun v z => by cases z⟩
    · exact ⟨_, hTO, fun v z => by cases z⟩
    · exact ⟨_, ho1, fun v z => by rw [d1] at z; cases z⟩
    · exact ⟨_, ho2, fun v z => by rw [d2] at z; cases z⟩
  keep := fun i h h' st k => by
    obtain ⟨hz, hTI, ⟨u, v, hTO⟩, h1, h2⟩ := st
    exact ⟨k z (by simp) _ hz, k TI (by simp) _ hTI, ⟨u, v, k TO (by simp) _ hTO⟩, h1.at fun o q => k i1 (by simp) o q, h2.at fun o q => k i2 (by simp) o q⟩
  item := by
    intro X hP hw hK hc i pins s σ H E I hf st hg
    subst hP hw hK
    obtain ⟨xs, ys, x, y, hqa, hqb, hx, hy⟩ := hg
    obtain ⟨its, rv, p, hz⟩ := I.list hqa
    obtain ⟨its2, rv2, p2, hz2⟩ := I.list hqb
    obtain ⟨u, hu, ru⟩ := rv.get hx
    obtain ⟨v, hv, rw'⟩ := rv2.get hy
    have ZD := zipApart_of D st p p2
    obtain ⟨hzz, hTI, ⟨u0, v0, hTO⟩, h1, h2⟩ := id st
    have hlz : z < s.heap.objs.size := Heap.lt_size hzz
    refine wpAny_pyNext_zip_item ZD hzz hTI hTO h1 h2 p.isList p2.isList (x := u) (y := v) (by simpa using hu) (by simpa using hv) fun h3 a1 a2 a3 a4 a5 a6 hk => ?_
    refine ⟨_, rfl, wpAny_letOwnedTupleGo_zip a1 fun h4 hz4 hs4 => ?_⟩
    replace hs4 : Heap.SameBut z h3 h4 := hs4
    have kk : ∀ c o, c ∉ [z, TI, TO, i1, i2] → s.heap.get? c = some o → h4.get? c = some o := fun c o hb q => by
      have e1 : c ≠ z := fun e => hb (by simp [e])
      have e2 : c ≠ TO := fun e => hb (by simp [e])
      have e3 : c ≠ i1 := fun e => hb (by simp [e])
      have e4 : c ≠ i2 := fun e => hb (by simp [e])
      exact (hs4.2 c e1).trans (hk c o e1 e2 e3 e4 q)
    have new : h4.get? s.heap.objs.size = some { cls := .type "tuple", data := .seq #[u, v] } := (hs4.2 _ (Nat.ne_of_gt hlz)).trans a5
    have I1 := I.laidCh (h' := h4) (a := s.heap.objs.size) (o := .tup [x, y]) (t' := s.toks) hf kk (Nat.le_refl _) (objOk_pair ru rw' new)
    refine ⟨.ref s.heap.objs.size, _, I1, rfl, ⟨_, x, y, rfl, I.hok.fresh (Nat.le_refl _), rfl, fun xs' ys' q1 q2 => by rw [I.list_inj q1 hqa, I.list_inj q2 hqb]; exact ⟨hx, hy⟩⟩, ?_, fun c hb => ?_⟩
    · exact ⟨hz4, (hs4.2 _ D.TIz).trans (hk _ _ D.TIz D.TITO D.TIi1 D.TIi2 hTI), ⟨u, v, (hs4.2 _ D.TOz).trans a2⟩, a3.at fun o q => (hs4.2 _ D.i1z).trans q, a4.at fun o q => (hs4.2 _ D.i2z).trans q⟩
    · have hb0 : c < s.heap.objs.size := by
        simp at hb
        rcases hb with rfl | rfl | rfl | rfl | rfl
        · exact hlz
        · exact Heap.lt_size hTI
        · exact Heap.lt_size hTO
        · obtain ⟨o, ho, _⟩ := h1; exact Heap.lt_size ho
        · obtain ⟨o, ho, _⟩ := h2; exact Heap.lt_size ho
      rw [upd_ne (Nat.ne_of_lt hb0)]
      exact (hf c hb).1
  done := by
    intro X hP hw hK hc i pins s σ H E I hf st hg
    subst hP hw hK
    obtain ⟨xs, ys, hqa, hqb, hx⟩ := hg
    obtain ⟨its, rv, p, hz⟩ := I.list hqa
    obtain ⟨its2, rv2, p2, hz2⟩ := I.list hqb
    have hl := rv.length
    have hl2 := rv2.length
    have ZD := zipApart_of D st p p2
    obtain ⟨hzz, hTI, ⟨u0, v0, hTO⟩, h1, h2⟩ := id st
    refine wpAny_pyNext_zip_end (I.ok.hd hc) ZD hzz hTI hTO h1 h2 p.isList p2.isList ?_ fun h' hk => ⟨rfl, I.turnedCh (t' := s.toks) hf fun c o hb q => ?_⟩
    · rcases hx with hx | hx
      · exact .inl (by simp; omega)
      · exact .inr (by simp; omega)
    · exact hk c o (fun e => hb (by simp [e])) (fun e => hb (by simp [e])) (fun e => hb (by simp [e])) (fun e => hb (by simp [e])) q
  self := fun _ _ _ _ _ st h => wpAny_pyIter_zip st.1 h

section
variable {X : Cx} {elts : List Expr} {k : Nat} {tpos : Pos}
def iEnum (K : PySem.W.Frag) (ta : TA) : TI := fun σ H R => ta σ H fun vs H1 => ∃ a, vs = [.ref a] ∧ (∃ xs, SqL K H1 a xs) ∧ R (Ite K a) H1
def iZip (K : PySem.W.Frag) (ta : TA) : TI := fun σ H R => ta σ H fun vs H1 => ∃ a b, vs = [.ref a, .ref b] ∧ (∃ xs, SqL K H1 a xs) ∧ (∃ ys, SqL K H1 b ys) ∧ R (Itz K a b) H1
theorem pi_enum {a : Expr} {ta : TA} {p pos : Pos} (hg : Gl X "enumerate") (hm : X.mg "enumerate" = none) (ha : PA X [a] ta) (hs : starEach [a] X.env = [(false, eval a X.env)] := by rfl) :
    PI X (.Tuple elts k tpos) (.Call (.Name "enumerate" p) [a] [] pos) (iEnum X.K ta) := by
  intro pins s σ H R I h
  refine Call_ (ld_blt I hg hm boot_enumerate (PyProof.Rows.callWith_type1 (thn (ha pos pins s σ H _ I h) fun us s1 ⟨vs, H1, I1, r1, q1⟩ => ?_) hs rfl))
  obtain ⟨l, rfl, ⟨xs, hq⟩, q⟩ := q1
  obtain ⟨u, rfl, ru⟩ := vals1 r1
  cases ru
  obtain ⟨its, rv, pl, hz⟩ := I1.list hq
  refine call_enumerate_list pl.isList fun h1 he hit hsz hk => ?_
  have I2 : Inv X pins σ H1 { s1 with heap := h1 } := I1.kept (t' := s1.toks) hk
  refine wpAny_pyIter_enum he ⟨s1.heap.objs.size + 1, [s1.heap.objs.size + 1, s1.heap.objs.size], _, _, H1, rfl, I2, turn_enum l (s1.heap.objs.size + 1) s1.heap.objs.size (Nat.succ_ne_self _), ⟨⟨_, he⟩, hit⟩, fun b hb => ?_, q⟩
  have hle : s1.heap.objs.size ≤ b := by
    simp at hb
    rcases hb with rfl | rfl <;> omega
  exact I1.fpOk hle (I1.hok.fresh hle)
theorem pi_zip {a b : Expr} {ta : TA} {p pos : Pos} (hg : Gl X "zip") (hm : X.mg "zip" = none) (ha : PA X [a, b] ta) (hs : starEach [a, b] X.env = [(false, eval a X.env), (false, eval b X.env)] := by rfl) (hs2 : starEach [b] X.env = [(false, eval b X.env)] := by rfl) :
    PI X (.Tuple elts k tpos) (.Call (.Name "zip" p) [a, b] [] pos) (iZip X.K ta) := by
  intro pins s σ H R I h
  refine Call_ (ld_blt I hg hm boot_zip (PyProof.Rows.callWith_type1 (thn (ha pos pins s σ H _ I h) fun us s1 ⟨vs, H1, I1, r1, q1⟩ => ?_) (by rw [hs, hs2]) (by rw [hs2]; rfl)))
  obtain ⟨l1, l2, rfl, ⟨xs, hq⟩, ⟨ys, hq2⟩, q⟩ := q1
  obtain ⟨u, v, rfl, ru, rv'⟩ := vals2 r1
  cases ru
  cases rv'
  obtain ⟨its, rv, pl, hz⟩ := I1.list hq
  obtain ⟨its2, rv2, pl2, hz2⟩ := I1.list hq2
  refine call_zip_2 pl.isList pl2.isList fun h1 hz1 hTI hTO hi1 hi2 hsz hk => ?_
  have I2 : Inv X pins σ H1 { s1 with heap := h1 } := I1.kept (t' := s1.toks) hk
  refine wpAny_pyIter_zip hz1 ⟨s1.heap.objs.size + 4, [s1.heap.objs.size + 4, s1.heap.objs.size + 2, s1.heap.objs.size + 3, s1.heap.objs.size, s1.heap.objs.size + 1], _, _, H1, rfl, I2,
    turn_zip l1 l2 (s1.heap.objs.size + 4) (s1.heap.objs.size + 2) (s1.heap.objs.size + 3) s1.heap.objs.size (s1.heap.objs.size + 1) (za_new _), ⟨hz1, hTI, ⟨_, _, hTO⟩, hi1, hi2⟩, fun c hb => ?_, q⟩
  have hle : s1.heap.objs.size ≤ c := by
    simp at hb
    rcases hb with rfl | rfl | rfl | rfl | rfl <;> omega
  exact I1.fpOk hle (I1.hok.fresh hle)
end

/-! ### list comprehensions -/
section
variable {prog : Program} {w : World} {A : Around} {R : Result → Shared → Prop} {s : Shared}
theorem compLoop_gen {elt target iter : Expr} {scope : Scope} {pos : Pos} {it acc : Value} {env : Env} (I : Nat → Shared → Prop)
    (turn : ∀ n s, I n s → wpAny (model prog w) A (pyNext it) (fun r s₁ => match r with
      | none => R (.ok .next) s₁
      | some v => wpAny (model prog w) A (letOwnedTupleGo target it v) (fun _ s₀ => wpAny (model prog w) A (assign target env v) (fun _ s₂ => wpAny (model prog w) A (eval elt env) (fun x s₃ =>
          wpAny (model prog w) A (call (.builtin "list.append") [acc, x]) (fun _ s₄ => ∃ m, m < n ∧ I m s₄) (notedBy (model prog w) A env fun e s' => R (.error e) s') s₃)
          (notedBy (model prog w) A env fun e s' => R (.error e) s') s₂) (notedBy (model prog w) A env fun e s' => R (.error e) s') s₀) (notedBy (model prog w) A env fun e s' => R (.error e) s') s₁) (notedBy (model prog w) A env fun e s' => R (.error e) s') s)
    (n : Nat) (h : I n s) :
    codeAny (model prog w) A (.compLoop (.ListComp elt [⟨target, iter, [], 0⟩] scope pos) 0 it acc env) R s := by
  refine codeAny_loop rfl I (fun n s hI => ?_) n h
  show wpAny _ _ ((compTurn (.ListComp elt [⟨target, iter, [], 0⟩] scope pos) 0 it acc env).onRaise (fun x => do noteFrame x env; theTreesLotGoes x)) _ _ s
  refine wpAny_noted ?_
  rw [compTurn_list1]
  refine wpAny_bind (wpAny_standAt (wpAny_bind (wpAny_mono (turn n s hI) (fun r s₁ h₁ => ?_) fun _ _ h' => h')))
  cases r with
  | none => exact wpAny_pure h₁
  | some v =>
    exact wpAny_bind (wpAny_mono h₁ (fun _ s₀ h₀ => wpAny_bind (wpAny_mono h₀ (fun _ s₂ h₂ => wpAny_bind (wpAny_bind (wpAny_mono h₂ (fun x s₃ h₃ => wpAny_bind (wpAny_mono h₃
      (fun _ s₄ h₄ => wpAny_pure (wpAny_pure ⟨rfl, h₄⟩)) fun _ _ h' => h')) fun _ _ h' => h'))) fun _ _ h' => h')) fun _ _ h' => h')
end

/-- the context of a comprehension's block -/
def cxC (X : Cx) (scope : Scope) (cl : List (Str × Addr)) (C : Addr) (N : List Str) (s : Shared) (H : Hp) (fp : List Addr) : Cx where
  prog := X.prog
  w := X.w
  K := X.K
  mg := X.mg
  base := X.base
  A := X.A
  N := N
  s₀ := s
  H₀ := H
  env := compEnvC scope cl C X.env
  outer := X.stack
  stack := X.stack
  ex := fp
  calm := X.calm
  fn := fun _ => false
  pn := X.pn
  xe := fun _ _ => False
/-- the block's names: own ones (none), or the slot of the outer name that they are -/
def frOf (js : List (Option Nat)) (σ : St) : St := js.map fun o => o.bind fun j => (σ[j]?).join
def FrOk (X : Cx) : List Str → List (Option Nat) → Prop
  | [], [] => True
  | _ :: N, none :: js => FrOk X N js
  | x :: N, some j :: js => (X.N[j]? = some x ∧ (X.env.scope.names.lookup x = some .cell ∨ X.env.scope.names.lookup x = some .free)) ∧ FrOk X N js
  | _, _ => False
theorem FrOk.len {X : Cx} : ∀ {N : List Str} {js : List (Option Nat)}, FrOk X N js → js.length = N.length
  | [], [], _ => rfl
  | _ :: N, none :: js, h => by simp [FrOk.len (N := N) (js := js) h]
  | _ :: N, some j :: js, h => by simp [FrOk.len (N := N) (js := js) h.2]
theorem FrOk.at_ {X : Cx} : ∀ {N : List Str} {js : List (Option Nat)} {i : Nat} {x : Str} {j : Nat}, FrOk X N js → N[i]? = some x → js[i]? = some (some j) → X.N[j]? = some x ∧ (X.env.scope.names.lookup x = some .cell ∨ X.env.scope.names.lookup x = some .free)
  | [], [], _, _, _, _, e, _ => by simp at e
  | _ :: N, none :: js, 0, _, _, _, _, e => by simp at e
  | _ :: N, none :: js, i + 1, x, j, h, e1, e2 => FrOk.at_ (N := N) (js := js) (i := i) h (by simpa using e1) (by simpa using e2)
  | _ :: N, some _ :: js, 0, _, _, h, e1, e2 => by simp at e1 e2; subst e1 e2; exact h.1
  | _ :: N, some _ :: js, i + 1, x, j, h, e1, e2 => FrOk.at_ (N := N) (js := js) (i := i) h.2 (by simpa using e1) (by simpa using e2)
/-- what is asked of the block's scope -/
structure CpScope (X : Cx) (scope : Scope) (N : List Str) (js : List (Option Nat)) : Prop where
  kind : scope.kind = .function
  nocell : ∀ y ∈ scope.names, y.2 ≠ .cell
  names : ∀ y ∈ scope.names, y.2 = .local → scope.names.lookup y.1 = some .local
  clos : ∀ y ∈ scope.names, y.2 = .free → X.env.scope.names.lookup y.1 = some .cell ∨ X.env.scope.names.lookup y.1 = some .free
  fr : FrOk X N js
  frk : ∀ (i : Nat) (x : Str) (j : Nat), N[i]? = some x → js[i]? = some (some j) → (relabel scope X.env).names.lookup x = some .cell ∨ (relabel scope X.env).names.lookup x = some .free

theorem closure_of {scope : Scope} {env : Env} (h : ∀ y ∈ scope.names, y.2 = .free → ∃ c, env.cells.lookup y.1 = some c) :
    ∃ cl, closureFor scope env = pure cl ∧ (∀ x c, cl.lookup x = some c → env.cells.lookup x = some c) ∧ ∀ x, (x, NameKind.free) ∈ scope.names → ∃ c, cl.lookup x = some c := by
  have go : ∀ (ns : List (Str × NameKind)) (acc : List (Str × Addr)), (∀ y ∈ ns, y.2 = .free → ∃ c, env.cells.lookup y.1 = some c) → (∀ x c, acc.lookup x = some c → env.cells.lookup x = some c) →
      ∃ cl, (forIn ns acc fun (x : Str × NameKind) (cs : List (Str × Addr)) => (if (x.2 == NameKind.free) = true then (do let c ← cellOf env x.1; pure (ForInStep.yield ((x.1, c) :: cs))) else pure (ForInStep.yield cs) : Sem (ForInStep (List (Str × Addr))))) = pure cl ∧
        (∀ x c, cl.lookup x = some c → env.cells.lookup x = some c) ∧ (∀ x, (x, NameKind.free) ∈ ns → ∃ c, cl.lookup x = some c) ∧ ∀ x c, acc.lookup x = some c → ∃ c', cl.lookup x = some c' := by
    intro ns
    induction ns with
    | nil => intro acc _ ha; exact ⟨acc, by rw [List.forIn_nil], ha, fun x z => by simp at z, fun x c e => ⟨c, e⟩⟩
    | cons y ns ih =>
      intro acc hy ha
      obtain ⟨n, k⟩ := y
      rw [List.forIn_cons]
      by_cases hk : k = .free
      · subst hk
        obtain ⟨c, hc⟩ := hy (n, .free) List.mem_cons_self rfl
        obtain ⟨cl, e, h1, h2, h3⟩ := ih ((n, c) :: acc) (fun y hm => hy y (List.mem_cons_of_mem _ hm)) fun x d e => by
          rw [List.lookup_cons] at e
          split at e
          · rename_i q
            cases e
            rw [show x = n from by simpa using q]
            exact hc
          · exact ha x d e
        refine ⟨cl, ?_, h1, fun x hx => ?_, fun x d e => ?_⟩
        · have e0 : cellOf env n = pure c := by unfold cellOf; rw [hc]
          simp only [beq_self_eq_true, if_true, e0]
          exact e
        · rcases List.mem_cons.mp hx with z | z
          · cases z
            exact h3 n c (by simp [List.lookup_cons])
          · exact h2 x z
        · by_cases hx : x = n
          · subst hx; exact h3 x c (by simp [List.lookup_cons])
          · exact h3 x d (by rw [List.lookup_cons, show (x == n) = false from by simpa using hx]; exact e)
      · have hb : (k == NameKind.free) = false := by simpa using hk
        obtain ⟨cl, e, h1, h2, h3⟩ := ih acc (fun y hm => hy y (List.mem_cons_of_mem _ hm)) ha
        refine ⟨cl, ?_, h1, fun x hx => ?_, h3⟩
        · simp only [hb, Bool.false_eq_true, if_false]
          exact e
        · rcases List.mem_cons.mp hx with z | z
          · cases z; exact absurd rfl hk
          · exact h2 x z
  obtain ⟨cl, e, h1, h2, _⟩ := go scope.names [] h (fun x c e => by simp at e)
  refine ⟨cl, ?_, h1, h2⟩
  unfold closureFor
  simp only
  rw [show (forIn scope.names ([] : List (Str × Addr)) fun (x : Str × NameKind) (r : List (Str × Addr)) => _) = _ from e]
  rfl

theorem relabel_free {scope : Scope} {env : Env} {x : Str} (nocell : ∀ y ∈ scope.names, y.2 ≠ .cell) (h : (relabel scope env).names.lookup x = some .cell ∨ (relabel scope env).names.lookup x = some .free) : (x, NameKind.free) ∈ scope.names := by
  have go : ∀ k, (k = .cell ∨ k = .free) → (relabel scope env).names.lookup x = some k → (x, NameKind.free) ∈ scope.names := by
    intro k hk e
    have hm := PySem.mem_of_lookup e
    obtain ⟨⟨n, k'⟩, hy, q⟩ := List.mem_map.mp (show (x, k) ∈ scope.names.map _ from hm)
    dsimp only at q
    split at q
    · rename_i hc
      have hf : k' = .free := by
        simp only [Bool.and_eq_true, beq_iff_eq] at hc
        exact hc.1.1
      injection q with q1 q2
      subst q1 hf
      exact hy
    · injection q with q1 q2
      subst q1 q2
      rcases hk with rfl | rfl
      · exact absurd rfl (nocell _ hy)
      · exact hy
  rcases h with h | h
  · exact go _ (.inl rfl) h
  · exact go _ (.inr rfl) h

section
variable {X : Cx} {pins : List (Addr × Obj)} {σ : St} {H : Hp} {s : Shared} {scope : Scope} {cl : List (Str × Addr)} {C : Addr} {N : List Str} {js : List (Option Nat)} {fp : List Addr}
theorem cxC_ok (I : Inv X pins σ H s) (S : CpScope X scope N js) (h1 : ∀ x c, cl.lookup x = some c → X.env.cells.lookup x = some c) (h2 : ∀ x, (x, NameKind.free) ∈ scope.names → ∃ c, cl.lookup x = some c)
    (hC : s.heap.objs.size ≤ C) (f : ∀ b ∈ fp, FpOk X pins H b) (lt : ∀ b ∈ fp, b < s.heap.objs.size) : (cxC X scope cl C N s H fp).Ok where
  mod := I.ok.mod
  kind := S.kind
  glob := I.ok.glob
  blt := I.ok.blt
  above := hC
  inj := fun x y c e1 e2 => I.ok.inj x y c (h1 x c e1) (h1 y c e2)
  has := fun x hx => h2 x (relabel_free S.nocell hx)
  cab := fun x c h _ => by cases h
  hd := I.ok.hd
  frames := I.ok.frames
  stk := .inl rfl
  exf := fun b hb => ⟨Nat.ne_of_lt (Nat.lt_of_lt_of_le (lt b hb) hC), fun x c e => (f b hb).2.2.2.2.1 x c (h1 x c e)⟩
  bs := I.bs
  bsz := Nat.le_trans I.ok.bsz I.sz
  noex := fun b o e hb => by
    rcases (f b hb).2.2.2.1 with z | z
    · exact I.ok.noex b o e z
    · exact absurd (Nat.lt_of_lt_of_le (Heap.lt_size e) (Nat.le_trans I.ok.bsz z)) (Nat.lt_irrefl _)
  exfs := fun b hb hbf => by
    rcases List.mem_cons.mp (I.stkSub b hbf) with z | z
    · exact (f b hb).2.1 z
    · exact (f b hb).2.2.1 z
  funs := I.stack
  frf := I.stkFree

theorem cxC_inv {h1 : Heap} {t' : Nat} {m : Str → Option Value} (I : Inv X pins σ H s) (S : CpScope X scope N js) (k1 : ∀ x c, cl.lookup x = some c → X.env.cells.lookup x = some c) (k2 : ∀ x, (x, NameKind.free) ∈ scope.names → ∃ c, cl.lookup x = some c)
    (hC : s.heap.objs.size ≤ C) (f : ∀ b ∈ fp, FpOk X pins H b) (lt : ∀ b ∈ fp, b < s.heap.objs.size) (old : ∀ b o, s.heap.get? b = some o → h1.get? b = some o) (ns : h1.Ns C m) :
    Inv (cxC X scope cl C N s H fp) pins (frOf js σ) H { s with heap := h1, toks := t' } where
  ok := cxC_ok I S k1 k2 hC f lt
  os := rfl
  bare := I.bare
  base := Un.kept old
  loc := by
    refine ⟨m, ns, fun i x v e1 e2 e3 => ?_⟩
    have e1 : N[i]? = some x := e1
    unfold frOf at e2
    rw [List.getElem?_map] at e2
    cases ej : js[i]? with
    | none => rw [ej] at e2; cases e2
    | some o =>
      rw [ej] at e2
      cases o with
      | none => cases e2
      | some j =>
        have e2' : (σ[j]?).join = some v := by simpa using e2
        have e4 : σ[j]? = some (some v) := by
          cases q : σ[j]? with
          | none => rw [q] at e2'; cases e2'
          | some o =>
            rw [q] at e2'
            have : o = some v := by simpa using e2'
            rw [this]
        obtain ⟨hN, hk⟩ := S.fr.at_ e1 ej
        have hk2 := S.frk i x j e1 ej
        obtain ⟨c', hc'⟩ := k2 x (relabel_free S.nocell hk2)
        obtain ⟨m0, hn0, hl0⟩ := I.loc
        obtain ⟨u, ru, l⟩ := hl0 j x v hN e4 (by rcases hk with q | q; exact .inr (.inl q); exact .inr (.inr q))
        refine ⟨u, ru, .inr ⟨hk2, c', hc', ?_⟩⟩
        rcases l with ⟨l1, _⟩ | ⟨_, c, hc, o, ho, hd⟩
        · have l1 : X.env.scope.names.lookup x = some .local := l1
          rcases hk with q | q
          · rw [q] at l1; cases l1
          · rw [q] at l1; cases l1
        · rw [k1 x c' hc'] at hc
          cases hc
          exact ⟨o, old _ _ ho, hd⟩
  cell := fun x c e => by
    obtain ⟨v, o, ho, hd⟩ := I.cell x c (k1 x c e)
    exact ⟨v, o, old _ _ ho, hd⟩
  free := I.hok.fresh hC
  freeC := fun x c e => I.freeC x c (k1 x c e)
  pin := fun p hp => by
    obtain ⟨e, n, ne, nf, d⟩ := I.pin p hp
    refine ⟨old _ _ e, n, Nat.ne_of_lt (Nat.lt_of_lt_of_le (Heap.lt_size e) hC), fun z => ?_, d⟩
    rcases List.mem_cons.mp (I.stkSub p.1 z) with q | q
    · exact ne q
    · exact nf q
  hok := I.hok.kept old
  len := by
    show (js.map _).length = N.length
    rw [List.length_map]
    exact S.fr.len

/-- [elt for target in iter], by the turns' word W (turn, measure, the items so far, the block's names, heap) -/
def CW (J : It) (g : TG) (te : TE) (p : Addr) (τ0 : St) (H1 : Hp) (Q : VK) : Prop :=
  ∃ W : Nat → Nat → List V → St → Hp → Prop, (∃ m, W 0 m [] τ0 (upd H1 p (.lst []))) ∧ ∀ i m ys τ H2, W i m ys τ H2 →
    (J.stop i H2 ∧ Q (.ref p) H2) ∨ (J.go i H2 ∧ ∀ x H3, J.yld i H2 x H3 → g x τ H3 fun τ4 H4 => te τ4 H4 fun y H5 => H5 p = some (.lst ys) ∧ ys.length < sizeLine ∧ ∃ m', m' < m ∧ W (i + 1) m' (ys ++ [y]) τ4 (upd H5 p (.lst (ys ++ [y]))))
def tComp (js : List (Option Nat)) (wi : TI) (g : TG) (te : TE) : TE := fun σ H Q => wi σ H fun J H1 => ∀ p, H1 p = none → CW J g te p (frOf js σ) H1 Q

theorem comp_core {elt target iter : Expr} {pos pos' : Pos} {wi : TI} {g : TG} {te : TE} (hc : X.calm = true) (S : CpScope X scope N js) (hi : PI X target iter wi)
    (hg : ∀ cl C s H fp, PG (cxC X scope cl C N s H fp) target g) (he : ∀ cl C s H fp, PE (cxC X scope cl C N s H fp) elt te) (hs : ∀ x, foldedSetIterable iter X.env x = pure x)
    {use : Option (Value → Sem Unit)} {QQ : Value → Shared → Prop} {Q : VK} (I : Inv X pins σ H s) (h : tComp js wi g te σ H Q)
    (hfin : ∀ (p C : Addr) (H' : Hp) (s' : Shared) (m : Str → Option Value), Inv X pins σ H' s' → Q (.ref p) H' → FpOk X pins H' C → s'.heap.Ns C m → compPost (model X.prog X.w) X.A X.xe use QQ (.ref p) C (.ok .next) s') :
    wpAny (model X.prog X.w) X.A (comprehension (.ListComp elt [⟨target, iter, [], 0⟩] scope pos) scope X.env pos' (newList []) false (eval iter X.env) use) QQ X.xe s := by
  obtain ⟨cl, hclos, k1, k2⟩ := closure_of (scope := scope) (env := X.env) (fun y hy hk => I.ok.has y.1 (S.clos y hy hk))
  refine wpAny_comprehension_free (use := use) rfl hs hclos S.kind S.names (thn (hi pins s σ H _ I h) fun v s1 h1 => thn h1 fun itv s2 h2 => ?_)
  obtain ⟨it, fp, tn, J, H2, e, I2, T, st2, f2, q⟩ := h2
  subst e
  obtain ⟨W, ⟨m0, w0⟩, turn⟩ := q s2.heap.objs.size I2.fresh
  have ltf : ∀ b ∈ fp, b < s2.heap.objs.size := fun b hb => by
    obtain ⟨o, ho, _⟩ := T.obj _ _ st2 b hb
    exact Heap.lt_size ho
  refine wpAny_newObj_type (wpAny_newFunctionEnv S.nocell (by intro y hy; simp at hy) (fun h1 hns1 hsb1 => ?_) S.kind)
  dsimp only at hns1 hsb1 ⊢
  have I3 : Inv X pins σ (upd H2 s2.heap.objs.size (.lst [])) { s2 with heap := s2.heap.push { cls := .type "list", data := .seq ([] : List Value).toArray }, toks := s2.toks } := I2.lnew (t' := s2.toks) .nil (by show 0 ≤ sizeLine; exact Nat.zero_le _)
  generalize hh3 : s2.heap.push { cls := .type "list", dict := none, data := .seq ([] : List Value).toArray } = h3 at I3 hns1 hsb1 ⊢
  generalize hH3 : upd H2 s2.heap.objs.size (.lst []) = H3 at I3 w0
  have hz3 : h3.objs.size = s2.heap.objs.size + 1 := by rw [← hh3, Heap.size_push]
  have up3 : ∀ b o, s2.heap.get? b = some o → h3.get? b = some o := fun b o e => by rw [← hh3]; exact Heap.get?_push_of_some _ e
  have f3 : ∀ b ∈ fp, FpOk X pins H3 b := fun b hb => ⟨by rw [← hH3, upd_ne (Nat.ne_of_lt (ltf b hb))]; exact (f2 b hb).1, (f2 b hb).2⟩
  have lt3 : ∀ b ∈ fp, b < h3.objs.size := fun b hb => by rw [hz3]; exact Nat.lt_succ_of_lt (ltf b hb)
  have old : ∀ b o, h3.get? b = some o → h1.get? b = some o := fun b o e => hsb1.extBut b o (Nat.ne_of_lt (Heap.lt_size e)) (Heap.get?_push_of_some _ e)
  have I4 := cxC_inv (t' := s2.toks + ([] : List (Str × Value)).length) (C := h3.objs.size) (fp := fp) I3 S k1 k2 (Nat.le_refl _) f3 lt3 old hns1
  have st4 : tn 0 h1 := T.keep _ _ _ st2 fun b _ o e => old b o (up3 b o e)
  have stat : ∀ {H' : Hp}, (∀ b ∈ fp, H' b = none) → ∀ b ∈ fp, FpOk (cxC X scope cl h3.objs.size N { s2 with heap := h3, toks := s2.toks } H3 fp) pins H' b := fun {H'} hn b hb => by
    obtain ⟨g0, g1, g2, g3, g4, g5⟩ := f3 b hb
    refine ⟨hn b hb, Nat.ne_of_lt (lt3 b hb), fun z => ?_, .inl hb, fun x c e => g4 x c (k1 x c e), g5⟩
    rcases List.mem_cons.mp (I3.stkSub b z) with q | q
    · exact g1 q
    · exact g2 q
  have loop : codeAny (model X.prog X.w) X.A (.compLoop (.ListComp elt [⟨target, iter, [], 0⟩] scope pos) 0 (.ref it) (.ref s2.heap.objs.size) (compEnvC scope cl h3.objs.size X.env))
      (compPost (model X.prog X.w) X.A X.xe use QQ (.ref s2.heap.objs.size) h3.objs.size) { s2 with heap := h1, toks := s2.toks + ([] : List (Str × Value)).length } := by
    refine compLoop_gen (fun n s' => ∃ i ys τ H', Inv (cxC X scope cl h3.objs.size N { s2 with heap := h3, toks := s2.toks } H3 fp) pins τ H' s' ∧ tn i s'.heap ∧ (∀ b ∈ fp, H' b = none) ∧ W i n ys τ H') ?_ m0
      ⟨0, [], _, H3, I4, st4, fun b hb => (f3 b hb).1, w0⟩
    rintro n s5 ⟨i, ys, τ, H5, I5, st5, fr5, w5⟩
    rcases turn i n ys τ H5 w5 with ⟨stop, qn⟩ | ⟨go, step⟩
    · refine wpAny_mono (T.done (cxC X scope cl h3.objs.size N { s2 with heap := h3, toks := s2.toks } H3 fp) rfl rfl rfl hc i pins s5 τ H5 _ I5 (stat fr5) st5 stop) (fun r s6 h6 => ?_) fun _ _ z => z
      obtain ⟨hr, I6⟩ := h6
      subst hr
      obtain ⟨m6, hn6, _⟩ := I6.loc
      refine hfin s2.heap.objs.size h3.objs.size H5 s6 m6 (I3.call' (ch := fp) I6.os I6.base I6.hok I6.bare fun b hb => ?_) qn (I3.fpOk (Nat.le_refl _) I6.free) hn6
      obtain ⟨g0, g1, g2, g3, g4, g5⟩ := f3 b hb
      exact ⟨g3, g1, g4, g5⟩
    · refine wpAny_mono (T.item (cxC X scope cl h3.objs.size N { s2 with heap := h3, toks := s2.toks } H3 fp) rfl rfl rfl hc i pins s5 τ H5 _ I5 (stat fr5) st5 go) (fun r s6 h6 => ?_) fun _ _ z => z
      obtain ⟨u, hr, h6⟩ := h6
      subst hr
      refine wpAny_mono h6 (fun _ s7 h7 => ?_) fun _ _ z => z
      obtain ⟨x, H7, I7, rx, y7, st7, fr7⟩ := h7
      have I7' := I7.pinned (stat fr7) (T.obj _ _ st7)
      refine wpAny_mono (hg cl h3.objs.size _ H3 fp _ s7 τ H7 x u _ I7' rx (step x H7 y7)) (fun _ s8 h8 => ?_) fun _ _ z => False.elim z
      obtain ⟨τ8, H8, I8, q8⟩ := h8
      refine wpAny_mono (he cl h3.objs.size _ H3 fp _ s8 τ8 H8 _ I8 q8) (fun y' s9 h9 => ?_) fun _ _ z => False.elim z
      obtain ⟨y, H9, I9, ry, e9, l9, m', hm, w9⟩ := h9
      refine wpAny_mono (mt_append (X := cxC X scope cl h3.objs.size N { s2 with heap := h3, toks := s2.toks } H3 fp) _ s9 τ8 H9 (.ref s2.heap.objs.size) [y] (.ref s2.heap.objs.size) [y']
        (fun _ H10 => H10 = upd H9 s2.heap.objs.size (.lst (ys ++ [y]))) I9 rfl (.cons ry .nil) ⟨_, ys, y, rfl, rfl, e9, l9, rfl⟩) (fun _ s10 h10 => ?_) fun _ _ z => False.elim z
      obtain ⟨_, H10, I10, _, e10⟩ := h10
      subst e10
      refine ⟨m', hm, i + 1, ys ++ [y], τ8, _, I10.unpinned, T.keep _ _ _ st7 fun b hb o e => (I10.pin (b, o) (List.mem_append_right _ (List.mem_append_right _ (mem_pinsAt hb e)))).1, fun b hb => ?_, w9⟩
      obtain ⟨o, e, d⟩ := T.obj _ _ st7 b hb
      exact (I10.pin (b, o) (List.mem_append_right _ (List.mem_append_right _ (mem_pinsAt hb e)))).2.1
  exact codeAny_compStart_list loop (T.self X.A 0 _ _ _ st4 loop)

theorem pe_lcomp {elt target iter : Expr} {pos : Pos} {wi : TI} {g : TG} {te : TE} (hc : X.calm = true) (S : CpScope X scope N js) (hi : PI X target iter wi)
    (hg : ∀ cl C s H fp, PG (cxC X scope cl C N s H fp) target g) (he : ∀ cl C s H fp, PE (cxC X scope cl C N s H fp) elt te) (hs : ∀ x, foldedSetIterable iter X.env x = pure x := by intro _; rfl) :
    PE X (.ListComp elt [⟨target, iter, [], 0⟩] scope pos) (tComp js wi g te) := by
  intro pins s σ H Q I h
  rw [eval_ListComp]
  refine comp_core (use := none) hc S hi hg he hs I h fun p C H' s' m I' q f hn => ⟨m, hn, fun h' hs' => ⟨.ref p, H', ?_, rfl, q⟩⟩
  obtain ⟨f0, f1, f2, f3, f4, f5⟩ := f
  exact I'.turned (t' := s'.toks) (fun b o hb e => (hs'.2 b hb).trans e) f0 f1 f3 f4 f5
/-- x = [..] where the row's store comes ahead of the block's end -/
theorem ps_setC {i : Nat} {y : Str} {py : Pos} {elt target iter : Expr} {pos spos : Pos} {wi : TI} {g : TG} {te : TE} (hN : X.N.Nodup) (hiN : X.N[i]? = some y) (hx : Loc X.env.scope y) (hc : X.calm = true) (S : CpScope X scope N js) (hi : PI X target iter wi)
    (hg : ∀ cl C s H fp, PG (cxC X scope cl C N s H fp) target g) (he : ∀ cl C s H fp, PE (cxC X scope cl C N s H fp) elt te)
    (hsw : swapsWith (.ListComp elt [⟨target, iter, [], 0⟩] scope pos) (some (.Name y py)) spos.line X.env = pure true := by rfl)
    (hs : ∀ x, foldedSetIterable iter X.env x = pure x := by intro _; rfl) (hf : X.fn y = true ∨ X.env.scope.names.lookup y = some .local := by first | exact .inl rfl | exact .inr rfl | assumption) :
    PS X (.Assign [.Name y py] (.ListComp elt [⟨target, iter, [], 0⟩] scope pos) spos) (tAsg (tComp js wi g te) (gName i)) := by
  intro pins s σ H D I h
  rw [exec_Assign_Name_used _ _ _ _ hsw]
  refine wpAny_bind (wpAny_standAt (wpAny_bind ?_))
  show wpAny _ X.A (do let _ ← comprehension (.ListComp elt [⟨target, iter, [], 0⟩] scope pos) scope X.env _ (newList []) false (eval iter X.env) (some (assign (.Name y py) X.env))) _ _ s
  refine wpAny_bind (wpAny_mono (comp_core (use := some (assign (.Name y py) X.env)) (QQ := fun _ s' => SP X pins D .next s') hc S hi hg he hs I h ?_) (fun _ s' hq => wpAny_pure (wpAny_pure hq)) fun _ _ e => e)
  intro p C H' s' m I' q f hn
  obtain ⟨f0, f1, f2, f3, f4, f5⟩ := f
  show wpAny _ X.A (assign (.Name y py) X.env (.ref p)) _ _ _
  refine wpAny_assign_Name (store_ok2 I' hN hiN hx (v := .ref p) rfl (fun s'' I'' ⟨a, sb, ha⟩ => ⟨m, hn.sameBut sb ?_, fun h' hs' => ⟨_, H', ?_, q⟩⟩) hf)
  · rintro rfl
    rcases ha with z | z
    · exact f1 z
    · exact f4 _ _ z rfl
  · exact I''.turned (t' := s''.toks) (fun b o hb e => (hs'.2 b hb).trans e) f0 f1 f3 f4 f5
end
end L2

set_option Elab.async false
set_option linter.all false
set_option maxRecDepth 100000
set_option maxHeartbeats 4000000
/-! MORE CALLS over the layer: all, sum, sorted, set, len of a set, range, list(range), ==, index, isinstance -/
namespace L2
open PySem PySem.Spec PyProof.Rows
section
variable {X : Cx}

theorem Vals.bools : ∀ {bs : List Bool} {us : List Value} {i : Nat} {v : Value}, Vals (bs.map V.bl) us → us[i]? = some v → ∃ b, bs[i]? = some b ∧ v = .bool b
  | [], _, _, _, .nil, e => by simp at e
  | b :: bs, _, 0, v, .cons r _, e => by
    have e' : _ = v := Option.some.inj e
    exact ⟨b, rfl, by rw [← e']; exact r⟩
  | _ :: bs, _, i + 1, v, .cons _ t, e => Vals.bools (bs := bs) (i := i) t (by simpa using e)
theorem all_range (bs : List Bool) : (List.range bs.length).all (fun i => bs.getD i true) = bs.all id := by
  rw [Bool.eq_iff_iff]
  simp only [List.all_eq_true, List.mem_range, id]
  constructor
  · intro h b hb
    obtain ⟨i, hi, e⟩ := List.mem_iff_getElem.mp hb
    have := h i hi
    rw [List.getD_eq_getElem?_getD, List.getElem?_eq_getElem hi] at this
    rw [← e]; exact this
  · intro h i hi
    rw [List.getD_eq_getElem?_getD, List.getElem?_eq_getElem hi]
    exact h _ (List.getElem_mem hi)
/-- all of a list of bools -/
theorem call_all_bools (hc : X.calm = true) : CallR X (.builtin "all") (fun xs H Q => ∃ (p : Addr) (bs : List Bool), xs = [.ref p] ∧ SqL X.K H p (bs.map V.bl) ∧ Q (.bl (bs.all id)) H) := by
  intro pins s σ H xs us Q I r h
  obtain ⟨p, bs, rfl, hq, q⟩ := h
  obtain ⟨u, rfl, ru⟩ := vals1 r
  cases ru
  obtain ⟨its, rv, pl, hz⟩ := I.list hq
  have hlen : its.length = bs.length := by have := rv.length; simpa using this.symm
  have hp : p < s.heap.objs.size := by obtain ⟨o, n, e, _⟩ := pl; exact Heap.lt_size e
  refine call_all_walk (wpAny_pyIter_list pl.isList ?_)
  refine ⟨s.heap.objs.size, _, _, _, _, _, fun i => bs.getD i true, rfl, Walks.list (A := X.A.in1) (I.ok.hd hc) _ p (Nat.ne_of_lt hp) its.toArray, ⟨⟨_, Heap.get?_push_size _ rfl, rfl, rfl⟩, pl.isList.push _⟩, ?_, fun h' tk hk => ?_⟩
  · intro i v s' Q' E' hP hQ'
    have hi : its[i]? = some v := by simpa using hP
    obtain ⟨b, hb, e⟩ := rv.bools hi
    subst e
    refine wpAny_truthy_bool ?_
    have hQ2 : Q' (bs.getD i true) s' := hQ'
    rw [List.getD_eq_getElem?_getD, hb] at hQ2
    exact hQ2
  · have I1 : Inv X pins σ H { s with heap := h', toks := tk } := I.kept fun b o e => hk b o (by simp; exact Nat.ne_of_lt (Heap.lt_size e)) (Heap.get?_push_of_some _ e)
    refine ⟨.bl (bs.all id), H, I1, ?_, q⟩
    show Value.bool _ = _
    rw [List.size_toArray, hlen, all_range]
/-- sum of a list of ints -/
theorem call_sum_ints (hc : X.calm = true) : CallR X (.builtin "sum") (fun xs H Q => ∃ (p : Addr) (ns : List Int), xs = [.ref p] ∧ SqL X.K H p (ns.map V.int) ∧ Q (.int ns.sum) H) := by
  intro pins s σ H xs us Q I r h
  obtain ⟨p, ns, rfl, hq, q⟩ := h
  obtain ⟨u, rfl, ru⟩ := vals1 r
  cases ru
  obtain ⟨its, rv, pl, hz⟩ := I.list hq
  have hi : IntsAre its ns := intsAre_of rv
  obtain ⟨xs, e⟩ := hi.allInts.items
  refine sum_intListG (xs := xs) (I.ok.hd hc) (by rw [← e]; exact pl.isList) fun h' tk t' hk => ?_
  have e2 : preSum (numAt xs) xs.size = ns.sum := by
    rw [preSum_eq, List.take_of_length_le (by simp), ← nums_intItems, ← e]
    show (numsOf its).sum = _
    rw [hi.numsOf]
  rw [e2]
  exact ⟨.int ns.sum, H, I.kept hk, ⟨_, rfl⟩, q⟩
/-- sorted of a list of ints, below 64 of them -/
theorem call_sorted_ints : CallR X (.builtin "sorted") (fun xs H Q => ∃ (p : Addr) (ns : List Int), xs = [.ref p] ∧ SqL X.K H p (ns.map V.int) ∧ ns.length < 64 ∧ ∀ (l : Addr) (ms : List Int), H l = none → ms.Perm ns → ms.Pairwise (· ≤ ·) → Q (.ref l) (upd H l (.lst (ms.map V.int)))) := by
  intro pins s σ H xs us Q I r h
  obtain ⟨p, ns, rfl, hq, hl, q⟩ := h
  obtain ⟨u, rfl, ru⟩ := vals1 r
  cases ru
  obtain ⟨its, rv, pl, hz⟩ := I.list hq
  have hi : IntsAre its ns := intsAre_of rv
  have hlen : its.length = ns.length := by have := rv.length; simpa using this.symm
  refine sorted_ints pl.isList hi (by omega) fun out ms h1 h2 h3 => ?_
  obtain ⟨e, he⟩ := sortedAll_at s.heap its out
  have hn : H (s.heap.objs.size + 1) = none := I.hok.fresh (Nat.le_succ _)
  have hv : Vals (ms.map V.int) out.toList := vals_ints h1
  have hlo : (ms.map V.int).length ≤ sizeLine := by
    rw [List.length_map, h2.length_eq]
    exact Nat.le_of_lt (Nat.lt_trans hl (by decide))
  refine ⟨.ref (s.heap.objs.size + 1), _, I.laid (o := .lst (ms.map V.int)) (t' := s.toks) (h' := sortedAll s.heap its out) (fun b o q => sortedAll_old q) (Nat.le_succ _) ⟨hlo, out.toList, e, hv, by simpa [seqObj] using he⟩, rfl, q _ ms hn h2 h3⟩
/-- set of a list of ints -/
theorem call_set_ints (hc : X.calm = true) : CallR X (.type "set") (fun xs H Q => ∃ (p : Addr) (ns : List Int), xs = [.ref p] ∧ SqL X.K H p (ns.map V.int) ∧ ns.length ≤ 1000 ∧
    ∀ l, H l = none → Q (.ref l) (upd H l (.set (fun k => (firstMet (fun i => ns.getD i 0) ns.length).any (· == k)) (firstMet (fun i => ns.getD i 0) ns.length).length))) := by
  intro pins s σ H xs us Q I r h
  obtain ⟨p, ns, rfl, hq, hl, q⟩ := h
  obtain ⟨u, rfl, ru⟩ := vals1 r
  cases ru
  obtain ⟨its, rv, pl, hz⟩ := I.list hq
  have hi : IntsAre its ns := intsAre_of rv
  have hlen : its.length = ns.length := by have := rv.length; simpa using this.symm
  refine call_set_list (items := its.toArray) (ns := ns) (I.ok.hd hc) pl.isList (by simpa using hi) (by rw [List.size_toArray, hlen]; exact Nat.lt_of_le_of_lt (Nat.succ_le_succ hl) (by decide)) fun h' tk hS hk => ?_
  have ez : its.toArray.size = ns.length := by rw [List.size_toArray, hlen]
  rw [ez] at hS
  exact ⟨.ref s.heap.objs.size, _, I.laid (o := .set _ _) (t' := tk) (fun b o e => hk b o (Heap.lt_size e) e) (Nat.le_refl _) hS, rfl, q _ I.fresh⟩
/-- len of a set -/
theorem call_len_setI : CallR X (.builtin "len") (fun xs H Q => ∃ (p : Addr) (S : Int → Bool) (n : Nat), xs = [.ref p] ∧ H p = some (.set S n) ∧ Q (.int n) H) := by
  intro pins s σ H xs us Q I r h
  obtain ⟨p, S, n, rfl, hp, q⟩ := h
  obtain ⟨u, rfl, ru⟩ := vals1 r
  cases ru
  obtain ⟨o, es, ep, t, ho, hex, hd, _, _, hb, hf, hn⟩ := (show s.heap.SetOf (intKind X.prog X.w) p S n from I.hok p _ hp)
  refine call_len_set ho hex hd hf (Int.lt_of_lt_of_le (show (es.size : Int) < 4096 from by unfold scanBound at hb; omega) (by decide)) ?_
  rw [hn]
  exact ⟨.int n, H, I.tok _, ⟨_, rfl⟩, q⟩
/-- range(n) as a value -/
theorem call_range1 : CallR X (.type "range") (fun xs H Q => ∃ j : Int, xs = [.int j] ∧ ∀ r, H r = none → Q (.ref r) (upd H r (.rng 0 j))) := by
  intro pins s σ H xs us Q I r h
  obtain ⟨j, rfl, q⟩ := h
  obtain ⟨u, rfl, ru⟩ := vals1 r
  obtain ⟨t, rfl⟩ := ru
  refine call_range_1 ⟨.ref s.heap.objs.size, _, I.laid (o := .rng 0 j) (fun b o e => Heap.get?_push_of_some _ e) (Nat.le_refl _) ⟨_, _, _, Heap.get?_push_size _ rfl⟩, rfl, q _ I.fresh⟩
theorem vals_range {acc : Array Value} {n : Nat} (h : ItemsOf (fun i v => ∃ t, v = Value.int ((0 : Int) + (i : Nat) * 1) t) acc n) : Vals ((List.range n).map fun (i : Nat) => V.int (i : Int)) acc.toList := by
  obtain ⟨hz, hI⟩ := h
  have go : ∀ (m : Nat) (us : List Value) (k : Nat), us.length = m → (∀ j v, us[j]? = some v → ∃ t, v = Value.int ((k + j : Nat) : Int) t) → Vals ((List.range' k m).map fun (i : Nat) => V.int (i : Int)) us := by
    intro m
    induction m with
    | zero => intro us k hu _; rw [List.length_eq_zero_iff.mp hu]; exact .nil
    | succ m ih =>
      intro us k hu h
      cases us with
      | nil => simp at hu
      | cons u us =>
        rw [List.range'_succ]
        refine .cons ?_ (ih us (k + 1) (by simpa using hu) fun j v e => ?_)
        · obtain ⟨t, e⟩ := h 0 u rfl
          exact ⟨t, by simpa using e⟩
        · obtain ⟨t, e⟩ := h (j + 1) v (by simpa using e)
          exact ⟨t, by rw [e]; congr 1; omega⟩
  rw [List.range_eq_range']
  refine go n acc.toList 0 (by simpa using hz) fun j v e => ?_
  obtain ⟨t, q⟩ := hI j v (by simpa using e)
  exact ⟨t, by rw [q]; congr 1; omega⟩
/-- list(range(n)) -/
theorem call_list_rng (hc : X.calm = true) : CallR X (.type "list") (fun xs H Q => ∃ (p : Addr) (n : Nat), xs = [.ref p] ∧ H p = some (.rng 0 n) ∧ n ≤ 1000 ∧ ∀ l, H l = none → Q (.ref l) (upd H l (.lst ((List.range n).map fun (i : Nat) => V.int (i : Int))))) := by
  intro pins s σ H xs us Q I r h
  obtain ⟨p, n, rfl, hp, hn, q⟩ := h
  obtain ⟨u, rfl, ru⟩ := vals1 r
  cases ru
  obtain ⟨t, u, v, e⟩ := (show ∃ t u v, s.heap.get? p = some { cls := .type "range", data := .fields #[.int 0 t, .int (n : Int) u, .int 1 v] } from I.hok p _ hp)
  refine call_list_range (n := n) (I.ok.hd hc) e (small_one (by decide) (by decide) (by omega) (by omega)) (by rw [rangeSize_one]; split <;> omega) (Nat.le_trans hn (by decide)) fun h' tk acc c hk ha hI => ?_
  refine ⟨.ref s.heap.objs.size, _, I.laid (o := .lst _) (t' := tk) hk (Nat.le_refl _) ⟨?_, acc.toList, c, vals_range hI, by simpa using ha⟩, rfl, q _ I.fresh⟩
  rw [List.length_map, List.length_range]
  exact Nat.le_trans hn (by decide)

/-! ### == of data -/
/-- what the value reads as -/
def RdD (X : Cx) (H : Hp) (x : V) (d : PyData) : Prop := ∀ (pins : List (Addr × Obj)) (σ : St) (s : Shared) (u : Value), Inv X pins σ H s → RelV x u → ∃ as, Reads s.heap u d as
theorem rd_int {H : Hp} {i : Int} : RdD X H (.int i) (.int i) := fun _ _ _ u _ r => by
  obtain ⟨t, rfl⟩ := r
  exact ⟨_, .int i t⟩
theorem readsAll_of {pins : List (Addr × Obj)} {σ : St} {H : Hp} {s : Shared} (I : Inv X pins σ H s) : ∀ {xs : List V} {us : List Value} {ds : List PyData}, Vals xs us → Paired (RdD X H) xs ds → ∃ as, ReadsAll s.heap us ds as
  | _, _, _, .nil, .nil => ⟨_, .nil⟩
  | _, _, _, .cons r t, .cons q t' => by
    obtain ⟨as, h1⟩ := q pins σ s _ I r
    obtain ⟨bs, h2⟩ := readsAll_of I t t'
    exact ⟨_, .cons h1 h2⟩
theorem rd_list {H : Hp} {a : Addr} {xs : List V} {ds : List PyData} (h : SqL X.K H a xs) (p : Paired (RdD X H) xs ds) : RdD X H (.ref a) (.list ds) := fun pins σ s u I r => by
  cases (show u = .ref a from r)
  obtain ⟨its, rv, ⟨o, n, e, c, _, d⟩, _⟩ := I.list h
  obtain ⟨as, hr⟩ := readsAll_of I rv p
  exact ⟨_, .list e c d (by simpa using hr)⟩
theorem paired_map {α β γ : Type} {F : β → γ → Prop} {f : α → β} {g : α → γ} (h : ∀ a, F (f a) (g a)) : ∀ xs : List α, Paired F (xs.map f) (xs.map g)
  | [] => .nil
  | x :: xs => .cons (h x) (paired_map h xs)
theorem rd_ints {H : Hp} {a : Addr} {ns : List Int} (h : SqL X.K H a (ns.map V.int)) : RdD X H (.ref a) (.list (ns.map .int)) := rd_list h (paired_map (fun _ => rd_int) ns)
/-- a kind of data that == tells apart -/
structure Enc {α : Type} [DecidableEq α] (f : α → PyData) (n : Nat) : Prop where
  eq : ∀ a b, PyData.eqv (f a) (f b) = decide (a = b)
  lay : ∀ a, (f a).canLay0 = true
  dep : ∀ a, (f a).depth ≤ n
theorem enc_int : Enc PyData.int 0 := ⟨fun a b => by
  show (a == b) = _
  by_cases e : a = b
  · subst e; simp
  · simp [e], fun _ => by simp only [PyData.canLay0], fun _ => by simp [PyData.depth]⟩
theorem eqvAll_map {α : Type} [DecidableEq α] {f : α → PyData} (h : ∀ a b, PyData.eqv (f a) (f b) = decide (a = b)) : ∀ xs ys : List α, PyData.eqvAll (xs.map f) (ys.map f) = decide (xs = ys)
  | [], [] => by simp [PyData.eqvAll]
  | [], _ :: _ => by simp [PyData.eqvAll]
  | _ :: _, [] => by simp [PyData.eqvAll]
  | x :: xs, y :: ys => by
    rw [List.map_cons, List.map_cons, PyData.eqvAll, h, eqvAll_map h xs ys]
    by_cases e : x = y
    · by_cases e2 : xs = ys
      · simp [e, e2]
      · simp [e, e2]
    · simp [e]
theorem layAll_map {α : Type} {f : α → PyData} (h : ∀ a, (f a).canLay0 = true) : ∀ xs : List α, PyData.canLayAll0 (xs.map f) = true
  | [] => by simp [PyData.canLayAll0]
  | x :: xs => by rw [List.map_cons, PyData.canLayAll0, h, layAll_map h xs]; rfl
theorem depAll_map {α : Type} {f : α → PyData} {n : Nat} (h : ∀ a, (f a).depth ≤ n) : ∀ xs : List α, PyData.depthAll (xs.map f) ≤ n
  | [] => by simp [PyData.depthAll]
  | x :: xs => by rw [List.map_cons, PyData.depthAll]; exact Nat.max_le.mpr ⟨h x, depAll_map h xs⟩
theorem Enc.list {α : Type} [DecidableEq α] {f : α → PyData} {n : Nat} (e : Enc f n) : Enc (fun xs : List α => PyData.list (xs.map f)) (n + 1) :=
  ⟨fun a b => by rw [PyData.eqv]; exact eqvAll_map e.eq a b, fun a => by rw [PyData.canLay0]; exact layAll_map e.lay a, fun a => by rw [PyData.depth]; exact Nat.succ_le_succ (depAll_map e.dep a)⟩
def rEqE (X : Cx) {α : Type} [DecidableEq α] (f : α → PyData) : R2 := fun x y H Q => ∃ a b : α, RdD X H x (f a) ∧ RdD X H y (f b) ∧ Q (.bl (decide (a = b))) H
def rNeE (X : Cx) {α : Type} [DecidableEq α] (f : α → PyData) : R2 := fun x y H Q => ∃ a b : α, RdD X H x (f a) ∧ RdD X H y (f b) ∧ Q (.bl (!decide (a = b))) H
theorem op_eqE {α : Type} [DecidableEq α] {f : α → PyData} {n : Nat} (e : Enc f n) (hu : X.A.units + 64 < cLine) (hn : n ≤ 64 := by decide) : OpR X (compareOp .Eq) (rEqE X f) := by
  intro pins s σ H x y v u Q I rx ry h
  obtain ⟨a, b, ra, rb, q⟩ := h
  obtain ⟨as, r1⟩ := ra pins σ s v I rx
  obtain ⟨bs, r2⟩ := rb pins σ s u I ry
  refine SeqAt.compareEq_reads r1 r2 (e.lay a) (e.lay b) (Nat.lt_of_le_of_lt (Nat.add_le_add_left (Nat.le_trans (Nat.min_le_left ..) (Nat.le_trans (e.dep a) hn)) _) hu) ?_
  rw [e.eq]
  exact ⟨.bl _, H, I, rfl, q⟩
theorem op_neE {α : Type} [DecidableEq α] {f : α → PyData} {n : Nat} (e : Enc f n) (hu : X.A.units + 64 < cLine) (hn : n ≤ 64 := by decide) : OpR X (compareOp .NotEq) (rNeE X f) := by
  intro pins s σ H x y v u Q I rx ry h
  obtain ⟨a, b, ra, rb, q⟩ := h
  obtain ⟨as, r1⟩ := ra pins σ s v I rx
  obtain ⟨bs, r2⟩ := rb pins σ s u I ry
  refine SeqAt.compareNe_reads r1 r2 (e.lay a) (e.lay b) (Nat.lt_of_le_of_lt (Nat.add_le_add_left (Nat.le_trans (Nat.min_le_left ..) (Nat.le_trans (e.dep a) hn)) _) hu) ?_
  rw [e.eq]
  exact ⟨.bl _, H, I, rfl, q⟩
/-! ### isinstance against a built-in type -/
theorem call_isi {T : String} : CallR X (.builtin "isinstance") (fun xs H Q => ∃ x t b, xs = [x, .ty T] ∧ TyOf X.K H x t ∧ PySem.W.kitOne X.K t (.type T) = some b ∧ Q (.bl b) H) := by
  intro pins s σ H xs us Q I r h
  obtain ⟨x, t, b, rfl, ty, e, q⟩ := h
  obtain ⟨u, v, rfl, ru, rv⟩ := vals2 r
  cases (show v = .type T from rv)
  exact isinst_ok I ru ty e fun tk => ⟨.bl b, H, I.tok tk, rfl, q⟩
/-! ### xs.index(n) of ints -/
def rIndex : V → List V → Hp → VK → Prop := fun x vs H Q => ∃ (l : Addr) (ns : List Int) (n : Int), x = .ref l ∧ vs = [.int n] ∧ H l = some (.lst (ns.map V.int)) ∧ n ∈ ns ∧ Q (.int (ns.idxOf n)) H
theorem mt_index : MtM X "list.index" rIndex := by
  intro pins s σ H x vs v us Q I rx rv h
  obtain ⟨l, ns, n, rfl, rfl, hH, hm, q⟩ := h
  cases rx
  obtain ⟨u, rfl, ru⟩ := rv.one
  obtain ⟨t, rfl⟩ := ru
  obtain ⟨z, its, k, r, hl, e⟩ := I.lstM hH
  have hlen : ns.length = its.length := by simpa using hl
  have hj : ns.idxOf n < ns.length := List.idxOf_lt_length_of_mem hm
  have hz : ns.length ≤ sizeLine := by simpa using z
  have at_ : ∀ j (h : j < its.toArray.size), eqU (.int n) its.toArray[j] = (ns[j]'(by simpa [hlen] using h) == n) := fun j h => by
    have hjn : j < ns.length := by simpa [hlen] using h
    obtain ⟨w, ew, rw'⟩ := r.get (i := j) (x := .int ns[j]) (by rw [List.getElem?_map, List.getElem?_eq_getElem hjn]; rfl)
    have : its.toArray[j] = w := by
      have h2 : its[j]? = some w := ew
      obtain ⟨h3, h4⟩ := List.getElem?_eq_some_iff.mp h2
      simpa using h4
    rw [this, eqU_of rw' rfl]
    rfl
  refine call_meets F.slot_list_index ⟨_, e, rfl⟩ F.entry_list_index (F.args_list_index_2 _ _) (SeqAt.list_indexAt l its.toArray k _ _ (.int n t) (eqU (.int n)) (ns.idxOf n) (by simpa [← hlen] using hj) ?_ ?_ ?_) ⟨e, ?_, ?_⟩
  · have h1 := line63
    have : (ns.idxOf n : Int) < (sizeLine : Int) + 1 := by omega
    have h2 : sizeLine + 1 < 2 ^ 63 - 1 := by rw [sizeLine_eq]; decide
    omega
  · rw [at_ _ (by simpa [← hlen] using hj)]
    simp
  · intro m hm' hlt
    rw [at_ m hm']
    have : m < ns.length := by omega
    exact List.not_of_lt_findIdx (p := fun x => x == n) (show m < List.findIdx (fun x => x == n) ns from hlt)
  · intro y hy
    exact mem_eqAt (x := .int n) ⟨t, rfl⟩ rfl r (by simp [flatV]) y (by simpa using hy)
  · exact ⟨.int (ns.idxOf n), H, I.tok _, ⟨_, rfl⟩, q⟩
end
end L2

set_option Elab.async false
set_option linter.all false
set_option maxRecDepth 100000
set_option maxHeartbeats 4000000
/-! SHORT FORMS: scopes of comprehensions by a check, folds over iterators, heaps that grow -/
namespace L2
open PySem PySem.Spec PyProof.Rows

/-! ### no exception -/
def CxNo (CX : CXT) : Prop := ∀ o H s e s', CX o H s E0 e s' → False
theorem cxNo0 : CxNo CX0 := fun _ _ _ _ _ h => h
theorem passN {X : Cx} {CX : CXT} (h : CxNo CX) : Passes CX X E0 := fun _ _ _ _ _ _ _ q => (h _ _ _ _ _ q).elim
section
variable {CX : CXT} {P : Program} {w : World} {K : PySem.W.Frag} {mg : Str → Option Value} {base : Heap}
theorem Fun.okX {x qual : Str} {st : Stmt} {f : Addr} {fd : FuncData} {N ps : List Str} {k : Nat} {sp : Sp} (F : Fun K x qual st f fd) (S : FnScope N ps (defScope st)) (len : ∀ vs H Q E, sp vs H Q E → vs.length = ps.length)
    (hbody : ∀ (cdv : Value) (A : Around) (outer : List Env) (s : Shared) (H : Hp) (vs : List V) (Q : VK) (E : XK), Room k (A.deeper (envOfC qual (defScope st) s.heap.objs.size f cdv)) → sp vs H Q E →
      ∃ t, PSs (cxOf CX P w K mg base N qual (defScope st) f cdv A outer s H E).nox (defBody st) t ∧ t { nx := fun _ H' => Q .non H', rt := Q } (start N vs) H) : FnOk P w K mg base CX (k + 1) f fd ps sp := by
  obtain ⟨oc, od, kV, doc, pm, an, cdv, ct, osl, rfl, lk, hcd⟩ := F.ex
  refine fn_of lk hcd S len fun A outer s H vs Q E hr hsp => ?_
  obtain ⟨t, h, q⟩ := hbody cdv A outer s H vs Q E hr hsp
  exact ⟨t, h.nox, q⟩
end

/-! ### a comprehension's scope, by a check -/
def frCheck (psc : Scope) (pN : List Str) (scope : Scope) : List Str → List (Option Nat) → Bool
  | [], [] => true
  | _ :: N, none :: js => frCheck psc pN scope N js
  | x :: N, some j :: js => (pN[j]? == some x) && (psc.names.lookup x == some .cell || psc.names.lookup x == some .free) && (scope.names.lookup x == some .free) && frCheck psc pN scope N js
  | _, _ => false
def cpCheck (psc : Scope) (pN : List Str) (scope : Scope) (N : List Str) (js : List (Option Nat)) : Bool :=
  (scope.kind == .function) && scope.names.all (fun y => y.2 != .cell) && scope.names.all (fun y => y.2 != .local || scope.names.lookup y.1 == some .local) &&
    scope.names.all (fun y => y.2 != .free || (psc.names.lookup y.1 == some .cell || psc.names.lookup y.1 == some .free)) && frCheck psc pN scope N js
theorem relabel_lookup_free {env : Env} : ∀ {names : List (Str × NameKind)} {x : Str}, names.lookup x = some .free →
    (names.map fun (n, k) => if (k == NameKind.free && env.scope.kind == .function && env.kindOf n == some .cell) then (n, NameKind.cell) else (n, k)).lookup x = some .cell ∨
    (names.map fun (n, k) => if (k == NameKind.free && env.scope.kind == .function && env.kindOf n == some .cell) then (n, NameKind.cell) else (n, k)).lookup x = some .free
  | [], _, h => by simp at h
  | (n, k) :: r, x, h => by
    have ih := @relabel_lookup_free env r x
    rw [List.map_cons]
    dsimp only
    rw [List.lookup_cons] at h
    cases hx : x == n with
    | true =>
      rw [hx] at h
      have hk : k = .free := Option.some.inj h
      subst hk
      split
      · exact .inl (by rw [List.lookup_cons, hx])
      · exact .inr (by rw [List.lookup_cons, hx])
    | false =>
      rw [hx] at h
      split
      · rw [List.lookup_cons, hx]; exact ih h
      · rw [List.lookup_cons, hx]; exact ih h
theorem frCheck_ok {X : Cx} {psc : Scope} {pN : List Str} {scope : Scope} (e1 : X.env.scope = psc) (e2 : X.N = pN) : ∀ {N : List Str} {js : List (Option Nat)}, frCheck psc pN scope N js = true → FrOk X N js
  | [], [], _ => trivial
  | _ :: N, none :: js, h => frCheck_ok (N := N) (js := js) e1 e2 h
  | x :: N, some j :: js, h => by
    unfold frCheck at h
    simp only [Bool.and_eq_true, Bool.or_eq_true, beq_iff_eq] at h
    exact ⟨⟨by rw [e2]; exact h.1.1.1, by rw [e1]; exact h.1.1.2⟩, frCheck_ok e1 e2 h.2⟩
  | [], _ :: _, h => by simp [frCheck] at h
  | _ :: _, [], h => by simp [frCheck] at h
theorem frCheck_k {psc : Scope} {pN : List Str} {scope : Scope} : ∀ {N : List Str} {js : List (Option Nat)} {i : Nat} {x : Str} {j : Nat}, frCheck psc pN scope N js = true → N[i]? = some x → js[i]? = some (some j) → scope.names.lookup x = some .free
  | [], [], _, _, _, _, e, _ => by simp at e
  | _ :: N, none :: js, 0, _, _, _, _, e => by simp at e
  | _ :: N, none :: js, i + 1, x, j, h, e1, e2 => frCheck_k (N := N) (js := js) (i := i) h (by simpa using e1) (by simpa using e2)
  | y :: N, some k :: js, 0, x, j, h, e1, e2 => by
    unfold frCheck at h
    simp only [Bool.and_eq_true, Bool.or_eq_true, beq_iff_eq] at h
    have : y = x := by simpa using e1
    rw [← this]
    exact h.1.2
  | y :: N, some k :: js, i + 1, x, j, h, e1, e2 => by
    unfold frCheck at h
    simp only [Bool.and_eq_true] at h
    exact frCheck_k (N := N) (js := js) (i := i) h.2 (by simpa using e1) (by simpa using e2)
  | [], _ :: _, _, _, _, h, _, _ => by simp [frCheck] at h
  | _ :: _, [], _, _, _, h, _, _ => by simp [frCheck] at h
theorem cpS {X : Cx} {scope : Scope} {N : List Str} {js : List (Option Nat)} (psc : Scope) (pN : List Str) (h : cpCheck psc pN scope N js = true) (e1 : X.env.scope = psc := by rfl) (e2 : X.N = pN := by rfl) : CpScope X scope N js := by
  unfold cpCheck at h
  simp only [Bool.and_eq_true, beq_iff_eq, List.all_eq_true, Bool.or_eq_true, bne_iff_ne, ne_eq] at h
  obtain ⟨⟨⟨⟨h1, h2⟩, h3⟩, h4⟩, h5⟩ := h
  refine ⟨h1, h2, fun y hy hl => ?_, fun y hy hf => ?_, frCheck_ok e1 e2 h5, fun i x j a b => relabel_lookup_free (frCheck_k h5 a b)⟩
  · rcases h3 y hy with z | z
    · exact absurd hl z
    · exact z
  · rw [e1]
    rcases h4 y hy with z | z
    · exact absurd hf z
    · exact z

/-! ### heaps that grow -/
theorem Same.new {H : Hp} {l : Addr} {o : HO} (h : H l = none) : Same H (upd H l o) := fun b u e => by rw [upd_ne (ne_of_none e h)]; exact e
theorem Same.upd {H H1 : Hp} {l : Addr} {o : HO} (s : Same H H1) (h : H l = none) : Same H (L2.upd H1 l o) := fun b u e => by rw [upd_ne (ne_of_none e h)]; exact s b u e
/-- a fold over an iterator: n turns, an item f i each, the heap grows -/
theorem comp_fold {J : It} {g : TG} {te : TE} {p : Addr} {τ0 : St} {H1 Hs : Hp} {Q : VK} (n : Nat) (f : Nat → V) (Iv : St → Prop) (s1 : Same Hs H1) (hp : Hs p = none) (hn : n ≤ sizeLine)
    (go : ∀ i H2, i < n → Same Hs H2 → J.go i H2) (stop : ∀ H2, Same Hs H2 → J.stop n H2) (i0 : Iv τ0)
    (step : ∀ (i : Nat) (τ : St) (H2 : Hp) (x : V) (H3 : Hp) (R : St → V → Hp → Prop), i < n → Iv τ → Same Hs H2 → J.yld i H2 x H3 → (∀ τ4 H5, Iv τ4 → Same H2 H5 → R τ4 (f i) H5) → g x τ H3 fun τ4 H4 => te τ4 H4 fun y H5 => R τ4 y H5)
    (fin : ∀ H2, Same Hs H2 → H2 p = some (.lst ((List.range n).map f)) → Q (.ref p) H2) :
    CW J g te p τ0 H1 Q := by
  refine ⟨fun i m ys τ H2 => m = n - i ∧ i ≤ n ∧ ys = (List.range i).map f ∧ Same Hs H2 ∧ H2 p = some (.lst ys) ∧ Iv τ, ⟨n, rfl, Nat.zero_le _, rfl, s1.upd hp, upd_same, i0⟩, ?_⟩
  rintro i m ys τ H2 ⟨rfl, hi, rfl, s2, h2, iv⟩
  by_cases hlt : i < n
  · refine .inr ⟨go i H2 hlt s2, fun x H3 y3 => step i τ H2 x H3 _ hlt iv s2 y3 fun τ4 H5 iv4 s5 => ?_⟩
    refine ⟨s5 _ _ h2, ?_, n - (i + 1), by omega, rfl, hlt, ?_, (s2.trans s5).upd hp, upd_same, iv4⟩
    · rw [List.length_map, List.length_range]; omega
    · rw [List.range_succ, List.map_append]; rfl
  · have e : i = n := by omega
    subst e
    exact .inl ⟨stop H2 s2, fin H2 s2 h2⟩
/-- over enumerate of a list that the body leaves as it is -/
theorem for_enum {K : PySem.W.Frag} {a : Addr} {xs : List V} {g : TG} {tb : TS} {D : Ends} {σ : St} {H : Hp} (Pv : Nat → St → Hp → Prop) (h0 : Pv 0 σ H) (hl : ∀ i σ H, i ≤ xs.length → Pv i σ H → SqL K H a xs)
    (hs : ∀ (i : Nat) (x : V) (σ : St) (H : Hp) (t : Addr), xs[i]? = some x → Pv i σ H → H t = none → g (.ref t) σ (upd H t (.tup [.int i, x])) fun σ2 H2 => tb { D with nx := Pv (i + 1), ct := Pv (i + 1), bk := D.nx } σ2 H2) (hd : ∀ σ H, Pv xs.length σ H → D.nx σ H) :
    ∃ W : Nat → Nat → St → Hp → Prop, (∃ m, W 0 m σ H) ∧ ∀ i m σ H, W i m σ H →
      ((Ite K a).stop i H ∧ D.nx σ H) ∨ ((Ite K a).go i H ∧ ∃ N : St → Hp → Prop, (∀ σ' H', N σ' H' → ∃ m', m' < m ∧ W (i + 1) m' σ' H') ∧ ∀ x H', (Ite K a).yld i H x H' → g x σ H' fun σ2 H2 => tb { D with nx := N, ct := N, bk := D.nx } σ2 H2) := by
  refine ⟨fun i m σ H => m = xs.length - i ∧ i ≤ xs.length ∧ Pv i σ H, ⟨xs.length, by simp, Nat.zero_le _, h0⟩, ?_⟩
  rintro i m σ H ⟨rfl, hi, p⟩
  have q := hl i σ H hi p
  by_cases hlt : i < xs.length
  · refine .inr ⟨⟨xs, xs[i], q, by simp [hlt]⟩, Pv (i + 1), fun σ' H' p' => ⟨xs.length - (i + 1), by omega, rfl, hlt, p'⟩, fun x H' y => ?_⟩
    obtain ⟨t, z, rfl, ht, rfl, y⟩ := y
    exact hs i z σ H t (y xs q) p ht
  · have e : i = xs.length := by omega
    subst e
    exact .inl ⟨⟨xs, q, Nat.le_refl _⟩, hd σ H p⟩
/-! ### slices -/
theorem cutV_from (xs : List V) (k : Nat) : cutV xs (some (k : Int)) none = xs.drop k := by
  unfold cutV
  rw [HT.sIx_nat, HT.sIx_none]
  by_cases h : k ≤ xs.length
  · rw [Nat.min_eq_left h, List.take_of_length_le (by rw [List.length_drop]; exact Nat.le_refl _)]
  · rw [Nat.min_eq_right (by omega), List.drop_of_length_le (by omega : xs.length ≤ xs.length), List.drop_of_length_le (by omega : xs.length ≤ k), List.take_nil]
theorem cutV_to (xs : List V) (k : Nat) : cutV xs none (some (k : Int)) = xs.take k := by
  unfold cutV
  rw [HT.sIx_nat, HT.sIx_none, List.drop_zero, Nat.sub_zero]
  by_cases h : k ≤ xs.length
  · rw [Nat.min_eq_left h]
  · rw [Nat.min_eq_right (by omega), List.take_of_length_le (Nat.le_refl _), List.take_of_length_le (by omega)]
/-! ### in, over ints -/
theorem inV_ints (n : Int) : ∀ ns : List Int, inV (.int n) (ns.map V.int) = decide (n ∈ ns)
  | [] => by simp [inV]
  | m :: ns => by
    have ih := inV_ints n ns
    unfold inV at ih ⊢
    rw [List.map_cons, List.any_cons, ih]
    show ((m == n) || _) = _
    by_cases e : m = n
    · simp [e]
    · have e' : ¬ n = m := fun h => e h.symm
      simp [e, e']
theorem flat_ints (ns : List Int) : (ns.map V.int).all flatV = true := by
  rw [List.all_map, List.all_eq_true]
  intro x _
  rfl
theorem iteD {c A B : Prop} [Decidable c] (h1 : c → A) (h2 : ¬ c → B) : if decide c = true then A else B := by
  by_cases h : c
  · rw [if_pos (decide_eq_true h)]; exact h1 h
  · rw [if_neg (by simpa using h)]; exact h2 h
theorem iteND {c A B : Prop} [Decidable c] (h1 : ¬ c → A) (h2 : c → B) : if (!decide c) = true then A else B := by
  by_cases h : c
  · rw [if_neg (by simpa using h)]; exact h2 h
  · rw [if_pos (by simpa using h)]; exact h1 h
section
variable {X : Cx}
/-- (x, y) = a pair, x and y plain local names -/
def g2 (K : PySem.W.Frag) (i j : Nat) : TG := fun v σ H Q => ∃ a x y, v = .ref a ∧ SqT K H a [x, y] ∧ Q ((σ.set i (some x)).set j (some y)) H
theorem pg_two {x y : Str} {px py : Pos} {k : Nat} {pos : Pos} (i j : Nat) (hc : X.calm = true) (hN : X.N.Nodup) (hi : X.N[i]? = some x) (hj : X.N[j]? = some y) (hx : X.env.scope.names.lookup x = some .local) (hy : X.env.scope.names.lookup y = some .local) :
    PG X (.Tuple [.Name x px, .Name y py] k pos) (g2 X.K i j) := by
  intro pins s σ H v u Q I r h
  obtain ⟨a, v1, v2, rfl, hq, q⟩ := h
  refine pg_tup hc (pgs_cons (pg_name (i := i) hN hi (.inl hx) (.inr hx)) (pgs_cons (pg_name (i := j) hN hj (.inl hy) (.inr hy)) pgs_nil)) rfl rfl pins s σ H (.ref a) u Q I r ?_
  exact ⟨a, _, rfl, hq, rfl, _, _, rfl, _, _, rfl, rfl, q⟩
end
theorem PE.imp {X : Cx} {e : Expr} {t t' : TE} (h : PE X e t) (k : ∀ σ H Q, t' σ H Q → t σ H Q) : PE X e t' := fun pins s σ H Q I q => h pins s σ H Q I (k σ H Q q)
/-- a fold over a list that stays, by places -/
theorem comp_listI {K : PySem.W.Frag} {a : Addr} {xs : List V} {g : TG} {te : TE} {p : Addr} {τ0 : St} {H1 Hs : Hp} {Q : VK} (f : Nat → V) (Iv : St → Prop) (s1 : Same Hs H1) (hp : Hs p = none) (ha : SqL K Hs a xs) (hn : xs.length ≤ sizeLine) (i0 : Iv τ0)
    (step : ∀ (i : Nat) (x : V) (τ : St) (H2 : Hp) (R : St → V → Hp → Prop), xs[i]? = some x → Iv τ → Same Hs H2 → (∀ τ4 H5, Iv τ4 → Same H2 H5 → R τ4 (f i) H5) → g x τ H2 fun τ4 H4 => te τ4 H4 fun y H5 => R τ4 y H5)
    (fin : ∀ H2, Same Hs H2 → H2 p = some (.lst ((List.range xs.length).map f)) → Q (.ref p) H2) :
    CW (Itl K a) g te p τ0 H1 Q := by
  refine comp_fold (J := Itl K a) xs.length f Iv s1 hp hn (fun i H2 hi s2 => ⟨xs, xs[i], s2.seq ha, List.getElem?_eq_getElem hi⟩) (fun H2 s2 => ⟨xs, s2.seq ha, Nat.le_refl _⟩) i0 ?_ fin
  rintro i τ H2 x H3 R hi iv s2 ⟨rfl, y⟩ k
  exact step i x τ _ R (y xs (s2.seq ha)) iv s2 k
/-- a statement's ways meet: M holds behind it -/
def tCut (t : TS) : TS := fun D σ H => ∃ M : St → Hp → Prop, t { D with nx := M } σ H ∧ ∀ σ' H', M σ' H' → D.nx σ' H'
theorem ps_cut {X : Cx} {st : Stmt} {t : TS} (h : PS X st t) : PS X st (tCut t) := by
  intro pins s σ H D I q
  obtain ⟨M, q1, q2⟩ := q
  refine thn (h pins s σ H _ I q1) fun f s1 z => ?_
  cases f with
  | next => obtain ⟨σ', H', I', m⟩ := z; exact ⟨σ', H', I', q2 σ' H' m⟩
  | brk => exact z
  | cont => exact z
  | ret u => exact z
end L2

set_option Elab.async false
set_option linter.all false
set_option maxRecDepth 100000
set_option maxHeartbeats 4000000
/-! MORE RULES: tests of several comparisons in a row, folds over tuples -/
namespace L2
open PySem PySem.Spec PyProof.Rows
section
variable {X : Cx}
end
end L2

set_option Elab.async false
set_option linter.all false
set_option maxRecDepth 100000
/-! SETS OF INTS, WALKED: the table's places rise; an order by the text is a rearrangement -/
namespace SW
open PySem



/-! ### the order that a text gives -/
end SW

set_option Elab.async false
set_option linter.all false
set_option maxRecDepth 100000
/-! SETS OF INTS, MADE FROM A LIST: what stands in them, and how their tables lie -/
namespace SW
open PySem
section
variable {prog : Program} {w : World} {A : Around} {E : Value → Shared → Prop} {s : Shared}
end
end SW

set_option Elab.async false
set_option linter.all false
set_option maxRecDepth 100000
namespace SW
open PySem PySem.Spec PyProof.Rows
section
variable {prog : Program} {w : World} {A : Around} {E : Value → Shared → Prop} {R : Result → Shared → Prop} {I : Addr} {fp wr : List Addr} {G : Array GenState → Array GenState → Prop} {n : Nat} {P : Nat → Value → Prop} {St : Nat → Shared → Prop} {s : Shared}
end
end SW

set_option Elab.async false
set_option linter.all false
set_option maxRecDepth 100000
namespace SW
open PySem PySem.Spec PyProof.Rows
section
variable {prog : Program} {w : World} {A : Around} {E : Value → Shared → Prop} {s : Shared}

end
end SW

set_option Elab.async false
set_option linter.all false
set_option maxRecDepth 100000
namespace SW
open PySem PySem.Spec PyProof.Rows
section
variable {prog : Program} {w : World} {A : Around} {E : Value → Shared → Prop} {s : Shared}

/-! ### an order that was drawn -/
end
end SW

set_option Elab.async false
set_option linter.all false
set_option maxRecDepth 100000
namespace SW
open PySem PySem.Spec PyProof.Rows
section
variable {prog : Program} {w : World} {A : Around} {E : Value → Shared → Prop} {s : Shared}
end
end SW

set_option Elab.async false
set_option linter.all false
set_option maxRecDepth 100000
namespace SW
open PySem PySem.Spec PyProof.Rows
section
variable {prog : Program} {w : World} {A : Around} {E : Value → Shared → Prop} {s : Shared}
end
end SW

set_option Elab.async false
set_option linter.all false
set_option maxRecDepth 100000
set_option maxHeartbeats 4000000
/-! SETS IN THE LAYER: set(xs) of ints, sorted(set(xs)) -/
namespace L2
open PySem PySem.Spec PyProof.Rows
section
variable {X : Cx} {pins : List (Addr × Obj)} {σ : St} {H : Hp} {s : Shared}
end
section
variable {X : Cx}
end
end L2

set_option Elab.async false
set_option linter.all false
set_option maxRecDepth 100000
/-! list(d.values()), of a dict with whatever keys -/
namespace SW
open PySem PySem.Spec PyProof.Rows
section
variable {prog : Program} {w : World} {A : Around} {E : Value → Shared → Prop} {s : Shared}
end
end SW

set_option Elab.async false
set_option linter.all false
set_option maxRecDepth 100000
/-! list(zip(a, b)): the tuples are kept, so that zip makes a new one at each turn -/
namespace SW
open PySem PySem.Spec PyProof.Rows
section
variable {prog : Program} {w : World} {A : Around} {E : Value → Shared → Prop} {s : Shared}
end
end SW

set_option Elab.async false
set_option linter.all false
set_option maxRecDepth 100000
set_option maxHeartbeats 4000000
/-! list(d.values()), list(zip(a, b)) in the layer -/
namespace L2
open PySem PySem.Spec PyProof.Rows
section
variable {X : Cx}
end
section
variable {X : Cx} {pins : List (Addr × Obj)} {σ : St} {H : Hp} {s : Shared}
end
section
variable {X : Cx} {pins : List (Addr × Obj)} {σ : St} {H1 : Hp} {xs ys : List V} {a b z TI TO i1 i2 L : Addr} {i : Nat} {ts : List Addr} {H2 : Hp} {s : Shared} {A : Around} {E : Value → Shared → Prop} {Q : Option Value → Shared → Prop}
end
section
variable {X : Cx} {pins : List (Addr × Obj)} {σ : St} {H1 : Hp} {xs ys : List V} {a b z TI TO i1 i2 L : Addr} {A : Around} {R : Result → Shared → Prop} {res : Value}
end
section
variable {X : Cx}
end
end L2

set_option Elab.async false
set_option linter.all false
set_option maxRecDepth 100000
set_option maxHeartbeats 4000000
/-! lists compared by < -/
namespace L2
open PySem PySem.SeqAt PySem.MeetsSeq PySem.MeetsSeq2 PySem.MeetsSeq3 PySem.SeqRoads2
open PySem.AutoSeq1 (wpAny_loadPart')
/-- y < x is b -/
def LtAt (A : Around) (s : Shared) (y x : Value) (b : Bool) : Prop :=
  ∀ (prog : Program) (w : World) (E : Value → Shared → Prop) (Q : Value → Shared → Prop), Q (.bool b) s → wpAny (model prog w) A (richCompare .Lt y x) Q E s
abbrev lob (c : String) (d : Option Addr) (xs : Array Value) (n : Nat) (sl : Array (Option Value)) : Obj := { cls := .type c, dict := d, data := .seq xs n, slots := sl }
theorem lt_loop (l b : Addr) (xs ys : Array Value) (n m : Nat) (d1 d2 : Option Addr) (sl1 sl2 : Array (Option Value)) (k : Nat) (hk1 : k < xs.size) (hk2 : k < ys.size) (r : Bool) (t : Nat) :
    ∀ i : Nat, k - i = t → i ≤ k → Meets (Builtin.«list.__eq__.loop» ⟨[.ref l, .ref b, rawInt i, rawInt 0], []⟩)
      (fun A R s => s.heap.get? l = some (lob "list" d1 xs n sl1) ∧ s.heap.get? b = some (lob "list" d2 ys m sl2) ∧
        (∀ j (h1 : j < xs.size) (h2 : j < ys.size), j < k → EqAt A.in1 s xs[j] ys[j] true) ∧ EqAt A.in1 s xs[k] ys[k] false ∧ LtAt A.in1 s xs[k] ys[k] r ∧
        R (.ok (.ret (.bool r))) s) := by
  induction t with
  | zero =>
    intro i hi hle prog w A R s h
    obtain ⟨hp, g, d, tk, os⟩ := s
    obtain ⟨hl, hb, he, hn, hlt, h⟩ := h
    have e : i = k := by omega
    subst e
    wp_walk using wpAny_loadPart' hl, wpAny_loadPart' hb
    have hi1 : xs[((i : Nat) : Int).toNat]? = some xs[i] := by simp [hk1]
    have hi2 : ys[((i : Nat) : Int).toNat]? = some ys[i] := by simp [hk2]
    rw [hi1, hi2]
    refine wpAny_bind (hn prog w _ _ ?_)
    wp_walk using wpAny_loadPart' hl, wpAny_loadPart' hb
    rw [hi1, hi2]
    refine wpAny_bind (hlt prog w _ _ ?_)
    wp_walk
    exact h
  | succ t ih =>
    intro i hi hle prog w A R s h
    obtain ⟨hp, g, d, tk, os⟩ := s
    obtain ⟨hl, hb, he, hn, hlt, h⟩ := h
    wp_walk using wpAny_loadPart' hl, wpAny_loadPart' hb
    have hx1 : i < xs.size := by omega
    have hx2 : i < ys.size := by omega
    have hi1 : xs[((i : Nat) : Int).toNat]? = some xs[i] := by simp [hx1]
    have hi2 : ys[((i : Nat) : Int).toNat]? = some ys[i] := by simp [hx2]
    have hc : ((i : Int) + 1) = ((i + 1 : Nat) : Int) := by push_cast; rfl
    rw [hi1, hi2]
    refine wpAny_bind (he i hx1 hx2 (by omega) prog w _ _ ?_)
    wp_walk
    rw [hc]
    exact ⟨plainId_quiet plain_eq_loop _, codeAny_builtin entry_eq_loop (by
      rw [Around.under_plainId plain_eq_loop _]
      exact ih (i + 1) (by omega) (by omega) prog w A R _ ⟨hl, hb, he, hn, hlt, h⟩)⟩
theorem list_lt (l b : Addr) (xs ys : Array Value) (n m : Nat) (d1 d2 : Option Addr) (sl1 sl2 : Array (Option Value)) (k : Nat) (hk1 : k < xs.size) (hk2 : k < ys.size) (r : Bool) :
    Meets (Builtin.«list.__lt__» ⟨[.ref l, .ref b], []⟩)
      (fun A R s => s.heap.get? l = some (lob "list" d1 xs n sl1) ∧ s.heap.get? b = some (lob "list" d2 ys m sl2) ∧
        (∀ j (h1 : j < xs.size) (h2 : j < ys.size), j < k → EqAt A.in1 s xs[j] ys[j] true) ∧ EqAt A.in1 s xs[k] ys[k] false ∧ LtAt A.in1 s xs[k] ys[k] r ∧
        R (.ok (.ret (.bool r))) s) := by
  intro prog w A R s h
  obtain ⟨hp, g, d, tk, os⟩ := s
  obtain ⟨hl, hb, he, hn, hlt, h⟩ := h
  have f3 := AutoSeq1.sub_list_list
  wp_walk using wpAny_loadPart' hl, wpAny_loadPart' hb
  exact ⟨plainId_quiet plain_eq_loop _, codeAny_builtin entry_eq_loop (by
    rw [Around.under_plainId plain_eq_loop _]
    exact lt_loop l b xs ys n m d1 d2 sl1 sl2 k hk1 hk2 r _ 0 rfl (Nat.zero_le _) prog w A R _ ⟨hl, hb, he, hn, hlt, h⟩)⟩
theorem LtAt.ints {A : Around} {s : Shared} (i j : Int) (t u : Tok) : LtAt A s (.int i t) (.int j u) (decide (i < j)) := fun prog w E Q h => PyProof.Rows.lt_int h
section
variable {X : Cx}
theorem ints_at {ns : List Int} {us : List Value} (r : Vals (ns.map V.int) us) {i : Nat} (h : i < us.length) : ∃ (n : Int) (t : Tok), ns[i]? = some n ∧ us[i] = .int n t := by
  have hl := r.length
  rw [List.length_map] at hl
  have hi : i < ns.length := by omega
  obtain ⟨u, hu, ru⟩ := r.get (i := i) (x := .int ns[i]) (by rw [List.getElem?_map, List.getElem?_eq_getElem hi]; rfl)
  rw [List.getElem?_eq_getElem h] at hu
  obtain ⟨t, e⟩ := ru
  exact ⟨ns[i], t, List.getElem?_eq_getElem hi, by rw [Option.some.inj hu, e]⟩
end
end L2

set_option Elab.async false
set_option linter.all false
set_option maxRecDepth 100000
set_option maxHeartbeats 4000000
/-! [elt for target in iter if test]; pairs into a cell -/
namespace L2
open PySem PySem.Spec PyProof.Rows
section
variable {prog : Program} {w : World} {A : Around} {R : Result → Shared → Prop} {s : Shared}
end
section
variable {X : Cx} {pins : List (Addr × Obj)} {σ : St} {H : Hp} {s : Shared} {scope : Scope} {cl : List (Str × Addr)} {C : Addr} {N : List Str} {js : List (Option Nat)} {fp : List Addr}


end
end L2

set_option Elab.async false
set_option linter.all false
set_option maxRecDepth 100000
set_option maxHeartbeats 4000000
/-! sorted of lists and of tuples, by numbers that stand for their order at the heap as it is -/
namespace L2
open PySem PyProof.Rows PySem.SeqAt
/-- of two keys with unlike numbers, the lesser number is the lesser key -/
def CmpOk (prog : Program) (w : World) (A : Around) (s : Shared) (knd : SortKind) (key : Value → Nat) (vs : List Value) : Prop :=
  ∀ (E : Value → Shared → Prop) (Q : Bool → Shared → Prop) (x y : Value), x ∈ vs → y ∈ vs → key x ≠ key y → Q (decide (key x < key y)) s → wpAny (model prog w) A (keyLt' knd x y) Q E s
structure SB (knd : SortKind) (a₀ : Array Keyed) (st : SortSt) : Prop where
  perm : (arrOf st).Perm a₀
  kind : kindOf st = knd
  fail : failedOf st = none
  pend : pendingOf st = #[]
def kn (key : Value → Nat) (xs : Array Keyed) (i : Nat) : Nat := match xs[i]? with
  | some p => key p.1
  | none => 0
def Up (key : Value → Nat) (xs : Array Keyed) (m : Nat) : Prop := ∀ i j, i ≤ j → j < m → kn key xs i ≤ kn key xs j
section
variable {prog : Program} {w : World} {A : Around} {E : Value → Shared → Prop} {s : Shared} {key : Value → Nat} {knd : SortKind} {a₀ : Array Keyed} {st : SortSt}
theorem SB.size (b : SB knd a₀ st) : (arrOf st).size = a₀.size := b.perm.size_eq
theorem SB.set (b : SB knd a₀ st) {xs : Array Keyed} (h : xs.Perm (arrOf st)) : SB knd a₀ (setArr st xs) := ⟨h.trans b.perm, b.kind, b.fail, b.pend⟩
theorem SB.get (b : SB knd a₀ st) {i : Nat} (hi : i < a₀.size) : ∃ p, (arrOf st)[i]? = some p ∧ p ∈ a₀.toList ∧ kn key (arrOf st) i = key p.1 := by
  have hi' : i < (arrOf st).size := by rw [b.size]; exact hi
  have e : (arrOf st)[i]? = some (arrOf st)[i] := getElem?_pos _ i hi'
  refine ⟨(arrOf st)[i], e, (Array.perm_iff_toList_perm.mp b.perm).mem_iff.mp (by simp), ?_⟩
  unfold kn
  rw [e]
/-- unlike numbers at unlike places -/
theorem SB.ne (b : SB knd a₀ st) (nd : (a₀.toList.map fun p => key p.1).Nodup) {i j : Nat} (hi : i < a₀.size) (hj : j < a₀.size) (h : i ≠ j) : kn key (arrOf st) i ≠ kn key (arrOf st) j := by
  have nd2 : ((arrOf st).toList.map fun p => key p.1).Nodup := (((Array.perm_iff_toList_perm.mp b.perm).map fun (p : Keyed) => key p.1).nodup_iff).mpr nd
  have hs := b.size
  have li : i < ((arrOf st).toList.map fun p => key p.1).length := by simp; omega
  have lj : j < ((arrOf st).toList.map fun p => key p.1).length := by simp; omega
  obtain ⟨p, e1, _, k1⟩ := b.get (key := key) hi
  obtain ⟨q, e2, _, k2⟩ := b.get (key := key) hj
  rw [k1, k2]
  intro z
  apply h
  refine (List.getElem_inj (h₀ := li) (h₁ := lj) nd2).mp ?_
  have g1 : (arrOf st).toList[i]? = some p := by simpa using e1
  have g2 : (arrOf st).toList[j]? = some q := by simpa using e2
  obtain ⟨_, g1⟩ := List.getElem?_eq_some_iff.mp g1
  obtain ⟨_, g2⟩ := List.getElem?_eq_some_iff.mp g2
  simp only [List.getElem_map, g1, g2]
  exact z
theorem lt_at {i j : Nat} {Q : Option Bool → SortSt → Prop} (hC : CmpOk prog w A s knd key (a₀.toList.map (·.1))) (nd : (a₀.toList.map fun p => key p.1).Nodup) (b : SB knd a₀ st) (hi : i < a₀.size) (hj : j < a₀.size) (hij : i ≠ j)
    (h : Q (some (decide (kn key (arrOf st) i < kn key (arrOf st) j))) st) : wpS (model prog w) A E s (ltAt' i j) Q st := by
  have hne := b.ne nd hi hj hij
  obtain ⟨p, e1, m1, k1⟩ := b.get (key := key) hi
  obtain ⟨q, e2, m2, k2⟩ := b.get (key := key) hj
  rw [k1, k2] at h hne
  rw [ltAt'_eq]
  refine wpS_bind (wpS_get ?_)
  show wpS _ _ _ _ (elem' (arrOf st) i >>= fun x => elem' (arrOf st) j >>= fun y => lt' x y) Q st
  rw [elem'_eq, elem'_eq, e1, e2]
  refine wpS_bind (wpS_pure (wpS_bind (wpS_pure ?_)))
  rw [lt'_eq]
  refine wpS_bind (wpS_get ?_)
  rw [b.kind]
  refine wpS_bind (wpS_lift (wpAny_attempt (hC _ _ p.1 q.1 (List.mem_map.mpr ⟨p, m1, rfl⟩) (List.mem_map.mpr ⟨q, m2, rfl⟩) hne ⟨rfl, ?_⟩)))
  exact wpS_pure h
theorem asc_run {a n : Nat} {Q : AscSt → SortSt → Prop} (hC : CmpOk prog w A s knd key (a₀.toList.map (·.1))) (nd : (a₀.toList.map fun p => key p.1).Nodup) (b : SB knd a₀ st) (ha : 1 ≤ a) (han : a ≤ n) (hn : n ≤ a₀.size) (hu : Up key (arrOf st) a)
    (h : ∀ m, a ≤ m → m ≤ n → Up key (arrOf st) m → (m = n ∨ kn key (arrOf st) m < kn key (arrOf st) (m - 1)) → Q (none, m) st) : wpS (model prog w) A E s (ascLoop a n) Q st := by
  unfold ascLoop
  refine wpS_forRange (I := fun x c st' => st' = st ∧ c = (none, x) ∧ Up key (arrOf st) x) ?_ ?_ ⟨rfl, rfl, hu⟩
  · rintro x c st' h1 h2 ⟨rfl, rfl, hx⟩
    dsimp only
    refine wpS_bind (lt_at hC nd b (by omega) (by omega) (by omega) ?_)
    by_cases hl : kn key (arrOf st') x < kn key (arrOf st') (x - 1)
    · rw [decide_eq_true hl]
      exact wpS_pure (h x h1 (by omega) hx (.inr hl))
    · rw [decide_eq_false hl]
      refine wpS_pure ⟨rfl, rfl, fun i j hij hj => ?_⟩
      rcases Nat.lt_or_ge j x with z | z
      · exact hx i j hij z
      · have : j = x := by omega
        subst this
        rcases Nat.lt_or_ge i j with z | z
        · have := hx i (j - 1) (by omega) (by omega)
          omega
        · have : i = j := by omega
          subst this
          exact Nat.le_refl _
  · rintro c st' ⟨rfl, rfl, hx⟩
    rw [show max a n = n by omega] at hx ⊢
    exact h n han (Nat.le_refl _) hx (.inl rfl)
theorem count_run {Q : Option Nat → SortSt → Prop} (hC : CmpOk prog w A s knd key (a₀.toList.map (·.1))) (nd : (a₀.toList.map fun p => key p.1).Nodup) (b : SB knd a₀ st) (h2 : 2 ≤ a₀.size) (h01 : kn key (arrOf st) 0 < kn key (arrOf st) 1)
    (h : ∀ m, 2 ≤ m → m ≤ a₀.size → Up key (arrOf st) m → (m = a₀.size ∨ kn key (arrOf st) m < kn key (arrOf st) (m - 1)) → Q (some m) st) : wpS (model prog w) A E s (countRun' 0 a₀.size) Q st := by
  rw [countRun0_eq]
  refine wpS_bind (asc_run hC nd b (Nat.le_refl 1) (by omega) (Nat.le_refl _) (fun i j hij hj => by have : i = j := (by omega); subst this; exact Nat.le_refl _) fun m h1 hm hu hor => ?_)
  have hm2 : 2 ≤ m := by
    rcases Nat.lt_or_ge m 2 with z | z
    · have : m = 1 := by omega
      subst this
      rcases hor with z2 | z2
      · omega
      · have z2 : kn key (arrOf st) 1 < kn key (arrOf st) 0 := z2
        omega
    · exact z
  dsimp only
  by_cases hms : m = a₀.size
  · rw [if_pos (by simpa using hms)]
    exact wpS_pure (h m hm2 hm hu hor)
  · rw [if_neg (by simpa using hms), if_pos (by omega)]
    refine wpS_bind (lt_at hC nd b (by omega) (by omega) (by omega) ?_)
    have h0 := hu 1 (m - 1) (by omega) (by omega)
    rw [decide_eq_true (by omega)]
    exact wpS_pure (h m hm2 hm hu hor)
theorem kn_bubble {xs : Array Keyed} {k l : Nat} (hk : k < xs.size) (hl : l ≤ k) (i : Nat) : kn key (bubble xs k (k - l)) i = if i = l then kn key xs k else if l < i ∧ i ≤ k then kn key xs (i - 1) else kn key xs i := by
  have e := getElem?_bubble hk (k - l) (by omega) i
  rw [show k - (k - l) = l by omega] at e
  unfold kn
  rw [e]
  by_cases h1 : i = l
  · rw [if_pos h1, if_pos h1]
  · rw [if_neg h1, if_neg h1]
    by_cases h2 : l < i ∧ i ≤ k
    · rw [if_pos h2, if_pos h2]
    · rw [if_neg h2, if_neg h2]
theorem bin_sort {n ok : Nat} {Q : Bool → SortSt → Prop} (hC : CmpOk prog w A s knd key (a₀.toList.map (·.1))) (nd : (a₀.toList.map fun p => key p.1).Nodup) (hn : n ≤ a₀.size) (hok : ok ≤ n) (b : SB knd a₀ st) (hu : Up key (arrOf st) ok)
    (h : ∀ st', SB knd a₀ st' → Up key (arrOf st') n → Q true st') : wpS (model prog w) A E s (binarySort' 0 n ok) Q st := by
  rw [binarySort'_eq]
  simp only [Nat.zero_add]
  have one : Up key (arrOf st) (min (max ok 1) n) := fun i j hij hj => by
    rcases Nat.eq_zero_or_pos ok with z | z
    · have : i = j := by omega
      subst this
      exact Nat.le_refl _
    · exact hu i j hij (by omega)
  refine wpS_bind (wpS_mono (wpS_forRange (I := fun k c st' => c = (none, ()) ∧ SB knd a₀ st' ∧ Up key (arrOf st') (min k n)) (Q := fun c st' => c = (none, ()) ∧ SB knd a₀ st' ∧ Up key (arrOf st') n) ?_ ?_ ⟨rfl, b, one⟩) ?_)
  · rintro k c st' h1 h2 ⟨rfl, b', hu'⟩
    rw [show min k n = k by omega] at hu'
    have hks : k < a₀.size := by omega
    -- the place where it goes
    refine wpS_bind (wpS_mono (wpS_forRange (I := fun x c st'' => st'' = st' ∧ ∃ l r, c = (none, l, r) ∧ l ≤ r ∧ r ≤ k ∧ r - l ≤ k - x ∧ (∀ i, i < l → kn key (arrOf st') i ≤ kn key (arrOf st') k) ∧ ∀ i, r ≤ i → i < k → kn key (arrOf st') k ≤ kn key (arrOf st') i)
      (Q := fun c st'' => st'' = st' ∧ ∃ l r, c = (none, l, r) ∧ l ≤ k ∧ (∀ i, i < l → kn key (arrOf st') i ≤ kn key (arrOf st') k) ∧ ∀ i, l ≤ i → i < k → kn key (arrOf st') k ≤ kn key (arrOf st') i) ?_ ?_ ⟨rfl, 0, k, rfl, Nat.zero_le _, Nat.le_refl _, by omega, fun i hi => by omega, fun i a c => by omega⟩) ?_)
    · rintro x c st'' g1 g2 ⟨rfl, l, r, rfl, hlr, hrk, hm, lo, hi⟩
      dsimp only
      by_cases hge : l ≥ r
      · rw [if_pos hge]
        have : l = r := by omega
        subst this
        exact wpS_pure ⟨rfl, l, l, rfl, hrk, lo, hi⟩
      · rw [if_neg hge]
        refine wpS_bind (lt_at hC nd b' hks (by omega) (by omega) ?_)
        by_cases hl : kn key (arrOf st'') k < kn key (arrOf st'') ((l + r) / 2)
        · rw [decide_eq_true hl]
          refine wpS_pure ⟨rfl, l, (l + r) / 2, rfl, by omega, by omega, by omega, lo, fun i a c => ?_⟩
          have := hu' ((l + r) / 2) i a c
          omega
        · rw [decide_eq_false hl]
          refine wpS_pure ⟨rfl, (l + r) / 2 + 1, r, rfl, by omega, by omega, by omega, fun i a => ?_, hi⟩
          have := hu' i ((l + r) / 2) (by omega) (by omega)
          omega
    · rintro c st'' ⟨rfl, l, r, rfl, hlr, hrk, hm, lo, hi⟩
      have : l = r := by omega
      subst this
      exact ⟨rfl, l, l, rfl, hrk, lo, hi⟩
    · rintro c st'' ⟨rfl, l, r, rfl, hlk, lo, hi⟩
      show wpS _ _ _ _ (moveDown' k l >>= fun _ => pure (ForInStep.yield (none, ()))) _ _
      rw [moveDown'_eq]
      refine wpS_bind (wpS_modify (wpS_pure ⟨rfl, b'.set (bubble_perm _ _ _), ?_⟩))
      rw [show min (k + 1) n = k + 1 by omega]
      have hk2 : k < (arrOf st'').size := by rw [b'.size]; exact hks
      intro i j hij hj
      show kn key (bubble (arrOf st'') k (k - l)) i ≤ kn key (bubble (arrOf st'') k (k - l)) j
      rw [kn_bubble hk2 hlk, kn_bubble hk2 hlk]
      by_cases e1 : i = l
      · rw [if_pos e1]
        by_cases e2 : j = l
        · rw [if_pos e2]; exact Nat.le_refl _
        · rw [if_neg e2, if_pos (by omega)]
          exact hi _ (by omega) (by omega)
      · rw [if_neg e1]
        by_cases e3 : l < i ∧ i ≤ k
        · rw [if_pos e3, if_neg (by omega), if_pos (by omega)]
          exact hu' _ _ (by omega) (by omega)
        · rw [if_neg e3]
          by_cases e2 : j = l
          · rw [if_pos e2]
            exact lo _ (by omega)
          · rw [if_neg e2]
            by_cases e4 : l < j ∧ j ≤ k
            · rw [if_pos e4]
              exact hu' _ _ (by omega) (by omega)
            · rw [if_neg e4]
              exact hu' _ _ (by omega) (by omega)
  · rintro c st' ⟨hc, b', hu'⟩
    rw [show min (max (max ok 1) n) n = n by omega] at hu'
    exact ⟨hc, b', hu'⟩
  · rintro c st' ⟨rfl, b', hu'⟩
    exact wpS_pure (h st' b' hu')
theorem minRun_le : ∀ (f n r : Nat), r ≤ 1 → minRun' f n r ≤ n + r
  | 0, n, r, _ => Nat.le_refl _
  | f + 1, n, r, hr => by
    rw [minRun'_succ]
    split
    · exact Nat.le_refl _
    · have := minRun_le f (n / 2) (max r (n % 2)) (by omega)
      omega
/-- the runs: a rising one, the rest put in; or one that rises all along -/
theorem sort_runs {Q : Unit → SortSt → Prop} (hC : CmpOk prog w A s knd key (a₀.toList.map (·.1))) (nd : (a₀.toList.map fun p => key p.1).Nodup) (b : SB knd a₀ st) (h2 : 2 ≤ a₀.size) (h01 : kn key (arrOf st) 0 < kn key (arrOf st) 1) (hcase : a₀.size < 64 ∨ Up key (arrOf st) a₀.size)
    (h : ∀ st', (arrOf st').Perm a₀ → failedOf st' = none → Up key (arrOf st') a₀.size → Q () st') : wpS (model prog w) A E s sortRuns' Q st := by
  have hmr1 : a₀.size < 64 → minRun' a₀.size a₀.size 0 = a₀.size := fun h64 => by
    obtain ⟨f, hf⟩ : ∃ f, a₀.size = f + 1 := ⟨a₀.size - 1, by omega⟩
    rw [hf] at h64 ⊢
    rw [minRun'_succ, if_pos h64]
  have hmr2 := minRun_le a₀.size a₀.size 0 (Nat.zero_le _)
  rw [sortRuns'_eq]
  refine wpS_bind (wpS_get ?_)
  dsimp only
  simp only [b.size]
  generalize hmr : minRun' a₀.size a₀.size 0 = mr at hmr1 hmr2
  let D : SortSt → Prop := fun st' => (arrOf st').Perm a₀ ∧ failedOf st' = none ∧ pendingOf st' = #[(0, a₀.size, 0)] ∧ Up key (arrOf st') a₀.size
  have push : ∀ st', SB knd a₀ st' → Up key (arrOf st') a₀.size → D (setPending st' ((pendingOf st').push (0, a₀.size, 0))) := fun st' b' hu' => ⟨b'.perm, b'.fail, by show (pendingOf st').push _ = _; rw [b'.pend]; rfl, hu'⟩
  refine wpS_bind (wpS_mono (wpS_forRange (I := fun x c st' => (x = 0 ∧ c = (none, 0) ∧ st' = st) ∨ (1 ≤ x ∧ c = (none, a₀.size) ∧ D st')) (Q := fun c st' => c = (none, a₀.size) ∧ D st') ?_ ?_ (.inl ⟨rfl, rfl, rfl⟩)) ?_)
  · rintro x c st' _ hx (⟨rfl, rfl, rfl⟩ | ⟨hx1, rfl, hD⟩)
    · dsimp only
      rw [if_neg (by omega)]
      simp only [Nat.sub_zero, Nat.zero_add]
      refine wpS_bind (count_run hC nd b h2 h01 fun m hm2 hm hu hor => ?_)
      dsimp only
      by_cases hlt : m < mr
      · have h64 : a₀.size < 64 := by
          rcases hcase with z | z
          · exact z
          · rcases hor with z2 | z2
            · omega
            · have := z (m - 1) m (by omega) (by omega)
              omega
        have hms := hmr1 h64
        rw [if_pos hlt]
        refine wpS_bind (wpS_lift (wpAny_rule ⟨rfl, ?_⟩))
        subst hms
        simp only [Nat.min_self]
        refine wpS_bind (bin_sort hC nd (Nat.le_refl _) hm b hu fun st3 b3 hu3 => ?_)
        simp only [Bool.not_true, Bool.false_eq_true, if_false]
        refine wpS_bind (wpS_get ?_)
        rw [show (pendingOf st3).back? = none by rw [b3.pend]; rfl]
        exact wpS_bind (wpS_modify (wpS_pure (.inr ⟨by omega, rfl, push st3 b3 hu3⟩)))
      · rw [if_neg hlt]
        have hms : m = a₀.size := by
          rcases hor with z2 | z2
          · exact z2
          · rcases hcase with z | z
            · have := hmr1 z; omega
            · rcases Nat.lt_or_ge m a₀.size with z3 | z3
              · have := z (m - 1) m (by omega) z3
                omega
              · omega
        subst hms
        refine wpS_bind (wpS_get ?_)
        rw [show (pendingOf st').back? = none by rw [b.pend]; rfl]
        exact wpS_bind (wpS_modify (wpS_pure (.inr ⟨by omega, rfl, push st' b hu⟩)))
    · dsimp only
      rw [if_pos (Nat.le_refl _)]
      exact wpS_pure ⟨rfl, hD⟩
  · rintro c st' (⟨hx, _, _⟩ | ⟨_, hc, hD⟩)
    · omega
    · exact ⟨hc, hD⟩
  · rintro c st' ⟨rfl, hD⟩
    dsimp only
    refine wpS_bind (wpS_mono (wpS_forRange (I := fun _ c st'' => st'' = st' ∧ c = (none, ())) (Q := fun c st'' => st'' = st' ∧ c = (none, ())) ?_ (fun _ _ hh => hh) ⟨rfl, rfl⟩) ?_)
    · rintro x c st'' _ _ ⟨rfl, rfl⟩
      refine wpS_bind (wpS_get ?_)
      rw [if_pos (by rw [hD.2.2.1]; exact Nat.le_refl 1)]
      exact wpS_pure ⟨rfl, rfl⟩
    · rintro c st'' ⟨rfl, rfl⟩
      exact wpS_pure (h _ hD.1 hD.2.1 hD.2.2.2)
end
end L2

set_option Elab.async false
set_option linter.all false
set_option maxRecDepth 100000
set_option maxHeartbeats 4000000
/-! sorted: the shell; lists of ints with unlike heads; tuples whose words rise -/
namespace L2
open PySem PyProof.Rows PySem.SeqAt
section
variable {prog : Program} {w : World} {A : Around} {E : Value → Shared → Prop} {s : Shared} {key : Value → Nat} {knd : SortKind}
theorem mapM_each {α β : Type} {M : Model} {f : α → Sem β} (g : α → β) : ∀ (vs : List α) (Q : List β → Shared → Prop), (∀ v ∈ vs, ∀ Q : β → Shared → Prop, Q (g v) s → wpAny M A (f v) Q E s) → Q (vs.map g) s → wpAny M A (vs.mapM f) Q E s
  | [], Q, _, h => by rw [List.mapM_nil]; exact wpAny_pure h
  | v :: vs, Q, hf, h => by
    rw [List.mapM_cons]
    exact wpAny_bind (hf v (by simp) _ (wpAny_bind (mapM_each g vs _ (fun x hx => hf x (by simp [hx])) (wpAny_pure h))))
theorem first_eq (v : Value) : firstOfTuple' v = (typeOf v >>= fun t => if (t != .type "tuple") = true then pure none else Builtin.List.listItems v >>= fun xs => pure xs[0]?) := rfl
/-- keys that are lists -/
theorem kind_lists {vs : List Value} {Q : SortKind → Shared → Prop} (hne : vs ≠ []) (ht : ∀ v ∈ vs, s.TypeIs v "list") (h : Q oneType' s) : wpAny (model prog w) A (keyKind' vs.toArray) Q E s := by
  rw [keyKind'_eq, List.mapM_toArray, bind_map_left]
  refine wpAny_bind (mapM_each (fun _ => none) vs _ (fun v hv Q q => ?_) ?_)
  · rw [first_eq]
    refine wpAny_bind (wpAny_typeOf (ht v hv) ?_)
    rw [if_pos (by decide)]
    exact wpAny_pure q
  obtain ⟨v, r, rfl⟩ := List.exists_cons_of_ne_nil hne
  rw [if_neg (by simp)]
  rw [if_neg (by simp)]
  rw [oneTypeOnly'_eq, List.mapM_toArray]
  simp only [bind_map_left, bind_assoc]
  refine wpAny_bind (mapM_each (fun _ => Value.type "list") (v :: r) _ (fun v hv Q q => wpAny_typeOf (ht v hv) q) ?_)
  have h0 : ((v :: r).map fun _ => Value.type "list").toArray[0]? = some (Value.type "list") := by simp
  have hall : (((v :: r).map fun _ => Value.type "list").toArray.all fun x => x == Value.type "list") = true := by
    rw [List.all_toArray, List.all_map, List.all_eq_true]
    intro _ _
    rfl
  rw [h0]
  simp only [hall, if_true, pure_bind, Option.isSome_some]
  exact wpAny_pure h
/-- oneLt of two lists, unlike first at k -/
theorem one_lt {l b : Addr} {xs ys : Array Value} {Q : Bool → Shared → Prop} (hl : s.heap.IsList l xs) (hb : s.heap.IsList b ys) (hu : A.units < cLine) (k : Nat) (hk1 : k < xs.size) (hk2 : k < ys.size) {r : Bool}
    (he : ∀ j (h1 : j < xs.size) (h2 : j < ys.size), j < k → EqAt A.in1 s xs[j] ys[j] true) (hn : EqAt A.in1 s xs[k] ys[k] false) (hlt : LtAt A.in1 s xs[k] ys[k] r) (h : Q r s) : wpAny (model prog w) A (oneLt' true (.ref l) (.ref b)) Q E s := by
  obtain ⟨⟨cls, dd, data, sl⟩, ho, hc, n, hd⟩ := id hl
  obtain ⟨⟨cls2, dd2, data2, sl2⟩, ho2, hc2, n2, hd2⟩ := id hb
  simp only at hc hd hc2 hd2
  subst hc hd hc2 hd2
  rw [oneLt'_eq]
  simp only [if_true]
  refine wpAny_bind (wpAny_cRoomFor hu ?_)
  refine wpAny_bind (wpAny_callSpecialIfBound?_slot ⟨_, ho, rfl⟩ F.slot_list_lt (call_meets F.slot_list_lt ⟨_, ho, rfl⟩ F.entry_list_lt (F.args_list_lt_2 _ _) (list_lt l b xs ys n n2 dd dd2 sl sl2 k hk1 hk2 r) ⟨ho, ho2, he, hn, hlt, ?_⟩))
  exact wpAny_truthy_bool h
end
end L2

set_option Elab.async false
set_option linter.all false
set_option maxRecDepth 100000
set_option maxHeartbeats 4000000
/-! sorted(..) by numbers: the shell -/
namespace L2
open PySem PyProof.Rows PySem.SeqAt
theorem pairs_list (vs : List Value) : (pairsOf vs).toList = vs.map fun v => (v, v) := by
  unfold pairsOf
  rw [Array.toList_zip]
  induction vs with
  | nil => rfl
  | cons v vs ih =>
    simp only [List.zip_cons_cons, List.map_cons] at ih ⊢
    rw [ih]
theorem pairs_keys (vs : List Value) : (pairsOf vs).toList.map (·.1) = vs := by
  rw [pairs_list, List.map_map]
  exact List.map_id vs
/-- what is wanted of the keys, at any heap that holds this one -/
def SortOk (prog : Program) (w : World) (A : Around) (s : Shared) (vs : List Value) (key : Value → Nat) : Prop :=
  ∃ knd : SortKind, ∀ h6 : Heap, (∀ b o, s.heap.get? b = some o → h6.get? b = some o) →
    (∀ (E : Value → Shared → Prop) (Q : SortKind → Shared → Prop), Q knd { s with heap := h6 } → wpAny (model prog w) A (keyKind' vs.toArray) Q E { s with heap := h6 }) ∧ CmpOk prog w A { s with heap := h6 } knd key vs
theorem out_of {key : Value → Nat} {vs : List Value} {st : SortSt} (hp : (arrOf st).Perm (pairsOf vs)) (hu : Up key (arrOf st) (pairsOf vs).size) :
    ((arrOf st).map (·.2)).toList.Perm vs ∧ (((arrOf st).map (·.2)).toList.map key).Pairwise (· ≤ ·) := by
  have hp' := Array.perm_iff_toList_perm.mp hp
  have same : ∀ p ∈ (arrOf st).toList, p.2 = p.1 := fun p hm => by
    have hm := hp'.mem_iff.mp hm
    rw [pairs_list] at hm
    obtain ⟨v, _, rfl⟩ := List.mem_map.mp hm
    rfl
  have e : ((arrOf st).map (·.2)).toList = (arrOf st).toList.map (·.1) := by
    rw [Array.toList_map]
    exact List.map_congr_left same
  rw [e]
  refine ⟨?_, ?_⟩
  · have := hp'.map (·.1)
    rw [pairs_keys] at this
    exact this
  · rw [List.map_map, List.pairwise_iff_getElem]
    intro i j hi hj hij
    have hsz := hp.size_eq
    have li : i < (arrOf st).size := by simpa using hi
    have lj : j < (arrOf st).size := by simpa using hj
    have h := hu i j (by omega) (by omega)
    unfold kn at h
    rw [getElem?_pos _ i li, getElem?_pos _ j lj] at h
    simpa using h
section
variable {prog : Program} {w : World} {A : Around} {E : Value → Shared → Prop} {s : Shared} {key : Value → Nat}
theorem sort_shell {a : Addr} {vs : List Value} {n : Nat} {P : Fin → Shared → Prop} (ho : s.heap.get? a = some (seqObj "list" vs.toArray n)) (hz : vs.length ≤ sizeLine)
    (hS : 2 ≤ vs.length → ∃ knd : SortKind, ∀ h6 : Heap, (∀ b o, b ≠ a → s.heap.get? b = some o → h6.get? b = some o) →
      (∀ (E : Value → Shared → Prop) (Q : SortKind → Shared → Prop), Q knd { s with heap := h6 } → wpAny (model prog w) A (keyKind' vs.toArray) Q E { s with heap := h6 }) ∧ CmpOk prog w A { s with heap := h6 } knd key vs)
    (nd : (vs.map key).Nodup) (h01 : ∀ x y r, vs = x :: y :: r → key x < key y) (hcase : vs.length < 64 ∨ (vs.map key).Pairwise (· ≤ ·))
    (h : ∀ out : Array Value, out.toList.Perm vs → (out.toList.map key).Pairwise (· ≤ ·) → P (.done (.ret .none)) { s with heap := sortedHeap s.heap a vs out }) :
    wpAny (model prog w) A (Builtin.«list.sort» ⟨[.ref a], []⟩) P E s := by
  rw [list_sort_plain]
  have ha : a < s.heap.objs.size := Heap.lt_size ho
  have hsz : vs.toArray.size = vs.length := by simp
  refine wpAny_bind (listItems_at ho rfl (wpAny_bind (listUpdate_at ho rfl ?_ (by rw [hsz]; exact hz) (Nat.zero_le _))))
  obtain ⟨e1, ho1⟩ : ∃ e1, (s.heap.update a (Obj.mapSeq fun _ => #[])).get? a = some (seqObj "list" #[] e1) := ⟨_, get?_update_seq ho (fun _ => #[])⟩
  refine wpAny_bind (seqEpoch_at ho1 rfl (wpAny_bind (wpAny_newTuple (wpAny_bind (wpAny_newList (wpAny_holding ?_))) (by simpa using hz))))
  generalize hh6 : ((s.heap.update a (Obj.mapSeq fun _ => #[])).push (seqObj "tuple" vs.toArray 0)).push (seqObj "list" #[] 0) = h6
  have old : ∀ b, b < s.heap.objs.size → h6.get? b = (s.heap.update a (Obj.mapSeq fun _ => #[])).get? b := fun b hb => by
    rw [← hh6, Heap.get?_push_ne _ _ _ (by rw [size_push', Heap.size_update]; exact Nat.ne_of_lt (Nat.lt_succ_of_lt hb)), Heap.get?_push_ne _ _ _ (by rw [Heap.size_update]; exact Nat.ne_of_lt hb)]
  have ho6 : h6.get? a = some (seqObj "list" #[] e1) := (old a ha).trans ho1
  have kept : ∀ b o, b ≠ a → s.heap.get? b = some o → h6.get? b = some o := fun b o hb e => by
    rw [old b (Heap.lt_size e), Heap.get?_update_other _ _ (Ne.symm hb)]
    exact e
  show wpAny (model prog w) A _ P E { s with heap := h6 }
  dsimp only
  have last : ∀ st' : SortSt, (arrOf st').Perm (pairsOf vs) → Up key (arrOf st') (pairsOf vs).size → P (.done (.ret .none)) { s with heap := h6.update a (Obj.mapSeq fun _ => (arrOf st').map (·.2)) } := fun st' hp hu => by
    obtain ⟨g1, g2⟩ := out_of hp hu
    rw [← hh6]
    exact h _ g1 g2
  have size_out : ∀ st' : SortSt, (arrOf st').Perm (pairsOf vs) → ((arrOf st').map (·.2)).size ≤ sizeLine + 1 := fun st' hp => by
    rw [Array.size_map, hp.size_eq, pairsOf_size]
    omega
  by_cases h2 : vs.toArray.size < 2
  · rw [if_pos h2, if_pos h2]
    refine wpAny_bind (wpAny_pure ?_)
    rw [StateT.run_pure]
    refine wpAny_bind (wpAny_pure ?_)
    dsimp only
    refine wpAny_bind (seqEpoch_at ho6 rfl (wpAny_bind (listUpdate_at ho6 rfl ?_ (Nat.zero_le _) (size_out (SortSt.mk' general' (vs.toArray.zip vs.toArray) #[] 7 none) (Array.Perm.refl _)))))
    simp only [bne_self_eq_false, Bool.false_eq_true, if_false]
    refine wpAny_pure (last (SortSt.mk' general' (vs.toArray.zip vs.toArray) #[] 7 none) (Array.Perm.refl _) fun i j hij hj => ?_)
    rw [pairsOf_size] at hj
    have : i = j := by omega
    subst this
    exact Nat.le_refl _
  · rw [if_neg h2, if_neg h2]
    have h2' : 2 ≤ vs.length := by omega
    obtain ⟨knd, hk⟩ := hS h2'
    obtain ⟨k1, k2⟩ := hk h6 kept
    refine wpAny_bind (k1 _ _ ?_)
    have psz := pairsOf_size vs
    have nd' : ((pairsOf vs).toList.map fun p => key p.1).Nodup := by
      have : (pairsOf vs).toList.map (fun p => key p.1) = vs.map key := by rw [← pairs_keys vs, List.map_map, pairs_keys]; rfl
      rw [this]
      exact nd
    have kn_at : ∀ i (hi : i < vs.length), kn key (arrOf (SortSt.mk' knd (vs.toArray.zip vs.toArray) #[] 7 none)) i = key vs[i] := fun i hi => by
      show kn key (pairsOf vs) i = _
      have e : (pairsOf vs)[i]? = some (vs[i], vs[i]) := by
        have : (pairsOf vs).toList[i]? = some (vs[i], vs[i]) := by rw [pairs_list, List.getElem?_map, List.getElem?_eq_getElem hi]; rfl
        simpa using this
      unfold kn
      rw [e]
    have run := sort_runs (prog := prog) (w := w) (A := A) (E := E) (s := { s with heap := h6 }) (key := key) (knd := knd) (a₀ := pairsOf vs) (st := SortSt.mk' knd (vs.toArray.zip vs.toArray) #[] 7 none)
      (Q := fun _ st' => (arrOf st').Perm (pairsOf vs) ∧ failedOf st' = none ∧ Up key (arrOf st') (pairsOf vs).size) (by rw [pairs_keys]; exact k2) nd' ⟨Array.Perm.refl _, rfl, rfl, rfl⟩ (by omega) ?_ ?_ (fun st' a1 a2 a3 => ⟨a1, a2, a3⟩)
    · refine wpAny_bind (wpAny_mono run ?_ fun _ _ e => e)
      rintro ⟨⟨⟩, st'⟩ s' ⟨rfl, hp, hf, hu⟩
      dsimp only
      refine wpAny_bind (seqEpoch_at ho6 rfl (wpAny_bind (listUpdate_at ho6 rfl ?_ (Nat.zero_le _) (size_out st' hp))))
      rw [hf]
      simp only [bne_self_eq_false, Bool.false_eq_true, if_false]
      exact wpAny_pure (last st' hp hu)
    · rw [kn_at 0 (by omega), kn_at 1 (by omega)]
      obtain ⟨x, y, r, hv⟩ : ∃ x y r, vs = x :: y :: r := by
        match vs, h2' with
        | x :: y :: r, _ => exact ⟨x, y, r, rfl⟩
      have g := h01 x y r hv
      have e0 : vs[0] = x := by simp [hv]
      have e1 : vs[1] = y := by simp [hv]
      rw [e0, e1]
      exact g
    · rcases hcase with z | z
      · exact .inl (by omega)
      · refine .inr fun i j hij hj => ?_
        have hj' : j < vs.length := by omega
        rw [kn_at i (by omega), kn_at j hj']
        rcases Nat.lt_or_ge i j with q | q
        · have := List.pairwise_iff_getElem.mp z i j (by simp; omega) (by simp; omega) q
          simpa using this
        · have : i = j := by omega
          subst this
          exact Nat.le_refl _
theorem sorted_shell {l : Addr} {vs : List Value} {Q : Value → Shared → Prop} (hl : s.heap.IsList l vs.toArray) (hz : vs.length ≤ sizeLine) (hS : 2 ≤ vs.length → SortOk prog w A.in1.in1 s vs key)
    (nd : (vs.map key).Nodup) (h01 : ∀ x y r, vs = x :: y :: r → key x < key y) (hcase : vs.length < 64 ∨ (vs.map key).Pairwise (· ≤ ·))
    (h : ∀ out : Array Value, out.toList.Perm vs → (out.toList.map key).Pairwise (· ≤ ·) → Q (.ref (s.heap.objs.size + 1)) { s with heap := sortedAll s.heap vs out }) :
    wpAny (model prog w) A (call (.builtin "sorted") [.ref l]) Q E s := by
  refine Calls.call_function_entry kind_sorted plain_sorted entry_sorted (args_sorted1 _) ?_
  unfold Builtin.«sorted»
  refine wpAny_bind (m := checkCount "sorted" 1 1 _) (wpAny_pure (wpAny_bind (collect_list hl ?_ hz)))
  have hsz : ((s.heap.push (seqObj "list" #[] 0)).update s.heap.objs.size (Obj.mapSeq (· ++ vs.toArray))).objs.size = s.heap.objs.size + 1 := by rw [Heap.size_update, size_push']
  refine wpAny_bind (wpAny_newList ?_ hz)
  generalize hh7 : ((s.heap.push (seqObj "list" #[] 0)).update s.heap.objs.size (Obj.mapSeq (· ++ vs.toArray))).push (seqObj "list" vs.toArray 0) = h7
  have hoL : h7.get? (s.heap.objs.size + 1) = some (seqObj "list" vs.toArray 0) := by
    rw [← hh7, ← hsz]
    exact Heap.get?_push_size _ rfl
  have kept : ∀ b o, s.heap.get? b = some o → h7.get? b = some o := fun b o e => by
    have hb := Heap.lt_size e
    rw [← hh7, Heap.get?_push_ne _ _ _ (by rw [hsz]; exact Nat.ne_of_lt (Nat.lt_succ_of_lt hb)), Heap.get?_update_other _ _ (Nat.ne_of_gt hb)]
    exact Heap.get?_push_of_some _ e
  show wpAny _ _ _ _ _ { s with heap := h7 }
  rw [hsz]
  refine wpAny_bind (wpAny_holding (wpAny_call_entry slot_list_sort ⟨_, hoL, rfl⟩ entry_list_sort (sort_shell (key := key) (s := { s with heap := h7 }) hoL hz (fun h2 => ?_) nd h01 hcase fun out a1 a2 => ⟨_, rfl, ?_⟩) (args_list_sort _)))
  · obtain ⟨knd, hk⟩ := hS h2
    exact ⟨knd, fun h6 k6 => hk h6 fun b o e => k6 b o (fun z => by
      have := Heap.lt_size e
      rw [z] at this
      exact absurd this (Nat.not_lt.mpr (Nat.le_succ _))) (kept b o e)⟩
  · rw [← hh7]
    exact wpAny_pure ⟨_, rfl, h out a1 a2⟩
end
end L2

set_option Elab.async false
set_option linter.all false
set_option maxRecDepth 100000
set_option maxHeartbeats 4000000
/-! sorted(..) in the layer -/
namespace L2
open PySem PyProof.Rows PySem.SeqAt
section
variable {X : Cx}
theorem vals_refs : ∀ {as : List Addr} {us : List Value}, Vals (as.map V.ref) us → us = as.map Value.ref
  | [], _, .nil => rfl
  | a :: as, _, .cons r t => by
    have r : _ = Value.ref a := r
    rw [r, vals_refs t]
    rfl
theorem refs_vals : ∀ as : List Addr, Vals (as.map V.ref) (as.map Value.ref)
  | [] => .nil
  | a :: as => .cons rfl (refs_vals as)
def adr : Value → Addr
  | .ref a => a
  | _ => 0
theorem perm_refs {as : List Addr} {out : List Value} (h : out.Perm (as.map Value.ref)) : ∃ as' : List Addr, out = as'.map Value.ref ∧ as'.Perm as := by
  refine ⟨out.map adr, ?_, ?_⟩
  · rw [List.map_map]
    conv => lhs; rw [← List.map_id out]
    apply List.map_congr_left
    intro v hv
    obtain ⟨a, _, rfl⟩ := List.mem_map.mp (h.mem_iff.mp hv)
    rfl
  · have := h.map adr
    rw [List.map_map] at this
    have e : as.map (adr ∘ Value.ref) = as := by
      conv => rhs; rw [← List.map_id as]
      rfl
    rw [e] at this
    exact this
/-- oneLt of two lists of ints, unlike first behind pre -/
theorem ints_one_lt {prog : Program} {w : World} {A : Around} {E : Value → Shared → Prop} {s : Shared} {l b : Addr} {pre r1 r2 : List Int} {c d : Int} {us vs : List Value} {Q : Bool → Shared → Prop} (hl : s.heap.IsList l us.toArray) (hb : s.heap.IsList b vs.toArray)
    (v1 : Vals ((pre ++ c :: r1).map V.int) us) (v2 : Vals ((pre ++ d :: r2).map V.int) vs) (hne : c ≠ d) (hu : A.units < cLine) (h : Q (decide (c < d)) s) : wpAny (model prog w) A (oneLt' true (.ref l) (.ref b)) Q E s := by
  have l1 := v1.length
  have l2 := v2.length
  rw [List.length_map, List.length_append, List.length_cons] at l1 l2
  have k1 : pre.length < us.length := by omega
  have k2 : pre.length < vs.length := by omega
  obtain ⟨n1, t1, e1, f1⟩ := ints_at v1 (i := pre.length) k1
  obtain ⟨n2, t2, e2, f2⟩ := ints_at v2 (i := pre.length) k2
  have g1 : n1 = c := by simpa using e1.symm
  have g2 : n2 = d := by simpa using e2.symm
  subst g1 g2
  refine one_lt hl hb hu pre.length (by simpa using k1) (by simpa using k2) (r := decide (n1 < n2)) ?_ ?_ ?_ h
  · intro j h1 h2 hj
    obtain ⟨m1, u1, d1, c1⟩ := ints_at v1 (i := j) (by simpa using h1)
    obtain ⟨m2, u2, d2, c2⟩ := ints_at v2 (i := j) (by simpa using h2)
    rw [List.getElem?_append_left hj] at d1 d2
    rw [d1] at d2
    have := Option.some.inj d2
    subst this
    have e := EqAt.int_int (A := A.in1) (s := s) m1 u1 m1 u2
    rw [beq_self_eq_true] at e
    simpa [c1, c2] using e
  · have e := EqAt.int_int (A := A.in1) (s := s) n1 t1 n2 t2
    rw [beq_eq_false_iff_ne.mpr hne] at e
    simpa [f1, f2] using e
  · have e := LtAt.ints (A := A.in1) (s := s) n1 n2 t1 t2
    simpa [f1, f2] using e
theorem isList_kept {h h6 : Heap} {a : Addr} {xs : Array Value} (k : ∀ b o, h.get? b = some o → h6.get? b = some o) (hl : h.IsList a xs) : h6.IsList a xs := by
  obtain ⟨o, ho, r⟩ := hl
  exact ⟨o, k _ _ ho, r⟩
/-- sorted of lists of ints with unlike heads, the first two in order -/
theorem call_sorted_heads (hu : X.A.units + 64 < cLine) : CallR X (.builtin "sorted") (fun xs H Q => ∃ (p : Addr) (as : List Addr) (kf : Addr → Nat), xs = [.ref p] ∧ SqL X.K H p (as.map V.ref) ∧ (∀ a ∈ as, ∃ r : List Int, SqL X.K H a (((kf a : Int) :: r).map V.int)) ∧ (as.map kf).Nodup ∧ as.length < 64 ∧ (∀ x y r, as = x :: y :: r → kf x < kf y) ∧
    ∀ (l : Addr) (as' : List Addr), H l = none → as'.Perm as → (as'.map kf).Pairwise (· ≤ ·) → Q (.ref l) (upd H l (.lst (as'.map V.ref)))) := by
  intro pins s σ H xs us Q I r h
  obtain ⟨p, as, kf, rfl, hq, hA, nd, hlen, h01, q⟩ := h
  obtain ⟨u, rfl, ru⟩ := vals1 r
  cases ru
  obtain ⟨its, rv, pl, hz⟩ := I.list hq
  have hits := vals_refs rv
  subst hits
  have hz64 : (as.map Value.ref).length < 64 := by simpa using hlen
  have km : (as.map Value.ref).map (fun v => kf (adr v)) = as.map kf := by rw [List.map_map]; rfl
  refine sorted_shell (key := fun v => kf (adr v)) pl.isList (by rw [List.length_map] at hz ⊢; exact hz) (fun h2 => ⟨oneType', fun h6 k6 => ⟨fun E Q q => ?_, ?_⟩⟩) (by rw [km]; exact nd) ?_ (.inl hz64) fun out hp hs => ?_
  · refine kind_lists (fun z => ?_) (fun v hv => ?_) q
    · rw [z] at h2
      exact absurd h2 (by decide)
    · obtain ⟨a, ha, rfl⟩ := List.mem_map.mp hv
      obtain ⟨r, hr⟩ := hA a ha
      obtain ⟨its, _, pl2, _⟩ := I.list hr
      exact (isList_kept k6 pl2.isList).typeIs
  · intro E Q x y hx hy hne hQ
    obtain ⟨a, ha, rfl⟩ := List.mem_map.mp hx
    obtain ⟨b, hb, rfl⟩ := List.mem_map.mp hy
    obtain ⟨ra, hra⟩ := hA a ha
    obtain ⟨rb, hrb⟩ := hA b hb
    obtain ⟨i1, v1, p1, _⟩ := I.list hra
    obtain ⟨i2, v2, p2, _⟩ := I.list hrb
    rw [keyLt'_oneType]
    refine ints_one_lt (pre := []) (isList_kept k6 p1.isList) (isList_kept k6 p2.isList) v1 v2 (fun z => hne (by show kf a = kf b; omega)) (by show X.A.units + 1 + 1 < cLine; omega) ?_
    have e : decide ((kf a : Int) < (kf b : Int)) = decide (kf a < kf b) := by
      rw [Bool.eq_iff_iff, decide_eq_true_iff, decide_eq_true_iff]
      omega
    rw [e]
    exact hQ
  · intro x y r e
    match as, e with
    | a :: b :: r', e =>
      injection e with e1 e
      injection e with e2 _
      subst e1 e2
      exact h01 a b r' rfl
  · obtain ⟨as', e, hp'⟩ := perm_refs hp
    have hs' : (as'.map kf).Pairwise (· ≤ ·) := by
      rw [e, List.map_map] at hs
      exact hs
    obtain ⟨ep, he⟩ := sortedAll_at s.heap (as.map Value.ref) out
    have hn : H (s.heap.objs.size + 1) = none := I.hok.fresh (Nat.le_succ _)
    have hl2 : (as'.map V.ref).length ≤ sizeLine := by
      rw [List.length_map, hp'.length_eq]
      simpa using hz
    refine ⟨.ref (s.heap.objs.size + 1), _, I.laid (o := .lst (as'.map V.ref)) (t' := s.toks) (h' := sortedAll s.heap (as.map Value.ref) out) (fun b o q => sortedAll_old q) (Nat.le_succ _) ⟨hl2, out.toList, ep, ?_, by simpa [seqObj] using he⟩, rfl, q _ as' hn hp' hs'⟩
    rw [e]
    exact refs_vals as'
end
end L2

set_option Elab.async false
set_option linter.all false
set_option maxRecDepth 100000
set_option maxHeartbeats 4000000
/-! the program's data in the heap -/
namespace NCP
open PySem L2 NC

abbrev iv (xs : List Int) : List V := xs.map V.int
/-- a list of lists of ints -/
def LL (H : Hp) (p : Addr) (bs : List (List Int)) : Prop := ∃ as : List Addr, H p = some (.lst (as.map V.ref)) ∧ Paired (fun a b => H a = some (.lst (iv b))) as bs
/-- .. that is new, none of its lists twice -/
structure NewLL (H H' : Hp) (p : Addr) (bs : List (List Int)) : Prop where
  same : Same H H'
  np : H p = none
  ex : ∃ as : List Addr, H' p = some (.lst (as.map V.ref)) ∧ Paired (fun a b => H a = none ∧ H' a = some (.lst (iv b))) as bs ∧ as.Nodup
/-- a new list of ints -/
structure NewI (H H' : Hp) (p : Addr) (ns : List Int) : Prop where
  same : Same H H'
  np : H p = none
  at_ : H' p = some (.lst (iv ns))

theorem paired_imp {α β : Type} {F G : α → β → Prop} (f : ∀ a b, F a b → G a b) : ∀ {l₁ : List α} {l₂ : List β}, Paired F l₁ l₂ → Paired G l₁ l₂
  | _, _, .nil => .nil
  | _, _, .cons r t => .cons (f _ _ r) (paired_imp f t)
theorem paired_len {α β : Type} {F : α → β → Prop} : ∀ {l₁ : List α} {l₂ : List β}, Paired F l₁ l₂ → l₁.length = l₂.length
  | _, _, .nil => rfl
  | _, _, .cons _ t => by simp [paired_len t]
theorem paired_get {α β : Type} {F : α → β → Prop} : ∀ {l₁ : List α} {l₂ : List β} {i : Nat} {a : α}, Paired F l₁ l₂ → l₁[i]? = some a → ∃ b, l₂[i]? = some b ∧ F a b
  | _, _, _, _, .nil, e => by simp at e
  | _, _, 0, _, .cons r _, e => by
    have e := Option.some.inj e
    subst e
    exact ⟨_, rfl, r⟩
  | _, _, i + 1, _, .cons _ t, e => paired_get (i := i) t (by simpa using e)
theorem paired_get' {α β : Type} {F : α → β → Prop} : ∀ {l₁ : List α} {l₂ : List β} {i : Nat} {b : β}, Paired F l₁ l₂ → l₂[i]? = some b → ∃ a, l₁[i]? = some a ∧ F a b
  | _, _, _, _, .nil, e => by simp at e
  | _, _, 0, _, .cons r _, e => by
    have e := Option.some.inj e
    subst e
    exact ⟨_, rfl, r⟩
  | _, _, i + 1, _, .cons _ t, e => paired_get' (i := i) t (by simpa using e)
theorem paired_snoc {α β : Type} {F : α → β → Prop} {a : α} {b : β} : ∀ {l₁ : List α} {l₂ : List β}, Paired F l₁ l₂ → F a b → Paired F (l₁ ++ [a]) (l₂ ++ [b])
  | _, _, .nil, h => .cons h .nil
  | _, _, .cons h₁ t, h => .cons h₁ (paired_snoc t h)
theorem LL.mono {H H' : Hp} {p : Addr} {bs : List (List Int)} (s : Same H H') (h : LL H p bs) : LL H' p bs := by
  obtain ⟨as, h1, h2⟩ := h
  exact ⟨as, s _ _ h1, paired_imp (fun a b e => s _ _ e) h2⟩
theorem NewLL.ll {H H' : Hp} {p : Addr} {bs : List (List Int)} (h : NewLL H H' p bs) : LL H' p bs := by
  obtain ⟨as, h1, h2, _⟩ := h.ex
  exact ⟨as, h1, paired_imp (fun a b e => e.2) h2⟩

/-- a def of the module: its function, its name, how it binds -/
structure Dn (K : PySem.W.Frag) (mg : Str → Option Value) (x : Str) (st : Stmt) (ps : List Str) (f : Addr) (fd : FuncData) : Prop where
  fn : Fun K x x st f fd
  at_ : mg x = some (.ref f)
  bd : Binds K fd ps []

/-! ### contracts -/
def spCell (K : PySem.W.Frag) : Sp := fun vs H Q _ => ∃ (a : Addr) (ns : List Int) (k : Nat), vs = [.ref a, .int k] ∧ SqL K H a (iv ns) ∧ Q (.int (ns.getD k 0)) H
def spRises (K : PySem.W.Frag) : Sp := fun vs H Q _ => ∃ (a : Addr) (ns : List Int), vs = [.ref a] ∧ SqL K H a (iv ns) ∧ ns.length ≤ 1000 ∧ ∀ H', Same H H' → Q (.bl (decide (ns.Pairwise (· < ·)))) H'
def spPointsIn : Sp := fun vs H Q _ => ∃ (p : Addr) (bs : List (List Int)), vs = [.ref p] ∧ LL H p bs ∧ bs.flatten.length ≤ 1000 ∧ ∀ l H', NewI H H' l bs.flatten → Q (.ref l) H'
def spIsParting : Sp := fun vs H Q _ => ∃ (n : Int) (p : Addr) (bs : List (List Int)), vs = [.int n, .ref p] ∧ LL H p bs ∧ bs.length ≤ 1000 ∧ bs.flatten.length < 64 ∧ (∀ b ∈ bs, b.length ≤ 1000) ∧ ∀ (b : Bool) (H' : Hp), Same H H' → (b = true ↔ Parting n bs) → Q (.bl b) H'
/-- no refusal is due -/
def spNoRefuse : Sp := fun vs H Q _ => ∃ (n : Int) (p : Addr) (bs : List (List Int)), vs = [.int n, .ref p] ∧ LL H p bs ∧ bs.length ≤ 1000 ∧ bs.flatten.length < 64 ∧ (∀ b ∈ bs, b.length ≤ 1000) ∧ Parting n bs ∧ ∀ H', Same H H' → Q .non H'
def spBlockPlaces : Sp := fun vs H Q _ => ∃ (p : Addr) (w : List Nat), vs = [.int w.length, .ref p] ∧ LL H p (zb (gather w)) ∧ w.length ≤ 1000 ∧ ∀ l H', NewI H H' l (zl (canon w)) → Q (.ref l) H'
def spFirstCrossing (K : PySem.W.Frag) : Sp := fun vs H Q _ => ∃ (a : Addr) (w : List Nat), vs = [.ref a] ∧ SqL K H a (iv (zl w)) ∧ w.length ≤ 1000 ∧ (Free w → ∀ H', Same H H' → Q .non H') ∧
  ∀ (t a b c d : Nat) (H' : Hp), IsCross w a b c d → Same H H' → H t = none → H' t = some (.tup [.int a, .int b, .int c, .int d]) → Q (.ref t) H'
def spNoCross : Sp := fun vs H Q _ => ∃ (p : Addr) (w : List Nat), vs = [.int w.length, .ref p] ∧ LL H p (zb (gather w)) ∧ w.length ≤ 1000 ∧ Free w ∧ ∀ H', Same H H' → Q .non H'
/-- refuse_unless_free: nothing is refused -/
def spFree1 : Sp := fun vs H Q _ => ∃ (p : Addr) (w : List Nat), vs = [.int w.length, .ref p] ∧ LL H p (zb (gather w)) ∧ w.length ≤ 10 ∧ Free w ∧ ∀ H', Same H H' → Q .non H'
def spGathered (K : PySem.W.Frag) : Sp := fun vs H Q _ => ∃ (a : Addr) (w : List Nat), vs = [.ref a] ∧ SqL K H a (iv (zl w)) ∧ w.length ≤ 1000 ∧ ∀ p H', NewLL H H' p (zb (gather w)) → Q (.ref p) H'
def spFreeBy (K : PySem.W.Frag) : Sp := fun vs H Q _ => ∃ (a : Addr) (ns : List Int) (k n : Nat), vs = [.ref a, .int k, .int n] ∧ SqL K H a (iv ns) ∧ n ≤ 1000 ∧ ∀ p H', NewLL H H' p (zb (gather (freeWord (cells ns k n)))) → Q (.ref p) H'
def spWhole : Sp := fun vs H Q _ => ∃ (i : Int), vs = [.int i] ∧ Q (.bl true) H
def spLaw (K : PySem.W.Frag) : Sp := fun vs H Q _ => ∃ (a : Addr) (ns : List Int), vs = [.ref a] ∧ SqL K H a (iv ns) ∧ ns.length ≤ 63 ∧ ∀ H', Q (.bl true) H'
end NCP

set_option Elab.async false
set_option linter.all false
set_option maxRecDepth 100000
set_option maxHeartbeats 4000000
namespace NCP
open PySem L2 NC
theorem refs_get {as : List Addr} {i : Nat} {x : V} (h : (as.map V.ref)[i]? = some x) : ∃ a, as[i]? = some a ∧ x = .ref a := by
  rw [List.getElem?_map] at h
  obtain ⟨a, e, rfl⟩ := Option.map_eq_some_iff.mp h
  exact ⟨a, e, rfl⟩
theorem line_of {n : Nat} (h : n ≤ 1000) : n ≤ sizeLine := Nat.le_of_lt (small1000 h)
theorem take_succ_of {α : Type} {l : List α} {i : Nat} {x : α} (h : l[i]? = some x) : l.take (i + 1) = l.take i ++ [x] := by
  rw [List.take_add_one, h]; rfl

theorem nd_block : (["block"] : List Str).Nodup := by decide +kernel
structure GBlt (mg : Str → Option Value) : Prop where
  all : mg "all" = none
  zip : mg "zip" = none
  len : mg "len" = none
  sorted : mg "sorted" = none
  list : mg "list" = none
  range : mg "range" = none
  enum : mg "enumerate" = none
  max : mg "max" = none
  set : mg "set" = none
  isi : mg "isinstance" = none
  int : mg "int" = none
  bool : mg "bool" = none
  tuple : mg "tuple" = none
  sum : mg "sum" = none
theorem ixN_nat {n k : Nat} (h : k < n) : ixN n (k : Int) = some k := by
  unfold ixN
  rw [if_pos (by omega), if_pos (by omega)]
  simp
theorem rep_zero (n : Nat) : (List.replicate n [V.int 0]).flatten = iv (zl (List.replicate n 0)) := by
  induction n with
  | zero => rfl
  | succ n ih =>
    rw [List.replicate_succ, List.flatten_cons, ih, List.replicate_succ]
    rfl
theorem iv_set (L : List Nat) (p v : Nat) : (iv (zl L)).set p (.int v) = iv (zl (L.set p v)) := by
  unfold iv zl
  rw [List.map_set, List.map_set]
theorem iv_get {b : List Nat} {k : Nat} {x : V} (h : (iv (zl b))[k]? = some x) : ∃ p, b[k]? = some p ∧ x = .int (p : Int) := by
  rw [List.getElem?_map, List.getElem?_map] at h
  cases e : b[k]? with
  | none => rw [e] at h; cases h
  | some p =>
    rw [e] at h
    exact ⟨p, rfl, (Option.some.inj h).symm⟩
theorem iv_of {b : List Nat} {k p : Nat} (h : b[k]? = some p) : (iv (zl b))[k]? = some (.int (p : Int)) := by
  rw [List.getElem?_map, List.getElem?_map, h]
  rfl
theorem zb_get {bs : List (List Nat)} {i : Nat} {b : List Int} (h : (zb bs)[i]? = some b) : ∃ c, bs[i]? = some c ∧ b = zl c := by
  rw [List.getElem?_map] at h
  cases e : bs[i]? with
  | none => rw [e] at h; cases h
  | some c =>
    rw [e] at h
    exact ⟨c, rfl, (Option.some.inj h).symm⟩

theorem parting_ok {wd : List Nat} (h : wd.length ≤ 10) : Parting (wd.length : Int) (zb (gather wd)) := parting_gather h
theorem flat_len (wd : List Nat) : (zb (gather wd)).flatten.length = wd.length := by
  have e : (zb (gather wd)).flatten = zl (gather wd).flatten := by simp [zb, zl, List.map_flatten]
  rw [e, List.length_map, (gather_perm wd).length_eq, List.length_range]
theorem blocks_len (wd : List Nat) : (zb (gather wd)).length ≤ wd.length := by
  rw [List.length_map, gather_length]
  have h : ∀ l : List Nat, (marks l).length ≤ l.length := by
    intro l
    induction l using snoc_induction with
    | h0 => simp [marks]
    | h1 l m ih =>
      rw [marks_snoc, addMark]
      split
      · simp; omega
      · simp; omega
  exact h wd
theorem mem_flatten_len {b : List Int} : ∀ {bs : List (List Int)}, b ∈ bs → b.length ≤ bs.flatten.length
  | x :: r, h => by
    rw [List.flatten_cons, List.length_append]
    rcases List.mem_cons.mp h with rfl | h
    · omega
    · have := mem_flatten_len h; omega
theorem block_len (wd : List Nat) : ∀ b ∈ zb (gather wd), b.length ≤ wd.length := by
  intro b hb
  rw [← flat_len wd]
  exact mem_flatten_len hb

theorem paired_set {α β : Type} {F F' : α → β → Prop} {a : α} {b' : β} : ∀ {as : List α} {bs : List β} {i : Nat}, Paired F as bs → as.Nodup → as[i]? = some a → (∀ x y, x ≠ a → F x y → F' x y) → F' a b' → Paired F' as (bs.set i b')
  | _, _, _, .nil, _, e, _, _ => by simp at e
  | x :: as, y :: bs, 0, .cons r t, nd, e, h1, h2 => by
    have e := Option.some.inj e
    subst e
    rw [List.nodup_cons] at nd
    refine .cons h2 ?_
    have go : ∀ {as : List α} {bs : List β}, Paired F as bs → x ∉ as → Paired F' as bs := by
      intro as bs t
      induction t with
      | nil => intro _; exact .nil
      | cons r t ih => intro hn; exact .cons (h1 _ _ (fun z => hn (by simp [z])) r) (ih fun z => hn (by simp [z]))
    exact go t nd.1
  | x :: as, y :: bs, i + 1, .cons r t, nd, e, h1, h2 => by
    rw [List.nodup_cons] at nd
    have e : as[i]? = some a := by simpa using e
    exact .cons (h1 _ _ (fun z => nd.1 (z ▸ List.mem_of_getElem? e)) r) (paired_set t nd.2 e h1 h2)
theorem paired_mem {α β : Type} {F G : α → β → Prop} : ∀ {as : List α} {bs : List β}, (∀ a b, a ∈ as → F a b → G a b) → Paired F as bs → Paired G as bs
  | _, _, _, .nil => .nil
  | _, _, f, .cons r t => .cons (f _ _ (by simp) r) (paired_mem (fun a b h => f a b (by simp [h])) t)
theorem zl_mem {m : Nat} {ms : List Nat} : (m : Int) ∈ zl ms ↔ m ∈ ms := by
  rw [List.mem_map]
  constructor
  · rintro ⟨k, hk, e⟩
    have : k = m := by omega
    exact this ▸ hk
  · intro h; exact ⟨m, h, rfl⟩
theorem zl_idx (m : Nat) : ∀ ms : List Nat, (zl ms).idxOf (m : Int) = ms.idxOf m
  | [] => rfl
  | k :: ms => by
    show ((k : Int) :: zl ms).idxOf (m : Int) = _
    rw [List.idxOf_cons, List.idxOf_cons, zl_idx m ms]
    have e : ((k : Int) == (m : Int)) = (k == m) := by
      by_cases h : k = m
      · subst h; simp
      · have h' : ¬ ((k : Int) = (m : Int)) := by omega
        rw [beq_eq_false_iff_ne.mpr h, beq_eq_false_iff_ne.mpr h']
    rw [e]
/-- the lists of gathered as they stand -/
structure GMid (H H2 : Hp) (pm pf : Addr) (ms : List Nat) (cs : List (List Nat)) : Prop where
  same : Same H H2
  hm : H pm = none
  hf : H pf = none
  ne : pm ≠ pf
  am : H2 pm = some (.lst (iv (zl ms)))
  ex : ∃ as : List Addr, H2 pf = some (.lst (as.map V.ref)) ∧ Paired (fun a b => H a = none ∧ H2 a = some (.lst (iv b))) as (zb cs) ∧ as.Nodup ∧ pm ∉ as ∧ pf ∉ as
theorem GMid.later {H H2 H3 : Hp} {pm pf : Addr} {ms : List Nat} {cs : List (List Nat)} (g : GMid H H2 pm pf ms cs) (s : Same H2 H3) : GMid H H3 pm pf ms cs := by
  obtain ⟨as, h1, h2, h3⟩ := g.ex
  exact ⟨g.same.trans s, g.hm, g.hf, g.ne, s _ _ g.am, as, s _ _ h1, paired_imp (fun a b e => ⟨e.1, s _ _ e.2⟩) h2, h3⟩

theorem marks_le (l : List Nat) : (marks l).length ≤ l.length := by
  have := blocks_len l
  rw [List.length_map, gather_length] at this
  exact this
theorem fstep_eq (s : List Nat × List Nat) (c : Int) {p : Nat} (hp : (fplace c s.1.length).toNat = p) : fstep s c = ((if p = s.1.length then s.1 ++ [(marks s.2).length] else s.1).take (p + 1), s.2 ++ [(if p = s.1.length then s.1 ++ [(marks s.2).length] else s.1).getD p 0]) := by
  unfold fstep
  rw [hp]
  split
  · rename_i h
    rw [h, List.take_of_length_le (by simp)]
    congr 1
    simp
  · rfl
theorem dedup_marks : ∀ (ws : List Nat) (acc : List Nat), (zl ws).foldl PyProof.Rows.step_dedup (zl acc) = zl (ws.foldl addMark acc)
  | [], acc => rfl
  | x :: ws, acc => by
    show (zl ws).foldl PyProof.Rows.step_dedup (PyProof.Rows.step_dedup (zl acc) (x : Int)) = zl (ws.foldl addMark (addMark acc x))
    have e : PyProof.Rows.step_dedup (zl acc) (x : Int) = zl (addMark acc x) := by
      unfold PyProof.Rows.step_dedup addMark
      have h : ((zl acc).any fun y => y == (x : Int)) = decide (x ∈ acc) := by
        rw [Bool.eq_iff_iff, List.any_eq_true, decide_eq_true_iff]
        constructor
        · rintro ⟨y, hy, e⟩
          rw [beq_iff_eq] at e
          subst e
          exact zl_mem.mp hy
        · intro h; exact ⟨x, zl_mem.mpr h, by simp⟩
      rw [h]
      by_cases hx : x ∈ acc
      · simp [hx]
      · simp [hx, zl]
    rw [e]
    exact dedup_marks ws (addMark acc x)
theorem set_size (ws : List Nat) : (PyProof.Rows.firstMet (fun i => (zl ws).getD i 0) (zl ws).length).length = (marks ws).length := by
  unfold PyProof.Rows.firstMet
  have e : (List.range (zl ws).length).map (fun i => (zl ws).getD i 0) = zl ws := by
    apply List.ext_getElem?
    intro i
    rw [List.getElem?_map]
    by_cases h : i < (zl ws).length
    · rw [List.getElem?_range h, List.getElem?_eq_getElem h]
      simp only [Option.map_some, Option.some.injEq]
      rw [List.getD_eq_getElem?_getD, List.getElem?_eq_getElem h]
      rfl
    · rw [List.getElem?_eq_none_iff.mpr (by simpa using h), List.getElem?_eq_none_iff.mpr (by omega)]
      rfl
  rw [e]
  have := dedup_marks ws []
  rw [show zl ([] : List Nat) = [] from rfl] at this
  rw [this, List.length_map]
  rfl

section
variable {K : PySem.W.Frag}
theorem kit_int_int : PySem.W.kitOne K (.type "int") (.type "int") = some true := by unfold PySem.W.kitOne; rw [if_pos (by decide)]
theorem kit_int_bool : PySem.W.kitOne K (.type "int") (.type "bool") = some false := by
  unfold PySem.W.kitOne
  rw [if_neg (by decide)]
  rfl
end
section
variable {X : Cx} {K : PySem.W.Frag}
theorem rd_LL {H : Hp} {p : Addr} {bs : List (List Int)} (h : LL H p bs) : RdD X H (.ref p) (.list (bs.map fun b => .list (b.map .int))) := by
  obtain ⟨as, h1, h2⟩ := h
  refine rd_list (SqL.of h1) ?_
  have go : ∀ {as : List Addr} {bs : List (List Int)}, Paired (fun a b => H a = some (.lst (iv b))) as bs → Paired (RdD X H) (as.map V.ref) (bs.map fun b => .list (b.map .int)) := by
    intro as bs t
    induction t with
    | nil => exact .nil
    | cons r t ih => exact .cons (rd_ints (SqL.of r)) ih
  exact go h2
def eCopy : TE := fun τ H Q => ∃ (a : Addr) (xs : List V), τ[0]? = some (some (.ref a)) ∧ H a = some (.lst xs) ∧ ∀ l, H l = none → Q (.ref l) (upd H l (.lst xs))
/-- [list(block) for block in blocks] -/
theorem comp_copies {a p : Addr} {bs : List (List Int)} {H1 : Hp} {v : Option V} {Q : VK} (hL : LL H1 a bs) (hp : H1 p = none) (hn : bs.length ≤ 1000) (fin : ∀ H2, NewLL H1 H2 p bs → Q (.ref p) H2) : CW (Itl K a) (gName 0) eCopy p [v] H1 Q := by
  obtain ⟨as, ha, hbs⟩ := hL
  have hal := paired_len hbs
  refine ⟨fun i m ys τ H2 => m = bs.length - i ∧ i ≤ bs.length ∧ (∃ v, τ = [v]) ∧ Same H1 H2 ∧ ∃ hs : List Addr, ys = hs.map V.ref ∧ H2 p = some (.lst ys) ∧ Paired (fun x b => H1 x = none ∧ H2 x = some (.lst (iv b))) hs (bs.take i) ∧ hs.Nodup ∧ p ∉ hs,
    ⟨_, rfl, Nat.zero_le _, ⟨_, rfl⟩, Same.new hp, [], rfl, upd_same, .nil, List.nodup_nil, by simp⟩, ?_⟩
  rintro i m ys τ H2 ⟨rfl, hi, ⟨v, rfl⟩, s2, hs, rfl, h2, hP, hnd, hph⟩
  by_cases hlt : i < bs.length
  · have hia : i < as.length := by omega
    refine .inr ⟨⟨as.map V.ref, .ref as[i], SqL.of (s2 _ _ ha), by rw [List.getElem?_map, List.getElem?_eq_getElem hia]; rfl⟩, ?_⟩
    rintro x H3 ⟨rfl, hx⟩
    obtain ⟨ai, hai, rfl⟩ := refs_get (hx _ (SqL.of (s2 _ _ ha)))
    obtain ⟨b, hb, hab⟩ := paired_get hbs hai
    refine ⟨ai, _, rfl, s2 _ _ hab, fun l hl => ?_⟩
    have s5 := Same.new (o := .lst (iv b)) hl
    have hl1 : H1 l = none := s2.free hl
    have npl : l ≠ p := fun z => by rw [z, h2] at hl; cases hl
    have nin : l ∉ hs := fun z => by
      obtain ⟨k, hk, ek⟩ := List.mem_iff_getElem.mp z
      obtain ⟨c, _, hc⟩ := paired_get hP (i := k) (a := l) (by rw [List.getElem?_eq_getElem hk, ek])
      rw [hl] at hc
      cases hc.2
    have hlen : hs.length = i := by rw [paired_len hP, List.length_take]; omega
    refine ⟨s5 _ _ h2, ?_, bs.length - (i + 1), by omega, rfl, hlt, ⟨_, rfl⟩, ((s2.trans s5).upd hp), hs ++ [l], by simp, upd_same, ?_, ?_, ?_⟩
    · rw [List.length_map, hlen]; exact small1000 (by omega)
    · rw [take_succ_of hb]
      refine paired_snoc (paired_mem (fun x c hx e => ⟨e.1, ?_⟩) hP) ⟨hl1, ?_⟩
      · have n1 : x ≠ p := fun z => hph (z ▸ hx)
        rw [upd_ne n1]
        exact s5 _ _ e.2
      · rw [upd_ne npl, upd_same]
    · rw [List.nodup_append]
      exact ⟨hnd, by simp, fun x hx y hy e => nin (by simp at hy; rw [← hy, ← e]; exact hx)⟩
    · simp [hph, Ne.symm npl]
  · have e : i = bs.length := by omega
    subst e
    refine .inl ⟨⟨as.map V.ref, SqL.of (s2 _ _ ha), by rw [List.length_map]; omega⟩, fin H2 ⟨s2, hp, hs, h2, ?_, hnd⟩⟩
    rw [List.take_length] at hP
    exact hP
end
end NCP

set_option Elab.async false
set_option linter.all false
set_option maxRecDepth 100000
set_option maxHeartbeats 4000000
/-! more contracts: partings drawn freely, crossings looked for, below -/
namespace NCP
open PySem L2 NC
theorem natMod (z : Int) (m : Nat) (h : 0 < m) : ∃ n : Nat, z % (m : Int) = n ∧ n < m :=
  ⟨(z % (m : Int)).toNat, (Int.toNat_of_nonneg (Int.emod_nonneg _ (by omega))).symm, by have := Int.emod_lt_of_pos z (show (0 : Int) < (m : Int) by omega); have := Int.emod_nonneg z (show (m : Int) ≠ 0 by omega); omega⟩
end NCP

set_option Elab.async false
set_option linter.all false
set_option maxRecDepth 100000
set_option maxHeartbeats 4000000
/-! contracts: dicts of blocks, met, joined, good partings -/
namespace NCP
open PySem L2 NC
section
variable {α κ : Type} [DecidableEq α] [DecidableEq κ]
end
/-! ### contracts -/
end NCP

set_option Elab.async false
set_option linter.all false
set_option maxRecDepth 100000
set_option maxHeartbeats 4000000
/-! contracts: counts -/
namespace NCP
open PySem L2 NC
theorem cutV_mid (xs : List V) {lo hi : Nat} (h1 : lo ≤ xs.length) (h2 : hi ≤ xs.length) : cutV xs (some (lo : Int)) (some (hi : Int)) = (xs.drop lo).take (hi - lo) := by
  unfold cutV
  rw [HT.sIx_nat, HT.sIx_nat, Nat.min_eq_left h1, Nat.min_eq_left h2]
def spChoices : Sp := fun vs H Q _ => ∃ n k : Nat, vs = [.int n, .int k] ∧ n ≤ 1000 ∧ k ≤ n ∧ Q (.int (chs n k : Nat)) H
end NCP

set_option Elab.async false
set_option linter.all false
set_option maxRecDepth 100000
set_option maxHeartbeats 4000000
/-! contracts: numbers -/
namespace NCP
open PySem L2 NC
end NCP

set_option Elab.async false
set_option linter.all false
set_option maxRecDepth 100000
set_option maxHeartbeats 4000000
/-! contracts: ways up -/
namespace NCP
open PySem L2 NC
abbrev lens (w : List Nat) : List Nat := (gather w).map List.length
def spWaysIn : Sp := fun vs H Q _ => ∃ k : Nat, vs = [.int k] ∧ 1 ≤ k ∧ k ≤ 10 ∧ ∀ H', Same H H' → Q (.int (tw k : Nat)) H'
def spWaysUp : Sp := fun vs H Q _ => ∃ (p : Addr) (w : List Nat), vs = [.int w.length, .ref p] ∧ LL H p (zb (gather w)) ∧ w.length ≤ 10 ∧ Free w ∧ ∀ H', Same H H' → Q (.int (wup (lens w) : Nat)) H'
theorem tw_le {k : Nat} (h : k ≤ 10) : tw k ≤ 100000000 := by
  have : ∀ k : Fin 11, tw k.1 ≤ 100000000 := by decide +kernel
  exact this ⟨k, by omega⟩
theorem steps_flat : ∀ {bs : List (List Nat)}, (∀ b ∈ bs, b ≠ []) → stepsOf (bs.map List.length) + bs.length = bs.flatten.length
  | [], _ => rfl
  | b :: bs, h => by
    have ih := steps_flat (bs := bs) fun c hc => h c (by simp [hc])
    have hb : 0 < b.length := List.length_pos_iff.mpr (h b (by simp))
    rw [List.flatten_cons, List.length_append, List.length_cons]
    show (b.length - 1) + stepsOf (bs.map List.length) + (bs.length + 1) = _
    omega
theorem steps_lens (w : List Nat) : stepsOf (lens w) + (gather w).length = w.length := by
  have h := steps_flat (bs := gather w) fun b hb => gather_ne hb
  rw [(gather_perm w).length_eq, List.length_range] at h
  exact h
theorem len_flat {b : List Nat} : ∀ {bs : List (List Nat)}, b ∈ bs → b.length ≤ bs.flatten.length
  | c :: bs, h => by
    rw [List.flatten_cons, List.length_append]
    rcases List.mem_cons.mp h with rfl | h
    · omega
    · have := len_flat h
      omega
theorem lens_ok {w : List Nat} {l : Nat} (h : l ∈ lens w) : 1 ≤ l ∧ l ≤ w.length := by
  obtain ⟨b, hb, rfl⟩ := List.mem_map.mp h
  have h1 := List.length_pos_iff.mpr (gather_ne hb)
  have h2 := len_flat hb
  rw [(gather_perm w).length_eq, List.length_range] at h2
  omega
theorem stepsOf_drop {ls : List Nat} {i l : Nat} (h : ls[i]? = some l) : stepsOf (ls.drop i) = (l - 1) + stepsOf (ls.drop (i + 1)) := by
  obtain ⟨hi, e⟩ := List.getElem?_eq_some_iff.mp h
  rw [List.drop_eq_getElem_cons hi, e]
  rfl
theorem wup_ones {ls : List Nat} (h : ∀ l ∈ ls, l = 1) : wup ls = 1 := by
  have key : ∀ (ls : List Nat), (∀ l ∈ ls, l = 1) → prodF pf ls = 1 ∧ prodF tw ls = 1 ∧ stepsOf ls = 0 := by
    intro ls
    induction ls with
    | nil => exact fun _ => ⟨rfl, rfl, rfl⟩
    | cons l ls ih =>
      intro h
      have e := h l (by simp)
      subst e
      obtain ⟨a, b, c⟩ := ih fun l hl => h l (by simp [hl])
      refine ⟨?_, ?_, ?_⟩
      · show pf 1 * prodF pf ls = 1
        rw [a]; rfl
      · show tw 1 * prodF tw ls = 1
        rw [b]; rfl
      · show 0 + stepsOf ls = 0
        omega
  obtain ⟨a, b, c⟩ := key ls h
  have := wup_closed (ls := ls) (by omega)
  rw [a, b, c] at this
  simpa [fct] using this
theorem wup_single {w : List Nat} (h : (gather w).length = w.length) : wup (lens w) = 1 := by
  refine wup_ones fun l hl => ?_
  have hs := steps_lens w
  have h0 : stepsOf (lens w) = 0 := by omega
  have key : ∀ ls : List Nat, stepsOf ls = 0 → ∀ l ∈ ls, l - 1 = 0 := by
    intro ls
    induction ls with
    | nil => intro _ l h; cases h
    | cons x ls ih =>
      intro e l hl
      have e : (x - 1) + stepsOf ls = 0 := e
      rcases List.mem_cons.mp hl with rfl | hl
      · omega
      · exact ih (by omega) l hl
  have h1 := key _ h0 l hl
  have h2 := lens_ok hl
  omega
/-- all that are made by parting a block, in the law's order -/
def allPrs (ls : List Nat) : List (Nat × (Nat × Nat)) := (List.range ls.length).flatMap fun i => (prs (ls.getD i 0)).map fun x => (i, x)
def MadeOf (w u : List Nat) (y : Nat × (Nat × Nat)) : Prop := u.length = w.length ∧ Free u ∧ ∃ k, (lens w)[y.1]? = some k ∧ (lens u).Perm ((lens w).take y.1 ++ [k - (y.2.2 - y.2.1), y.2.2 - y.2.1] ++ (lens w).drop (y.1 + 1))
def spParted : Sp := fun vs H Q _ => ∃ (p : Addr) (w : List Nat), vs = [.ref p] ∧ LL H p (zb (gather w)) ∧ w.length ≤ 10 ∧ Free w ∧
  ∀ (r : Addr) (ps : List Addr) (H' : Hp), Same H H' → H' r = some (.lst (ps.map V.ref)) → ps.length ≤ 2000 → Paired (fun q y => ∃ u, MadeOf w u y ∧ LL H' q (zb (gather u))) ps (allPrs (lens w)) → Q (.ref r) H'
theorem sum_flat {α : Type} (f : α → Nat) : ∀ (n : Nat) (g : Nat → List α), ((((List.range n).flatMap g).map f).sum) = ((List.range n).map fun i => ((g i).map f).sum).sum
  | 0, g => rfl
  | n + 1, g => by
    rw [List.range_succ, List.flatMap_append, List.map_append, List.sum_append, List.map_append, List.sum_append, sum_flat f n g]
    simp
/-- what is told of all of them, together -/
theorem parted_sum {w : List Nat} {us : List (List Nat)} (hz : w.length ≤ 10) (hne : (gather w).length ≠ w.length) (hP : Paired (fun u y => MadeOf w u y) us (allPrs (lens w))) : (us.map fun u => wup (lens u)).sum = wup (lens w) := by
  have hs := steps_lens w
  have hex : ∃ g : Nat × (Nat × Nat) → Nat, (∀ y ∈ allPrs (lens w), ∃ u, MadeOf w u y ∧ g y = wup (lens u)) ∧ us.map (fun u => wup (lens u)) = (allPrs (lens w)).map g := by
    have nd : (allPrs (lens w)).Nodup := by
      have key : ∀ m : Nat, ∀ ls : List Nat, (∀ l ∈ ls, l ≤ 10) → ((List.range m).flatMap fun i => (prs (ls.getD i 0)).map fun x => (i, x)).Nodup := by
        intro m ls hl
        induction m with
        | zero => exact List.nodup_nil
        | succ m ih =>
          rw [List.range_succ, List.flatMap_append, List.nodup_append]
          refine ⟨ih, ?_, ?_⟩
          · rw [List.flatMap_singleton]
            have hp : (prs (ls.getD m 0)).Nodup := by
              have h10 : ls.getD m 0 ≤ 10 := by
                rw [List.getD_eq_getElem?_getD]
                cases e : ls[m]? with
                | none => simp
                | some x => exact hl x (List.mem_of_getElem? e)
              have : ∀ k : Fin 11, (prs k.1).Nodup := by decide +kernel
              exact this ⟨ls.getD m 0, Nat.lt_succ_of_le h10⟩
            exact List.pairwise_map.mpr (hp.imp fun hne z => hne (Prod.mk.inj z).2)
          · rintro x hx y hy rfl
            obtain ⟨i, hi, hx⟩ := List.mem_flatMap.mp hx
            obtain ⟨_, _, rfl⟩ := List.mem_map.mp hx
            rw [List.flatMap_singleton] at hy
            obtain ⟨_, _, e⟩ := List.mem_map.mp hy
            have := List.mem_range.mp hi
            have := (Prod.mk.inj e).1
            omega
      exact key _ _ fun l hl => by have := lens_ok hl; omega
    generalize allPrs (lens w) = L at hP nd ⊢
    have : ∀ {us : List (List Nat)} {L : List (Nat × (Nat × Nat))}, Paired (fun u y => MadeOf w u y) us L → L.Nodup → ∃ g : Nat × (Nat × Nat) → Nat, (∀ y ∈ L, ∃ u, MadeOf w u y ∧ g y = wup (lens u)) ∧ us.map (fun u => wup (lens u)) = L.map g := by
      intro us L t
      induction t with
      | nil => exact fun _ => ⟨fun _ => 0, fun y h => by (cases h), rfl⟩
      | cons r t ih =>
        rename_i u y us L
        intro nd
        rw [List.nodup_cons] at nd
        obtain ⟨g, h1, h2⟩ := ih nd.2
        refine ⟨fun z => if z = y then wup (lens u) else g z, fun z hz => ?_, ?_⟩
        · rcases List.mem_cons.mp hz with rfl | hz
          · exact ⟨u, r, if_pos rfl⟩
          · have : z ≠ y := fun e => nd.1 (e ▸ hz)
            obtain ⟨v, hv, e⟩ := h1 z hz
            exact ⟨v, hv, by rw [← e]; exact if_neg this⟩
        · rw [List.map_cons, List.map_cons, h2]
          congr 1
          · exact (if_pos rfl).symm
          · apply List.map_congr_left
            intro z hz
            have : z ≠ y := fun e => nd.1 (e ▸ hz)
            exact (if_neg this).symm
    exact this hP nd
  obtain ⟨g, h1, h2⟩ := hex
  rw [h2, allPrs, sum_flat]
  have key := ways_sum (ls := lens w) (g := fun i x => g (i, x)) (fun l hl => by have := lens_ok hl; omega) (by omega) (by omega) fun i k x hk hx => by
    have hd : (lens w).getD i 0 = k := by rw [List.getD_eq_getElem?_getD, hk]; rfl
    obtain ⟨u, ⟨_, _, k', hk', hp⟩, e⟩ := h1 (i, x) (List.mem_flatMap.mpr ⟨i, List.mem_range.mpr (List.getElem?_eq_some_iff.mp hk).1, List.mem_map.mpr ⟨x, by rw [hd]; exact hx, rfl⟩⟩)
    rw [hk] at hk'
    cases hk'
    exact ⟨lens u, hp, e⟩
  rw [← key]
  congr 1
  apply List.map_congr_left
  intro i _
  rw [List.map_map]
  rfl
end NCP

set_option Elab.async false
set_option linter.all false
set_option maxRecDepth 100000
set_option maxHeartbeats 4000000
/-! the blocks of a parting made, sorted by their first points -/
namespace NCP
open PySem L2 NC
def toN : V → Nat
  | .int z => z.toNat
  | _ => 0
def blkOf (H : Hp) (a : Addr) : List Nat := match H a with
  | some (.lst xs) => xs.map toN
  | _ => []
theorem blk_of {H : Hp} {a : Addr} {b : List Nat} (h : H a = some (.lst (iv (zl b)))) : blkOf H a = b := by
  unfold blkOf
  rw [h]
  show (iv (zl b)).map toN = b
  clear h
  induction b with
  | nil => rfl
  | cons c b ih => exact congrArg (c :: ·) ih
abbrev IsBlk (H : Hp) (a : Addr) (b : List Nat) : Prop := H a = some (.lst (iv (zl b)))
theorem blks_map {H : Hp} {as : List Addr} {bs : List (List Nat)} (h : Paired (IsBlk H) as bs) : as.map (blkOf H) = bs := by
  induction h with
  | nil => rfl
  | cons r t ih => rw [List.map_cons, blk_of r, ih]
theorem paired_self {α β : Type} {F : α → β → Prop} {g : α → β} : ∀ {as : List α}, (∀ a ∈ as, F a (g a)) → Paired F as (as.map g)
  | [], _ => .nil
  | a :: as, h => .cons (h a (by simp)) (paired_self fun b hb => h b (by simp [hb]))
theorem head_resting {b : List Nat} {low high : Nat} (h1 : 1 ≤ low) (h : b ≠ []) : (resting b low high).headD 0 = b.headD 0 := by
  cases b with
  | nil => exact absurd rfl h
  | cons c b =>
    obtain ⟨l, rfl⟩ : ∃ l, low = l + 1 := ⟨low - 1, by omega⟩
    rfl
theorem head_stretch {b : List Nat} {low high x : Nat} (h : low < high) (hx : b[low]? = some x) : (stretch b low high).headD 0 = x := by
  have : (stretch b low high)[0]? = some x := by
    rw [List.getElem?_drop, List.getElem?_take, if_pos (by omega)]
    exact hx
  cases e : stretch b low high with
  | nil => rw [e] at this; simp at this
  | cons c r =>
    rw [e] at this
    exact Option.some.inj this
theorem firsts2 {w b : List Nat} {i low high : Nat} {b0 b1 : List Nat} {r : List (List Nat)} (hb : (gather w)[i]? = some b) (h1 : 1 ≤ low) (h2 : low < high) (h3 : high ≤ b.length)
    (e : (gather w).take i ++ [resting b low high, stretch b low high] ++ (gather w).drop (i + 1) = b0 :: b1 :: r) : b0.headD 0 < b1.headD 0 := by
  have hf := gather_firsts w
  have hne : b ≠ [] := gather_ne (List.mem_of_getElem? hb)
  have hr : b.Pairwise (· < ·) := gather_rise (List.mem_of_getElem? hb)
  generalize gather w = G at hb e hf
  match i, G, hb, e, hf with
  | 0, g :: G, hb, e, hf =>
    have : g = b := by simpa using hb
    subst this
    injection e with e1 e
    injection e with e2 _
    rw [← e1, ← e2, head_resting h1 hne, head_stretch h2 (List.getElem?_eq_getElem (by omega))]
    cases g with
    | nil => exact absurd rfl hne
    | cons c g =>
      exact (rise_at hr (i := 0) (j := low) rfl (List.getElem?_eq_getElem (by omega))).mp (by omega)
  | 1, g0 :: g :: G, hb, e, hf =>
    have : g = b := by simpa using hb
    subst this
    injection e with e1 e
    injection e with e2 _
    rw [← e1, ← e2, head_resting h1 hne]
    simp only [List.map_cons, List.pairwise_cons] at hf
    exact hf.1 _ (by simp)
  | i + 2, g0 :: g1 :: G, hb, e, hf =>
    injection e with e1 e
    injection e with e2 _
    rw [← e1, ← e2]
    simp only [List.map_cons, List.pairwise_cons] at hf
    exact hf.1 _ (by simp)
  | 1, [g0], hb, _, _ => simp at hb
  | i + 2, [g0], hb, _, _ => simp at hb
  | i + 1, [], hb, _, _ => simp at hb
  | 0, [], hb, _, _ => simp at hb
theorem sorted_made {K : PySem.W.Frag} {H : Hp} {w b : List Nat} {i low high : Nat} {as : List Addr} (hz : w.length ≤ 10) (hF : Free w) (hb : (gather w)[i]? = some b) (h1 : 1 ≤ low) (h2 : low < high) (h3 : high ≤ b.length)
    (hP : Paired (IsBlk H) as ((gather w).take i ++ [resting b low high, stretch b low high] ++ (gather w).drop (i + 1))) :
    (∀ a ∈ as, ∃ r : List Int, SqL K H a ((((blkOf H a).headD 0 : Nat) : Int) :: r |>.map V.int)) ∧ (as.map fun a => (blkOf H a).headD 0).Nodup ∧ as.length < 64 ∧ (∀ x y r, as = x :: y :: r → (blkOf H x).headD 0 < (blkOf H y).headD 0) ∧
    ∀ as' : List Addr, as'.Perm as → (as'.map fun a => (blkOf H a).headD 0).Pairwise (· ≤ ·) → ∃ u, MadeOf w u (i, (low, high)) ∧ Paired (IsBlk H) as' (gather u) := by
  have hG := cut_gather hb h1 h2 h3
  have hm := blks_map hP
  have hone : ∀ a ∈ as, IsBlk H a (blkOf H a) ∧ blkOf H a ≠ [] := fun a ha => by
    obtain ⟨k, hk, ek⟩ := List.mem_iff_getElem.mp ha
    obtain ⟨c, hc, hac⟩ := paired_get hP (i := k) (a := a) (by rw [List.getElem?_eq_getElem hk, ek])
    rw [blk_of hac]
    exact ⟨hac, gather_ne (hG.mem_iff.mpr (List.mem_of_getElem? hc))⟩
  refine ⟨fun a ha => ?_, ?_, ?_, fun x y r e => ?_, fun as' hp hs => ?_⟩
  · obtain ⟨h, hne⟩ := hone a ha
    cases e : blkOf H a with
    | nil => exact absurd e hne
    | cons c r =>
      rw [e] at h
      exact ⟨zl r, SqL.of h⟩
  · have hf := gather_firsts (cutW w (stretch b low high))
    have : (as.map fun a => (blkOf H a).headD 0) = (as.map (blkOf H)).map fun b => b.headD 0 := by rw [List.map_map]; rfl
    rw [this, hm]
    have hn : ((gather (cutW w (stretch b low high))).map fun b => b.headD 0).Nodup := hf.imp fun h => Nat.ne_of_lt h
    exact (hG.map fun b => b.headD 0).nodup_iff.mp hn
  · have hl := paired_len hP
    rw [List.length_append, List.length_append, List.length_take, List.length_drop] at hl
    have hs := steps_lens w
    have : ([resting b low high, stretch b low high] : List (List Nat)).length = 2 := rfl
    omega
  · subst e
    exact firsts2 hb h1 h2 h3 hm.symm
  · have hpm := hp.map (blkOf H)
    rw [hm] at hpm
    obtain ⟨u, hu1, hu2, hu3⟩ := parted_word hF hb h1 h2 h3 hpm (by rw [List.map_map]; exact hs)
    refine ⟨u, ⟨hu1, hu2, b.length, by rw [List.getElem?_map, hb]; rfl, ?_⟩, ?_⟩
    · show ((gather u).map List.length).Perm _
      rw [← hu3]
      refine (hpm.map List.length).trans ?_
      rw [List.map_append, List.map_append, List.map_take, List.map_drop]
      have e1 : (resting b low high).length = b.length - (high - low) := by rw [List.length_append, List.length_take, List.length_drop]; omega
      have e2 : (stretch b low high).length = high - low := by rw [List.length_drop, List.length_take]; omega
      show (_ ++ [(resting b low high).length, (stretch b low high).length] ++ _ : List Nat).Perm _
      rw [e1, e2]
    · rw [← hu3]
      exact paired_self fun a ha => (hone a (hp.mem_iff.mp ha)).1
end NCP

namespace NCP
open PySem L2
def top (i : Nat) : Stmt := PySem.Challenge.pw_nocrossing_k12_whole_ways_up.main.body.getD i (.Pass ⟨0, 0, 0, 0⟩)
abbrev s_Crossing___init__ : Stmt := inClass (top 3) 0
abbrev s_rises : Stmt := top 6
abbrev s_points_in : Stmt := top 7
abbrev s_is_parting : Stmt := top 8
abbrev s_refuse_no_parting : Stmt := top 9
abbrev s_block_places : Stmt := top 10
abbrev s_first_crossing : Stmt := top 11
abbrev s_refuse_crossing : Stmt := top 12
abbrev s_refuse_unless_free : Stmt := top 13
abbrev s_choices : Stmt := top 15
abbrev s_ways_within : Stmt := top 16
abbrev s_ways_up : Stmt := top 17
abbrev s_law_cell_at : Stmt := top 19
abbrev s_law_gathered : Stmt := top 20
abbrev s_law_free_by : Stmt := top 21
abbrev s_law_whole : Stmt := top 22
abbrev s_law_parted : Stmt := top 23
abbrev s_law : Stmt := top 24
end NCP

namespace NCP
open PySem L2 NC
section
variable {CX : CXT} {P : Program} {w : World} {K : PySem.W.Frag} {mg : Str → Option Value} {base : Heap}
theorem sc_cell_at : FnScope ["script", "k"] ["script", "k"] (defScope s_law_cell_at) := ⟨rfl, rfl, rfl, by decide +kernel, rfl, by decide +kernel, by decide +kernel⟩
theorem ok_cell_at {f : Addr} {fd : FuncData} (F : Fun K "_law_cell_at" "_law_cell_at" s_law_cell_at f fd) (gLen : mg "len" = none) : FnOk P w K mg base CX 1 f fd ["script", "k"] (spCell K) := by
  refine F.okX sc_cell_at (fun vs H Q E h => ?_) (fun cdv A outer s H vs Q E hr h => ?_)
  · obtain ⟨a, ns, k, rfl, _⟩ := h
    rfl
  · obtain ⟨a, ns, k, rfl, hS, q⟩ := h
    refine ⟨_, pss_cons (ps_if (pt_cmpR op_lt (pv 1) (pe_callB call_len_seq (by rfl) gLen PySem.boot_len (pa_cons (pv 0) pa_nil)) (nomark _)) (pss_one (ps_ret (pe_ix ix_list (pv 0) (pv 1) (fun _ _ => rfl)))) pss_nil) (pss_one (ps_ret pe_int)), ?_⟩
    refine ⟨_, rfl, _, rfl, a, _, rfl, .inl hS, _, _, rfl, rfl, _, rfl, ?_⟩
    refine iteD (fun hk => ?_) (fun hk => ?_)
    · have hk : k < ns.length := by simpa using hk
      refine ⟨_, rfl, _, rfl, a, _, _, .int ns[k], rfl, rfl, hS, atI_nat (by rw [List.getElem?_map, List.getElem?_eq_getElem hk]; rfl), ?_⟩
      rw [List.getD_eq_getElem?_getD, List.getElem?_eq_getElem hk] at q
      exact q
    · have hk : ¬ k < ns.length := by simpa using hk
      rw [List.getD_eq_getElem?_getD, List.getElem?_eq_none_iff.mpr (by omega)] at q
      exact q
end
end NCP

namespace NCP
open PySem L2 NC
section
variable {CX : CXT} {P : Program} {w : World} {K : PySem.W.Frag} {mg : Str → Option Value} {base : Heap}
def eRises : TE := fun τ H Q => ∃ i j, τ[0]? = some (some (.int i)) ∧ τ[1]? = some (some (.int j)) ∧ Q (.bl (decide (i < j))) H
theorem nd_lh : (["low", "high"] : List Str).Nodup := by decide +kernel
theorem sc_rises : FnScope ["numbers"] ["numbers"] (defScope s_rises) := ⟨rfl, rfl, rfl, by decide +kernel, rfl, by decide +kernel, by decide +kernel⟩
theorem ok_rises {f : Addr} {fd : FuncData} (F : Fun K "rises" "rises" s_rises f fd) (gAll : mg "all" = none) (gZip : mg "zip" = none) : FnOk P w K mg base CX 1 f fd ["numbers"] (spRises K) := by
  refine F.okX sc_rises (fun vs H Q E h => ?_) (fun cdv A outer s H vs Q E hr h => ?_)
  · obtain ⟨a, ns, rfl, _⟩ := h
    rfl
  · obtain ⟨a, ns, rfl, hS, hl, q⟩ := h
    refine ⟨_, pss_one (ps_ret (pe_callB (call_all_bools rfl) (by rfl) gAll PyProof.Rows.boot_all (pa_cons
      (pe_lcomp (g := g2 K 0 1) (te := eRises) rfl (cpS (N := ["low", "high"]) (js := [none, none]) (defScope s_rises) ["numbers"] (by decide +kernel))
        (pi_zip (by rfl) gZip (pa_cons (pv 0) (pa_cons (pe_slice sl_list (pv 0) (po_some pe_int) po_none) pa_nil)))
        (by intros; exact pg_two 0 1 rfl nd_lh rfl rfl rfl rfl)
        (by intros; exact (pe_cmpR op_lt (pv 0) (pv 1) (nomark _)).imp fun τ H Q ⟨i, j, e1, e2, q⟩ => ⟨_, e1, _, e2, _, _, rfl, rfl, q⟩)) pa_nil))), ?_⟩
    refine ⟨_, rfl, _, rfl, 1, rfl, a, _, rfl, hS, fun p1 h1 => ⟨a, p1, rfl, ⟨_, (Same.new h1).seq hS⟩, ⟨_, SqL.of upd_same⟩, fun p2 h2 => ?_⟩⟩
    have e1 : cutV (iv ns) (some (1 : Int)) none = (iv ns).drop 1 := cutV_from (iv ns) 1
    rw [e1] at h2 ⊢
    have s1 := Same.new (o := .lst ((iv ns).drop 1)) h1
    refine comp_fold (J := Itz K a p1) (Hs := upd H p1 (.lst ((iv ns).drop 1))) (ns.length - 1) (fun i => .bl (decide (ns.getD i 0 < ns.getD (i + 1) 0))) (fun τ => ∃ u v, τ = [u, v]) (Same.refl _) h2 ?_ ?_ ?_ ⟨_, _, rfl⟩ ?_ ?_
    · exact Nat.le_trans (Nat.sub_le _ _) (Nat.le_of_lt (small1000 hl))
    · intro i H2 hi s2
      refine ⟨_, _, .int (ns.getD i 0), .int (ns.getD (i + 1) 0), s2.seq (s1.seq hS), SqL.of (s2 _ _ upd_same), ?_, ?_⟩
      · rw [List.getElem?_map, List.getD_eq_getElem?_getD, List.getElem?_eq_getElem (by omega : i < ns.length)]; rfl
      · rw [List.getElem?_drop, List.getElem?_map, List.getD_eq_getElem?_getD, Nat.add_comm, List.getElem?_eq_getElem (by omega : i + 1 < ns.length)]; rfl
    · intro H2 s2
      exact ⟨_, _, s2.seq (s1.seq hS), SqL.of (s2 _ _ upd_same), .inr (by rw [List.length_drop, List.length_map]; exact Nat.le_refl _)⟩
    · rintro i τ H2 x H3 R hi ⟨u, v, rfl⟩ s2 ⟨t, x', y', rfl, ht, rfl, hxy⟩ k
      obtain ⟨hx, hy⟩ := hxy _ _ (s2.seq (s1.seq hS)) (SqL.of (s2 _ _ upd_same))
      have ex : x' = .int (ns.getD i 0) := by
        rw [List.getElem?_map, List.getElem?_eq_getElem (by omega : i < ns.length)] at hx
        rw [List.getD_eq_getElem?_getD, List.getElem?_eq_getElem (by omega : i < ns.length)]
        exact (Option.some.inj hx).symm
      have ey : y' = .int (ns.getD (i + 1) 0) := by
        rw [List.getElem?_drop, List.getElem?_map, Nat.add_comm, List.getElem?_eq_getElem (by omega : i + 1 < ns.length)] at hy
        rw [List.getD_eq_getElem?_getD, List.getElem?_eq_getElem (by omega : i + 1 < ns.length)]
        exact (Option.some.inj hy).symm
      subst ex ey
      exact ⟨t, _, _, rfl, SqT.of upd_same, _, _, rfl, rfl, k _ _ ⟨_, _, rfl⟩ (Same.new ht)⟩
    · intro H2 s2 h3
      refine ⟨p2, (List.range (ns.length - 1)).map fun i => decide (ns.getD i 0 < ns.getD (i + 1) 0), rfl, SqL.of (by rw [h3, List.map_map]; rfl), ?_⟩
      rw [rises_all]
      exact q H2 (s1.trans s2)
end
end NCP

namespace NCP
open PySem L2 NC
section
variable {CX : CXT} {P : Program} {w : World} {K : PySem.W.Frag} {mg : Str → Option Value} {base : Heap}
theorem sc_points_in : FnScope ["blocks", "told", "block"] ["blocks"] (defScope s_points_in) := ⟨rfl, rfl, rfl, by decide +kernel, rfl, by decide +kernel, by decide +kernel⟩
theorem ok_points_in {f : Addr} {fd : FuncData} (F : Fun K "points_in" "points_in" s_points_in f fd) : FnOk P w K mg base CX 1 f fd ["blocks"] spPointsIn := by
  refine F.okX sc_points_in (fun vs H Q E h => ?_) (fun cdv A outer s H vs Q E hr h => ?_)
  · obtain ⟨p, bs, rfl, _⟩ := h
    rfl
  · obtain ⟨p, bs, rfl, hL, hz, q⟩ := h
    obtain ⟨as, hp, hbs⟩ := id hL
    refine ⟨_, pss_cons (ps_set (i := 1) sc_points_in.nd rfl (Or.inl rfl) (pe_lst pa_nil))
      (pss_cons (ps_for PassesOwn.never rfl (pi_list (pv 0)) (pg_name (i := 2) sc_points_in.nd rfl (Or.inl rfl))
        (pss_one (ps_expr (pe_bm PySem.F.plainAttrs_list PySem.F.slot_list_extend PySem.F.type_list_extend mt_extend (pv 1) (pa_cons (pv 2) pa_nil)))))
      (pss_one (ps_ret (pv 1)))), ?_⟩
    refine ⟨Nat.zero_le _, fun l hl => ⟨_, rfl, p, rfl, ⟨_, SqL.of (Same.new hl _ _ hp)⟩, for_list (K := K) (a := p) (xs := as.map V.ref)
      (fun i σ H2 => ∃ v, σ = [some (.ref p), some (.ref l), v] ∧ Same H H2 ∧ H2 l = some (.lst (iv (bs.take i).flatten))) ⟨none, rfl, Same.new hl, upd_same⟩ (fun i σ H2 _ ⟨_, _, s2, _⟩ => SqL.of (s2 _ _ hp)) ?_ ?_⟩⟩
    · rintro i x σ H2 hi ⟨v, rfl, s2, h2⟩
      obtain ⟨a, ha, rfl⟩ := refs_get hi
      obtain ⟨b, hb, hab⟩ := paired_get hbs ha
      have e := take_succ_of hb
      have hlen : ((bs.take i).flatten ++ b).length ≤ bs.flatten.length := by
        have : (bs.take (i + 1)).flatten.length ≤ bs.flatten.length := by
          conv => rhs; rw [← List.take_append_drop (i + 1) bs, List.flatten_append, List.length_append]
          omega
        rw [e, List.flatten_append] at this
        simpa using this
      refine ⟨_, rfl, .inl ⟨rfl, _, SqL.of h2⟩, _, rfl, l, a, _, _, rfl, rfl, h2, s2 _ _ hab, ?_, ?_⟩
      · rw [List.length_map, List.length_map, ← List.length_append]
        exact line_of (Nat.le_trans hlen hz)
      · refine ⟨_, rfl, s2.upd hl, ?_⟩
        rw [upd_same, e, List.flatten_append]
        simp [iv]
    · rintro σ H2 ⟨v, rfl, s2, h2⟩
      refine ⟨_, rfl, q l H2 ⟨s2, hl, ?_⟩⟩
      rw [List.length_map, paired_len hbs, List.take_length] at h2
      exact h2
end
end NCP

namespace NCP
open PySem L2 NC
section
variable {CX : CXT} {P : Program} {w : World} {K : PySem.W.Frag} {mg : Str → Option Value} {base : Heap}
def eOk : TE := fun τ H Q => ∃ (a : Addr) (b : List Int), τ[0]? = some (some (.ref a)) ∧ H a = some (.lst (iv b)) ∧ b.length ≤ 1000 ∧ ∀ H', Same H H' → Q (.bl (decide (b ≠ [] ∧ b.Pairwise (· < ·)))) H'
def eHead : TE := fun τ H Q => ∃ (a : Addr) (b : List Int), τ[0]? = some (some (.ref a)) ∧ H a = some (.lst (iv b)) ∧ b ≠ [] ∧ Q (.int (b.headD 0)) H
theorem sc_is_parting : FnScope ["points", "blocks"] ["points", "blocks"] (defScope s_is_parting) := ⟨rfl, rfl, rfl, by decide +kernel, rfl, by decide +kernel, by decide +kernel⟩
theorem parting_of_checks {n : Int} {bs : List (List Int)} (h0 : 0 ≤ n) (h1 : n ≤ 10) (h2 : ∀ b ∈ bs, b ≠ [] ∧ b.Pairwise (· < ·)) (h3 : (bs.map (fun b => b.headD 0)).Pairwise (· < ·)) {ms : List Int} (hp : ms.Perm bs.flatten) (hs : ms.Pairwise (· ≤ ·)) :
    decide (ms = (List.range n.toNat).map (fun (k : Nat) => (k : Int))) = true ↔ Parting n bs := by
  rw [decide_eq_true_iff, sorted_range hs]
  constructor
  · intro h
    exact ⟨h0, h1, fun b hb => (h2 b hb).1, fun b hb => (h2 b hb).2, h3, hp.symm.trans h⟩
  · intro h
    exact hp.trans h.perm
theorem ok_is_parting {f fR fP : Addr} {fd fdR fdP : FuncData} (hX : CxNo CX) (B : GBlt mg) (F : Fun K "is_parting" "is_parting" s_is_parting f fd) (hmp : ∃ t, mg "MOST_POINTS" = some (.int 10 t))
    (DR : Dn K mg "rises" s_rises ["numbers"] fR fdR) (GR : FnOk P w K mg base CX 1 fR fdR ["numbers"] (spRises K)) (DP : Dn K mg "points_in" s_points_in ["blocks"] fP fdP) (GP : FnOk P w K mg base CX 1 fP fdP ["blocks"] spPointsIn) :
    FnOk P w K mg base CX 2 f fd ["points", "blocks"] spIsParting := by
  obtain ⟨tk, hmp⟩ := hmp
  refine F.okX sc_is_parting (fun vs H Q E h => ?_) (fun cdv A outer s H vs Q E hr h => ?_)
  · obtain ⟨n, p, bs, rfl, _⟩ := h
    rfl
  · obtain ⟨n, p, bs, rfl, hL, hz, hz2, hz3, q⟩ := h
    obtain ⟨as, hp, hbs⟩ := id hL
    have hal := paired_len hbs
    refine ⟨_, pss_cons (ps_if (PW.pt (pw_or (pt_cmpR op_lt (pv 0) pe_int (nomark _)) (pw_or1 (pt_cmpR op_gt (pv 0) (pe_glob (v := .int 10) (by rfl) hmp ⟨_, rfl⟩) (nomark _))))) (pss_one (ps_ret pe_bl)) pss_nil)
      (pss_cons (ps_if (pt_not (pt_val (pe_callB (call_all_bools rfl) (by rfl) B.all PyProof.Rows.boot_all (pa_cons
          (pe_lcomp (g := gName 0) (te := eOk) rfl (cpS (N := ["block"]) (js := [none]) (defScope s_is_parting) ["points", "blocks"] (by decide +kernel)) (pi_list (pv 1))
            (by intros; exact pg_name (i := 0) nd_block rfl (Or.inl rfl) (Or.inr rfl))
            (by
              intros
              refine (pe_and (pe_cmpR op_gt (pe_callB call_len_seq (by rfl) B.len PySem.boot_len (pa_cons (pv 0) pa_nil)) pe_int (nomark _)) (pe_one (pe_call GR hr (by rfl) DR.at_ DR.fn.kp DR.bd .nil (passN hX) (pa_cons (pv 0) pa_nil)))).imp fun τ H Q h => ?_
              obtain ⟨a, b, e, hb, hl, q⟩ := h
              refine ⟨_, e, a, _, rfl, .inl (SqL.of hb), _, _, rfl, rfl, _, rfl, iteD (fun h => ?_) (fun h => ?_)⟩
              · refine ⟨_, e, a, b, rfl, SqL.of hb, hl, fun H' s => ?_⟩
                have hne : b ≠ [] := by rintro rfl; simp at h
                have e2 : decide (b ≠ [] ∧ b.Pairwise (· < ·)) = decide (b.Pairwise (· < ·)) := by simp [hne]
                rw [← e2]
                exact q H' s
              · have hne : b = [] := by
                  cases b with
                  | nil => rfl
                  | cons x r => exact absurd (by simp) h
                have e2 : decide (b ≠ [] ∧ b.Pairwise (· < ·)) = false := by simp [hne]
                rw [← e2]
                exact q H (Same.refl _))) pa_nil)))) (pss_one (ps_ret pe_bl)) pss_nil)
      (pss_cons (ps_if (pt_not (pt_val (pe_call GR hr rfl DR.at_ DR.fn.kp DR.bd .nil (passN hX) (pa_cons
          (pe_lcomp (g := gName 0) (te := eHead) rfl (cpS (N := ["block"]) (js := [none]) (defScope s_is_parting) ["points", "blocks"] (by decide +kernel)) (pi_list (pv 1))
            (by intros; exact pg_name (i := 0) nd_block rfl (Or.inl rfl) (Or.inr rfl))
            (by
              intros
              refine (pe_ix ix_list (pv 0) pe_int (fun _ _ => rfl)).imp fun τ H Q h => ?_
              obtain ⟨a, b, e, hb, hne, q⟩ := h
              refine ⟨_, e, a, _, 0, _, rfl, rfl, SqL.of hb, ?_, q⟩
              cases b with
              | nil => exact absurd rfl hne
              | cons x r => exact atI_nat (j := 0) rfl)) pa_nil)))) (pss_one (ps_ret pe_bl)) pss_nil)
      (pss_one (ps_ret (pe_cmpR (op_eqE enc_int.list hr.units) (pe_callB call_sorted_ints (by rfl) B.sorted PyProof.Rows.boot_sorted (pa_cons (pe_call GP hr rfl DP.at_ DP.fn.kp DP.bd .nil (passN hX) (pa_cons (pv 1) pa_nil)) pa_nil))
        (pe_callTy (call_list_rng rfl) (by rfl) B.list PyProof.Rows.boot_list (pa_cons (pe_callTy call_range1 (by rfl) B.range PyProof.Rows.boot_range (pa_cons (pv 0) pa_nil)) pa_nil)) (nomark _)))))), ?_⟩
    have no : ∀ H', Same H H' → ¬ Parting n bs → Q (.bl false) H' := fun H' s z => q false H' s ⟨(fun z2 => by cases z2), fun z2 => absurd z2 z⟩
    refine ⟨_, rfl, _, _, rfl, rfl, _, rfl, iteD (fun h0 => no H (Same.refl _) fun z => by have := z.lo; omega) fun h0 => ?_⟩
    refine ⟨_, rfl, _, _, rfl, rfl, _, rfl, iteD (fun h1 => no H (Same.refl _) fun z => by have := z.hi; omega) fun h1 => ?_⟩
    -- all the blocks rise
    refine ⟨_, rfl, p, rfl, ⟨_, SqL.of hp⟩, fun p1 hp1 => comp_listI (K := K) (xs := as.map V.ref) (Hs := H) (fun i => .bl (decide (bs.getD i [] ≠ [] ∧ (bs.getD i []).Pairwise (· < ·)))) (fun τ => ∃ v, τ = [v]) (Same.refl _) hp1 (SqL.of hp) (by rw [List.length_map, hal]; exact line_of hz) ⟨_, rfl⟩ ?_ ?_⟩
    · rintro i x τ H2 R hi ⟨v, rfl⟩ s2 k
      obtain ⟨a, ha, rfl⟩ := refs_get hi
      obtain ⟨b, hb, hab⟩ := paired_get hbs ha
      have e : bs.getD i [] = b := by rw [List.getD_eq_getElem?_getD, hb]; rfl
      rw [e] at k
      exact ⟨a, b, rfl, s2 _ _ hab, hz3 b (List.mem_of_getElem? hb), fun H' s3 => k _ H' ⟨_, rfl⟩ s3⟩
    intro H2 s2 h2
    refine ⟨p1, (List.range as.length).map fun i => decide (bs.getD i [] ≠ [] ∧ (bs.getD i []).Pairwise (· < ·)), rfl, SqL.of (by rw [h2, List.length_map, List.map_map]; rfl), _, rfl, ?_⟩
    have eall : ((List.range as.length).map fun i => decide (bs.getD i [] ≠ [] ∧ (bs.getD i []).Pairwise (· < ·))).all id = decide (∀ b ∈ bs, b ≠ [] ∧ b.Pairwise (· < ·)) := by
      rw [Bool.eq_iff_iff, decide_eq_true_iff, List.all_map, List.all_eq_true]
      simp only [List.mem_range, Function.comp, id, decide_eq_true_eq]
      constructor
      · intro h b hb
        obtain ⟨i, hi, e⟩ := List.mem_iff_getElem.mp hb
        have := h i (by omega)
        rw [List.getD_eq_getElem?_getD, List.getElem?_eq_getElem hi] at this
        rw [← e]; exact this
      · intro h i hi
        rw [List.getD_eq_getElem?_getD, List.getElem?_eq_getElem (by omega : i < bs.length)]
        exact h _ (List.getElem_mem _)
    rw [eall]
    refine iteND (fun h3 => no H2 s2 fun z => h3 fun b hb => ⟨z.ne b hb, z.rise b hb⟩) fun h3 => ?_
    -- the first points rise
    have hp2 := s2 _ _ hp
    refine ⟨_, rfl, p, rfl, ⟨_, SqL.of hp2⟩, fun p3 hp3 => comp_listI (K := K) (xs := as.map V.ref) (Hs := H2) (fun i => .int ((bs.getD i []).headD 0)) (fun τ => ∃ v, τ = [v]) (Same.refl _) hp3 (SqL.of hp2) (by rw [List.length_map, hal]; exact line_of hz) ⟨_, rfl⟩ ?_ ?_⟩
    · rintro i x τ H4 R hi ⟨v, rfl⟩ s4 k
      obtain ⟨a, ha, rfl⟩ := refs_get hi
      obtain ⟨b, hb, hab⟩ := paired_get hbs ha
      have e : bs.getD i [] = b := by rw [List.getD_eq_getElem?_getD, hb]; rfl
      rw [e] at k
      exact ⟨a, b, rfl, s4 _ _ (s2 _ _ hab), (h3 b (List.mem_of_getElem? hb)).1, k _ H4 ⟨_, rfl⟩ (Same.refl _)⟩
    intro H4 s4 h4
    have efirst : (List.range (as.map V.ref).length).map (fun i => V.int ((bs.getD i []).headD 0)) = iv (bs.map fun b => b.headD 0) := by
      rw [List.length_map, hal]
      apply List.ext_getElem?
      intro i
      rw [List.getElem?_map, List.getElem?_map, List.getElem?_map]
      by_cases hi : i < bs.length
      · rw [List.getElem?_range hi, List.getElem?_eq_getElem hi]
        simp [hi]
      · rw [List.getElem?_eq_none_iff.mpr (by simpa using hi), List.getElem?_eq_none_iff.mpr (by omega)]
        rfl
    rw [efirst] at h4
    refine ⟨p3, _, rfl, SqL.of h4, by rw [List.length_map]; exact hz, fun H5 s5 => ⟨_, rfl, ?_⟩⟩
    refine iteND (fun h6 => no H5 ((s2.trans s4).trans s5) fun z => h6 z.firsts) fun h6 => ?_
    have s05 := (s2.trans s4).trans s5
    refine ⟨_, rfl, p, bs, rfl, hL.mono s05, Nat.le_trans (Nat.le_of_lt hz2) (by decide), fun l H6 N6 => ⟨l, _, rfl, SqL.of N6.at_, hz2, fun l2 ms hl2 hperm hsort => ?_⟩⟩
    refine ⟨_, rfl, _, rfl, fun r hr0 => ⟨r, n.toNat, rfl, ?_, ?_, fun l3 hl3 => ?_⟩⟩
    · rw [upd_same]
      congr 2
      omega
    · omega
    · have s7 : Same H (upd (upd (upd H6 l2 (.lst (iv ms))) r (.rng 0 n)) l3 (.lst ((List.range n.toNat).map fun (i : Nat) => V.int (i : Int)))) :=
        (((s05.trans N6.same).trans (Same.new hl2)).trans (Same.new hr0)).trans (Same.new hl3)
      refine ⟨ms, (List.range n.toNat).map fun (k : Nat) => (k : Int), rd_ints (SqL.of ?_), rd_ints (SqL.of ?_), q _ _ s7 (parting_of_checks (by omega) (by omega) h3 h6 hperm hsort)⟩
      · rw [upd_ne (ne_of_none (o := .lst (iv ms)) (by rw [upd_ne (ne_of_none upd_same hr0), upd_same]) hl3), upd_ne (ne_of_none upd_same hr0), upd_same]
      · rw [upd_same, List.map_map]
        rfl
end
end NCP

namespace NCP
open PySem L2 NC
section
variable {CX : CXT} {P : Program} {w : World} {K : PySem.W.Frag} {mg : Str → Option Value} {base : Heap}
theorem sc_refuse_no_parting : FnScope ["points", "blocks"] ["points", "blocks"] (defScope s_refuse_no_parting) := ⟨rfl, rfl, rfl, by decide +kernel, rfl, by decide +kernel, by decide +kernel⟩
theorem ok_no_refuse {f fI : Addr} {fd fdI : FuncData} (hX : CxNo CX) (F : Fun K "refuse_no_parting" "refuse_no_parting" s_refuse_no_parting f fd)
    (DI : Dn K mg "is_parting" s_is_parting ["points", "blocks"] fI fdI) (GI : FnOk P w K mg base CX 2 fI fdI ["points", "blocks"] spIsParting) : FnOk P w K mg base CX 3 f fd ["points", "blocks"] spNoRefuse := by
  refine F.okX sc_refuse_no_parting (fun vs H Q E h => ?_) (fun cdv A outer s H vs Q E hr h => ?_)
  · obtain ⟨n, p, bs, rfl, _⟩ := h
    rfl
  · obtain ⟨n, p, bs, rfl, hL, hz, hz2, hz3, hP, q⟩ := h
    refine ⟨_, pss_one (ps_if (pt_not (pt_val (pe_call GI hr rfl DI.at_ DI.fn.kp DI.bd .nil (passN hX) (pa_cons (pv 0) (pa_cons (pv 1) pa_nil))))) pss_never pss_nil), ?_⟩
    refine ⟨_, rfl, _, rfl, n, p, bs, rfl, hL, hz, hz2, hz3, fun b H' s hb => ⟨b, rfl, ?_⟩⟩
    rw [hb.mpr hP]
    exact iteF (q H' s)
end
end NCP

namespace NCP
open PySem L2 NC
section
variable {CX : CXT} {P : Program} {w : World} {K : PySem.W.Frag} {mg : Str → Option Value} {base : Heap}
theorem sc_block_places : FnScope ["points", "blocks", "places", "place", "block", "point"] ["points", "blocks"] (defScope s_block_places) := ⟨rfl, rfl, rfl, by decide +kernel, rfl, by decide +kernel, by decide +kernel⟩
theorem ok_block_places {f : Addr} {fd : FuncData} (B : GBlt mg) (F : Fun K "block_places" "block_places" s_block_places f fd) : FnOk P w K mg base CX 1 f fd ["points", "blocks"] spBlockPlaces := by
  refine F.okX sc_block_places (fun vs H Q E h => ?_) (fun cdv A outer s H vs Q E hr h => ?_)
  · obtain ⟨p, wd, rfl, _⟩ := h
    rfl
  · obtain ⟨p, wd, rfl, hL, hz, q⟩ := h
    obtain ⟨as, hp, hbs⟩ := id hL
    have nd := sc_block_places.nd
    refine ⟨_, pss_cons (ps_set (i := 2) nd rfl (Or.inl rfl) (pe_op op_rep (pe_lst (pa_cons pe_int pa_nil)) (pv 0)))
      (pss_cons (ps_for PassesOwn.never rfl (pi_enum (by rfl) B.enum (pa_cons (pv 1) pa_nil)) (pg_two 3 4 rfl nd rfl rfl rfl rfl)
        (pss_one (ps_for PassesOwn.never rfl (pi_list (pv 4)) (pg_name (i := 5) nd rfl (Or.inl rfl))
          (pss_one (ps_asg (pv 3) (pg_sub (pv 2) (pv 5) set_list))))))
      (pss_one (ps_ret (pv 2)))), ?_⟩
    refine ⟨by show 1 ≤ sizeLine; decide, fun l0 hl0 => ⟨_, rfl, l0, _, _, rfl, rfl, upd_same, by omega, by omega, ?_, fun l hl1 => ?_⟩⟩
    · rw [Int.toNat_natCast]
      exact line_of (by simpa using hz)
    have hl : H l = none := (Same.new hl0).free hl1
    rw [Int.toNat_natCast, rep_zero]
    have s1 : Same H (upd (upd H l0 (.lst [.int 0])) l (.lst (iv (zl (List.replicate wd.length 0))))) := (Same.new hl0).upd hl
    refine ⟨_, rfl, p, rfl, ⟨_, SqL.of (s1 _ _ hp)⟩, for_enum (K := K) (a := p) (xs := as.map V.ref)
      (fun i σ H2 => ∃ v3 v4 v5 L, σ = [some (.int wd.length), some (.ref p), some (.ref l), v3, v4, v5] ∧ Same H H2 ∧ H2 l = some (.lst (iv (zl L))) ∧ PlacesTo wd i 0 L)
      ⟨none, none, none, _, rfl, s1, upd_same, places_start wd⟩ (fun i σ H2 _ ⟨_, _, _, _, _, s2, _⟩ => SqL.of (s2 _ _ hp)) ?_ ?_⟩
    · rintro i x σ H2 t hi ⟨v3, v4, v5, L, rfl, s2, h2, hP⟩ ht
      obtain ⟨a, ha, rfl⟩ := refs_get hi
      obtain ⟨b', hb', hab⟩ := paired_get hbs ha
      obtain ⟨b, hb, rfl⟩ := zb_get hb'
      have s3 : Same H (upd H2 t (.tup [.int i, .ref a])) := s2.trans (Same.new ht)
      refine ⟨t, _, _, rfl, SqT.of upd_same, _, rfl, a, rfl, ⟨_, SqL.of (s3 _ _ hab)⟩, for_list (K := K) (a := a) (xs := iv (zl b))
        (fun k σ H3 => ∃ v5 L, σ = [some (.int wd.length), some (.ref p), some (.ref l), some (.int i), some (.ref a), v5] ∧ Same H H3 ∧ H3 l = some (.lst (iv (zl L))) ∧ PlacesTo wd i k L)
        ⟨v5, L, rfl, s3, Same.new ht _ _ h2, hP⟩ (fun k σ H3 _ ⟨_, _, _, s4, _⟩ => SqL.of (s4 _ _ hab)) ?_ ?_⟩
      · rintro k x σ H3 hk ⟨v5, L, rfl, s4, h4, hP⟩
        obtain ⟨pt, hpt, rfl⟩ := iv_get hk
        have hlt : pt < L.length := by rw [hP.1]; exact gather_lt (List.mem_of_getElem? hb) (List.mem_of_getElem? hpt)
        refine ⟨_, rfl, _, rfl, _, rfl, l, _, _, pt, rfl, rfl, h4, ixN_nat (by simpa using hlt), ?_⟩
        refine ⟨_, L.set pt i, rfl, s4.upd hl, ?_, places_step hP hb hpt⟩
        rw [upd_same, iv_set]
      · rintro σ H3 ⟨v5, L, rfl, s4, h4, hP⟩
        rw [List.length_map, List.length_map] at hP
        exact ⟨_, _, _, L, rfl, s4, h4, places_next hP hb⟩
    · rintro σ H2 ⟨v3, v4, v5, L, rfl, s2, h2, hP⟩
      rw [List.length_map, paired_len hbs, List.length_map] at hP
      rw [places_end hP] at h2
      exact ⟨_, rfl, q l H2 ⟨s2, hl, h2⟩⟩
end
end NCP

namespace NCP
open PySem L2 NC
section
variable {CX : CXT} {P : Program} {w : World} {K : PySem.W.Frag} {mg : Str → Option Value} {base : Heap}
theorem sc_first_crossing : FnScope ["labels", "points", "a", "b", "c", "d"] ["labels"] (defScope s_first_crossing) := ⟨rfl, rfl, rfl, by decide +kernel, rfl, by decide +kernel, by decide +kernel⟩
theorem ok_first_crossing {f : Addr} {fd : FuncData} (B : GBlt mg) (F : Fun K "first_crossing" "first_crossing" s_first_crossing f fd) : FnOk P w K mg base CX 1 f fd ["labels"] (spFirstCrossing K) := by
  refine F.okX sc_first_crossing (fun vs H Q E h => ?_) (fun cdv A outer s H vs Q E hr h => ?_)
  · obtain ⟨l, wd, rfl, _⟩ := h
    rfl
  · obtain ⟨l, wd, rfl, hS, hz, q1, q2⟩ := h
    have nd := sc_first_crossing.nd
    refine ⟨_, pss_cons (ps_set (i := 1) nd rfl (Or.inl rfl) (pe_callB call_len_seq (by rfl) B.len PySem.boot_len (pa_cons (pv 0) pa_nil)))
      (pss_cons (ps_for PassesOwn.never rfl (pi_range1 rfl B.range (pa_cons (pv 1) pa_nil)) (pg_name (i := 2) nd rfl (Or.inl rfl))
        (pss_one (ps_for PassesOwn.never rfl (pi_range2 rfl B.range (pa_cons (pe_op op_add (pv 2) pe_int) (pa_cons (pv 1) pa_nil))) (pg_name (i := 3) nd rfl (Or.inl rfl))
          (pss_one (ps_for PassesOwn.never rfl (pi_range2 rfl B.range (pa_cons (pe_op op_add (pv 3) pe_int) (pa_cons (pv 1) pa_nil))) (pg_name (i := 4) nd rfl (Or.inl rfl))
            (pss_one (ps_for PassesOwn.never rfl (pi_range2 rfl B.range (pa_cons (pe_op op_add (pv 4) pe_int) (pa_cons (pv 1) pa_nil))) (pg_name (i := 5) nd rfl (Or.inl rfl))
              (pss_one (ps_if (PW.pt (pw_and (pt_cmpR op_eq (pe_ix ix_list (pv 0) (pv 2) (fun _ _ => rfl)) (pe_ix ix_list (pv 0) (pv 4) (fun _ _ => rfl)) (nomark _))
                  (pw_and (pt_cmpR op_eq (pe_ix ix_list (pv 0) (pv 3) (fun _ _ => rfl)) (pe_ix ix_list (pv 0) (pv 5) (fun _ _ => rfl)) (nomark _))
                  (pw_and1 (pt_cmpR op_ne (pe_ix ix_list (pv 0) (pv 2) (fun _ _ => rfl)) (pe_ix ix_list (pv 0) (pv 3) (fun _ _ => rfl)) (nomark _))))))
                (pss_one (ps_ret (pe_tup (pa_cons (pv 2) (pa_cons (pv 3) (pa_cons (pv 4) (pa_cons (pv 5) pa_nil))))))) pss_nil)))))))))
      (pss_one (ps_ret pe_non))), ?_⟩
    have hat : ∀ i, i < wd.length → atI (iv (zl wd)) (i : Int) = some (.int (wd.getD i 0 : Int)) := fun i hi =>
      atI_nat (iv_of (by rw [List.getD_eq_getElem?_getD, List.getElem?_eq_getElem hi]; rfl))
    have hget : ∀ i, i < wd.length → wd[i]? = some (wd.getD i 0) := fun i hi => by rw [List.getD_eq_getElem?_getD, List.getElem?_eq_getElem hi]; rfl
    refine ⟨_, rfl, l, _, rfl, .inl hS, ?_⟩
    rw [List.length_map, List.length_map]
    refine ⟨_, rfl, _, rfl, by omega, by omega, ?_⟩
    rw [Int.toNat_natCast]
    refine for_range (lo := 0) (n := wd.length) (fun i σ H2 => ∃ v2 v3 v4 v5, σ = [some (.ref l), some (.int wd.length), v2, v3, v4, v5] ∧ H = H2 ∧ ∀ a b c d, a < i → ¬ IsCross wd a b c d)
      ⟨none, none, none, none, rfl, rfl, fun _ _ _ _ h => by omega⟩ ?_ ?_
    · rintro a σ H2 ha ⟨v2, v3, v4, v5, rfl, rfl, ia⟩
      rw [Int.zero_add]
      refine ⟨_, rfl, _, _, rfl, rfl, _, rfl, _, _, rfl, ⟨by omega, by omega, by omega, by omega⟩, ?_⟩
      rw [show ((wd.length : Int) - ((a : Int) + 1)).toNat = wd.length - (a + 1) from by omega]
      refine for_range (fun j σ H2 => ∃ v3 v4 v5, σ = [some (.ref l), some (.int wd.length), some (.int a), v3, v4, v5] ∧ H = H2 ∧ ∀ b c d, b < a + 1 + j → ¬ IsCross wd a b c d)
        ⟨v3, v4, v5, rfl, rfl, fun b c d h x => by have := x.1; omega⟩ ?_ ?_
      · rintro jb σ H2 hjb ⟨v3, v4, v5, rfl, rfl, ib⟩
        rw [show (a : Int) + 1 + (jb : Int) = ((a + 1 + jb : Nat) : Int) from by omega]
        generalize hb : a + 1 + jb = b at ib
        refine ⟨_, rfl, _, _, rfl, rfl, _, rfl, _, _, rfl, ⟨by omega, by omega, by omega, by omega⟩, ?_⟩
        rw [show ((wd.length : Int) - ((b : Int) + 1)).toNat = wd.length - (b + 1) from by omega]
        refine for_range (fun j σ H2 => ∃ v4 v5, σ = [some (.ref l), some (.int wd.length), some (.int a), some (.int b), v4, v5] ∧ H = H2 ∧ ∀ c d, c < b + 1 + j → ¬ IsCross wd a b c d)
          ⟨v4, v5, rfl, rfl, fun c d h x => by have := x.2.1; omega⟩ ?_ ?_
        · rintro jc σ H2 hjc ⟨v4, v5, rfl, rfl, ic⟩
          rw [show (b : Int) + 1 + (jc : Int) = ((b + 1 + jc : Nat) : Int) from by omega]
          generalize hcc : b + 1 + jc = c at ic
          refine ⟨_, rfl, _, _, rfl, rfl, _, rfl, _, _, rfl, ⟨by omega, by omega, by omega, by omega⟩, ?_⟩
          rw [show ((wd.length : Int) - ((c : Int) + 1)).toNat = wd.length - (c + 1) from by omega]
          refine for_range (fun j σ H2 => ∃ v5, σ = [some (.ref l), some (.int wd.length), some (.int a), some (.int b), some (.int c), v5] ∧ H = H2 ∧ ∀ d, d < c + 1 + j → ¬ IsCross wd a b c d)
            ⟨v5, rfl, rfl, fun d h x => by have := x.2.2.1; omega⟩ ?_ ?_
          · rintro jd σ H2 hjd ⟨v5, rfl, rfl, id_⟩
            rw [show (c : Int) + 1 + (jd : Int) = ((c + 1 + jd : Nat) : Int) from by omega]
            generalize hdd : c + 1 + jd = d at id_
            have la : a < wd.length := by omega
            have lb : b < wd.length := by omega
            have lc : c < wd.length := by omega
            have ld : d < wd.length := by omega
            have go : ¬ IsCross wd a b c d → ∃ v5, ([some (.ref l), some (.int wd.length), some (.int a), some (.int b), some (.int c), some (.int d)] : St) = [some (.ref l), some (.int wd.length), some (.int a), some (.int b), some (.int c), v5] ∧ H = H ∧ ∀ d, d < c + 1 + (jd + 1) → ¬ IsCross wd a b c d := fun hn => by
              refine ⟨_, rfl, rfl, fun d' h => ?_⟩
              by_cases e : d' = d
              · subst e; exact hn
              · exact id_ d' (by omega)
            refine ⟨_, rfl, _, rfl, l, _, _, _, rfl, rfl, hS, hat a la, _, rfl, _, rfl, l, _, _, _, rfl, rfl, hS, hat c lc, rfl, _, rfl, iteD (fun e1 => ?_) fun e1 => ?_⟩
            · refine ⟨_, rfl, _, rfl, l, _, _, _, rfl, rfl, hS, hat b lb, _, rfl, _, rfl, l, _, _, _, rfl, rfl, hS, hat d ld, rfl, _, rfl, iteD (fun e2 => ?_) fun e2 => ?_⟩
              · refine ⟨_, rfl, _, rfl, l, _, _, _, rfl, rfl, hS, hat a la, _, rfl, _, rfl, l, _, _, _, rfl, rfl, hS, hat b lb, rfl, _, rfl, iteND (fun e3 => ?_) fun e3 => ?_⟩
                · have e1' : wd.getD a 0 = wd.getD c 0 := by injection e1 with z; omega
                  have e2' : wd.getD b 0 = wd.getD d 0 := by injection e2 with z; omega
                  have e3' : wd.getD a 0 ≠ wd.getD b 0 := fun z => e3 (by rw [z])
                  refine ⟨_, rfl, _, rfl, _, rfl, _, rfl, by show 4 ≤ sizeLine; decide, fun t ht => ?_⟩
                  exact q2 t a b c d _ ⟨by omega, by omega, by omega, ld, by rw [hget a la, hget c lc, e1'], by rw [hget b lb, hget d ld, e2'], by rw [hget a la, hget b lb]; exact fun z => e3' (Option.some.inj z)⟩ (Same.new ht) ht upd_same
                · refine go fun x => ?_
                  have := x.2.2.2.2.2.2
                  rw [hget a la, hget b lb] at this
                  exact this (by congr 1; injection e3 with z; omega)
              · refine go fun x => ?_
                have := x.2.2.2.2.2.1
                rw [hget b lb, hget d ld] at this
                exact e2 (by rw [Option.some.inj this])
            · refine go fun x => ?_
              have := x.2.2.2.2.1
              rw [hget a la, hget c lc] at this
              exact e1 (by rw [Option.some.inj this])
          · rintro σ H2 ⟨v5, rfl, rfl, id_⟩
            refine ⟨_, _, rfl, rfl, fun c' d' h => ?_⟩
            by_cases e : c' = c
            · subst e
              intro x
              exact id_ d' (by have := x.2.2.2.1; omega) x
            · exact ic c' d' (by omega)
        · rintro σ H2 ⟨v4, v5, rfl, rfl, ic⟩
          refine ⟨_, _, _, rfl, rfl, fun b' c' d' h => ?_⟩
          by_cases e : b' = b
          · subst e
            intro x
            exact ic c' d' (by have := x.2.2.1; have := x.2.2.2.1; omega) x
          · exact ib b' c' d' (by omega)
      · rintro σ H2 ⟨v3, v4, v5, rfl, rfl, ib⟩
        refine ⟨_, _, _, _, rfl, rfl, fun a' b' c' d' h => ?_⟩
        by_cases e : a' = a
        · subst e
          intro x
          exact ib b' c' d' (by have := x.2.1; have := x.2.2.1; have := x.2.2.2.1; omega) x
        · exact ia a' b' c' d' (by omega)
    · rintro σ H2 ⟨v2, v3, v4, v5, rfl, rfl, ia⟩
      exact q1 (free_of_search ia) H (Same.refl _)
end
end NCP

namespace NCP
open PySem L2 NC
section
variable {CX : CXT} {P : Program} {w : World} {K : PySem.W.Frag} {mg : Str → Option Value} {base : Heap}
theorem sc_refuse_crossing : FnScope ["points", "blocks", "found"] ["points", "blocks"] (defScope s_refuse_crossing) := ⟨rfl, rfl, rfl, by decide +kernel, rfl, by decide +kernel, by decide +kernel⟩
theorem ok_no_cross {f fB fF : Addr} {fd fdB fdF : FuncData} (hX : CxNo CX) (F : Fun K "refuse_crossing" "refuse_crossing" s_refuse_crossing f fd)
    (DB : Dn K mg "block_places" s_block_places ["points", "blocks"] fB fdB) (GB : FnOk P w K mg base CX 1 fB fdB ["points", "blocks"] spBlockPlaces)
    (DF : Dn K mg "first_crossing" s_first_crossing ["labels"] fF fdF) (GF : FnOk P w K mg base CX 1 fF fdF ["labels"] (spFirstCrossing K)) : FnOk P w K mg base CX 2 f fd ["points", "blocks"] spNoCross := by
  refine F.okX sc_refuse_crossing (fun vs H Q E h => ?_) (fun cdv A outer s H vs Q E hr h => ?_)
  · obtain ⟨p, wd, rfl, _⟩ := h
    rfl
  · obtain ⟨p, wd, rfl, hL, hz, hF, q⟩ := h
    have nd := sc_refuse_crossing.nd
    refine ⟨_, pss_cons (ps_set (i := 2) nd rfl (Or.inl rfl) (pe_call GF hr rfl DF.at_ DF.fn.kp DF.bd .nil (passN hX) (pa_cons (pe_call GB hr rfl DB.at_ DB.fn.kp DB.bd .nil (passN hX) (pa_cons (pv 0) (pa_cons (pv 1) pa_nil))) pa_nil)))
      (pss_one (ps_if (pt_cmpR op_notN (pv 2) pe_non (nomark _)) pss_never pss_nil)), ?_⟩
    refine ⟨_, rfl, _, rfl, p, wd, rfl, hL, hz, fun l H1 N1 => ⟨l, canon wd, rfl, SqL.of N1.at_, by rw [canon_length]; exact hz, fun _ H2 s2 => ?_, fun t a b c d H2 x _ _ _ => ?_⟩⟩
    · refine ⟨_, rfl, rfl, _, rfl, ?_⟩
      exact iteF (q H2 (N1.same.trans s2))
    · exact absurd (cross_canon.mp x) (hF a b c d)
end
end NCP

namespace NCP
open PySem L2 NC
section
variable {CX : CXT} {P : Program} {w : World} {K : PySem.W.Frag} {mg : Str → Option Value} {base : Heap}
theorem sc_unless_free : FnScope ["points", "blocks"] ["points", "blocks"] (defScope s_refuse_unless_free) := ⟨rfl, rfl, rfl, by decide +kernel, rfl, by decide +kernel, by decide +kernel⟩
theorem ok_unless_free {f fN fC : Addr} {fd fdN fdC : FuncData} (hX : CxNo CX) (F : Fun K "refuse_unless_free" "refuse_unless_free" s_refuse_unless_free f fd)
    (DN : Dn K mg "refuse_no_parting" s_refuse_no_parting ["points", "blocks"] fN fdN) (GN : FnOk P w K mg base CX 3 fN fdN ["points", "blocks"] spNoRefuse)
    (DC : Dn K mg "refuse_crossing" s_refuse_crossing ["points", "blocks"] fC fdC) (GC : FnOk P w K mg base CX 2 fC fdC ["points", "blocks"] spNoCross) : FnOk P w K mg base CX 4 f fd ["points", "blocks"] spFree1 := by
  refine F.okX sc_unless_free (fun vs H Q E h => ?_) (fun cdv A outer s H vs Q E hr h => ?_)
  · obtain ⟨p, wd, rfl, _⟩ := h
    rfl
  · obtain ⟨p, wd, rfl, hL, hz, hF, q⟩ := h
    have hr2 := hr.mono (show 2 ≤ 3 by decide)
    refine ⟨_, pss_cons (ps_expr (pe_call GN hr rfl DN.at_ DN.fn.kp DN.bd .nil (passN hX) (pa_cons (pv 0) (pa_cons (pv 1) pa_nil))))
      (pss_one (ps_expr (pe_call GC hr2 rfl DC.at_ DC.fn.kp DC.bd .nil (passN hX) (pa_cons (pv 0) (pa_cons (pv 1) pa_nil))))), ?_⟩
    have hz4 : wd.length ≤ 1000 := Nat.le_trans hz (by decide)
    refine ⟨_, rfl, _, rfl, _, p, _, rfl, hL, Nat.le_trans (blocks_len wd) hz4, by rw [flat_len]; omega, fun b hb => Nat.le_trans (block_len wd b hb) hz4, parting_ok hz, fun H1 s1 => ?_⟩
    refine ⟨_, rfl, _, rfl, p, wd, rfl, hL.mono s1, hz4, hF, fun H2 s2 => ?_⟩
    exact q H2 (s1.trans s2)
end
end NCP

namespace NCP
open PySem L2 NC
section
variable {CX : CXT} {P : Program} {w : World} {K : PySem.W.Frag} {mg : Str → Option Value} {base : Heap}
theorem sc_choices : FnScope ["things", "chosen", "ways", "taken"] ["things", "chosen"] (defScope s_choices) := ⟨rfl, rfl, rfl, by decide +kernel, rfl, by decide +kernel, by decide +kernel⟩
theorem ok_choices {f : Addr} {fd : FuncData} (B : GBlt mg) (F : Fun K "choices" "choices" s_choices f fd) : FnOk P w K mg base CX 1 f fd ["things", "chosen"] spChoices := by
  refine F.okX sc_choices (fun vs H Q E h => ?_) (fun cdv A outer s H vs Q E hr h => ?_)
  · obtain ⟨n, k, rfl, _⟩ := h
    rfl
  · obtain ⟨n, k, rfl, hz, hk, q⟩ := h
    have nd := sc_choices.nd
    refine ⟨_, pss_cons (ps_set (i := 2) nd rfl (Or.inl rfl) pe_int)
      (pss_cons (ps_for PassesOwn.never rfl (pi_range1 rfl B.range (pa_cons (pv 1) pa_nil)) (pg_name (i := 3) nd rfl (Or.inl rfl))
        (pss_one (ps_set (i := 2) nd rfl (Or.inl rfl) (pe_op op_fdiv (pe_op op_mul (pv 2) (pe_op op_sub (pv 0) (pv 3))) (pe_op op_add (pv 3) pe_int)))))
      (pss_one (ps_ret (pv 2)))), ?_⟩
    refine ⟨_, rfl, _, rfl, by omega, by omega, ?_⟩
    rw [Int.toNat_natCast]
    refine for_range (lo := 0) (n := k) (fun i σ H2 => ∃ v3, σ = [some (.int n), some (.int k), some (.int (chs n i : Nat)), v3] ∧ H = H2) ⟨none, rfl, rfl⟩ ?_ ?_
    · rintro i σ H2 hi ⟨v3, rfl, rfl⟩
      rw [Int.zero_add]
      refine ⟨_, rfl, _, rfl, _, rfl, _, _, rfl, rfl, _, _, rfl, rfl, .inr ⟨by omega, by omega⟩, _, rfl, _, _, rfl, rfl, _, _, rfl, rfl, ⟨by omega, by omega⟩, ?_⟩
      have e : ((chs n i : Nat) : Int) * ((n : Int) - (i : Int)) / ((i : Int) + 1) = ((chs n (i + 1) : Nat) : Int) := by
        rw [show ((n : Int) - (i : Int)) = ((n - i : Nat) : Int) by omega, show ((i : Int) + 1) = ((i + 1 : Nat) : Int) from rfl, ← Int.natCast_mul, ← Int.natCast_ediv]
        rfl
      show gName 2 (V.int _) _ _ _
      rw [e]
      exact ⟨_, rfl, rfl⟩
    · rintro σ H2 ⟨v3, rfl, rfl⟩
      exact ⟨_, rfl, q⟩
end
end NCP

namespace NCP
open PySem L2 NC
section
variable {CX : CXT} {P : Program} {w : World} {K : PySem.W.Frag} {mg : Str → Option Value} {base : Heap}
theorem sc_ways_within : FnScope ["size", "ways", "factor"] ["size"] (defScope s_ways_within) := ⟨rfl, rfl, rfl, by decide +kernel, rfl, by decide +kernel, by decide +kernel⟩
theorem ok_ways_within {f : Addr} {fd : FuncData} (F : Fun K "ways_within" "ways_within" s_ways_within f fd) : FnOk P w K mg base CX 1 f fd ["size"] spWaysIn := by
  refine F.okX sc_ways_within (fun vs H Q E h => ?_) (fun cdv A outer s H vs Q E hr h => ?_)
  · obtain ⟨k, rfl, _⟩ := h
    rfl
  · obtain ⟨k, rfl, hk1, hk, q⟩ := h
    have nd := sc_ways_within.nd
    refine ⟨_, pss_cons (ps_set (i := 1) nd rfl (Or.inl rfl) pe_int)
      (pss_cons (ps_for PassesOwn.never rfl (pi_list (pe_op op_rep (pe_lst (pa_cons (pv 0) pa_nil)) (pe_op op_sub (pv 0) pe_int))) (pg_name (i := 2) nd rfl (Or.inl rfl))
        (pss_one (ps_set (i := 1) nd rfl (Or.inl rfl) (pe_op op_mul (pv 1) (pv 2)))))
      (pss_one (ps_ret (pv 1)))), ?_⟩
    refine ⟨_, rfl, by show 1 ≤ sizeLine; decide, fun l0 hl0 => ⟨_, rfl, _, _, rfl, rfl, l0, _, _, rfl, rfl, upd_same, by omega, by omega, ?_, fun l1 hl1 => ?_⟩⟩
    · show 1 * ((k : Int) - 2).toNat ≤ sizeLine
      exact line_of (by omega)
    have er : (List.replicate ((k : Int) - 2).toNat [V.int k]).flatten = List.replicate (k - 2) (V.int k) := by
      rw [show ((k : Int) - 2).toNat = k - 2 by omega]
      generalize k - 2 = m
      induction m with
      | zero => rfl
      | succ m ih =>
        rw [List.replicate_succ, List.flatten_cons, ih]
        rfl
    have s1 := (Same.new (o := .lst [.int k]) hl0).trans (Same.new (o := .lst (List.replicate ((k : Int) - 2).toNat [V.int k]).flatten) hl1)
    have h1 : (upd (upd H l0 (.lst [.int k])) l1 (.lst (List.replicate ((k : Int) - 2).toNat [V.int k]).flatten)) l1 = some (.lst (List.replicate ((k : Int) - 2).toNat [V.int k]).flatten) := upd_same
    generalize upd (upd H l0 (.lst [.int k])) l1 (.lst (List.replicate ((k : Int) - 2).toNat [V.int k]).flatten) = H1 at s1 h1 ⊢
    rw [er] at h1
    refine ⟨l1, rfl, ⟨_, SqL.of h1⟩, for_list (K := K) (a := l1) (xs := List.replicate (k - 2) (V.int k)) (fun i σ H2 => ∃ v2, σ = [some (.int k), some (.int (k ^ i : Nat)), v2] ∧ H1 = H2) ⟨none, rfl, rfl⟩ (fun i σ H2 _ ⟨_, _, e⟩ => e ▸ SqL.of h1) ?_ ?_⟩
    · rintro i x σ H2 hi ⟨v2, rfl, rfl⟩
      have hx := List.eq_of_mem_replicate (List.mem_of_getElem? hi)
      subst hx
      refine ⟨_, rfl, _, rfl, _, _, rfl, rfl, .inr ⟨by omega, by omega⟩, ?_⟩
      show gName 1 (V.int (((k ^ i : Nat) : Int) * (k : Int))) _ _ _
      rw [← Int.natCast_mul, ← Nat.pow_succ]
      exact ⟨_, rfl, rfl⟩
    · rintro σ H2 ⟨v2, rfl, rfl⟩
      rw [List.length_replicate]
      exact ⟨_, rfl, q _ s1⟩
end
end NCP

namespace NCP
open PySem L2 NC
section
variable {CX : CXT} {P : Program} {w : World} {K : PySem.W.Frag} {mg : Str → Option Value} {base : Heap}
theorem sc_ways_up : FnScope ["points", "blocks", "ways", "steps", "block"] ["points", "blocks"] (defScope s_ways_up) := ⟨rfl, rfl, rfl, by decide +kernel, rfl, by decide +kernel, by decide +kernel⟩
theorem ok_ways_up {f fU fC fW : Addr} {fd fdU fdC fdW : FuncData} (hX : CxNo CX) (B : GBlt mg) (F : Fun K "ways_up" "ways_up" s_ways_up f fd)
    (DU : Dn K mg "refuse_unless_free" s_refuse_unless_free ["points", "blocks"] fU fdU) (GU : FnOk P w K mg base CX 4 fU fdU ["points", "blocks"] spFree1)
    (DC : Dn K mg "choices" s_choices ["things", "chosen"] fC fdC) (GC : FnOk P w K mg base CX 1 fC fdC ["things", "chosen"] spChoices)
    (DW : Dn K mg "ways_within" s_ways_within ["size"] fW fdW) (GW : FnOk P w K mg base CX 1 fW fdW ["size"] spWaysIn) : FnOk P w K mg base CX 5 f fd ["points", "blocks"] spWaysUp := by
  refine F.okX sc_ways_up (fun vs H Q E h => ?_) (fun cdv A outer s H vs Q E hr h => ?_)
  · obtain ⟨p, wd, rfl, _⟩ := h
    rfl
  · obtain ⟨p, wd, rfl, hL, hz, hF, q⟩ := h
    have nd := sc_ways_up.nd
    have hr1 := hr.mono (show 1 ≤ 4 by decide)
    refine ⟨_, pss_cons (ps_expr (pe_call GU hr rfl DU.at_ DU.fn.kp DU.bd .nil (passN hX) (pa_cons (pv 0) (pa_cons (pv 1) pa_nil))))
      (pss_cons (ps_set (i := 2) nd rfl (Or.inl rfl) pe_int)
      (pss_cons (ps_set (i := 3) nd rfl (Or.inl rfl) pe_int)
      (pss_cons (ps_for PassesOwn.never rfl (pi_list (pv 1)) (pg_name (i := 4) nd rfl (Or.inl rfl))
        (pss_cons (ps_set (i := 3) nd rfl (Or.inl rfl) (pe_op op_sub (pe_op op_add (pv 3) (pe_callB call_len_seq (by rfl) B.len PySem.boot_len (pa_cons (pv 4) pa_nil))) pe_int))
        (pss_one (ps_set (i := 2) nd rfl (Or.inl rfl) (pe_op op_mul (pe_op op_mul (pv 2) (pe_call GC hr1 rfl DC.at_ DC.fn.kp DC.bd .nil (passN hX) (pa_cons (pv 3) (pa_cons (pe_op op_sub (pe_callB call_len_seq (by rfl) B.len PySem.boot_len (pa_cons (pv 4) pa_nil)) pe_int) pa_nil))))
          (pe_call GW hr1 rfl DW.at_ DW.fn.kp DW.bd .nil (passN hX) (pa_cons (pe_callB call_len_seq (by rfl) B.len PySem.boot_len (pa_cons (pv 4) pa_nil)) pa_nil)))))))
      (pss_one (ps_ret (pv 2)))))), ?_⟩
    refine ⟨_, rfl, _, rfl, p, wd, rfl, hL, hz, hF, fun H1 s1 => ?_⟩
    have hL1 := hL.mono s1
    obtain ⟨as, hp, hbs⟩ := id hL1
    have hal : as.length = (lens wd).length := by rw [paired_len hbs, List.length_map, List.length_map]
    have hst := steps_lens wd
    refine ⟨_, rfl, p, rfl, ⟨_, SqL.of hp⟩, for_list (K := K) (a := p) (xs := as.map V.ref)
      (fun i σ H2 => ∃ (v4 : Option V) (st : Nat × Nat), σ = [some (.int wd.length), some (.ref p), some (.int (st.1 : Nat)), some (.int (st.2 : Nat)), v4] ∧ Same H1 H2 ∧ st = ((lens wd).take i).foldl stp (1, 0) ∧ st.2 + stepsOf ((lens wd).drop i) = stepsOf (lens wd))
      ⟨none, (1, 0), rfl, Same.refl _, rfl, by rw [List.drop_zero]; exact Nat.zero_add _⟩ (fun i σ H2 _ ⟨_, _, _, s2, _⟩ => SqL.of (s2 _ _ hp)) ?_ ?_⟩
    · rintro i x σ H2 hi ⟨v4, st, rfl, s2, est, hst2⟩
      obtain ⟨t, ht, rfl⟩ := refs_get hi
      obtain ⟨b', hb', hbt⟩ := paired_get hbs ht
      obtain ⟨b, hb, rfl⟩ : ∃ b, (gather wd)[i]? = some b ∧ b' = zl b := by
        rw [List.getElem?_map] at hb'
        obtain ⟨b, h1, h2⟩ := Option.map_eq_some_iff.mp hb'
        exact ⟨b, h1, h2.symm⟩
      have hl : (lens wd)[i]? = some b.length := by rw [List.getElem?_map, hb]; rfl
      obtain ⟨hb1, hb2⟩ := lens_ok (List.mem_of_getElem? hl)
      have hdr := stepsOf_drop hl
      have h2 := s2 _ _ hbt
      have hbl : (iv (zl b)).length = b.length := by rw [List.length_map, List.length_map]
      have hst10 : st.2 + (b.length - 1) ≤ 10 := by omega
      refine ⟨_, rfl, _, rfl, t, _, rfl, .inl (SqL.of h2), _, _, rfl, rfl, _, _, rfl, rfl, ?_⟩
      show gName 3 (V.int ((st.2 : Int) + ((iv (zl b)).length : Int) - 1)) _ _ _
      rw [hbl, show (st.2 : Int) + (b.length : Int) - 1 = ((st.2 + (b.length - 1) : Nat) : Int) by omega]
      refine ⟨_, rfl, _, rfl, _, rfl, t, _, rfl, .inl (SqL.of h2), _, _, rfl, rfl, st.2 + (b.length - 1), b.length - 1, ?_, by omega, by omega, ?_⟩
      · rw [hbl, show ((b.length - 1 : Nat) : Int) = (b.length : Int) - 1 by omega]
        rfl
      have hc := chs_le (st.2 + (b.length - 1)) (b.length - 1) hst10 (by omega)
      have ht2 := tw_le (k := b.length) (by omega)
      refine ⟨_, _, rfl, rfl, .inr ⟨by omega, by omega⟩, _, rfl, t, _, rfl, .inl (SqL.of h2), b.length, by rw [hbl]; rfl, hb1, by omega, fun H3 s3 => ?_⟩
      refine ⟨_, _, rfl, rfl, .inr ⟨by omega, by omega⟩, ?_⟩
      show gName 2 (V.int (((st.1 : Nat) : Int) * ((chs (st.2 + (b.length - 1)) (b.length - 1) : Nat) : Int) * ((tw b.length : Nat) : Int))) _ _ _
      rw [← Int.natCast_mul, ← Int.natCast_mul]
      refine ⟨_, stp st b.length, rfl, s2.trans s3, ?_, ?_⟩
      · rw [List.take_add_one, hl, List.foldl_append, ← est]
        rfl
      · show st.2 + (b.length - 1) + stepsOf ((lens wd).drop (i + 1)) = _
        omega
    · rintro σ H2 ⟨v4, st, rfl, s2, est, _⟩
      rw [List.length_map, hal, List.take_length] at est
      refine ⟨_, rfl, ?_⟩
      rw [est]
      exact q _ (s1.trans s2)
end
end NCP

namespace NCP
open PySem L2 NC
section
variable {CX : CXT} {P : Program} {w : World} {K : PySem.W.Frag} {mg : Str → Option Value} {base : Heap}
theorem sc_gathered : FnScope ["word", "marks", "found", "point", "mark"] ["word"] (defScope s_law_gathered) := ⟨rfl, rfl, rfl, by decide +kernel, rfl, by decide +kernel, by decide +kernel⟩
theorem ok_gathered {f : Addr} {fd : FuncData} (B : GBlt mg) (F : Fun K "_law_gathered" "_law_gathered" s_law_gathered f fd) : FnOk P w K mg base CX 1 f fd ["word"] (spGathered K) := by
  refine F.okX sc_gathered (fun vs H Q E h => ?_) (fun cdv A outer s H vs Q E hr h => ?_)
  · obtain ⟨a, wd, rfl, _⟩ := h
    rfl
  · obtain ⟨a, wd, rfl, hS, hz, q⟩ := h
    have nd := sc_gathered.nd
    refine ⟨_, pss_cons (ps_set (i := 1) nd rfl (Or.inl rfl) (pe_lst pa_nil)) (pss_cons (ps_set (i := 2) nd rfl (Or.inl rfl) (pe_lst pa_nil))
      (pss_cons (ps_for PassesOwn.never rfl (pi_enum (by rfl) B.enum (pa_cons (pv 0) pa_nil)) (pg_two 3 4 rfl nd rfl rfl rfl rfl)
        (pss_cons (ps_cut (ps_if (pt_cmpR op_notIn_seq (pv 4) (pv 1) (by with_unfolding_all rfl))
          (pss_cons (ps_expr (pe_bm PySem.F.plainAttrs_list PySem.F.slot_list_append PySem.F.type_list_append mt_append (pv 1) (pa_cons (pv 4) pa_nil)))
            (pss_one (ps_expr (pe_bm PySem.F.plainAttrs_list PySem.F.slot_list_append PySem.F.type_list_append mt_append (pv 2) (pa_cons (pe_lst pa_nil) pa_nil))))) pss_nil))
        (pss_one (ps_expr (pe_bm PySem.F.plainAttrs_list PySem.F.slot_list_append PySem.F.type_list_append mt_append
          (pe_ix ix_list (pv 2) (pe_bm PySem.F.plainAttrs_list PySem.F.slot_list_index PySem.F.type_list_index mt_index (pv 1) (pa_cons (pv 4) pa_nil)) (fun _ _ => rfl)) (pa_cons (pv 3) pa_nil))))))
      (pss_one (ps_ret (pv 2))))), ?_⟩
    refine ⟨Nat.zero_le _, fun pm hm => ⟨Nat.zero_le _, fun pf hf1 => ?_⟩⟩
    have hf : H pf = none := (Same.new hm).free hf1
    have hne : pm ≠ pf := ne_of_none upd_same hf1
    have s0 : Same H (upd (upd H pm (.lst [])) pf (.lst [])) := (Same.new hm).upd hf
    refine ⟨_, rfl, a, rfl, ⟨_, s0.seq hS⟩, for_enum (K := K) (a := a) (xs := iv (zl wd))
      (fun i σ H2 => ∃ v3 v4, σ = [some (.ref a), some (.ref pm), some (.ref pf), v3, v4] ∧ GMid H H2 pm pf (marks (wd.take i)) (gather (wd.take i)))
      ⟨none, none, rfl, ⟨s0, hm, hf, hne, by rw [upd_ne hne, upd_same]; rfl, [], upd_same, .nil, List.nodup_nil, by simp, by simp⟩⟩ (fun i σ H2 _ ⟨_, _, _, g⟩ => g.same.seq hS) ?_ ?_⟩
    · rintro i x σ H2 t hi ⟨v3, v4, rfl, g⟩ ht
      obtain ⟨m, hmi, rfl⟩ := iv_get hi
      have hiw : i < wd.length := (List.getElem?_eq_some_iff.mp hmi).1
      have et := take_succ_of hmi
      have lt : (wd.take i).length = i := by rw [List.length_take]; omega
      have ml : (marks (wd.take i)).length ≤ 1000 := Nat.le_trans (marks_le _) (by rw [lt]; omega)
      refine ⟨t, _, _, rfl, SqT.of upd_same, ?_⟩
      have g := g.later (Same.new (o := .tup [.int i, .int m]) ht)
      generalize upd H2 t (.tup [.int i, .int m]) = H3 at g ⊢
      refine ⟨fun σ H4 => σ = [some (.ref a), some (.ref pm), some (.ref pf), some (.int i), some (.int m)] ∧ ∃ cs c, GMid H H4 pm pf (marks (wd.take (i + 1))) cs ∧ m ∈ marks (wd.take (i + 1)) ∧ cs[(marks (wd.take (i + 1))).idxOf m]? = some c ∧ c.length ≤ i ∧
        cs.set ((marks (wd.take (i + 1))).idxOf m) (c ++ [i]) = gather (wd.take (i + 1)), ?_, ?_⟩
      · refine ⟨_, rfl, _, rfl, pm, _, rfl, .inl (SqL.of g.am), rfl, flat_ints _, _, rfl, ?_⟩
        show if (!inV (.int m) (iv (zl (marks (wd.take i))))) = true then _ else _
        rw [inV_ints]
        refine iteND (fun hn => ?_) fun hn => ?_
        · -- a new mark
          have hn' : m ∉ wd.take i := fun z => hn (zl_mem.mpr (mem_marks.mpr z))
          refine ⟨_, rfl, .inl ⟨rfl, _, SqL.of g.am⟩, _, rfl, pm, _, _, rfl, rfl, g.am, small1000 (by simpa using ml), ?_⟩
          obtain ⟨as, h1, h2, h3, h4, h5⟩ := g.ex
          have h1' : (upd H3 pm (.lst (iv (zl (marks (wd.take i))) ++ [.int m]))) pf = some (.lst (as.map V.ref)) := by rw [upd_ne (Ne.symm g.ne)]; exact h1
          refine ⟨_, rfl, .inl ⟨rfl, _, SqL.of h1'⟩, Nat.zero_le _, fun pn hpn => ?_⟩
          refine ⟨pf, _, _, rfl, rfl, Same.new hpn _ _ h1', ?_, rfl, ?_⟩
          · rw [List.length_map, paired_len h2, List.length_map, gather_length]
            exact small1000 ml
          · have em : marks (wd.take (i + 1)) = marks (wd.take i) ++ [m] := by rw [et, marks_snoc, addMark, if_neg (by rw [mem_marks]; exact hn')]
            have nix : (marks (wd.take i) ++ [m]).idxOf m = (marks (wd.take i)).length := by
              rw [List.idxOf_append, if_neg (by rw [mem_marks]; exact hn')]
              simp
            have npm : pm ≠ pn := fun z => by rw [z, upd_same] at hpn; cases hpn
            have npf : pf ≠ pn := ne_of_none h1' hpn
            have H3n : H3 pn = none := by rw [upd_ne (Ne.symm npm)] at hpn; exact hpn
            have Hn : H pn = none := g.same.free H3n
            have nin : pn ∉ as := fun z => by
              obtain ⟨k, hk, ek⟩ := List.mem_iff_getElem.mp z
              obtain ⟨b, _, hb⟩ := paired_get h2 (i := k) (a := pn) (by rw [List.getElem?_eq_getElem hk, ek])
              rw [H3n] at hb
              cases hb.2
            rw [em]
            refine ⟨gather (wd.take i) ++ [[]], [], ⟨((g.same.upd hm).upd Hn).upd hf, hm, hf, g.ne, ?_, as ++ [pn], ?_, ?_, ?_, ?_, ?_⟩, by simp, ?_, Nat.zero_le _, ?_⟩
            · rw [upd_ne g.ne, upd_ne npm, upd_same]
              simp [iv, zl]
            · rw [upd_same, List.map_append]
              rfl
            · rw [show zb (gather (wd.take i) ++ [[]]) = zb (gather (wd.take i)) ++ [[]] from List.map_append ..]
              refine paired_snoc (paired_mem (fun x b hx e => ⟨e.1, ?_⟩) h2) ⟨Hn, ?_⟩
              · have x1 : x ≠ pm := fun z => h4 (z ▸ hx)
                have x2 : x ≠ pf := fun z => h5 (z ▸ hx)
                have x3 : x ≠ pn := fun z => nin (z ▸ hx)
                rw [upd_ne x2, upd_ne x3, upd_ne x1]
                exact e.2
              · rw [upd_ne (Ne.symm npf), upd_same]
                rfl
            · rw [List.nodup_append]
              exact ⟨h3, by simp, fun x hx y hy e => nin (by simp at hy; rw [← hy, ← e]; exact hx)⟩
            · simp [h4, npm]
            · simp [h5, npf]
            · rw [nix, ← gather_length]
              simp
            · rw [nix, ← gather_length, et, gather_new hn', lt]
              simp
        · -- a mark that is there
          have hn' : m ∈ wd.take i := mem_marks.mp (zl_mem.mp hn)
          have em : marks (wd.take (i + 1)) = marks (wd.take i) := by rw [et, marks_snoc, addMark, if_pos (mem_marks.mpr hn')]
          rw [em]
          refine ⟨rfl, gather (wd.take i), pos (wd.take i) m, g, mem_marks.mpr hn', gather_get hn', ?_, ?_⟩
          · have := List.length_filter_le (fun k => decide ((wd.take i)[k]? = some m)) (List.range (wd.take i).length)
            unfold pos
            rw [List.length_range, lt] at this
            rw [lt]
            exact this
          · rw [et, gather_old hn', lt]
      · rintro σ H4 ⟨rfl, cs, c, g4, hmm, hc, hcl, hset⟩
        obtain ⟨as, h1, h2, h3, h4, h5⟩ := g4.ex
        obtain ⟨ac, hac, hfree, hcon⟩ := paired_get' h2 (i := (marks (wd.take (i + 1))).idxOf m) (b := zl c) (by rw [List.getElem?_map, hc]; rfl)
        refine ⟨_, rfl, _, rfl, .inl ⟨rfl, _, SqL.of g4.am⟩, _, rfl, pm, _, _, rfl, rfl, g4.am, zl_mem.mpr hmm, ?_⟩
        rw [zl_idx]
        refine ⟨pf, _, _, .ref ac, rfl, rfl, SqL.of h1, atI_nat (by rw [List.getElem?_map, hac]; rfl), .inl ⟨rfl, _, SqL.of hcon⟩, _, rfl, ac, _, _, rfl, rfl, hcon, small1000 (by simp; omega), ?_⟩
        have acm : ac ∈ as := List.mem_of_getElem? hac
        have n1 : pm ≠ ac := fun z => h4 (z ▸ acm)
        have n2 : pf ≠ ac := fun z => h5 (z ▸ acm)
        refine ⟨_, _, rfl, g4.same.upd hfree, hm, hf, g4.ne, by rw [upd_ne n1]; exact g4.am, as, by rw [upd_ne n2]; exact h1, ?_, h3, h4, h5⟩
        rw [← hset, zb, List.map_set]
        refine paired_set h2 h3 hac (fun x y hx e => ⟨e.1, by rw [upd_ne hx]; exact e.2⟩) ⟨hfree, ?_⟩
        rw [upd_same]
        simp [iv, zl]
    · rintro σ H2 ⟨v3, v4, rfl, g⟩
      rw [List.length_map, List.length_map, List.take_length] at g
      obtain ⟨as, h1, h2, h3, h4, h5⟩ := g.ex
      exact ⟨_, rfl, q pf H2 ⟨g.same, hf, as, h1, h2, h3⟩⟩
end
end NCP

namespace NCP
open PySem L2 NC
section
variable {CX : CXT} {P : Program} {w : World} {K : PySem.W.Frag} {mg : Str → Option Value} {base : Heap}
theorem sc_free_by : FnScope ["script", "at", "points", "going", "word", "k", "place"] ["script", "at", "points"] (defScope s_law_free_by) := ⟨rfl, rfl, rfl, by decide +kernel, rfl, by decide +kernel, by decide +kernel⟩
theorem ok_free_by {f fC fG : Addr} {fd fdC fdG : FuncData} (hX : CxNo CX) (B : GBlt mg) (F : Fun K "_law_free_by" "_law_free_by" s_law_free_by f fd)
    (DC : Dn K mg "_law_cell_at" s_law_cell_at ["script", "k"] fC fdC) (GC : FnOk P w K mg base CX 1 fC fdC ["script", "k"] (spCell K))
    (DG : Dn K mg "_law_gathered" s_law_gathered ["word"] fG fdG) (GG : FnOk P w K mg base CX 1 fG fdG ["word"] (spGathered K)) : FnOk P w K mg base CX 2 f fd ["script", "at", "points"] (spFreeBy K) := by
  refine F.okX sc_free_by (fun vs H Q E h => ?_) (fun cdv A outer s H vs Q E hr h => ?_)
  · obtain ⟨a, ns, k, n, rfl, _⟩ := h
    rfl
  · obtain ⟨a, ns, at_, n, rfl, hS, hn, q⟩ := h
    have nd := sc_free_by.nd
    refine ⟨_, pss_cons (ps_set (i := 3) nd rfl (Or.inl rfl) (pe_lst pa_nil)) (pss_cons (ps_set (i := 4) nd rfl (Or.inl rfl) (pe_lst pa_nil))
      (pss_cons (ps_for PassesOwn.never rfl (pi_range1 rfl B.range (pa_cons (pv 2) pa_nil)) (pg_name (i := 5) nd rfl (Or.inl rfl))
        (pss_cons (ps_set (i := 6) nd rfl (Or.inl rfl) (pe_op op_mod (pe_call GC hr rfl DC.at_ DC.fn.kp DC.bd .nil (passN hX) (pa_cons (pv 0) (pa_cons (pe_op op_add (pv 1) (pv 5)) pa_nil))) (pe_op op_add (pe_callB call_len_seq (by rfl) B.len PySem.boot_len (pa_cons (pv 3) pa_nil)) pe_int)))
        (pss_cons (ps_cut (ps_if (pt_cmpR op_eq (pe_op op_mod (pe_op op_fdiv (pe_call GC hr rfl DC.at_ DC.fn.kp DC.bd .nil (passN hX) (pa_cons (pv 0) (pa_cons (pe_op op_add (pv 1) (pv 5)) pa_nil))) pe_int) pe_int) pe_int (nomark _))
          (pss_one (ps_set (i := 6) nd rfl (Or.inl rfl) (pe_callB (call_max2 rfl) (by rfl) B.max PyProof.Rows.boot_max (pa_cons pe_int (pa_cons (pe_op op_sub (pe_op op_sub (pe_callB call_len_seq (by rfl) B.len PySem.boot_len (pa_cons (pv 3) pa_nil)) pe_int) (pe_op op_mod (pv 6) pe_int)) pa_nil))))) pss_nil))
        (pss_cons (ps_cut (ps_if (pt_cmpR op_eq (pv 6) (pe_callB call_len_seq (by rfl) B.len PySem.boot_len (pa_cons (pv 3) pa_nil)) (nomark _))
          (pss_one (ps_expr (pe_bm PySem.F.plainAttrs_list PySem.F.slot_list_append PySem.F.type_list_append mt_append (pv 3) (pa_cons (pe_callB call_len_setI (by rfl) B.len PySem.boot_len (pa_cons (pe_callTy (call_set_ints rfl) (by rfl) B.set PyProof.Rows.boot_set (pa_cons (pv 4) pa_nil)) pa_nil)) pa_nil)))) pss_nil))
        (pss_cons (ps_set (i := 3) nd rfl (Or.inl rfl) (pe_slice sl_list (pv 3) po_none (po_some (pe_op op_add (pv 6) pe_int))))
        (pss_one (ps_expr (pe_bm PySem.F.plainAttrs_list PySem.F.slot_list_append PySem.F.type_list_append mt_append (pv 4) (pa_cons (pe_ix ix_list (pv 3) (pv 6) (fun _ _ => rfl)) pa_nil)))))))))
      (pss_one (ps_ret (pe_call GG hr rfl DG.at_ DG.fn.kp DG.bd .nil (passN hX) (pa_cons (pv 4) pa_nil)))))), ?_⟩
    refine ⟨Nat.zero_le _, fun pg hpg => ⟨Nat.zero_le _, fun pw hpw => ?_⟩⟩
    have hpw0 : H pw = none := (Same.new hpg).free hpw
    have s0 : Same H (upd (upd H pg (.lst [])) pw (.lst [])) := (Same.new hpg).upd hpw0
    refine ⟨_, rfl, _, rfl, by omega, by omega, ?_⟩
    rw [Int.toNat_natCast]
    refine for_range (lo := 0) (n := n) (fun k σ H2 => ∃ pg v5 v6, σ = [some (.ref a), some (.int at_), some (.int n), some (.ref pg), some (.ref pw), v5, v6] ∧ Same H H2 ∧ H pg = none ∧ pg ≠ pw ∧
        H2 pg = some (.lst (iv (zl (freeState (cells ns at_ k)).1))) ∧ H2 pw = some (.lst (iv (zl (freeState (cells ns at_ k)).2))))
      ⟨pg, none, none, rfl, s0, hpg, ne_of_none upd_same hpw, by rw [upd_ne (ne_of_none upd_same hpw), upd_same]; rfl, upd_same⟩ ?_ ?_
    · rintro k σ H2 hk ⟨pg, v5, v6, rfl, s2, hpg, hne, h2, h3⟩
      rw [Int.zero_add]
      have hsz := freeState_len (cells ns at_ k)
      rw [cells_length] at hsz
      rw [cells_succ, freeState_snoc]
      generalize freeState (cells ns at_ k) = st at h2 h3 hsz ⊢
      generalize hc : ns.getD (at_ + k) 0 = c
      have len3 : (iv (zl st.1)).length = st.1.length := by rw [List.length_map, List.length_map]
      -- place = ..
      refine ⟨_, rfl, _, rfl, _, rfl, _, _, rfl, rfl, a, ns, at_ + k, rfl, s2.seq hS, ?_⟩
      rw [hc]
      refine ⟨_, rfl, pg, _, rfl, .inl (SqL.of h2), _, _, rfl, rfl, _, _, rfl, rfl, by omega, ?_⟩
      rw [len3]
      -- if ..: place = max(..)
      refine ⟨fun σ H3 => σ = [some (.ref a), some (.int at_), some (.int n), some (.ref pg), some (.ref pw), some (.int k), some (.int (fplace c st.1.length))] ∧ H2 = H3, ?_, ?_⟩
      · refine ⟨_, rfl, _, rfl, _, rfl, _, _, rfl, rfl, a, ns, at_ + k, rfl, s2.seq hS, ?_⟩
        rw [hc]
        refine ⟨_, _, rfl, rfl, ⟨by decide, by decide⟩, _, _, rfl, rfl, (by show (0 : Int) < 2; decide), rfl, _, rfl, iteD (fun h => ?_) fun h => ?_⟩
        · refine ⟨_, rfl, pg, _, rfl, .inl (SqL.of h2), _, _, rfl, rfl, _, rfl, _, _, rfl, rfl, (by show (0 : Int) < 2; decide), _, _, rfl, rfl, _, _, rfl, ?_⟩
          rw [len3]
          refine ⟨?_, rfl⟩
          have e : c / 64 % 2 = 1 := by injection h
          have e2 : (if (st.1.length : Int) - 1 - c % ((st.1.length : Int) + 1) % 2 > 0 then (st.1.length : Int) - 1 - c % ((st.1.length : Int) + 1) % 2 else 0) = fplace c st.1.length := by
            unfold fplace
            rw [if_pos e]
            split <;> omega
          rw [← e2]
          rfl
        · refine ⟨?_, rfl⟩
          have e : ¬ c / 64 % 2 = 1 := fun z => h (congrArg V.int z)
          have e2 : c % ((st.1.length : Int) + 1) = fplace c st.1.length := by
            unfold fplace
            rw [if_neg e]
          rw [← e2]
          rfl
      rintro σ H3 ⟨rfl, rfl⟩
      have fl := fplace_lo c st.1.length
      have fh := fplace_hi c st.1.length
      obtain ⟨p, hp⟩ : ∃ p : Nat, fplace c st.1.length = p := ⟨_, (Int.toNat_of_nonneg fl).symm⟩
      rw [fstep_eq st c (p := p) (by rw [hp]; rfl), hp]
      rw [hp] at fh
      have hpl : p ≤ st.1.length := by omega
      -- if place == len(going): going.append(len(set(word)))
      refine ⟨fun σ H3 => σ = [some (.ref a), some (.int at_), some (.int n), some (.ref pg), some (.ref pw), some (.int k), some (.int p)] ∧ Same H H3 ∧
        H3 pg = some (.lst (iv (zl (if p = st.1.length then st.1 ++ [(marks st.2).length] else st.1)))) ∧ H3 pw = some (.lst (iv (zl st.2))), ?_, ?_⟩
      · refine ⟨_, rfl, _, rfl, pg, _, rfl, .inl (SqL.of h2), rfl, _, rfl, iteD (fun h => ?_) fun h => ?_⟩
        · have e : p = st.1.length := by rw [len3] at h; injection h with z; omega
          refine ⟨_, rfl, .inl ⟨rfl, _, SqL.of h2⟩, _, rfl, pw, zl st.2, rfl, SqL.of h3, by rw [List.length_map]; omega, fun ps hps => ⟨ps, _, _, rfl, upd_same, ?_⟩⟩
          rw [set_size]
          refine ⟨pg, _, _, rfl, rfl, Same.new hps _ _ h2, small1000 (by rw [len3]; omega), rfl, ((s2.trans (Same.new hps)).upd hpg), ?_, ?_⟩
          · rw [upd_same, if_pos e]
            simp [iv, zl]
          · rw [upd_ne (Ne.symm hne)]
            exact Same.new hps _ _ h3
        · have e : ¬ p = st.1.length := fun z => h (by rw [len3, z])
          rw [if_neg e]
          exact ⟨rfl, s2, h2, h3⟩
      rintro σ H4 ⟨rfl, s4, h4, h5⟩
      generalize hg : (if p = st.1.length then st.1 ++ [(marks st.2).length] else st.1) = g at h4 ⊢
      have hpg2 : p < g.length := by
        rw [← hg]
        split
        · simp; omega
        · omega
      -- going = going[:place + 1]
      refine ⟨_, rfl, _, rfl, _, _, rfl, rfl, _, rfl, pg, _, rfl, SqL.of h4, fun pg2 hpg2' => ?_⟩
      have e5 : cutV (iv (zl g)) none (some ((p : Int) + 1)) = iv (zl (g.take (p + 1))) := by
        have := cutV_to (iv (zl g)) (p + 1)
        rw [show ((p + 1 : Nat) : Int) = (p : Int) + 1 from rfl] at this
        rw [this]
        simp [iv, zl, List.map_take]
      rw [e5]
      have h6 := Same.new (o := .lst (iv (zl (g.take (p + 1))))) hpg2' _ _ h5
      refine ⟨_, rfl, .inl ⟨rfl, _, SqL.of h6⟩, _, rfl, _, rfl, pg2, _, _, _, rfl, rfl, SqL.of upd_same, atI_nat (iv_of (p := g.getD p 0) ?_), pw, _, _, rfl, rfl, h6, small1000 ?_, ?_⟩
      · rw [List.getElem?_take, if_pos (by omega), List.getD_eq_getElem?_getD, List.getElem?_eq_getElem hpg2]
        rfl
      · rw [List.length_map, List.length_map]; omega
      · have n2 : pg2 ≠ pw := Ne.symm (ne_of_none h5 hpg2')
        refine ⟨pg2, _, _, rfl, ((s4.trans (Same.new hpg2')).upd hpw0), s4.free hpg2', n2, ?_, ?_⟩
        · rw [upd_ne n2, upd_same]
        · rw [upd_same]
          simp [iv, zl]
    · rintro σ H2 ⟨pg, v5, v6, rfl, s2, hpg, hne, h2, h3⟩
      refine ⟨_, rfl, pw, _, rfl, SqL.of h3, ?_, fun p H' N => q p H' ⟨s2.trans N.same, s2.free N.np, ?_⟩⟩
      · have := freeState_len (cells ns at_ n)
        rw [cells_length] at this
        omega
      · obtain ⟨as, h4, h5, h6⟩ := N.ex
        exact ⟨as, h4, paired_imp (fun x b e => ⟨s2.free e.1, e.2⟩) h5, h6⟩
end
end NCP

namespace NCP
open PySem L2 NC
section
variable {CX : CXT} {P : Program} {w : World} {K : PySem.W.Frag} {mg : Str → Option Value} {base : Heap}
theorem sc_whole : FnScope ["found"] ["found"] (defScope s_law_whole) := ⟨rfl, rfl, rfl, by decide +kernel, rfl, by decide +kernel, by decide +kernel⟩
theorem ok_whole {f : Addr} {fd : FuncData} (B : GBlt mg) (F : Fun K "_law_whole" "_law_whole" s_law_whole f fd) : FnOk P w K mg base CX 1 f fd ["found"] spWhole := by
  refine F.okX sc_whole (fun vs H Q E h => ?_) (fun cdv A outer s H vs Q E hr h => ?_)
  · obtain ⟨i, rfl, _⟩ := h
    rfl
  · obtain ⟨i, rfl, q⟩ := h
    refine ⟨_, pss_one (ps_ret (pe_and (pe_callB (call_isi (T := "int")) (by rfl) B.isi PyProof.Rows.boot_isinstance (pa_cons (pv 0) (pa_cons (pe_bltn (v := .ty "int") (by rfl) B.int PyProof.Rows.boot_int rfl) pa_nil)))
      (pe_one (pe_not (pe_callB (call_isi (T := "bool")) (by rfl) B.isi PyProof.Rows.boot_isinstance (pa_cons (pv 0) (pa_cons (pe_bltn (v := .ty "bool") (by rfl) B.bool PyProof.Rows.boot_bool rfl) pa_nil))))))), ?_⟩
    refine ⟨_, rfl, _, _, true, rfl, .int i, kit_int_int, _, rfl, iteT ?_⟩
    exact ⟨_, rfl, _, _, false, rfl, .int i, kit_int_bool, _, rfl, q⟩
end
end NCP

namespace NCP
open PySem L2 NC
section
variable {CX : CXT} {P : Program} {w : World} {K : PySem.W.Frag} {mg : Str → Option Value} {base : Heap}
theorem sc_parted : FnScope ["blocks", "found", "at", "block", "low", "high", "rest"] ["blocks"] (defScope s_law_parted) := ⟨rfl, rfl, rfl, by decide +kernel, rfl, by decide +kernel, by decide +kernel⟩
/-- a parting made, told by another list than the one that grows -/
def MadeAt (wd : List Nat) (pf : Addr) (H : Hp) (q : Addr) (y : Nat × (Nat × Nat)) : Prop := ∃ (u : List Nat) (as : List Addr), MadeOf wd u y ∧ H q = some (.lst (as.map V.ref)) ∧ Paired (IsBlk H) as (gather u) ∧ q ≠ pf ∧ pf ∉ as
theorem MadeAt.mono {wd : List Nat} {pf : Addr} {H H' : Hp} {q : Addr} {y : Nat × (Nat × Nat)} (h : MadeAt wd pf H q y) (s : Same H H') : MadeAt wd pf H' q y := by
  obtain ⟨u, as, h1, h2, h3, h4⟩ := h
  exact ⟨u, as, h1, s _ _ h2, paired_imp (fun a b e => s _ _ e) h3, h4⟩
theorem MadeAt.upd {wd : List Nat} {pf : Addr} {H : Hp} {q : Addr} {y : Nat × (Nat × Nat)} {o : HO} (h : MadeAt wd pf H q y) : MadeAt wd pf (L2.upd H pf o) q y := by
  obtain ⟨u, as, h1, h2, h3, h4, h5⟩ := h
  exact ⟨u, as, h1, by rw [upd_ne h4]; exact h2, paired_mem (fun a b ha e => by show L2.upd H pf o a = _; rw [upd_ne (fun (z : a = pf) => h5 (z ▸ ha))]; exact e) h3, h4, h5⟩
theorem paired_unmap {α β γ : Type} {F : α → γ → Prop} {g : β → γ} : ∀ {as : List α} {bs : List β}, Paired F as (bs.map g) → Paired (fun a b => F a (g b)) as bs
  | [], [], _ => .nil
  | _ :: _, _ :: _, .cons r t => .cons r (paired_unmap t)
theorem paired_zb {H : Hp} : ∀ {as : List Addr} {bs : List (List Nat)}, Paired (IsBlk H) as bs → Paired (fun a b => H a = some (.lst (iv b))) as (zb bs)
  | _, _, .nil => .nil
  | _, _, .cons r t => .cons r (paired_zb t)
theorem paired_app {α β : Type} {F : α → β → Prop} : ∀ {a1 : List α} {b1 : List β} {a2 : List α} {b2 : List β}, Paired F a1 b1 → Paired F a2 b2 → Paired F (a1 ++ a2) (b1 ++ b2)
  | _, _, _, _, .nil, t => t
  | _, _, _, _, .cons r s, t => .cons r (paired_app s t)
theorem paired_take {α β : Type} {F : α → β → Prop} : ∀ {a1 : List α} {b1 : List β} (i : Nat), Paired F a1 b1 → Paired F (a1.take i) (b1.take i)
  | _, _, 0, _ => .nil
  | _, _, _ + 1, .nil => .nil
  | _, _, i + 1, .cons r s => .cons r (paired_take i s)
theorem paired_drop {α β : Type} {F : α → β → Prop} : ∀ {a1 : List α} {b1 : List β} (i : Nat), Paired F a1 b1 → Paired F (a1.drop i) (b1.drop i)
  | _, _, 0, t => t
  | _, _, _ + 1, .nil => .nil
  | _, _, i + 1, .cons r s => paired_drop i s
theorem iv_take (b : List Nat) (k : Nat) : (iv (zl b)).take k = iv (zl (b.take k)) := by simp [iv, zl, List.map_take]
theorem iv_drop (b : List Nat) (k : Nat) : (iv (zl b)).drop k = iv (zl (b.drop k)) := by simp [iv, zl, List.map_drop]
def prsA (k a : Nat) : List (Nat × Nat) := (List.range a).flatMap fun a => (List.range (k - 1 - a)).map fun b => (a + 1, a + 2 + b)
def prsB (a m : Nat) : List (Nat × Nat) := (List.range m).map fun b => (a + 1, a + 2 + b)
def outs (ls : List Nat) (i : Nat) : List (Nat × (Nat × Nat)) := (List.range i).flatMap fun i => (prs (ls.getD i 0)).map fun x => (i, x)
theorem prsA_succ (k a : Nat) : prsA k (a + 1) = prsA k a ++ prsB a (k - 1 - a) := by
  unfold prsA
  rw [List.range_succ, List.flatMap_append, List.flatMap_singleton]
  rfl
theorem prsB_succ (a m : Nat) : prsB a (m + 1) = prsB a m ++ [(a + 1, a + 2 + m)] := by
  unfold prsB
  rw [List.range_succ, List.map_append]
  rfl
theorem outs_succ (ls : List Nat) (i : Nat) : outs ls (i + 1) = outs ls i ++ (prs (ls.getD i 0)).map fun x => (i, x) := by
  unfold outs
  rw [List.range_succ, List.flatMap_append, List.flatMap_singleton]
theorem ok_parted {f : Addr} {fd : FuncData} (B : GBlt mg) (F : Fun K "_law_parted" "_law_parted" s_law_parted f fd) : FnOk P w K mg base CX 1 f fd ["blocks"] spParted := by
  refine F.okX sc_parted (fun vs H Q E h => ?_) (fun cdv A outer s H vs Q E hr h => ?_)
  · obtain ⟨p, wd, rfl, _⟩ := h
    rfl
  · obtain ⟨p, wd, rfl, hL, hz, hF, q⟩ := h
    have nd := sc_parted.nd
    refine ⟨_, pss_cons (ps_set (i := 1) nd rfl (Or.inl rfl) (pe_lst pa_nil))
      (pss_cons (ps_for PassesOwn.never rfl (pi_range1 rfl B.range (pa_cons (pe_callB call_len_seq (by rfl) B.len PySem.boot_len (pa_cons (pv 0) pa_nil)) pa_nil)) (pg_name (i := 2) nd rfl (Or.inl rfl))
        (pss_cons (ps_set (i := 3) nd rfl (Or.inl rfl) (pe_ix ix_list (pv 0) (pv 2) (fun _ _ => rfl)))
        (pss_one (ps_for PassesOwn.never rfl (pi_range2 rfl B.range (pa_cons pe_int (pa_cons (pe_callB call_len_seq (by rfl) B.len PySem.boot_len (pa_cons (pv 3) pa_nil)) pa_nil))) (pg_name (i := 4) nd rfl (Or.inl rfl))
          (pss_one (ps_for PassesOwn.never rfl (pi_range2 rfl B.range (pa_cons (pe_op op_add (pv 4) pe_int) (pa_cons (pe_op op_add (pe_callB call_len_seq (by rfl) B.len PySem.boot_len (pa_cons (pv 3) pa_nil)) pe_int) pa_nil))) (pg_name (i := 5) nd rfl (Or.inl rfl))
            (pss_cons (ps_set (i := 6) nd rfl (Or.inl rfl) (pe_op op_cat (pe_slice sl_list (pv 3) po_none (po_some (pv 4))) (pe_slice sl_list (pv 3) (po_some (pv 5)) po_none)))
            (pss_one (ps_expr (pe_bm PySem.F.plainAttrs_list PySem.F.slot_list_append PySem.F.type_list_append mt_append (pv 1) (pa_cons
              (pe_callB (call_sorted_heads hr.units) (by rfl) B.sorted PyProof.Rows.boot_sorted (pa_cons
                (pe_op op_cat (pe_op op_cat (pe_slice sl_list (pv 0) po_none (po_some (pv 2))) (pe_lst (pa_cons (pv 6) (pa_cons (pe_slice sl_list (pv 3) (po_some (pv 4)) (po_some (pv 5))) pa_nil)))) (pe_slice sl_list (pv 0) (po_some (pe_op op_add (pv 2) pe_int)) po_none)) pa_nil)) pa_nil)))))))))))
      (pss_one (ps_ret (pv 1)))), ?_⟩
    refine ⟨Nat.zero_le _, fun pf hpf => ?_⟩
    obtain ⟨as, hp, hbs0⟩ := id hL
    have hbs : Paired (IsBlk H) as (gather wd) := paired_unmap (F := fun a b => H a = some (.lst (iv b))) (g := zl) hbs0
    have hal : as.length = (gather wd).length := paired_len hbs
    have hst := steps_lens wd
    have hpfas : pf ∉ as := fun z => by
      obtain ⟨k, hk, ek⟩ := List.mem_iff_getElem.mp z
      obtain ⟨c, _, hc⟩ := paired_get hbs (i := k) (a := pf) (by rw [List.getElem?_eq_getElem hk, ek])
      have hc : H pf = _ := hc
      rw [hpf] at hc
      cases hc
    have s0 := Same.new (o := .lst []) hpf
    have h20 : (2000 : Nat) < sizeLine := by decide
    refine ⟨_, rfl, p, _, rfl, .inl (SqL.of (s0 _ _ hp)), _, rfl, by rw [List.length_map]; omega, by rw [List.length_map]; omega, ?_⟩
    rw [List.length_map, Int.toNat_natCast]
    refine for_range (lo := 0) (n := as.length) (fun i σ H1 => ∃ (v2 v3 v4 v5 v6 : Option V) (ps : List Addr), σ = [some (.ref p), some (.ref pf), v2, v3, v4, v5, v6] ∧ Same H H1 ∧ H1 pf = some (.lst (ps.map V.ref)) ∧ Paired (MadeAt wd pf H1) ps (outs (lens wd) i) ∧ ps.length ≤ 100 * i)
      ⟨none, none, none, none, none, [], rfl, s0, upd_same, .nil, Nat.zero_le _⟩ ?_ ?_
    · rintro i σ H1 hi ⟨v2, v3, v4, v5, v6, ps, rfl, s1, h1, hps, hpl⟩
      rw [Int.zero_add]
      have hia : as[i]? = some as[i] := List.getElem?_eq_getElem hi
      obtain ⟨b, hb, hba⟩ := paired_get hbs hia
      generalize as[i] = ba at hia hba
      have hlb : (lens wd)[i]? = some b.length := by rw [List.getElem?_map, hb]; rfl
      have hgd : (lens wd).getD i 0 = b.length := by rw [List.getD_eq_getElem?_getD, hlb]; rfl
      obtain ⟨hb1, hb2⟩ := lens_ok (List.mem_of_getElem? hlb)
      have hbl : (iv (zl b)).length = b.length := by rw [List.length_map, List.length_map]
      refine ⟨_, rfl, _, rfl, p, _, _, .ref ba, rfl, rfl, SqL.of (s1 _ _ hp), atI_nat (by rw [List.getElem?_map, hia]; rfl), ?_⟩
      refine ⟨_, rfl, ba, _, rfl, .inl (SqL.of (s1 _ _ hba)), _, _, rfl, ⟨by omega, by omega, by omega, by omega⟩, ?_⟩
      rw [hbl, show ((b.length : Int) - 1).toNat = b.length - 1 by omega]
      refine for_range (lo := 1) (n := b.length - 1) (fun a σ H2 => ∃ (v4 v5 v6 : Option V) (ps : List Addr), σ = [some (.ref p), some (.ref pf), some (.int i), some (.ref ba), v4, v5, v6] ∧ Same H H2 ∧ H2 pf = some (.lst (ps.map V.ref)) ∧ Paired (MadeAt wd pf H2) ps (outs (lens wd) i ++ (prsA b.length a).map fun x => (i, x)) ∧ ps.length ≤ 100 * i + 10 * a)
        ⟨v4, v5, v6, ps, rfl, s1, h1, by rw [show prsA b.length 0 = [] from rfl, List.map_nil, List.append_nil]; exact hps, by omega⟩ ?_ ?_
      · rintro a σ H2 ha ⟨v4, v5, v6, ps2, rfl, s2, h2, hps2, hpl2⟩
        rw [show (1 : Int) + (a : Int) = ((a + 1 : Nat) : Int) by omega]
        refine ⟨_, rfl, _, _, rfl, rfl, _, rfl, ba, _, rfl, .inl (SqL.of (s2 _ _ hba)), _, _, rfl, rfl, _, _, rfl, ⟨by omega, by omega, by omega, by omega⟩, ?_⟩
        rw [hbl, show ((b.length : Int) + 1 - (((a + 1 : Nat) : Int) + 1)).toNat = b.length - 1 - a by omega]
        refine for_range (lo := ((a + 1 : Nat) : Int) + 1) (n := b.length - 1 - a) (fun m σ H3 => ∃ (v5 v6 : Option V) (ps : List Addr), σ = [some (.ref p), some (.ref pf), some (.int i), some (.ref ba), some (.int ((a + 1 : Nat) : Int)), v5, v6] ∧ Same H H3 ∧ H3 pf = some (.lst (ps.map V.ref)) ∧ Paired (MadeAt wd pf H3) ps ((outs (lens wd) i ++ (prsA b.length a).map fun x => (i, x)) ++ (prsB a m).map fun x => (i, x)) ∧ ps.length ≤ 100 * i + 10 * a + m)
          ⟨v5, v6, ps2, rfl, s2, h2, by rw [show prsB a 0 = [] from rfl, List.map_nil, List.append_nil]; exact hps2, by omega⟩ ?_ ?_
        · rintro m σ H3 hm ⟨v5, v6, ps3, rfl, s3, h3, hps3, hpl3⟩
          rw [show ((a + 1 : Nat) : Int) + 1 + (m : Int) = ((a + 2 + m : Nat) : Int) by omega]
          have h3b := s3 _ _ hba
          have hlh : a + 1 < a + 2 + m := by omega
          have hhb : a + 2 + m ≤ b.length := by omega
          have npf : ∀ {Hx : Hp} {l : Addr}, Same H3 Hx → Hx l = none → l ≠ pf := fun sx hl z => by
            have := sx _ _ h3
            rw [← z, hl] at this
            cases this
          -- rest
          refine ⟨_, rfl, _, rfl, _, rfl, ba, _, rfl, SqL.of h3b, fun l1 hl1 => ?_⟩
          rw [cutV_to, iv_take]
          have t1 := Same.new (o := .lst (iv (zl (b.take (a + 1))))) hl1
          have g1 : (upd H3 l1 (.lst (iv (zl (b.take (a + 1)))))) l1 = some (.lst (iv (zl (b.take (a + 1))))) := upd_same
          generalize upd H3 l1 (.lst (iv (zl (b.take (a + 1))))) = H4 at t1 g1 ⊢
          refine ⟨_, rfl, _, rfl, _, rfl, ba, _, rfl, SqL.of (t1 _ _ h3b), fun l2 hl2 => ?_⟩
          rw [cutV_from, iv_drop]
          have t2 := Same.new (o := .lst (iv (zl (b.drop (a + 2 + m))))) hl2
          have g2 : (upd H4 l2 (.lst (iv (zl (b.drop (a + 2 + m)))))) l2 = some (.lst (iv (zl (b.drop (a + 2 + m))))) := upd_same
          generalize upd H4 l2 (.lst (iv (zl (b.drop (a + 2 + m))))) = H5 at t2 g2 ⊢
          refine ⟨l1, l2, _, _, rfl, rfl, t2 _ _ g1, g2, by rw [List.length_map, List.length_map, List.length_map, List.length_map, List.length_take, List.length_drop]; omega, fun l3 hl3 => ?_⟩
          have e3 : iv (zl (b.take (a + 1))) ++ iv (zl (b.drop (a + 2 + m))) = iv (zl (resting b (a + 1) (a + 2 + m))) := by simp [iv, zl]
          rw [e3]
          have n3 := npf (t1.trans t2) hl3
          have t3 := (t1.trans t2).trans (Same.new (o := .lst (iv (zl (resting b (a + 1) (a + 2 + m))))) hl3)
          have g3 : (upd H5 l3 (.lst (iv (zl (resting b (a + 1) (a + 2 + m)))))) l3 = some (.lst (iv (zl (resting b (a + 1) (a + 2 + m))))) := upd_same
          generalize upd H5 l3 (.lst (iv (zl (resting b (a + 1) (a + 2 + m))))) = H6 at t3 g3 ⊢
          -- the blocks ahead
          have hp6 := t3 _ _ (s3 _ _ hp)
          refine ⟨_, rfl, .inl ⟨rfl, _, SqL.of (t3 _ _ h3)⟩, ?_⟩
          refine ⟨_, rfl, _, rfl, _, rfl, p, _, rfl, SqL.of hp6, fun l4 hl4 => ?_⟩
          rw [cutV_to, ← List.map_take]
          have t4 := Same.new (o := .lst ((as.take i).map V.ref)) hl4
          have g4 : (upd H6 l4 (.lst ((as.take i).map V.ref))) l4 = some (.lst ((as.take i).map V.ref)) := upd_same
          generalize upd H6 l4 (.lst ((as.take i).map V.ref)) = H7 at t4 g4 ⊢
          -- the two
          have s7 := t3.trans t4
          refine ⟨_, rfl, _, rfl, _, rfl, _, rfl, _, rfl, _, rfl, ba, _, rfl, SqL.of (s7 _ _ h3b), fun l5 hl5 => ?_⟩
          have e5 : cutV (iv (zl b)) (some ((a + 1 : Nat) : Int)) (some ((a + 2 + m : Nat) : Int)) = iv (zl (stretch b (a + 1) (a + 2 + m))) := by
            rw [cutV_mid _ (by rw [hbl]; omega) (by rw [hbl]; omega), iv_drop, iv_take, ← List.drop_take]
          rw [e5]
          have n5 := npf s7 hl5
          have t5 := Same.new (o := .lst (iv (zl (stretch b (a + 1) (a + 2 + m))))) hl5
          have g5 : (upd H7 l5 (.lst (iv (zl (stretch b (a + 1) (a + 2 + m)))))) l5 = some (.lst (iv (zl (stretch b (a + 1) (a + 2 + m))))) := upd_same
          generalize upd H7 l5 (.lst (iv (zl (stretch b (a + 1) (a + 2 + m))))) = H8 at t5 g5 ⊢
          refine ⟨by show 2 ≤ sizeLine; decide, fun l6 hl6 => ?_⟩
          have t6 := Same.new (o := .lst [.ref l3, .ref l5]) hl6
          have g6 : (upd H8 l6 (.lst [.ref l3, .ref l5])) l6 = some (.lst [.ref l3, .ref l5]) := upd_same
          generalize upd H8 l6 (.lst [.ref l3, .ref l5]) = H9 at t6 g6 ⊢
          refine ⟨l4, l6, _, _, rfl, rfl, t6 _ _ (t5 _ _ g4), g6, by rw [List.length_map, List.length_take]; show _ + 2 ≤ _; omega, fun l7 hl7 => ?_⟩
          have t7 := Same.new (o := .lst ((as.take i).map V.ref ++ [.ref l3, .ref l5])) hl7
          have g7 : (upd H9 l7 (.lst ((as.take i).map V.ref ++ [.ref l3, .ref l5]))) l7 = some (.lst ((as.take i).map V.ref ++ [.ref l3, .ref l5])) := upd_same
          generalize upd H9 l7 (.lst ((as.take i).map V.ref ++ [.ref l3, .ref l5])) = H10 at t7 g7 ⊢
          -- the blocks behind
          have s610 := ((t4.trans t5).trans t6).trans t7
          refine ⟨_, rfl, _, rfl, _, _, rfl, rfl, _, rfl, p, _, rfl, SqL.of (s610 _ _ hp6), fun l8 hl8 => ?_⟩
          rw [show (i : Int) + 1 = ((i + 1 : Nat) : Int) from rfl, cutV_from, ← List.map_drop]
          have t8 := Same.new (o := .lst ((as.drop (i + 1)).map V.ref)) hl8
          have g8 : (upd H10 l8 (.lst ((as.drop (i + 1)).map V.ref))) l8 = some (.lst ((as.drop (i + 1)).map V.ref)) := upd_same
          generalize upd H10 l8 (.lst ((as.drop (i + 1)).map V.ref)) = H11 at t8 g8 ⊢
          refine ⟨l7, l8, _, _, rfl, rfl, t8 _ _ g7, g8, by rw [List.length_append, List.length_map, List.length_map, List.length_take, List.length_drop]; show _ + 2 + _ ≤ _; omega, fun l9 hl9 => ?_⟩
          have e9 : (as.take i).map V.ref ++ [.ref l3, .ref l5] ++ (as.drop (i + 1)).map V.ref = (as.take i ++ [l3, l5] ++ as.drop (i + 1)).map V.ref := by simp
          rw [e9]
          obtain ⟨asM, hasM⟩ : ∃ asM, asM = as.take i ++ [l3, l5] ++ as.drop (i + 1) := ⟨_, rfl⟩
          rw [← hasM]
          have t9 := t8.trans (Same.new (o := .lst (asM.map V.ref)) hl9)
          have g9 : (upd H11 l9 (.lst (asM.map V.ref))) l9 = some (.lst (asM.map V.ref)) := upd_same
          generalize upd H11 l9 (.lst (asM.map V.ref)) = H12 at t9 g9 ⊢
          have s312 := (t3.trans s610).trans t9
          have s312' := s3.trans s312
          have hb12 : Paired (IsBlk H12) as (gather wd) := paired_imp (fun a b e => s312' _ _ e) hbs
          have hP12 : Paired (IsBlk H12) asM ((gather wd).take i ++ [resting b (a + 1) (a + 2 + m), stretch b (a + 1) (a + 2 + m)] ++ (gather wd).drop (i + 1)) := by
            rw [hasM]
            exact paired_app (paired_app (paired_take i hb12) (.cons ((s610.trans t9) _ _ g3) (.cons (((t6.trans t7).trans t9) _ _ g5) .nil))) (paired_drop (i + 1) hb12)
          obtain ⟨c1, c2, c3, c4, c5⟩ := sorted_made (K := K) hz hF hb (by omega) hlh hhb hP12
          refine ⟨l9, asM, fun a => (blkOf H12 a).headD 0, rfl, SqL.of g9, c1, c2, c3, c4, fun l10 as' hl10 hp' hs' => ?_⟩
          obtain ⟨u, hu, hPu⟩ := c5 as' hp' hs'
          have n10 := npf s312 hl10
          have t10 := Same.new (o := .lst (as'.map V.ref)) hl10
          have g10 : (upd H12 l10 (.lst (as'.map V.ref))) l10 = some (.lst (as'.map V.ref)) := upd_same
          generalize upd H12 l10 (.lst (as'.map V.ref)) = H13 at t10 g10 ⊢
          have s313 := s312.trans t10
          refine ⟨pf, _, _, rfl, rfl, s313 _ _ h3, by rw [List.length_map]; omega, ?_⟩
          have nin : pf ∉ as' := fun z => by
            have z := hp'.mem_iff.mp z
            rw [hasM, List.mem_append, List.mem_append] at z
            rcases z with (z | z) | z
            · exact hpfas (List.mem_of_mem_take z)
            · rcases List.mem_cons.mp z with z | z
              · exact n3 z.symm
              · rw [List.mem_singleton] at z
                exact n5 z.symm
            · exact hpfas (List.mem_of_mem_drop z)
          have hnew : MadeAt wd pf H13 l10 (i, (a + 1, a + 2 + m)) := ⟨u, as', hu, g10, paired_imp (fun a b e => t10 _ _ e) hPu, n10, nin⟩
          refine ⟨_, _, ps3 ++ [l10], rfl, (s3.trans s313).upd hpf, by rw [upd_same, List.map_append]; rfl, ?_, by rw [List.length_append]; show _ + 1 ≤ _; omega⟩
          rw [prsB_succ, List.map_append, ← List.append_assoc]
          exact paired_snoc (paired_imp (fun q y h => (h.mono s313).upd) hps3) hnew.upd
        · rintro σ H3 ⟨v5, v6, ps3, rfl, s3, h3, hps3, hpl3⟩
          refine ⟨_, _, _, ps3, rfl, s3, h3, ?_, by omega⟩
          rw [prsA_succ, List.map_append, ← List.append_assoc]
          exact hps3
      · rintro σ H2 ⟨v4, v5, v6, ps2, rfl, s2, h2, hps2, hpl2⟩
        refine ⟨_, _, _, _, _, ps2, rfl, s2, h2, ?_, by omega⟩
        rw [outs_succ, hgd]
        exact hps2
    · rintro σ H1 ⟨v2, v3, v4, v5, v6, ps, rfl, s1, h1, hps, hpl⟩
      refine ⟨_, rfl, q pf ps H1 s1 h1 (by omega) ?_⟩
      have e : allPrs (lens wd) = outs (lens wd) as.length := by
        unfold allPrs outs
        rw [List.length_map, hal]
      rw [e]
      exact paired_imp (fun q y ⟨u, as', e1, e2, e3, _⟩ => ⟨u, e1, as', e2, paired_zb e3⟩) hps
end
end NCP

namespace NCP
open PySem L2 NC
section
variable {CX : CXT} {P : Program} {w : World} {K : PySem.W.Frag} {mg : Str → Option Value} {base : Heap}
abbrev nLaw : List Str := ["script", "points", "blocks", "handed", "found"]
theorem sc_law : FnScope nLaw ["script"] (defScope s_law) := ⟨rfl, rfl, rfl, by decide +kernel, rfl, by decide +kernel, by decide +kernel⟩
theorem nd_mp : (["made", "points"] : List Str).Nodup := by decide +kernel
def eUp : TE := fun τ H Q => ∃ (q : Addr) (u : List Nat), τ = [some (.ref q), some (.int (u.length : Nat))] ∧ LL H q (zb (gather u)) ∧ u.length ≤ 10 ∧ Free u ∧ ∀ H', Same H H' → Q (.int (wup (lens u) : Nat)) H'
theorem paired_pick {α β γ : Type} {A : γ → β → Prop} {C : α → γ → Prop} {ps : List α} {L : List β} (h : Paired (fun q y => ∃ u, A u y ∧ C q u) ps L) : ∃ us : List γ, Paired A us L ∧ Paired C ps us := by
  induction h with
  | nil => exact ⟨[], .nil, .nil⟩
  | cons r t ih =>
    obtain ⟨u, h1, h2⟩ := r
    obtain ⟨us, t1, t2⟩ := ih
    exact ⟨u :: us, .cons h1 t1, .cons h2 t2⟩
theorem ok_law {f fC fF fU fW fP : Addr} {fd fdC fdF fdU fdW fdP : FuncData} (hX : CxNo CX) (B : GBlt mg) (F : Fun K "law" "law" s_law f fd)
    (DC : Dn K mg "_law_cell_at" s_law_cell_at ["script", "k"] fC fdC) (GC : FnOk P w K mg base CX 1 fC fdC ["script", "k"] (spCell K))
    (DF : Dn K mg "_law_free_by" s_law_free_by ["script", "at", "points"] fF fdF) (GF : FnOk P w K mg base CX 2 fF fdF ["script", "at", "points"] (spFreeBy K))
    (DU : Dn K mg "ways_up" s_ways_up ["points", "blocks"] fU fdU) (GU : FnOk P w K mg base CX 5 fU fdU ["points", "blocks"] spWaysUp)
    (DW : Dn K mg "_law_whole" s_law_whole ["found"] fW fdW) (GW : FnOk P w K mg base CX 1 fW fdW ["found"] spWhole)
    (DP : Dn K mg "_law_parted" s_law_parted ["blocks"] fP fdP) (GP : FnOk P w K mg base CX 1 fP fdP ["blocks"] spParted) : FnOk P w K mg base CX 6 f fd ["script"] (spLaw K) := by
  refine F.okX sc_law (fun vs H Q E h => ?_) (fun cdv A outer s H vs Q E hr h => ?_)
  · obtain ⟨a, ns, rfl, _⟩ := h
    rfl
  · obtain ⟨a, ns, rfl, hS, hlen, q⟩ := h
    have nd := sc_law.nd
    have hr1 := hr.mono (show 1 ≤ 5 by decide)
    have hr2 := hr.mono (show 2 ≤ 5 by decide)
    refine ⟨_, pss_cons (ps_set (i := 1) nd rfl (Or.inr rfl) (pe_op op_mod (pe_call GC hr1 rfl DC.at_ DC.fn.kp DC.bd .nil (passN hX) (pa_cons (pv 0) (pa_cons pe_int pa_nil))) pe_int))
      (pss_cons (ps_set (i := 2) nd rfl (Or.inl rfl) (pe_call GF hr2 rfl DF.at_ DF.fn.kp DF.bd .nil (passN hX) (pa_cons (pv 0) (pa_cons pe_int (pa_cons (pv 1) pa_nil)))))
      (pss_cons (ps_setC (i := 3) (g := gName 0) (te := eCopy) nd rfl (Or.inl rfl) rfl (cpS (N := ["block"]) (js := [none]) (defScope s_law) nLaw (by decide +kernel)) (pi_list (pv 2))
        (by intros; exact pg_name (i := 0) nd_block rfl (Or.inl rfl) (Or.inr rfl))
        (by
          intros
          refine (pe_callTy call_list_of (by rfl) B.list PyProof.Rows.boot_list (pa_cons (pv 0) pa_nil)).imp fun τ H Q h => ?_
          obtain ⟨a, xs, e, ha, q⟩ := h
          exact ⟨_, e, a, xs, rfl, .inl (SqL.of ha), q⟩))
      (pss_cons (ps_set (i := 4) nd rfl (Or.inl rfl) (pe_call GU hr rfl DU.at_ DU.fn.kp DU.bd .nil (passN hX) (pa_cons (pv 1) (pa_cons (pv 3) pa_nil))))
      (pss_cons (ps_if (PW.pt (pw_or (pt_not (pt_val (pe_call GW hr1 rfl DW.at_ DW.fn.kp DW.bd .nil (passN hX) (pa_cons (pv 4) pa_nil))))
          (pw_or1 (pt_cmpR (op_neE enc_int.list.list hr.units) (pv 3) (pv 2) (nomark _))))) (pss_one (ps_ret pe_bl)) pss_nil)
      (pss_cons (ps_if (pt_cmpR op_eq (pe_callB call_len_seq (by rfl) B.len PySem.boot_len (pa_cons (pv 2) pa_nil)) (pv 1) (nomark _)) (pss_one (ps_ret (pe_cmpR op_eq (pv 4) pe_int (nomark _)))) pss_nil)
      (pss_one (ps_ret (pe_cmpR op_eq (pv 4) (pe_callB (call_sum_ints rfl) (by rfl) B.sum PyProof.Rows.boot_sum (pa_cons
        (pe_lcomp (g := gName 0) (te := eUp) rfl (cpS (N := ["made", "points"]) (js := [none, some 1]) (defScope s_law) nLaw (by decide +kernel)) (pi_list (pe_call GP hr1 rfl DP.at_ DP.fn.kp DP.bd .nil (passN hX) (pa_cons (pv 2) pa_nil)))
          (by intros; exact pg_name (i := 0) nd_mp rfl (Or.inl rfl) (Or.inr rfl))
          (by
            intros
            refine (pe_call GU hr (by rfl) DU.at_ DU.fn.kp DU.bd .nil (passN hX) (pa_cons (pv 1) (pa_cons (pv 0) pa_nil))).imp fun τ H Q h => ?_
            obtain ⟨q, u, rfl, hL, hz, hF, k⟩ := h
            exact ⟨_, rfl, _, rfl, q, u, rfl, hL, hz, hF, k⟩)) pa_nil)) (nomark _))))))))), ?_⟩
    -- points
    refine ⟨_, rfl, a, ns, 0, rfl, hS, _, _, rfl, rfl, (by show (0 : Int) < 11; decide), ?_⟩
    obtain ⟨n, hn, hn11⟩ := natMod (ns.getD 0 0) 11 (by decide)
    have hn10 : n ≤ 10 := by omega
    have hn1000 : n ≤ 1000 := by omega
    show gName 1 (V.int (ns.getD 0 0 % 11)) _ _ _
    rw [show ns.getD 0 0 % 11 = (n : Int) from hn]
    -- blocks
    refine ⟨_, rfl, _, rfl, a, ns, 10, n, rfl, hS, hn1000, fun pb H1 N1 => ?_⟩
    have hwl : (freeWord (cells ns 10 n)).length = n := by rw [freeWord_length, cells_length]
    have hF := freeWord_free (cells ns 10 n)
    generalize freeWord (cells ns 10 n) = wd at N1 hwl hF
    have hL1 := N1.ll
    have hst := steps_lens wd
    obtain ⟨as, hpb, hbs⟩ := id hL1
    have hal : as.length = (gather wd).length := by rw [paired_len hbs, List.length_map]
    -- handed
    refine ⟨_, rfl, pb, rfl, ⟨_, SqL.of hpb⟩, fun ph hph => comp_copies hL1 hph (by rw [List.length_map]; omega) fun H4 N4 => ?_⟩
    have hL4 : LL H4 pb (zb (gather wd)) := hL1.mono N4.same
    have hL4h : LL H4 ph (zb (gather wd)) := N4.ll
    have hpb4 := N4.same _ _ hpb
    -- found
    refine ⟨_, rfl, _, rfl, ph, wd, by rw [hwl]; rfl, hL4h, by omega, hF, fun H5 s5 => ?_⟩
    refine ⟨_, rfl, _, rfl, true, rfl, iteF ?_⟩
    refine ⟨_, rfl, _, rfl, zb (gather wd), zb (gather wd), rd_LL (hL4h.mono s5), rd_LL (hL4.mono s5), _, rfl, iteNS rfl ?_⟩
    refine ⟨_, rfl, pb, _, rfl, .inl (SqL.of (s5 _ _ hpb4)), _, rfl, rfl, _, rfl, iteD (fun e => ?_) fun hne => ?_⟩
    · have e' : (gather wd).length = wd.length := by
        injection e with e
        rw [List.length_map, hal] at e
        have := Int.ofNat.inj e
        omega
      rw [wup_single e']
      exact ⟨_, rfl, rfl, q _⟩
    · have hne' : (gather wd).length ≠ wd.length := fun z => hne (by rw [List.length_map, hal, z, hwl])
      refine ⟨_, rfl, _, rfl, pb, wd, rfl, hL4.mono s5, by omega, hF, fun r ps H6 s6 h6 hpl hP => ?_⟩
      obtain ⟨us, hM, hU⟩ := paired_pick hP
      have hul : ps.length = us.length := paired_len hU
      refine ⟨r, rfl, ⟨_, SqL.of h6⟩, fun pc hpc => comp_listI (K := K) (xs := ps.map V.ref) (Hs := H6) (fun i => .int (wup (lens (us.getD i [])) : Nat)) (fun τ => ∃ v, τ = [v, some (.int n)]) (Same.refl _) hpc (SqL.of h6) (by rw [List.length_map]; exact Nat.le_trans hpl (by show 2000 ≤ sizeLine; decide)) ⟨_, rfl⟩ ?_ ?_⟩
      · rintro i x τ H7 R hi ⟨v, rfl⟩ s7 k
        obtain ⟨t, ht, rfl⟩ := refs_get hi
        obtain ⟨u, hu, hLu⟩ := paired_get hU ht
        obtain ⟨y, hy, hMu⟩ := paired_get hM hu
        have hg : us.getD i [] = u := by rw [List.getD_eq_getElem?_getD, hu]; rfl
        rw [hg] at k
        have hul' : u.length = n := by rw [hMu.1, hwl]
        exact ⟨t, u, by rw [hul']; rfl, hLu.mono s7, by omega, hMu.2.1, fun H' s' => k _ _ ⟨_, rfl⟩ s'⟩
      · intro H7 s7 h7
        have e7 : (List.range (ps.map V.ref).length).map (fun i => V.int (wup (lens (us.getD i [])) : Nat)) = ((us.map fun u => wup (lens u)).map fun (x : Nat) => (x : Int)).map V.int := by
          rw [List.length_map, hul, List.map_map, List.map_map]
          apply List.ext_getElem?
          intro i
          rw [List.getElem?_map, List.getElem?_map]
          by_cases hi : i < us.length
          · rw [List.getElem?_range hi, List.getElem?_eq_getElem hi]
            show some (V.int ((wup (lens (us.getD i [])) : Nat) : Int)) = some (V.int ((wup (lens us[i]) : Nat) : Int))
            rw [List.getD_eq_getElem?_getD, List.getElem?_eq_getElem hi]
            rfl
          · rw [List.getElem?_eq_none_iff.mpr (by simpa using hi), List.getElem?_eq_none_iff.mpr (by omega)]
            rfl
        rw [e7] at h7
        refine ⟨pc, _, rfl, SqL.of h7, ?_⟩
        rw [sum_cast, parted_sum (by omega) hne' hM]
        refine ⟨rfl, ?_⟩
        rw [decide_eq_true rfl]
        exact q _
end
end NCP

namespace NCP
open PySem L2 NC
theorem all_mk {l : PySem.W.OpenLaw} {w : World} {K : PySem.W.Frag} {h : Heap} {mg : Str → Option Value} {fa f0 f1 f2 f3 f4 f5 f6 f7 f8 f9 f10 f11 f12 f13 f14 f15 f16 : Addr} (X : K.In h) (G : h.Ns mainGlobals mg) (hfa : mg "law" = some (.ref fa))
    {od0 an0 od1 an1 od2 an2 od3 an3 od4 an4 od5 an5 od6 an6 od7 an7 od8 an8 od9 an9 od10 an10 od11 an11 od12 an12 od13 an13 od14 an14 od15 an15 od16 an16 : Option Addr} {sl0 sl1 sl2 sl3 sl4 sl5 sl6 sl7 sl8 sl9 sl10 sl11 sl12 sl13 sl14 sl15 sl16 : Array (Option Value)}
    {oc0 kV0 dc0 pm0 cd0 ct0 oc1 kV1 dc1 pm1 cd1 ct1 oc2 kV2 dc2 pm2 cd2 ct2 oc3 kV3 dc3 pm3 cd3 ct3 oc4 kV4 dc4 pm4 cd4 ct4 oc5 kV5 dc5 pm5 cd5 ct5 oc6 kV6 dc6 pm6 cd6 ct6 oc7 kV7 dc7 pm7 cd7 ct7 oc8 kV8 dc8 pm8 cd8 ct8 oc9 kV9 dc9 pm9 cd9 ct9 oc10 kV10 dc10 pm10 cd10 ct10 oc11 kV11 dc11 pm11 cd11 ct11 oc12 kV12 dc12 pm12 cd12 ct12 oc13 kV13 dc13 pm13 cd13 ct13 oc14 kV14 dc14 pm14 cd14 ct14 oc15 kV15 dc15 pm15 cd15 ct15 oc16 kV16 dc16 pm16 cd16 ct16 : Value}
    {tMOST_POINTS : Tok}
    (a0 : PySem.W.nsIn K mainGlobals "rises" = some (some (.ref f0))) (l0 : K.lookup f0 = some ⟨oc0, od0, .func (PySem.W.fnOf "rises" "rises" (defArgs s_rises) (defBody s_rises) (defScope s_rises) .none kV0 dc0 pm0 an0 cd0 ct0), sl0⟩) (c0 : PySem.W.codeIn K cd0 "rises" = true) (k0 : PySem.W.keepIn K (.ref f0) = true)
    (a1 : PySem.W.nsIn K mainGlobals "points_in" = some (some (.ref f1))) (l1 : K.lookup f1 = some ⟨oc1, od1, .func (PySem.W.fnOf "points_in" "points_in" (defArgs s_points_in) (defBody s_points_in) (defScope s_points_in) .none kV1 dc1 pm1 an1 cd1 ct1), sl1⟩) (c1 : PySem.W.codeIn K cd1 "points_in" = true) (k1 : PySem.W.keepIn K (.ref f1) = true)
    (a2 : PySem.W.nsIn K mainGlobals "is_parting" = some (some (.ref f2))) (l2 : K.lookup f2 = some ⟨oc2, od2, .func (PySem.W.fnOf "is_parting" "is_parting" (defArgs s_is_parting) (defBody s_is_parting) (defScope s_is_parting) .none kV2 dc2 pm2 an2 cd2 ct2), sl2⟩) (c2 : PySem.W.codeIn K cd2 "is_parting" = true) (k2 : PySem.W.keepIn K (.ref f2) = true)
    (a3 : PySem.W.nsIn K mainGlobals "refuse_no_parting" = some (some (.ref f3))) (l3 : K.lookup f3 = some ⟨oc3, od3, .func (PySem.W.fnOf "refuse_no_parting" "refuse_no_parting" (defArgs s_refuse_no_parting) (defBody s_refuse_no_parting) (defScope s_refuse_no_parting) .none kV3 dc3 pm3 an3 cd3 ct3), sl3⟩) (c3 : PySem.W.codeIn K cd3 "refuse_no_parting" = true) (k3 : PySem.W.keepIn K (.ref f3) = true)
    (a4 : PySem.W.nsIn K mainGlobals "block_places" = some (some (.ref f4))) (l4 : K.lookup f4 = some ⟨oc4, od4, .func (PySem.W.fnOf "block_places" "block_places" (defArgs s_block_places) (defBody s_block_places) (defScope s_block_places) .none kV4 dc4 pm4 an4 cd4 ct4), sl4⟩) (c4 : PySem.W.codeIn K cd4 "block_places" = true) (k4 : PySem.W.keepIn K (.ref f4) = true)
    (a5 : PySem.W.nsIn K mainGlobals "first_crossing" = some (some (.ref f5))) (l5 : K.lookup f5 = some ⟨oc5, od5, .func (PySem.W.fnOf "first_crossing" "first_crossing" (defArgs s_first_crossing) (defBody s_first_crossing) (defScope s_first_crossing) .none kV5 dc5 pm5 an5 cd5 ct5), sl5⟩) (c5 : PySem.W.codeIn K cd5 "first_crossing" = true) (k5 : PySem.W.keepIn K (.ref f5) = true)
    (a6 : PySem.W.nsIn K mainGlobals "refuse_crossing" = some (some (.ref f6))) (l6 : K.lookup f6 = some ⟨oc6, od6, .func (PySem.W.fnOf "refuse_crossing" "refuse_crossing" (defArgs s_refuse_crossing) (defBody s_refuse_crossing) (defScope s_refuse_crossing) .none kV6 dc6 pm6 an6 cd6 ct6), sl6⟩) (c6 : PySem.W.codeIn K cd6 "refuse_crossing" = true) (k6 : PySem.W.keepIn K (.ref f6) = true)
    (a7 : PySem.W.nsIn K mainGlobals "refuse_unless_free" = some (some (.ref f7))) (l7 : K.lookup f7 = some ⟨oc7, od7, .func (PySem.W.fnOf "refuse_unless_free" "refuse_unless_free" (defArgs s_refuse_unless_free) (defBody s_refuse_unless_free) (defScope s_refuse_unless_free) .none kV7 dc7 pm7 an7 cd7 ct7), sl7⟩) (c7 : PySem.W.codeIn K cd7 "refuse_unless_free" = true) (k7 : PySem.W.keepIn K (.ref f7) = true)
    (a8 : PySem.W.nsIn K mainGlobals "choices" = some (some (.ref f8))) (l8 : K.lookup f8 = some ⟨oc8, od8, .func (PySem.W.fnOf "choices" "choices" (defArgs s_choices) (defBody s_choices) (defScope s_choices) .none kV8 dc8 pm8 an8 cd8 ct8), sl8⟩) (c8 : PySem.W.codeIn K cd8 "choices" = true) (k8 : PySem.W.keepIn K (.ref f8) = true)
    (a9 : PySem.W.nsIn K mainGlobals "ways_within" = some (some (.ref f9))) (l9 : K.lookup f9 = some ⟨oc9, od9, .func (PySem.W.fnOf "ways_within" "ways_within" (defArgs s_ways_within) (defBody s_ways_within) (defScope s_ways_within) .none kV9 dc9 pm9 an9 cd9 ct9), sl9⟩) (c9 : PySem.W.codeIn K cd9 "ways_within" = true) (k9 : PySem.W.keepIn K (.ref f9) = true)
    (a10 : PySem.W.nsIn K mainGlobals "ways_up" = some (some (.ref f10))) (l10 : K.lookup f10 = some ⟨oc10, od10, .func (PySem.W.fnOf "ways_up" "ways_up" (defArgs s_ways_up) (defBody s_ways_up) (defScope s_ways_up) .none kV10 dc10 pm10 an10 cd10 ct10), sl10⟩) (c10 : PySem.W.codeIn K cd10 "ways_up" = true) (k10 : PySem.W.keepIn K (.ref f10) = true)
    (a11 : PySem.W.nsIn K mainGlobals "_law_cell_at" = some (some (.ref f11))) (l11 : K.lookup f11 = some ⟨oc11, od11, .func (PySem.W.fnOf "_law_cell_at" "_law_cell_at" (defArgs s_law_cell_at) (defBody s_law_cell_at) (defScope s_law_cell_at) .none kV11 dc11 pm11 an11 cd11 ct11), sl11⟩) (c11 : PySem.W.codeIn K cd11 "_law_cell_at" = true) (k11 : PySem.W.keepIn K (.ref f11) = true)
    (a12 : PySem.W.nsIn K mainGlobals "_law_gathered" = some (some (.ref f12))) (l12 : K.lookup f12 = some ⟨oc12, od12, .func (PySem.W.fnOf "_law_gathered" "_law_gathered" (defArgs s_law_gathered) (defBody s_law_gathered) (defScope s_law_gathered) .none kV12 dc12 pm12 an12 cd12 ct12), sl12⟩) (c12 : PySem.W.codeIn K cd12 "_law_gathered" = true) (k12 : PySem.W.keepIn K (.ref f12) = true)
    (a13 : PySem.W.nsIn K mainGlobals "_law_free_by" = some (some (.ref f13))) (l13 : K.lookup f13 = some ⟨oc13, od13, .func (PySem.W.fnOf "_law_free_by" "_law_free_by" (defArgs s_law_free_by) (defBody s_law_free_by) (defScope s_law_free_by) .none kV13 dc13 pm13 an13 cd13 ct13), sl13⟩) (c13 : PySem.W.codeIn K cd13 "_law_free_by" = true) (k13 : PySem.W.keepIn K (.ref f13) = true)
    (a14 : PySem.W.nsIn K mainGlobals "_law_whole" = some (some (.ref f14))) (l14 : K.lookup f14 = some ⟨oc14, od14, .func (PySem.W.fnOf "_law_whole" "_law_whole" (defArgs s_law_whole) (defBody s_law_whole) (defScope s_law_whole) .none kV14 dc14 pm14 an14 cd14 ct14), sl14⟩) (c14 : PySem.W.codeIn K cd14 "_law_whole" = true) (k14 : PySem.W.keepIn K (.ref f14) = true)
    (a15 : PySem.W.nsIn K mainGlobals "_law_parted" = some (some (.ref f15))) (l15 : K.lookup f15 = some ⟨oc15, od15, .func (PySem.W.fnOf "_law_parted" "_law_parted" (defArgs s_law_parted) (defBody s_law_parted) (defScope s_law_parted) .none kV15 dc15 pm15 an15 cd15 ct15), sl15⟩) (c15 : PySem.W.codeIn K cd15 "_law_parted" = true) (k15 : PySem.W.keepIn K (.ref f15) = true)
    (a16 : PySem.W.nsIn K mainGlobals "law" = some (some (.ref f16))) (l16 : K.lookup f16 = some ⟨oc16, od16, .func (PySem.W.fnOf "law" "law" (defArgs s_law) (defBody s_law) (defScope s_law) .none kV16 dc16 pm16 an16 cd16 ct16), sl16⟩) (c16 : PySem.W.codeIn K cd16 "law" = true) (k16 : PySem.W.keepIn K (.ref f16) = true)
    (z0 : PySem.W.nsIn K mainGlobals "all" = some none)
    (z1 : PySem.W.nsIn K mainGlobals "zip" = some none)
    (z2 : PySem.W.nsIn K mainGlobals "len" = some none)
    (z3 : PySem.W.nsIn K mainGlobals "sorted" = some none)
    (z4 : PySem.W.nsIn K mainGlobals "list" = some none)
    (z5 : PySem.W.nsIn K mainGlobals "range" = some none)
    (z6 : PySem.W.nsIn K mainGlobals "enumerate" = some none)
    (z7 : PySem.W.nsIn K mainGlobals "max" = some none)
    (z8 : PySem.W.nsIn K mainGlobals "set" = some none)
    (z9 : PySem.W.nsIn K mainGlobals "isinstance" = some none)
    (z10 : PySem.W.nsIn K mainGlobals "int" = some none)
    (z11 : PySem.W.nsIn K mainGlobals "bool" = some none)
    (z12 : PySem.W.nsIn K mainGlobals "tuple" = some none)
    (z13 : PySem.W.nsIn K mainGlobals "sum" = some none)
    (iMOST_POINTS : PySem.W.nsIn K mainGlobals "MOST_POINTS" = some (some (.int 10 tMOST_POINTS)))
    : ∃ fd : FuncData, (∀ (s : Shared) (v : Value), BindsTo s fd ⟨[v], []⟩ [("script", v)]) ∧ ∀ base : Heap, K.In base → base.Ns mainGlobals mg → FnOk l.prog w K mg base CX0 6 fa fd ["script"] (spLaw K) := by
  have e := hfa.symm.trans (PySem.W.mg_of X G a16)
  cases e
  have B : GBlt mg := ⟨PySem.W.mg_none_of X G z0, PySem.W.mg_none_of X G z1, PySem.W.mg_none_of X G z2, PySem.W.mg_none_of X G z3, PySem.W.mg_none_of X G z4, PySem.W.mg_none_of X G z5, PySem.W.mg_none_of X G z6, PySem.W.mg_none_of X G z7, PySem.W.mg_none_of X G z8, PySem.W.mg_none_of X G z9, PySem.W.mg_none_of X G z10, PySem.W.mg_none_of X G z11, PySem.W.mg_none_of X G z12, PySem.W.mg_none_of X G z13⟩
  have hMOST_POINTS := PySem.W.mg_of X G iMOST_POINTS
  have D_rises : Dn K mg "rises" s_rises ["numbers"] _ _ := ⟨fun_mk (st := s_rises) l0 c0 k0, PySem.W.mg_of X G a0, (fun_mk (st := s_rises) l0 c0 k0).binds fun _ _ _ _ _ _ us hl => match us, hl with | [_], _ => rfl⟩
  have D_points_in : Dn K mg "points_in" s_points_in ["blocks"] _ _ := ⟨fun_mk (st := s_points_in) l1 c1 k1, PySem.W.mg_of X G a1, (fun_mk (st := s_points_in) l1 c1 k1).binds fun _ _ _ _ _ _ us hl => match us, hl with | [_], _ => rfl⟩
  have D_is_parting : Dn K mg "is_parting" s_is_parting ["points", "blocks"] _ _ := ⟨fun_mk (st := s_is_parting) l2 c2 k2, PySem.W.mg_of X G a2, (fun_mk (st := s_is_parting) l2 c2 k2).binds fun _ _ _ _ _ _ us hl => match us, hl with | [_, _], _ => rfl⟩
  have D_refuse_no_parting : Dn K mg "refuse_no_parting" s_refuse_no_parting ["points", "blocks"] _ _ := ⟨fun_mk (st := s_refuse_no_parting) l3 c3 k3, PySem.W.mg_of X G a3, (fun_mk (st := s_refuse_no_parting) l3 c3 k3).binds fun _ _ _ _ _ _ us hl => match us, hl with | [_, _], _ => rfl⟩
  have D_block_places : Dn K mg "block_places" s_block_places ["points", "blocks"] _ _ := ⟨fun_mk (st := s_block_places) l4 c4 k4, PySem.W.mg_of X G a4, (fun_mk (st := s_block_places) l4 c4 k4).binds fun _ _ _ _ _ _ us hl => match us, hl with | [_, _], _ => rfl⟩
  have D_first_crossing : Dn K mg "first_crossing" s_first_crossing ["labels"] _ _ := ⟨fun_mk (st := s_first_crossing) l5 c5 k5, PySem.W.mg_of X G a5, (fun_mk (st := s_first_crossing) l5 c5 k5).binds fun _ _ _ _ _ _ us hl => match us, hl with | [_], _ => rfl⟩
  have D_refuse_crossing : Dn K mg "refuse_crossing" s_refuse_crossing ["points", "blocks"] _ _ := ⟨fun_mk (st := s_refuse_crossing) l6 c6 k6, PySem.W.mg_of X G a6, (fun_mk (st := s_refuse_crossing) l6 c6 k6).binds fun _ _ _ _ _ _ us hl => match us, hl with | [_, _], _ => rfl⟩
  have D_refuse_unless_free : Dn K mg "refuse_unless_free" s_refuse_unless_free ["points", "blocks"] _ _ := ⟨fun_mk (st := s_refuse_unless_free) l7 c7 k7, PySem.W.mg_of X G a7, (fun_mk (st := s_refuse_unless_free) l7 c7 k7).binds fun _ _ _ _ _ _ us hl => match us, hl with | [_, _], _ => rfl⟩
  have D_choices : Dn K mg "choices" s_choices ["things", "chosen"] _ _ := ⟨fun_mk (st := s_choices) l8 c8 k8, PySem.W.mg_of X G a8, (fun_mk (st := s_choices) l8 c8 k8).binds fun _ _ _ _ _ _ us hl => match us, hl with | [_, _], _ => rfl⟩
  have D_ways_within : Dn K mg "ways_within" s_ways_within ["size"] _ _ := ⟨fun_mk (st := s_ways_within) l9 c9 k9, PySem.W.mg_of X G a9, (fun_mk (st := s_ways_within) l9 c9 k9).binds fun _ _ _ _ _ _ us hl => match us, hl with | [_], _ => rfl⟩
  have D_ways_up : Dn K mg "ways_up" s_ways_up ["points", "blocks"] _ _ := ⟨fun_mk (st := s_ways_up) l10 c10 k10, PySem.W.mg_of X G a10, (fun_mk (st := s_ways_up) l10 c10 k10).binds fun _ _ _ _ _ _ us hl => match us, hl with | [_, _], _ => rfl⟩
  have D_law_cell_at : Dn K mg "_law_cell_at" s_law_cell_at ["script", "k"] _ _ := ⟨fun_mk (st := s_law_cell_at) l11 c11 k11, PySem.W.mg_of X G a11, (fun_mk (st := s_law_cell_at) l11 c11 k11).binds fun _ _ _ _ _ _ us hl => match us, hl with | [_, _], _ => rfl⟩
  have D_law_gathered : Dn K mg "_law_gathered" s_law_gathered ["word"] _ _ := ⟨fun_mk (st := s_law_gathered) l12 c12 k12, PySem.W.mg_of X G a12, (fun_mk (st := s_law_gathered) l12 c12 k12).binds fun _ _ _ _ _ _ us hl => match us, hl with | [_], _ => rfl⟩
  have D_law_free_by : Dn K mg "_law_free_by" s_law_free_by ["script", "at", "points"] _ _ := ⟨fun_mk (st := s_law_free_by) l13 c13 k13, PySem.W.mg_of X G a13, (fun_mk (st := s_law_free_by) l13 c13 k13).binds fun _ _ _ _ _ _ us hl => match us, hl with | [_, _, _], _ => rfl⟩
  have D_law_whole : Dn K mg "_law_whole" s_law_whole ["found"] _ _ := ⟨fun_mk (st := s_law_whole) l14 c14 k14, PySem.W.mg_of X G a14, (fun_mk (st := s_law_whole) l14 c14 k14).binds fun _ _ _ _ _ _ us hl => match us, hl with | [_], _ => rfl⟩
  have D_law_parted : Dn K mg "_law_parted" s_law_parted ["blocks"] _ _ := ⟨fun_mk (st := s_law_parted) l15 c15 k15, PySem.W.mg_of X G a15, (fun_mk (st := s_law_parted) l15 c15 k15).binds fun _ _ _ _ _ _ us hl => match us, hl with | [_], _ => rfl⟩
  have D_law : Dn K mg "law" s_law ["script"] _ _ := ⟨fun_mk (st := s_law) l16 c16 k16, PySem.W.mg_of X G a16, (fun_mk (st := s_law) l16 c16 k16).binds fun _ _ _ _ _ _ us hl => match us, hl with | [_], _ => rfl⟩
  refine ⟨PySem.W.fnOf "law" "law" (defArgs s_law) (defBody s_law) (defScope s_law) .none kV16 dc16 pm16 an16 cd16 ct16, fun s v => .of_eq rfl, fun base KB _ => ?_⟩
  have X0 := cxNo0
  have GR := ok_rises (P := l.prog) (w := w) (base := base) (CX := CX0) D_rises.fn B.all B.zip
  have GP := ok_points_in (P := l.prog) (w := w) (mg := mg) (base := base) (CX := CX0) D_points_in.fn
  have GI := ok_is_parting X0 B D_is_parting.fn ⟨_, hMOST_POINTS⟩ D_rises GR D_points_in GP
  have GN := ok_no_refuse X0 D_refuse_no_parting.fn D_is_parting GI
  have GB := ok_block_places (P := l.prog) (w := w) (base := base) (CX := CX0) B D_block_places.fn
  have GF := ok_first_crossing (P := l.prog) (w := w) (base := base) (CX := CX0) B D_first_crossing.fn
  have GC := ok_no_cross X0 D_refuse_crossing.fn D_block_places GB D_first_crossing GF
  have GU1 := ok_unless_free X0 D_refuse_unless_free.fn D_refuse_no_parting GN D_refuse_crossing GC
  have G1 := ok_cell_at (P := l.prog) (w := w) (base := base) (CX := CX0) D_law_cell_at.fn B.len
  have G2 := ok_gathered (P := l.prog) (w := w) (base := base) (CX := CX0) B D_law_gathered.fn
  have G3 := ok_free_by X0 B D_law_free_by.fn D_law_cell_at G1 D_law_gathered G2
  have G4 := ok_whole (P := l.prog) (w := w) (base := base) (CX := CX0) B D_law_whole.fn
  have GCh := ok_choices (P := l.prog) (w := w) (base := base) (CX := CX0) B D_choices.fn
  have GWi := ok_ways_within (P := l.prog) (w := w) (mg := mg) (base := base) (CX := CX0) D_ways_within.fn
  have GWU := ok_ways_up X0 B D_ways_up.fn D_refuse_unless_free GU1 D_choices GCh D_ways_within GWi
  have GPa := ok_parted (P := l.prog) (w := w) (base := base) (CX := CX0) B D_law_parted.fn
  exact ok_law X0 B D_law.fn D_law_cell_at G1 D_law_free_by G3 D_ways_up GWU D_law_whole G4 D_law_parted GPa
theorem walk {l : PySem.W.OpenLaw} {q : Program} {loose : List Str} {XP : (Str → Option Value) → Heap → Prop} {YP : World → Heap → Prop} {d : DefRec} {K : Params → PySem.W.Frag} (hn : l.most = some 63) (hdf : d.params.defaults = [])
    (hY : ∀ (w : World) (h : Heap), YP w h → (K w.params).In h)
    (F : ∀ (w : World) (mg : Str → Option Value) (fa : Addr) (h : Heap), (K w.params).In h → h.Ns mainGlobals mg → mg d.name = some (.ref fa) →
      ∃ fd : FuncData, (∀ (s : Shared) (u : Value), BindsTo s fd ⟨[u], []⟩ [("script", u)]) ∧ ∀ base : Heap, (K w.params).In base → base.Ns mainGlobals mg → FnOk l.prog w (K w.params) mg base CX0 6 fa fd ["script"] (spLaw (K w.params))) :
    PySem.W.WalkO q loose XP YP l.row.toRowW d [] (fun f vs => PySem.call f vs) :=
  L2.walk_of (n := 63) (k := 6) (x := "script") (CX := fun _ => CX0) (sp := fun w => spLaw (K w.params)) hn (by decide) hdf ⟨rfl, by decide, by decide⟩ hY F (fun _ _ a ns hl _ hS => ⟨a, ns, rfl, hS, hl, fun _ => rfl⟩) fun _ _ _ _ _ z => z
end NCP
open PySem PySem.W PyProof.Rows
set_option maxRecDepth 100000 in
set_option maxHeartbeats 0 in
theorem PySem.Challenge.cw_nocrossing_k12_whole_ways_up_holds : PySem.Challenge.rw_nocrossing_k12_whole_ways_up.Holds := by
  w_on; o_law; k_head; (case hw => w_witness2)
  k_fill
  refine NCP.walk (l := PySem.Challenge.rw_nocrossing_k12_whole_ways_up) rfl rfl (fun w h Y => PySem.W.kIn_of Y) ?F
  case F =>
    intro w mg fa h KX G hmg
    refine' NCP.all_mk KX G hmg ?a0 ?l0 ?c0 ?k0 ?a1 ?l1 ?c1 ?k1 ?a2 ?l2 ?c2 ?k2 ?a3 ?l3 ?c3 ?k3 ?a4 ?l4 ?c4 ?k4 ?a5 ?l5 ?c5 ?k5 ?a6 ?l6 ?c6 ?k6 ?a7 ?l7 ?c7 ?k7 ?a8 ?l8 ?c8 ?k8 ?a9 ?l9 ?c9 ?k9 ?a10 ?l10 ?c10 ?k10 ?a11 ?l11 ?c11 ?k11 ?a12 ?l12 ?c12 ?k12 ?a13 ?l13 ?c13 ?k13 ?a14 ?l14 ?c14 ?k14 ?a15 ?l15 ?c15 ?k15 ?a16 ?l16 ?c16 ?k16 ?z0 ?z1 ?z2 ?z3 ?z4 ?z5 ?z6 ?z7 ?z8 ?z9 ?z10 ?z11 ?z12 ?z13 ?iMOST_POINTS
    (case a0 => k_is)
    (case l0 => k_is)
    (case c0 => k_is)
    (case k0 => k_is)
    (case a1 => k_is)
    (case l1 => k_is)
    (case c1 => k_is)
    (case k1 => k_is)
    (case a2 => k_is)
    (case l2 => k_is)
    (case c2 => k_is)
    (case k2 => k_is)
    (case a3 => k_is)
    (case l3 => k_is)
    (case c3 => k_is)
    (case k3 => k_is)
    (case a4 => k_is)
    (case l4 => k_is)
    (case c4 => k_is)
    (case k4 => k_is)
    (case a5 => k_is)
    (case l5 => k_is)
    (case c5 => k_is)
    (case k5 => k_is)
    (case a6 => k_is)
    (case l6 => k_is)
    (case c6 => k_is)
    (case k6 => k_is)
    (case a7 => k_is)
    (case l7 => k_is)
    (case c7 => k_is)
    (case k7 => k_is)
    (case a8 => k_is)
    (case l8 => k_is)
    (case c8 => k_is)
    (case k8 => k_is)
    (case a9 => k_is)
    (case l9 => k_is)
    (case c9 => k_is)
    (case k9 => k_is)
    (case a10 => k_is)
    (case l10 => k_is)
    (case c10 => k_is)
    (case k10 => k_is)
    (case a11 => k_is)
    (case l11 => k_is)
    (case c11 => k_is)
    (case k11 => k_is)
    (case a12 => k_is)
    (case l12 => k_is)
    (case c12 => k_is)
    (case k12 => k_is)
    (case a13 => k_is)
    (case l13 => k_is)
    (case c13 => k_is)
    (case k13 => k_is)
    (case a14 => k_is)
    (case l14 => k_is)
    (case c14 => k_is)
    (case k14 => k_is)
    (case a15 => k_is)
    (case l15 => k_is)
    (case c15 => k_is)
    (case k15 => k_is)
    (case a16 => k_is)
    (case l16 => k_is)
    (case c16 => k_is)
    (case k16 => k_is)
    (case z0 => k_is)
    (case z1 => k_is)
    (case z2 => k_is)
    (case z3 => k_is)
    (case z4 => k_is)
    (case z5 => k_is)
    (case z6 => k_is)
    (case z7 => k_is)
    (case z8 => k_is)
    (case z9 => k_is)
    (case z10 => k_is)
    (case z11 => k_is)
    (case z12 => k_is)
    (case z13 => k_is)
    (case iMOST_POINTS => k_is)

